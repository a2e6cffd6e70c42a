import PyProof.Rows.All
import Wide.All
import OpenK.AllK
import Wide.FinOn
import Lean
import PyProof.EqAt
import PyProof.EqKinds
import PyProof.TupleCall
import PyProof.NeKinds
import PySem.Challenge.RW_earlysift_k03_signs_that_cannot_come
set_option Elab.async false
set_option linter.all false
noncomputable section
set_option maxRecDepth 100000
namespace L2
open PySem PySem.Spec PyProof.Rows
noncomputable abbrev Key := Sum Int Str
noncomputable def keyIs : Key → Value → Bool
  | .inl k, v => Value.isInt k v
  | .inr x, v => Value.isStrOf x v
noncomputable def keyH (w : World) : Key → Int
  | .inl k => hashInt k
  | .inr x => hashStr w x
theorem keyIs_shape : ∀ {k : Key} {v : Value}, keyIs k v = true → (∃ i t, k = Sum.inl i ∧ v = Value.int i t) ∨ (∃ x t, k = Sum.inr x ∧ v = Value.str x t)
  | .inl i, v, h => by
    obtain ⟨t, e⟩ := Value.isInt_shape (k := i) (v := v) h
    exact .inl ⟨i, t, rfl, e⟩
  | .inr x, v, h => by
    obtain ⟨t, e⟩ := Value.isStrOf_shape (x := x) (v := v) h
    exact .inr ⟨x, t, rfl, e⟩
theorem key_ll (a b : Int) : decide ((Sum.inl a : Key) = Sum.inl b) = (a == b) := by
  by_cases e : a = b
  · subst e; simp
  · have h : ¬ (Sum.inl a : Key) = Sum.inl b := fun q => e (Sum.inl.inj q)
    rw [decide_eq_false h]
    exact (beq_eq_false_iff_ne.mpr e).symm
theorem key_rr (a b : Str) : decide ((Sum.inr a : Key) = Sum.inr b) = decide (a = b) := by
  by_cases e : a = b
  · subst e; simp
  · have h : ¬ (Sum.inr a : Key) = Sum.inr b := fun q => e (Sum.inr.inj q)
    rw [decide_eq_false h, decide_eq_false e]
theorem key_lr (a : Int) (b : Str) : decide ((Sum.inl a : Key) = Sum.inr b) = false := decide_eq_false (fun q => nomatch q)
theorem key_rl (a : Str) (b : Int) : decide ((Sum.inr a : Key) = Sum.inl b) = false := decide_eq_false (fun q => nomatch q)
noncomputable def mixKind (prog : Program) (w : World) : PySem.KeyKind prog w Key where
  is := keyIs
  hash := keyH w
  inj := fun v a b ha hb => by
    rcases keyIs_shape ha with ⟨i, t, rfl, rfl⟩ | ⟨x, t, rfl, rfl⟩
    · rcases keyIs_shape hb with ⟨j, u, rfl, e⟩ | ⟨y, u, rfl, e⟩
      · injection e with e1 _; rw [e1]
      · exact nomatch e
    · rcases keyIs_shape hb with ⟨j, u, rfl, e⟩ | ⟨y, u, rfl, e⟩
      · exact nomatch e
      · injection e with e1 _; rw [e1]
  byValue := fun k v h => by
    rcases keyIs_shape h with ⟨i, t, rfl, rfl⟩ | ⟨x, t, rfl, rfl⟩ <;> rfl
  pyHash := fun hv h => by
    rcases keyIs_shape hv with ⟨i, t, rfl, rfl⟩ | ⟨x, t, rfl, rfl⟩
    · exact wpAny_pyHash_int h
    · exact wpAny_pyHash_str h
  eqBool := fun hu hv h => by
    rcases keyIs_shape hu with ⟨i, t, rfl, rfl⟩ | ⟨x, t, rfl, rfl⟩
    · rcases keyIs_shape hv with ⟨j, u, rfl, rfl⟩ | ⟨y, u, rfl, rfl⟩
      · rw [key_ll] at h; exact wpAny_eqBool_int h
      · rw [key_lr] at h; exact SeqAt.EqAt.int_str i t y u _ _ _ _ h
    · rcases keyIs_shape hv with ⟨j, u, rfl, rfl⟩ | ⟨y, u, rfl, rfl⟩
      · rw [key_rl] at h; exact SeqAt.EqAt.str_int x t j u _ _ _ _ h
      · rw [key_rr] at h; exact wpAny_eqBool_str h
  «strs» := fun k x t v h => by
    rcases keyIs_shape h with ⟨i, u, rfl, e⟩ | ⟨y, u, rfl, e⟩
    · exact nomatch e
    · injection e with e1 _
      subst e1
      cases v <;> rfl
end L2
namespace L2
open PySem PySem.Spec PyProof.Rows
inductive V where
  | non | bl (b : Bool) | int (i : Int) | str (x : Str) | byt (b : Array UInt8) | flt (b : UInt64) | ref (a : Addr) | ty (n : String)
  deriving DecidableEq
noncomputable def RelV : V → Value → Prop
  | .non, u => u = Value.none
  | .bl b, u => u = Value.bool b
  | .int i, u => ∃ t, u = Value.int i t
  | .str x, u => ∃ t, u = Value.str x t
  | .byt b, u => ∃ t, u = Value.bytes b t
  | .flt b, u => ∃ t, u = Value.float b t
  | .ref a, u => u = Value.ref a
  | .ty n, u => u = Value.type n
noncomputable abbrev Vals : List V → List Value → Prop := Paired RelV
theorem Vals.length {xs : List V} {us : List Value} (r : Vals xs us) : xs.length = us.length := Paired.length r
theorem Vals.get : ∀ {xs : List V} {us : List Value} {i : Nat} {x : V}, Vals xs us → xs[i]? = some x → ∃ u, us[i]? = some u ∧ RelV x u
  | _, _, _, _, .nil, e => by simp at e
  | _, _, 0, _, .cons r _, e => by simp at e; subst e; exact ⟨_, rfl, r⟩
  | _, _, i + 1, x, .cons _ t, e => by
    obtain ⟨u, h1, h2⟩ := Vals.get (i := i) (x := x) t (by simpa using e)
    exact ⟨u, by simpa using h1, h2⟩
theorem Vals.set {x : V} {u : Value} (r : RelV x u) : ∀ {xs : List V} {us : List Value} (i : Nat), Vals xs us → Vals (xs.set i x) (us.set i u)
  | _, _, _, .nil => .nil
  | _, _, 0, .cons _ t => .cons r t
  | _, _, i + 1, .cons q t => .cons q (Vals.set r i t)
theorem Vals.append : ∀ {xs ys : List V} {us ws : List Value}, Vals xs us → Vals ys ws → Vals (xs ++ ys) (us ++ ws)
  | _, _, _, _, .nil, s => s
  | _, _, _, _, .cons r t, s => .cons r (Vals.append t s)
theorem Vals.take : ∀ {xs : List V} {us : List Value} (n : Nat), Vals xs us → Vals (xs.take n) (us.take n)
  | _, _, 0, _ => .nil
  | _, _, _ + 1, .nil => .nil
  | _, _, n + 1, .cons r t => .cons r (Vals.take n t)
theorem Vals.drop : ∀ {xs : List V} {us : List Value} (n : Nat), Vals xs us → Vals (xs.drop n) (us.drop n)
  | _, _, 0, r => r
  | _, _, _ + 1, .nil => .nil
  | _, _, n + 1, .cons _ t => Vals.drop n t
noncomputable def RelO : Option V → Option Value → Prop
  | some v, some u => RelV v u
  | none, none => True
  | _, _ => False
noncomputable def KV {κ : Type} : List (κ × V) → List (κ × Value) → Prop := Paired fun (p : κ × V) (q : κ × Value) => p.1 = q.1 ∧ RelV p.2 q.2
noncomputable def kV : Key → V
  | .inl i => .int i
  | .inr x => .str x
inductive HO where
  | lst (xs : List V)
  | tup (xs : List V)
  | dK (kvs : List (Key × V)) | dT (kvs : List (List Key × V))
  | set (S : Int → Bool) (n : Nat)
  | ins (C dx : Addr) (fs : List (Str × V))
  | own (x : Addr)
  | xd (fs : List (Str × V))
  | met (f x : Addr)
  | rng (lo hi : Int)
  | frz (o : Obj) (u : HO)
  | tbl (ps : Array Value)
  | ext (φ : Heap → Prop)
noncomputable abbrev Hp := Addr → Option HO
noncomputable def upd (H : Hp) (a : Addr) (o : HO) : Hp := fun b => if b = a then some o else H b
theorem upd_same {H : Hp} {a : Addr} {o : HO} : upd H a o a = some o := by unfold upd; rw [if_pos rfl]
theorem upd_ne {H : Hp} {a b : Addr} {o : HO} (h : b ≠ a) : upd H a o b = H b := by unfold upd; rw [if_neg h]
theorem upd_upd {H : Hp} {a : Addr} {o u : HO} : upd (upd H a o) a u = upd H a u := by
  funext b; unfold upd; split <;> rfl
theorem ne_of {H : Hp} {a b : Addr} {o u : HO} (h : H a = some o) (h' : H b = some u) (d : o ≠ u) : a ≠ b := by
  intro e; subst e; rw [h] at h'; exact d (Option.some.inj h')
theorem ne_of_none {H : Hp} {a b : Addr} {o : HO} (h : H a = some o) (h' : H b = none) : a ≠ b := by
  intro e; subst e; rw [h] at h'; cases h'
noncomputable section
variable (P : Program) (w : World)
noncomputable def ObjOk (H : Hp) (h : Heap) (a : Addr) : HO → Prop
  | .lst xs => xs.length ≤ sizeLine ∧ ∃ (its : List Value) (n : Nat), Vals xs its ∧ h.get? a = some { cls := .type "list", data := .seq its.toArray n }
  | .tup xs => xs.length ≤ sizeLine ∧ ∃ its : List Value, Vals xs its ∧ IsTup h a its.toArray
  | .dK kvs => kvs.length ≤ sizeLine ∧ (a == sysModules) = false ∧ ∃ vs, KV kvs vs ∧ h.DictOf (mixKind P w) a vs
  | .dT kvs => kvs.length ≤ sizeLine ∧ (a == sysModules) = false ∧ ∃ xs : List (List Key × Addr × Value),
      Paired (fun (p : List Key × V) (q : List Key × Addr × Value) => p.1 = q.1 ∧ H q.2.1 = some (.tup (p.1.map kV)) ∧ RelV p.2 q.2.2) kvs xs ∧
      ∃ o es ep, h.get? a = some o ∧ o.ExactDict ∧ o.data = .dict es ep ∧ es.toList = xs.map (entryOfKey (tupleKind (mixKind P w))) ∧ (xs.map (·.1)).Nodup
  | .set S n => h.SetOf (intKind P w) a S n
  | .ins C dx fs => H dx = some (.own a) ∧ fs.length ≤ 1000 ∧ dx ≠ a ∧ h.get? a = some (PySem.W.instObj C dx) ∧
      ∃ mA, h.Ns1 dx mA ∧ (∀ f, RelO (fs.lookup f) (mA f)) ∧ PySem.Within mA (fs.map (·.1))
  | .own _ => ∃ o, h.get? a = some o
  | .xd fs => ∃ mA, h.Ns1 a mA ∧ ∀ f, RelO (fs.lookup f) (mA f)
  | .rng lo hi => ∃ t u v, h.get? a = some { cls := .type "range", data := .fields #[.int lo t, .int hi u, .int 1 v] }
  | .frz o u => h.get? a = some o ∧ ObjOk H h a u
  | .tbl ps => h.get? a = some { cls := .none, data := .fields ps }
  | .met f x => h.get? a = some (PySem.W.methodObj (.ref f) (.ref x))
  | .ext φ => φ h ∧ (∃ o, h.get? a = some o) ∧ ∀ h1 h2 : Heap, φ h1 → (∀ o, h1.get? a = some o → h2.get? a = some o) → φ h2
noncomputable def HOk (H : Hp) (h : Heap) : Prop := ∀ a o, H a = some o → ObjOk P w H h a o
end
noncomputable section
variable {P : Program} {w : World} {H H' : Hp} {h h' : Heap} {a : Addr} {o : HO}
theorem ObjOk.lt (x : ObjOk P w H h a o) : a < h.objs.size := by
  cases o with
  | lst xs => obtain ⟨_, _, _, _, e⟩ := x; exact Heap.lt_size e
  | tup xs => obtain ⟨_, _, _, p⟩ := x; exact p.lt
  | dK kvs => obtain ⟨_, _, _, _, o, _, _, e, _⟩ := x; exact Heap.lt_size e
  | dT kvs => obtain ⟨_, _, _, _, o, _, _, e, _⟩ := x; exact Heap.lt_size e
  | set S n => obtain ⟨o, _, _, _, e, _⟩ := x; exact Heap.lt_size e
  | ins C dx fs => obtain ⟨_, _, _, e, _⟩ := x; exact Heap.lt_size e
  | own y => obtain ⟨_, e⟩ := x; exact Heap.lt_size e
  | xd fs => obtain ⟨_, ⟨_, _, _, e, _⟩, _⟩ := x; exact Heap.lt_size e
  | rng lo hi => obtain ⟨_, _, _, e⟩ := x; exact Heap.lt_size e
  | frz ob u => obtain ⟨e, _⟩ := x; exact Heap.lt_size e
  | tbl ps => exact Heap.lt_size (show h.get? a = some _ from x)
  | met f y => exact Heap.lt_size (show h.get? a = some _ from x)
  | ext φ => obtain ⟨_, ⟨_, e⟩, _⟩ := x; exact Heap.lt_size e
theorem Paired.mapP {α β : Type} {F G : α → β → Prop} : ∀ {l₁ : List α} {l₂ : List β}, Paired F l₁ l₂ → (∀ a b, F a b → G a b) → Paired G l₁ l₂
  | _, _, .nil, _ => .nil
  | _, _, .cons r t, f => .cons (f _ _ r) (Paired.mapP t f)
theorem ObjOk.stay (x : ObjOk P w H h a o) (k : ∀ b u, (b = a ∨ H b = some (.own a)) → h.get? b = some u → h'.get? b = some u)
    (ho : ∀ b, H b = some (.own a) → H' b = some (.own a)) (ht : ∀ b xs, H b = some (.tup xs) → H' b = some (.tup xs)) : ObjOk P w H' h' a o := by
  induction o with
  | lst xs => obtain ⟨z, its, n, r, e⟩ := x; exact ⟨z, its, n, r, k _ _ (.inl rfl) e⟩
  | tup xs => obtain ⟨z, its, r, ob, e, c⟩ := x; exact ⟨z, its, r, ob, k _ _ (.inl rfl) e, c⟩
  | dK kvs => obtain ⟨z, y, vs, r, ob, es, ep, e, c⟩ := x; exact ⟨z, y, vs, r, ob, es, ep, k _ _ (.inl rfl) e, c⟩
  | dT kvs =>
    obtain ⟨z, y, xs, r, ob, es, ep, e, c⟩ := x
    exact ⟨z, y, xs, Paired.mapP r fun p q z => ⟨z.1, ht _ _ z.2.1, z.2.2⟩, ob, es, ep, k _ _ (.inl rfl) e, c⟩
  | set S n => obtain ⟨ob, es, ep, t, e, c⟩ := x; exact ⟨ob, es, ep, t, k _ _ (.inl rfl) e, c⟩
  | ins C dx fs =>
    obtain ⟨d, z, ne, e, mA, ⟨od, es, ep, e2, c⟩, r⟩ := x
    exact ⟨ho _ d, z, ne, k _ _ (.inl rfl) e, mA, ⟨od, es, ep, k _ _ (.inr d) e2, c⟩, r⟩
  | own y => obtain ⟨ob, e⟩ := x; exact ⟨ob, k _ _ (.inl rfl) e⟩
  | xd fs => obtain ⟨mA, ⟨od, es, ep, e, c⟩, r⟩ := x; exact ⟨mA, ⟨od, es, ep, k _ _ (.inl rfl) e, c⟩, r⟩
  | rng lo hi => obtain ⟨t, u, v, e⟩ := x; exact ⟨t, u, v, k _ _ (.inl rfl) e⟩
  | frz ob u ih => obtain ⟨e, q⟩ := x; exact ⟨k _ _ (.inl rfl) e, ih q⟩
  | tbl ps =>
    have e : h.get? a = some { cls := .none, data := .fields ps } := x
    show h'.get? a = some { cls := .none, data := .fields ps }
    exact k a _ (.inl rfl) e
  | met f y =>
    have e : h.get? a = some (PySem.W.methodObj (.ref f) (.ref y)) := x
    show h'.get? a = some (PySem.W.methodObj (.ref f) (.ref y))
    exact k a _ (.inl rfl) e
  | ext φ => obtain ⟨p, ⟨o, e⟩, st⟩ := x; exact ⟨st _ _ p fun o q => k _ _ (.inl rfl) q, ⟨o, k _ _ (.inl rfl) e⟩, st⟩
theorem HOk.lt (x : HOk P w H h) (e : H a = some o) : a < h.objs.size := (x a o e).lt
theorem HOk.fresh (x : HOk P w H h) (e : h.objs.size ≤ a) : H a = none := by
  cases q : H a with
  | none => rfl
  | some u => exact absurd (Nat.lt_of_lt_of_le (x.lt q) e) (Nat.lt_irrefl _)
theorem HOk.kept (x : HOk P w H h) (k : ∀ b u, h.get? b = some u → h'.get? b = some u) : HOk P w H h' := fun a o e =>
  (x a o e).stay (fun b u _ q => k b u q) (fun _ q => q) fun _ _ q => q
theorem HOk.laid (x : HOk P w H h) (k : ∀ b u, h.get? b = some u → h'.get? b = some u) (hp : h.objs.size ≤ a) (new : ObjOk P w (upd H a o) h' a o) : HOk P w (upd H a o) h' := fun b u e => by
  have hn := x.fresh hp
  by_cases hb : b = a
  · subst hb; rw [upd_same] at e; cases e; exact new
  · rw [upd_ne hb] at e
    exact (x b u e).stay (fun c v _ q => k c v q) (fun c q => by rw [upd_ne (ne_of_none q hn)]; exact q) fun c xs q => by rw [upd_ne (ne_of_none q hn)]; exact q
end
noncomputable def Rd (H : Hp) (a : Addr) (u : HO) : Prop := H a = some u ∨ ∃ o, H a = some (.frz o u)
theorem Rd.ok {P : Program} {w : World} {H : Hp} {h : Heap} {a : Addr} {u : HO} (r : Rd H a u) (x : HOk P w H h) : ObjOk P w H h a u := by
  rcases r with r | ⟨o, r⟩
  · exact x a u r
  · obtain ⟨_, q⟩ := x a _ r
    exact q
noncomputable def Mut : Option HO → Prop
  | some (.lst _) => True
  | some (.dK _) => True
  | some (.dT _) => True
  | some (.set _ _) => True
  | some (.ins _ _ _) => True
  | some (.ext _) => True
  | _ => False
noncomputable section
variable {P : Program} {w : World} {H : Hp} {h h' : Heap} {x e : Addr} {o' : HO}
theorem HOk.write (ok : HOk P w H h) (mu : Mut (H x)) (he : e = x ∨ H e = some (.own x)) (k : ∀ b u, b ≠ e → h.get? b = some u → h'.get? b = some u) (heo : ∃ u, h'.get? e = some u)
    (new : ObjOk P w (upd H x o') h' x o') : HOk P w (upd H x o') h' := fun b u q => by
  have nown : ∀ c y, H c = some (.own y) → c ≠ x := fun c y r z => by subst z; rw [r] at mu; exact mu
  have ntup : ∀ c xs, H c = some (.tup xs) → c ≠ x := fun c xs r z => by subst z; rw [r] at mu; exact mu
  by_cases hb : b = x
  · subst hb; rw [upd_same] at q; cases q; exact new
  · rw [upd_ne hb] at q
    by_cases hbe : b = e
    · have q' : H b = some (.own x) := by
        rcases he with z | z
        · exact absurd (hbe.trans z) hb
        · rw [hbe]; exact z
      rw [q] at q'; cases q'
      obtain ⟨v, hv⟩ := heo
      exact ⟨v, by rw [hbe]; exact hv⟩
    · refine (ok b u q).stay (fun c v hc r => k c v ?_ r) (fun c r => by rw [upd_ne (nown c b r)]; exact r) fun c xs r => by rw [upd_ne (ntup c xs r)]; exact r
      rcases hc with rfl | hc
      · exact hbe
      · rintro rfl
        rcases he with z | z
        · exact nown c b hc z
        · rw [hc] at z; cases z; exact hb rfl
end
structure Un (fs ex : List Addr) (H H' : Hp) (h h' : Heap) : Prop where
  keep : ∀ b o, h.get? b = some o → H b = none → b ∉ fs → b ∉ ex → h'.get? b = some o
  slot : ∀ b o, h.get? b = some o → H b = none → b ∈ fs → b ∉ ex → ∃ sl, h'.get? b = some { o with slots := sl }
  free : ∀ b o, h.get? b = some o → H b = none → b ∉ ex → H' b = none
  there : ∀ b o, h.get? b = some o → b ∉ ex → ∃ o', h'.get? b = some o'
  tups : ∀ b xs, H b = some (.tup xs) → H' b = some (.tup xs)
  frzs : ∀ b o u, H b = some (.frz o u) → H' b = some (.frz o u)
  tbls : ∀ b ps, H b = some (.tbl ps) → ∃ more, H' b = some (.tbl (ps ++ more))
noncomputable section
variable {fs fs' ex ex' : List Addr} {H H1 H2 : Hp} {h h1 h2 h' : Heap} {a x e : Addr} {o : HO}
theorem Un.any (u : Un fs ex H H1 h h1) {b : Addr} {ob : Obj} (q : h.get? b = some ob) (n : H b = none) (hx : b ∉ ex) : ∃ sl, h1.get? b = some { ob with slots := sl } := by
  by_cases hb : b ∈ fs
  · exact u.slot b ob q n hb hx
  · exact ⟨ob.slots, u.keep b ob q n hb hx⟩
theorem Un.kept (k : ∀ b u, h.get? b = some u → h'.get? b = some u) : Un fs ex H H h h' :=
  ⟨fun b ob q _ _ _ => k b ob q, fun b ob q _ _ _ => ⟨ob.slots, k b ob q⟩, fun _ _ _ n _ => n, fun b ob q _ => ⟨ob, k b ob q⟩, fun _ _ q => q, fun _ _ _ q => q, fun _ ps q => ⟨#[], by rw [q]; simp⟩⟩
theorem Un.refl : Un fs ex H H h h := Un.kept fun _ _ q => q
theorem Un.laid (k : ∀ b u, h.get? b = some u → h'.get? b = some u) (hp : h.objs.size ≤ a) (hn : H a = none) : Un fs ex H (upd H a o) h h' where
  keep := fun b u q _ _ _ => k b u q
  slot := fun b u q _ _ _ => ⟨u.slots, k b u q⟩
  free := fun b u q n _ => by rw [upd_ne (Nat.ne_of_lt (Nat.lt_of_lt_of_le (Heap.lt_size q) hp))]; exact n
  there := fun b u q _ => ⟨u, k b u q⟩
  tups := fun b xs q => by rw [upd_ne (ne_of_none q hn)]; exact q
  frzs := fun b u xs q => by rw [upd_ne (ne_of_none q hn)]; exact q
  tbls := fun b ps q => ⟨#[], by rw [upd_ne (ne_of_none q hn), q]; simp⟩
theorem Un.write (mu : Mut (H x)) (he : e = x ∨ H e = some (.own x)) (k : ∀ b u, b ≠ e → h.get? b = some u → h'.get? b = some u) (heo : ∃ u, h'.get? e = some u) : Un fs ex H (upd H x o) h h' := by
  have hx : ∀ b, H b = none → b ≠ x := fun b n z => by subst z; rw [n] at mu; exact mu
  have hb : ∀ b, H b = none → b ≠ e := fun b n z => by
    subst z
    rcases he with r | r
    · exact hx b n r
    · rw [n] at r; cases r
  have hm : ∀ b u, H b = some u → ¬ Mut (some u) → b ≠ x := fun b u q nm z => by subst z; rw [q] at mu; exact nm mu
  refine ⟨fun b u q n _ _ => k b u (hb b n) q, fun b u q n _ _ => ⟨u.slots, k b u (hb b n) q⟩, fun b u q n _ => by rw [upd_ne (hx b n)]; exact n, fun b u q _ => ?_,
    fun b xs q => by rw [upd_ne (hm b _ q fun z => z)]; exact q, fun b u xs q => by rw [upd_ne (hm b _ q fun z => z)]; exact q, fun b ps q => ⟨#[], by rw [upd_ne (hm b _ q fun z => z), q]; simp⟩⟩
  by_cases hbe : b = e
  · subst hbe; exact heo
  · exact ⟨u, k b u hbe q⟩
end
noncomputable def trk (h : Heap) (H : Hp) : List Addr := (List.range h.objs.size).filter fun a => (H a).isSome
noncomputable def hidT (h : Heap) (H : Hp) : Heap := PySem.W.hideAll h (trk h H)
theorem hidT_size (h : Heap) (H : Hp) : (hidT h H).objs.size = h.objs.size := PySem.W.hideAll_size _ _
theorem hidT_get {h : Heap} {H : Hp} {b : Addr} {o : Obj} (e : h.get? b = some o) (n : H b = none) : (hidT h H).get? b = some o :=
  PySem.W.hideAll_get _ e fun hm => by
    have q : (H b).isSome = true := (List.mem_filter.mp hm).2
    rw [n] at q; simp at q
theorem of_hidT {h : Heap} {H : Hp} {b : Addr} {o : Obj} (e : (hidT h H).get? b = some o) : h.get? b = some o ∧ H b = none := by
  have e' : h.get? b = some o := PySem.W.of_hideAll (trk h H) e
  refine ⟨e', ?_⟩
  cases q : H b with
  | none => rfl
  | some x =>
    have hm : b ∈ trk h H := List.mem_filter.mpr ⟨List.mem_range.mpr (Heap.lt_size e'), by simp [q]⟩
    have z : (hidT h H).get? b = none := PySem.W.hideAll_none (trk h H) hm
    rw [z] at e; cases e
noncomputable def allNews (g h : Heap) (L : Addr) : List (Addr × Obj) := (List.range h.objs.size).filterMap fun a => if a = L ∨ (g.get? a).isSome = true then none else (h.get? a).map fun o => (a, o)
noncomputable def rest (g h : Heap) (L d : Addr) : List (Addr × Obj) := (allNews g h L).filter fun p => decide (p.1 ≠ d)
end L2
namespace L2
open PySem PySem.Spec PyProof.Rows
structure Mod (K : PySem.W.Frag) (mg : Str → Option Value) (base : Heap) : Prop where
  kin : K.In base
  glob : base.Ns mainGlobals mg
  blt : ∃ mb, base.Ns builtinsNs mb ∧ ∀ x : Str, x ≠ "__name__" → mb x = bootBuiltins x
  nolimit : base.NoLimit
structure Cx where
  prog : Program
  w : World
  K : PySem.W.Frag
  mg : Str → Option Value
  base : Heap
  A : Around
  N : List Str
  s₀ : Shared
  H₀ : Hp
  env : Env
  outer : List Env
  stack : List Env
  ex : List Addr
  fn : Str → Bool
  calm : Bool
  pn : List (Addr × Obj)
  xe : Value → Shared → Prop
noncomputable def frs (l : List Env) : List Addr := l.filterMap (·.frame)
noncomputable abbrev Cx.fs (X : Cx) : List Addr := frs X.outer
noncomputable def Vis (sc : Scope) (x : Str) : Prop := sc.names.lookup x = some .local ∨ sc.names.lookup x = some .cell ∨ sc.names.lookup x = some .free
noncomputable def Loc (sc : Scope) (x : Str) : Prop := sc.names.lookup x = some .local ∨ sc.names.lookup x = some .cell
noncomputable def Look (env : Env) (h : Heap) (m : Str → Option Value) (x : Str) (u : Value) : Prop :=
  (env.kindOf x = some .local ∧ m x = some u) ∨ ((env.kindOf x = some .cell ∨ env.kindOf x = some .free) ∧ ∃ c, env.cells.lookup x = some c ∧ h.IsCell c (some u))
structure Cx.Ok (X : Cx) : Prop where
  mod : Mod X.K X.mg X.base
  kind : X.env.scope.kind = .function
  glob : X.env.globals = mainGlobals
  blt : X.env.builtins = builtinsNs
  above : X.s₀.heap.objs.size ≤ X.env.locals
  inj : ∀ x y c, X.env.cells.lookup x = some c → X.env.cells.lookup y = some c → x = y
  has : ∀ x, (X.env.kindOf x = some .cell ∨ X.env.kindOf x = some .free) → ∃ c, X.env.cells.lookup x = some c
  cab : ∀ x c, X.fn x = true → X.env.cells.lookup x = some c → X.s₀.heap.objs.size ≤ c
  hd : X.calm = true → X.A.handled = none
  frames : X.A.frames = some X.stack
  stk : X.stack = X.outer ∨ (X.stack = X.env :: X.outer ∧ X.env.frame = some X.env.locals)
  exf : ∀ b ∈ X.ex, b ≠ X.env.locals ∧ ∀ x c, X.env.cells.lookup x = some c → c ≠ b
  bs : ∀ b o, X.base.get? b = some o → X.s₀.heap.get? b = some o ∧ X.H₀ b = none
  bsz : X.base.objs.size ≤ X.s₀.heap.objs.size
  noex : ∀ b o, X.base.get? b = some o → b ∉ X.ex
  exfs : ∀ b ∈ X.ex, b ∉ X.fs
  funs : X.s₀.heap.FunFrames X.base X.outer
  frf : ∀ b ∈ X.fs, X.H₀ b = none
structure Inv (X : Cx) (pins : List (Addr × Obj)) (σ : List (Option V)) (H : Hp) (s : Shared) : Prop where
  ok : X.Ok
  os : s.os = X.s₀.os
  bare : AllBare s.gens
  base : Un X.fs X.ex X.H₀ H X.s₀.heap s.heap
  loc : ∃ m, s.heap.Ns X.env.locals m ∧ ∀ (i : Nat) (x : Str) (v : V), X.N[i]? = some x → σ[i]? = some (some v) → Vis X.env.scope x → ∃ u, RelV v u ∧ Look X.env s.heap m x u
  cell : ∀ x c, X.env.cells.lookup x = some c → ∃ v, s.heap.IsCell c v
  free : H X.env.locals = none
  freeC : ∀ x c, X.env.cells.lookup x = some c → H c = none
  pin : ∀ p ∈ X.pn ++ pins, s.heap.get? p.1 = some p.2 ∧ H p.1 = none ∧ p.1 ≠ X.env.locals ∧ p.1 ∉ X.fs ∧ ∀ v, p.2.data ≠ .cell v
  hok : HOk X.prog X.w H s.heap
  len : σ.length = X.N.length
noncomputable section
variable {X : Cx} {pins : List (Addr × Obj)} {σ : List (Option V)} {H H' : Hp} {s : Shared} {h' : Heap}
theorem Cx.Ok.nofr (ok : X.Ok) {b : Addr} {o : Obj} (e : X.base.get? b = some o) : b ∉ X.fs := fun hb => by
  have := (ok.funs.mem hb).1
  rw [e] at this; cases this
theorem Inv.bs (I : Inv X pins σ H s) : ∀ b o, X.base.get? b = some o → s.heap.get? b = some o ∧ H b = none := fun b o e =>
  ⟨I.base.keep b o (I.ok.bs b o e).1 (I.ok.bs b o e).2 (I.ok.nofr e) (I.ok.noex b o e), I.base.free b o (I.ok.bs b o e).1 (I.ok.bs b o e).2 (I.ok.noex b o e)⟩
theorem Inv.bk (I : Inv X pins σ H s) : ∀ b o, X.base.get? b = some o → s.heap.get? b = some o := fun b o e => (I.bs b o e).1
theorem Inv.mod (I : Inv X pins σ H s) : Mod X.K X.mg X.base := I.ok.mod
theorem Inv.kIn (I : Inv X pins σ H s) : X.K.In s.heap := I.ok.mod.kin.keeps I.bk
theorem Inv.nolimit (I : Inv X pins σ H s) : s.heap.NoLimit := I.ok.mod.nolimit.keeps I.bk
theorem Inv.fr (I : Inv X pins σ H s) : ∃ m, Fr X.base X.env.locals s.heap m :=
  let ⟨m, hn, _⟩ := I.loc
  ⟨m, hn, I.bk, Nat.le_trans I.ok.bsz I.ok.above⟩
theorem Inv.lt (I : Inv X pins σ H s) : X.env.locals < s.heap.objs.size := let ⟨_, hn, _⟩ := I.loc; hn.lt
theorem Inv.sz (I : Inv X pins σ H s) : X.s₀.heap.objs.size ≤ s.heap.objs.size := Nat.le_trans I.ok.above (Nat.le_of_lt I.lt)
theorem Inv.nofs (I : Inv X pins σ H s) {a : Addr} (h : s.heap.objs.size ≤ a) : a ∉ X.fs := fun hb => by
  obtain ⟨_, o, ho, _⟩ := I.ok.funs.mem hb
  exact absurd (Nat.lt_of_lt_of_le (Heap.lt_size ho) (Nat.le_trans I.sz h)) (Nat.lt_irrefl _)
theorem Inv.cne (I : Inv X pins σ H s) : ∀ x c, X.env.cells.lookup x = some c → c ≠ X.env.locals := fun x c e z => by
  obtain ⟨v, o, ho, hd⟩ := I.cell x c e
  obtain ⟨m, ⟨o', es, ep, ho', hd', _⟩, _⟩ := I.loc
  rw [z, ho'] at ho; cases ho; rw [hd'] at hd; cases hd
theorem Inv.funs (I : Inv X pins σ H s) : s.heap.FunFrames X.base X.outer := by
  have all : ∀ (l : List Env), (∀ b ∈ frs l, b ∈ X.fs) → X.s₀.heap.FunFrames X.base l → s.heap.FunFrames X.base l := by
    intro l
    induction l with
    | nil => intro _ _; trivial
    | cons env r ih =>
      intro hs hl
      obtain ⟨hk, ⟨L, o, hf, hn, ho, hd⟩, hr⟩ := hl
      have hL : L ∈ X.fs := hs L (by unfold frs; rw [List.filterMap_cons, hf]; exact List.mem_cons_self)
      obtain ⟨sl, e⟩ := I.base.slot L o ho (I.ok.frf L hL) hL fun z => I.ok.exfs L z hL
      exact ⟨hk, ⟨L, _, hf, hn, e, hd⟩, ih (fun b hb => hs b (by unfold frs; rw [List.filterMap_cons, hf]; exact List.mem_cons_of_mem _ hb)) hr⟩
  exact all X.outer (fun _ hb => hb) I.ok.funs
theorem Inv.stack (I : Inv X pins σ H s) : s.heap.FunFrames X.base X.stack := by
  rcases I.ok.stk with e | ⟨e, hf⟩
  · rw [e]; exact I.funs
  · rw [e]
    obtain ⟨m, hn, _⟩ := I.loc
    refine .cons (by rw [I.ok.kind]; decide) hf hn ?_ I.funs
    exact Heap.get?_none_of_le (Nat.le_trans I.ok.bsz I.ok.above)
theorem Inv.stkSub (I : Inv X pins σ H s) : ∀ b ∈ frs X.stack, b ∈ X.env.locals :: X.fs := fun b hb => by
  rcases I.ok.stk with e | ⟨e, hf⟩
  · rw [e] at hb; exact List.mem_cons_of_mem _ hb
  · rw [e] at hb
    unfold frs at hb
    rw [List.filterMap_cons, hf] at hb
    exact hb
theorem Inv.stkFree (I : Inv X pins σ H s) : ∀ b ∈ frs X.stack, H b = none := fun b hb => by
  rcases List.mem_cons.mp (I.stkSub b hb) with e | hb
  · rw [e]; exact I.free
  · obtain ⟨_, o, ho, _⟩ := I.ok.funs.mem hb
    exact I.base.free b o ho (I.ok.frf b hb) fun z => I.ok.exfs b z hb
theorem Inv.step {g' : Array GenState} {t' : Nat} {d' : Drawn} {ch : List Addr} (I : Inv X pins σ H s)
    (hch : ∀ b ∈ ch, (b ∈ X.ex ∨ X.s₀.heap.objs.size ≤ b) ∧ b ≠ X.env.locals ∧ (∀ x c, X.env.cells.lookup x = some c → c ≠ b) ∧ ∀ p ∈ X.pn ++ pins, p.1 ≠ b)
    (keep : ∀ b o, b ≠ X.env.locals → b ∉ X.fs → b ∉ ch → s.heap.get? b = some o → H b = none → h'.get? b = some o)
    (slot : ∀ b o, b ≠ X.env.locals → b ∈ X.fs → b ∉ ch → s.heap.get? b = some o → H b = none → ∃ sl, h'.get? b = some { o with slots := sl }) (free : ∀ b o, b ∉ ch → s.heap.get? b = some o → H b = none → H' b = none)
    (there : ∀ b o, b ∉ ch → s.heap.get? b = some o → ∃ o', h'.get? b = some o')
    (tups : ∀ b xs, H b = some (.tup xs) → H' b = some (.tup xs)) (frzs : ∀ b o u, H b = some (.frz o u) → H' b = some (.frz o u)) (tbls : ∀ b ps, H b = some (.tbl ps) → ∃ more, H' b = some (.tbl (ps ++ more)))
    (ns : ∀ m, s.heap.Ns X.env.locals m → h'.Ns X.env.locals m) (hok : HOk X.prog X.w H' h') (hg : AllBare g') :
    Inv X pins σ H' { s with heap := h', gens := g', drawn := d', toks := t' } := by
  have neL : ∀ b o, X.s₀.heap.get? b = some o → b ≠ X.env.locals := fun b o e => Nat.ne_of_lt (Nat.lt_of_lt_of_le (Heap.lt_size e) I.ok.above)
  have neC : ∀ b o, X.s₀.heap.get? b = some o → b ∉ X.ex → b ∉ ch := fun b o e hx hb => by
    rcases (hch b hb).1 with z | z
    · exact hx z
    · exact absurd (Nat.lt_of_lt_of_le (Heap.lt_size e) z) (Nat.lt_irrefl _)
  have cellK : ∀ x c, X.env.cells.lookup x = some c → ∀ v, s.heap.IsCell c v → h'.IsCell c v := fun x c e v ⟨o, ho, hd⟩ => by
    have nch : c ∉ ch := fun z => (hch c z).2.2.1 x c e rfl
    by_cases hc : c ∈ X.fs
    · obtain ⟨sl, q⟩ := slot c o (I.cne x c e) hc nch ho (I.freeC x c e)
      exact ⟨_, q, hd⟩
    · exact ⟨o, keep c o (I.cne x c e) hc nch ho (I.freeC x c e), hd⟩
  refine ⟨I.ok, I.os, hg, ⟨fun b o e n hb hx => ?_, fun b o e n hb hx => ?_, fun b o e n hx => ?_, fun b o e hx => ?_, fun b xs e => tups b xs (I.base.tups b xs e), fun b o xs e => frzs b o xs (I.base.frzs b o xs e), fun b ps e => ?_⟩, ?_, fun x c e => ?_, ?_, fun x c e => ?_, fun p hp => ?_, hok, I.len⟩
  · exact keep b o (neL b o e) hb (neC b o e hx) (I.base.keep b o e n hb hx) (I.base.free b o e n hx)
  · obtain ⟨sl, e1⟩ := I.base.slot b o e n hb hx
    obtain ⟨sl', e2⟩ := slot b _ (neL b o e) hb (neC b o e hx) e1 (I.base.free b o e n hx)
    exact ⟨sl', e2⟩
  · obtain ⟨o', e1⟩ := I.base.there b o e hx
    exact free b o' (neC b o e hx) e1 (I.base.free b o e n hx)
  · obtain ⟨o', e1⟩ := I.base.there b o e hx
    exact there b o' (neC b o e hx) e1
  · obtain ⟨m1, e1⟩ := I.base.tbls b ps e
    obtain ⟨m2, e2⟩ := tbls b _ e1
    exact ⟨m1 ++ m2, by rw [e2, Array.append_assoc]⟩
  · obtain ⟨m, hn, hl⟩ := I.loc
    refine ⟨m, ns m hn, fun i x v e1 e2 e3 => ?_⟩
    obtain ⟨u, r, l⟩ := hl i x v e1 e2 e3
    refine ⟨u, r, ?_⟩
    rcases l with l | ⟨k, c, e, z⟩
    · exact .inl l
    · exact .inr ⟨k, c, e, cellK x c e _ z⟩
  · obtain ⟨v, z⟩ := I.cell x c e
    exact ⟨v, cellK x c e v z⟩
  · obtain ⟨m, ⟨o, _, _, ho, _⟩, _⟩ := I.loc
    exact free _ o (fun z => (hch _ z).2.1 rfl) ho I.free
  · obtain ⟨v, o, ho, hd⟩ := I.cell x c e
    exact free c o (fun z => (hch c z).2.2.1 x c e rfl) ho (I.freeC x c e)
  · obtain ⟨e, n, ne, nf, d⟩ := I.pin p hp
    have nch : p.1 ∉ ch := fun z => (hch p.1 z).2.2.2 p hp rfl
    exact ⟨keep p.1 p.2 ne nf nch e n, free p.1 p.2 nch e n, ne, nf, d⟩
theorem Inv.un {t' : Nat} (I : Inv X pins σ H s) (u : Un X.fs [] H H' s.heap h') (hok : HOk X.prog X.w H' h') : Inv X pins σ H' { s with heap := h', toks := t' } := by
  obtain ⟨m, ⟨o, es, ep, ho, r⟩, _⟩ := id I.loc
  obtain ⟨sl, hL⟩ := u.any ho I.free (by simp)
  exact I.step (g' := s.gens) (d' := s.drawn) (ch := []) (fun _ z => nomatch z) (fun b o _ hb _ e n => u.keep b o e n hb (by simp)) (fun b o _ hb _ e n => u.slot b o e n hb (by simp)) (fun b o _ e n => u.free b o e n (by simp)) (fun b o _ e => u.there b o e (by simp)) u.tups u.frzs u.tbls (fun m' hm => by
    obtain ⟨o', es', ep', ho', r'⟩ := hm
    rw [ho] at ho'; cases ho'
    exact ⟨_, es', ep', hL, r'⟩) hok I.bare
theorem Inv.call {g' : Array GenState} {t' : Nat} {d' : Drawn} {ch : List Addr} (I : Inv X pins σ H s) (u : Un (frs X.stack) ch H H' s.heap h') (hok : HOk X.prog X.w H' h') (hg : AllBare g')
    (hch : ∀ b ∈ ch, (b ∈ X.ex ∨ X.s₀.heap.objs.size ≤ b) ∧ b ≠ X.env.locals ∧ (∀ x c, X.env.cells.lookup x = some c → c ≠ b) ∧ ∀ p ∈ X.pn ++ pins, p.1 ≠ b) :
    Inv X pins σ H' { s with heap := h', gens := g', drawn := d', toks := t' } := by
  obtain ⟨m, ⟨o, es, ep, ho, r⟩, _⟩ := id I.loc
  obtain ⟨sl, hL⟩ := u.any ho I.free fun z => (hch _ z).2.1 rfl
  exact I.step (ch := ch) hch (fun b o hL hb hc e n => u.keep b o e n (fun z => (List.mem_cons.mp (I.stkSub b z)).elim hL hb) hc) (fun b o _ _ hc e n => u.any e n hc) (fun b o hc e n => u.free b o e n hc) (fun b o hc e => u.there b o e hc) u.tups u.frzs u.tbls (fun m' hm => by
    obtain ⟨o', es', ep', ho', r'⟩ := hm
    rw [ho] at ho'; cases ho'
    exact ⟨_, es', ep', hL, r'⟩) hok hg
theorem Inv.turned {t' : Nat} {it : Addr} (I : Inv X pins σ H s) (k : ∀ b o, b ≠ it → s.heap.get? b = some o → h'.get? b = some o) (hn : H it = none) (hL : it ≠ X.env.locals)
    (h1 : it ∈ X.ex ∨ X.s₀.heap.objs.size ≤ it) (h2 : ∀ x c, X.env.cells.lookup x = some c → c ≠ it) (h3 : ∀ p ∈ X.pn ++ pins, p.1 ≠ it) : Inv X pins σ H { s with heap := h', toks := t' } := by
  have nit : ∀ b u, H b = some u → b ≠ it := fun b u e z => by rw [z, hn] at e; cases e
  refine I.step (g' := s.gens) (d' := s.drawn) (ch := [it]) (fun b hb => ?_) (fun b o _ _ hc e _ => k b o (fun z => hc (by simp [z])) e) (fun b o _ _ hc e _ => ⟨o.slots, k b o (fun z => hc (by simp [z])) e⟩) (fun _ _ _ _ n => n)
    (fun b o hc e => ⟨o, k b o (fun z => hc (by simp [z])) e⟩) (fun _ _ e => e) (fun _ _ _ e => e) (fun b ps e => ⟨#[], by rw [e]; simp⟩) (fun m hm => ?_) (fun b u e => ?_) I.bare
  · have e : b = it := by simpa using hb
    subst e
    exact ⟨h1, hL, h2, h3⟩
  · obtain ⟨o, es, ep, ho, r⟩ := hm
    exact ⟨o, es, ep, k _ o (Ne.symm hL) ho, r⟩
  · refine (I.hok b u e).stay (fun c v hc q => k c v ?_ q) (fun _ q => q) fun _ _ q => q
    rcases hc with z | z
    · rw [z]; exact nit b u e
    · exact nit c _ z
theorem Inv.tok (I : Inv X pins σ H s) (t : Nat) : Inv X pins σ H { s with toks := t } := I.un (h' := s.heap) (t' := t) Un.refl I.hok
theorem Inv.kept {t' : Nat} (I : Inv X pins σ H s) (k : ∀ b u, s.heap.get? b = some u → h'.get? b = some u) : Inv X pins σ H { s with heap := h', toks := t' } := I.un (Un.kept k) (I.hok.kept k)
theorem Inv.laid {a : Addr} {o : HO} {t' : Nat} (I : Inv X pins σ H s) (k : ∀ b u, s.heap.get? b = some u → h'.get? b = some u) (hp : s.heap.objs.size ≤ a) (new : ObjOk X.prog X.w (upd H a o) h' a o) :
    Inv X pins σ (upd H a o) { s with heap := h', toks := t' } := I.un (Un.laid k hp (I.hok.fresh hp)) (I.hok.laid k hp new)
theorem Inv.write {x e : Addr} {o : HO} {t' : Nat} (I : Inv X pins σ H s) (mu : Mut (H x)) (he : e = x ∨ H e = some (.own x)) (k : ∀ b u, b ≠ e → s.heap.get? b = some u → h'.get? b = some u) (heo : ∃ u, h'.get? e = some u)
    (new : ObjOk X.prog X.w (upd H x o) h' x o) : Inv X pins σ (upd H x o) { s with heap := h', toks := t' } := I.un (Un.write mu he k heo) (I.hok.write mu he k heo new)
theorem Inv.weak {σ' : List (Option V)} (I : Inv X pins σ H s) (hl : σ'.length = σ.length) (w : ∀ (i : Nat) v, σ'[i]? = some (some v) → σ[i]? = some (some v)) : Inv X pins σ' H s :=
  ⟨I.ok, I.os, I.bare, I.base, let ⟨m, hn, hl'⟩ := I.loc; ⟨m, hn, fun i x v e1 e2 e3 => hl' i x v e1 (w i v e2) e3⟩, I.cell, I.free, I.freeC, I.pin, I.hok, hl.trans I.len⟩
theorem Inv.pins_of {pins' : List (Addr × Obj)} (I : Inv X pins σ H s) (h : ∀ p ∈ pins', s.heap.get? p.1 = some p.2 ∧ H p.1 = none ∧ p.1 ≠ X.env.locals ∧ p.1 ∉ X.fs ∧ ∀ v, p.2.data ≠ .cell v) : Inv X pins' σ H s :=
  ⟨I.ok, I.os, I.bare, I.base, I.loc, I.cell, I.free, I.freeC, fun p hp => (List.mem_append.mp hp).elim (fun z => I.pin p (List.mem_append_left _ z)) (h p), I.hok, I.len⟩
theorem nodup_ix {N : List Str} (hN : N.Nodup) {i j : Nat} {x : Str} (a : N[i]? = some x) (b : N[j]? = some x) : i = j := by
  obtain ⟨h1, e1⟩ := List.getElem?_eq_some_iff.mp a
  obtain ⟨h2, e2⟩ := List.getElem?_eq_some_iff.mp b
  exact (List.getElem_inj hN).mp (e1.trans e2.symm)
theorem store_ok2 {M : Model} {A : Around} {E : Value → Shared → Prop} {i : Nat} {x : Str} {v : V} {u : Value} {Q : Unit → Shared → Prop} (I : Inv X pins σ H s) (hN : X.N.Nodup) (hi : X.N[i]? = some x) (hx : Loc X.env.scope x) (r : RelV v u)
    (h : ∀ s', Inv X pins (σ.set i (some v)) H s' → (∃ a, Heap.SameBut a s.heap s'.heap ∧ (a = X.env.locals ∨ X.env.cells.lookup x = some a)) → Q () s') (hf : X.fn x = true ∨ X.env.scope.names.lookup x = some .local := by first | exact .inl rfl | exact .inr rfl | assumption) : wpAny M A (storeName X.env x u) Q E s := by
  obtain ⟨m, hn, hl⟩ := id I.loc
  have hcls : (X.env.scope.kind == .class || (X.env.scope.kind == .module && X.env.locals != X.env.globals)) = false := by rw [I.ok.kind]; rfl
  have hiσ : i < σ.length := by rw [I.len]; exact (List.getElem?_eq_some_iff.mp hi).1
  have cne := I.cne
  have tracked : ∀ {a : Addr} {h' : Heap}, (∃ o, s.heap.get? a = some o ∧ H a = none) → Heap.SameBut a s.heap h' → HOk X.prog X.w H h' := fun {a h'} ha hs b ob e => by
    obtain ⟨_, _, hfree⟩ := ha
    refine (I.hok b ob e).stay (fun c w' hc q => (hs.2 c ?_).trans q) (fun _ q => q) fun _ _ q => q
    rintro rfl
    rcases hc with rfl | hc
    · rw [hfree] at e; cases e
    · rw [hfree] at hc; cases hc
  rcases hx with hk | hk
  · refine wpAny_storeName_local hk hn (fun h' hn' hs => ?_) hcls
    obtain ⟨oL, _, _, hoL, _⟩ := id hn
    refine h _ ⟨I.ok, I.os, I.bare, ⟨fun b o e n hb hx => ?_, fun b o e n hb hx => ?_, I.base.free, fun b o e hx => ?_, I.base.tups, I.base.frzs, I.base.tbls⟩, ⟨_, hn', fun j y v' e1 e2 e3 => ?_⟩, fun y c e => ?_, I.free, I.freeC, fun p hp => ?_, tracked ⟨oL, hoL, I.free⟩ hs, by simpa using I.len⟩ ⟨_, hs, .inl rfl⟩
    · exact (hs.2 b (Nat.ne_of_lt (Nat.lt_of_lt_of_le (Heap.lt_size e) I.ok.above))).trans (I.base.keep b o e n hb hx)
    · obtain ⟨sl, e1⟩ := I.base.slot b o e n hb hx
      exact ⟨sl, (hs.2 b (Nat.ne_of_lt (Nat.lt_of_lt_of_le (Heap.lt_size e) I.ok.above))).trans e1⟩
    · obtain ⟨o', e1⟩ := I.base.there b o e hx
      exact ⟨o', (hs.2 b (Nat.ne_of_lt (Nat.lt_of_lt_of_le (Heap.lt_size e) I.ok.above))).trans e1⟩
    · by_cases hj : j = i
      · subst hj
        rw [hi] at e1; cases e1
        rw [List.getElem?_set_self hiσ] at e2
        cases e2
        exact ⟨u, r, .inl ⟨hk, by simp⟩⟩
      · rw [List.getElem?_set_ne (Ne.symm hj)] at e2
        obtain ⟨u', r', q⟩ := hl j y v' e1 e2 e3
        refine ⟨u', r', ?_⟩
        rcases q with ⟨k, e⟩ | ⟨k, c, e, z⟩
        · refine .inl ⟨k, ?_⟩
          have : y ≠ x := fun e => hj (nodup_ix hN e1 (e ▸ hi))
          simp [this, e]
        · exact .inr ⟨k, c, e, z.sameBut hs (cne y c e)⟩
    · obtain ⟨w', z⟩ := I.cell y c e
      exact ⟨w', z.sameBut hs (cne y c e)⟩
    · obtain ⟨e, n, ne, nf, d⟩ := I.pin p hp
      exact ⟨(hs.2 p.1 ne).trans e, n, ne, nf, d⟩
  · have hfn : X.fn x = true := by
      rcases hf with z | z
      · exact z
      · rw [z] at hk; cases hk
    obtain ⟨c, hc⟩ := I.ok.has x (.inl hk)
    obtain ⟨w', z⟩ := I.cell x c hc
    refine wpAny_storeName_cell I.ok.kind hk hc z (fun h' hc' hs => ?_)
    obtain ⟨oc, hoc, hocd⟩ := id z
    refine h { s with heap := h' } ⟨I.ok, I.os, I.bare, ⟨fun b o e n hb hx => ?_, fun b o e n hb hx => ?_, I.base.free, fun b o e hx => ?_, I.base.tups, I.base.frzs, I.base.tbls⟩, ⟨m, hn.sameBut hs (Ne.symm (cne x c hc)), fun j y v' e1 e2 e3 => ?_⟩, fun y c' e => ?_, I.free, I.freeC, fun p hp => ?_, tracked ⟨oc, hoc, I.freeC x c hc⟩ hs, by simpa using I.len⟩ ⟨c, hs, .inr hc⟩
    · exact (hs.2 b (Nat.ne_of_lt (Nat.lt_of_lt_of_le (Heap.lt_size e) (I.ok.cab x c hfn hc)))).trans (I.base.keep b o e n hb hx)
    · obtain ⟨sl, e1⟩ := I.base.slot b o e n hb hx
      exact ⟨sl, (hs.2 b (Nat.ne_of_lt (Nat.lt_of_lt_of_le (Heap.lt_size e) (I.ok.cab x c hfn hc)))).trans e1⟩
    · obtain ⟨o', e1⟩ := I.base.there b o e hx
      exact ⟨o', (hs.2 b (Nat.ne_of_lt (Nat.lt_of_lt_of_le (Heap.lt_size e) (I.ok.cab x c hfn hc)))).trans e1⟩
    · by_cases hj : j = i
      · subst hj
        rw [hi] at e1; cases e1
        rw [List.getElem?_set_self hiσ] at e2
        cases e2
        exact ⟨u, r, .inr ⟨.inl hk, c, hc, hc'⟩⟩
      · rw [List.getElem?_set_ne (Ne.symm hj)] at e2
        obtain ⟨u', r', q⟩ := hl j y v' e1 e2 e3
        refine ⟨u', r', ?_⟩
        rcases q with q | ⟨k, c', e, z'⟩
        · exact .inl q
        · refine .inr ⟨k, c', e, z'.sameBut hs ?_⟩
          rintro rfl
          exact hj (nodup_ix hN e1 (I.ok.inj _ _ _ e hc ▸ hi))
    · by_cases hcc : c' = c
      · subst hcc; exact ⟨_, hc'⟩
      · obtain ⟨w2, z2⟩ := I.cell y c' e
        exact ⟨w2, z2.sameBut hs hcc⟩
    · obtain ⟨e, n, ne, nf, d⟩ := I.pin p hp
      refine ⟨(hs.2 p.1 ?_).trans e, n, ne, nf, d⟩
      intro q
      rw [q, hoc] at e
      have q' : oc = p.2 := Option.some.inj e
      exact d w' (by rw [← q']; exact hocd)
theorem store_ok {M : Model} {A : Around} {E : Value → Shared → Prop} {i : Nat} {x : Str} {v : V} {u : Value} {Q : Unit → Shared → Prop} (I : Inv X pins σ H s) (hN : X.N.Nodup) (hi : X.N[i]? = some x) (hx : Loc X.env.scope x) (r : RelV v u)
    (h : ∀ s', Inv X pins (σ.set i (some v)) H s' → Q () s') (hf : X.fn x = true ∨ X.env.scope.names.lookup x = some .local := by first | exact .inl rfl | exact .inr rfl | assumption) : wpAny M A (storeName X.env x u) Q E s :=
  store_ok2 I hN hi hx r (fun s' I' _ => h s' I') hf
theorem Inv.call' {s' : Shared} {ch : List Addr} (I : Inv X pins σ H s) (ho : s'.os = s.os) (u : Un (frs X.stack) ch H H' s.heap s'.heap) (hok : HOk X.prog X.w H' s'.heap) (hg : AllBare s'.gens)
    (hch : ∀ b ∈ ch, (b ∈ X.ex ∨ X.s₀.heap.objs.size ≤ b) ∧ b ≠ X.env.locals ∧ (∀ x c, X.env.cells.lookup x = some c → c ≠ b) ∧ ∀ p ∈ X.pn ++ pins, p.1 ≠ b) : Inv X pins σ H' s' := by
  obtain ⟨h', g', d', t', o'⟩ := s'
  have e : o' = s.os := ho
  subst e
  exact I.call (g' := g') (t' := t') (d' := d') u hok hg hch
end
noncomputable abbrev XK := Value → Option Addr → Hp → Prop
noncomputable abbrev St := List (Option V)
noncomputable abbrev VK := V → Hp → Prop
noncomputable abbrev TE := St → Hp → VK → Prop
noncomputable abbrev TT := St → Hp → (Bool → Hp → Prop) → Prop
noncomputable abbrev TA := St → Hp → (List V → Hp → Prop) → Prop
structure Ends where
  nx : St → Hp → Prop
  rt : VK
  bk : St → Hp → Prop := fun _ _ => False
  ct : St → Hp → Prop := fun _ _ => False
noncomputable abbrev TS := Ends → St → Hp → Prop
noncomputable def EP (X : Cx) (pins : List (Addr × Obj)) (σ : St) (Q : VK) (u : Value) (s' : Shared) : Prop := ∃ v H', Inv X pins σ H' s' ∧ RelV v u ∧ Q v H'
noncomputable def TP (X : Cx) (pins : List (Addr × Obj)) (σ : St) (Q : Bool → Hp → Prop) (b : Bool) (s' : Shared) : Prop := ∃ H', Inv X pins σ H' s' ∧ Q b H'
noncomputable def AP (X : Cx) (pins : List (Addr × Obj)) (σ : St) (Q : List V → Hp → Prop) (us : List Value) (s' : Shared) : Prop := ∃ vs H', Inv X pins σ H' s' ∧ Vals vs us ∧ Q vs H'
noncomputable def SP (X : Cx) (pins : List (Addr × Obj)) (D : Ends) (f : Flow) (s' : Shared) : Prop :=
  match f with
  | .next => ∃ σ' H', Inv X pins σ' H' s' ∧ D.nx σ' H'
  | .brk => ∃ σ' H', Inv X pins σ' H' s' ∧ D.bk σ' H'
  | .cont => ∃ σ' H', Inv X pins σ' H' s' ∧ D.ct σ' H'
  | .ret u => ∃ v σ' H', Inv X pins σ' H' s' ∧ RelV v u ∧ D.rt v H'
noncomputable def PE (X : Cx) (e : Expr) (t : TE) : Prop :=
  ∀ (pins : List (Addr × Obj)) (s : Shared) (σ : St) (H : Hp) (Q : VK), Inv X pins σ H s → t σ H Q → wpAny (model X.prog X.w) X.A (eval e X.env) (EP X pins σ Q) X.xe s
noncomputable def PT (X : Cx) (e : Expr) (t : TT) : Prop :=
  ∀ (pins : List (Addr × Obj)) (s : Shared) (σ : St) (H : Hp) (Q : Bool → Hp → Prop), Inv X pins σ H s → t σ H Q → wpAny (model X.prog X.w) X.A (isTrue e X.env (eval e X.env)) (TP X pins σ Q) X.xe s
noncomputable def PW (X : Cx) (e : Expr) (t : TT) : Prop :=
  ∀ (whole : Sem Value) (pins : List (Addr × Obj)) (s : Shared) (σ : St) (H : Hp) (Q : Bool → Hp → Prop), Inv X pins σ H s → t σ H Q → wpAny (model X.prog X.w) X.A (isTrue e X.env whole) (TP X pins σ Q) X.xe s
theorem PW.pt {X : Cx} {e : Expr} {t : TT} (h : PW X e t) : PT X e t := h _
noncomputable def PA (X : Cx) (es : List Expr) (t : TA) : Prop :=
  ∀ (pos : Pos) (pins : List (Addr × Obj)) (s : Shared) (σ : St) (H : Hp) (Q : List V → Hp → Prop), Inv X pins σ H s → t σ H Q → wpAny (model X.prog X.w) X.A (spliced (backTo pos (starEach es X.env))) (AP X pins σ Q) X.xe s
noncomputable def PS (X : Cx) (st : Stmt) (t : TS) : Prop :=
  ∀ (pins : List (Addr × Obj)) (s : Shared) (σ : St) (H : Hp) (D : Ends), Inv X pins σ H s → t D σ H → wpAny (model X.prog X.w) X.A (exec st X.env) (SP X pins D) X.xe s
noncomputable def PSs (X : Cx) (st : List Stmt) (t : TS) : Prop :=
  ∀ (pins : List (Addr × Obj)) (s : Shared) (σ : St) (H : Hp) (D : Ends), Inv X pins σ H s → t D σ H → wpAny (model X.prog X.w) X.A (execs st X.env) (SP X pins D) X.xe s
theorem thn {α : Type} {t : Sem α} {Q Q' : α → Shared → Prop} {M : Model} {A : Around} {E : Value → Shared → Prop} {s : Shared} (h : wpAny M A t Q E s) (hQ : ∀ a s, Q a s → Q' a s) : wpAny M A t Q' E s := wpAny_mono h hQ fun _ _ x => x
end L2
namespace L2
open PySem PySem.Spec PyProof.Rows
noncomputable section
variable {X : Cx}
theorem bin {a b : Expr} {ta tb : TE} (ha : PE X a ta) (hb : PE X b tb) {pins : List (Addr × Obj)} {s : Shared} {σ : St} {H : Hp} {R : V → V → Hp → Prop} (I : Inv X pins σ H s) (h : ta σ H fun x H1 => tb σ H1 fun y H2 => R x y H2)
    {α : Type} {Q : α → Shared → Prop} {f : Value → Value → Sem α}
    (hf : ∀ v u s2 x y H2, Inv X pins σ H2 s2 → RelV x v → RelV y u → R x y H2 → wpAny (model X.prog X.w) X.A (f v u) Q X.xe s2) :
    wpAny (model X.prog X.w) X.A (eval a X.env) (fun v s₁ => wpAny (model X.prog X.w) X.A (eval b X.env) (fun u s₂ => wpAny (model X.prog X.w) X.A (f v u) Q X.xe s₂) X.xe s₁) X.xe s := by
  refine thn (ha pins s σ H _ I h) fun v s1 ⟨x, H1, I1, r1, q1⟩ => ?_
  refine thn (hb pins s1 σ H1 _ I1 q1) fun u s2 ⟨y, H2, I2, r2, q2⟩ => ?_
  exact hf v u s2 x y H2 I2 r1 r2 q2
noncomputable def tVar (i : Nat) : TE := fun σ H Q => ∃ v, σ[i]? = some (some v) ∧ Q v H
noncomputable def tC (v : V) : TE := fun _ H Q => Q v H
theorem pe_var {i : Nat} {x : Str} {pos : Pos} (hN : X.N[i]? = some x) (hv : Vis X.env.scope x) (hd : (x == ("__debug__" : Str)) = false := by decide) (hcd : (x == ("__classdict__" : Str)) = false := by decide) : PE X (.Name x pos) (tVar i) := by
  intro pins s σ H Q I h
  obtain ⟨v, e, h⟩ := h
  obtain ⟨m, hn, hl⟩ := I.loc
  obtain ⟨u, r, l⟩ := hl i x v hN e hv
  have fin : EP X pins σ Q u s := ⟨v, H, I, r, h⟩
  rcases l with ⟨hk, hm⟩ | ⟨hk, c, hc, hcell⟩
  · exact wpAny_Name (wpAny_loadName_local I.ok.kind hk hn hm fin) hd
  · rcases hk with hk | hk
    · exact wpAny_Name (wpAny_loadName_cell I.ok.kind hk hc hcell fin) hd
    · exact wpAny_Name (wpAny_loadName_free I.ok.kind hk hc hcell fin hcd) hd
theorem pe_int {i j pos} : PE X (.Constant (.int i) j pos) (tC (.int i)) := fun _ _ _ H _ I h => wpAny_Constant_int ⟨.int i, H, I.tok _, ⟨_, rfl⟩, h⟩
theorem pe_non {j pos} : PE X (.Constant .none j pos) (tC .non) := fun _ _ _ H _ I h => Constant_none ⟨.non, H, I, rfl, h⟩
theorem pe_str {x j pos} : PE X (.Constant (.str x) j pos) (tC (.str x)) := fun _ _ _ H _ I h => Calls.Constant_str ⟨.str x, H, I.tok _, ⟨_, rfl⟩, h⟩
noncomputable def Gl (X : Cx) (x : Str) : Prop := X.env.kindOf x = some .globalImplicit
theorem ld_glob {E : Value → Shared → Prop} {pins : List (Addr × Obj)} {s : Shared} {σ : St} {H : Hp} {x : Str} {u : Value} {pos : Pos} {Q : Value → Shared → Prop} (I : Inv X pins σ H s) (hg : Gl X x) (hm : X.mg x = some u) (h : Q u s)
    (hd : (x == ("__debug__" : Str)) = false := by decide) : wpAny (model X.prog X.w) X.A (eval (.Name x pos) X.env) Q E s :=
  Calls.Name_function_global I.ok.kind hg (Calls.loadGlobal_global (by rw [I.ok.glob]; exact I.mod.glob.keeps I.bk) hm h) hd
theorem ld_blt {E : Value → Shared → Prop} {pins : List (Addr × Obj)} {s : Shared} {σ : St} {H : Hp} {x : Str} {u : Value} {pos : Pos} {Q : Value → Shared → Prop} (I : Inv X pins σ H s) (hg : Gl X x) (hm : X.mg x = none) (hv : bootBuiltins x = some u) (h : Q u s)
    (hn : x ≠ "__name__" := by decide) (hd : (x == ("__debug__" : Str)) = false := by decide) : wpAny (model X.prog X.w) X.A (eval (.Name x pos) X.env) Q E s := by
  obtain ⟨mb, h1, h2⟩ := I.mod.blt
  exact Calls.Name_function_global I.ok.kind hg (Calls.loadGlobal_builtin (by rw [I.ok.glob]; exact I.mod.glob.keeps I.bk) hm (by rw [I.ok.blt]; exact h1.keeps I.bk) ((h2 x hn).trans hv) h) hd
theorem pe_glob {x : Str} {v : V} {u : Value} {pos : Pos} (hg : Gl X x) (hm : X.mg x = some u) (r : RelV v u) (hd : (x == ("__debug__" : Str)) = false := by decide) : PE X (.Name x pos) (tC v) :=
  fun _ _ _ H _ I h => ld_glob I hg hm ⟨v, H, I, r, h⟩ hd
theorem pe_bltn {x : Str} {v : V} {u : Value} {pos : Pos} (hg : Gl X x) (hm : X.mg x = none) (hv : bootBuiltins x = some u) (r : RelV v u) (hn : x ≠ "__name__" := by decide) (hd : (x == ("__debug__" : Str)) = false := by decide) : PE X (.Name x pos) (tC v) :=
  fun _ _ _ H _ I h => ld_blt I hg hm hv ⟨v, H, I, r, h⟩ hn hd
variable {a b : Expr} {ta tb : TE} {pos : Pos}
noncomputable def PC (X : Cx) (op : CmpOp) (a b : Expr) (t : TE) : Prop :=
  ∀ (pins : List (Addr × Obj)) (s : Shared) (σ : St) (H : Hp) (Q : VK), Inv X pins σ H s → t σ H Q →
    wpAny (model X.prog X.w) X.A (eval a X.env) (fun v s₁ => wpAny (model X.prog X.w) X.A (eval b X.env) (fun u s₂ => wpAny (model X.prog X.w) X.A (compareOp op v u) (EP X pins σ Q) X.xe s₂) X.xe s₁) X.xe s
theorem nobehind (b : Expr) {op : CmpOp} (h : op ≠ .In) (h2 : op ≠ .NotIn) : behindInMarks op b = false := by
  have e1 : (op == CmpOp.In) = false := by cases op <;> first | rfl | exact absurd rfl h
  have e2 : (op == CmpOp.NotIn) = false := by cases op <;> first | rfl | exact absurd rfl h2
  cases b <;> simp [behindInMarks, e1, e2]
noncomputable def tB (t : TE) : TT := fun σ H Q => t σ H fun x H1 => ∃ c, x = .bl c ∧ Q c H1
theorem pt_cmp {op : CmpOp} {t : TE} (h : PC X op a b t) (h1 : behindInMarks op b = false := by first | exact nobehind _ (by decide) (by decide) | rfl) : PT X (.Compare a [op] [b] pos) (tB t) := by
  intro pins s σ H Q I hw
  refine wpAny_isTrue_Compare1 (thn (h pins s σ H _ I hw) fun v s1 h1 => thn h1 fun u s2 h2 => thn h2 fun c s3 ⟨x, H1, I1, r1, q1⟩ => ?_) h1
  obtain ⟨d, rfl, q⟩ := q1
  cases r1
  exact wpAny_truthy_bool ⟨H1, I1, q⟩
theorem pt_val {e : Expr} {t : TE} (h : PE X e t) (he : ∀ whole, isTrue e X.env whole = (do let v ← whole; standAt e.pos; holding [v] (truthy v)) := by intro _; rfl) : PT X e (tB t) := by
  intro pins s σ H Q I hw
  refine isTrue_plain (thn (h pins s σ H _ I hw) fun v s1 ⟨x, H1, I1, r1, q1⟩ => ?_) (he _)
  obtain ⟨d, rfl, q⟩ := q1
  cases r1
  exact wpAny_truthy_bool ⟨H1, I1, q⟩
variable {tA tB' : TT} {rest : List Expr}
noncomputable def tAnd (t u : TT) : TT := fun σ H Q => t σ H fun c H1 => if c = true then u σ H1 Q else Q false H1
noncomputable def tOr (t u : TT) : TT := fun σ H Q => t σ H fun c H1 => if c = true then Q true H1 else u σ H1 Q
noncomputable def tNot (t : TT) : TT := fun σ H Q => t σ H fun c H1 => Q (!c) H1
theorem pw_and1 (ha : PT X a tA) : PW X (.BoolOp .And [a] pos) tA := by
  intro wh pins s σ H Q I h
  refine isTrue_and (thn (ha pins s σ H Q I h) fun c s1 e => ?_)
  cases c with
  | true => exact isTrue_and_nil e
  | false => exact e
theorem pw_or1 (ha : PT X a tA) : PW X (.BoolOp .Or [a] pos) tA := by
  intro wh pins s σ H Q I h
  refine isTrue_or (thn (ha pins s σ H Q I h) fun c s1 e => ?_)
  cases c with
  | false => exact isTrue_or_nil e
  | true => exact e
theorem pw_and (ha : PT X a tA) (hb : PW X (.BoolOp .And (b :: rest) pos) tB') : PW X (.BoolOp .And (a :: b :: rest) pos) (tAnd tA tB') := by
  intro wh pins s σ H Q I h
  refine isTrue_and (thn (ha pins s σ H _ I h) fun c s1 ⟨H1, I1, q1⟩ => ?_)
  cases c with
  | true => exact hb wh pins s1 σ H1 Q I1 q1
  | false => exact ⟨H1, I1, q1⟩
theorem pw_or (ha : PT X a tA) (hb : PW X (.BoolOp .Or (b :: rest) pos) tB') : PW X (.BoolOp .Or (a :: b :: rest) pos) (tOr tA tB') := by
  intro wh pins s σ H Q I h
  refine isTrue_or (thn (ha pins s σ H _ I h) fun c s1 ⟨H1, I1, q1⟩ => ?_)
  cases c with
  | true => exact ⟨H1, I1, q1⟩
  | false => exact hb wh pins s1 σ H1 Q I1 q1
theorem pt_not (ha : PT X a tA) : PT X (.UnaryOp .Not a pos) (tNot tA) := by
  intro pins s σ H Q I h
  exact isTrue_not (ha pins s σ H (fun c H1 => Q (!c) H1) I h)
noncomputable def tAndV (ta tb : TE) : TE := fun σ H Q => ta σ H fun x H1 => ∃ c, x = .bl c ∧ if c = true then tb σ H1 Q else Q (.bl false) H1
noncomputable def tOrV (ta tb : TE) : TE := fun σ H Q => ta σ H fun x H1 => ∃ c, x = .bl c ∧ if c = true then Q (.bl true) H1 else tb σ H1 Q
noncomputable def tNotV (ta : TE) : TE := fun σ H Q => ta σ H fun x H1 => ∃ c, x = .bl c ∧ Q (.bl (!c)) H1
theorem pe_one {op} {t : TE} (h : PE X a t) : PE X (.BoolOp op [a] pos) t := fun pins s σ H Q I hw => BoolOp_one (h pins s σ H Q I hw)
theorem pe_and (ha : PE X a ta) (hb : PE X (.BoolOp .And (b :: rest) pos) tb) : PE X (.BoolOp .And (a :: b :: rest) pos) (tAndV ta tb) := by
  intro pins s σ H Q I h
  refine BoolOp_and (thn (ha pins s σ H _ I h) fun v s1 ⟨x, H1, I1, r1, q1⟩ => ?_)
  obtain ⟨c, rfl, q1⟩ := q1
  cases r1
  refine wpAny_truthy_bool ?_
  cases c with
  | true => exact hb pins s1 σ H1 Q I1 q1
  | false => exact ⟨.bl false, H1, I1, rfl, q1⟩
theorem pe_or (ha : PE X a ta) (hb : PE X (.BoolOp .Or (b :: rest) pos) tb) : PE X (.BoolOp .Or (a :: b :: rest) pos) (tOrV ta tb) := by
  intro pins s σ H Q I h
  refine BoolOp_or (thn (ha pins s σ H _ I h) fun v s1 ⟨x, H1, I1, r1, q1⟩ => ?_)
  obtain ⟨c, rfl, q1⟩ := q1
  cases r1
  refine wpAny_truthy_bool ?_
  cases c with
  | false => exact hb pins s1 σ H1 Q I1 q1
  | true => exact ⟨.bl true, H1, I1, rfl, q1⟩
theorem pe_not (ha : PE X a ta) : PE X (.UnaryOp .Not a pos) (tNotV ta) := by
  intro pins s σ H Q I h
  refine UnaryOp_ (thn (ha pins s σ H _ I h) fun v s1 ⟨x, H1, I1, r1, q1⟩ => ?_)
  obtain ⟨c, rfl, q1⟩ := q1
  cases r1
  exact not_of (wpAny_truthy_bool ⟨.bl (!c), H1, I1, rfl, q1⟩)
end
end L2
namespace L2
open PySem PySem.Spec PyProof.Rows
noncomputable def SqL (K : PySem.W.Frag) (H : Hp) (a : Addr) (xs : List V) : Prop :=
  Rd H a (.lst xs) ∨
    ∃ (o : Obj) (its : Array Value) (n : Nat), K.lookup a = some o ∧ o.cls = .type "list" ∧ o.dict = none ∧ o.data = .seq its n ∧ its.size ≤ sizeLine ∧ Vals xs its.toList
noncomputable def SqT (K : PySem.W.Frag) (H : Hp) (a : Addr) (xs : List V) : Prop :=
  Rd H a (.tup xs) ∨
    ∃ (o : Obj) (its : Array Value) (n : Nat), K.lookup a = some o ∧ o.cls = .type "tuple" ∧ o.data = .seq its n ∧ its.size ≤ sizeLine ∧ Vals xs its.toList
noncomputable def absV : Value → Option V
  | .none => some .non
  | .bool b => some (.bl b)
  | .int i _ => some (.int i)
  | .str x _ => some (.str x)
  | .bytes b _ => some (.byt b)
  | .float b _ => some (.flt b)
  | .ref a => some (.ref a)
  | .type n => some (.ty n)
  | _ => none
theorem RelV.abs {x : V} {u : Value} (r : RelV x u) : absV u = some x := by
  cases x with
  | non => cases r; rfl
  | bl _ => cases r; rfl
  | int _ => obtain ⟨t, rfl⟩ := r; rfl
  | str _ => obtain ⟨t, rfl⟩ := r; rfl
  | byt _ => obtain ⟨t, rfl⟩ := r; rfl
  | flt _ => obtain ⟨t, rfl⟩ := r; rfl
  | ref _ => cases r; rfl
  | ty _ => cases r; rfl
theorem RelV.inj {x y : V} {u : Value} (r : RelV x u) (q : RelV y u) : x = y := Option.some.inj (r.abs.symm.trans q.abs)
theorem Vals.inj : ∀ {xs ys : List V} {us : List Value}, Vals xs us → Vals ys us → xs = ys
  | _, _, _, .nil, .nil => rfl
  | _, _, _, .cons r t, .cons r' t' => by rw [r.inj r', Vals.inj t t']
noncomputable section
variable {X : Cx} {pins : List (Addr × Obj)} {σ : St} {H : Hp} {s : Shared} {a : Addr} {xs ys : List V}
theorem SqL.of {K : PySem.W.Frag} (h : H a = some (.lst xs)) : SqL K H a xs := .inl (.inl h)
theorem SqT.of {K : PySem.W.Frag} (h : H a = some (.tup xs)) : SqT K H a xs := .inl (.inl h)
theorem Inv.list (I : Inv X pins σ H s) (h : SqL X.K H a xs) : ∃ its : List Value, Vals xs its ∧ PlainL s.heap a its.toArray ∧ xs.length ≤ sizeLine := by
  rcases h with h | ⟨o, its, n, hk, hc, hd, hs, hz, r⟩
  · obtain ⟨z, its, n, r, e⟩ := h.ok I.hok
    exact ⟨its, r, ⟨_, n, e, rfl, rfl, rfl⟩, z⟩
  · refine ⟨its.toList, r, ⟨o, n, I.kIn a o hk, hc, hd, by simpa using hs⟩, ?_⟩
    have e := r.length
    simp only [Array.length_toList] at e
    omega
theorem Inv.tuple (I : Inv X pins σ H s) (h : SqT X.K H a xs) : ∃ its : List Value, Vals xs its ∧ IsTup s.heap a its.toArray ∧ xs.length ≤ sizeLine := by
  rcases h with h | ⟨o, its, n, hk, hc, hs, hz, r⟩
  · obtain ⟨z, its, r, p⟩ := h.ok I.hok
    exact ⟨its, r, p, z⟩
  · refine ⟨its.toList, r, ⟨o, I.kIn a o hk, hc, n, by simpa using hs⟩, ?_⟩
    have e := r.length
    simp only [Array.length_toList] at e
    omega
theorem Inv.list_inj (I : Inv X pins σ H s) (h : SqL X.K H a xs) (h' : SqL X.K H a ys) : xs = ys := by
  obtain ⟨its, r, ⟨o, n, e, _, _, d⟩, _⟩ := I.list h
  obtain ⟨its', r', ⟨o', n', e', _, _, d'⟩, _⟩ := I.list h'
  rw [e] at e'; cases e'
  rw [d] at d'
  injection d' with d1 _
  have : its = its' := by simpa using congrArg Array.toList d1
  subst this
  exact r.inj r'
end
noncomputable abbrev Cx.wish (X : Cx) (E : Value → Shared → Prop) : Cx := { X with xe := E }
noncomputable abbrev Cx.nox (X : Cx) : Cx := X.wish fun _ _ => False
theorem Cx.Ok.wish {X : Cx} (ok : X.Ok) (E : Value → Shared → Prop) : (X.wish E).Ok :=
  ⟨ok.mod, ok.kind, ok.glob, ok.blt, ok.above, ok.inj, ok.has, ok.cab, ok.hd, ok.frames, ok.stk, ok.exf, ok.bs, ok.bsz, ok.noex, ok.exfs, ok.funs, ok.frf⟩
theorem Cx.Ok.unwish {X : Cx} {E : Value → Shared → Prop} (ok : (X.wish E).Ok) : X.Ok :=
  ⟨ok.mod, ok.kind, ok.glob, ok.blt, ok.above, ok.inj, ok.has, ok.cab, ok.hd, ok.frames, ok.stk, ok.exf, ok.bs, ok.bsz, ok.noex, ok.exfs, ok.funs, ok.frf⟩
noncomputable section
variable {X : Cx} {pins : List (Addr × Obj)} {σ : St} {H : Hp} {s : Shared} {E : Value → Shared → Prop}
theorem Inv.wish (I : Inv X pins σ H s) (E : Value → Shared → Prop) : Inv (X.wish E) pins σ H s := ⟨I.ok.wish E, I.os, I.bare, I.base, I.loc, I.cell, I.free, I.freeC, I.pin, I.hok, I.len⟩
theorem Inv.unwish (I : Inv (X.wish E) pins σ H s) : Inv X pins σ H s := ⟨I.ok.unwish, I.os, I.bare, I.base, I.loc, I.cell, I.free, I.freeC, I.pin, I.hok, I.len⟩
theorem SP.unwish {D : Ends} {f : Flow} {s' : Shared} (h : SP (X.wish E) pins D f s') : SP X pins D f s' := by
  cases f with
  | next => obtain ⟨σ', H', I, q⟩ := h; exact ⟨σ', H', I.unwish, q⟩
  | brk => obtain ⟨σ', H', I, q⟩ := h; exact ⟨σ', H', I.unwish, q⟩
  | cont => obtain ⟨σ', H', I, q⟩ := h; exact ⟨σ', H', I.unwish, q⟩
  | ret u => obtain ⟨v, σ', H', I, r, q⟩ := h; exact ⟨v, σ', H', I.unwish, r, q⟩
theorem PSs.nox {st : List Stmt} {t : TS} (h : PSs X.nox st t) : PSs X st t := fun pins s σ H D I hw =>
  wpAny_mono (h pins s σ H D (I.wish _) hw) (fun _ _ q => q.unwish) fun _ _ z => False.elim z
end
noncomputable section
variable {X : Cx} {st : Stmt} {rest : List Stmt} {t u : TS} {e : Expr} {te : TE} {pos : Pos}
noncomputable def tNext : TS := fun D σ H => D.nx σ H
noncomputable def tSeq (t u : TS) : TS := fun D σ H => t { D with nx := u D } σ H
theorem pss_nil : PSs X [] tNext := fun _ _ σ H _ I h => wpAny_execs_nil ⟨σ, H, I, h⟩
theorem pss_cons (h1 : PS X st t) (h2 : PSs X rest u) : PSs X (st :: rest) (tSeq t u) := by
  intro pins s σ H D I h
  refine wpAny_execs_cons (thn (h1 pins s σ H { D with nx := u D } I h) fun f s1 q => ?_)
  cases f with
  | next =>
    obtain ⟨σ', H', I', q⟩ := q
    exact h2 pins s1 σ' H' D I' q
  | ret v => exact q
  | brk => exact q
  | cont => exact q
theorem pss_one (h1 : PS X st t) : PSs X [st] t := by
  intro pins s σ H D I h
  refine wpAny_execs_cons (thn (h1 pins s σ H D I h) fun f s1 q => ?_)
  cases f with
  | next => exact wpAny_execs_nil q
  | ret v => exact q
  | brk => exact q
  | cont => exact q
theorem Inv.quiet {pins : List (Addr × Obj)} {σ : St} {H : Hp} {s : Shared} (I : Inv X pins σ H s) : interactive X.env = false := by simp [interactive, I.ok.kind]
noncomputable def tDrop (te : TE) : TS := fun D σ H => te σ H fun _ H1 => D.nx σ H1
theorem ps_expr (he : PE X e te) (hs : swapsWith e none pos.line X.env = pure false := by rfl) : PS X (.Expr e pos) (tDrop te) := by
  intro pins s σ H D I h
  exact wpAny_Expr_any (thn (he pins s σ H _ I h) fun v s1 ⟨x, H1, I1, r1, q1⟩ => ⟨σ, H1, I1, q1⟩) I.quiet hs
noncomputable def tRet (te : TE) : TS := fun D σ H => te σ H D.rt
theorem ps_ret (he : PE X e te) : PS X (.Return (some e) pos) (tRet te) := by
  intro pins s σ H D I h
  exact wpAny_Return_some (thn (he pins s σ H _ I h) fun v s1 ⟨x, H1, I1, r1, q1⟩ => ⟨x, σ, H1, I1, r1, q1⟩)
noncomputable def tIfS (c : TT) (t u : TS) : TS := fun D σ H => c σ H fun b H1 => if b = true then t D σ H1 else u D σ H1
theorem ps_if {c : Expr} {a b : List Stmt} {tc : TT} (hc : PT X c tc) (ha : PSs X a t) (hb : PSs X b u) : PS X (.If c a b pos) (tIfS tc t u) := by
  intro pins s σ H D I h
  refine wpAny_If (thn (hc pins s σ H _ I h) fun d s1 ⟨H1, I1, q1⟩ => ?_)
  cases d with
  | true => exact ha pins s1 σ H1 D I1 q1
  | false => exact hb pins s1 σ H1 D I1 q1
end
noncomputable abbrev TG := V → St → Hp → (St → Hp → Prop) → Prop
noncomputable abbrev TGs := List V → St → Hp → (St → Hp → Prop) → Prop
noncomputable def PG (X : Cx) (target : Expr) (t : TG) : Prop :=
  ∀ (pins : List (Addr × Obj)) (s : Shared) (σ : St) (H : Hp) (v : V) (u : Value) (Q : St → Hp → Prop), Inv X pins σ H s → RelV v u → t v σ H Q →
    wpAny (model X.prog X.w) X.A (assign target X.env u) (fun _ s' => ∃ σ' H', Inv X pins σ' H' s' ∧ Q σ' H') X.xe s
noncomputable def PGs (X : Cx) (ts : List Expr) (t : TGs) : Prop :=
  ∀ (pins : List (Addr × Obj)) (s : Shared) (σ : St) (H : Hp) (vs : List V) (us : List Value) (Q : St → Hp → Prop), Inv X pins σ H s → Vals vs us → t vs σ H Q →
    wpAny (model X.prog X.w) X.A (assignInOrder ((assignEach ts X.env).map (·.2)) us) (fun _ s' => ∃ σ' H', Inv X pins σ' H' s' ∧ Q σ' H') X.xe s
noncomputable abbrev TSet := V → V → V → Hp → (Hp → Prop) → Prop
noncomputable def PSet (X : Cx) (t : TSet) : Prop :=
  ∀ (pins : List (Addr × Obj)) (s : Shared) (σ : St) (H : Hp) (o i v : V) (ov iv u : Value) (Q : Hp → Prop), Inv X pins σ H s → RelV o ov → RelV i iv → RelV v u → t o i v H Q →
    wpAny (model X.prog X.w) X.A (setItem ov iv u) (fun _ s' => ∃ H', Inv X pins σ H' s' ∧ Q H') X.xe s
noncomputable section
variable {X : Cx} {pos : Pos}
noncomputable def gName (i : Nat) : TG := fun v σ H Q => Q (σ.set i (some v)) H
theorem pg_name {i : Nat} {x : Str} (hN : X.N.Nodup) (hi : X.N[i]? = some x) (hx : Loc X.env.scope x) (hf : X.fn x = true ∨ X.env.scope.names.lookup x = some .local := by first | exact .inl rfl | exact .inr rfl | assumption) : PG X (.Name x pos) (gName i) := by
  intro pins s σ H v u Q I r h
  exact wpAny_assign_Name (store_ok I hN hi hx r (fun s' I' => ⟨_, H, I', h⟩) hf)
noncomputable def gNil : TGs := fun vs σ H Q => vs = [] ∧ Q σ H
noncomputable def gCons (t : TG) (u : TGs) : TGs := fun vs σ H Q => ∃ v r, vs = v :: r ∧ t v σ H fun σ' H' => u r σ' H' Q
theorem pgs_nil : PGs X [] gNil := by
  intro pins s σ H vs us Q I r h
  obtain ⟨e, h⟩ := h
  subst e
  cases r
  exact assignInOrder_nil ⟨σ, H, I, h⟩
theorem pgs_cons {e : Expr} {es : List Expr} {t : TG} {u : TGs} (h1 : PG X e t) (h2 : PGs X es u)
    (hs : (assignEach (e :: es) X.env).map (·.2) = assign e X.env :: (assignEach es X.env).map (·.2) := by rfl) : PGs X (e :: es) (gCons t u) := by
  intro pins s σ H vs us Q I r h
  obtain ⟨v, vr, e1, h⟩ := h
  subst e1
  cases r with
  | cons r rr =>
    rw [hs]
    refine assignInOrder_cons (thn (h1 pins s σ H _ _ _ I r h) fun _ s1 ⟨σ1, H1, I1, q1⟩ => ?_)
    exact h2 pins s1 σ1 H1 _ _ Q I1 rr q1
noncomputable def gTup (K : PySem.W.Frag) (n : Nat) (t : TGs) : TG := fun v σ H Q => ∃ a xs, v = .ref a ∧ SqT K H a xs ∧ xs.length = n ∧ t xs σ H Q
theorem pg_tup {es : List Expr} {k : Nat} {t : TGs} {n : Nat} (hc : X.calm = true) (h : PGs X es t)
    (hn : (assignEach es X.env).length = n := by rfl) (hst : (assignEach es X.env).findIdx? (·.1) = none := by rfl) : PG X (.Tuple es k pos) (gTup X.K n t) := by
  intro pins s σ H v u Q I r hw
  obtain ⟨a, xs, e1, hq, hl, hw⟩ := hw
  subst e1
  cases r
  obtain ⟨its, rv, ht, hz⟩ := I.tuple hq
  refine assign_Tuple_tuple (I.ok.hd hc) ht (by simp [hn, ← hl, rv.length]) hst fun h' hx => ?_
  have I1 : Inv X pins σ H { s with heap := h' } := I.kept (t' := s.toks) fun b o e => hx b o (Nat.ne_of_lt (Heap.lt_size e)) e
  exact h pins _ σ H xs _ Q I1 (by simpa using rv) hw
noncomputable def gSub (to ti : TE) (t : TSet) : TG := fun v σ H Q => to σ H fun o H1 => ti σ H1 fun i H2 => t o i v H2 fun H3 => Q σ H3
theorem pg_sub {o i : Expr} {to ti : TE} {t : TSet} (ho : PE X o to) (hi : PE X i ti) (hs : PSet X t)
    (ha : ∀ v, assign (.Subscript o i pos) X.env v = (do
      let ov ← holding [v] (eval o X.env)
      let iv ← holding [v, ov] (eval i X.env)
      standAt pos
      holding [v, ov, iv] (setItem ov iv v)
      release [v, ov, iv] []) := by intro _; rfl) : PG X (.Subscript o i pos) (gSub to ti t) := by
  intro pins s σ H v u Q I r h
  rw [ha]
  refine wpAny_bind (wpAny_holding (thn (ho pins s σ H _ I h) fun ov s1 ⟨x, H1, I1, r1, q1⟩ => ?_))
  refine wpAny_bind (wpAny_holding (thn (hi pins s1 σ H1 _ I1 q1) fun iv s2 ⟨y, H2, I2, r2, q2⟩ => ?_))
  refine wpAny_bind (wpAny_standAt (wpAny_bind (wpAny_holding (thn (hs pins s2 σ H2 x y v ov iv u _ I2 r1 r2 r q2) fun _ s3 ⟨H3, I3, q3⟩ => ?_))))
  exact wpAny_release ⟨σ, H3, I3, q3⟩
noncomputable def tAsg (te : TE) (g : TG) : TS := fun D σ H => te σ H fun x H1 => g x σ H1 D.nx
theorem ps_asg {tg e : Expr} {te : TE} {g : TG} (he : PE X e te) (hg : PG X tg g) (hs : swapsWithSole [tg] e pos.line X.env = pure false := by rfl) (hw : swappedStores [tg] e X.env = pure none := by rfl)
    (h1 : (assignEach [tg] X.env).map (·.2) = [assign tg X.env] := by rfl) : PS X (.Assign [tg] e pos) (tAsg te g) := by
  intro pins s σ H D I h
  refine wpAny_Assign_stores (thn (he pins s σ H _ I h) fun v s1 ⟨x, H1, I1, r1, q1⟩ => ?_) hs hw
  rw [h1]
  exact thn (hg pins s1 σ H1 x v _ I1 r1 q1) fun _ s2 q => q
theorem ps_set {i : Nat} {x : Str} {e : Expr} {te : TE} {pos' : Pos} (hN : X.N.Nodup) (hi : X.N[i]? = some x) (hx : Loc X.env.scope x) (he : PE X e te) (hs : swapsWith e (some (.Name x pos')) pos.line X.env = pure false := by rfl) (hf : X.fn x = true ∨ X.env.scope.names.lookup x = some .local := by first | exact .inl rfl | exact .inr rfl | assumption) :
    PS X (.Assign [.Name x pos'] e pos) (tAsg te (gName i)) := by
  intro pins s σ H D I h
  refine wpAny_Assign_Name (thn (he pins s σ H _ I h) fun v s1 ⟨y, H1, I1, r1, q1⟩ => ?_) hs
  exact store_ok I1 hN hi hx r1 (fun s2 I2 => ⟨_, H1, I2, q1⟩) hf
end
noncomputable section
variable {X : Cx} {pos : Pos}
end
structure It where
  go : Nat → Hp → Prop
  yld : Nat → Hp → V → Hp → Prop
  stop : Nat → Hp → Prop
noncomputable def FpOk (X : Cx) (pins : List (Addr × Obj)) (H : Hp) (b : Addr) : Prop :=
  H b = none ∧ b ≠ X.env.locals ∧ b ∉ X.fs ∧ (b ∈ X.ex ∨ X.s₀.heap.objs.size ≤ b) ∧ (∀ x c, X.env.cells.lookup x = some c → c ≠ b) ∧ ∀ p ∈ X.pn ++ pins, p.1 ≠ b
theorem Inv.fpOk {X : Cx} {pins : List (Addr × Obj)} {σ : St} {H H' : Hp} {s : Shared} {b : Addr} (I : Inv X pins σ H s) (hb : s.heap.objs.size ≤ b) (hn : H' b = none) : FpOk X pins H' b := by
  refine ⟨hn, Nat.ne_of_gt (Nat.lt_of_lt_of_le I.lt hb), I.nofs hb, .inr (Nat.le_trans I.sz hb), fun x c e z => ?_, fun p hp z => ?_⟩
  · obtain ⟨v, q⟩ := I.cell x c e
    exact absurd (Nat.lt_of_lt_of_le q.lt (by rw [z]; exact hb)) (Nat.lt_irrefl _)
  · exact absurd (Nat.lt_of_lt_of_le (Heap.lt_size (I.pin p hp).1) (by rw [z]; exact hb)) (Nat.lt_irrefl _)
structure Turn (P : Program) (w : World) (K : PySem.W.Frag) (tg : Expr) (J : It) (fp : List Addr) (it : Addr) (tn : Nat → Heap → Prop) : Prop where
  mem : it ∈ fp
  obj : ∀ i h, tn i h → ∀ b ∈ fp, ∃ o, h.get? b = some o ∧ ∀ v, o.data ≠ .cell v
  keep : ∀ i h h', tn i h → (∀ b ∈ fp, ∀ o, h.get? b = some o → h'.get? b = some o) → tn i h'
  item : ∀ (X : Cx), X.prog = P → X.w = w → X.K = K → X.calm = true → ∀ (i : Nat) (pins : List (Addr × Obj)) (s : Shared) (σ : St) (H : Hp) (E : Value → Shared → Prop), Inv X pins σ H s → (∀ b ∈ fp, FpOk X pins H b) → tn i s.heap → J.go i H →
    wpAny (model P w) X.A (pyNext (.ref it)) (fun r s1 => ∃ u, r = some u ∧
      wpAny (model P w) X.A (letOwnedTupleGo tg (.ref it) u) (fun _ s2 => ∃ x H', Inv X pins σ H' s2 ∧ RelV x u ∧ J.yld i H x H' ∧ tn (i + 1) s2.heap ∧ ∀ b ∈ fp, H' b = none) E s1) E s
  done : ∀ (X : Cx), X.prog = P → X.w = w → X.K = K → X.calm = true → ∀ (i : Nat) (pins : List (Addr × Obj)) (s : Shared) (σ : St) (H : Hp) (E : Value → Shared → Prop), Inv X pins σ H s → (∀ b ∈ fp, FpOk X pins H b) → tn i s.heap → J.stop i H →
    wpAny (model P w) X.A (pyNext (.ref it)) (fun r s1 => r = none ∧ Inv X pins σ H s1) E s
  self : ∀ (A : Around) (i : Nat) (s : Shared) (Q : Value → Shared → Prop) (E : Value → Shared → Prop), tn i s.heap → Q (.ref it) s → wpAny (model P w) A (pyIter (.ref it)) Q E s
noncomputable abbrev TI := St → Hp → (It → Hp → Prop) → Prop
noncomputable def PIE (X : Cx) (pins : List (Addr × Obj)) (σ : St) (tg : Expr) (R : It → Hp → Prop) (itv : Value) (s2 : Shared) : Prop :=
  ∃ (it : Addr) (fp : List Addr) (tn : Nat → Heap → Prop) (J : It) (H' : Hp), itv = .ref it ∧ Inv X pins σ H' s2 ∧ Turn X.prog X.w X.K tg J fp it tn ∧ tn 0 s2.heap ∧ (∀ b ∈ fp, FpOk X pins H' b) ∧ R J H'
noncomputable def PI (X : Cx) (tg iter : Expr) (wi : TI) : Prop :=
  ∀ (pins : List (Addr × Obj)) (s : Shared) (σ : St) (H : Hp) (R : It → Hp → Prop), Inv X pins σ H s → wi σ H R →
    wpAny (model X.prog X.w) X.A (eval iter X.env) (fun v s1 => wpAny (model X.prog X.w) X.A (pyIter v) (PIE X pins σ tg R) X.xe s1) X.xe s
theorem go_of {M : Model} {A : Around} {E : Value → Shared → Prop} {s : Shared} {tg : Expr} {it : Addr} {u : Value} {o : Obj} {n : String} {vs : Array Value} {Q : Unit → Shared → Prop} (ho : s.heap.get? it = some o) (hc : o.cls = .type n) (hd : o.data = .fields vs)
    (hn : ["enumerate", "zip", "dict_itemiterator", "dict_reverseitemiterator", "odict_iterator", "itertools.zip_longest", "itertools.pairwise"].contains n = false) (hQ : Q () s) : wpAny M A (letOwnedTupleGo tg (.ref it) u) Q E s := by
  unfold letOwnedTupleGo
  cases tg <;> first
    | exact wpAny_pure hQ
    | (cases u <;> first
        | exact wpAny_pure hQ
        | (refine wpAny_bind (wpAny_load ho ?_)
           rw [hc, hd]
           show wpAny M A (if (["enumerate", "zip", "dict_itemiterator", "dict_reverseitemiterator", "odict_iterator", "itertools.zip_longest", "itertools.pairwise"].contains n && vs[0]? == some (rawInt _)) = true then _ else _) Q E s
           rw [if_neg (by intro h; rw [hn, Bool.false_and] at h; cases h)]
           exact wpAny_pure hQ))
noncomputable def Itl (K : PySem.W.Frag) (a : Addr) : It :=
  ⟨fun i H => ∃ xs x, SqL K H a xs ∧ xs[i]? = some x, fun i H x H' => H' = H ∧ ∀ xs, SqL K H a xs → xs[i]? = some x, fun i H => ∃ xs, SqL K H a xs ∧ xs.length ≤ i⟩
noncomputable def Itr (lo : Int) (n : Nat) : It := ⟨fun i _ => i < n, fun i H x H' => H' = H ∧ x = .int (lo + i), fun i _ => n ≤ i⟩
theorem turn_list {P : Program} {w : World} {K : PySem.W.Frag} {tg : Expr} (a it : Addr) : Turn P w K tg (Itl K a) [it] it (fun i h => h.IsListIter it a i) where
  mem := by simp
  obj := fun i h st b hb => by
    have e : b = it := by simpa using hb
    subst e
    obtain ⟨o, e, c, d⟩ := st
    exact ⟨o, e, fun v z => by rw [d] at z; cases z⟩
  keep := fun i h h' st k => st.at fun o e => k it (by simp) o e
  item := by
    intro X hP hw hK hc i pins s σ H E I hf st hg
    subst hP hw hK
    obtain ⟨xs, x, hq, hx⟩ := hg
    obtain ⟨its, rv, p, hz⟩ := I.list hq
    obtain ⟨u, hu, ru⟩ := rv.get hx
    obtain ⟨f0, f1, f2, f3, f4, f5⟩ := hf it (by simp)
    refine wpAny_pyNext_list_item st p.isList (x := u) (by simpa using hu) fun h' st' sb => ?_
    have I1 : Inv X pins σ H { s with heap := h' } := I.turned (t' := s.toks) (fun b o hb e => (sb.2 b hb).trans e) f0 f1 f3 f4 f5
    obtain ⟨o, e, c, d⟩ := id st'
    exact ⟨u, rfl, go_of (s := { s with heap := h' }) e c d (by decide) ⟨x, H, I1, ru, ⟨rfl, fun ys hy => by rw [I.list_inj hy hq]; exact hx⟩, st', fun b hb => (hf b hb).1⟩⟩
  done := by
    intro X hP hw hK hc i pins s σ H E I hf st hg
    subst hP hw hK
    obtain ⟨xs, hq, hx⟩ := hg
    obtain ⟨its, rv, p, hz⟩ := I.list hq
    obtain ⟨f0, f1, f2, f3, f4, f5⟩ := hf it (by simp)
    have hl := rv.length
    exact wpAny_pyNext_list_end (I.ok.hd hc) st p.isList (by simp; omega) fun h' eb => ⟨rfl, I.turned (t' := s.toks) (fun b o hb e => eb b o hb e) f0 f1 f3 f4 f5⟩
  self := fun _ _ _ _ _ st h => wpAny_pyIter_listiter st h
theorem turn_range {P : Program} {w : World} {K : PySem.W.Frag} {tg : Expr} (it : Addr) (lo : Int) (n : Nat) : Turn P w K tg (Itr lo n) [it] it (fun i h => IsRangeIter h it (lo + (i : Nat) * 1) ((n : Int) - (i : Nat)) 1) where
  mem := by simp
  obj := fun i h st b hb => by
    have e : b = it := by simpa using hb
    subst e
    exact ⟨_, st, fun v z => by
      have z' : Data.fields _ = Data.cell v := z
      cases z'⟩
  keep := fun i h h' st k => k it (by simp) _ st
  item := by
    intro X hP hw hK hc i pins s σ H E I hf st hg
    subst hP hw hK
    obtain ⟨f0, f1, f2, f3, f4, f5⟩ := hf it (by simp)
    have W := Walks.range (prog := X.prog) (w := X.w) (I.ok.hd hc) it lo 1 n
    refine W.item i s _ _ hg st fun v h' tk hv st' kk => ?_
    obtain ⟨t, rfl⟩ := hv
    have I1 : Inv X pins σ H { s with heap := h', toks := tk } := I.turned (fun b o hb e => kk b o (by simpa using hb) e) f0 f1 f3 f4 f5
    refine ⟨_, rfl, go_of (s := { s with heap := h', toks := tk }) (n := "range_iterator") st' rfl rfl (by decide) ⟨.int (lo + i), H, I1, ⟨t, ?_⟩, ⟨rfl, rfl⟩, st', fun b hb => (hf b hb).1⟩⟩
    rw [Int.mul_one]
  done := by
    intro X hP hw hK hc i pins s σ H E I hf st hg
    subst hP hw hK
    obtain ⟨f0, f1, f2, f3, f4, f5⟩ := hf it (by simp)
    exact wpAny_pyNext_range_end (I.ok.hd hc) st (by have : n ≤ i := hg; omega) fun h' eb => ⟨rfl, I.turned (t' := s.toks) (fun b o hb e => eb b o hb e) f0 f1 f3 f4 f5⟩
  self := fun _ _ _ _ _ st h => wpAny_pyIter_rangeiter st h
end L2
namespace L2
open PySem PySem.Spec PyProof.Rows
noncomputable section
variable {X : Cx} {tg : Expr}
noncomputable def iList (K : PySem.W.Frag) (tl : TE) : TI := fun σ H R => tl σ H fun x H1 => ∃ a, x = .ref a ∧ (∃ xs, SqL K H1 a xs) ∧ R (Itl K a) H1
theorem pi_list {l : Expr} {tl : TE} (hl : PE X l tl) : PI X tg l (iList X.K tl) := by
  intro pins s σ H R I h
  refine thn (hl pins s σ H _ I h) fun v s1 ⟨x, H1, I1, r1, q1⟩ => ?_
  obtain ⟨a, e, ⟨xs, hq⟩, q⟩ := q1
  subst e
  cases r1
  obtain ⟨its, rv, p, hz⟩ := I1.list hq
  refine wpAny_pyIter_list p.isList ?_
  refine ⟨s1.heap.objs.size, [s1.heap.objs.size], _, _, H1, rfl, I1.kept (t' := s1.toks) fun b o e => Heap.get?_push_of_some _ e, turn_list a _, ⟨_, Heap.get?_push_size _ rfl, rfl, rfl⟩, fun b hb => ?_, q⟩
  have e : b = s1.heap.objs.size := by simpa using hb
  subst e
  exact I1.fpOk (Nat.le_refl _) (I1.hok.fresh (Nat.le_refl _))
theorem range_it {pins : List (Addr × Obj)} {σ : St} {H : Hp} {s : Shared} {R : It → Hp → Prop} {E : Value → Shared → Prop} {lo hi : Int} {t u v : Tok} {tk : Nat} (I : Inv X pins σ H s) (h1 : -(2 ^ 62) ≤ lo) (h2 : lo < 2 ^ 62) (h3 : -(2 ^ 62) ≤ hi) (h4 : hi < 2 ^ 62)
    (q : R (Itr lo (hi - lo).toNat) H) : wpAny (model X.prog X.w) X.A (pyIter (.ref s.heap.objs.size)) (PIE X pins σ tg R) E { s with heap := s.heap.push { cls := .type "range", data := .fields #[.int lo t, .int hi u, .int 1 v] }, toks := tk } := by
  refine wpAny_pyIter_range (IsRange.new ..) (small_one h1 h2 h3 h4) ?_
  have I1 : Inv X pins σ H { s with heap := s.heap.push { cls := .type "range", data := .fields #[.int lo t, .int hi u, .int 1 v] }, toks := tk } := I.kept fun b o e => Heap.get?_push_of_some _ e
  refine ⟨(s.heap.push { cls := .type "range", data := .fields #[.int lo t, .int hi u, .int 1 v] }).objs.size, [(s.heap.push { cls := .type "range", data := .fields #[.int lo t, .int hi u, .int 1 v] }).objs.size], _, _, H, rfl,
    I1.kept (t' := tk) fun b o e => Heap.get?_push_of_some _ e, turn_range _ lo (hi - lo).toNat, ?_, fun b hb => ?_, q⟩
  · have e1 : lo + ((0 : Nat) : Int) * 1 = lo := by simp
    have e2 : (((hi - lo).toNat : Nat) : Int) - ((0 : Nat) : Int) = Builtin.Range.rangeSize lo hi 1 := by rw [rangeSize_one]; split <;> omega
    show IsRangeIter _ _ (lo + ((0 : Nat) : Int) * 1) ((((hi - lo).toNat : Nat) : Int) - ((0 : Nat) : Int)) 1
    rw [e1, e2]
    exact Heap.get?_push_size _ rfl
  · have e : b = (s.heap.push { cls := .type "range", data := .fields #[.int lo t, .int hi u, .int 1 v] }).objs.size := by simpa using hb
    subst e
    exact I1.fpOk (Nat.le_refl _) (I1.hok.fresh (Nat.le_refl _))
noncomputable def iRng1 (ta : TA) : TI := fun σ H R => ta σ H fun vs H1 => ∃ j : Int, vs = [.int j] ∧ -(2 ^ 62) ≤ j ∧ j < 2 ^ 62 ∧ R (Itr 0 j.toNat) H1
theorem pi_range1 {a : Expr} {ta : TA} {p pos : Pos} (hg : Gl X "range") (hm : X.mg "range" = none) (ha : PA X [a] ta) (hs : starEach [a] X.env = [(false, eval a X.env)] := by rfl) : PI X tg (.Call (.Name "range" p) [a] [] pos) (iRng1 ta) := by
  intro pins s σ H R I h
  refine Call_ (ld_blt I hg hm boot_range (PyProof.Rows.callWith_type1 (thn (ha pos pins s σ H _ I h) fun us s1 ⟨vs, H1, I1, r1, q1⟩ => ?_) hs rfl))
  obtain ⟨j, e, q1, q2, q⟩ := q1
  subst e
  cases r1 with
  | cons r rr =>
    cases rr
    obtain ⟨t, rfl⟩ := r
    exact call_range_1 (range_it I1 (by omega) (by omega) q1 q2 (by simpa using q))
noncomputable def tFor (wi : TI) (g : TG) (tb : TS) : TS := fun D σ H => wi σ H fun J H1 => ∃ W : Nat → Nat → St → Hp → Prop, (∃ m, W 0 m σ H1) ∧ ∀ i m σ H, W i m σ H →
  (J.stop i H ∧ D.nx σ H) ∨ (J.go i H ∧ ∃ N : St → Hp → Prop, (∀ σ' H', N σ' H' → ∃ m', m' < m ∧ W (i + 1) m' σ' H') ∧ ∀ x H', J.yld i H x H' → g x σ H' fun σ2 H2 => tb { D with nx := N, ct := N, bk := D.nx } σ2 H2)
noncomputable def pinsAt (fp : List Addr) (h : Heap) : List (Addr × Obj) := fp.filterMap fun b => (h.get? b).map fun o => (b, o)
theorem mem_pinsAt {fp : List Addr} {h : Heap} {b : Addr} {o : Obj} (hb : b ∈ fp) (e : h.get? b = some o) : (b, o) ∈ pinsAt fp h := List.mem_filterMap.mpr ⟨b, hb, by rw [e]; rfl⟩
theorem of_pinsAt {fp : List Addr} {h : Heap} {p : Addr × Obj} (hp : p ∈ pinsAt fp h) : p.1 ∈ fp ∧ h.get? p.1 = some p.2 := by
  obtain ⟨b, hb, e⟩ := List.mem_filterMap.mp hp
  cases q : h.get? b with
  | none => rw [q] at e; cases e
  | some o =>
    rw [q] at e
    have e' : (b, o) = p := Option.some.inj e
    subst e'
    exact ⟨hb, q⟩
theorem Inv.pinned {pins : List (Addr × Obj)} {σ : St} {H : Hp} {s : Shared} {fp : List Addr} (I : Inv X pins σ H s) (hf : ∀ b ∈ fp, FpOk X pins H b) (ho : ∀ b ∈ fp, ∃ o, s.heap.get? b = some o ∧ ∀ v, o.data ≠ .cell v) : Inv X (pins ++ pinsAt fp s.heap) σ H s :=
  I.pins_of fun p hp => (List.mem_append.mp hp).elim (fun z => I.pin p (List.mem_append_right _ z)) fun z => by
    obtain ⟨hb, e⟩ := of_pinsAt z
    obtain ⟨f0, f1, f2, _⟩ := hf p.1 hb
    obtain ⟨o, e', d⟩ := ho p.1 hb
    rw [e] at e'; cases e'
    exact ⟨e, f0, f1, f2, d⟩
theorem Inv.unpinned {pins pl : List (Addr × Obj)} {σ : St} {H : Hp} {s : Shared} (I : Inv X (pins ++ pl) σ H s) : Inv X pins σ H s := I.pins_of fun p hp => I.pin p (List.mem_append_right _ (List.mem_append_left _ hp))
theorem ps_for {iter : Expr} {body : List Stmt} {wi : TI} {g : TG} {tb : TS} {pos : Pos} (hp : PassesOwn (model X.prog X.w) X.A X.env X.xe) (hc : X.calm = true) (hi : PI X tg iter wi) (hg : PG X tg g) (hb : PSs X body tb)
    (hs : ∀ x, foldedSetIterable iter X.env x = pure x := by intro _; rfl) : PS X (.For tg iter body [] pos) (tFor wi g tb) := by
  intro pins s σ H D I h
  refine wpAny_For (thn (hi pins s σ H _ I h) fun v s1 h1 => thn h1 fun itv s2 h2 => ?_) hs
  obtain ⟨it, fp, tn, J, H2, e, I2, T, st2, f2, W, ⟨m0, w0⟩, turn⟩ := h2
  subst e
  have stat : ∀ {H' : Hp}, (∀ b ∈ fp, H' b = none) → ∀ b ∈ fp, FpOk X pins H' b := fun hn b hb => ⟨hn b hb, (f2 b hb).2⟩
  refine codeAny_forLoop_any (fun n s' => ∃ i σ' H', Inv X pins σ' H' s' ∧ tn i s'.heap ∧ (∀ b ∈ fp, H' b = none) ∧ W i n σ' H') ?_ m0 ⟨0, σ, H2, I2, st2, fun b hb => (f2 b hb).1, w0⟩
  rintro n s3 ⟨i, σ3, H3, I3, st3, fr3, w3⟩
  rcases turn i n σ3 H3 w3 with ⟨stop, qn⟩ | ⟨go, N, hN, step⟩
  · refine wpAny_passesOwn hp (thn (T.done X rfl rfl rfl hc i pins s3 σ3 H3 X.xe I3 (stat fr3) st3 stop) fun r s4 ⟨hr, I4⟩ => ?_)
    subst hr
    exact wpAny_execs_nil ⟨σ3, H3, I4, qn⟩
  · refine wpAny_passesOwn hp (thn (T.item X rfl rfl rfl hc i pins s3 σ3 H3 X.xe I3 (stat fr3) st3 go) fun r s4 ⟨u, hr, h4⟩ => ?_)
    subst hr
    refine wpAny_passesOwn hp (thn h4 fun _ s5 ⟨x, H5, I5, r5, y5, st5, fr5⟩ => ?_)
    have I5' := I5.pinned (stat fr5) (T.obj _ _ st5)
    refine wpAny_passesOwn hp (thn (hg _ s5 σ3 H5 x u _ I5' r5 (step x H5 y5)) fun _ s6 ⟨σ6, H6, I6, q6⟩ => ?_)
    refine wpAny_passesOwn hp (thn (hb _ s6 σ6 H6 _ I6 q6) fun f s7 q7 => ?_)
    have again : ∀ {σ7 : St} {H7 : Hp}, Inv X (pins ++ pinsAt fp s5.heap) σ7 H7 s7 → N σ7 H7 → ∃ m, m < n ∧ ∃ i σ' H', Inv X pins σ' H' s7 ∧ tn i s7.heap ∧ (∀ b ∈ fp, H' b = none) ∧ W i m σ' H' := fun {σ7 H7} I7 n7 => by
      obtain ⟨m', hm, w7⟩ := hN σ7 H7 n7
      refine ⟨m', hm, i + 1, σ7, H7, I7.unpinned, T.keep _ _ _ st5 fun b hb o e => (I7.pin (b, o) (List.mem_append_right _ (List.mem_append_right _ (mem_pinsAt hb e)))).1, fun b hb => ?_, w7⟩
      obtain ⟨o, e, d⟩ := T.obj _ _ st5 b hb
      exact (I7.pin (b, o) (List.mem_append_right _ (List.mem_append_right _ (mem_pinsAt hb e)))).2.1
    cases f with
    | next => obtain ⟨σ7, H7, I7, n7⟩ := q7; exact again I7 n7
    | cont => obtain ⟨σ7, H7, I7, n7⟩ := q7; exact again I7 n7
    | brk => obtain ⟨σ7, H7, I7, q7⟩ := q7; exact ⟨σ7, H7, I7.unpinned, q7⟩
    | ret v => obtain ⟨x7, σ7, H7, I7, r7, q7⟩ := q7; exact ⟨x7, σ7, H7, I7.unpinned, r7, q7⟩
end
end L2
namespace L2
open PySem PySem.Spec PyProof.Rows
noncomputable abbrev R2 := V → V → Hp → VK → Prop
noncomputable def OpR (X : Cx) (f : Value → Value → Sem Value) (r : R2) : Prop :=
  ∀ (pins : List (Addr × Obj)) (s : Shared) (σ : St) (H : Hp) (x y : V) (v u : Value) (Q : VK), Inv X pins σ H s → RelV x v → RelV y u → r x y H Q →
    wpAny (model X.prog X.w) X.A (f v u) (EP X pins σ Q) X.xe s
noncomputable def UnR (X : Cx) (f : Value → Sem Value) (r : V → Hp → VK → Prop) : Prop :=
  ∀ (pins : List (Addr × Obj)) (s : Shared) (σ : St) (H : Hp) (x : V) (v : Value) (Q : VK), Inv X pins σ H s → RelV x v → r x H Q →
    wpAny (model X.prog X.w) X.A (f v) (EP X pins σ Q) X.xe s
noncomputable def CallR (X : Cx) (f : Value) (r : List V → Hp → VK → Prop) : Prop :=
  ∀ (pins : List (Addr × Obj)) (s : Shared) (σ : St) (H : Hp) (xs : List V) (us : List Value) (Q : VK), Inv X pins σ H s → Vals xs us → r xs H Q →
    wpAny (model X.prog X.w) X.A (call f us) (EP X pins σ Q) X.xe s
noncomputable def tOp (r : R2) (ta tb : TE) : TE := fun σ H Q => ta σ H fun x H1 => tb σ H1 fun y H2 => r x y H2 Q
noncomputable def tUn (r : V → Hp → VK → Prop) (ta : TE) : TE := fun σ H Q => ta σ H fun x H1 => r x H1 Q
noncomputable def rI (C : Int → Int → Prop) (g : Int → Int → V) : R2 := fun x y H Q => ∃ i j, x = .int i ∧ y = .int j ∧ C i j ∧ Q (g i j) H
noncomputable def rI0 (g : Int → Int → V) : R2 := fun x y H Q => ∃ i j, x = .int i ∧ y = .int j ∧ Q (g i j) H
noncomputable def rU (g : Int → V) : V → Hp → VK → Prop := fun x H Q => ∃ i, x = .int i ∧ Q (g i) H
noncomputable section
variable {X : Cx} {a b c : Expr} {ta tb tc : TE} {pos : Pos}
theorem binT (ha : PE X a ta) (hb : PE X b tb) {pins : List (Addr × Obj)} {s : Shared} {σ : St} {H : Hp} {R : V → V → Hp → Prop} (I : Inv X pins σ H s)
    (h : ta σ H fun x H1 => tb σ H1 fun y H2 => R x y H2) {Q : Value → Shared → Prop} {f : Value → Value → Sem Value}
    (hf : ∀ v u s2 x y H2, Inv X pins σ H2 s2 → RelV x v → RelV y u → R x y H2 → wpAny (model X.prog X.w) X.A (f v u) Q X.xe s2) :
    wpAny (model X.prog X.w) X.A (eval a X.env) (fun v s₁ => wpAny (model X.prog X.w) X.A (eval b X.env) (fun u s₂ => wpAny (model X.prog X.w) X.A (f v u) Q X.xe s₂) X.xe s₁) X.xe s := by
  refine thn (ha pins s σ H _ I h) fun v s1 ⟨x, H1, I1, r1, q1⟩ => ?_
  refine thn (hb pins s1 σ H1 _ I1 q1) fun u s2 ⟨y, H2, I2, r2, q2⟩ => ?_
  exact hf v u s2 x y H2 I2 r1 r2 q2
theorem pe_op {op : Operator} {r : R2} (ho : OpR X (binaryOp op) r) (ha : PE X a ta) (hb : PE X b tb) : PE X (.BinOp a op b pos) (tOp r ta tb) := by
  intro pins s σ H Q I h
  exact wpAny_BinOp (binT ha hb I h fun v u s2 x y H2 I2 rx ry q => ho pins s2 σ H2 x y v u Q I2 rx ry q)
theorem pe_un {op : UnaryOp} {r : V → Hp → VK → Prop} (ho : UnR X (unaryOp op) r) (ha : PE X a ta) : PE X (.UnaryOp op a pos) (tUn r ta) := by
  intro pins s σ H Q I h
  exact UnaryOp_ (thn (ha pins s σ H _ I h) fun v s1 ⟨x, H1, I1, r1, q1⟩ => ho pins s1 σ H1 x v Q I1 r1 q1)
theorem opI {f : Value → Value → Sem Value} {C : Int → Int → Prop} {g : Int → Int → Int}
    (rule : ∀ (i j : Int) (t u : Tok) (s : Shared) (Q : Value → Shared → Prop) (E : Value → Shared → Prop), C i j → Q (.int (g i j) s.toks) { s with toks := s.toks + 1 } → wpAny (model X.prog X.w) X.A (f (.int i t) (.int j u)) Q E s) :
    OpR X f (rI C fun i j => .int (g i j)) := by
  intro pins s σ H x y v u Q I rx ry h
  obtain ⟨i, j, rfl, rfl, hc, q⟩ := h
  obtain ⟨t, rfl⟩ := rx
  obtain ⟨t', rfl⟩ := ry
  exact rule i j t t' s _ _ hc ⟨.int (g i j), H, I.tok _, ⟨_, rfl⟩, q⟩
theorem opI0 {f : Value → Value → Sem Value} {g : Int → Int → Int}
    (rule : ∀ (i j : Int) (t u : Tok) (s : Shared) (Q : Value → Shared → Prop) (E : Value → Shared → Prop), Q (.int (g i j) s.toks) { s with toks := s.toks + 1 } → wpAny (model X.prog X.w) X.A (f (.int i t) (.int j u)) Q E s) :
    OpR X f (rI0 fun i j => .int (g i j)) := by
  intro pins s σ H x y v u Q I rx ry h
  obtain ⟨i, j, rfl, rfl, q⟩ := h
  obtain ⟨t, rfl⟩ := rx
  obtain ⟨t', rfl⟩ := ry
  exact rule i j t t' s _ _ ⟨.int (g i j), H, I.tok _, ⟨_, rfl⟩, q⟩
theorem opB0 {f : Value → Value → Sem Value} {g : Int → Int → Bool}
    (rule : ∀ (i j : Int) (t u : Tok) (s : Shared) (Q : Value → Shared → Prop) (E : Value → Shared → Prop), Q (.bool (g i j)) s → wpAny (model X.prog X.w) X.A (f (.int i t) (.int j u)) Q E s) :
    OpR X f (rI0 fun i j => .bl (g i j)) := by
  intro pins s σ H x y v u Q I rx ry h
  obtain ⟨i, j, rfl, rfl, q⟩ := h
  obtain ⟨t, rfl⟩ := rx
  obtain ⟨t', rfl⟩ := ry
  exact rule i j t t' s _ _ ⟨.bl (g i j), H, I, rfl, q⟩
noncomputable def CMul (i j : Int) : Prop := (-(2 ^ 64) < i ∧ i < 2 ^ 64) ∨ (-(2 ^ 64) < j ∧ j < 2 ^ 64)
theorem CMul.ok {i j : Int} (h : CMul i j) : IntMulOk i j := by
  rcases h with ⟨h1, h2⟩ | ⟨h1, h2⟩
  · exact .of_left (intBits_le_64 h1 h2)
  · exact .of_right (intBits_le_64 h1 h2)
theorem op_add : OpR X (binaryOp .Add) (rI0 fun i j => .int (i + j)) := opI0 fun _ _ _ _ _ _ _ q => add_int q
theorem op_sub : OpR X (binaryOp .Sub) (rI0 fun i j => .int (i - j)) := opI0 fun _ _ _ _ _ _ _ q => sub_int q
theorem op_mul : OpR X (binaryOp .Mult) (rI CMul fun i j => .int (i * j)) := opI fun _ _ _ _ _ _ _ hc q => mul_int q hc.ok
theorem op_mod : OpR X (binaryOp .Mod) (rI (fun _ j => 0 < j) fun i j => .int (i % j)) := opI fun i j _ _ _ _ _ hc q => by
  have h1 : (0 : Int) < j := hc
  exact mod_int' (by omega) (by rw [Int.fmod_eq_emod_of_nonneg i (by omega)]; exact q)
theorem unI {f : Value → Sem Value} {g : Int → Int}
    (rule : ∀ (i : Int) (t : Tok) (s : Shared) (Q : Value → Shared → Prop) (E : Value → Shared → Prop), Q (.int (g i) s.toks) { s with toks := s.toks + 1 } → wpAny (model X.prog X.w) X.A (f (.int i t)) Q E s) :
    UnR X f (rU fun i => .int (g i)) := by
  intro pins s σ H x v Q I rx h
  obtain ⟨i, rfl, q⟩ := h
  obtain ⟨t, rfl⟩ := rx
  exact rule i t s _ _ ⟨.int (g i), H, I.tok _, ⟨_, rfl⟩, q⟩
theorem un_neg : UnR X (unaryOp .USub) (rU fun i => .int (-i)) := unI fun _ _ _ _ _ q => neg_int q
end
noncomputable def scal : V → V → Bool
  | .non, .non => true | .non, .int _ => true | .int _, .non => true | .non, .bl _ => true | .bl _, .non => true | .non, .str _ => true | .str _, .non => true
  | .int _, .int _ => true | .bl _, .bl _ => true | .str _, .str _ => true | .byt _, .byt _ => true
  | .int _, .str _ => true | .str _, .int _ => true | .bl _, .str _ => true | .str _, .bl _ => true
  | _, _ => false
noncomputable def rEq : R2 := fun x y H Q => scal x y = true ∧ Q (.bl (decide (x = y))) H
theorem dec_int {i j : Int} : decide (V.int i = V.int j) = (i == j) := by
  rw [Bool.eq_iff_iff]
  simp
theorem dec_bl {i j : Bool} : decide (V.bl i = V.bl j) = (i == j) := by
  rw [Bool.eq_iff_iff]
  simp
theorem dec_str {i j : Str} : decide (V.str i = V.str j) = (i == j) := by
  rw [Bool.eq_iff_iff]
  simp
theorem dec_byt {i j : Array UInt8} : decide (V.byt i = V.byt j) = (i.toList == j.toList) := by
  rw [Bool.eq_iff_iff]
  cases i
  cases j
  simp
noncomputable section
variable {X : Cx} {a b c : Expr} {ta tb tc : TE} {pos : Pos}
theorem fin_bl {pins : List (Addr × Obj)} {σ : St} {H : Hp} {s : Shared} {Q : VK} {k k' : Bool} (I : Inv X pins σ H s) (q : Q (.bl k) H) (e : k = k') : EP X pins σ Q (.bool k') s := by
  subst e
  exact ⟨.bl k, H, I, rfl, q⟩
theorem op_eq : OpR X (compareOp .Eq) rEq := by
  intro pins s σ H x y v u Q I rx ry h
  obtain ⟨hs, q⟩ := h
  cases x with
  | non =>
    cases rx
    cases y with
    | non => cases ry; exact PySem.EqNone.eq_none_none (fin_bl I q (by simp))
    | bl j => cases ry; exact PySem.EqNone.eq_none_bool (fin_bl I q (by simp))
    | int j => obtain ⟨t', rfl⟩ := ry; exact PySem.EqNone.eq_none_int (fin_bl I q (by simp))
    | str j => obtain ⟨t', rfl⟩ := ry; exact PySem.EqNone.eq_none_str (fin_bl I q (by simp))
    | _ => exact absurd (show false = true from hs) Bool.false_ne_true
  | bl i =>
    cases rx
    cases y with
    | non => cases ry; exact PySem.EqNone.eq_bool_none (fin_bl I q (by simp))
    | bl j => cases ry; exact eq_bool (fin_bl I q dec_bl)
    | str j => obtain ⟨t', rfl⟩ := ry; exact PySem.EqMixed.eq_bool_str (fin_bl I q (by simp))
    | _ => exact absurd (show false = true from hs) Bool.false_ne_true
  | int i =>
    obtain ⟨t, rfl⟩ := rx
    cases y with
    | non => cases ry; exact PySem.EqNone.eq_int_none (fin_bl I q (by simp))
    | int j => obtain ⟨t', rfl⟩ := ry; exact eq_int (fin_bl I q dec_int)
    | str j => obtain ⟨t', rfl⟩ := ry; exact PySem.EqMixed.eq_int_str (fin_bl I q (by simp))
    | _ => exact absurd (show false = true from hs) Bool.false_ne_true
  | str i =>
    obtain ⟨t, rfl⟩ := rx
    cases y with
    | non => cases ry; exact PySem.EqNone.eq_str_none (fin_bl I q (by simp))
    | bl j => cases ry; exact PySem.EqMixed.eq_str_bool (fin_bl I q (by simp))
    | int j => obtain ⟨t', rfl⟩ := ry; exact PySem.EqMixed.eq_str_int (fin_bl I q (by simp))
    | str j => obtain ⟨t', rfl⟩ := ry; exact eq_str (fin_bl I q dec_str)
    | _ => exact absurd (show false = true from hs) Bool.false_ne_true
  | byt i =>
    obtain ⟨t, rfl⟩ := rx
    cases y with
    | byt j => obtain ⟨t', rfl⟩ := ry; exact PySem.W.eq_bytes (fin_bl I q dec_byt)
    | _ => exact absurd (show false = true from hs) Bool.false_ne_true
  | _ => cases y <;> exact absurd (show false = true from hs) Bool.false_ne_true
theorem op_lt : OpR X (compareOp .Lt) (rI0 fun i j => .bl (decide (i < j))) := opB0 fun _ _ _ _ _ _ _ q => lt_int q
theorem op_gt : OpR X (compareOp .Gt) (rI0 fun i j => .bl (decide (j < i))) := opB0 fun _ _ _ _ _ _ _ q => gt_int q
theorem op_isN : OpR X (compareOp .Is) (fun x y H Q => y = .non ∧ Q (.bl (decide (x = .non))) H) := by
  intro pins s σ H x y v u Q I rx ry h
  obtain ⟨rfl, q⟩ := h
  cases ry
  refine is_none_gen (fin_bl I q ?_)
  cases x <;> first
    | (cases rx; rfl)
    | (obtain ⟨t, rfl⟩ := rx; rfl)
theorem OpR.or {f : Value → Value → Sem Value} {r r' : R2} (h : OpR X f r) (h' : OpR X f r') : OpR X f (fun x y H Q => r x y H Q ∨ r' x y H Q) := by
  intro pins s σ H x y v u Q I rx ry q
  rcases q with q | q
  · exact h pins s σ H x y v u Q I rx ry q
  · exact h' pins s σ H x y v u Q I rx ry q
theorem nomark (b : Expr) {op : CmpOp} (h : op ≠ .In := by decide) (h2 : op ≠ .NotIn := by decide) : behindInMarks op b = false := by
  have e1 : (op == CmpOp.In) = false := by cases op <;> first | rfl | exact absurd rfl h
  have e2 : (op == CmpOp.NotIn) = false := by cases op <;> first | rfl | exact absurd rfl h2
  cases b <;> simp [behindInMarks, e1, e2]
theorem pe_cmpR {op : CmpOp} {r : R2} (ho : OpR X (compareOp op) r) (ha : PE X a ta) (hb : PE X b tb) (hm : behindInMarks op b = false) : PE X (.Compare a [op] [b] pos) (tOp r ta tb) := by
  intro pins s σ H Q I h
  exact wpAny_Compare1 (binT ha hb I h fun v u s2 x y H2 I2 rx ry q => ho pins s2 σ H2 x y v u Q I2 rx ry q) hm
noncomputable def tTest (t : TE) : TT := fun σ H Q => t σ H fun x H' => ∃ k, x = .bl k ∧ Q k H'
theorem pt_cmpR {op : CmpOp} {r : R2} (ho : OpR X (compareOp op) r) (ha : PE X a ta) (hb : PE X b tb) (hm : behindInMarks op b = false) : PT X (.Compare a [op] [b] pos) (tTest (tOp r ta tb)) := by
  intro pins s σ H Q I h
  refine wpAny_isTrue_Compare1 (thn (ha pins s σ H _ I h) fun v s1 ⟨x, H1, I1, r1, q1⟩ => thn (hb pins s1 σ H1 _ I1 q1) fun u s2 ⟨y, H2, I2, r2, q2⟩ =>
    thn (ho pins s2 σ H2 x y v u _ I2 r1 r2 q2) fun c s3 ⟨z, H3, I3, r3, k, e, q3⟩ => ?_) hm
  subst e
  cases r3
  exact wpAny_truthy_bool ⟨H3, I3, q3⟩
theorem line63 : (sizeLine : Nat) < 2 ^ 63 := by rw [sizeLine_eq]; decide
theorem op_add_str : OpR X (binaryOp .Add) (fun x y H Q => ∃ i j, x = .str i ∧ y = .str j ∧ i.length + j.length ≤ sizeLine ∧ Q (.str (i ++ j)) H) := by
  intro pins s σ H x y v u Q I rx ry h
  obtain ⟨i, j, rfl, rfl, hz, q⟩ := h
  obtain ⟨t, rfl⟩ := rx
  obtain ⟨t', rfl⟩ := ry
  exact add_str (fun t' tk => ⟨.str (i ++ j), H, I.tok _, ⟨_, rfl⟩, q⟩) hz
theorem vals1 {x : V} {us : List Value} (r : Vals [x] us) : ∃ u, us = [u] ∧ RelV x u := by
  cases r with
  | cons r1 r2 => cases r2; exact ⟨_, rfl, r1⟩
end
end L2
namespace L2
open PySem PySem.Spec PyProof.Rows
structure ObjM (h : Heap) (x dx C : Addr) (mA : Str → Option Value) : Prop where
  obj : h.get? x = some (PySem.W.instObj C dx)
  ns : h.Ns1 dx mA
  ne : dx ≠ x
theorem lookIn_ns {h : Heap} {dx : Addr} {mA : Str → Option Value} (n : h.Ns1 dx mA) : ∃ od, h.get? dx = some od ∧ ∀ name, PySem.W.lookIn name od = some (mA name) := by
  obtain ⟨o, es, ep, ho, hd, hk, _, hm⟩ := n
  refine ⟨o, ho, fun name => ?_⟩
  have e := hm name
  unfold nsFind findBy at e
  rw [← Array.find?_toList] at e
  unfold PySem.W.lookIn
  rw [hd]
  dsimp only
  split
  · rename_i y q
    rw [q] at e
    exact congrArg some e
  · rename_i q
    rw [q] at e
    have a : es.toList.any (·.refKey) = false := by
      rw [List.any_eq_false]
      intro y hy
      obtain ⟨z, t, hkey⟩ := hk y (Array.mem_toList_iff.mp hy)
      simp [DictEntry.refKey, hkey]
    have a' : ¬ es.toList.any (·.refKey) = true := by rw [a]; exact Bool.false_ne_true
    rw [if_neg a']
    exact congrArg some e
theorem ObjM.look {h : Heap} {x dx C : Addr} {mA : Str → Option Value} (I : ObjM h x dx C mA) : ∃ od, PySem.W.InstAt h x (PySem.W.instObj C dx) C (some od) ∧ ∀ name, PySem.W.lookIn name od = some (mA name) :=
  let ⟨od, ho, hl⟩ := lookIn_ns I.ns
  ⟨od, ⟨I.obj, rfl, rfl, ho⟩, hl⟩
noncomputable section
variable {prog : Program} {w : World} {A : Around} {E : Value → Shared → Prop} {s : Shared} {K : PySem.W.Frag} {x dx C f : Addr} {mA : Str → Option Value} {name : Str} {v : Value}
end
theorem RelO.some_of {v : V} {o : Option Value} (r : RelO (some v) o) : ∃ u, o = some u ∧ RelV v u := by
  cases o with
  | none => exact (show False from r).elim
  | some u => exact ⟨u, rfl, r⟩
theorem handed_of {v : V} {u : Value} (r : RelV v u) : PySem.W.handedIn u = true := by
  cases v with
  | non => cases (show u = Value.none from r); rfl
  | bl b => cases (show u = Value.bool b from r); rfl
  | int i => obtain ⟨t, e⟩ := (show ∃ t, u = Value.int i t from r); cases e; rfl
  | str x => obtain ⟨t, e⟩ := (show ∃ t, u = Value.str x t from r); cases e; rfl
  | byt b => obtain ⟨t, e⟩ := (show ∃ t, u = Value.bytes b t from r); cases e; rfl
  | flt b => obtain ⟨t, e⟩ := (show ∃ t, u = Value.float b t from r); cases e; rfl
  | ref a => cases (show u = Value.ref a from r); rfl
  | ty n => cases (show u = Value.type n from r); rfl
noncomputable section
variable {P : Program} {w : World} {H H' : Hp} {h h' : Heap} {a C dx : Addr} {fs fs' : List (Str × V)}
theorem ins_get (hok : HOk P w H h) (e : H a = some (.ins C dx fs)) : ∃ mA, ObjM h a dx C mA ∧ (∀ f, RelO (fs.lookup f) (mA f)) ∧ PySem.Within mA (fs.map (·.1)) ∧ fs.length ≤ 1000 ∧ H dx = some (.own a) := by
  obtain ⟨d, z, ne, ob, mA, n, r, q⟩ := (show ObjOk P w H h a (.ins C dx fs) from hok a _ e)
  exact ⟨mA, ⟨ob, n, ne⟩, r, q, z, d⟩
end
structure Cls (K : PySem.W.Frag) (C : Addr) : Prop where
  pg : PySem.W.plainGet K C Str.empty = true
  hd : PySem.W.hasDictIn K C = true
  po : PySem.W.plainOver K C = true
  sa : PySem.W.findIn K (.ref C) "__setattr__" = some (some (.builtin "object.__setattr__"))
theorem Cls.get {K : PySem.W.Frag} {C : Addr} (c : Cls K C) (f : Str) : PySem.W.plainGet K C f = true := c.pg
noncomputable section
variable {X : Cx} {pins : List (Addr × Obj)} {σ : St} {H : Hp} {s : Shared} {a C dx : Addr} {fs : List (Str × V)} {f : Str} {v : V} {A : Around} {E : Value → Shared → Prop}
theorem attr_of {prog : Program} {w : World} {env : Env} {e : Expr} {f : Str} {pos : Pos} {s : Shared} {Q : Value → Shared → Prop} (hb : attributeBase e f env (eval e env) = eval e env)
    (h : wpAny (model prog w) A (eval e env) (fun o s₁ => wpAny (model prog w) A (getAttr o f true) Q E s₁) E s) : wpAny (model prog w) A (eval (.Attribute e f pos) env) Q E s :=
  Attribute_any_ h (by rw [arm_eval_Attribute, hb])
end
noncomputable section
variable {X : Cx} {o e value : Expr} {f : Str} {pos pos' tpos : Pos} {ta tv : TE}
end
noncomputable section
variable {X : Cx} {pins : List (Addr × Obj)} {σ : St} {H : Hp} {s : Shared} {A : Around} {E : Value → Shared → Prop} {Q : Value → Shared → Prop} {c : Value} {b : Bool}
inductive TyOf (K : PySem.W.Frag) (H : Hp) : V → Value → Prop where
  | non : TyOf K H .non (.type "NoneType")
  | bl (x : Bool) : TyOf K H (.bl x) (.type "bool")
  | int (i : Int) : TyOf K H (.int i) (.type "int")
  | str (x : Str) : TyOf K H (.str x) (.type "str")
  | flt (x : UInt64) : TyOf K H (.flt x) (.type "float")
  | lst {a : Addr} {xs : List V} (e : H a = some (.lst xs)) : TyOf K H (.ref a) (.type "list")
  | frz {a : Addr} {o : Obj} {xs : List V} (e : H a = some (.frz o (.lst xs))) : TyOf K H (.ref a) (.type "list")
  | tup {a : Addr} {xs : List V} (e : H a = some (.tup xs)) : TyOf K H (.ref a) (.type "tuple")
  | dK {a : Addr} {kvs : List (Key × V)} (e : H a = some (.dK kvs)) : TyOf K H (.ref a) (.type "dict")
  | dT {a : Addr} {kvs : List (List Key × V)} (e : H a = some (.dT kvs)) : TyOf K H (.ref a) (.type "dict")
  | ins {a C dx : Addr} {fs : List (Str × V)} (e : H a = some (.ins C dx fs)) (cl : Cls K C) (ha : PySem.W.findIn K (.ref C) "__class__" = some (some (.builtin "object.__class__")))
      (hn : PySem.W.specialIn K (.builtin "object.__class__") "__get__" = some (some (.builtin "getset_descriptor.__get__"))) (htk : PySem.W.takesIn K (.builtin "object.__class__") = some true)
      (hm : PySem.W.mroIn K C (.type "object") = some true) : TyOf K H (.ref a) (.ref C)
theorem isinst_ok {x : V} {u t : Value} (I : Inv X pins σ H s) (rx : RelV x u) (ty : TyOf X.K H x t) (e : PySem.W.kitOne X.K t c = some b) (h : ∀ tk, Q (.bool b) { s with toks := tk }) :
    wpAny (model X.prog X.w) A (call (.builtin "isinstance") [u, c]) Q E s := by
  cases ty with
  | non => cases (show u = Value.none from rx); exact PySem.W.kia_one PySem.W.kitx_none I.kIn True.intro e (fun z => nomatch z) h
  | bl y => cases (show u = Value.bool y from rx); exact PySem.W.kia_one PySem.W.kitx_bool I.kIn True.intro e (fun z => nomatch z) h
  | int i => obtain ⟨t, q⟩ := (show ∃ t, u = Value.int i t from rx); cases q; exact PySem.W.kia_one PySem.W.kitx_int I.kIn True.intro e (fun z => nomatch z) h
  | str y => obtain ⟨t, q⟩ := (show ∃ t, u = Value.str y t from rx); cases q; exact PySem.W.kia_one PySem.W.kitx_str I.kIn True.intro e (fun z => nomatch z) h
  | flt y => obtain ⟨t, q⟩ := (show ∃ t, u = Value.float y t from rx); cases q; exact PySem.W.kia_one PySem.W.kitx_float I.kIn True.intro e (fun z => nomatch z) h
  | @lst a xs ea =>
    cases (show u = Value.ref a from rx)
    obtain ⟨_, _, n, _, h1⟩ := (show ObjOk X.prog X.w H s.heap a (.lst xs) from I.hok a _ ea)
    exact PySem.W.kia_one PySem.W.kitx_list I.kIn ⟨_, h1, rfl⟩ e (fun z => nomatch z) h
  | @frz a ob xs ea =>
    cases (show u = Value.ref a from rx)
    obtain ⟨_, _, _, n, _, h1⟩ := (show ObjOk X.prog X.w H s.heap a (.frz ob (.lst xs)) from I.hok a _ ea)
    exact PySem.W.kia_one PySem.W.kitx_list I.kIn ⟨_, h1, rfl⟩ e (fun z => nomatch z) h
  | @tup a xs ea =>
    cases (show u = Value.ref a from rx)
    obtain ⟨_, _, _, p⟩ := (show ObjOk X.prog X.w H s.heap a (.tup xs) from I.hok a _ ea)
    obtain ⟨o, h1, h2, _⟩ := p
    exact PySem.W.kia_one PySem.W.kitx_tuple I.kIn ⟨o, h1, h2⟩ e (fun z => nomatch z) h
  | @dK a kvs ea =>
    cases (show u = Value.ref a from rx)
    obtain ⟨_, _, vs, _, p⟩ := (show ObjOk X.prog X.w H s.heap a (.dK kvs) from I.hok a _ ea)
    obtain ⟨o, es, ep, h1, h2, _⟩ := p
    exact PySem.W.kia_one PySem.W.kitx_dict I.kIn ⟨o, h1, h2.1⟩ e (fun z => nomatch z) h
  | @dT a kvs ea =>
    cases (show u = Value.ref a from rx)
    obtain ⟨_, _, xs, _, o, es, ep, h1, h2, _⟩ := (show ObjOk X.prog X.w H s.heap a (.dT kvs) from I.hok a _ ea)
    exact PySem.W.kia_one PySem.W.kitx_dict I.kIn ⟨o, h1, h2.1⟩ e (fun z => nomatch z) h
  | @ins a C dx fs ea cl ha hn htk hm =>
    cases (show u = Value.ref a from rx)
    obtain ⟨mA, O, _⟩ := ins_get I.hok ea
    obtain ⟨od, J, _⟩ := O.look
    exact PySem.W.kia_one (PySem.W.kitx_own (cl.get _) cl.hd ha hn htk hm) I.kIn J e (fun z => nomatch z) h
end
end L2
namespace L2
open PySem PySem.Spec PyProof.Rows
structure Room (k : Nat) (A : Around) : Prop where
  hd : A.handled = none
  dp : A.depth + 3 * k + 5 < recursionLimit
  un : A.units + 16 * k + 200 < cLine
theorem Room.mono {j k : Nat} {A : Around} (r : Room k A) (h : j ≤ k) : Room j A := ⟨r.hd, by have := r.dp; omega, by have := r.un; omega⟩
theorem Room.deeper {k : Nat} {A : Around} (r : Room (k + 1) A) (env : Env) : Room k (A.deeper env) :=
  ⟨r.hd, by have := r.dp; show A.depth + 1 + 3 * k + 5 < _; omega, by have := r.un; show A.units + 3 + 16 * k + 200 < _; omega⟩
theorem Room.in1 {k : Nat} {A : Around} (r : Room (k + 1) A) : Room k A.in1 :=
  ⟨r.hd, by have := r.dp; show A.depth + 3 * k + 5 < _; omega, by have := r.un; show A.units + 1 + 16 * k + 200 < _; omega⟩
theorem make_depth {A : Around} {C : Addr} {us : List Value} {kw : List (Str × Value)} : (A.under (.builtin "type.__call__" ⟨.ref C :: us, kw⟩)).depth = A.depth + 1 := by
  first | rfl | simp [Around.under, Code.weight, Code.isCreation, Code.isGuard, Code.isCaller, Code.frames, Code.isFrame, guardIds]
theorem make_units {A : Around} {C : Addr} {us : List Value} {kw : List (Str × Value)} : (A.under (.builtin "type.__call__" ⟨.ref C :: us, kw⟩)).units = A.units + 1 := by
  first | rfl | simp [Around.under, Code.cUnits, Code.frames, Code.isFrame]
theorem Room.make {k : Nat} {A : Around} (r : Room (k + 1) A) (C : Addr) (us : List Value) (kw : List (Str × Value)) : Room k (A.under (.builtin "type.__call__" ⟨.ref C :: us, kw⟩)) :=
  ⟨r.hd, by have := r.dp; rw [make_depth]; omega, by have := r.un; rw [make_units]; omega⟩
theorem Room.depth {k : Nat} {A : Around} (r : Room k A) : A.depth < recursionLimit := by have := r.dp; omega
theorem Room.units {k : Nat} {A : Around} (r : Room k A) : A.units + 64 < cLine := by have := r.un; omega
noncomputable def tNil : TA := fun _ H Q => Q [] H
noncomputable def tCons (ta : TE) (tr : TA) : TA := fun σ H Q => ta σ H fun x H1 => tr σ H1 fun xs H2 => Q (x :: xs) H2
noncomputable section
variable {X : Cx} {e : Expr} {es : List Expr} {te : TE} {t : TA} {pos : Pos}
theorem pa_nil : PA X [] tNil := fun _ _ _ _ H Q I h => Calls.spliced_nil ⟨[], H, I, .nil, h⟩
theorem pa_cons (ha : PE X e te) (hr : PA X es t) (hs : starEach (e :: es) X.env = (false, eval e X.env) :: starEach es X.env := by rfl) : PA X (e :: es) (tCons te t) := by
  intro pos pins s σ H Q I h
  rw [hs]
  show wpAny _ _ (spliced ((false, eval e X.env) :: backTo pos (starEach es X.env))) _ _ s
  refine Calls.spliced_cons (thn (ha pins s σ H _ I h) fun u s1 ⟨x, H1, I1, r1, q1⟩ => ?_)
  exact thn (hr pos pins s1 σ H1 _ I1 q1) fun us s2 ⟨xs, H2, I2, r2, q2⟩ => ⟨x :: xs, H2, I2, .cons r1 r2, q2⟩
noncomputable def tTup (t : TA) : TE := fun σ H Q => t σ H fun xs H1 => xs.length ≤ sizeLine ∧ ∀ p, H1 p = none → Q (.ref p) (upd H1 p (.tup xs))
noncomputable def tLst (t : TA) : TE := fun σ H Q => t σ H fun xs H1 => xs.length ≤ sizeLine ∧ ∀ p, H1 p = none → Q (.ref p) (upd H1 p (.lst xs))
theorem pe_tup {x1} (h : PA X es t) : PE X (.Tuple es x1 pos) (tTup t) := by
  intro pins s σ H Q I hq
  refine wpAny_Tuple_spliced (thn (h pos pins s σ H _ I hq) fun us s1 ⟨xs, H1, I1, r, z, q⟩ => ⟨by rw [← r.length]; exact z, ?_⟩)
  have hf : H1 s1.heap.objs.size = none := I1.hok.fresh (Nat.le_refl _)
  refine ⟨.ref s1.heap.objs.size, upd H1 s1.heap.objs.size (.tup xs), I1.laid (t' := s1.toks) (fun b u e => Heap.get?_push_of_some _ e) (Nat.le_refl _) ?_, rfl, q _ hf⟩
  exact ⟨z, us, r, ⟨_, Heap.get?_push_size _ rfl, rfl, _, rfl⟩⟩
theorem pe_lst (h : PA X es t) : PE X (.List es pos) (tLst t) := by
  intro pins s σ H Q I hq
  refine wpAny_List_spliced (thn (h pos pins s σ H _ I hq) fun us s1 ⟨xs, H1, I1, r, z, q⟩ => ⟨by rw [← r.length]; exact z, ?_⟩)
  have hf : H1 s1.heap.objs.size = none := I1.hok.fresh (Nat.le_refl _)
  refine ⟨.ref s1.heap.objs.size, upd H1 s1.heap.objs.size (.lst xs), I1.laid (t' := s1.toks) (fun b u e => Heap.get?_push_of_some _ e) (Nat.le_refl _) ?_, rfl, q _ hf⟩
  exact ⟨z, us, 0, r, Heap.get?_push_size _ rfl⟩
end
noncomputable abbrev Sp := List V → Hp → VK → XK → Prop
noncomputable abbrev CXT := List Env → Hp → Shared → XK → Value → Shared → Prop
structure Env0 (P : Program) (w : World) (K : PySem.W.Frag) (mg : Str → Option Value) (base : Heap) (A : Around) (outer : List Env) (s : Shared) (H : Hp) : Prop where
  frames : A.frames = some outer
  mod : Mod K mg base
  bs : ∀ b o, base.get? b = some o → s.heap.get? b = some o ∧ H b = none
  bsz : base.objs.size ≤ s.heap.objs.size
  funs : s.heap.FunFrames base outer
  frf : ∀ b ∈ frs outer, H b = none
  hok : HOk P w H s.heap
  bare : AllBare s.gens
noncomputable def CE (outer : List Env) (P : Program) (w : World) (H : Hp) (s : Shared) (Q : VK) (u : Value) (s' : Shared) : Prop :=
  ∃ v H', s'.os = s.os ∧ AllBare s'.gens ∧ Un (frs outer) [] H H' s.heap s'.heap ∧ HOk P w H' s'.heap ∧ RelV v u ∧ Q v H'
noncomputable def CR (CX : CXT) (outer : List Env) (P : Program) (w : World) (H : Hp) (s : Shared) (Q : VK) (E : XK) (r : Result) (s' : Shared) : Prop :=
  match r with
  | .ok (.ret u) => CE outer P w H s Q u s'
  | .ok _ => False
  | .error e => CX outer H s E e s'
structure FnOk (P : Program) (w : World) (K : PySem.W.Frag) (mg : Str → Option Value) (base : Heap) (CX : CXT) (k : Nat) (f : Addr) (fd : FuncData) (ps : List Str) (sp : Sp) : Prop where
  len : ∀ vs H Q E, sp vs H Q E → vs.length = ps.length
  run : ∀ (A : Around) (outer : List Env) (s : Shared) (H : Hp) (args : Args) (us : List Value) (vs : List V) (Q : VK) (E : XK), Room k A → Env0 P w K mg base A outer s H → BindsTo s fd args (ps.zip us) → Vals vs us → sp vs H Q E →
    codeAny (model P w) A (.call (.ref f) args) (CR CX outer P w H s Q E) s
theorem FnOk.mono {P : Program} {w : World} {K : PySem.W.Frag} {mg : Str → Option Value} {base : Heap} {CX : CXT} {j k : Nat} {f : Addr} {fd : FuncData} {ps : List Str} {sp : Sp} (F : FnOk P w K mg base CX j f fd ps sp) (h : j ≤ k) :
    FnOk P w K mg base CX k f fd ps sp := ⟨F.len, fun A outer s H args us vs Q E hr => F.run A outer s H args us vs Q E (hr.mono h)⟩
theorem Env0.make {P : Program} {w : World} {K : PySem.W.Frag} {mg : Str → Option Value} {base : Heap} {A : Around} {outer : List Env} {s : Shared} {H : Hp} (e : Env0 P w K mg base A outer s H) (C : Addr) (us : List Value) (kw : List (Str × Value)) :
    Env0 P w K mg base (A.under (.builtin "type.__call__" ⟨.ref C :: us, kw⟩)) outer s H := ⟨by first | exact e.frames | (simpa [Around.under, Code.envs, Code.isFrame, pushEnvs] using e.frames), e.mod, e.bs, e.bsz, e.funs, e.frf, e.hok, e.bare⟩
theorem Env0.in1 {P : Program} {w : World} {K : PySem.W.Frag} {mg : Str → Option Value} {base : Heap} {A : Around} {outer : List Env} {s : Shared} {H : Hp} (e : Env0 P w K mg base A outer s H) :
    Env0 P w K mg base A.in1 outer s H := ⟨e.frames, e.mod, e.bs, e.bsz, e.funs, e.frf, e.hok, e.bare⟩
noncomputable section
variable {X : Cx} {pins : List (Addr × Obj)} {σ : St} {H : Hp} {s s' : Shared}
theorem Inv.env0 (I : Inv X pins σ H s) : Env0 X.prog X.w X.K X.mg X.base X.A X.stack s H :=
  ⟨I.ok.frames, I.ok.mod, I.bs, Nat.le_trans I.ok.bsz I.sz, I.stack, I.stkFree, I.hok, I.bare⟩
theorem Inv.after {Q : VK} {u : Value} (I : Inv X pins σ H s) (h : CE X.stack X.prog X.w H s Q u s') : EP X pins σ Q u s' := by
  obtain ⟨v, H', os, bare, un, hok, r, q⟩ := h
  obtain ⟨hh, g, d, t, os'⟩ := s'
  obtain rfl : os' = s.os := os
  exact ⟨v, H', I.call (h' := hh) (g' := g) (d' := d) (t' := t) (ch := []) un hok bare (fun b z => absurd z (by simp)), r, q⟩
end
noncomputable def tCall (sp : Sp) (dvs : List V) (E : XK) (t : TA) : TE := fun σ H Q => t σ H fun vs H1 => sp (vs ++ dvs) H1 Q E
noncomputable def Binds (K : PySem.W.Frag) (fd : FuncData) (ps : List Str) (ds : List Value) : Prop :=
  ∀ (s : Shared) (us : List Value), K.In s.heap → (us ++ ds).length = ps.length → BindsTo s fd ⟨us, []⟩ (ps.zip (us ++ ds))
theorem Binds.all {K : PySem.W.Frag} {fd : FuncData} {ps : List Str} (h : ∀ us : List Value, us.length = ps.length → bindArgs fd ⟨us, []⟩ = pure (ps.zip us)) : Binds K fd ps [] := fun s us _ hl => by
  rw [List.append_nil] at hl ⊢
  exact .of_eq (h us hl)
noncomputable def Passes (CX : CXT) (X : Cx) (E : XK) : Prop := ∀ (pins : List (Addr × Obj)) (σ : St) (H : Hp) (s : Shared) (e : Value) (s' : Shared), Inv X pins σ H s → CX X.stack H s E e s' → X.xe e s'
noncomputable section
variable {X : Cx} {CX : CXT} {k : Nat} {f C : Addr} {fd : FuncData} {ps : List Str} {sp : Sp} {dvs : List V} {ds : List Value} {E : XK} {x m : Str} {p pos apos : Pos} {e o : Expr} {es : List Expr} {ta : TE} {t : TA}
theorem run_fn {pins : List (Addr × Obj)} {σ : St} {H : Hp} {s : Shared} {Q : VK} {us : List Value} {vs : List V} (F : FnOk X.prog X.w X.K X.mg X.base CX k f fd ps sp) (hr : Room k X.A) (hb : Binds X.K fd ps ds) (hd : Vals dvs ds) (hx : Passes CX X E)
    (I : Inv X pins σ H s) (r : Vals vs us) (h : sp (vs ++ dvs) H Q E) : wpAny (model X.prog X.w) X.A (call (.ref f) us) (EP X pins σ Q) X.xe s := by
  have r2 : Vals (vs ++ dvs) (us ++ ds) := r.append hd
  have hl : (us ++ ds).length = ps.length := by rw [← r2.length]; exact F.len _ _ _ _ h
  refine wpAny_call (codeAny_mono (F.run X.A X.stack s H ⟨us, []⟩ (us ++ ds) (vs ++ dvs) Q E hr I.env0 (hb s us I.kIn hl) r2 h) fun r s' hq => ?_)
  cases r with
  | error e => exact hx pins σ H s e s' I hq
  | ok fl =>
    cases fl with
    | ret u => exact I.after hq
    | next => exact False.elim hq
    | brk => exact False.elim hq
    | cont => exact False.elim hq
theorem pe_call (F : FnOk X.prog X.w X.K X.mg X.base CX k f fd ps sp) (hr : Room k X.A) (hg : Gl X x) (hm : X.mg x = some (.ref f)) (hk : PySem.W.keepIn X.K (.ref f) = true) (hb : Binds X.K fd ps ds) (hd : Vals dvs ds) (hx : Passes CX X E)
    (ha : PA X (e :: es) t) (hdb : (x == ("__debug__" : Str)) = false := by decide) (he : starEach (e :: es) X.env = (false, eval e X.env) :: starEach es X.env := by rfl) (hpl : (backTo pos (starEach es X.env)).any (·.1) = false := by rfl) :
    PE X (.Call (.Name x p) (e :: es) [] pos) (tCall sp dvs E t) := by
  intro pins s σ H Q I h
  refine wpAny_Call_Name_kw (ld_glob I hg hm ?_ hdb)
  refine PySem.W.callWith_K (h₀ := X.base) I.ok.mod.kin hk (thn (ha pos pins s σ H _ I h) fun us s1 ⟨vs, H1, I1, r, q⟩ => ⟨I1.kIn, ?_⟩) he hpl
  exact run_fn F hr hb hd hx I1 r q
end
noncomputable section
variable {X : Cx} {CX : CXT} {k : Nat} {f C : Addr} {fd : FuncData} {ps ks : List Str} {sp : Sp} {E : XK} {x m : Str} {p pos apos kpos : Pos} {e o : Expr} {es : List Expr} {kws : List Keyword} {te ta : TE} {t tk : TA} {nm : Option Str}
variable {g : List Value → List Value → List Value} {gV : List V → List V → List V}
end
structure FnScope (N P : List Str) (sc : Scope) : Prop where
  kind : sc.kind = .function
  co : sc.isCoroutine = false
  gen : sc.isGenerator = false
  nd : N.Nodup
  pre : N.take P.length = P
  par : ∀ x ∈ P, sc.names.lookup x = some .local ∨ sc.names.lookup x = some .cell
  nofree : ∀ y ∈ sc.names, y.2 ≠ .free
theorem bindL_out {kindOf : Str → Option NameKind} {x : Str} : ∀ {binds : List (Str × Value)} {m : Str → Option Value}, (∀ v, (x, v) ∉ binds) → bindL kindOf binds m x = m x
  | [], _, _ => rfl
  | (n, v) :: r, m, h => by
    unfold bindL
    rw [bindL_out fun w hw => h w (List.mem_cons_of_mem _ hw)]
    split
    · have : x ≠ n := by rintro rfl; exact h v List.mem_cons_self
      simp [this]
    · rfl
theorem bindC_out {kindOf : Str → Option NameKind} {x : Str} : ∀ {binds : List (Str × Value)} {m : Str → Option Value}, (∀ v, (x, v) ∉ binds) → bindC kindOf binds m x = m x
  | [], _, _ => rfl
  | (n, v) :: r, m, h => by
    unfold bindC
    rw [bindC_out fun w hw => h w (List.mem_cons_of_mem _ hw)]
    split
    · rfl
    · have : x ≠ n := by rintro rfl; exact h v List.mem_cons_self
      simp [this]
theorem bindL_get {kindOf : Str → Option NameKind} {x : Str} {v : Value} : ∀ {P : List Str} {vs : List Value} {i : Nat} {m : Str → Option Value}, P.Nodup → P[i]? = some x → vs[i]? = some v → kindOf x = some .local →
    bindL kindOf (P.zip vs) m x = some v
  | [], _, _, _, _, h, _, _ => by simp at h
  | _ :: _, [], _, _, _, _, h, _ => by simp at h
  | p :: P, w :: vs, 0, m, nd, h1, h2, hk => by
    simp at h1 h2; subst h1; subst h2
    show bindL kindOf ((p, w) :: P.zip vs) m p = _
    unfold bindL
    rw [bindL_out fun v hv => (List.nodup_cons.mp nd).1 (List.of_mem_zip hv).1, if_pos hk]
    simp
  | p :: P, w :: vs, i + 1, m, nd, h1, h2, hk => by
    show bindL kindOf ((p, w) :: P.zip vs) m x = _
    unfold bindL
    exact bindL_get (i := i) (List.nodup_cons.mp nd).2 (by simpa using h1) (by simpa using h2) hk
theorem bindC_get {kindOf : Str → Option NameKind} {x : Str} {v : Value} : ∀ {P : List Str} {vs : List Value} {i : Nat} {m : Str → Option Value}, P.Nodup → P[i]? = some x → vs[i]? = some v → kindOf x ≠ some .local →
    bindC kindOf (P.zip vs) m x = some v
  | [], _, _, _, _, h, _, _ => by simp at h
  | _ :: _, [], _, _, _, _, h, _ => by simp at h
  | p :: P, w :: vs, 0, m, nd, h1, h2, hk => by
    simp at h1 h2; subst h1; subst h2
    show bindC kindOf ((p, w) :: P.zip vs) m p = _
    unfold bindC
    rw [bindC_out fun v hv => (List.nodup_cons.mp nd).1 (List.of_mem_zip hv).1, if_neg hk]
    simp
  | p :: P, w :: vs, i + 1, m, nd, h1, h2, hk => by
    show bindC kindOf ((p, w) :: P.zip vs) m x = _
    unfold bindC
    exact bindC_get (i := i) (List.nodup_cons.mp nd).2 (by simpa using h1) (by simpa using h2) hk
noncomputable def start (N : List Str) (vs : List V) : St := vs.map some ++ List.replicate (N.length - vs.length) none
noncomputable def cxOf (CX : CXT) (P : Program) (w : World) (K : PySem.W.Frag) (mg : Str → Option Value) (base : Heap) (N : List Str) (qual : Str) (scope : Scope) (f : Addr) (cd : Value) (A : Around) (outer : List Env) (s : Shared) (H : Hp) (E : XK) : Cx where
  prog := P
  w := w
  K := K
  mg := mg
  base := base
  A := A.deeper (envOfC qual scope s.heap.objs.size f cd)
  N := N
  s₀ := s
  H₀ := H
  env := envOfC qual scope s.heap.objs.size f cd
  outer := outer
  stack := envOfC qual scope s.heap.objs.size f cd :: outer
  ex := []
  calm := true
  fn := fun _ => true
  pn := []
  xe := fun e s' => wpAny (model P w) (A.deeper (envOfC qual scope s.heap.objs.size f cd)) (leaving (envOfC qual scope s.heap.objs.size f cd) e) (fun _ s'' => CX outer H s E e s'') (fun e' s'' => CX outer H s E e' s'') s'
theorem cell_has {sc : Scope} {n : Nat} {x : Str} (h : sc.names.lookup x = some .cell) : ∃ c, (cellsFrom n sc.names []).lookup x = some c := by
  have q := PySem.W.cellsFrom_some sc.names n [] (.inl h)
  exact Option.isSome_iff_exists.mp q
theorem inv_start {CX : CXT} {P : Program} {w : World} {K : PySem.W.Frag} {mg : Str → Option Value} {base : Heap} {N ps : List Str} {qual : Str} {scope : Scope} {f : Addr} {cd : Value} {A : Around} {outer : List Env} {s s1 : Shared} {H : Hp} {E : XK} {us : List Value} {vs : List V}
    (S : FnScope N ps scope) (hd : A.handled = none) (e0 : Env0 P w K mg base A outer s H) (hl : vs.length = ps.length) (r : Vals vs us)
    (x : InCallC s s.heap.objs.size (bindL (envOfC qual scope s.heap.objs.size f cd).kindOf (ps.zip us) fun _ => none) (cellsFrom (s.heap.objs.size + 1) scope.names []) (bindC (envOfC qual scope s.heap.objs.size f cd).kindOf (ps.zip us) fun _ => none) s1) :
    Inv (cxOf CX P w K mg base N qual scope f cd A outer s H E) [] (start N vs) H s1 := by
  have hpl : ps.length ≤ N.length := by have := congrArg List.length S.pre; rw [List.length_take] at this; omega
  obtain ⟨h1, tk, rfl, hk⟩ := x.done
  have noA : ∀ b : Addr, b ∉ (cxOf CX P w K mg base N qual scope f cd A outer s H E).ex := fun b z => absurd (show b ∈ ([] : List Addr) from z) (by simp)
  refine ⟨⟨e0.mod, S.kind, rfl, rfl, Nat.le_refl _, fun y z c h1 h2 => ?_, fun y hy => ?_, fun y c _ h => ?_, fun _ => hd, Around.frames_deeper e0.frames, .inr ⟨rfl, rfl⟩, fun b z => absurd z (noA b), e0.bs, e0.bsz, fun b _ _ => noA b, fun b z => absurd z (noA b), e0.funs, e0.frf⟩,
    rfl, e0.bare, Un.kept hk, ⟨_, x.toInCall.ns, fun i y v h1 h2 h3 => ?_⟩, fun y c h => ⟨_, x.cell y c h⟩, e0.hok.fresh (Nat.le_refl _), fun y c h => ?_, fun p hp => absurd (show p ∈ ([] : List (Addr × Obj)) from hp) (by simp), e0.hok.kept hk, ?_⟩
  · exact name_of_addr x.apart (PySem.mem_of_lookup h1) (PySem.mem_of_lookup h2)
  · have hy : scope.names.lookup y = some .cell ∨ scope.names.lookup y = some .free := hy
    rcases hy with hy | hy
    · exact cell_has hy
    · exact absurd rfl (S.nofree _ (PySem.mem_of_lookup hy))
  · exact Nat.le_of_lt (x.above y c (PySem.mem_of_lookup h))
  · have hi : i < vs.length := by
      unfold start at h2
      by_cases hi : i < vs.length
      · exact hi
      · rw [List.getElem?_append_right (by simpa using hi)] at h2
        rw [List.getElem?_replicate] at h2
        split at h2 <;> cases h2
    have ha : vs[i]? = some v := by
      unfold start at h2
      rw [List.getElem?_append_left (by simpa using hi), List.getElem?_map] at h2
      cases e : vs[i]? with
      | none => rw [e] at h2; cases h2
      | some a => rw [e] at h2; cases h2; rfl
    obtain ⟨u, hu, rv⟩ := r.get ha
    have hp : ps[i]? = some y := by
      rw [← S.pre, List.getElem?_take_of_lt (by omega)]; exact h1
    have ndP : ps.Nodup := by rw [← S.pre]; exact S.nd.sublist (List.take_sublist _ _)
    refine ⟨u, rv, ?_⟩
    rcases S.par y (List.mem_of_getElem? hp) with k | k
    · exact .inl ⟨k, bindL_get ndP hp hu k⟩
    · obtain ⟨c, e⟩ := cell_has (n := s.heap.objs.size + 1) k
      refine .inr ⟨.inl k, c, e, ?_⟩
      have q := x.cell y c e
      rw [bindC_get ndP hp hu (by show scope.names.lookup y ≠ _; rw [k]; decide)] at q
      exact q
  · exact e0.hok.fresh (Nat.le_of_lt (x.above y c (PySem.mem_of_lookup h)))
  · unfold start
    show _ = N.length
    rw [List.length_append, List.length_map, List.length_replicate]
    omega
theorem fn_of {CX : CXT} {P : Program} {w : World} {K : PySem.W.Frag} {mg : Str → Option Value} {base : Heap} {k : Nat} {f : Addr} {name qual : Str} {params : Arguments} {body : List Stmt} {scope : Scope} {dV kV doc pm cdv ct oc : Value} {an od : Option Addr}
    {osl : Array (Option Value)} {N ps : List Str} {sp : Sp} (lk : K.lookup f = some ⟨oc, od, .func (PySem.W.fnOf name qual params body scope dV kV doc pm an cdv ct), osl⟩) (hcd : PySem.W.codeIn K cdv qual = true) (S : FnScope N ps scope)
    (len : ∀ vs H Q E, sp vs H Q E → vs.length = ps.length)
    (hbody : ∀ (A : Around) (outer : List Env) (s : Shared) (H : Hp) (vs : List V) (Q : VK) (E : XK), Room k (A.deeper (envOfC qual scope s.heap.objs.size f cdv)) → sp vs H Q E →
      ∃ t, PSs (cxOf CX P w K mg base N qual scope f cdv A outer s H E) body t ∧ t { nx := fun _ H' => Q .non H', rt := Q } (start N vs) H) :
    FnOk P w K mg base CX (k + 1) f (PySem.W.fnOf name qual params body scope dV kV doc pm an cdv ct) ps sp := by
  refine ⟨len, fun A outer s H args us vs Q E hr e0 hb r hsp => ?_⟩
  have hl := len _ _ _ _ hsp
  have KX : K.In s.heap := e0.mod.kin.keeps fun b o e => (e0.bs b o e).1
  have lim : s.heap.NoLimit := e0.mod.nolimit.keeps fun b o e => (e0.bs b o e).1
  have hkind : ∀ y ∈ ps.zip us, scope.names.lookup y.1 = some .local ∨ (scope.names.lookup y.1 = some .cell ∧ ((cellsFrom (s.heap.objs.size + 1) scope.names []).lookup y.1).isSome = true) := fun ⟨n, v⟩ hy => by
    rcases S.par n (List.of_mem_zip hy).1 with q | q
    · exact .inl q
    · exact .inr ⟨q, PySem.W.cellsFrom_some _ _ _ (.inl q)⟩
  refine codeAny_call_function hr.depth (KX _ _ lk) rfl S.co S.gen rfl (PySem.W.codeRec_of KX hcd) (hb _ _ _ _ ?_)
  refine wpAny_newFunctionEnv_cells S.kind hkind fun env he s1 x => ?_
  subst he
  refine ⟨lim.keeps x.toInCall.keep, codeAny_func ?_⟩
  obtain ⟨t, ht, hq⟩ := hbody A outer s H vs Q E (hr.deeper _) hsp
  have I : Inv (cxOf CX P w K mg base N qual scope f cdv A outer s H E) [] (start N vs) H s1 := inv_start S hr.hd e0 hl r x
  refine wpAny_mono (ht [] s1 (start N vs) H _ I hq) (fun fl s' hs => ?_) fun e s' hs => hs
  have fin : ∀ {σ' : St} {H' : Hp} {v : V} {u : Value}, Inv (cxOf CX P w K mg base N qual scope f cdv A outer s H E) [] σ' H' s' → RelV v u → Q v H' → CE outer P w H s Q u s' :=
    fun {σ' H' v u} J rv q => ⟨v, H', J.os, J.bare, J.base, J.hok, rv, q⟩
  cases fl with
  | ret u =>
    obtain ⟨v, σ', H', J, rv, q⟩ := hs
    exact fin J rv q
  | next =>
    obtain ⟨σ', H', J, q⟩ := hs
    exact fin (v := V.non) (u := Value.none) J rfl q
  | brk =>
    obtain ⟨_, _, _, q⟩ := hs
    exact False.elim q
  | cont =>
    obtain ⟨_, _, _, q⟩ := hs
    exact False.elim q
end L2
namespace L2
open PySem PySem.Spec PyProof.Rows
noncomputable section
variable {X : Cx} {x : Str} {p pos : Pos} {e : Expr} {es : List Expr} {t : TA} {id T : String} {r : List V → Hp → VK → Prop}
noncomputable def tCB (r : List V → Hp → VK → Prop) (t : TA) : TE := fun σ H Q => t σ H fun vs H1 => r vs H1 Q
theorem pe_callB (hc : CallR X (.builtin id) r) (hg : Gl X x) (hm : X.mg x = none) (hv : bootBuiltins x = some (.builtin id)) (ha : PA X (e :: es) t) (hn : x ≠ "__name__" := by decide) (hdb : (x == ("__debug__" : Str)) = false := by decide)
    (he : starEach (e :: es) X.env = (false, eval e X.env) :: starEach es X.env := by rfl) (hpl : (backTo pos (starEach es X.env)).any (·.1) = false := by rfl) : PE X (.Call (.Name x p) (e :: es) [] pos) (tCB r t) := by
  intro pins s σ H Q I h
  refine wpAny_Call_Name_kw (ld_blt I hg hm hv ?_ hn hdb)
  exact PyProof.Rows.callWith_builtin1 (thn (ha pos pins s σ H _ I h) fun us s1 ⟨vs, H1, I1, r1, q1⟩ => hc pins s1 σ H1 vs us Q I1 r1 q1) he hpl
theorem pe_callTy (hc : CallR X (.type T) r) (hg : Gl X x) (hm : X.mg x = none) (hv : bootBuiltins x = some (.type T)) (ha : PA X (e :: es) t) (hn : x ≠ "__name__" := by decide) (hdb : (x == ("__debug__" : Str)) = false := by decide)
    (he : starEach (e :: es) X.env = (false, eval e X.env) :: starEach es X.env := by rfl) (hpl : (backTo pos (starEach es X.env)).any (·.1) = false := by rfl) : PE X (.Call (.Name x p) (e :: es) [] pos) (tCB r t) := by
  intro pins s σ H Q I h
  refine wpAny_Call_Name_kw (ld_blt I hg hm hv ?_ hn hdb)
  exact PyProof.Rows.callWith_type1 (thn (ha pos pins s σ H _ I h) fun us s1 ⟨vs, H1, I1, r1, q1⟩ => hc pins s1 σ H1 vs us Q I1 r1 q1) he hpl
end
end L2
namespace HT
open PySem PyProof.Rows
noncomputable section
open PySem.SeqAt
open PySem.AutoSeq1 (wpAny_loadPart')
open PySem.MeetsSeq PySem.MeetsSeq2 PySem.MeetsSeq3
end
noncomputable section
variable {prog : Program} {w : World} {A : Around} {E : Value → Shared → Prop} {s : Shared}
noncomputable def sIx (n d : Nat) : Option Int → Nat
  | none => d
  | some v => if v < 0 then (v + (n : Int)).toNat else min v.toNat n
end
end HT
namespace L2
open PySem PySem.Spec PyProof.Rows
noncomputable abbrev TO := St → Hp → (Option Int → Hp → Prop) → Prop
noncomputable def PO (X : Cx) (e : Option Expr) (t : TO) : Prop :=
  ∀ (pins : List (Addr × Obj)) (s : Shared) (σ : St) (H : Hp) (Q : Option Int → Hp → Prop), Inv X pins σ H s → t σ H Q →
    wpAny (model X.prog X.w) X.A (evalPart e X.env) (fun u s' => ∃ o H', Inv X pins σ H' s' ∧ IsPart u o ∧ Q o H') X.xe s
noncomputable def tNoPart : TO := fun _ H Q => Q none H
noncomputable def tPart (t : TE) : TO := fun σ H Q => t σ H fun x H1 => ∃ i, x = .int i ∧ Q (some i) H1
noncomputable section
variable {X : Cx} {e : Expr} {te : TE} {lo hi : Option Expr} {tl th : TO} {pos p2 : Pos}
theorem po_none : PO X none tNoPart := by
  intro pins s σ H Q I h
  rw [evalPart_none]
  exact wpAny_pure ⟨none, H, I, .none, h⟩
theorem po_some (h : PE X e te) : PO X (some e) (tPart te) := by
  intro pins s σ H Q I hw
  rw [evalPart_some]
  refine thn (h pins s σ H _ I hw) fun u s1 ⟨x, H1, I1, r1, q1⟩ => ?_
  obtain ⟨i, rfl, q⟩ := q1
  obtain ⟨t, rfl⟩ := r1
  exact ⟨some i, H1, I1, .int i t, q⟩
noncomputable def SlR (X : Cx) (r : V → Option Int → Option Int → Hp → VK → Prop) : Prop :=
  ∀ (pins : List (Addr × Obj)) (s : Shared) (σ : St) (H : Hp) (x : V) (v vl vu : Value) (lo hi : Option Int) (sl : Addr) (Q : VK), Inv X pins σ H s → RelV x v → s.heap.IsSliceOf sl vl vu .none → IsPart vl lo → IsPart vu hi → r x lo hi H Q →
    ∃ T id, typeLookup (.type T) "__getitem__" = pure (some (.builtin id)) ∧ s.TypeIs v T ∧ wpAny (model X.prog X.w) X.A (getItem v (.ref sl)) (EP X pins σ Q) X.xe s
noncomputable def tSl (r : V → Option Int → Option Int → Hp → VK → Prop) (te : TE) (tl th : TO) : TE := fun σ H Q => te σ H fun x H1 => tl σ H1 fun l H2 => th σ H2 fun u H3 => r x l u H3 Q
theorem pe_slice {r : V → Option Int → Option Int → Hp → VK → Prop} (hr : SlR X r) (he : PE X e te) (hl : PO X lo tl) (hu : PO X hi th) : PE X (.Subscript e (.Slice lo hi none p2) pos) (tSl r te tl th) := by
  intro pins s σ H Q I h
  refine Subscript_ (thn (he pins s σ H _ I h) fun v s1 ⟨x, H1, I1, r1, q1⟩ => ?_)
  refine wpAny_Slice (thn (hl pins s1 σ H1 _ I1 q1) fun vl s2 ⟨l, H2, I2, pl, q2⟩ => thn (hu pins s2 σ H2 _ I2 q2) fun vu s3 ⟨u, H3, I3, pu, q3⟩ => ?_)
  rw [evalPart_none]
  refine wpAny_pure ?_
  have I4 : Inv X pins σ H3 { s3 with heap := s3.heap.push { cls := .type "slice", data := .fields #[vl, vu, .none] } } := I3.kept (t' := s3.toks) fun b ob q => Heap.get?_push_of_some _ q
  obtain ⟨T, id, hT, ht, hg⟩ := hr pins { s3 with heap := s3.heap.push { cls := .type "slice", data := .fields #[vl, vu, .none] } } σ H3 x v vl vu l u s3.heap.objs.size Q I4 r1 (Heap.IsSliceOf.new ..) pl pu q3
  show wpAny (model X.prog X.w) X.A (subscriptTail e (.Slice lo hi none p2) v (.ref s3.heap.objs.size)) (EP X pins σ Q) X.xe { s3 with heap := s3.heap.push { cls := .type "slice", data := .fields #[vl, vu, .none] } }
  exact tail_any (ops := [.ref s3.heap.objs.size, v]) ht hT hg (by with_unfolding_all rfl)
noncomputable def cutV (xs : List V) (lo hi : Option Int) : List V := (xs.drop (HT.sIx xs.length 0 lo)).take (HT.sIx xs.length xs.length hi - HT.sIx xs.length 0 lo)
theorem cutV_length (xs : List V) (lo hi : Option Int) : (cutV xs lo hi).length ≤ xs.length := by
  unfold cutV
  rw [List.length_take, List.length_drop]
  omega
end
end L2
namespace L2
open PySem PySem.Spec PyProof.Rows
noncomputable def ixN (n : Nat) (i : Int) : Option Nat := if 0 ≤ i then (if i < n then some i.toNat else none) else if -(n : Int) ≤ i then some (i + n).toNat else none
noncomputable def atI {α : Type} (xs : List α) (i : Int) : Option α := (ixN xs.length i).bind fun j => xs[j]?
theorem ixN_seq {n : Nat} {i : Int} {j : Nat} (h : ixN n i = some j) : seqIndex? i n = some j ∧ j < n ∧ -(n : Int) ≤ i ∧ i < n := by
  unfold ixN at h
  by_cases h0 : 0 ≤ i
  · rw [if_pos h0] at h
    by_cases h1 : i < n
    · rw [if_pos h1] at h
      have e : i.toNat = j := Option.some.inj h
      exact ⟨by rw [seqIndex_of h0 h1, e], by omega, by omega, h1⟩
    · rw [if_neg h1] at h; cases h
  · rw [if_neg h0] at h
    by_cases h1 : -(n : Int) ≤ i
    · rw [if_pos h1] at h
      have e : (i + n).toNat = j := Option.some.inj h
      exact ⟨by rw [seqIndex_neg (by omega) h1, e], by omega, h1, by omega⟩
    · rw [if_neg h1] at h; cases h
theorem atI_get {α : Type} {xs : List α} {i : Int} {v : α} (h : atI xs i = some v) : ∃ j, seqIndex? i xs.length = some j ∧ xs[j]? = some v ∧ j < xs.length ∧ -(xs.length : Int) ≤ i ∧ i < xs.length := by
  unfold atI at h
  cases e : ixN xs.length i with
  | none => rw [e] at h; cases h
  | some j =>
    rw [e] at h
    obtain ⟨h1, h2, h3, h4⟩ := ixN_seq e
    exact ⟨j, h1, h, h2, h3, h4⟩
theorem atI_nat {α : Type} {xs : List α} {j : Nat} {v : α} (h : xs[j]? = some v) : atI xs (j : Int) = some v := by
  have hj : j < xs.length := (List.getElem?_eq_some_iff.mp h).1
  have e : ixN xs.length (j : Int) = some j := by
    unfold ixN
    rw [if_pos (by omega), if_pos (by omega)]; simp
  unfold atI; rw [e]; exact h
theorem atI_last {α : Type} (xs : List α) (v : α) : atI (xs ++ [v]) (-1) = some v := by
  have hl : (xs ++ [v]).length = xs.length + 1 := by simp
  have e : ixN (xs ++ [v]).length (-1) = some xs.length := by
    unfold ixN
    rw [hl, if_neg (by decide), if_pos (by omega)]
    congr 1
    omega
  unfold atI
  rw [e]
  show (xs ++ [v])[xs.length]? = some v
  simp
noncomputable def PlainIx (b : Expr) : Prop := ∀ o i, subscripted b false o i = operate [o, i] (getItem o i)
noncomputable def IxR (X : Cx) (r : R2) : Prop :=
  ∀ (value slice : Expr) (pins : List (Addr × Obj)) (s : Shared) (σ : St) (H : Hp) (x y : V) (v u : Value) (Q : VK), Inv X pins σ H s → RelV x v → RelV y u → r x y H Q →
    subscripted slice false v u = operate [v, u] (getItem v u) → wpAny (model X.prog X.w) X.A (subscriptTail value slice v u) (EP X pins σ Q) X.xe s
noncomputable def MtR (X : Cx) (id : String) (r : V → List V → Hp → VK → Prop) : Prop :=
  ∀ (pins : List (Addr × Obj)) (s : Shared) (σ : St) (H : Hp) (x : V) (xs : List V) (v : Value) (us : List Value) (Q : VK), Inv X pins σ H s → RelV x v → Vals xs us → r x xs H Q →
    wpAny (model X.prog X.w) X.A (call (.builtin id) (v :: us)) (EP X pins σ Q) X.xe s
noncomputable section
variable {X : Cx} {a b : Expr} {ta tb : TE} {pos : Pos}
theorem IxR.or {r r' : R2} (h : IxR X r) (h' : IxR X r') : IxR X (fun x y H Q => r x y H Q ∨ r' x y H Q) := by
  intro value slice pins s σ H x y v u Q I rx ry q hs
  rcases q with q | q
  · exact h value slice pins s σ H x y v u Q I rx ry q hs
  · exact h' value slice pins s σ H x y v u Q I rx ry q hs
theorem pe_ix {r : R2} (hr : IxR X r) (ha : PE X a ta) (hb : PE X b tb) (hs : PlainIx b) : PE X (.Subscript a b pos) (tOp r ta tb) := by
  intro pins s σ H Q I h
  exact Subscript_ (binT ha hb I h fun v u s2 x y H2 I2 rx ry q => hr a b pins s2 σ H2 x y v u Q I2 rx ry q (hs _ _))
noncomputable def rIxL (K : PySem.W.Frag) : R2 := fun x y H Q => ∃ p xs i v, x = .ref p ∧ y = .int i ∧ SqL K H p xs ∧ atI xs i = some v ∧ Q v H
noncomputable def rIxT (K : PySem.W.Frag) : R2 := fun x y H Q => ∃ p xs i v, x = .ref p ∧ y = .int i ∧ SqT K H p xs ∧ atI xs i = some v ∧ Q v H
noncomputable def rIxS : R2 := fun x y H Q => ∃ z i c, x = .str z ∧ y = .int i ∧ z.length ≤ sizeLine ∧ atI z.cps.toList i = some c ∧ Q (.str ⟨#[c]⟩) H
theorem ix_list : IxR X (rIxL X.K) := by
  intro value slice pins s σ H x y v u Q I rx ry h hs
  obtain ⟨p, xs, i, z, rfl, rfl, hq, he, q⟩ := h
  cases rx
  obtain ⟨t, rfl⟩ := ry
  obtain ⟨its, r, pl, hz⟩ := I.list hq
  obtain ⟨j, h1, h2, h3, h4, h5⟩ := atI_get he
  obtain ⟨w, ew, rw'⟩ := r.get h2
  have hl := r.length
  have hn := line63
  have fin : EP X pins σ Q w s := ⟨z, H, I, rw', q⟩
  by_cases h0 : 0 ≤ i
  · have hj : i.toNat = j := by
      rw [seqIndex_of h0 h5] at h1
      exact Option.some.inj h1
    exact item_listR pl.isList h0 (by omega) (by rw [hj]; simpa using ew) fin hs
  · have hj : (i + (its.toArray.size : Int)).toNat = j := by
      rw [seqIndex_neg (by omega) h4] at h1
      rw [List.size_toArray, ← hl]
      exact Option.some.inj h1
    exact subscriptTail_builtinR (x := w) pl.isList.typeIs slot_list_getitem.lookup
      (wpAny_getItem_list_neg (Q := fun r s' => r = w ∧ EP X pins σ Q r s') pl.isList (by omega) (by rw [List.size_toArray] <;> omega) (by omega) (by rw [hj]; simpa using ew) ⟨rfl, fin⟩) hs
theorem ix_tup : IxR X (rIxT X.K) := by
  intro value slice pins s σ H x y v u Q I rx ry h hs
  obtain ⟨p, xs, i, z, rfl, rfl, hq, he, q⟩ := h
  cases rx
  obtain ⟨t, rfl⟩ := ry
  obtain ⟨its, r, pl, hz⟩ := I.tuple hq
  obtain ⟨j, h1, h2, h3, h4, h5⟩ := atI_get he
  obtain ⟨w, ew, rw'⟩ := r.get h2
  have hl := r.length
  have hn := line63
  have fin : EP X pins σ Q w s := ⟨z, H, I, rw', q⟩
  exact subscriptTail_builtinR (x := w) pl.typeIs slot_tuple_getitem.lookup
    (getItem_tuple (j := j) (Q := fun r s' => r = w ∧ EP X pins σ Q r s') pl (by omega) (by omega) (by rw [List.size_toArray, ← hl]; exact h1) (by simpa using ew) ⟨rfl, fin⟩) hs
theorem ix_str : IxR X rIxS := by
  intro value slice pins s σ H x y v u Q I rx ry h hs
  obtain ⟨z, i, c, rfl, rfl, hz, he, q⟩ := h
  obtain ⟨t, rfl⟩ := rx
  obtain ⟨t', rfl⟩ := ry
  obtain ⟨j, h1, h2, h3, h4, h5⟩ := atI_get he
  have hl : z.cps.toList.length = z.length := by simp [Str.length]
  rw [hl] at h1 h4 h5
  have hn := line63
  exact tail_any (typeIs_str s z t) slot_str_getitem.lookup (getItem_str (c := c) (by
    have e1 : decide (i < -(2 ^ 63 : Int)) = false := decide_eq_false (by omega)
    have e2 : decide (i ≥ 2 ^ 63) = false := decide_eq_false (by omega)
    rw [e1, e2, Bool.or_false]) (by rw [h1]; simpa using h2) ⟨.str ⟨#[c]⟩, H, I.tok _, ⟨_, rfl⟩, q⟩) hs
noncomputable def rIx (K : PySem.W.Frag) : R2 := fun x y H Q => rIxL K x y H Q ∨ rIxT K x y H Q ∨ rIxS x y H Q
theorem ix_seq : IxR X (rIx X.K) := ix_list.or (ix_tup.or ix_str)
theorem mapSeq_set (its : List Value) (n j : Nat) (u : Value) : Obj.mapSeq (·.setIfInBounds j u) { cls := .type "list", data := .seq its.toArray n } = { cls := .type "list", data := .seq (its.set j u).toArray n } := by
  simp [Obj.mapSeq]
theorem Inv.lst {pins : List (Addr × Obj)} {σ : St} {H : Hp} {s : Shared} {p : Addr} {xs : List V} (I : Inv X pins σ H s) (h : H p = some (.lst xs)) :
    ∃ (its : List Value) (n : Nat), Vals xs its ∧ s.heap.get? p = some { cls := .type "list", data := .seq its.toArray n } ∧ xs.length ≤ sizeLine := by
  obtain ⟨z, its, n, r, e⟩ := I.hok p _ h
  exact ⟨its, n, r, e, z⟩
theorem Inv.lstUpd {pins : List (Addr × Obj)} {σ : St} {H : Hp} {s : Shared} {p : Addr} {xs ys : List V} {its its' : List Value} {n n' : Nat} {f : Obj → Obj} (I : Inv X pins σ H s) (h : H p = some (.lst xs))
    (ho : s.heap.get? p = some { cls := .type "list", data := .seq its.toArray n }) (hf : f { cls := .type "list", data := .seq its.toArray n } = { cls := .type "list", data := .seq its'.toArray n' }) (r : Vals ys its') (hz : ys.length ≤ sizeLine) (t : Nat) :
    Inv X pins σ (upd H p (.lst ys)) { s with heap := s.heap.update p f, toks := t } := by
  have e : (s.heap.update p f).get? p = some { cls := .type "list", data := .seq its'.toArray n' } := by
    rw [Heap.get?_update_self f ho (by rw [hf] <;> rfl), hf]
  refine I.write (x := p) (e := p) (by rw [h]; trivial) (.inl rfl) (fun b u hb q => (Heap.get?_update_other _ _ (Ne.symm hb)).trans q) ⟨_, e⟩ ?_
  exact ⟨hz, its', n', r, e⟩
noncomputable def rSetL : V → V → V → Hp → (Hp → Prop) → Prop := fun o i v H Q => ∃ p xs k j, o = .ref p ∧ i = .int k ∧ H p = some (.lst xs) ∧ ixN xs.length k = some j ∧ Q (upd H p (.lst (xs.set j v)))
theorem set_list : PSet X rSetL := by
  intro pins s σ H o i v ov iv u Q I ro ri rv h
  obtain ⟨p, xs, k, j, rfl, rfl, hp, hj, q⟩ := h
  cases ro
  obtain ⟨t, rfl⟩ := ri
  obtain ⟨its, n, r, ho, hz⟩ := I.lst hp
  obtain ⟨h1, h2, h3, h4⟩ := ixN_seq hj
  have hl := r.length
  have hn := line63
  have I' : Inv X pins σ (upd H p (.lst (xs.set j v))) { s with heap := s.heap.update p (Obj.mapSeq (·.setIfInBounds j u)) } :=
    I.lstUpd hp ho (mapSeq_set its n j u) (r.set rv j) (by rw [List.length_set]; exact hz) s.toks
  by_cases h0 : 0 ≤ k
  · have hk : k.toNat = j := by
      rw [seqIndex_of h0 h4] at h1
      exact Option.some.inj h1
    exact PySem.W.ki_setAt ho h0 (by omega) (by rw [List.size_toArray, ← hl]; exact h4) (by rw [hk]; exact ⟨_, I', q⟩)
  · have hk : (k + (its.toArray.size : Int)).toNat = j := by
      rw [seqIndex_neg (by omega) h3] at h1
      rw [List.size_toArray, ← hl]
      exact Option.some.inj h1
    exact PySem.W.ki_setBack ho (by omega) (by rw [List.size_toArray, ← hl]; exact h3) (by omega) (by rw [hk]; exact ⟨_, I', q⟩)
theorem slice_bounds (lo hi : Option Int) (n : Nat) : (sliceBounds lo hi none n).1 = ((HT.sIx n 0 lo : Nat) : Int) ∧ (sliceBounds lo hi none n).2.1 = ((HT.sIx n n hi : Nat) : Int) ∧ (sliceBounds lo hi none n).2.2 = 1 := by
  refine ⟨?_, ?_, rfl⟩
  · cases lo with
    | none => simp [sliceBounds, HT.sIx]
    | some i =>
      simp only [sliceBounds, HT.sIx, Option.getD_none, show (1 : Int) > 0 by decide, if_true]
      by_cases h : i < 0
      · simp only [h, if_true] <;> omega
      · simp only [h, if_false] <;> omega
  · cases hi with
    | none => simp [sliceBounds, HT.sIx]
    | some i =>
      simp only [sliceBounds, HT.sIx, Option.getD_none, show (1 : Int) > 0 by decide, if_true]
      by_cases h : i < 0
      · simp only [h, if_true] <;> omega
      · simp only [h, if_false] <;> omega
theorem slicePick_cut (its : List Value) (lo hi : Option Int) : slicePick its.toArray lo hi none = ((its.drop (HT.sIx its.length 0 lo)).take (HT.sIx its.length its.length hi - HT.sIx its.length 0 lo)).toArray := by
  obtain ⟨h1, h2, h3⟩ := slice_bounds lo hi its.toArray.size
  unfold slicePick
  rw [h1, h2, h3]
  simp only [sliceRange_one, pick_run, List.size_toArray] <;> rfl
noncomputable def rSlL (K : PySem.W.Frag) : V → Option Int → Option Int → Hp → VK → Prop := fun x lo hi H Q => ∃ a xs, x = .ref a ∧ SqL K H a xs ∧ ∀ p, H p = none → Q (.ref p) (upd H p (.lst (cutV xs lo hi)))
theorem sl_list : SlR X (rSlL X.K) := by
  intro pins s σ H x v vl vu lo hi sl Q I rx hs pl pu h
  obtain ⟨a, xs, rfl, hx, q⟩ := h
  cases rx
  obtain ⟨its, r, ht, hz⟩ := I.list hx
  have hlen := r.length
  refine ⟨"list", _, slot_list_getitem.lookup, ht.isList.typeIs, ?_⟩
  refine wpAny_getItem_list_slice ht.isList hs pl pu .none (by simp) ?_ (by rw [List.size_toArray] <;> omega)
  rw [slicePick_cut, ← hlen]
  refine ⟨.ref s.heap.objs.size, _, I.laid (t' := s.toks) (o := .lst (cutV xs lo hi)) (fun b ob q => Heap.get?_push_of_some _ q) (Nat.le_refl _) ?_, rfl, q _ (I.hok.fresh (Nat.le_refl _))⟩
  exact ⟨Nat.le_trans (cutV_length xs lo hi) hz, _, 0, (r.drop (HT.sIx xs.length 0 lo)).take (HT.sIx xs.length xs.length hi - HT.sIx xs.length 0 lo), Heap.get?_push_size _ rfl⟩
theorem call_len_seq : CallR X (.builtin "len") (fun xs H Q => ∃ p ys, xs = [.ref p] ∧ (SqL X.K H p ys ∨ SqT X.K H p ys) ∧ Q (.int ys.length) H) := by
  intro pins s σ H xs us Q I r h
  obtain ⟨p, ys, rfl, hq, q⟩ := h
  obtain ⟨u, rfl, rx⟩ := vals1 r
  cases rx
  have hn := line63
  rcases hq with hq | hq
  · obtain ⟨its, r', pl, hz⟩ := I.list hq
    have hlen := r'.length
    exact Calls.call_len_list pl.isList (by simp only [List.size_toArray] <;> omega) ⟨.int ys.length, H, I.tok _, ⟨s.toks + 1, by rw [List.size_toArray, hlen]⟩, q⟩
  · obtain ⟨its, r', pl, hz⟩ := I.tuple hq
    have hlen := r'.length
    exact len_tuple pl (by simp only [List.size_toArray] <;> omega) ⟨.int ys.length, H, I.tok _, ⟨s.toks + 1, by rw [List.size_toArray, hlen]⟩, q⟩
theorem call_len_str : CallR X (.builtin "len") (fun xs H Q => ∃ z, xs = [.str z] ∧ z.length ≤ sizeLine ∧ Q (.int z.length) H) := by
  intro pins s σ H xs us Q I r h
  obtain ⟨z, rfl, hz, q⟩ := h
  obtain ⟨u, rfl, t, rfl⟩ := vals1 r
  have hn := line63
  exact len_str (by omega) ⟨.int z.length, H, I.tok _, ⟨_, rfl⟩, q⟩
theorem CallR.or {f : Value} {r r' : List V → Hp → VK → Prop} (h : CallR X f r) (h' : CallR X f r') : CallR X f (fun xs H Q => r xs H Q ∨ r' xs H Q) := by
  intro pins s σ H xs us Q I rs q
  rcases q with q | q
  · exact h pins s σ H xs us Q I rs q
  · exact h' pins s σ H xs us Q I rs q
noncomputable def tyV (K : PySem.W.Frag) (T : String) (x : V) (H : Hp) : Prop := match x with
  | .str _ => T = "str"
  | .int _ => T = "int"
  | .ref p => (T = "list" ∧ ∃ xs, SqL K H p xs) ∨ (T = "tuple" ∧ ∃ o, K.lookup p = some o ∧ o.cls = .type "tuple" ∧ o.dict = none) ∨
      (T = "dict" ∧ ((∃ kvs, H p = some (.dK kvs)) ∨ ∃ kvs, H p = some (.dT kvs))) ∨ (T = "set" ∧ ∃ S n, H p = some (.set S n))
  | _ => False
theorem tyV_is {pins : List (Addr × Obj)} {σ : St} {H : Hp} {s : Shared} {T : String} {x : V} {v : Value} (I : Inv X pins σ H s) (r : RelV x v) (ty : tyV X.K T x H) :
    s.TypeIs v T ∧ ∀ a, v = .ref a → ∃ ob, s.heap.get? a = some ob ∧ ob.dict = none := by
  cases x with
  | str z =>
    obtain ⟨t, rfl⟩ := r
    cases (show T = "str" from ty)
    exact ⟨typeIs_str s z t, fun _ e => nomatch e⟩
  | int i =>
    obtain ⟨t, rfl⟩ := r
    cases (show T = "int" from ty)
    exact ⟨typeIs_int s i t, fun _ e => nomatch e⟩
  | ref p =>
    cases r
    rcases ty with ⟨rfl, xs, hq⟩ | ⟨rfl, o, hk, hc, hd⟩ | ⟨rfl, hk⟩ | ⟨rfl, S, n, hk⟩
    · obtain ⟨its, _, pl, _⟩ := I.list hq
      refine ⟨pl.isList.typeIs, fun a e => ?_⟩
      cases e
      obtain ⟨o, n, e, c, hd, _⟩ := pl
      exact ⟨o, e, hd⟩
    · refine ⟨⟨o, I.kIn p o hk, hc⟩, fun a e => ?_⟩
      cases e
      exact ⟨o, I.kIn _ o hk, hd⟩
    · have z : ∃ o, s.heap.get? p = some o ∧ o.ExactDict := by
        rcases hk with ⟨kvs, hk⟩ | ⟨kvs, hk⟩
        · obtain ⟨_, _, _, _, o, _, _, e, ex, _⟩ := I.hok p _ hk
          exact ⟨o, e, ex⟩
        · obtain ⟨_, _, _, _, o, _, _, e, ex, _⟩ := I.hok p _ hk
          exact ⟨o, e, ex⟩
      obtain ⟨o, e, ex⟩ := z
      refine ⟨⟨o, e, ex.1⟩, fun a e2 => ?_⟩
      cases e2
      exact ⟨o, e, ex.2.1⟩
    · obtain ⟨o, _, _, _, e, ex, _⟩ := I.hok p _ hk
      refine ⟨⟨o, e, ex.1⟩, fun a e2 => ?_⟩
      cases e2
      exact ⟨o, e, ex.2.1⟩
  | _ => exact False.elim ty
noncomputable def tBM0 (K : PySem.W.Frag) (T : String) (r : V → List V → Hp → VK → Prop) (to : TE) : TE := fun σ H Q => to σ H fun x H1 => tyV K T x H1 ∧ r x [] H1 Q
noncomputable def tBM (K : PySem.W.Frag) (T : String) (r : V → List V → Hp → VK → Prop) (to : TE) (t : TA) : TE := fun σ H Q => to σ H fun x H1 => tyV K T x H1 ∧ t σ H1 fun xs H2 => r x xs H2 Q
variable {o e : Expr} {es : List Expr} {to : TE} {t : TA} {name : Str} {apos cpos : Pos} {T id : String} {r : V → List V → Hp → VK → Prop}
theorem pe_bm0 (pa : PlainAttrs T) (slot : Slot T name id) (hty : typeOf (.builtin id) = pure (.type "method_descriptor")) (hm : MtR X id r) (ho : PE X o to)
    (hbase : attributeBase o name X.env (eval o X.env) = eval o X.env := by rfl) (hline : (apos.endLine == cpos.line) = true := by rfl) : PE X (.Call (.Attribute o name apos) [] [] cpos) (tBM0 X.K T r to) := by
  intro pins s σ H Q I h
  refine wpAny_Call_method0_late hbase hline (thn (ho pins s σ H _ I h) fun v s1 ⟨x, H1, I1, r1, ty, q1⟩ => ?_)
  obtain ⟨h1, h2⟩ := tyV_is I1 r1 ty
  exact ⟨T, id, pa, slot, hty, h1, h2, Calls.callWith_builtin rfl (PySem.evalArgs_none (hm pins s1 σ H1 x [] v [] Q I1 r1 .nil q1))⟩
theorem pe_bm (pa : PlainAttrs T) (slot : Slot T name id) (hty : typeOf (.builtin id) = pure (.type "method_descriptor")) (hm : MtR X id r) (ho : PE X o to) (ha : PA X (e :: es) t)
    (hbase : attributeBase o name X.env (eval o X.env) = eval o X.env := by rfl)
    (hfew : ((backTo cpos (starEach (e :: es) X.env)).all (fun x => !x.1) && (backToKw cpos (keywordEach [] X.env)).all (fun x => x.1.isSome)
      && decide ((e :: es).length + ([] : List Keyword).length + (if ([] : List Keyword).isEmpty then 0 else 1) < 30)) = true := by rfl)
    (hline : (apos.endLine == cpos.line) = true := by rfl) (hs : starEach (e :: es) X.env = (false, eval e X.env) :: starEach es X.env := by rfl) (hplain : (backTo cpos (starEach es X.env)).any (·.1) = false := by rfl) :
    PE X (.Call (.Attribute o name apos) (e :: es) [] cpos) (tBM X.K T r to t) := by
  intro pins s σ H Q I h
  refine wpAny_Call_method_late hbase hfew hline rfl (thn (ho pins s σ H _ I h) fun v s1 ⟨x, H1, I1, r1, ty, q1⟩ => ?_)
  obtain ⟨h1, h2⟩ := tyV_is I1 r1 ty
  refine ⟨T, id, pa, slot, hty, h1, h2, ?_⟩
  have hA := ha cpos pins s1 σ H1 _ I1 q1
  rw [hs] at hA ⊢
  refine Calls.callWith_builtin (by show (false || (backTo cpos (starEach es X.env)).any (·.1)) = false; rw [hplain] <;> rfl) (Calls.evalArgs_plain ?_)
  exact thn hA fun us s2 ⟨vs, H2, I2, r2, q2⟩ => hm pins s2 σ H2 x vs v us Q I2 r1 r2 q2
end
end L2
namespace L2
open PySem PySem.Spec PyProof.Rows
noncomputable def MtM (X : Cx) (id : String) (r : V → List V → Hp → VK → Prop) : Prop :=
  ∀ (pins : List (Addr × Obj)) (s : Shared) (σ : St) (H : Hp) (x : V) (xs : List V) (v : Value) (us : List Value) (Q : VK), Inv X pins σ H s → RelV x v → Vals xs us → r x xs H Q →
    wpAny (model X.prog X.w) X.A (call (.builtin id) (v :: us)) (EP X pins σ Q) X.xe s
theorem Vals.one : ∀ {x : V} {us : List Value}, Vals [x] us → ∃ u, us = [u] ∧ RelV x u
  | _, _, .cons r .nil => ⟨_, rfl, r⟩
theorem Vals.two : ∀ {x y : V} {us : List Value}, Vals [x, y] us → ∃ u v, us = [u, v] ∧ RelV x u ∧ RelV y v
  | _, _, _, .cons r (.cons q .nil) => ⟨_, _, rfl, r, q⟩
theorem Vals.zero : ∀ {us : List Value}, Vals [] us → us = []
  | _, .nil => rfl
theorem Vals.dropLast {xs : List V} {us : List Value} (h : Vals xs us) : Vals xs.dropLast us.dropLast := by
  induction h with
  | nil => exact .nil
  | cons r t ih =>
    cases t with
    | nil => exact .nil
    | cons q t' => exact .cons r ih
theorem Vals.eraseIdx : ∀ {xs : List V} {us : List Value} (i : Nat), Vals xs us → Vals (xs.eraseIdx i) (us.eraseIdx i)
  | _, _, _, .nil => .nil
  | _, _, 0, .cons _ t => t
  | _, _, i + 1, .cons r t => .cons r (Vals.eraseIdx i t)
theorem Vals.reverse {xs : List V} {us : List Value} (h : Vals xs us) : Vals xs.reverse us.reverse := by
  induction h with
  | nil => exact .nil
  | cons r t ih => rw [List.reverse_cons, List.reverse_cons]; exact Vals.append ih (.cons r .nil)
theorem Vals.rep {xs : List V} {us : List Value} (h : Vals xs us) : ∀ k : Nat, Vals (List.replicate k xs).flatten (List.replicate k us).flatten
  | 0 => .nil
  | k + 1 => by
    rw [List.replicate_succ, List.replicate_succ, List.flatten_cons, List.flatten_cons]
    exact Vals.append h (Vals.rep h k)
theorem erase_last {α : Type} (l : List α) : l.eraseIdx (l.length - 1) = l.dropLast := by
  induction l with
  | nil => rfl
  | cons a r ih =>
    cases r with
    | nil => rfl
    | cons b r =>
      have e : (a :: b :: r).length - 1 = ((b :: r).length - 1) + 1 := by
        have h1 : (a :: b :: r).length = r.length + 2 := rfl
        have h2 : (b :: r).length = r.length + 1 := rfl
        omega
      rw [e, List.eraseIdx_cons_succ, ih]
      all_goals rfl
theorem foldl_rep (its : List Value) : ∀ (k : Nat) (acc : List Value),
    List.foldl (fun x1 x2 => x1 ++ x2) acc.toArray (List.replicate k its.toArray) = (acc ++ (List.replicate k its).flatten).toArray
  | 0, acc => by simp
  | k + 1, acc => by
    have e : acc.toArray ++ its.toArray = (acc ++ its).toArray := by simp
    have e2 : (acc ++ its) ++ (List.replicate k its).flatten = acc ++ (List.replicate (k + 1) its).flatten := by
      rw [List.replicate_succ, List.flatten_cons, List.append_assoc]
    rw [← e2, ← foldl_rep its k (acc ++ its), ← e, List.replicate_succ, List.foldl_cons]
noncomputable section
variable {X : Cx} {pins : List (Addr × Obj)} {σ : St} {H : Hp} {s : Shared} {l b : Addr} {xs ys zs : List V}
theorem Inv.lset {its its' : List Value} {n : Nat} {f : Array Value → Array Value} {t' : Nat} (I : Inv X pins σ H s) (hH : H l = some (.lst xs))
    (e : s.heap.get? l = some { cls := .type "list", data := .seq its.toArray n }) (hf : f its.toArray = its'.toArray) (hv : Vals ys its') (hz : ys.length ≤ sizeLine) :
    Inv X pins σ (upd H l (.lst ys)) { s with heap := s.heap.update l (Obj.mapSeq f), toks := t' } := by
  have q := PySem.IsL.update e f
  rw [hf] at q
  refine I.write (x := l) (e := l) (by rw [hH]; exact trivial) (.inl rfl) (fun b' u hb hu => (Heap.get?_update_other s.heap (Obj.mapSeq f) (Ne.symm hb)).trans hu) ⟨_, q⟩ ?_
  exact ⟨hz, its', _, hv, q⟩
theorem Inv.lnew {its : List Value} {t' : Nat} (I : Inv X pins σ H s) (hv : Vals ys its) (hz : ys.length ≤ sizeLine) :
    Inv X pins σ (upd H s.heap.objs.size (.lst ys)) { s with heap := s.heap.push { cls := .type "list", data := .seq its.toArray }, toks := t' } :=
  I.laid (fun _ _ q => Heap.get?_push_of_some _ q) (Nat.le_refl _) ⟨hz, its, 0, hv, Heap.get?_push_size _ rfl⟩
theorem Inv.fresh (I : Inv X pins σ H s) : H s.heap.objs.size = none := I.hok.fresh (Nat.le_refl _)
theorem Inv.lstM (I : Inv X pins σ H s) (hH : H l = some (.lst xs)) : xs.length ≤ sizeLine ∧ ∃ (its : List Value) (n : Nat), Vals xs its ∧ xs.length = its.length ∧ s.heap.get? l = some { cls := .type "list", data := .seq its.toArray n } := by
  obtain ⟨z, its, n, r, e⟩ := I.hok l _ hH
  exact ⟨z, its, n, r, r.length, e⟩
theorem notLongL {n : Nat} (h : n ≤ sizeLine) : Builtin.List.listTooLong n = false := by
  unfold Builtin.List.listTooLong
  exact decide_eq_false (by omega)
end
noncomputable section
variable {X : Cx}
noncomputable def rAppend : V → List V → Hp → VK → Prop := fun x vs H Q => ∃ l xs y, x = .ref l ∧ vs = [y] ∧ H l = some (.lst xs) ∧ xs.length < sizeLine ∧ Q .non (upd H l (.lst (xs ++ [y])))
theorem mt_append : MtM X "list.append" rAppend := by
  intro pins s σ H x vs v us Q I rx rv h
  obtain ⟨l, xs, y, rfl, rfl, hH, hz, q⟩ := h
  cases rx
  obtain ⟨u, rfl, ru⟩ := rv.one
  obtain ⟨z, its, n, r, hl, e⟩ := I.lstM hH
  refine call_meets F.slot_list_append ⟨_, e, rfl⟩ F.entry_list_append (F.args_list_append_2 _ _) (PySem.list_append l its.toArray n u (by rw [List.size_toArray]; omega)) ⟨e, ?_⟩
  refine ⟨.non, _, I.lset (its' := its ++ [u]) hH e (by simp) (r.append (.cons ru .nil)) ?_, rfl, q⟩
  rw [List.length_append, List.length_singleton]
  omega
noncomputable def rExtend : V → List V → Hp → VK → Prop := fun x vs H Q => ∃ l b xs zs, x = .ref l ∧ vs = [.ref b] ∧ H l = some (.lst xs) ∧ H b = some (.lst zs) ∧ xs.length + zs.length ≤ sizeLine ∧ Q .non (upd H l (.lst (xs ++ zs)))
theorem mt_extend : MtM X "list.extend" rExtend := by
  intro pins s σ H x vs v us Q I rx rv h
  obtain ⟨l, b, xs, zs, rfl, rfl, hH, hB, hz, q⟩ := h
  cases rx
  obtain ⟨u, rfl, ru⟩ := rv.one
  cases ru
  obtain ⟨z, its, n, r, hl, e⟩ := I.lstM hH
  obtain ⟨z2, its2, n2, r2, hl2, e2⟩ := I.lstM hB
  have hsz : its.toArray.size + its2.toArray.size ≤ sizeLine := by rw [List.size_toArray, List.size_toArray]; omega
  have hlong : ¬ (!its.toArray.isEmpty && Builtin.List.listTooLong (its.toArray.size + its2.toArray.size)) = true := by
    rw [notLongL hsz, Bool.and_false]
    exact Bool.false_ne_true
  refine call_meets F.slot_list_extend ⟨_, e, rfl⟩ F.entry_list_extend (F.args_list_extend_2 _ _)
    (AutoSeq1.list_extend_list_list_0 l its.toArray n b its2.toArray n2 hlong (by rw [List.size_toArray]; omega) (by omega)) ⟨e, e2, ?_⟩
  refine ⟨.non, _, I.lset (its' := its ++ its2) hH e (by simp) (r.append r2) ?_, rfl, q⟩
  rw [List.length_append]
  omega
noncomputable def rPop : V → List V → Hp → VK → Prop := fun x vs H Q => ∃ l xs y, x = .ref l ∧ vs = [] ∧ H l = some (.lst xs) ∧ xs[xs.length - 1]? = some y ∧ Q y (upd H l (.lst xs.dropLast))
theorem mt_pop : MtM X "list.pop" rPop := by
  intro pins s σ H x vs v us Q I rx rv h
  obtain ⟨l, xs, y, rfl, rfl, hH, hy, q⟩ := h
  cases rx
  have hus := rv.zero
  subst hus
  obtain ⟨z, its, n, r, hl, e⟩ := I.lstM hH
  obtain ⟨u, hu, ru⟩ := r.get hy
  have hy' : its.toArray[its.toArray.size - 1]? = some u := by
    show its.toArray[its.length - 1]? = some u
    rw [← Array.getElem?_toList, ← hl]
    exact hu
  refine call_meets F.slot_list_pop ⟨_, e, rfl⟩ F.entry_list_pop (F.args_list_pop_1 _) (MeetsSeq.list_pop_last l its.toArray n u hy' (by rw [List.size_toArray]; omega)) ⟨e, ?_⟩
  refine ⟨y, _, I.lset (its' := its.dropLast) hH e ?_ r.dropLast ?_, ru, q⟩
  · show its.toArray.eraseIdxIfInBounds (its.toArray.size - 1) = its.dropLast.toArray
    rw [List.size_toArray, List.eraseIdxIfInBounds_toArray, erase_last]
  · rw [List.length_dropLast]
    omega
noncomputable def rCat : R2 := fun x y H Q => ∃ l b xs zs, x = .ref l ∧ y = .ref b ∧ H l = some (.lst xs) ∧ H b = some (.lst zs) ∧ xs.length + zs.length ≤ sizeLine ∧ ∀ p, H p = none → Q (.ref p) (upd H p (.lst (xs ++ zs)))
theorem op_cat : OpR X (binaryOp .Add) rCat := by
  intro pins s σ H x y v u Q I rx ry h
  obtain ⟨l, b, xs, zs, rfl, rfl, hH, hB, hz, q⟩ := h
  cases rx
  cases ry
  obtain ⟨z, its, n, r, hl, e⟩ := I.lstM hH
  obtain ⟨z2, its2, n2, r2, hl2, e2⟩ := I.lstM hB
  refine PySem.P.add_list e e2 ?_ (by rw [List.size_toArray, List.size_toArray]; omega)
  have ea : its.toArray ++ its2.toArray = (its ++ its2).toArray := by simp
  rw [ea]
  exact ⟨.ref _, _, I.lnew (t' := s.toks) (r.append r2) (by rw [List.length_append]; omega), rfl, q _ I.fresh⟩
noncomputable def rRep : R2 := fun x y H Q => ∃ l k xs, x = .ref l ∧ y = .int k ∧ H l = some (.lst xs) ∧ -(2 ^ 63) ≤ k ∧ k < 2 ^ 63 ∧ xs.length * k.toNat ≤ sizeLine ∧
  ∀ p, H p = none → Q (.ref p) (upd H p (.lst (List.replicate k.toNat xs).flatten))
theorem len_rep {α : Type} (xs : List α) (k : Nat) : (List.replicate k xs).flatten.length = k * xs.length := by
  induction k with
  | zero => simp
  | succ k ih => rw [List.replicate_succ, List.flatten_cons, List.length_append, ih, Nat.succ_mul, Nat.add_comm]
theorem op_rep : OpR X (binaryOp .Mult) rRep := by
  intro pins s σ H x y v u Q I rx ry h
  obtain ⟨l, k, xs, rfl, rfl, hH, h1, h2, hz, q⟩ := h
  cases rx
  obtain ⟨t, rfl⟩ := ry
  obtain ⟨z, its, n, r, hl, e⟩ := I.lstM hH
  have hlen : its.toArray.size * k.toNat ≤ sizeLine := by rw [List.size_toArray, ← hl]; exact hz
  have hcap : ¬ its.toArray.size * k.toNat > (2 ^ 63 - 1) / 8 := by
    have : (sizeLine : Nat) ≤ (2 ^ 63 - 1) / 8 := by decide
    omega
  have hfit : ¬ (!Builtin.List.listFitsIndex k) = true := by
    rw [fitsIndex_both h1 h2]
    exact Bool.false_ne_true
  have hlong : ¬ Builtin.List.listTooLong (its.toArray.size * k.toNat) = true := by
    rw [notLongL hlen]
    exact Bool.false_ne_true
  have hnew : List.foldl (fun x1 x2 => x1 ++ x2) #[] (List.replicate (if its.toArray.isEmpty = true then 0 else k.toNat) its.toArray) = (List.replicate k.toNat its).flatten.toArray := by
    have f0 : ∀ m : Nat, List.foldl (fun x1 x2 => x1 ++ x2) #[] (List.replicate m its.toArray) = (List.replicate m its).flatten.toArray := fun m => by
      have := foldl_rep its m []
      rw [List.nil_append] at this
      exact this
    rw [f0]
    cases its with
    | nil => simp
    | cons a r' => rw [if_neg (by simp)]
  refine wpAny_binaryOp_repeat_ref (T := "list") (U := "int") (by decide) ⟨_, e, rfl⟩ (fun s' => typeIs_int s' k t) noFill_list_mul F.fills_int_mul F.slot_int_rmul repeat_list F.slot_int_index.lookup
    (call_meets F.slot_int_rmul (typeIs_int s k t) F.entry_int_rmul (F.args_int_rmul_2 _ _) (int___rmul___int_list k t l its.toArray n)
      ⟨e, rfl, ⟨_, e, rfl⟩, call_meets F.slot_list_mul ⟨_, e, rfl⟩ F.entry_list_mul (F.args_list_mul_2 _ _) (AutoListH.list___mul___list_int_3 l its.toArray n k t hfit hcap hlong) ⟨e, ?_⟩⟩)
  rw [hnew]
  exact ⟨.ref _, _, I.lnew (t' := s.toks) (r.rep k.toNat) (by rw [len_rep, Nat.mul_comm]; exact hz), rfl, q _ I.fresh⟩
end
noncomputable section
variable {prog : Program} {w : World} {A : Around} {E : Value → Shared → Prop} {s : Shared}
set_option maxRecDepth 100000 in
end
noncomputable section
variable {X : Cx}
end
end L2
namespace Att
open PySem PySem.W PySem.Calls PyProof.Rows
theorem ints_of_wellAll {P : Params} {h : Heap} : ∀ (ns : List Int) (vs : List Value), WellAll P h vs (ns.map WData.int) → IntsAre vs ns := by
  intro ns
  induction ns with
  | nil =>
    intro vs w
    rw [List.map_nil] at w
    cases w
    exact .nil
  | cons n ns ih =>
    intro vs w
    rw [List.map_cons] at w
    cases w with
    | cons a b =>
      cases a
      exact .cons _ _ (ih _ b)
theorem script_of {l : OpenLaw} {n : Nat} (hn : l.most = some n) {P : Params} {h : Heap} {args : List WData} {vals : List Value}
    (hpre : l.row.toRowW.claim.pre args = true) (hwl : WellAll P h vals args) :
    ∃ a vs ns, vals = [Value.ref a] ∧ args = [WData.list (ns.map WData.int)] ∧ h.get? a = some { cls := .type "list", data := .seq vs.toArray } ∧ IntsAre vs ns ∧ ns.length ≤ n := by
  have hsh : WShape.hasAll [] args [.list .int] = true := (pre_splitW hpre).1
  have hc : l.pre.holds [] { args := args } = true := (pre_splitW hpre).2
  obtain ⟨d, r, rfl, h1, h2⟩ := hasAllW_cons hsh
  obtain rfl := hasAllW_nil h2
  obtain ⟨xs, rfl, h3⟩ := hasW_list h1
  obtain ⟨ns, rfl⟩ := items_int h3
  have hlen : ns.length ≤ n := by
    unfold OpenLaw.pre at hc
    have h4 : (WTm.not (.lt (.lit (.int (n : Int))) (.len (.arg 0)))).holds [] { args := [.list (ns.map .int)] } = true := by
      have h4 := (holds_andW hc).1
      rw [hn] at h4
      exact h4
    have h5 := condW_of h4 (w_not (w_lt w_lit (w_len_list (w_arg rfl))))
    rw [List.length_map] at h5
    refine Nat.le_of_not_lt fun q => ?_
    have q' : (n : Int) < ((ns.length : Nat) : Int) := by omega
    first
      | (rw [decide_eq_true q'] at h5; exact absurd h5 (by decide))
      | (simp at h5; omega)
  cases hwl with
  | cons w1 w2 =>
    cases w2
    cases w1 with
    | list ho hall => exact ⟨_, _, ns, rfl, rfl, ho, ints_of_wellAll ns _ hall, hlen⟩
theorem post_true (l : OpenLaw) (args : List WData) : l.row.toRowW.claim.post args (.bool true) args = true :=
  postW_of (r := l.row.toRowW) (X := (true == true))
    (show WShape.has [] (.bool true) .bool = true by first | rfl | decide | simp [WShape.has, WShape.arms, WShape.armsAll])
    (show (WTm.eq .res (.lit (.bool true))).value [] { args := args, res := some (.bool true), after := args } = some (.bool (true == true)) from w_eq_bool (w_res rfl) w_lit) rfl
theorem attach_call {l : OpenLaw} {n : Nat} {q : Program} {loose : List Str} {XP : (Str → Option Value) → Heap → Prop} {YP : World → Heap → Prop} {d : DefRec}
    (hn : l.most = some n) (hdf : d.params.defaults = [])
    (call : ∀ (w : World) (s₀ s₁ : Shared) (mg mb : Str → Option Value) (fa : Addr) (o : Obj) (pm cd doc : Value) (a : Addr) (vs : List Value) (ns : List Int),
      Ground q loose [] XP w s₀ mg mb s₁.heap → YP w s₁.heap →
      s₁.heap.get? fa = some o → o.data = .func (docDef d.name d.params d.body d.scope pm cd doc) → s₁.heap.CodeRec cd d.name → mg d.name = some (.ref fa) →
      s₁.heap.get? a = some { cls := .type "list", data := .seq vs.toArray } → IntsAre vs ns → ns.length ≤ n → s₁.gens = #[] →
      codeAny (model l.prog w) callerA (.call (.ref fa) ⟨[.ref a], []⟩) (fun r s' => r = .ok (.ret (.bool true)) ∧ OldK s₁.heap s'.heap ∧ s'.os = s₁.os ∧ AllBare s'.gens) s₁) :
    WalkO q loose XP YP l.row.toRowW d [] (fun f vs => PySem.call f vs) := by
  intro w s₀ s₁ mg mb G Y fa o pm cd doc dV kV ho hd hcd hD hmg hg args vals as hpre hlay hrd hwl hlo
  obtain rfl : dV = .none := Dflts.none hD hdf
  obtain rfl : kV = .none := Dflts.noKw hD
  obtain ⟨a, vs, ns, rfl, rfl, hobj, hints, hlen⟩ := script_of hn hpre hwl
  refine enter_call (codeAny_mono (call w s₀ s₁ mg mb fa o pm cd doc a vs ns G Y ho (fd_plain hd) hcd hmg hobj hints hlen hg) fun r s' hq => ?_)
  obtain ⟨rfl, h2, h3, h4⟩ := hq
  exact ⟨.inl ⟨.bool true, .bool true, [], rfl, fun _ => rfl, .bool true, post_true l _, fun _ => ⟨List.Pairwise.nil, fun _ hm => (nomatch hm)⟩⟩, h2, h3, h4⟩
noncomputable section
variable {prog : Program} {w : World} {A : Around} {E : Value → Shared → Prop} {s : Shared} {K : Frag}
end
end Att
namespace L2
open PySem PySem.Spec PyProof.Rows
theorem vals_ints : ∀ {vs : List Value} {ns : List Int}, IntsAre vs ns → Vals (ns.map V.int) vs
  | _, _, .nil => .nil
  | _, _, .cons n t h => .cons ⟨t, rfl⟩ (vals_ints h)
noncomputable def Only (H : Hp) : Prop := ∀ b, H b = none ∨ ∃ o xs, H b = some (.frz o (.lst xs))
theorem law_call {P : Program} {w : World} {K : PySem.W.Frag} {mg mb : Str → Option Value} {CX : CXT} {k : Nat} {fa a : Addr} {fd : FuncData} {x : Str} {sp : Sp} {s₁ : Shared} {vs : List Value} {ns : List Int}
    (KX : K.In s₁.heap) (hns : s₁.heap.Ns mainGlobals mg) (hb : s₁.heap.Ns builtinsNs mb) (hbb : ∀ x : Str, x ≠ "__name__" → mb x = bootBuiltins x) (hlim : s₁.heap.NoLimit) (hg : s₁.gens = #[])
    (ha : s₁.heap.get? a = some { cls := .type "list", data := .seq vs.toArray }) (hi : IntsAre vs ns) (hl : ns.length ≤ sizeLine) (hr : Room k callerA)
    (F : ∀ base : Heap, K.In base → base.Ns mainGlobals mg → FnOk P w K mg base CX k fa fd [x] sp) (hbind : ∀ (s : Shared) (u : Value), BindsTo s fd ⟨[u], []⟩ [(x, u)])
    (hsp : ∀ H : Hp, Only H → SqL K H a (ns.map V.int) → sp [.ref a] H (fun v _ => v = .bl true) fun _ _ _ => False)
    (hCX : ∀ H e s', CX [] H s₁ (fun _ _ _ => False) e s' → False) :
    codeAny (model P w) callerA (.call (.ref fa) ⟨[.ref a], []⟩) (fun r s' => r = .ok (.ret (.bool true)) ∧ OldK s₁.heap s'.heap ∧ s'.os = s₁.os ∧ AllBare s'.gens) s₁ := by
  have rv := vals_ints hi
  have lenV := hi.length
  have core : ∀ H : Hp, Only H → SqL K H a (ns.map V.int) → HOk P w H s₁.heap → (∀ b, H b ≠ none → b = a) → (H a ≠ none → K.lookup a = none) →
      codeAny (model P w) callerA (.call (.ref fa) ⟨[.ref a], []⟩) (fun r s' => r = .ok (.ret (.bool true)) ∧ OldK s₁.heap s'.heap ∧ s'.os = s₁.os ∧ AllBare s'.gens) s₁ := by
    intro H hO hS hok hA hK
    have base_of : ∀ {b : Addr} {o : Obj}, s₁.heap.get? b = some o → H b = none → (hidT s₁.heap H).get? b = some o := fun e n => hidT_get e n
    have noA : ∀ {b : Addr} {o : Obj} {es : Array DictEntry} {ep : Nat}, s₁.heap.get? b = some o → o.data = .dict es ep → H b = none := fun {b o es ep} e d => by
      cases q : H b with
      | none => rfl
      | some u =>
        have e' : b = a := hA b (by rw [q]; simp)
        subst e'
        rw [ha] at e; cases e
        have d' : Data.seq vs.toArray _ = Data.dict es ep := d
        cases d'
    have nsK : ∀ {b : Addr} {m : Str → Option Value}, s₁.heap.Ns b m → (hidT s₁.heap H).Ns b m := fun {b m} ⟨o, es, ep, e, d, r⟩ => ⟨o, es, ep, base_of e (noA e d), d, r⟩
    have hKb : K.In (hidT s₁.heap H) := fun b o e => base_of (KX b o e) (by
      cases q : H b with
      | none => rfl
      | some u =>
        have e' : b = a := hA b (by rw [q]; simp)
        subst e'
        rw [hK (by rw [q]; simp)] at e; cases e)
    have hM : Mod K mg (hidT s₁.heap H) := ⟨hKb, nsK hns, ⟨mb, nsK hb, hbb⟩, let ⟨mc, h1, h2⟩ := hlim; ⟨mc, nsK h1, h2⟩⟩
    have e0 : Env0 P w K mg (hidT s₁.heap H) callerA [] s₁ H := ⟨rfl, hM, fun b o e => of_hidT e, Nat.le_of_eq (hidT_size _ _), trivial, fun b hb => absurd (show b ∈ ([] : List Addr) from hb) (by simp), hok, .of_eq hg⟩
    refine codeAny_mono ((F _ hKb (nsK hns)).run callerA [] s₁ H ⟨[.ref a], []⟩ [.ref a] [.ref a] _ _ hr e0 (hbind s₁ (.ref a)) (.cons rfl .nil) (hsp H hO hS)) fun r s' h => ?_
    cases r with
    | error e => exact (hCX H e s' h).elim
    | ok fl =>
      cases fl with
      | next => exact False.elim h
      | brk => exact False.elim h
      | cont => exact False.elim h
      | ret u =>
        obtain ⟨v, H', os, bare, un, hok', r', q⟩ := h
        have q' : v = .bl true := q
        subst q'
        obtain rfl : u = Value.bool true := r'
        refine ⟨rfl, OldK.of_keep fun b o e => ?_, os, bare⟩
        cases q : H b with
        | none => exact un.keep b o e q (by intro z; exact absurd (show b ∈ ([] : List Addr) from z) (by simp)) (by simp)
        | some u =>
          rcases hO b with z | ⟨ob, xs, z⟩
          · rw [q] at z; cases z
          · have z2 := un.frzs b ob _ z
            obtain ⟨e1, _⟩ := hok b _ z
            obtain ⟨e2, _⟩ := hok' b _ z2
            rw [e] at e1; cases e1
            exact e2
  cases hk : K.lookup a with
  | some o =>
    have e := KX a o hk
    rw [ha] at e
    cases e
    refine core (fun _ => none) (fun _ => .inl rfl) (.inr ⟨_, vs.toArray, _, hk, rfl, rfl, rfl, by rw [List.size_toArray, lenV]; exact hl, by simpa using rv⟩) (fun b u z => by have z' : (none : Option HO) = some u := z; cases z') (fun b z => absurd rfl z) fun z => absurd rfl z
  | none =>
    refine core (fun b => if b = a then some (.frz { cls := .type "list", data := .seq vs.toArray } (.lst (ns.map V.int))) else none) (fun b => ?_) (.inl (.inr ⟨{ cls := .type "list", data := .seq vs.toArray }, if_pos rfl⟩)) (fun b u z => ?_) (fun b z => ?_) fun _ => hk
    · by_cases hb : b = a
      · exact .inr ⟨_, _, if_pos hb⟩
      · exact .inl (if_neg hb)
    · by_cases hb : b = a
      · have z' := (if_pos hb).symm.trans z
        cases z'
        subst hb
        exact ⟨ha, by rw [List.length_map]; exact hl, vs, _, rv, ha⟩
      · have z' := (if_neg hb).symm.trans z
        cases z'
    · by_cases hb : b = a
      · exact hb
      · exact absurd (if_neg hb) z
end L2
namespace L2
open PySem PySem.Spec PyProof.Rows
theorem walk_of {l : PySem.W.OpenLaw} {n k : Nat} {q : Program} {loose : List Str} {XP : (Str → Option Value) → Heap → Prop} {YP : World → Heap → Prop} {d : DefRec} {K : Params → PySem.W.Frag} {CX : World → CXT} {sp : World → Sp} {x : Str}
    (hn : l.most = some n) (hn2 : n ≤ sizeLine) (hdf : d.params.defaults = []) (hr : Room k callerA)
    (hY : ∀ (w : World) (h : Heap), YP w h → (K w.params).In h)
    (F : ∀ (w : World) (mg : Str → Option Value) (fa : Addr) (h : Heap), (K w.params).In h → h.Ns mainGlobals mg → mg d.name = some (.ref fa) →
      ∃ fd : FuncData, (∀ (s : Shared) (u : Value), BindsTo s fd ⟨[u], []⟩ [(x, u)]) ∧
        ∀ base : Heap, (K w.params).In base → base.Ns mainGlobals mg → FnOk l.prog w (K w.params) mg base (CX w) k fa fd [x] (sp w))
    (hsp : ∀ (w : World) (H : Hp) (a : Addr) (ns : List Int), ns.length ≤ n → Only H → SqL (K w.params) H a (ns.map V.int) → sp w [.ref a] H (fun v _ => v = .bl true) fun _ _ _ => False)
    (hCX : ∀ (w : World) (H : Hp) (s : Shared) (e : Value) (s' : Shared), CX w [] H s (fun _ _ _ => False) e s' → False) :
    PySem.W.WalkO q loose XP YP l.row.toRowW d [] (fun f vs => PySem.call f vs) := by
  refine Att.attach_call hn hdf fun w s₀ s₁ mg mb fa o pm cd doc a vs ns G Y ho hd hcd hmg hobj hints hlen hg => ?_
  have KX := hY w _ Y
  obtain ⟨fd, hb, hF⟩ := F w mg fa _ KX G.T.g hmg
  exact law_call KX G.T.g G.T.b G.T.builtins G.T.nolimit hg hobj hints (Nat.le_trans hlen hn2) hr hF hb (fun H hO hS => hsp w H a ns hlen hO hS) fun H e s' => hCX w H s₁ e s'
theorem walk_ofK {l : PySem.W.OpenLaw} {n k : Nat} {q : Program} {loose : List Str} {XP : (Str → Option Value) → Heap → Prop} {YP : World → Heap → Prop} {d : DefRec} {K : Params → PySem.W.Frag} {CX : CXT} {sp : PySem.W.Frag → Sp} {x : Str}
    (hn : l.most = some n) (hn2 : n ≤ sizeLine) (hdf : d.params.defaults = []) (hr : Room k callerA)
    (hY : ∀ (w : World) (h : Heap), YP w h → (K w.params).In h)
    (F : ∀ (w : World) (mg : Str → Option Value) (fa : Addr) (h : Heap), (K w.params).In h → h.Ns mainGlobals mg → mg d.name = some (.ref fa) →
      ∃ fd : FuncData, (∀ (s : Shared) (u : Value), BindsTo s fd ⟨[u], []⟩ [(x, u)]) ∧
        ∀ base : Heap, (K w.params).In base → base.Ns mainGlobals mg → FnOk l.prog w (K w.params) mg base CX k fa fd [x] (sp (K w.params)))
    (hsp : ∀ (K : PySem.W.Frag) (H : Hp) (a : Addr) (ns : List Int), ns.length ≤ n → Only H → SqL K H a (ns.map V.int) → sp K [.ref a] H (fun v _ => v = .bl true) fun _ _ _ => False)
    (hCX : ∀ (H : Hp) (s : Shared) (e : Value) (s' : Shared), CX [] H s (fun _ _ _ => False) e s' → False) :
    PySem.W.WalkO q loose XP YP l.row.toRowW d [] (fun f vs => PySem.call f vs) :=
  walk_of (K := K) (CX := fun _ => CX) (sp := fun w => sp (K w.params)) hn hn2 hdf hr hY F (fun w H a ns h1 h2 h3 => hsp (K w.params) H a ns h1 h2 h3) fun _ H s e s' => hCX H s e s'
end L2
namespace L2
open PySem PySem.Spec PyProof.Rows
noncomputable def inClass (s : Stmt) (j : Nat) : Stmt := match s with
  | .ClassDef _ _ _ body _ _ _ _ _ _ _ => body.getD j (.Pass ⟨0, 0, 0, 0⟩)
  | _ => .Pass ⟨0, 0, 0, 0⟩
noncomputable def defArgs (s : Stmt) : Arguments := match s with
  | .FunctionDef _ a _ _ _ _ _ _ _ _ => a
  | _ => { posonlyargs := [], args := [], vararg := none, kwonlyargs := [], kw_defaults := [], kwarg := none, defaults := [] }
noncomputable def defBody (s : Stmt) : List Stmt := match s with
  | .FunctionDef _ _ b _ _ _ _ _ _ _ => b
  | _ => []
noncomputable def defScope (s : Stmt) : Scope := match s with
  | .FunctionDef _ _ _ _ _ _ sc _ _ _ => sc
  | _ => { kind := .function, names := [], isGenerator := false, isCoroutine := false }
noncomputable abbrev CX0 : CXT := fun _ _ _ _ _ _ => False
noncomputable abbrev E0 : XK := fun _ _ _ => False
theorem pass0 {X : Cx} : Passes CX0 X E0 := fun _ _ _ _ _ _ _ h => h.elim
structure Fun (K : PySem.W.Frag) (x qual : Str) (st : Stmt) (f : Addr) (fd : FuncData) : Prop where
  ex : ∃ (oc : Value) (od : Option Addr) (kV doc pm : Value) (an : Option Addr) (cdv ct : Value) (osl : Array (Option Value)),
    fd = PySem.W.fnOf x qual (defArgs st) (defBody st) (defScope st) .none kV doc pm an cdv ct ∧ K.lookup f = some ⟨oc, od, .func fd, osl⟩ ∧ PySem.W.codeIn K cdv qual = true
  kp : PySem.W.keepIn K (.ref f) = true
noncomputable section
variable {P : Program} {w : World} {K : PySem.W.Frag} {mg : Str → Option Value} {base : Heap}
theorem Fun.ok {x qual : Str} {st : Stmt} {f : Addr} {fd : FuncData} {N ps : List Str} {k : Nat} {sp : Sp} (F : Fun K x qual st f fd) (S : FnScope N ps (defScope st)) (len : ∀ vs H Q E, sp vs H Q E → vs.length = ps.length)
    (hbody : ∀ (cdv : Value) (A : Around) (outer : List Env) (s : Shared) (H : Hp) (vs : List V) (Q : VK) (E : XK), Room k (A.deeper (envOfC qual (defScope st) s.heap.objs.size f cdv)) → sp vs H Q E →
      ∃ t, PSs (cxOf CX0 P w K mg base N qual (defScope st) f cdv A outer s H E).nox (defBody st) t ∧ t { nx := fun _ H' => Q .non H', rt := Q } (start N vs) H) : FnOk P w K mg base CX0 (k + 1) f fd ps sp := by
  obtain ⟨oc, od, kV, doc, pm, an, cdv, ct, osl, rfl, lk, hcd⟩ := F.ex
  refine fn_of lk hcd S len fun A outer s H vs Q E hr hsp => ?_
  obtain ⟨t, h, q⟩ := hbody cdv A outer s H vs Q E hr hsp
  exact ⟨t, h.nox, q⟩
theorem Fun.binds {x qual : Str} {st : Stmt} {f : Addr} {fd : FuncData} {ps : List Str} (F : Fun K x qual st f fd)
    (h : ∀ (kV doc pm : Value) (an : Option Addr) (cdv ct : Value) (us : List Value), us.length = ps.length → bindArgs (PySem.W.fnOf x qual (defArgs st) (defBody st) (defScope st) .none kV doc pm an cdv ct) ⟨us, []⟩ = pure (ps.zip us)) : Binds K fd ps [] := by
  obtain ⟨oc, od, kV, doc, pm, an, cdv, ct, osl, rfl, lk, hcd⟩ := F.ex
  exact .all (h kV doc pm an cdv ct)
theorem fun_mk {x qual : Str} {st : Stmt} {f : Addr} {oc : Value} {od an : Option Addr} {osl : Array (Option Value)} {kV doc pm cdv ct : Value} (l : K.lookup f = some ⟨oc, od, .func (PySem.W.fnOf x qual (defArgs st) (defBody st) (defScope st) .none kV doc pm an cdv ct), osl⟩)
    (c : PySem.W.codeIn K cdv qual = true) (k : PySem.W.keepIn K (.ref f) = true) : Fun K x qual st f (PySem.W.fnOf x qual (defArgs st) (defBody st) (defScope st) .none kV doc pm an cdv ct) := ⟨⟨oc, od, kV, doc, pm, an, cdv, ct, osl, rfl, l, c⟩, k⟩
end
theorem small1000 {n : Nat} (h : n ≤ 1000) : n < sizeLine := Nat.lt_of_le_of_lt h (by decide)
noncomputable section
variable {X : Cx}
theorem pv (i : Nat) {x : Str} {pos : Pos} (hN : X.N[i]? = some x := by rfl) (hv : Vis X.env.scope x := by first | exact Or.inl rfl | exact Or.inr (Or.inl rfl) | exact Or.inr (Or.inr rfl)) (hd : (x == ("__debug__" : Str)) = false := by decide)
    (hcd : (x == ("__classdict__" : Str)) = false := by decide) : PE X (.Name x pos) (tVar i) := pe_var hN hv hd hcd
end
theorem iteF {A B : Prop} (h : B) : if false = true then A else B := by
  rw [if_neg Bool.false_ne_true]
  exact h
theorem iteT {A B : Prop} (h : A) : if true = true then A else B := by
  rw [if_pos rfl]
  exact h
theorem ite2 {c A B : Prop} [Decidable c] (h1 : c → A) (h2 : ¬ c → B) : if c then A else B := by
  by_cases h : c
  · rw [if_pos h]
    exact h1 h
  · rw [if_neg h]
    exact h2 h
noncomputable def Same (H H' : Hp) : Prop := ∀ b o, H b = some o → H' b = some o
theorem Same.refl (H : Hp) : Same H H := fun _ _ h => h
theorem Same.trans {H H1 H2 : Hp} (a : Same H H1) (b : Same H1 H2) : Same H H2 := fun c o h => b c o (a c o h)
theorem Same.free {H H' : Hp} (e : Same H H') {l : Addr} (h : H' l = Option.none) : H l = Option.none := by
  cases q : H l with
  | none => rfl
  | some o =>
    rw [e l o q] at h
    cases h
theorem Same.seq {K : PySem.W.Frag} {H H' : Hp} {a : Addr} {xs : List V} (e : Same H H') (h : SqL K H a xs) : SqL K H' a xs := by
  rcases h with (h | ⟨o, h⟩) | h
  · exact .inl (.inl (e _ _ h))
  · exact .inl (.inr ⟨o, e _ _ h⟩)
  · exact .inr h
end L2
end
noncomputable section
set_option maxRecDepth 100000
set_option maxHeartbeats 4000000
namespace L2
open PySem PySem.Spec PyProof.Rows
noncomputable section
variable {P : Program} {w : World} {H : Hp} {h : Heap} {a : Addr} {o : HO}
theorem HOk.track (x : HOk P w H h) (hn : H a = none) (new : ObjOk P w (upd H a o) h a o) : HOk P w (upd H a o) h := fun b u e => by
  by_cases hb : b = a
  · subst hb; rw [upd_same] at e; cases e; exact new
  · rw [upd_ne hb] at e
    exact (x b u e).stay (fun c v _ q => q) (fun c q => by rw [upd_ne (ne_of_none q hn)]; exact q) fun c xs q => by rw [upd_ne (ne_of_none q hn)]; exact q
theorem HOk.untrack {xs : List V} (x : HOk P w (upd H a (.lst xs)) h) (hn : H a = none) : HOk P w H h := fun b u e => by
  have hb : b ≠ a := ne_of_none e hn
  have k : ∀ c v, upd H a (.lst xs) c = some v → v ≠ .lst xs → H c = some v := fun c v q ne => by
    by_cases hc : c = a
    · subst hc; rw [upd_same] at q; cases q; exact absurd rfl ne
    · rwa [upd_ne hc] at q
  exact (x b u (by rw [upd_ne hb]; exact e)).stay (fun c v _ q => q) (fun c q => k c _ q (by intro z; cases z)) fun c ys q => k c _ q (by intro z; cases z)
end
noncomputable def lobj (its : List Value) (n : Nat) : Obj := { cls := .type "list", data := .seq its.toArray n }
noncomputable section
variable {X : Cx} {pins : List (Addr × Obj)} {σ : St} {H : Hp} {s : Shared} {D : Addr} {ys : List V} {its : List Value} {n : Nat}
theorem Inv.track (I : Inv X (pins ++ [(D, lobj its n)]) σ H s) (r : Vals ys its) (hz : ys.length ≤ sizeLine) (hD : X.s₀.heap.objs.size ≤ D) (hp : ∀ p ∈ X.pn ++ pins, p.1 ≠ D) : Inv X pins σ (upd H D (.lst ys)) s := by
  obtain ⟨e, hn, hL, hF, _⟩ := I.pin (D, lobj its n) (by simp)
  have old : ∀ b o, X.s₀.heap.get? b = some o → b ≠ D := fun b o q z => by
    have q' := Heap.lt_size q
    subst z
    exact Nat.lt_irrefl _ (Nat.lt_of_lt_of_le q' hD)
  refine ⟨I.ok, I.os, I.bare, ⟨I.base.keep, I.base.slot, fun b o q m x => ?_, I.base.there, fun b xs q => ?_, fun b o u q => ?_, fun b ps q => ?_⟩, I.loc, I.cell, ?_, fun x c q => ?_, fun p q => ?_, I.hok.track hn ⟨hz, its, n, r, e⟩, I.len⟩
  · rw [upd_ne (old b o q)]; exact I.base.free b o q m x
  · have := I.base.tups b xs q
    rw [upd_ne (ne_of_none this hn)]; exact this
  · have := I.base.frzs b o u q
    rw [upd_ne (ne_of_none this hn)]; exact this
  · obtain ⟨more, this⟩ := I.base.tbls b ps q
    exact ⟨more, by rw [upd_ne (ne_of_none this hn)]; exact this⟩
  · rw [upd_ne (Ne.symm hL)]; exact I.free
  · have nc : c ≠ D := fun z => by
      obtain ⟨v, ob, h1, h2⟩ := I.cell x c q
      rw [z, e] at h1; cases h1; cases h2
    rw [upd_ne nc]; exact I.freeC x c q
  · obtain ⟨a1, a2, a3⟩ := I.pin p (by rw [← List.append_assoc]; exact List.mem_append_left _ q)
    exact ⟨a1, by rw [upd_ne (hp p q)]; exact a2, a3⟩
theorem Inv.untrack (I : Inv X pins σ (upd H D (.lst ys)) s) (hn : H D = none) (hL : D ≠ X.env.locals) (hF : D ∉ X.fs) : ∃ its n, Vals ys its ∧ ys.length ≤ sizeLine ∧ Inv X (pins ++ [(D, lobj its n)]) σ H s := by
  obtain ⟨hz, its, n, r, e⟩ := I.hok D _ upd_same
  have k : ∀ c v, upd H D (.lst ys) c = some v → v ≠ .lst ys → H c = some v := fun c v q ne => by
    by_cases hc : c = D
    · subst hc; rw [upd_same] at q; cases q; exact absurd rfl ne
    · rwa [upd_ne hc] at q
  have k0 : ∀ c, upd H D (.lst ys) c = none → H c = none := fun c q => by
    by_cases hc : c = D
    · subst hc; exact hn
    · rwa [upd_ne hc] at q
  refine ⟨its, n, r, hz, I.ok, I.os, I.bare, ⟨I.base.keep, I.base.slot, fun b o q m x => k0 _ (I.base.free b o q m x), I.base.there, fun b xs q => k _ _ (I.base.tups b xs q) (by intro z; cases z), fun b o u q => k _ _ (I.base.frzs b o u q) (by intro z; cases z), fun b ps q => ?_⟩, I.loc, I.cell, k0 _ I.free, fun x c q => k0 _ (I.freeC x c q), fun p q => ?_, I.hok.untrack hn, I.len⟩
  · obtain ⟨more, this⟩ := I.base.tbls b ps q
    exact ⟨more, k _ _ this (by intro z; cases z)⟩
  · rw [← List.append_assoc] at q
    rcases List.mem_append.mp q with q | q
    · obtain ⟨a1, a2, a3⟩ := I.pin p q
      exact ⟨a1, k0 _ a2, a3⟩
    · have : p = (D, lobj its n) := by simpa using q
      subst this
      exact ⟨e, hn, hL, hF, fun v z => by cases z⟩
end
theorem cellsFrom_app : ∀ (names : List (Str × NameKind)) (n : Nat) (acc : List (Str × Addr)), cellsFrom n names acc = cellsFrom n names [] ++ acc
  | [], n, acc => rfl
  | (x, k) :: r, n, acc => by
    unfold cellsFrom
    split
    · rw [cellsFrom_app r (n + 1) ((x, n) :: acc), cellsFrom_app r (n + 1) [(x, n)], List.append_assoc]; rfl
    · exact cellsFrom_app r n acc
theorem cellsFrom_kind : ∀ (names : List (Str × NameKind)) (n : Nat) (acc : List (Str × Addr)) (x : Str) (c : Addr), (x, c) ∈ cellsFrom n names acc → (x, c) ∈ acc ∨ (x, NameKind.cell) ∈ names
  | [], n, acc, x, c, h => .inl h
  | (y, k) :: r, n, acc, x, c, h => by
    unfold cellsFrom at h
    split at h
    · rename_i hk
      rcases cellsFrom_kind r _ _ x c h with q | q
      · rcases List.mem_cons.mp q with e | q
        · cases e
          have : k = .cell := by simpa using hk
          subst this
          exact .inr (by simp)
        · exact .inl q
      · exact .inr (List.mem_cons_of_mem _ q)
    · rcases cellsFrom_kind r _ _ x c h with q | q
      · exact .inl q
      · exact .inr (List.mem_cons_of_mem _ q)
noncomputable def cloOf (cells : List (Str × Addr)) : List (Str × NameKind) → List (Str × Addr) → List (Str × Addr)
  | [], acc => acc
  | (x, k) :: r, acc => if k == .free then cloOf cells r ((x, (cells.lookup x).getD 0) :: acc) else cloOf cells r acc
theorem closure_run {env : Env} (f : Str × NameKind → List (Str × Addr) → Sem (ForInStep (List (Str × Addr))))
    (hf : ∀ name kind cs, f (name, kind) cs = if kind == .free then (do let a ← cellOf env name; pure (.yield ((name, a) :: cs))) else pure (.yield cs)) :
    ∀ (names : List (Str × NameKind)) (acc : List (Str × Addr)), (∀ y ∈ names, y.2 = .free → ∃ c, env.cells.lookup y.1 = some c) → (forIn names acc f : Sem _) = pure (cloOf env.cells names acc)
  | [], acc, _ => by rw [List.forIn_nil]; rfl
  | (x, k) :: r, acc, h => by
    rw [List.forIn_cons, hf]
    unfold cloOf
    cases hk : k == NameKind.free with
    | false =>
      simp only [Bool.false_eq_true, if_false]
      exact closure_run f hf r acc fun y hy => h y (List.mem_cons_of_mem _ hy)
    | true =>
      obtain ⟨c, e⟩ := h (x, k) List.mem_cons_self (by simpa using hk)
      have e : env.cells.lookup x = some c := e
      have e2 : cellOf env x = pure c := by unfold cellOf; rw [e]
      simp only [if_true]
      rw [e2, e]
      exact closure_run f hf r _ fun y hy => h y (List.mem_cons_of_mem _ hy)
theorem closureFor_of {scope : Scope} {env : Env} (h : ∀ y ∈ scope.names, y.2 = .free → ∃ c, env.cells.lookup y.1 = some c) : closureFor scope env = pure (cloOf env.cells scope.names []) := by
  simp only [closureFor]
  rw [closure_run (env := env) _ (fun name kind cs => by cases kind == NameKind.free <;> rfl) scope.names [] h]
  rfl
theorem cloOf_mem {cells : List (Str × Addr)} : ∀ {names : List (Str × NameKind)} {acc : List (Str × Addr)} {x : Str} {c : Addr}, (x, c) ∈ cloOf cells names acc → (x, c) ∈ acc ∨ ((x, NameKind.free) ∈ names ∧ c = (cells.lookup x).getD 0)
  | [], acc, x, c, h => .inl h
  | (y, k) :: r, acc, x, c, h => by
    unfold cloOf at h
    split at h
    · rename_i hk
      rcases cloOf_mem h with q | q
      · rcases List.mem_cons.mp q with e | q
        · cases e
          have : k = .free := by simpa using hk
          subst this
          exact .inr ⟨by simp, rfl⟩
        · exact .inl q
      · exact .inr ⟨List.mem_cons_of_mem _ q.1, q.2⟩
    · rcases cloOf_mem h with q | q
      · exact .inl q
      · exact .inr ⟨List.mem_cons_of_mem _ q.1, q.2⟩
theorem cloOf_keep {cells : List (Str × Addr)} : ∀ {names : List (Str × NameKind)} {acc : List (Str × Addr)} {x : Str}, (∃ c, (x, c) ∈ acc) → ∃ c, (x, c) ∈ cloOf cells names acc
  | [], acc, x, h => h
  | (y, k) :: r, acc, x, ⟨c, h⟩ => by
    unfold cloOf
    split
    · exact cloOf_keep ⟨c, List.mem_cons_of_mem _ h⟩
    · exact cloOf_keep ⟨c, h⟩
theorem cloOf_has {cells : List (Str × Addr)} : ∀ {names : List (Str × NameKind)} {acc : List (Str × Addr)} {x : Str}, (x, NameKind.free) ∈ names → ∃ c, (x, c) ∈ cloOf cells names acc
  | (y, k) :: r, acc, x, h => by
    unfold cloOf
    rcases List.mem_cons.mp h with e | h
    · cases e
      exact cloOf_keep ⟨_, List.mem_cons_self⟩
    · split
      · exact cloOf_has h
      · exact cloOf_has h
theorem lookup_of_mem {α : Type} : ∀ {l : List (Str × α)} {x : Str} {c : α}, (x, c) ∈ l → ∃ d, l.lookup x = some d
  | (y, v) :: r, x, c, h => by
    rw [List.lookup_cons]
    cases hb : x == y with
    | true => exact ⟨v, rfl⟩
    | false =>
      rcases List.mem_cons.mp h with e | h
      · cases e; simp at hb
      · exact lookup_of_mem h
theorem lookup_app {α : Type} : ∀ {l r : List (Str × α)} {x : Str}, (l ++ r).lookup x = (l.lookup x).or (r.lookup x)
  | [], r, x => by simp
  | (y, v) :: l, r, x => by
    rw [List.cons_append, List.lookup_cons, List.lookup_cons]
    cases hb : x == y with
    | true => rfl
    | false => exact lookup_app
theorem lookup_relabel {env : Env} : ∀ {names : List (Str × NameKind)} {x : Str}, (names.map fun (n, k) => if (k == NameKind.free && env.scope.kind == .function && env.kindOf n == some .cell) then (n, NameKind.cell) else (n, k)).lookup x =
    (names.lookup x).map fun k => if (k == NameKind.free && env.scope.kind == .function && env.kindOf x == some .cell) then NameKind.cell else k
  | [], _ => rfl
  | (n, k) :: r, x => by
    have ih := @lookup_relabel env r x
    show List.lookup x ((if (k == NameKind.free && env.scope.kind == .function && env.kindOf n == some .cell) = true then (n, NameKind.cell) else (n, k)) :: _) = _
    cases hx : x == n with
    | true =>
      have e : x = n := by simpa using hx
      subst e
      by_cases hc : (k == NameKind.free && env.scope.kind == .function && env.kindOf x == some .cell) = true
      · rw [if_pos hc]; simp only [List.lookup_cons, hx, Option.map_some, if_pos hc]
      · rw [if_neg hc]; simp only [List.lookup_cons, hx, Option.map_some, if_neg hc]
    | false =>
      by_cases hc : (k == NameKind.free && env.scope.kind == .function && env.kindOf n == some .cell) = true
      · rw [if_pos hc]; simp only [List.lookup_cons, hx]; exact ih
      · rw [if_neg hc]; simp only [List.lookup_cons, hx]; exact ih
end L2
end
noncomputable section
set_option maxRecDepth 100000
set_option maxHeartbeats 4000000
namespace L2
open PySem PySem.Spec PyProof.Rows
theorem natLt {a b : Nat} (h : a < b) : a < b := h
theorem natLe {a b : Nat} (h : a ≤ b) : a ≤ b := h
theorem natEq {a b : Nat} (h : a = b) : a = b := h
noncomputable abbrev cenvOf (X : Cx) (scope : Scope) (C : Addr) : Env :=
  { scope := relabel scope X.env, locals := C, globals := X.env.globals, cells := cellsFrom (C + 1) scope.names (cloOf X.env.cells scope.names []), qual := X.env.qual, func := none, code := X.env.code, frame := X.env.frame, builtins := X.env.builtins }
noncomputable def Cx.blk (X : Cx) (N : List Str) (scope : Scope) (C : Addr) (s : Shared) (H : Hp) (ex : List Addr) : Cx :=
  { X with N := N, s₀ := s, H₀ := H, env := cenvOf X scope C, outer := X.stack, stack := X.stack, ex := ex, fn := fun x => scope.names.lookup x == some .cell, pn := [], xe := fun _ _ => False }
noncomputable def srcσ (src : List (Option Nat)) (σ : St) : St := src.map fun o => match o with | some j => (σ[j]?).getD none | none => none
structure BlkScope (X : Cx) (N : List Str) (src : List (Option Nat)) (scope : Scope) : Prop where
  kind : scope.kind = .function
  uniq : ∀ y ∈ scope.names, scope.names.lookup y.1 = some y.2
  free : ∀ y ∈ scope.names, y.2 = .free → X.env.scope.names.lookup y.1 = some .cell ∨ X.env.scope.names.lookup y.1 = some .free
  len : src.length = N.length
  from_ : ∀ (i j : Nat) (x : Str), src[i]? = some (some j) → N[i]? = some x → X.N[j]? = some x ∧ scope.names.lookup x = some .free
noncomputable section
variable {X : Cx} {pins : List (Addr × Obj)} {σ : St} {H : Hp} {s s2 : Shared} {N : List Str} {src : List (Option Nat)} {scope : Scope}
theorem newEnv_blk {E : Value → Shared → Prop} {M : Model} {A : Around} {cl : List (Str × Addr)} {Q : Env → Shared → Prop}
    (hQ : ∀ h', (∀ b o, s.heap.get? b = some o → h'.get? b = some o) → h'.Ns s.heap.objs.size (fun _ => none) → CellsOk h' (s.heap.objs.size + 1) (cellsFrom (s.heap.objs.size + 1) scope.names []) →
      Q { scope := scope, locals := s.heap.objs.size, globals := X.env.globals, cells := cellsFrom (s.heap.objs.size + 1) scope.names cl, qual := X.env.qual, func := none, code := X.env.code, frame := X.env.frame, builtins := X.env.builtins } { s with heap := h' }) :
    wpAny M A (newFunctionEnv scope X.env.globals cl [] X.env.qual none .none (some X.env)) Q E s := by
  simp only [newFunctionEnv, Option.isSome_some, if_true]
  refine wpAny_bind (wpAny_alloc ?_)
  refine wpAny_bind (wpAny_layCells _ (fun name kind cells => by cases hkc : kind == NameKind.cell <;> simp [hkc]) _ _ _ _ ?_)
  have ok := cellsFrom_ok scope.names (s.heap.push { cls := .type "dict", data := .dict #[] }) (s.heap.objs.size + 1) [] ⟨fun _ _ hm => (nomatch hm), List.Pairwise.nil⟩ (by rw [Heap.size_push]; exact Nat.le_refl _)
  rw [Heap.size_push] at ok
  rw [show ({ s with heap := s.heap.push { cls := .type "dict", data := .dict #[] } } : Shared).heap.objs.size = s.heap.objs.size + 1 from Heap.size_push ..]
  rw [List.forIn_nil]
  exact wpAny_bind (wpAny_pure (wpAny_pure (hQ _ (fun b o e => pushCells_keeps _ _ b o (Heap.get?_push_of_some _ e)) ((Heap.Ns.new s.heap (.type "dict")).keeps (pushCells_keeps _ _)) ok)))
theorem blk_cell (S : BlkScope X N src scope) (ok : X.Ok) {C : Addr} {x : Str} {c : Addr} (h : (cenvOf X scope C).cells.lookup x = some c) :
    (scope.names.lookup x = some .cell ∧ (x, c) ∈ cellsFrom (C + 1) scope.names []) ∨ (scope.names.lookup x = some .free ∧ X.env.cells.lookup x = some c) := by
  have h : (cellsFrom (C + 1) scope.names (cloOf X.env.cells scope.names [])).lookup x = some c := h
  rw [cellsFrom_app, lookup_app] at h
  cases e : (cellsFrom (C + 1) scope.names []).lookup x with
  | some d =>
    rw [e] at h
    have : d = c := by simpa using h
    subst this
    have q := PySem.mem_of_lookup e
    rcases cellsFrom_kind _ _ _ _ _ q with z | z
    · simp at z
    · exact .inl ⟨S.uniq _ z, q⟩
  | none =>
    rw [e] at h
    have h : (cloOf X.env.cells scope.names []).lookup x = some c := by simpa using h
    rcases cloOf_mem (PySem.mem_of_lookup h) with z | ⟨z, zc⟩
    · simp at z
    · obtain ⟨d, hd⟩ := ok.has x (S.free _ z rfl)
      rw [hd] at zc
      exact .inr ⟨S.uniq _ z, by rw [hd, zc]; rfl⟩
theorem blk_own (S : BlkScope X N src scope) {C : Addr} {x : Str} (h : scope.names.lookup x = some .cell) : ∃ c, (cenvOf X scope C).cells.lookup x = some c := by
  obtain ⟨c, e⟩ := cell_has (sc := scope) (n := C + 1) h
  refine ⟨c, ?_⟩
  show (cellsFrom (C + 1) scope.names (cloOf X.env.cells scope.names [])).lookup x = some c
  rw [cellsFrom_app, lookup_app, e]; rfl
theorem blk_free (S : BlkScope X N src scope) (ok : X.Ok) {C : Addr} {x : Str} (h : scope.names.lookup x = some .free) : ∃ c, (cenvOf X scope C).cells.lookup x = some c ∧ X.env.cells.lookup x = some c := by
  have hm := PySem.mem_of_lookup h
  obtain ⟨d, hd⟩ := cloOf_has (cells := X.env.cells) (acc := []) hm
  obtain ⟨c, hc⟩ := lookup_of_mem hd
  have e : (cenvOf X scope C).cells.lookup x = some c := by
    show (cellsFrom (C + 1) scope.names (cloOf X.env.cells scope.names [])).lookup x = some c
    rw [cellsFrom_app, lookup_app]
    cases e : (cellsFrom (C + 1) scope.names []).lookup x with
    | none => simpa using hc
    | some d =>
      rcases cellsFrom_kind _ _ _ _ _ (PySem.mem_of_lookup e) with z | z
      · simp at z
      · have := S.uniq _ z
        rw [h] at this; cases this
  rcases blk_cell S ok e with ⟨z, _⟩ | ⟨_, z⟩
  · rw [h] at z; cases z
  · exact ⟨c, e, z⟩
theorem blk_kind (x : Str) {C : Addr} : (cenvOf X scope C).kindOf x = (scope.names.lookup x).map fun k => if (k == NameKind.free && X.env.scope.kind == .function && X.env.kindOf x == some .cell) then NameKind.cell else k := by
  show (relabel scope X.env).names.lookup x = _
  exact lookup_relabel
theorem srcσ_get {i : Nat} {v : V} (h : (srcσ src σ)[i]? = some (some v)) : ∃ j, src[i]? = some (some j) ∧ σ[j]? = some (some v) := by
  unfold srcσ at h
  rw [List.getElem?_map] at h
  cases e : src[i]? with
  | none => rw [e] at h; cases h
  | some o =>
    rw [e] at h
    cases o with
    | none => cases h
    | some j =>
      refine ⟨j, rfl, ?_⟩
      have h : (σ[j]?).getD none = some v := by simpa using h
      cases q : σ[j]? with
      | none => rw [q] at h; cases h
      | some z => rw [q] at h; rw [show z = some v from h]
theorem blk_start {ex : List Addr} {h' : Heap} {D C : Nat} {o : Obj} (S : BlkScope X N src scope) (I : Inv X pins σ H s2) (hf : ∀ b ∈ ex, FpOk X pins H b) (hob : ∀ b ∈ ex, ∃ o, s2.heap.get? b = some o)
    (hD : D = s2.heap.objs.size) (hC : C = s2.heap.objs.size + 1) (hk : ∀ b o, s2.heap.get? b = some o → h'.get? b = some o) (hDo : h'.get? D = some o) (hdo : ∀ v, o.data ≠ .cell v)
    (hns : h'.Ns C (fun _ => none)) (hcs : CellsOk h' (C + 1) (cellsFrom (C + 1) scope.names [])) :
    Inv (X.blk N scope C s2 H ex) (X.pn ++ pins ++ [(D, o)]) (srcσ src σ) H { s2 with heap := h' } := by
  have lt : ∀ {b : Nat} {o : Obj}, s2.heap.get? b = some o → b < s2.heap.objs.size := fun e => Heap.lt_size e
  have fr : ∀ a : Nat, s2.heap.objs.size ≤ a → H a = none := fun a h => I.hok.fresh h
  have cold : ∀ (x : Str) (c : Nat), X.env.cells.lookup x = some c → c < s2.heap.objs.size := fun x c e => by
    obtain ⟨v, z⟩ := I.cell x c e
    exact z.lt
  have own : ∀ {x : Str} {c : Nat}, (x, c) ∈ cellsFrom (C + 1) scope.names [] → C + 1 ≤ c := fun q => (hcs.empty _ _ q).2
  refine ⟨⟨I.mod, S.kind, I.ok.glob, I.ok.blt, ?_, ?_, ?_, ?_, I.ok.hd, I.ok.frames, .inl rfl, ?_, I.bs, ?_, ?_, ?_, I.stack, I.stkFree⟩, rfl, I.bare, Un.kept hk, ⟨_, hns, ?_⟩, ?_, ?_, ?_, ?_, I.hok.kept hk, ?_⟩
  · show s2.heap.objs.size ≤ C
    omega
  · intro x y c h1 h2
    rcases blk_cell S I.ok h1 with ⟨_, a⟩ | ⟨_, a⟩ <;> rcases blk_cell S I.ok h2 with ⟨_, b⟩ | ⟨_, b⟩
    · exact name_of_addr hcs.apart a b
    · have : C + 1 ≤ (c : Nat) := own a; have := natLt (cold _ _ b); omega
    · have : C + 1 ≤ (c : Nat) := own b; have := natLt (cold _ _ a); omega
    · exact I.ok.inj x y c a b
  · intro x hx
    have hx : (cenvOf X scope C).kindOf x = some .cell ∨ (cenvOf X scope C).kindOf x = some .free := hx
    rw [blk_kind] at hx
    cases e : scope.names.lookup x with
    | none => rw [e] at hx; rcases hx with z | z <;> cases z
    | some k =>
      cases k with
      | cell => exact blk_own S e
      | free => obtain ⟨c, q, _⟩ := blk_free S I.ok e; exact ⟨c, q⟩
      | _ => rw [e] at hx; exfalso; revert hx; simp
  · intro x c hx h1
    have hx : scope.names.lookup x = some .cell := by
      have : (scope.names.lookup x == some .cell) = true := hx
      simpa using this
    show s2.heap.objs.size ≤ c
    rcases blk_cell S I.ok h1 with ⟨_, a⟩ | ⟨z, _⟩
    · have : C + 1 ≤ (c : Nat) := own a
      show s2.heap.objs.size ≤ (c : Nat)
      omega
    · rw [hx] at z; cases z
  · intro b hb
    obtain ⟨ob, e⟩ := hob b hb
    have l := natLt (lt e)
    refine ⟨fun z => ?_, fun x c h1 z => ?_⟩
    · have z := natEq (a := b) (b := C) z
      omega
    · subst z
      rcases blk_cell S I.ok h1 with ⟨_, a⟩ | ⟨_, a⟩
      · have : C + 1 ≤ (c : Nat) := own a
        omega
      · exact (hf c hb).2.2.2.2.1 x c a rfl
  · show X.base.objs.size ≤ s2.heap.objs.size
    have := I.ok.bsz
    have := I.sz
    omega
  · intro b ob e hb
    rcases (hf b hb).2.2.2.1 with z | z
    · exact I.ok.noex b ob e z
    · have e : X.base.get? b = some ob := e
      have a := natLt (Heap.lt_size e)
      have := I.ok.bsz
      have z : X.s₀.heap.objs.size ≤ (b : Nat) := z
      omega
  · intro b hb
    intro z
    have z : b ∈ frs X.stack := z
    have := I.stkSub b z
    rcases List.mem_cons.mp this with q | q
    · exact (hf b hb).2.1 q
    · exact (hf b hb).2.2.1 q
  · intro i x v h1 h2 h3
    obtain ⟨j, e1, e2⟩ := srcσ_get h2
    obtain ⟨e3, e4⟩ := S.from_ i j x e1 h1
    obtain ⟨m, hm, hl⟩ := I.loc
    have kx := S.free _ (PySem.mem_of_lookup e4) rfl
    have vis : Vis X.env.scope x := .inr kx
    obtain ⟨u, r, lk⟩ := hl j x v e3 e2 vis
    refine ⟨u, r, ?_⟩
    rcases lk with ⟨z, _⟩ | ⟨_, c, ec, cc⟩
    · exfalso
      have z : X.env.scope.names.lookup x = some .local := z
      rw [z] at kx
      rcases kx with q | q <;> cases q
    · obtain ⟨c', q1, q2⟩ := blk_free (C := C) S I.ok e4
      rw [ec] at q2; cases q2
      refine .inr ⟨?_, c, q1, cc.keeps hk⟩
      show (cenvOf X scope C).kindOf x = some .cell ∨ (cenvOf X scope C).kindOf x = some .free
      rw [blk_kind, e4, Option.map_some]
      split
      · exact .inl rfl
      · exact .inr rfl
  · intro x c h1
    rcases blk_cell S I.ok h1 with ⟨_, a⟩ | ⟨_, a⟩
    · exact ⟨none, (hcs.empty _ _ a).1⟩
    · obtain ⟨v, z⟩ := I.cell x c a
      exact ⟨v, z.keeps hk⟩
  · exact fr C (by omega)
  · intro x c h1
    rcases blk_cell S I.ok h1 with ⟨_, a⟩ | ⟨_, a⟩
    · have : C + 1 ≤ (c : Nat) := own a
      exact fr c (by omega)
    · exact I.freeC x c a
  · intro p hp
    have hp : p ∈ X.pn ++ pins ++ [(D, o)] := by simpa [Cx.blk] using hp
    rcases List.mem_append.mp hp with q | q
    · obtain ⟨a1, a2, a3, a4, a5⟩ := I.pin p q
      refine ⟨hk _ _ a1, a2, fun z => ?_, fun z => ?_, a5⟩
      · have z := natEq (a := p.1) (b := C) z
        have q := natLt (lt a1)
        omega
      · have z : p.1 ∈ frs X.stack := z
        rcases List.mem_cons.mp (I.stkSub _ z) with q | q
        · exact a3 q
        · exact a4 q
    · have : p = (D, o) := by simpa using q
      subst this
      refine ⟨hDo, fr D (by omega), fun z => ?_, fun z => ?_, hdo⟩
      · have z : D = C := z
        omega
      · have z : D ∈ frs X.stack := z
        rcases List.mem_cons.mp (I.stkSub _ z) with q | q
        · have l := natLt I.lt
          have q := natEq (a := D) (b := X.env.locals) q
          omega
        · exact I.nofs (show s2.heap.objs.size ≤ D by omega) q
  · show (srcσ src σ).length = N.length
    unfold srcσ
    rw [List.length_map]
    exact S.len
end
end L2
end
noncomputable section
set_option maxRecDepth 100000
set_option maxHeartbeats 4000000
namespace L2
open PySem PySem.Spec PyProof.Rows
noncomputable section
variable {prog : Program} {w : World} {A : Around} {R : Result → Shared → Prop} {s : Shared}
theorem compLoop_own {elt target iter : Expr} {ifs : List Expr} {scope : Scope} {pos : Pos} {it acc : Value} {env : Env} (I : Nat → Shared → Prop)
    (turn : ∀ n s, I n s → wpAny (model prog w) A (pyNext it) (fun r s₁ => match r with
      | none => R (.ok .next) s₁
      | some v => wpAny (model prog w) A (letOwnedTupleGo target it v) (fun _ s₁' => wpAny (model prog w) A (assign target env v) (fun _ s₂ =>
          wpAny (model prog w) A (forIn ifs true fun c r => if r = true then do let ok ← isTrue c env (eval c env); pure (ForInStep.yield ok) else pure (ForInStep.yield r)) (fun ok s₃ =>
            if ok = true then wpAny (model prog w) A (eval elt env) (fun x s₄ =>
              wpAny (model prog w) A (call (.builtin "list.append") [acc, x]) (fun _ s₅ => ∃ m, m < n ∧ I m s₅) (fun _ _ => False) s₄) (fun _ _ => False) s₃
            else ∃ m, m < n ∧ I m s₃) (fun _ _ => False) s₂) (fun _ _ => False) s₁') (fun _ _ => False) s₁) (fun _ _ => False) s)
    (n : Nat) (h : I n s) :
    codeAny (model prog w) A (.compLoop (.ListComp elt [⟨target, iter, ifs, 0⟩] scope pos) 0 it acc env) R s := by
  refine codeAny_loop rfl I (fun n s hI => ?_) n h
  show wpAny _ A ((compTurn (.ListComp elt [⟨target, iter, ifs, 0⟩] scope pos) 0 it acc env).onRaise (fun x => do noteFrame x env; theTreesLotGoes x)) _ _ s
  refine wpAny_noted ?_
  rw [compTurn_list]
  refine wpAny_bind (wpAny_standAt (wpAny_bind (wpAny_mono (turn n s hI) (fun r s₁ h₁ => ?_) fun _ _ h' => h'.elim)))
  cases r with
  | none => exact wpAny_pure h₁
  | some v =>
    refine wpAny_bind (wpAny_mono h₁ (fun _ s₁' h₁' => wpAny_bind (wpAny_mono h₁' (fun _ s₂ h₂ => wpAny_bind (wpAny_mono h₂ (fun ok s₃ h₃ => ?_) fun _ _ h' => h'.elim)) fun _ _ h' => h'.elim)) fun _ _ h' => h'.elim)
    cases ok with
    | false => exact wpAny_pure ⟨rfl, h₃⟩
    | true =>
      exact wpAny_bind (wpAny_bind (wpAny_mono h₃ (fun x s₄ h₄ => wpAny_bind (wpAny_mono h₄ (fun _ s₅ h₅ => wpAny_pure (wpAny_pure ⟨rfl, h₅⟩)) fun _ _ h' => h'.elim)) fun _ _ h' => h'.elim))
end
noncomputable def GAg (own : List Nat) (g : TG) : Prop := ∀ x σ H (Q : St → Hp → Prop), g x σ H Q → g x σ H fun σ2 H2 => (σ2.length = σ.length ∧ ∀ i, i ∉ own → σ2[i]? = σ[i]?) ∧ Q σ2 H2
theorem ag_name (i : Nat) : GAg [i] (gName i) := fun x σ H Q h => ⟨⟨by simp, fun j hj => by
  have : i ≠ j := fun e => hj (by simp [e])
  rw [List.getElem?_set_ne this]⟩, h⟩
noncomputable def PTs (X : Cx) (ifs : List Expr) (t : TT) : Prop :=
  ∀ (pins : List (Addr × Obj)) (s : Shared) (σ : St) (H : Hp) (Q : Bool → Hp → Prop), Inv X pins σ H s → t σ H Q →
    wpAny (model X.prog X.w) X.A (forIn ifs true fun c r => if r = true then do let ok ← isTrue c X.env (eval c X.env); pure (ForInStep.yield ok) else pure (ForInStep.yield r)) (TP X pins σ Q) X.xe s
noncomputable def tTrue : TT := fun _ H Q => Q true H
noncomputable section
variable {X : Cx} {c : Expr} {t : TT}
theorem pts_nil : PTs X [] tTrue := fun pins s σ H Q I h => wpAny_tests_nil ⟨H, I, h⟩
theorem pts_one (h : PT X c t) : PTs X [c] t := fun pins s σ H Q I q => wpAny_tests_one (h pins s σ H Q I q)
end
noncomputable def tLc (wi : TI) (src : List (Option Nat)) (g : TG) (tt : TT) (te : TE) : TE := fun σ H Q => wi σ H fun J H1 => ∃ W : Nat → Nat → List V → Hp → Prop, (∃ m, W 0 m [] H1) ∧ ∀ i m ys H, W i m ys H →
  (J.stop i H ∧ ∀ D, H D = none → Q (.ref D) (upd H D (.lst ys))) ∨
  (J.go i H ∧ ys.length < sizeLine ∧ ∃ Nx : List V → Hp → Prop, (∀ ys' H', Nx ys' H' → ∃ m', m' < m ∧ W (i + 1) m' ys' H') ∧ ∀ x H', J.yld i H x H' →
    g x (srcσ src σ) H' fun σ2 H2 => tt σ2 H2 fun b H3 => if b = true then te σ2 H3 fun v H4 => Nx (ys ++ [v]) H4 else Nx ys H3)
noncomputable section
variable {X : Cx} {N : List Str} {src : List (Option Nat)} {scope : Scope} {tg iter elt : Expr} {ifs : List Expr} {wi : TI} {g : TG} {tt : TT} {te : TE} {pos : Pos} {own : List Nat}
theorem comp_core {σ : St} {H : Hp} {s : Shared} {pins : List (Addr × Obj)} {Q : VK} {RR : Value → Addr → Result → Shared → Prop} (S : BlkScope X N src scope) (hc : X.calm = true) (hi : PI X tg iter wi)
    (ag : GAg own g) (ho : ∀ i ∈ own, src[i]? = some none)
    (hb : ∀ C s H ex, PG (X.blk N scope C s H ex) tg g ∧ PTs (X.blk N scope C s H ex) ifs tt ∧ PE (X.blk N scope C s H ex) elt te)
    (I : Inv X pins σ H s) (h : tLc wi src g tt te σ H Q)
    (hRR : ∀ (D C : Addr) (s' : Shared) (H' : Hp), Inv X pins σ H' s' → (∃ m, s'.heap.Ns C m) → H' C = none → C ≠ X.env.locals → (C ∈ X.ex ∨ X.s₀.heap.objs.size ≤ C) → (∀ x c, X.env.cells.lookup x = some c → c ≠ C) → (∀ p ∈ X.pn ++ pins, p.1 ≠ C) →
      Q (.ref D) H' → RR (.ref D) C (.ok .next) s') :
    wpAny (model X.prog X.w) X.A (eval iter X.env) (fun x s₁ => wpAny (model X.prog X.w) X.A (pyIter x) (fun it s₂ => wpAny (model X.prog X.w) X.A (newList []) (fun acc s₃ =>
      wpAny (model X.prog X.w) X.A (newFunctionEnv scope X.env.globals (cloOf X.env.cells scope.names []) [] X.env.qual none .none (some X.env)) (fun cenv s₄ =>
        codeAny (model X.prog X.w) X.A (.compStart (.ListComp elt [⟨tg, iter, ifs, 0⟩] scope pos) 0 it acc { cenv with scope := relabel scope X.env }) (RR acc cenv.locals) s₄) X.xe s₃) X.xe s₂) X.xe s₁) X.xe s := by
  refine thn (hi pins s σ H _ I h) fun v s1 h1 => thn h1 fun itv s2 h2 => ?_
  obtain ⟨it, fp, tn, J, H2, e, I2, T, st2, f2, W, ⟨m0, w0⟩, turn⟩ := h2
  subst e
  refine wpAny_newObj_type ?_
  generalize hs3 : s2.heap.push { cls := .type "list", dict := none, data := .seq ([] : List Value).toArray } = h3
  have sz3 : h3.objs.size = s2.heap.objs.size + 1 := by rw [← hs3, Heap.size_push]
  have k3 : ∀ b o, s2.heap.get? b = some o → h3.get? b = some o := fun b o e => hs3 ▸ Heap.get?_push_of_some _ e
  have d3 : h3.get? s2.heap.objs.size = some (lobj [] 0) := hs3 ▸ Heap.get?_push_size _ rfl
  refine newEnv_blk (X := X) (s := { s2 with heap := h3 }) fun h4 k4 ns4 cs4 => ?_
  rw [show ({ s2 with heap := h3 } : Shared).heap.objs.size = s2.heap.objs.size + 1 from sz3] at ns4 cs4 ⊢
  have k4' : ∀ b o, s2.heap.get? b = some o → h4.get? b = some o := fun b o e => k4 b o (k3 b o e)
  have fob : ∀ b ∈ fp, ∃ o, s2.heap.get? b = some o := fun b hb => by obtain ⟨o, e, _⟩ := T.obj _ _ st2 b hb; exact ⟨o, e⟩
  have I4 := blk_start (ex := fp) (h' := h4) (D := s2.heap.objs.size) (C := s2.heap.objs.size + 1) (o := lobj [] 0) S I2 f2 fob rfl rfl k4' (k4 _ _ d3) (fun v z => by cases z) ns4 cs4
  have I4 : Inv (X.blk N scope (s2.heap.objs.size + 1) s2 H2 fp) (X.pn ++ pins ++ [(s2.heap.objs.size, lobj [] 0)]) (srcσ src σ) H2 { s2 with heap := h4 } := I4
  generalize hX : X.blk N scope (s2.heap.objs.size + 1) s2 H2 fp = X' at I4
  obtain ⟨pg, pt, pe⟩ := hb (s2.heap.objs.size + 1) s2 H2 fp
  rw [hX] at pg pt pe
  have eprog : X'.prog = X.prog := by rw [← hX]; rfl
  have ew : X'.w = X.w := by rw [← hX]; rfl
  have eK : X'.K = X.K := by rw [← hX]; rfl
  have eA : X'.A = X.A := by rw [← hX]; rfl
  have ecalm : X'.calm = true := by rw [← hX]; exact hc
  have exe : X'.xe = fun _ _ => False := by rw [← hX]; rfl
  have eenv : X'.env = cenvOf X scope (s2.heap.objs.size + 1) := by rw [← hX]; rfl
  have epn : X'.pn = [] := by rw [← hX]; rfl
  have es0 : X'.s₀ = s2 := by rw [← hX]; rfl
  have eH0 : X'.H₀ = H2 := by rw [← hX]; rfl
  have eex : X'.ex = fp := by rw [← hX]; rfl
  have efs : X'.fs = frs X.stack := by rw [← hX]; rfl
  have hCl : X'.env.locals = s2.heap.objs.size + 1 := by rw [eenv]
  have hDC : s2.heap.objs.size ≠ X'.env.locals := by rw [hCl]; exact Nat.ne_of_lt (Nat.lt_succ_self _)
  have hDF : s2.heap.objs.size ∉ X'.fs := by
    rw [efs]; intro z
    rcases List.mem_cons.mp (I2.stkSub _ z) with q | q
    · exact absurd (natEq q) (Nat.ne_of_gt (natLt I2.lt))
    · exact I2.nofs (Nat.le_refl _) q
  have hpD : ∀ p ∈ X'.pn ++ (X.pn ++ pins), p.1 ≠ s2.heap.objs.size := fun p hp => by
    rw [epn, List.nil_append] at hp
    exact Nat.ne_of_lt (natLt (Heap.lt_size (I2.pin p hp).1))
  have fpD : ∀ b ∈ fp, b ≠ s2.heap.objs.size := fun b hb => by obtain ⟨o, e⟩ := fob b hb; exact Nat.ne_of_lt (natLt (Heap.lt_size e))
  have stat : ∀ {P' : List (Addr × Obj)} {H' : Hp}, (∀ p ∈ P', p ∈ X.pn ++ pins ∨ p.1 = s2.heap.objs.size) → (∀ b ∈ fp, H' b = none) → ∀ b ∈ fp, FpOk X' P' H' b := fun {P' H'} hP hn b hb => by
    obtain ⟨a1, a2, a3, a4, a5, a6⟩ := f2 b hb
    obtain ⟨o, e⟩ := fob b hb
    have l := natLt (Heap.lt_size e)
    refine ⟨hn b hb, ?_, ?_, .inl (by rw [eex]; exact hb), fun x c q z => ?_, fun p hp z => ?_⟩
    · rw [hCl]; exact Nat.ne_of_lt (Nat.lt_succ_of_lt l)
    · rw [efs]; intro z
      rcases List.mem_cons.mp (I2.stkSub b z) with q | q
      · exact a2 q
      · exact a3 q
    · subst z
      rw [eenv] at q
      rcases blk_cell S I2.ok q with ⟨_, r⟩ | ⟨_, r⟩
      · have := natLe (cs4.empty _ _ r).2
        omega
      · exact a5 x c r rfl
    · rw [epn, List.nil_append] at hp
      rcases hP p hp with q | q
      · exact a6 p q z
      · exact fpD b hb (z.symm.trans q)
  have loop : codeAny (model X.prog X.w) X.A (.compLoop (.ListComp elt [⟨tg, iter, ifs, 0⟩] scope pos) 0 (.ref it) (.ref s2.heap.objs.size) (cenvOf X scope (s2.heap.objs.size + 1))) (RR (.ref s2.heap.objs.size) (s2.heap.objs.size + 1)) { s2 with heap := h4 } := by
    refine compLoop_own (fun n s' => ∃ i ys its nn H', Inv X' (X.pn ++ pins ++ [(s2.heap.objs.size, lobj its nn)]) (srcσ src σ) H' s' ∧ Vals ys its ∧ ys.length ≤ sizeLine ∧ tn i s'.heap ∧ (∀ b ∈ fp, H' b = none) ∧ W i n ys H') ?_ m0
      ⟨0, [], [], 0, H2, I4, .nil, Nat.zero_le _, T.keep _ _ _ st2 (fun b _ o e => k4' b o e), fun b hb => (f2 b hb).1, w0⟩
    rintro n s5 ⟨i, ys, its, nn, H5, I5, r5, z5, st5, fr5, w5⟩
    have pok : ∀ p ∈ X.pn ++ pins ++ [(s2.heap.objs.size, lobj its nn)], p ∈ X.pn ++ pins ∨ p.1 = s2.heap.objs.size := fun p hp => by
      rcases List.mem_append.mp hp with q | q
      · exact .inl q
      · exact .inr (by rw [show p = (s2.heap.objs.size, lobj its nn) by simpa using q])
    rcases turn i n ys H5 w5 with ⟨stop, qn⟩ | ⟨go, lt5, Nx, hN, step⟩
    · have d := T.done X' eprog ew eK ecalm i _ s5 (srcσ src σ) H5 (fun _ _ => False) I5 (stat pok fr5) st5 stop
      rw [eA] at d
      refine thn d fun r s6 hr6 => ?_
      obtain ⟨hr, I6⟩ := hr6
      subst hr
      have I6' : Inv X' (X.pn ++ pins) (srcσ src σ) (upd H5 s2.heap.objs.size (.lst ys)) s6 := I6.track r5 z5 (by rw [es0]; exact Nat.le_refl _) hpD
      have hD5 : H5 s2.heap.objs.size = none := (I6.pin (s2.heap.objs.size, lobj its nn) (by simp)).2.1
      have Un6 := I6'.base
      rw [efs, eex, eH0, es0] at Un6
      have os6 := I6'.os
      rw [es0] at os6
      have hok6 := I6'.hok
      rw [eprog, ew] at hok6
      have J6 : Inv X pins σ (upd H5 s2.heap.objs.size (.lst ys)) s6 := I2.call' os6 Un6 hok6 I6'.bare fun b hb => ⟨(f2 b hb).2.2.2.1, (f2 b hb).2.1, (f2 b hb).2.2.2.2.1, (f2 b hb).2.2.2.2.2⟩
      obtain ⟨m, hm, _⟩ := I6'.loc
      rw [hCl] at hm
      have fC := I6'.free
      rw [hCl] at fC
      refine hRR _ _ s6 _ J6 ⟨m, hm⟩ fC ?_ (.inr ?_) ?_ ?_ (qn _ hD5)
      · exact fun z => absurd (natEq z) (Nat.ne_of_gt (Nat.lt_succ_of_lt (natLt I2.lt)))
      · exact Nat.le_succ_of_le I2.sz
      · intro x c q z
        obtain ⟨v, cc⟩ := I2.cell x c q
        have := natLt cc.lt
        have z := natEq z
        omega
      · intro p hp z
        have := natLt (Heap.lt_size (I2.pin p hp).1)
        have z := natEq z
        omega
    · have d := T.item X' eprog ew eK ecalm i _ s5 (srcσ src σ) H5 (fun _ _ => False) I5 (stat pok fr5) st5 go
      rw [eA] at d
      refine thn d fun r s6 hr6 => ?_
      obtain ⟨u, hr, h6⟩ := hr6
      subst hr
      refine thn h6 fun _ s7 h7 => ?_
      obtain ⟨x, H7, I7, r7, y7, st7, fr7⟩ := h7
      have I7' := I7.pinned (stat pok fr7) (T.obj _ _ st7)
      have g7 := pg _ s7 (srcσ src σ) H7 x u _ I7' r7 (ag _ _ _ _ (step x H7 y7))
      rw [eA, exe, eprog, ew, eenv] at g7
      refine thn g7 fun _ s8 h8 => ?_
      obtain ⟨σ8, H8, I8, ⟨l8, a8⟩, q8⟩ := h8
      have t8 := pt _ s8 σ8 H8 _ I8 q8
      rw [eA, exe, eprog, ew, eenv] at t8
      refine thn t8 fun ok s9 h9 => ?_
      obtain ⟨H9, I9, q9⟩ := h9
      have weak : ∀ {P' : List (Addr × Obj)} {H' : Hp} {s' : Shared}, Inv X' P' σ8 H' s' → Inv X' P' (srcσ src σ) H' s' := fun J => J.weak l8.symm fun j v hj => by
        obtain ⟨k, e1, _⟩ := srcσ_get hj
        have : j ∉ own := fun z => by
          have := ho j z
          rw [e1] at this; cases this
        rw [a8 j this]; exact hj
      cases ok with
      | false =>
        have q9 : Nx ys H9 := q9
        obtain ⟨m', hm', w9⟩ := hN _ _ q9
        refine ⟨m', hm', i + 1, ys, its, nn, H9, (weak I9).unpinned, r5, z5, T.keep _ _ _ st7 fun b hb o e => (I9.pin (b, o) (List.mem_append_right _ (List.mem_append_right _ (mem_pinsAt hb e)))).1, fun b hb => ?_, w9⟩
        obtain ⟨o, e, d⟩ := T.obj _ _ st7 b hb
        exact (I9.pin (b, o) (List.mem_append_right _ (List.mem_append_right _ (mem_pinsAt hb e)))).2.1
      | true =>
        have q9 : te σ8 H9 fun v H4 => Nx (ys ++ [v]) H4 := q9
        have e9 := pe _ s9 σ8 H9 _ I9 q9
        rw [eA, exe, eprog, ew, eenv] at e9
        refine thn e9 fun xv s10 h10 => ?_
        obtain ⟨y, H10, I10, r10, q10⟩ := h10
        have J10 : Inv X' (X.pn ++ pins ++ pinsAt fp s7.heap ++ [(s2.heap.objs.size, lobj its nn)]) σ8 H10 s10 := I10.pins_of fun p hp => by
          refine I10.pin p ?_
          rw [epn, List.nil_append]
          rcases List.mem_append.mp hp with q | q
          · rcases List.mem_append.mp q with q | q
            · exact List.mem_append_left _ (List.mem_append_left _ q)
            · exact List.mem_append_right _ q
          · exact List.mem_append_left _ (List.mem_append_right _ q)
        have nD : ∀ p ∈ X'.pn ++ (X.pn ++ pins ++ pinsAt fp s7.heap), p.1 ≠ s2.heap.objs.size := fun p hp => by
          rw [epn, List.nil_append] at hp
          rcases List.mem_append.mp hp with q | q
          · exact hpD p (by rw [epn, List.nil_append]; exact q)
          · exact fpD _ (of_pinsAt q).1
        have hD10 : H10 s2.heap.objs.size = none := (J10.pin (s2.heap.objs.size, lobj its nn) (by simp)).2.1
        have T10 := J10.track r5 z5 (by rw [es0]; exact Nat.le_refl _) nD
        have ap := mt_append (X := X') _ s10 σ8 _ (.ref s2.heap.objs.size) [y] (.ref s2.heap.objs.size) [xv] (fun v H' => v = .non ∧ H' = upd (upd H10 s2.heap.objs.size (.lst ys)) s2.heap.objs.size (.lst (ys ++ [y]))) T10 rfl (.cons r10 .nil) ⟨_, ys, y, rfl, rfl, upd_same, lt5, rfl, rfl⟩
        rw [eA, exe, eprog, ew] at ap
        refine thn ap fun _ s11 h11 => ?_
        obtain ⟨v11, H11, I11, _, _, e11⟩ := h11
        subst e11
        rw [upd_upd] at I11
        obtain ⟨its', nn', r11, z11, I12⟩ := I11.untrack hD10 hDC hDF
        obtain ⟨m', hm', w11⟩ := hN _ _ q10
        have I13 : Inv X' (X.pn ++ pins ++ [(s2.heap.objs.size, lobj its' nn')]) (srcσ src σ) H10 s11 := (weak I12).pins_of fun p hp => by
          refine I12.pin p ?_
          rw [epn, List.nil_append]
          rcases List.mem_append.mp hp with q | q
          · exact List.mem_append_left _ (List.mem_append_left _ q)
          · exact List.mem_append_right _ q
        have pinI : ∀ b ∈ fp, ∀ o, s7.heap.get? b = some o → s11.heap.get? b = some o ∧ H10 b = none := fun b hb o e => by
          have := I12.pin (b, o) (by rw [epn, List.nil_append]; exact List.mem_append_left _ (List.mem_append_right _ (mem_pinsAt hb e)))
          exact ⟨this.1, this.2.1⟩
        refine ⟨m', hm', i + 1, ys ++ [y], its', nn', H10, I13, r11, z11, T.keep _ _ _ st7 fun b hb o e => (pinI b hb o e).1, fun b hb => ?_, w11⟩
        obtain ⟨o, e, d⟩ := T.obj _ _ st7 b hb
        exact (pinI b hb o e).2
  have st4 : tn 0 h4 := T.keep _ _ _ st2 fun b _ o e => k4' b o e
  exact codeAny_compStart_list loop (T.self _ 0 _ _ _ st4 loop)
end
end L2
end
noncomputable section
set_option maxRecDepth 100000
set_option maxHeartbeats 4000000
namespace L2
open PySem PySem.Spec PyProof.Rows
noncomputable section
variable {X : Cx} {N : List Str} {src : List (Option Nat)} {scope : Scope} {tg iter elt : Expr} {ifs : List Expr} {wi : TI} {g : TG} {tt : TT} {te : TE} {pos : Pos} {own : List Nat}
theorem blk_clos {pins : List (Addr × Obj)} {σ : St} {H : Hp} {s : Shared} (S : BlkScope X N src scope) (I : Inv X pins σ H s) : closureFor scope X.env = pure (cloOf X.env.cells scope.names []) :=
  closureFor_of fun y hy hk => I.ok.has y.1 (S.free y hy hk)
theorem pe_lc (S : BlkScope X N src scope) (hc : X.calm = true) (hi : PI X tg iter wi) (ag : GAg own g) (ho : ∀ i ∈ own, src[i]? = some none)
    (hb : ∀ C s H ex, PG (X.blk N scope C s H ex) tg g ∧ PTs (X.blk N scope C s H ex) ifs tt ∧ PE (X.blk N scope C s H ex) elt te)
    (hs : ∀ x, foldedSetIterable iter X.env x = pure x := by intro _; rfl) : PE X (.ListComp elt [⟨tg, iter, ifs, 0⟩] scope pos) (tLc wi src g tt te) := by
  intro pins s σ H Q I h
  rw [eval_ListComp]
  refine wpAny_comprehension_free (use := none) rfl hs (blk_clos S I) S.kind (fun x hx hl => by rw [S.uniq x hx, hl]) ?_
  refine comp_core (RR := fun acc C => compPost (model X.prog X.w) X.A X.xe none (EP X pins σ Q) acc C) S hc hi ag ho hb I h ?_
  intro D C s' H' J hm hn hL h1 h2 h3 q
  obtain ⟨m, hm⟩ := hm
  exact ⟨m, hm, fun h' hs' => ⟨.ref D, H', J.turned (h' := h') (t' := s'.toks) (fun b o hb e => hs'.extBut b o hb e) hn hL h1 h2 h3, rfl, q⟩⟩
theorem ps_lcset {i : Nat} {y : Str} {spos py : Pos} (S : BlkScope X N src scope) (hc : X.calm = true) (hN : X.N.Nodup) (hy : X.N[i]? = some y) (hl : X.env.scope.names.lookup y = some .local) (hi : PI X tg iter wi) (ag : GAg own g) (ho : ∀ i ∈ own, src[i]? = some none)
    (hb : ∀ C s H ex, PG (X.blk N scope C s H ex) tg g ∧ PTs (X.blk N scope C s H ex) ifs tt ∧ PE (X.blk N scope C s H ex) elt te)
    (hsw : swapsWith (.ListComp elt [⟨tg, iter, ifs, 0⟩] scope pos) (some (.Name y py)) spos.line X.env = pure true)
    (hs : ∀ x, foldedSetIterable iter X.env x = pure x := by intro _; rfl) :
    PS X (.Assign [.Name y py] (.ListComp elt [⟨tg, iter, ifs, 0⟩] scope pos) spos) (tAsg (tLc wi src g tt te) (gName i)) := by
  intro pins s σ H D I h
  have h : tLc wi src g tt te σ H fun v H1 => D.nx (σ.set i (some v)) H1 := h
  rw [exec_Assign_Name_used _ _ _ _ hsw]
  refine wpAny_bind (wpAny_standAt (wpAny_bind ?_))
  show wpAny _ X.A (do let _ ← comprehension (.ListComp elt [⟨tg, iter, ifs, 0⟩] scope pos) scope X.env _ (newList []) false (eval iter X.env) (some (assign (.Name y py) X.env))) _ _ s
  refine wpAny_bind (wpAny_mono (wpAny_comprehension_free (use := some (assign (.Name y py) X.env)) (Q := fun _ s' => SP X pins D .next s') rfl hs (blk_clos S I) S.kind (fun x hx hl => by rw [S.uniq x hx, hl])
    (comp_core (RR := fun acc C => compPost (model X.prog X.w) X.A X.xe (some (assign (.Name y py) X.env)) (fun _ s' => SP X pins D .next s') acc C) S hc hi ag ho hb I h ?_))
    (fun _ s' hq => wpAny_pure (wpAny_pure hq)) fun _ _ e => e)
  intro d C s' H' J hm hn hL h1 h2 h3 q
  obtain ⟨m, hm⟩ := hm
  refine wpAny_assign_Name (store_ok2 J hN hy (.inl hl) (v := .ref d) rfl (fun s'' J' hs'' => ?_) (.inr hl))
  obtain ⟨a, sb, ha⟩ := hs''
  have hCa : C ≠ a := by
    rcases ha with z | z
    · rw [z]; exact hL
    · exact fun e => h2 _ _ z e.symm
  exact ⟨m, hm.sameBut sb hCa, fun h' hs' => ⟨_, H', J'.turned (h' := h') (t' := s''.toks) (fun b o hb e => hs'.extBut b o hb e) hn hL h1 h2 h3, q⟩⟩
end
end L2
end
noncomputable section
set_option maxRecDepth 100000
set_option maxHeartbeats 4000000
namespace L2
open PySem PySem.Spec PyProof.Rows
inductive D where
  | non | bl (b : Bool) | int (i : Int) | str (x : Str) | lst (xs : List D) | tup (xs : List D) | scr (ns : List Int)
  | ins (c : Str) (ks : List Str) (ds : List D)
mutual
noncomputable def Rep (K : PySem.W.Frag) (G : Hp) : D → V → Prop
  | .non, v => v = .non
  | .bl b, v => v = .bl b
  | .int i, v => v = .int i
  | .str x, v => v = .str x
  | .lst ds, v => ∃ a vs, v = .ref a ∧ G a = some (.lst vs) ∧ Reps K G ds vs
  | .tup ds, v => ∃ a vs, v = .ref a ∧ G a = some (.tup vs) ∧ Reps K G ds vs
  | .scr ns, v => ∃ a, v = .ref a ∧ SqL K G a (ns.map V.int)
  | .ins c ks ds, v => ∃ a C dx vs, v = .ref a ∧ PySem.W.nsIn K mainGlobals c = some (some (.ref C)) ∧ G a = some (.ins C dx (ks.zip vs)) ∧ ks.length = ds.length ∧ Reps K G ds vs
noncomputable def Reps (K : PySem.W.Frag) (G : Hp) : List D → List V → Prop
  | [], vs => vs = []
  | d :: ds, vs => ∃ v r, vs = v :: r ∧ Rep K G d v ∧ Reps K G ds r
end
mutual
theorem Rep.mono {K : PySem.W.Frag} {G G' : Hp} (s : Same G G') : ∀ (d : D) {v : V}, Rep K G d v → Rep K G' d v
  | .non, v, h => by simpa only [Rep] using h
  | .bl _, v, h => by simpa only [Rep] using h
  | .int _, v, h => by simpa only [Rep] using h
  | .str _, v, h => by simpa only [Rep] using h
  | .lst ds, v, h => by
    simp only [Rep] at h ⊢
    obtain ⟨a, vs, e, q, r⟩ := h
    exact ⟨a, vs, e, s _ _ q, Reps.mono s ds r⟩
  | .tup ds, v, h => by
    simp only [Rep] at h ⊢
    obtain ⟨a, vs, e, q, r⟩ := h
    exact ⟨a, vs, e, s _ _ q, Reps.mono s ds r⟩
  | .scr ns, v, h => by
    simp only [Rep] at h ⊢
    obtain ⟨a, e, q⟩ := h
    exact ⟨a, e, s.seq q⟩
  | .ins c ks ds, v, h => by
    simp only [Rep] at h ⊢
    obtain ⟨a, C, dx, vs, e, n, q, l, r⟩ := h
    exact ⟨a, C, dx, vs, e, n, s _ _ q, l, Reps.mono s ds r⟩
theorem Reps.mono {K : PySem.W.Frag} {G G' : Hp} (s : Same G G') : ∀ (ds : List D) {vs : List V}, Reps K G ds vs → Reps K G' ds vs
  | [], vs, h => by simpa only [Reps] using h
  | d :: ds, vs, h => by
    simp only [Reps] at h ⊢
    obtain ⟨v, r, e, q, t⟩ := h
    exact ⟨v, r, e, Rep.mono s d q, Reps.mono s ds t⟩
end
noncomputable section
variable {K : PySem.W.Frag} {G : Hp}
theorem rep_non {v : V} : Rep K G .non v ↔ v = .non := by simp only [Rep]
theorem rep_bl {b : Bool} {v : V} : Rep K G (.bl b) v ↔ v = .bl b := by simp only [Rep]
theorem rep_int {i : Int} {v : V} : Rep K G (.int i) v ↔ v = .int i := by simp only [Rep]
theorem rep_str {x : Str} {v : V} : Rep K G (.str x) v ↔ v = .str x := by simp only [Rep]
theorem rep_lst {ds : List D} {v : V} : Rep K G (.lst ds) v ↔ ∃ a vs, v = .ref a ∧ G a = some (.lst vs) ∧ Reps K G ds vs := by simp only [Rep]
theorem rep_tup {ds : List D} {v : V} : Rep K G (.tup ds) v ↔ ∃ a vs, v = .ref a ∧ G a = some (.tup vs) ∧ Reps K G ds vs := by simp only [Rep]
theorem rep_scr {ns : List Int} {v : V} : Rep K G (.scr ns) v ↔ ∃ a, v = .ref a ∧ SqL K G a (ns.map V.int) := by simp only [Rep]
theorem rep_ins {c : Str} {ks : List Str} {ds : List D} {v : V} : Rep K G (.ins c ks ds) v ↔ ∃ a C dx vs, v = .ref a ∧ PySem.W.nsIn K mainGlobals c = some (some (.ref C)) ∧ G a = some (.ins C dx (ks.zip vs)) ∧ ks.length = ds.length ∧ Reps K G ds vs := by simp only [Rep]
theorem reps_nil {vs : List V} : Reps K G [] vs ↔ vs = [] := by simp only [Reps]
theorem reps_cons {d : D} {ds : List D} {vs : List V} : Reps K G (d :: ds) vs ↔ ∃ v r, vs = v :: r ∧ Rep K G d v ∧ Reps K G ds r := by simp only [Reps]
theorem Reps.cons {d : D} {ds : List D} {v : V} {vs : List V} (h : Rep K G d v) (t : Reps K G ds vs) : Reps K G (d :: ds) (v :: vs) := reps_cons.mpr ⟨v, vs, rfl, h, t⟩
theorem Reps.nil : Reps K G [] [] := reps_nil.mpr rfl
theorem Reps.length : ∀ {ds : List D} {vs : List V}, Reps K G ds vs → ds.length = vs.length
  | [], vs, h => by rw [reps_nil.mp h]; rfl
  | d :: ds, vs, h => by
    obtain ⟨v, r, rfl, _, t⟩ := reps_cons.mp h
    simp [Reps.length t]
theorem Reps.get : ∀ {ds : List D} {vs : List V} {i : Nat} {d : D}, Reps K G ds vs → ds[i]? = some d → ∃ v, vs[i]? = some v ∧ Rep K G d v
  | [], vs, i, d, h, e => by simp at e
  | c :: ds, vs, 0, d, h, e => by
    obtain ⟨v, r, rfl, q, t⟩ := reps_cons.mp h
    simp at e; subst e
    exact ⟨v, rfl, q⟩
  | c :: ds, vs, i + 1, d, h, e => by
    obtain ⟨v, r, rfl, q, t⟩ := reps_cons.mp h
    obtain ⟨u, h1, h2⟩ := Reps.get (i := i) t (by simpa using e)
    exact ⟨u, by simpa using h1, h2⟩
theorem Reps.append : ∀ {ds es : List D} {vs us : List V}, Reps K G ds vs → Reps K G es us → Reps K G (ds ++ es) (vs ++ us)
  | [], es, vs, us, h, k => by rw [reps_nil.mp h]; exact k
  | d :: ds, es, vs, us, h, k => by
    obtain ⟨v, r, rfl, q, t⟩ := reps_cons.mp h
    exact .cons q (Reps.append t k)
theorem Reps.take : ∀ {ds : List D} {vs : List V} (n : Nat), Reps K G ds vs → Reps K G (ds.take n) (vs.take n)
  | [], vs, n, h => by rw [reps_nil.mp h]; simp; exact .nil
  | d :: ds, vs, 0, h => by simp; exact .nil
  | d :: ds, vs, n + 1, h => by
    obtain ⟨v, r, rfl, q, t⟩ := reps_cons.mp h
    exact .cons q (Reps.take n t)
theorem Reps.drop : ∀ {ds : List D} {vs : List V} (n : Nat), Reps K G ds vs → Reps K G (ds.drop n) (vs.drop n)
  | [], vs, n, h => by rw [reps_nil.mp h]; simp; exact .nil
  | d :: ds, vs, 0, h => by simpa using h
  | d :: ds, vs, n + 1, h => by
    obtain ⟨v, r, rfl, q, t⟩ := reps_cons.mp h
    exact Reps.drop n t
theorem Reps.set : ∀ {ds : List D} {vs : List V} {d : D} {v : V} (n : Nat), Reps K G ds vs → Rep K G d v → Reps K G (ds.set n d) (vs.set n v)
  | [], vs, d, v, n, h, q => by rw [reps_nil.mp h]; simp; exact .nil
  | c :: ds, vs, d, v, 0, h, q => by
    obtain ⟨u, r, rfl, _, t⟩ := reps_cons.mp h
    exact .cons q t
  | c :: ds, vs, d, v, n + 1, h, q => by
    obtain ⟨u, r, rfl, p, t⟩ := reps_cons.mp h
    exact .cons p (Reps.set n t q)
theorem Reps.reverse : ∀ {ds : List D} {vs : List V}, Reps K G ds vs → Reps K G ds.reverse vs.reverse
  | [], vs, h => by rw [reps_nil.mp h]; exact .nil
  | d :: ds, vs, h => by
    obtain ⟨v, r, rfl, q, t⟩ := reps_cons.mp h
    rw [List.reverse_cons, List.reverse_cons]
    exact (Reps.reverse t).append (.cons q .nil)
theorem Reps.rep {ds : List D} {vs : List V} (h : Reps K G ds vs) : ∀ k : Nat, Reps K G (List.replicate k ds).flatten (List.replicate k vs).flatten
  | 0 => .nil
  | k + 1 => by
    rw [List.replicate_succ, List.replicate_succ, List.flatten_cons, List.flatten_cons]
    exact h.append (Reps.rep h k)
theorem Reps.ints : ∀ (ns : List Int), Reps K G (ns.map D.int) (ns.map V.int)
  | [] => .nil
  | n :: ns => .cons (rep_int.mpr rfl) (Reps.ints ns)
end
structure Ext (G H G' H' : Hp) : Prop where
  hh : Same H H'
  gg : Same G G'
  gh : Same G' H'
  fr : ∀ b o, G' b = some o → G b = some o ∨ H b = none
theorem Ext.refl {G H : Hp} (s : Same G H) : Ext G H G H := ⟨Same.refl _, Same.refl _, s, fun _ _ e => .inl e⟩
theorem Ext.trans {G H G1 H1 G2 H2 : Hp} (a : Ext G H G1 H1) (b : Ext G1 H1 G2 H2) : Ext G H G2 H2 :=
  ⟨a.hh.trans b.hh, a.gg.trans b.gg, b.gh, fun c o e => by
    rcases b.fr c o e with q | q
    · exact a.fr c o q
    · exact .inr (a.hh.free q)⟩
theorem Same.alloc {H : Hp} {p : Addr} {o : HO} (h : H p = none) : Same H (upd H p o) := fun b u e => by rw [upd_ne (ne_of_none e h)]; exact e
theorem Same.both {G H : Hp} {p : Addr} {o : HO} (s : Same G H) : Same (upd G p o) (upd H p o) := fun b u e => by
  by_cases hb : b = p
  · subst hb; rw [upd_same] at e ⊢; exact e
  · rw [upd_ne hb] at e ⊢; exact s _ _ e
theorem Ext.alloc {G H : Hp} {p : Addr} {o : HO} (s : Same G H) (h : H p = none) : Ext G H (upd G p o) (upd H p o) :=
  ⟨.alloc h, .alloc (s.free h), s.both, fun b u e => by
    by_cases hb : b = p
    · subst hb; exact .inr h
    · rw [upd_ne hb] at e; exact .inl e⟩
theorem Ext.lay {G H : Hp} {p : Addr} {o : HO} (s : Same G H) (h : H p = none) : Ext G H G (upd H p o) :=
  ⟨.alloc h, Same.refl _, s.trans (.alloc h), fun _ _ e => .inl e⟩
theorem Ext.freeze {G H G' H' : Hp} {p : Addr} {o : HO} (E : Ext G H G' H') (h : H p = none) (g : G' p = none) (e : H' p = some o) : Ext G H (upd G' p o) H' :=
  ⟨E.hh, E.gg.trans (.alloc g), fun b u q => by
    by_cases hb : b = p
    · subst hb; rw [upd_same] at q; cases q; exact e
    · rw [upd_ne hb] at q; exact E.gh _ _ q, fun b u q => by
    by_cases hb : b = p
    · subst hb; exact .inr h
    · rw [upd_ne hb] at q; exact E.fr _ _ q⟩
noncomputable def RepO (K : PySem.W.Frag) (G H : Hp) (d : D) (v : V) : Prop := Rep K G d v ∨ ∃ a vs ds, d = .lst ds ∧ v = .ref a ∧ H a = some (.lst vs) ∧ Reps K G ds vs
noncomputable section
variable {K : PySem.W.Frag} {G H G' H' : Hp}
theorem RepO.ext {d : D} {v : V} (r : RepO K G H d v) (E : Ext G H G' H') : RepO K G' H' d v := by
  rcases r with r | ⟨a, vs, ds, e1, e2, e3, e4⟩
  · exact .inl (Rep.mono E.gg d r)
  · exact .inr ⟨a, vs, ds, e1, e2, E.hh _ _ e3, Reps.mono E.gg ds e4⟩
theorem RepO.non {v : V} (r : RepO K G H .non v) : v = .non := by
  rcases r with r | ⟨a, vs, ds, e1, _⟩
  · exact rep_non.mp r
  · cases e1
theorem RepO.bl {b : Bool} {v : V} (r : RepO K G H (.bl b) v) : v = .bl b := by
  rcases r with r | ⟨a, vs, ds, e1, _⟩
  · exact rep_bl.mp r
  · cases e1
theorem RepO.int {i : Int} {v : V} (r : RepO K G H (.int i) v) : v = .int i := by
  rcases r with r | ⟨a, vs, ds, e1, _⟩
  · exact rep_int.mp r
  · cases e1
theorem RepO.str {x : Str} {v : V} (r : RepO K G H (.str x) v) : v = .str x := by
  rcases r with r | ⟨a, vs, ds, e1, _⟩
  · exact rep_str.mp r
  · cases e1
theorem RepO.lst {ds : List D} {v : V} (s : Same G H) (r : RepO K G H (.lst ds) v) : ∃ a vs, v = .ref a ∧ H a = some (.lst vs) ∧ Reps K G ds vs := by
  rcases r with r | ⟨a, vs, ds', e1, e2, e3, e4⟩
  · obtain ⟨a, vs, e, q, t⟩ := rep_lst.mp r
    exact ⟨a, vs, e, s _ _ q, t⟩
  · cases e1; exact ⟨a, vs, e2, e3, e4⟩
theorem RepO.tup {ds : List D} {v : V} (s : Same G H) (r : RepO K G H (.tup ds) v) : ∃ a vs, v = .ref a ∧ H a = some (.tup vs) ∧ Reps K G ds vs := by
  rcases r with r | ⟨a, vs, ds', e1, e2, e3, e4⟩
  · obtain ⟨a, vs, e, q, t⟩ := rep_tup.mp r
    exact ⟨a, vs, e, s _ _ q, t⟩
  · cases e1
theorem RepO.scr {ns : List Int} {v : V} (s : Same G H) (r : RepO K G H (.scr ns) v) : ∃ a, v = .ref a ∧ SqL K H a (ns.map V.int) := by
  rcases r with r | ⟨a, vs, ds', e1, e2, e3, e4⟩
  · obtain ⟨a, e, q⟩ := rep_scr.mp r
    exact ⟨a, e, s.seq q⟩
  · cases e1
theorem RepO.ins {c : Str} {ks : List Str} {ds : List D} {v : V} (r : RepO K G H (.ins c ks ds) v) : ∃ a, v = .ref a := by
  rcases r with r | ⟨a, vs, ds', e1, e2, e3, e4⟩
  · obtain ⟨a, C, dx, vs, e, _⟩ := rep_ins.mp r
    exact ⟨a, e⟩
  · cases e1
theorem RepO.all {d : D} {v : V} (s : Same G H) (r : RepO K G H d v) : Rep K H d v := by
  rcases r with r | ⟨a, vs, ds, e1, e2, e3, e4⟩
  · exact Rep.mono s d r
  · subst e1; exact rep_lst.mpr ⟨a, vs, e2, e3, Reps.mono s ds e4⟩
end
noncomputable abbrev DEnv := List (Option D)
noncomputable abbrev DF := DEnv → Option D
noncomputable abbrev DT := DEnv → Option Bool
noncomputable abbrev DL := DEnv → Option (List D)
structure EnvR (K : PySem.W.Frag) (own : List Nat) (G H : Hp) (σ : St) (ρ : DEnv) : Prop where
  len : σ.length = ρ.length
  get : ∀ (i : Nat) (d : D), ρ[i]? = some (some d) → ∃ v, σ[i]? = some (some v) ∧ (if i ∈ own then RepO K G H d v else Rep K G d v)
theorem EnvR.ext {K : PySem.W.Frag} {own : List Nat} {G H G' H' : Hp} {σ : St} {ρ : DEnv} (h : EnvR K own G H σ ρ) (E : Ext G H G' H') : EnvR K own G' H' σ ρ := ⟨h.len, fun i d e => by
  obtain ⟨v, q, r⟩ := h.get i d e
  refine ⟨v, q, ?_⟩
  by_cases hi : i ∈ own
  · rw [if_pos hi] at r ⊢; exact r.ext E
  · rw [if_neg hi] at r ⊢; exact Rep.mono E.gg d r⟩
noncomputable def tP (K : PySem.W.Frag) (own : List Nat) (f : DF) : TE := fun σ H Q => ∃ G ρ d, Same G H ∧ EnvR K own G H σ ρ ∧ f ρ = some d ∧ ∀ v G' H', Ext G H G' H' → Rep K G' d v → Q v H'
noncomputable def tQ (K : PySem.W.Frag) (own : List Nat) (f : DF) : TE := fun σ H Q => ∃ G ρ d, Same G H ∧ EnvR K own G H σ ρ ∧ f ρ = some d ∧ ∀ v G' H', Ext G H G' H' → RepO K G' H' d v → Q v H'
noncomputable def tF (K : PySem.W.Frag) (own : List Nat) (f : DL) : TE := fun σ H Q => ∃ G ρ ds, Same G H ∧ EnvR K own G H σ ρ ∧ f ρ = some ds ∧ ∀ p vs G' H', Ext G H G' H' → H p = none → G' p = none → H' p = some (.lst vs) → Reps K G' ds vs → Q (.ref p) H'
noncomputable def tPT (K : PySem.W.Frag) (own : List Nat) (f : DT) : TT := fun σ H Q => ∃ G ρ b, Same G H ∧ EnvR K own G H σ ρ ∧ f ρ = some b ∧ ∀ G' H', Ext G H G' H' → Q b H'
noncomputable def tPA (K : PySem.W.Frag) (own : List Nat) (f : DL) : TA := fun σ H Q => ∃ G ρ ds, Same G H ∧ EnvR K own G H σ ρ ∧ f ρ = some ds ∧ ∀ vs G' H', Ext G H G' H' → Reps K G' ds vs → Q vs H'
noncomputable def RepsO (K : PySem.W.Frag) (G H : Hp) : List D → List V → Prop := Paired (RepO K G H)
noncomputable def tQA (K : PySem.W.Frag) (own : List Nat) (f : DL) : TA := fun σ H Q => ∃ G ρ ds, Same G H ∧ EnvR K own G H σ ρ ∧ f ρ = some ds ∧ ∀ vs G' H', Ext G H G' H' → RepsO K G' H' ds vs → Q vs H'
noncomputable section
variable {X : Cx}
theorem PE.imp {e : Expr} {t t' : TE} (h : PE X e t) (k : ∀ σ H Q, t' σ H Q → t σ H Q) : PE X e t' := fun pins s σ H Q I q => h pins s σ H Q I (k _ _ _ q)
theorem PT.imp {e : Expr} {t t' : TT} (h : PT X e t) (k : ∀ σ H Q, t' σ H Q → t σ H Q) : PT X e t' := fun pins s σ H Q I q => h pins s σ H Q I (k _ _ _ q)
theorem PW.imp {e : Expr} {t t' : TT} (h : PW X e t) (k : ∀ σ H Q, t' σ H Q → t σ H Q) : PW X e t' := fun w pins s σ H Q I q => h w pins s σ H Q I (k _ _ _ q)
theorem PA.imp {e : List Expr} {t t' : TA} (h : PA X e t) (k : ∀ σ H Q, t' σ H Q → t σ H Q) : PA X e t' := fun pos pins s σ H Q I q => h pos pins s σ H Q I (k _ _ _ q)
theorem PS.imp {e : Stmt} {t t' : TS} (h : PS X e t) (k : ∀ D σ H, t' D σ H → t D σ H) : PS X e t' := fun pins s σ H D I q => h pins s σ H D I (k _ _ _ q)
theorem PSs.imp {e : List Stmt} {t t' : TS} (h : PSs X e t) (k : ∀ D σ H, t' D σ H → t D σ H) : PSs X e t' := fun pins s σ H D I q => h pins s σ H D I (k _ _ _ q)
theorem OpR.imp {f : Value → Value → Sem Value} {r r' : R2} (h : OpR X f r) (k : ∀ x y H Q, r' x y H Q → r x y H Q) : OpR X f r' := fun pins s σ H x y v u Q I rx ry q => h pins s σ H x y v u Q I rx ry (k _ _ _ _ q)
variable {own : List Nat} {e : Expr}
theorem dq {f : DF} (h : PE X e (tP X.K own f)) : PE X e (tQ X.K own f) := h.imp fun σ H Q ⟨G, ρ, d, gh, env, eq, k⟩ => ⟨G, ρ, d, gh, env, eq, fun v G' H' E r => k v G' H' E (.inl r)⟩
noncomputable def eF (f : DL) : DF := fun ρ => (f ρ).map D.lst
theorem df {f : DL} (h : PE X e (tF X.K own f)) : PE X e (tP X.K own (eF f)) := h.imp fun σ H Q ⟨G, ρ, d, gh, env, eq, k⟩ => by
  cases hf : f ρ with
  | none => simp [eF, hf] at eq
  | some ds =>
    have : d = .lst ds := by simpa [eF, hf] using eq.symm
    subst this
    refine ⟨G, ρ, ds, gh, env, hf, fun p vs G' H' E hp gp hv r => k _ (upd G' p (.lst vs)) H' (E.freeze hp gp hv) ?_⟩
    exact rep_lst.mpr ⟨p, vs, rfl, upd_same, Reps.mono (.alloc gp) ds r⟩
noncomputable def eV (i : Nat) : DF := fun ρ => (ρ[i]?).join
noncomputable def eK (d : D) : DF := fun _ => some d
theorem eV_some {i : Nat} {ρ : DEnv} {d : D} (h : eV i ρ = some d) : ρ[i]? = some (some d) := by
  unfold eV at h
  cases e : ρ[i]? with
  | none => rw [e] at h; cases h
  | some o => rw [e] at h; cases o with
    | none => cases h
    | some c => rw [show c = d from Option.some.inj h]
theorem dv {i : Nat} {x : Str} {pos : Pos} (h : PE X (.Name x pos) (tVar i)) (hi : i ∉ own := by decide) : PE X (.Name x pos) (tP X.K own (eV i)) := h.imp fun σ H Q ⟨G, ρ, d, gh, env, eq, k⟩ => by
  obtain ⟨v, q, r⟩ := env.get i d (eV_some eq)
  rw [if_neg hi] at r
  exact ⟨v, q, k v G H (.refl gh) r⟩
theorem dvo {i : Nat} {x : Str} {pos : Pos} (h : PE X (.Name x pos) (tVar i)) (hi : i ∈ own := by decide) : PE X (.Name x pos) (tQ X.K own (eV i)) := h.imp fun σ H Q ⟨G, ρ, d, gh, env, eq, k⟩ => by
  obtain ⟨v, q, r⟩ := env.get i d (eV_some eq)
  rw [if_pos hi] at r
  exact ⟨v, q, k v G H (.refl gh) r⟩
theorem de_int {i j pos} : PE X (.Constant (.int i) j pos) (tP X.K own (eK (.int i))) := pe_int.imp fun σ H Q ⟨G, ρ, d, gh, env, eq, k⟩ => by
  cases eq; exact k _ G H (.refl gh) (rep_int.mpr rfl)
theorem de_non {j pos} : PE X (.Constant .none j pos) (tP X.K own (eK .non)) := pe_non.imp fun σ H Q ⟨G, ρ, d, gh, env, eq, k⟩ => by
  cases eq; exact k _ G H (.refl gh) (rep_non.mpr rfl)
theorem de_str {x j pos} : PE X (.Constant (.str x) j pos) (tP X.K own (eK (.str x))) := pe_str.imp fun σ H Q ⟨G, ρ, d, gh, env, eq, k⟩ => by
  cases eq; exact k _ G H (.refl gh) (rep_str.mpr rfl)
noncomputable def aN : DL := fun _ => some []
noncomputable def aC (f : DF) (g : DL) : DL := fun ρ => (f ρ).bind fun x => (g ρ).bind fun xs => some (x :: xs)
theorem aC_some {f : DF} {g : DL} {ρ : DEnv} {ds : List D} (h : aC f g ρ = some ds) : ∃ x xs, f ρ = some x ∧ g ρ = some xs ∧ ds = x :: xs := by
  unfold aC at h
  cases ef : f ρ with
  | none => rw [ef] at h; cases h
  | some x =>
    rw [ef] at h
    cases eg : g ρ with
    | none => rw [eg] at h; cases h
    | some xs => rw [eg] at h; exact ⟨x, xs, rfl, rfl, (Option.some.inj h).symm⟩
variable {es : List Expr}
theorem da_nil : PA X [] (tPA X.K own aN) := pa_nil.imp fun σ H Q ⟨G, ρ, d, gh, env, eq, k⟩ => by
  cases eq; exact k _ G H (.refl gh) .nil
theorem da_cons {f : DF} {g : DL} (h : PE X e (tP X.K own f)) (t : PA X es (tPA X.K own g)) (hs : starEach (e :: es) X.env = (false, eval e X.env) :: starEach es X.env := by rfl) : PA X (e :: es) (tPA X.K own (aC f g)) :=
  (pa_cons h t hs).imp fun σ H Q ⟨G, ρ, d, gh, env, eq, k⟩ => by
    obtain ⟨x, xs, ex, exs, rfl⟩ := aC_some eq
    refine ⟨G, ρ, x, gh, env, ex, fun v G1 H1 E1 r1 => ⟨G1, ρ, xs, E1.gh, env.ext E1, exs, fun vs G2 H2 E2 r2 => k _ G2 H2 (E1.trans E2) (.cons (Rep.mono E2.gg x r1) r2)⟩⟩
theorem dqa_nil : PA X [] (tQA X.K own aN) := pa_nil.imp fun σ H Q ⟨G, ρ, d, gh, env, eq, k⟩ => by
  cases eq; exact k _ G H (.refl gh) .nil
theorem dqa_cons {f : DF} {g : DL} (h : PE X e (tQ X.K own f)) (t : PA X es (tQA X.K own g)) (hs : starEach (e :: es) X.env = (false, eval e X.env) :: starEach es X.env := by rfl) : PA X (e :: es) (tQA X.K own (aC f g)) :=
  (pa_cons h t hs).imp fun σ H Q ⟨G, ρ, d, gh, env, eq, k⟩ => by
    obtain ⟨x, xs, ex, exs, rfl⟩ := aC_some eq
    refine ⟨G, ρ, x, gh, env, ex, fun v G1 H1 E1 r1 => ⟨G1, ρ, xs, E1.gh, env.ext E1, exs, fun vs G2 H2 E2 r2 => k _ G2 H2 (E1.trans E2) (.cons (r1.ext E2) r2)⟩⟩
noncomputable def eTup (g : DL) : DF := fun ρ => (g ρ).bind fun xs => if xs.length ≤ 1000 then some (.tup xs) else none
theorem line1000 : 1000 ≤ sizeLine := by rw [sizeLine_eq]; decide
theorem de_tup {x1 pos} {g : DL} (h : PA X es (tPA X.K own g)) : PE X (.Tuple es x1 pos) (tP X.K own (eTup g)) := (pe_tup h).imp fun σ H Q ⟨G, ρ, d, gh, env, eq, k⟩ => by
  unfold eTup at eq
  cases eg : g ρ with
  | none => rw [eg] at eq; cases eq
  | some xs =>
    rw [eg] at eq
    have eq : (if xs.length ≤ 1000 then some (D.tup xs) else none) = some d := eq
    split at eq
    · cases eq
      rename_i hz
      refine ⟨G, ρ, xs, gh, env, eg, fun vs G1 H1 E1 r1 => ⟨?_, fun p hp => k _ _ _ (E1.trans (Ext.alloc (p := p) (o := .tup vs) E1.gh hp)) ?_⟩⟩
      · rw [← r1.length]; exact Nat.le_trans hz line1000
      · exact rep_tup.mpr ⟨p, vs, rfl, upd_same, Reps.mono (.alloc (E1.gh.free hp)) xs r1⟩
    · cases eq
noncomputable def eLst (g : DL) : DL := fun ρ => (g ρ).bind fun xs => if xs.length ≤ 1000 then some xs else none
theorem de_lst {pos} {g : DL} (h : PA X es (tPA X.K own g)) : PE X (.List es pos) (tF X.K own (eLst g)) := (pe_lst h).imp fun σ H Q ⟨G, ρ, ds, gh, env, eq, k⟩ => by
  unfold eLst at eq
  cases eg : g ρ with
  | none => rw [eg] at eq; cases eq
  | some xs =>
    rw [eg] at eq
    have eq : (if xs.length ≤ 1000 then some xs else none) = some ds := eq
    split at eq
    · cases eq
      rename_i hz
      refine ⟨G, ρ, ds, gh, env, eg, fun vs G1 H1 E1 r1 => ⟨?_, fun p hp => k p vs G1 _ (E1.trans (Ext.lay (p := p) (o := .lst vs) E1.gh hp)) (E1.hh.free hp) (E1.gh.free hp) upd_same r1⟩⟩
      rw [← r1.length]; exact Nat.le_trans hz line1000
    · cases eq
noncomputable def e2 (o : D → D → Option D) (a b : DF) : DF := fun ρ => (a ρ).bind fun x => (b ρ).bind fun y => o x y
theorem e2_some {o : D → D → Option D} {a b : DF} {ρ : DEnv} {d : D} (h : e2 o a b ρ = some d) : ∃ x y, a ρ = some x ∧ b ρ = some y ∧ o x y = some d := by
  unfold e2 at h
  cases ea : a ρ with
  | none => rw [ea] at h; cases h
  | some x =>
    rw [ea] at h
    cases eb : b ρ with
    | none => rw [eb] at h; cases h
    | some y => rw [eb] at h; exact ⟨x, y, rfl, rfl, h⟩
noncomputable def rD (K : PySem.W.Frag) (o : D → D → Option D) : R2 := fun x y H Q => ∃ G d1 d2 d, Same G H ∧ RepO K G H d1 x ∧ RepO K G H d2 y ∧ o d1 d2 = some d ∧ ∀ v G' H', Ext G H G' H' → Rep K G' d v → Q v H'
noncomputable def OpD (X : Cx) (f : Value → Value → Sem Value) (o : D → D → Option D) : Prop := OpR X f (rD X.K o)
theorem rd_of {K : PySem.W.Frag} {own : List Nat} {o : D → D → Option D} {fa fb : DF} {σ : St} {H : Hp} {Q : VK} (h : tP K own (e2 o fa fb) σ H Q) : tOp (rD K o) (tQ K own fa) (tQ K own fb) σ H Q := by
  obtain ⟨G, ρ, d, gh, env, eq, k⟩ := h
  obtain ⟨x, y, ex, ey, eo⟩ := e2_some eq
  exact ⟨G, ρ, x, gh, env, ex, fun v G1 H1 E1 r1 => ⟨G1, ρ, y, E1.gh, env.ext E1, ey, fun u G2 H2 E2 r2 => ⟨G2, x, y, d, E2.gh, r1.ext E2, r2, eo, fun w G3 H3 E3 r3 => k w G3 H3 ((E1.trans E2).trans E3) r3⟩⟩⟩
variable {a b : Expr} {fa fb : DF} {pos : Pos}
theorem de_op {op : Operator} {o : D → D → Option D} (ho : OpD X (binaryOp op) o) (ha : PE X a (tQ X.K own fa)) (hb : PE X b (tQ X.K own fb)) : PE X (.BinOp a op b pos) (tP X.K own (e2 o fa fb)) := (pe_op ho ha hb).imp fun σ H Q h => rd_of h
theorem de_cmp {op : CmpOp} {o : D → D → Option D} (ho : OpD X (compareOp op) o) (ha : PE X a (tQ X.K own fa)) (hb : PE X b (tQ X.K own fb)) (hm : behindInMarks op b = false) : PE X (.Compare a [op] [b] pos) (tP X.K own (e2 o fa fb)) := (pe_cmpR ho ha hb hm).imp fun σ H Q h => rd_of h
noncomputable def tB1 (f : DF) : DT := fun ρ => (f ρ).bind fun d => match d with | .bl b => some b | _ => none
theorem tB1_some {f : DF} {ρ : DEnv} {b : Bool} (h : tB1 f ρ = some b) : f ρ = some (.bl b) := by
  unfold tB1 at h
  cases e : f ρ with
  | none => rw [e] at h; cases h
  | some d =>
    rw [e] at h
    cases d with
    | bl c => rw [show c = b from Option.some.inj h]
    | _ => cases h
theorem dt_cmp {op : CmpOp} {o : D → D → Option D} (ho : OpD X (compareOp op) o) (ha : PE X a (tQ X.K own fa)) (hb : PE X b (tQ X.K own fb)) (hm : behindInMarks op b = false) : PT X (.Compare a [op] [b] pos) (tPT X.K own (tB1 (e2 o fa fb))) :=
  (pt_cmpR ho ha hb hm).imp fun σ H Q ⟨G, ρ, d, gh, env, eq, k⟩ => rd_of (own := own) (fa := fa) (fb := fb) ⟨G, ρ, .bl d, gh, env, tB1_some eq, fun v G' H' E r => ⟨d, rep_bl.mp r, k G' H' E⟩⟩
noncomputable def tAndD (f g : DT) : DT := fun ρ => (f ρ).bind fun c => if c = true then g ρ else some false
noncomputable def tOrD (f g : DT) : DT := fun ρ => (f ρ).bind fun c => if c = true then some true else g ρ
noncomputable def tNotD (f : DT) : DT := fun ρ => (f ρ).map fun c => !c
variable {f g : DT} {rest : List Expr}
theorem dw_and1 (ha : PT X a (tPT X.K own f)) : PW X (.BoolOp .And [a] pos) (tPT X.K own f) := pw_and1 ha
theorem dw_or1 (ha : PT X a (tPT X.K own f)) : PW X (.BoolOp .Or [a] pos) (tPT X.K own f) := pw_or1 ha
theorem dw_and (ha : PT X a (tPT X.K own f)) (hb : PW X (.BoolOp .And (b :: rest) pos) (tPT X.K own g)) : PW X (.BoolOp .And (a :: b :: rest) pos) (tPT X.K own (tAndD f g)) := (pw_and ha hb).imp fun σ H Q ⟨G, ρ, d, gh, env, eq, k⟩ => by
  unfold tAndD at eq
  cases ef : f ρ with
  | none => rw [ef] at eq; cases eq
  | some c =>
    rw [ef] at eq
    refine ⟨G, ρ, c, gh, env, ef, fun G1 H1 E1 => ?_⟩
    cases c with
    | true => exact iteT ⟨G1, ρ, d, E1.gh, env.ext E1, eq, fun G2 H2 E2 => k G2 H2 (E1.trans E2)⟩
    | false => have : d = false := (Option.some.inj (show some false = some d from eq)).symm
               subst this; exact iteF (k G1 H1 E1)
theorem dw_or (ha : PT X a (tPT X.K own f)) (hb : PW X (.BoolOp .Or (b :: rest) pos) (tPT X.K own g)) : PW X (.BoolOp .Or (a :: b :: rest) pos) (tPT X.K own (tOrD f g)) := (pw_or ha hb).imp fun σ H Q ⟨G, ρ, d, gh, env, eq, k⟩ => by
  unfold tOrD at eq
  cases ef : f ρ with
  | none => rw [ef] at eq; cases eq
  | some c =>
    rw [ef] at eq
    refine ⟨G, ρ, c, gh, env, ef, fun G1 H1 E1 => ?_⟩
    cases c with
    | false => exact iteF ⟨G1, ρ, d, E1.gh, env.ext E1, eq, fun G2 H2 E2 => k G2 H2 (E1.trans E2)⟩
    | true => have : d = true := (Option.some.inj (show some true = some d from eq)).symm
              subst this; exact iteT (k G1 H1 E1)
noncomputable def eAnd (f g : DF) : DF := fun ρ => (tB1 f ρ).bind fun c => if c = true then g ρ else some (.bl false)
noncomputable def eOr (f g : DF) : DF := fun ρ => (tB1 f ρ).bind fun c => if c = true then some (.bl true) else g ρ
noncomputable def eNot (f : DT) : DF := fun ρ => (f ρ).map fun c => .bl (!c)
theorem de_one {op} (h : PE X a (tP X.K own fa)) : PE X (.BoolOp op [a] pos) (tP X.K own fa) := pe_one h
theorem de_and (ha : PE X a (tP X.K own fa)) (hb : PE X (.BoolOp .And (b :: rest) pos) (tP X.K own fb)) : PE X (.BoolOp .And (a :: b :: rest) pos) (tP X.K own (eAnd fa fb)) := (pe_and ha hb).imp fun σ H Q ⟨G, ρ, d, gh, env, eq, k⟩ => by
  unfold eAnd at eq
  cases ef : tB1 fa ρ with
  | none => rw [ef] at eq; cases eq
  | some c =>
    rw [ef] at eq
    refine ⟨G, ρ, _, gh, env, tB1_some ef, fun v G1 H1 E1 r1 => ⟨c, rep_bl.mp r1, ?_⟩⟩
    cases c with
    | true => exact iteT ⟨G1, ρ, d, E1.gh, env.ext E1, eq, fun v G2 H2 E2 r2 => k v G2 H2 (E1.trans E2) r2⟩
    | false => have : d = .bl false := (Option.some.inj (show some (D.bl false) = some d from eq)).symm
               subst this; exact iteF (k _ G1 H1 E1 (rep_bl.mpr rfl))
theorem de_or (ha : PE X a (tP X.K own fa)) (hb : PE X (.BoolOp .Or (b :: rest) pos) (tP X.K own fb)) : PE X (.BoolOp .Or (a :: b :: rest) pos) (tP X.K own (eOr fa fb)) := (pe_or ha hb).imp fun σ H Q ⟨G, ρ, d, gh, env, eq, k⟩ => by
  unfold eOr at eq
  cases ef : tB1 fa ρ with
  | none => rw [ef] at eq; cases eq
  | some c =>
    rw [ef] at eq
    refine ⟨G, ρ, _, gh, env, tB1_some ef, fun v G1 H1 E1 r1 => ⟨c, rep_bl.mp r1, ?_⟩⟩
    cases c with
    | false => exact iteF ⟨G1, ρ, d, E1.gh, env.ext E1, eq, fun v G2 H2 E2 r2 => k v G2 H2 (E1.trans E2) r2⟩
    | true => have : d = .bl true := (Option.some.inj (show some (D.bl true) = some d from eq)).symm
              subst this; exact iteT (k _ G1 H1 E1 (rep_bl.mpr rfl))
theorem de_not (ha : PE X a (tP X.K own fa)) : PE X (.UnaryOp .Not a pos) (tP X.K own (eNot (tB1 fa))) := (pe_not ha).imp fun σ H Q ⟨G, ρ, d, gh, env, eq, k⟩ => by
  unfold eNot at eq
  cases ef : tB1 fa ρ with
  | none => rw [ef] at eq; cases eq
  | some c =>
    rw [ef] at eq
    have : d = .bl (!c) := (Option.some.inj (show some (D.bl (!c)) = some d from eq)).symm
    subst this
    exact ⟨G, ρ, _, gh, env, tB1_some ef, fun v G1 H1 E1 r1 => ⟨c, rep_bl.mp r1, k _ G1 H1 E1 (rep_bl.mpr rfl)⟩⟩
end
end L2
end
noncomputable section
set_option maxRecDepth 100000
set_option maxHeartbeats 4000000
namespace L2
open PySem PySem.Spec PyProof.Rows
mutual
noncomputable def deq : D → D → Bool
  | .non, .non => true
  | .bl a, .bl b => a == b
  | .bl a, .int b => (if a then 1 else 0) == b
  | .int a, .bl b => a == (if b then 1 else 0)
  | .int a, .int b => a == b
  | .str a, .str b => a == b
  | .lst xs, .lst ys => deqs xs ys
  | .tup xs, .tup ys => deqs xs ys
  | _, _ => false
noncomputable def deqs : List D → List D → Bool
  | [], [] => true
  | x :: xs, y :: ys => deq x y && deqs xs ys
  | _, _ => false
end
mutual
noncomputable def dOk : D → Nat → Bool
  | .lst xs, n => n != 0 && dOks xs (n - 1)
  | .tup xs, n => n != 0 && dOks xs (n - 1)
  | .scr _, _ => false
  | .ins _ _ _, _ => false
  | .non, _ => true
  | .bl _, _ => true
  | .int _, _ => true
  | .str _, _ => true
noncomputable def dOks : List D → Nat → Bool
  | [], _ => true
  | x :: xs, n => dOk x n && dOks xs n
end
theorem dOks_get : ∀ {xs : List D} {n i : Nat} {d : D}, dOks xs n = true → xs[i]? = some d → dOk d n = true
  | [], n, i, d, h, e => by simp at e
  | x :: xs, n, 0, d, h, e => by simp only [dOks, Bool.and_eq_true] at h; simp at e; subst e; exact h.1
  | x :: xs, n, i + 1, d, h, e => by simp only [dOks, Bool.and_eq_true] at h; exact dOks_get (i := i) h.2 (by simpa using e)
theorem deqs_all : ∀ (xs ys : List D), deqs xs ys = ((List.range (min xs.length ys.length)).all (fun j => deq (xs.getD j .non) (ys.getD j .non)) && (xs.length == ys.length))
  | [], [] => by simp [deqs]
  | [], y :: ys => by simp [deqs]
  | x :: xs, [] => by simp [deqs]
  | x :: xs, y :: ys => by
    have e : min (x :: xs).length (y :: ys).length = min xs.length ys.length + 1 := by simp [Nat.add_min_add_right]
    rw [e, List.range_succ_eq_map, List.all_cons, List.all_map]
    simp only [deqs, deqs_all xs ys, Function.comp_def, List.getD_cons_zero, List.getD_cons_succ, List.length_cons]
    rw [Bool.and_assoc]
    congr 2
    simp
mutual
theorem deq_refl : ∀ (d : D) (n : Nat), dOk d n = true → deq d d = true
  | .non, n, h => by simp [deq]
  | .bl b, n, h => by simp [deq]
  | .int b, n, h => by simp [deq]
  | .str b, n, h => by simp [deq]
  | .lst xs, n, h => by simp only [dOk, Bool.and_eq_true] at h; simp only [deq]; exact deqs_refl xs _ h.2
  | .tup xs, n, h => by simp only [dOk, Bool.and_eq_true] at h; simp only [deq]; exact deqs_refl xs _ h.2
  | .scr xs, n, h => by simp [dOk] at h
theorem deqs_refl : ∀ (d : List D) (n : Nat), dOks d n = true → deqs d d = true
  | [], n, h => by simp [deqs]
  | x :: xs, n, h => by
    simp only [dOks, Bool.and_eq_true] at h
    simp only [deqs, deq_refl x n h.1, deqs_refl xs n h.2, Bool.and_self]
end
noncomputable section
variable {K : PySem.W.Frag} {H : Hp}
mutual
theorem Rep.inj : ∀ (d1 d2 : D) (n m : Nat) {v : V}, dOk d1 n = true → dOk d2 m = true → Rep K H d1 v → Rep K H d2 v → d1 = d2
  | .non, d2, n, m, v, o1, o2, h1, h2 => by
    have e := rep_non.mp h1; subst e
    cases d2 <;> simp [Rep, dOk] at h2 o2 ⊢
  | .bl b, d2, n, m, v, o1, o2, h1, h2 => by
    have e := rep_bl.mp h1; subst e
    cases d2 <;> simp [Rep, dOk] at h2 o2 ⊢ <;> exact h2
  | .int b, d2, n, m, v, o1, o2, h1, h2 => by
    have e := rep_int.mp h1; subst e
    cases d2 <;> simp [Rep, dOk] at h2 o2 ⊢ <;> exact h2
  | .str b, d2, n, m, v, o1, o2, h1, h2 => by
    have e := rep_str.mp h1; subst e
    cases d2 <;> simp [Rep, dOk] at h2 o2 ⊢ <;> exact h2
  | .lst xs, d2, n, m, v, o1, o2, h1, h2 => by
    obtain ⟨a, vs, rfl, ha, r⟩ := rep_lst.mp h1
    cases d2 with
    | lst ys =>
      obtain ⟨b, us, e, hb, q⟩ := rep_lst.mp h2
      cases e
      rw [ha] at hb; cases hb
      simp only [dOk, Bool.and_eq_true] at o1 o2
      rw [Reps.inj xs ys _ _ o1.2 o2.2 r q]
    | tup ys =>
      obtain ⟨b, us, e, hb, q⟩ := rep_tup.mp h2
      cases e
      rw [ha] at hb; cases hb
    | scr ys => simp [dOk] at o2
    | ins c ks zs => simp [dOk] at o2
    | _ => simp [Rep] at h2
  | .tup xs, d2, n, m, v, o1, o2, h1, h2 => by
    obtain ⟨a, vs, rfl, ha, r⟩ := rep_tup.mp h1
    cases d2 with
    | tup ys =>
      obtain ⟨b, us, e, hb, q⟩ := rep_tup.mp h2
      cases e
      rw [ha] at hb; cases hb
      simp only [dOk, Bool.and_eq_true] at o1 o2
      rw [Reps.inj xs ys _ _ o1.2 o2.2 r q]
    | lst ys =>
      obtain ⟨b, us, e, hb, q⟩ := rep_lst.mp h2
      cases e
      rw [ha] at hb; cases hb
    | scr ys => simp [dOk] at o2
    | ins c ks zs => simp [dOk] at o2
    | _ => simp [Rep] at h2
  | .scr xs, d2, n, m, v, o1, o2, h1, h2 => by simp [dOk] at o1
theorem Reps.inj : ∀ (xs ys : List D) (n m : Nat) {vs : List V}, dOks xs n = true → dOks ys m = true → Reps K H xs vs → Reps K H ys vs → xs = ys
  | [], ys, n, m, vs, o1, o2, h1, h2 => by
    rw [reps_nil.mp h1] at h2
    cases ys with
    | nil => rfl
    | cons y ys => obtain ⟨_, _, e, _⟩ := reps_cons.mp h2; cases e
  | x :: xs, ys, n, m, vs, o1, o2, h1, h2 => by
    obtain ⟨v, r, rfl, q, t⟩ := reps_cons.mp h1
    cases ys with
    | nil => have := reps_nil.mp h2; cases this
    | cons y ys =>
      obtain ⟨v', r', e, q', t'⟩ := reps_cons.mp h2
      cases e
      simp only [dOks, Bool.and_eq_true] at o1 o2
      rw [Rep.inj x y _ _ o1.1 o2.1 q q', Reps.inj xs ys _ _ o1.2 o2.2 t t']
end
end
noncomputable section
variable {P : Program} {w : World} {K : PySem.W.Frag} {H : Hp} {s : Shared}
theorem objL (hok : HOk P w H s.heap) {a : Addr} {vs : List V} (e : H a = some (.lst vs)) : ∃ its : List Value, Vals vs its ∧ s.heap.IsList a its.toArray := by
  obtain ⟨z, its, n, r, q⟩ := hok a _ e
  exact ⟨its, r, _, q, rfl, n, rfl⟩
theorem objT (hok : HOk P w H s.heap) {a : Addr} {vs : List V} (e : H a = some (.tup vs)) : ∃ its : List Value, Vals vs its ∧ s.heap.IsTuple a its.toArray := by
  obtain ⟨z, its, r, q⟩ := hok a _ e
  exact ⟨its, r, q⟩
open SeqAt
structure EqAll (A : Around) (s : Shared) (u1 u2 : Value) (b : Bool) : Prop where
  rc : RcAt A s u1 u2 b
  ne : RcNeAt A s u1 u2 (!b)
  eq : EqAt A s u1 u2 b
theorem eq_scal (hok : HOk P w H s.heap) {A : Around} (hu : A.units < cLine) {d1 d2 : D} {m : Nat} {v1 v2 : V} {u1 u2 : Value} (o1 : dOk d1 0 = true) (o2 : dOk d2 m = true) (h1 : Rep K H d1 v1) (h2 : Rep K H d2 v2) (r1 : RelV v1 u1) (r2 : RelV v2 u2) :
    EqAll A s u1 u2 (deq d1 d2) := by
  cases d1 with
  | lst xs => simp [dOk] at o1
  | tup xs => simp [dOk] at o1
  | scr xs => simp [dOk] at o1
  | ins c ks zs => simp [dOk] at o1
  | non =>
    have e := rep_non.mp h1; subst e; cases r1
    cases d2 with
    | non => have e := rep_non.mp h2; subst e; cases r2; exact ⟨.none_none, .none_none, .same _⟩
    | bl b => have e := rep_bl.mp h2; subst e; cases r2; exact ⟨.none_bool b, .none_bool b, .none_bool b⟩
    | int b => have e := rep_int.mp h2; subst e; obtain ⟨t, rfl⟩ := r2; exact ⟨.none_int b t, .none_int b t, .none_int b t⟩
    | str b => have e := rep_str.mp h2; subst e; obtain ⟨t, rfl⟩ := r2; exact ⟨.none_str b t, .none_str b t, .none_str b t⟩
    | lst ys => obtain ⟨a, vs, rfl, q, _⟩ := rep_lst.mp h2; cases r2; obtain ⟨its, _, l⟩ := objL hok q; exact ⟨.none_list l hu, .none_list l hu, .none_list l hu⟩
    | tup ys => obtain ⟨a, vs, rfl, q, _⟩ := rep_tup.mp h2; cases r2; obtain ⟨its, _, l⟩ := objT hok q; exact ⟨.none_tuple l hu, .none_tuple l hu, .none_tuple l hu⟩
    | scr ys => simp [dOk] at o2
    | ins c ks zs => simp [dOk] at o2
  | bl c =>
    have e := rep_bl.mp h1; subst e; cases r1
    cases d2 with
    | non => have e := rep_non.mp h2; subst e; cases r2; exact ⟨.bool_none c, .bool_none c, .bool_none c⟩
    | bl b => have e := rep_bl.mp h2; subst e; cases r2; exact ⟨.bool_bool c b, .bool_bool c b, .bool_bool c b⟩
    | int b => have e := rep_int.mp h2; subst e; obtain ⟨t, rfl⟩ := r2; exact ⟨.bool_int c b t, .bool_int c b t, .bool_int c b t⟩
    | str b => have e := rep_str.mp h2; subst e; obtain ⟨t, rfl⟩ := r2; exact ⟨.bool_str c b t, .bool_str c b t, .bool_str c b t⟩
    | lst ys => obtain ⟨a, vs, rfl, q, _⟩ := rep_lst.mp h2; cases r2; obtain ⟨its, _, l⟩ := objL hok q; exact ⟨.bool_list c l hu, .bool_list c l hu, .bool_list c l hu⟩
    | tup ys => obtain ⟨a, vs, rfl, q, _⟩ := rep_tup.mp h2; cases r2; obtain ⟨its, _, l⟩ := objT hok q; exact ⟨.bool_tuple c l hu, .bool_tuple c l hu, .bool_tuple c l hu⟩
    | scr ys => simp [dOk] at o2
    | ins c ks zs => simp [dOk] at o2
  | int c =>
    have e := rep_int.mp h1; subst e; obtain ⟨t', rfl⟩ := r1
    cases d2 with
    | non => have e := rep_non.mp h2; subst e; cases r2; exact ⟨.int_none c t', .int_none c t', .int_none c t'⟩
    | bl b => have e := rep_bl.mp h2; subst e; cases r2; exact ⟨.int_bool c t' b, .int_bool c t' b, .int_bool c t' b⟩
    | int b => have e := rep_int.mp h2; subst e; obtain ⟨t, rfl⟩ := r2; exact ⟨.int_int c t' b t, .int_int c t' b t, .int_int c t' b t⟩
    | str b => have e := rep_str.mp h2; subst e; obtain ⟨t, rfl⟩ := r2; exact ⟨.int_str c t' b t, .int_str c t' b t, .int_str c t' b t⟩
    | lst ys => obtain ⟨a, vs, rfl, q, _⟩ := rep_lst.mp h2; cases r2; obtain ⟨its, _, l⟩ := objL hok q; exact ⟨.int_list c t' l hu, .int_list c t' l hu, .int_list c t' l hu⟩
    | tup ys => obtain ⟨a, vs, rfl, q, _⟩ := rep_tup.mp h2; cases r2; obtain ⟨its, _, l⟩ := objT hok q; exact ⟨.int_tuple c t' l hu, .int_tuple c t' l hu, .int_tuple c t' l hu⟩
    | scr ys => simp [dOk] at o2
    | ins c ks zs => simp [dOk] at o2
  | str c =>
    have e := rep_str.mp h1; subst e; obtain ⟨t', rfl⟩ := r1
    cases d2 with
    | non => have e := rep_non.mp h2; subst e; cases r2; exact ⟨.str_none c t', .str_none c t', .str_none c t'⟩
    | bl b => have e := rep_bl.mp h2; subst e; cases r2; exact ⟨.str_bool c t' b, .str_bool c t' b, .str_bool c t' b⟩
    | int b => have e := rep_int.mp h2; subst e; obtain ⟨t, rfl⟩ := r2; exact ⟨.str_int c t' b t, .str_int c t' b t, .str_int c t' b t⟩
    | str b => have e := rep_str.mp h2; subst e; obtain ⟨t, rfl⟩ := r2; exact ⟨.str_str c t' b t, .str_str c t' b t, .str_str c t' b t⟩
    | lst ys => obtain ⟨a, vs, rfl, q, _⟩ := rep_lst.mp h2; cases r2; obtain ⟨its, _, l⟩ := objL hok q; exact ⟨.str_list c t' l hu, .str_list c t' l hu, .str_list c t' l hu⟩
    | tup ys => obtain ⟨a, vs, rfl, q, _⟩ := rep_tup.mp h2; cases r2; obtain ⟨its, _, l⟩ := objT hok q; exact ⟨.str_tuple c t' l hu, .str_tuple c t' l hu, .str_tuple c t' l hu⟩
    | scr ys => simp [dOk] at o2
    | ins c ks zs => simp [dOk] at o2
theorem EqAll.refs {A : Around} {l b : Addr} {k : Bool} (rc : RcAt A s (.ref l) (.ref b) k) (ne : RcNeAt A s (.ref l) (.ref b) (!k)) (h : l = b → k = true) : EqAll A s (.ref l) (.ref b) k := by
  refine ⟨rc, ne, ?_⟩
  by_cases e : l = b
  · subst e; rw [h rfl]; exact .same _
  · exact .of_refs e rc
theorem deqs_len {xs ys : List D} (h : xs.length ≠ ys.length) : deqs xs ys = false := by
  rw [deqs_all]
  have : (xs.length == ys.length) = false := by simpa using h
  rw [this, Bool.and_false]
theorem eq_items {A : Around} {n m : Nat} {xs ys : List D} {vs us : List V} {its its2 : List Value} (ih : ∀ (d1 d2 : D) (v1 v2 : V) (u1 u2 : Value), dOk d1 n = true → dOk d2 m = true → Rep K H d1 v1 → Rep K H d2 v2 → RelV v1 u1 → RelV v2 u2 → EqAll A s u1 u2 (deq d1 d2))
    (o1 : dOks xs n = true) (o2 : dOks ys m = true) (r : Reps K H xs vs) (q : Reps K H ys us) (rv : Vals vs its) (ru : Vals us its2) (j : Nat) (h1 : j < its.toArray.size) (h2 : j < its2.toArray.size) :
    EqAt A s its.toArray[j] its2.toArray[j] (deq (xs.getD j .non) (ys.getD j .non)) := by
  have l1 : xs.length = its.length := r.length.trans rv.length
  have l2 : ys.length = its2.length := q.length.trans ru.length
  have h1' : j < its.length := by simpa using h1
  have h2' : j < its2.length := by simpa using h2
  have g1 : xs[j]? = some (xs.getD j .non) := by rw [List.getD_eq_getElem?_getD, List.getElem?_eq_getElem (by omega)]; rfl
  have g2 : ys[j]? = some (ys.getD j .non) := by rw [List.getD_eq_getElem?_getD, List.getElem?_eq_getElem (by omega)]; rfl
  obtain ⟨v, e1, p1⟩ := r.get g1
  obtain ⟨u, e2, p2⟩ := q.get g2
  obtain ⟨w1, f1, t1⟩ := rv.get e1
  obtain ⟨w2, f2, t2⟩ := ru.get e2
  have k1 : its.toArray[j] = w1 := by
    have : its[j]? = some its.toArray[j] := by simp [h1']
    rw [f1] at this; exact (Option.some.inj this).symm
  have k2 : its2.toArray[j] = w2 := by
    have : its2[j]? = some its2.toArray[j] := by simp [h2']
    rw [f2] at this; exact (Option.some.inj this).symm
  rw [k1, k2]
  exact (ih _ _ _ _ _ _ (dOks_get o1 g1) (dOks_get o2 g2) p1 p2 t1 t2).eq
theorem eq_all (hok : HOk P w H s.heap) : ∀ (n : Nat) {A : Around} (_ : A.units + n < cLine) (d1 d2 : D) (m : Nat) (v1 v2 : V) (u1 u2 : Value), dOk d1 n = true → dOk d2 m = true → Rep K H d1 v1 → Rep K H d2 v2 → RelV v1 u1 → RelV v2 u2 →
    EqAll A s u1 u2 (deq d1 d2) := by
  intro n
  induction n with
  | zero => intro A hu d1 d2 m v1 v2 u1 u2 o1 o2 h1 h2 r1 r2; exact eq_scal hok (by omega) o1 o2 h1 h2 r1 r2
  | succ n ih =>
    intro A hu d1 d2 m v1 v2 u1 u2 o1 o2 h1 h2 r1 r2
    have hu0 : A.units < cLine := by omega
    have ih' := fun (m' : Nat) => fun (d1 d2 : D) (v1 v2 : V) (u1 u2 : Value) => ih (A := A.in1) (by show A.units + 1 + n < cLine; omega) d1 d2 m' v1 v2 u1 u2
    cases d1 with
    | lst xs =>
      obtain ⟨a, vs, rfl, qa, ra⟩ := rep_lst.mp h1
      cases r1
      obtain ⟨its, rv, l⟩ := objL hok qa
      cases d2 with
      | lst ys =>
        obtain ⟨b, us, rfl, qb, rb⟩ := rep_lst.mp h2
        cases r2
        obtain ⟨its2, ru, l2⟩ := objL hok qb
        have p1 := o1; have p2 := o2
        simp only [dOk, Bool.and_eq_true, Nat.add_sub_cancel] at p1 p2
        have len1 : its.toArray.size = xs.length := by rw [List.size_toArray]; exact (ra.length.trans rv.length).symm
        have len2 : its2.toArray.size = ys.length := by rw [List.size_toArray]; exact (rb.length.trans ru.length).symm
        have same : a = b → deqs xs ys = true := fun e => by
          subst e
          rw [qa] at qb; cases qb
          rw [← Reps.inj xs ys _ _ p1.2 p2.2 ra rb]
          exact deqs_refl xs _ p1.2
        show EqAll A s _ _ (deqs xs ys)
        by_cases hl : xs.length = ys.length
        · have E : deqs xs ys = (List.range its.toArray.size).all (fun j => deq (xs.getD j .non) (ys.getD j .non)) := by
            rw [deqs_all, ← hl, Nat.min_self, len1]; simp
          have it := eq_items (ih' _) p1.2 p2.2 ra rb rv ru
          exact .refs (by rw [E]; exact .lists l l2 (by omega) hu0 it) (by rw [E]; exact .lists l l2 (by omega) hu0 it) same
        · have E := deqs_len hl
          have hne : (its.toArray.size != its2.toArray.size) = true := by rw [len1, len2]; simpa using hl
          refine .refs ?_ ?_ same
          · rw [E]; exact .lists_lengths l l2 hne hu0
          · rw [E]; exact .lists_lengths l l2 hne hu0
      | tup ys =>
        obtain ⟨b, us, rfl, qb, rb⟩ := rep_tup.mp h2
        cases r2
        obtain ⟨its2, ru, l2⟩ := objT hok qb
        exact ⟨.list_tuple l l2 hu0, .list_tuple l l2 hu0, .list_tuple l l2 hu0⟩
      | non => have e := rep_non.mp h2; subst e; cases r2; exact ⟨.list_none l hu0, .list_none l hu0, .list_none l hu0⟩
      | bl b => have e := rep_bl.mp h2; subst e; cases r2; exact ⟨.list_bool b l hu0, .list_bool b l hu0, .list_bool b l hu0⟩
      | int b => have e := rep_int.mp h2; subst e; obtain ⟨t, rfl⟩ := r2; exact ⟨.list_int b t l hu0, .list_int b t l hu0, .list_int b t l hu0⟩
      | str b => have e := rep_str.mp h2; subst e; obtain ⟨t, rfl⟩ := r2; exact ⟨.list_str b t l hu0, .list_str b t l hu0, .list_str b t l hu0⟩
      | scr ys => simp [dOk] at o2
      | ins c ks zs => simp [dOk] at o2
    | tup xs =>
      obtain ⟨a, vs, rfl, qa, ra⟩ := rep_tup.mp h1
      cases r1
      obtain ⟨its, rv, l⟩ := objT hok qa
      cases d2 with
      | tup ys =>
        obtain ⟨b, us, rfl, qb, rb⟩ := rep_tup.mp h2
        cases r2
        obtain ⟨its2, ru, l2⟩ := objT hok qb
        have p1 := o1; have p2 := o2
        simp only [dOk, Bool.and_eq_true, Nat.add_sub_cancel] at p1 p2
        have len1 : its.toArray.size = xs.length := by rw [List.size_toArray]; exact (ra.length.trans rv.length).symm
        have len2 : its2.toArray.size = ys.length := by rw [List.size_toArray]; exact (rb.length.trans ru.length).symm
        have same : a = b → deqs xs ys = true := fun e => by
          subst e
          rw [qa] at qb; cases qb
          rw [← Reps.inj xs ys _ _ p1.2 p2.2 ra rb]
          exact deqs_refl xs _ p1.2
        show EqAll A s _ _ (deqs xs ys)
        have E : deqs xs ys = ((List.range (min its.toArray.size its2.toArray.size)).all (fun j => deq (xs.getD j .non) (ys.getD j .non)) && its.toArray.size == its2.toArray.size) := by
          rw [deqs_all, len1, len2]
        have it := eq_items (ih' _) p1.2 p2.2 ra rb rv ru
        exact .refs (by rw [E]; exact .tuples l l2 hu0 it) (by rw [E]; exact .tuples l l2 hu0 it) same
      | lst ys =>
        obtain ⟨b, us, rfl, qb, rb⟩ := rep_lst.mp h2
        cases r2
        obtain ⟨its2, ru, l2⟩ := objL hok qb
        exact ⟨.tuple_list l l2 hu0, .tuple_list l l2 hu0, .tuple_list l l2 hu0⟩
      | non => have e := rep_non.mp h2; subst e; cases r2; exact ⟨.tuple_none l hu0, .tuple_none l hu0, .tuple_none l hu0⟩
      | bl b => have e := rep_bl.mp h2; subst e; cases r2; exact ⟨.tuple_bool b l hu0, .tuple_bool b l hu0, .tuple_bool b l hu0⟩
      | int b => have e := rep_int.mp h2; subst e; obtain ⟨t, rfl⟩ := r2; exact ⟨.tuple_int b t l hu0, .tuple_int b t l hu0, .tuple_int b t l hu0⟩
      | str b => have e := rep_str.mp h2; subst e; obtain ⟨t, rfl⟩ := r2; exact ⟨.tuple_str b t l hu0, .tuple_str b t l hu0, .tuple_str b t l hu0⟩
      | scr ys => simp [dOk] at o2
      | ins c ks zs => simp [dOk] at o2
    | scr xs => simp [dOk] at o1
    | ins c ks zs => simp [dOk] at o1
    | non => exact eq_scal hok hu0 rfl o2 h1 h2 r1 r2
    | bl b => exact eq_scal hok hu0 rfl o2 h1 h2 r1 r2
    | int b => exact eq_scal hok hu0 rfl o2 h1 h2 r1 r2
    | str b => exact eq_scal hok hu0 rfl o2 h1 h2 r1 r2
end
noncomputable def oEq (x y : D) : Option D := if (dOk x 180 && dOk y 180) = true then some (.bl (deq x y)) else none
noncomputable def oNe (x y : D) : Option D := if (dOk x 180 && dOk y 180) = true then some (.bl (!deq x y)) else none
noncomputable section
variable {X : Cx}
theorem od_eq {k : Nat} (hr : Room k X.A) : OpD X (compareOp .Eq) oEq := by
  intro pins s σ H x y v u Q I rx ry ⟨G, d1, d2, d, gh, h1, h2, eq, q⟩
  unfold oEq at eq
  split at eq
  · rename_i hc
    rw [Bool.and_eq_true] at hc
    cases eq
    have hu := hr.un
    exact (eq_all (K := X.K) I.hok 180 (A := X.A) (by omega) d1 d2 180 x y v u hc.1 hc.2 (h1.all gh) (h2.all gh) rx ry).rc _ _ _ _ ⟨.bl _, H, I, rfl, q _ G H (.refl gh) (rep_bl.mpr rfl)⟩
  · cases eq
theorem od_ne {k : Nat} (hr : Room k X.A) : OpD X (compareOp .NotEq) oNe := by
  intro pins s σ H x y v u Q I rx ry ⟨G, d1, d2, d, gh, h1, h2, eq, q⟩
  unfold oNe at eq
  split at eq
  · rename_i hc
    rw [Bool.and_eq_true] at hc
    cases eq
    have hu := hr.un
    exact (eq_all (K := X.K) I.hok 180 (A := X.A) (by omega) d1 d2 180 x y v u hc.1 hc.2 (h1.all gh) (h2.all gh) rx ry).ne _ _ _ _ ⟨.bl _, H, I, rfl, q _ G H (.refl gh) (rep_bl.mpr rfl)⟩
  · cases eq
noncomputable def oLt : D → D → Option D
  | .int i, .int j => some (.bl (decide (i < j)))
  | _, _ => none
noncomputable def oGt : D → D → Option D
  | .int i, .int j => some (.bl (decide (j < i)))
  | _, _ => none
theorem od_ii {f : Value → Value → Sem Value} {C : Int → Int → Prop} {o : D → D → Option D} {g : Int → Int → V} {g' : Int → Int → D} (h : OpR X f (rI C g)) (ho : ∀ x y d, o x y = some d → ∃ i j, x = .int i ∧ y = .int j ∧ C i j ∧ d = g' i j) (hg : ∀ i j G, Rep X.K G (g' i j) (g i j)) : OpD X f o :=
  OpR.imp h fun x y H Q ⟨G, d1, d2, d, gh, h1, h2, eq, q⟩ => by
    obtain ⟨i, j, rfl, rfl, hc, rfl⟩ := ho _ _ _ eq
    exact ⟨i, j, h1.int, h2.int, hc, q _ G H (.refl gh) (hg i j G)⟩
theorem op_i0 {f : Value → Value → Sem Value} {g : Int → Int → V} (h : OpR X f (rI0 g)) : OpR X f (rI (fun _ _ => True) g) := OpR.imp h fun x y H Q ⟨i, j, e1, e2, _, q⟩ => ⟨i, j, e1, e2, q⟩
theorem od_lt : OpD X (compareOp .Lt) oLt := od_ii (op_i0 op_lt) (g' := fun i j => .bl (decide (i < j))) (fun x y d h => by cases x <;> cases y <;> simp [oLt] at h <;> exact ⟨_, _, rfl, rfl, trivial, h.symm⟩) fun i j G => rep_bl.mpr rfl
theorem od_gt : OpD X (compareOp .Gt) oGt := od_ii (op_i0 op_gt) (g' := fun i j => .bl (decide (j < i))) (fun x y d h => by cases x <;> cases y <;> simp [oGt] at h <;> exact ⟨_, _, rfl, rfl, trivial, h.symm⟩) fun i j G => rep_bl.mpr rfl
noncomputable def oSub : D → D → Option D
  | .int i, .int j => some (.int (i - j))
  | _, _ => none
theorem od_sub : OpD X (binaryOp .Sub) oSub := od_ii (op_i0 op_sub) (g' := fun i j => .int (i - j)) (fun x y d h => by cases x <;> cases y <;> simp [oSub] at h <;> exact ⟨_, _, rfl, rfl, trivial, h.symm⟩) fun i j G => rep_int.mpr rfl
noncomputable def oMod : D → D → Option D
  | .int i, .int j => if 0 < j then some (.int (i % j)) else none
  | _, _ => none
theorem od_mod : OpD X (binaryOp .Mod) oMod := od_ii op_mod (g' := fun i j => .int (i % j)) (fun x y d h => by
  cases x <;> cases y <;> simp only [oMod] at h <;> first | (cases h; done) | (split at h <;> first | (cases h; exact ⟨_, _, rfl, rfl, by assumption, rfl⟩) | cases h)) fun i j G => rep_int.mpr rfl
noncomputable def oFdiv : D → D → Option D
  | .int i, .int j => if 0 < j ∧ j < 2 ^ 64 then some (.int (i / j)) else none
  | _, _ => none
theorem op_fdivB : OpR X (binaryOp .FloorDiv) (rI (fun _ j => 0 < j ∧ j < 2 ^ 64) fun i j => .int (i / j)) := opI fun i j _ _ _ _ _ hc q => by
  have h1 : (0 : Int) < j := hc.1
  have h2 : j < 2 ^ 64 := hc.2
  have h3 : j.natAbs < 2 ^ 64 := by omega
  refine floordiv_int (by omega) (by rw [Int.fdiv_eq_ediv_of_nonneg i (by omega)]; exact q) (.inl (PyProof.noPylong_of_log2 ?_))
  have := (Nat.log2_lt (n := j.natAbs) (k := 64) (by omega)).mpr h3
  omega
theorem od_fdiv : OpD X (binaryOp .FloorDiv) oFdiv := od_ii op_fdivB (g' := fun i j => .int (i / j)) (fun x y d h => by
  cases x <;> cases y <;> simp only [oFdiv] at h <;> first | (cases h; done) | (split at h <;> first | (cases h; exact ⟨_, _, rfl, rfl, by assumption, rfl⟩) | cases h)) fun i j G => rep_int.mpr rfl
noncomputable def bigE : Nat := 1000000
theorem bigE_le : bigE ≤ sizeLine := by rw [sizeLine_eq]; decide
noncomputable def oAdd : D → D → Option D
  | .int i, .int j => some (.int (i + j))
  | .str x, .str y => if x.length + y.length ≤ bigE then some (.str (x ++ y)) else none
  | .lst xs, .lst ys => if xs.length + ys.length ≤ bigE then some (.lst (xs ++ ys)) else none
  | _, _ => none
theorem od_add : OpD X (binaryOp .Add) oAdd := by
  refine OpR.imp (op_add.or (op_add_str.or op_cat)) fun x y H Q ⟨G, d1, d2, d, gh, h1, h2, eq, q⟩ => ?_
  cases d1 <;> cases d2 <;> simp only [oAdd] at eq <;> try (cases eq; done)
  · cases eq
    exact .inl ⟨_, _, h1.int, h2.int, q _ G H (.refl gh) (rep_int.mpr rfl)⟩
  · split at eq
    · cases eq
      rename_i hz
      exact .inr (.inl ⟨_, _, h1.str, h2.str, Nat.le_trans hz bigE_le, q _ G H (.refl gh) (rep_str.mpr rfl)⟩)
    · cases eq
  · split at eq
    · cases eq
      rename_i hz
      obtain ⟨a, vs, ea, qa, ra⟩ := h1.lst gh
      obtain ⟨b, us, eb, qb, rb⟩ := h2.lst gh
      refine .inr (.inr ⟨a, b, vs, us, ea, eb, qa, qb, ?_, fun p hp => q _ _ _ (Ext.alloc (p := p) gh hp) ?_⟩)
      · rw [← ra.length, ← rb.length]; exact Nat.le_trans hz bigE_le
      · exact rep_lst.mpr ⟨p, _, rfl, upd_same, Reps.mono (.alloc (gh.free hp)) _ (ra.append rb)⟩
    · cases eq
instance : DecidablePred fun p : Int × Int => CMul p.1 p.2 := fun p => by unfold CMul; infer_instance
noncomputable def oMul : D → D → Option D
  | .int i, .int j => if (-(2 ^ 64) < i ∧ i < 2 ^ 64) ∨ (-(2 ^ 64) < j ∧ j < 2 ^ 64) then some (.int (i * j)) else none
  | .lst xs, .int k => if (-(2 ^ 63) ≤ k ∧ k < 2 ^ 63) ∧ xs.length * k.toNat ≤ bigE then some (.lst (List.replicate k.toNat xs).flatten) else none
  | _, _ => none
theorem od_mul : OpD X (binaryOp .Mult) oMul := by
  refine OpR.imp (op_mul.or op_rep) fun x y H Q ⟨G, d1, d2, d, gh, h1, h2, eq, q⟩ => ?_
  cases d1 <;> cases d2 <;> simp only [oMul] at eq <;> try (cases eq; done)
  · split at eq
    · cases eq
      rename_i hc
      exact .inl ⟨_, _, h1.int, h2.int, hc, q _ G H (.refl gh) (rep_int.mpr rfl)⟩
    · cases eq
  · split at eq
    · cases eq
      rename_i hz
      obtain ⟨a, vs, ea, qa, ra⟩ := h1.lst gh
      refine .inr ⟨a, _, vs, ea, h2.int, qa, hz.1.1, hz.1.2, ?_, fun p hp => q _ _ _ (Ext.alloc (p := p) gh hp) ?_⟩
      · rw [← ra.length]; exact Nat.le_trans hz.2 bigE_le
      · exact rep_lst.mpr ⟨p, _, rfl, upd_same, Reps.mono (.alloc (gh.free hp)) _ (ra.rep _)⟩
    · cases eq
noncomputable def e1 (o : D → Option D) (a : DF) : DF := fun ρ => (a ρ).bind o
end
end L2
end
noncomputable section
set_option maxRecDepth 100000
set_option maxHeartbeats 4000000
namespace L2
open PySem PySem.Spec PyProof.Rows
inductive DO where
  | nx (ρ : DEnv) | rt (d : D) | ro (ds : List D) | bk (ρ : DEnv) | ct (ρ : DEnv)
  | rm (d : D) (ρ : DEnv)
noncomputable abbrev DG := DEnv → Option DO
structure Bs where
  g : Hp
  h : Hp
  pin : List (Nat × Addr)
structure SR (K : PySem.W.Frag) (B : Bs) (own : List Nat) (G H : Hp) (σ : St) (ρ : DEnv) : Prop where
  gh : Same G H
  g0 : Same B.1 G
  h0 : Same B.2 H
  fr : ∀ b o, G b = some o → B.1 b = some o ∨ B.2 b = none
  env : ∀ (i : Nat) (d : D), i ∉ own → ρ[i]? = some (some d) → ∃ v, σ[i]? = some (some v) ∧ Rep K G d v
  ownd : ∀ (i : Nat) (d : D), i ∈ own → ρ[i]? = some (some d) → ∃ a vs ds, d = .lst ds ∧ σ[i]? = some (some (.ref a)) ∧ H a = some (.lst vs) ∧ Reps K G ds vs ∧ G a = none ∧ B.2 a = none
  inj : ∀ (i j : Nat) (a : Addr), i ∈ own → j ∈ own → (∃ d, ρ[i]? = some (some d)) → (∃ d, ρ[j]? = some (some d)) → σ[i]? = some (some (.ref a)) → σ[j]? = some (some (.ref a)) → i = j
  len : σ.length = ρ.length
  pin : ∀ (i : Nat) (a : Addr), (i, a) ∈ B.3 → i ∈ own ∧ σ[i]? = some (some (.ref a))
noncomputable section
variable {K : PySem.W.Frag} {B : Bs} {own : List Nat} {G H G' H' : Hp} {σ : St} {ρ : DEnv}
theorem SR.toExt (S : SR K B own G H σ ρ) : Ext B.1 B.2 G H := ⟨S.h0, S.g0, S.gh, S.fr⟩
theorem SR.envR (S : SR K B own G H σ ρ) : EnvR K own G H σ ρ := ⟨S.len, fun i d e => by
  by_cases hi : i ∈ own
  · obtain ⟨a, vs, ds, e1, e2, e3, e4, _⟩ := S.ownd i d hi e
    exact ⟨_, e2, by rw [if_pos hi]; exact .inr ⟨a, vs, ds, e1, rfl, e3, e4⟩⟩
  · obtain ⟨v, e1, e2⟩ := S.env i d hi e
    exact ⟨v, e1, by rw [if_neg hi]; exact e2⟩⟩
theorem SR.ext (S : SR K B own G H σ ρ) (E : Ext G H G' H') : SR K B own G' H' σ ρ := by
  refine ⟨E.gh, S.g0.trans E.gg, S.h0.trans E.hh, fun b o e => ?_, fun i d hi e => ?_, fun i d hi e => ?_, S.inj, S.len, S.pin⟩
  · rcases E.fr b o e with q | q
    · exact S.fr b o q
    · exact .inr (S.h0.free q)
  · obtain ⟨v, e1, e2⟩ := S.env i d hi e
    exact ⟨v, e1, Rep.mono E.gg d e2⟩
  · obtain ⟨a, vs, ds, e1, e2, e3, e4, e5, e6⟩ := S.ownd i d hi e
    refine ⟨a, vs, ds, e1, e2, E.hh _ _ e3, Reps.mono E.gg ds e4, ?_, e6⟩
    cases q : G' a with
    | none => rfl
    | some o =>
      rcases E.fr a o q with z | z
      · rw [e5] at z; cases z
      · rw [e3] at z; cases z
theorem set_get {α : Type} {l : List (Option α)} {i j : Nat} {x y : α} (h : (l.set i (some x))[j]? = some (some y)) : (i = j ∧ y = x ∧ i < l.length) ∨ (i ≠ j ∧ l[j]? = some (some y)) := by
  by_cases e : i = j
  · subst e
    by_cases hl : i < l.length
    · rw [List.getElem?_set_self hl] at h
      cases h; exact .inl ⟨rfl, rfl, hl⟩
    · rw [List.getElem?_eq_none (by simpa using hl)] at h; cases h
  · rw [List.getElem?_set_ne e] at h
    exact .inr ⟨e, h⟩
theorem get_set {α : Type} {l : List (Option α)} {i : Nat} {x : α} (h : i < l.length) : (l.set i (some x))[i]? = some (some x) := by rw [List.getElem?_set_self h]
theorem SR.setS {i : Nat} {d : D} {v : V} (S : SR K B own G H σ ρ) (hi : i ∉ own) (r : Rep K G d v) : SR K B own G H (σ.set i (some v)) (ρ.set i (some d)) := by
  have ne : ∀ j, j ∈ own → i ≠ j := fun j hj e => hi (e ▸ hj)
  refine ⟨S.gh, S.g0, S.h0, S.fr, fun j c hj e => ?_, fun j c hj e => ?_, fun j k a hj hk dj dk ej ek => ?_, by simp [S.len], fun j a h => ⟨(S.pin j a h).1, by rw [List.getElem?_set_ne (ne j (S.pin j a h).1)]; exact (S.pin j a h).2⟩⟩
  · rcases set_get e with ⟨rfl, rfl, hl⟩ | ⟨hne, e⟩
    · exact ⟨v, get_set (by rw [S.len]; exact hl), r⟩
    · obtain ⟨u, e1, e2⟩ := S.env j c hj e
      exact ⟨u, by rw [List.getElem?_set_ne hne]; exact e1, e2⟩
  · rw [List.getElem?_set_ne (ne j hj)] at e
    obtain ⟨a, vs, ds, e1, e2, e3⟩ := S.ownd j c hj e
    exact ⟨a, vs, ds, e1, by rw [List.getElem?_set_ne (ne j hj)]; exact e2, e3⟩
  · rw [List.getElem?_set_ne (ne j hj)] at dj ej
    rw [List.getElem?_set_ne (ne k hk)] at dk ek
    exact S.inj j k a hj hk dj dk ej ek
theorem SR.setO {i : Nat} {ds : List D} {p : Addr} {vs : List V} (S : SR K B own G H σ ρ) (hi : i ∈ own) (E : Ext G H G' H') (hp : H p = none) (gp : G' p = none) (hv : H' p = some (.lst vs)) (r : Reps K G' ds vs) (hpin : ∀ a, (i, a) ∉ B.3) : SR K B own G' H' (σ.set i (some (.ref p))) (ρ.set i (some (.lst ds))) := by
  have S' := S.ext E
  have nop : ∀ j, j ∈ own → (∃ d, ρ[j]? = some (some d)) → σ[j]? = some (some (.ref p)) → False := fun j hj ⟨d, dj⟩ ej => by
    obtain ⟨a, us, es, e1, e2, e3, _⟩ := S.ownd j d hj dj
    rw [ej] at e2; cases e2
    rw [hp] at e3; cases e3
  refine ⟨S'.gh, S'.g0, S'.h0, S'.fr, fun j c hj e => ?_, fun j c hj e => ?_, fun j k a hj hk dj dk ej ek => ?_, by simp [S.len], fun j a h => ⟨(S.pin j a h).1, by
    have hij : i ≠ j := fun z => by subst z; exact hpin a h
    rw [List.getElem?_set_ne hij]; exact (S.pin j a h).2⟩⟩
  · have hne : i ≠ j := fun e => hj (e ▸ hi)
    rw [List.getElem?_set_ne hne] at e
    obtain ⟨u, e1, e2⟩ := S'.env j c hj e
    exact ⟨u, by rw [List.getElem?_set_ne hne]; exact e1, e2⟩
  · rcases set_get e with ⟨rfl, rfl, hl⟩ | ⟨hne, e⟩
    · exact ⟨p, vs, ds, rfl, get_set (by rw [S.len]; exact hl), hv, r, gp, S.h0.free hp⟩
    · obtain ⟨a, us, es, e1, e2, e3⟩ := S'.ownd j c hj e
      exact ⟨a, us, es, e1, by rw [List.getElem?_set_ne hne]; exact e2, e3⟩
  · by_cases h1 : i = j
    · by_cases h2 : i = k
      · exact h1.symm.trans h2
      · subst h1
        rw [List.getElem?_set_ne h2] at dk ek
        obtain ⟨d, dj⟩ := dj
        rcases set_get dj with ⟨_, _, hl⟩ | ⟨z, _⟩
        · rw [get_set (by rw [S.len]; exact hl)] at ej; cases ej
          exact (nop k hk dk ek).elim
        · exact absurd rfl z
    · rw [List.getElem?_set_ne h1] at dj ej
      by_cases h2 : i = k
      · subst h2
        obtain ⟨d, dk⟩ := dk
        rcases set_get dk with ⟨_, _, hl⟩ | ⟨z, _⟩
        · rw [get_set (by rw [S.len]; exact hl)] at ek; cases ek
          exact (nop j hj dj ej).elim
        · exact absurd rfl z
      · rw [List.getElem?_set_ne h2] at dk ek
        exact S.inj j k a hj hk dj dk ej ek
theorem SR.mut {i : Nat} {a : Addr} {ds ds' : List D} {vs' : List V} (S : SR K B own G H σ ρ) (hi : i ∈ own) (hd : ρ[i]? = some (some (.lst ds))) (hs : σ[i]? = some (some (.ref a))) (r : Reps K G ds' vs') : SR K B own G (upd H a (.lst vs')) σ (ρ.set i (some (.lst ds'))) := by
  obtain ⟨a', us, es, e1, e2, e3, e4, e5, e6⟩ := S.ownd i _ hi hd
  rw [hs] at e2; cases e2
  refine ⟨fun b o e => ?_, S.g0, fun b o e => ?_, S.fr, fun j c hj e => ?_, fun j c hj e => ?_, fun j k b hj hk dj dk ej ek => ?_, by simp [S.len], S.pin⟩
  · rw [upd_ne (ne_of_none e e5)]; exact S.gh _ _ e
  · rw [upd_ne (ne_of_none e e6)]; exact S.h0 _ _ e
  · have hne : i ≠ j := fun e => hj (e ▸ hi)
    rw [List.getElem?_set_ne hne] at e
    exact S.env j c hj e
  · rcases set_get e with ⟨rfl, rfl, hl⟩ | ⟨hne, e⟩
    · exact ⟨a, vs', ds', rfl, hs, upd_same, r, e5, e6⟩
    · obtain ⟨b, ws, fs, f1, f2, f3, f4⟩ := S.ownd j c hj e
      refine ⟨b, ws, fs, f1, f2, ?_, f4⟩
      have : b ≠ a := fun z => hne (S.inj i j a hi hj ⟨_, hd⟩ ⟨_, e⟩ hs (z ▸ f2))
      rw [upd_ne this]; exact f3
  · have un : ∀ m : Nat, (∃ d, (ρ.set i (some (D.lst ds')))[m]? = some (some d)) → ∃ d, ρ[m]? = some (some d) := fun m ⟨d, e⟩ => by
      rcases set_get e with ⟨rfl, _, _⟩ | ⟨_, e⟩
      · exact ⟨_, hd⟩
      · exact ⟨_, e⟩
    exact S.inj j k b hj hk (un j dj) (un k dk) ej ek
end
noncomputable def DEnd (K : PySem.W.Frag) (B : Bs) (oL own : List Nat) (D' : Ends) : DO → Prop
  | .nx ρ => ∀ σ G H, SR K B own G H σ ρ → D'.nx σ H
  | .rt d => ∀ v G H, Ext B.1 B.2 G H → Rep K G d v → D'.rt v H
  | .ro ds => ∀ a vs G H, Ext B.1 B.2 G H → B.2 a = none → G a = none → H a = some (.lst vs) → Reps K G ds vs → D'.rt (.ref a) H
  | .bk ρ => ∀ σ G H, SR K B oL G H σ ρ → D'.bk σ H
  | .ct ρ => ∀ σ G H, SR K B oL G H σ ρ → D'.ct σ H
  | .rm d ρ => ∀ v σ G H, (∃ own', SR K B own' G H σ ρ) → Rep K G d v → D'.rt v H
noncomputable def tDS (K : PySem.W.Frag) (B : Bs) (oL own own' : List Nat) (g : DG) : TS := fun D' σ H => ∃ G ρ o, SR K B own G H σ ρ ∧ g ρ = some o ∧ DEnd K B oL own' D' o
noncomputable section
variable {X : Cx} {B : Bs} {oL own own1 own2 : List Nat} {g h : DG} {st : Stmt} {rest : List Stmt} {e : Expr} {pos : Pos}
noncomputable def sNil : DG := fun ρ => some (.nx ρ)
theorem dss_nil : PSs X [] (tDS X.K B oL own own sNil) := pss_nil.imp fun D σ H ⟨G, ρ, o, S, eq, k⟩ => by cases eq; exact k σ G H S
noncomputable def sSeq (g h : DG) : DG := fun ρ => (g ρ).bind fun o => match o with | .nx ρ' => h ρ' | o => some o
theorem seq_of {K : PySem.W.Frag} {D' : Ends} {σ : St} {H : Hp} (q : tDS K B oL own own2 (sSeq g h) D' σ H) : tDS K B oL own own1 g { D' with nx := fun σ H => tDS K B oL own1 own2 h D' σ H } σ H := by
  obtain ⟨G, ρ, o, S, eq, k⟩ := q
  unfold sSeq at eq
  cases eg : g ρ with
  | none => rw [eg] at eq; cases eq
  | some o1 =>
    rw [eg] at eq
    refine ⟨G, ρ, o1, S, eg, ?_⟩
    cases o1 with
    | nx ρ' => exact fun σ' G' H' S' => ⟨G', ρ', o, S', eq, k⟩
    | rt d => cases eq; exact k
    | ro d => cases eq; exact k
    | bk d => cases eq; exact k
    | ct d => cases eq; exact k
    | rm d ρ => cases eq; exact k
theorem dss_cons (h1 : PS X st (tDS X.K B oL own own1 g)) (h2 : PSs X rest (tDS X.K B oL own1 own2 h)) : PSs X (st :: rest) (tDS X.K B oL own own2 (sSeq g h)) := (pss_cons h1 h2).imp fun D σ H q => seq_of q
theorem dss_one (h1 : PS X st (tDS X.K B oL own own1 g)) : PSs X [st] (tDS X.K B oL own own1 g) := pss_one h1
noncomputable def sSet (i : Nat) (f : DF) : DG := fun ρ => (f ρ).map fun d => .nx (ρ.set i (some d))
theorem ds_set {i : Nat} {x : Str} {f : DF} {pos' : Pos} (hN : X.N.Nodup) (hi : X.N[i]? = some x) (hx : Loc X.env.scope x) (he : PE X e (tP X.K own f)) (ho : i ∉ own := by decide)
    (hs : swapsWith e (some (.Name x pos')) pos.line X.env = pure false := by rfl) (hf : X.fn x = true ∨ X.env.scope.names.lookup x = some .local := by first | exact .inl rfl | exact .inr rfl | assumption) :
    PS X (.Assign [.Name x pos'] e pos) (tDS X.K B oL own own (sSet i f)) := (ps_set hN hi hx he hs hf).imp fun D σ H ⟨G, ρ, o, S, eq, k⟩ => by
  unfold sSet at eq
  cases ef : f ρ with
  | none => rw [ef] at eq; cases eq
  | some d =>
    rw [ef] at eq; cases eq
    exact ⟨G, ρ, d, S.gh, S.envR, ef, fun v G' H' E r => k _ G' H' ((S.ext E).setS ho r)⟩
noncomputable def sSetO (i : Nat) (f : DL) : DG := fun ρ => (f ρ).map fun ds => .nx (ρ.set i (some (.lst ds)))
theorem ds_setO {i : Nat} {x : Str} {f : DL} {pos' : Pos} (hN : X.N.Nodup) (hi : X.N[i]? = some x) (hx : Loc X.env.scope x) (he : PE X e (tF X.K own f)) (ho : i ∈ own := by decide) (hpin : ∀ a, (i, a) ∉ B.3 := by intro a; simp_all)
    (hs : swapsWith e (some (.Name x pos')) pos.line X.env = pure false := by rfl) (hf : X.fn x = true ∨ X.env.scope.names.lookup x = some .local := by first | exact .inl rfl | exact .inr rfl | assumption) :
    PS X (.Assign [.Name x pos'] e pos) (tDS X.K B oL own own (sSetO i f)) := (ps_set hN hi hx he hs hf).imp fun D σ H ⟨G, ρ, o, S, eq, k⟩ => by
  unfold sSetO at eq
  cases ef : f ρ with
  | none => rw [ef] at eq; cases eq
  | some ds =>
    rw [ef] at eq; cases eq
    exact ⟨G, ρ, ds, S.gh, S.envR, ef, fun p vs G' H' E hp gp hv r => k _ G' H' (S.setO ho E hp gp hv r hpin)⟩
noncomputable def sRet (f : DF) : DG := fun ρ => (f ρ).map .rt
theorem ds_ret {f : DF} (he : PE X e (tP X.K own f)) : PS X (.Return (some e) pos) (tDS X.K B oL own own1 (sRet f)) := (ps_ret he).imp fun D σ H ⟨G, ρ, o, S, eq, k⟩ => by
  unfold sRet at eq
  cases ef : f ρ with
  | none => rw [ef] at eq; cases eq
  | some d =>
    rw [ef] at eq; cases eq
    exact ⟨G, ρ, d, S.gh, S.envR, ef, fun v G' H' E r => k v G' H' (S.toExt.trans E) r⟩
noncomputable def sRetF (f : DL) : DG := fun ρ => (f ρ).map .ro
theorem ds_retF {f : DL} (he : PE X e (tF X.K own f)) : PS X (.Return (some e) pos) (tDS X.K B oL own own1 (sRetF f)) := (ps_ret he).imp fun D σ H ⟨G, ρ, o, S, eq, k⟩ => by
  unfold sRetF at eq
  cases ef : f ρ with
  | none => rw [ef] at eq; cases eq
  | some d =>
    rw [ef] at eq; cases eq
    exact ⟨G, ρ, d, S.gh, S.envR, ef, fun p vs G' H' E hp gp hv r => k p vs G' H' (S.toExt.trans E) (S.h0.free hp) gp hv r⟩
noncomputable def sRetO (i : Nat) : DG := fun ρ => (eV i ρ).bind fun d => match d with | .lst ds => some (.ro ds) | _ => none
theorem ds_retO {i : Nat} {x : Str} {p : Pos} (h : PE X (.Name x p) (tVar i)) (hi : i ∈ own := by decide) : PS X (.Return (some (.Name x p)) pos) (tDS X.K B oL own own1 (sRetO i)) := (ps_ret h).imp fun D σ H ⟨G, ρ, o, S, eq, k⟩ => by
  unfold sRetO at eq
  cases ef : eV i ρ with
  | none => rw [ef] at eq; cases eq
  | some d =>
    rw [ef] at eq
    obtain ⟨a, vs, ds, rfl, e2, e3, e4, e5, e6⟩ := S.ownd i d hi (eV_some ef)
    cases eq
    exact ⟨_, e2, k a vs G H S.toExt e6 e5 e3 e4⟩
noncomputable def sIf (f : DT) (g h : DG) : DG := fun ρ => (f ρ).bind fun b => if b = true then g ρ else h ρ
theorem ds_if {c : Expr} {a b : List Stmt} {f : DT} (hc : PT X c (tPT X.K own f)) (ha : PSs X a (tDS X.K B oL own own1 g)) (hb : PSs X b (tDS X.K B oL own own1 h)) : PS X (.If c a b pos) (tDS X.K B oL own own1 (sIf f g h)) := (ps_if hc ha hb).imp fun D σ H ⟨G, ρ, o, S, eq, k⟩ => by
  unfold sIf at eq
  cases ef : f ρ with
  | none => rw [ef] at eq; cases eq
  | some c =>
    rw [ef] at eq
    refine ⟨G, ρ, c, S.gh, S.envR, ef, fun G1 H1 E1 => ?_⟩
    cases c with
    | true => exact iteT ⟨G1, ρ, o, S.ext E1, eq, k⟩
    | false => exact iteF ⟨G1, ρ, o, S.ext E1, eq, k⟩
noncomputable def lstAt (i : Nat) (ρ : DEnv) : Option (List D) := (eV i ρ).bind fun d => match d with | .lst ds => some ds | _ => none
theorem lstAt_some {i : Nat} {ρ : DEnv} {ds : List D} (h : lstAt i ρ = some ds) : ρ[i]? = some (some (.lst ds)) := by
  unfold lstAt at h
  cases ef : eV i ρ with
  | none => rw [ef] at h; cases h
  | some d =>
    rw [ef] at h
    have := eV_some ef
    cases d <;> first | (cases h; exact this) | cases h
theorem SR.ownL {K : PySem.W.Frag} {G H : Hp} {σ : St} {ρ : DEnv} {i : Nat} {ds : List D} (S : SR K B own G H σ ρ) (hi : i ∈ own) (h : ρ[i]? = some (some (.lst ds))) : ∃ a vs, σ[i]? = some (some (.ref a)) ∧ H a = some (.lst vs) ∧ Reps K G ds vs ∧ G a = none ∧ B.2 a = none := by
  obtain ⟨a, vs, es, e1, e2, e3⟩ := S.ownd i _ hi h
  cases e1; exact ⟨a, vs, e2, e3⟩
noncomputable def sApp (i : Nat) (f : DF) : DG := fun ρ => (lstAt i ρ).bind fun ds => (f ρ).bind fun d => if ds.length < bigE then some (.nx (ρ.set i (some (.lst (ds ++ [d]))))) else none
theorem ds_app {i : Nat} {x : Str} {p apos cpos : Pos} {f : DF} (h : PE X (.Name x p) (tVar i)) (he : PE X e (tP X.K own f)) (hi : i ∈ own := by decide)
    (hbase : attributeBase (.Name x p) "append" X.env (eval (.Name x p) X.env) = eval (.Name x p) X.env := by rfl)
    (hfew : ((backTo cpos (starEach (e :: []) X.env)).all (fun x => !x.1) && (backToKw cpos (keywordEach [] X.env)).all (fun x => x.1.isSome)
      && decide ((e :: []).length + ([] : List Keyword).length + (if ([] : List Keyword).isEmpty then 0 else 1) < 30)) = true := by rfl)
    (hline : (apos.endLine == cpos.line) = true := by rfl) (hs : starEach (e :: []) X.env = (false, eval e X.env) :: starEach [] X.env := by rfl) (hplain : (backTo cpos (starEach [] X.env)).any (·.1) = false := by rfl)
    (hsw : swapsWith (.Call (.Attribute (.Name x p) "append" apos) [e] [] cpos) none pos.line X.env = pure false := by rfl) :
    PS X (.Expr (.Call (.Attribute (.Name x p) "append" apos) [e] [] cpos) pos) (tDS X.K B oL own own (sApp i f)) :=
  (ps_expr (pe_bm PySem.F.plainAttrs_list PySem.F.slot_list_append PySem.F.type_list_append mt_append h (pa_cons he pa_nil hs) hbase hfew hline hs hplain) hsw).imp fun D σ H ⟨G, ρ, o, S, eq, k⟩ => by
    unfold sApp at eq
    cases el : lstAt i ρ with
    | none => rw [el] at eq; cases eq
    | some ds =>
      rw [el] at eq
      cases ef : f ρ with
      | none => simp [ef] at eq
      | some d =>
        simp only [ef, Option.bind_some] at eq
        split at eq
        · cases eq
          rename_i hz
          have hd := lstAt_some el
          obtain ⟨a, vs, e2, e3, e4, e5, e6⟩ := S.ownL hi hd
          refine ⟨_, e2, .inl ⟨rfl, vs, .of e3⟩, G, ρ, d, S.gh, S.envR, ef, fun v G' H' E r => ?_⟩
          have S' := S.ext E
          obtain ⟨a', vs', f2, f3, f4, _⟩ := S'.ownL hi hd
          rw [e2] at f2; cases f2
          refine ⟨a, vs', v, rfl, rfl, f3, ?_, k _ G' _ (S'.mut hi hd e2 (f4.append (.cons r .nil)))⟩
          rw [← f4.length]; exact Nat.lt_of_lt_of_le hz bigE_le
        · cases eq
noncomputable def sItem (j : Nat) (fi fe : DF) : DG := fun ρ => (fe ρ).bind fun d => (lstAt j ρ).bind fun ds => (fi ρ).bind fun k => match k with | .int k => (ixN ds.length k).map fun n => .nx (ρ.set j (some (.lst (ds.set n d)))) | _ => none
theorem ds_item {j : Nat} {x : Str} {p spos : Pos} {ei : Expr} {fi fe : DF} (h : PE X (.Name x p) (tVar j)) (hei : PE X ei (tQ X.K own fi)) (he : PE X e (tP X.K own fe)) (hj : j ∈ own := by decide)
    (hg : ∀ {to ti : TE}, PE X (.Name x p) to → PE X ei ti → PG X (.Subscript (.Name x p) ei spos) (gSub to ti rSetL) := by intro to ti h1 h2; exact pg_sub h1 h2 set_list)
    (hs : swapsWithSole [.Subscript (.Name x p) ei spos] e pos.line X.env = pure false := by rfl) (hw : swappedStores [.Subscript (.Name x p) ei spos] e X.env = pure none := by rfl) :
    PS X (.Assign [.Subscript (.Name x p) ei spos] e pos) (tDS X.K B oL own own (sItem j fi fe)) :=
  (ps_asg he (hg h hei) hs hw).imp fun D σ H ⟨G, ρ, o, S, eq, k⟩ => by
    unfold sItem at eq
    cases ef : fe ρ with
    | none => rw [ef] at eq; cases eq
    | some d =>
      rw [ef] at eq
      cases el : lstAt j ρ with
      | none => simp [el] at eq
      | some ds =>
        cases ei' : fi ρ with
        | none => simp [el, ei'] at eq
        | some kk =>
          simp only [el, ei', Option.bind_some] at eq
          cases kk <;> simp only at eq <;> try (cases eq; done)
          rename_i kk
          cases en : ixN ds.length kk with
          | none => simp [en] at eq
          | some n =>
            simp only [en, Option.map_some] at eq
            cases eq
            have hd := lstAt_some el
            refine ⟨G, ρ, d, S.gh, S.envR, ef, fun v G' H' E r => ?_⟩
            have S' := S.ext E
            obtain ⟨a, vs, e2, e3, e4, e5, e6⟩ := S'.ownL hj hd
            refine ⟨_, e2, G', ρ, _, S'.gh, S'.envR, ei', fun u G2 H2 E2 r2 => ?_⟩
            have S2 := S'.ext E2
            obtain ⟨a', vs', f2, f3, f4, _⟩ := S2.ownL hj hd
            rw [e2] at f2; cases f2
            exact ⟨a, vs', kk, n, rfl, r2.int, f3, by rw [← f4.length]; exact en, k _ G2 _ (S2.mut hj hd e2 (f4.set n (Rep.mono E2.gg d r)))⟩
end
end L2
end
noncomputable section
set_option maxRecDepth 100000
set_option maxHeartbeats 4000000
namespace L2
open PySem PySem.Spec PyProof.Rows
noncomputable section
variable {X : Cx} {own : List Nat} {a b e : Expr} {fa fb f : DF} {pos : Pos}
theorem IxR.imp {r r' : R2} (h : IxR X r) (k : ∀ x y H Q, r' x y H Q → r x y H Q) : IxR X r' := fun value slice pins s σ H x y v u Q I rx ry q hs => h value slice pins s σ H x y v u Q I rx ry (k _ _ _ _ q) hs
theorem PO.imp {e : Option Expr} {t t' : TO} (h : PO X e t) (k : ∀ σ H Q, t' σ H Q → t σ H Q) : PO X e t' := fun pins s σ H Q I q => h pins s σ H Q I (k _ _ _ q)
theorem CallR.imp {c : Value} {r r' : List V → Hp → VK → Prop} (h : CallR X c r) (k : ∀ xs H Q, r' xs H Q → r xs H Q) : CallR X c r' := fun pins s σ H xs us Q I rv q => h pins s σ H xs us Q I rv (k _ _ _ q)
theorem Reps.atI {K : PySem.W.Frag} {G : Hp} {ds : List D} {vs : List V} {i : Int} {d : D} (r : Reps K G ds vs) (h : atI ds i = some d) : ∃ v, L2.atI vs i = some v ∧ Rep K G d v := by
  unfold L2.atI at h ⊢
  rw [← r.length]
  cases e : ixN ds.length i with
  | none => rw [e] at h; cases h
  | some j => rw [e] at h; exact r.get h
theorem atI_map {α β : Type} (g : α → β) (xs : List α) (i : Int) : atI (xs.map g) i = (atI xs i).map g := by
  unfold atI
  rw [List.length_map]
  cases ixN xs.length i with
  | none => rfl
  | some j => simp [List.getElem?_map]
noncomputable def oIx : D → D → Option D
  | .lst xs, .int i => atI xs i
  | .tup xs, .int i => atI xs i
  | .scr ns, .int i => (atI ns i).map .int
  | .str x, .int i => if x.length ≤ bigE then (atI x.cps.toList i).map fun c => .str ⟨#[c]⟩ else none
  | _, _ => none
theorem xd_seq : IxR X (rD X.K oIx) := by
  refine IxR.imp ix_seq fun x y H Q ⟨G, d1, d2, d, gh, h1, h2, eq, q⟩ => ?_
  cases d1 <;> cases d2 <;> simp only [oIx] at eq <;> try (cases eq; done)
  · split at eq
    · rename_i z i hz
      cases ei : atI z.cps.toList i with
      | none => rw [ei] at eq; cases eq
      | some c =>
        rw [ei] at eq; cases eq
        exact .inr (.inr ⟨z, i, c, h1.str, h2.int, Nat.le_trans hz bigE_le, ei, q _ G H (.refl gh) (rep_str.mpr rfl)⟩)
    · cases eq
  · obtain ⟨p, vs, ea, qa, ra⟩ := h1.lst gh
    obtain ⟨v, ev, rv⟩ := ra.atI eq
    exact .inl ⟨p, vs, _, v, ea, h2.int, .of qa, ev, q _ G H (.refl gh) rv⟩
  · obtain ⟨p, vs, ea, qa, ra⟩ := h1.tup gh
    obtain ⟨v, ev, rv⟩ := ra.atI eq
    exact .inr (.inl ⟨p, vs, _, v, ea, h2.int, .of qa, ev, q _ G H (.refl gh) rv⟩)
  · rename_i ns i
    obtain ⟨p, ea, qa⟩ := h1.scr gh
    cases ei : atI ns i with
    | none => rw [ei] at eq; cases eq
    | some c =>
      rw [ei] at eq; cases eq
      exact .inl ⟨p, _, _, .int c, ea, h2.int, qa, by rw [atI_map, ei]; rfl, q _ G H (.refl gh) (rep_int.mpr rfl)⟩
theorem de_ix (ha : PE X a (tQ X.K own fa)) (hb : PE X b (tQ X.K own fb)) (hs : PlainIx b := by exact fun _ _ => rfl) : PE X (.Subscript a b pos) (tP X.K own (e2 oIx fa fb)) := (pe_ix xd_seq ha hb hs).imp fun σ H Q h => rd_of h
noncomputable abbrev DP := DEnv → Option (Option Int)
noncomputable def pN : DP := fun _ => some none
noncomputable def pS (f : DF) : DP := fun ρ => (f ρ).bind fun d => match d with | .int i => some (some i) | _ => none
theorem pS_some {f : DF} {ρ : DEnv} {o : Option Int} (h : pS f ρ = some o) : ∃ i, f ρ = some (.int i) ∧ o = some i := by
  unfold pS at h
  cases e : f ρ with
  | none => rw [e] at h; cases h
  | some d =>
    rw [e] at h
    cases d <;> first | (cases h; exact ⟨_, rfl, rfl⟩) | cases h
noncomputable def tPO (K : PySem.W.Frag) (own : List Nat) (f : DP) : TO := fun σ H Q => ∃ G ρ o, Same G H ∧ EnvR K own G H σ ρ ∧ f ρ = some o ∧ ∀ G' H', Ext G H G' H' → Q o H'
theorem dpo_none : PO X none (tPO X.K own pN) := po_none.imp fun σ H Q ⟨G, ρ, o, gh, env, eq, k⟩ => by cases eq; exact k G H (.refl gh)
theorem dpo_some (h : PE X e (tQ X.K own f)) : PO X (some e) (tPO X.K own (pS f)) := (po_some h).imp fun σ H Q ⟨G, ρ, o, gh, env, eq, k⟩ => by
  obtain ⟨i, ei, rfl⟩ := pS_some eq
  exact ⟨G, ρ, _, gh, env, ei, fun v G1 H1 E1 r1 => ⟨i, r1.int, k G1 H1 E1⟩⟩
noncomputable def cut {α : Type} (xs : List α) (lo hi : Option Int) : List α := (xs.drop (HT.sIx xs.length 0 lo)).take (HT.sIx xs.length xs.length hi - HT.sIx xs.length 0 lo)
theorem Reps.cut {K : PySem.W.Frag} {G : Hp} {ds : List D} {vs : List V} (r : Reps K G ds vs) (lo hi : Option Int) : Reps K G (cut ds lo hi) (cutV vs lo hi) := by
  unfold L2.cut cutV
  rw [← r.length]
  exact (r.drop _).take _
noncomputable def fSl (f : DF) (lo hi : DP) : DL := fun ρ => (f ρ).bind fun d => (lo ρ).bind fun l => (hi ρ).bind fun h => match d with | .lst xs => some (cut xs l h) | .scr ns => some ((cut ns l h).map D.int) | _ => none
variable {lo hi : Option Expr} {l h : DP} {p2 : Pos}
theorem de_slL (he : PE X e (tQ X.K own f)) (hl : PO X lo (tPO X.K own l)) (hu : PO X hi (tPO X.K own h)) : PE X (.Subscript e (.Slice lo hi none p2) pos) (tF X.K own (fSl f l h)) := (pe_slice sl_list he hl hu).imp fun σ H Q ⟨G, ρ, ds, gh, env, eq, k⟩ => by
  unfold fSl at eq
  cases ef : f ρ with
  | none => rw [ef] at eq; cases eq
  | some d =>
    cases el : l ρ with
    | none => simp [ef, el] at eq
    | some lv =>
      cases eh : h ρ with
      | none => simp [ef, el, eh] at eq
      | some hv =>
        simp only [ef, el, eh, Option.bind_some] at eq
        refine ⟨G, ρ, d, gh, env, ef, fun v G1 H1 E1 r1 => ⟨G1, ρ, lv, E1.gh, env.ext E1, el, fun G2 H2 E2 => ⟨G2, ρ, hv, E2.gh, (env.ext E1).ext E2, eh, fun G3 H3 E3 => ?_⟩⟩⟩
        have E := (E1.trans E2).trans E3
        have r3 := r1.ext (E2.trans E3)
        cases d <;> simp only at eq <;> try (cases eq; done)
        · cases eq
          obtain ⟨p, vs, ea, qa, ra⟩ := r3.lst E3.gh
          exact ⟨p, vs, ea, .of qa, fun q hq => k q _ G3 _ (E.trans (Ext.lay (p := q) E3.gh hq)) (E.hh.free hq) (E3.gh.free hq) upd_same (ra.cut _ _)⟩
        · cases eq
          rename_i ns
          obtain ⟨p, ea, qa⟩ := r3.scr E3.gh
          refine ⟨p, _, ea, qa, fun q hq => k q _ G3 _ (E.trans (Ext.lay (p := q) E3.gh hq)) (E.hh.free hq) (E3.gh.free hq) upd_same ?_⟩
          have : cutV (ns.map V.int) lv hv = (cut ns lv hv).map V.int := by
            unfold cutV cut
            rw [List.length_map, ← List.map_drop, ← List.map_take]
          rw [this]
          exact Reps.ints _
theorem sl_str : SlR X (fun x lo hi H Q => ∃ z, x = .str z ∧ z.length ≤ sizeLine ∧ Q (.str (Txt.slice z lo hi)) H) := by
  intro pins s σ H x v vl vu lo hi sl Q I rx hs pl pu ⟨z, ez, hz, q⟩
  subst ez
  obtain ⟨t, rfl⟩ := rx
  refine ⟨"str", _, F.slot_str_getitem.lookup, typeIs_str _ _ _, ?_⟩
  have fin : ∀ (l u : Option (Int × Tok)), vl = partValue l → vu = partValue u → l.map (·.1) = lo → u.map (·.1) = hi → wpAny (model X.prog X.w) X.A (getItem (.str z t) (.ref sl)) (EP X pins σ Q) X.xe s := fun l u e1 e2 e3 e4 => by
    subst e1 e2 e3 e4
    exact wpAny_getItem_str_slice (l := l) (u := u) (st := none) hs rfl (post_val_or_str ⟨Nat.le_trans (Txt.slice_le z _ _) hz, fun t' k => ⟨.str _, H, I.tok _, ⟨_, rfl⟩, q⟩⟩)
  cases pl with
  | none =>
    cases pu with
    | none => exact fin none none rfl rfl rfl rfl
    | int j u => exact fin none (some (j, u)) rfl rfl rfl rfl
  | int i t1 =>
    cases pu with
    | none => exact fin (some (i, t1)) none rfl rfl rfl rfl
    | int j u => exact fin (some (i, t1)) (some (j, u)) rfl rfl rfl rfl
noncomputable def eSlS (f : DF) (lo hi : DP) : DF := fun ρ => (f ρ).bind fun d => (lo ρ).bind fun l => (hi ρ).bind fun h => match d with | .str x => if x.length ≤ bigE then some (.str (Txt.slice x l h)) else none | _ => none
theorem de_slS (he : PE X e (tQ X.K own f)) (hl : PO X lo (tPO X.K own l)) (hu : PO X hi (tPO X.K own h)) : PE X (.Subscript e (.Slice lo hi none p2) pos) (tP X.K own (eSlS f l h)) := (pe_slice sl_str he hl hu).imp fun σ H Q ⟨G, ρ, ds, gh, env, eq, k⟩ => by
  unfold eSlS at eq
  cases ef : f ρ with
  | none => rw [ef] at eq; cases eq
  | some d =>
    cases el : l ρ with
    | none => simp [ef, el] at eq
    | some lv =>
      cases eh : h ρ with
      | none => simp [ef, el, eh] at eq
      | some hv =>
        simp only [ef, el, eh, Option.bind_some] at eq
        refine ⟨G, ρ, d, gh, env, ef, fun v G1 H1 E1 r1 => ⟨G1, ρ, lv, E1.gh, env.ext E1, el, fun G2 H2 E2 => ⟨G2, ρ, hv, E2.gh, (env.ext E1).ext E2, eh, fun G3 H3 E3 => ?_⟩⟩⟩
        have E := (E1.trans E2).trans E3
        cases d <;> simp only at eq <;> try (cases eq; done)
        split at eq
        · cases eq
          rename_i hz
          exact ⟨_, r1.str, Nat.le_trans hz bigE_le, k _ G3 H3 E (rep_str.mpr rfl)⟩
        · cases eq
noncomputable def eCall (o : List D → Option D) (g : DL) : DF := fun ρ => (g ρ).bind o
theorem eCall_some {o : List D → Option D} {g : DL} {ρ : DEnv} {d : D} (h : eCall o g ρ = some d) : ∃ xs, g ρ = some xs ∧ o xs = some d := by
  unfold eCall at h
  cases ea : g ρ with
  | none => rw [ea] at h; cases h
  | some x => rw [ea] at h; exact ⟨x, rfl, h⟩
noncomputable def rC (K : PySem.W.Frag) (o : List D → Option D) : List V → Hp → VK → Prop := fun xs H Q => ∃ G ds d, Same G H ∧ RepsO K G H ds xs ∧ o ds = some d ∧ ∀ v G' H', Ext G H G' H' → Rep K G' d v → Q v H'
theorem rc_of {K : PySem.W.Frag} {o : List D → Option D} {g : DL} {σ : St} {H : Hp} {Q : VK} (h : tP K own (eCall o g) σ H Q) : tCB (rC K o) (tQA K own g) σ H Q := by
  obtain ⟨G, ρ, d, gh, env, eq, k⟩ := h
  obtain ⟨xs, ex, eo⟩ := eCall_some eq
  exact ⟨G, ρ, xs, gh, env, ex, fun vs G1 H1 E1 r1 => ⟨G1, xs, d, E1.gh, r1, eo, fun v G2 H2 E2 r2 => k v G2 H2 (E1.trans E2) r2⟩⟩
theorem RepsO.one {K : PySem.W.Frag} {G H : Hp} {d : D} {vs : List V} (r : RepsO K G H [d] vs) : ∃ v, vs = [v] ∧ RepO K G H d v := by
  cases r with
  | cons r t => cases t; exact ⟨_, rfl, r⟩
noncomputable def oLen : List D → Option D
  | [.lst xs] => some (.int xs.length)
  | [.tup xs] => some (.int xs.length)
  | [.scr xs] => some (.int xs.length)
  | [.str x] => if x.length ≤ bigE then some (.int x.length) else none
  | _ => none
theorem cd_len : CallR X (.builtin "len") (rC X.K oLen) := by
  refine CallR.imp (call_len_seq.or call_len_str) fun vs H Q ⟨G, ds, d, gh, r, eq, q⟩ => ?_
  unfold oLen at eq
  split at eq
  · cases eq
    obtain ⟨v, rfl, r1⟩ := r.one
    obtain ⟨p, us, rfl, qa, ra⟩ := r1.lst gh
    refine .inl ⟨p, us, rfl, .inl (.of qa), ?_⟩
    rw [← ra.length]; exact q _ G H (.refl gh) (rep_int.mpr rfl)
  · cases eq
    obtain ⟨v, rfl, r1⟩ := r.one
    obtain ⟨p, us, rfl, qa, ra⟩ := r1.tup gh
    refine .inl ⟨p, us, rfl, .inr (.of qa), ?_⟩
    rw [← ra.length]; exact q _ G H (.refl gh) (rep_int.mpr rfl)
  · cases eq
    obtain ⟨v, rfl, r1⟩ := r.one
    obtain ⟨p, rfl, qa⟩ := r1.scr gh
    refine .inl ⟨p, _, rfl, .inl qa, ?_⟩
    rw [List.length_map]; exact q _ G H (.refl gh) (rep_int.mpr rfl)
  · split at eq
    · cases eq
      rename_i hz
      obtain ⟨v, rfl, r1⟩ := r.one
      exact .inr ⟨_, by rw [r1.str], Nat.le_trans hz bigE_le, q _ G H (.refl gh) (rep_int.mpr rfl)⟩
    · cases eq
  · cases eq
variable {p : Pos} {x : Str} {es : List Expr} {g : DL}
theorem de_callB {id : String} {o : List D → Option D} (hc : CallR X (.builtin id) (rC X.K o)) (hg : Gl X x) (hm : X.mg x = none) (hv : bootBuiltins x = some (.builtin id)) (ha : PA X (e :: es) (tQA X.K own g)) (hn : x ≠ "__name__" := by decide) (hdb : (x == ("__debug__" : Str)) = false := by decide)
    (he : starEach (e :: es) X.env = (false, eval e X.env) :: starEach es X.env := by rfl) (hpl : (backTo pos (starEach es X.env)).any (·.1) = false := by rfl) : PE X (.Call (.Name x p) (e :: es) [] pos) (tP X.K own (eCall o g)) :=
  (pe_callB hc hg hm hv ha hn hdb he hpl).imp fun σ H Q h => rc_of h
theorem de_len (hg : Gl X "len") (hm : X.mg "len" = none) (h : PE X e (tQ X.K own f)) (hs : starEach (e :: []) X.env = (false, eval e X.env) :: starEach [] X.env := by rfl) : PE X (.Call (.Name "len" p) [e] [] pos) (tP X.K own (eCall oLen (aC f aN))) :=
  de_callB cd_len hg hm PySem.boot_len (dqa_cons h dqa_nil hs) (by decide) (by decide) hs rfl
noncomputable def isT (T : String) : D → Bool
  | .non => T == "NoneType"
  | .bl _ => T == "bool" || T == "int"
  | .int _ => T == "int"
  | .str _ => T == "str"
  | .lst _ => T == "list"
  | .scr _ => T == "list"
  | .tup _ => T == "tuple"
  | .ins _ _ _ => false
noncomputable def kinds : List String := ["bool", "int", "str", "list", "tuple"]
noncomputable def eIs (T : String) (f : DF) : DF := fun ρ => (f ρ).bind fun d => match d with | .scr _ => none | .ins _ _ _ => none | d => some (.bl (isT T d))
theorem kit_all : ∀ T ∈ kinds, ∀ (K : PySem.W.Frag), PySem.W.kitOne K (.type "NoneType") (.type T) = some (isT T .non) ∧ PySem.W.kitOne K (.type "bool") (.type T) = some (isT T (.bl true)) ∧ PySem.W.kitOne K (.type "int") (.type T) = some (isT T (.int 0)) ∧
    PySem.W.kitOne K (.type "str") (.type T) = some (isT T (.str Str.empty)) ∧ PySem.W.kitOne K (.type "list") (.type T) = some (isT T (.lst [])) ∧ PySem.W.kitOne K (.type "tuple") (.type T) = some (isT T (.tup [])) := by
  intro T hT K
  simp only [kinds, List.mem_cons, List.not_mem_nil, or_false] at hT
  rcases hT with rfl | rfl | rfl | rfl | rfl <;> exact ⟨by kernel_rfl, by kernel_rfl, by kernel_rfl, by kernel_rfl, by kernel_rfl, by kernel_rfl⟩
theorem cd_isinst (T : String) (hT : T ∈ kinds) : CallR X (.builtin "isinstance") (fun xs H Q => ∃ G d v, Same G H ∧ xs = [v, .ty T] ∧ RepO X.K G H d v ∧ (∀ ns, d ≠ .scr ns) ∧ (∀ c ks zs, d ≠ .ins c ks zs) ∧ Q (.bl (isT T d)) H) := by
  intro pins s σ H xs us Q I rv ⟨G, d, v, gh, e, r, hn, hni, q⟩
  subst e
  obtain ⟨u, c, rfl, ru, rc⟩ := Vals.two rv
  cases rc
  obtain ⟨k1, k2, k3, k4, k5, k6⟩ := kit_all T hT X.K
  have fin : ∀ tk, EP X pins σ Q (.bool (isT T d)) { s with toks := tk } := fun tk => ⟨.bl _, H, I.tok _, rfl, q⟩
  cases d with
  | non => have := r.non; subst this; exact isinst_ok I ru (.non) k1 fin
  | bl b => have := r.bl; subst this; exact isinst_ok I ru (.bl b) k2 fin
  | int i => have := r.int; subst this; exact isinst_ok I ru (.int i) k3 fin
  | str i => have := r.str; subst this; exact isinst_ok I ru (.str i) k4 fin
  | lst ds => obtain ⟨a, vs, rfl, qa, _⟩ := r.lst gh; exact isinst_ok I ru (.lst qa) k5 fin
  | tup ds => obtain ⟨a, vs, rfl, qa, _⟩ := r.tup gh; exact isinst_ok I ru (.tup qa) k6 fin
  | scr ns => exact absurd rfl (hn ns)
  | ins c ks zs => exact absurd rfl (hni c ks zs)
theorem de_isinst {T : String} {y : Str} {p' : Pos} (hT : T ∈ kinds) (hg : Gl X "isinstance") (hm : X.mg "isinstance" = none) (hgT : Gl X y) (hmT : X.mg y = none) (hvT : bootBuiltins y = some (.type T)) (h : PE X e (tQ X.K own f)) (hnT : y ≠ "__name__" := by decide) (hdT : (y == ("__debug__" : Str)) = false := by decide)
    (hs : starEach (e :: [.Name y p']) X.env = (false, eval e X.env) :: starEach [.Name y p'] X.env := by rfl) (hs2 : starEach [.Name y p'] X.env = (false, eval (.Name y p') X.env) :: starEach [] X.env := by rfl) (hpl : (backTo pos (starEach [.Name y p'] X.env)).any (·.1) = false := by rfl) :
    PE X (.Call (.Name "isinstance" p) [e, .Name y p'] [] pos) (tP X.K own (eIs T f)) :=
  (pe_callB (cd_isinst T hT) hg hm PyProof.Rows.boot_isinstance (pa_cons h (pa_cons (pe_bltn (v := .ty T) hgT hmT hvT rfl hnT hdT) pa_nil hs2) hs) (by decide) (by decide) hs hpl).imp fun σ H Q ⟨G, ρ, d, gh, env, eq, k⟩ => by
    unfold eIs at eq
    cases ef : f ρ with
    | none => rw [ef] at eq; cases eq
    | some c =>
      rw [ef] at eq
      have hn : ∀ ns, c ≠ .scr ns := fun ns z => by subst z; cases eq
      have hni : ∀ c1 ks zs, c ≠ .ins c1 ks zs := fun c1 ks zs z => by subst z; cases eq
      have ed : d = .bl (isT T c) := by cases c <;> first | (cases eq; rfl) | cases eq
      subst ed
      exact ⟨G, ρ, c, gh, env, ef, fun v G1 H1 E1 r1 => ⟨G1, c, v, E1.gh, rfl, r1, hn, hni, k _ G1 H1 E1 (rep_bl.mpr rfl)⟩⟩
noncomputable def oIsN : D → D → Option D
  | .non, .non => some (.bl true)
  | _, .non => some (.bl false)
  | _, _ => none
theorem od_isN : OpD X (compareOp .Is) oIsN := OpR.imp op_isN fun x y H Q ⟨G, d1, d2, d, gh, h1, h2, eq, q⟩ => by
  cases d2 <;> simp only [oIsN] at eq <;> try (cases d1 <;> cases eq; done)
  refine ⟨h2.non, ?_⟩
  cases d1 with
  | non => cases eq; rw [h1.non]; exact q _ G H (.refl gh) (rep_bl.mpr rfl)
  | bl b => cases eq; rw [h1.bl]; exact q _ G H (.refl gh) (rep_bl.mpr (by simp))
  | int b => cases eq; rw [h1.int]; exact q _ G H (.refl gh) (rep_bl.mpr (by simp))
  | str b => cases eq; rw [h1.str]; exact q _ G H (.refl gh) (rep_bl.mpr (by simp))
  | lst b => cases eq; obtain ⟨a, vs, rfl, _⟩ := h1.lst gh; exact q _ G H (.refl gh) (rep_bl.mpr (by simp))
  | tup b => cases eq; obtain ⟨a, vs, rfl, _⟩ := h1.tup gh; exact q _ G H (.refl gh) (rep_bl.mpr (by simp))
  | scr b => cases eq; obtain ⟨a, rfl, _⟩ := h1.scr gh; exact q _ G H (.refl gh) (rep_bl.mpr (by simp))
  | ins c ks zs => cases eq; obtain ⟨a, rfl⟩ := h1.ins; exact q _ G H (.refl gh) (rep_bl.mpr (by simp))
theorem Reps.empty {K : PySem.W.Frag} {G : Hp} {ds : List D} {vs : List V} (r : Reps K G ds vs) : ds.isEmpty = vs.isEmpty := by
  have := r.length
  cases ds <;> cases vs <;> simp at this ⊢
end
end L2
end
noncomputable section
set_option maxRecDepth 100000
set_option maxHeartbeats 4000000
namespace L2
open PySem PySem.Spec PyProof.Rows
structure ItOk (K : PySem.W.Frag) (G0 : Hp) (J : It) (ds : List D) : Prop where
  go : ∀ i H, Same G0 H → i < ds.length → J.go i H
  stop : ∀ i H, Same G0 H → ds.length ≤ i → J.stop i H
  yld : ∀ (i : Nat) (H : Hp) (x : V) (H' G : Hp) (d : D), Same G0 G → Same G H → J.yld i H x H' → ds[i]? = some d → ∃ G', Ext G H G' H' ∧ Rep K G' d x
noncomputable def tPI (K : PySem.W.Frag) (own : List Nat) (f : DL) : TI := fun σ H R => ∃ G ρ ds, Same G H ∧ EnvR K own G H σ ρ ∧ f ρ = some ds ∧ ∀ J G' H', Ext G H G' H' → ItOk K G' J ds → R J H'
noncomputable section
variable {X : Cx} {own : List Nat} {tg e : Expr} {f : DF}
theorem PI.imp {iter : Expr} {t t' : TI} (h : PI X tg iter t) (k : ∀ σ H R, t' σ H R → t σ H R) : PI X tg iter t' := fun pins s σ H R I q => h pins s σ H R I (k _ _ _ q)
noncomputable def iL (f : DF) : DL := fun ρ => (f ρ).bind fun d => match d with | .lst xs => some xs | _ => none
theorem iL_some {f : DF} {ρ : DEnv} {ds : List D} (h : iL f ρ = some ds) : f ρ = some (.lst ds) := by
  unfold iL at h
  cases e : f ρ with
  | none => rw [e] at h; cases h
  | some d => rw [e] at h; cases d <;> first | (cases h; rfl) | cases h
theorem itok_list {K : PySem.W.Frag} {G : Hp} {a : Addr} {vs : List V} {ds : List D} (ha : G a = some (.lst vs)) (r : Reps K G ds vs) : ItOk K G (Itl K a) ds := by
  refine ⟨fun i H s hi => ?_, fun i H s hi => ⟨vs, .of (s _ _ ha), by rw [← r.length]; exact hi⟩, fun i H x H' G1 d s1 s2 ⟨e, y⟩ hd => ?_⟩
  · have hi' : i < vs.length := by rw [← r.length]; exact hi
    exact ⟨vs, vs[i], .of (s _ _ ha), by simp [hi']⟩
  · subst e
    have hx := y vs (.of (s2 _ _ (s1 _ _ ha)))
    obtain ⟨v, ev, rv⟩ := r.get hd
    rw [hx] at ev; cases ev
    exact ⟨G1, .refl s2, Rep.mono s1 d rv⟩
theorem di_list (h : PE X e (tP X.K own f)) : PI X tg e (tPI X.K own (iL f)) := (pi_list h).imp fun σ H R ⟨G, ρ, ds, gh, env, eq, k⟩ => by
  refine ⟨G, ρ, _, gh, env, iL_some eq, fun v G1 H1 E1 r1 => ?_⟩
  obtain ⟨a, vs, rfl, ga, ra⟩ := rep_lst.mp r1
  exact ⟨a, rfl, ⟨vs, .of (E1.gh _ _ ga)⟩, k _ G1 H1 E1 (itok_list ga ra)⟩
noncomputable def rngD (lo : Int) (n : Nat) : List D := (List.range n).map fun (k : Nat) => .int (lo + (k : Int))
theorem itok_range {K : PySem.W.Frag} {G : Hp} (lo : Int) (n : Nat) : ItOk K G (Itr lo n) (rngD lo n) := by
  have hl : (rngD lo n).length = n := by simp [rngD]
  refine ⟨fun i H s hi => by rw [hl] at hi; exact hi, fun i H s hi => by rw [hl] at hi; exact hi, fun i H x H' G1 d s1 s2 ⟨e, y⟩ hd => ?_⟩
  subst e
  refine ⟨G1, .refl s2, ?_⟩
  unfold rngD at hd
  rw [List.getElem?_map] at hd
  cases q : (List.range n)[i]? with
  | none => rw [q] at hd; cases hd
  | some j =>
    rw [q] at hd; cases hd
    have : j = i := by
      obtain ⟨h1, h2⟩ := List.getElem?_eq_some_iff.mp q
      simpa using h2.symm
    subst this
    exact rep_int.mpr y
noncomputable def iR1 (f : DF) : DL := fun ρ => (f ρ).bind fun d => match d with | .int j => if -(2 ^ 62) ≤ j ∧ j < 2 ^ 62 then some (rngD 0 j.toNat) else none | _ => none
theorem di_range1 {p pos : Pos} (hg : Gl X "range") (hm : X.mg "range" = none) (h : PE X e (tQ X.K own f)) (hs : starEach [e] X.env = (false, eval e X.env) :: starEach [] X.env := by rfl) (hs2 : starEach [e] X.env = [(false, eval e X.env)] := by rfl) : PI X tg (.Call (.Name "range" p) [e] [] pos) (tPI X.K own (iR1 f)) :=
  (pi_range1 hg hm (pa_cons h pa_nil hs) hs2).imp fun σ H R ⟨G, ρ, ds, gh, env, eq, k⟩ => by
    unfold iR1 at eq
    cases ef : f ρ with
    | none => rw [ef] at eq; cases eq
    | some d =>
      rw [ef] at eq
      cases d <;> simp only [Option.bind_some] at eq <;> try (cases eq; done)
      split at eq
      · cases eq
        rename_i j hj
        exact ⟨G, ρ, _, gh, env, ef, fun v G1 H1 E1 r1 => ⟨j, by rw [r1.int], hj.1, hj.2, k _ G1 H1 E1 (itok_range 0 j.toNat)⟩⟩
      · cases eq
noncomputable def iR2 (f g : DF) : DL := fun ρ => (f ρ).bind fun d => (g ρ).bind fun c => match d, c with | .int i, .int j => if -(2 ^ 62) ≤ i ∧ i < 2 ^ 62 ∧ -(2 ^ 62) ≤ j ∧ j < 2 ^ 62 then some (rngD i (j - i).toNat) else none | _, _ => none
end
noncomputable abbrev DTg := D → DEnv → Option DEnv
noncomputable def tTG (K : PySem.W.Frag) (B : Bs) (own : List Nat) (τ : DTg) : TG := fun v σ H Q => ∃ G ρ d ρ', SR K B own G H σ ρ ∧ Rep K G d v ∧ τ d ρ = some ρ' ∧ ∀ σ' G' H', SR K B own G' H' σ' ρ' → Q σ' H'
noncomputable def tTE (K : PySem.W.Frag) (own : List Nat) (τ : DTg) : TG := fun v σ H Q => ∃ G ρ d ρ', Same G H ∧ EnvR K own G H σ ρ ∧ Rep K G d v ∧ τ d ρ = some ρ' ∧ ∀ σ' G' H', Ext G H G' H' → EnvR K own G' H' σ' ρ' → Q σ' H'
noncomputable section
variable {X : Cx} {B : Bs} {own : List Nat}
theorem PG.imp {tg : Expr} {t t' : TG} (h : PG X tg t) (k : ∀ v σ H Q, t' v σ H Q → t v σ H Q) : PG X tg t' := fun pins s σ H v u Q I r q => h pins s σ H v u Q I r (k _ _ _ _ q)
noncomputable def gN (i : Nat) : DTg := fun d ρ => some (ρ.set i (some d))
theorem dg_name {i : Nat} {tg : Expr} (h : PG X tg (gName i)) (hi : i ∉ own := by decide) : PG X tg (tTG X.K B own (gN i)) := h.imp fun v σ H Q ⟨G, ρ, d, ρ', S, r, eq, k⟩ => by
  cases eq; exact k _ G H (S.setS hi r)
theorem EnvR.set {K : PySem.W.Frag} {G H : Hp} {σ : St} {ρ : DEnv} {i : Nat} {d : D} {v : V} (h : EnvR K own G H σ ρ) (hi : i ∉ own) (r : Rep K G d v) : EnvR K own G H (σ.set i (some v)) (ρ.set i (some d)) :=
  ⟨by simp [h.len], fun j c e => by
    rcases set_get e with ⟨rfl, rfl, hl⟩ | ⟨hne, e⟩
    · exact ⟨v, get_set (by rw [h.len]; exact hl), by rw [if_neg hi]; exact r⟩
    · obtain ⟨u, e1, e2⟩ := h.get j c e
      exact ⟨u, by rw [List.getElem?_set_ne hne]; exact e1, e2⟩⟩
noncomputable def gN2 (i j : Nat) : DTg := fun d ρ => match d with | .tup [a, b] => some ((ρ.set i (some a)).set j (some b)) | _ => none
theorem gN2_some {i j : Nat} {d : D} {ρ ρ' : DEnv} (h : gN2 i j d ρ = some ρ') : ∃ a b, d = .tup [a, b] ∧ ρ' = (ρ.set i (some a)).set j (some b) := by
  unfold gN2 at h
  split at h
  · cases h; exact ⟨_, _, rfl, rfl⟩
  · cases h
theorem rep_two {K : PySem.W.Frag} {G : Hp} {a b : D} {v : V} (r : Rep K G (.tup [a, b]) v) : ∃ p x y, v = .ref p ∧ G p = some (.tup [x, y]) ∧ Rep K G a x ∧ Rep K G b y := by
  obtain ⟨p, vs, e, g, rs⟩ := rep_tup.mp r
  obtain ⟨x, r1, rfl, rx, t⟩ := reps_cons.mp rs
  obtain ⟨y, r2, rfl, ry, t⟩ := reps_cons.mp t
  rw [reps_nil.mp t] at g
  exact ⟨p, x, y, e, g, rx, ry⟩
theorem dg_two {i j : Nat} {tg : Expr} (h : PG X tg (gTup X.K 2 (gCons (gName i) (gCons (gName j) gNil)))) (hi : i ∉ own := by decide) (hj : j ∉ own := by decide) : PG X tg (tTG X.K B own (gN2 i j)) := h.imp fun v σ H Q ⟨G, ρ, d, ρ', S, r, eq, k⟩ => by
  obtain ⟨a, b, rfl, rfl⟩ := gN2_some eq
  obtain ⟨p, x, y, rfl, g, rx, ry⟩ := rep_two r
  exact ⟨p, _, rfl, .of (S.gh _ _ g), rfl, x, _, rfl, y, _, rfl, rfl, k _ G H ((S.setS hi rx).setS hj ry)⟩
end
noncomputable def forD (τ : DTg) (g : DG) : List D → DEnv → Option DO
  | [], ρ => some (.nx ρ)
  | d :: ds, ρ => (τ d ρ).bind fun ρ1 => (g ρ1).bind fun o => match o with
    | .nx ρ2 => forD τ g ds ρ2
    | .ct ρ2 => forD τ g ds ρ2
    | .bk ρ2 => some (.nx ρ2)
    | .rt d => some (.rt d)
    | .ro d => some (.ro d)
    | .rm d ρ => some (.rm d ρ)
noncomputable def sFor (f : DL) (τ : DTg) (g : DG) : DG := fun ρ => (f ρ).bind fun ds => forD τ g ds ρ
noncomputable section
variable {K : PySem.W.Frag} {B : Bs} {own : List Nat} {G H G1 H1 : Hp} {σ σ1 : St} {ρ ρ1 : DEnv}
theorem SR.rebase (S1 : SR K B own G1 H1 σ1 ρ1) (S : SR K B own G H σ ρ) (s : Same G1 G) : SR K ⟨G1, B.2, B.3⟩ own G H σ ρ :=
  ⟨S.gh, s, S.h0, fun b o e => by
    rcases S.fr b o e with z | z
    · exact .inl (S1.g0 b o z)
    · exact .inr z, S.env, S.ownd, S.inj, S.len, S.pin⟩
theorem SR.unbase (S1 : SR K B own G1 H1 σ1 ρ1) (S : SR K ⟨G1, B.2, B.3⟩ own G H σ ρ) : SR K B own G H σ ρ :=
  ⟨S.gh, S1.g0.trans S.g0, S.h0, fun b o e => by
    rcases S.fr b o e with z | z
    · exact S1.fr b o z
    · exact .inr z, S.env, S.ownd, S.inj, S.len, S.pin⟩
theorem SR.unbase' {o7 : List Nat} (S1 : SR K B own G1 H1 σ1 ρ1) (S : SR K ⟨G1, B.2, B.3⟩ o7 G H σ ρ) : SR K B o7 G H σ ρ :=
  ⟨S.gh, S1.g0.trans S.g0, S.h0, fun b o e => by
    rcases S.fr b o e with z | z
    · exact S1.fr b o z
    · exact .inr z, S.env, S.ownd, S.inj, S.len, S.pin⟩
theorem Ext.unbase (S1 : SR K B own G1 H1 σ1 ρ1) (E : Ext G1 B.2 G H) : Ext B.1 B.2 G H :=
  ⟨E.hh, S1.g0.trans E.gg, E.gh, fun b o e => by
    rcases E.fr b o e with z | z
    · exact S1.fr b o z
    · exact .inr z⟩
end
noncomputable section
variable {X : Cx} {B : Bs} {oL own : List Nat} {tg iter : Expr} {f : DL} {τ : DTg} {g : DG} {body : List Stmt} {pos : Pos}
noncomputable def tMI (K : PySem.W.Frag) (B : Bs) (own : List Nat) (f : DEnv → Option (List D × DEnv)) : TI := fun σ H R => ∃ G ρ ds ρ', SR K B own G H σ ρ ∧ f ρ = some (ds, ρ') ∧ ∀ J G' H', SR K B own G' H' σ ρ' → ItOk K G' J ds → R J H'
noncomputable def sForM (f : DEnv → Option (List D × DEnv)) (τ : DTg) (g : DG) : DG := fun ρ => (f ρ).bind fun p => forD τ g p.1 p.2
theorem ds_forM {f : DEnv → Option (List D × DEnv)} (hp : PassesOwn (model X.prog X.w) X.A X.env X.xe) (hc : X.calm = true) (hi : PI X tg iter (tMI X.K B own f)) (hg : ∀ C : Bs, C.3 = B.3 → PG X tg (tTG X.K C own τ)) (hb : ∀ C : Bs, C.3 = B.3 → PSs X body (tDS X.K C own own own g))
    (hs : ∀ x, foldedSetIterable iter X.env x = pure x := by intro _; rfl) : PS X (.For tg iter body [] pos) (tDS X.K B oL own own (sForM f τ g)) := by
  intro pins s σ H D' I ⟨G, ρ, o, S, eq, k⟩
  unfold sForM at eq
  cases ef : f ρ with
  | none => rw [ef] at eq; cases eq
  | some dρ =>
    obtain ⟨ds, ρ0⟩ := dρ
    rw [ef] at eq
    have eq : forD τ g ds ρ0 = some o := eq
    refine wpAny_For (thn (hi pins s σ H (fun J H1 => ∃ G1, SR X.K B own G1 H1 σ ρ0 ∧ ItOk X.K G1 J ds) I ⟨G, ρ, ds, ρ0, S, ef, fun J G1 H1 S1 ok => ⟨G1, S1, ok⟩⟩) fun v s1 h1 => thn h1 fun itv s2 h2 => ?_) hs
    obtain ⟨it, fp, tn, J, H2, e, I2, T, st2, f2, G1, S1, ok⟩ := h2
    subst e
    have stat : ∀ {H' : Hp}, (∀ b ∈ fp, H' b = none) → ∀ b ∈ fp, FpOk X pins H' b := fun hn b hb => ⟨hn b hb, (f2 b hb).2⟩
    have endN : ∀ (ρ' : DEnv) (σ' : St) (H' G' : Hp) (rest : List D), SR X.K ⟨G1, B.2, B.3⟩ own G' H' σ' ρ' → True := fun _ _ _ _ _ _ => trivial
    refine codeAny_forLoop_any (fun n s' => ∃ i σ' H' G' ρ', Inv X pins σ' H' s' ∧ tn i s'.heap ∧ (∀ b ∈ fp, H' b = none) ∧ n = ds.length - i ∧ i ≤ ds.length ∧ SR X.K ⟨G1, B.2, B.3⟩ own G' H' σ' ρ' ∧ forD τ g (ds.drop i) ρ' = some o) ?_ ds.length
      ⟨0, σ, H2, G1, ρ0, I2, st2, fun b hb => (f2 b hb).1, rfl, Nat.zero_le _, S1.rebase S1 (Same.refl _), eq⟩
    rintro n s3 ⟨i, σ3, H3, G3, ρ3, I3, st3, fr3, rfl, hil, S3, eq3⟩
    have sub3 : Same G1 H3 := S3.g0.trans S3.gh
    by_cases hlt : i < ds.length
    · have ed : ds.drop i = ds[i] :: ds.drop (i + 1) := List.drop_eq_getElem_cons hlt
      rw [ed] at eq3
      unfold forD at eq3
      cases et : τ ds[i] ρ3 with
      | none => rw [et] at eq3; cases eq3
      | some ρ4 =>
        rw [et] at eq3
        cases eg : g ρ4 with
        | none => simp [eg] at eq3
        | some o4 =>
          simp only [eg, Option.bind_some] at eq3
          refine wpAny_passesOwn hp (thn (T.item X rfl rfl rfl hc i pins s3 σ3 H3 X.xe I3 (stat fr3) st3 (ok.go i H3 sub3 hlt)) fun r s4 ⟨u, hr, h4⟩ => ?_)
          subst hr
          refine wpAny_passesOwn hp (thn h4 fun _ s5 ⟨x, H5, I5, r5, y5, st5, fr5⟩ => ?_)
          have I5' := I5.pinned (stat fr5) (T.obj _ _ st5)
          obtain ⟨G5, E5, rep5⟩ := ok.yld i H3 x H5 G3 ds[i] S3.g0 S3.gh y5 (List.getElem?_eq_getElem hlt)
          refine wpAny_passesOwn hp (thn (hg ⟨G1, B.2, B.3⟩ rfl _ s5 σ3 H5 x u (fun σ6 H6 => ∃ G6, SR X.K ⟨G1, B.2, B.3⟩ own G6 H6 σ6 ρ4) I5' r5 ⟨G5, ρ3, ds[i], ρ4, S3.ext E5, rep5, et, fun σ6 G6 H6 S6 => ⟨G6, S6⟩⟩) fun _ s6 ⟨σ6, H6, I6, G6, S6⟩ => ?_)
          have again : ∀ {σ7 : St} {H7 G7 : Hp} {ρ7 : DEnv} {s7 : Shared}, Inv X (pins ++ pinsAt fp s5.heap) σ7 H7 s7 → SR X.K ⟨G1, B.2, B.3⟩ own G7 H7 σ7 ρ7 → forD τ g (ds.drop (i + 1)) ρ7 = some o →
              ∃ m, m < ds.length - i ∧ ∃ i σ' H' G' ρ', Inv X pins σ' H' s7 ∧ tn i s7.heap ∧ (∀ b ∈ fp, H' b = none) ∧ m = ds.length - i ∧ i ≤ ds.length ∧ SR X.K ⟨G1, B.2, B.3⟩ own G' H' σ' ρ' ∧ forD τ g (ds.drop i) ρ' = some o := fun {σ7 H7 G7 ρ7 s7} I7 S7 e7 => by
            refine ⟨ds.length - (i + 1), by omega, i + 1, σ7, H7, G7, ρ7, I7.unpinned, T.keep _ _ _ st5 fun b hb o e => (I7.pin (b, o) (List.mem_append_right _ (List.mem_append_right _ (mem_pinsAt hb e)))).1, fun b hb => ?_, rfl, hlt, S7, e7⟩
            obtain ⟨o, e, d⟩ := T.obj _ _ st5 b hb
            exact (I7.pin (b, o) (List.mem_append_right _ (List.mem_append_right _ (mem_pinsAt hb e)))).2.1
          cases o4 with
          | nx ρ5 =>
            refine wpAny_passesOwn hp (thn (hb ⟨G1, B.2, B.3⟩ rfl _ s6 σ6 H6 { nx := fun σ7 H7 => ∃ G7, SR X.K ⟨G1, B.2, B.3⟩ own G7 H7 σ7 ρ5, rt := fun _ _ => False } I6 ⟨G6, ρ4, _, S6, eg, fun σ7 G7 H7 S7 => ⟨G7, S7⟩⟩) fun fl s7 q7 => ?_)
            cases fl with
            | next => obtain ⟨σ7, H7, I7, G7, S7⟩ := q7; exact again I7 S7 eq3
            | cont => obtain ⟨_, _, _, z⟩ := q7; exact z.elim
            | brk => obtain ⟨_, _, _, z⟩ := q7; exact z.elim
            | ret v => obtain ⟨_, _, _, _, _, z⟩ := q7; exact z.elim
          | ct ρ5 =>
            refine wpAny_passesOwn hp (thn (hb ⟨G1, B.2, B.3⟩ rfl _ s6 σ6 H6 { nx := fun _ _ => False, ct := fun σ7 H7 => ∃ G7, SR X.K ⟨G1, B.2, B.3⟩ own G7 H7 σ7 ρ5, rt := fun _ _ => False } I6 ⟨G6, ρ4, _, S6, eg, fun σ7 G7 H7 S7 => ⟨G7, S7⟩⟩) fun fl s7 q7 => ?_)
            cases fl with
            | cont => obtain ⟨σ7, H7, I7, G7, S7⟩ := q7; exact again I7 S7 eq3
            | next => obtain ⟨_, _, _, z⟩ := q7; exact z.elim
            | brk => obtain ⟨_, _, _, z⟩ := q7; exact z.elim
            | ret v => obtain ⟨_, _, _, _, _, z⟩ := q7; exact z.elim
          | bk ρ5 =>
            refine wpAny_passesOwn hp (thn (hb ⟨G1, B.2, B.3⟩ rfl _ s6 σ6 H6 { nx := fun _ _ => False, bk := fun σ7 H7 => ∃ G7, SR X.K ⟨G1, B.2, B.3⟩ own G7 H7 σ7 ρ5, rt := fun _ _ => False } I6 ⟨G6, ρ4, _, S6, eg, fun σ7 G7 H7 S7 => ⟨G7, S7⟩⟩) fun fl s7 q7 => ?_)
            cases fl with
            | brk =>
              obtain ⟨σ7, H7, I7, G7, S7⟩ := q7
              cases eq3
              exact ⟨σ7, H7, I7.unpinned, k _ G7 H7 (S1.unbase S7)⟩
            | next => obtain ⟨_, _, _, z⟩ := q7; exact z.elim
            | cont => obtain ⟨_, _, _, z⟩ := q7; exact z.elim
            | ret v => obtain ⟨_, _, _, _, _, z⟩ := q7; exact z.elim
          | rt d =>
            cases eq3
            refine wpAny_passesOwn hp (thn (hb ⟨G1, B.2, B.3⟩ rfl _ s6 σ6 H6 { nx := fun _ _ => False, rt := D'.rt } I6 ⟨G6, ρ4, _, S6, eg, fun v G7 H7 E7 r7 => k v G7 H7 (Ext.unbase S1 E7) r7⟩) fun fl s7 q7 => ?_)
            cases fl with
            | ret v => obtain ⟨x7, σ7, H7, I7, r7, q7⟩ := q7; exact ⟨x7, σ7, H7, I7.unpinned, r7, q7⟩
            | next => obtain ⟨_, _, _, z⟩ := q7; exact z.elim
            | cont => obtain ⟨_, _, _, z⟩ := q7; exact z.elim
            | brk => obtain ⟨_, _, _, z⟩ := q7; exact z.elim
          | ro d =>
            cases eq3
            refine wpAny_passesOwn hp (thn (hb ⟨G1, B.2, B.3⟩ rfl _ s6 σ6 H6 { nx := fun _ _ => False, rt := D'.rt } I6 ⟨G6, ρ4, _, S6, eg, fun a vs G7 H7 E7 h1 h2 h3 r7 => k a vs G7 H7 (Ext.unbase S1 E7) h1 h2 h3 r7⟩) fun fl s7 q7 => ?_)
            cases fl with
            | ret v => obtain ⟨x7, σ7, H7, I7, r7, q7⟩ := q7; exact ⟨x7, σ7, H7, I7.unpinned, r7, q7⟩
            | next => obtain ⟨_, _, _, z⟩ := q7; exact z.elim
            | cont => obtain ⟨_, _, _, z⟩ := q7; exact z.elim
            | brk => obtain ⟨_, _, _, z⟩ := q7; exact z.elim
          | rm d ρ5 =>
            cases eq3
            refine wpAny_passesOwn hp (thn (hb ⟨G1, B.2, B.3⟩ rfl _ s6 σ6 H6 { nx := fun _ _ => False, rt := D'.rt } I6 ⟨G6, ρ4, _, S6, eg, fun v σ7 G7 H7 ⟨o7, S7⟩ r7 => k v σ7 G7 H7 ⟨o7, S1.unbase' S7⟩ r7⟩) fun fl s7 q7 => ?_)
            cases fl with
            | ret v => obtain ⟨x7, σ7, H7, I7, r7, q7⟩ := q7; exact ⟨x7, σ7, H7, I7.unpinned, r7, q7⟩
            | next => obtain ⟨_, _, _, z⟩ := q7; exact z.elim
            | cont => obtain ⟨_, _, _, z⟩ := q7; exact z.elim
            | brk => obtain ⟨_, _, _, z⟩ := q7; exact z.elim
    · have e : i = ds.length := by omega
      subst e
      rw [List.drop_length] at eq3
      unfold forD at eq3
      cases eq3
      refine wpAny_passesOwn hp (thn (T.done X rfl rfl rfl hc _ pins s3 σ3 H3 X.xe I3 (stat fr3) st3 (ok.stop _ H3 sub3 (Nat.le_refl _))) fun r s4 ⟨hr, I4⟩ => ?_)
      subst hr
      exact wpAny_execs_nil ⟨σ3, H3, I4, k σ3 G3 H3 (S1.unbase S3)⟩
theorem ds_for (hp : PassesOwn (model X.prog X.w) X.A X.env X.xe) (hc : X.calm = true) (hi : PI X tg iter (tPI X.K own f)) (hg : ∀ C : Bs, C.3 = B.3 → PG X tg (tTG X.K C own τ)) (hb : ∀ C : Bs, C.3 = B.3 → PSs X body (tDS X.K C own own own g))
    (hs : ∀ x, foldedSetIterable iter X.env x = pure x := by intro _; rfl) : PS X (.For tg iter body [] pos) (tDS X.K B oL own own (sFor f τ g)) := by
  have e : sFor f τ g = sForM (fun ρ => (f ρ).map fun ds => (ds, ρ)) τ g := funext fun ρ => by
    show (f ρ).bind _ = (Option.map (fun ds => (ds, ρ)) (f ρ)).bind _
    cases f ρ <;> rfl
  rw [e]
  refine ds_forM hp hc (hi.imp fun σ H R ⟨G, ρ, ds, ρ', S, eq, k⟩ => ?_) hg hb hs
  have eq : Option.map (fun ds => (ds, ρ)) (f ρ) = some (ds, ρ') := eq
  cases ef : f ρ with
  | none => rw [ef] at eq; cases eq
  | some xs =>
    rw [ef] at eq; cases eq
    exact ⟨G, ρ, ds, S.gh, S.envR, ef, fun J G1 H1 E ok => k J G1 H1 (S.ext E) ok⟩
end
noncomputable def srcρ (src : List (Option Nat)) (ρ : DEnv) : DEnv := src.map fun o => match o with | some j => (ρ[j]?).getD none | none => none
noncomputable def lcD (ρ : DEnv) (τ : DTg) (ft : DT) (fe : DF) : List D → Option (List D)
  | [] => some []
  | d :: ds => (τ d ρ).bind fun ρ1 => (ft ρ1).bind fun b => if b = true then (fe ρ1).bind fun x => (lcD ρ τ ft fe ds).map (x :: ·) else lcD ρ τ ft fe ds
noncomputable def fLC (f : DL) (src : List (Option Nat)) (τ : DTg) (ft : DT) (fe : DF) : DL := fun ρ => (f ρ).bind fun ds => if ds.length ≤ bigE then lcD (srcρ src ρ) τ ft fe ds else none
noncomputable def tYes : DT := fun _ => some true
noncomputable def ownSrc (own own' : List Nat) (src : List (Option Nat)) : Bool := (List.range src.length).all fun i => match src[i]? with | some (some j) => decide (i ∈ own') == decide (j ∈ own) | _ => true
theorem ownSrc_get {own own' : List Nat} {src : List (Option Nat)} (h : ownSrc own own' src = true) {i j : Nat} (e : src[i]? = some (some j)) : (i ∈ own' ↔ j ∈ own) := by
  unfold ownSrc at h
  rw [List.all_eq_true] at h
  have hi : i < src.length := (List.getElem?_eq_some_iff.mp e).1
  have := h i (by simpa using hi)
  rw [e] at this
  simpa using this
theorem EnvR.src {K : PySem.W.Frag} {own own' : List Nat} {src : List (Option Nat)} {G H : Hp} {σ : St} {ρ : DEnv} (h : EnvR K own G H σ ρ) (ho : ownSrc own own' src = true) : EnvR K own' G H (srcσ src σ) (srcρ src ρ) := by
  refine ⟨by simp [srcσ, srcρ], fun i d e => ?_⟩
  unfold srcρ at e
  rw [List.getElem?_map] at e
  cases es : src[i]? with
  | none => rw [es] at e; cases e
  | some o =>
    rw [es] at e
    cases o with
    | none => cases e
    | some j =>
      have e : (ρ[j]?).getD none = some d := by simpa using e
      have ej : ρ[j]? = some (some d) := by
        cases q : ρ[j]? with
        | none => rw [q] at e; cases e
        | some z => rw [q] at e; rw [show z = some d from e]
      obtain ⟨v, ev, rv⟩ := h.get j d ej
      refine ⟨v, ?_, ?_⟩
      · unfold srcσ
        rw [List.getElem?_map, es]
        simp [ev]
      · have := ownSrc_get ho es
        by_cases hi : i ∈ own'
        · rw [if_pos hi]; rw [if_pos (this.mp hi)] at rv; exact rv
        · rw [if_neg hi]; rw [if_neg (fun z => hi (this.mpr z))] at rv; exact rv
noncomputable section
variable {X : Cx} {own own' oS : List Nat} {N : List Str} {src : List (Option Nat)} {scope : Scope} {tg iter elt : Expr} {ifs : List Expr} {f : DL} {τ : DTg} {ft : DT} {fe : DF} {g : TG} {pos : Pos}
theorem PTs.imp {t t' : TT} (h : PTs X ifs t) (k : ∀ σ H Q, t' σ H Q → t σ H Q) : PTs X ifs t' := fun pins s σ H Q I q => h pins s σ H Q I (k _ _ _ q)
theorem dts_nil : PTs X [] (tPT X.K own tYes) := pts_nil.imp fun σ H Q ⟨G, ρ, b, gh, env, eq, k⟩ => by cases eq; exact k G H (.refl gh)
theorem dts_one {c : Expr} (h : PT X c (tPT X.K own ft)) : PTs X [c] (tPT X.K own ft) := pts_one h
theorem lc_of {K : PySem.W.Frag} {σ : St} {H : Hp} {Q : VK} (ho : ownSrc own own' src = true) (hg : ∀ v σ H Q, tTE K own' τ v σ H Q → g v σ H Q) (q : tF K own (fLC f src τ ft fe) σ H Q) : tLc (tPI K own f) src g (tPT K own' ft) (tP K own' fe) σ H Q := by
  obtain ⟨G, ρ, rs, gh, env, eq, k⟩ := q
  unfold fLC at eq
  cases ef : f ρ with
  | none => rw [ef] at eq; cases eq
  | some ds =>
    rw [ef] at eq
    have eq : (if ds.length ≤ bigE then lcD (srcρ src ρ) τ ft fe ds else none) = some rs := eq
    split at eq
    · rename_i hz
      refine ⟨G, ρ, ds, gh, env, ef, fun J G1 H1 E1 ok => ?_⟩
      refine ⟨fun i m ys H2 => m = ds.length - i ∧ i ≤ ds.length ∧ ys.length ≤ i ∧ ∃ G2 xs rest, Ext G1 H1 G2 H2 ∧ Reps K G2 xs ys ∧ lcD (srcρ src ρ) τ ft fe (ds.drop i) = some rest ∧ xs ++ rest = rs,
        ⟨ds.length, rfl, Nat.zero_le _, Nat.le_refl _, G1, [], rs, .refl E1.gh, .nil, eq, rfl⟩, ?_⟩
      rintro i m ys H2 ⟨rfl, hil, hyl, G2, xs, rest, E2, rx, er, rfl⟩
      have sub : Same G1 H2 := E2.gg.trans E2.gh
      by_cases hlt : i < ds.length
      · refine .inr ⟨ok.go i H2 sub hlt, ?_, fun ys' H' => ys'.length ≤ i + 1 ∧ ∃ G3 xs' rest', Ext G1 H1 G3 H' ∧ Reps K G3 xs' ys' ∧ lcD (srcρ src ρ) τ ft fe (ds.drop (i + 1)) = some rest' ∧ xs' ++ rest' = xs ++ rest,
          fun ys' H' z => ⟨ds.length - (i + 1), by omega, rfl, hlt, z⟩, fun x H3 y => ?_⟩
        · have := bigE_le
          omega
        · obtain ⟨G3, E3, rep3⟩ := ok.yld i H2 x H3 G2 ds[i] E2.gg E2.gh y (List.getElem?_eq_getElem hlt)
          rw [List.drop_eq_getElem_cons hlt] at er
          unfold lcD at er
          cases et : τ ds[i] (srcρ src ρ) with
          | none => rw [et] at er; cases er
          | some ρ4 =>
            rw [et] at er
            cases eb : ft ρ4 with
            | none => simp [eb] at er
            | some b =>
              simp only [eb, Option.bind_some] at er
              have E13 := E1.trans (E2.trans E3)
              refine hg _ _ _ _ ⟨G3, srcρ src ρ, ds[i], ρ4, E3.gh, (env.ext E13).src ho, rep3, et, fun σ4 G4 H4 E4 env4 => ⟨G4, ρ4, b, E4.gh, env4, eb, fun G5 H5 E5 => ?_⟩⟩
              have E15 := (E2.trans E3).trans (E4.trans E5)
              cases b with
              | false => exact iteF ⟨by omega, G5, xs, rest, E15, Reps.mono ((E3.trans (E4.trans E5)).gg) xs rx, er, rfl⟩
              | true =>
                refine iteT ?_
                simp only [if_true] at er
                cases ee : fe ρ4 with
                | none => rw [ee] at er; cases er
                | some x4 =>
                  rw [ee] at er
                  cases el : lcD (srcρ src ρ) τ ft fe (ds.drop (i + 1)) with
                  | none => simp [el] at er
                  | some rest' =>
                    simp only [el, Option.bind_some, Option.map_some] at er
                    cases er
                    refine ⟨G5, ρ4, x4, E5.gh, env4.ext E5, ee, fun v G6 H6 E6 r6 => ⟨by simp; omega, G6, xs ++ [x4], rest', E15.trans E6, (Reps.mono ((E3.trans ((E4.trans E5).trans E6)).gg) xs rx).append (.cons r6 .nil), rfl, by simp⟩⟩
      · have e : i = ds.length := by omega
        subst e
        rw [List.drop_length] at er
        unfold lcD at er
        cases er
        refine .inl ⟨ok.stop _ H2 sub (Nat.le_refl _), fun p hp => ?_⟩
        have E12 := E1.trans E2
        refine k p ys G2 _ (E12.trans (Ext.lay (p := p) E2.gh hp)) (E12.hh.free hp) (E2.gh.free hp) upd_same ?_
        rw [List.append_nil]; exact rx
    · cases eq
theorem de_lc (S : BlkScope X N src scope) (hc : X.calm = true) (hi : PI X tg iter (tPI X.K own f)) (ag : GAg oS g) (hos : ∀ i ∈ oS, src[i]? = some none) (hg : ∀ v σ H Q, tTE X.K own' τ v σ H Q → g v σ H Q)
    (hb : ∀ C s H ex, PG (X.blk N scope C s H ex) tg g ∧ PTs (X.blk N scope C s H ex) ifs (tPT X.K own' ft) ∧ PE (X.blk N scope C s H ex) elt (tP X.K own' fe)) (ho : ownSrc own own' src = true := by decide)
    (hs : ∀ x, foldedSetIterable iter X.env x = pure x := by intro _; rfl) : PE X (.ListComp elt [⟨tg, iter, ifs, 0⟩] scope pos) (tF X.K own (fLC f src τ ft fe)) :=
  (pe_lc S hc hi ag hos hb hs).imp fun σ H Q q => lc_of ho hg q
theorem ds_lcsetO {B : Bs} {oL : List Nat} {i : Nat} {y : Str} {spos py : Pos} (S : BlkScope X N src scope) (hc : X.calm = true) (hN : X.N.Nodup) (hy : X.N[i]? = some y) (hl : X.env.scope.names.lookup y = some .local) (hi : PI X tg iter (tPI X.K own f)) (ag : GAg oS g) (hos : ∀ i ∈ oS, src[i]? = some none)
    (hg : ∀ v σ H Q, tTE X.K own' τ v σ H Q → g v σ H Q) (hb : ∀ C s H ex, PG (X.blk N scope C s H ex) tg g ∧ PTs (X.blk N scope C s H ex) ifs (tPT X.K own' ft) ∧ PE (X.blk N scope C s H ex) elt (tP X.K own' fe)) (ho : ownSrc own own' src = true := by decide) (hio : i ∈ own := by decide) (hpin : ∀ a, (i, a) ∉ B.3 := by intro a; simp_all)
    (hsw : swapsWith (.ListComp elt [⟨tg, iter, ifs, 0⟩] scope pos) (some (.Name y py)) spos.line X.env = pure true := by rfl)
    (hs : ∀ x, foldedSetIterable iter X.env x = pure x := by intro _; rfl) : PS X (.Assign [.Name y py] (.ListComp elt [⟨tg, iter, ifs, 0⟩] scope pos) spos) (tDS X.K B oL own own (sSetO i (fLC f src τ ft fe))) :=
  (ps_lcset S hc hN hy hl hi ag hos hb hsw hs).imp fun D' σ H ⟨G, ρ, o, S, eq, k⟩ => lc_of ho hg (by
    unfold sSetO at eq
    cases ef : fLC f src τ ft fe ρ with
    | none => rw [ef] at eq; cases eq
    | some ds =>
      rw [ef] at eq; cases eq
      exact ⟨G, ρ, ds, S.gh, S.envR, ef, fun p vs G' H' E hp gp hv r => k _ G' H' (S.setO hio E hp gp hv r hpin)⟩)
theorem ds_lcset {B : Bs} {oL : List Nat} {i : Nat} {y : Str} {spos py : Pos} (S : BlkScope X N src scope) (hc : X.calm = true) (hN : X.N.Nodup) (hy : X.N[i]? = some y) (hl : X.env.scope.names.lookup y = some .local) (hi : PI X tg iter (tPI X.K own f)) (ag : GAg oS g) (hos : ∀ i ∈ oS, src[i]? = some none)
    (hg : ∀ v σ H Q, tTE X.K own' τ v σ H Q → g v σ H Q) (hb : ∀ C s H ex, PG (X.blk N scope C s H ex) tg g ∧ PTs (X.blk N scope C s H ex) ifs (tPT X.K own' ft) ∧ PE (X.blk N scope C s H ex) elt (tP X.K own' fe)) (ho : ownSrc own own' src = true := by decide) (hio : i ∉ own := by decide)
    (hsw : swapsWith (.ListComp elt [⟨tg, iter, ifs, 0⟩] scope pos) (some (.Name y py)) spos.line X.env = pure true := by rfl)
    (hs : ∀ x, foldedSetIterable iter X.env x = pure x := by intro _; rfl) : PS X (.Assign [.Name y py] (.ListComp elt [⟨tg, iter, ifs, 0⟩] scope pos) spos) (tDS X.K B oL own own (sSet i (eF (fLC f src τ ft fe)))) :=
  (ps_lcset S hc hN hy hl hi ag hos hb hsw hs).imp fun D' σ H ⟨G, ρ, o, S, eq, k⟩ => lc_of ho hg (by
    unfold sSet eF at eq
    cases ef : fLC f src τ ft fe ρ with
    | none => rw [ef] at eq; cases eq
    | some ds =>
      rw [ef] at eq; cases eq
      refine ⟨G, ρ, ds, S.gh, S.envR, ef, fun p vs G' H' E hp gp hv r => k _ (upd G' p (.lst vs)) H' ((S.ext (E.freeze hp gp hv)).setS hio ?_)⟩
      exact rep_lst.mpr ⟨p, vs, rfl, upd_same, Reps.mono (.alloc gp) ds r⟩)
end
end L2
end
noncomputable section
set_option maxRecDepth 100000
set_option maxHeartbeats 4000000
namespace L2
open PySem PySem.Spec PyProof.Rows
noncomputable def spF (K : PySem.W.Frag) (F : List D → Option D) : Sp := fun vs H Q _ => ∃ G ds d, Same G H ∧ Reps K G ds vs ∧ F ds = some d ∧ ∀ v G' H', Ext G H G' H' → Rep K G' d v → Q v H'
noncomputable def spO (K : PySem.W.Frag) (F : List D → Option (List D)) : Sp := fun vs H Q _ => ∃ G ds rs, Same G H ∧ Reps K G ds vs ∧ F ds = some rs ∧ ∀ a us G' H', Ext G H G' H' → H a = none → G' a = none → H' a = some (.lst us) → Reps K G' rs us → Q (.ref a) H'
noncomputable def startD (N : Nat) (ds : List D) : DEnv := ds.map some ++ List.replicate (N - ds.length) none
noncomputable def outD : DO → Option D
  | .rt d => some d
  | .ro ds => some (.lst ds)
  | .nx _ => some .non
  | _ => none
noncomputable def outO : DO → Option (List D)
  | .ro ds => some ds
  | _ => none
noncomputable def runD (n N : Nat) (g : DG) (ds : List D) : Option D := if ds.length = n then (g (startD N ds)).bind outD else none
noncomputable def runO (n N : Nat) (g : DG) (ds : List D) : Option (List D) := if ds.length = n then (g (startD N ds)).bind outO else none
theorem start_get {N : Nat} {ds : List D} {i : Nat} {d : D} (h : (startD N ds)[i]? = some (some d)) : ds[i]? = some d := by
  unfold startD at h
  by_cases hi : i < ds.length
  · rw [List.getElem?_append_left (by simpa using hi), List.getElem?_map] at h
    cases e : ds[i]? with
    | none => rw [e] at h; cases h
    | some a => rw [e] at h; cases h; rfl
  · rw [List.getElem?_append_right (by simpa using hi), List.getElem?_replicate] at h
    split at h <;> cases h
theorem start_SR {K : PySem.W.Frag} {G H : Hp} {own : List Nat} {N : List Str} {ds : List D} {vs : List V} (s : Same G H) (r : Reps K G ds vs) (ho : ∀ i ∈ own, ds.length ≤ i) : SR K ⟨G, H, []⟩ own G H (start N vs) (startD N.length ds) := by
  refine ⟨s, Same.refl _, Same.refl _, fun b o e => .inl e, fun i d hi e => ?_, fun i d hi e => ?_, fun i j a hi hj di dj => ?_, by simp [start, startD, r.length], fun i a h => by cases h⟩
  · obtain ⟨v, ev, rv⟩ := r.get (start_get e)
    refine ⟨v, ?_, rv⟩
    have hi : i < vs.length := (List.getElem?_eq_some_iff.mp ev).1
    unfold start
    rw [List.getElem?_append_left (by simpa using hi), List.getElem?_map, ev]; rfl
  · have := (List.getElem?_eq_some_iff.mp (start_get e)).1
    have := ho i hi
    omega
  · obtain ⟨d, e⟩ := di
    have := (List.getElem?_eq_some_iff.mp (start_get e)).1
    have := ho i hi
    omega
noncomputable section
variable {P : Program} {w : World} {K : PySem.W.Frag} {mg : Str → Option Value} {base : Heap}
theorem Fun.okD {x qual : Str} {st : Stmt} {f : Addr} {fd : FuncData} {N ps : List Str} {k : Nat} (F : Fun K x qual st f fd) (S : FnScope N ps (defScope st)) {own own' : List Nat} {g : DG} (hown : ∀ i ∈ own, ps.length ≤ i)
    (hb : ∀ (cdv : Value) (A : Around) (outer : List Env) (s : Shared) (H : Hp) (E : XK), Room k (A.deeper (envOfC qual (defScope st) s.heap.objs.size f cdv)) → ∀ B : Bs, B.3 = [] →
      PSs (cxOf CX0 P w K mg base N qual (defScope st) f cdv A outer s H E).nox (defBody st) (tDS K B [] own own' g)) : FnOk P w K mg base CX0 (k + 1) f fd ps (spF K (runD ps.length N.length g)) := by
  refine F.ok S (fun vs H Q E h => ?_) (fun cdv A outer s H vs Q E hr h => ?_)
  · obtain ⟨G, ds, d, gh, r, eq, _⟩ := h
    unfold runD at eq
    split at eq
    · rw [← r.length]; assumption
    · cases eq
  · obtain ⟨G, ds, d, gh, r, eq, q⟩ := h
    unfold runD at eq
    split at eq
    · rename_i hl
      refine ⟨_, hb cdv A outer s H E hr ⟨G, H, []⟩ rfl, ?_⟩
      cases eg : g (startD N.length ds) with
      | none => rw [eg] at eq; cases eq
      | some o =>
        rw [eg] at eq
        refine ⟨G, _, o, start_SR gh r (by rw [hl]; exact hown), eg, ?_⟩
        cases o with
        | rt d' => cases eq; exact fun v G' H' E r => q v G' H' E r
        | ro rs =>
          cases eq
          exact fun a us G' H' E h1 h2 h3 r => q _ (upd G' a (.lst us)) H' (E.freeze h1 h2 h3) (rep_lst.mpr ⟨a, us, rfl, upd_same, Reps.mono (.alloc h2) rs r⟩)
        | nx ρ => cases eq; exact fun σ G' H' S => q _ G' H' S.toExt (rep_non.mpr rfl)
        | bk ρ => cases eq
        | ct ρ => cases eq
        | rm d ρ => cases eq
    · cases eq
theorem Fun.okO {x qual : Str} {st : Stmt} {f : Addr} {fd : FuncData} {N ps : List Str} {k : Nat} (F : Fun K x qual st f fd) (S : FnScope N ps (defScope st)) {own own' : List Nat} {g : DG} (hown : ∀ i ∈ own, ps.length ≤ i)
    (hb : ∀ (cdv : Value) (A : Around) (outer : List Env) (s : Shared) (H : Hp) (E : XK), Room k (A.deeper (envOfC qual (defScope st) s.heap.objs.size f cdv)) → ∀ B : Bs, B.3 = [] →
      PSs (cxOf CX0 P w K mg base N qual (defScope st) f cdv A outer s H E).nox (defBody st) (tDS K B [] own own' g)) : FnOk P w K mg base CX0 (k + 1) f fd ps (spO K (runO ps.length N.length g)) := by
  refine F.ok S (fun vs H Q E h => ?_) (fun cdv A outer s H vs Q E hr h => ?_)
  · obtain ⟨G, ds, d, gh, r, eq, _⟩ := h
    unfold runO at eq
    split at eq
    · rw [← r.length]; assumption
    · cases eq
  · obtain ⟨G, ds, d, gh, r, eq, q⟩ := h
    unfold runO at eq
    split at eq
    · rename_i hl
      refine ⟨_, hb cdv A outer s H E hr ⟨G, H, []⟩ rfl, ?_⟩
      cases eg : g (startD N.length ds) with
      | none => rw [eg] at eq; cases eq
      | some o =>
        rw [eg] at eq
        refine ⟨G, _, o, start_SR gh r (by rw [hl]; exact hown), eg, ?_⟩
        cases o with
        | ro rs => cases eq; exact fun a us G' H' E h1 h2 h3 r => q a us G' H' E h1 h2 h3 r
        | rt d' => cases eq
        | nx ρ => cases eq
        | bk ρ => cases eq
        | ct ρ => cases eq
        | rm d ρ => cases eq
    · cases eq
structure Ok1 (P : Program) (w : World) (K : PySem.W.Frag) (mg : Str → Option Value) (base : Heap) (x : Str) (k : Nat) (sp : Sp) : Prop where
  ex : ∃ f fd ps, FnOk P w K mg base CX0 k f fd ps sp ∧ mg x = some (.ref f) ∧ PySem.W.keepIn K (.ref f) = true ∧ Binds K fd ps []
theorem Ok1.mono {x : Str} {j k : Nat} {sp : Sp} (h : Ok1 P w K mg base x j sp) (hk : j ≤ k) : Ok1 P w K mg base x k sp := by
  obtain ⟨f, fd, ps, h1, h2⟩ := h.ex
  exact ⟨f, fd, ps, h1.mono hk, h2⟩
end
noncomputable section
variable {X : Cx} {own : List Nat} {x : Str} {p pos : Pos} {e : Expr} {es : List Expr} {g : DL} {k : Nat}
theorem de_call {F : List D → Option D} (h : Ok1 X.prog X.w X.K X.mg X.base x k (spF X.K F)) (hr : Room k X.A) (hg : Gl X x) (ha : PA X (e :: es) (tPA X.K own g)) (hdb : (x == ("__debug__" : Str)) = false := by decide)
    (he : starEach (e :: es) X.env = (false, eval e X.env) :: starEach es X.env := by rfl) (hpl : (backTo pos (starEach es X.env)).any (·.1) = false := by rfl) : PE X (.Call (.Name x p) (e :: es) [] pos) (tP X.K own (eCall F g)) := by
  obtain ⟨f, fd, ps, h1, hm, hk, hb⟩ := h.ex
  refine (pe_call h1 hr hg hm hk hb .nil pass0 ha hdb he hpl).imp fun σ H Q ⟨G, ρ, d, gh, env, eq, q⟩ => ?_
  obtain ⟨xs, ex, eo⟩ := eCall_some eq
  exact ⟨G, ρ, xs, gh, env, ex, fun vs G1 H1 E1 r1 => by show spF X.K F (vs ++ []) H1 Q E0; rw [List.append_nil]; exact ⟨G1, xs, d, E1.gh, r1, eo, fun v G2 H2 E2 r2 => q v G2 H2 (E1.trans E2) r2⟩⟩
noncomputable def fCall (F : List D → Option (List D)) (g : DL) : DL := fun ρ => (g ρ).bind F
theorem de_callO {F : List D → Option (List D)} (h : Ok1 X.prog X.w X.K X.mg X.base x k (spO X.K F)) (hr : Room k X.A) (hg : Gl X x) (ha : PA X (e :: es) (tPA X.K own g)) (hdb : (x == ("__debug__" : Str)) = false := by decide)
    (he : starEach (e :: es) X.env = (false, eval e X.env) :: starEach es X.env := by rfl) (hpl : (backTo pos (starEach es X.env)).any (·.1) = false := by rfl) : PE X (.Call (.Name x p) (e :: es) [] pos) (tF X.K own (fCall F g)) := by
  obtain ⟨f, fd, ps, h1, hm, hk, hb⟩ := h.ex
  refine (pe_call h1 hr hg hm hk hb .nil pass0 ha hdb he hpl).imp fun σ H Q ⟨G, ρ, ds, gh, env, eq, q⟩ => ?_
  unfold fCall at eq
  cases ex : g ρ with
  | none => rw [ex] at eq; cases eq
  | some xs =>
    rw [ex] at eq
    exact ⟨G, ρ, xs, gh, env, ex, fun vs G1 H1 E1 r1 => by show spO X.K F (vs ++ []) H1 Q E0; rw [List.append_nil]; exact ⟨G1, xs, ds, E1.gh, r1, eq, fun a us G2 H2 E2 h1 h2 h3 r2 => q a us G2 H2 (E1.trans E2) (E1.hh.free h1) h2 h3 r2⟩⟩
end
theorem law_sp {F : List D → Option D} {m : Nat} (hF : ∀ ns : List Int, ns.length ≤ m → F [.scr ns] = some (.bl true)) (K : PySem.W.Frag) (H : Hp) (a : Addr) (ns : List Int) (hl : ns.length ≤ m) (hO : Only H) (hS : SqL K H a (ns.map V.int)) :
    spF K F [.ref a] H (fun v _ => v = .bl true) fun _ _ _ => False :=
  ⟨H, [.scr ns], .bl true, Same.refl _, .cons (rep_scr.mpr ⟨a, rfl, hS⟩) .nil, hF ns hl, fun v G' H' E r => rep_bl.mp r⟩
end L2
end
noncomputable section
set_option maxRecDepth 100000
set_option maxHeartbeats 4000000
namespace L2
open PySem PySem.Spec PyProof.Rows
noncomputable def Ite (K : PySem.W.Frag) (a : Addr) : It :=
  ⟨fun i H => ∃ xs x, SqL K H a xs ∧ xs[i]? = some x, fun i H v H' => ∃ x p, (∀ xs, SqL K H a xs → xs[i]? = some x) ∧ H p = none ∧ v = .ref p ∧ H' = upd H p (.tup [.int i, x]), fun i H => ∃ xs, SqL K H a xs ∧ xs.length ≤ i⟩
theorem turn_enum {P : Program} {w : World} {K : PySem.W.Frag} {elts : List Expr} {x1} {tpos : Pos} (a e it : Addr) (hei : e ≠ it) : Turn P w K (.Tuple elts x1 tpos) (Ite K a) [e, it] e (fun i h => (∃ old, IsEnum h e it (i : Int) old) ∧ h.IsListIter it a i) where
  mem := by simp
  obj := fun i h st b hb => by
    obtain ⟨⟨old, st1⟩, st2⟩ := st
    rcases List.mem_cons.mp hb with rfl | hb
    · exact ⟨_, st1, fun v z => by cases z⟩
    · have e : b = it := by simpa using hb
      subst e
      obtain ⟨o, e, c, d⟩ := st2
      exact ⟨o, e, fun v z => by rw [d] at z; cases z⟩
  keep := fun i h h' st k => by
    obtain ⟨⟨old, st1⟩, st2⟩ := st
    exact ⟨⟨old, k e (by simp) _ st1⟩, st2.at fun o q => k it (by simp) o q⟩
  item := by
    intro X hP hw hK hc i pins s σ H E I hf st hg
    subst hP hw hK
    obtain ⟨⟨old, st1⟩, st2⟩ := st
    obtain ⟨xs, x, hq, hx⟩ := hg
    obtain ⟨its, rv, p, hz⟩ := I.list hq
    obtain ⟨u, hu, ru⟩ := rv.get hx
    have fe := hf e (by simp)
    have fi := hf it (by simp)
    refine wpAny_pyNext_enum_item st1 st2 p.isList (x := u) (by simpa using hu) hei fun h1 eo it1 t1 z1 k1 => ?_
    refine ⟨_, rfl, ?_⟩
    refine wpAny_letOwnedTupleGo_enum (s := { s with heap := h1, toks := s.toks + 1 }) eo fun h2 e2 s2 => ?_
    have hep : e < s.heap.objs.size := Heap.lt_size st1
    have hn : H s.heap.objs.size = none := I.hok.fresh (Nat.le_refl _)
    have s2' : Heap.SameBut e h1 h2 := s2
    have keep : ∀ b o, b ≠ e → b ≠ it → s.heap.get? b = some o → h2.get? b = some o := fun b o h3 h4 q => (s2'.2 b h3).trans (k1 b o h3 h4 q)
    have tup : h2.get? s.heap.objs.size = some { cls := .type "tuple", data := .seq #[.int i s.toks, u] } := (s2'.2 _ (Nat.ne_of_gt hep)).trans t1
    have trk : ∀ b o, H b = some o → b ≠ e ∧ b ≠ it := fun b o q => ⟨fun z => by (rw [z, fe.1] at q; cases q), fun z => by (rw [z, fi.1] at q; cases q)⟩
    have new : ObjOk X.prog X.w (upd H s.heap.objs.size (.tup [.int i, x])) h2 s.heap.objs.size (.tup [.int i, x]) :=
      ⟨by show 2 ≤ sizeLine; rw [sizeLine_eq]; decide, [.int i s.toks, u], .cons ⟨_, rfl⟩ (.cons ru .nil), _, tup, rfl, _, rfl⟩
    have hok2 : HOk X.prog X.w (upd H s.heap.objs.size (.tup [.int i, x])) h2 := fun b o q => by
      by_cases hb : b = s.heap.objs.size
      · subst hb; rw [upd_same] at q; cases q; exact new
      · rw [upd_ne hb] at q
        refine (I.hok b o q).stay (fun c v hcb r => ?_) (fun c r => by rw [upd_ne (ne_of_none r hn)]; exact r) fun c ys r => by rw [upd_ne (ne_of_none r hn)]; exact r
        rcases hcb with rfl | hcb
        · exact keep _ _ (trk _ _ q).1 (trk _ _ q).2 r
        · exact keep _ _ (trk _ _ hcb).1 (trk _ _ hcb).2 r
    have un : Un (frs X.stack) [e, it] H (upd H s.heap.objs.size (.tup [.int i, x])) s.heap h2 := by
      have nin : ∀ b, b ∉ [e, it] → b ≠ e ∧ b ≠ it := fun b hb => ⟨fun z => hb (by simp [z]), fun z => hb (by simp [z])⟩
      have old : ∀ b o, s.heap.get? b = some o → b ≠ s.heap.objs.size := fun b o q => Nat.ne_of_lt (Heap.lt_size q)
      refine ⟨fun b o q n _ hx => keep b o (nin b hx).1 (nin b hx).2 q, fun b o q n _ hx => ⟨o.slots, keep b o (nin b hx).1 (nin b hx).2 q⟩, fun b o q n hx => by rw [upd_ne (old b o q)]; exact n,
        fun b o q hx => ⟨o, keep b o (nin b hx).1 (nin b hx).2 q⟩, fun b ys q => by rw [upd_ne (ne_of_none q hn)]; exact q, fun b o u q => by rw [upd_ne (ne_of_none q hn)]; exact q, fun b ps q => ⟨#[], by rw [upd_ne (ne_of_none q hn)]; simpa using q⟩⟩
    have I2 : Inv X pins σ (upd H s.heap.objs.size (.tup [.int i, x])) { s with heap := h2, toks := s.toks + 1 } := I.call' (s' := { s with heap := h2, toks := s.toks + 1 }) rfl un hok2 I.bare fun b hb => by
      rcases List.mem_cons.mp hb with rfl | hb
      · exact ⟨fe.2.2.2.1, fe.2.1, fe.2.2.2.2.1, fe.2.2.2.2.2⟩
      · have z : b = it := by simpa using hb
        subst z
        exact ⟨fi.2.2.2.1, fi.2.1, fi.2.2.2.2.1, fi.2.2.2.2.2⟩
    have st3 : h2.IsListIter it a (i + 1) := it1.at fun o q => (s2'.2 it (Ne.symm hei)).trans q
    refine ⟨.ref s.heap.objs.size, _, I2, rfl, ⟨x, s.heap.objs.size, fun ys hy => by rw [I.list_inj hy hq]; exact hx, hn, rfl, rfl⟩, ⟨⟨u, by exact_mod_cast e2⟩, st3⟩, fun b hb => ?_⟩
    have : b ≠ s.heap.objs.size := by
      rcases List.mem_cons.mp hb with rfl | hb
      · exact Nat.ne_of_lt hep
      · have z : b = it := by simpa using hb
        subst z
        obtain ⟨o, q, _⟩ := st2
        exact Nat.ne_of_lt (Heap.lt_size q)
    rw [upd_ne this]
    exact (hf b hb).1
  done := by
    intro X hP hw hK hc i pins s σ H E I hf st hg
    subst hP hw hK
    obtain ⟨⟨old, st1⟩, st2⟩ := st
    obtain ⟨xs, hq, hx⟩ := hg
    obtain ⟨its, rv, p, hz⟩ := I.list hq
    obtain ⟨f0, f1, f2, f3, f4, f5⟩ := hf it (by simp)
    have hl := rv.length
    exact wpAny_pyNext_enum_end (I.ok.hd hc) st1 st2 p.isList (by simp; omega) fun h' eb => ⟨rfl, I.turned (t' := s.toks) (fun b o hb q => eb b o hb q) f0 f1 f3 f4 f5⟩
  self := fun A i s Q E st h => by
    obtain ⟨⟨old, st1⟩, st2⟩ := st
    exact wpAny_pyIter_enum st1 h
noncomputable section
variable {X : Cx} {own : List Nat} {e : Expr} {f : DF}
noncomputable def iEnumT (K : PySem.W.Frag) (tl : TE) : TI := fun σ H R => tl σ H fun x H1 => ∃ a, x = .ref a ∧ (∃ xs, SqL K H1 a xs) ∧ R (Ite K a) H1
theorem pi_enum {elts : List Expr} {x1} {tpos p pos : Pos} {tl : TE} (hg : Gl X "enumerate") (hm : X.mg "enumerate" = none) (hl : PE X e tl) (hs : starEach [e] X.env = [(false, eval e X.env)] := by rfl) (hs1 : starEach [e] X.env = (false, eval e X.env) :: starEach [] X.env := by rfl)
    (hv : bootBuiltins "enumerate" = some (.type "enumerate") := by decide +kernel) : PI X (.Tuple elts x1 tpos) (.Call (.Name "enumerate" p) [e] [] pos) (iEnumT X.K tl) := by
  intro pins s σ H R I h
  refine Call_ (ld_blt I hg hm hv (PyProof.Rows.callWith_type1 (thn (pa_cons hl pa_nil hs1 pos pins s σ H (fun vs H1 => match vs with | [x] => ∃ a, x = .ref a ∧ (∃ xs, SqL X.K H1 a xs) ∧ R (Ite X.K a) H1 | _ => False) I h) fun us s1 ⟨vs, H1, I1, r1, q1⟩ => ?_) hs rfl))
  cases vs with
  | nil => exact q1.elim
  | cons x t =>
    cases t with
    | cons _ _ => exact q1.elim
    | nil =>
    obtain ⟨a, rfl, ⟨xs, hq⟩, q⟩ := q1
    obtain ⟨u, rfl, ru⟩ := Vals.one r1
    cases ru
    obtain ⟨its, rv, pl, hz⟩ := I1.list hq
    refine call_enumerate_list pl.isList fun h' e1 l1 z1 k1 => ?_
    refine wpAny_pyIter_enum (s := { s1 with heap := h' }) e1 ?_
    have n1 : H1 (s1.heap.objs.size + 1) = none := I1.hok.fresh (Nat.le_succ _)
    have n0 : H1 s1.heap.objs.size = none := I1.hok.fresh (Nat.le_refl _)
    refine ⟨s1.heap.objs.size + 1, [s1.heap.objs.size + 1, s1.heap.objs.size], _, _, H1, rfl, I1.kept (t' := s1.toks) k1, turn_enum a (s1.heap.objs.size + 1) s1.heap.objs.size (Nat.ne_of_gt (Nat.lt_succ_self _)), ⟨⟨_, e1⟩, l1⟩, fun b hb => ?_, q⟩
    rcases List.mem_cons.mp hb with rfl | hb
    · exact I1.fpOk (Nat.le_succ _) n1
    · have z : b = s1.heap.objs.size := by simpa using hb
      subst z
      exact I1.fpOk (Nat.le_refl _) n0
noncomputable def enumD (xs : List D) : List D := xs.zipIdx.map fun p => .tup [.int (p.2 : Nat), p.1]
theorem enumD_get {xs : List D} {i : Nat} {d : D} (h : (enumD xs)[i]? = some d) : ∃ x, xs[i]? = some x ∧ d = .tup [.int i, x] := by
  unfold enumD at h
  rw [List.getElem?_map, List.getElem?_zipIdx] at h
  cases e : xs[i]? with
  | none => rw [e] at h; cases h
  | some x => rw [e] at h; cases h; exact ⟨x, rfl, by simp⟩
theorem enumD_len (xs : List D) : (enumD xs).length = xs.length := by simp [enumD]
theorem itok_enum {K : PySem.W.Frag} {G : Hp} {a : Addr} {vs : List V} {ds : List D} (ha : G a = some (.lst vs)) (r : Reps K G ds vs) : ItOk K G (Ite K a) (enumD ds) := by
  refine ⟨fun i H s hi => ?_, fun i H s hi => ⟨vs, .of (s _ _ ha), by rw [enumD_len] at hi; rw [← r.length]; exact hi⟩, fun i H x H' G1 d s1 s2 ⟨y, p, hall, hp, ev, eh⟩ hd => ?_⟩
  · rw [enumD_len] at hi
    have hi' : i < vs.length := by rw [← r.length]; exact hi
    exact ⟨vs, vs[i], .of (s _ _ ha), by simp [hi']⟩
  · obtain ⟨c, ec, rfl⟩ := enumD_get hd
    have hx := hall vs (.of (s2 _ _ (s1 _ _ ha)))
    obtain ⟨v, ev', rv⟩ := r.get ec
    rw [hx] at ev'; cases ev'
    subst ev eh
    refine ⟨upd G1 p (.tup [.int i, y]), Ext.alloc s2 hp, rep_tup.mpr ⟨p, _, rfl, upd_same, .cons (rep_int.mpr rfl) (.cons (Rep.mono (s1.trans (.alloc (s2.free hp))) c rv) .nil)⟩⟩
noncomputable def iE (f : DF) : DL := fun ρ => (iL f ρ).map enumD
theorem di_enum {elts : List Expr} {x1} {tpos p pos : Pos} (hg : Gl X "enumerate") (hm : X.mg "enumerate" = none) (h : PE X e (tP X.K own f)) (hs : starEach [e] X.env = [(false, eval e X.env)] := by rfl) (hs1 : starEach [e] X.env = (false, eval e X.env) :: starEach [] X.env := by rfl) :
    PI X (.Tuple elts x1 tpos) (.Call (.Name "enumerate" p) [e] [] pos) (tPI X.K own (iE f)) := (pi_enum hg hm h hs hs1).imp fun σ H R ⟨G, ρ, ds, gh, env, eq, k⟩ => by
  unfold iE at eq
  cases ef : iL f ρ with
  | none => rw [ef] at eq; cases eq
  | some xs =>
    rw [ef] at eq; cases eq
    refine ⟨G, ρ, _, gh, env, iL_some ef, fun v G1 H1 E1 r1 => ?_⟩
    obtain ⟨a, vs, rfl, ga, ra⟩ := rep_lst.mp r1
    exact ⟨a, rfl, ⟨vs, .of (E1.gh _ _ ga)⟩, k _ G1 H1 E1 (itok_enum ga ra)⟩
noncomputable def Its (x : Str) : It := ⟨fun i _ => i < x.cps.size, fun i H v H' => H' = H ∧ ∃ c, x.cps[i]? = some c ∧ v = .str ⟨#[c]⟩, fun i _ => x.cps.size ≤ i⟩
theorem turn_str {P : Program} {w : World} {K : PySem.W.Frag} {tg : Expr} (x : Str) (t : Tok) (it : Addr) : Turn P w K tg (Its x) [it] it (fun i h => h.IsStrIter it "str_ascii_iterator" x t i) where
  mem := by simp
  obj := fun i h st b hb => by
    have e : b = it := by simpa using hb
    subst e
    obtain ⟨o, e, c, d⟩ := st
    exact ⟨o, e, fun v z => by rw [d] at z; cases z⟩
  keep := fun i h h' st k => by
    obtain ⟨o, e, c, d⟩ := st
    exact ⟨o, k it (by simp) o e, c, d⟩
  item := by
    intro X hP hw hK hc i pins s σ H E I hf st hg
    subst hP hw hK
    obtain ⟨f0, f1, f2, f3, f4, f5⟩ := hf it (by simp)
    have hg : i < x.cps.size := hg
    refine wpAny_pyNext_ascii_item st (c := x.cps[i]) (by simp [hg]) fun h' st' sb => ?_
    have I1 : Inv X pins σ H { s with heap := h', toks := s.toks + 1 } := I.turned (fun b o hb e => (sb.2 b hb).trans e) f0 f1 f3 f4 f5
    obtain ⟨o, e, c, d⟩ := id st'
    exact ⟨_, rfl, go_of (s := { s with heap := h', toks := s.toks + 1 }) e c d (by decide) ⟨.str ⟨#[x.cps[i]]⟩, H, I1, ⟨_, rfl⟩, ⟨rfl, _, by simp [hg], rfl⟩, st', fun b hb => (hf b hb).1⟩⟩
  done := by
    intro X hP hw hK hc i pins s σ H E I hf st hg
    subst hP hw hK
    obtain ⟨f0, f1, f2, f3, f4, f5⟩ := hf it (by simp)
    have hg : x.cps.size ≤ i := hg
    exact wpAny_pyNext_ascii_end (I.ok.hd hc) st (by simp [hg]) fun h' eb => ⟨rfl, I.turned (t' := s.toks) (fun b o hb e => eb b o hb e) f0 f1 f3 f4 f5⟩
  self := fun _ _ _ _ _ st h => wpAny_pyIter_striter_ascii st h
noncomputable def iStrT (tl : TE) : TI := fun σ H R => tl σ H fun v H1 => ∃ x, v = .str x ∧ x.cps.all (· < 128) = true ∧ R (Its x) H1
theorem pi_str {tg l : Expr} {tl : TE} (hl : PE X l tl) : PI X tg l (iStrT tl) := by
  intro pins s σ H R I h
  refine thn (hl pins s σ H _ I h) fun v s1 ⟨x, H1, I1, r1, q1⟩ => ?_
  obtain ⟨z, e, ha, q⟩ := q1
  subst e
  obtain ⟨t, rfl⟩ := r1
  refine wpAny_pyIter_ascii ha ?_
  refine ⟨s1.heap.objs.size, [s1.heap.objs.size], _, _, H1, rfl, I1.kept (t' := s1.toks) fun b o e => Heap.get?_push_of_some _ e, turn_str z t _, ⟨_, Heap.get?_push_size _ rfl, rfl, rfl⟩, fun b hb => ?_, q⟩
  have e : b = s1.heap.objs.size := by simpa using hb
  subst e
  exact I1.fpOk (Nat.le_refl _) (I1.hok.fresh (Nat.le_refl _))
noncomputable def signsD (x : Str) : List D := x.cps.toList.map fun c => .str ⟨#[c]⟩
noncomputable def iS (f : DF) : DL := fun ρ => (f ρ).bind fun d => match d with | .str x => if x.cps.all (· < 128) = true then some (signsD x) else none | _ => none
theorem itok_str {K : PySem.W.Frag} {G : Hp} (x : Str) : ItOk K G (Its x) (signsD x) := by
  have hl : (signsD x).length = x.cps.size := by simp [signsD]
  refine ⟨fun i H s hi => by rw [hl] at hi; exact hi, fun i H s hi => by rw [hl] at hi; exact hi, fun i H v H' G1 d s1 s2 ⟨e, c, ec, ev⟩ hd => ?_⟩
  subst e ev
  refine ⟨G1, .refl s2, ?_⟩
  unfold signsD at hd
  rw [List.getElem?_map, Array.getElem?_toList, ec] at hd
  cases hd
  exact rep_str.mpr rfl
theorem di_str {tg : Expr} (h : PE X e (tP X.K own f)) : PI X tg e (tPI X.K own (iS f)) := (pi_str h).imp fun σ H R ⟨G, ρ, ds, gh, env, eq, k⟩ => by
  unfold iS at eq
  cases ef : f ρ with
  | none => rw [ef] at eq; cases eq
  | some d =>
    rw [ef] at eq
    cases d <;> simp only [Option.bind_some] at eq <;> try (cases eq; done)
    split at eq
    · cases eq
      rename_i x hx
      exact ⟨G, ρ, _, gh, env, ef, fun v G1 H1 E1 r1 => ⟨x, rep_str.mp r1, hx, k _ G1 H1 E1 (itok_str x)⟩⟩
    · cases eq
end
theorem hte_name {K : PySem.W.Frag} {own : List Nat} (i : Nat) (hi : i ∉ own := by decide) : ∀ v σ H Q, tTE K own (gN i) v σ H Q → gName i v σ H Q := fun v σ H Q ⟨G, ρ, d, ρ', gh, env, r, eq, k⟩ => by
  cases eq; exact k _ G H (.refl gh) (env.set hi r)
noncomputable def blkCheck (outer : Scope) (oN N : List Str) (src : List (Option Nat)) (scope : Scope) : Bool :=
  (scope.names.all fun y => scope.names.lookup y.1 == some y.2) && (scope.names.all fun y => y.2 != .free || (outer.names.lookup y.1 == some .cell || outer.names.lookup y.1 == some .free)) && (src.length == N.length) &&
  ((List.range src.length).all fun i => match src[i]?, N[i]? with | some (some j), some x => oN[j]? == some x && scope.names.lookup x == some .free | _, _ => true)
theorem blk_mk {X : Cx} {outer : Scope} {oN N : List Str} {src : List (Option Nat)} {scope : Scope} (hk : scope.kind = .function) (h : blkCheck outer oN N src scope = true) (e1 : X.env.scope = outer) (e2 : X.N = oN) : BlkScope X N src scope := by
  unfold blkCheck at h
  simp only [Bool.and_eq_true, List.all_eq_true, beq_iff_eq, Bool.or_eq_true] at h
  obtain ⟨⟨⟨h1, h2⟩, h3⟩, h4⟩ := h
  refine ⟨hk, fun y hy => h1 y hy, fun y hy hf => ?_, h3, fun i j x hs hN => ?_⟩
  · rw [e1]
    rcases h2 y hy with z | z
    · rw [hf] at z; exact absurd z (by decide)
    · exact z
  · have hi : i < src.length := (List.getElem?_eq_some_iff.mp hs).1
    have := h4 i (by simpa using hi)
    rw [hs, hN] at this
    simp only [Bool.and_eq_true, beq_iff_eq] at this
    rw [e2]; exact this
end L2
end
noncomputable section
set_option maxRecDepth 100000
set_option maxHeartbeats 4000000
namespace L2
open PySem PySem.Spec PyProof.Rows
noncomputable section
variable {prog : Program} {w : World} {A : Around} {s : Shared} {R : Result → Shared → Prop}
variable {I : Addr} {fp wr : List Addr} {G : Array GenState → Array GenState → Prop} {n : Nat} {P : Nat → Value → Prop} {St : Nat → Shared → Prop}
end
noncomputable section
variable {prog : Program} {w : World} {A : Around} {E : Value → Shared → Prop} {s : Shared}
variable {I : Addr} {fp wr : List Addr} {G : Array GenState → Array GenState → Prop} {n : Nat} {P : Nat → Value → Prop} {St : Nat → Shared → Prop}
end
noncomputable section
variable {X : Cx} {own : List Nat} {e : Expr} {f : DF} {p q pos pos' : Pos} {tl : TE}
end
end L2
end
noncomputable section
set_option maxRecDepth 100000
set_option maxHeartbeats 4000000
namespace L2
open PySem PySem.Spec PyProof.Rows
noncomputable abbrev DM := DEnv → Option (D × DEnv)
noncomputable section
variable {X : Cx} {B : Bs} {own : List Nat} {e : Expr} {es : List Expr} {pos : Pos}
noncomputable def m2 (o : D → D → Option D) (a b : DM) : DM := fun ρ => (a ρ).bind fun p => (b p.2).bind fun q => (o p.1 q.1).map fun d => (d, q.2)
variable {a b : Expr} {fa fb : DM}
end
end L2
end
noncomputable section
set_option maxRecDepth 100000
set_option maxHeartbeats 4000000
namespace L2
open PySem PySem.Spec PyProof.Rows
noncomputable section
variable {X : Cx} {B : Bs} {oL own own1 : List Nat} {e : Expr} {pos : Pos} {f : DM}
end
noncomputable section
variable {P : Program} {w : World} {K : PySem.W.Frag} {mg : Str → Option Value} {base : Heap}
end
end L2
end
noncomputable section
set_option maxRecDepth 100000
set_option maxHeartbeats 4000000
namespace L2
open PySem PySem.Spec PyProof.Rows
noncomputable section
variable {K : PySem.W.Frag} {B : Bs} {own : List Nat} {src : List (Option Nat)} {G H : Hp} {σ : St} {ρ : DEnv}
end
noncomputable section
variable {X : Cx} {B : Bs} {own oS : List Nat} {N : List Str} {src : List (Option Nat)} {scope : Scope} {tg iter elt : Expr} {f : DL} {τ : DTg} {fe : DM} {g : TG} {pos : Pos} {i0 j0 : Nat}
end
end L2
end
noncomputable section
set_option maxRecDepth 100000
set_option maxHeartbeats 4000000
namespace L2
open PySem PySem.Spec PyProof.Rows
noncomputable section
variable {X : Cx} {own : List Nat} {e : Expr} {pos p : Pos} {g : DF}
variable {f : DF}
end
end L2
end
noncomputable section
set_option maxRecDepth 100000
set_option maxHeartbeats 4000000
namespace L2
open PySem PySem.Spec PyProof.Rows
noncomputable section
variable {X : Cx} {own : List Nat} {e e' : Expr} {f f' : DF}
end
end L2
end
noncomputable section
set_option maxRecDepth 100000
set_option maxHeartbeats 4000000
namespace L2
open PySem PySem.Spec PyProof.Rows
noncomputable section
variable {X : Cx} {own : List Nat} {tg e e' : Expr} {f f' : DF} {p pos : Pos}
end
end L2
end
noncomputable section
set_option maxRecDepth 100000
set_option maxHeartbeats 4000000
namespace L2
open PySem PySem.Spec PyProof.Rows
noncomputable section
variable {X : Cx} {own : List Nat} {e o : Expr} {f g : DF} {p pos : Pos}
end
end L2
end
noncomputable section
set_option maxRecDepth 100000
set_option maxHeartbeats 4000000
namespace L2
open PySem PySem.Spec PyProof.Rows
noncomputable section
variable {X : Cx} {B : Bs} {own oL : List Nat}
end
end L2
end
noncomputable section
set_option maxRecDepth 100000
set_option maxHeartbeats 4000000
namespace L2
open PySem PySem.Spec PyProof.Rows
noncomputable def Lev (K : PySem.W.Frag) (G H : Hp) (l : Addr) (its : List D) (tail : List V) : Prop := ∃ vs, H l = some (.lst (vs ++ tail)) ∧ Reps K G its vs
noncomputable abbrev Zs := List (Str × List D)
noncomputable def Pile (K : PySem.W.Frag) (H0 G H : Hp) : Zs → List Addr → List D → Addr → List V → Prop
  | [], ls, L0, l0, tail => ls = [] ∧ Lev K G H l0 L0 tail
  | (nm, its) :: st, ls, L0, l0, tail => ∃ l r t, ls = l :: r ∧ Lev K G H l its tail ∧ H t = some (.tup [.str nm, .ref l]) ∧ G t = none ∧ H0 t = none ∧ Pile K H0 G H st r L0 l0 [.ref t]
noncomputable section
variable {K : PySem.W.Frag} {H0 G H G' H' : Hp}
theorem Ext.nil {a : Addr} {o : HO} (E : Ext G H G' H') (h : H a = some o) (g : G a = none) : G' a = none := by
  cases q : G' a with
  | none => rfl
  | some u =>
    rcases E.fr a u q with z | z
    · rw [g] at z; cases z
    · rw [h] at z; cases z
theorem Lev.ext {l : Addr} {its : List D} {tail : List V} (E : Ext G H G' H') (h : Lev K G H l its tail) : Lev K G' H' l its tail := by
  obtain ⟨vs, e, r⟩ := h
  exact ⟨vs, E.hh _ _ e, Reps.mono E.gg its r⟩
theorem Pile.ext (E : Ext G H G' H') : ∀ {st : Zs} {ls : List Addr} {L0 : List D} {l0 : Addr} {tail : List V}, Pile K H0 G H st ls L0 l0 tail → Pile K H0 G' H' st ls L0 l0 tail
  | [], ls, L0, l0, tail, h => ⟨h.1, h.2.ext E⟩
  | (nm, its) :: st, ls, L0, l0, tail, h => by
    obtain ⟨l, r, t, e, hl, ht, gt, h0, hp⟩ := h
    exact ⟨l, r, t, e, hl.ext E, E.hh _ _ ht, E.nil ht gt, h0, hp.ext E⟩
theorem Pile.upd {a : Addr} {xs ws : List V} (ha : H a = some (.lst xs)) : ∀ {st : Zs} {ls : List Addr} {L0 : List D} {l0 : Addr} {tail : List V}, a ∉ ls → a ≠ l0 → Pile K H0 G H st ls L0 l0 tail → Pile K H0 G (L2.upd H a (.lst ws)) st ls L0 l0 tail
  | [], ls, L0, l0, tail, n1, n2, h => by
    obtain ⟨e, vs, q, r⟩ := h
    exact ⟨e, vs, by rw [upd_ne (Ne.symm n2)]; exact q, r⟩
  | (nm, its) :: st, ls, L0, l0, tail, n1, n2, h => by
    obtain ⟨l, r, t, rfl, ⟨vs, q, rr⟩, ht, gt, h0, hp⟩ := h
    have nl : l ≠ a := fun z => n1 (by rw [z]; exact List.mem_cons_self)
    have nt : t ≠ a := ne_of ht ha (by intro z; cases z)
    exact ⟨l, r, t, rfl, ⟨vs, by rw [upd_ne nl]; exact q, rr⟩, by rw [upd_ne nt]; exact ht, gt, h0, hp.upd ha (fun z => n1 (List.mem_cons_of_mem _ z)) n2⟩
theorem Pile.lay {p : Addr} {o : HO} (s : Same G H) (hp : H p = none) {st : Zs} {ls : List Addr} {L0 : List D} {l0 : Addr} {tail : List V} (h : Pile K H0 G H st ls L0 l0 tail) : Pile K H0 G (L2.upd H p o) st ls L0 l0 tail := h.ext (Ext.lay s hp)
noncomputable def inner : Zs → List D → List D
  | [], L0 => L0
  | (_, its) :: _, _ => its
noncomputable def setI : Zs → List D → List D → Zs × List D
  | [], _, d => ([], d)
  | (nm, _) :: st, L0, d => ((nm, d) :: st, L0)
theorem Pile.inner : ∀ {st : Zs} {ls : List Addr} {L0 : List D} {l0 : Addr} {tail : List V}, Pile K H0 G H st ls L0 l0 tail → ∃ vs, H (ls.headD l0) = some (.lst (vs ++ tail)) ∧ Reps K G (L2.inner st L0) vs
  | [], ls, L0, l0, tail, h => by obtain ⟨rfl, vs, q, r⟩ := h; exact ⟨vs, q, r⟩
  | (nm, its) :: st, ls, L0, l0, tail, h => by
    obtain ⟨l, r, t, rfl, ⟨vs, q, rr⟩, _⟩ := h
    exact ⟨vs, q, rr⟩
theorem Pile.set {its' : List D} {vs' tail' : List V} (r' : Reps K G its' vs') : ∀ {st : Zs} {ls : List Addr} {L0 : List D} {l0 : Addr} {tail : List V}, (ls ++ [l0]).Nodup → Pile K H0 G H st ls L0 l0 tail →
    Pile K H0 G (L2.upd H (ls.headD l0) (.lst (vs' ++ tail'))) (setI st L0 its').1 ls (setI st L0 its').2 l0 tail'
  | [], ls, L0, l0, tail, nd, h => by
    obtain ⟨rfl, vs, q, r⟩ := h
    exact ⟨rfl, vs', upd_same, r'⟩
  | (nm, its) :: st, ls, L0, l0, tail, nd, h => by
    obtain ⟨l, r, t, rfl, ⟨vs, q, rr⟩, ht, gt, h0, hp⟩ := h
    have nt : t ≠ l := ne_of ht q (by intro z; cases z)
    have nd' := List.nodup_cons.mp nd
    refine ⟨l, r, t, rfl, ⟨vs', upd_same, r'⟩, by rw [upd_ne (show t ≠ (l :: r).headD l0 from nt)]; exact ht, gt, h0, Pile.upd (a := l) q (fun z => nd'.1 (List.mem_append_left _ z)) (fun z => nd'.1 (by rw [z]; simp)) hp⟩
theorem Pile.close {nm : Str} {its : List D} {st : Zs} {ls : List Addr} {L0 : List D} {l0 : Addr} (s : Same G H) (nd : (ls ++ [l0]).Nodup) (gl : ∀ a ∈ ls ++ [l0], G a = none ∧ H0 a = none) (h : Pile K H0 G H ((nm, its) :: st) ls L0 l0 []) :
    ∃ l r G', ls = l :: r ∧ Same G G' ∧ Same G' H ∧ (∀ b o, G' b = some o → G b = some o ∨ H0 b = none) ∧ (∀ a ∈ r ++ [l0], G' a = none) ∧ (∀ a o, H a = some (.lst o) → a ∉ ls → G a = none → G' a = none) ∧
      Pile K H0 G' H (setI st L0 (L2.inner st L0 ++ [.tup [.str nm, .lst its]])).1 r (setI st L0 (L2.inner st L0 ++ [.tup [.str nm, .lst its]])).2 l0 [] := by
  obtain ⟨l, r, t, rfl, ⟨vs, q, rr⟩, ht, gt, h0, hp⟩ := h
  rw [List.append_nil] at q
  have ntl : t ≠ l := ne_of ht q (by intro z; cases z)
  have nd' := List.nodup_cons.mp nd
  have gl0 := gl l (by simp)
  have s1 : Same G (L2.upd G l (.lst vs)) := .alloc gl0.1
  have gt1 : L2.upd G l (.lst vs) t = none := by rw [upd_ne ntl]; exact gt
  have s2 : Same (L2.upd G l (.lst vs)) (L2.upd (L2.upd G l (.lst vs)) t (.tup [.str nm, .ref l])) := .alloc gt1
  have sub : Same (L2.upd (L2.upd G l (.lst vs)) t (.tup [.str nm, .ref l])) H := fun b o e => by
    by_cases h1 : b = t
    · subst h1; rw [upd_same] at e; cases e; exact ht
    · rw [upd_ne h1] at e
      by_cases h2 : b = l
      · subst h2; rw [upd_same] at e; cases e; exact q
      · rw [upd_ne h2] at e; exact s _ _ e
  have rep : Rep K (L2.upd (L2.upd G l (.lst vs)) t (.tup [.str nm, .ref l])) (.tup [.str nm, .lst its]) (.ref t) :=
    rep_tup.mpr ⟨t, _, rfl, upd_same, .cons (rep_str.mpr rfl) (.cons (rep_lst.mpr ⟨l, vs, rfl, by rw [upd_ne (Ne.symm ntl), upd_same], Reps.mono (s1.trans s2) its rr⟩) .nil)⟩
  have other : ∀ a o, H a = some (.lst o) → a ≠ l → G a = none → L2.upd (L2.upd G l (.lst vs)) t (.tup [.str nm, .ref l]) a = none := fun a o e n g => by
    have : a ≠ t := fun z => by subst z; rw [ht] at e; cases e
    rw [upd_ne this, upd_ne n]; exact g
  have grow : ∀ {st : Zs} {r : List Addr} {tail : List V}, l ∉ r → Pile K H0 G H st r L0 l0 tail → Pile K H0 (L2.upd (L2.upd G l (.lst vs)) t (.tup [.str nm, .ref l])) H st r L0 l0 tail := fun {st} => by
    induction st with
    | nil => intro r tail _ h; obtain ⟨e, us, q', r'⟩ := h; exact ⟨e, us, q', Reps.mono (s1.trans s2) _ r'⟩
    | cons c st ih =>
      intro r tail nl h
      obtain ⟨nm', its'⟩ := c
      obtain ⟨l', r', t', rfl, ⟨us, q', rr'⟩, ht', gt', h0', hp'⟩ := h
      have n1 : t' ≠ l := ne_of ht' q (by intro z; cases z)
      have n2 : t' ≠ t := fun z => by
        subst z
        rw [ht] at ht'
        have : l = l' := by injection ht' with z; injection z with z; injection z with _ z; injection z with z; injection z
        exact nl (by rw [this]; exact List.mem_cons_self)
      exact ⟨l', r', t', rfl, ⟨us, q', Reps.mono (s1.trans s2) _ rr'⟩, ht', by rw [upd_ne n2, upd_ne n1]; exact gt', h0', ih (fun z => nl (List.mem_cons_of_mem _ z)) hp'⟩
  have hp2 := grow (fun z => nd'.1 (List.mem_append_left _ z)) hp
  refine ⟨l, r, _, rfl, s1.trans s2, sub, fun b o e => ?_, fun a ha => ?_, fun a o e n g => other a o e (fun z => n (by rw [z]; exact List.mem_cons_self)) g, ?_⟩
  · by_cases h1 : b = t
    · subst h1; exact .inr h0
    · rw [upd_ne h1] at e
      by_cases h2 : b = l
      · subst h2; exact .inr gl0.2
      · rw [upd_ne h2] at e; exact .inl e
  · have nal : a ≠ l := fun z => nd'.1 (z ▸ ha)
    have : a ≠ t := fun z => by
      subst z
      have isl : ∀ {st : Zs} {r : List Addr} {tail : List V}, Pile K H0 G H st r L0 l0 tail → ∀ a ∈ r ++ [l0], ∃ o, H a = some (.lst o) := fun {st} => by
        induction st with
        | nil => intro r tail h a ha; obtain ⟨rfl, us, q', _⟩ := h; have : a = l0 := by simpa using ha
                 subst this; exact ⟨_, q'⟩
        | cons c st ih =>
          intro r tail h a ha
          obtain ⟨nm', its'⟩ := c
          obtain ⟨l', r', t', rfl, ⟨us, q', rr'⟩, ht', gt', h0', hp'⟩ := h
          rcases List.mem_cons.mp ha with rfl | ha
          · exact ⟨_, q'⟩
          · exact ih hp' a ha
      obtain ⟨o, z⟩ := isl hp a ha
      rw [ht] at z; cases z
    rw [upd_ne this, upd_ne nal]
    exact (gl a (List.mem_cons_of_mem _ ha)).1
  · cases st with
    | nil =>
      obtain ⟨e, us, q', r'⟩ := hp2
      exact ⟨e, us ++ [.ref t], by rw [List.append_nil]; exact q', r'.append (.cons rep .nil)⟩
    | cons c st =>
      obtain ⟨nm', its'⟩ := c
      obtain ⟨l', r', t', rfl, ⟨us, q', rr'⟩, rest⟩ := hp2
      exact ⟨l', r', t', rfl, ⟨us ++ [.ref t], by rw [List.append_nil]; exact q', rr'.append (.cons rep .nil)⟩, rest⟩
end
noncomputable def part (nm : Str) (its : List D) : D := .tup [.str nm, .lst its]
noncomputable def zput (d : D) (st : Zs) (L0 : List D) : Zs × List D := setI st L0 (inner st L0 ++ [d])
noncomputable def sOpen : Str := Str.ofString "open"
noncomputable def sText : Str := Str.ofString "text"
noncomputable def sClose : Str := Str.ofString "close"
noncomputable def zstep (z : Zs × List D) (s : D) : Option (Zs × List D) := match s with
  | .tup [.str k, .str x] =>
    if k = sOpen then (if z.1 = [] ∧ z.2 ≠ [] then none else some ((x, []) :: z.1, z.2))
    else if k = sText then (if z.1 = [] then none else some (zput (.str x) z.1 z.2)) else none
  | .tup [.str k] => if k = sClose then (match z.1 with | [] => none | (nm, its) :: r => some (zput (part nm its) r z.2)) else none
  | _ => none
noncomputable def zrun : List D → Zs × List D → Option (Zs × List D)
  | [], z => some z
  | s :: ss, z => (zstep z s).bind (zrun ss)
noncomputable def closeUp (d : D) : Zs → List D → List D
  | [], L0 => L0 ++ [d]
  | (nm, its) :: st, L0 => closeUp (part nm (its ++ [d])) st L0
noncomputable def zclose : Zs → List D → List D
  | [], L0 => L0
  | (nm, its) :: st, L0 => closeUp (part nm its) st L0
theorem zclose_put (nm : Str) (its : List D) (st : Zs) (L0 : List D) : zclose ((nm, its) :: st) L0 = zclose (zput (part nm its) st L0).1 (zput (part nm its) st L0).2 := by
  cases st with
  | nil => rfl
  | cons c st => obtain ⟨a, b⟩ := c; rfl
theorem Pile.closeAll {K : PySem.W.Frag} {H0 H : Hp} {l0 : Addr} : ∀ (n : Nat) {G : Hp} {st : Zs} {ls : List Addr} {L0 : List D}, st.length = n → Same G H → (ls ++ [l0]).Nodup → (∀ a ∈ ls ++ [l0], G a = none ∧ H0 a = none) → Pile K H0 G H st ls L0 l0 [] →
    ∃ G' vs, Same G G' ∧ Same G' H ∧ (∀ b o, G' b = some o → G b = some o ∨ H0 b = none) ∧ H l0 = some (.lst vs) ∧ Reps K G' (zclose st L0) vs
  | 0, G, st, ls, L0, hn, s, nd, gl, h => by
    have : st = [] := List.length_eq_zero_iff.mp hn
    subst this
    obtain ⟨e, vs, q, r⟩ := h
    exact ⟨G, vs, Same.refl _, s, fun _ _ e => .inl e, by rw [← List.append_nil vs]; exact q, r⟩
  | n + 1, G, st, ls, L0, hn, s, nd, gl, h => by
    cases st with
    | nil => cases hn
    | cons c st =>
      obtain ⟨nm, its⟩ := c
      obtain ⟨l, r, G', rfl, s1, s2, fr, g', _, h'⟩ := h.close s nd gl
      have len : (setI st L0 (L2.inner st L0 ++ [.tup [.str nm, .lst its]])).1.length = n := by
        cases st with
        | nil => simp [setI] at hn ⊢; omega
        | cons c st => obtain ⟨a, b⟩ := c; simpa [setI] using hn
      obtain ⟨G2, vs, t1, t2, fr2, e, rr⟩ := Pile.closeAll n len s2 (List.nodup_cons.mp nd).2 (fun a ha => ⟨g' a ha, (gl a (List.mem_cons_of_mem _ ha)).2⟩) h'
      refine ⟨G2, vs, s1.trans t1, t2, fun b o q => ?_, e, ?_⟩
      · rcases fr2 b o q with z | z
        · exact fr b o z
        · exact .inr z
      · rw [zclose_put]; exact rr
structure ZLen (i : Nat) (z : Zs × List D) : Prop where
  st : z.1.length ≤ i
  l0 : z.2.length ≤ i
  all : ∀ p ∈ z.1, p.2.length ≤ i
theorem ZLen.inner {i : Nat} {z : Zs × List D} (h : ZLen i z) : (L2.inner z.1 z.2).length ≤ i := by
  obtain ⟨st, L0⟩ := z
  cases st with
  | nil => exact h.l0
  | cons c st => exact h.all c List.mem_cons_self
theorem ZLen.put {i : Nat} {st : Zs} {L0 : List D} (h : ZLen i (st, L0)) (d : D) : ZLen (i + 1) (zput d st L0) := by
  have hi := h.inner
  have h1 : st.length ≤ i := h.st
  have h2 : L0.length ≤ i := h.l0
  cases st with
  | nil => exact ⟨by simp [zput, setI], by simp [zput, setI, L2.inner]; omega, fun p hp => by simp [zput, setI] at hp⟩
  | cons c st =>
    obtain ⟨a, b⟩ := c
    refine ⟨by simp [zput, setI] at h1 ⊢; omega, by simp [zput, setI]; omega, fun p hp => ?_⟩
    simp only [zput, setI, L2.inner] at hp
    rcases List.mem_cons.mp hp with rfl | hp
    · have := h.all (a, b) List.mem_cons_self
      simp at this ⊢; omega
    · have := h.all p (List.mem_cons_of_mem _ hp); omega
theorem ZLen.step {i : Nat} {z z' : Zs × List D} {s : D} (h : ZLen i z) (e : zstep z s = some z') : ZLen (i + 1) z' := by
  obtain ⟨st, L0⟩ := z
  unfold zstep at e
  split at e
  · split at e
    · split at e
      · cases e
      · cases e
        refine ⟨by have := h.st; simp at this ⊢; omega, by have := h.l0; simp at this ⊢; omega, fun p hp => ?_⟩
        rcases List.mem_cons.mp hp with rfl | hp
        · simp
        · have := h.all p hp; omega
    · split at e
      · split at e
        · cases e
        · cases e; exact h.put _
      · cases e
  · split at e
    · split at e
      · cases e
      · cases e
        rename_i nm its r hr
        have hr : st = (nm, its) :: r := hr
        subst hr
        have : ZLen i (r, L0) := ⟨by have := h.st; simp at this ⊢; omega, h.l0, fun p hp => h.all p (List.mem_cons_of_mem _ hp)⟩
        exact this.put _
    · cases e
  · cases e
theorem zstep_cases {z z' : Zs × List D} {s : D} (e : zstep z s = some z') : (∃ x, s = .tup [.str sOpen, .str x] ∧ ¬ (z.1 = [] ∧ z.2 ≠ []) ∧ z' = ((x, []) :: z.1, z.2)) ∨
    (∃ x, s = .tup [.str sText, .str x] ∧ z.1 ≠ [] ∧ z' = zput (.str x) z.1 z.2) ∨ (∃ nm its r, s = .tup [.str sClose] ∧ z.1 = (nm, its) :: r ∧ z' = zput (part nm its) r z.2) := by
  unfold zstep at e
  split at e
  · split at e
    · rename_i k x hk
      subst hk
      split at e
      · cases e
      · cases e; rename_i h; exact .inl ⟨x, rfl, h, rfl⟩
    · split at e
      · rename_i k x _ hk
        subst hk
        split at e
        · cases e
        · cases e; rename_i h; exact .inr (.inl ⟨x, rfl, h, rfl⟩)
      · cases e
  · split at e
    · rename_i k hk
      subst hk
      split at e
      · cases e
      · cases e
        rename_i nm its r h
        exact .inr (.inr ⟨nm, its, r, rfl, h, rfl⟩)
    · cases e
  · cases e
theorem Pile.len {K : PySem.W.Frag} {H0 G H : Hp} : ∀ {st : Zs} {ls : List Addr} {L0 : List D} {l0 : Addr} {tail : List V}, Pile K H0 G H st ls L0 l0 tail → ls.length = st.length
  | [], ls, L0, l0, tail, h => by rw [h.1]; rfl
  | (nm, its) :: st, ls, L0, l0, tail, h => by
    obtain ⟨l, r, t, rfl, _, _, _, _, hp⟩ := h
    simp [Pile.len hp]
theorem sOT : ¬ (sOpen = sText) := by decide +kernel
theorem sOC : ¬ (sOpen = sClose) := by decide +kernel
theorem sTC : ¬ (sText = sClose) := by decide +kernel
theorem last_cur (ls : List Addr) (l0 : Addr) : atI ((ls ++ [l0]).reverse.map V.ref) (-1) = some (.ref (ls.headD l0)) := by
  cases ls with
  | nil => exact atI_last [] _
  | cons l r =>
    have : ((l :: r ++ [l0]).reverse.map V.ref) = ((r ++ [l0]).reverse.map V.ref) ++ [.ref l] := by simp
    rw [this]; exact atI_last _ _
theorem Pile.top {K : PySem.W.Frag} {H0 G H : Hp} : ∀ {st : Zs} {ls : List Addr} {L0 : List D} {l0 : Addr} {tail : List V}, Pile K H0 G H st ls L0 l0 tail → ∃ vs, H l0 = some (.lst vs) ∧ (decide ((0 : Int) < (vs.length : Int)) = decide (¬ (L0 = [] ∧ st = [] ∧ tail = [])))
  | [], ls, L0, l0, tail, h => by
    obtain ⟨_, vs, q, r⟩ := h
    refine ⟨_, q, ?_⟩
    have hl : (vs ++ tail).length = L0.length + tail.length := by rw [List.length_append, r.length]
    rw [hl]
    cases L0 with
    | nil => cases tail with
      | nil => rfl
      | cons a b => exact decide_eq_decide.mpr ⟨fun _ z => by simp at z, fun _ => by simp only [List.length_cons]; omega⟩
    | cons a b => exact decide_eq_decide.mpr ⟨fun _ z => by simp at z, fun _ => by simp only [List.length_cons]; omega⟩
  | (nm, its) :: st, ls, L0, l0, tail, h => by
    obtain ⟨l, r, t, rfl, _, _, _, _, hp⟩ := h
    obtain ⟨vs, q, e⟩ := Pile.top hp
    exact ⟨vs, q, by rw [e]; simp⟩
theorem Pile.isl {K : PySem.W.Frag} {H0 G H : Hp} : ∀ {st : Zs} {r : List Addr} {L0 : List D} {l0 : Addr} {tail : List V}, Pile K H0 G H st r L0 l0 tail → ∀ a ∈ r ++ [l0], ∃ o, H a = some (.lst o)
  | [], r, L0, l0, tail, h, a, ha => by
    obtain ⟨rfl, us, q', _⟩ := h
    have : a = l0 := by simpa using ha
    subst this; exact ⟨_, q'⟩
  | (nm, its) :: st, r, L0, l0, tail, h, a, ha => by
    obtain ⟨l', r', t', rfl, ⟨us, q', rr'⟩, ht', gt', h0', hp'⟩ := h
    rcases List.mem_cons.mp ha with rfl | ha
    · exact ⟨_, q'⟩
    · exact Pile.isl hp' a ha
theorem head_mem (ls : List Addr) (l0 : Addr) : ls.headD l0 ∈ ls ++ [l0] := by cases ls <;> simp
end L2
end
noncomputable section
set_option maxRecDepth 100000
set_option maxHeartbeats 4000000
namespace L2
open PySem PySem.Spec PyProof.Rows
structure Nd where
  nm : Str
  tx : List D
  kd : List Int
  par : Int
noncomputable abbrev nd0 (x : Str) (p : Int) : Nd := { nm := x, tx := [], kd := [], par := p }
structure NodesR (K : PySem.W.Frag) (G H0 H : Hp) (Nn : Addr) (cs : List (Addr × Addr × Addr)) (ns : List Nd) : Prop where
  lst : H Nn = some (.lst (cs.map fun c => .ref c.1))
  new0 : H0 Nn = none
  len : cs.length = ns.length
  tup : ∀ (i : Nat) c n, cs[i]? = some c → ns[i]? = some n → H c.1 = some (.tup [.str n.nm, .ref c.2.1, .ref c.2.2, .int n.par]) ∧ H0 c.1 = none
  txs : ∀ (i : Nat) c n, cs[i]? = some c → ns[i]? = some n → (∃ vs, H c.2.1 = some (.lst vs) ∧ Reps K G n.tx vs) ∧ H0 c.2.1 = none ∧ c.2.1 ≠ Nn
  kds : ∀ (i : Nat) c n, cs[i]? = some c → ns[i]? = some n → H c.2.2 = some (.lst (n.kd.map V.int)) ∧ H0 c.2.2 = none ∧ c.2.2 ≠ Nn
  inj1 : ∀ (i j : Nat) c d, cs[i]? = some c → cs[j]? = some d → c.2.1 = d.2.1 → i = j
  inj2 : ∀ (i j : Nat) c d, cs[i]? = some c → cs[j]? = some d → c.2.2 = d.2.2 → i = j
  inj3 : ∀ (i j : Nat) c d, cs[i]? = some c → cs[j]? = some d → c.2.1 ≠ d.2.2
noncomputable section
variable {K : PySem.W.Frag} {G H0 H : Hp} {Nn : Addr} {cs : List (Addr × Addr × Addr)} {ns : List Nd}
theorem NodesR.at (h : NodesR K G H0 H Nn cs ns) {i : Nat} {n : Nd} (e : ns[i]? = some n) : ∃ c, cs[i]? = some c := by
  have : i < cs.length := by rw [h.len]; exact (List.getElem?_eq_some_iff.mp e).1
  exact ⟨_, List.getElem?_eq_getElem this⟩
theorem NodesR.atc (h : NodesR K G H0 H Nn cs ns) {i : Nat} {c} (e : cs[i]? = some c) : ∃ n, ns[i]? = some n := by
  have : i < ns.length := by rw [← h.len]; exact (List.getElem?_eq_some_iff.mp e).1
  exact ⟨_, List.getElem?_eq_getElem this⟩
theorem NodesR.grow {H' : Hp} (h : NodesR K G H0 H Nn cs ns) (s : Same H H') : NodesR K G H0 H' Nn cs ns :=
  ⟨s _ _ h.lst, h.new0, h.len, fun i c n e f => ⟨s _ _ (h.tup i c n e f).1, (h.tup i c n e f).2⟩, fun i c n e f => by
    obtain ⟨⟨vs, q, r⟩, z⟩ := h.txs i c n e f
    exact ⟨⟨vs, s _ _ q, r⟩, z⟩, fun i c n e f => ⟨s _ _ (h.kds i c n e f).1, (h.kds i c n e f).2⟩, h.inj1, h.inj2, h.inj3⟩
theorem NodesR.push {a b t : Addr} {x : Str} {par : Int} (h : NodesR K G H0 H Nn cs ns) (s0 : Same H0 H) (ha : H a = none) (hb : upd H a (.lst []) b = none) (ht : upd (upd H a (.lst [])) b (.lst []) t = none) :
    NodesR K G H0 (upd (upd (upd (upd H a (.lst [])) b (.lst [])) t (.tup [.str x, .ref a, .ref b, .int par])) Nn (.lst (cs.map (fun c => .ref c.1) ++ [.ref t]))) Nn (cs ++ [(t, a, b)]) (ns ++ [nd0 x par]) := by
  have nab : b ≠ a := fun z => by rw [z, upd_same] at hb; cases hb
  have hb' : H b = none := by rw [upd_ne nab] at hb; exact hb
  have ntb : t ≠ b := fun z => by rw [z, upd_same] at ht; cases ht
  have nta : t ≠ a := fun z => by rw [upd_ne ntb, z, upd_same] at ht; cases ht
  have ht' : H t = none := by rw [upd_ne ntb, upd_ne nta] at ht; exact ht
  have nN : ∀ {p : Addr}, H p = none → p ≠ Nn := fun {p} z e => by rw [e, h.lst] at z; cases z
  have old : ∀ {p : Addr} {o : HO}, H p = some o → p ≠ Nn → upd (upd (upd (upd H a (.lst [])) b (.lst [])) t (.tup [.str x, .ref a, .ref b, .int par])) Nn (.lst (cs.map (fun c => .ref c.1) ++ [.ref t])) p = some o := fun {p o} e n => by
    rw [upd_ne n, upd_ne (ne_of_none e ht'), upd_ne (ne_of_none e hb'), upd_ne (ne_of_none e ha)]; exact e
  have getc : ∀ {i : Nat} {c}, (cs ++ [(t, a, b)])[i]? = some c → (i < cs.length ∧ cs[i]? = some c) ∨ (i = cs.length ∧ c = (t, a, b)) := fun {i c} e => by
    by_cases hi : i < cs.length
    · rw [List.getElem?_append_left hi] at e; exact .inl ⟨hi, e⟩
    · have hl := (List.getElem?_eq_some_iff.mp e).1
      have ei : i = cs.length := by simp at hl; omega
      subst ei
      simp at e; exact .inr ⟨rfl, e.symm⟩
  have getn : ∀ {i : Nat} {n}, (ns ++ [nd0 x par])[i]? = some n → (i < ns.length ∧ ns[i]? = some n) ∨ (i = ns.length ∧ n = nd0 x par) := fun {i c} e => by
    by_cases hi : i < ns.length
    · rw [List.getElem?_append_left hi] at e; exact .inl ⟨hi, e⟩
    · have hl := (List.getElem?_eq_some_iff.mp e).1
      have ei : i = ns.length := by simp at hl; omega
      subst ei
      simp at e; exact .inr ⟨rfl, e.symm⟩
  have hl := h.len
  have da : ∀ {i : Nat} {c}, cs[i]? = some c → H c.2.1 ≠ none ∧ H c.2.2 ≠ none := fun {i c} e => by
    obtain ⟨n, en⟩ := h.atc e
    obtain ⟨⟨vs, q, _⟩, _⟩ := h.txs i c n e en
    have q2 := (h.kds i c n e en).1
    exact ⟨by rw [q]; simp, by rw [q2]; simp⟩
  refine ⟨by rw [upd_same]; simp, h.new0, by simp [hl], fun i c n e f => ?_, fun i c n e f => ?_, fun i c n e f => ?_, fun i j c d e f z => ?_, fun i j c d e f z => ?_, fun i j c d e f z => ?_⟩
  · rcases getc e with ⟨hi, e⟩ | ⟨hi, rfl⟩ <;> rcases getn f with ⟨hj, f⟩ | ⟨hj, rfl⟩
    · obtain ⟨q, z⟩ := h.tup i c n e f
      exact ⟨old q (ne_of q h.lst (by intro z; cases z)), z⟩
    · omega
    · omega
    · exact ⟨by rw [upd_ne (nN ht'), upd_same], s0.free ht'⟩
  · rcases getc e with ⟨hi, e⟩ | ⟨hi, rfl⟩ <;> rcases getn f with ⟨hj, f⟩ | ⟨hj, rfl⟩
    · obtain ⟨⟨vs, q, r⟩, z1, z2⟩ := h.txs i c n e f
      exact ⟨⟨vs, old q z2, r⟩, z1, z2⟩
    · omega
    · omega
    · exact ⟨⟨[], by rw [upd_ne (nN ha), upd_ne nta.symm, upd_ne nab.symm, upd_same], .nil⟩, s0.free ha, nN ha⟩
  · rcases getc e with ⟨hi, e⟩ | ⟨hi, rfl⟩ <;> rcases getn f with ⟨hj, f⟩ | ⟨hj, rfl⟩
    · obtain ⟨q, z1, z2⟩ := h.kds i c n e f
      exact ⟨old q z2, z1, z2⟩
    · omega
    · omega
    · exact ⟨by rw [upd_ne (nN hb'), upd_ne ntb.symm, upd_same]; rfl, s0.free hb', nN hb'⟩
  · rcases getc e with ⟨hi, e⟩ | ⟨hi, rfl⟩ <;> rcases getc f with ⟨hj, f⟩ | ⟨hj, rfl⟩
    · exact h.inj1 i j c d e f z
    · exact absurd (z ▸ ha) (da e).1
    · exact absurd (z.symm ▸ ha) (da f).1
    · omega
  · rcases getc e with ⟨hi, e⟩ | ⟨hi, rfl⟩ <;> rcases getc f with ⟨hj, f⟩ | ⟨hj, rfl⟩
    · exact h.inj2 i j c d e f z
    · exact absurd (z ▸ hb') (da e).2
    · exact absurd (z.symm ▸ hb') (da f).2
    · omega
  · rcases getc e with ⟨hi, e⟩ | ⟨hi, rfl⟩ <;> rcases getc f with ⟨hj, f⟩ | ⟨hj, rfl⟩
    · exact h.inj3 i j c d e f z
    · exact absurd (z ▸ hb') (da e).1
    · exact absurd (z.symm ▸ ha) (da f).2
    · exact nab z.symm
end
end L2
end
noncomputable section
set_option maxRecDepth 100000
set_option maxHeartbeats 4000000
namespace L2
open PySem PySem.Spec PyProof.Rows
theorem ne_mem {q a : Addr} {ts : List Addr} {i : Nat} (h : q ∉ ts) (e : ts[i]? = some a) : a ≠ q := fun z => by subst z; exact h (List.mem_of_getElem? e)
structure Ly where
  names : List D
  pars : List Int
  texts : List (List D)
  row : List Int
structure LayR (K : PySem.W.Frag) (G H0 H : Hp) (A C dx n p t R : Addr) (ts : List Addr) (z : Ly) : Prop where
  obj : H A = some (.ins C dx [("names", .ref n), ("parents", .ref p), ("texts", .ref t)])
  nm : ∃ vs, H n = some (.lst vs) ∧ Reps K G z.names vs
  pa : H p = some (.lst (z.pars.map V.int))
  tx : H t = some (.lst (ts.map V.ref))
  tl : ts.length = z.texts.length
  te : ∀ (i : Nat) a ds, ts[i]? = some a → z.texts[i]? = some ds → ∃ vs, H a = some (.lst vs) ∧ Reps K G ds vs
  ro : H R = some (.lst (z.row.map V.int))
  nd : (n :: p :: t :: R :: ts).Nodup
  new0 : ∀ a ∈ A :: n :: p :: t :: R :: ts, H0 a = none ∧ G a = none
noncomputable section
variable {K : PySem.W.Frag} {G H0 H : Hp} {A C dx n p t R : Addr} {ts : List Addr} {z : Ly}
theorem LayR.apart (L : LayR K G H0 H A C dx n p t R ts z) : n ≠ p ∧ n ≠ t ∧ n ≠ R ∧ n ∉ ts ∧ p ≠ t ∧ p ≠ R ∧ p ∉ ts ∧ t ≠ R ∧ t ∉ ts ∧ R ∉ ts ∧ ts.Nodup := by
  have := L.nd
  simp only [List.nodup_cons, List.mem_cons, not_or] at this
  obtain ⟨⟨a1, a2, a3, a4⟩, ⟨b1, b2, b3⟩, ⟨c1, c2⟩, d1, e⟩ := this
  exact ⟨a1, a2, a3, a4, b1, b2, b3, c1, c2, d1, e⟩
theorem LayR.nA (L : LayR K G H0 H A C dx n p t R ts z) {q : Addr} {vs : List V} (h : H q = some (.lst vs)) : A ≠ q := fun e => by
  subst e; rw [L.obj] at h; cases h
theorem LayR.par (L : LayR K G H0 H A C dx n p t R ts z) (x : Int) : LayR K G H0 (upd H p (.lst (z.pars.map V.int ++ [.int x]))) A C dx n p t R ts { z with pars := z.pars ++ [x] } := by
  obtain ⟨a1, a2, a3, a4, b1, b2, b3, c1, c2, d1, e⟩ := L.apart
  obtain ⟨vs, hn, rn⟩ := L.nm
  refine ⟨by rw [upd_ne (L.nA L.pa)]; exact L.obj, ⟨vs, by rw [upd_ne a1]; exact hn, rn⟩, by rw [upd_same]; simp, by rw [upd_ne b1.symm]; exact L.tx, L.tl, fun i a ds ea ed => ?_, by rw [upd_ne b2.symm]; exact L.ro, L.nd, L.new0⟩
  obtain ⟨vs, h, r⟩ := L.te i a ds ea ed
  exact ⟨vs, by rw [upd_ne (ne_mem b3 ea)]; exact h, r⟩
theorem LayR.name (L : LayR K G H0 H A C dx n p t R ts z) {vs : List V} (hv : H n = some (.lst vs)) {d : D} {v : V} (r : Rep K G d v) : LayR K G H0 (upd H n (.lst (vs ++ [v]))) A C dx n p t R ts { z with names := z.names ++ [d] } := by
  obtain ⟨a1, a2, a3, a4, b1, b2, b3, c1, c2, d1, e⟩ := L.apart
  obtain ⟨vs', hn, rn⟩ := L.nm
  rw [hv] at hn; cases hn
  refine ⟨by rw [upd_ne (L.nA hv)]; exact L.obj, ⟨_, upd_same, rn.append (.cons r .nil)⟩, by rw [upd_ne a1.symm]; exact L.pa, by rw [upd_ne a2.symm]; exact L.tx, L.tl, fun i a ds ea ed => ?_, by rw [upd_ne a3.symm]; exact L.ro, L.nd, L.new0⟩
  obtain ⟨vs, h, r⟩ := L.te i a ds ea ed
  exact ⟨vs, by rw [upd_ne (ne_mem a4 ea)]; exact h, r⟩
end
end L2
end
noncomputable section
set_option maxRecDepth 100000
set_option maxHeartbeats 4000000
namespace L2
open PySem PySem.Spec PyProof.Rows
theorem for_inv {τ : DTg} {g : DG} (I : Nat → DEnv → Prop) : ∀ (ds : List D) (i : Nat) (ρ : DEnv), I i ρ → (∀ j d ρ, ds[j]? = some d → I (i + j) ρ → ∃ ρ1 ρ2, τ d ρ = some ρ1 ∧ g ρ1 = some (.nx ρ2) ∧ I (i + j + 1) ρ2) →
    ∃ ρ', forD τ g ds ρ = some (.nx ρ') ∧ I (i + ds.length) ρ'
  | [], i, ρ, h, _ => ⟨ρ, rfl, h⟩
  | d :: ds, i, ρ, h, st => by
    obtain ⟨ρ1, ρ2, e1, e2, h2⟩ := st 0 d ρ rfl h
    obtain ⟨ρ', e, h'⟩ := for_inv I ds (i + 1) ρ2 h2 fun j d ρ hj hI => by
      have := st (j + 1) d ρ (by simpa using hj) (by rw [show i + (j + 1) = i + 1 + j by omega]; exact hI)
      rw [show i + (j + 1) + 1 = i + 1 + j + 1 by omega] at this
      exact this
    refine ⟨ρ', ?_, by rw [show i + (d :: ds).length = i + 1 + ds.length by simp; omega]; exact h'⟩
    unfold forD
    rw [e1]
    simp only [Option.bind_some, e2]
    exact e
theorem for_inv0 {τ : DTg} {g : DG} (I : Nat → DEnv → Prop) {ds : List D} {ρ : DEnv} (h0 : I 0 ρ) (st : ∀ j d ρ, ds[j]? = some d → I j ρ → ∃ ρ1 ρ2, τ d ρ = some ρ1 ∧ g ρ1 = some (.nx ρ2) ∧ I (j + 1) ρ2) : ∃ ρ', forD τ g ds ρ = some (.nx ρ') ∧ I ds.length ρ' := by
  have := for_inv (τ := τ) (g := g) I ds 0 ρ h0 (fun j d ρ hj hI => by rw [Nat.zero_add] at hI ⊢; exact st j d ρ hj hI)
  rw [Nat.zero_add] at this; exact this
theorem atI_pos {α : Type} {xs : List α} {z : Int} (h0 : 0 ≤ z) (h1 : z < xs.length) : ∃ v, atI xs z = some v ∧ v ∈ xs := by
  have hz : z.toNat < xs.length := by omega
  refine ⟨xs[z.toNat], ?_, List.getElem_mem hz⟩
  have e : ((z.toNat : Nat) : Int) = z := by omega
  have := atI_nat (xs := xs) (j := z.toNat) (v := xs[z.toNat]) (by simp [hz])
  rw [e] at this; exact this
theorem atI_int {xs : List Int} {z : Int} (h0 : 0 ≤ z) (h1 : z < xs.length) : ∃ v, atI (xs.map D.int) z = some (.int v) := by
  obtain ⟨v, e, hm⟩ := atI_pos (xs := xs) h0 h1
  exact ⟨v, by rw [atI_map, e]; rfl⟩
theorem atI_str {xs : List Str} {z : Int} (h0 : 0 ≤ z) (h1 : z < xs.length) : ∃ v, atI (xs.map D.str) z = some (.str v) ∧ v ∈ xs := by
  obtain ⟨v, e, hm⟩ := atI_pos (xs := xs) h0 h1
  exact ⟨v, by rw [atI_map, e]; rfl, hm⟩
theorem ixN_pos {n : Nat} {z : Int} (h0 : 0 ≤ z) (h1 : z < n) : ixN n z = some z.toNat := by unfold ixN; rw [if_pos h0, if_pos h1]
theorem rngD_get {lo : Int} {n j : Nat} {d : D} (h : (rngD lo n)[j]? = some d) : j < n ∧ d = .int (lo + j) := by
  unfold rngD at h
  rw [List.getElem?_map] at h
  cases q : (List.range n)[j]? with
  | none => rw [q] at h; cases h
  | some k =>
    rw [q] at h; cases h
    obtain ⟨h1, h2⟩ := List.getElem?_eq_some_iff.mp q
    have : k = j := by simpa using h2.symm
    subst this
    exact ⟨by simpa using h1, rfl⟩
theorem rngD_len (lo : Int) (n : Nat) : (rngD lo n).length = n := by simp [rngD]
theorem lc_all {ρ : DEnv} {τ : DTg} {fe : DF} {h : D → D} : ∀ {ds : List D}, (∀ d ∈ ds, ∃ ρ1, τ d ρ = some ρ1 ∧ fe ρ1 = some (h d)) → lcD ρ τ tYes fe ds = some (ds.map h)
  | [], _ => rfl
  | d :: ds, hd => by
    obtain ⟨ρ1, e1, e2⟩ := hd d List.mem_cons_self
    unfold lcD
    rw [e1]
    simp only [tYes, Option.bind_some, if_true, e2]
    rw [lc_all fun d h => hd d (List.mem_cons_of_mem _ h)]
    rfl
theorem lc_fil {ρ : DEnv} {τ : DTg} {ft : DT} {fe : DF} {p : D → Bool} {h : D → D} : ∀ {ds : List D}, (∀ d ∈ ds, ∃ ρ1, τ d ρ = some ρ1 ∧ ft ρ1 = some (p d) ∧ (p d = true → fe ρ1 = some (h d))) → lcD ρ τ ft fe ds = some ((ds.filter p).map h)
  | [], _ => rfl
  | d :: ds, hd => by
    obtain ⟨ρ1, e1, e2, e3⟩ := hd d List.mem_cons_self
    have ih := lc_fil (ρ := ρ) (τ := τ) (ft := ft) (fe := fe) (p := p) (h := h) (ds := ds) fun d h => hd d (List.mem_cons_of_mem _ h)
    unfold lcD
    rw [e1]
    simp only [Option.bind_some, e2]
    cases hp : p d with
    | false => simp [ih, hp]
    | true => simp [ih, hp, e3 hp]
theorem bigE_eq : bigE = 1000000 := rfl
theorem cut_le {α : Type} (xs : List α) (l h : Option Int) : (cut xs l h).length ≤ xs.length := by
  unfold cut
  rw [List.length_take, List.length_drop]; omega
theorem cut_to {α : Type} (xs : List α) {k : Int} (h0 : 0 ≤ k) : cut xs none (some k) = xs.take k.toNat := by
  unfold cut HT.sIx
  simp only [List.drop_zero, Nat.sub_zero, if_neg (show ¬ k < 0 by omega)]
  by_cases h : k.toNat ≤ xs.length
  · rw [Nat.min_eq_left h]
  · rw [Nat.min_eq_right (by omega), List.take_length, List.take_of_length_le (by omega)]
theorem cut_from {α : Type} (xs : List α) {k : Int} (h0 : 0 ≤ k) : cut xs (some k) none = xs.drop k.toNat := by
  unfold cut HT.sIx
  simp only [if_neg (show ¬ k < 0 by omega)]
  by_cases h : k.toNat ≤ xs.length
  · rw [Nat.min_eq_left h, List.take_of_length_le (by simp)]
  · rw [Nat.min_eq_right (by omega), Nat.sub_self, List.take_zero, List.drop_eq_nil_of_le (by omega)]
end L2
end
noncomputable section
set_option maxRecDepth 100000
set_option maxHeartbeats 4000000
namespace L2
open PySem
noncomputable def isS : D → Bool
  | .str _ => true
  | _ => false
noncomputable def texts (its : List D) : List D := its.filter isS
end L2
end
noncomputable section
set_option maxRecDepth 100000
set_option maxHeartbeats 4000000
namespace L2
open PySem
theorem sSeq_nx {g h : DG} {ρ ρ' : DEnv} (e : g ρ = some (.nx ρ')) : sSeq g h ρ = h ρ' := by simp only [sSeq, e, Option.bind_some]
theorem sIf_f {t : DT} {g h : DG} {ρ : DEnv} (e : t ρ = some false) : sIf t g h ρ = h ρ := by simp [sIf, e]
theorem sIf_t {t : DT} {g h : DG} {ρ : DEnv} (e : t ρ = some true) : sIf t g h ρ = g ρ := by simp [sIf, e]
theorem sSet_eq {i : Nat} {f : DF} {ρ : DEnv} {d : D} (e : f ρ = some d) : sSet i f ρ = some (.nx (ρ.set i (some d))) := by simp only [sSet, e, Option.map_some]
theorem sRet_eq {f : DF} {ρ : DEnv} {d : D} (e : f ρ = some d) : sRet f ρ = some (.rt d) := by simp only [sRet, e, Option.map_some]
theorem eF_eq {f : DL} {ρ : DEnv} {ds : List D} (e : f ρ = some ds) : eF f ρ = some (.lst ds) := by simp only [eF, e, Option.map_some]
theorem e2_eq {o : D → D → Option D} {f g : DF} {ρ : DEnv} {x y : D} (e1 : f ρ = some x) (e2' : g ρ = some y) : e2 o f g ρ = o x y := by simp only [e2, e1, e2', Option.bind_some]
theorem tB1_eq {f : DF} {ρ : DEnv} {b : Bool} (e : f ρ = some (.bl b)) : tB1 f ρ = some b := by simp only [tB1, e, Option.bind_some]
theorem fLC_eq {f : DL} {src : List (Option Nat)} {τ : DTg} {ft : DT} {fe : DF} {ρ : DEnv} {ds rs : List D} (e : f ρ = some ds) (hz : ds.length ≤ bigE) (h : lcD (srcρ src ρ) τ ft fe ds = some rs) : fLC f src τ ft fe ρ = some rs := by simp only [fLC, e, Option.bind_some, hz, if_true, h]
theorem iR1_eq {f : DF} {ρ : DEnv} {z : Int} (e : f ρ = some (.int z)) (h : -(2 ^ 62) ≤ z ∧ z < 2 ^ 62) : iR1 f ρ = some (rngD 0 z.toNat) := by
  simp only [iR1, e, Option.bind_some]
  rw [if_pos h]
theorem zrun_app (b : List D) : ∀ (a : List D) (z : Zs × List D), zrun (a ++ b) z = (zrun a z).bind (zrun b)
  | [], z => rfl
  | s :: a, z => by
    show (zstep z s).bind (zrun (a ++ b)) = ((zstep z s).bind (zrun a)).bind (zrun b)
    cases zstep z s with
    | none => rfl
    | some z' => exact zrun_app b a z'
noncomputable def isSign (s : D) : Prop := (∃ x, s = .tup [.str sOpen, .str x]) ∨ (∃ x, s = .tup [.str sText, .str x]) ∨ s = .tup [.str sClose]
theorem isSign.ok {s : D} (h : isSign s) (n : Nat) : dOk s (n + 1) = true := by
  rcases h with ⟨x, rfl⟩ | ⟨x, rfl⟩ | rfl <;> simp [dOk, dOks]
theorem signs_dOks {ss : List D} (h : ∀ s ∈ ss, isSign s) (n : Nat) : dOks ss (n + 1) = true := by
  induction ss with
  | nil => simp [dOks]
  | cons s ss ih => simp only [dOks, (h s List.mem_cons_self).ok n, ih fun s hs => h s (List.mem_cons_of_mem _ hs), Bool.and_self]
theorem zrun_snoc (s : D) : ∀ (ss : List D) (z : Zs × List D), zrun (ss ++ [s]) z = (zrun ss z).bind fun z' => zstep z' s
  | [], z => by
    show (zstep z s).bind (zrun []) = zstep z s
    cases zstep z s <;> rfl
  | t :: ss, z => by
    show (zstep z t).bind (zrun (ss ++ [s])) = ((zstep z t).bind (zrun ss)).bind _
    cases zstep z t with
    | none => rfl
    | some z' => exact zrun_snoc s ss z'
structure SG (ss : List D) (dep : Int) : Prop where
  sg : ∀ s ∈ ss, isSign s
  ex : ∃ z, zrun ss ([], []) = some z ∧ dep = z.1.length ∧ (ss = [] → z = ([], []))
theorem SG.open {ss : List D} {dep : Int} (h : SG ss dep) (x : Str) (hc : ss = [] ∨ 0 < dep) : SG (ss ++ [.tup [.str sOpen, .str x]]) (dep + 1) := by
  obtain ⟨z, e1, e2, e3⟩ := h.ex
  refine ⟨fun s hs => ?_, ((x, []) :: z.1, z.2), ?_, by simp; omega, fun h => by simp at h⟩
  · rcases List.mem_append.mp hs with hs | hs
    · exact h.sg s hs
    · exact .inl ⟨x, by simpa using hs⟩
  · rw [zrun_snoc, e1]
    simp only [Option.bind_some]
    have : ¬ (z.1 = [] ∧ z.2 ≠ []) := fun ⟨a, b⟩ => by
      rcases hc with hc | hc
      · rw [e3 hc] at b; exact b rfl
      · rw [a] at e2; simp at e2; omega
    simp [zstep, this]
theorem SG.text {ss : List D} {dep : Int} (h : SG ss dep) (x : Str) (hc : 0 < dep) : SG (ss ++ [.tup [.str sText, .str x]]) dep := by
  obtain ⟨z, e1, e2, e3⟩ := h.ex
  have hz : z.1 ≠ [] := fun a => by rw [a] at e2; simp at e2; omega
  refine ⟨fun s hs => ?_, zput (.str x) z.1 z.2, ?_, ?_, fun h => by simp at h⟩
  · rcases List.mem_append.mp hs with hs | hs
    · exact h.sg s hs
    · exact .inr (.inl ⟨x, by simpa using hs⟩)
  · rw [zrun_snoc, e1]
    simp only [Option.bind_some]
    have : ¬ sText = sOpen := fun z => sOT z.symm
    simp [zstep, this, hz]
  · obtain ⟨st, L0⟩ := z
    cases st with
    | nil => exact absurd rfl hz
    | cons c st => obtain ⟨a, b⟩ := c; exact e2
theorem SG.close {ss : List D} {dep : Int} (h : SG ss dep) (hc : 0 < dep) : SG (ss ++ [.tup [.str sClose]]) (dep - 1) := by
  obtain ⟨z, e1, e2, e3⟩ := h.ex
  obtain ⟨st, L0⟩ := z
  cases st with
  | nil => simp at e2; omega
  | cons c st =>
    obtain ⟨nm, its⟩ := c
    refine ⟨fun s hs => ?_, zput (part nm its) st L0, ?_, ?_, fun h => by simp at h⟩
    · rcases List.mem_append.mp hs with hs | hs
      · exact h.sg s hs
      · exact .inr (.inr (by simpa using hs))
    · rw [zrun_snoc, e1]; simp [zstep]
    · have e2 : dep = ((st.length + 1 : Nat) : Int) := by simpa using e2
      cases st with
      | nil => simp only [zput, setI, List.length_nil] at e2 ⊢; omega
      | cons c st => obtain ⟨a, b⟩ := c; simp [zput, setI] at e2 ⊢; omega
noncomputable abbrev sgO (x : Str) : D := .tup [.str sOpen, .str x]
noncomputable abbrev sgT (x : Str) : D := .tup [.str sText, .str x]
noncomputable abbrev sgC : D := .tup [.str sClose]
noncomputable def headIs (k : Str) : D → Bool
  | .tup (.str x :: _) => x == k
  | _ => false
noncomputable def cnt (k : Str) (ss : List D) : Nat := (ss.filter (headIs k)).length
theorem oc : headIs sOpen sgC = false := by simp [headIs]; exact fun z => sOC z.symm
theorem co : headIs sClose (sgO x) = false := by simp [headIs]; exact fun z => sOC z
theorem ct : headIs sClose (sgT x) = false := by simp [headIs]; exact fun z => sTC z
theorem cc : headIs sClose sgC = true := by simp [headIs]
theorem zput_len (d : D) (st : Zs) (L0 : List D) : (zput d st L0).1.length = st.length := by
  cases st with
  | nil => rfl
  | cons c st => obtain ⟨a, b⟩ := c; rfl
end L2
end
noncomputable section
set_option maxRecDepth 100000
set_option maxHeartbeats 4000000
namespace L2
open PySem PySem.Spec PyProof.Rows
noncomputable def ExcT (h : Heap) (e : Addr) (cls : Value) (dd : Option Addr) (a0 fl : Value) (T : Addr) : Prop :=
  ∃ oe vs oT ts, h.get? e = some oe ∧ oe.cls = cls ∧ oe.dict = dd ∧ oe.data = .fields vs ∧ vs[0]? = some a0 ∧ vs[1]? = some (.ref T) ∧ T ≠ e ∧ h.get? T = some oT ∧ oT.data = .fields ts ∧ ts[3]? = some fl
structure LeftX (fs : List Addr) (e : Addr) (h h' : Heap) : Prop where
  keep : ∀ b o, b ≠ e → b ∉ fs → h.get? b = some o → h'.get? b = some o
  slot : ∀ b o, b ≠ e → b ∈ fs → h.get? b = some o → ∃ sl, h'.get? b = some { o with slots := sl }
theorem Obj.dict_mapFields (o : Obj) (f : Array Value → Array Value) : (Obj.mapFields f o).dict = o.dict := by
  obtain ⟨c, d, dt, s⟩ := o
  cases dt <;> rfl
noncomputable section
variable {M : Model} {A : Around} {E : Value → Shared → Prop} {s : Shared} {base : Heap} {env : Env} {outer : List Env} {L e : Addr} {oe : Obj} {vs : Array Value} {a0 : Value}
theorem wp_leaving1 {Q : Unit → Shared → Prop} (hfr : A.frames = some (env :: outer)) (hl : s.heap.FunFrames base (env :: outer)) (hf : env.frame = some L) (he : s.heap.get? e = some oe) (hd : oe.data = .fields vs) (h1 : vs[1]? = some .none) (h0 : vs[0]? = some a0)
    (h : ∀ h' T, LeftX (frs (env :: outer)) e s.heap h' → ExcT h' e oe.cls oe.dict a0 .none T → T = s.heap.objs.size → Q () { s with heap := h' }) : wpAny M A (leaving env (.ref e)) Q E s := by
  have hene : e ∉ frs (env :: outer) := fun hm => by
    obtain ⟨_, o, ho, hnf⟩ := hl.mem hm
    rw [he] at ho; cases ho
    exact hnf vs hd
  have hsz : 1 < vs.size := (Array.getElem?_eq_some_iff.mp h1).1
  unfold leaving
  refine wpAny_bind ?_
  unfold noteFrame
  rw [hf]
  refine wpAny_bind (wpAny_field he hd h1 ?_)
  rw [if_neg (by decide)]
  refine wpAny_bind (wpAny_frameOf_fun hfr hl hf fun h₁ hs₁ => ?_)
  refine wpAny_bind (wpAny_entryPlaceOf fun pl hpl => ?_)
  refine wpAny_bind ?_
  unfold EntryCells.newEntry
  refine wpAny_newObj_type ?_ (IsPlace.sizeOk5 hpl _ _ _ _ _)
  have he₁ : h₁.get? e = some oe := (hs₁.2.1 e hene).trans he
  have he₂ := Heap.get?_push_of_some { cls := Value.type "traceback", data := Data.fields ([Value.none, Value.ref L, Value.none, rawInt ↑L, Value.none] ++ if pl.isEmpty = true then List.replicate 6 Value.none else pl).toArray } he₁
  refine wpAny_setField he₂ hd hsz ?_
  have hTe : h₁.objs.size ≠ e := Nat.ne_of_gt (Heap.lt_size he₁)
  have hd₃ := Obj.data_mapFields hd fun x => x.setIfInBounds 1 (Value.ref h₁.objs.size)
  have he₃ := Heap.get?_update_self (Obj.mapFields fun x => x.setIfInBounds 1 (Value.ref h₁.objs.size)) he₂ (Obj.isFreed_of_fields hd₃)
  have hT₃ := (Heap.get?_update_other (h₁.push { cls := Value.type "traceback", data := Data.fields ([Value.none, Value.ref L, Value.none, rawInt ↑L, Value.none] ++ if pl.isEmpty = true then List.replicate 6 Value.none else pl).toArray }) (Obj.mapFields fun x => x.setIfInBounds 1 (Value.ref h₁.objs.size)) (Ne.symm hTe)).trans (Heap.get?_push_size h₁ rfl)
  have g1 : (vs.setIfInBounds 1 (Value.ref h₁.objs.size))[1]? = some (Value.ref h₁.objs.size) := by simp [hsz]
  have g0 : (vs.setIfInBounds 1 (Value.ref h₁.objs.size))[0]? = some a0 := by
    rw [Array.getElem?_setIfInBounds_ne (by decide)]; exact h0
  unfold setFlight
  refine wpAny_bind (wpAny_field he₃ hd₃ g1 ?_)
  rw [if_pos (by simp)]
  have hsz3 : 3 < ([Value.none, Value.ref L, Value.none, rawInt ↑L, Value.none] ++ if pl.isEmpty = true then List.replicate 6 Value.none else pl).toArray.size := by simp
  refine wpAny_setField hT₃ rfl hsz3 ?_
  have hfree : s.heap.get? h₁.objs.size = none := by
    rw [hs₁.1]
    cases q : s.heap.get? s.heap.objs.size with
    | none => rfl
    | some o => exact absurd (Heap.lt_size q) (Nat.lt_irrefl _)
  have hkeep : ∀ b o, b ≠ e → b ≠ h₁.objs.size → h₁.get? b = some o → ((Heap.update (h₁.push { cls := Value.type "traceback", data := Data.fields ([Value.none, Value.ref L, Value.none, rawInt ↑L, Value.none] ++ if pl.isEmpty = true then List.replicate 6 Value.none else pl).toArray }) e (Obj.mapFields fun x => x.setIfInBounds 1 (Value.ref h₁.objs.size))).update h₁.objs.size (Obj.mapFields fun x => x.setIfInBounds 3 (Option.elim none Value.none fun f => rawInt ↑f))).get? b = some o := fun b o hbe hbT hb => by
    rw [Heap.get?_update_other _ _ (Ne.symm hbT), Heap.get?_update_other _ _ (Ne.symm hbe)]
    exact Heap.get?_push_of_some _ hb
  refine h _ h₁.objs.size ⟨fun b o hbe hbf hb => ?_, fun b o hbe hbf hb => ?_⟩ ?_ hs₁.1
  · refine hkeep b o hbe ?_ ((hs₁.2.1 b hbf).trans hb)
    intro z; rw [z, hfree] at hb; cases hb
  · obtain ⟨sl, hsl⟩ := hs₁.2.2 b o hb
    refine ⟨sl, hkeep b _ hbe ?_ hsl⟩
    intro z; rw [z, hfree] at hb; cases hb
  · have hdT := Obj.data_mapFields (o := { cls := Value.type "traceback", data := Data.fields ([Value.none, Value.ref L, Value.none, rawInt ↑L, Value.none] ++ if pl.isEmpty = true then List.replicate 6 Value.none else pl).toArray }) rfl fun x => x.setIfInBounds 3 (Option.elim none Value.none fun f => rawInt ↑f)
    refine ⟨_, _, _, _, (Heap.get?_update_other _ _ hTe).trans he₃, Obj.cls_mapFields _ _, Obj.dict_mapFields _ _, hd₃, g0, g1, hTe, Heap.get?_update_self _ hT₃ (Obj.isFreed_of_fields hdT), hdT, ?_⟩
    simp
end
end L2
end
noncomputable section
set_option maxRecDepth 100000
set_option maxHeartbeats 4000000
namespace L2
open PySem PySem.Spec PyProof.Rows
noncomputable section
variable {prog : Program} {w : World} {A : Around} {E : Value → Shared → Prop} {h : Heap} {g : Array GenState} {d : Drawn} {t : Nat} {os : OsState} {nm q : Str} {C N : Addr} {bs bm bmB : List Value} {hdct : Bool} {sn : List Str} {sub : List Value} {ab : Bool} {col : Option Bool} {dd : Option Addr} {k0 k1 k2 k3 k5 : Option Value} {B Bn newId nid initId inN : String} {bmN : List Value}
noncomputable abbrev excNew (h : Heap) (C : Addr) (rest : List Value) : Heap := (h.push { cls := Value.type "tuple", data := Data.seq rest.toArray }).push { cls := Value.ref C, data := Data.fields #[Value.ref h.objs.size, Value.none, Value.none, Value.none, Value.bool false, Value.none] }
theorem wp_tc_own (Fn : ExcBaseFacts Bn newId inN bmN) (hBn : bmB.contains (Value.type Bn) = true) (F : ExcBaseFacts B nid initId bmB) (T : OwnTail h bmB bm) {mN : Str → Option Value} {rest : List Value} {Q : PySem.Fin → Shared → Prop} {f : Addr}
    (hC : h.get? C = some (excClassObj nm q C N bs bm hdct sn sub ab col dd k0 k1 k2 k3 k5 newId)) (hn : h.Ns N mN) (hni : mN (Str.ofString "__init__") = some (.ref f)) (hrest : rest.length ≤ sizeLine)
    (hf : ∀ (s : Shared) (P : Value → Shared → Prop), s.heap = excNew h C rest → P (.type "function") s → wpAny (model prog w) A (typeOf (.ref f)) P E s)
    (hq : wpAny (model prog w) A (call (.ref f) (.ref (h.objs.size + 1) :: rest)) (fun r s' => r = .none ∧ Q (Fin.done (Flow.ret (Value.ref (h.objs.size + 1)))) s') E { heap := excNew h C rest, gens := g, drawn := d, toks := t, os := os }) :
    wpAny (model prog w) A (Builtin.«type.__call__» { pos := Value.ref C :: rest }) Q E { heap := h, gens := g, drawn := d, toks := t, os := os } := by
  unfold Builtin.«type.__call__»
  refine wpAny_ite_false rfl ?_
  refine wpAny_bind ?_
  refine wpAny_bind (M := model prog w) ?_
  refine wpAny_bind (M := model prog w) ?_
  refine wpAny_load' hC ?_
  refine wpAny_pure (wpAny_pure ?_)
  refine wpAny_ite_false rfl ?_
  refine wpAny_bind (wpAny_madeBy_exc hC ?_)
  refine wpAny_bind (wpAny_pure ?_)
  refine wpAny_bind (wpAny_holding (wpAny_call (codeAny_call_builtin_code (Code.quiet_builtin { pos := Value.ref C :: rest } Fn.quiet) (wpAny_check_new_subU Fn hBn T hC (codeAny_exc_new_subU Fn hBn F T hC ?_ hrest)))))
  have hC₁ := Heap.get?_push_of_some { cls := Value.ref C, data := Data.fields #[Value.ref h.objs.size, Value.none, Value.none, Value.none, Value.bool false, Value.none] } (Heap.get?_push_of_some { cls := Value.type "tuple", data := Data.seq rest.toArray } hC)
  have hn₁ : (excNew h C rest).Ns N mN := by
    obtain ⟨o, es, ep, e, r⟩ := hn
    exact ⟨o, es, ep, Heap.get?_push_of_some _ (Heap.get?_push_of_some _ e), r⟩
  have hget : (excNew h C rest).get? (h.objs.size + 1) = some { cls := Value.ref C, data := Data.fields #[Value.ref h.objs.size, Value.none, Value.none, Value.none, Value.bool false, Value.none] } := Heap.get?_push_at (by simp [Heap.size_push]) rfl
  have T₁ : OwnTail (excNew h C rest) bmB bm := T.keeps fun b o e => Heap.get?_push_of_some _ (Heap.get?_push_of_some _ e)
  have hcC : (Value.ref C :: bm).contains (Value.ref C) = true := by simp
  show wpAny (model prog w) A (isInstance (.ref (h.objs.size + 1)) (.ref C) >>= _) Q E { heap := excNew h C rest, gens := g, drawn := d, toks := t, os := os }
  refine wpAny_bind ?_
  refine wpAny_bind (M := model prog w) ?_
  refine wpAny_bind (M := model prog w) ?_
  refine wpAny_loadPart_at hget ?_
  refine wpAny_pure ?_
  refine wpAny_isSubtype_exc hC₁ ?_
  rw [hcC]
  refine wpAny_ite_false rfl ?_
  refine wpAny_bind (wpAny_holding ?_)
  unfold callSpecial?
  refine wpAny_bind ?_
  unfold specialOf
  refine wpAny_bind (M := model prog w) ?_
  refine wpAny_bind (M := model prog w) ?_
  refine wpAny_loadPart_at hget ?_
  refine wpAny_pure ?_
  refine wpAny_typeLookup_tail hC₁ hn₁ T₁ F.mroIs F.init.lookup ?_
  rw [hni]
  refine wpAny_holding ?_
  refine wpAny_bind ?_
  unfold bindSpecial
  refine wpAny_bind (hf _ _ rfl ?_)
  rw [if_pos (by decide)]
  refine wpAny_pure ?_
  refine wpAny_bind ?_
  refine wpAny_mono hq (fun r s' hr => ?_) (fun _ _ z => z)
  obtain ⟨rfl, hr⟩ := hr
  refine wpAny_pure ?_
  refine wpAny_ite_false rfl ?_
  exact wpAny_pure hr
theorem wp_call_own (Fn : ExcBaseFacts Bn newId inN bmN) (hBn : bmB.contains (Value.type Bn) = true) (F : ExcBaseFacts B nid initId bmB) (T : OwnTail h bmB bm) {mN : Str → Option Value} {rest : List Value} {Q : Value → Shared → Prop} {f : Addr}
    (hC : h.get? C = some (excClassObj nm q C N bs bm hdct sn sub ab col dd k0 k1 k2 k3 k5 newId)) (hn : h.Ns N mN) (hni : mN (Str.ofString "__init__") = some (.ref f)) (hrest : rest.length ≤ sizeLine)
    (hf : ∀ (A : Around) (E : Value → Shared → Prop) (s : Shared) (P : Value → Shared → Prop), s.heap = excNew h C rest → P (.type "function") s → wpAny (model prog w) A (typeOf (.ref f)) P E s)
    (hq : wpAny (model prog w) (A.under (.builtin "type.__call__" ⟨.ref C :: rest, []⟩)) (call (.ref f) (.ref (h.objs.size + 1) :: rest)) (fun r s' => r = .none ∧ Q (Value.ref (h.objs.size + 1)) s') E { heap := excNew h C rest, gens := g, drawn := d, toks := t, os := os }) :
    wpAny (model prog w) A (call (.ref C) rest) Q E { heap := h, gens := g, drawn := d, toks := t, os := os } := by
  have hT : ({ heap := h, gens := g, drawn := d, toks := t, os := os } : Shared).TypeIs (Value.ref C) "type" := ⟨_, hC, rfl⟩
  refine wpAny_call (codeAny_of_tree ?_)
  refine wpAny_bind (M := model prog w) (wpAny_load' hC ?_)
  refine wpAny_bind (M := model prog w) (wpAny_specialOf hT tc_lookup ?_)
  refine wpAny_bind (M := model prog w) (wpAny_of_eq (tc_bind (Value.ref C)) ?_)
  refine wpAny_bind (M := model prog w) ?_
  refine wpAny_pure (wpAny_ite_true rfl (wpAny_pure ⟨rfl, ?_⟩))
  refine codeAny_call_builtin_at (args := ⟨Value.ref C :: rest, []⟩) (Code.quiet_builtin _ (by decide +kernel)) entry_typeCall (wpAny_check_type_call_sub hC ?_)
  exact wp_tc_own Fn hBn F T hC hn hni hrest (fun s P e q => hf _ _ s P e q) hq
end
end L2
end
noncomputable section
set_option maxRecDepth 100000
set_option maxHeartbeats 4000000
namespace L2
open PySem PySem.Spec PyProof.Rows PySem.W
noncomputable section
variable {prog : Program} {w : World} {A : Around} {E : Value → Shared → Prop} {s : Shared} {K : Frag} {C x : Addr} {ox : Obj} {od : Option Obj} {name : Str} {tk : Tok}
structure XGa (K : Frag) (C : Addr) : Prop where
  ga : findIn K (.ref C) "__getattribute__" = some (some (.builtin "BaseException.__getattribute__"))
  gt : findIn K (.ref C) "__getattr__" = some none
  mb : mroIn K C (.type "BaseException") = some true
theorem xgetBy {fill expr : Bool} {Q : Value → Shared → Prop} (X : K.In s.heap) (I : InstAt s.heap x ox C od) (g : XGa K C)
    (h : ∀ R : Result → Shared → Prop, (∀ v s', wpAny (model prog w) A (handedOut v) Q E s' → R (.ok (.ret v)) s') → wpAny (model prog w) A.in1 (Builtin.«object.__getattribute__» ⟨[.ref x, .str name tk], []⟩)
      (fun fin s' => match fin with | .done f => R (.ok f) s' | .again c' => c'.quiet = true ∧ codeAny (model prog w) A c' R s') (fun e s' => R (.error e) s') s) :
    wpAny (model prog w) A (getAttrBy (.ref x) (.str name tk) fill expr) Q E s := by
  obtain ⟨hh, gg, d, t, os⟩ := s
  have L0 := I.type (M := model prog w)
  have L1 := looks_findIn (M := model prog w) X g.ga
  have L2 := looks_findIn (M := model prog w) X g.gt
  have f3 := PySem.F.attr_ValueError.ga.bind (.ref x)
  have hx0 : (expr && onTheHeap (Value.builtin "BaseException.__getattribute__")) = false := by cases expr <;> rfl
  have hx2 : (Value.builtin "BaseException.__getattribute__" == Value.builtin "object.__getattribute__") = false := by decide +kernel
  have hx1 : (onTheHeap (Value.ref C) && Value.builtin "BaseException.__getattribute__" == Value.builtin "object.__getattribute__") = false := by rw [hx2]; rfl
  have hk : builtinKind "BaseException.__getattribute__" = some .slot := by decide +kernel
  have hsplit : splitId "BaseException.__getattribute__" = some ("BaseException", "__getattribute__") := by decide +kernel
  have sub : Looks (model prog w) hh (isInstance (.ref x) (.type "BaseException")) true := L0.andThen (looks_mroIn X g.mb)
  unfold getAttrBy
  refine wpAny_holding (wpAny_bind (L0.at (wpAny_bind (L1.at ?_))))
  dsimp only
  rw [if_neg (by rw [hx1]; decide)]
  unfold getAttrByItsOwn hookBefore
  refine wpAny_bind ?_
  rw [if_pos (show onTheHeap (Value.ref C) = true from rfl)]
  refine L2.at (wpAny_bind (wpAny_attempt (wpAny_holding ?_)))
  unfold callGetattribute
  rw [if_neg (by rw [hx0]; decide)]
  unfold boundAndCalled
  rw [f3]
  have key : codeAny (model prog w) A (.call (.builtin "BaseException.__getattribute__") ⟨[.ref x, .str name tk], []⟩) (fun r s' => match r with | .ok (.ret v) => wpAny (model prog w) A (handedOut v) Q E s' | _ => False) ⟨hh, gg, d, t, os⟩ :=
    codeAny_call_builtin PySem.F.attr_ValueError.ga.plain PySem.F.entry_bexc_ga (@check_slot (model prog w) _ _ ⟨hh, gg, d, t, os⟩ "BaseException.__getattribute__" "BaseException" "__getattribute__" (.ref x) [.str name tk] [] _ hk hsplit sub (PySem.F.args_bexc_ga (.ref x) (.str name tk)) (h (fun r s' => match r with | .ok (.ret v) => wpAny (model prog w) A (handedOut v) Q E s' | _ => False) fun v s' z => z))
  refine wpAny_bind (wpAny_pure (wpAny_call (codeAny_mono key fun r s' z => ?_)))
  rcases r with e | (v | _ | _ | _)
  · exact False.elim z
  · exact False.elim z
  · exact False.elim z
  · exact False.elim z
  · exact z
theorem xget_val {expr : Bool} {v : Value} {Q : Value → Shared → Prop} (X : K.In s.heap) (I : InstAt s.heap x ox C od) (g : XGa K C) (hf : findObj K C od name = some (.value v)) (hh : handedIn v = true) (h : Q v { s with toks := s.toks + 1 }) :
    wpAny (model prog w) A (getAttr (.ref x) name expr) Q E s := by
  unfold getAttr
  refine wpAny_bind (wpAny_mkText (xgetBy (s := { s with toks := s.toks + 1 }) X I g fun R hR => ?_))
  obtain ⟨hh', gg, d, t, os⟩ := s
  have L0 := I.type (M := model prog w)
  have L1 := looks_find (M := model prog w) X I hf
  unfold Builtin.«object.__getattribute__»
  refine wpAny_bind (wpAny_pure ?_)
  refine wpAny_bind (wpAny_pure (wpAny_bind (L0.at (wpAny_bind (L1.at ?_)))))
  refine wpAny_pure (hR v _ ?_)
  rw [handedOut_of hh]; exact wpAny_pure h
theorem xget_cls {Q : Option Value → Shared → Prop} (X : K.In s.heap) (I : InstAt s.heap x ox C od) (g : XGa K C) (hf : findObj K C od "__class__" = some (.bind (.builtin "getset_descriptor.__get__") (.builtin "object.__class__"))) (hm : mroIn K C (.type "object") = some true) (h : Q (some (.ref C)) { s with toks := s.toks + 1 }) :
    wpAny (model prog w) A (getAttr? (.ref x) "__class__") Q E s := by
  unfold getAttr? getAttrBy?
  refine wpAny_bind (wpAny_mkText (wpAny_bind (wpAny_attempt (xgetBy (s := { s with toks := s.toks + 1 }) X I g fun R hR => ?_))))
  obtain ⟨hh', gg, d, t, os⟩ := s
  have L0 := I.type (M := model prog w)
  have L1 := looks_find (M := model prog w) X I hf
  unfold Builtin.«object.__getattribute__»
  refine wpAny_bind (wpAny_pure ?_)
  refine wpAny_bind (wpAny_pure (wpAny_bind (L0.at (wpAny_bind (L1.at ?_)))))
  show wpAny _ _ (holding _ (call _ _) >>= ret) _ _ _
  refine wpAny_bind (wpAny_holding (wpAny_call (class_get (ox := ox) (od := od) (s := ⟨hh', gg, d, t + 1, os⟩) X I hm ?_)))
  refine wpAny_pure (hR _ _ ?_)
  rw [handedOut_of rfl]
  exact wpAny_pure (wpAny_pure h)
theorem kitx_exc {od : Obj} (g : XGa K C) (hdct : hasDictIn K C = true) (ha : findIn K (.ref C) "__class__" = some (some (.builtin "object.__class__"))) (hn : specialIn K (.builtin "object.__class__") "__get__" = some (some (.builtin "getset_descriptor.__get__"))) (htk : takesIn K (.builtin "object.__class__") = some true) (hm : mroIn K C (.type "object") = some true) :
    KitX K (.ref x) (.ref C) (fun h => InstAt h x ox C (some od)) where
  ty := fun _ _ _ I => I.type
  it := fun _ _ X _ => by
    obtain ⟨cdD, hcD, _⟩ := any_some hdct
    unfold clsIn at hcD
    split at hcD
    · rename_i c' d' cd' sl' ho
      intro A' Q' E' s' k q
      unfold isType loadHead
      exact wpAny_bind (wpAny_loadPart (k _ _ (X _ _ ho)) (wpAny_pure q))
    · cases hcD
  ne := fun h tp dd its n sl X htp => by
    obtain ⟨cdD, hcD, _⟩ := any_some hdct
    refine Bool.eq_false_iff.mpr fun q => ?_
    have e : C = tp := Value.ref.inj (beq_iff_eq.mp q)
    subst e
    unfold clsIn at hcD
    split at hcD
    · rename_i c' d' cd' sl' ho
      have z := (X _ _ ho).symm.trans htp
      cases z
    · cases hcD
  ca := fun X I k => xget_cls X I g (findObj_data (by obtain ⟨cd, hc, _⟩ := any_some hdct; rw [hc]; rfl) ha hn htk) hm k
end
end L2
end
noncomputable section
set_option maxRecDepth 100000
set_option maxHeartbeats 4000000
namespace L2
open PySem PySem.Spec PyProof.Rows
noncomputable section
variable {prog : Program} {w : World} {A : Around} {E : Value → Shared → Prop} {s : Shared} {K : PySem.W.Frag} {C x : Addr} {name : Str} {v : Value} {vs : Array Value}
noncomputable def onlyExc : List Value → Bool
  | .ref _ :: r => onlyExc r
  | l => l == [.type "ValueError", .type "Exception", .type "BaseException", .type "object"]
theorem refuse_exc (self : Value) : ∀ {l : List Value}, onlyExc l = true → refuseLoop self "__setattr__" l = pure ()
  | .ref c :: r, e => by rw [refuseLoop_ref]; exact refuse_exc self e
  | [], e => by cases e
  | .type n :: r, e => by
    have e : (Value.type n :: r == _) = true := e
    rw [beq_iff_eq.mp e]; exact PySem.F.store_ValueError.passes self
  | .none :: r, e => by cases e
  | .bool b :: r, e => by cases e
  | .int i t :: r, e => by cases e
  | .float i t :: r, e => by cases e
  | .str i t :: r, e => by cases e
  | .bytes i t :: r, e => by cases e
  | .builtin i :: r, e => by cases e
  | .ellipsis :: r, e => by cases e
  | .notImplemented :: r, e => by cases e
theorem exc_has : ∀ {l : List Value}, onlyExc l = true → l.contains (.type "object") = true
  | .ref c :: r, e => by rw [List.contains_cons, exc_has (l := r) e, Bool.or_true]
  | [], e => by cases e
  | .type n :: r, e => by
    have e : (Value.type n :: r == _) = true := e
    rw [beq_iff_eq.mp e]; decide
  | .none :: r, e => by cases e
  | .bool b :: r, e => by cases e
  | .int i t :: r, e => by cases e
  | .float i t :: r, e => by cases e
  | .str i t :: r, e => by cases e
  | .bytes i t :: r, e => by cases e
  | .builtin i :: r, e => by cases e
  | .ellipsis :: r, e => by cases e
  | .notImplemented :: r, e => by cases e
noncomputable def excOver (K : PySem.W.Frag) (C : Addr) : Bool := (PySem.W.clsIn K C).any fun cd => onlyExc cd.mro
theorem osa_exc {R : Result → Shared → Prop} {ox : Obj} {od : Option Obj} {tk : Tok} {r : Option Value} (X : K.In s.heap) (I : PySem.W.InstAt s.heap x ox C od) (hp : excOver K C = true) (ht : PySem.W.takerIn K C name = some r)
    (h : ∀ b, wpAny (model prog w) A.in1 (match r with | some a => Builtin.ObjectAttr.setByDescriptor a (.ref x) v | none => Builtin.ObjectAttr.storeInOwnDict (.ref x) (.ref C) (.str name tk) name v b)
      (fun fin s' => match fin with | .done f => R (.ok f) s' | .again c' => c'.quiet = true ∧ codeAny (model prog w) A c' R s') (fun e s' => R (.error e) s') s) :
    codeAny (model prog w) A (.call (.builtin "object.__setattr__") ⟨[.ref x, .str name tk, v], []⟩) R s := by
  have SF := PySem.F.store_object
  obtain ⟨cd, hc, ho⟩ := PySem.W.any_some hp
  have ne : cd.mro.isEmpty = false := by cases q : cd.mro with | nil => rw [q] at ho; cases ho | cons _ _ => rfl
  have sub : PySem.W.Looks (model prog w) s.heap (isInstance (.ref x) (.type "object")) true := I.type.andThen (PySem.W.looks_mroIn X (by unfold PySem.W.mroIn; rw [hc, Option.bind_some, if_neg (by rw [ne]; decide), exc_has ho]))
  refine codeAny_call_builtin SF.slot.plain SF.entry (@PySem.W.check_slot (model prog w) _ _ s "object.__setattr__" "object" "__setattr__" (.ref x) [.str name tk, v] [] _ SF.kind SF.split sub (SF.args (.ref x) (.str name tk) v) ?_)
  obtain ⟨attr, ha, hr⟩ := Option.bind_eq_some_iff.mp ht
  have hm : PySem.W.Looks (model prog w) s.heap (mroOf (.ref C)) cd.mro := (PySem.W.looks_clsIn X hc).andThen .now
  have L3 : PySem.W.Looks (model prog w) s.heap (Builtin.ObjectAttr.storeTaker? attr) r := by
    cases attr with
    | none => cases hr; exact .now
    | some a =>
      obtain ⟨b, hb, rfl⟩ := Option.map_eq_some_iff.mp hr
      refine (PySem.W.looks_takesIn X hb).andThen ?_
      cases b <;> exact .now
  rw [PySem.W.osa_eq, refuse_eq]
  refine wpAny_bind (wpAny_bind (I.type.here (wpAny_bind (hm.here ?_))))
  rw [refuse_exc _ ho]
  refine wpAny_pure (wpAny_bind (I.type.here (wpAny_bind ((PySem.W.looks_findIn X ha).here (wpAny_bind (L3.here ?_))))))
  exact h _
theorem exc_set {Q : Unit → Shared → Prop} (X : K.In s.heap) (hx : s.heap.get? x = some ⟨.ref C, none, .fields vs, #[]⟩)
    (hs : PySem.W.findIn K (.ref C) "__setattr__" = some (some (.builtin "object.__setattr__"))) (hp : excOver K C = true) (ht : PySem.W.takerIn K C name = some none) (hh : PySem.W.hasDictIn K C = true)
    (h : ∀ h', h'.get? x = some ⟨.ref C, some s.heap.objs.size, .fields vs, #[]⟩ → h'.Ns1 s.heap.objs.size (fun y => if y = name then some v else none) → (∀ b o, b ≠ x → s.heap.get? b = some o → h'.get? b = some o) → Q () { s with heap := h', toks := s.toks + 2 }) :
    wpAny (model prog w) A (setAttr (.ref x) name v) Q E s := by
  have J : PySem.W.InstAt s.heap x ⟨.ref C, none, .fields vs, #[]⟩ C none := ⟨hx, rfl, rfl, trivial⟩
  refine PySem.W.set_plain X J hs (osa_exc (s := { s with toks := s.toks + 1 }) (r := none) X J hp ht fun b => ?_)
  obtain ⟨cd, hc, hd'⟩ := PySem.W.any_some hh
  refine wpAny_bind (wpAny_pure (wpAny_bind ?_))
  refine wpAny_bind (M := model prog w) ?_
  refine wpAny_loadPart hx ?_
  refine wpAny_bind (PySem.W.Looks.here (s := { s with toks := s.toks + 1 }) (PySem.W.looks_clsIn X hc) ?_)
  rw [hd']
  refine wpAny_ite_false rfl ?_
  refine wpAny_ite_false rfl ?_
  refine wpAny_bind (wpAny_alloc ?_)
  have hx1 : (s.heap.push { cls := Value.type "dict", data := Data.dict #[] }).get? x = some ⟨.ref C, none, .fields vs, #[]⟩ := Heap.get?_push_of_some _ hx
  refine wpAny_bind (wpAny_update hx1 ?_)
  refine wpAny_pure (a := some s.heap.objs.size) (wpAny_bind (wpAny_pure (wpAny_bind ?_)))
  have hxd : s.heap.objs.size ≠ x := Nat.ne_of_gt (Heap.lt_size hx)
  have hx2 := Heap.get?_update_self (fun o : Obj => { cls := o.cls, dict := some s.heap.objs.size, data := o.data, slots := o.slots }) hx1 rfl
  have hd2 : ((s.heap.push { cls := Value.type "dict", data := Data.dict #[] }).update x fun o => { cls := o.cls, dict := some s.heap.objs.size, data := o.data, slots := o.slots }).get? s.heap.objs.size = some { cls := Value.type "dict", data := Data.dict #[] } :=
    (Heap.get?_update_other _ _ (Ne.symm hxd)).trans (Heap.get?_push_size s.heap rfl)
  have hns : ((s.heap.push { cls := Value.type "dict", data := Data.dict #[] }).update x fun o => { cls := o.cls, dict := some s.heap.objs.size, data := o.data, slots := o.slots }).Ns1 s.heap.objs.size (fun _ => none) :=
    Heap.Ns1.of_empty ⟨_, #[], _, hd2, rfl, (fun e he => absurd he (by simp)), fun _ => rfl⟩
  refine wpAny_nsSet1 (s := { s with heap := (s.heap.push { cls := Value.type "dict", data := Data.dict #[] }).update x fun o => { cls := o.cls, dict := some s.heap.objs.size, data := o.data, slots := o.slots }, toks := s.toks + 1 }) hns fun h' hn2 hs2 => ?_
  have hw : PySem.Within (fun _ : Str => (none : Option Value)) [] := fun y hy => absurd rfl hy
  obtain ⟨oD, esD, epD, hoD, hdD, hcD⟩ := hn2.count (PySem.Within.cons name v hw)
  refine wpAny_bind (wpAny_lookBehind hoD (by rw [hdD]; exact pastItsLine_dict (Nat.le_trans hcD (by rw [List.length_cons]; exact Nat.le_add_left _ _))) ?_)
  refine wpAny_pure (h h' ((hs2.2 _ (Ne.symm hxd)).trans hx2) hn2 fun b o hb e => ?_)
  have hbd : b ≠ s.heap.objs.size := Nat.ne_of_lt (Heap.lt_size e)
  refine (hs2.2 b hbd).trans ?_
  refine (Heap.get?_update_other _ _ (Ne.symm hb)).trans ?_
  exact Heap.get?_push_of_some _ e
end
end L2
end
noncomputable section
set_option maxRecDepth 100000
set_option maxHeartbeats 4000000
namespace L2
open PySem PySem.Spec PyProof.Rows
noncomputable section
variable {M : Model} {A : Around} {E : Value → Shared → Prop} {env : Env} {nm q : Str} {C N : Addr} {bs bm : List Value} {hdct : Bool} {sn : List Str} {sub : List Value} {ab : Bool} {col : Option Bool} {dd : Option Addr} {k0 k1 k2 k3 k5 : Option Value} {newId : String} {s : Shared} {x : Sem Value}
theorem wp_raise_own {Q : Flow → Shared → Prop} (hbase : bm.contains (Value.type "BaseException") = true) (hh : A.handled = none)
    (h : wpAny M A x (fun v s₁ => ∃ e oe vs, v = .ref e ∧ s₁.heap.get? C = some (excClassObj nm q C N bs bm hdct sn sub ab col dd k0 k1 k2 k3 k5 newId) ∧ s₁.heap.get? e = some oe ∧ oe.cls = .ref C ∧ oe.data = .fields vs ∧ vs[1]? = some .none ∧ E (.ref e) s₁) E s) :
    wpAny M A (raiseStmt env (some x) none) Q E s := by
  unfold raiseStmt
  refine wpAny_bind (wpAny_mono h (fun v s₁ ⟨e, oe, vs, ev, hC, he, hc, hd, h1, hE⟩ => ?_) fun _ _ z => z)
  subst ev
  obtain ⟨hp, g, d, tk, os⟩ := s₁
  have hcB : (Value.ref C :: bm).contains (Value.type "BaseException") = true := by
    rw [List.contains_cons, hbase]; simp
  have hcls : ∀ c, oe.data ≠ Data.cls c := fun c z => by rw [hd] at z; cases z
  refine wpAny_bind (wpAny_pure (wpAny_bind (wpAny_holding ?_)))
  unfold excFromValue
  refine wpAny_bind ?_
  unfold isExcClass
  refine wpAny_bind (M := M) ?_
  unfold isType
  refine wpAny_bind (M := M) ?_
  refine wpAny_loadPart_at he ?_
  refine wpAny_pure ?_
  rw [hd]
  refine wpAny_ite_false rfl (wpAny_pure (wpAny_ite_false rfl ?_))
  refine wpAny_bind ?_
  unfold isInstance typeOf
  refine wpAny_bind (M := M) ?_
  refine wpAny_bind (M := M) ?_
  refine wpAny_loadPart_at he ?_
  refine wpAny_pure ?_
  rw [hc]
  refine wpAny_isSubtype_exc hC ?_
  rw [hcB]
  refine wpAny_ite_true rfl (wpAny_pure ?_)
  refine wpAny_bind (M := M) ?_
  refine wpAny_bind (M := M) ?_
  refine wpAny_loadPart_at he ?_
  refine wpAny_pure ?_
  rw [hd]
  refine wpAny_ite_false rfl ?_
  refine wpAny_bind ?_
  unfold raisedInstance typeOf
  refine wpAny_bind (M := M) ?_
  refine wpAny_bind (M := M) ?_
  refine wpAny_loadPart_at he ?_
  refine wpAny_pure ?_
  rw [hc]
  refine wpAny_bind (M := M) ?_
  refine wpAny_bind (M := M) ?_
  refine wpAny_loadPart_at hC ?_
  refine wpAny_pure ?_
  refine wpAny_ite_true rfl (wpAny_pure ?_)
  refine wpAny_bind ?_
  unfold setFlight
  refine wpAny_bind (wpAny_field he hd h1 ?_)
  rw [if_neg (by decide)]
  refine wpAny_pure ?_
  exact wpAny_raiseNew_none hh hE
end
end L2
end
noncomputable section
set_option maxRecDepth 100000
set_option maxHeartbeats 4000000
namespace L2
open PySem PySem.Spec PyProof.Rows
noncomputable def XObj (a : Addr) (o : Obj) : HO := .ext fun h => h.get? a = some o
theorem XObj.ok {P : Program} {w : World} {H : Hp} {h : Heap} {a : Addr} {o : Obj} (e : h.get? a = some o) : ObjOk P w H h a (XObj a o) :=
  ⟨e, ⟨o, e⟩, fun _ _ p k => k o p⟩
theorem XObj.get {P : Program} {w : World} {H : Hp} {h : Heap} {a : Addr} {o : Obj} (hok : HOk P w H h) (e : H a = some (XObj a o)) : h.get? a = some o := (hok a _ e).1
noncomputable abbrev xRaw (C t : Addr) : Obj := { cls := Value.ref C, data := Data.fields #[Value.ref t, Value.none, Value.none, Value.none, Value.bool false, Value.none] }
noncomputable abbrev xAt (C t dx : Addr) : Obj := { cls := Value.ref C, dict := some dx, data := Data.fields #[Value.ref t, Value.none, Value.none, Value.none, Value.bool false, Value.none] }
structure XCls (K : PySem.W.Frag) (C : Addr) (f : Str) : Prop where
  sa : PySem.W.findIn K (.ref C) "__setattr__" = some (some (.builtin "object.__setattr__"))
  po : excOver K C = true
  tk : PySem.W.takerIn K C f = some none
  hd : PySem.W.hasDictIn K C = true
noncomputable section
variable {X : Cx} {pins : List (Addr × Obj)} {σ : St} {H : Hp} {s : Shared} {A : Around} {E : Value → Shared → Prop} {C a t : Addr} {f : Str}
theorem xset_ok {y : V} {u : Value} {Q : Unit → Shared → Prop} (I : Inv X pins σ H s) (e : H a = some (XObj a (xRaw C t))) (c : XCls X.K C f) (ry : RelV y u)
    (h : ∀ dx s', H dx = none → dx ≠ a → Inv X pins σ (upd (upd H dx (.xd [(f, y)])) a (XObj a (xAt C t dx))) s' → Q () s') : wpAny (model X.prog X.w) A (setAttr (.ref a) f u) Q E s := by
  have hx := XObj.get I.hok e
  refine exc_set I.kIn hx c.sa c.po c.tk c.hd fun h' hx' hns hk => ?_
  have hf := I.hok.fresh (Nat.le_refl s.heap.objs.size)
  have hne : s.heap.objs.size ≠ a := Nat.ne_of_gt (Heap.lt_size hx)
  obtain ⟨oD, es, ep, hoD, hdD, hs1, hs2, hs3⟩ := id hns
  have hfr : oD.isFreed = false := by
    obtain ⟨c1, d1, dt, sl⟩ := oD
    have : dt = Data.dict es ep := hdD
    subst this; rfl
  have e1 : (s.heap.push oD).get? s.heap.objs.size = some oD := Heap.get?_push_size s.heap hfr
  have hlook : ∀ g, RelO ([(f, y)].lookup g) (if g = f then some u else none) := fun g => by
    by_cases q : g = f
    · rw [if_pos q, q]; simp [List.lookup]; exact ry
    · rw [if_neg q]
      have : (g == f) = false := by simp [q]
      simp [List.lookup, this]
      exact True.intro
  have I1 := I.laid (a := s.heap.objs.size) (o := .xd [(f, y)]) (h' := s.heap.push oD) (t' := s.toks + 2) (fun b v q => Heap.get?_push_of_some _ q) (Nat.le_refl _) ⟨_, ⟨oD, es, ep, e1, hdD, hs1, hs2, hs3⟩, hlook⟩
  have ea : upd H s.heap.objs.size (.xd [(f, y)]) a = some (XObj a (xRaw C t)) := by rw [upd_ne (Ne.symm hne)]; exact e
  refine h s.heap.objs.size _ hf hne (I1.write (h' := h') (t' := s.toks + 2) (x := a) (e := a) (by rw [ea]; exact True.intro) (.inl rfl) (fun b v hb q => ?_) ⟨_, hx'⟩ (XObj.ok hx'))
  by_cases hbd : b = s.heap.objs.size
  · subst hbd
    have q : (s.heap.push oD).get? s.heap.objs.size = some v := q
    rw [e1] at q; cases q
    exact hoD
  · have q : (s.heap.push oD).get? b = some v := q
    rw [Heap.get?_push_ne _ _ _ hbd] at q
    exact hk b v hb q
end
end L2
end
noncomputable section
set_option maxRecDepth 100000
set_option maxHeartbeats 4000000
namespace L2
open PySem PySem.Spec PyProof.Rows
noncomputable section
variable {X : Cx} {o value : Expr} {ta tv te : TE} {f : Str} {pos pos' : Pos}
noncomputable def sXFld (K : PySem.W.Frag) (ta tv : TE) (f : Str) : TS := fun D σ H => tv σ H fun y H1 => ta σ H1 fun x H2 => ∃ a C t, x = .ref a ∧ H2 a = some (XObj a (xRaw C t)) ∧ XCls K C f ∧ ∀ dx, H2 dx = none → dx ≠ a → D.nx σ (upd (upd H2 dx (.xd [(f, y)])) a (XObj a (xAt C t dx)))
theorem ps_xfld (ha : PE X o ta) (hv : PE X value tv) (hs : swapsWith value (some (.Attribute o f pos')) pos.line X.env = pure false) : PS X (.Assign [.Attribute o f pos'] value pos) (sXFld X.K ta tv f) := by
  intro pins s σ H D I h
  refine plainObj_wpAny_Assign_Attribute (thn (hv pins s σ H _ I h) fun u s1 ⟨y, H1, I1, ry, q⟩ => thn (ha pins s1 σ H1 _ I1 q) fun ov s2 ⟨x, H2, I2, rx, a, C, t, ex, ea, c, q2⟩ => ?_) hs
  subst ex
  obtain rfl : ov = Value.ref a := rx
  exact xset_ok I2 ea c ry fun dx s3 hd hn I3 => ⟨σ, _, I3, q2 dx hd hn⟩
noncomputable def spXInit (C : Addr) (f : Str) : Sp := fun vs H Q _ => ∃ a t v, vs = [.ref a, v] ∧ H a = some (XObj a (xRaw C t)) ∧ ∀ dx, H dx = none → dx ≠ a → Q .non (upd (upd H dx (.xd [(f, v)])) a (XObj a (xAt C t dx)))
structure XMk (K : PySem.W.Frag) (C fI : Addr) : Prop where
  cl : ∃ (nm q : Str) (N : Addr) (bs bm bmB : List Value) (sn : List Str) (sub : List Value) (ab : Bool) (col : Option Bool) (dd : Option Addr) (k0 k1 k2 k3 k5 : Option Value) (B Bn newId nid initId inN : String) (bmN : List Value) (mN : Str → Option Value),
    ExcBaseFacts Bn newId inN bmN ∧ bmB.contains (Value.type Bn) = true ∧ ExcBaseFacts B nid initId bmB ∧ bm.contains (Value.type "BaseException") = true ∧
    K.lookup C = some (excClassObj nm q C N bs bm true sn sub ab col dd k0 k1 k2 k3 k5 newId) ∧ (∀ h : Heap, K.In h → OwnTail h bmB bm ∧ h.Ns N mN) ∧ mN (Str.ofString "__init__") = some (.ref fI)
  fn : PySem.W.typeIn K (.ref fI) = some (.type "function")
  kp : PySem.W.keepIn K (.ref C) = true
theorem K_get {K : PySem.W.Frag} {h : Heap} (X : K.In h) {a : Addr} {o : Obj} (e : K.lookup a = some o) : h.get? a = some o := X a o e
theorem run_xmake {k : Nat} {C fI : Addr} {fd : FuncData} {pins : List (Addr × Obj)} {σ : St} {H : Hp} {s : Shared} {Q : VK} {u : Value} {v : V} (M : XMk X.K C fI) (F : FnOk X.prog X.w X.K X.mg X.base CX0 k fI fd ["self", f] (spXInit C f)) (hr : Room (k + 1) X.A) (hb : Binds X.K fd ["self", f] [])
    (I : Inv X pins σ H s) (r : RelV v u) (h : ∀ a t dx, H a = none → H dx = none → dx ≠ a → Q (.ref a) (upd (upd (upd H a (XObj a (xRaw C t))) dx (.xd [(f, v)])) a (XObj a (xAt C t dx)))) :
    wpAny (model X.prog X.w) X.A (call (.ref C) [u]) (EP X pins σ Q) X.xe s := by
  obtain ⟨nm, q, N, bs, bm, bmB, sn, sub, ab, col, dd, k0, k1, k2, k3, k5, B, Bn, newId, nid, initId, inN, bmN, mN, Fn, hBn, FB, hbm, lk, hT, hni⟩ := M.cl
  have hC := K_get I.kIn lk
  obtain ⟨T, hn⟩ := hT _ I.kIn
  have I1 := I.kept (h' := s.heap.push { cls := Value.type "tuple", data := Data.seq [u].toArray }) (t' := s.toks) fun b o e => Heap.get?_push_of_some _ e
  have hget : (excNew s.heap C [u]).get? (s.heap.objs.size + 1) = some (xRaw C s.heap.objs.size) := Heap.get?_push_at (by simp [Heap.size_push]) rfl
  have I2 := I1.laid (a := s.heap.objs.size + 1) (o := XObj (s.heap.objs.size + 1) (xRaw C s.heap.objs.size)) (h' := excNew s.heap C [u]) (t' := s.toks) (fun b o e => Heap.get?_push_of_some _ e) (Nat.le_of_eq (Heap.size_push _ _)) (XObj.ok hget)
  have kin2 := I2.kIn
  have env2 := I2.env0
  obtain ⟨hh, g, d, tk, os⟩ := s
  refine wp_call_own Fn hBn FB T hC hn hni (show [u].length ≤ sizeLine from Nat.le_of_lt (small1000 (n := 1) (by decide))) (fun A' E' s1 P' e p => ?_) ?_
  · have : X.K.In s1.heap := by rw [e]; exact kin2
    exact PySem.W.Looks.here (PySem.W.looks_typeIn this M.fn) p
  · refine wpAny_call (codeAny_mono (F.run _ X.stack _ _ ⟨[Value.ref (hh.objs.size + 1), u], []⟩ [Value.ref (hh.objs.size + 1), u] [V.ref (hh.objs.size + 1), v] (fun w H2 => w = .non ∧ Q (.ref (hh.objs.size + 1)) H2) E0 (hr.make C [u] []) (env2.make C [u] []) (hb _ [Value.ref (hh.objs.size + 1), u] kin2 rfl) (.cons rfl (.cons r .nil)) ⟨hh.objs.size + 1, hh.objs.size, v, rfl, upd_same, fun dx hd hn => ⟨rfl, ?_⟩⟩) fun r s' hq' => ?_)
    · have hd0 : H dx = none := by rw [upd_ne hn] at hd; exact hd
      exact h _ _ dx (I.hok.fresh (Nat.le_succ _)) hd0 hn
    · cases r with
      | error e => exact False.elim hq'
      | ok fl =>
        cases fl with
        | ret u' =>
          obtain ⟨v', H', I3, rv, ev, q3⟩ := I2.after hq'
          subst ev
          exact ⟨rv, ⟨V.ref (hh.objs.size + 1), H', I3, rfl, q3⟩⟩
        | next => exact False.elim hq'
        | brk => exact False.elim hq'
        | cont => exact False.elim hq'
noncomputable def tXMake (C : Addr) (f : Str) (t : TA) : TE := fun σ H Q => t σ H fun vs H1 => ∃ v, vs = [v] ∧ ∀ a t dx, H1 a = none → H1 dx = none → dx ≠ a → Q (.ref a) (upd (upd (upd H1 a (XObj a (xRaw C t))) dx (.xd [(f, v)])) a (XObj a (xAt C t dx)))
theorem pe_xmake {k : Nat} {C fI : Addr} {fd : FuncData} {x : Str} {p : Pos} {e : Expr} {t : TA} (M : XMk X.K C fI) (F : FnOk X.prog X.w X.K X.mg X.base CX0 k fI fd ["self", f] (spXInit C f)) (hr : Room (k + 1) X.A) (hg : Gl X x) (hm : X.mg x = some (.ref C)) (hb : Binds X.K fd ["self", f] [])
    (ha : PA X [e] t) (hdb : (x == ("__debug__" : Str)) = false := by decide) (he : starEach [e] X.env = (false, eval e X.env) :: starEach [] X.env := by rfl) (hpl : (backTo pos (starEach [] X.env)).any (·.1) = false := by rfl) :
    PE X (.Call (.Name x p) [e] [] pos) (tXMake C f t) := by
  intro pins s σ H Q I h
  refine wpAny_Call_Name_kw (ld_glob I hg hm ?_ hdb)
  refine PySem.W.callWith_K (h₀ := X.base) I.ok.mod.kin M.kp (thn (ha pos pins s σ H _ I h) fun us s1 ⟨vs, H1, I1, r, v, ev, q⟩ => ⟨I1.kIn, ?_⟩) he hpl
  subst ev
  obtain ⟨u, rfl, rv⟩ := vals1 r
  exact run_xmake M F hr hb I1 rv q
noncomputable def sRaise (X : Cx) (C : Addr) (te : TE) : TS := fun _ σ H => te σ H fun v H1 => ∃ a t dx, v = .ref a ∧ H1 a = some (XObj a (xAt C t dx)) ∧ ∀ pins s', Inv X pins σ H1 s' → X.xe (.ref a) s'
theorem ps_raise {C fI : Addr} {e : Expr} (M : XMk X.K C fI) (hc : X.calm = true) (he : PE X e te) : PS X (.Raise (some e) none pos) (sRaise X C te) := by
  intro pins s σ H D I h
  obtain ⟨nm, q, N, bs, bm, bmB, sn, sub, ab, col, dd, k0, k1, k2, k3, k5, B, Bn, newId, nid, initId, inN, bmN, mN, Fn, hBn, FB, hbm, lk, hT, hni⟩ := M.cl
  rw [arm_exec_Raise]
  refine wpAny_bind (wpAny_standAt ?_)
  refine wp_raise_own (C := C) (nm := nm) (q := q) (N := N) (bs := bs) (hdct := true) (sn := sn) (sub := sub) (ab := ab) (col := col) (dd := dd) (k0 := k0) (k1 := k1) (k2 := k2) (k3 := k3) (k5 := k5) (newId := newId) hbm (I.ok.hd hc) ?_
  refine wpAny_bind (thn (he pins s σ H _ I h) fun u s1 ⟨v, H1, I1, rv, a, t, dx, ev, ea, w⟩ => ?_)
  subst ev
  obtain rfl : u = Value.ref a := rv
  refine wpAny_bind (wpAny_standAt (wpAny_pure ?_))
  exact ⟨a, _, _, rfl, K_get I1.kIn lk, XObj.get I1.hok ea, rfl, rfl, rfl, w pins s1 I1⟩
end
end L2
end
noncomputable section
set_option maxRecDepth 100000
set_option maxHeartbeats 4000000
namespace L2
open PySem PySem.Spec PyProof.Rows
structure XT (H : Hp) (a C dx T : Addr) (oe oT : Obj) : Prop where
  ea : H a = some (XObj a oe)
  cls : oe.cls = .ref C
  dict : oe.dict = some dx
  fl : ∃ vs, oe.data = .fields vs ∧ vs[1]? = some (.ref T) ∧ ∃ a0, vs[0]? = some a0
  ne : T ≠ a
  eT : H T = some (XObj T oT)
  tr : ∃ ts, oT.data = .fields ts ∧ ts[3]? = some .none
noncomputable def CX1 (P : Program) (w : World) : CXT := fun outer H s E e s' => ∃ a C dx T oe oT H', e = .ref a ∧ s'.os = s.os ∧ AllBare s'.gens ∧ Un (frs outer) [] H H' s.heap s'.heap ∧ HOk P w H' s'.heap ∧ XT H' a C dx T oe oT ∧ E (.ref C) (some dx) H'
noncomputable section
variable {P : Program} {w : World} {K : PySem.W.Frag} {mg : Str → Option Value} {base : Heap} {N : List Str} {qual : Str} {scope : Scope} {f : Addr} {cd : Value} {A : Around} {outer : List Env} {s₀ s : Shared} {H₀ H : Hp} {E : XK} {pins : List (Addr × Obj)} {σ : St} {a C t dx : Addr}
theorem leave_ok (I : Inv (cxOf (CX1 P w) P w K mg base N qual scope f cd A outer s₀ H₀ E) pins σ H s) (ea : H a = some (XObj a (xAt C t dx)))
    (hE : ∀ T oe oT, H T = none → T ≠ a → E (.ref C) (some dx) (upd (upd H T (XObj T oT)) a (XObj a oe))) : (cxOf (CX1 P w) P w K mg base N qual scope f cd A outer s₀ H₀ E).xe (.ref a) s := by
  have hx := XObj.get I.hok ea
  have hst := I.stack
  have hfree := I.stkFree
  refine wp_leaving1 (M := model P w) (base := base) I.ok.frames hst rfl hx rfl rfl rfl fun h' T lx ext eT => ?_
  obtain ⟨oe, vs, oT, ts, g1, g2, g3, g4, g5, g6, g7, g8, g9, g10⟩ := ext
  have hTf : H T = none := I.hok.fresh (Nat.le_of_eq eT.symm)
  have hL : (envOfC qual scope s₀.heap.objs.size f cd).locals = s₀.heap.objs.size := rfl
  have notA : ∀ b, H b = none → b ≠ a := fun b hb z => by rw [z, ea] at hb; cases hb
  have oldT : ∀ b o, s.heap.get? b = some o → b ≠ T := fun b o e z => by
    have := Heap.lt_size e
    rw [z, eT] at this
    exact Nat.lt_irrefl _ this
  have old0 : ∀ b o, s₀.heap.get? b = some o → b ∉ frs outer → b ∉ frs (envOfC qual scope s₀.heap.objs.size f cd :: outer) := fun b o e hb hm => by
    have hlt := Heap.lt_size e
    have hm : b ∈ s₀.heap.objs.size :: frs outer := hm
    rcases List.mem_cons.mp hm with z | z
    · rw [z] at hlt; exact Nat.lt_irrefl _ hlt
    · exact hb z
  have same : ∀ b u, b ≠ a → H b = some u → upd (upd H T (XObj T oT)) a (XObj a oe) b = some u := fun b u hb e => by
    rw [upd_ne hb, upd_ne (ne_of_none e hTf)]; exact e
  have keepT : ∀ c v, c ≠ a → H c ≠ none → s.heap.get? c = some v → h'.get? c = some v := fun c v hc hn e =>
    lx.keep c v hc (fun hm => hn (hfree c hm)) e
  refine ⟨a, C, dx, T, oe, oT, upd (upd H T (XObj T oT)) a (XObj a oe), rfl, I.os, I.bare, ⟨fun b o e n hb hx' => ?_, fun b o e n hb hx' => ?_, fun b o e n hx' => ?_, fun b o e hx' => ?_, fun b xs e => ?_, fun b o u e => ?_, fun b ps e => ?_⟩, fun b u e => ?_, ⟨upd_same, g2, g3, ⟨vs, g4, g6, _, g5⟩, g7, by rw [upd_ne g7, upd_same], ⟨ts, g9, g10⟩⟩, hE T oe oT hTf g7⟩
  · have h1 := I.base.keep b o e n hb hx'
    have h2 := I.base.free b o e n hx'
    exact lx.keep b o (notA b h2) (old0 b o e hb) h1
  · obtain ⟨sl, h1⟩ := I.base.slot b o e n hb hx'
    have h2 := I.base.free b o e n hx'
    have hm : b ∈ frs (envOfC qual scope s₀.heap.objs.size f cd :: outer) := List.mem_cons_of_mem s₀.heap.objs.size hb
    obtain ⟨sl', h3⟩ := lx.slot b _ (notA b h2) hm h1
    exact ⟨sl', h3⟩
  · have h2 := I.base.free b o e n hx'
    obtain ⟨o', h3⟩ := I.base.there b o e hx'
    rw [upd_ne (notA b h2), upd_ne (oldT b o' h3)]; exact h2
  · obtain ⟨o', h3⟩ := I.base.there b o e hx'
    by_cases hba : b = a
    · exact ⟨oe, by rw [hba]; exact g1⟩
    · by_cases hm : b ∈ frs (envOfC qual scope s₀.heap.objs.size f cd :: outer)
      · obtain ⟨sl, h4⟩ := lx.slot b o' hba hm h3
        exact ⟨_, h4⟩
      · exact ⟨o', lx.keep b o' hba hm h3⟩
  · have h1 := I.base.tups b xs e
    exact same b _ (fun z => by rw [z, ea] at h1; cases h1) h1
  · have h1 := I.base.frzs b o u e
    exact same b _ (fun z => by rw [z, ea] at h1; cases h1) h1
  · obtain ⟨more, h1⟩ := I.base.tbls b ps e
    exact ⟨more, same b _ (fun z => by rw [z, ea] at h1; cases h1) h1⟩
  · by_cases hba : b = a
    · subst hba
      rw [upd_same] at e; cases e
      exact XObj.ok g1
    · rw [upd_ne hba] at e
      by_cases hbT : b = T
      · subst hbT
        rw [upd_same] at e; cases e
        exact XObj.ok g8
      · rw [upd_ne hbT] at e
        refine (I.hok b u e).stay (fun c v hc q => ?_) (fun c r => ?_) fun c xs r => ?_
        · rcases hc with rfl | hc
          · exact keepT c v hba (by rw [e]; simp) q
          · exact keepT c v (fun z => by rw [z, ea] at hc; cases hc) (by rw [hc]; simp) q
        · exact same c _ (fun z => by rw [z, ea] at r; cases r) r
        · exact same c _ (fun z => by rw [z, ea] at r; cases r) r
end
end L2
end
noncomputable section
set_option maxRecDepth 100000
set_option maxHeartbeats 4000000
namespace L2
open PySem PySem.Spec PyProof.Rows
noncomputable section
variable {M : Model} {A : Around} {E : Value → Shared → Prop} {s : Shared} {base : Heap} {env : Env} {outer : List Env} {L e T : Addr} {oe oT : Obj} {vs ts : Array Value} {a0 : Value}
theorem wp_lands {Q : Unit → Shared → Prop} (hfr : A.frames = some (env :: outer)) (hl : s.heap.FunFrames base (env :: outer)) (hf : env.frame = some L) (he : s.heap.get? e = some oe) (hd : oe.data = .fields vs) (h1 : vs[1]? = some (.ref T)) (h0 : vs[0]? = some a0)
    (hT : s.heap.get? T = some oT) (hdT : oT.data = .fields ts) (h3 : ts[3]? = some .none) (hne : T ≠ e)
    (h : ∀ h' T', LeftX (frs (env :: outer)) e s.heap h' → ExcT h' e oe.cls oe.dict a0 .none T' → T' = s.heap.objs.size → Q () { s with heap := h' }) :
    wpAny M A (noteFrame (.ref e) env) (fun _ s2 => wpAny M A (setFlight (.ref e) none) Q E s2) E s := by
  have hene : e ∉ frs (env :: outer) := fun hm => by
    obtain ⟨_, o, ho, hnf⟩ := hl.mem hm
    rw [he] at ho; cases ho
    exact hnf vs hd
  have hTne : T ∉ frs (env :: outer) := fun hm => by
    obtain ⟨_, o, ho, hnf⟩ := hl.mem hm
    rw [hT] at ho; cases ho
    exact hnf ts hdT
  have hsz : 1 < vs.size := (Array.getElem?_eq_some_iff.mp h1).1
  have hszT : 3 < ts.size := (Array.getElem?_eq_some_iff.mp h3).1
  have hid : Obj.mapFields (fun x => x.setIfInBounds 3 Value.none) oT = oT := by
    obtain ⟨c, d, dt, sl⟩ := oT
    have : dt = .fields ts := hdT
    subst this
    show (⟨c, d, .fields (ts.setIfInBounds 3 Value.none), sl⟩ : Obj) = _
    congr 2
    apply Array.ext
    · simp
    · intro i h1 h2
      by_cases hi : 3 = i
      · subst hi
        rw [Array.getElem_setIfInBounds_self]
        have := Array.getElem?_eq_getElem h2
        rw [h3] at this
        injection this
      · rw [Array.getElem_setIfInBounds_ne _ hi]
  have same : ∀ b o, s.heap.get? b = some o → (s.heap.update T (Obj.mapFields fun x => x.setIfInBounds 3 Value.none)).get? b = some o := fun b o hb => by
    by_cases hbT : b = T
    · subst hbT
      rw [hT] at hb; cases hb
      have hh := Heap.get?_update_self (Obj.mapFields fun x => x.setIfInBounds 3 Value.none) hT (by rw [hid]; exact Obj.isFreed_of_fields hdT)
      rw [hid] at hh; exact hh
    · rw [Heap.get?_update_other _ _ (Ne.symm hbT)]; exact hb
  have he2 := same e oe he
  have hl2 : (s.heap.update T (Obj.mapFields fun x => x.setIfInBounds 3 Value.none)).FunFrames base (env :: outer) := Heap.FunFrames.of_keeps (fun b o hb _ => ⟨o, same b o hb, rfl⟩) hl
  unfold noteFrame
  rw [hf]
  refine wpAny_bind (wpAny_field he hd h1 ?_)
  rw [if_pos (by simp)]
  refine wpAny_bind (wpAny_field hT hdT h3 ?_)
  rw [if_neg (by simp [rawInt])]
  refine wpAny_bind (wpAny_setField hT hdT hszT ?_)
  refine wpAny_bind (wpAny_frameOf_fun hfr hl2 hf fun h₁ hs₁ => ?_)
  refine wpAny_bind (wpAny_entryPlaceOf fun pl hpl => ?_)
  refine wpAny_bind ?_
  unfold EntryCells.newEntry
  refine wpAny_newObj_type ?_ (IsPlace.sizeOk5 hpl _ _ _ _ _)
  have he₁ : h₁.get? e = some oe := (hs₁.2.1 e hene).trans he2
  have he₂ := Heap.get?_push_of_some { cls := Value.type "traceback", data := Data.fields ([Value.ref T, Value.ref L, Value.none, rawInt ↑L, Value.none] ++ if pl.isEmpty = true then List.replicate 6 Value.none else pl).toArray } he₁
  refine wpAny_setField he₂ hd hsz ?_
  have hTe : h₁.objs.size ≠ e := Nat.ne_of_gt (Heap.lt_size he₁)
  have hd₃ := Obj.data_mapFields hd fun x => x.setIfInBounds 1 (Value.ref h₁.objs.size)
  have he₃ := Heap.get?_update_self (Obj.mapFields fun x => x.setIfInBounds 1 (Value.ref h₁.objs.size)) he₂ (Obj.isFreed_of_fields hd₃)
  have hT₃ := (Heap.get?_update_other (h₁.push { cls := Value.type "traceback", data := Data.fields ([Value.ref T, Value.ref L, Value.none, rawInt ↑L, Value.none] ++ if pl.isEmpty = true then List.replicate 6 Value.none else pl).toArray }) (Obj.mapFields fun x => x.setIfInBounds 1 (Value.ref h₁.objs.size)) (Ne.symm hTe)).trans (Heap.get?_push_size h₁ rfl)
  have g1 : (vs.setIfInBounds 1 (Value.ref h₁.objs.size))[1]? = some (Value.ref h₁.objs.size) := by simp [hsz]
  have g0 : (vs.setIfInBounds 1 (Value.ref h₁.objs.size))[0]? = some a0 := by
    rw [Array.getElem?_setIfInBounds_ne (by decide)]; exact h0
  unfold setFlight
  refine wpAny_bind (wpAny_field he₃ hd₃ g1 ?_)
  rw [if_pos (by simp)]
  have hsz3 : 3 < ([Value.ref T, Value.ref L, Value.none, rawInt ↑L, Value.none] ++ if pl.isEmpty = true then List.replicate 6 Value.none else pl).toArray.size := by simp
  refine wpAny_setField hT₃ rfl hsz3 ?_
  have hsz1 : h₁.objs.size = s.heap.objs.size := hs₁.1.trans (Heap.size_update _ _ _)
  have hfree : s.heap.get? h₁.objs.size = none := by
    rw [hsz1]
    cases q : s.heap.get? s.heap.objs.size with
    | none => rfl
    | some o => exact absurd (Heap.lt_size q) (Nat.lt_irrefl _)
  have hkeep : ∀ b o, b ≠ e → b ≠ h₁.objs.size → h₁.get? b = some o → ((Heap.update (h₁.push { cls := Value.type "traceback", data := Data.fields ([Value.ref T, Value.ref L, Value.none, rawInt ↑L, Value.none] ++ if pl.isEmpty = true then List.replicate 6 Value.none else pl).toArray }) e (Obj.mapFields fun x => x.setIfInBounds 1 (Value.ref h₁.objs.size))).update h₁.objs.size (Obj.mapFields fun x => x.setIfInBounds 3 (Option.elim none Value.none fun f => rawInt ↑f))).get? b = some o := fun b o hbe hbT hb => by
    rw [Heap.get?_update_other _ _ (Ne.symm hbT), Heap.get?_update_other _ _ (Ne.symm hbe)]
    exact Heap.get?_push_of_some _ hb
  refine h _ h₁.objs.size ⟨fun b o hbe hbf hb => ?_, fun b o hbe hbf hb => ?_⟩ ?_ hsz1
  · refine hkeep b o hbe ?_ ((hs₁.2.1 b hbf).trans (same b o hb))
    intro z; rw [z, hfree] at hb; cases hb
  · obtain ⟨sl, hsl⟩ := hs₁.2.2 b o (same b o hb)
    refine ⟨sl, hkeep b _ hbe ?_ hsl⟩
    intro z; rw [z, hfree] at hb; cases hb
  · have hdT := Obj.data_mapFields (o := { cls := Value.type "traceback", data := Data.fields ([Value.ref T, Value.ref L, Value.none, rawInt ↑L, Value.none] ++ if pl.isEmpty = true then List.replicate 6 Value.none else pl).toArray }) rfl fun x => x.setIfInBounds 3 (Option.elim none Value.none fun f => rawInt ↑f)
    refine ⟨_, _, _, _, (Heap.get?_update_other _ _ hTe).trans he₃, Obj.cls_mapFields _ _, Obj.dict_mapFields _ _, hd₃, g0, g1, hTe, Heap.get?_update_self _ hT₃ (Obj.isFreed_of_fields hdT), hdT, ?_⟩
    simp
end
end L2
end
noncomputable section
set_option maxRecDepth 100000
set_option maxHeartbeats 4000000
namespace L2
open PySem PySem.Spec PyProof.Rows
theorem left_un {P : Program} {w : World} {H : Hp} {h h' : Heap} {fs : List Addr} {a T : Addr} {o oe oT : Obj} (hok : HOk P w H h) (hfree : ∀ b ∈ fs, H b = none) (ea : H a = some (XObj a o)) (lx : LeftX fs a h h') (ga : h'.get? a = some oe) (gT : h'.get? T = some oT) (eT : T = h.objs.size) :
    Un fs [] H (upd (upd H T (XObj T oT)) a (XObj a oe)) h h' ∧ HOk P w (upd (upd H T (XObj T oT)) a (XObj a oe)) h' := by
  have hTf : H T = none := hok.fresh (Nat.le_of_eq eT.symm)
  have notA : ∀ b, H b = none → b ≠ a := fun b hb z => by rw [z, ea] at hb; cases hb
  have oldT : ∀ b o, h.get? b = some o → b ≠ T := fun b o e z => by
    have := Heap.lt_size e
    rw [z, eT] at this
    exact Nat.lt_irrefl _ this
  have same : ∀ b u, b ≠ a → H b = some u → upd (upd H T (XObj T oT)) a (XObj a oe) b = some u := fun b u hb e => by
    rw [upd_ne hb, upd_ne (ne_of_none e hTf)]; exact e
  have keepT : ∀ c v, c ≠ a → H c ≠ none → h.get? c = some v → h'.get? c = some v := fun c v hc hn e =>
    lx.keep c v hc (fun hm => hn (hfree c hm)) e
  refine ⟨⟨fun b o e n hb hx' => lx.keep b o (notA b n) hb e, fun b o e n hb hx' => lx.slot b o (notA b n) hb e, fun b o e n hx' => ?_, fun b o e hx' => ?_, fun b xs e => same b _ (fun z => by rw [z, ea] at e; cases e) e, fun b o u e => same b _ (fun z => by rw [z, ea] at e; cases e) e, fun b ps e => ⟨#[], by rw [same b _ (fun z => by rw [z, ea] at e; cases e) e]; simp⟩⟩, fun b u e => ?_⟩
  · rw [upd_ne (notA b n), upd_ne (oldT b o e)]; exact n
  · by_cases hba : b = a
    · exact ⟨oe, by rw [hba]; exact ga⟩
    · by_cases hm : b ∈ fs
      · obtain ⟨sl, h4⟩ := lx.slot b o hba hm e
        exact ⟨_, h4⟩
      · exact ⟨o, lx.keep b o hba hm e⟩
  · by_cases hba : b = a
    · subst hba
      rw [upd_same] at e; cases e
      exact XObj.ok ga
    · rw [upd_ne hba] at e
      by_cases hbT : b = T
      · subst hbT
        rw [upd_same] at e; cases e
        exact XObj.ok gT
      · rw [upd_ne hbT] at e
        refine (hok b u e).stay (fun c v hc q => ?_) (fun c r => ?_) fun c xs r => ?_
        · rcases hc with rfl | hc
          · exact keepT c v hba (by rw [e]; simp) q
          · exact keepT c v (fun z => by rw [z, ea] at hc; cases hc) (by rw [hc]; simp) q
        · exact same c _ (fun z => by rw [z, ea] at r; cases r) r
        · exact same c _ (fun z => by rw [z, ea] at r; cases r) r
noncomputable section
variable {X : Cx} {pins : List (Addr × Obj)} {σ : St} {H : Hp} {s : Shared} {E : Value → Shared → Prop} {a C dx T L : Addr} {oe oT : Obj}
theorem land_ok {Q : Unit → Shared → Prop} (hst : X.stack = X.env :: X.outer) (hf : X.env.frame = some L) (I : Inv X pins σ H s) (x : XT H a C dx T oe oT)
    (h : ∀ s' H' T' oe' oT', Inv X pins σ H' s' → XT H' a C dx T' oe' oT' → (∀ b o, b ≠ a → H b = some o → H' b = some o) → Q () s') :
    wpAny (model X.prog X.w) X.A (noteFrame (.ref a) X.env) (fun _ s2 => wpAny (model X.prog X.w) X.A (setFlight (.ref a) none) Q E s2) E s := by
  obtain ⟨vs, hd, h1, a0, h0⟩ := x.fl
  obtain ⟨ts, hdT, h3⟩ := x.tr
  have hfrs := I.ok.frames
  rw [hst] at hfrs
  have hfun := I.stack
  rw [hst] at hfun
  refine wp_lands (base := X.base) hfrs hfun hf (XObj.get I.hok x.ea) hd h1 h0 (XObj.get I.hok x.eT) hdT h3 x.ne fun h' T' lx ext eT => ?_
  obtain ⟨oe', vs', oT', ts', g1, g2, g3, g4, g5, g6, g7, g8, g9, g10⟩ := ext
  rw [← hst] at lx
  obtain ⟨un, hok⟩ := left_un I.hok I.stkFree x.ea lx g1 g8 eT
  have hTf : H T' = none := I.hok.fresh (Nat.le_of_eq eT.symm)
  refine h _ (upd (upd H T' (XObj T' oT')) a (XObj a oe')) T' oe' oT' (I.call' (s' := { s with heap := h' }) (ch := []) rfl un hok I.bare (fun b z => absurd z (by simp))) ⟨upd_same, g2.trans x.cls, g3.trans x.dict, ⟨vs', g4, g6, _, g5⟩, g7, by rw [upd_ne g7, upd_same], ⟨ts', g9, g10⟩⟩ fun b o hb e => ?_
  rw [upd_ne hb, upd_ne (ne_of_none e hTf)]; exact e
theorem Inv.caught {E' : XK} {e : Value} {s' : Shared} (I : Inv X pins σ H s) (c : CX1 X.prog X.w X.stack H s E' e s') : ∃ a C dx T oe oT H', e = .ref a ∧ Inv X pins σ H' s' ∧ XT H' a C dx T oe oT ∧ E' (.ref C) (some dx) H' := by
  obtain ⟨a, C, dx, T, oe, oT, H', rfl, os, bare, un, hok, x, q⟩ := c
  exact ⟨a, C, dx, T, oe, oT, H', rfl, I.call' os un hok bare (fun b z => absurd z (by simp)), x, q⟩
end
end L2
end
noncomputable section
set_option maxRecDepth 100000
set_option maxHeartbeats 4000000
namespace L2
open PySem PySem.Spec PyProof.Rows
theorem find_erase {α : Type} {p : α → Bool} {l : List α} {i : Nat} (h : ∀ x, l[i]? = some x → p x = false) : (l.eraseIdx i).find? p = l.find? p := by
  by_cases hi : i < l.length
  · have e : l = l.take i ++ l[i] :: l.drop (i + 1) := by
      rw [← List.drop_eq_getElem_cons hi, List.take_append_drop]
    have hp : p l[i] = false := h _ (List.getElem?_eq_getElem hi)
    rw [List.eraseIdx_eq_take_drop_succ]
    conv => rhs; rw [e]
    rw [List.find?_append, List.find?_append, List.find?_cons, hp]
  · rw [List.eraseIdx_of_length_le (by omega)]
theorem nsFind_erase {es : Array DictEntry} {n x : Str} {i : Nat} (hk : StrKeys es) (e : es.findIdx? (fun y => y.key.isStr n) = some i) (hx : x ≠ n) : nsFind (es.eraseIdxIfInBounds i) x = nsFind es x := by
  obtain ⟨hi, hp, _⟩ := Array.findIdx?_eq_some_iff_getElem.mp e
  have ee : es.eraseIdxIfInBounds i = es.eraseIdx i hi := by unfold Array.eraseIdxIfInBounds; rw [dif_pos hi]
  have : (es.eraseIdx i hi).find? (fun y => y.key.isStr x) = es.find? (fun y => y.key.isStr x) := by
    rw [← Array.find?_toList, ← Array.find?_toList, Array.toList_eraseIdx]
    refine find_erase fun y hy => ?_
    rw [Array.getElem?_toList, Array.getElem?_eq_getElem hi] at hy
    cases hy
    obtain ⟨m, t, hm⟩ := hk es[i] (Array.getElem_mem hi)
    rw [hm] at hp ⊢
    have hp : (m == n) = true := hp
    show (m == x) = false
    have hm : m = n := by simpa using hp
    rw [hm]
    simpa using Ne.symm hx
  rw [ee]
  show Option.map _ _ = Option.map _ _
  rw [this]
theorem strKeys_erase {es : Array DictEntry} {i : Nat} (hk : StrKeys es) : StrKeys (es.eraseIdxIfInBounds i) := fun e he => by
  refine hk e ?_
  unfold Array.eraseIdxIfInBounds at he
  split at he
  · exact Array.mem_of_mem_eraseIdx he
  · exact he
noncomputable section
variable {M : Model} {A : Around} {E : Value → Shared → Prop} {s : Shared}
theorem wp_nsDel {a : Addr} {m : Str → Option Value} {name : Str} {Q : Bool → Shared → Prop} (hn : s.heap.Ns a m) (hv : ∃ v, m name = some v)
    (hQ : ∀ h' m', h'.Ns a m' → (∀ x, x ≠ name → m' x = m x) → Heap.SameBut a s.heap h' → Q true { s with heap := h' }) : wpAny M A (nsDel a name) Q E s := by
  obtain ⟨o, es, ep, ho, hd, hk, hm⟩ := id hn
  obtain ⟨v, hv⟩ := hv
  have hfi : ∃ i, es.findIdx? (fun y => y.key.isStr name) = some i := by
    cases q : es.findIdx? (fun y => y.key.isStr name) with
    | some i => exact ⟨i, rfl⟩
    | none =>
      exfalso
      have h1 := hm name
      rw [hv] at h1
      have h1 : Option.map _ (es.find? (fun y => y.key.isStr name)) = some v := h1
      have : es.find? (fun y => y.key.isStr name) = none := by
        rw [Array.find?_eq_none]
        intro x hx hh
        have := Array.findIdx?_eq_none_iff.mp q x hx
        rw [this] at hh; cases hh
      rw [this] at h1; cases h1
  obtain ⟨i, hi⟩ := hfi
  obtain ⟨hil, hip, _⟩ := Array.findIdx?_eq_some_iff_getElem.mp hi
  have hhas : nsHas name o = pure true := by
    rw [nsHas_eq]
    unfold nsHasByArray
    rw [hd]
    show (if (es.any fun y => y.key.isStr name) = true then _ else _) = _
    rw [if_pos (Array.any_eq_true.mpr ⟨i, hil, hip⟩)]
  unfold nsDel
  refine wpAny_bind (wpAny_loadPart ho ?_)
  rw [hhas]
  refine wpAny_bind (wpAny_pure ?_)
  rw [if_pos rfl]
  refine wpAny_bind (wpAny_updatePart ho (wpAny_pure ?_))
  obtain ⟨c, d, dt, sl⟩ := o
  have : dt = .dict es ep := hd
  subst this
  have hdrop : Obj.dropName name { cls := c, dict := d, data := Data.dict es ep, slots := sl } = { cls := c, dict := d, data := Data.dict (es.eraseIdxIfInBounds i) (ep + 1), slots := sl } := by
    rw [Obj.dropName_eq, Obj.dropNameByArray.eq_1, hi]
  have hget := Heap.get?_update_self (Obj.dropName name) ho (by rw [hdrop]; rfl)
  rw [hdrop] at hget
  refine hQ _ (nsFind (es.eraseIdxIfInBounds i)) ⟨_, _, _, hget, rfl, strKeys_erase hk, fun _ => rfl⟩ (fun x hx => by rw [nsFind_erase hk hi hx]; exact hm x) ⟨Heap.size_update _ _ _, fun b hb => Heap.get?_update_other _ _ (Ne.symm hb)⟩
theorem wp_nameGoes {env : Env} {n : Str} {pos : Pos} {m : Str → Option Value} {Q : Unit → Shared → Prop} (hl : env.kindOf n = some .local) (hn : s.heap.Ns env.locals m)
    (hp : (env.scope.kind == .class || env.scope.kind == .module && env.locals != env.globals) = false)
    (h : ∀ h' m', h'.Ns env.locals m' → (∀ x, x ≠ n → m' x = m x) → Heap.SameBut env.locals s.heap h' → Q () { s with heap := h', toks := s.toks + 1 }) :
    wpAny M A (do bindName env n Value.none; unbindBehindTheSuite env n pos) Q E s := by
  refine wpAny_bind (wpAny_bindName (wpAny_storeName_local hl hn (fun h₁ hn₁ hs₁ => ?_) hp))
  unfold unbindBehindTheSuite
  refine wpAny_onRaise ?_
  unfold unbindName
  refine wpAny_bind (wpAny_point (wpAny_bind ?_))
  unfold deleteName
  simp only [hl]
  rw [if_neg (by rw [hp]; decide)]
  refine wpAny_bind (wp_nsDel hn₁ ⟨_, if_pos rfl⟩ fun h₂ m₂ hn₂ he hs₂ => ?_)
  rw [if_neg (by decide)]
  refine wpAny_pure (wpAny_point (h h₂ m₂ hn₂ (fun x hx => ?_) (Heap.SameBut.trans hs₁ hs₂)))
  rw [he x hx, if_neg hx]
end
end L2
end
noncomputable section
set_option maxRecDepth 100000
set_option maxHeartbeats 4000000
namespace L2
open PySem PySem.Spec PyProof.Rows
structure XStand (o : Obj) (C dx : Addr) : Prop where
  cls : o.cls = .ref C
  dict : o.dict = some dx
  no : PySem.W.notCls o = true
noncomputable abbrev Cx.mark (X : Cx) (e : Value) : Cx := { X with A := X.A.mark (some e), calm := false, xe := fun _ _ => False }
noncomputable section
variable {X : Cx} {pins : List (Addr × Obj)} {σ : St} {H : Hp} {s : Shared} {E : Value → Shared → Prop} {a C dx T L : Addr} {oe oT : Obj}
theorem Cx.Ok.mark {X : Cx} (ok : X.Ok) (e : Value) : (X.mark e).Ok :=
  ⟨ok.mod, ok.kind, ok.glob, ok.blt, ok.above, ok.inj, ok.has, ok.cab, fun h => (nomatch h), ok.frames, ok.stk, ok.exf, ok.bs, ok.bsz, ok.noex, ok.exfs, ok.funs, ok.frf⟩
theorem Inv.mark (I : Inv X pins σ H s) (e : Value) : Inv (X.mark e) pins σ H s := ⟨I.ok.mark e, I.os, I.bare, I.base, I.loc, I.cell, I.free, I.freeC, I.pin, I.hok, I.len⟩
theorem Inv.unmark {e : Value} (ok : X.Ok) (I : Inv (X.mark e) pins σ H s) : Inv X pins σ H s := ⟨ok, I.os, I.bare, I.base, I.loc, I.cell, I.free, I.freeC, I.pin, I.hok, I.len⟩
theorem goes_ok {M : Model} {A : Around} {i : Nat} {x : Str} {pos : Pos} {Q : Unit → Shared → Prop} (I : Inv X pins σ H s) (hN : X.N.Nodup) (hi : X.N[i]? = some x) (hk : X.env.scope.names.lookup x = some .local)
    (h : ∀ s', Inv X pins (σ.set i none) H s' → Q () s') : wpAny M A (do bindName X.env x Value.none; unbindBehindTheSuite X.env x pos) Q E s := by
  obtain ⟨m, hn, hl⟩ := id I.loc
  have hcls : (X.env.scope.kind == .class || (X.env.scope.kind == .module && X.env.locals != X.env.globals)) = false := by rw [I.ok.kind]; rfl
  have hiσ : i < σ.length := by rw [I.len]; exact (List.getElem?_eq_some_iff.mp hi).1
  have cne := I.cne
  have tracked : ∀ {a : Addr} {h' : Heap}, (∃ o, s.heap.get? a = some o ∧ H a = none) → Heap.SameBut a s.heap h' → HOk X.prog X.w H h' := fun {a h'} ha hs b ob e => by
    obtain ⟨_, _, hfree⟩ := ha
    refine (I.hok b ob e).stay (fun c w' hc q => (hs.2 c ?_).trans q) (fun _ q => q) fun _ _ q => q
    rintro rfl
    rcases hc with rfl | hc
    · rw [hfree] at e; cases e
    · rw [hfree] at hc; cases hc
  refine wp_nameGoes hk hn hcls (fun h' m' hn' hm hs => ?_)
  obtain ⟨oL, _, _, hoL, _⟩ := id hn
  refine h _ ⟨I.ok, I.os, I.bare, ⟨fun b o e n hb hx => ?_, fun b o e n hb hx => ?_, I.base.free, fun b o e hx => ?_, I.base.tups, I.base.frzs, I.base.tbls⟩, ⟨_, hn', fun j y v' e1 e2 e3 => ?_⟩, fun y c e => ?_, I.free, I.freeC, fun p hp => ?_, tracked ⟨oL, hoL, I.free⟩ hs, by simpa using I.len⟩
  · exact (hs.2 b (Nat.ne_of_lt (Nat.lt_of_lt_of_le (Heap.lt_size e) I.ok.above))).trans (I.base.keep b o e n hb hx)
  · obtain ⟨sl, e1⟩ := I.base.slot b o e n hb hx
    exact ⟨sl, (hs.2 b (Nat.ne_of_lt (Nat.lt_of_lt_of_le (Heap.lt_size e) I.ok.above))).trans e1⟩
  · obtain ⟨o', e1⟩ := I.base.there b o e hx
    exact ⟨o', (hs.2 b (Nat.ne_of_lt (Nat.lt_of_lt_of_le (Heap.lt_size e) I.ok.above))).trans e1⟩
  · by_cases hj : j = i
    · subst hj
      rw [List.getElem?_set_self hiσ] at e2
      cases e2
    · rw [List.getElem?_set_ne (Ne.symm hj)] at e2
      obtain ⟨u', r', q⟩ := hl j y v' e1 e2 e3
      refine ⟨u', r', ?_⟩
      rcases q with ⟨k, e⟩ | ⟨k, c, e, z⟩
      · refine .inl ⟨k, ?_⟩
        have : y ≠ x := fun e => hj (nodup_ix hN e1 (e ▸ hi))
        rw [hm y this]; exact e
      · exact .inr ⟨k, c, e, z.sameBut hs (cne y c e)⟩
  · obtain ⟨w', z⟩ := I.cell y c e
    exact ⟨w', z.sameBut hs (cne y c e)⟩
  · obtain ⟨e, n, ne, nf, d⟩ := I.pin p hp
    exact ⟨(hs.2 p.1 ne).trans e, n, ne, nf, d⟩
theorem flight_ok {M : Model} {A : Around} {Q : Unit → Shared → Prop} (I : Inv X pins σ H s) (x : XT H a C dx T oe oT) (h : ∀ s', Inv X pins σ H s' → Q () s') : wpAny M A (setFlight (.ref a) none) Q E s := by
  obtain ⟨vs, hd, h1, a0, h0⟩ := x.fl
  obtain ⟨ts, hdT, h3⟩ := x.tr
  have he := XObj.get I.hok x.ea
  have hT := XObj.get I.hok x.eT
  have hszT : 3 < ts.size := (Array.getElem?_eq_some_iff.mp h3).1
  have hid : Obj.mapFields (fun x => x.setIfInBounds 3 Value.none) oT = oT := by
    obtain ⟨c, d, dt, sl⟩ := oT
    have : dt = .fields ts := hdT
    subst this
    show (⟨c, d, .fields (ts.setIfInBounds 3 Value.none), sl⟩ : Obj) = _
    congr 2
    apply Array.ext
    · simp
    · intro i h1 h2
      by_cases hi : 3 = i
      · subst hi
        rw [Array.getElem_setIfInBounds_self]
        have := Array.getElem?_eq_getElem h2
        rw [h3] at this
        injection this
      · rw [Array.getElem_setIfInBounds_ne _ hi]
  unfold setFlight
  refine wpAny_bind (wpAny_field he hd h1 ?_)
  rw [if_pos (by simp)]
  refine wpAny_setField hT hdT hszT ?_
  refine h _ (I.kept (t' := s.toks) fun b o hb => ?_)
  by_cases hbT : b = T
  · subst hbT
    rw [hT] at hb; cases hb
    have hh := Heap.get?_update_self (Obj.mapFields fun x => x.setIfInBounds 3 Value.none) hT (by rw [hid]; exact Obj.isFreed_of_fields hdT)
    rw [hid] at hh; exact hh
  · rw [Heap.get?_update_other _ _ (Ne.symm hbT)]; exact hb
theorem XT.stand (x : XT H a C dx T oe oT) : XStand oe C dx := ⟨x.cls, x.dict, by
  obtain ⟨vs, hd, _⟩ := x.fl
  unfold PySem.W.notCls; rw [hd]⟩
theorem xinst {fs : List (Str × V)} (I : Inv X pins σ H s) (ea : H a = some (XObj a oe)) (st : XStand oe C dx) (ed : H dx = some (.xd fs)) : ∃ (od : Obj) (mA : Str → Option Value), PySem.W.InstAt s.heap a oe C (some od) ∧ (∀ name, PySem.W.lookIn name od = some (mA name)) ∧ ∀ f, RelO (fs.lookup f) (mA f) := by
  obtain ⟨mA, n1, r⟩ := (show ObjOk X.prog X.w H s.heap dx (.xd fs) from I.hok dx _ ed)
  obtain ⟨od, ho, hl⟩ := lookIn_ns n1
  exact ⟨od, mA, ⟨XObj.get I.hok ea, st.cls, st.no, by rw [st.dict]; exact ho⟩, hl, r⟩
structure XGet (K : PySem.W.Frag) (C : Addr) (f : Str) : Prop where
  pg : XGa K C
  hd : PySem.W.hasDictIn K C = true
  na : PySem.W.findIn K (.ref C) f = some none
noncomputable def tXGet (K : PySem.W.Frag) (ta : TE) (f : Str) : TE := fun σ H Q => ta σ H fun x H1 => ∃ a C dx oe fs v, x = .ref a ∧ H1 a = some (XObj a oe) ∧ XStand oe C dx ∧ H1 dx = some (.xd fs) ∧ XGet K C f ∧ fs.lookup f = some v ∧ Q v H1
theorem pe_xget {e : Expr} {ta : TE} {f : Str} {pos : Pos} (he : PE X e ta) (hb : attributeBase e f X.env (eval e X.env) = eval e X.env) : PE X (.Attribute e f pos) (tXGet X.K ta f) := by
  intro pins s σ H Q I h
  refine attr_of hb (thn (he pins s σ H _ I h) fun u s1 ⟨x, H1, I1, rx, a, C, dx, oe, fs, v, ex, ea, st, ed, g, l, q⟩ => ?_)
  subst ex
  obtain rfl : u = Value.ref a := rx
  obtain ⟨od, mA, J, hl, r⟩ := xinst I1 ea st ed
  obtain ⟨u, hu, ru⟩ := RelO.some_of (v := v) (o := mA f) (by rw [← l]; exact r f)
  exact xget_val I1.kIn J g.pg (PySem.W.findObj_own g.hd g.na rfl (by rw [hl, hu])) (handed_of ru) ⟨v, H1, I1.tok _, ru, q⟩
structure XIs (K : PySem.W.Frag) (C : Addr) : Prop where
  pg : XGa K C
  hd : PySem.W.hasDictIn K C = true
  ha : PySem.W.findIn K (.ref C) "__class__" = some (some (.builtin "object.__class__"))
  hn : PySem.W.specialIn K (.builtin "object.__class__") "__get__" = some (some (.builtin "getset_descriptor.__get__"))
  htk : PySem.W.takesIn K (.builtin "object.__class__") = some true
  hm : PySem.W.mroIn K C (.type "object") = some true
theorem xis_ok {M : World} {A : Around} {Q : Value → Shared → Prop} {fs : List (Str × V)} {c : Value} {b : Bool} (I : Inv X pins σ H s) (ea : H a = some (XObj a oe)) (st : XStand oe C dx) (ed : H dx = some (.xd fs)) (xi : XIs X.K C) (e : PySem.W.kitOne X.K (.ref C) c = some b) (h : ∀ s', Inv X pins σ H s' → Q (.bool b) s') :
    wpAny (model X.prog X.w) A (call (.builtin "isinstance") [.ref a, c]) Q E s := by
  obtain ⟨od, mA, J, hl, r⟩ := xinst I ea st ed
  exact PySem.W.kia_one (kitx_exc xi.pg xi.hd xi.ha xi.hn xi.htk xi.hm) I.kIn J e (fun z => nomatch z) (fun tk => h _ (I.tok _))
end
end L2
end
noncomputable section
set_option maxRecDepth 100000
set_option maxHeartbeats 4000000
namespace L2
open PySem PySem.Spec PyProof.Rows
noncomputable section
variable {X : Cx} {k : Nat} {f C fI L : Addr} {fd : FuncData} {ps : List Str} {sp : Sp} {x g n cn : Str} {p p' pos apos pc hpos tpos : Pos} {e : Expr} {es : List Expr} {t : TA} {ts : TS} {b₀ : Stmt} {hb : List Stmt} {hs : List ExceptHandler} {i j : Nat}
noncomputable def sTry (C : Addr) (sp : Sp) (i j : Nat) (t : TA) (ts : TS) : TS := fun D σ H => t σ H fun vs H1 => sp vs H1 (fun v H2 => D.nx (σ.set i (some v)) H2) fun cv dxo H2 => ∃ dx, cv = .ref C ∧ dxo = some dx ∧
  ∀ a oe0 oe H3, H2 a = some (XObj a oe0) → (∀ b o, b ≠ a → H2 b = some o → H3 b = some o) → H3 a = some (XObj a oe) → XStand oe C dx → ts { nx := fun σ' H4 => D.nx (σ'.set j none) H4, rt := fun _ _ => False } (σ.set j (some (.ref a))) H3
theorem ps_try (F : FnOk X.prog X.w X.K X.mg X.base (CX1 X.prog X.w) k f fd ps sp) (hr : Room k X.A) (hg : Gl X g) (hm : X.mg g = some (.ref f)) (hk : PySem.W.keepIn X.K (.ref f) = true) (hbi : Binds X.K fd ps [])
    (ha : PA X.nox (e :: es) t) (hN : X.N.Nodup) (hi : X.N[i]? = some x) (hx : Loc X.env.scope x) (hj : X.N[j]? = some n) (hn : X.env.scope.names.lookup n = some .local) (M : XMk X.K C fI) (hgC : Gl X cn) (hmC : X.mg cn = some (.ref C))
    (hst : X.stack = X.env :: X.outer) (hf : X.env.frame = some L) (hsu : ∀ a, PSs (X.mark (.ref a)) (b₀ :: hb) ts)
    (hfn : X.fn x = true ∨ X.env.scope.names.lookup x = some .local := by first | exact .inl rfl | exact .inr rfl | assumption)
    (hdb : (g == ("__debug__" : Str)) = false := by decide) (hdC : (cn == ("__debug__" : Str)) = false := by decide) (he : starEach (e :: es) X.env = (false, eval e X.env) :: starEach es X.env := by rfl) (hpl : (backTo pos (starEach es X.env)).any (·.1) = false := by rfl)
    (hsw : swapsWith (.Call (.Name g p) (e :: es) [] pos) (some (.Name x p')) apos.line X.env = pure false := by rfl) :
    PS X (.Try [.Assign [.Name x p'] (.Call (.Name g p) (e :: es) [] pos) apos] (.ExceptHandler (some (.Name cn pc)) (some n) (b₀ :: hb) hpos :: hs) [] [] tpos) (sTry C sp i j t ts) := by
  intro pins s σ H D I h
  refine wpAny_Try_except (wpAny_execs_cons (wpAny_Assign_Name ?_ hsw))
  refine wpAny_Call_Name_kw (ld_glob I hg hm ?_ hdb)
  refine PySem.W.callWith_K (h₀ := X.base) I.ok.mod.kin hk (wpAny_mono (ha pos pins s σ H _ (I.wish _) h) (fun us s1 ⟨vs, H1, I1', r, q⟩ => ⟨I1'.kIn, ?_⟩) fun _ _ z => False.elim z) he hpl
  have I1 : Inv X pins σ H1 s1 := I1'.unwish
  have hl : (us ++ []).length = ps.length := by rw [List.append_nil, ← r.length]; exact F.len _ _ _ _ q
  have hbd := hbi s1 us I1.kIn hl
  rw [List.append_nil] at hbd
  refine wpAny_call (codeAny_mono (F.run X.A X.stack s1 H1 ⟨us, []⟩ us vs _ _ hr I1.env0 hbd r q) fun r s' hq => ?_)
  cases r with
  | ok fl =>
    cases fl with
    | ret u =>
      obtain ⟨v, H2, I2, rv, q2⟩ := I1.after hq
      exact store_ok I2 hN hi hx rv (fun s3 I3 => wpAny_execs_nil (wpAny_execs_nil ⟨_, H2, I3, q2⟩)) hfn
    | next => exact False.elim hq
    | brk => exact False.elim hq
    | cont => exact False.elim hq
  | error ev =>
    dsimp only [CR] at hq
    obtain ⟨a, C', dx, T, oe, oT, H2, rfl, I2, xt, dx', ec, ed, q2⟩ := I1.caught hq
    cases ec; cases ed
    refine land_ok hst hf I2 xt fun s3 H3 T3 oe3 oT3 I3 xt3 same => ?_
    obtain ⟨nm, q', N, bs, bm, bmB, sn, sub, ab, col, dd, k0, k1, k2, k3, k5, B, Bn, newId, nid, initId, inN, bmN, mN, Fn, hBn, FB, hbm, lk, hT, hni⟩ := M.cl
    refine wpAny_handleBy_cons ?_ (fun z => nomatch z)
    have IM := I3.mark (.ref a)
    refine codeAny_handlers_test (ld_glob IM hgC hmC ?_ hdC)
    obtain ⟨h3, g3, d3, t3, os3⟩ := s3
    refine wpAny_excMatches_sub_self (K_get I3.kIn lk) (XObj.get I3.hok xt3.ea) xt3.cls hbm ?_
    show codeAny _ _ _ _ _
    refine codeAny_handlers_suite_as (flight_ok I3 xt3 fun s4 I4 => ?_)
    refine store_ok I4 hN hj (.inl hn) (show RelV (.ref a) _ from rfl) (fun s5 I5 => ?_) (.inr hn)
    refine wpAny_mono (hsu a pins s5 _ _ _ (I5.mark (.ref a)) (q2 a oe oe3 H3 xt.ea same xt3.ea xt3.stand)) (fun fl s6 sp6 => ?_) fun _ _ z => False.elim z
    cases fl with
    | next =>
      obtain ⟨σ', H6, I6, q6⟩ := sp6
      exact goes_ok (I6.unmark I.ok) hN hj hn fun s7 I7 => ⟨_, _, I7, q6⟩
    | brk => obtain ⟨_, _, _, z⟩ := sp6; exact False.elim z
    | cont => obtain ⟨_, _, _, z⟩ := sp6; exact False.elim z
    | ret u => obtain ⟨_, _, _, _, _, z⟩ := sp6; exact False.elim z
end
end L2
end
noncomputable section
set_option maxRecDepth 100000
set_option maxHeartbeats 4000000
namespace L2
open PySem PySem.Spec PyProof.Rows
noncomputable def oIntB : List D → Option D
  | [.bl b] => some (.int (if b then 1 else 0))
  | _ => none
noncomputable section
variable {X : Cx} {own : List Nat} {e : Expr} {f : DF} {p pos : Pos}
theorem cd_intb : CallR X (.type "int") (rC X.K oIntB) := by
  intro pins s σ H xs us Q I r ⟨G, ds, d, gh, rd, eq, q⟩
  unfold oIntB at eq
  split at eq
  · cases eq
    obtain ⟨v, rfl, r1⟩ := rd.one
    have := r1.bl; subst this
    obtain ⟨u, rfl, ru⟩ := vals1 r
    rename_i b
    obtain rfl : u = Value.bool b := ru
    exact call_int_bool ⟨.int (if b then 1 else 0), H, I.tok _, ⟨s.toks, rfl⟩, q _ G H (.refl gh) (rep_int.mpr rfl)⟩
  · cases eq
theorem de_intb (hg : Gl X "int") (hm : X.mg "int" = none) (h : PE X e (tQ X.K own f)) (hs : starEach (e :: []) X.env = (false, eval e X.env) :: starEach [] X.env := by rfl) : PE X (.Call (.Name "int" p) [e] [] pos) (tP X.K own (eCall oIntB (aC f aN))) :=
  (pe_callTy cd_intb hg hm PyProof.Rows.boot_int (dqa_cons h dqa_nil hs) (by decide) (by decide) hs rfl).imp fun σ H Q h => rc_of h
end
end L2
end
noncomputable section
set_option maxRecDepth 100000
set_option maxHeartbeats 4000000
namespace K03
open PySem L2
noncomputable def top (i : Nat) : Stmt := PySem.Challenge.pw_earlysift_k03_signs_that_cannot_come.main.body.getD i (.Pass ⟨0, 0, 0, 0⟩)
noncomputable def g_can_come : DG :=
    (sSeq (sIf (tB1 (e2 oEq (e2 oIx (eV 0) (eK (.int 0))) (eK (.str (Str.ofString "open")))))
     (sRet (eOr (eV 1) (eNot (tB1 (eV 2)))))
     sNil)
    (sRet (eV 1)))
noncomputable def F_can_come : List D → Option D := runD 3 3 g_can_come
noncomputable abbrev st_can_come : Stmt := top 8
noncomputable abbrev N_can_come : List Str := ["sign", "within", "begun"]
theorem sc_can_come : FnScope N_can_come ["sign", "within", "begun"] (defScope st_can_come) := ⟨rfl, rfl, rfl, by decide +kernel, rfl, by decide +kernel, by decide +kernel⟩
noncomputable def g_mix : DG :=
    (sSeq (sSet 2 (e2 oMod (e2 oMul (e2 oAdd (e2 oAdd (e2 oMod (eV 0) (eK (.int 2147483647))) (e2 oMul (e2 oMul (eV 1) (eV 1)) (eK (.int 7919)))) (eK (.int 104729))) (eK (.int 48271))) (eK (.int 2147483647))))
    (sRet (e2 oMod (e2 oAdd (e2 oMul (eV 2) (eV 2)) (e2 oMul (eK (.int 69621)) (eV 1))) (eK (.int 2147483629)))))
noncomputable def F_mix : List D → Option D := runD 2 3 g_mix
noncomputable abbrev st_mix : Stmt := top 13
noncomputable abbrev N_mix : List Str := ["_law_cell", "_law_turn", "_law_number"]
theorem sc_mix : FnScope N_mix ["_law_cell", "_law_turn"] (defScope st_mix) := ⟨rfl, rfl, rfl, by decide +kernel, rfl, by decide +kernel, by decide +kernel⟩
theorem ok_can_come {P : Program} {w : World} {K : PySem.W.Frag} {mg : Str → Option Value} {base : Heap} {f : Addr} {fd : FuncData} (F : Fun K "can_come" "can_come" st_can_come f fd) : FnOk P w K mg base CX0 1 f fd ["sign", "within", "begun"] (spF K F_can_come) :=
  F.okD (own := []) (own' := []) (g := g_can_come) sc_can_come (by decide) fun cdv A outer s H E hr B hB =>
    (dss_cons (ds_if (dt_cmp (od_eq hr) (dq (de_ix (dq (dv (pv 0))) (dq de_int))) (dq de_str) (nomark _))
     (dss_one (ds_ret (de_or (dv (pv 1)) (de_one (de_not (dv (pv 2)))))))
     dss_nil)
    (dss_one (ds_ret (dv (pv 1)))))
theorem ok_mix {P : Program} {w : World} {K : PySem.W.Frag} {mg : Str → Option Value} {base : Heap} {f : Addr} {fd : FuncData} (F : Fun K "_law_mix" "_law_mix" st_mix f fd) : FnOk P w K mg base CX0 1 f fd ["_law_cell", "_law_turn"] (spF K F_mix) :=
  F.okD (own := []) (own' := []) (g := g_mix) sc_mix (by decide) fun cdv A outer s H E hr B hB =>
    (dss_cons (ds_set (i := 2) sc_mix.nd rfl (by first | exact Or.inl rfl | exact Or.inr rfl) (de_op od_mod (dq (de_op od_mul (dq (de_op od_add (dq (de_op od_add (dq (de_op od_mod (dq (dv (pv 0))) (dq de_int))) (dq (de_op od_mul (dq (de_op od_mul (dq (dv (pv 1))) (dq (dv (pv 1))))) (dq de_int))))) (dq de_int))) (dq de_int))) (dq de_int)))
    (dss_one (ds_ret (de_op od_mod (dq (de_op od_add (dq (de_op od_mul (dq (dv (pv 2))) (dq (dv (pv 2))))) (dq (de_op od_mul (dq de_int) (dq (dv (pv 1))))))) (dq de_int)))))
end K03
end
noncomputable section
set_option maxRecDepth 100000
set_option maxHeartbeats 4000000
namespace K03
open PySem L2
noncomputable abbrev st_stump : Stmt := top 9
noncomputable abbrev N_stump : List Str := ["signs", "top", "rows", "at", "sign", "own"]
theorem sc_stump : FnScope N_stump ["signs"] (defScope st_stump) := ⟨rfl, rfl, rfl, by decide +kernel, rfl, by decide +kernel, by decide +kernel⟩
theorem cc_eval (k : Str) (r : List D) (b1 b2 : Bool) (hr : dOks r 179 = true) : F_can_come [.tup (.str k :: r), .bl b1, .bl b2] = some (.bl (if k = sOpen then b1 || !b2 else b1)) := by
  have e0 : atI (D.str k :: r) 0 = some (.str k) := atI_nat (j := 0) rfl
  simp only [F_can_come, runD, g_can_come, startD, sSeq, sIf, tB1, e2, eV, eK, oIx, List.map_cons, List.map_nil, List.length_cons, List.length_nil]
  simp [e0, oEq, dOk, deq, sRet, eOr, tB1, eV, eNot, sNil, outD, sOpen]
  by_cases h : k = Str.ofString "open"
  · subst h
    simp
    cases b1 <;> simp [outD]
  · have : (k == Str.ofString "open") = false := by simpa using h
    simp [h, outD]
structure StInv (K : PySem.W.Frag) (G0 H0 : Hp) (ss : List D) (a0 l0 R : Addr) (i : Nat) (σ : St) (H : Hp) : Prop where
  ex : ∃ G st ls L0 v3 v4 v5, σ = [some (.ref a0), some (.ref l0), some (.ref R), v3, v4, v5] ∧ Ext G0 H0 G H ∧ Pile K H0 G H st ls L0 l0 [] ∧ (R :: (ls ++ [l0])).Nodup ∧ (∀ a ∈ R :: (ls ++ [l0]), G a = none ∧ H0 a = none) ∧
    H R = some (.lst ((ls ++ [l0]).reverse.map V.ref)) ∧ ZLen i (st, L0) ∧ zrun (ss.take i) ([], []) = some (st, L0)
noncomputable def spStump (K : PySem.W.Frag) (C : Addr) : Sp := fun vs H Q E => ∃ G ss, Same G H ∧ Reps K G [.lst ss] vs ∧ ss.length ≤ 100000 ∧ (∀ s ∈ ss, isSign s) ∧
  ((∃ zf d, zrun ss ([], []) = some zf ∧ (zclose zf.1 zf.2)[0]? = some d ∧ ∀ v G' H', Ext G H G' H' → Rep K G' d v → Q v H') ∨
   (∃ n z s, ss[n]? = some s ∧ zrun (ss.take n) ([], []) = some z ∧ zstep z s = none ∧ ∀ dx H', Same H H' → H' dx = some (.xd [("at", .int n)]) → E (.ref C) (some dx) H'))
theorem zrun_stop {ss : List D} {n : Nat} {s : D} {z0 z : Zs × List D} (e : ss[n]? = some s) (h : zrun (ss.take n) z0 = some z) (hs : zstep z s = none) : zrun ss z0 = none := by
  have hl := (List.getElem?_eq_some_iff.mp e).1
  have : ss = ss.take n ++ (s :: ss.drop (n + 1)) := by
    have h1 : ss.drop n = s :: ss.drop (n + 1) := by
      rw [List.drop_eq_getElem_cons hl]
      have := List.getElem?_eq_getElem hl
      rw [e] at this
      injection this with this
      rw [this]
    rw [← h1, List.take_append_drop]
  rw [this, zrun_app, h]
  show (zstep z s).bind _ = none
  rw [hs]; rfl
theorem ok_stump {P : Program} {w : World} {K : PySem.W.Frag} {mg : Str → Option Value} {base : Heap} {f C fI : Addr} {fd fdI : FuncData} (F : Fun K "stump" "stump" st_stump f fd) (z_len : mg "len" = none) (z_enumerate : mg "enumerate" = none) (h_cc : Ok1 P w K mg base "can_come" 1 (spF K F_can_come))
    (M : XMk K C fI) (FI : FnOk P w K mg base CX0 1 fI fdI ["self", "at"] (spXInit C "at")) (bI : Binds K fdI ["self", "at"] []) (hmN : mg "NoSign" = some (.ref C)) :
    FnOk P w K mg base (CX1 P w) 3 f fd ["signs"] (spStump K C) := by
  obtain ⟨fc, fdc, psc, hC, hmC, hkC, hbC⟩ := (h_cc.mono (show 1 ≤ 2 by decide)).ex
  obtain ⟨oc, od, kV, doc, pm, an, cdv, ct, osl, rfl, lk, hcd⟩ := F.ex
  refine fn_of lk hcd sc_stump (fun vs H Q E h => ?_) (fun A outer s H vs Q E hr h => ?_)
  · obtain ⟨G, ss, gh, r, _⟩ := h
    exact r.length.symm
  · obtain ⟨G0, ss, gh, r, hz, hsg, q⟩ := h
    obtain ⟨v0, r0, rfl, rs, rn⟩ := reps_cons.mp r
    have := reps_nil.mp rn; subst this
    obtain ⟨a0, us, rfl, ga0, ru⟩ := rep_lst.mp rs
    have big : 100000 < sizeLine := by rw [sizeLine_eq]; decide
    refine ⟨_, pss_cons (ps_set (i := 1) sc_stump.nd rfl (Or.inl rfl) (pe_lst pa_nil))
      (pss_cons (ps_set (i := 2) sc_stump.nd rfl (Or.inl rfl) (pe_lst (pa_cons (pv 1) pa_nil)))
      (pss_cons (ps_for PassesOwn.leaving rfl (pi_enum rfl z_enumerate (pv 0)) (pg_tup rfl (pgs_cons (pg_name (i := 3) sc_stump.nd rfl (Or.inl rfl)) (pgs_cons (pg_name (i := 4) sc_stump.nd rfl (Or.inl rfl)) pgs_nil)))
        (pss_cons (ps_if (pt_not (pt_val (pe_call hC hr rfl hmC hkC hbC .nil pass0 (pa_cons (pv 4) (pa_cons (pe_cmpR op_gt (pe_callB call_len_seq rfl z_len PySem.boot_len (pa_cons (pv 2) pa_nil)) pe_int (nomark _)) (pa_cons (pe_cmpR op_gt (pe_callB call_len_seq rfl z_len PySem.boot_len (pa_cons (pv 1) pa_nil)) pe_int (nomark _)) pa_nil)))))) (pss_one (ps_raise M rfl (pe_xmake M FI hr rfl hmN bI (pa_cons (pv 3) pa_nil)))) pss_nil)
        (pss_one (ps_if (pt_cmpR op_eq (pe_ix ix_tup (pv 4) pe_int (fun _ _ => rfl)) pe_str (nomark _))
          (pss_cons (ps_set (i := 5) sc_stump.nd rfl (Or.inl rfl) (pe_lst pa_nil))
          (pss_cons (ps_expr (pe_bm PySem.F.plainAttrs_list PySem.F.slot_list_append PySem.F.type_list_append mt_append (pe_ix ix_list (pv 2) (pe_un un_neg pe_int) (fun _ _ => rfl)) (pa_cons (pe_tup (pa_cons (pe_ix ix_tup (pv 4) pe_int (fun _ _ => rfl)) (pa_cons (pv 5) pa_nil))) pa_nil)))
          (pss_one (ps_expr (pe_bm PySem.F.plainAttrs_list PySem.F.slot_list_append PySem.F.type_list_append mt_append (pv 2) (pa_cons (pv 5) pa_nil))))))
          (pss_one (ps_if (pt_cmpR op_eq (pe_ix ix_tup (pv 4) pe_int (fun _ _ => rfl)) pe_str (nomark _))
            (pss_one (ps_expr (pe_bm PySem.F.plainAttrs_list PySem.F.slot_list_append PySem.F.type_list_append mt_append (pe_ix ix_list (pv 2) (pe_un un_neg pe_int) (fun _ _ => rfl)) (pa_cons (pe_ix ix_tup (pv 4) pe_int (fun _ _ => rfl)) pa_nil))))
            (pss_one (ps_expr (pe_bm0 PySem.F.plainAttrs_list PySem.F.slot_list_pop PySem.F.type_list_pop mt_pop (pv 2))))))))))
      (pss_one (ps_ret (pe_ix ix_list (pv 1) pe_int (fun _ _ => rfl)))))), ?_⟩
    refine ⟨Nat.zero_le _, fun l0 hl0 => ?_⟩
    refine ⟨_, rfl, (by show 1 ≤ sizeLine; omega), fun R hR => ?_⟩
    have nRl : R ≠ l0 := fun z => by rw [z, upd_same] at hR; cases hR
    have hR0 : H R = none := by rw [upd_ne nRl] at hR; exact hR
    have hH0 : Same H (upd (upd H l0 (.lst [])) R (.lst [.ref l0])) := (Same.alloc hl0).trans (.alloc hR)
    have sqs : ∀ {G H' : Hp}, Ext G0 H G H' → SqL K H' a0 us := fun E => .of (E.gh _ _ (E.gg _ _ ga0))
    have EE0 : Ext G0 H G0 (upd (upd H l0 (.lst [])) R (.lst [.ref l0])) := (Ext.lay (p := l0) gh hl0).trans (Ext.lay (p := R) (gh.trans (.alloc hl0)) hR)
    refine ⟨_, rfl, a0, rfl, ⟨us, sqs EE0⟩, ?_⟩
    refine ⟨fun i m σ H' => m = ss.length - i ∧ i ≤ ss.length ∧ StInv K G0 H ss a0 l0 R i σ H', ⟨ss.length, rfl, Nat.zero_le _, ⟨G0, [], [], [], none, none, none, rfl, EE0, ?_, ?_, ?_, upd_same, ⟨Nat.le_refl _, Nat.le_refl _, fun p hp => by cases hp⟩, rfl⟩⟩, ?_⟩
    · exact ⟨rfl, [], by rw [upd_ne nRl.symm, upd_same]; rfl, .nil⟩
    · simp; exact nRl
    · intro a ha
      rcases List.mem_cons.mp ha with rfl | ha
      · exact ⟨gh.free hR0, hR0⟩
      · have z : a = l0 := by simpa using ha
        subst z; exact ⟨gh.free hl0, hl0⟩
    rintro i m σ H1 ⟨rfl, hil, ⟨G1, st, ls, L0, v3, v4, v5, rfl, E1, hp, nd, fr, hR1, zl, ezr⟩⟩
    by_cases hlt : i < ss.length
    ·
      have hlu : i < us.length := by rw [← ru.length]; exact hlt
      refine .inr ⟨⟨us, us[i], sqs E1, by simp [hlu]⟩, StInv K G0 H ss a0 l0 R (i + 1), fun σ' H' p' => ⟨ss.length - (i + 1), by omega, rfl, hlt, p'⟩, fun x H2 y => ?_⟩
      obtain ⟨y, p, hy, hpn, rfl, rfl⟩ := y
      have hy : us[i]? = some y := hy us (sqs E1)
      refine ⟨p, _, rfl, .of upd_same, rfl, _, _, rfl, _, _, rfl, rfl, ?_⟩
      obtain ⟨y', hy', ry⟩ := ru.get (List.getElem?_eq_getElem hlt)
      rw [hy] at hy'; cases hy'
      have E2 : Ext G0 H G1 (upd H1 p (.tup [.int i, y])) := E1.trans (Ext.lay (p := p) E1.gh hpn)
      have hp2 := hp.lay (o := .tup [.int i, y]) E1.gh hpn
      have hR2 : upd H1 p (.tup [.int i, y]) R = some (.lst ((ls ++ [l0]).reverse.map V.ref)) := by rw [upd_ne (ne_of_none hR1 hpn)]; exact hR1
      obtain ⟨ts, ht2, htop⟩ := hp2.top
      have hlen := hp2.len
      have llen : ((ls ++ [l0]).reverse.map V.ref).length = st.length + 1 := by simp [hlen]
      generalize hH2 : upd H1 p (.tup [.int i, y]) = H2 at *
      have hb1 : decide ((1 : Int) < (((ls ++ [l0]).reverse.map V.ref).length : Int)) = decide (st ≠ []) := by
        rw [llen]; cases st <;> simp; omega
      have hb2 : decide ((0 : Int) < (ts.length : Int)) = decide (¬ (L0 = [] ∧ st = [])) := by rw [htop]; simp
      have both : ∀ (k : Str) (rd : List D) (bb : Bool) (D' : Ends) (σ' : St), ss[i] = .tup (.str k :: rd) → dOks rd 179 = true → (if k = sOpen then decide (st ≠ []) || !decide (¬ (L0 = [] ∧ st = [])) else decide (st ≠ [])) = bb → σ'[4]? = some (some y) → σ'[2]? = some (some (.ref R)) → σ'[1]? = some (some (.ref l0)) →
          (∀ G3 H3, Ext G1 H2 G3 H3 → if (!bb) = true then (sRaise (cxOf (CX1 P w) P w K mg base N_stump "stump" (defScope st_stump) f cdv A outer s H E) C (tXMake C "at" (tCons (tVar 3) tNil))) D' σ' H3 else D'.nx σ' H3) →
          tIfS (tNot (tB (tCall (spF K F_can_come) [] E0 (tCons (tVar 4) (tCons (tOp (rI0 fun i j => V.bl (decide (j < i))) (tCB (fun xs H Q => ∃ p ys, xs = [.ref p] ∧ (SqL K H p ys ∨ SqT K H p ys) ∧ Q (.int ys.length) H) (tCons (tVar 2) tNil)) (tC (.int 1)))
            (tCons (tOp (rI0 fun i j => V.bl (decide (j < i))) (tCB (fun xs H Q => ∃ p ys, xs = [.ref p] ∧ (SqL K H p ys ∨ SqT K H p ys) ∧ Q (.int ys.length) H) (tCons (tVar 1) tNil)) (tC (.int 0))) tNil)))))) (sRaise (cxOf (CX1 P w) P w K mg base N_stump "stump" (defScope st_stump) f cdv A outer s H E) C (tXMake C "at" (tCons (tVar 3) tNil))) tNext D' σ' H2 := by
        intro k rd bb D' σ' ek hok hc e4 e2 e1 kk
        refine ⟨_, e4, _, e2, R, _, rfl, .inl (.of hR2), _, _, rfl, rfl, _, e1, l0, _, rfl, .inl (.of ht2), _, _, rfl, rfl, ?_⟩
        refine ⟨G1, [ss[i], .bl (decide ((1 : Int) < (((ls ++ [l0]).reverse.map V.ref).length : Int))), .bl (decide ((0 : Int) < (ts.length : Int)))], .bl bb, E2.gh, .cons (Rep.mono E2.gg _ ry) (.cons (rep_bl.mpr rfl) (.cons (rep_bl.mpr rfl) .nil)), ?_, fun v' G3 H3 E3 r3 => ⟨bb, rep_bl.mp r3, kk G3 H3 E3⟩⟩
        rw [ek, cc_eval _ _ _ _ hok, hb1, hb2, hc]
      have test : ∀ (k : Str) (rd : List D) (D' : Ends) (σ' : St), ss[i] = .tup (.str k :: rd) → dOks rd 179 = true → (if k = sOpen then decide (st ≠ []) || !decide (¬ (L0 = [] ∧ st = [])) else decide (st ≠ [])) = true → σ'[4]? = some (some y) → σ'[2]? = some (some (.ref R)) → σ'[1]? = some (some (.ref l0)) →
          (∀ G3 H3, Ext G1 H2 G3 H3 → D'.nx σ' H3) → tIfS (tNot (tB (tCall (spF K F_can_come) [] E0 (tCons (tVar 4) (tCons (tOp (rI0 fun i j => V.bl (decide (j < i))) (tCB (fun xs H Q => ∃ p ys, xs = [.ref p] ∧ (SqL K H p ys ∨ SqT K H p ys) ∧ Q (.int ys.length) H) (tCons (tVar 2) tNil)) (tC (.int 1)))
            (tCons (tOp (rI0 fun i j => V.bl (decide (j < i))) (tCB (fun xs H Q => ∃ p ys, xs = [.ref p] ∧ (SqL K H p ys ∨ SqT K H p ys) ∧ Q (.int ys.length) H) (tCons (tVar 1) tNil)) (tC (.int 0))) tNil)))))) (sRaise (cxOf (CX1 P w) P w K mg base N_stump "stump" (defScope st_stump) f cdv A outer s H E) C (tXMake C "at" (tCons (tVar 3) tNil))) tNext D' σ' H2 := fun k rd D' σ' a1 a2 a3 a4 a5 a6 kk => both k rd true D' σ' a1 a2 a3 a4 a5 a6 fun G3 H3 E3 => iteF (kk G3 H3 E3)
      have nd2 := (List.nodup_cons.mp nd).2
      have nR := (List.nodup_cons.mp nd).1
      have egi : ss[i]? = some ss[i] := List.getElem?_eq_getElem hlt
      cases es : zstep (st, L0) ss[i] with
      | none =>
        have hstop := zrun_stop egi ezr es
        obtain ⟨wE⟩ : Nonempty (∀ dx H', Same H H' → H' dx = some (.xd [("at", .int i)]) → E (.ref C) (some dx) H') := by
          rcases q with ⟨zf, d, ez, _⟩ | ⟨n, z, s', e1, e2, e3, wE⟩
          · rw [ez] at hstop; cases hstop
          · have hn : n = i := by
              rcases Nat.lt_trichotomy n i with hl | hl | hl
              · have := zrun_stop (ss := ss.take i) (n := n) (by rw [List.getElem?_take_of_lt hl]; exact e1) (by rw [List.take_take, Nat.min_eq_left (by omega)]; exact e2) e3
                rw [this] at ezr; cases ezr
              · exact hl
              · have := zrun_stop (ss := ss.take n) (n := i) (by rw [List.getElem?_take_of_lt hl]; exact egi) (by rw [List.take_take, Nat.min_eq_left (by omega)]; exact ezr) es
                rw [this] at e2; cases e2
            subst hn
            exact ⟨wE⟩
        have raise : ∀ (k : Str) (rd : List D) (D' : Ends) (σ' : St), ss[i] = .tup (.str k :: rd) → dOks rd 179 = true → (if k = sOpen then decide (st ≠ []) || !decide (¬ (L0 = [] ∧ st = [])) else decide (st ≠ [])) = false → σ'[4]? = some (some y) → σ'[3]? = some (some (.int i)) → σ'[2]? = some (some (.ref R)) → σ'[1]? = some (some (.ref l0)) → tIfS (tNot (tB (tCall (spF K F_can_come) [] E0 (tCons (tVar 4) (tCons (tOp (rI0 fun i j => V.bl (decide (j < i))) (tCB (fun xs H Q => ∃ p ys, xs = [.ref p] ∧ (SqL K H p ys ∨ SqT K H p ys) ∧ Q (.int ys.length) H) (tCons (tVar 2) tNil)) (tC (.int 1)))
            (tCons (tOp (rI0 fun i j => V.bl (decide (j < i))) (tCB (fun xs H Q => ∃ p ys, xs = [.ref p] ∧ (SqL K H p ys ∨ SqT K H p ys) ∧ Q (.int ys.length) H) (tCons (tVar 1) tNil)) (tC (.int 0))) tNil)))))) (sRaise (cxOf (CX1 P w) P w K mg base N_stump "stump" (defScope st_stump) f cdv A outer s H E) C (tXMake C "at" (tCons (tVar 3) tNil))) tNext D' σ' H2 := by
          intro k rd D' σ' ek hok hc e4 e3 e2 e1
          refine both k rd false D' σ' ek hok hc e4 e2 e1 fun G3 H3 E3 => iteT ?_
          refine ⟨_, e3, _, rfl, fun a t dx ha hdx hne => ⟨a, t, dx, rfl, upd_same, fun pins s' I => leave_ok I upd_same fun T oe oT hT hTa => ?_⟩⟩
          have E03 := E2.trans E3
          have hd5 : upd (upd (upd H3 a (XObj a (xRaw C t))) dx (.xd [("at", .int i)])) a (XObj a (xAt C t dx)) dx = some (.xd [("at", .int i)]) := by rw [upd_ne hne, upd_same]
          refine wE dx _ (fun b o e => ?_) ?_
          · have e3' := E03.hh _ _ e
            have n1 : b ≠ a := ne_of_none e3' ha
            have n2 : b ≠ dx := ne_of_none e3' hdx
            have e5 : upd (upd (upd H3 a (XObj a (xRaw C t))) dx (.xd [("at", .int i)])) a (XObj a (xAt C t dx)) b = some o := by rw [upd_ne n1, upd_ne n2, upd_ne n1]; exact e3'
            rw [upd_ne n1, upd_ne (ne_of_none e5 hT)]; exact e5
          · rw [upd_ne hne, upd_ne (ne_of_none hd5 hT)]; exact hd5
        have none1 : ∀ (k : Str), (k = sText ∨ k = sClose) → st = [] → (if k = sOpen then decide (st ≠ []) || !decide (¬ (L0 = [] ∧ st = [])) else decide (st ≠ [])) = false := fun k hk h0 => by
          rw [if_neg (by rcases hk with rfl | rfl; exact fun z => sOT z.symm; exact fun z => sOC z.symm)]; simp [h0]
        rcases hsg ss[i] (List.getElem_mem hlt) with ⟨x, ek⟩ | ⟨x, ek⟩ | ek
        · refine raise sOpen [.str x] _ _ ek rfl ?_ rfl rfl rfl rfl
          rw [if_pos rfl]
          rw [ek] at es
          simp only [zstep, if_true] at es
          by_cases h0 : st = [] ∧ L0 ≠ []
          · simp [h0.1, h0.2]
          · rw [if_neg h0] at es; cases es
        · refine raise sText [.str x] _ _ ek rfl (none1 _ (.inl rfl) ?_) rfl rfl rfl rfl
          rw [ek] at es
          have nto : ¬ sText = sOpen := fun z => sOT z.symm
          simp only [zstep, nto, if_false, if_true] at es
          by_cases h0 : st = []
          · exact h0
          · rw [if_neg h0] at es; cases es
        · refine raise sClose [] _ _ ek rfl (none1 _ (.inr rfl) ?_) rfl rfl rfl rfl
          rw [ek] at es
          simp only [zstep, if_true] at es
          cases st with
          | nil => rfl
          | cons c r => cases es
      | some z' =>
        have zl' := zl.step es
        have ezr : zrun (ss.take (i + 1)) ([], []) = some z' := by
          rw [List.take_add_one, egi]
          show zrun (ss.take i ++ [ss[i]]) _ = _
          rw [zrun_snoc, ezr]; exact es
        rcases zstep_cases es with ⟨x, ek, hopen, rfl⟩ | ⟨x, ek, hst, rfl⟩ | ⟨nm, its, r', ek, hst, rfl⟩
        ·
          have hopen : ¬ (st = [] ∧ L0 ≠ []) := hopen
          rw [ek] at ry
          obtain ⟨b, ws, rfl, gb, rw'⟩ := rep_tup.mp ry
          obtain ⟨w1, q1, rfl, rw1, rw'⟩ := reps_cons.mp rw'
          obtain ⟨w2, q2, rfl, rw2, rw'⟩ := reps_cons.mp rw'
          have := reps_nil.mp rw'; subst this
          have := rep_str.mp rw1; subst this
          have := rep_str.mp rw2; subst this
          refine test sOpen [.str x] _ _ ek rfl (by
            rw [if_pos rfl]
            by_cases h1 : st = []
            · by_cases h2 : L0 = []
              · simp [h1, h2]
              · exact absurd ⟨h1, h2⟩ hopen
            · simp [h1]) rfl rfl rfl fun G3 H3 E3 => ?_
          have E03 := E2.trans E3
          have hp3 := hp2.ext E3
          have hR3 := E3.hh _ _ hR2
          have hb3 : H3 b = some (.tup [.str sOpen, .str x]) := E03.gh _ _ (E03.gg _ _ gb)
          refine ⟨_, rfl, b, _, _, _, rfl, rfl, .of hb3, atI_nat (j := 0) rfl, rfl, _, rfl, ?_⟩
          refine ite2 (fun _ => ?_) (fun hn => absurd (decide_eq_true rfl) hn)
          refine ⟨Nat.zero_le _, fun p1 hp1 => ?_⟩
          have E4 := Ext.lay (o := .lst []) E3.gh hp1
          have hp4 := hp3.ext E4
          obtain ⟨vs, hcur, rcur⟩ := hp4.inner
          rw [List.append_nil] at hcur
          have hR4 := E4.hh _ _ hR3
          have hb4 := E4.hh _ _ hb3
          have np1 : upd H3 p1 (.lst []) p1 = some (.lst []) := upd_same
          generalize hH4 : upd H3 p1 (.lst []) = H4 at *
          refine ⟨_, rfl, _, rfl, R, _, -1, _, rfl, rfl, .of hR4, last_cur ls l0, .inl ⟨rfl, _, .of hcur⟩, _, rfl, b, _, _, _, rfl, rfl, .of hb4, atI_nat (j := 1) rfl, _, rfl, (by show 2 ≤ sizeLine; omega), fun t ht => ?_⟩
          have E5 := Ext.lay (o := .tup [.str x, .ref p1]) E4.gh ht
          have hp5 := hp4.ext E5
          have hR5 := E5.hh _ _ hR4
          have hcur5 := E5.hh _ _ hcur
          have np5 := E5.hh _ _ np1
          have nt5 : upd H4 t (.tup [.str x, .ref p1]) t = some (.tup [.str x, .ref p1]) := upd_same
          generalize hH5 : upd H4 t (.tup [.str x, .ref p1]) = H5 at *
          have hvl : vs.length ≤ i := by rw [← rcur.length]; exact zl.inner
          refine ⟨_, vs, _, rfl, rfl, hcur5, (by omega), ?_⟩
          have npc : p1 ≠ ls.headD l0 := fun z => by
            obtain ⟨vs3, hc3, _⟩ := hp3.inner
            rw [← z] at hc3; rw [hp1] at hc3; cases hc3
          have hpn1 : ∀ a ∈ R :: (ls ++ [l0]), a ≠ p1 := fun a ha z => by
            subst z
            rcases List.mem_cons.mp ha with rfl | ha
            · rw [hp1] at hR3; cases hR3
            · obtain ⟨o, z⟩ := hp3.isl a ha
              rw [hp1] at z; cases z
          have hcR : ls.headD l0 ≠ R := fun z => nR (by rw [← z]; cases ls <;> simp)
          have hR6 : upd H5 (ls.headD l0) (.lst (vs ++ [.ref t])) R = some (.lst ((ls ++ [l0]).reverse.map V.ref)) := by rw [upd_ne hcR.symm]; exact hR5
          have hlR : ((ls ++ [l0]).reverse.map V.ref).length < sizeLine := by have := zl.st; simp at this; rw [llen]; omega
          refine ⟨_, rfl, .inl ⟨rfl, _, .of hR6⟩, _, rfl, R, _, _, rfl, rfl, hR6, hlR, ?_⟩
          have E06 : Ext G0 H G3 H5 := E03.trans (E4.trans E5)
          have tcur : t ≠ ls.headD l0 := fun z => by rw [← z] at hcur; rw [ht] at hcur; cases hcur
          have tR : t ≠ R := fun z => by rw [z] at ht; rw [hR4] at ht; cases ht
          have h0t : H t = none := (E03.hh.trans E4.hh).free ht
          have h0p : H p1 = none := E03.hh.free hp1
          have g3p : G3 p1 = none := E3.gh.free hp1
          have g3t : G3 t = none := E4.gh.free ht
          have fr3 : ∀ a ∈ R :: (ls ++ [l0]), G3 a = none ∧ H a = none := fun a ha => by
            refine ⟨?_, (fr a ha).2⟩
            rcases List.mem_cons.mp ha with rfl | ha'
            · exact E3.nil hR2 (fr _ ha).1
            · obtain ⟨o, z⟩ := hp2.isl a ha'
              exact E3.nil z (fr _ ha).1
          have ps := hp5.set (its' := L2.inner st L0) (vs' := vs) (tail' := [.ref t]) rcur nd2
          have inn : setI st L0 (L2.inner st L0) = (st, L0) := by cases st with
            | nil => rfl
            | cons c st => obtain ⟨a, b⟩ := c; rfl
          rw [inn] at ps
          have pu := Pile.upd (a := R) (ws := (ls ++ [l0]).reverse.map V.ref ++ [.ref p1]) hR6 (fun z => nR (List.mem_append_left _ z)) (fun z => nR (by rw [z]; simp)) ps
          have ndp : p1 ∉ R :: (ls ++ [l0]) := fun z => hpn1 _ z rfl
          have np6 : upd (upd H5 (ls.headD l0) (.lst (vs ++ [.ref t]))) R (.lst ((ls ++ [l0]).reverse.map V.ref ++ [.ref p1])) p1 = some (.lst []) := by
            rw [upd_ne (fun z => ndp (by rw [z]; exact List.mem_cons_self)), upd_ne npc]; exact np5
          refine ⟨G3, (x, []) :: st, p1 :: ls, L0, _, _, _, rfl, ⟨fun b' o z => ?_, E06.gg, fun b' o z => ?_, E06.fr⟩, ⟨p1, ls, t, rfl, ⟨[], np6, .nil⟩, ?_, g3t, h0t, pu⟩, ?_, fun a ha => ?_, ?_, zl', ezr⟩
          · have n1 : b' ≠ R := fun z' => by rw [z', (fr R List.mem_cons_self).2] at z; cases z
            have n2 : b' ≠ ls.headD l0 := fun z' => by rw [z', (fr _ (List.mem_cons_of_mem _ (head_mem ls l0))).2] at z; cases z
            rw [upd_ne n1, upd_ne n2]; exact E06.hh _ _ z
          · have n1 : b' ≠ R := fun z' => by rw [z', (fr3 R List.mem_cons_self).1] at z; cases z
            have n2 : b' ≠ ls.headD l0 := fun z' => by rw [z', (fr3 _ (List.mem_cons_of_mem _ (head_mem ls l0))).1] at z; cases z
            rw [upd_ne n1, upd_ne n2]; exact E06.gh _ _ z
          · rw [upd_ne tR, upd_ne tcur]; exact nt5
          · show (R :: p1 :: (ls ++ [l0])).Nodup
            refine List.nodup_cons.mpr ⟨fun z => ?_, List.nodup_cons.mpr ⟨fun z => ndp (List.mem_cons_of_mem _ z), nd2⟩⟩
            rcases List.mem_cons.mp z with z | z
            · exact ndp (by rw [z]; exact List.mem_cons_self)
            · exact nR z
          · rcases List.mem_cons.mp ha with rfl | ha
            · exact fr3 _ List.mem_cons_self
            · rcases List.mem_cons.mp ha with rfl | ha
              · exact ⟨g3p, h0p⟩
              · exact fr3 a (List.mem_cons_of_mem _ ha)
          · rw [upd_same]; simp
        ·
          have hst : st ≠ [] := hst
          rw [ek] at ry
          obtain ⟨b, ws, rfl, gb, rw'⟩ := rep_tup.mp ry
          obtain ⟨w1, q1, rfl, rw1, rw'⟩ := reps_cons.mp rw'
          obtain ⟨w2, q2, rfl, rw2, rw'⟩ := reps_cons.mp rw'
          have := reps_nil.mp rw'; subst this
          have := rep_str.mp rw1; subst this
          have := rep_str.mp rw2; subst this
          refine test sText [.str x] _ _ ek rfl (by rw [if_neg (fun z => sOT z.symm)]; simp [hst]) rfl rfl rfl fun G3 H3 E3 => ?_
          have E03 := E2.trans E3
          have hp3 := hp2.ext E3
          have hR3 := E3.hh _ _ hR2
          have hb3 : H3 b = some (.tup [.str sText, .str x]) := E03.gh _ _ (E03.gg _ _ gb)
          refine ⟨_, rfl, b, _, _, _, rfl, rfl, .of hb3, atI_nat (j := 0) rfl, rfl, _, rfl, ?_⟩
          refine ite2 (fun hn => absurd (V.str.inj (of_decide_eq_true hn)) (fun z => sOT z.symm)) (fun _ => ?_)
          refine ⟨_, rfl, b, _, _, _, rfl, rfl, .of hb3, atI_nat (j := 0) rfl, rfl, _, rfl, ?_⟩
          refine ite2 (fun _ => ?_) (fun hn => absurd (decide_eq_true rfl) hn)
          obtain ⟨vs, hcur, rcur⟩ := hp3.inner
          rw [List.append_nil] at hcur
          have hvl : vs.length ≤ i := by rw [← rcur.length]; exact zl.inner
          refine ⟨_, rfl, _, rfl, R, _, -1, _, rfl, rfl, .of hR3, last_cur ls l0, .inl ⟨rfl, _, .of hcur⟩, _, rfl, b, _, _, _, rfl, rfl, .of hb3, atI_nat (j := 1) rfl, _, vs, _, rfl, rfl, hcur, (by omega), ?_⟩
          have fr3 : ∀ a ∈ R :: (ls ++ [l0]), G3 a = none ∧ H a = none := fun a ha => by
            refine ⟨?_, (fr a ha).2⟩
            rcases List.mem_cons.mp ha with rfl | ha'
            · exact E3.nil hR2 (fr _ ha).1
            · obtain ⟨o, z⟩ := hp2.isl a ha'
              exact E3.nil z (fr _ ha).1
          have hcR : ls.headD l0 ≠ R := fun z => nR (by rw [← z]; exact head_mem ls l0)
          have ps := hp3.set (its' := L2.inner st L0 ++ [.str x]) (vs' := vs ++ [.str x]) (tail' := []) (rcur.append (.cons (rep_str.mpr rfl) .nil)) nd2
          rw [List.append_nil] at ps
          refine ⟨G3, _, ls, _, _, _, _, rfl, ⟨fun b' o z => ?_, E03.gg, fun b' o z => ?_, E03.fr⟩, ps, nd, fr3, ?_, zl', ezr⟩
          · have n2 : b' ≠ ls.headD l0 := fun z' => by rw [z', (fr _ (List.mem_cons_of_mem _ (head_mem ls l0))).2] at z; cases z
            rw [upd_ne n2]; exact E03.hh _ _ z
          · have n2 : b' ≠ ls.headD l0 := fun z' => by rw [z', (fr3 _ (List.mem_cons_of_mem _ (head_mem ls l0))).1] at z; cases z
            rw [upd_ne n2]; exact E03.gh _ _ z
          · rw [upd_ne hcR.symm]; exact hR3
        ·
          have hst : st = (nm, its) :: r' := hst
          subst hst
          rw [ek] at ry
          obtain ⟨b, ws, rfl, gb, rw'⟩ := rep_tup.mp ry
          obtain ⟨w1, q1, rfl, rw1, rw'⟩ := reps_cons.mp rw'
          have := reps_nil.mp rw'; subst this
          have := rep_str.mp rw1; subst this
          refine test sClose [] _ _ ek rfl (by rw [if_neg (fun z => sOC z.symm)]; simp) rfl rfl rfl fun G3 H3 E3 => ?_
          have E03 := E2.trans E3
          have hp3 := hp2.ext E3
          have hR3 := E3.hh _ _ hR2
          have hb3 : H3 b = some (.tup [.str sClose]) := E03.gh _ _ (E03.gg _ _ gb)
          refine ⟨_, rfl, b, _, _, _, rfl, rfl, .of hb3, atI_nat (j := 0) rfl, rfl, _, rfl, ?_⟩
          refine ite2 (fun hn => absurd (V.str.inj (of_decide_eq_true hn)) (fun z => sOC z.symm)) (fun _ => ?_)
          refine ⟨_, rfl, b, _, _, _, rfl, rfl, .of hb3, atI_nat (j := 0) rfl, rfl, _, rfl, ?_⟩
          refine ite2 (fun hn => absurd (V.str.inj (of_decide_eq_true hn)) (fun z => sTC z.symm)) (fun _ => ?_)
          have fr3 : ∀ a ∈ R :: (ls ++ [l0]), G3 a = none ∧ H a = none := fun a ha => by
            refine ⟨?_, (fr a ha).2⟩
            rcases List.mem_cons.mp ha with rfl | ha'
            · exact E3.nil hR2 (fr _ ha).1
            · obtain ⟨o, z⟩ := hp2.isl a ha'
              exact E3.nil z (fr _ ha).1
          obtain ⟨l, lr, G4, rfl, s1, s2, f2, g4, g4', hp4⟩ := hp3.close E03.gh nd2 (fun a ha => fr3 a (List.mem_cons_of_mem _ ha))
          have eR : (l :: lr ++ [l0]).reverse.map V.ref = (lr ++ [l0]).reverse.map V.ref ++ [.ref l] := by simp
          rw [eR] at hR3
          refine ⟨_, rfl, .inl ⟨rfl, _, .of hR3⟩, R, _, .ref l, rfl, rfl, hR3, (by simp), ?_⟩
          rw [List.dropLast_concat]
          have g4R : G4 R = none := g4' R _ hR3 (fun z => nR (List.mem_append_left _ z)) (fr3 R List.mem_cons_self).1
          have nR' : R ∉ lr ++ [l0] := fun z => nR (List.mem_cons_of_mem _ z)
          refine ⟨G4, _, lr, _, _, _, _, rfl, ⟨fun b' o z => ?_, E03.gg.trans s1, fun b' o z => ?_, fun b' o z => ?_⟩, Pile.upd (a := R) hR3 (fun z => nR' (List.mem_append_left _ z)) (fun z => nR' (by rw [z]; simp)) hp4, List.nodup_cons.mpr ⟨nR', (List.nodup_cons.mp nd2).2⟩, fun a ha => ?_, upd_same, zl', ezr⟩
          · have n1 : b' ≠ R := fun z' => by rw [z', (fr R List.mem_cons_self).2] at z; cases z
            rw [upd_ne n1]; exact E03.hh _ _ z
          · have n1 : b' ≠ R := fun z' => by rw [z', g4R] at z; cases z
            rw [upd_ne n1]; exact s2 _ _ z
          · rcases f2 b' o z with z | z
            · exact E03.fr b' o z
            · exact .inr z
          · rcases List.mem_cons.mp ha with rfl | ha
            · exact ⟨g4R, (fr _ List.mem_cons_self).2⟩
            · exact ⟨g4 a ha, (fr a (List.mem_cons_of_mem _ (List.mem_cons_of_mem _ ha))).2⟩
    ·
      have ei : i = ss.length := by omega
      subst ei
      rw [List.take_length] at ezr
      rcases q with ⟨zf, d, ez, ed, q⟩ | ⟨n, z, s', e1, e2, e3, _⟩
      rotate_left
      · rw [zrun_stop e1 e2 e3] at ezr; cases ezr
      rw [ez] at ezr
      cases ezr
      refine .inl ⟨⟨us, sqs E1, by rw [ru.length]; exact Nat.le_refl _⟩, ?_⟩
      obtain ⟨G2, vs, s1, s2, f2, hl, rl⟩ := Pile.closeAll _ rfl E1.gh (List.nodup_cons.mp nd).2 (fun a ha => fr a (List.mem_cons_of_mem _ ha)) hp
      obtain ⟨v, ev, rv⟩ := rl.get ed
      refine ⟨_, rfl, l0, vs, 0, v, rfl, rfl, .of hl, atI_nat (j := 0) ev, q v G2 H1 ⟨E1.hh, E1.gg.trans s1, s2, fun b o z => ?_⟩ rv⟩
      rcases f2 b o z with z | z
      · exact E1.fr b o z
      · exact .inr z
end K03
end
noncomputable section
set_option maxRecDepth 100000
set_option maxHeartbeats 4000000
namespace K03
open PySem L2
noncomputable abbrev st_ninit : Stmt := inClass (top 2) 0
theorem sc_ninit : FnScope ["self", "at"] ["self", "at"] (defScope st_ninit) := ⟨rfl, rfl, rfl, by decide +kernel, rfl, by decide +kernel, by decide +kernel⟩
theorem ok_ninit {P : Program} {w : World} {K : PySem.W.Frag} {mg : Str → Option Value} {base : Heap} {f C : Addr} {fd : FuncData} (F : Fun K "__init__" "NoSign.__init__" st_ninit f fd) (T : XCls K C "at") : FnOk P w K mg base CX0 1 f fd ["self", "at"] (spXInit C "at") := by
  refine F.ok sc_ninit (fun vs H Q E h => ?_) (fun cdv A outer s H vs Q E hr h => ?_)
  · obtain ⟨a, t, v, rfl, _⟩ := h
    rfl
  · obtain ⟨a, t, v, rfl, ha, k⟩ := h
    refine ⟨_, pss_one (ps_xfld (pv 0) (pv 1) rfl), ?_⟩
    exact ⟨_, rfl, _, rfl, a, C, t, rfl, ha, T, fun dx hd hn => k dx hd hn⟩
end K03
end
noncomputable section
set_option maxRecDepth 100000
set_option maxHeartbeats 4000000
namespace K03
open PySem L2
noncomputable def b_cells_1 : DG :=
    (sSeq (sSet 7 (e2 oMod (eV 6) (eCall oLen (aC (eV 5) aN))))
        (sSeq (sApp 4 (e2 oMod (e2 oIx (eV 5) (eV 7)) (eK (.int 2147483587))))
        (sItem 5 (eV 7) (e2 oFdiv (e2 oIx (eV 5) (eV 7)) (eK (.int 2147483587))))))
noncomputable def b_cells_2 : DG :=
    (sSet 8 (e2 oMod (e2 oAdd (e2 oMul (eV 8) (eK (.int 31))) (eCall F_mix (aC (eV 9) (aC (e2 oAdd (eV 6) (eV 1)) aN)))) (eK (.int 2147483629))))
noncomputable def b_cells_3 : DG :=
    (sSeq (sSet 10 (eCall F_mix (aC (e2 oIx (eV 3) (e2 oMod (eV 6) (eCall oLen (aC (eV 3) aN)))) (aC (e2 oAdd (e2 oAdd (e2 oMod (eV 8) (eK (.int 1009))) (eV 6)) (eV 1)) aN))))
      (sApp 4 (e2 oMod (e2 oAdd (e2 oMul (eV 10) (eV 10)) (e2 oMul (eK (.int 7)) (eV 6))) (eK (.int 2147483587)))))
noncomputable def g_cells : DG :=
    (sSeq (sSet 3 (e2 oAdd (eF (fSl (eV 0) pN (pS (eK (.int 63))))) (eF (eLst (aC (eV 1) aN)))))
    (sSeq (sSetO 4 (eLst aN))
    (sSeq (sIf (tB1 (e2 oEq (e2 oMod (e2 oFdiv (e2 oIx (eV 3) (eK (.int 0))) (eK (.int 50000))) (eK (.int 2))) (eK (.int 1))))
     (sSeq (sSetO 5 (fLC (iL (eV 3)) [none] (gN 0) tYes (e2 oFdiv (eV 0) (eK (.int 100000)))))
      (sSeq (sFor (iR1 (e2 oAdd (e2 oAdd (eV 1) (eV 2)) (eK (.int 1)))) (gN 6)
       b_cells_1)
      (sSeq (sSetO 4 (fSl (eV 4) (pS (eV 1)) pN))
      (sRetF (fSl (eV 4) pN (pS (e2 oAdd (eK (.int 1)) (e2 oMod (e2 oIx (eV 4) (eV 2)) (eV 2)))))))))
     sNil)
    (sSeq (sSet 8 (eK (.int 0)))
    (sSeq (sFor (iE (eV 3)) (gN2 6 9)
     b_cells_2)
    (sSeq (sFor (iR1 (e2 oAdd (eK (.int 1)) (e2 oMod (e2 oFdiv (eV 8) (eK (.int 1009))) (eV 2)))) (gN 6)
     b_cells_3)
    (sRetO 4)))))))
noncomputable def F_cells : List D → Option (List D) := runO 3 11 g_cells
noncomputable abbrev st_cells : Stmt := top 15
noncomputable abbrev N_cells : List Str := ["_law_script", "_law_turn", "_law_most", "_law_cells_here", "_law_found", "_law_lefts", "_law_k", "_law_at", "_law_number", "_law_cell", "_law_other"]
theorem sc_cells : FnScope N_cells ["_law_script", "_law_turn", "_law_most"] (defScope st_cells) := ⟨rfl, rfl, rfl, by decide +kernel, rfl, by decide +kernel, by decide +kernel⟩
noncomputable def g_cell_at : DG :=
    (sSeq (sIf (tB1 (e2 oLt (eV 1) (eCall oLen (aC (eV 0) aN))))
     (sRet (e2 oIx (eV 0) (eV 1)))
     sNil)
    (sRet (eK (.int 0))))
noncomputable def F_cell_at : List D → Option D := runD 2 2 g_cell_at
noncomputable abbrev st_cell_at : Stmt := top 11
noncomputable abbrev N_cell_at : List Str := ["_law_script", "_law_k"]
theorem sc_cell_at : FnScope N_cell_at ["_law_script", "_law_k"] (defScope st_cell_at) := ⟨rfl, rfl, rfl, by decide +kernel, rfl, by decide +kernel, by decide +kernel⟩
noncomputable def g_whole : DG :=
    (sRet (eAnd (eIs "int" (eV 0)) (eNot (tB1 (eIs "bool" (eV 0))))))
noncomputable def F_whole : List D → Option D := runD 1 1 g_whole
noncomputable abbrev st_whole : Stmt := top 12
noncomputable abbrev N_whole : List Str := ["_law_found"]
theorem sc_whole : FnScope N_whole ["_law_found"] (defScope st_whole) := ⟨rfl, rfl, rfl, by decide +kernel, rfl, by decide +kernel, by decide +kernel⟩
theorem ok_cells {P : Program} {w : World} {K : PySem.W.Frag} {mg : Str → Option Value} {base : Heap} {f : Addr} {fd : FuncData} (F : Fun K "_law_cells" "_law_cells" st_cells f fd) (z_enumerate : mg "enumerate" = none) (z_len : mg "len" = none) (z_range : mg "range" = none) (h_mix : Ok1 P w K mg base "_law_mix" 1 (spF K F_mix)) : FnOk P w K mg base CX0 2 f fd ["_law_script", "_law_turn", "_law_most"] (spO K F_cells) :=
  F.okO (own := [4, 5]) (own' := [4, 5]) (g := g_cells) sc_cells (by decide) fun cdv A outer s H E hr B hB =>
    (dss_cons (ds_set (i := 3) sc_cells.nd rfl (by first | exact Or.inl rfl | exact Or.inr rfl) (de_op od_add (dq (df (de_slL (dq (dv (pv 0))) dpo_none (dpo_some (dq de_int))))) (dq (df (de_lst (da_cons (dv (pv 1)) da_nil))))))
    (dss_cons (ds_setO (i := 4) sc_cells.nd rfl (by first | exact Or.inl rfl | exact Or.inr rfl) (de_lst da_nil))
    (dss_cons (ds_if (dt_cmp (od_eq hr) (dq (de_op od_mod (dq (de_op od_fdiv (dq (de_ix (dq (dv (pv 3))) (dq de_int))) (dq de_int))) (dq de_int))) (dq de_int) (nomark _))
     (dss_cons (ds_lcsetO (i := 5) (own' := []) (N := [("_law_cell" : Str)]) (src := [none]) (blk_mk (outer := defScope st_cells) (oN := N_cells) rfl (by decide +kernel) rfl rfl) rfl sc_cells.nd rfl rfl (di_list (dv (pv 3))) (ag_name 0) (by decide) (hte_name 0) (fun C s H ex => ⟨pg_name (i := 0) (show ([("_law_cell" : Str)] : List Str).Nodup by decide +kernel) rfl (by first | exact Or.inl rfl | exact Or.inr rfl), dts_nil, (de_op od_fdiv (dq (dv (pv 0))) (dq de_int))⟩))
      (dss_cons (ds_for PassesOwn.never rfl (di_range1 rfl z_range (dq (de_op od_add (dq (de_op od_add (dq (dv (pv 1))) (dq (dv (pv 2))))) (dq de_int)))) (fun B hB => (dg_name (pg_name (i := 6) sc_cells.nd rfl (by first | exact Or.inl rfl | exact Or.inr rfl)))) (fun B hB =>
       (dss_cons (ds_set (i := 7) sc_cells.nd rfl (by first | exact Or.inl rfl | exact Or.inr rfl) (de_op od_mod (dq (dv (pv 6))) (dq (de_len rfl z_len (dvo (pv 5))))))
        (dss_cons (ds_app (pv 4) (de_op od_mod (dq (de_ix (dvo (pv 5)) (dq (dv (pv 7))))) (dq de_int)))
        (dss_one (ds_item (pv 5) (dq (dv (pv 7))) (de_op od_fdiv (dq (de_ix (dvo (pv 5)) (dq (dv (pv 7))))) (dq de_int))))))))
      (dss_cons (ds_setO (i := 4) sc_cells.nd rfl (by first | exact Or.inl rfl | exact Or.inr rfl) (de_slL (dvo (pv 4)) (dpo_some (dq (dv (pv 1)))) dpo_none))
      (dss_one (ds_retF (de_slL (dvo (pv 4)) dpo_none (dpo_some (dq (de_op od_add (dq de_int) (dq (de_op od_mod (dq (de_ix (dvo (pv 4)) (dq (dv (pv 2))))) (dq (dv (pv 2))))))))))))))
     dss_nil)
    (dss_cons (ds_set (i := 8) sc_cells.nd rfl (by first | exact Or.inl rfl | exact Or.inr rfl) de_int)
    (dss_cons (ds_for PassesOwn.never rfl (di_enum rfl z_enumerate (dv (pv 3))) (fun B hB => (dg_two (pg_tup rfl (pgs_cons (pg_name (i := 6) sc_cells.nd rfl (by first | exact Or.inl rfl | exact Or.inr rfl)) (pgs_cons (pg_name (i := 9) sc_cells.nd rfl (by first | exact Or.inl rfl | exact Or.inr rfl)) pgs_nil))))) (fun B hB =>
     (dss_one (ds_set (i := 8) sc_cells.nd rfl (by first | exact Or.inl rfl | exact Or.inr rfl) (de_op od_mod (dq (de_op od_add (dq (de_op od_mul (dq (dv (pv 8))) (dq de_int))) (dq (de_call h_mix hr rfl (da_cons (dv (pv 9)) (da_cons (de_op od_add (dq (dv (pv 6))) (dq (dv (pv 1)))) da_nil)))))) (dq de_int))))))
    (dss_cons (ds_for PassesOwn.never rfl (di_range1 rfl z_range (dq (de_op od_add (dq de_int) (dq (de_op od_mod (dq (de_op od_fdiv (dq (dv (pv 8))) (dq de_int))) (dq (dv (pv 2)))))))) (fun B hB => (dg_name (pg_name (i := 6) sc_cells.nd rfl (by first | exact Or.inl rfl | exact Or.inr rfl)))) (fun B hB =>
     (dss_cons (ds_set (i := 10) sc_cells.nd rfl (by first | exact Or.inl rfl | exact Or.inr rfl) (de_call h_mix hr rfl (da_cons (de_ix (dq (dv (pv 3))) (dq (de_op od_mod (dq (dv (pv 6))) (dq (de_len rfl z_len (dq (dv (pv 3)))))))) (da_cons (de_op od_add (dq (de_op od_add (dq (de_op od_mod (dq (dv (pv 8))) (dq de_int))) (dq (dv (pv 6))))) (dq (dv (pv 1)))) da_nil))))
      (dss_one (ds_app (pv 4) (de_op od_mod (dq (de_op od_add (dq (de_op od_mul (dq (dv (pv 10))) (dq (dv (pv 10))))) (dq (de_op od_mul (dq de_int) (dq (dv (pv 6))))))) (dq de_int)))))))
    (dss_one (ds_retO (pv 4)))))))))
theorem ok_cell_at {P : Program} {w : World} {K : PySem.W.Frag} {mg : Str → Option Value} {base : Heap} {f : Addr} {fd : FuncData} (F : Fun K "_law_cell_at" "_law_cell_at" st_cell_at f fd) (z_len : mg "len" = none) : FnOk P w K mg base CX0 1 f fd ["_law_script", "_law_k"] (spF K F_cell_at) :=
  F.okD (own := []) (own' := []) (g := g_cell_at) sc_cell_at (by decide) fun cdv A outer s H E hr B hB =>
    (dss_cons (ds_if (dt_cmp od_lt (dq (dv (pv 1))) (dq (de_len rfl z_len (dq (dv (pv 0))))) (nomark _))
     (dss_one (ds_ret (de_ix (dq (dv (pv 0))) (dq (dv (pv 1))))))
     dss_nil)
    (dss_one (ds_ret de_int)))
theorem ok_whole {P : Program} {w : World} {K : PySem.W.Frag} {mg : Str → Option Value} {base : Heap} {f : Addr} {fd : FuncData} (F : Fun K "_law_whole" "_law_whole" st_whole f fd) (z_bool : mg "bool" = none) (z_int : mg "int" = none) (z_isinstance : mg "isinstance" = none) : FnOk P w K mg base CX0 1 f fd ["_law_found"] (spF K F_whole) :=
  F.okD (own := []) (own' := []) (g := g_whole) sc_whole (by decide) fun cdv A outer s H E hr B hB =>
    (dss_one (ds_ret (de_and (de_isinst (T := "int") (by decide) rfl z_isinstance rfl z_int (by decide +kernel) (dq (dv (pv 0)))) (de_one (de_not (de_isinst (T := "bool") (by decide) rfl z_isinstance rfl z_bool (by decide +kernel) (dq (dv (pv 0)))))))))
end K03
end
noncomputable section
set_option maxRecDepth 100000
set_option maxHeartbeats 4000000
namespace K03
open PySem L2
noncomputable def g_names : DG :=
    (sSeq (sSet 1 (e2 oIx (eF (fCall F_cells (aC (eV 0) (aC (eK (.int 40)) (aC (eK (.int 1)) aN))))) (eK (.int 0))))
    (sSeq (sSet 2 (eSlS (eK (.str (Str.ofString "abcdefabcde"))) pN (pS (e2 oMod (eV 1) (eK (.int 12))))))
    (sSeq (sSet 3 (e2 oMod (e2 oFdiv (eV 1) (eK (.int 12))) (e2 oAdd (eCall oLen (aC (eV 2) aN)) (eK (.int 1)))))
    (sRetF (fLC (iS (eK (.str (Str.ofString "mnopq")))) [none, some 2, some 3] (gN 0) tYes (e2 oAdd (e2 oAdd (eSlS (eV 1) pN (pS (eV 2))) (eV 0)) (eSlS (eV 1) (pS (eV 2)) pN)))))))
noncomputable def F_names : List D → Option (List D) := runO 1 4 g_names
noncomputable abbrev st_names : Stmt := top 16
noncomputable abbrev N_names : List Str := ["_law_script", "_law_number", "_law_stem", "_law_at"]
theorem sc_names : FnScope N_names ["_law_script"] (defScope st_names) := ⟨rfl, rfl, rfl, by decide +kernel, rfl, by decide +kernel, by decide +kernel⟩
theorem ok_names {P : Program} {w : World} {K : PySem.W.Frag} {mg : Str → Option Value} {base : Heap} {f : Addr} {fd : FuncData} (F : Fun K "_law_names" "_law_names" st_names f fd) (z_len : mg "len" = none) (h_cells : Ok1 P w K mg base "_law_cells" 2 (spO K F_cells)) : FnOk P w K mg base CX0 3 f fd ["_law_script"] (spO K F_names) :=
  F.okO (own := []) (own' := []) (g := g_names) sc_names (by decide) fun cdv A outer s H E hr B hB =>
    (dss_cons (ds_set (i := 1) sc_names.nd rfl (by first | exact Or.inl rfl | exact Or.inr rfl) (de_ix (dq (df (de_callO h_cells hr rfl (da_cons (dv (pv 0)) (da_cons de_int (da_cons de_int da_nil)))))) (dq de_int)))
    (dss_cons (ds_set (i := 2) sc_names.nd rfl (by first | exact Or.inl rfl | exact Or.inr rfl) (de_slS (dq de_str) dpo_none (dpo_some (dq (de_op od_mod (dq (dv (pv 1))) (dq de_int))))))
    (dss_cons (ds_set (i := 3) sc_names.nd rfl (by first | exact Or.inl rfl | exact Or.inr rfl) (de_op od_mod (dq (de_op od_fdiv (dq (dv (pv 1))) (dq de_int))) (dq (de_op od_add (dq (de_len rfl z_len (dq (dv (pv 2))))) (dq de_int)))))
    (dss_one (ds_retF (de_lc (own' := []) (N := [("_law_letter" : Str), ("_law_stem" : Str), ("_law_at" : Str)]) (src := [none, some 2, some 3]) (blk_mk (outer := defScope st_names) (oN := N_names) rfl (by decide +kernel) rfl rfl) rfl (di_str de_str) (ag_name 0) (by decide) (hte_name 0) (fun C s H ex => ⟨pg_name (i := 0) (show ([("_law_letter" : Str), ("_law_stem" : Str), ("_law_at" : Str)] : List Str).Nodup by decide +kernel) rfl (by first | exact Or.inl rfl | exact Or.inr rfl), dts_nil, (de_op od_add (dq (de_op od_add (dq (de_slS (dq (dv (pv 1))) dpo_none (dpo_some (dq (dv (pv 2)))))) (dq (dv (pv 0))))) (dq (de_slS (dq (dv (pv 1))) (dpo_some (dq (dv (pv 2)))) dpo_none)))⟩)))))))
end K03
end
noncomputable section
set_option maxRecDepth 100000
set_option maxHeartbeats 4000000
namespace K03
open PySem L2
noncomputable def b_signs_1 : DG :=
    (sSeq (sSet 8 (eV 7))
      (sSeq (sIf (tB1 (e2 oEq (eV 6) (eK (.int 0))))
       (sSet 5 (e2 oMod (e2 oFdiv (eV 8) (eK (.int 7))) (eK (.int 3))))
       sNil)
      (sSeq (sSet 9 (e2 oMod (e2 oAdd (eV 8) (e2 oMul (e2 oMul (eV 5) (e2 oMod (eV 6) (eK (.int 2)))) (eK (.int 5)))) (eK (.int 7))))
      (sIf (tOrD (tB1 (e2 oEq (eV 3) (eF (eLst aN)))) (tAndD (tB1 (e2 oLt (eV 9) (eK (.int 3)))) (tB1 (e2 oGt (eV 4) (eK (.int 0))))))
       (sSeq (sApp 3 (eTup (aC (eK (.str (Str.ofString "open"))) (aC (e2 oIx (eV 1) (e2 oMod (e2 oMod (e2 oFdiv (eV 8) (eK (.int 7))) (eK (.int 11))) (eK (.int 5)))) aN))))
        (sSet 4 (e2 oAdd (eV 4) (eK (.int 1)))))
       (sIf (tAndD (tB1 (e2 oLt (eV 9) (eK (.int 5)))) (tB1 (e2 oGt (eV 4) (eK (.int 0)))))
         (sApp 3 (eTup (aC (eK (.str (Str.ofString "text"))) (aC (e2 oIx (eV 2) (e2 oMod (e2 oFdiv (eV 8) (eK (.int 7))) (eK (.int 5)))) aN))))
         (sIf (tOrD (tB1 (e2 oGt (eV 4) (eK (.int 1)))) (tAndD (tB1 (e2 oEq (eV 4) (eK (.int 1)))) (tB1 (e2 oEq (e2 oMod (e2 oFdiv (eV 8) (eK (.int 7))) (eK (.int 6))) (eK (.int 0))))))
           (sSeq (sApp 3 (eTup (aC (eK (.str (Str.ofString "close"))) aN)))
            (sSet 4 (e2 oSub (eV 4) (eK (.int 1)))))
           sNil))))))
noncomputable def g_signs : DG :=
    (sSeq (sSet 2 (eF (eLst (aC (eK (.str (Str.ofString "x"))) (aC (eK (.str (Str.ofString ""))) (aC (eK (.str (Str.ofString "y x"))) (aC (eK (.str (Str.ofString "\""))) (aC (eK (.str (Str.ofString "[a]"))) aN))))))))
    (sSeq (sSetO 3 (eLst aN))
    (sSeq (sSet 4 (eK (.int 0)))
    (sSeq (sSet 5 (eK (.int 0)))
    (sSeq (sFor (iE (eV 0)) (gN2 6 7)
     b_signs_1)
    (sRetO 3))))))
noncomputable def F_signs : List D → Option (List D) := runO 2 10 g_signs
noncomputable abbrev st_signs : Stmt := top 17
noncomputable abbrev N_signs : List Str := ["_law_cells_here", "_law_some", "_law_texts", "_law_signs_here", "_law_depth", "_law_lean", "_law_k", "_law_cell", "_law_number", "_law_kind"]
theorem sc_signs : FnScope N_signs ["_law_cells_here", "_law_some"] (defScope st_signs) := ⟨rfl, rfl, rfl, by decide +kernel, rfl, by decide +kernel, by decide +kernel⟩
noncomputable def b_first_wrong_1 : DG :=
    (sSeq (sIf (tAndD (tB1 (e2 oEq (eV 1) (eK (.int 0)))) (tOrD (tB1 (e2 oGt (eV 2) (eK (.int 0)))) (tB1 (e2 oNe (e2 oIx (eV 3) (eK (.int 0))) (eK (.str (Str.ofString "open")))))))
       (sRet (eV 2))
       sNil)
      (sSet 1 (e2 oSub (e2 oSub (e2 oAdd (eV 1) (eK (.int 1))) (e2 oMul (eK (.int 2)) (eCall oIntB (aC (e2 oEq (e2 oIx (eV 3) (eK (.int 0))) (eK (.str (Str.ofString "close")))) aN)))) (eCall oIntB (aC (e2 oEq (e2 oIx (eV 3) (eK (.int 0))) (eK (.str (Str.ofString "text")))) aN)))))
noncomputable def g_first_wrong : DG :=
    (sSeq (sSet 1 (eK (.int 0)))
    (sSeq (sFor (iE (eV 0)) (gN2 2 3)
     b_first_wrong_1)
    (sRet (eK .non))))
noncomputable def F_first_wrong : List D → Option D := runD 1 4 g_first_wrong
noncomputable abbrev st_first_wrong : Stmt := top 18
noncomputable abbrev N_first_wrong : List Str := ["_law_signs_here", "_law_depth", "_law_at", "_law_sign"]
theorem sc_first_wrong : FnScope N_first_wrong ["_law_signs_here"] (defScope st_first_wrong) := ⟨rfl, rfl, rfl, by decide +kernel, rfl, by decide +kernel, by decide +kernel⟩
theorem ok_signs {P : Program} {w : World} {K : PySem.W.Frag} {mg : Str → Option Value} {base : Heap} {f : Addr} {fd : FuncData} (F : Fun K "_law_signs" "_law_signs" st_signs f fd) (z_enumerate : mg "enumerate" = none) : FnOk P w K mg base CX0 1 f fd ["_law_cells_here", "_law_some"] (spO K F_signs) :=
  F.okO (own := [3]) (own' := [3]) (g := g_signs) sc_signs (by decide) fun cdv A outer s H E hr B hB =>
    (dss_cons (ds_set (i := 2) sc_signs.nd rfl (by first | exact Or.inl rfl | exact Or.inr rfl) (df (de_lst (da_cons de_str (da_cons de_str (da_cons de_str (da_cons de_str (da_cons de_str da_nil))))))))
    (dss_cons (ds_setO (i := 3) sc_signs.nd rfl (by first | exact Or.inl rfl | exact Or.inr rfl) (de_lst da_nil))
    (dss_cons (ds_set (i := 4) sc_signs.nd rfl (by first | exact Or.inl rfl | exact Or.inr rfl) de_int)
    (dss_cons (ds_set (i := 5) sc_signs.nd rfl (by first | exact Or.inl rfl | exact Or.inr rfl) de_int)
    (dss_cons (ds_for PassesOwn.never rfl (di_enum rfl z_enumerate (dv (pv 0))) (fun B hB => (dg_two (pg_tup rfl (pgs_cons (pg_name (i := 6) sc_signs.nd rfl (by first | exact Or.inl rfl | exact Or.inr rfl)) (pgs_cons (pg_name (i := 7) sc_signs.nd rfl (by first | exact Or.inl rfl | exact Or.inr rfl)) pgs_nil))))) (fun B hB =>
     (dss_cons (ds_set (i := 8) sc_signs.nd rfl (by first | exact Or.inl rfl | exact Or.inr rfl) (dv (pv 7)))
      (dss_cons (ds_if (dt_cmp (od_eq hr) (dq (dv (pv 6))) (dq de_int) (nomark _))
       (dss_one (ds_set (i := 5) sc_signs.nd rfl (by first | exact Or.inl rfl | exact Or.inr rfl) (de_op od_mod (dq (de_op od_fdiv (dq (dv (pv 8))) (dq de_int))) (dq de_int))))
       dss_nil)
      (dss_cons (ds_set (i := 9) sc_signs.nd rfl (by first | exact Or.inl rfl | exact Or.inr rfl) (de_op od_mod (dq (de_op od_add (dq (dv (pv 8))) (dq (de_op od_mul (dq (de_op od_mul (dq (dv (pv 5))) (dq (de_op od_mod (dq (dv (pv 6))) (dq de_int))))) (dq de_int))))) (dq de_int)))
      (dss_one (ds_if (PW.pt (dw_or (dt_cmp (od_eq hr) (dvo (pv 3)) (dq (df (de_lst da_nil))) (nomark _)) (dw_or1 (PW.pt (dw_and (dt_cmp od_lt (dq (dv (pv 9))) (dq de_int) (nomark _)) (dw_and1 (dt_cmp od_gt (dq (dv (pv 4))) (dq de_int) (nomark _))))))))
       (dss_cons (ds_app (pv 3) (de_tup (da_cons de_str (da_cons (de_ix (dq (dv (pv 1))) (dq (de_op od_mod (dq (de_op od_mod (dq (de_op od_fdiv (dq (dv (pv 8))) (dq de_int))) (dq de_int))) (dq de_int)))) da_nil))))
        (dss_one (ds_set (i := 4) sc_signs.nd rfl (by first | exact Or.inl rfl | exact Or.inr rfl) (de_op od_add (dq (dv (pv 4))) (dq de_int)))))
       (dss_one (ds_if (PW.pt (dw_and (dt_cmp od_lt (dq (dv (pv 9))) (dq de_int) (nomark _)) (dw_and1 (dt_cmp od_gt (dq (dv (pv 4))) (dq de_int) (nomark _)))))
         (dss_one (ds_app (pv 3) (de_tup (da_cons de_str (da_cons (de_ix (dq (dv (pv 2))) (dq (de_op od_mod (dq (de_op od_fdiv (dq (dv (pv 8))) (dq de_int))) (dq de_int)))) da_nil)))))
         (dss_one (ds_if (PW.pt (dw_or (dt_cmp od_gt (dq (dv (pv 4))) (dq de_int) (nomark _)) (dw_or1 (PW.pt (dw_and (dt_cmp (od_eq hr) (dq (dv (pv 4))) (dq de_int) (nomark _)) (dw_and1 (dt_cmp (od_eq hr) (dq (de_op od_mod (dq (de_op od_fdiv (dq (dv (pv 8))) (dq de_int))) (dq de_int))) (dq de_int) (nomark _))))))))
           (dss_cons (ds_app (pv 3) (de_tup (da_cons de_str da_nil)))
            (dss_one (ds_set (i := 4) sc_signs.nd rfl (by first | exact Or.inl rfl | exact Or.inr rfl) (de_op od_sub (dq (dv (pv 4))) (dq de_int)))))
           dss_nil)))))))))))
    (dss_one (ds_retO (pv 3))))))))
theorem ok_first_wrong {P : Program} {w : World} {K : PySem.W.Frag} {mg : Str → Option Value} {base : Heap} {f : Addr} {fd : FuncData} (F : Fun K "_law_first_wrong" "_law_first_wrong" st_first_wrong f fd) (z_enumerate : mg "enumerate" = none) (z_int : mg "int" = none) : FnOk P w K mg base CX0 1 f fd ["_law_signs_here"] (spF K F_first_wrong) :=
  F.okD (own := []) (own' := []) (g := g_first_wrong) sc_first_wrong (by decide) fun cdv A outer s H E hr B hB =>
    (dss_cons (ds_set (i := 1) sc_first_wrong.nd rfl (by first | exact Or.inl rfl | exact Or.inr rfl) de_int)
    (dss_cons (ds_for PassesOwn.never rfl (di_enum rfl z_enumerate (dv (pv 0))) (fun B hB => (dg_two (pg_tup rfl (pgs_cons (pg_name (i := 2) sc_first_wrong.nd rfl (by first | exact Or.inl rfl | exact Or.inr rfl)) (pgs_cons (pg_name (i := 3) sc_first_wrong.nd rfl (by first | exact Or.inl rfl | exact Or.inr rfl)) pgs_nil))))) (fun B hB =>
     (dss_cons (ds_if (PW.pt (dw_and (dt_cmp (od_eq hr) (dq (dv (pv 1))) (dq de_int) (nomark _)) (dw_and1 (PW.pt (dw_or (dt_cmp od_gt (dq (dv (pv 2))) (dq de_int) (nomark _)) (dw_or1 (dt_cmp (od_ne hr) (dq (de_ix (dq (dv (pv 3))) (dq de_int))) (dq de_str) (nomark _))))))))
       (dss_one (ds_ret (dv (pv 2))))
       dss_nil)
      (dss_one (ds_set (i := 1) sc_first_wrong.nd rfl (by first | exact Or.inl rfl | exact Or.inr rfl) (de_op od_sub (dq (de_op od_sub (dq (de_op od_add (dq (dv (pv 1))) (dq de_int))) (dq (de_op od_mul (dq de_int) (dq (de_intb rfl z_int (dq (de_cmp (od_eq hr) (dq (de_ix (dq (dv (pv 3))) (dq de_int))) (dq de_str) (nomark _))))))))) (dq (de_intb rfl z_int (dq (de_cmp (od_eq hr) (dq (de_ix (dq (dv (pv 3))) (dq de_int))) (dq de_str) (nomark _)))))))))))
    (dss_one (ds_ret de_non))))
end K03
end
noncomputable section
set_option maxRecDepth 100000
set_option maxHeartbeats 4000000
namespace K03
open PySem L2
noncomputable abbrev st_only : Stmt := top 14
noncomputable abbrev N_only : List Str := ["_law_error", "_law_which", "_law_found", "_law_due"]
theorem sc_only : FnScope N_only ["_law_error", "_law_which"] (defScope st_only) := ⟨rfl, rfl, rfl, by decide +kernel, rfl, by decide +kernel, by decide +kernel⟩
structure XSt (H : Hp) (a C : Addr) (n : Int) : Prop where
  ex : ∃ dx oe, H a = some (XObj a oe) ∧ XStand oe C dx ∧ H dx = some (.xd [("at", .int n)])
theorem XSt.same {H H' : Hp} {a C : Addr} {n : Int} (x : XSt H a C n) (s : Same H H') : XSt H' a C n := by
  obtain ⟨dx, oe, h1, h2, h3⟩ := x.ex
  exact ⟨dx, oe, s _ _ h1, h2, s _ _ h3⟩
noncomputable section
variable {X : Cx} {p pos p' : Pos} {x y : Str} {C : Addr} {ta tc : TE} {e : Expr}
theorem cd_isx (xi : XIs X.K C) : CallR X (.builtin "isinstance") (fun xs H Q => ∃ a n vc c b, xs = [.ref a, vc] ∧ XSt H a C n ∧ (∀ u, RelV vc u → u = c) ∧ PySem.W.kitOne X.K (.ref C) c = some b ∧ Q (.bl b) H) := by
  intro pins s σ H xs us Q I r ⟨a, n, vc, c, b, e, st, hc, k, q⟩
  subst e
  obtain ⟨dx, oe, h1, h2, h3⟩ := st.ex
  cases r with
  | cons r1 r =>
    cases r with
    | cons r2 r =>
      cases r
      rename_i u1 u2
      obtain rfl : u1 = Value.ref a := r1
      obtain rfl := hc _ r2
      exact xis_ok (M := X.w) I h1 h2 h3 xi k fun s' I' => ⟨.bl b, H, I', rfl, q⟩
noncomputable def rIsx (K : PySem.W.Frag) (C : Addr) : List V → Hp → VK → Prop := fun xs H Q => ∃ a n vc c b, xs = [.ref a, vc] ∧ XSt H a C n ∧ (∀ u, RelV vc u → u = c) ∧ PySem.W.kitOne K (.ref C) c = some b ∧ Q (.bl b) H
theorem pe_isx {v : V} (xi : XIs X.K C) (hg : Gl X "isinstance") (hm : X.mg "isinstance" = none) (he : PE X e ta) (hc : PE X (.Name y p') (tC v))
    (hs : starEach (e :: [.Name y p']) X.env = (false, eval e X.env) :: starEach [.Name y p'] X.env := by rfl) (hs2 : starEach (.Name y p' :: []) X.env = (false, eval (.Name y p') X.env) :: starEach [] X.env := by rfl) (hpl : (backTo pos (starEach [.Name y p'] X.env)).any (·.1) = false := by rfl) :
    PE X (.Call (.Name "isinstance" p) [e, .Name y p'] [] pos) (tCB (rIsx X.K C) (tCons ta (tCons (tC v) tNil))) :=
  pe_callB (cd_isx xi) hg hm PyProof.Rows.boot_isinstance (pa_cons he (pa_cons hc pa_nil hs2) hs) (by decide) (by decide) hs hpl
theorem isx_of {K : PySem.W.Frag} {σ : St} {H : Hp} {Q : VK} {a c : Addr} {n : Int} {b : Bool} {i : Nat} (e : σ[i]? = some (some (.ref a))) (x : XSt H a C n) (k : PySem.W.kitOne K (.ref C) (.ref c) = some b) (q : Q (.bl b) H) : tCB (rIsx K C) (tCons (tVar i) (tCons (tC (.ref c)) tNil)) σ H Q :=
  ⟨_, e, a, n, .ref c, .ref c, b, rfl, x, fun u r => r, k, q⟩
theorem isx_ofT {K : PySem.W.Frag} {σ : St} {H : Hp} {Q : VK} {a : Addr} {T : String} {n : Int} {b : Bool} {i : Nat} (e : σ[i]? = some (some (.ref a))) (x : XSt H a C n) (k : PySem.W.kitOne K (.ref C) (.type T) = some b) (q : Q (.bl b) H) : tCB (rIsx K C) (tCons (tVar i) (tCons (tC (.ty T)) tNil)) σ H Q :=
  ⟨_, e, a, n, .ty T, .type T, b, rfl, x, fun u r => r, k, q⟩
end
end K03
end
noncomputable section
set_option maxRecDepth 100000
set_option maxHeartbeats 4000000
namespace K03
open PySem L2
noncomputable def spOnly (C : Addr) : Sp := fun vs H Q _ => ∃ a n, vs = [.ref a, .int 0] ∧ XSt H a C n ∧ ∀ H', Same H H' → Q (.bl true) H'
structure XAsk (K : PySem.W.Frag) (mg : Str → Option Value) (C : Addr) : Prop where
  xi : XIs K C
  m1 : mg "NoSign" = some (.ref C)
  k1 : PySem.W.kitOne K (.ref C) (.ref C) = some true
  m2 : ∃ c, mg "NoText" = some (.ref c) ∧ PySem.W.kitOne K (.ref C) (.ref c) = some false
  m3 : ∃ c, mg "NoPart" = some (.ref c) ∧ PySem.W.kitOne K (.ref C) (.ref c) = some false
  m4 : ∃ c, mg "Taken" = some (.ref c) ∧ PySem.W.kitOne K (.ref C) (.ref c) = some false
  m5 : ∃ c, mg "Late" = some (.ref c) ∧ PySem.W.kitOne K (.ref C) (.ref c) = some false
  m6 : ∃ c, mg "SiftError" = some (.ref c) ∧ PySem.W.kitOne K (.ref C) (.ref c) = some true
  m7 : PySem.W.kitOne K (.ref C) (.type "ValueError") = some true
noncomputable def five : List D := [.bl true, .bl false, .bl false, .bl false, .bl false]
theorem ok_only {P : Program} {w : World} {K : PySem.W.Frag} {mg : Str → Option Value} {base : Heap} {f C : Addr} {fd : FuncData} (F : Fun K "_law_only" "_law_only" st_only f fd) (z_range : mg "range" = none) (z_isinstance : mg "isinstance" = none) (z_ValueError : mg "ValueError" = none) (A7 : XAsk K mg C) :
    FnOk P w K mg base CX0 2 f fd ["_law_error", "_law_which"] (spOnly C) := by
  obtain ⟨c2, m2, k2⟩ := A7.m2
  obtain ⟨c3, m3, k3⟩ := A7.m3
  obtain ⟨c4, m4, k4⟩ := A7.m4
  obtain ⟨c5, m5, k5⟩ := A7.m5
  obtain ⟨c6, m6, k6⟩ := A7.m6
  have big : 100000 < sizeLine := by rw [sizeLine_eq]; decide
  refine F.ok sc_only (fun vs H Q E h => ?_) (fun cdv A outer s H vs Q E hr h => ?_)
  · obtain ⟨a, n, rfl, _⟩ := h
    rfl
  · obtain ⟨a, n, rfl, xs, q⟩ := h
    refine ⟨_, pss_cons (ps_set (i := 2) sc_only.nd rfl (by first | exact Or.inl rfl | exact Or.inr rfl) (pe_lst (pa_cons (pe_isx (v := .ref C) A7.xi rfl z_isinstance (pv 0) (pe_glob rfl A7.m1 rfl)) (pa_cons (pe_isx (v := .ref c2) A7.xi rfl z_isinstance (pv 0) (pe_glob rfl m2 rfl)) (pa_cons (pe_isx (v := .ref c3) A7.xi rfl z_isinstance (pv 0) (pe_glob rfl m3 rfl)) pa_nil)))))
      (pss_cons (ps_set (i := 2) sc_only.nd rfl (by first | exact Or.inl rfl | exact Or.inr rfl) (pe_op op_cat (pv 2) (pe_lst (pa_cons (pe_isx (v := .ref c4) A7.xi rfl z_isinstance (pv 0) (pe_glob rfl m4 rfl)) (pa_cons (pe_isx (v := .ref c5) A7.xi rfl z_isinstance (pv 0) (pe_glob rfl m5 rfl)) pa_nil)))))
      (pss_cons (ds_lcset (B := ⟨fun _ => none, H, [(0, a)]⟩) (oL := []) (own := [0]) (i := 3) (own' := []) (N := [("_law_k" : Str), ("_law_which" : Str)]) (src := [none, some 1]) (blk_mk (outer := defScope st_only) (oN := N_only) rfl (by decide +kernel) rfl rfl) rfl sc_only.nd rfl rfl (di_range1 rfl z_range (dq de_int)) (ag_name 0) (by decide) (hte_name 0) (fun C s H ex => ⟨pg_name (i := 0) (show ([("_law_k" : Str), ("_law_which" : Str)] : List Str).Nodup by decide +kernel) rfl (by first | exact Or.inl rfl | exact Or.inr rfl), dts_nil, (de_cmp (od_eq hr) (dq (dv (pv 0))) (dq (dv (pv 1))) (nomark _))⟩))
      (pss_one (ps_ret (pe_and (de_cmp (own := [0]) (od_eq hr) (dq (dv (pv 2))) (dq (dv (pv 3))) (nomark _)) (pe_and (pe_isx (v := .ty "ValueError") A7.xi rfl z_isinstance (pv 0) (pe_bltn rfl z_ValueError (by decide +kernel) rfl)) (pe_one (pe_isx (v := .ref c6) A7.xi rfl z_isinstance (pv 0) (pe_glob rfl m6 rfl))))))))), ?_⟩
    refine isx_of rfl xs A7.k1 (isx_of rfl xs k2 (isx_of rfl xs k3 ⟨by show 3 ≤ sizeLine; omega, fun l1 hl1 => ?_⟩))
    have s1 : Same H (upd H l1 (.lst [.bl true, .bl false, .bl false])) := .alloc hl1
    refine ⟨_, rfl, isx_of rfl (xs.same s1) k4 (isx_of rfl (xs.same s1) k5 ⟨by show 2 ≤ sizeLine; omega, fun l2 hl2 => ?_⟩)⟩
    have n21 : l1 ≠ l2 := fun z => by rw [z, upd_same] at hl2; cases hl2
    have s2 := s1.trans (.alloc (o := .lst [.bl false, .bl false]) hl2)
    refine ⟨l1, l2, _, _, rfl, rfl, by rw [upd_ne n21]; exact upd_same, upd_same, by show 5 ≤ sizeLine; omega, fun l3 hl3 => ?_⟩
    have s3 := s2.trans (.alloc (o := .lst [.bl true, .bl false, .bl false, .bl false, .bl false]) hl3)
    have h3 : H l3 = none := s2.free hl3
    refine ⟨upd (fun _ => none) l3 (.lst [.bl true, .bl false, .bl false, .bl false, .bl false]), [none, some (.int 0), some (.lst five), none], .nx [none, some (.int 0), some (.lst five), some (.lst five)], ⟨fun b o e => ?_, fun b o e => (nomatch e), s3, fun b o e => ?_, fun i d hi e => ?_, fun i d hi e => ?_, fun i j b hi hj di dj => ?_, rfl, fun i b hb => ?_⟩, rfl, fun σ' G' H' S => ?_⟩
    · by_cases hb : b = l3
      · subst hb; rw [upd_same] at e ⊢; exact e
      · rw [upd_ne hb] at e; cases e
    · by_cases hb : b = l3
      · subst hb; exact .inr h3
      · rw [upd_ne hb] at e; cases e
    · have r5 : Reps K (upd (fun _ => none) l3 (.lst [.bl true, .bl false, .bl false, .bl false, .bl false])) five [.bl true, .bl false, .bl false, .bl false, .bl false] :=
        .cons (rep_bl.mpr rfl) (.cons (rep_bl.mpr rfl) (.cons (rep_bl.mpr rfl) (.cons (rep_bl.mpr rfl) (.cons (rep_bl.mpr rfl) .nil))))
      match i, e with
      | 1, e => cases e; exact ⟨_, rfl, rep_int.mpr rfl⟩
      | 2, e => cases e; exact ⟨_, rfl, rep_lst.mpr ⟨l3, _, rfl, upd_same, r5⟩⟩
      | 0, e => cases e
      | 3, e => cases e
      | i + 4, e => simp at e
    · have : i = 0 := by simpa using hi
      subst this; cases e
    · have : i = 0 := by simpa using hi
      subst this
      obtain ⟨d, e⟩ := di
      cases e
    · have hb : (i, b) = (0, a) := by simpa using hb
      cases hb
      exact ⟨by simp, rfl⟩
    · refine ⟨G', _, .bl true, S.gh, S.envR, rfl, fun v G2 H2 E2 r2 => ?_⟩
      have := rep_bl.mp r2; subst this
      have sf : Same H H2 := S.h0.trans E2.hh
      obtain ⟨_, e0⟩ := S.pin 0 a (by simp)
      refine ⟨true, rfl, ?_⟩
      rw [if_pos rfl]
      refine isx_ofT e0 (xs.same sf) A7.m7 ⟨true, rfl, ?_⟩
      rw [if_pos rfl]
      exact isx_of e0 (xs.same sf) k6 (q _ sf)
end K03
end
noncomputable section
set_option maxRecDepth 100000
set_option maxHeartbeats 4000000
namespace K03
open PySem L2
noncomputable def Good (ss : List D) (due : D) : Prop := ss.length ≤ 100000 ∧ (∀ s ∈ ss, isSign s) ∧ ((∃ zf ds, zrun ss ([], []) = some zf ∧ (zclose zf.1 zf.2)[0]? = some (.tup ds) ∧ due = .non) ∨ (∃ (n : Nat) (z : Zs × List D) (s : D), ss[n]? = some s ∧ zrun (ss.take n) ([], []) = some z ∧ zstep z s = none ∧ due = .int n))
open Classical in
noncomputable def sTail : DG := fun ρ => if (∃ (ss : List D) (due : D), ρ[2]? = some (some (.lst ss)) ∧ ρ[8]? = some (some due) ∧ ρ[9]? = some (some .non) ∧ ρ.length = 13 ∧ Good ss due) then some (.rt (.bl true)) else none
theorem sTail_some {ρ : DEnv} {o : DO} (h : sTail ρ = some o) : (∃ (ss : List D) (due : D), ρ[2]? = some (some (.lst ss)) ∧ ρ[8]? = some (some due) ∧ ρ[9]? = some (some .non) ∧ ρ.length = 13 ∧ Good ss due) ∧ o = .rt (.bl true) := by
  unfold sTail at h
  split at h
  · cases h; exact ⟨by assumption, rfl⟩
  · cases h
noncomputable def NoX (B : Bs) : Prop := Same B.g B.h ∧ ∀ b φ, B.h b ≠ some (.ext φ)
noncomputable abbrev fT : DT := tB1 (e2 oIsN (eV 8) (eK .non))
noncomputable abbrev fR : DF := eAnd (e2 oIsN (eV 9) (eK .non)) (eIs "tuple" (eV 11))
noncomputable abbrev tE (K : PySem.W.Frag) (C : Addr) : TE := tAndV (tCall (spOnly C) [] E0 (tCons (tVar 9) (tCons (tC (.int 0)) tNil))) (tAndV (tP K [] (eCall F_whole (aC (eV 10) aN))) (tP K [] (e2 oEq (eV 10) (eV 8))))
noncomputable abbrev tTail (K : PySem.W.Frag) (B : Bs) (C : Addr) : TS := tSeq (sTry C (spStump K C) 11 12 (tCons (tVar 2) tNil) (tSeq (tAsg (tVar 12) (gName 9)) (tAsg (tXGet K (tVar 12) "at") (gName 10)))) (tSeq (tIfS (tPT K [] fT) (tDS K B [] [] [] (sRet fR)) tNext) (tRet (tE K C)))
theorem whole_int (n : Int) : F_whole [.int n] = some (.bl true) := by rfl
theorem tail_of {K : PySem.W.Frag} {B : Bs} {C : Addr} {D' : Ends} {σ : St} {H : Hp} (nx : NoX B) (xg : XGet K C "at") (h : tDS K B [] [] [] sTail D' σ H) : tTail K B C D' σ H := by
  obtain ⟨G, ρ, o, S, eq, k⟩ := h
  obtain ⟨⟨ss, due, e1, e2, e3, hlr, ⟨hz, hsg, hg⟩⟩, rfl⟩ := sTail_some eq
  have k : ∀ v G H, Ext B.1 B.2 G H → Rep K G (.bl true) v → D'.rt v H := k
  have hl : σ.length = 13 := by rw [S.len]; exact hlr
  obtain ⟨v2, f2, r2⟩ := S.env 2 _ (by simp) e1
  rcases hg with ⟨zf, ds, ez, ed, rfl⟩ | ⟨n, z, s, g1, g2, g3, rfl⟩
  ·
    refine ⟨_, f2, G, ss, S.gh, .cons r2 .nil, hz, hsg, .inl ⟨zf, _, ez, ed, fun v G' H' E r => ?_⟩⟩
    have S' := (S.ext E).setS (i := 11) (by simp) r
    have e8 : (List.set ρ 11 (some (D.tup ds)))[8]? = some (some .non) := by rw [List.getElem?_set_ne (by decide)]; exact e2
    have e9 : (List.set ρ 11 (some (D.tup ds)))[9]? = some (some .non) := by rw [List.getElem?_set_ne (by decide)]; exact e3
    have e11 : (List.set ρ 11 (some (D.tup ds)))[11]? = some (some (.tup ds)) := List.getElem?_set_self (by rw [hlr]; decide)
    refine ⟨G', _, true, S'.gh, S'.envR, ?_, fun G2 H2 E2 => ?_⟩
    · simp only [fT, tB1, L2.e2, eV, eK, e8, Option.bind_some, Option.join_some, oIsN]
    · refine ite2 (fun _ => ?_) (fun hn => absurd rfl hn)
      have S2 := S'.ext E2
      refine ⟨G2, _, .rt (.bl true), S2, ?_, k⟩
      simp only [sRet, fR, eAnd, tB1, L2.e2, eIs, eV, eK, e9, e11, Option.bind_some, Option.join_some, oIsN, if_true, Option.map_some]
      rfl
  ·
    refine ⟨_, f2, G, ss, S.gh, .cons r2 .nil, hz, hsg, .inr ⟨n, z, s, g1, g2, g3, fun dx H2 sh hdx => ⟨dx, rfl, rfl, fun a oe0 oe H3 ea0 same ea st => ?_⟩⟩⟩
    have nda : dx ≠ a := fun z => by rw [z, ea0] at hdx; cases hdx
    have hdx3 := same dx _ nda hdx
    have hB : Same B.h H3 := fun b o e => by
      have h1 := sh _ _ (S.h0 _ _ e)
      refine same b o (fun z => ?_) h1
      rw [z, ea0] at h1
      cases h1
      rw [z] at e
      exact nx.2 _ _ e
    have xs : XSt H3 a C n := ⟨dx, oe, ea, st, hdx3⟩
    obtain ⟨v8, f8, r8⟩ := S.env 8 _ (by simp) e2
    have := rep_int.mp r8; subst this
    have q12 : (List.set σ 12 (some (V.ref a)))[12]? = some (some (.ref a)) := List.getElem?_set_self (by rw [hl]; decide)
    refine ⟨_, q12, ?_⟩
    have q12' : ((List.set σ 12 (some (V.ref a))).set 9 (some (V.ref a)))[12]? = some (some (.ref a)) := by rw [List.getElem?_set_ne (by decide)]; exact q12
    refine ⟨_, q12', a, C, dx, oe, _, _, rfl, ea, st, hdx3, xg, rfl, ?_⟩
    show tSeq (tIfS (tPT K [] fT) (tDS K B [] [] [] (sRet fR)) tNext) (tRet (tE K C)) D' ((((List.set σ 12 (some (V.ref a))).set 9 (some (V.ref a))).set 10 (some (V.int n))).set 12 none) H3
    generalize hσ : (((List.set σ 12 (some (V.ref a))).set 9 (some (V.ref a))).set 10 (some (V.int n))).set 12 none = σ4
    have l4 : σ4.length = 13 := by rw [← hσ]; simp [hl]
    have s8 : σ4[8]? = some (some (.int n)) := by rw [← hσ, List.getElem?_set_ne (by decide), List.getElem?_set_ne (by decide), List.getElem?_set_ne (by decide), List.getElem?_set_ne (by decide)]; exact f8
    have s9 : σ4[9]? = some (some (.ref a)) := by rw [← hσ, List.getElem?_set_ne (by decide), List.getElem?_set_ne (by decide), List.getElem?_set_self (by simp [hl])]
    have s10 : σ4[10]? = some (some (.int n)) := by rw [← hσ, List.getElem?_set_ne (by decide), List.getElem?_set_self (by simp [hl])]
    have en : ∀ H4, EnvR K [] (fun _ => none) H4 σ4 [none, none, none, none, none, none, none, none, some (.int n), none, some (.int n), none, none] := fun H4 => ⟨by rw [l4]; rfl, fun i d e => by
      match i, e with
      | 8, e => cases e; exact ⟨_, s8, by rw [if_neg (by simp)]; exact rep_int.mpr rfl⟩
      | 10, e => cases e; exact ⟨_, s10, by rw [if_neg (by simp)]; exact rep_int.mpr rfl⟩
      | 0, e => cases e
      | 1, e => cases e
      | 2, e => cases e
      | 3, e => cases e
      | 4, e => cases e
      | 5, e => cases e
      | 6, e => cases e
      | 7, e => cases e
      | 9, e => cases e
      | 11, e => cases e
      | 12, e => cases e
      | i + 13, e => simp at e⟩
    refine ⟨fun _ => none, [none, none, none, none, none, none, none, none, some (.int n), none, some (.int n), none, none], false, fun b o e => (nomatch e), en _, rfl, fun G4 H4 E4 => ?_⟩
    refine ite2 (fun hn => nomatch hn) (fun _ => ?_)
    refine ⟨_, s9, a, n, rfl, xs.same E4.hh, fun H5 s5 => ⟨true, rfl, ?_⟩⟩
    rw [if_pos rfl]
    refine ⟨fun _ => none, [none, none, none, none, none, none, none, none, some (.int n), none, some (.int n), none, none], .bl true, fun b o e => (nomatch e), en _, whole_int n, fun v6 G6 H6 E6 r6 => ?_⟩
    have := rep_bl.mp r6; subst this
    refine ⟨true, rfl, ?_⟩
    rw [if_pos rfl]
    refine ⟨fun _ => none, [none, none, none, none, none, none, none, none, some (.int n), none, some (.int n), none, none], .bl true, fun b o e => (nomatch e), en _, ?_, fun v7 G7 H7 E7 r7 => ?_⟩
    · simp [L2.e2, eV, oEq, dOk, deq]
    · have := rep_bl.mp r7; subst this
      have sB : Same B.h H7 := hB.trans (E4.hh.trans (s5.trans (E6.hh.trans E7.hh)))
      exact k _ B.g H7 ⟨sB, Same.refl _, nx.1.trans sB, fun b o e => .inl e⟩ (rep_bl.mpr rfl)
end K03
end
noncomputable section
set_option maxRecDepth 100000
set_option maxHeartbeats 4000000
namespace K03
open PySem L2
noncomputable def spLaw (K : PySem.W.Frag) (F : List D → Option D) : Sp := fun vs H Q E => (∀ b φ, H b ≠ some (.ext φ)) ∧ spF K F vs H Q E
theorem okDX {P : Program} {w : World} {K : PySem.W.Frag} {mg : Str → Option Value} {base : Heap} {x qual : Str} {st : Stmt} {f : Addr} {fd : FuncData} {N ps : List Str} {k : Nat} (F : Fun K x qual st f fd) (S : FnScope N ps (defScope st)) {own own' : List Nat} {g : DG} (hown : ∀ i ∈ own, ps.length ≤ i)
    (hb : ∀ (cdv : Value) (A : Around) (outer : List Env) (s : Shared) (H : Hp) (E : XK), Room k (A.deeper (PyProof.Rows.envOfC qual (defScope st) s.heap.objs.size f cdv)) → ∀ B : Bs, NoX B →
      PSs (cxOf CX0 P w K mg base N qual (defScope st) f cdv A outer s H E).nox (defBody st) (tDS K B [] own own' g)) : FnOk P w K mg base CX0 (k + 1) f fd ps (spLaw K (runD ps.length N.length g)) := by
  refine F.ok S (fun vs H Q E h => ?_) (fun cdv A outer s H vs Q E hr h => ?_)
  · obtain ⟨_, G, ds, d, gh, r, eq, _⟩ := h
    unfold runD at eq
    split at eq
    · rw [← r.length]; assumption
    · cases eq
  · obtain ⟨nx, G, ds, d, gh, r, eq, q⟩ := h
    unfold runD at eq
    split at eq
    · rename_i hl
      refine ⟨_, hb cdv A outer s H E hr ⟨G, H, []⟩ ⟨gh, nx⟩, ?_⟩
      cases eg : g (startD N.length ds) with
      | none => rw [eg] at eq; cases eq
      | some o =>
        rw [eg] at eq
        refine ⟨G, _, o, start_SR gh r (by rw [hl]; exact hown), eg, ?_⟩
        cases o with
        | rt d' => cases eq; exact fun v G' H' E r => q v G' H' E r
        | ro rs =>
          cases eq
          exact fun a us G' H' E h1 h2 h3 r => q _ (upd G' a (.lst us)) H' (E.freeze h1 h2 h3) (rep_lst.mpr ⟨a, us, rfl, upd_same, Reps.mono (.alloc h2) rs r⟩)
        | nx ρ => cases eq; exact fun σ G' H' S => q _ G' H' S.toExt (rep_non.mpr rfl)
        | bk ρ => cases eq
        | ct ρ => cases eq
        | rm d ρ => cases eq
    · cases eq
noncomputable def g_law : DG :=
    (sSeq (sSet 1 (eF (fCall F_names (aC (eV 0) aN))))
    (sSeq (sSet 2 (eF (fCall F_signs (aC (eF (fCall F_cells (aC (eV 0) (aC (eK (.int 500)) (aC (eK (.int 40)) aN))))) (aC (eV 1) aN)))))
    (sSeq (sSet 3 (eCall F_mix (aC (eCall F_cell_at (aC (eV 0) (aC (eK (.int 1)) aN))) (aC (eK (.int 5)) aN))))
    (sSeq (sSet 4 (e2 oMod (eV 3) (e2 oAdd (eCall oLen (aC (eV 2) aN)) (eK (.int 1)))))
    (sSeq (sSet 5 (e2 oIx (eF (eLst (aC (eTup (aC (eK (.str (Str.ofString "close"))) aN)) (aC (eTup (aC (eK (.str (Str.ofString "open"))) (aC (eK (.str (Str.ofString "a"))) aN))) (aC (eTup (aC (eK (.str (Str.ofString "text"))) (aC (eK (.str (Str.ofString "x"))) aN))) aN))))) (e2 oMod (e2 oFdiv (eV 3) (eK (.int 100))) (eK (.int 3)))))
    (sSeq (sSet 6 (e2 oMod (eCall F_cell_at (aC (eV 0) (aC (eK (.int 0)) aN))) (eK (.int 4))))
    (sSeq (sIf (tB1 (e2 oEq (eV 6) (eK (.int 0))))
     (sSet 4 (eK (.int 0)))
     sNil)
    (sSeq (sIf (tB1 (e2 oLt (eV 6) (eK (.int 3))))
     (sSet 2 (e2 oAdd (e2 oAdd (eF (fSl (eV 2) pN (pS (eV 4)))) (eF (eLst (aC (eV 5) aN)))) (eF (fSl (eV 2) (pS (eV 4)) pN))))
     (sSeq (sSet 7 (e2 oSub (eCall oLen (aC (eF (fLC (iL (eV 2)) [none] (gN 0) (tB1 (e2 oEq (e2 oIx (eV 0) (eK (.int 0))) (eK (.str (Str.ofString "open"))))) (eV 0))) aN)) (eCall oLen (aC (eF (fLC (iL (eV 2)) [none] (gN 0) (tB1 (e2 oEq (e2 oIx (eV 0) (eK (.int 0))) (eK (.str (Str.ofString "close"))))) (eV 0))) aN))))
      (sSet 2 (e2 oAdd (e2 oAdd (eV 2) (eF (fLC (iR1 (eV 7)) [none] (gN 0) tYes (eTup (aC (eK (.str (Str.ofString "close"))) aN))))) (e2 oMul (eF (eLst (aC (eV 5) aN))) (e2 oMod (eCall F_cell_at (aC (eV 0) (aC (eK (.int 2)) aN))) (eK (.int 3))))))))
    (sSeq (sIf (tB1 (e2 oEq (eV 2) (eF (eLst aN))))
     (sSet 2 (eF (eLst (aC (eV 5) aN))))
     sNil)
    (sSeq (sSet 8 (eCall F_first_wrong (aC (eV 2) aN)))
    (sSeq (sSet 9 (eK .non))
    (sSeq (sSet 10 (eK .non))
    (sSeq (sSet 11 (eK .non))
    sTail)))))))))))))
noncomputable def F_law : List D → Option D := runD 1 13 g_law
noncomputable abbrev st_law : Stmt := top 19
noncomputable abbrev N_law : List Str := ["_law_script", "_law_some", "_law_signs_here", "_law_number", "_law_at", "_law_more", "_law_kind", "_law_depth", "_law_due", "_law_kept", "_law_place", "_law_found", "e"]
theorem sc_law : FnScope N_law ["_law_script"] (defScope st_law) := ⟨rfl, rfl, rfl, by decide +kernel, rfl, by decide +kernel, by decide +kernel⟩
theorem ok_law {P : Program} {w : World} {K : PySem.W.Frag} {mg : Str → Option Value} {base : Heap} {f : Addr} {fd : FuncData} (F : Fun K "law" "law" st_law f fd) (z_len : mg "len" = none) (z_range : mg "range" = none) (h_names : Ok1 P w K mg base "_law_names" 9 (spO K F_names)) (h_signs : Ok1 P w K mg base "_law_signs" 9 (spO K F_signs)) (h_cells : Ok1 P w K mg base "_law_cells" 9 (spO K F_cells)) (h_mix : Ok1 P w K mg base "_law_mix" 9 (spF K F_mix)) (h_cell_at : Ok1 P w K mg base "_law_cell_at" 9 (spF K F_cell_at)) (h_first_wrong : Ok1 P w K mg base "_law_first_wrong" 9 (spF K F_first_wrong)) (h_whole : Ok1 P w K mg base "_law_whole" 9 (spF K F_whole)) (z_isinstance : mg "isinstance" = none) (z_tuple : mg "tuple" = none) {C fI fS fO : Addr} {fdS fdO : FuncData} (M : XMk K C fI) (A7 : XAsk K mg C) (xg : XGet K C "at") (FS : FnOk P w K mg base (CX1 P w) 3 fS fdS ["signs"] (spStump K C)) (hmS : mg "stump" = some (.ref fS)) (hkS : PySem.W.keepIn K (.ref fS) = true) (hbS : Binds K fdS ["signs"] []) (FO : FnOk P w K mg base CX0 2 fO fdO ["_law_error", "_law_which"] (spOnly C)) (hmO : mg "_law_only" = some (.ref fO)) (hkO : PySem.W.keepIn K (.ref fO) = true) (hbO : Binds K fdO ["_law_error", "_law_which"] []) : FnOk P w K mg base CX0 10 f fd ["_law_script"] (spLaw K F_law) :=
  okDX F (own := []) (own' := []) (g := g_law) sc_law (by decide) fun cdv A outer s H E hr B hX =>
    (dss_cons (ds_set (i := 1) sc_law.nd rfl (by first | exact Or.inl rfl | exact Or.inr rfl) (df (de_callO h_names hr rfl (da_cons (dv (pv 0)) da_nil))))
    (dss_cons (ds_set (i := 2) sc_law.nd rfl (by first | exact Or.inl rfl | exact Or.inr rfl) (df (de_callO h_signs hr rfl (da_cons (df (de_callO h_cells hr rfl (da_cons (dv (pv 0)) (da_cons de_int (da_cons de_int da_nil))))) (da_cons (dv (pv 1)) da_nil)))))
    (dss_cons (ds_set (i := 3) sc_law.nd rfl (by first | exact Or.inl rfl | exact Or.inr rfl) (de_call h_mix hr rfl (da_cons (de_call h_cell_at hr rfl (da_cons (dv (pv 0)) (da_cons de_int da_nil))) (da_cons de_int da_nil))))
    (dss_cons (ds_set (i := 4) sc_law.nd rfl (by first | exact Or.inl rfl | exact Or.inr rfl) (de_op od_mod (dq (dv (pv 3))) (dq (de_op od_add (dq (de_len rfl z_len (dq (dv (pv 2))))) (dq de_int)))))
    (dss_cons (ds_set (i := 5) sc_law.nd rfl (by first | exact Or.inl rfl | exact Or.inr rfl) (de_ix (dq (df (de_lst (da_cons (de_tup (da_cons de_str da_nil)) (da_cons (de_tup (da_cons de_str (da_cons de_str da_nil))) (da_cons (de_tup (da_cons de_str (da_cons de_str da_nil))) da_nil)))))) (dq (de_op od_mod (dq (de_op od_fdiv (dq (dv (pv 3))) (dq de_int))) (dq de_int)))))
    (dss_cons (ds_set (i := 6) sc_law.nd rfl (by first | exact Or.inl rfl | exact Or.inr rfl) (de_op od_mod (dq (de_call h_cell_at hr rfl (da_cons (dv (pv 0)) (da_cons de_int da_nil)))) (dq de_int)))
    (dss_cons (ds_if (dt_cmp (od_eq hr) (dq (dv (pv 6))) (dq de_int) (nomark _))
     (dss_one (ds_set (i := 4) sc_law.nd rfl (by first | exact Or.inl rfl | exact Or.inr rfl) de_int))
     dss_nil)
    (dss_cons (ds_if (dt_cmp od_lt (dq (dv (pv 6))) (dq de_int) (nomark _))
     (dss_one (ds_set (i := 2) sc_law.nd rfl (by first | exact Or.inl rfl | exact Or.inr rfl) (de_op od_add (dq (de_op od_add (dq (df (de_slL (dq (dv (pv 2))) dpo_none (dpo_some (dq (dv (pv 4))))))) (dq (df (de_lst (da_cons (dv (pv 5)) da_nil)))))) (dq (df (de_slL (dq (dv (pv 2))) (dpo_some (dq (dv (pv 4)))) dpo_none))))))
     (dss_cons (ds_set (i := 7) sc_law.nd rfl (by first | exact Or.inl rfl | exact Or.inr rfl) (de_op od_sub (dq (de_len rfl z_len (dq (df (de_lc (own' := []) (N := [("_law_one" : Str)]) (src := [none]) (blk_mk (outer := defScope st_law) (oN := N_law) rfl (by decide +kernel) rfl rfl) rfl (di_list (dv (pv 2))) (ag_name 0) (by decide) (hte_name 0) (fun C s H ex => ⟨pg_name (i := 0) (show ([("_law_one" : Str)] : List Str).Nodup by decide +kernel) rfl (by first | exact Or.inl rfl | exact Or.inr rfl), (dts_one (dt_cmp (od_eq hr) (dq (de_ix (dq (dv (pv 0))) (dq de_int))) (dq de_str) (nomark _))), (dv (pv 0))⟩)))))) (dq (de_len rfl z_len (dq (df (de_lc (own' := []) (N := [("_law_one" : Str)]) (src := [none]) (blk_mk (outer := defScope st_law) (oN := N_law) rfl (by decide +kernel) rfl rfl) rfl (di_list (dv (pv 2))) (ag_name 0) (by decide) (hte_name 0) (fun C s H ex => ⟨pg_name (i := 0) (show ([("_law_one" : Str)] : List Str).Nodup by decide +kernel) rfl (by first | exact Or.inl rfl | exact Or.inr rfl), (dts_one (dt_cmp (od_eq hr) (dq (de_ix (dq (dv (pv 0))) (dq de_int))) (dq de_str) (nomark _))), (dv (pv 0))⟩))))))))
      (dss_one (ds_set (i := 2) sc_law.nd rfl (by first | exact Or.inl rfl | exact Or.inr rfl) (de_op od_add (dq (de_op od_add (dq (dv (pv 2))) (dq (df (de_lc (own' := []) (N := [("_law_k" : Str)]) (src := [none]) (blk_mk (outer := defScope st_law) (oN := N_law) rfl (by decide +kernel) rfl rfl) rfl (di_range1 rfl z_range (dq (dv (pv 7)))) (ag_name 0) (by decide) (hte_name 0) (fun C s H ex => ⟨pg_name (i := 0) (show ([("_law_k" : Str)] : List Str).Nodup by decide +kernel) rfl (by first | exact Or.inl rfl | exact Or.inr rfl), dts_nil, (de_tup (da_cons de_str da_nil))⟩)))))) (dq (de_op od_mul (dq (df (de_lst (da_cons (dv (pv 5)) da_nil)))) (dq (de_op od_mod (dq (de_call h_cell_at hr rfl (da_cons (dv (pv 0)) (da_cons de_int da_nil)))) (dq de_int))))))))))
    (dss_cons (ds_if (dt_cmp (od_eq hr) (dq (dv (pv 2))) (dq (df (de_lst da_nil))) (nomark _))
     (dss_one (ds_set (i := 2) sc_law.nd rfl (by first | exact Or.inl rfl | exact Or.inr rfl) (df (de_lst (da_cons (dv (pv 5)) da_nil)))))
     dss_nil)
    (dss_cons (ds_set (i := 8) sc_law.nd rfl (by first | exact Or.inl rfl | exact Or.inr rfl) (de_call h_first_wrong hr rfl (da_cons (dv (pv 2)) da_nil)))
    (dss_cons (ds_set (i := 9) sc_law.nd rfl (by first | exact Or.inl rfl | exact Or.inr rfl) de_non)
    (dss_cons (ds_set (i := 10) sc_law.nd rfl (by first | exact Or.inl rfl | exact Or.inr rfl) de_non)
    (dss_cons (ds_set (i := 11) sc_law.nd rfl (by first | exact Or.inl rfl | exact Or.inr rfl) de_non)
    (by
      refine PSs.imp (t := tTail K B C) ?_ fun D' σ H' h => tail_of hX xg h
      exact (pss_cons (ps_try (k := 9) (L := s.heap.objs.size) (FS.mono (by decide)) hr rfl hmS hkS hbS (pa_cons (pv 2) pa_nil) sc_law.nd rfl (by first | exact Or.inl rfl | exact Or.inr rfl) rfl rfl M rfl A7.m1 rfl rfl (fun a => pss_cons (ps_set (i := 9) sc_law.nd rfl (by first | exact Or.inl rfl | exact Or.inr rfl) (pv 12)) (pss_one (ps_set (i := 10) sc_law.nd rfl (by first | exact Or.inl rfl | exact Or.inr rfl) (pe_xget (pv 12) rfl)))))
      (pss_cons (ps_if (dt_cmp (own := []) od_isN (dq (dv (pv 8))) (dq de_non) (nomark _))
       (dss_one (ds_ret (B := B) (oL := []) (own := []) (own1 := []) (de_and (de_cmp od_isN (dq (dv (pv 9))) (dq de_non) (nomark _)) (de_one (de_isinst (T := "tuple") (by decide) rfl z_isinstance rfl z_tuple (by decide +kernel) (dq (dv (pv 11))))))))
       pss_nil)
      (pss_one (ps_ret (pe_and (pe_call (FO.mono (by decide)) hr rfl hmO hkO hbO .nil pass0 (pa_cons (pv 9) (pa_cons pe_int pa_nil))) (pe_and (de_call h_whole hr rfl (da_cons (dv (pv 10)) da_nil)) (pe_one (de_cmp (od_eq hr) (dq (dv (pv 10))) (dq (dv (pv 8))) (nomark _)))))))))))))))))))))))
end K03
end
noncomputable section
set_option maxRecDepth 100000
set_option maxHeartbeats 4000000
namespace K03
open PySem L2
theorem mulR {i j : Int} (h : -(2 ^ 64) < j ∧ j < 2 ^ 64) : oMul (.int i) (.int j) = some (.int (i * j)) := by simp only [oMul]; rw [if_pos (.inr h)]
theorem mulL {i j : Int} (h : -(2 ^ 64) < i ∧ i < 2 ^ 64) : oMul (.int i) (.int j) = some (.int (i * j)) := by simp only [oMul]; rw [if_pos (.inl h)]
theorem modR {i j : Int} (h : 0 < j) : oMod (.int i) (.int j) = some (.int (i % j)) := by simp only [oMod]; rw [if_pos h]
theorem fdivR {i j : Int} (h : 0 < j ∧ j < 2 ^ 64) : oFdiv (.int i) (.int j) = some (.int (i / j)) := by simp only [oFdiv]; rw [if_pos h]
theorem addI {i j : Int} : oAdd (.int i) (.int j) = some (.int (i + j)) := rfl
theorem subI {i j : Int} : oSub (.int i) (.int j) = some (.int (i - j)) := rfl
theorem eqI {i j : Int} : oEq (.int i) (.int j) = some (.bl (i == j)) := rfl
theorem eqB {i j : Bool} : oEq (.bl i) (.bl j) = some (.bl (i == j)) := rfl
theorem eqS {i j : Str} : oEq (.str i) (.str j) = some (.bl (i == j)) := rfl
theorem neI {i j : Int} : oNe (.int i) (.int j) = some (.bl (!(i == j))) := rfl
theorem neS {i j : Str} : oNe (.str i) (.str j) = some (.bl (!(i == j))) := rfl
theorem ltI {i j : Int} : oLt (.int i) (.int j) = some (.bl (decide (i < j))) := rfl
theorem gtI {i j : Int} : oGt (.int i) (.int j) = some (.bl (decide (j < i))) := rfl
theorem ixL {xs : List D} {i : Int} : oIx (.lst xs) (.int i) = atI xs i := rfl
theorem ixT {xs : List D} {i : Int} : oIx (.tup xs) (.int i) = atI xs i := rfl
theorem lenL {xs : List D} : oLen [.lst xs] = some (.int xs.length) := rfl
theorem lenT {xs : List D} : oLen [.tup xs] = some (.int xs.length) := rfl
local macro_rules | `(tactic| walk_at "v") => `(tactic| simp only [runD, runO, startD, sSeq, sSet, sSetO, sRet, sRetF, sRetO, sIf, sNil, sFor, sApp, sItem, lstAt, e2, eV, eK, eF, eLst, eTup, eCall, fCall, aC, aN, tB1, tAndD, tOrD, tNotD, fLC, iL, iE, iR1, iR2, pN, pS, fSl, srcρ,
  List.length_cons, List.length_nil, List.map_cons, List.map_nil, List.cons_append, List.nil_append, List.replicate, List.getElem?_cons_zero, List.getElem?_cons_succ, List.getElem?_nil, Option.join_some, Option.join_none, Option.bind_some, Option.map_some, Option.getD_some, addI, subI, eqI, eqB, eqS, neI, neS, ltI, gtI, ixL, ixT, lenL, lenT,
  List.set_cons_zero, List.set_cons_succ, if_true, if_false, Bool.false_eq_true, outD, outO, Nat.reduceAdd, Nat.reduceSub, Nat.reduceLeDiff])
noncomputable def mixN (c t : Int) : Int := (c % 2147483647 + t * t * 7919 + 104729) * 48271 % 2147483647
noncomputable def mixZ (c t : Int) : Int := (mixN c t * mixN c t + 69621 * t) % 2147483629
theorem mix_eq (c t : Int) (h0 : 0 ≤ t) (h1 : t ≤ 100000) : F_mix [.int c, .int t] = some (.int (mixZ c t)) := by
  have hn := Int.emod_nonneg ((c % 2147483647 + t * t * 7919 + 104729) * 48271) (show (2147483647 : Int) ≠ 0 by decide)
  have hl := Int.emod_lt_of_pos ((c % 2147483647 + t * t * 7919 + 104729) * 48271) (show (0 : Int) < 2147483647 by decide)
  unfold F_mix g_mix mixZ
  walk_at "v"
  rw [modR (by decide), mulR ⟨by omega, by omega⟩]
  walk_at "v"
  rw [mulR ⟨by decide, by decide⟩]
  walk_at "v"
  rw [mulR ⟨by decide, by decide⟩]
  walk_at "v"
  rw [modR (by decide)]
  walk_at "v"
  rw [mulR (j := (c % 2147483647 + t * t * 7919 + 104729) * 48271 % 2147483647) ⟨by omega, by omega⟩, mulR (j := t) ⟨by omega, by omega⟩]
  walk_at "v"
  rw [modR (by decide)]
  rfl
theorem mixZ_ge (c t : Int) : 0 ≤ mixZ c t ∧ mixZ c t < 2147483629 := ⟨Int.emod_nonneg _ (by decide), Int.emod_lt_of_pos _ (by decide)⟩
end K03
end
noncomputable section
set_option maxRecDepth 100000
set_option maxHeartbeats 4000000
namespace K03
open PySem L2
local macro_rules | `(tactic| walk_at "v") => `(tactic| simp only [runD, runO, startD, sSeq, sSet, sSetO, sRet, sRetF, sRetO, sIf, sNil, sFor, sApp, sItem, lstAt, e2, eV, eK, eF, eLst, eTup, eCall, fCall, aC, aN, tB1, tAndD, tOrD, tNotD, fLC, iL, iE, iR1, iR2, pN, pS, fSl, srcρ,
  List.length_cons, List.length_nil, List.map_cons, List.map_nil, List.cons_append, List.nil_append, List.replicate, List.getElem?_cons_zero, List.getElem?_cons_succ, List.getElem?_nil, Option.join_some, Option.join_none, Option.bind_some, Option.map_some, Option.getD_some, addI, subI, eqI, eqB, eqS, neI, neS, ltI, gtI, ixL, ixT, lenL, lenT,
  List.set_cons_zero, List.set_cons_succ, if_true, if_false, Bool.false_eq_true, outD, outO, Nat.reduceAdd, Nat.reduceSub, Nat.reduceLeDiff])
theorem int_of_mem {xs : List Int} {j : Nat} {d : D} (h : (xs.map D.int)[j]? = some d) : ∃ c, xs[j]? = some c ∧ d = .int c := by
  rw [List.getElem?_map] at h
  cases e : xs[j]? with
  | none => rw [e] at h; cases h
  | some c => rw [e] at h; cases h; exact ⟨c, rfl, rfl⟩
theorem set_map_int (xs : List Int) (n : Nat) (v : Int) : (xs.map D.int).set n (.int v) = (xs.set n v).map D.int := by rw [List.map_set]
theorem cells_ok (ns : List Int) (hns : ns.length ≤ 63) (turn most : Int) (t0 : 0 ≤ turn) (t1 : turn ≤ 1000) (m0 : 1 ≤ most) (m1 : most ≤ 100) : ∃ xs : List Int, F_cells [.scr ns, .int turn, .int most] = some (xs.map D.int) ∧ 1 ≤ xs.length ∧ (xs.length : Int) ≤ most := by
  have hcl : (cut ns none (some 63)).length ≤ 63 := Nat.le_trans (cut_le _ _ _) hns
  generalize hcs : cut ns none (some 63) ++ [turn] = cs
  have hcs1 : 1 ≤ cs.length := by rw [← hcs]; simp
  have hcs2 : cs.length ≤ 64 := by rw [← hcs]; simp; omega
  have e1 : oAdd (.lst ((cut ns none (some 63)).map D.int)) (.lst [.int turn]) = some (.lst (cs.map D.int)) := by
    simp only [oAdd]
    rw [if_pos (by simp [bigE_eq]; omega), ← hcs]; simp
  obtain ⟨c0, ec0⟩ := atI_int (xs := cs) (z := 0) (by decide) (by omega)
  unfold F_cells g_cells
  walk_at "v"
  rw [e1]
  walk_at "v"
  rw [ec0]
  walk_at "v"
  rw [fdivR ⟨by decide, by decide⟩]
  walk_at "v"
  rw [modR (by decide)]
  walk_at "v"
  by_cases hb : (c0 / 50000 % 2 == 1) = true
  · rw [hb]
    walk_at "v"
    have hz : (cs.map D.int).length ≤ bigE := by simp [bigE_eq]; omega
    rw [if_pos hz]
    rw [lc_all (h := fun d => match d with | .int i => .int (i / 100000) | d => d) (fun d hd => by
      obtain ⟨i, _, rfl⟩ := List.mem_map.mp hd
      exact ⟨_, rfl, by walk_at "v"; rw [fdivR ⟨by decide, by decide⟩]⟩)]
    have el : (cs.map D.int).map (fun d => match d with | .int i => .int (i / 100000) | d => d) = (cs.map (· / 100000)).map D.int := by simp
    rw [el]
    walk_at "v"
    rw [if_pos (show -(2 ^ 62) ≤ turn + most + 1 ∧ turn + most + 1 < 2 ^ 62 from ⟨by omega, by omega⟩)]
    walk_at "v"
    have hl0 : (cs.map (· / 100000)).length = cs.length := by simp
    have hrl : (rngD 0 (turn + most + 1).toNat).length = (turn + most + 1).toNat := rngD_len _ _
    obtain ⟨ρ', ef, ⟨fs, ls, v6, v7, rfl, hfs, hls⟩⟩ := for_inv0 (τ := gN 6) (g := b_cells_1) (ds := rngD 0 (turn + most + 1).toNat) (fun i ρ => ∃ (fs ls : List Int) (v6 v7 : Option D), ρ = [some (.scr ns), some (.int turn), some (.int most), some (.lst (cs.map D.int)), some (.lst (fs.map D.int)), some (.lst (ls.map D.int)), v6, v7, none, none, none] ∧ fs.length = i ∧ ls.length = cs.length)
      (ρ := [some (.scr ns), some (.int turn), some (.int most), some (.lst (cs.map D.int)), some (.lst []), some (.lst ((cs.map (· / 100000)).map D.int)), none, none, none, none, none]) ⟨[], cs.map (· / 100000), none, none, rfl, rfl, hl0⟩ (by
      rintro j d ρ hd ⟨fs, ls, v6, v7, rfl, hfs, hls⟩
      obtain ⟨hj, rfl⟩ := rngD_get hd
      have hlp : (0 : Int) < (ls.length : Int) := by omega
      have k0 := Int.emod_nonneg (0 + (j : Int)) (show (ls.length : Int) ≠ 0 by omega)
      have k1 := Int.emod_lt_of_pos (0 + (j : Int)) hlp
      obtain ⟨v, ev⟩ := atI_int (xs := ls) k0 k1
      refine ⟨_, [some (.scr ns), some (.int turn), some (.int most), some (.lst (cs.map D.int)), some (.lst ((fs ++ [v % 2147483587]).map D.int)), some (.lst ((ls.set ((0 + (j : Int)) % (ls.length : Int)).toNat (v / 2147483587)).map D.int)), some (.int (0 + (j : Int))), some (.int ((0 + (j : Int)) % (ls.length : Int))), none, none, none], rfl, ?_, ⟨_, _, _, _, rfl, by simp [hfs], by simp [hls]⟩⟩
      unfold b_cells_1
      walk_at "v"
      rw [List.length_map, modR hlp]
      walk_at "v"
      rw [ev]
      walk_at "v"
      rw [modR (by decide)]
      walk_at "v"
      rw [if_pos (by rw [List.length_map, bigE_eq]; omega)]
      walk_at "v"
      rw [ev]
      walk_at "v"
      rw [fdivR ⟨by decide, by decide⟩]
      walk_at "v"
      rw [List.length_map, ixN_pos k0 k1]
      walk_at "v"
      rw [set_map_int]
      simp)
    rw [ef]
    walk_at "v"
    rw [hrl] at hfs
    rw [cut_from _ t0]
    have hdl : ((fs.map D.int).drop turn.toNat).length = most.toNat + 1 := by simp [hfs]; omega
    rw [← List.map_drop]
    obtain ⟨v, ev⟩ := atI_int (xs := fs.drop turn.toNat) (z := most) (by omega) (by simp [hfs]; omega)
    rw [ev]
    walk_at "v"
    rw [modR (by omega)]
    walk_at "v"
    have k0 := Int.emod_nonneg v (show most ≠ 0 by omega)
    have k1 := Int.emod_lt_of_pos v (show 0 < most by omega)
    rw [cut_to _ (by omega), ← List.map_take]
    refine ⟨_, rfl, ?_, ?_⟩
    · simp [hfs]; omega
    · simp [hfs]; omega
  · have hb' : (c0 / 50000 % 2 == 1) = false := by simpa using hb
    rw [hb']
    walk_at "v"
    obtain ⟨ρ', ef, ⟨num, v6, v9, rfl, hn0, hn1⟩⟩ := for_inv0 (τ := gN2 6 9) (g := b_cells_2) (ds := enumD (cs.map D.int)) (fun i ρ => ∃ (num : Int) (v6 v9 : Option D), ρ = [some (.scr ns), some (.int turn), some (.int most), some (.lst (cs.map D.int)), some (.lst []), none, v6, none, some (.int num), v9, none] ∧ 0 ≤ num ∧ num < 2147483629)
      (ρ := [some (.scr ns), some (.int turn), some (.int most), some (.lst (cs.map D.int)), some (.lst []), none, none, none, some (.int 0), none, none]) ⟨0, none, none, rfl, by decide, by decide⟩ (by
      rintro j d ρ hd ⟨num, v6, v9, rfl, hn0, hn1⟩
      obtain ⟨x, hx, rfl⟩ := enumD_get hd
      obtain ⟨c, hc, rfl⟩ := int_of_mem hx
      have hj : j < cs.length := (List.getElem?_eq_some_iff.mp hc).1
      refine ⟨_, [some (.scr ns), some (.int turn), some (.int most), some (.lst (cs.map D.int)), some (.lst []), none, some (.int j), none, some (.int ((num * 31 + mixZ c ((j : Int) + turn)) % 2147483629)), some (.int c), none], rfl, ?_, ⟨_, _, _, rfl, Int.emod_nonneg _ (by decide), Int.emod_lt_of_pos _ (by decide)⟩⟩
      unfold b_cells_2
      walk_at "v"
      rw [mulR ⟨by decide, by decide⟩]
      walk_at "v"
      rw [mix_eq _ _ (by omega) (by omega)]
      walk_at "v"
      rw [modR (by decide)]
      walk_at "v")
    rw [ef]
    walk_at "v"
    rw [fdivR ⟨by decide, by decide⟩]
    walk_at "v"
    rw [modR (by omega)]
    walk_at "v"
    have k0 := Int.emod_nonneg (num / 1009) (show most ≠ 0 by omega)
    have k1 := Int.emod_lt_of_pos (num / 1009) (show 0 < most by omega)
    rw [if_pos (show -(2 ^ 62) ≤ 1 + num / 1009 % most ∧ 1 + num / 1009 % most < 2 ^ 62 from ⟨by omega, by omega⟩)]
    walk_at "v"
    obtain ⟨ρ', ef, ⟨fs, v6, v10, rfl, hfs⟩⟩ := for_inv0 (τ := gN 6) (g := b_cells_3) (ds := rngD 0 (1 + num / 1009 % most).toNat) (fun i ρ => ∃ (fs : List Int) (v6' v10 : Option D), ρ = [some (.scr ns), some (.int turn), some (.int most), some (.lst (cs.map D.int)), some (.lst (fs.map D.int)), none, v6', none, some (.int num), v9, v10] ∧ fs.length = i)
      (ρ := [some (.scr ns), some (.int turn), some (.int most), some (.lst (cs.map D.int)), some (.lst []), none, v6, none, some (.int num), v9, none]) ⟨[], v6, none, rfl, rfl⟩ (by
      rintro j d ρ hd ⟨fs, v6', v10, rfl, hfs⟩
      obtain ⟨hj, rfl⟩ := rngD_get hd
      have hlp : (0 : Int) < (cs.length : Int) := by omega
      have q0 := Int.emod_nonneg (0 + (j : Int)) (show (cs.length : Int) ≠ 0 by omega)
      have q1 := Int.emod_lt_of_pos (0 + (j : Int)) hlp
      obtain ⟨v, ev⟩ := atI_int (xs := cs) q0 q1
      have r0 := Int.emod_nonneg num (show (1009 : Int) ≠ 0 by decide)
      have r1 := Int.emod_lt_of_pos num (show (0 : Int) < 1009 by decide)
      have mz := mixZ_ge v (num % 1009 + (0 + (j : Int)) + turn)
      refine ⟨_, [some (.scr ns), some (.int turn), some (.int most), some (.lst (cs.map D.int)), some (.lst ((fs ++ [(mixZ v (num % 1009 + (0 + (j : Int)) + turn) * mixZ v (num % 1009 + (0 + (j : Int)) + turn) + 7 * (0 + (j : Int))) % 2147483587]).map D.int)), none, some (.int (0 + (j : Int))), none, some (.int num), v9, some (.int (mixZ v (num % 1009 + (0 + (j : Int)) + turn)))], rfl, ?_, ⟨_, _, _, rfl, by simp [hfs]⟩⟩
      unfold b_cells_3
      walk_at "v"
      rw [List.length_map, modR hlp]
      walk_at "v"
      rw [ev]
      walk_at "v"
      rw [modR (by decide)]
      walk_at "v"
      rw [mix_eq _ _ (by omega) (by omega)]
      walk_at "v"
      rw [mulR ⟨by omega, by omega⟩]
      walk_at "v"
      rw [mulL ⟨by decide, by decide⟩]
      walk_at "v"
      rw [modR (by decide)]
      walk_at "v"
      rw [if_pos (by rw [List.length_map, bigE_eq]; omega)]
      simp)
    rw [ef]
    walk_at "v"
    rw [rngD_len] at hfs
    exact ⟨fs, rfl, by omega, by omega⟩
end K03
end
noncomputable section
set_option maxRecDepth 100000
set_option maxHeartbeats 4000000
namespace K03
open PySem L2
local macro_rules | `(tactic| walk_at "v") => `(tactic| simp only [runD, runO, startD, sSeq, sSet, sSetO, sRet, sRetF, sRetO, sIf, sNil, sFor, sApp, sItem, lstAt, e2, eV, eK, eF, eLst, eTup, eCall, fCall, aC, aN, tB1, tAndD, tOrD, tNotD, fLC, iL, iE, iR1, iR2, pN, pS, fSl, eSlS, iS, srcρ,
  List.length_cons, List.length_nil, List.map_cons, List.map_nil, List.cons_append, List.nil_append, List.replicate, List.getElem?_cons_zero, List.getElem?_cons_succ, List.getElem?_nil, Option.join_some, Option.join_none, Option.bind_some, Option.map_some, Option.getD_some, addI, subI, eqI, eqB, eqS, neI, neS, ltI, gtI, ixL, ixT, lenL, lenT,
  List.set_cons_zero, List.set_cons_succ, if_true, if_false, Bool.false_eq_true, outD, outO, Nat.reduceAdd, Nat.reduceSub, Nat.reduceLeDiff])
theorem slS_eq {x : Str} {l h : Option Int} (hx : x.length ≤ bigE) : (match D.str x with | .str x => if x.length ≤ bigE then some (D.str (Txt.slice x l h)) else none | _ => none) = some (.str (Txt.slice x l h)) := by simp [hx]
theorem lenS {x : Str} (h : x.length ≤ bigE) : oLen [.str x] = some (.int x.length) := by simp [oLen, h]
theorem addS {x y : Str} (h : x.length + y.length ≤ bigE) : oAdd (.str x) (.str y) = some (.str (x ++ y)) := by simp [oAdd, h]
theorem names_ok (ns : List Int) (hns : ns.length ≤ 63) : ∃ nms : List Str, F_names [.scr ns] = some (nms.map D.str) ∧ nms.length = 5 := by
  obtain ⟨xs, ex, h1, h2⟩ := cells_ok ns hns 40 1 (by decide) (by decide) (by decide) (by decide)
  obtain ⟨c, ec⟩ := atI_int (xs := xs) (z := 0) (by decide) (by omega)
  have hlit : (Str.ofString "abcdefabcde").length ≤ bigE := by decide +kernel
  have hlit2 : (Str.ofString "abcdefabcde").length ≤ 11 := by decide +kernel
  have hm : (Str.ofString "mnopq").cps.all (· < 128) = true := by decide +kernel
  have hm5 : (Str.ofString "mnopq").cps.toList.length = 5 := by decide +kernel
  unfold F_names g_names
  walk_at "v"
  rw [ex]
  walk_at "v"
  rw [ec]
  walk_at "v"
  rw [modR (by decide)]
  walk_at "v"
  rw [if_pos hlit]
  walk_at "v"
  have hst := Txt.slice_le (Str.ofString "abcdefabcde") none (some (c % 12))
  generalize Txt.slice (Str.ofString "abcdefabcde") none (some (c % 12)) = stem at hst
  have hsb : stem.length ≤ bigE := by rw [bigE_eq]; omega
  rw [fdivR ⟨by decide, by decide⟩, lenS hsb]
  walk_at "v"
  rw [modR (by omega)]
  walk_at "v"
  generalize c / 12 % ((stem.length : Int) + 1) = at_
  rw [if_pos hm]
  walk_at "v"
  rw [if_pos (by simp [signsD, hm5, bigE_eq])]
  rw [lc_all (h := fun d => match d with | .str z => .str ((Txt.slice stem none (some at_) ++ z) ++ Txt.slice stem (some at_) none) | d => d) (fun d hd => by
    obtain ⟨i, _, rfl⟩ := List.mem_map.mp hd
    refine ⟨_, rfl, ?_⟩
    have s1 := Txt.slice_le stem none (some at_)
    have s2 := Txt.slice_le stem (some at_) none
    have l1 : (⟨#[i]⟩ : Str).length = 1 := rfl
    walk_at "v"
    rw [if_pos hsb]
    walk_at "v"
    rw [addS (by rw [l1, bigE_eq]; omega)]
    walk_at "v"
    rw [if_pos hsb]
    walk_at "v"
    rw [addS (by
      have : (Txt.slice stem none (some at_) ++ (⟨#[i]⟩ : Str)).length = (Txt.slice stem none (some at_)).length + 1 := by
        show ((Txt.slice stem none (some at_)).cps ++ #[i]).size = _
        simp; rfl
      rw [this, bigE_eq]; omega)])]
  walk_at "v"
  refine ⟨(Str.ofString "mnopq").cps.toList.map fun i => (Txt.slice stem none (some at_) ++ ⟨#[i]⟩) ++ Txt.slice stem (some at_) none, ?_, by rw [List.length_map]; exact hm5⟩
  simp [signsD]
end K03
end
noncomputable section
set_option maxRecDepth 100000
set_option maxHeartbeats 4000000
namespace K03
open PySem L2
local macro_rules | `(tactic| walk_at "v") => `(tactic| simp only [runD, runO, startD, sSeq, sSet, sSetO, sRet, sRetF, sRetO, sIf, sNil, sFor, sApp, sItem, lstAt, e2, eV, eK, eF, eLst, eTup, eCall, fCall, aC, aN, tB1, tAndD, tOrD, tNotD, fLC, iL, iE, iR1, iR2, pN, pS, fSl, eSlS, iS, srcρ,
  List.length_cons, List.length_nil, List.map_cons, List.map_nil, List.cons_append, List.nil_append, List.replicate, List.getElem?_cons_zero, List.getElem?_cons_succ, List.getElem?_nil, Option.join_some, Option.join_none, Option.bind_some, Option.map_some, Option.getD_some, addI, subI, eqI, eqB, eqS, neI, neS, ltI, gtI, ixL, ixT, lenL, lenT,
  List.set_cons_zero, List.set_cons_succ, if_true, if_false, Bool.false_eq_true, outD, outO, Nat.reduceAdd, Nat.reduceSub, Nat.reduceLeDiff])
theorem eqNil {ss : List D} (h : ∀ s ∈ ss, isSign s) : oEq (.lst ss) (.lst []) = some (.bl ss.isEmpty) := by
  have : dOk (.lst ss) 180 = true := by simp only [dOk]; rw [show 180 - 1 = 178 + 1 by rfl, signs_dOks h]; rfl
  simp only [oEq]
  rw [if_pos (by rw [this]; rfl)]
  cases ss <;> rfl
noncomputable def tSigns : DG := (sSeq (sSet 9 (e2 oMod (e2 oAdd (eV 8) (e2 oMul (e2 oMul (eV 5) (e2 oMod (eV 6) (eK (.int 2)))) (eK (.int 5)))) (eK (.int 7))))
      (sIf (tOrD (tB1 (e2 oEq (eV 3) (eF (eLst aN)))) (tAndD (tB1 (e2 oLt (eV 9) (eK (.int 3)))) (tB1 (e2 oGt (eV 4) (eK (.int 0))))))
       (sSeq (sApp 3 (eTup (aC (eK (.str (Str.ofString "open"))) (aC (e2 oIx (eV 1) (e2 oMod (e2 oMod (e2 oFdiv (eV 8) (eK (.int 7))) (eK (.int 11))) (eK (.int 5)))) aN))))
        (sSet 4 (e2 oAdd (eV 4) (eK (.int 1)))))
       (sIf (tAndD (tB1 (e2 oLt (eV 9) (eK (.int 5)))) (tB1 (e2 oGt (eV 4) (eK (.int 0)))))
         (sApp 3 (eTup (aC (eK (.str (Str.ofString "text"))) (aC (e2 oIx (eV 2) (e2 oMod (e2 oFdiv (eV 8) (eK (.int 7))) (eK (.int 5)))) aN))))
         (sIf (tOrD (tB1 (e2 oGt (eV 4) (eK (.int 1)))) (tAndD (tB1 (e2 oEq (eV 4) (eK (.int 1)))) (tB1 (e2 oEq (e2 oMod (e2 oFdiv (eV 8) (eK (.int 7))) (eK (.int 6))) (eK (.int 0))))))
           (sSeq (sApp 3 (eTup (aC (eK (.str (Str.ofString "close"))) aN)))
            (sSet 4 (e2 oSub (eV 4) (eK (.int 1)))))
           sNil))))
theorem b_signs_eq : b_signs_1 = sSeq (sSet 8 (eV 7)) (sSeq (sIf (tB1 (e2 oEq (eV 6) (eK (.int 0)))) (sSet 5 (e2 oMod (e2 oFdiv (eV 8) (eK (.int 7))) (eK (.int 3)))) sNil) tSigns) := rfl
theorem tSigns_ok {a0 : D} {nms txs : List Str} {ss : List D} {dep lean j c : Int} {i : Nat} {v9 : Option D} (hn : nms.length = 5) (ht : txs.length = 5) (hs : SG ss dep) (hl : ss.length ≤ i) (hi : i ≤ 1000) (hlean : 0 ≤ lean ∧ lean < 3) (hj : 0 ≤ j) :
    ∃ ss' dep' v9', tSigns [some a0, some (.lst (nms.map D.str)), some (.lst (txs.map D.str)), some (.lst ss), some (.int dep), some (.int lean), some (.int j), some (.int c), some (.int c), v9] =
      some (.nx [some a0, some (.lst (nms.map D.str)), some (.lst (txs.map D.str)), some (.lst ss'), some (.int dep'), some (.int lean), some (.int j), some (.int c), some (.int c), v9']) ∧ SG ss' dep' ∧ ss'.length ≤ i + 1 := by
  have q0 := Int.emod_nonneg (c / 7 % 11) (show (5 : Int) ≠ 0 by decide)
  have q1 := Int.emod_lt_of_pos (c / 7 % 11) (show (0 : Int) < 5 by decide)
  have r0 := Int.emod_nonneg (c / 7) (show (5 : Int) ≠ 0 by decide)
  have r1 := Int.emod_lt_of_pos (c / 7) (show (0 : Int) < 5 by decide)
  obtain ⟨nm, en, _⟩ := atI_str (xs := nms) q0 (by omega)
  obtain ⟨tx, et, _⟩ := atI_str (xs := txs) r0 (by omega)
  have hbig : ss.length < bigE := by rw [bigE_eq]; omega
  unfold tSigns
  walk_at "v"
  rw [modR (by decide)]
  walk_at "v"
  rw [mulL ⟨by omega, by omega⟩]
  walk_at "v"
  rw [mulR ⟨by decide, by decide⟩]
  walk_at "v"
  rw [modR (by decide)]
  walk_at "v"
  rw [eqNil hs.sg]
  walk_at "v"
  generalize (c + lean * (j % 2) * 5) % 7 = kind
  have k1 : ∃ b, (if ss.isEmpty = true then some true else if decide (kind < 3) = true then some (decide (0 < dep)) else some false) = some b ∧ (b = true → ss = [] ∨ 0 < dep) := by
    split
    · rename_i h; exact ⟨true, rfl, fun _ => .inl (by simpa using h)⟩
    · split
      · exact ⟨_, rfl, fun h => .inr (of_decide_eq_true h)⟩
      · exact ⟨false, rfl, fun h => by cases h⟩
  obtain ⟨b1, e1, f1⟩ := k1
  rw [e1]
  cases b1 with
  | true =>
    walk_at "v"
    rw [fdivR ⟨by decide, by decide⟩]
    walk_at "v"
    rw [modR (by decide)]
    walk_at "v"
    rw [modR (by decide)]
    walk_at "v"
    rw [en]
    walk_at "v"
    rw [if_pos hbig]
    walk_at "v"
    exact ⟨_, _, _, rfl, hs.open nm (f1 rfl), by simp; omega⟩
  | false =>
    walk_at "v"
    have k2 : ∃ b, (if decide (kind < 5) = true then some (decide (0 < dep)) else some false) = some b ∧ (b = true → 0 < dep) := by
      split
      · exact ⟨_, rfl, fun h => of_decide_eq_true h⟩
      · exact ⟨false, rfl, fun h => by cases h⟩
    obtain ⟨b2, e2, f2⟩ := k2
    rw [e2]
    cases b2 with
    | true =>
      walk_at "v"
      rw [fdivR ⟨by decide, by decide⟩]
      walk_at "v"
      rw [modR (by decide)]
      walk_at "v"
      rw [et]
      walk_at "v"
      rw [if_pos hbig]
      exact ⟨_, _, _, rfl, hs.text tx (f2 rfl), by simp; omega⟩
    | false =>
      walk_at "v"
      rw [fdivR ⟨by decide, by decide⟩]
      walk_at "v"
      rw [modR (by decide)]
      walk_at "v"
      have k3 : ∃ b, (if decide (1 < dep) = true then some true else if (dep == 1) = true then some (c / 7 % 6 == 0) else some false) = some b ∧ (b = true → 0 < dep) := by
        split
        · rename_i h; exact ⟨true, rfl, fun _ => by have := of_decide_eq_true h; omega⟩
        · split
          · rename_i h; exact ⟨_, rfl, fun _ => by have := eq_of_beq h; omega⟩
          · exact ⟨false, rfl, fun h => by cases h⟩
      obtain ⟨b3, e3, f3⟩ := k3
      rw [e3]
      cases b3 with
      | true =>
        walk_at "v"
        rw [if_pos hbig]
        walk_at "v"
        exact ⟨_, _, _, rfl, hs.close (f3 rfl), by simp; omega⟩
      | false =>
        walk_at "v"
        exact ⟨_, _, _, rfl, hs, by omega⟩
theorem signs_ok (xs : List Int) (nms : List Str) (hx : xs.length ≤ 500) (hn : nms.length = 5) : ∃ ss dep, F_signs [.lst (xs.map D.int), .lst (nms.map D.str)] = some ss ∧ SG ss dep ∧ ss.length ≤ xs.length := by
  unfold F_signs g_signs
  walk_at "v"
  have ht : ([Str.ofString "x", Str.ofString "", Str.ofString "y x", Str.ofString "\"", Str.ofString "[a]"] : List Str).length = 5 := rfl
  have em : [D.str (Str.ofString "x"), D.str (Str.ofString ""), D.str (Str.ofString "y x"), D.str (Str.ofString "\""), D.str (Str.ofString "[a]")] = ([Str.ofString "x", Str.ofString "", Str.ofString "y x", Str.ofString "\"", Str.ofString "[a]"] : List Str).map D.str := rfl
  rw [em]
  generalize ([Str.ofString "x", Str.ofString "", Str.ofString "y x", Str.ofString "\"", Str.ofString "[a]"] : List Str) = txs at ht
  obtain ⟨ρ', ef, ⟨ss, dep, lean, v6, v7, v8, v9, rfl, hs, hl, _⟩⟩ := for_inv0 (τ := gN2 6 7) (g := b_signs_1) (ds := enumD (xs.map D.int)) (fun i ρ => ∃ (ss : List D) (dep lean : Int) (v6 v7 v8 v9 : Option D), ρ = [some (.lst (xs.map D.int)), some (.lst (nms.map D.str)), some (.lst (txs.map D.str)), some (.lst ss), some (.int dep), some (.int lean), v6, v7, v8, v9] ∧ SG ss dep ∧ ss.length ≤ i ∧ (0 ≤ lean ∧ lean < 3))
    (ρ := [some (.lst (xs.map D.int)), some (.lst (nms.map D.str)), some (.lst (txs.map D.str)), some (.lst []), some (.int 0), some (.int 0), none, none, none, none]) ⟨[], 0, 0, none, none, none, none, rfl, ⟨fun s h => (by cases h), ([], []), rfl, rfl, fun _ => rfl⟩, Nat.le_refl _, by decide, by decide⟩ (by
    rintro j d ρ hd ⟨ss, dep, lean, v6, v7, v8, v9, rfl, hs, hl, hle⟩
    obtain ⟨x, hx', rfl⟩ := enumD_get hd
    obtain ⟨c, hc, rfl⟩ := int_of_mem hx'
    have hj : j < xs.length := (List.getElem?_eq_some_iff.mp hc).1
    have m0 := Int.emod_nonneg (c / 7) (show (3 : Int) ≠ 0 by decide)
    have m1 := Int.emod_lt_of_pos (c / 7) (show (0 : Int) < 3 by decide)
    by_cases hj0 : ((j : Int) == 0) = true
    · obtain ⟨ss', dep', v9', e, hs', hl'⟩ := tSigns_ok (a0 := .lst (xs.map D.int)) (nms := nms) (txs := txs) (lean := c / 7 % 3) (j := (j : Int)) (c := c) (v9 := v9) hn ht hs hl (by omega) ⟨m0, m1⟩ (by omega)
      refine ⟨_, _, rfl, ?_, ⟨ss', dep', c / 7 % 3, some (.int j), some (.int c), some (.int c), v9', rfl, hs', hl', m0, m1⟩⟩
      rw [b_signs_eq]
      walk_at "v"
      rw [hj0]
      walk_at "v"
      rw [fdivR ⟨by decide, by decide⟩]
      walk_at "v"
      rw [modR (by decide)]
      walk_at "v"
      exact e
    · have hj0' : ((j : Int) == 0) = false := by simpa using hj0
      obtain ⟨ss', dep', v9', e, hs', hl'⟩ := tSigns_ok (a0 := .lst (xs.map D.int)) (nms := nms) (txs := txs) (lean := lean) (j := (j : Int)) (c := c) (v9 := v9) hn ht hs hl (by omega) hle (by omega)
      refine ⟨_, _, rfl, ?_, ⟨ss', dep', lean, some (.int j), some (.int c), some (.int c), v9', rfl, hs', hl', hle⟩⟩
      rw [b_signs_eq]
      walk_at "v"
      rw [hj0']
      walk_at "v"
      exact e)
  rw [ef]
  walk_at "v"
  rw [enumD_len, List.length_map] at hl
  exact ⟨ss, dep, rfl, hs, hl⟩
end K03
end
noncomputable section
set_option maxRecDepth 100000
set_option maxHeartbeats 4000000
namespace K03
open PySem L2
local macro_rules | `(tactic| walk_at "v") => `(tactic| simp only [runD, runO, startD, sSeq, sSet, sSetO, sRet, sRetF, sRetO, sIf, sNil, sFor, sApp, sItem, lstAt, e2, eV, eK, eF, eLst, eTup, eCall, fCall, aC, aN, tB1, tAndD, tOrD, tNotD, fLC, iL, iE, iR1, iR2, pN, pS, fSl, srcρ,
  List.length_cons, List.length_nil, List.map_cons, List.map_nil, List.cons_append, List.nil_append, List.replicate, List.getElem?_cons_zero, List.getElem?_cons_succ, List.getElem?_nil, Option.join_some, Option.join_none, Option.bind_some, Option.map_some, Option.getD_some, addI, subI, eqI, eqB, eqS, neI, neS, ltI, gtI, ixL, ixT, lenL, lenT,
  List.set_cons_zero, List.set_cons_succ, if_true, if_false, Bool.false_eq_true, outD, outO, Nat.reduceAdd, Nat.reduceSub, Nat.reduceLeDiff])
theorem for_first {τ : DTg} {g : DG} (I : Nat → DEnv → Prop) (R : Nat → D → Prop) : ∀ (ds : List D) (i : Nat) (ρ : DEnv), I i ρ → (∀ j d ρ, ds[j]? = some d → I (i + j) ρ → ∃ ρ1, τ d ρ = some ρ1 ∧ ((∃ ρ2, g ρ1 = some (.nx ρ2) ∧ I (i + j + 1) ρ2) ∨ (∃ r, g ρ1 = some (.rt r) ∧ R (i + j) r))) →
    (∃ ρ', forD τ g ds ρ = some (.nx ρ') ∧ I (i + ds.length) ρ') ∨ (∃ j r, j < ds.length ∧ forD τ g ds ρ = some (.rt r) ∧ R (i + j) r)
  | [], i, ρ, h, _ => .inl ⟨ρ, rfl, h⟩
  | d :: ds, i, ρ, h, st => by
    obtain ⟨ρ1, e1, q⟩ := st 0 d ρ rfl h
    rcases q with ⟨ρ2, e2, h2⟩ | ⟨r, e2, h2⟩
    · have := for_first I R ds (i + 1) ρ2 h2 (fun j d' ρ' hd hI => by
        have := st (j + 1) d' ρ' (by simpa using hd) (by rw [show i + (j + 1) = i + 1 + j by omega]; exact hI)
        rw [show i + (j + 1) = i + 1 + j by omega] at this
        exact this)
      have e : forD τ g (d :: ds) ρ = forD τ g ds ρ2 := by simp only [forD, e1, e2, Option.bind_some]
      rcases this with ⟨ρ', e3, h3⟩ | ⟨j, r, hj, e3, h3⟩
      · exact .inl ⟨ρ', by rw [e, e3], by rw [List.length_cons, show i + (ds.length + 1) = i + 1 + ds.length by omega]; exact h3⟩
      · exact .inr ⟨j + 1, r, by simpa using hj, by rw [e, e3], by rw [show i + (j + 1) = i + 1 + j by omega]; exact h3⟩
    · exact .inr ⟨0, r, by simp, by simp only [forD, e1, e2, Option.bind_some], h2⟩
theorem wrong_body {a : Option D} {dep j : Int} {k : Str} {r : List D} : b_first_wrong_1 [a, some (.int dep), some (.int j), some (.tup (.str k :: r))] =
    if dep = 0 ∧ (0 < j ∨ k ≠ sOpen) then some (.rt (.int j)) else some (.nx [a, some (.int (dep + 1 - 2 * (if k == sClose then 1 else 0) - (if k == sText then 1 else 0))), some (.int j), some (.tup (.str k :: r))]) := by
  have e0 : atI (D.str k :: r) 0 = some (.str k) := atI_nat (j := 0) rfl
  have ho : Str.ofString "open" = sOpen := rfl
  have hc : Str.ofString "close" = sClose := rfl
  have ht : Str.ofString "text" = sText := rfl
  have m2 : ∀ z : Int, oMul (.int 2) (.int z) = some (.int (2 * z)) := fun z => mulL ⟨by decide, by decide⟩
  have ek : e2 oIx (eV 3) (eK (.int 0)) [a, some (.int dep), some (.int j), some (.tup (.str k :: r))] = some (.str k) := by
    walk_at "v"
    exact e0
  have eS : sSet 1 (e2 oSub (e2 oSub (e2 oAdd (eV 1) (eK (.int 1))) (e2 oMul (eK (.int 2)) (eCall oIntB (aC (e2 oEq (e2 oIx (eV 3) (eK (.int 0))) (eK (.str (Str.ofString "close")))) aN)))) (eCall oIntB (aC (e2 oEq (e2 oIx (eV 3) (eK (.int 0))) (eK (.str (Str.ofString "text")))) aN))) [a, some (.int dep), some (.int j), some (.tup (.str k :: r))] = some (.nx [a, some (.int (dep + 1 - 2 * (if k == sClose then 1 else 0) - (if k == sText then 1 else 0))), some (.int j), some (.tup (.str k :: r))]) := by
    refine Eq.trans (sSet_eq (d := .int (dep + 1 - 2 * (if k == sClose then 1 else 0) - (if k == sText then 1 else 0))) ?_) rfl
    have c1 : eCall oIntB (aC (e2 oEq (e2 oIx (eV 3) (eK (.int 0))) (eK (.str (Str.ofString "close")))) aN) [a, some (.int dep), some (.int j), some (.tup (.str k :: r))] = some (.int (if k == sClose then 1 else 0)) := by
      simp only [eCall, aC, aN, Option.bind_some, Eq.trans (e2_eq (o := oEq) ek (show eK (.str (Str.ofString "close")) _ = some (.str sClose) from rfl)) eqS]
      rfl
    have c2 : eCall oIntB (aC (e2 oEq (e2 oIx (eV 3) (eK (.int 0))) (eK (.str (Str.ofString "text")))) aN) [a, some (.int dep), some (.int j), some (.tup (.str k :: r))] = some (.int (if k == sText then 1 else 0)) := by
      simp only [eCall, aC, aN, Option.bind_some, Eq.trans (e2_eq (o := oEq) ek (show eK (.str (Str.ofString "text")) _ = some (.str sText) from rfl)) eqS]
      rfl
    refine Eq.trans (e2_eq (Eq.trans (e2_eq (x := .int (dep + 1)) (y := .int (2 * (if k == sClose then 1 else 0))) rfl (Eq.trans (e2_eq (x := .int 2) rfl c1) (m2 _))) rfl) c2) rfl
  have eN : tB1 (e2 oNe (e2 oIx (eV 3) (eK (.int 0))) (eK (.str (Str.ofString "open")))) [a, some (.int dep), some (.int j), some (.tup (.str k :: r))] = some (!(k == sOpen)) := tB1_eq (Eq.trans (e2_eq (o := oNe) ek (show eK (.str (Str.ofString "open")) _ = some (.str sOpen) from rfl)) neS)
  have e1 : tB1 (e2 oEq (eV 1) (eK (.int 0))) [a, some (.int dep), some (.int j), some (.tup (.str k :: r))] = some (dep == 0) := rfl
  have e2' : tB1 (e2 oGt (eV 2) (eK (.int 0))) [a, some (.int dep), some (.int j), some (.tup (.str k :: r))] = some (decide (0 < j)) := rfl
  unfold b_first_wrong_1
  by_cases hc' : dep = 0 ∧ (0 < j ∨ k ≠ sOpen)
  · rw [if_pos hc']
    have et : tAndD (tB1 (e2 oEq (eV 1) (eK (.int 0)))) (tOrD (tB1 (e2 oGt (eV 2) (eK (.int 0)))) (tB1 (e2 oNe (e2 oIx (eV 3) (eK (.int 0))) (eK (.str (Str.ofString "open")))))) [a, some (.int dep), some (.int j), some (.tup (.str k :: r))] = some true := by
      simp only [tAndD, tOrD, e1, e2', eN, Option.bind_some]
      obtain ⟨h1, h2⟩ := hc'
      subst h1
      by_cases h3 : 0 < j
      · simp [h3]
      · have : (k == sOpen) = false := by simpa using h2.resolve_left h3
        simp [h3, this]
    simp only [sSeq]
    rw [sIf_t et]
    rfl
  · rw [if_neg hc']
    have et : tAndD (tB1 (e2 oEq (eV 1) (eK (.int 0)))) (tOrD (tB1 (e2 oGt (eV 2) (eK (.int 0)))) (tB1 (e2 oNe (e2 oIx (eV 3) (eK (.int 0))) (eK (.str (Str.ofString "open")))))) [a, some (.int dep), some (.int j), some (.tup (.str k :: r))] = some false := by
      simp only [tAndD, tOrD, e1, e2', eN, Option.bind_some]
      by_cases h1 : dep = 0
      · subst h1
        have h3 : ¬ 0 < j := fun h => hc' ⟨rfl, .inl h⟩
        have h4 : k = sOpen := Classical.byContradiction fun h => hc' ⟨rfl, .inr h⟩
        simp [h3, h4]
      · have : (dep == 0) = false := by simpa using h1
        simp [this]
    rw [sSeq_nx (Eq.trans (sIf_f et) rfl)]
    exact eS
noncomputable def Tops (z : Zs × List D) : Prop := ∀ d ∈ z.2, ∃ ds, d = .tup ds
theorem Tops.put {st : Zs} {L0 : List D} {nm : Str} {its : List D} (h : Tops (st, L0)) : Tops (zput (part nm its) st L0) := by
  cases st with
  | nil =>
    intro d hd
    have hd : d ∈ L0 ++ [part nm its] := hd
    rcases List.mem_append.mp hd with hd | hd
    · exact h d hd
    · exact ⟨_, List.mem_singleton.mp hd⟩
  | cons c st => obtain ⟨a, b⟩ := c; exact h
theorem Tops.step {z z' : Zs × List D} {s : D} (h : Tops z) (e : zstep z s = some z') : Tops z' := by
  rcases zstep_cases e with ⟨x, rfl, ho, rfl⟩ | ⟨x, rfl, hne, rfl⟩ | ⟨nm, its, r', rfl, hst, rfl⟩
  · exact h
  · obtain ⟨st, L0⟩ := z
    cases st with
    | nil => exact absurd rfl hne
    | cons c st => obtain ⟨a, b⟩ := c; exact h
  · exact Tops.put (st := r') (L0 := z.2) h
theorem closeUp_top : ∀ (st : Zs) (nm : Str) (its L0 : List D), (∀ d ∈ L0, ∃ ds, d = .tup ds) → ∃ ds, (closeUp (part nm its) st L0)[0]? = some (.tup ds)
  | [], nm, its, L0, h => by
    cases L0 with
    | nil => exact ⟨_, rfl⟩
    | cons d L0 =>
      obtain ⟨ds, rfl⟩ := h d List.mem_cons_self
      exact ⟨ds, rfl⟩
  | (n2, i2) :: st, nm, its, L0, h => closeUp_top st n2 (i2 ++ [part nm its]) L0 h
theorem zclose_top {z : Zs × List D} (h : Tops z) (hne : z.1 ≠ [] ∨ z.2 ≠ []) : ∃ ds, (zclose z.1 z.2)[0]? = some (.tup ds) := by
  obtain ⟨st, L0⟩ := z
  cases st with
  | nil =>
    cases L0 with
    | nil => rcases hne with h | h <;> exact absurd rfl h
    | cons d L0 =>
      obtain ⟨ds, rfl⟩ := h d List.mem_cons_self
      exact ⟨ds, rfl⟩
  | cons c st => obtain ⟨nm, its⟩ := c; exact closeUp_top st nm its L0 h
theorem zput_ne {d : D} {st : Zs} {L0 : List D} : (zput d st L0).1 ≠ [] ∨ (zput d st L0).2 ≠ [] := by
  cases st with
  | nil => exact .inr (by show L0 ++ [d] ≠ []; simp)
  | cons c st => obtain ⟨a, b⟩ := c; exact .inl (by show _ :: _ ≠ []; simp)
theorem zstep_ne {z z' : Zs × List D} {s : D} (e : zstep z s = some z') : z'.1 ≠ [] ∨ z'.2 ≠ [] := by
  rcases zstep_cases e with ⟨x, rfl, ho, rfl⟩ | ⟨x, rfl, hne, rfl⟩ | ⟨nm, its, r', rfl, hst, rfl⟩
  · exact .inl (by show _ :: _ ≠ []; simp)
  · exact zput_ne
  · exact zput_ne
end K03
end
noncomputable section
set_option maxRecDepth 100000
set_option maxHeartbeats 4000000
namespace K03
open PySem L2
local macro_rules | `(tactic| walk_at "v") => `(tactic| simp only [runD, runO, startD, sSeq, sSet, sSetO, sRet, sRetF, sRetO, sIf, sNil, sFor, sApp, sItem, lstAt, e2, eV, eK, eF, eLst, eTup, eCall, fCall, aC, aN, tB1, tAndD, tOrD, tNotD, fLC, iL, iE, iR1, iR2, pN, pS, fSl, srcρ,
  List.length_cons, List.length_nil, List.map_cons, List.map_nil, List.cons_append, List.nil_append, List.replicate, List.getElem?_cons_zero, List.getElem?_cons_succ, List.getElem?_nil, Option.join_some, Option.join_none, Option.bind_some, Option.map_some, Option.getD_some, addI, subI, eqI, eqB, eqS, neI, neS, ltI, gtI, ixL, ixT, lenL, lenT,
  List.set_cons_zero, List.set_cons_succ, if_true, if_false, Bool.false_eq_true, outD, outO, Nat.reduceAdd, Nat.reduceSub, Nat.reduceLeDiff])
theorem wrong_ok {ss : List D} (hs : ∀ s ∈ ss, isSign s) (hne : ss ≠ []) (hl : ss.length ≤ 1000) : ∃ due, F_first_wrong [.lst ss] = some due ∧ Good ss due := by
  have hz : ss.length ≤ 100000 := by omega
  have key := for_first (τ := gN2 2 3) (g := b_first_wrong_1) (fun i ρ => ∃ (z : Zs × List D) (v2 v3 : Option D), ρ = [some (.lst ss), some (.int z.1.length), v2, v3] ∧ zrun (ss.take i) ([], []) = some z ∧ Tops z ∧ (i = 0 → z = ([], [])) ∧ (0 < i → z.1 ≠ [] ∨ z.2 ≠ []))
    (fun i r => ∃ z s, r = .int i ∧ ss[i]? = some s ∧ zrun (ss.take i) ([], []) = some z ∧ zstep z s = none) (enumD ss) 0 [some (.lst ss), some (.int 0), none, none]
    ⟨([], []), none, none, rfl, rfl, fun d h => (by cases h), fun _ => rfl, fun h => absurd h (Nat.lt_irrefl _)⟩ (by
    rintro j d ρ hd ⟨z, v2, v3, rfl, hr, ht, h0, h1⟩
    obtain ⟨s, hsj, rfl⟩ := enumD_get hd
    rw [Nat.zero_add] at *
    have hsg := hs s (List.mem_of_getElem? hsj)
    refine ⟨[some (.lst ss), some (.int z.1.length), some (.int j), some s], rfl, ?_⟩
    have hrun : ∀ z', zstep z s = some z' → zrun (ss.take (j + 1)) ([], []) = some z' := fun z' e => by
      rw [List.take_add_one, hsj]
      show zrun (ss.take j ++ [s]) _ = _
      rw [zrun_snoc, hr]; exact e
    have go : ∀ (k : Str) (r : List D), s = .tup (.str k :: r) → (if ((z.1.length : Int) = 0 ∧ (0 < (j : Int) ∨ k ≠ sOpen)) then zstep z s = none else ∃ z', zstep z s = some z' ∧ (z'.1.length : Int) = z.1.length + 1 - 2 * (if k == sClose then 1 else 0) - (if k == sText then 1 else 0)) → (∃ ρ2, b_first_wrong_1 [some (.lst ss), some (.int z.1.length), some (.int j), some s] = some (.nx ρ2) ∧ ∃ (z : Zs × List D) (v2 v3 : Option D), ρ2 = [some (.lst ss), some (.int z.1.length), v2, v3] ∧ zrun (ss.take (j + 1)) ([], []) = some z ∧ Tops z ∧ (j + 1 = 0 → z = ([], [])) ∧ (0 < j + 1 → z.1 ≠ [] ∨ z.2 ≠ [])) ∨ (∃ r, b_first_wrong_1 [some (.lst ss), some (.int z.1.length), some (.int j), some s] = some (.rt r) ∧ ∃ z s, r = .int j ∧ ss[j]? = some s ∧ zrun (ss.take j) ([], []) = some z ∧ zstep z s = none) := fun k r es hstep => by
      rw [es, wrong_body]
      rw [es] at hstep hsj hrun
      split at hstep
      · rename_i hc
        rw [if_pos hc]
        exact .inr ⟨_, rfl, z, _, rfl, hsj, hr, hstep⟩
      · rename_i hc
        rw [if_neg hc]
        obtain ⟨z', e1, e2⟩ := hstep
        refine .inl ⟨_, rfl, z', _, _, by rw [e2], hrun z' e1, ht.step e1, fun h => absurd h (by omega), fun _ => zstep_ne e1⟩
    have len0 : (z.1.length : Int) = 0 ↔ z.1 = [] := by
      constructor
      · intro h; exact List.length_eq_zero_iff.mp (by omega)
      · intro h; rw [h]; rfl
    rcases hsg with ⟨x, rfl⟩ | ⟨x, rfl⟩ | rfl
    · refine go sOpen [.str x] rfl ?_
      have c1 : (sOpen == sClose) = false := by simpa using sOC
      have c2 : (sOpen == sText) = false := by simpa using sOT
      simp only [c1, c2, zstep, if_true]
      split
      · rename_i hc
        have hz1 := len0.mp hc.1
        have hj : 0 < j := by
          rcases hc.2 with h | h
          · omega
          · exact absurd rfl h
        have h2 : z.2 ≠ [] := (h1 hj).resolve_left (fun h => h hz1)
        rw [if_pos ⟨hz1, h2⟩]
      · rename_i hc
        have : ¬ (z.1 = [] ∧ z.2 ≠ []) := fun ⟨q1, q2⟩ => by
          refine hc ⟨len0.mpr q1, .inl ?_⟩
          rcases Nat.eq_zero_or_pos j with h | h
          · rw [h0 h] at q2; exact absurd rfl q2
          · omega
        rw [if_neg this]
        exact ⟨_, rfl, by simp⟩
    · refine go sText [.str x] rfl ?_
      have c1 : (sText == sClose) = false := by simpa using sTC
      have nto : ¬ sText = sOpen := fun z => sOT z.symm
      simp only [c1, zstep, nto, if_false, if_true, ne_eq, not_false_eq_true, or_true, and_true, BEq.rfl]
      split
      · rename_i hc
        rw [if_pos (len0.mp hc)]
      · rename_i hc
        rw [if_neg (fun h => hc (len0.mpr h))]
        exact ⟨_, rfl, by rw [zput_len]; simp⟩
    · refine go sClose [] rfl ?_
      have c2 : (sClose == sText) = false := by simpa using fun z => sTC z.symm
      have nco : ¬ sClose = sOpen := fun z => sOC z.symm
      simp only [c2, zstep, nco, if_true, ne_eq, not_false_eq_true, or_true, and_true, BEq.rfl]
      split
      · rename_i hc
        rw [len0.mp hc]
      · rename_i hc
        cases hz1 : z.1 with
        | nil => exact absurd (len0.mpr hz1) hc
        | cons c r =>
          obtain ⟨nm, its⟩ := c
          refine ⟨_, rfl, ?_⟩
          rw [zput_len]
          simp
          omega)
  rw [Nat.zero_add] at key
  have hlen : (enumD ss).length = ss.length := by simp [enumD]
  have e1 : F_first_wrong [.lst ss] = ((sSeq (sFor (iE (eV 0)) (gN2 2 3) b_first_wrong_1) (sRet (eK .non))) [some (.lst ss), some (.int 0), none, none]).bind outD := rfl
  rcases key with ⟨ρ', e2, z, v2, v3, rfl, hr, ht, _, hn⟩ | ⟨j, r, hj, e2, z, s, rfl, g1, g2, g3⟩
  · refine ⟨.non, ?_, hz, hs, .inl ?_⟩
    · rw [e1, sSeq_nx (ρ' := _) (show sFor (iE (eV 0)) (gN2 2 3) b_first_wrong_1 [some (.lst ss), some (.int 0), none, none] = _ from e2)]
      rfl
    · rw [hlen, List.take_length] at hr
      obtain ⟨ds, ed⟩ := zclose_top ht (hn (by rw [hlen]; exact List.length_pos_iff.mpr hne))
      exact ⟨z, ds, hr, ed, rfl⟩
  · rw [Nat.zero_add] at g1 g2 e2
    refine ⟨.int j, ?_, hz, hs, .inr ⟨j, z, s, g1, g2, g3, rfl⟩⟩
    rw [e1]
    simp only [sSeq]
    rw [show sFor (iE (eV 0)) (gN2 2 3) b_first_wrong_1 [some (.lst ss), some (.int 0), none, none] = _ from e2]
    rfl
end K03
end
noncomputable section
set_option maxRecDepth 100000
set_option maxHeartbeats 4000000
namespace K03
open PySem L2
local macro_rules | `(tactic| walk_at "v") => `(tactic| simp only [runD, runO, startD, sSeq, sSet, sSetO, sRet, sRetF, sRetO, sIf, sNil, sFor, sApp, sItem, lstAt, e2, eV, eK, eF, eLst, eTup, eCall, fCall, aC, aN, tB1, tAndD, tOrD, tNotD, fLC, iL, iE, iR1, iR2, pN, pS, fSl, srcρ,
  List.length_cons, List.length_nil, List.map_cons, List.map_nil, List.cons_append, List.nil_append, List.replicate, List.getElem?_cons_zero, List.getElem?_cons_succ, List.getElem?_nil, Option.join_some, Option.join_none, Option.bind_some, Option.map_some, Option.getD_some, addI, subI, eqI, eqB, eqS, neI, neS, ltI, gtI, ixL, ixT, lenL, lenT,
  List.set_cons_zero, List.set_cons_succ, if_true, if_false, Bool.false_eq_true, outD, outO, Nat.reduceAdd, Nat.reduceSub, Nat.reduceLeDiff])
theorem fil_ok (k : Str) {ss : List D} (h : ∀ s ∈ ss, isSign s) : lcD [none] (gN 0) (tB1 (e2 oEq (e2 oIx (eV 0) (eK (.int 0))) (eK (.str k)))) (eV 0) ss = some (ss.filter (headIs k)) := by
  have := lc_fil (ρ := [none]) (τ := gN 0) (ft := tB1 (e2 oEq (e2 oIx (eV 0) (eK (.int 0))) (eK (.str k)))) (fe := eV 0) (p := headIs k) (h := id) (ds := ss) fun d hd => ⟨[some d], rfl, by
    rcases h d hd with ⟨x, rfl⟩ | ⟨x, rfl⟩ | rfl <;> rfl, fun _ => rfl⟩
  rw [this, List.map_id]
theorem lcC {n : Nat} : lcD [none] (gN 0) tYes (eTup (aC (eK (.str (Str.ofString "close"))) aN)) (rngD 0 n) = some (List.replicate n sgC) := by
  rw [lc_all (h := fun _ => sgC) fun d _ => ⟨[some d], rfl, rfl⟩]
  rw [List.map_const', rngD_len]
theorem mem_cut {α : Type} {xs : List α} {l h : Option Int} {x : α} (m : x ∈ cut xs l h) : x ∈ xs := List.mem_of_mem_drop (List.mem_of_mem_take m)
theorem cell_ok (ns : List Int) (k : Nat) : ∃ c, F_cell_at [.scr ns, .int k] = some (.int c) := by
  show ∃ c, (g_cell_at [some (.scr ns), some (.int k)]).bind outD = _
  unfold g_cell_at
  by_cases h : k < ns.length
  · have ht : tB1 (e2 oLt (eV 1) (eCall oLen (aC (eV 0) aN))) [some (.scr ns), some (.int k)] = some true := by
      show some (decide ((k : Int) < (ns.length : Int))) = _
      rw [decide_eq_true (by omega)]
    refine ⟨ns[k], ?_⟩
    simp only [sSeq]
    rw [sIf_t ht]
    have : sRet (e2 oIx (eV 0) (eV 1)) [some (.scr ns), some (.int k)] = some (.rt (.int ns[k])) := by
      refine sRet_eq ?_
      show (atI ns (k : Int)).map D.int = _
      rw [atI_nat (List.getElem?_eq_getElem h)]; rfl
    rw [this]; rfl
  · have ht : tB1 (e2 oLt (eV 1) (eCall oLen (aC (eV 0) aN))) [some (.scr ns), some (.int k)] = some false := by
      show some (decide ((k : Int) < (ns.length : Int))) = _
      rw [decide_eq_false (by omega)]
    refine ⟨0, ?_⟩
    rw [sSeq_nx (Eq.trans (sIf_f ht) rfl)]
    rfl
theorem isSigns3 (j : Int) (h0 : 0 ≤ j) (h1 : j < 3) : ∃ m, atI [D.tup [.str (Str.ofString "close")], .tup [.str (Str.ofString "open"), .str (Str.ofString "a")], .tup [.str (Str.ofString "text"), .str (Str.ofString "x")]] j = some m ∧ isSign m := by
  obtain ⟨m, e, hm⟩ := atI_pos (xs := [D.tup [.str (Str.ofString "close")], .tup [.str (Str.ofString "open"), .str (Str.ofString "a")], .tup [.str (Str.ofString "text"), .str (Str.ofString "x")]]) h0 (by simpa using h1)
  refine ⟨m, e, ?_⟩
  simp only [List.mem_cons, List.not_mem_nil, or_false] at hm
  rcases hm with rfl | rfl | rfl
  · exact .inr (.inr rfl)
  · exact .inl ⟨_, rfl⟩
  · exact .inr (.inl ⟨_, rfl⟩)
theorem tail_true {ns : List Int} {nm : D} {ss : List D} {v3 v4 v5 v6 v7 v10 v11 v12 : Option D} {due : D} (h : Good ss due) : (sTail [some (.scr ns), some nm, some (.lst ss), v3, v4, v5, v6, v7, some due, some .non, v10, v11, v12]) = some (.rt (.bl true)) := by
  unfold sTail
  rw [if_pos ⟨ss, due, rfl, rfl, rfl, rfl, h⟩]
theorem law_true (ns : List Int) (hns : ns.length ≤ 63) : F_law [.scr ns] = some (.bl true) := by
  obtain ⟨nms, en, hn5⟩ := names_ok ns hns
  obtain ⟨xs, ex, h1, h2⟩ := cells_ok ns hns 500 40 (by decide) (by decide) (by decide) (by decide)
  obtain ⟨ss, dep, es, hs, hsl⟩ := signs_ok xs nms (by omega) hn5
  obtain ⟨c1, ec1⟩ := cell_ok ns 1
  obtain ⟨c0, ec0⟩ := cell_ok ns 0
  obtain ⟨c2, ec2⟩ := cell_ok ns 2
  have hl : ss.length ≤ 40 := by omega
  show (g_law [some (.scr ns), none, none, none, none, none, none, none, none, none, none, none, none]).bind outD = _
  unfold g_law
  rw [sSeq_nx (sSet_eq (d := .lst (nms.map D.str)) (eF_eq (by show (some [D.scr ns]).bind F_names = _; exact en)))]
  show ((sSeq _ _) [some (.scr ns), some (.lst (nms.map D.str)), none, none, none, none, none, none, none, none, none, none, none]).bind outD = _
  rw [sSeq_nx (sSet_eq (d := .lst ss) (eF_eq (by
    show (Option.bind (eF (fCall F_cells (aC (eV 0) (aC (eK (.int 500)) (aC (eK (.int 40)) aN)))) [some (.scr ns), some (.lst (nms.map D.str)), none, none, none, none, none, none, none, none, none, none, none]) fun x => some [x, .lst (nms.map D.str)]).bind F_signs = _
    rw [eF_eq (ds := xs.map D.int) (by show (some [D.scr ns, D.int 500, D.int 40]).bind F_cells = _; exact ex)]
    exact es)))]
  show ((sSeq _ _) [some (.scr ns), some (.lst (nms.map D.str)), some (.lst ss), none, none, none, none, none, none, none, none, none, none]).bind outD = _
  generalize D.lst (nms.map D.str) = nm
  rw [sSeq_nx (sSet_eq (d := .int (mixZ c1 5)) (by
    show (Option.bind ((some [D.scr ns, D.int 1]).bind F_cell_at) fun x => some [x, .int 5]).bind F_mix = _
    rw [Option.bind_some, show F_cell_at [.scr ns, .int 1] = _ from ec1]
    exact mix_eq c1 5 (by decide) (by decide)))]
  show ((sSeq _ _) [some (.scr ns), some nm, some (.lst ss), some (.int (mixZ c1 5)), none, none, none, none, none, none, none, none, none]).bind outD = _
  have hn0 := (mixZ_ge c1 5).1
  generalize mixZ c1 5 = n at hn0
  have ha0 := Int.emod_nonneg n (show ((ss.length : Int) + 1) ≠ 0 by omega)
  have ha1 := Int.emod_lt_of_pos n (show (0 : Int) < (ss.length : Int) + 1 by omega)
  rw [sSeq_nx (sSet_eq (d := .int (n % ((ss.length : Int) + 1))) (Eq.trans (e2_eq (x := .int n) (y := .int ((ss.length : Int) + 1)) rfl rfl) (modR (by omega))))]
  show ((sSeq _ _) [some (.scr ns), some nm, some (.lst ss), some (.int n), some (.int (n % ((ss.length : Int) + 1))), none, none, none, none, none, none, none, none]).bind outD = _
  generalize n % ((ss.length : Int) + 1) = at0 at ha0 ha1
  have q0 := Int.emod_nonneg (n / 100) (show (3 : Int) ≠ 0 by decide)
  have q1 := Int.emod_lt_of_pos (n / 100) (show (0 : Int) < 3 by decide)
  obtain ⟨m, em, hm⟩ := isSigns3 (n / 100 % 3) q0 q1
  rw [sSeq_nx (sSet_eq (d := m) (Eq.trans (e2_eq (x := .lst _) (y := .int (n / 100 % 3)) rfl (Eq.trans (e2_eq (x := .int (n / 100)) (y := .int 3) (Eq.trans (e2_eq (x := .int n) (y := .int 100) rfl rfl) (fdivR ⟨by decide, by decide⟩)) rfl) (modR (by decide)))) (Eq.trans ixL em)))]
  show ((sSeq _ _) [some (.scr ns), some nm, some (.lst ss), some (.int n), some (.int at0), some m, none, none, none, none, none, none, none]).bind outD = _
  rw [sSeq_nx (sSet_eq (d := .int (c0 % 4)) (Eq.trans (e2_eq (x := .int c0) (y := .int 4) (by show (some [D.scr ns, D.int 0]).bind F_cell_at = _; exact ec0) rfl) (modR (by decide))))]
  show ((sSeq _ _) [some (.scr ns), some nm, some (.lst ss), some (.int n), some (.int at0), some m, some (.int (c0 % 4)), none, none, none, none, none, none]).bind outD = _
  generalize c0 % 4 = kd
  have k1 : ∃ at1, sIf (tB1 (e2 oEq (eV 6) (eK (.int 0)))) (sSet 4 (eK (.int 0))) sNil [some (.scr ns), some nm, some (.lst ss), some (.int n), some (.int at0), some m, some (.int kd), none, none, none, none, none, none] = some (.nx [some (.scr ns), some nm, some (.lst ss), some (.int n), some (.int at1), some m, some (.int kd), none, none, none, none, none, none]) := by
    by_cases hk : kd = 0
    · exact ⟨0, by rw [sIf_t (by show some (kd == 0) = _; simp [hk])]; rfl⟩
    · exact ⟨at0, by rw [sIf_f (by show some (kd == 0) = _; simp [hk])]; rfl⟩
  obtain ⟨at1, e1⟩ := k1
  rw [sSeq_nx e1]
  have k2 : ∃ ss2 v7, (∀ s ∈ ss2, isSign s) ∧ ss2.length ≤ 900 ∧ sIf (tB1 (e2 oLt (eV 6) (eK (.int 3))))
     (sSet 2 (e2 oAdd (e2 oAdd (eF (fSl (eV 2) pN (pS (eV 4)))) (eF (eLst (aC (eV 5) aN)))) (eF (fSl (eV 2) (pS (eV 4)) pN))))
     (sSeq (sSet 7 (e2 oSub (eCall oLen (aC (eF (fLC (iL (eV 2)) [none] (gN 0) (tB1 (e2 oEq (e2 oIx (eV 0) (eK (.int 0))) (eK (.str (Str.ofString "open"))))) (eV 0))) aN)) (eCall oLen (aC (eF (fLC (iL (eV 2)) [none] (gN 0) (tB1 (e2 oEq (e2 oIx (eV 0) (eK (.int 0))) (eK (.str (Str.ofString "close"))))) (eV 0))) aN))))
      (sSet 2 (e2 oAdd (e2 oAdd (eV 2) (eF (fLC (iR1 (eV 7)) [none] (gN 0) tYes (eTup (aC (eK (.str (Str.ofString "close"))) aN))))) (e2 oMul (eF (eLst (aC (eV 5) aN))) (e2 oMod (eCall F_cell_at (aC (eV 0) (aC (eK (.int 2)) aN))) (eK (.int 3))))))) [some (.scr ns), some nm, some (.lst ss), some (.int n), some (.int at1), some m, some (.int kd), none, none, none, none, none, none] = some (.nx [some (.scr ns), some nm, some (.lst ss2), some (.int n), some (.int at1), some m, some (.int kd), v7, none, none, none, none, none]) := by
    by_cases hk : kd < 3
    · have l1 := cut_le ss none (some at1)
      have l2 := cut_le ss (some at1) none
      refine ⟨cut ss none (some at1) ++ [m] ++ cut ss (some at1) none, none, fun s h => ?_, by simp; omega, ?_⟩
      · rcases List.mem_append.mp h with h | h
        · rcases List.mem_append.mp h with h | h
          · exact hs.sg s (mem_cut h)
          · rw [List.mem_singleton.mp h]; exact hm
        · exact hs.sg s (mem_cut h)
      · rw [sIf_t (by show some (decide (kd < 3)) = _; simp [hk])]
        refine Eq.trans (sSet_eq (d := .lst (cut ss none (some at1) ++ [m] ++ cut ss (some at1) none)) (Eq.trans (e2_eq (x := .lst (cut ss none (some at1) ++ [m])) (y := .lst (cut ss (some at1) none)) (Eq.trans (e2_eq (x := .lst (cut ss none (some at1))) (y := .lst [m]) rfl rfl) ?_) rfl) ?_)) ?_
        · simp only [oAdd]; rw [if_pos (by rw [bigE_eq]; simp; omega)]
        · simp only [oAdd]; rw [if_pos (by rw [bigE_eq]; simp; omega)]
        · rfl
    · have hb : ss.length ≤ bigE := by rw [bigE_eq]; omega
      have f1 : ∀ (k : Str), eCall oLen (aC (eF (fLC (iL (eV 2)) [none] (gN 0) (tB1 (e2 oEq (e2 oIx (eV 0) (eK (.int 0))) (eK (.str k)))) (eV 0))) aN) [some (.scr ns), some nm, some (.lst ss), some (.int n), some (.int at1), some m, some (.int kd), none, none, none, none, none, none] = some (.int (cnt k ss)) := fun k => by
        have := fLC_eq (f := iL (eV 2)) (src := [none]) (τ := gN 0) (ft := tB1 (e2 oEq (e2 oIx (eV 0) (eK (.int 0))) (eK (.str k)))) (fe := eV 0) (ρ := [some (.scr ns), some nm, some (.lst ss), some (.int n), some (.int at1), some m, some (.int kd), none, none, none, none, none, none]) (ds := ss) rfl hb (fil_ok k hs.sg)
        simp only [eCall, aC, aN, eF_eq this, Option.bind_some]
        rfl
      have b1 : (cnt sOpen ss : Int) ≤ 40 := by have : cnt sOpen ss ≤ ss.length := List.length_filter_le _ _; omega
      have b2 : (cnt sClose ss : Int) ≤ 40 := by have : cnt sClose ss ≤ ss.length := List.length_filter_le _ _; omega
      have b0 : 0 ≤ (cnt sClose ss : Int) := Int.natCast_nonneg _
      rw [sIf_f (by show some (decide (kd < 3)) = _; simp [hk])]
      rw [sSeq_nx (sSet_eq (d := .int ((cnt sOpen ss : Int) - (cnt sClose ss : Int))) (Eq.trans (e2_eq (f1 (Str.ofString "open")) (f1 (Str.ofString "close"))) rfl))]
      have d1 : (cnt sOpen ss : Int) - (cnt sClose ss : Int) ≤ 40 := by omega
      have d0 : -40 ≤ (cnt sOpen ss : Int) - (cnt sClose ss : Int) := by have := Int.natCast_nonneg (cnt sOpen ss); omega
      generalize (cnt sOpen ss : Int) - (cnt sClose ss : Int) = dp at d0 d1
      have r0 := Int.emod_nonneg c2 (show (3 : Int) ≠ 0 by decide)
      have r1 := Int.emod_lt_of_pos c2 (show (0 : Int) < 3 by decide)
      have emod : e2 oMod (eCall F_cell_at (aC (eV 0) (aC (eK (.int 2)) aN))) (eK (.int 3)) [some (.scr ns), some nm, some (.lst ss), some (.int n), some (.int at1), some m, some (.int kd), some (.int dp), none, none, none, none, none] = some (.int (c2 % 3)) :=
        Eq.trans (e2_eq (x := .int c2) (y := .int 3) (by show (some [D.scr ns, D.int 2]).bind F_cell_at = _; exact ec2) rfl) (modR (by decide))
      generalize c2 % 3 = rp at r0 r1 emod
      have elc : fLC (iR1 (eV 7)) [none] (gN 0) tYes (eTup (aC (eK (.str (Str.ofString "close"))) aN)) [some (.scr ns), some nm, some (.lst ss), some (.int n), some (.int at1), some m, some (.int kd), some (.int dp), none, none, none, none, none] = some (List.replicate dp.toNat sgC) :=
        fLC_eq (ds := rngD 0 dp.toNat) (iR1_eq (z := dp) rfl ⟨Int.le_trans (by decide) d0, Int.lt_of_le_of_lt d1 (by decide)⟩) (by rw [rngD_len, bigE_eq]; omega) (by show lcD [none] _ _ _ _ = _; exact lcC)
      have lrp : (List.replicate rp.toNat [m]).flatten.length ≤ 3 := by simp; omega
      have emul : oMul (.lst [m]) (.int rp) = some (.lst (List.replicate rp.toNat [m]).flatten) := by
        simp only [oMul]
        rw [if_pos ⟨⟨Int.le_trans (by decide) r0, Int.lt_trans r1 (by decide)⟩, by rw [bigE_eq]; simp; omega⟩]
      have mrp : ∀ s ∈ (List.replicate rp.toNat [m]).flatten, s = m := fun s h => by
        obtain ⟨l, hl, hsl⟩ := List.mem_flatten.mp h
        rw [(List.mem_replicate.mp hl).2] at hsl
        exact List.mem_singleton.mp hsl
      generalize (List.replicate rp.toNat [m]).flatten = reps at lrp emul mrp
      have lcl : (List.replicate dp.toNat sgC).length ≤ 40 := by simp; omega
      have mcl : ∀ s ∈ List.replicate dp.toNat sgC, s = sgC := fun s h => (List.mem_replicate.mp h).2
      generalize List.replicate dp.toNat sgC = cls at lcl elc mcl
      refine ⟨ss ++ cls ++ reps, some (.int dp), fun s h => ?_, by simp; omega, ?_⟩
      · rcases List.mem_append.mp h with h | h
        · rcases List.mem_append.mp h with h | h
          · exact hs.sg s h
          · rw [mcl s h]; exact .inr (.inr rfl)
        · rw [mrp s h]; exact hm
      · refine Eq.trans (sSet_eq (d := .lst (ss ++ cls ++ reps)) (Eq.trans (e2_eq (x := .lst (ss ++ cls)) (y := .lst reps) (Eq.trans (e2_eq (x := .lst ss) (y := .lst cls) rfl (eF_eq elc)) ?_) (Eq.trans (e2_eq (x := .lst [m]) (y := .int rp) rfl emod) emul)) ?_)) ?_
        · simp only [oAdd]; rw [if_pos (by rw [bigE_eq]; omega)]
        · simp only [oAdd]; rw [if_pos (by rw [bigE_eq]; simp; omega)]
        · rfl
  obtain ⟨ss2, v7, hs2, hl2, e2⟩ := k2
  rw [sSeq_nx e2]
  have k3 : ∃ ss3, ss3 ≠ [] ∧ (∀ s ∈ ss3, isSign s) ∧ ss3.length ≤ 900 ∧ sIf (tB1 (L2.e2 oEq (eV 2) (eF (eLst aN)))) (sSet 2 (eF (eLst (aC (eV 5) aN)))) sNil [some (.scr ns), some nm, some (.lst ss2), some (.int n), some (.int at1), some m, some (.int kd), v7, none, none, none, none, none] = some (.nx [some (.scr ns), some nm, some (.lst ss3), some (.int n), some (.int at1), some m, some (.int kd), v7, none, none, none, none, none]) := by
    have tt : tB1 (L2.e2 oEq (eV 2) (eF (eLst aN))) [some (.scr ns), some nm, some (.lst ss2), some (.int n), some (.int at1), some m, some (.int kd), v7, none, none, none, none, none] = some ss2.isEmpty := by
      walk_at "v"
      rw [eqNil hs2]
      walk_at "v"
    cases ss2 with
    | nil => exact ⟨[m], by simp, fun s h => by rw [List.mem_singleton.mp h]; exact hm, by simp, by rw [sIf_t tt]; rfl⟩
    | cons s t => exact ⟨_, by simp, hs2, hl2, by rw [sIf_f tt]; rfl⟩
  obtain ⟨ss3, hne3, hs3, hl3, e3⟩ := k3
  rw [sSeq_nx e3]
  obtain ⟨due, ed, hg⟩ := wrong_ok hs3 hne3 (by omega)
  rw [sSeq_nx (sSet_eq (d := due) (by show (some [D.lst ss3]).bind F_first_wrong = _; exact ed))]
  rw [sSeq_nx (sSet_eq (d := .non) rfl), sSeq_nx (sSet_eq (d := .non) rfl), sSeq_nx (sSet_eq (d := .non) rfl)]
  show (sTail [some (.scr ns), some nm, some (.lst ss3), some (.int n), some (.int at1), some m, some (.int kd), v7, some due, some .non, some .non, some .non, none]).bind outD = _
  rw [tail_true hg]
  rfl
end K03
end
noncomputable section
set_option maxRecDepth 100000
set_option maxHeartbeats 4000000
namespace K03
open PySem L2 PySem.W
noncomputable def excInI (K : Frag) (C fI : Addr) : Bool := match K.lookup C with
  | some ⟨.type "type", _, .cls cd, sl⟩ => (match cd.mro, sl.toList with
    | .ref C' :: bm, [_, _, _, _, some (.builtin n), _] => C' == C && n == "ValueError.__new__" && !cd.hasDel && cd.hasDict && tailIn K [.type "ValueError", .type "Exception", .type "BaseException", .type "object"] bm && bm.contains (.type "BaseException") && nsOkIn K cd.ns && nsIn K cd.ns "__init__" == some (some (.ref fI))
    | _, _ => false)
  | _ => false
theorem ns_in {K : Frag} {N : Addr} {x : Str} {v : Value} (e : nsOkIn K N = true) (q : nsIn K N x = some (some v)) : ∃ mN : Str → Option Value, (∀ h : Heap, K.In h → h.Ns N mN) ∧ mN x = some v := by
  unfold nsOkIn at e
  split at e
  · rename_i c d es n sl ho
    refine ⟨nsFind es, fun h X => ⟨_, es, n, X _ _ ho, rfl, fun en hen => ?_, fun _ => rfl⟩, ?_⟩
    · have := Array.all_eq_true'.mp e en hen
      split at this
      · rename_i s t hk; exact ⟨s, t, hk⟩
      · cases this
    · unfold nsIn at q
      rw [ho] at q
      simp only at q
      split at q
      · rename_i en he
        cases q
        unfold nsFind findBy
        rw [← Array.find?_toList]
        rw [he]; rfl
      · split at q <;> cases q
  · cases e
theorem xmk_of {K : Frag} {C fI : Addr} (q : excInI K C fI = true) (fn : typeIn K (.ref fI) = some (.type "function")) (kp : keepIn K (.ref C) = true) : XMk K C fI := by
  refine ⟨?_, fn, kp⟩
  unfold excInI at q
  split at q
  · rename_i dd cd sl ho
    split at q
    · rename_i C' bm k0 k1 k2 k3 n k5 hm hs
      simp only [Bool.and_eq_true, beq_iff_eq, Bool.not_eq_true'] at q
      obtain ⟨⟨⟨⟨⟨⟨⟨rfl, rfl⟩, hdel⟩, hdct⟩, ht⟩, hbm⟩, hok⟩, hni⟩ := q
      obtain ⟨nm, bs, mro, ns, qn, hd, sn, sub, ab, col, del⟩ := cd
      dsimp only at hm hdel hok hni hdct
      subst hm hdel hdct
      have hsl : sl = #[k0, k1, k2, k3, some (.builtin "ValueError.__new__"), k5] := by
        obtain ⟨l⟩ := sl
        simp only at hs
        rw [hs]
      subst hsl
      obtain ⟨mN, h1, h2⟩ := ns_in hok hni
      exact ⟨nm, qn, ns, bs, bm, _, sn, sub, ab, col, dd, k0, k1, k2, k3, k5, _, _, _, _, _, _, _, mN, PySem.F.excBase_ValueError, by decide, PySem.F.excBase_ValueError, hbm, ho, fun h X => ⟨tail_of_in X ht, h1 h X⟩, h2⟩
    · cases q
  · cases q
theorem law_sp3 {F : List D → Option D} {m : Nat} (hF : ∀ ns : List Int, ns.length ≤ m → F [.scr ns] = some (.bl true)) (K : Frag) (H : Hp) (a : Addr) (ns : List Int) (hl : ns.length ≤ m) (hO : Only H) (hS : SqL K H a (ns.map V.int)) :
    spLaw K F [.ref a] H (fun v _ => v = .bl true) fun _ _ _ => False :=
  ⟨fun b φ e => (by
    rcases hO b with z | ⟨o, xs, z⟩
    · rw [z] at e; cases e
    · rw [z] at e; cases e), law_sp hF K H a ns hl hO hS⟩
end K03
end
set_option maxRecDepth 100000
set_option maxHeartbeats 4000000
namespace K03
open PySem L2
theorem all_mk {l : PySem.W.OpenLaw} {w : World} {K : PySem.W.Frag} {h : Heap} {mg : Str → Option Value} {fa : Addr} {C_NoSign : Addr}
    {C_NoText : Addr}
    {C_NoPart : Addr}
    {C_Taken : Addr}
    {C_Late : Addr}
    {C_SiftError : Addr}
    {f1 : Addr} {od1 an1 : Option Addr} {sl1 : Array (Option Value)} {oc1 kV1 dc1 pm1 cd1 ct1 : Value}
    {f2 : Addr} {od2 an2 : Option Addr} {sl2 : Array (Option Value)} {oc2 kV2 dc2 pm2 cd2 ct2 : Value}
    {f3 : Addr} {od3 an3 : Option Addr} {sl3 : Array (Option Value)} {oc3 kV3 dc3 pm3 cd3 ct3 : Value}
    {f4 : Addr} {od4 an4 : Option Addr} {sl4 : Array (Option Value)} {oc4 kV4 dc4 pm4 cd4 ct4 : Value}
    {f5 : Addr} {od5 an5 : Option Addr} {sl5 : Array (Option Value)} {oc5 kV5 dc5 pm5 cd5 ct5 : Value}
    {f6 : Addr} {od6 an6 : Option Addr} {sl6 : Array (Option Value)} {oc6 kV6 dc6 pm6 cd6 ct6 : Value}
    {f7 : Addr} {od7 an7 : Option Addr} {sl7 : Array (Option Value)} {oc7 kV7 dc7 pm7 cd7 ct7 : Value}
    {f8 : Addr} {od8 an8 : Option Addr} {sl8 : Array (Option Value)} {oc8 kV8 dc8 pm8 cd8 ct8 : Value}
    {f9 : Addr} {od9 an9 : Option Addr} {sl9 : Array (Option Value)} {oc9 kV9 dc9 pm9 cd9 ct9 : Value}
    {f10 : Addr} {od10 an10 : Option Addr} {sl10 : Array (Option Value)} {oc10 kV10 dc10 pm10 cd10 ct10 : Value}
    {f11 : Addr} {od11 an11 : Option Addr} {sl11 : Array (Option Value)} {oc11 kV11 dc11 pm11 cd11 ct11 : Value}
    {f12 : Addr} {od12 an12 : Option Addr} {sl12 : Array (Option Value)} {oc12 kV12 dc12 pm12 cd12 ct12 : Value} (X : K.In h) (G : h.Ns mainGlobals mg) (hfa : mg "law" = some (.ref fa))
    (aC : PySem.W.nsIn K mainGlobals "NoSign" = some (some (.ref C_NoSign)))
    (aC2 : PySem.W.nsIn K mainGlobals "NoText" = some (some (.ref C_NoText)))
    (aC3 : PySem.W.nsIn K mainGlobals "NoPart" = some (some (.ref C_NoPart)))
    (aC4 : PySem.W.nsIn K mainGlobals "Taken" = some (some (.ref C_Taken)))
    (aC5 : PySem.W.nsIn K mainGlobals "Late" = some (some (.ref C_Late)))
    (aC6 : PySem.W.nsIn K mainGlobals "SiftError" = some (some (.ref C_SiftError)))
    (kk2 : PySem.W.kitOne K (.ref C_NoSign) (.ref C_NoText) = some false)
    (kk3 : PySem.W.kitOne K (.ref C_NoSign) (.ref C_NoPart) = some false)
    (kk4 : PySem.W.kitOne K (.ref C_NoSign) (.ref C_Taken) = some false)
    (kk5 : PySem.W.kitOne K (.ref C_NoSign) (.ref C_Late) = some false)
    (kk6 : PySem.W.kitOne K (.ref C_NoSign) (.ref C_SiftError) = some true)
    (kk1 : PySem.W.kitOne K (.ref C_NoSign) (.ref C_NoSign) = some true)
    (kk7 : PySem.W.kitOne K (.ref C_NoSign) (.type "ValueError") = some true)
    (x_sa : PySem.W.findIn K (.ref C_NoSign) "__setattr__" = some (some (.builtin "object.__setattr__")))
    (x_po : excOver K C_NoSign = true)
    (x_tk : PySem.W.takerIn K C_NoSign "at" = some none)
    (x_hd : PySem.W.hasDictIn K C_NoSign = true)
    (x_ga : PySem.W.findIn K (.ref C_NoSign) "__getattribute__" = some (some (.builtin "BaseException.__getattribute__")))
    (x_gt : PySem.W.findIn K (.ref C_NoSign) "__getattr__" = some none)
    (x_mb : PySem.W.mroIn K C_NoSign (.type "BaseException") = some true)
    (x_na : PySem.W.findIn K (.ref C_NoSign) "at" = some none)
    (x_ha : PySem.W.findIn K (.ref C_NoSign) "__class__" = some (some (.builtin "object.__class__")))
    (x_hn : PySem.W.specialIn K (.builtin "object.__class__") "__get__" = some (some (.builtin "getset_descriptor.__get__")))
    (x_ht : PySem.W.takesIn K (.builtin "object.__class__") = some true)
    (x_hm : PySem.W.mroIn K C_NoSign (.type "object") = some true)
    (x_kp : PySem.W.keepIn K (.ref C_NoSign) = true)
    (a1 : PySem.W.findIn K (.ref C_NoSign) "__init__" = some (some (.ref f1))) (l1 : K.lookup f1 = some ⟨oc1, od1, .func (PySem.W.fnOf "__init__" "NoSign.__init__" (defArgs st_ninit) (defBody st_ninit) (defScope st_ninit) .none kV1 dc1 pm1 an1 cd1 ct1), sl1⟩) (c1 : PySem.W.codeIn K cd1 "NoSign.__init__" = true) (k1 : PySem.W.keepIn K (.ref f1) = true)
    (i1 : PySem.W.isFn K (.ref f1) = true)
    (a2 : PySem.W.nsIn K mainGlobals "can_come" = some (some (.ref f2))) (l2 : K.lookup f2 = some ⟨oc2, od2, .func (PySem.W.fnOf "can_come" "can_come" (defArgs st_can_come) (defBody st_can_come) (defScope st_can_come) .none kV2 dc2 pm2 an2 cd2 ct2), sl2⟩) (c2 : PySem.W.codeIn K cd2 "can_come" = true) (k2 : PySem.W.keepIn K (.ref f2) = true)
    (a3 : PySem.W.nsIn K mainGlobals "stump" = some (some (.ref f3))) (l3 : K.lookup f3 = some ⟨oc3, od3, .func (PySem.W.fnOf "stump" "stump" (defArgs st_stump) (defBody st_stump) (defScope st_stump) .none kV3 dc3 pm3 an3 cd3 ct3), sl3⟩) (c3 : PySem.W.codeIn K cd3 "stump" = true) (k3 : PySem.W.keepIn K (.ref f3) = true)
    (a4 : PySem.W.nsIn K mainGlobals "_law_cell_at" = some (some (.ref f4))) (l4 : K.lookup f4 = some ⟨oc4, od4, .func (PySem.W.fnOf "_law_cell_at" "_law_cell_at" (defArgs st_cell_at) (defBody st_cell_at) (defScope st_cell_at) .none kV4 dc4 pm4 an4 cd4 ct4), sl4⟩) (c4 : PySem.W.codeIn K cd4 "_law_cell_at" = true) (k4 : PySem.W.keepIn K (.ref f4) = true)
    (a5 : PySem.W.nsIn K mainGlobals "_law_whole" = some (some (.ref f5))) (l5 : K.lookup f5 = some ⟨oc5, od5, .func (PySem.W.fnOf "_law_whole" "_law_whole" (defArgs st_whole) (defBody st_whole) (defScope st_whole) .none kV5 dc5 pm5 an5 cd5 ct5), sl5⟩) (c5 : PySem.W.codeIn K cd5 "_law_whole" = true) (k5 : PySem.W.keepIn K (.ref f5) = true)
    (a6 : PySem.W.nsIn K mainGlobals "_law_mix" = some (some (.ref f6))) (l6 : K.lookup f6 = some ⟨oc6, od6, .func (PySem.W.fnOf "_law_mix" "_law_mix" (defArgs st_mix) (defBody st_mix) (defScope st_mix) .none kV6 dc6 pm6 an6 cd6 ct6), sl6⟩) (c6 : PySem.W.codeIn K cd6 "_law_mix" = true) (k6 : PySem.W.keepIn K (.ref f6) = true)
    (a7 : PySem.W.nsIn K mainGlobals "_law_only" = some (some (.ref f7))) (l7 : K.lookup f7 = some ⟨oc7, od7, .func (PySem.W.fnOf "_law_only" "_law_only" (defArgs st_only) (defBody st_only) (defScope st_only) .none kV7 dc7 pm7 an7 cd7 ct7), sl7⟩) (c7 : PySem.W.codeIn K cd7 "_law_only" = true) (k7 : PySem.W.keepIn K (.ref f7) = true)
    (a8 : PySem.W.nsIn K mainGlobals "_law_cells" = some (some (.ref f8))) (l8 : K.lookup f8 = some ⟨oc8, od8, .func (PySem.W.fnOf "_law_cells" "_law_cells" (defArgs st_cells) (defBody st_cells) (defScope st_cells) .none kV8 dc8 pm8 an8 cd8 ct8), sl8⟩) (c8 : PySem.W.codeIn K cd8 "_law_cells" = true) (k8 : PySem.W.keepIn K (.ref f8) = true)
    (a9 : PySem.W.nsIn K mainGlobals "_law_names" = some (some (.ref f9))) (l9 : K.lookup f9 = some ⟨oc9, od9, .func (PySem.W.fnOf "_law_names" "_law_names" (defArgs st_names) (defBody st_names) (defScope st_names) .none kV9 dc9 pm9 an9 cd9 ct9), sl9⟩) (c9 : PySem.W.codeIn K cd9 "_law_names" = true) (k9 : PySem.W.keepIn K (.ref f9) = true)
    (a10 : PySem.W.nsIn K mainGlobals "_law_signs" = some (some (.ref f10))) (l10 : K.lookup f10 = some ⟨oc10, od10, .func (PySem.W.fnOf "_law_signs" "_law_signs" (defArgs st_signs) (defBody st_signs) (defScope st_signs) .none kV10 dc10 pm10 an10 cd10 ct10), sl10⟩) (c10 : PySem.W.codeIn K cd10 "_law_signs" = true) (k10 : PySem.W.keepIn K (.ref f10) = true)
    (a11 : PySem.W.nsIn K mainGlobals "_law_first_wrong" = some (some (.ref f11))) (l11 : K.lookup f11 = some ⟨oc11, od11, .func (PySem.W.fnOf "_law_first_wrong" "_law_first_wrong" (defArgs st_first_wrong) (defBody st_first_wrong) (defScope st_first_wrong) .none kV11 dc11 pm11 an11 cd11 ct11), sl11⟩) (c11 : PySem.W.codeIn K cd11 "_law_first_wrong" = true) (k11 : PySem.W.keepIn K (.ref f11) = true)
    (a12 : PySem.W.nsIn K mainGlobals "law" = some (some (.ref f12))) (l12 : K.lookup f12 = some ⟨oc12, od12, .func (PySem.W.fnOf "law" "law" (defArgs st_law) (defBody st_law) (defScope st_law) .none kV12 dc12 pm12 an12 cd12 ct12), sl12⟩) (c12 : PySem.W.codeIn K cd12 "law" = true) (k12 : PySem.W.keepIn K (.ref f12) = true)
    (y_len : PySem.W.nsIn K mainGlobals "len" = some none)
    (y_range : PySem.W.nsIn K mainGlobals "range" = some none)
    (y_enumerate : PySem.W.nsIn K mainGlobals "enumerate" = some none)
    (y_isinstance : PySem.W.nsIn K mainGlobals "isinstance" = some none)
    (y_int : PySem.W.nsIn K mainGlobals "int" = some none)
    (y_bool : PySem.W.nsIn K mainGlobals "bool" = some none)
    (y_tuple : PySem.W.nsIn K mainGlobals "tuple" = some none)
    (y_ValueError : PySem.W.nsIn K mainGlobals "ValueError" = some none)
    (x_ty : PySem.W.typeIn K (.ref f1) = some (.type "function"))
    (x_ex : excInI K C_NoSign f1 = true) :
    ∃ fd : FuncData, (∀ (s : Shared) (v : Value), BindsTo s fd ⟨[v], []⟩ [("_law_script", v)]) ∧ ∀ base : Heap, K.In base → base.Ns mainGlobals mg → FnOk l.prog w K mg base CX0 10 fa fd ["_law_script"] (spLaw K F_law) := by
  have e := hfa.symm.trans (PySem.W.mg_of X G a12)
  cases e
  have z_len := PySem.W.mg_none_of X G y_len
  have z_range := PySem.W.mg_none_of X G y_range
  have z_enumerate := PySem.W.mg_none_of X G y_enumerate
  have z_isinstance := PySem.W.mg_none_of X G y_isinstance
  have z_int := PySem.W.mg_none_of X G y_int
  have z_bool := PySem.W.mg_none_of X G y_bool
  have z_tuple := PySem.W.mg_none_of X G y_tuple
  have z_ValueError := PySem.W.mg_none_of X G y_ValueError
  have F1 := fun_mk (st := st_ninit) l1 c1 k1
  have b1 := F1.binds (ps := ["self", "at"]) fun _ _ _ _ _ _ us hl => match us, hl with | [_, _], _ => rfl
  have F2 := fun_mk (st := st_can_come) l2 c2 k2
  have b2 := F2.binds (ps := ["sign", "within", "begun"]) fun _ _ _ _ _ _ us hl => match us, hl with | [_, _, _], _ => rfl
  have F3 := fun_mk (st := st_stump) l3 c3 k3
  have b3 := F3.binds (ps := ["signs"]) fun _ _ _ _ _ _ us hl => match us, hl with | [_], _ => rfl
  have F4 := fun_mk (st := st_cell_at) l4 c4 k4
  have b4 := F4.binds (ps := ["_law_script", "_law_k"]) fun _ _ _ _ _ _ us hl => match us, hl with | [_, _], _ => rfl
  have F5 := fun_mk (st := st_whole) l5 c5 k5
  have b5 := F5.binds (ps := ["_law_found"]) fun _ _ _ _ _ _ us hl => match us, hl with | [_], _ => rfl
  have F6 := fun_mk (st := st_mix) l6 c6 k6
  have b6 := F6.binds (ps := ["_law_cell", "_law_turn"]) fun _ _ _ _ _ _ us hl => match us, hl with | [_, _], _ => rfl
  have F7 := fun_mk (st := st_only) l7 c7 k7
  have b7 := F7.binds (ps := ["_law_error", "_law_which"]) fun _ _ _ _ _ _ us hl => match us, hl with | [_, _], _ => rfl
  have F8 := fun_mk (st := st_cells) l8 c8 k8
  have b8 := F8.binds (ps := ["_law_script", "_law_turn", "_law_most"]) fun _ _ _ _ _ _ us hl => match us, hl with | [_, _, _], _ => rfl
  have F9 := fun_mk (st := st_names) l9 c9 k9
  have b9 := F9.binds (ps := ["_law_script"]) fun _ _ _ _ _ _ us hl => match us, hl with | [_], _ => rfl
  have F10 := fun_mk (st := st_signs) l10 c10 k10
  have b10 := F10.binds (ps := ["_law_cells_here", "_law_some"]) fun _ _ _ _ _ _ us hl => match us, hl with | [_, _], _ => rfl
  have F11 := fun_mk (st := st_first_wrong) l11 c11 k11
  have b11 := F11.binds (ps := ["_law_signs_here"]) fun _ _ _ _ _ _ us hl => match us, hl with | [_], _ => rfl
  have F12 := fun_mk (st := st_law) l12 c12 k12
  refine ⟨PySem.W.fnOf "law" "law" (defArgs st_law) (defBody st_law) (defScope st_law) .none kV12 dc12 pm12 an12 cd12 ct12, fun s v => .of_eq rfl, fun base _ _ => ?_⟩
  have M := xmk_of x_ex x_ty x_kp
  have A7 : XAsk K mg C_NoSign := ⟨⟨⟨x_ga, x_gt, x_mb⟩, x_hd, x_ha, x_hn, x_ht, x_hm⟩, PySem.W.mg_of X G aC, kk1, ⟨_, PySem.W.mg_of X G aC2, kk2⟩, ⟨_, PySem.W.mg_of X G aC3, kk3⟩, ⟨_, PySem.W.mg_of X G aC4, kk4⟩, ⟨_, PySem.W.mg_of X G aC5, kk5⟩, ⟨_, PySem.W.mg_of X G aC6, kk6⟩, kk7⟩
  have FI := ok_ninit (P := l.prog) (w := w) (mg := mg) (base := base) F1 (C := C_NoSign) ⟨x_sa, x_po, x_tk, x_hd⟩
  have h_can_come : Ok1 l.prog w K mg base "can_come" 1 (spF K F_can_come) := ⟨f2, _, _, ok_can_come F2, PySem.W.mg_of X G a2, k2, b2⟩
  have FS := ok_stump (P := l.prog) (w := w) (mg := mg) (base := base) F3 z_len z_enumerate h_can_come M FI b1 (PySem.W.mg_of X G aC)
  have h_cell_at : Ok1 l.prog w K mg base "_law_cell_at" 1 (spF K F_cell_at) := ⟨f4, _, _, ok_cell_at F4 z_len, PySem.W.mg_of X G a4, k4, b4⟩
  have h_whole : Ok1 l.prog w K mg base "_law_whole" 1 (spF K F_whole) := ⟨f5, _, _, ok_whole F5 z_bool z_int z_isinstance, PySem.W.mg_of X G a5, k5, b5⟩
  have h_mix : Ok1 l.prog w K mg base "_law_mix" 1 (spF K F_mix) := ⟨f6, _, _, ok_mix F6, PySem.W.mg_of X G a6, k6, b6⟩
  have FO := ok_only (P := l.prog) (w := w) (mg := mg) (base := base) F7 z_range z_isinstance z_ValueError A7
  have h_cells : Ok1 l.prog w K mg base "_law_cells" 2 (spO K F_cells) := ⟨f8, _, _, ok_cells F8 z_enumerate z_len z_range h_mix, PySem.W.mg_of X G a8, k8, b8⟩
  have h_names : Ok1 l.prog w K mg base "_law_names" 3 (spO K F_names) := ⟨f9, _, _, ok_names F9 z_len h_cells, PySem.W.mg_of X G a9, k9, b9⟩
  have h_signs : Ok1 l.prog w K mg base "_law_signs" 1 (spO K F_signs) := ⟨f10, _, _, ok_signs F10 z_enumerate, PySem.W.mg_of X G a10, k10, b10⟩
  have h_first_wrong : Ok1 l.prog w K mg base "_law_first_wrong" 1 (spF K F_first_wrong) := ⟨f11, _, _, ok_first_wrong F11 z_enumerate z_int, PySem.W.mg_of X G a11, k11, b11⟩
  exact ok_law F12 z_len z_range (h_names.mono (by decide)) (h_signs.mono (by decide)) (h_cells.mono (by decide)) (h_mix.mono (by decide)) (h_cell_at.mono (by decide)) (h_first_wrong.mono (by decide)) (h_whole.mono (by decide)) z_isinstance z_tuple M A7 ⟨⟨x_ga, x_gt, x_mb⟩, x_hd, x_na⟩ FS (PySem.W.mg_of X G a3) k3 b3 FO (PySem.W.mg_of X G a7) k7 b7
theorem walk {l : PySem.W.OpenLaw} {q : Program} {loose : List Str} {XP : (Str → Option Value) → Heap → Prop} {YP : World → Heap → Prop} {d : DefRec} {K : Params → PySem.W.Frag} (hn : l.most = some 63) (hdf : d.params.defaults = [])
    (hY : ∀ (w : World) (h : Heap), YP w h → (K w.params).In h)
    (F : ∀ (w : World) (mg : Str → Option Value) (fa : Addr) (h : Heap), (K w.params).In h → h.Ns mainGlobals mg → mg d.name = some (.ref fa) →
      ∃ fd : FuncData, (∀ (s : Shared) (u : Value), BindsTo s fd ⟨[u], []⟩ [("_law_script", u)]) ∧ ∀ base : Heap, (K w.params).In base → base.Ns mainGlobals mg → FnOk l.prog w (K w.params) mg base CX0 10 fa fd ["_law_script"] (spLaw (K w.params) F_law)) :
    PySem.W.WalkO q loose XP YP l.row.toRowW d [] (fun f vs => PySem.call f vs) :=
  L2.walk_ofK (n := 63) (k := 10) (x := "_law_script") (CX := CX0) (sp := fun K => spLaw K F_law) hn (by decide) hdf ⟨rfl, by decide, by decide⟩ hY F (fun K H a ns hl hO hS => law_sp3 law_true K H a ns hl hO hS) fun _ _ _ _ z => z
end K03
open PySem PySem.W PyProof.Rows
set_option maxRecDepth 100000 in
set_option maxHeartbeats 0 in
theorem PySem.Challenge.cw_earlysift_k03_signs_that_cannot_come_holds : PySem.Challenge.rw_earlysift_k03_signs_that_cannot_come.Holds := by
  w_on; o_law; k_head; (case hw => w_witness2)
  k_fill
  refine K03.walk (l := PySem.Challenge.rw_earlysift_k03_signs_that_cannot_come) rfl rfl (fun w h Y => PySem.W.kIn_of Y) ?F
  case F =>
    intro w mg fa h KX G hmg
    refine' K03.all_mk KX G hmg ?aC ?aC2 ?aC3 ?aC4 ?aC5 ?aC6 ?kk2 ?kk3 ?kk4 ?kk5 ?kk6 ?kk1 ?kk7 ?x_sa ?x_po ?x_tk ?x_hd ?x_ga ?x_gt ?x_mb ?x_na ?x_ha ?x_hn ?x_ht ?x_hm ?x_kp ?a1 ?l1 ?c1 ?k1 ?i1 ?a2 ?l2 ?c2 ?k2 ?a3 ?l3 ?c3 ?k3 ?a4 ?l4 ?c4 ?k4 ?a5 ?l5 ?c5 ?k5 ?a6 ?l6 ?c6 ?k6 ?a7 ?l7 ?c7 ?k7 ?a8 ?l8 ?c8 ?k8 ?a9 ?l9 ?c9 ?k9 ?a10 ?l10 ?c10 ?k10 ?a11 ?l11 ?c11 ?k11 ?a12 ?l12 ?c12 ?k12 ?y_len ?y_range ?y_enumerate ?y_isinstance ?y_int ?y_bool ?y_tuple ?y_ValueError ?x_ty ?x_ex
    (case aC => k_is); (case aC2 => k_is); (case aC3 => k_is); (case aC4 => k_is); (case aC5 => k_is); (case aC6 => k_is); (case kk2 => kit_is); (case kk3 => kit_is)
    (case kk4 => kit_is); (case kk5 => kit_is); (case kk6 => kit_is); (case kk1 => kit_is); (case kk7 => kit_is); (case x_sa => k_is); (case x_po => kernel_rfl); (case x_tk => k_is)
    (case x_hd => k_is); (case x_ga => k_is); (case x_gt => k_is); (case x_mb => k_is); (case x_na => k_is); (case x_ha => k_is); (case x_hn => k_is); (case x_ht => k_is)
    (case x_hm => k_is); (case x_kp => k_is); (case a1 => k_is); (case l1 => k_is); (case c1 => k_is); (case k1 => k_is); (case i1 => k_is); (case a2 => k_is)
    (case l2 => k_is); (case c2 => k_is); (case k2 => k_is); (case a3 => k_is); (case l3 => k_is); (case c3 => k_is); (case k3 => k_is); (case a4 => k_is)
    (case l4 => k_is); (case c4 => k_is); (case k4 => k_is); (case a5 => k_is); (case l5 => k_is); (case c5 => k_is); (case k5 => k_is); (case a6 => k_is)
    (case l6 => k_is); (case c6 => k_is); (case k6 => k_is); (case a7 => k_is); (case l7 => k_is); (case c7 => k_is); (case k7 => k_is); (case a8 => k_is)
    (case l8 => k_is); (case c8 => k_is); (case k8 => k_is); (case a9 => k_is); (case l9 => k_is); (case c9 => k_is); (case k9 => k_is); (case a10 => k_is)
    (case l10 => k_is); (case c10 => k_is); (case k10 => k_is); (case a11 => k_is); (case l11 => k_is); (case c11 => k_is); (case k11 => k_is); (case a12 => k_is)
    (case l12 => k_is); (case c12 => k_is); (case k12 => k_is); (case y_len => k_is); (case y_range => k_is); (case y_enumerate => k_is); (case y_isinstance => k_is); (case y_int => k_is)
    (case y_bool => k_is); (case y_tuple => k_is); (case y_ValueError => k_is); (case x_ty => k_is); (case x_ex => kernel_rfl)
