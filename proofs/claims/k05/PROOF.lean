import PyProof.Rows.All
import Wide.All
import OpenK.AllK
import Wide.FinOn
import Lean
import PyProof.EqAt
import PyProof.EqKinds
import PyProof.TupleCall
import PyProof.NeKinds
import PySem.Challenge.RW_earlysift_k05_plain_answers
set_option maxRecDepth 100000
set_option maxHeartbeats 4000000
open PySem.W (Frag mg_of nsIn mg_none_of findIn kia_one fnOf emptyDict keepIn instObj kitOne codeIn plainGet hasDictIn plainOver takerIn makesIn methodObj lookIn)
open PySem.F (plainAttrs_list)
abbrev zA:=@Option.bind_some
abbrev zB:=@List.mem_cons_of_mem
abbrev zC:=@List.getElem?_eq_some_iff
abbrev zD:=@List.mem_cons_self
abbrev zE:=@PySem.wpAny_bind
abbrev zF:=@PySem.Heap.get?_push_of_some
abbrev zG:=@List.mem_cons
abbrev zH:=@List.length_map
abbrev zI:=@List.getElem?_eq_getElem
abbrev zJ:=@PySem.Heap.lt_size
abbrev zK:=@List.getElem?_set_ne
abbrev zL:=@Nat.le_refl
abbrev zM:=@List.getElem?_map
abbrev zN:=@List.size_toArray
abbrev zO:=@List.mem_append
abbrev zP:=@List.length_cons
abbrev zQ:=@List.mem_append_right
abbrev zR:=@Nat.ne_of_lt
abbrev zS:=@Nat.lt_of_lt_of_le
abbrev zT:=@Option.map_some
abbrev zU:=@List.mem_append_left
abbrev zV:=@PySem.Heap.get?_push_size
abbrev zW:=@PySem.wpAny_pure
abbrev zX:=@List.mem_of_getElem?
abbrev zY:=@Int.emod_lt_of_pos
abbrev zZ:=@Bool.false_ne_true
abbrev yA:=@Option.some.inj
abbrev yB:=@Nat.le_trans
abbrev yC:=@Int.emod_nonneg
abbrev yD:=@Array.length_toList
abbrev yE:=@List.getElem?_append_left
abbrev yF:=@Nat.lt_irrefl
abbrev yG:=@List.mem_singleton
set_option Elab.async false
set_option linter.all false
noncomputable section
namespace L2
open PySem PySem.Spec PyProof.Rows
noncomputable abbrev Key:=Sum Int Str
noncomputable def keyIs:Key→Value→Bool
 | .inl k,v=>Value.isInt k v
 | .inr x,v=>Value.isStrOf x v
noncomputable def keyH (w:World):Key→Int
 | .inl k=>hashInt k
 | .inr x=>hashStr w x
theorem keyIs_shape:∀ {k:Key}{v:Value},keyIs k v=true→(∃ i t,k=Sum.inl i∧v=Value.int i t)∨(∃ x t,k=Sum.inr x∧v=Value.str x t)
 | .inl i,v,h=>by obtain⟨t,e⟩:=Value.isInt_shape (k:=i) (v:=v) h;exact .inl ⟨i,t,rfl,e⟩
 | .inr x,v,h=>by obtain⟨t,e⟩:=Value.isStrOf_shape (x:=x) (v:=v) h;exact .inr ⟨x,t,rfl,e⟩
theorem key_ll (a b:Int):decide ((Sum.inl a:Key)=Sum.inl b)=(a==b):=by
 by_cases e:a=b
 ·subst e;simp
 ·have h:¬ (Sum.inl a:Key)=Sum.inl b:=fun q=>e (Sum.inl.inj q)
  rw[decide_eq_false h];exact(beq_eq_false_iff_ne.mpr e).symm
theorem key_rr (a b:Str):decide ((Sum.inr a:Key)=Sum.inr b)=decide (a=b):=by
 by_cases e:a=b
 ·subst e;simp
 ·have h:¬ (Sum.inr a:Key)=Sum.inr b:=fun q=>e (Sum.inr.inj q)
  rw[decide_eq_false h,decide_eq_false e]
theorem key_lr (a:Int) (b:Str):decide ((Sum.inl a:Key)=Sum.inr b)=false:=decide_eq_false (fun q=>nomatch q)
theorem key_rl (a:Str) (b:Int):decide ((Sum.inr a:Key)=Sum.inl b)=false:=decide_eq_false (fun q=>nomatch q)
noncomputable def mixKind (prog:Program) (w:World):PySem.KeyKind prog w Key where
 is:=keyIs
 hash:=keyH w
 inj:=fun v a b ha hb=>by
  rcases keyIs_shape ha with ⟨i,t,rfl,rfl⟩|⟨x,t,rfl,rfl⟩
  ·rcases keyIs_shape hb with ⟨j,u,rfl,e⟩|⟨y,u,rfl,e⟩
   ·injection e with e1 _;rw[e1]
   ·exact nomatch e
  ·rcases keyIs_shape hb with ⟨j,u,rfl,e⟩|⟨y,u,rfl,e⟩
   ·exact nomatch e
   ·injection e with e1 _;rw[e1]
 byValue:=fun k v h=>by
  rcases keyIs_shape h with ⟨i,t,rfl,rfl⟩|⟨x,t,rfl,rfl⟩<;>rfl
 pyHash:=fun hv h=>by
  rcases keyIs_shape hv with ⟨i,t,rfl,rfl⟩|⟨x,t,rfl,rfl⟩
  ·exact wpAny_pyHash_int h
  ·exact wpAny_pyHash_str h
 eqBool:=fun hu hv h=>by
  rcases keyIs_shape hu with ⟨i,t,rfl,rfl⟩|⟨x,t,rfl,rfl⟩
  ·rcases keyIs_shape hv with ⟨j,u,rfl,rfl⟩|⟨y,u,rfl,rfl⟩
   ·rw[key_ll] at h;exact wpAny_eqBool_int h
   ·rw[key_lr] at h;exact SeqAt.EqAt.int_str i t y u _ _ _ _ h
  ·rcases keyIs_shape hv with ⟨j,u,rfl,rfl⟩|⟨y,u,rfl,rfl⟩
   ·rw[key_rl] at h;exact SeqAt.EqAt.str_int x t j u _ _ _ _ h
   ·rw[key_rr] at h;exact wpAny_eqBool_str h
 «strs» :=fun k x t v h=>by
  rcases keyIs_shape h with ⟨i,u,rfl,e⟩|⟨y,u,rfl,e⟩
  ·exact nomatch e
  ·injection e with e1 _
   subst e1
   cases v<;>rfl
end L2
namespace L2
open PySem PySem.Spec PyProof.Rows
inductive V where
 | non|bl (b:Bool)|int (i:Int)|str (x:Str)|byt (b:Array UInt8)|flt (b:UInt64)|ref (a:Addr)|ty (n:String)
 deriving DecidableEq
noncomputable def RelV:V→Value→Prop
 | .non,u=>u=Value.none
 | .bl b,u=>u=Value.bool b
 | .int i,u=>∃ t,u=Value.int i t
 | .str x,u=>∃ t,u=Value.str x t
 | .byt b,u=>∃ t,u=Value.bytes b t
 | .flt b,u=>∃ t,u=Value.float b t
 | .ref a,u=>u=Value.ref a
 | .ty n,u=>u=Value.type n
noncomputable abbrev Vals:List V→List Value→Prop:=Paired RelV
theorem Vals.length {xs:List V}{us:List Value}(r:Vals xs us):xs.length=us.length:=Paired.length r
theorem Vals.get:∀ {xs:List V}{us:List Value}{i:Nat}{x:V},Vals xs us→xs[i]?=some x→∃ u,us[i]?=some u∧RelV x u
 | _,_,_,_,.nil,e=>by simp at e
 | _,_,0,_,.cons r _,e=>by simp at e;subst e;exact⟨_,rfl,r⟩
 | _,_,i+1,x,.cons _ t,e=>by
  obtain⟨u,h1,h2⟩:=Vals.get (i:=i) (x:=x) t (by simpa using e)
  exact⟨u,by simpa using h1,h2⟩
theorem Vals.set {x:V}{u:Value}(r:RelV x u):∀ {xs:List V}{us:List Value}(i:Nat),Vals xs us→Vals (xs.set i x) (us.set i u)
 | _,_,_,.nil =>.nil
 | _,_,0,.cons _ t =>.cons r t
 | _,_,i+1,.cons q t =>.cons q (Vals.set r i t)
theorem Vals.append:∀ {xs ys:List V}{us ws:List Value},Vals xs us→Vals ys ws→Vals (xs++ys) (us++ws)
 | _,_,_,_,.nil,s=>s
 | _,_,_,_,.cons r t,s =>.cons r (Vals.append t s)
theorem Vals.take:∀ {xs:List V}{us:List Value}(n:Nat),Vals xs us→Vals (xs.take n) (us.take n)
 | _,_,0,_ =>.nil
 | _,_,_+1,.nil =>.nil
 | _,_,n+1,.cons r t =>.cons r (Vals.take n t)
theorem Vals.drop:∀ {xs:List V}{us:List Value}(n:Nat),Vals xs us→Vals (xs.drop n) (us.drop n)
 | _,_,0,r=>r
 | _,_,_+1,.nil =>.nil
 | _,_,n+1,.cons _ t=>Vals.drop n t
noncomputable def RelO:Option V→Option Value→Prop
 | some v,some u=>RelV v u
 | none,none=>True
 | _,_=>False
noncomputable def KV {κ:Type}:List (κ×V)→List (κ×Value)→Prop:=Paired fun (p:κ×V) (q:κ×Value)=>p.1=q.1∧RelV p.2 q.2
noncomputable def kV:Key→V
 | .inl i =>.int i
 | .inr x =>.str x
inductive HO where
 | lst (xs:List V)
 | tup (xs:List V)
 | dK (kvs:List (Key×V))|dT (kvs:List (List Key×V))
 | set (S:Int→Bool) (n:Nat)
 | ins (C dx:Addr) (fs:List (Str×V))
 | own (x:Addr)
 | xd (fs:List (Str×V))
 | met (f x:Addr)
 | rng (lo hi:Int)
 | frz (o:Obj) (u:HO)
 | tbl (ps:Array Value)
 | ext (φ:Heap→Prop)
noncomputable abbrev Hp:=Addr→Option HO
noncomputable def upd (H:Hp) (a:Addr) (o:HO):Hp:=fun b=>if b=a then some o else H b
theorem upd_same {H:Hp}{a:Addr}{o:HO}:upd H a o a=some o:=by unfold upd;rw[if_pos rfl]
theorem upd_ne {H:Hp}{a b:Addr}{o:HO}(h:b≠a):upd H a o b=H b:=by unfold upd;rw[if_neg h]
theorem upd_upd {H:Hp}{a:Addr}{o u:HO}:upd (upd H a o) a u=upd H a u:=by
 funext b;unfold upd;split<;>rfl
theorem ne_of {H:Hp}{a b:Addr}{o u:HO}(h:H a=some o) (h':H b=some u) (d:o≠u):a≠b:=by
 intro e;subst e;rw[h] at h';exact d (yA h')
theorem ne_of_none {H:Hp}{a b:Addr}{o:HO}(h:H a=some o) (h':H b=none):a≠b:=by
 intro e;subst e;rw[h] at h';cases h'
noncomputable section
variable (P:Program) (w:World)
noncomputable def ObjOk (H:Hp) (h:Heap) (a:Addr):HO→Prop
 | .lst xs=>xs.length≤sizeLine∧∃ (its:List Value) (n:Nat),Vals xs its∧h.get? a=some { cls :=.type "list",data :=.seq its.toArray n }
 | .tup xs=>xs.length≤sizeLine∧∃ its:List Value,Vals xs its∧IsTup h a its.toArray
 | .dK kvs=>kvs.length≤sizeLine∧(a==sysModules)=false∧∃ vs,KV kvs vs∧h.DictOf (mixKind P w) a vs
 | .dT kvs=>kvs.length≤sizeLine∧(a==sysModules)=false∧∃ xs:List (List Key×Addr×Value),
   Paired (fun (p:List Key×V) (q:List Key×Addr×Value)=>p.1=q.1∧H q.2.1=some (.tup (p.1.map kV))∧RelV p.2 q.2.2) kvs xs ∧
   ∃ o es ep,h.get? a=some o∧o.ExactDict∧o.data=.dict es ep∧es.toList=xs.map (entryOfKey (tupleKind (mixKind P w)))∧(xs.map (·.1)).Nodup
 | .set S n=>h.SetOf (intKind P w) a S n
 | .ins C dx fs=>H dx=some (.own a)∧fs.length≤1000∧dx≠a∧h.get? a=some (instObj C dx) ∧
   ∃ mA,h.Ns1 dx mA∧(∀ f,RelO (fs.lookup f) (mA f))∧PySem.Within mA (fs.map (·.1))
 | .own _=>∃ o,h.get? a=some o
 | .xd fs=>∃ mA,h.Ns1 a mA∧∀ f,RelO (fs.lookup f) (mA f)
 | .rng lo hi=>∃ t u v,h.get? a=some { cls :=.type "range",data :=.fields #[.int lo t,.int hi u,.int 1 v] }
 | .frz o u=>h.get? a=some o∧ObjOk H h a u
 | .tbl ps=>h.get? a=some { cls :=.none,data :=.fields ps }
 | .met f x=>h.get? a=some (methodObj (.ref f) (.ref x))
 | .ext φ=>φ h∧(∃ o,h.get? a=some o)∧∀ h1 h2:Heap,φ h1→(∀ o,h1.get? a=some o→h2.get? a=some o)→φ h2
noncomputable def HOk (H:Hp) (h:Heap):Prop:=∀ a o,H a=some o→ObjOk P w H h a o
end
noncomputable section
variable {P:Program}{w:World}{H H':Hp}{h h':Heap}{a:Addr}{o:HO}
theorem ObjOk.lt (x:ObjOk P w H h a o):a<h.objs.size:=by
 cases o with
 | lst xs=>obtain⟨_,_,_,_,e⟩:=x;exact zJ e
 | tup xs=>obtain⟨_,_,_,p⟩:=x;exact p.lt
 | dK kvs=>obtain⟨_,_,_,_,o,_,_,e,_⟩:=x;exact zJ e
 | dT kvs=>obtain⟨_,_,_,_,o,_,_,e,_⟩:=x;exact zJ e
 | set S n=>obtain⟨o,_,_,_,e,_⟩:=x;exact zJ e
 | ins C dx fs=>obtain⟨_,_,_,e,_⟩:=x;exact zJ e
 | own y=>obtain⟨_,e⟩:=x;exact zJ e
 | xd fs=>obtain⟨_,⟨_,_,_,e,_⟩,_⟩:=x;exact zJ e
 | rng lo hi=>obtain⟨_,_,_,e⟩:=x;exact zJ e
 | frz ob u=>obtain⟨e,_⟩:=x;exact zJ e
 | tbl ps=>exact zJ (show h.get? a=some _ from x)
 | met f y=>exact zJ (show h.get? a=some _ from x)
 | ext φ=>obtain⟨_,⟨_,e⟩,_⟩:=x;exact zJ e
theorem Paired.mapP {α β:Type}{F G:α→β→Prop}:∀ {l₁:List α}{l₂:List β},Paired F l₁ l₂→(∀ a b,F a b→G a b)→Paired G l₁ l₂
 | _,_,.nil,_ =>.nil
 | _,_,.cons r t,f =>.cons (f _ _ r) (Paired.mapP t f)
theorem ObjOk.stay (x:ObjOk P w H h a o) (k:∀ b u,(b=a∨H b=some (.own a))→h.get? b=some u→h'.get? b=some u)
  (ho:∀ b,H b=some (.own a)→H' b=some (.own a)) (ht:∀ b xs,H b=some (.tup xs)→H' b=some (.tup xs)):ObjOk P w H' h' a o:=by
 induction o with
 | lst xs=>obtain⟨z,its,n,r,e⟩:=x;exact⟨z,its,n,r,k _ _ (.inl rfl) e⟩
 | tup xs=>obtain⟨z,its,r,ob,e,c⟩:=x;exact⟨z,its,r,ob,k _ _ (.inl rfl) e,c⟩
 | dK kvs=>obtain⟨z,y,vs,r,ob,es,ep,e,c⟩:=x;exact⟨z,y,vs,r,ob,es,ep,k _ _ (.inl rfl) e,c⟩
 | dT kvs=>obtain⟨z,y,xs,r,ob,es,ep,e,c⟩:=x;exact⟨z,y,xs,Paired.mapP r fun p q z=>⟨z.1,ht _ _ z.2.1,z.2.2⟩,ob,es,ep,k _ _ (.inl rfl) e,c⟩
 | set S n=>obtain⟨ob,es,ep,t,e,c⟩:=x;exact⟨ob,es,ep,t,k _ _ (.inl rfl) e,c⟩
 | ins C dx fs=>obtain⟨d,z,ne,e,mA,⟨od,es,ep,e2,c⟩,r⟩:=x;exact⟨ho _ d,z,ne,k _ _ (.inl rfl) e,mA,⟨od,es,ep,k _ _ (.inr d) e2,c⟩,r⟩
 | own y=>obtain⟨ob,e⟩:=x;exact⟨ob,k _ _ (.inl rfl) e⟩
 | xd fs=>obtain⟨mA,⟨od,es,ep,e,c⟩,r⟩:=x;exact⟨mA,⟨od,es,ep,k _ _ (.inl rfl) e,c⟩,r⟩
 | rng lo hi=>obtain⟨t,u,v,e⟩:=x;exact⟨t,u,v,k _ _ (.inl rfl) e⟩
 | frz ob u ih=>obtain⟨e,q⟩:=x;exact⟨k _ _ (.inl rfl) e,ih q⟩
 | tbl ps=>have e:h.get? a=some { cls :=.none,data :=.fields ps }:=x;show h'.get? a=some { cls :=.none,data :=.fields ps };exact k a _ (.inl rfl) e
 | met f y=>have e:h.get? a=some (methodObj (.ref f) (.ref y)):=x;show h'.get? a=some (methodObj (.ref f) (.ref y));exact k a _ (.inl rfl) e
 | ext φ=>obtain⟨p,⟨o,e⟩,st⟩:=x;exact⟨st _ _ p fun o q=>k _ _ (.inl rfl) q,⟨o,k _ _ (.inl rfl) e⟩,st⟩
theorem HOk.lt (x:HOk P w H h) (e:H a=some o):a<h.objs.size:=(x a o e).lt
theorem HOk.fresh (x:HOk P w H h) (e:h.objs.size≤a):H a=none:=by
 cases q:H a with
 | none=>rfl
 | some u=>exact absurd (zS (x.lt q) e) (yF _)
theorem HOk.kept (x:HOk P w H h) (k:∀ b u,h.get? b=some u→h'.get? b=some u):HOk P w H h':=fun a o e=>
 (x a o e).stay (fun b u _ q=>k b u q) (fun _ q=>q) fun _ _ q=>q
theorem HOk.laid (x:HOk P w H h) (k:∀ b u,h.get? b=some u→h'.get? b=some u) (hp:h.objs.size≤a) (new:ObjOk P w (upd H a o) h' a o):HOk P w (upd H a o) h':=fun b u e=>by
 have hn:=x.fresh hp;by_cases hb:b=a
 ·subst hb;rw[upd_same] at e;cases e;exact new
 ·rw[upd_ne hb] at e;exact(x b u e).stay (fun c v _ q=>k c v q) (fun c q=>by rw[upd_ne (ne_of_none q hn)];exact q) fun c xs q=>by rw[upd_ne (ne_of_none q hn)];exact q
end
noncomputable def Rd (H:Hp) (a:Addr) (u:HO):Prop:=H a=some u∨∃ o,H a=some (.frz o u)
theorem Rd.ok {P:Program}{w:World}{H:Hp}{h:Heap}{a:Addr}{u:HO}(r:Rd H a u) (x:HOk P w H h):ObjOk P w H h a u:=by
 rcases r with r|⟨o,r⟩
 ·exact x a u r
 ·obtain⟨_,q⟩:=x a _ r;exact q
noncomputable def Mut:Option HO→Prop
 | some (.lst _)=>True
 | some (.dK _)=>True
 | some (.dT _)=>True
 | some (.set _ _)=>True
 | some (.ins _ _ _)=>True
 | some (.ext _)=>True
 | _=>False
noncomputable section
variable {P:Program}{w:World}{H:Hp}{h h':Heap}{x e:Addr}{o':HO}
theorem HOk.write (ok:HOk P w H h) (mu:Mut (H x)) (he:e=x∨H e=some (.own x)) (k:∀ b u,b≠e→h.get? b=some u→h'.get? b=some u) (heo:∃ u,h'.get? e=some u)
  (new:ObjOk P w (upd H x o') h' x o'):HOk P w (upd H x o') h':=fun b u q=>by
 have nown:∀ c y,H c=some (.own y)→c≠x:=fun c y r z=>by subst z;rw[r] at mu;exact mu
 have ntup:∀ c xs,H c=some (.tup xs)→c≠x:=fun c xs r z=>by subst z;rw[r] at mu;exact mu
 by_cases hb:b=x
 ·subst hb;rw[upd_same] at q;cases q;exact new
 ·rw[upd_ne hb] at q;by_cases hbe:b=e
  ·have q':H b=some (.own x):=by
    rcases he with z|z
    ·exact absurd (hbe.trans z) hb
    ·rw[hbe];exact z
   rw[q] at q';cases q';obtain⟨v,hv⟩:=heo;exact⟨v,by rw[hbe];exact hv⟩
  ·refine(ok b u q).stay (fun c v hc r=>k c v ?_ r) (fun c r=>by rw[upd_ne (nown c b r)];exact r) fun c xs r=>by rw[upd_ne (ntup c xs r)];exact r
   rcases hc with rfl|hc
   ·exact hbe
   ·rintro rfl;rcases he with z|z
    ·exact nown c b hc z
    ·rw[hc] at z;cases z;exact hb rfl
end
structure Un (fs ex:List Addr) (H H':Hp) (h h':Heap):Prop where
 keep:∀ b o,h.get? b=some o→H b=none→b∉fs→b∉ex→h'.get? b=some o
 slot:∀ b o,h.get? b=some o→H b=none→b∈fs→b∉ex→∃ sl,h'.get? b=some { o with slots:=sl }
 free:∀ b o,h.get? b=some o→H b=none→b∉ex→H' b=none
 there:∀ b o,h.get? b=some o→b∉ex→∃ o',h'.get? b=some o'
 tups:∀ b xs,H b=some (.tup xs)→H' b=some (.tup xs)
 frzs:∀ b o u,H b=some (.frz o u)→H' b=some (.frz o u)
 tbls:∀ b ps,H b=some (.tbl ps)→∃ more,H' b=some (.tbl (ps++more))
noncomputable section
variable {fs fs' ex ex':List Addr}{H H1 H2:Hp}{h h1 h2 h':Heap}{a x e:Addr}{o:HO}
theorem Un.any (u:Un fs ex H H1 h h1){b:Addr}{ob:Obj}(q:h.get? b=some ob) (n:H b=none) (hx:b∉ex):∃ sl,h1.get? b=some { ob with slots:=sl }:=by
 by_cases hb:b∈fs
 ·exact u.slot b ob q n hb hx
 ·exact⟨ob.slots,u.keep b ob q n hb hx⟩
theorem Un.kept (k:∀ b u,h.get? b=some u→h'.get? b=some u):Un fs ex H H h h':=
 ⟨fun b ob q _ _ _=>k b ob q,fun b ob q _ _ _=>⟨ob.slots,k b ob q⟩,fun _ _ _ n _=>n,fun b ob q _=>⟨ob,k b ob q⟩,fun _ _ q=>q,fun _ _ _ q=>q,fun _ ps q=>⟨#[],by rw[q];simp⟩⟩
theorem Un.refl:Un fs ex H H h h:=Un.kept fun _ _ q=>q
theorem Un.laid (k:∀ b u,h.get? b=some u→h'.get? b=some u) (hp:h.objs.size≤a) (hn:H a=none):Un fs ex H (upd H a o) h h' where
 keep:=fun b u q _ _ _=>k b u q
 slot:=fun b u q _ _ _=>⟨u.slots,k b u q⟩
 free:=fun b u q n _=>by rw[upd_ne (zR (zS (zJ q) hp))];exact n
 there:=fun b u q _=>⟨u,k b u q⟩
 tups:=fun b xs q=>by rw[upd_ne (ne_of_none q hn)];exact q
 frzs:=fun b u xs q=>by rw[upd_ne (ne_of_none q hn)];exact q
 tbls:=fun b ps q=>⟨#[],by rw[upd_ne (ne_of_none q hn),q];simp⟩
theorem Un.write (mu:Mut (H x)) (he:e=x∨H e=some (.own x)) (k:∀ b u,b≠e→h.get? b=some u→h'.get? b=some u) (heo:∃ u,h'.get? e=some u):Un fs ex H (upd H x o) h h':=by
 have hx:∀ b,H b=none→b≠x:=fun b n z=>by subst z;rw[n] at mu;exact mu
 have hb:∀ b,H b=none→b≠e:=fun b n z=>by
  subst z;rcases he with r|r
  ·exact hx b n r
  ·rw[n] at r;cases r
 have hm:∀ b u,H b=some u→¬ Mut (some u)→b≠x:=fun b u q nm z=>by subst z;rw[q] at mu;exact nm mu
 refine⟨fun b u q n _ _=>k b u (hb b n) q,fun b u q n _ _=>⟨u.slots,k b u (hb b n) q⟩,fun b u q n _=>by rw[upd_ne (hx b n)];exact n,fun b u q _ =>?_,
  fun b xs q=>by rw[upd_ne (hm b _ q fun z=>z)];exact q,fun b u xs q=>by rw[upd_ne (hm b _ q fun z=>z)];exact q,fun b ps q=>⟨#[],by rw[upd_ne (hm b _ q fun z=>z),q];simp⟩⟩
 by_cases hbe:b=e
 ·subst hbe;exact heo
 ·exact⟨u,k b u hbe q⟩
end
noncomputable def trk (h:Heap) (H:Hp):List Addr:=(List.range h.objs.size).filter fun a=>(H a).isSome
noncomputable def hidT (h:Heap) (H:Hp):Heap:=PySem.W.hideAll h (trk h H)
theorem hidT_size (h:Heap) (H:Hp):(hidT h H).objs.size=h.objs.size:=PySem.W.hideAll_size _ _
theorem hidT_get {h:Heap}{H:Hp}{b:Addr}{o:Obj}(e:h.get? b=some o) (n:H b=none):(hidT h H).get? b=some o:=
 PySem.W.hideAll_get _ e fun hm=>by have q:(H b).isSome=true:=(List.mem_filter.mp hm).2;rw[n] at q;simp at q
theorem of_hidT {h:Heap}{H:Hp}{b:Addr}{o:Obj}(e:(hidT h H).get? b=some o):h.get? b=some o∧H b=none:=by
 have e':h.get? b=some o:=PySem.W.of_hideAll (trk h H) e;refine⟨e',?_⟩;cases q:H b with
 | none=>rfl
 | some x=>
  have hm:b∈trk h H:=List.mem_filter.mpr ⟨List.mem_range.mpr (zJ e'),by simp[q]⟩
  have z:(hidT h H).get? b=none:=PySem.W.hideAll_none (trk h H) hm;rw[z] at e;cases e
noncomputable def allNews (g h:Heap) (L:Addr):List (Addr×Obj):=(List.range h.objs.size).filterMap fun a=>if a=L∨(g.get? a).isSome=true then none else (h.get? a).map fun o=>(a,o)
noncomputable def rest (g h:Heap) (L d:Addr):List (Addr×Obj):=(allNews g h L).filter fun p=>decide (p.1≠d)
end L2
namespace L2
open PySem PySem.Spec PyProof.Rows
structure Mod (K:Frag) (mg:Str→Option Value) (base:Heap):Prop where
 kin:K.In base
 glob:base.Ns mainGlobals mg
 blt:∃ mb,base.Ns builtinsNs mb∧∀ x:Str,x ≠ "__name__" →mb x=bootBuiltins x
 nolimit:base.NoLimit
structure Cx where
 prog:Program
 w:World
 K:Frag
 mg:Str→Option Value
 base:Heap
 A:Around
 N:List Str
 s₀:Shared
 H₀:Hp
 env:Env
 outer:List Env
 stack:List Env
 ex:List Addr
 fn:Str→Bool
 calm:Bool
 pn:List (Addr×Obj)
 xe:Value→Shared→Prop
noncomputable def frs (l:List Env):List Addr:=l.filterMap (·.frame)
noncomputable abbrev Cx.fs (X:Cx):List Addr:=frs X.outer
noncomputable def Vis (sc:Scope) (x:Str):Prop:=sc.names.lookup x=some .local∨sc.names.lookup x=some .cell∨sc.names.lookup x=some .free
noncomputable def Loc (sc:Scope) (x:Str):Prop:=sc.names.lookup x=some .local∨sc.names.lookup x=some .cell
noncomputable def Look (env:Env) (h:Heap) (m:Str→Option Value) (x:Str) (u:Value):Prop:=
 (env.kindOf x=some .local∧m x=some u)∨((env.kindOf x=some .cell∨env.kindOf x=some .free)∧∃ c,env.cells.lookup x=some c∧h.IsCell c (some u))
structure Cx.Ok (X:Cx):Prop where
 mod:Mod X.K X.mg X.base
 kind:X.env.scope.kind=.function
 glob:X.env.globals=mainGlobals
 blt:X.env.builtins=builtinsNs
 above:X.s₀.heap.objs.size≤X.env.locals
 inj:∀ x y c,X.env.cells.lookup x=some c→X.env.cells.lookup y=some c→x=y
 has:∀ x,(X.env.kindOf x=some .cell∨X.env.kindOf x=some .free)→∃ c,X.env.cells.lookup x=some c
 cab:∀ x c,X.fn x=true→X.env.cells.lookup x=some c→X.s₀.heap.objs.size≤c
 hd:X.calm=true→X.A.handled=none
 frames:X.A.frames=some X.stack
 stk:X.stack=X.outer∨(X.stack=X.env::X.outer∧X.env.frame=some X.env.locals)
 exf:∀ b∈X.ex,b≠X.env.locals∧∀ x c,X.env.cells.lookup x=some c→c≠b
 bs:∀ b o,X.base.get? b=some o→X.s₀.heap.get? b=some o∧X.H₀ b=none
 bsz:X.base.objs.size≤X.s₀.heap.objs.size
 noex:∀ b o,X.base.get? b=some o→b∉X.ex
 exfs:∀ b∈X.ex,b∉X.fs
 funs:X.s₀.heap.FunFrames X.base X.outer
 frf:∀ b∈X.fs,X.H₀ b=none
structure Inv (X:Cx) (pins:List (Addr×Obj)) (σ:List (Option V)) (H:Hp) (s:Shared):Prop where
 ok:X.Ok
 os:s.os=X.s₀.os
 bare:AllBare s.gens
 base:Un X.fs X.ex X.H₀ H X.s₀.heap s.heap
 loc:∃ m,s.heap.Ns X.env.locals m∧∀ (i:Nat) (x:Str) (v:V),X.N[i]?=some x→σ[i]?=some (some v)→Vis X.env.scope x→∃ u,RelV v u∧Look X.env s.heap m x u
 cell:∀ x c,X.env.cells.lookup x=some c→∃ v,s.heap.IsCell c v
 free:H X.env.locals=none
 freeC:∀ x c,X.env.cells.lookup x=some c→H c=none
 pin:∀ p∈X.pn++pins,s.heap.get? p.1=some p.2∧H p.1=none∧p.1≠X.env.locals∧p.1∉X.fs∧∀ v,p.2.data ≠ .cell v
 hok:HOk X.prog X.w H s.heap
 len:σ.length=X.N.length
noncomputable section
variable {X:Cx}{pins:List (Addr×Obj)}{σ:List (Option V)}{H H':Hp}{s:Shared}{h':Heap}
theorem Cx.Ok.nofr (ok:X.Ok){b:Addr}{o:Obj}(e:X.base.get? b=some o):b∉X.fs:=fun hb=>by
 have:=(ok.funs.mem hb).1;rw[e] at this;cases this
theorem Inv.bs (I:Inv X pins σ H s):∀ b o,X.base.get? b=some o→s.heap.get? b=some o∧H b=none:=fun b o e=>
 ⟨I.base.keep b o (I.ok.bs b o e).1 (I.ok.bs b o e).2 (I.ok.nofr e) (I.ok.noex b o e),I.base.free b o (I.ok.bs b o e).1 (I.ok.bs b o e).2 (I.ok.noex b o e)⟩
theorem Inv.bk (I:Inv X pins σ H s):∀ b o,X.base.get? b=some o→s.heap.get? b=some o:=fun b o e=>(I.bs b o e).1
theorem Inv.mod (I:Inv X pins σ H s):Mod X.K X.mg X.base:=I.ok.mod
theorem Inv.kIn (I:Inv X pins σ H s):X.K.In s.heap:=I.ok.mod.kin.keeps I.bk
theorem Inv.nolimit (I:Inv X pins σ H s):s.heap.NoLimit:=I.ok.mod.nolimit.keeps I.bk
theorem Inv.fr (I:Inv X pins σ H s):∃ m,Fr X.base X.env.locals s.heap m:=
 let ⟨m,hn,_⟩:=I.loc
 ⟨m,hn,I.bk,yB I.ok.bsz I.ok.above⟩
theorem Inv.lt (I:Inv X pins σ H s):X.env.locals<s.heap.objs.size:=let ⟨_,hn,_⟩:=I.loc;hn.lt
theorem Inv.sz (I:Inv X pins σ H s):X.s₀.heap.objs.size≤s.heap.objs.size:=yB I.ok.above (Nat.le_of_lt I.lt)
theorem Inv.nofs (I:Inv X pins σ H s){a:Addr}(h:s.heap.objs.size≤a):a∉X.fs:=fun hb=>by
 obtain⟨_,o,ho,_⟩:=I.ok.funs.mem hb;exact absurd (zS (zJ ho) (yB I.sz h)) (yF _)
theorem Inv.cne (I:Inv X pins σ H s):∀ x c,X.env.cells.lookup x=some c→c≠X.env.locals:=fun x c e z=>by
 obtain⟨v,o,ho,hd⟩:=I.cell x c e;obtain⟨m,⟨o',es,ep,ho',hd',_⟩,_⟩:=I.loc;rw[z,ho'] at ho;cases ho;rw[hd'] at hd;cases hd
theorem Inv.funs (I:Inv X pins σ H s):s.heap.FunFrames X.base X.outer:=by
 have all:∀ (l:List Env),(∀ b∈frs l,b∈X.fs)→X.s₀.heap.FunFrames X.base l→s.heap.FunFrames X.base l:=by
  intro l
  induction l with
  | nil=>intro _ _;trivial
  | cons env r ih=>
   intro hs hl;obtain⟨hk,⟨L,o,hf,hn,ho,hd⟩,hr⟩:=hl;have hL:L∈X.fs:=hs L (by unfold frs;rw[List.filterMap_cons,hf];exact zD)
   obtain⟨sl,e⟩:=I.base.slot L o ho (I.ok.frf L hL) hL fun z=>I.ok.exfs L z hL
   exact⟨hk,⟨L,_,hf,hn,e,hd⟩,ih (fun b hb=>hs b (by unfold frs;rw[List.filterMap_cons,hf];exact zB _ hb)) hr⟩
 exact all X.outer (fun _ hb=>hb) I.ok.funs
theorem Inv.stack (I:Inv X pins σ H s):s.heap.FunFrames X.base X.stack:=by
 rcases I.ok.stk with e|⟨e,hf⟩
 ·rw[e];exact I.funs
 ·rw[e];obtain⟨m,hn,_⟩:=I.loc;refine .cons (by rw[I.ok.kind];decide) hf hn ?_ I.funs
  exact Heap.get?_none_of_le (yB I.ok.bsz I.ok.above)
theorem Inv.stkSub (I:Inv X pins σ H s):∀ b∈frs X.stack,b∈X.env.locals::X.fs:=fun b hb=>by
 rcases I.ok.stk with e|⟨e,hf⟩
 ·rw[e] at hb;exact zB _ hb
 ·rw[e] at hb;unfold frs at hb;rw[List.filterMap_cons,hf] at hb;exact hb
theorem Inv.stkFree (I:Inv X pins σ H s):∀ b∈frs X.stack,H b=none:=fun b hb=>by
 rcases zG.mp (I.stkSub b hb) with e|hb
 ·rw[e];exact I.free
 ·obtain⟨_,o,ho,_⟩:=I.ok.funs.mem hb;exact I.base.free b o ho (I.ok.frf b hb) fun z=>I.ok.exfs b z hb
theorem Inv.step {g':Array GenState}{t':Nat}{d':Drawn}{ch:List Addr}(I:Inv X pins σ H s)
  (hch:∀ b∈ch,(b∈X.ex∨X.s₀.heap.objs.size≤b)∧b≠X.env.locals∧(∀ x c,X.env.cells.lookup x=some c→c≠b)∧∀ p∈X.pn++pins,p.1≠b)
  (keep:∀ b o,b≠X.env.locals→b∉X.fs→b∉ch→s.heap.get? b=some o→H b=none→h'.get? b=some o)
  (slot:∀ b o,b≠X.env.locals→b∈X.fs→b∉ch→s.heap.get? b=some o→H b=none→∃ sl,h'.get? b=some { o with slots:=sl }) (free:∀ b o,b∉ch→s.heap.get? b=some o→H b=none→H' b=none)
  (there:∀ b o,b∉ch→s.heap.get? b=some o→∃ o',h'.get? b=some o')
  (tups:∀ b xs,H b=some (.tup xs)→H' b=some (.tup xs)) (frzs:∀ b o u,H b=some (.frz o u)→H' b=some (.frz o u)) (tbls:∀ b ps,H b=some (.tbl ps)→∃ more,H' b=some (.tbl (ps++more)))
  (ns:∀ m,s.heap.Ns X.env.locals m→h'.Ns X.env.locals m) (hok:HOk X.prog X.w H' h') (hg:AllBare g') :
  Inv X pins σ H' { s with heap:=h',gens:=g',drawn:=d',toks:=t' }:=by
 have neL:∀ b o,X.s₀.heap.get? b=some o→b≠X.env.locals:=fun b o e=>zR (zS (zJ e) I.ok.above)
 have neC:∀ b o,X.s₀.heap.get? b=some o→b∉X.ex→b∉ch:=fun b o e hx hb=>by
  rcases(hch b hb).1 with z|z
  ·exact hx z
  ·exact absurd (zS (zJ e) z) (yF _)
 have cellK:∀ x c,X.env.cells.lookup x=some c→∀ v,s.heap.IsCell c v→h'.IsCell c v:=fun x c e v ⟨o,ho,hd⟩=>by
  have nch:c∉ch:=fun z=>(hch c z).2.2.1 x c e rfl
  by_cases hc:c∈X.fs
  ·obtain⟨sl,q⟩:=slot c o (I.cne x c e) hc nch ho (I.freeC x c e);exact⟨_,q,hd⟩
  ·exact⟨o,keep c o (I.cne x c e) hc nch ho (I.freeC x c e),hd⟩
 refine⟨I.ok,I.os,hg,⟨fun b o e n hb hx =>?_,fun b o e n hb hx =>?_,fun b o e n hx =>?_,fun b o e hx =>?_,fun b xs e=>tups b xs (I.base.tups b xs e),fun b o xs e=>frzs b o xs (I.base.frzs b o xs e),fun b ps e =>?_⟩,?_,fun x c e =>?_,?_,fun x c e =>?_,fun p hp =>?_,hok,I.len⟩
 ·exact keep b o (neL b o e) hb (neC b o e hx) (I.base.keep b o e n hb hx) (I.base.free b o e n hx)
 ·obtain⟨sl,e1⟩:=I.base.slot b o e n hb hx;obtain⟨sl',e2⟩:=slot b _ (neL b o e) hb (neC b o e hx) e1 (I.base.free b o e n hx);exact⟨sl',e2⟩
 ·obtain⟨o',e1⟩:=I.base.there b o e hx;exact free b o' (neC b o e hx) e1 (I.base.free b o e n hx)
 ·obtain⟨o',e1⟩:=I.base.there b o e hx;exact there b o' (neC b o e hx) e1
 ·obtain⟨m1,e1⟩:=I.base.tbls b ps e;obtain⟨m2,e2⟩:=tbls b _ e1;exact⟨m1++m2,by rw[e2,Array.append_assoc]⟩
 ·obtain⟨m,hn,hl⟩:=I.loc;refine⟨m,ns m hn,fun i x v e1 e2 e3 =>?_⟩
  obtain⟨u,r,l⟩:=hl i x v e1 e2 e3;refine⟨u,r,?_⟩;rcases l with l|⟨k,c,e,z⟩
  ·exact .inl l
  ·exact .inr ⟨k,c,e,cellK x c e _ z⟩
 ·obtain⟨v,z⟩:=I.cell x c e;exact⟨v,cellK x c e v z⟩
 ·obtain⟨m,⟨o,_,_,ho,_⟩,_⟩:=I.loc;exact free _ o (fun z=>(hch _ z).2.1 rfl) ho I.free
 ·obtain⟨v,o,ho,hd⟩:=I.cell x c e;exact free c o (fun z=>(hch c z).2.2.1 x c e rfl) ho (I.freeC x c e)
 ·obtain⟨e,n,ne,nf,d⟩:=I.pin p hp;have nch:p.1∉ch:=fun z=>(hch p.1 z).2.2.2 p hp rfl
  exact⟨keep p.1 p.2 ne nf nch e n,free p.1 p.2 nch e n,ne,nf,d⟩
theorem Inv.un {t':Nat}(I:Inv X pins σ H s) (u:Un X.fs [] H H' s.heap h') (hok:HOk X.prog X.w H' h'):Inv X pins σ H' { s with heap:=h',toks:=t' }:=by
 obtain⟨m,⟨o,es,ep,ho,r⟩,_⟩:=id I.loc;obtain⟨sl,hL⟩:=u.any ho I.free (by simp)
 exact I.step (g':=s.gens) (d':=s.drawn) (ch:=[]) (fun _ z=>nomatch z) (fun b o _ hb _ e n=>u.keep b o e n hb (by simp)) (fun b o _ hb _ e n=>u.slot b o e n hb (by simp)) (fun b o _ e n=>u.free b o e n (by simp)) (fun b o _ e=>u.there b o e (by simp)) u.tups u.frzs u.tbls (fun m' hm=>by obtain⟨o',es',ep',ho',r'⟩:=hm;rw[ho] at ho';cases ho';exact⟨_,es',ep',hL,r'⟩) hok I.bare
theorem Inv.call {g':Array GenState}{t':Nat}{d':Drawn}{ch:List Addr}(I:Inv X pins σ H s) (u:Un (frs X.stack) ch H H' s.heap h') (hok:HOk X.prog X.w H' h') (hg:AllBare g')
  (hch:∀ b∈ch,(b∈X.ex∨X.s₀.heap.objs.size≤b)∧b≠X.env.locals∧(∀ x c,X.env.cells.lookup x=some c→c≠b)∧∀ p∈X.pn++pins,p.1≠b) :
  Inv X pins σ H' { s with heap:=h',gens:=g',drawn:=d',toks:=t' }:=by
 obtain⟨m,⟨o,es,ep,ho,r⟩,_⟩:=id I.loc;obtain⟨sl,hL⟩:=u.any ho I.free fun z=>(hch _ z).2.1 rfl
 exact I.step (ch:=ch) hch (fun b o hL hb hc e n=>u.keep b o e n (fun z=>(zG.mp (I.stkSub b z)).elim hL hb) hc) (fun b o _ _ hc e n=>u.any e n hc) (fun b o hc e n=>u.free b o e n hc) (fun b o hc e=>u.there b o e hc) u.tups u.frzs u.tbls (fun m' hm=>by obtain⟨o',es',ep',ho',r'⟩:=hm;rw[ho] at ho';cases ho';exact⟨_,es',ep',hL,r'⟩) hok hg
theorem Inv.turned {t':Nat}{it:Addr}(I:Inv X pins σ H s) (k:∀ b o,b≠it→s.heap.get? b=some o→h'.get? b=some o) (hn:H it=none) (hL:it≠X.env.locals)
  (h1:it∈X.ex∨X.s₀.heap.objs.size≤it) (h2:∀ x c,X.env.cells.lookup x=some c→c≠it) (h3:∀ p∈X.pn++pins,p.1≠it):Inv X pins σ H { s with heap:=h',toks:=t' }:=by
 have nit:∀ b u,H b=some u→b≠it:=fun b u e z=>by rw[z,hn] at e;cases e
 refine I.step (g':=s.gens) (d':=s.drawn) (ch:=[it]) (fun b hb =>?_) (fun b o _ _ hc e _=>k b o (fun z=>hc (by simp[z])) e) (fun b o _ _ hc e _=>⟨o.slots,k b o (fun z=>hc (by simp[z])) e⟩) (fun _ _ _ _ n=>n)
  (fun b o hc e=>⟨o,k b o (fun z=>hc (by simp[z])) e⟩) (fun _ _ e=>e) (fun _ _ _ e=>e) (fun b ps e=>⟨#[],by rw[e];simp⟩) (fun m hm =>?_) (fun b u e =>?_) I.bare
 ·have e:b=it:=by simpa using hb
  subst e;exact⟨h1,hL,h2,h3⟩
 ·obtain⟨o,es,ep,ho,r⟩:=hm;exact⟨o,es,ep,k _ o (Ne.symm hL) ho,r⟩
 ·refine(I.hok b u e).stay (fun c v hc q=>k c v ?_ q) (fun _ q=>q) fun _ _ q=>q
  rcases hc with z|z
  ·rw[z];exact nit b u e
  ·exact nit c _ z
theorem Inv.tok (I:Inv X pins σ H s) (t:Nat):Inv X pins σ H { s with toks:=t }:=I.un (h':=s.heap) (t':=t) Un.refl I.hok
theorem Inv.kept {t':Nat}(I:Inv X pins σ H s) (k:∀ b u,s.heap.get? b=some u→h'.get? b=some u):Inv X pins σ H { s with heap:=h',toks:=t' }:=I.un (Un.kept k) (I.hok.kept k)
theorem Inv.laid {a:Addr}{o:HO}{t':Nat}(I:Inv X pins σ H s) (k:∀ b u,s.heap.get? b=some u→h'.get? b=some u) (hp:s.heap.objs.size≤a) (new:ObjOk X.prog X.w (upd H a o) h' a o) :
  Inv X pins σ (upd H a o) { s with heap:=h',toks:=t' }:=I.un (Un.laid k hp (I.hok.fresh hp)) (I.hok.laid k hp new)
theorem Inv.write {x e:Addr}{o:HO}{t':Nat}(I:Inv X pins σ H s) (mu:Mut (H x)) (he:e=x∨H e=some (.own x)) (k:∀ b u,b≠e→s.heap.get? b=some u→h'.get? b=some u) (heo:∃ u,h'.get? e=some u)
  (new:ObjOk X.prog X.w (upd H x o) h' x o):Inv X pins σ (upd H x o) { s with heap:=h',toks:=t' }:=I.un (Un.write mu he k heo) (I.hok.write mu he k heo new)
theorem Inv.weak {σ':List (Option V)}(I:Inv X pins σ H s) (hl:σ'.length=σ.length) (w:∀ (i:Nat) v,σ'[i]?=some (some v)→σ[i]?=some (some v)):Inv X pins σ' H s:=
 ⟨I.ok,I.os,I.bare,I.base,let ⟨m,hn,hl'⟩:=I.loc;⟨m,hn,fun i x v e1 e2 e3=>hl' i x v e1 (w i v e2) e3⟩,I.cell,I.free,I.freeC,I.pin,I.hok,hl.trans I.len⟩
theorem Inv.pins_of {pins':List (Addr×Obj)}(I:Inv X pins σ H s) (h:∀ p∈pins',s.heap.get? p.1=some p.2∧H p.1=none∧p.1≠X.env.locals∧p.1∉X.fs∧∀ v,p.2.data ≠ .cell v):Inv X pins' σ H s:=
 ⟨I.ok,I.os,I.bare,I.base,I.loc,I.cell,I.free,I.freeC,fun p hp=>(zO.mp hp).elim (fun z=>I.pin p (zU _ z)) (h p),I.hok,I.len⟩
theorem nodup_ix {N:List Str}(hN:N.Nodup){i j:Nat}{x:Str}(a:N[i]?=some x) (b:N[j]?=some x):i=j:=by
 obtain⟨h1,e1⟩:=zC.mp a;obtain⟨h2,e2⟩:=zC.mp b;exact(List.getElem_inj hN).mp (e1.trans e2.symm)
theorem store_ok2 {M:Model}{A:Around}{E:Value→Shared→Prop}{i:Nat}{x:Str}{v:V}{u:Value}{Q:Unit→Shared→Prop}(I:Inv X pins σ H s) (hN:X.N.Nodup) (hi:X.N[i]?=some x) (hx:Loc X.env.scope x) (r:RelV v u)
  (h:∀ s',Inv X pins (σ.set i (some v)) H s'→(∃ a,Heap.SameBut a s.heap s'.heap∧(a=X.env.locals∨X.env.cells.lookup x=some a))→Q () s') (hf:X.fn x=true∨X.env.scope.names.lookup x=some .local:=by first|exact .inl rfl|exact .inr rfl|assumption):wpAny M A (storeName X.env x u) Q E s:=by
 obtain⟨m,hn,hl⟩:=id I.loc;have hcls:(X.env.scope.kind == .class||(X.env.scope.kind == .module&&X.env.locals != X.env.globals))=false:=by rw[I.ok.kind];rfl
 have hiσ:i<σ.length:=by rw[I.len];exact(zC.mp hi).1
 have cne:=I.cne;have tracked:∀ {a:Addr}{h':Heap},(∃ o,s.heap.get? a=some o∧H a=none)→Heap.SameBut a s.heap h'→HOk X.prog X.w H h':=fun {a h'} ha hs b ob e=>by
  obtain⟨_,_,hfree⟩:=ha;refine(I.hok b ob e).stay (fun c w' hc q=>(hs.2 c ?_).trans q) (fun _ q=>q) fun _ _ q=>q
  rintro rfl;rcases hc with rfl|hc
  ·rw[hfree] at e;cases e
  ·rw[hfree] at hc;cases hc
 rcases hx with hk|hk
 ·refine wpAny_storeName_local hk hn (fun h' hn' hs =>?_) hcls
  obtain⟨oL,_,_,hoL,_⟩:=id hn;refine h _ ⟨I.ok,I.os,I.bare,⟨fun b o e n hb hx =>?_,fun b o e n hb hx =>?_,I.base.free,fun b o e hx =>?_,I.base.tups,I.base.frzs,I.base.tbls⟩,⟨_,hn',fun j y v' e1 e2 e3 =>?_⟩,fun y c e =>?_,I.free,I.freeC,fun p hp =>?_,tracked ⟨oL,hoL,I.free⟩ hs,by simpa using I.len⟩ ⟨_,hs,.inl rfl⟩
  ·exact(hs.2 b (zR (zS (zJ e) I.ok.above))).trans (I.base.keep b o e n hb hx)
  ·obtain⟨sl,e1⟩:=I.base.slot b o e n hb hx;exact⟨sl,(hs.2 b (zR (zS (zJ e) I.ok.above))).trans e1⟩
  ·obtain⟨o',e1⟩:=I.base.there b o e hx;exact⟨o',(hs.2 b (zR (zS (zJ e) I.ok.above))).trans e1⟩
  ·by_cases hj:j=i
   ·subst hj;rw[hi] at e1;cases e1;rw[List.getElem?_set_self hiσ] at e2;cases e2;exact⟨u,r,.inl ⟨hk,by simp⟩⟩
   ·rw[zK (Ne.symm hj)] at e2;obtain⟨u',r',q⟩:=hl j y v' e1 e2 e3;refine⟨u',r',?_⟩;rcases q with ⟨k,e⟩|⟨k,c,e,z⟩
    ·refine .inl ⟨k,?_⟩;have:y≠x:=fun e=>hj (nodup_ix hN e1 (e ▸ hi))
     simp[this,e]
    ·exact .inr ⟨k,c,e,z.sameBut hs (cne y c e)⟩
  ·obtain⟨w',z⟩:=I.cell y c e;exact⟨w',z.sameBut hs (cne y c e)⟩
  ·obtain⟨e,n,ne,nf,d⟩:=I.pin p hp;exact⟨(hs.2 p.1 ne).trans e,n,ne,nf,d⟩
 ·have hfn:X.fn x=true:=by
   rcases hf with z|z
   ·exact z
   ·rw[z] at hk;cases hk
  obtain⟨c,hc⟩:=I.ok.has x (.inl hk);obtain⟨w',z⟩:=I.cell x c hc;refine wpAny_storeName_cell I.ok.kind hk hc z (fun h' hc' hs =>?_)
  obtain⟨oc,hoc,hocd⟩:=id z;refine h { s with heap:=h' } ⟨I.ok,I.os,I.bare,⟨fun b o e n hb hx =>?_,fun b o e n hb hx =>?_,I.base.free,fun b o e hx =>?_,I.base.tups,I.base.frzs,I.base.tbls⟩,⟨m,hn.sameBut hs (Ne.symm (cne x c hc)),fun j y v' e1 e2 e3 =>?_⟩,fun y c' e =>?_,I.free,I.freeC,fun p hp =>?_,tracked ⟨oc,hoc,I.freeC x c hc⟩ hs,by simpa using I.len⟩ ⟨c,hs,.inr hc⟩
  ·exact(hs.2 b (zR (zS (zJ e) (I.ok.cab x c hfn hc)))).trans (I.base.keep b o e n hb hx)
  ·obtain⟨sl,e1⟩:=I.base.slot b o e n hb hx;exact⟨sl,(hs.2 b (zR (zS (zJ e) (I.ok.cab x c hfn hc)))).trans e1⟩
  ·obtain⟨o',e1⟩:=I.base.there b o e hx;exact⟨o',(hs.2 b (zR (zS (zJ e) (I.ok.cab x c hfn hc)))).trans e1⟩
  ·by_cases hj:j=i
   ·subst hj;rw[hi] at e1;cases e1;rw[List.getElem?_set_self hiσ] at e2;cases e2;exact⟨u,r,.inr ⟨.inl hk,c,hc,hc'⟩⟩
   ·rw[zK (Ne.symm hj)] at e2;obtain⟨u',r',q⟩:=hl j y v' e1 e2 e3;refine⟨u',r',?_⟩;rcases q with q|⟨k,c',e,z'⟩
    ·exact .inl q
    ·refine .inr ⟨k,c',e,z'.sameBut hs ?_⟩;rintro rfl;exact hj (nodup_ix hN e1 (I.ok.inj _ _ _ e hc ▸ hi))
  ·by_cases hcc:c'=c
   ·subst hcc;exact⟨_,hc'⟩
   ·obtain⟨w2,z2⟩:=I.cell y c' e;exact⟨w2,z2.sameBut hs hcc⟩
  ·obtain⟨e,n,ne,nf,d⟩:=I.pin p hp;refine⟨(hs.2 p.1 ?_).trans e,n,ne,nf,d⟩;intro q;rw[q,hoc] at e;have q':oc=p.2:=yA e;exact d w' (by rw[← q'];exact hocd)
theorem store_ok {M:Model}{A:Around}{E:Value→Shared→Prop}{i:Nat}{x:Str}{v:V}{u:Value}{Q:Unit→Shared→Prop}(I:Inv X pins σ H s) (hN:X.N.Nodup) (hi:X.N[i]?=some x) (hx:Loc X.env.scope x) (r:RelV v u)
  (h:∀ s',Inv X pins (σ.set i (some v)) H s'→Q () s') (hf:X.fn x=true∨X.env.scope.names.lookup x=some .local:=by first|exact .inl rfl|exact .inr rfl|assumption):wpAny M A (storeName X.env x u) Q E s:=
 store_ok2 I hN hi hx r (fun s' I' _=>h s' I') hf
theorem Inv.call' {s':Shared}{ch:List Addr}(I:Inv X pins σ H s) (ho:s'.os=s.os) (u:Un (frs X.stack) ch H H' s.heap s'.heap) (hok:HOk X.prog X.w H' s'.heap) (hg:AllBare s'.gens)
  (hch:∀ b∈ch,(b∈X.ex∨X.s₀.heap.objs.size≤b)∧b≠X.env.locals∧(∀ x c,X.env.cells.lookup x=some c→c≠b)∧∀ p∈X.pn++pins,p.1≠b):Inv X pins σ H' s':=by
 obtain⟨h',g',d',t',o'⟩:=s';have e:o'=s.os:=ho;subst e;exact I.call (g':=g') (t':=t') (d':=d') u hok hg hch
end
noncomputable abbrev XK:=Value→Option Addr→Hp→Prop
noncomputable abbrev St:=List (Option V)
noncomputable abbrev VK:=V→Hp→Prop
noncomputable abbrev TE:=St→Hp→VK→Prop
noncomputable abbrev TT:=St→Hp→(Bool→Hp→Prop)→Prop
noncomputable abbrev TA:=St→Hp→(List V→Hp→Prop)→Prop
structure Ends where
 nx:St→Hp→Prop
 rt:VK
 bk:St→Hp→Prop:=fun _ _=>False
 ct:St→Hp→Prop:=fun _ _=>False
noncomputable abbrev TS:=Ends→St→Hp→Prop
noncomputable def EP (X:Cx) (pins:List (Addr×Obj)) (σ:St) (Q:VK) (u:Value) (s':Shared):Prop:=∃ v H',Inv X pins σ H' s'∧RelV v u∧Q v H'
noncomputable def TP (X:Cx) (pins:List (Addr×Obj)) (σ:St) (Q:Bool→Hp→Prop) (b:Bool) (s':Shared):Prop:=∃ H',Inv X pins σ H' s'∧Q b H'
noncomputable def AP (X:Cx) (pins:List (Addr×Obj)) (σ:St) (Q:List V→Hp→Prop) (us:List Value) (s':Shared):Prop:=∃ vs H',Inv X pins σ H' s'∧Vals vs us∧Q vs H'
noncomputable def SP (X:Cx) (pins:List (Addr×Obj)) (D:Ends) (f:Flow) (s':Shared):Prop:=
 match f with
 | .next=>∃ σ' H',Inv X pins σ' H' s'∧D.nx σ' H'
 | .brk=>∃ σ' H',Inv X pins σ' H' s'∧D.bk σ' H'
 | .cont=>∃ σ' H',Inv X pins σ' H' s'∧D.ct σ' H'
 | .ret u=>∃ v σ' H',Inv X pins σ' H' s'∧RelV v u∧D.rt v H'
noncomputable def PE (X:Cx) (e:Expr) (t:TE):Prop:=
 ∀ (pins:List (Addr×Obj)) (s:Shared) (σ:St) (H:Hp) (Q:VK),Inv X pins σ H s→t σ H Q→wpAny (model X.prog X.w) X.A (eval e X.env) (EP X pins σ Q) X.xe s
noncomputable def PT (X:Cx) (e:Expr) (t:TT):Prop:=
 ∀ (pins:List (Addr×Obj)) (s:Shared) (σ:St) (H:Hp) (Q:Bool→Hp→Prop),Inv X pins σ H s→t σ H Q→wpAny (model X.prog X.w) X.A (isTrue e X.env (eval e X.env)) (TP X pins σ Q) X.xe s
noncomputable def PW (X:Cx) (e:Expr) (t:TT):Prop:=
 ∀ (whole:Sem Value) (pins:List (Addr×Obj)) (s:Shared) (σ:St) (H:Hp) (Q:Bool→Hp→Prop),Inv X pins σ H s→t σ H Q→wpAny (model X.prog X.w) X.A (isTrue e X.env whole) (TP X pins σ Q) X.xe s
theorem PW.pt {X:Cx}{e:Expr}{t:TT}(h:PW X e t):PT X e t:=h _
noncomputable def PA (X:Cx) (es:List Expr) (t:TA):Prop:=
 ∀ (pos:Pos) (pins:List (Addr×Obj)) (s:Shared) (σ:St) (H:Hp) (Q:List V→Hp→Prop),Inv X pins σ H s→t σ H Q→wpAny (model X.prog X.w) X.A (spliced (backTo pos (starEach es X.env))) (AP X pins σ Q) X.xe s
noncomputable def PS (X:Cx) (st:Stmt) (t:TS):Prop:=
 ∀ (pins:List (Addr×Obj)) (s:Shared) (σ:St) (H:Hp) (D:Ends),Inv X pins σ H s→t D σ H→wpAny (model X.prog X.w) X.A (exec st X.env) (SP X pins D) X.xe s
noncomputable def PSs (X:Cx) (st:List Stmt) (t:TS):Prop:=
 ∀ (pins:List (Addr×Obj)) (s:Shared) (σ:St) (H:Hp) (D:Ends),Inv X pins σ H s→t D σ H→wpAny (model X.prog X.w) X.A (execs st X.env) (SP X pins D) X.xe s
theorem thn {α:Type}{t:Sem α}{Q Q':α→Shared→Prop}{M:Model}{A:Around}{E:Value→Shared→Prop}{s:Shared}(h:wpAny M A t Q E s) (hQ:∀ a s,Q a s→Q' a s):wpAny M A t Q' E s:=wpAny_mono h hQ fun _ _ x=>x
end L2
namespace L2
open PySem PySem.Spec PyProof.Rows
noncomputable section
variable {X:Cx}
theorem bin {a b:Expr}{ta tb:TE}(ha:PE X a ta) (hb:PE X b tb){pins:List (Addr×Obj)}{s:Shared}{σ:St}{H:Hp}{R:V→V→Hp→Prop}(I:Inv X pins σ H s) (h:ta σ H fun x H1=>tb σ H1 fun y H2=>R x y H2)
  {α:Type}{Q:α→Shared→Prop}{f:Value→Value→Sem α}
  (hf:∀ v u s2 x y H2,Inv X pins σ H2 s2→RelV x v→RelV y u→R x y H2→wpAny (model X.prog X.w) X.A (f v u) Q X.xe s2) :
  wpAny (model X.prog X.w) X.A (eval a X.env) (fun v s₁=>wpAny (model X.prog X.w) X.A (eval b X.env) (fun u s₂=>wpAny (model X.prog X.w) X.A (f v u) Q X.xe s₂) X.xe s₁) X.xe s:=by
 refine thn (ha pins s σ H _ I h) fun v s1 ⟨x,H1,I1,r1,q1⟩ =>?_
 refine thn (hb pins s1 σ H1 _ I1 q1) fun u s2 ⟨y,H2,I2,r2,q2⟩ =>?_
 exact hf v u s2 x y H2 I2 r1 r2 q2
noncomputable def tVar (i:Nat):TE:=fun σ H Q=>∃ v,σ[i]?=some (some v)∧Q v H
noncomputable def tC (v:V):TE:=fun _ H Q=>Q v H
theorem pe_var {i:Nat}{x:Str}{pos:Pos}(hN:X.N[i]?=some x) (hv:Vis X.env.scope x) (hd:(x==("__debug__" : Str))=false:=by decide) (hcd:(x==("__classdict__" : Str))=false:=by decide):PE X (.Name x pos) (tVar i):=by
 intro pins s σ H Q I h;obtain⟨v,e,h⟩:=h;obtain⟨m,hn,hl⟩:=I.loc;obtain⟨u,r,l⟩:=hl i x v hN e hv;have fin:EP X pins σ Q u s:=⟨v,H,I,r,h⟩;rcases l with ⟨hk,hm⟩|⟨hk,c,hc,hcell⟩
 ·exact wpAny_Name (wpAny_loadName_local I.ok.kind hk hn hm fin) hd
 ·rcases hk with hk|hk
  ·exact wpAny_Name (wpAny_loadName_cell I.ok.kind hk hc hcell fin) hd
  ·exact wpAny_Name (wpAny_loadName_free I.ok.kind hk hc hcell fin hcd) hd
theorem pe_int {i j pos}:PE X (.Constant (.int i) j pos) (tC (.int i)):=fun _ _ _ H _ I h=>wpAny_Constant_int ⟨.int i,H,I.tok _,⟨_,rfl⟩,h⟩
theorem pe_bl {b j pos}:PE X (.Constant (.bool b) j pos) (tC (.bl b)):=fun _ _ _ H _ I h=>Constant_bool ⟨.bl b,H,I,rfl,h⟩
theorem pe_non {j pos}:PE X (.Constant .none j pos) (tC .non):=fun _ _ _ H _ I h=>Constant_none ⟨.non,H,I,rfl,h⟩
theorem pe_str {x j pos}:PE X (.Constant (.str x) j pos) (tC (.str x)):=fun _ _ _ H _ I h=>Calls.Constant_str ⟨.str x,H,I.tok _,⟨_,rfl⟩,h⟩
noncomputable def Gl (X:Cx) (x:Str):Prop:=X.env.kindOf x=some .globalImplicit
theorem ld_glob {E:Value→Shared→Prop}{pins:List (Addr×Obj)}{s:Shared}{σ:St}{H:Hp}{x:Str}{u:Value}{pos:Pos}{Q:Value→Shared→Prop}(I:Inv X pins σ H s) (hg:Gl X x) (hm:X.mg x=some u) (h:Q u s)
  (hd:(x==("__debug__" : Str))=false:=by decide):wpAny (model X.prog X.w) X.A (eval (.Name x pos) X.env) Q E s:=
 Calls.Name_function_global I.ok.kind hg (Calls.loadGlobal_global (by rw[I.ok.glob];exact I.mod.glob.keeps I.bk) hm h) hd
theorem ld_blt {E:Value→Shared→Prop}{pins:List (Addr×Obj)}{s:Shared}{σ:St}{H:Hp}{x:Str}{u:Value}{pos:Pos}{Q:Value→Shared→Prop}(I:Inv X pins σ H s) (hg:Gl X x) (hm:X.mg x=none) (hv:bootBuiltins x=some u) (h:Q u s)
  (hn:x ≠ "__name__" :=by decide) (hd:(x==("__debug__" : Str))=false:=by decide):wpAny (model X.prog X.w) X.A (eval (.Name x pos) X.env) Q E s:=by
 obtain⟨mb,h1,h2⟩:=I.mod.blt;exact Calls.Name_function_global I.ok.kind hg (Calls.loadGlobal_builtin (by rw[I.ok.glob];exact I.mod.glob.keeps I.bk) hm (by rw[I.ok.blt];exact h1.keeps I.bk) ((h2 x hn).trans hv) h) hd
theorem pe_bltn {x:Str}{v:V}{u:Value}{pos:Pos}(hg:Gl X x) (hm:X.mg x=none) (hv:bootBuiltins x=some u) (r:RelV v u) (hn:x ≠ "__name__" :=by decide) (hd:(x==("__debug__" : Str))=false:=by decide):PE X (.Name x pos) (tC v):=
 fun _ _ _ H _ I h=>ld_blt I hg hm hv ⟨v,H,I,r,h⟩ hn hd
variable {a b:Expr}{ta tb:TE}{pos:Pos}
variable {tA tB':TT}{rest:List Expr}
noncomputable def tAnd (t u:TT):TT:=fun σ H Q=>t σ H fun c H1=>if c=true then u σ H1 Q else Q false H1
noncomputable def tOr (t u:TT):TT:=fun σ H Q=>t σ H fun c H1=>if c=true then Q true H1 else u σ H1 Q
noncomputable def tNot (t:TT):TT:=fun σ H Q=>t σ H fun c H1=>Q (!c) H1
theorem pw_and1 (ha:PT X a tA):PW X (.BoolOp .And [a] pos) tA:=by
 intro wh pins s σ H Q I h;refine isTrue_and (thn (ha pins s σ H Q I h) fun c s1 e =>?_)
 cases c with
 | true=>exact isTrue_and_nil e
 | false=>exact e
theorem pw_or1 (ha:PT X a tA):PW X (.BoolOp .Or [a] pos) tA:=by
 intro wh pins s σ H Q I h;refine isTrue_or (thn (ha pins s σ H Q I h) fun c s1 e =>?_)
 cases c with
 | false=>exact isTrue_or_nil e
 | true=>exact e
theorem pw_and (ha:PT X a tA) (hb:PW X (.BoolOp .And (b::rest) pos) tB'):PW X (.BoolOp .And (a::b::rest) pos) (tAnd tA tB'):=by
 intro wh pins s σ H Q I h;refine isTrue_and (thn (ha pins s σ H _ I h) fun c s1 ⟨H1,I1,q1⟩ =>?_)
 cases c with
 | true=>exact hb wh pins s1 σ H1 Q I1 q1
 | false=>exact⟨H1,I1,q1⟩
theorem pw_or (ha:PT X a tA) (hb:PW X (.BoolOp .Or (b::rest) pos) tB'):PW X (.BoolOp .Or (a::b::rest) pos) (tOr tA tB'):=by
 intro wh pins s σ H Q I h;refine isTrue_or (thn (ha pins s σ H _ I h) fun c s1 ⟨H1,I1,q1⟩ =>?_)
 cases c with
 | true=>exact⟨H1,I1,q1⟩
 | false=>exact hb wh pins s1 σ H1 Q I1 q1
theorem pt_not (ha:PT X a tA):PT X (.UnaryOp .Not a pos) (tNot tA):=by
 intro pins s σ H Q I h;exact isTrue_not (ha pins s σ H (fun c H1=>Q (!c) H1) I h)
noncomputable def tAndV (ta tb:TE):TE:=fun σ H Q=>ta σ H fun x H1=>∃ c,x=.bl c∧if c=true then tb σ H1 Q else Q (.bl false) H1
noncomputable def tOrV (ta tb:TE):TE:=fun σ H Q=>ta σ H fun x H1=>∃ c,x=.bl c∧if c=true then Q (.bl true) H1 else tb σ H1 Q
noncomputable def tNotV (ta:TE):TE:=fun σ H Q=>ta σ H fun x H1=>∃ c,x=.bl c∧Q (.bl (!c)) H1
theorem pe_one {op} {t:TE}(h:PE X a t):PE X (.BoolOp op [a] pos) t:=fun pins s σ H Q I hw=>BoolOp_one (h pins s σ H Q I hw)
theorem pe_and (ha:PE X a ta) (hb:PE X (.BoolOp .And (b::rest) pos) tb):PE X (.BoolOp .And (a::b::rest) pos) (tAndV ta tb):=by
 intro pins s σ H Q I h;refine BoolOp_and (thn (ha pins s σ H _ I h) fun v s1 ⟨x,H1,I1,r1,q1⟩ =>?_)
 obtain⟨c,rfl,q1⟩:=q1;cases r1;refine wpAny_truthy_bool ?_;cases c with
 | true=>exact hb pins s1 σ H1 Q I1 q1
 | false=>exact⟨.bl false,H1,I1,rfl,q1⟩
theorem pe_or (ha:PE X a ta) (hb:PE X (.BoolOp .Or (b::rest) pos) tb):PE X (.BoolOp .Or (a::b::rest) pos) (tOrV ta tb):=by
 intro pins s σ H Q I h;refine BoolOp_or (thn (ha pins s σ H _ I h) fun v s1 ⟨x,H1,I1,r1,q1⟩ =>?_)
 obtain⟨c,rfl,q1⟩:=q1;cases r1;refine wpAny_truthy_bool ?_;cases c with
 | false=>exact hb pins s1 σ H1 Q I1 q1
 | true=>exact⟨.bl true,H1,I1,rfl,q1⟩
theorem pe_not (ha:PE X a ta):PE X (.UnaryOp .Not a pos) (tNotV ta):=by
 intro pins s σ H Q I h;refine UnaryOp_ (thn (ha pins s σ H _ I h) fun v s1 ⟨x,H1,I1,r1,q1⟩ =>?_)
 obtain⟨c,rfl,q1⟩:=q1;cases r1;exact not_of (wpAny_truthy_bool ⟨.bl (!c),H1,I1,rfl,q1⟩)
noncomputable def tIf (t:TT) (ta tb:TE):TE:=fun σ H Q=>t σ H fun c H1=>if c=true then ta σ H1 Q else tb σ H1 Q
theorem pe_ifExp {c:Expr}(hc:PT X c tA) (ha:PE X a ta) (hb:PE X b tb):PE X (.IfExp c a b pos) (tIf tA ta tb):=by
 intro pins s σ H Q I h;refine wpAny_IfExp (thn (hc pins s σ H _ I h) fun d s1 ⟨H1,I1,q1⟩ =>?_)
 cases d with
 | true=>exact ha pins s1 σ H1 Q I1 q1
 | false=>exact hb pins s1 σ H1 Q I1 q1
end
end L2
namespace L2
open PySem PySem.Spec PyProof.Rows
noncomputable def SqL (K:Frag) (H:Hp) (a:Addr) (xs:List V):Prop:=
 Rd H a (.lst xs) ∨
  ∃ (o:Obj) (its:Array Value) (n:Nat),K.lookup a=some o∧o.cls=.type "list" ∧o.dict=none∧o.data=.seq its n∧its.size≤sizeLine∧Vals xs its.toList
noncomputable def SqT (K:Frag) (H:Hp) (a:Addr) (xs:List V):Prop:=
 Rd H a (.tup xs) ∨
  ∃ (o:Obj) (its:Array Value) (n:Nat),K.lookup a=some o∧o.cls=.type "tuple" ∧o.data=.seq its n∧its.size≤sizeLine∧Vals xs its.toList
noncomputable def absV:Value→Option V
 | .none=>some .non
 | .bool b=>some (.bl b)
 | .int i _=>some (.int i)
 | .str x _=>some (.str x)
 | .bytes b _=>some (.byt b)
 | .float b _=>some (.flt b)
 | .ref a=>some (.ref a)
 | .type n=>some (.ty n)
 | _=>none
theorem RelV.abs {x:V}{u:Value}(r:RelV x u):absV u=some x:=by
 cases x with
 | non=>cases r;rfl
 | bl _=>cases r;rfl
 | int _=>obtain⟨t,rfl⟩:=r;rfl
 | str _=>obtain⟨t,rfl⟩:=r;rfl
 | byt _=>obtain⟨t,rfl⟩:=r;rfl
 | flt _=>obtain⟨t,rfl⟩:=r;rfl
 | ref _=>cases r;rfl
 | ty _=>cases r;rfl
theorem RelV.inj {x y:V}{u:Value}(r:RelV x u) (q:RelV y u):x=y:=yA (r.abs.symm.trans q.abs)
theorem Vals.inj:∀ {xs ys:List V}{us:List Value},Vals xs us→Vals ys us→xs=ys
 | _,_,_,.nil,.nil=>rfl
 | _,_,_,.cons r t,.cons r' t'=>by rw[r.inj r',Vals.inj t t']
noncomputable section
variable {X:Cx}{pins:List (Addr×Obj)}{σ:St}{H:Hp}{s:Shared}{a:Addr}{xs ys:List V}
theorem SqL.of {K:Frag}(h:H a=some (.lst xs)):SqL K H a xs :=.inl (.inl h)
theorem SqT.of {K:Frag}(h:H a=some (.tup xs)):SqT K H a xs :=.inl (.inl h)
theorem Inv.list (I:Inv X pins σ H s) (h:SqL X.K H a xs):∃ its:List Value,Vals xs its∧PlainL s.heap a its.toArray∧xs.length≤sizeLine:=by
 rcases h with h|⟨o,its,n,hk,hc,hd,hs,hz,r⟩
 ·obtain⟨z,its,n,r,e⟩:=h.ok I.hok;exact⟨its,r,⟨_,n,e,rfl,rfl,rfl⟩,z⟩
 ·refine⟨its.toList,r,⟨o,n,I.kIn a o hk,hc,hd,by simpa using hs⟩,?_⟩
  have e:=r.length;simp only[yD] at e;omega
theorem Inv.tuple (I:Inv X pins σ H s) (h:SqT X.K H a xs):∃ its:List Value,Vals xs its∧IsTup s.heap a its.toArray∧xs.length≤sizeLine:=by
 rcases h with h|⟨o,its,n,hk,hc,hs,hz,r⟩
 ·obtain⟨z,its,r,p⟩:=h.ok I.hok;exact⟨its,r,p,z⟩
 ·refine⟨its.toList,r,⟨o,I.kIn a o hk,hc,n,by simpa using hs⟩,?_⟩
  have e:=r.length;simp only[yD] at e;omega
theorem Inv.list_inj (I:Inv X pins σ H s) (h:SqL X.K H a xs) (h':SqL X.K H a ys):xs=ys:=by
 obtain⟨its,r,⟨o,n,e,_,_,d⟩,_⟩:=I.list h;obtain⟨its',r',⟨o',n',e',_,_,d'⟩,_⟩:=I.list h';rw[e] at e';cases e';rw[d] at d';injection d' with d1 _;have:its=its':=by simpa using congrArg Array.toList d1
 subst this;exact r.inj r'
end
noncomputable abbrev Cx.wish (X:Cx) (E:Value→Shared→Prop):Cx:={ X with xe:=E }
noncomputable abbrev Cx.nox (X:Cx):Cx:=X.wish fun _ _=>False
theorem Cx.Ok.wish {X:Cx}(ok:X.Ok) (E:Value→Shared→Prop):(X.wish E).Ok:=
 ⟨ok.mod,ok.kind,ok.glob,ok.blt,ok.above,ok.inj,ok.has,ok.cab,ok.hd,ok.frames,ok.stk,ok.exf,ok.bs,ok.bsz,ok.noex,ok.exfs,ok.funs,ok.frf⟩
theorem Cx.Ok.unwish {X:Cx}{E:Value→Shared→Prop}(ok:(X.wish E).Ok):X.Ok:=
 ⟨ok.mod,ok.kind,ok.glob,ok.blt,ok.above,ok.inj,ok.has,ok.cab,ok.hd,ok.frames,ok.stk,ok.exf,ok.bs,ok.bsz,ok.noex,ok.exfs,ok.funs,ok.frf⟩
noncomputable section
variable {X:Cx}{pins:List (Addr×Obj)}{σ:St}{H:Hp}{s:Shared}{E:Value→Shared→Prop}
theorem Inv.wish (I:Inv X pins σ H s) (E:Value→Shared→Prop):Inv (X.wish E) pins σ H s:=⟨I.ok.wish E,I.os,I.bare,I.base,I.loc,I.cell,I.free,I.freeC,I.pin,I.hok,I.len⟩
theorem Inv.unwish (I:Inv (X.wish E) pins σ H s):Inv X pins σ H s:=⟨I.ok.unwish,I.os,I.bare,I.base,I.loc,I.cell,I.free,I.freeC,I.pin,I.hok,I.len⟩
theorem SP.unwish {D:Ends}{f:Flow}{s':Shared}(h:SP (X.wish E) pins D f s'):SP X pins D f s':=by
 cases f with
 | next=>obtain⟨σ',H',I,q⟩:=h;exact⟨σ',H',I.unwish,q⟩
 | brk=>obtain⟨σ',H',I,q⟩:=h;exact⟨σ',H',I.unwish,q⟩
 | cont=>obtain⟨σ',H',I,q⟩:=h;exact⟨σ',H',I.unwish,q⟩
 | ret u=>obtain⟨v,σ',H',I,r,q⟩:=h;exact⟨v,σ',H',I.unwish,r,q⟩
theorem PSs.nox {st:List Stmt}{t:TS}(h:PSs X.nox st t):PSs X st t:=fun pins s σ H D I hw=>
 wpAny_mono (h pins s σ H D (I.wish _) hw) (fun _ _ q=>q.unwish) fun _ _ z=>False.elim z
end
noncomputable section
variable {X:Cx}{st:Stmt}{rest:List Stmt}{t u:TS}{e:Expr}{te:TE}{pos:Pos}
noncomputable def tNext:TS:=fun D σ H=>D.nx σ H
noncomputable def tSeq (t u:TS):TS:=fun D σ H=>t { D with nx:=u D } σ H
theorem pss_nil:PSs X [] tNext:=fun _ _ σ H _ I h=>wpAny_execs_nil ⟨σ,H,I,h⟩
theorem pss_cons (h1:PS X st t) (h2:PSs X rest u):PSs X (st::rest) (tSeq t u):=by
 intro pins s σ H D I h;refine wpAny_execs_cons (thn (h1 pins s σ H { D with nx:=u D } I h) fun f s1 q =>?_)
 cases f with
 | next=>obtain⟨σ',H',I',q⟩:=q;exact h2 pins s1 σ' H' D I' q
 | ret v=>exact q
 | brk=>exact q
 | cont=>exact q
theorem pss_one (h1:PS X st t):PSs X [st] t:=by
 intro pins s σ H D I h;refine wpAny_execs_cons (thn (h1 pins s σ H D I h) fun f s1 q =>?_)
 cases f with
 | next=>exact wpAny_execs_nil q
 | ret v=>exact q
 | brk=>exact q
 | cont=>exact q
theorem Inv.quiet {pins:List (Addr×Obj)}{σ:St}{H:Hp}{s:Shared}(I:Inv X pins σ H s):interactive X.env=false:=by simp[interactive,I.ok.kind]
noncomputable def tDrop (te:TE):TS:=fun D σ H=>te σ H fun _ H1=>D.nx σ H1
theorem ps_expr (he:PE X e te) (hs:swapsWith e none pos.line X.env=pure false:=by rfl):PS X (.Expr e pos) (tDrop te):=by
 intro pins s σ H D I h;exact wpAny_Expr_any (thn (he pins s σ H _ I h) fun v s1 ⟨x,H1,I1,r1,q1⟩=>⟨σ,H1,I1,q1⟩) I.quiet hs
noncomputable def tRet (te:TE):TS:=fun D σ H=>te σ H D.rt
theorem ps_ret (he:PE X e te):PS X (.Return (some e) pos) (tRet te):=by
 intro pins s σ H D I h;exact wpAny_Return_some (thn (he pins s σ H _ I h) fun v s1 ⟨x,H1,I1,r1,q1⟩=>⟨x,σ,H1,I1,r1,q1⟩)
noncomputable def tIfS (c:TT) (t u:TS):TS:=fun D σ H=>c σ H fun b H1=>if b=true then t D σ H1 else u D σ H1
theorem ps_if {c:Expr}{a b:List Stmt}{tc:TT}(hc:PT X c tc) (ha:PSs X a t) (hb:PSs X b u):PS X (.If c a b pos) (tIfS tc t u):=by
 intro pins s σ H D I h;refine wpAny_If (thn (hc pins s σ H _ I h) fun d s1 ⟨H1,I1,q1⟩ =>?_)
 cases d with
 | true=>exact ha pins s1 σ H1 D I1 q1
 | false=>exact hb pins s1 σ H1 D I1 q1
end
noncomputable abbrev TG:=V→St→Hp→(St→Hp→Prop)→Prop
noncomputable abbrev TGs:=List V→St→Hp→(St→Hp→Prop)→Prop
noncomputable def PG (X:Cx) (target:Expr) (t:TG):Prop:=
 ∀ (pins:List (Addr×Obj)) (s:Shared) (σ:St) (H:Hp) (v:V) (u:Value) (Q:St→Hp→Prop),Inv X pins σ H s→RelV v u→t v σ H Q →
  wpAny (model X.prog X.w) X.A (assign target X.env u) (fun _ s'=>∃ σ' H',Inv X pins σ' H' s'∧Q σ' H') X.xe s
noncomputable def PGs (X:Cx) (ts:List Expr) (t:TGs):Prop:=
 ∀ (pins:List (Addr×Obj)) (s:Shared) (σ:St) (H:Hp) (vs:List V) (us:List Value) (Q:St→Hp→Prop),Inv X pins σ H s→Vals vs us→t vs σ H Q →
  wpAny (model X.prog X.w) X.A (assignInOrder ((assignEach ts X.env).map (·.2)) us) (fun _ s'=>∃ σ' H',Inv X pins σ' H' s'∧Q σ' H') X.xe s
noncomputable abbrev TSet:=V→V→V→Hp→(Hp→Prop)→Prop
noncomputable def PSet (X:Cx) (t:TSet):Prop:=
 ∀ (pins:List (Addr×Obj)) (s:Shared) (σ:St) (H:Hp) (o i v:V) (ov iv u:Value) (Q:Hp→Prop),Inv X pins σ H s→RelV o ov→RelV i iv→RelV v u→t o i v H Q →
  wpAny (model X.prog X.w) X.A (setItem ov iv u) (fun _ s'=>∃ H',Inv X pins σ H' s'∧Q H') X.xe s
noncomputable section
variable {X:Cx}{pos:Pos}
noncomputable def gName (i:Nat):TG:=fun v σ H Q=>Q (σ.set i (some v)) H
theorem pg_name {i:Nat}{x:Str}(hN:X.N.Nodup) (hi:X.N[i]?=some x) (hx:Loc X.env.scope x) (hf:X.fn x=true∨X.env.scope.names.lookup x=some .local:=by first|exact .inl rfl|exact .inr rfl|assumption):PG X (.Name x pos) (gName i):=by
 intro pins s σ H v u Q I r h;exact wpAny_assign_Name (store_ok I hN hi hx r (fun s' I'=>⟨_,H,I',h⟩) hf)
noncomputable def gNil:TGs:=fun vs σ H Q=>vs=[]∧Q σ H
noncomputable def gCons (t:TG) (u:TGs):TGs:=fun vs σ H Q=>∃ v r,vs=v::r∧t v σ H fun σ' H'=>u r σ' H' Q
theorem pgs_nil:PGs X [] gNil:=by
 intro pins s σ H vs us Q I r h;obtain⟨e,h⟩:=h;subst e;cases r;exact assignInOrder_nil ⟨σ,H,I,h⟩
theorem pgs_cons {e:Expr}{es:List Expr}{t:TG}{u:TGs}(h1:PG X e t) (h2:PGs X es u)
  (hs:(assignEach (e::es) X.env).map (·.2)=assign e X.env::(assignEach es X.env).map (·.2):=by rfl):PGs X (e::es) (gCons t u):=by
 intro pins s σ H vs us Q I r h;obtain⟨v,vr,e1,h⟩:=h;subst e1;cases r with
 | cons r rr=>
  rw[hs];refine assignInOrder_cons (thn (h1 pins s σ H _ _ _ I r h) fun _ s1 ⟨σ1,H1,I1,q1⟩ =>?_)
  exact h2 pins s1 σ1 H1 _ _ Q I1 rr q1
noncomputable def gTup (K:Frag) (n:Nat) (t:TGs):TG:=fun v σ H Q=>∃ a xs,v=.ref a∧SqT K H a xs∧xs.length=n∧t xs σ H Q
theorem pg_tup {es:List Expr}{k:Nat}{t:TGs}{n:Nat}(hc:X.calm=true) (h:PGs X es t)
  (hn:(assignEach es X.env).length=n:=by rfl) (hst:(assignEach es X.env).findIdx? (·.1)=none:=by rfl):PG X (.Tuple es k pos) (gTup X.K n t):=by
 intro pins s σ H v u Q I r hw;obtain⟨a,xs,e1,hq,hl,hw⟩:=hw;subst e1;cases r;obtain⟨its,rv,ht,hz⟩:=I.tuple hq;refine assign_Tuple_tuple (I.ok.hd hc) ht (by simp[hn,← hl,rv.length]) hst fun h' hx =>?_
 have I1:Inv X pins σ H { s with heap:=h' }:=I.kept (t':=s.toks) fun b o e=>hx b o (zR (zJ e)) e
 exact h pins _ σ H xs _ Q I1 (by simpa using rv) hw
noncomputable def gSub (to ti:TE) (t:TSet):TG:=fun v σ H Q=>to σ H fun o H1=>ti σ H1 fun i H2=>t o i v H2 fun H3=>Q σ H3
theorem pg_sub {o i:Expr}{to ti:TE}{t:TSet}(ho:PE X o to) (hi:PE X i ti) (hs:PSet X t)
  (ha:∀ v,assign (.Subscript o i pos) X.env v=(do
   let ov ← holding [v] (eval o X.env)
   let iv ← holding [v,ov] (eval i X.env)
   standAt pos
   holding [v,ov,iv] (setItem ov iv v)
   release [v,ov,iv] []):=by intro _;rfl):PG X (.Subscript o i pos) (gSub to ti t):=by
 intro pins s σ H v u Q I r h;rw[ha];refine zE (wpAny_holding (thn (ho pins s σ H _ I h) fun ov s1 ⟨x,H1,I1,r1,q1⟩ =>?_))
 refine zE (wpAny_holding (thn (hi pins s1 σ H1 _ I1 q1) fun iv s2 ⟨y,H2,I2,r2,q2⟩ =>?_))
 refine zE (wpAny_standAt (zE (wpAny_holding (thn (hs pins s2 σ H2 x y v ov iv u _ I2 r1 r2 r q2) fun _ s3 ⟨H3,I3,q3⟩ =>?_))))
 exact wpAny_release ⟨σ,H3,I3,q3⟩
noncomputable def tAsg (te:TE) (g:TG):TS:=fun D σ H=>te σ H fun x H1=>g x σ H1 D.nx
theorem ps_asg {tg e:Expr}{te:TE}{g:TG}(he:PE X e te) (hg:PG X tg g) (hs:swapsWithSole [tg] e pos.line X.env=pure false:=by rfl) (hw:swappedStores [tg] e X.env=pure none:=by rfl)
  (h1:(assignEach [tg] X.env).map (·.2)=[assign tg X.env]:=by rfl):PS X (.Assign [tg] e pos) (tAsg te g):=by
 intro pins s σ H D I h;refine wpAny_Assign_stores (thn (he pins s σ H _ I h) fun v s1 ⟨x,H1,I1,r1,q1⟩ =>?_) hs hw
 rw[h1];exact thn (hg pins s1 σ H1 x v _ I1 r1 q1) fun _ s2 q=>q
theorem ps_set {i:Nat}{x:Str}{e:Expr}{te:TE}{pos':Pos}(hN:X.N.Nodup) (hi:X.N[i]?=some x) (hx:Loc X.env.scope x) (he:PE X e te) (hs:swapsWith e (some (.Name x pos')) pos.line X.env=pure false:=by rfl) (hf:X.fn x=true∨X.env.scope.names.lookup x=some .local:=by first|exact .inl rfl|exact .inr rfl|assumption) :
  PS X (.Assign [.Name x pos'] e pos) (tAsg te (gName i)):=by
 intro pins s σ H D I h;refine wpAny_Assign_Name (thn (he pins s σ H _ I h) fun v s1 ⟨y,H1,I1,r1,q1⟩ =>?_) hs
 exact store_ok I1 hN hi hx r1 (fun s2 I2=>⟨_,H1,I2,q1⟩) hf
end
noncomputable section
variable {X:Cx}{pos:Pos}
noncomputable def tWhile (c:TT) (tb:TS):TS:=fun D σ H=>∃ W:Nat→St→Hp→Prop,(∃ m,W m σ H)∧∀ m σ H,W m σ H →
 c σ H fun b H1=>if b=true then ∃ N:St→Hp→Prop,(∀ σ' H',N σ' H'→∃ m',m'<m∧W m' σ' H')∧tb { D with nx:=N,ct:=N,bk:=D.nx } σ H1 else D.nx σ H1
theorem ps_while {c:Expr}{body:List Stmt}{tc:TT}{tb:TS}(hp:PassesOwn (model X.prog X.w) X.A X.env X.xe) (hc:PT X c tc) (hb:PSs X body tb):PS X (.While c body [] pos) (tWhile tc tb):=by
 intro pins s σ H D I h;obtain⟨W,⟨m0,w0⟩,turn⟩:=h;refine wpAny_While (codeAny_whileLoop (fun n s'=>∃ σ' H',Inv X pins σ' H' s'∧W n σ' H') ?_ m0 ⟨σ,H,I,w0⟩)
 rintro n s1 ⟨σ1,H1,I1,w1⟩;refine wpAny_passesOwn hp (thn (hc pins s1 σ1 H1 _ I1 (turn n σ1 H1 w1)) fun b s2 ⟨H2,I2,q2⟩ =>?_)
 cases b with
 | true=>
  obtain⟨N,hN,q2⟩:=q2;rw[if_pos rfl];refine wpAny_passesOwn hp (thn (hb pins s2 σ1 H2 _ I2 q2) fun f s3 q3 =>?_)
  cases f with
  | next=>obtain⟨σ3,H3,I3,n3⟩:=q3;obtain⟨m',hm,w3⟩:=hN σ3 H3 n3;exact⟨m',hm,σ3,H3,I3,w3⟩
  | cont=>obtain⟨σ3,H3,I3,n3⟩:=q3;obtain⟨m',hm,w3⟩:=hN σ3 H3 n3;exact⟨m',hm,σ3,H3,I3,w3⟩
  | brk=>exact q3
  | ret v=>exact q3
 | false=>rw[if_neg zZ];exact wpAny_execs_nil ⟨σ1,H2,I2,q2⟩
end
structure It where
 go:Nat→Hp→Prop
 yld:Nat→Hp→V→Hp→Prop
 stop:Nat→Hp→Prop
noncomputable def FpOk (X:Cx) (pins:List (Addr×Obj)) (H:Hp) (b:Addr):Prop:=
 H b=none∧b≠X.env.locals∧b∉X.fs∧(b∈X.ex∨X.s₀.heap.objs.size≤b)∧(∀ x c,X.env.cells.lookup x=some c→c≠b)∧∀ p∈X.pn++pins,p.1≠b
theorem Inv.fpOk {X:Cx}{pins:List (Addr×Obj)}{σ:St}{H H':Hp}{s:Shared}{b:Addr}(I:Inv X pins σ H s) (hb:s.heap.objs.size≤b) (hn:H' b=none):FpOk X pins H' b:=by
 refine⟨hn,Nat.ne_of_gt (zS I.lt hb),I.nofs hb,.inr (yB I.sz hb),fun x c e z =>?_,fun p hp z =>?_⟩
 ·obtain⟨v,q⟩:=I.cell x c e;exact absurd (zS q.lt (by rw[z];exact hb)) (yF _)
 ·exact absurd (zS (zJ (I.pin p hp).1) (by rw[z];exact hb)) (yF _)
structure Turn (P:Program) (w:World) (K:Frag) (tg:Expr) (J:It) (fp:List Addr) (it:Addr) (tn:Nat→Heap→Prop):Prop where
 mem:it∈fp
 obj:∀ i h,tn i h→∀ b∈fp,∃ o,h.get? b=some o∧∀ v,o.data ≠ .cell v
 keep:∀ i h h',tn i h→(∀ b∈fp,∀ o,h.get? b=some o→h'.get? b=some o)→tn i h'
 item:∀ (X:Cx),X.prog=P→X.w=w→X.K=K→X.calm=true→∀ (i:Nat) (pins:List (Addr×Obj)) (s:Shared) (σ:St) (H:Hp) (E:Value→Shared→Prop),Inv X pins σ H s→(∀ b∈fp,FpOk X pins H b)→tn i s.heap→J.go i H →
  wpAny (model P w) X.A (pyNext (.ref it)) (fun r s1=>∃ u,r=some u ∧
   wpAny (model P w) X.A (letOwnedTupleGo tg (.ref it) u) (fun _ s2=>∃ x H',Inv X pins σ H' s2∧RelV x u∧J.yld i H x H'∧tn (i+1) s2.heap∧∀ b∈fp,H' b=none) E s1) E s
 done:∀ (X:Cx),X.prog=P→X.w=w→X.K=K→X.calm=true→∀ (i:Nat) (pins:List (Addr×Obj)) (s:Shared) (σ:St) (H:Hp) (E:Value→Shared→Prop),Inv X pins σ H s→(∀ b∈fp,FpOk X pins H b)→tn i s.heap→J.stop i H →
  wpAny (model P w) X.A (pyNext (.ref it)) (fun r s1=>r=none∧Inv X pins σ H s1) E s
 self:∀ (A:Around) (i:Nat) (s:Shared) (Q:Value→Shared→Prop) (E:Value→Shared→Prop),tn i s.heap→Q (.ref it) s→wpAny (model P w) A (pyIter (.ref it)) Q E s
noncomputable abbrev TI:=St→Hp→(It→Hp→Prop)→Prop
noncomputable def PIE (X:Cx) (pins:List (Addr×Obj)) (σ:St) (tg:Expr) (R:It→Hp→Prop) (itv:Value) (s2:Shared):Prop:=
 ∃ (it:Addr) (fp:List Addr) (tn:Nat→Heap→Prop) (J:It) (H':Hp),itv=.ref it∧Inv X pins σ H' s2∧Turn X.prog X.w X.K tg J fp it tn∧tn 0 s2.heap∧(∀ b∈fp,FpOk X pins H' b)∧R J H'
noncomputable def PI (X:Cx) (tg iter:Expr) (wi:TI):Prop:=
 ∀ (pins:List (Addr×Obj)) (s:Shared) (σ:St) (H:Hp) (R:It→Hp→Prop),Inv X pins σ H s→wi σ H R →
  wpAny (model X.prog X.w) X.A (eval iter X.env) (fun v s1=>wpAny (model X.prog X.w) X.A (pyIter v) (PIE X pins σ tg R) X.xe s1) X.xe s
theorem go_of {M : Model} {A : Around} {E : Value → Shared → Prop} {s : Shared} {tg : Expr} {it : Addr} {u : Value} {o : Obj} {n : String} {vs : Array Value} {Q : Unit → Shared → Prop} (ho : s.heap.get? it = some o) (hc : o.cls = .type n) (hd : o.data = .fields vs)
    (hn : ["enumerate", "zip", "dict_itemiterator", "dict_reverseitemiterator", "odict_iterator", "itertools.zip_longest", "itertools.pairwise"].contains n = false) (hQ : Q () s) : wpAny M A (letOwnedTupleGo tg (.ref it) u) Q E s := by
  unfold letOwnedTupleGo
  cases tg <;> first
    | exact wpAny_pure hQ
    | (cases u <;> first
        | exact wpAny_pure hQ
        | (refine wpAny_bind (wpAny_load ho ?_)
           rw [hc, hd]
           show wpAny M A (if (["enumerate", "zip", "dict_itemiterator", "dict_reverseitemiterator", "odict_iterator", "itertools.zip_longest", "itertools.pairwise"].contains n && vs[0]? == some (rawInt _)) = true then _ else _) Q E s
           rw [if_neg (by intro h; rw [hn, Bool.false_and] at h; cases h)]
           exact wpAny_pure hQ))
noncomputable def Itl (K:Frag) (a:Addr):It:=
 ⟨fun i H=>∃ xs x,SqL K H a xs∧xs[i]?=some x,fun i H x H'=>H'=H∧∀ xs,SqL K H a xs→xs[i]?=some x,fun i H=>∃ xs,SqL K H a xs∧xs.length≤i⟩
noncomputable def Itr (lo:Int) (n:Nat):It:=⟨fun i _=>i<n,fun i H x H'=>H'=H∧x=.int (lo+i),fun i _=>n≤i⟩
theorem turn_list {P:Program}{w:World}{K:Frag}{tg:Expr}(a it:Addr):Turn P w K tg (Itl K a) [it] it (fun i h=>h.IsListIter it a i) where
 mem:=by simp
 obj:=fun i h st b hb=>by
  have e:b=it:=by simpa using hb
  subst e;obtain⟨o,e,c,d⟩:=st;exact⟨o,e,fun v z=>by rw[d] at z;cases z⟩
 keep:=fun i h h' st k=>st.at fun o e=>k it (by simp) o e
 item:=by
  intro X hP hw hK hc i pins s σ H E I hf st hg;subst hP hw hK;obtain⟨xs,x,hq,hx⟩:=hg;obtain⟨its,rv,p,hz⟩:=I.list hq;obtain⟨u,hu,ru⟩:=rv.get hx;obtain⟨f0,f1,f2,f3,f4,f5⟩:=hf it (by simp)
  refine wpAny_pyNext_list_item st p.isList (x:=u) (by simpa using hu) fun h' st' sb =>?_
  have I1:Inv X pins σ H { s with heap:=h' }:=I.turned (t':=s.toks) (fun b o hb e=>(sb.2 b hb).trans e) f0 f1 f3 f4 f5
  obtain⟨o,e,c,d⟩:=id st';exact⟨u,rfl,go_of (s:={ s with heap:=h' }) e c d (by decide) ⟨x,H,I1,ru,⟨rfl,fun ys hy=>by rw[I.list_inj hy hq];exact hx⟩,st',fun b hb=>(hf b hb).1⟩⟩
 done:=by
  intro X hP hw hK hc i pins s σ H E I hf st hg;subst hP hw hK;obtain⟨xs,hq,hx⟩:=hg;obtain⟨its,rv,p,hz⟩:=I.list hq;obtain⟨f0,f1,f2,f3,f4,f5⟩:=hf it (by simp)
  have hl:=rv.length;exact wpAny_pyNext_list_end (I.ok.hd hc) st p.isList (by simp;omega) fun h' eb=>⟨rfl,I.turned (t':=s.toks) (fun b o hb e=>eb b o hb e) f0 f1 f3 f4 f5⟩
 self:=fun _ _ _ _ _ st h=>wpAny_pyIter_listiter st h
theorem turn_range {P:Program}{w:World}{K:Frag}{tg:Expr}(it:Addr) (lo:Int) (n:Nat):Turn P w K tg (Itr lo n) [it] it (fun i h=>IsRangeIter h it (lo+(i:Nat)*1) ((n:Int)-(i:Nat)) 1) where
 mem:=by simp
 obj:=fun i h st b hb=>by
  have e:b=it:=by simpa using hb
  subst e;exact⟨_,st,fun v z=>by have z':Data.fields _=Data.cell v:=z;cases z'⟩
 keep:=fun i h h' st k=>k it (by simp) _ st
 item:=by
  intro X hP hw hK hc i pins s σ H E I hf st hg;subst hP hw hK;obtain⟨f0,f1,f2,f3,f4,f5⟩:=hf it (by simp)
  have W:=Walks.range (prog:=X.prog) (w:=X.w) (I.ok.hd hc) it lo 1 n;refine W.item i s _ _ hg st fun v h' tk hv st' kk =>?_
  obtain⟨t,rfl⟩:=hv;have I1:Inv X pins σ H { s with heap:=h',toks:=tk }:=I.turned (fun b o hb e=>kk b o (by simpa using hb) e) f0 f1 f3 f4 f5
  refine⟨_,rfl,go_of (s:={ s with heap:=h',toks:=tk }) (n:= "range_iterator") st' rfl rfl (by decide) ⟨.int (lo+i),H,I1,⟨t,?_⟩,⟨rfl,rfl⟩,st',fun b hb=>(hf b hb).1⟩⟩
  rw[Int.mul_one]
 done:=by
  intro X hP hw hK hc i pins s σ H E I hf st hg;subst hP hw hK;obtain⟨f0,f1,f2,f3,f4,f5⟩:=hf it (by simp)
  exact wpAny_pyNext_range_end (I.ok.hd hc) st (by have:n≤i:=hg;omega) fun h' eb=>⟨rfl,I.turned (t':=s.toks) (fun b o hb e=>eb b o hb e) f0 f1 f3 f4 f5⟩
 self:=fun _ _ _ _ _ st h=>wpAny_pyIter_rangeiter st h
end L2
namespace L2
open PySem PySem.Spec PyProof.Rows
noncomputable section
variable {X:Cx}{tg:Expr}
noncomputable def iList (K:Frag) (tl:TE):TI:=fun σ H R=>tl σ H fun x H1=>∃ a,x=.ref a∧(∃ xs,SqL K H1 a xs)∧R (Itl K a) H1
theorem pi_list {l:Expr}{tl:TE}(hl:PE X l tl):PI X tg l (iList X.K tl):=by
 intro pins s σ H R I h;refine thn (hl pins s σ H _ I h) fun v s1 ⟨x,H1,I1,r1,q1⟩ =>?_
 obtain⟨a,e,⟨xs,hq⟩,q⟩:=q1;subst e;cases r1;obtain⟨its,rv,p,hz⟩:=I1.list hq;refine wpAny_pyIter_list p.isList ?_;refine⟨s1.heap.objs.size,[s1.heap.objs.size],_,_,H1,rfl,I1.kept (t':=s1.toks) fun b o e=>zF _ e,turn_list a _,⟨_,zV _ rfl,rfl,rfl⟩,fun b hb =>?_,q⟩
 have e:b=s1.heap.objs.size:=by simpa using hb
 subst e;exact I1.fpOk (zL _) (I1.hok.fresh (zL _))
theorem range_it {pins:List (Addr×Obj)}{σ:St}{H:Hp}{s:Shared}{R:It→Hp→Prop}{E:Value→Shared→Prop}{lo hi:Int}{t u v:Tok}{tk:Nat}(I:Inv X pins σ H s) (h1 : -(2 ^ 62)≤lo) (h2:lo<2 ^ 62) (h3 : -(2 ^ 62)≤hi) (h4:hi<2 ^ 62)
  (q:R (Itr lo (hi-lo).toNat) H):wpAny (model X.prog X.w) X.A (pyIter (.ref s.heap.objs.size)) (PIE X pins σ tg R) E { s with heap:=s.heap.push { cls :=.type "range",data :=.fields #[.int lo t,.int hi u,.int 1 v] },toks:=tk }:=by
 refine wpAny_pyIter_range (IsRange.new ..) (small_one h1 h2 h3 h4) ?_;have I1:Inv X pins σ H { s with heap:=s.heap.push { cls :=.type "range",data :=.fields #[.int lo t,.int hi u,.int 1 v] },toks:=tk }:=I.kept fun b o e=>zF _ e
 refine⟨(s.heap.push { cls :=.type "range",data :=.fields #[.int lo t,.int hi u,.int 1 v] }).objs.size,[(s.heap.push { cls :=.type "range",data :=.fields #[.int lo t,.int hi u,.int 1 v] }).objs.size],_,_,H,rfl,
  I1.kept (t':=tk) fun b o e=>zF _ e,turn_range _ lo (hi-lo).toNat,?_,fun b hb =>?_,q⟩
 ·have e1:lo+((0:Nat):Int)*1=lo:=by simp
  have e2:(((hi-lo).toNat:Nat):Int)-((0:Nat):Int)=Builtin.Range.rangeSize lo hi 1:=by rw[rangeSize_one];split<;>omega
  show IsRangeIter _ _ (lo+((0:Nat):Int)*1) ((((hi-lo).toNat:Nat):Int)-((0:Nat):Int)) 1;rw[e1,e2];exact zV _ rfl
 ·have e:b=(s.heap.push { cls :=.type "range",data :=.fields #[.int lo t,.int hi u,.int 1 v] }).objs.size:=by simpa using hb
  subst e;exact I1.fpOk (zL _) (I1.hok.fresh (zL _))
noncomputable def iRng1 (ta:TA):TI:=fun σ H R=>ta σ H fun vs H1=>∃ j:Int,vs=[.int j] ∧ -(2 ^ 62)≤j∧j<2 ^ 62∧R (Itr 0 j.toNat) H1
noncomputable def iRng2 (ta:TA):TI:=fun σ H R=>ta σ H fun vs H1=>∃ i j:Int,vs=[.int i,.int j]∧(-(2 ^ 62)≤i∧i<2 ^ 62 ∧ -(2 ^ 62)≤j∧j<2 ^ 62)∧R (Itr i (j-i).toNat) H1
theorem pi_range1 {a:Expr}{ta:TA}{p pos:Pos}(hg:Gl X "range") (hm:X.mg "range" = none) (ha:PA X [a] ta) (hs:starEach [a] X.env=[(false,eval a X.env)]:=by rfl):PI X tg (.Call (.Name "range" p) [a] [] pos) (iRng1 ta):=by
 intro pins s σ H R I h;refine Call_ (ld_blt I hg hm boot_range (PyProof.Rows.callWith_type1 (thn (ha pos pins s σ H _ I h) fun us s1 ⟨vs,H1,I1,r1,q1⟩ =>?_) hs rfl))
 obtain⟨j,e,q1,q2,q⟩:=q1;subst e;cases r1 with
 | cons r rr=>cases rr;obtain⟨t,rfl⟩:=r;exact call_range_1 (range_it I1 (by omega) (by omega) q1 q2 (by simpa using q))
theorem pi_range2 {a b:Expr}{ta:TA}{p pos:Pos}(hg:Gl X "range") (hm:X.mg "range" = none) (ha:PA X [a,b] ta) (hs:starEach [a,b] X.env=[(false,eval a X.env),(false,eval b X.env)]:=by rfl) (hs2:starEach [b] X.env=[(false,eval b X.env)]:=by rfl) :
  PI X tg (.Call (.Name "range" p) [a,b] [] pos) (iRng2 ta):=by
 intro pins s σ H R I h;refine Call_ (ld_blt I hg hm boot_range (PyProof.Rows.callWith_type1 (thn (ha pos pins s σ H _ I h) fun us s1 ⟨vs,H1,I1,r1,q1⟩ =>?_) (by rw[hs,hs2]) (by rw[hs2];rfl)))
 obtain⟨i,j,e,⟨q1,q2,q3,q4⟩,q⟩:=q1;subst e;cases r1 with
 | cons r rr=>
  cases rr with
  | cons r' rr=>cases rr;obtain⟨t,rfl⟩:=r;obtain⟨t',rfl⟩:=r';exact call_range_2 (range_it I1 q1 q2 q3 q4 q)
noncomputable def tFor (wi:TI) (g:TG) (tb:TS):TS:=fun D σ H=>wi σ H fun J H1=>∃ W:Nat→Nat→St→Hp→Prop,(∃ m,W 0 m σ H1)∧∀ i m σ H,W i m σ H →
 (J.stop i H∧D.nx σ H)∨(J.go i H∧∃ N:St→Hp→Prop,(∀ σ' H',N σ' H'→∃ m',m'<m∧W (i+1) m' σ' H')∧∀ x H',J.yld i H x H'→g x σ H' fun σ2 H2=>tb { D with nx:=N,ct:=N,bk:=D.nx } σ2 H2)
noncomputable def pinsAt (fp:List Addr) (h:Heap):List (Addr×Obj):=fp.filterMap fun b=>(h.get? b).map fun o=>(b,o)
theorem mem_pinsAt {fp:List Addr}{h:Heap}{b:Addr}{o:Obj}(hb:b∈fp) (e:h.get? b=some o):(b,o)∈pinsAt fp h:=List.mem_filterMap.mpr ⟨b,hb,by rw[e];rfl⟩
theorem of_pinsAt {fp:List Addr}{h:Heap}{p:Addr×Obj}(hp:p∈pinsAt fp h):p.1∈fp∧h.get? p.1=some p.2:=by
 obtain⟨b,hb,e⟩:=List.mem_filterMap.mp hp;cases q:h.get? b with
 | none=>rw[q] at e;cases e
 | some o=>rw[q] at e;have e':(b,o)=p:=yA e;subst e';exact⟨hb,q⟩
theorem Inv.pinned {pins:List (Addr×Obj)}{σ:St}{H:Hp}{s:Shared}{fp:List Addr}(I:Inv X pins σ H s) (hf:∀ b∈fp,FpOk X pins H b) (ho:∀ b∈fp,∃ o,s.heap.get? b=some o∧∀ v,o.data ≠ .cell v):Inv X (pins++pinsAt fp s.heap) σ H s:=
 I.pins_of fun p hp=>(zO.mp hp).elim (fun z=>I.pin p (zQ _ z)) fun z=>by obtain⟨hb,e⟩:=of_pinsAt z;obtain⟨f0,f1,f2,_⟩:=hf p.1 hb;obtain⟨o,e',d⟩:=ho p.1 hb;rw[e] at e';cases e';exact⟨e,f0,f1,f2,d⟩
theorem Inv.unpinned {pins pl:List (Addr×Obj)}{σ:St}{H:Hp}{s:Shared}(I:Inv X (pins++pl) σ H s):Inv X pins σ H s:=I.pins_of fun p hp=>I.pin p (zQ _ (zU _ hp))
theorem ps_for {iter:Expr}{body:List Stmt}{wi:TI}{g:TG}{tb:TS}{pos:Pos}(hp:PassesOwn (model X.prog X.w) X.A X.env X.xe) (hc:X.calm=true) (hi:PI X tg iter wi) (hg:PG X tg g) (hb:PSs X body tb)
  (hs:∀ x,foldedSetIterable iter X.env x=pure x:=by intro _;rfl):PS X (.For tg iter body [] pos) (tFor wi g tb):=by
 intro pins s σ H D I h;refine wpAny_For (thn (hi pins s σ H _ I h) fun v s1 h1=>thn h1 fun itv s2 h2 =>?_) hs
 obtain⟨it,fp,tn,J,H2,e,I2,T,st2,f2,W,⟨m0,w0⟩,turn⟩:=h2;subst e;have stat:∀ {H':Hp},(∀ b∈fp,H' b=none)→∀ b∈fp,FpOk X pins H' b:=fun hn b hb=>⟨hn b hb,(f2 b hb).2⟩
 refine codeAny_forLoop_any (fun n s'=>∃ i σ' H',Inv X pins σ' H' s'∧tn i s'.heap∧(∀ b∈fp,H' b=none)∧W i n σ' H') ?_ m0 ⟨0,σ,H2,I2,st2,fun b hb=>(f2 b hb).1,w0⟩
 rintro n s3 ⟨i,σ3,H3,I3,st3,fr3,w3⟩;rcases turn i n σ3 H3 w3 with ⟨stop,qn⟩|⟨go,N,hN,step⟩
 ·refine wpAny_passesOwn hp (thn (T.done X rfl rfl rfl hc i pins s3 σ3 H3 X.xe I3 (stat fr3) st3 stop) fun r s4 ⟨hr,I4⟩ =>?_)
  subst hr;exact wpAny_execs_nil ⟨σ3,H3,I4,qn⟩
 ·refine wpAny_passesOwn hp (thn (T.item X rfl rfl rfl hc i pins s3 σ3 H3 X.xe I3 (stat fr3) st3 go) fun r s4 ⟨u,hr,h4⟩ =>?_)
  subst hr;refine wpAny_passesOwn hp (thn h4 fun _ s5 ⟨x,H5,I5,r5,y5,st5,fr5⟩ =>?_)
  have I5':=I5.pinned (stat fr5) (T.obj _ _ st5);refine wpAny_passesOwn hp (thn (hg _ s5 σ3 H5 x u _ I5' r5 (step x H5 y5)) fun _ s6 ⟨σ6,H6,I6,q6⟩ =>?_)
  refine wpAny_passesOwn hp (thn (hb _ s6 σ6 H6 _ I6 q6) fun f s7 q7 =>?_)
  have again:∀ {σ7:St}{H7:Hp},Inv X (pins++pinsAt fp s5.heap) σ7 H7 s7→N σ7 H7→∃ m,m<n∧∃ i σ' H',Inv X pins σ' H' s7∧tn i s7.heap∧(∀ b∈fp,H' b=none)∧W i m σ' H':=fun {σ7 H7} I7 n7=>by
   obtain⟨m',hm,w7⟩:=hN σ7 H7 n7;refine⟨m',hm,i+1,σ7,H7,I7.unpinned,T.keep _ _ _ st5 fun b hb o e=>(I7.pin (b,o) (zQ _ (zQ _ (mem_pinsAt hb e)))).1,fun b hb =>?_,w7⟩
   obtain⟨o,e,d⟩:=T.obj _ _ st5 b hb;exact(I7.pin (b,o) (zQ _ (zQ _ (mem_pinsAt hb e)))).2.1
  cases f with
  | next=>obtain⟨σ7,H7,I7,n7⟩:=q7;exact again I7 n7
  | cont=>obtain⟨σ7,H7,I7,n7⟩:=q7;exact again I7 n7
  | brk=>obtain⟨σ7,H7,I7,q7⟩:=q7;exact⟨σ7,H7,I7.unpinned,q7⟩
  | ret v=>obtain⟨x7,σ7,H7,I7,r7,q7⟩:=q7;exact⟨x7,σ7,H7,I7.unpinned,r7,q7⟩
end
theorem for_list {K:Frag}{a:Addr}{xs:List V}{g:TG}{tb:TS}{D:Ends}{σ:St}{H:Hp}(Pv:Nat→St→Hp→Prop) (h0:Pv 0 σ H) (hl:∀ i σ H,i≤xs.length→Pv i σ H→SqL K H a xs)
  (hs:∀ i x σ H,xs[i]?=some x→Pv i σ H→g x σ H fun σ2 H2=>tb { D with nx:=Pv (i+1),ct:=Pv (i+1),bk:=D.nx } σ2 H2) (hd:∀ σ H,Pv xs.length σ H→D.nx σ H) :
  ∃ W:Nat→Nat→St→Hp→Prop,(∃ m,W 0 m σ H)∧∀ i m σ H,W i m σ H →
   ((Itl K a).stop i H∧D.nx σ H)∨((Itl K a).go i H∧∃ N:St→Hp→Prop,(∀ σ' H',N σ' H'→∃ m',m'<m∧W (i+1) m' σ' H')∧∀ x H',(Itl K a).yld i H x H'→g x σ H' fun σ2 H2=>tb { D with nx:=N,ct:=N,bk:=D.nx } σ2 H2):=by
 refine⟨fun i m σ H=>m=xs.length-i∧i≤xs.length∧Pv i σ H,⟨xs.length,by simp,Nat.zero_le _,h0⟩,?_⟩
 rintro i m σ H ⟨rfl,hi,p⟩;have q:=hl i σ H hi p;by_cases hlt:i<xs.length
 ·refine .inr ⟨⟨xs,xs[i],q,by simp[hlt]⟩,Pv (i+1),fun σ' H' p'=>⟨xs.length-(i+1),by omega,rfl,hlt,p'⟩,fun x H' y =>?_⟩
  obtain⟨e,y⟩:=y;subst e;exact hs i x σ _ (y xs q) p
 ·have e:i=xs.length:=by omega
  subst e;exact .inl ⟨⟨xs,q,zL _⟩,hd σ H p⟩
end L2
namespace L2
open PySem PySem.Spec PyProof.Rows
noncomputable abbrev R2:=V→V→Hp→VK→Prop
noncomputable def OpR (X:Cx) (f:Value→Value→Sem Value) (r:R2):Prop:=
 ∀ (pins:List (Addr×Obj)) (s:Shared) (σ:St) (H:Hp) (x y:V) (v u:Value) (Q:VK),Inv X pins σ H s→RelV x v→RelV y u→r x y H Q →
  wpAny (model X.prog X.w) X.A (f v u) (EP X pins σ Q) X.xe s
noncomputable def UnR (X:Cx) (f:Value→Sem Value) (r:V→Hp→VK→Prop):Prop:=
 ∀ (pins:List (Addr×Obj)) (s:Shared) (σ:St) (H:Hp) (x:V) (v:Value) (Q:VK),Inv X pins σ H s→RelV x v→r x H Q →
  wpAny (model X.prog X.w) X.A (f v) (EP X pins σ Q) X.xe s
noncomputable def CallR (X:Cx) (f:Value) (r:List V→Hp→VK→Prop):Prop:=
 ∀ (pins:List (Addr×Obj)) (s:Shared) (σ:St) (H:Hp) (xs:List V) (us:List Value) (Q:VK),Inv X pins σ H s→Vals xs us→r xs H Q →
  wpAny (model X.prog X.w) X.A (call f us) (EP X pins σ Q) X.xe s
noncomputable def TruR (X:Cx) (r:V→Hp→(Bool→Hp→Prop)→Prop):Prop:=
 ∀ (pins:List (Addr×Obj)) (s:Shared) (σ:St) (H:Hp) (x:V) (v:Value) (Q:Bool→Hp→Prop),Inv X pins σ H s→RelV x v→r x H Q →
  wpAny (model X.prog X.w) X.A (truthy v) (TP X pins σ Q) X.xe s
noncomputable def tOp (r:R2) (ta tb:TE):TE:=fun σ H Q=>ta σ H fun x H1=>tb σ H1 fun y H2=>r x y H2 Q
noncomputable def tUn (r:V→Hp→VK→Prop) (ta:TE):TE:=fun σ H Q=>ta σ H fun x H1=>r x H1 Q
noncomputable def rI (C:Int→Int→Prop) (g:Int→Int→V):R2:=fun x y H Q=>∃ i j,x=.int i∧y=.int j∧C i j∧Q (g i j) H
noncomputable def rI0 (g:Int→Int→V):R2:=fun x y H Q=>∃ i j,x=.int i∧y=.int j∧Q (g i j) H
noncomputable def rU (g:Int→V):V→Hp→VK→Prop:=fun x H Q=>∃ i,x=.int i∧Q (g i) H
noncomputable section
variable {X:Cx}{a b c:Expr}{ta tb tc:TE}{pos:Pos}
theorem binT (ha:PE X a ta) (hb:PE X b tb){pins:List (Addr×Obj)}{s:Shared}{σ:St}{H:Hp}{R:V→V→Hp→Prop}(I:Inv X pins σ H s)
  (h:ta σ H fun x H1=>tb σ H1 fun y H2=>R x y H2){Q:Value→Shared→Prop}{f:Value→Value→Sem Value}
  (hf:∀ v u s2 x y H2,Inv X pins σ H2 s2→RelV x v→RelV y u→R x y H2→wpAny (model X.prog X.w) X.A (f v u) Q X.xe s2) :
  wpAny (model X.prog X.w) X.A (eval a X.env) (fun v s₁=>wpAny (model X.prog X.w) X.A (eval b X.env) (fun u s₂=>wpAny (model X.prog X.w) X.A (f v u) Q X.xe s₂) X.xe s₁) X.xe s:=by
 refine thn (ha pins s σ H _ I h) fun v s1 ⟨x,H1,I1,r1,q1⟩ =>?_
 refine thn (hb pins s1 σ H1 _ I1 q1) fun u s2 ⟨y,H2,I2,r2,q2⟩ =>?_
 exact hf v u s2 x y H2 I2 r1 r2 q2
theorem pe_op {op:Operator}{r:R2}(ho:OpR X (binaryOp op) r) (ha:PE X a ta) (hb:PE X b tb):PE X (.BinOp a op b pos) (tOp r ta tb):=by
 intro pins s σ H Q I h;exact wpAny_BinOp (binT ha hb I h fun v u s2 x y H2 I2 rx ry q=>ho pins s2 σ H2 x y v u Q I2 rx ry q)
theorem pe_un {op:UnaryOp}{r:V→Hp→VK→Prop}(ho:UnR X (unaryOp op) r) (ha:PE X a ta):PE X (.UnaryOp op a pos) (tUn r ta):=by
 intro pins s σ H Q I h;exact UnaryOp_ (thn (ha pins s σ H _ I h) fun v s1 ⟨x,H1,I1,r1,q1⟩=>ho pins s1 σ H1 x v Q I1 r1 q1)
theorem opI {f:Value→Value→Sem Value}{C:Int→Int→Prop}{g:Int→Int→Int}
  (rule:∀ (i j:Int) (t u:Tok) (s:Shared) (Q:Value→Shared→Prop) (E:Value→Shared→Prop),C i j→Q (.int (g i j) s.toks) { s with toks:=s.toks+1 }→wpAny (model X.prog X.w) X.A (f (.int i t) (.int j u)) Q E s) :
  OpR X f (rI C fun i j =>.int (g i j)):=by
 intro pins s σ H x y v u Q I rx ry h;obtain⟨i,j,rfl,rfl,hc,q⟩:=h;obtain⟨t,rfl⟩:=rx;obtain⟨t',rfl⟩:=ry;exact rule i j t t' s _ _ hc ⟨.int (g i j),H,I.tok _,⟨_,rfl⟩,q⟩
theorem opI0 {f:Value→Value→Sem Value}{g:Int→Int→Int}
  (rule:∀ (i j:Int) (t u:Tok) (s:Shared) (Q:Value→Shared→Prop) (E:Value→Shared→Prop),Q (.int (g i j) s.toks) { s with toks:=s.toks+1 }→wpAny (model X.prog X.w) X.A (f (.int i t) (.int j u)) Q E s) :
  OpR X f (rI0 fun i j =>.int (g i j)):=by
 intro pins s σ H x y v u Q I rx ry h;obtain⟨i,j,rfl,rfl,q⟩:=h;obtain⟨t,rfl⟩:=rx;obtain⟨t',rfl⟩:=ry;exact rule i j t t' s _ _ ⟨.int (g i j),H,I.tok _,⟨_,rfl⟩,q⟩
theorem opB0 {f:Value→Value→Sem Value}{g:Int→Int→Bool}
  (rule:∀ (i j:Int) (t u:Tok) (s:Shared) (Q:Value→Shared→Prop) (E:Value→Shared→Prop),Q (.bool (g i j)) s→wpAny (model X.prog X.w) X.A (f (.int i t) (.int j u)) Q E s) :
  OpR X f (rI0 fun i j =>.bl (g i j)):=by
 intro pins s σ H x y v u Q I rx ry h;obtain⟨i,j,rfl,rfl,q⟩:=h;obtain⟨t,rfl⟩:=rx;obtain⟨t',rfl⟩:=ry;exact rule i j t t' s _ _ ⟨.bl (g i j),H,I,rfl,q⟩
noncomputable def CMul (i j:Int):Prop:=(-(2 ^ 64)<i∧i<2 ^ 64)∨(-(2 ^ 64)<j∧j<2 ^ 64)
theorem CMul.ok {i j:Int}(h:CMul i j):IntMulOk i j:=by
 rcases h with ⟨h1,h2⟩|⟨h1,h2⟩
 ·exact .of_left (intBits_le_64 h1 h2)
 ·exact .of_right (intBits_le_64 h1 h2)
theorem op_add:OpR X (binaryOp .Add) (rI0 fun i j =>.int (i+j)):=opI0 fun _ _ _ _ _ _ _ q=>add_int q
theorem op_sub:OpR X (binaryOp .Sub) (rI0 fun i j =>.int (i-j)):=opI0 fun _ _ _ _ _ _ _ q=>sub_int q
theorem op_mul:OpR X (binaryOp .Mult) (rI CMul fun i j =>.int (i*j)):=opI fun _ _ _ _ _ _ _ hc q=>mul_int q hc.ok
theorem op_mod:OpR X (binaryOp .Mod) (rI (fun _ j=>0<j) fun i j =>.int (i%j)):=opI fun i j _ _ _ _ _ hc q=>by
 have h1:(0:Int)<j:=hc;exact mod_int' (by omega) (by rw[Int.fmod_eq_emod_of_nonneg i (by omega)];exact q)
theorem unI {f:Value→Sem Value}{g:Int→Int}
  (rule:∀ (i:Int) (t:Tok) (s:Shared) (Q:Value→Shared→Prop) (E:Value→Shared→Prop),Q (.int (g i) s.toks) { s with toks:=s.toks+1 }→wpAny (model X.prog X.w) X.A (f (.int i t)) Q E s) :
  UnR X f (rU fun i =>.int (g i)):=by
 intro pins s σ H x v Q I rx h;obtain⟨i,rfl,q⟩:=h;obtain⟨t,rfl⟩:=rx;exact rule i t s _ _ ⟨.int (g i),H,I.tok _,⟨_,rfl⟩,q⟩
theorem un_neg:UnR X (unaryOp .USub) (rU fun i =>.int (-i)):=unI fun _ _ _ _ _ q=>neg_int q
end
noncomputable def scal:V→V→Bool
 | .non,.non=>true|.non,.int _=>true|.int _,.non=>true|.non,.bl _=>true|.bl _,.non=>true|.non,.str _=>true|.str _,.non=>true
 | .int _,.int _=>true|.bl _,.bl _=>true|.str _,.str _=>true|.byt _,.byt _=>true
 | .int _,.str _=>true|.str _,.int _=>true|.bl _,.str _=>true|.str _,.bl _=>true
 | _,_=>false
noncomputable def rEq:R2:=fun x y H Q=>scal x y=true∧Q (.bl (decide (x=y))) H
theorem dec_int {i j:Int}:decide (V.int i=V.int j)=(i==j):=by
 rw[Bool.eq_iff_iff];simp
theorem dec_bl {i j:Bool}:decide (V.bl i=V.bl j)=(i==j):=by
 rw[Bool.eq_iff_iff];simp
theorem dec_str {i j:Str}:decide (V.str i=V.str j)=(i==j):=by
 rw[Bool.eq_iff_iff];simp
theorem dec_byt {i j:Array UInt8}:decide (V.byt i=V.byt j)=(i.toList==j.toList):=by
 rw[Bool.eq_iff_iff];cases i;cases j;simp
noncomputable section
variable {X:Cx}{a b c:Expr}{ta tb tc:TE}{pos:Pos}
theorem fin_bl {pins:List (Addr×Obj)}{σ:St}{H:Hp}{s:Shared}{Q:VK}{k k':Bool}(I:Inv X pins σ H s) (q:Q (.bl k) H) (e:k=k'):EP X pins σ Q (.bool k') s:=by
 subst e;exact⟨.bl k,H,I,rfl,q⟩
theorem op_eq:OpR X (compareOp .Eq) rEq:=by
 intro pins s σ H x y v u Q I rx ry h;obtain⟨hs,q⟩:=h;cases x with
 | non=>
  cases rx;cases y with
  | non=>cases ry;exact PySem.EqNone.eq_none_none (fin_bl I q (by simp))
  | bl j=>cases ry;exact PySem.EqNone.eq_none_bool (fin_bl I q (by simp))
  | int j=>obtain⟨t',rfl⟩:=ry;exact PySem.EqNone.eq_none_int (fin_bl I q (by simp))
  | str j=>obtain⟨t',rfl⟩:=ry;exact PySem.EqNone.eq_none_str (fin_bl I q (by simp))
  | _=>exact absurd (show false=true from hs) zZ
 | bl i=>
  cases rx;cases y with
  | non=>cases ry;exact PySem.EqNone.eq_bool_none (fin_bl I q (by simp))
  | bl j=>cases ry;exact eq_bool (fin_bl I q dec_bl)
  | str j=>obtain⟨t',rfl⟩:=ry;exact PySem.EqMixed.eq_bool_str (fin_bl I q (by simp))
  | _=>exact absurd (show false=true from hs) zZ
 | int i=>
  obtain⟨t,rfl⟩:=rx;cases y with
  | non=>cases ry;exact PySem.EqNone.eq_int_none (fin_bl I q (by simp))
  | int j=>obtain⟨t',rfl⟩:=ry;exact eq_int (fin_bl I q dec_int)
  | str j=>obtain⟨t',rfl⟩:=ry;exact PySem.EqMixed.eq_int_str (fin_bl I q (by simp))
  | _=>exact absurd (show false=true from hs) zZ
 | str i=>
  obtain⟨t,rfl⟩:=rx;cases y with
  | non=>cases ry;exact PySem.EqNone.eq_str_none (fin_bl I q (by simp))
  | bl j=>cases ry;exact PySem.EqMixed.eq_str_bool (fin_bl I q (by simp))
  | int j=>obtain⟨t',rfl⟩:=ry;exact PySem.EqMixed.eq_str_int (fin_bl I q (by simp))
  | str j=>obtain⟨t',rfl⟩:=ry;exact eq_str (fin_bl I q dec_str)
  | _=>exact absurd (show false=true from hs) zZ
 | byt i=>
  obtain⟨t,rfl⟩:=rx;cases y with
  | byt j=>obtain⟨t',rfl⟩:=ry;exact PySem.W.eq_bytes (fin_bl I q dec_byt)
  | _=>exact absurd (show false=true from hs) zZ
 | _=>cases y<;>exact absurd (show false=true from hs) zZ
theorem op_lt:OpR X (compareOp .Lt) (rI0 fun i j =>.bl (decide (i<j))):=opB0 fun _ _ _ _ _ _ _ q=>lt_int q
theorem op_gt:OpR X (compareOp .Gt) (rI0 fun i j =>.bl (decide (j<i))):=opB0 fun _ _ _ _ _ _ _ q=>gt_int q
theorem op_ge:OpR X (compareOp .GtE) (rI0 fun i j =>.bl (decide (j≤i))):=opB0 fun _ _ _ _ _ _ _ q=>ge_int q
theorem op_isN:OpR X (compareOp .Is) (fun x y H Q=>y=.non∧Q (.bl (decide (x=.non))) H):=by
 intro pins s σ H x y v u Q I rx ry h;obtain⟨rfl,q⟩:=h;cases ry;refine is_none_gen (fin_bl I q ?_);cases x<;>first
  | (cases rx;rfl)
  | (obtain⟨t,rfl⟩:=rx;rfl)
theorem OpR.or {f:Value→Value→Sem Value}{r r':R2}(h:OpR X f r) (h':OpR X f r'):OpR X f (fun x y H Q=>r x y H Q∨r' x y H Q):=by
 intro pins s σ H x y v u Q I rx ry q;rcases q with q|q
 ·exact h pins s σ H x y v u Q I rx ry q
 ·exact h' pins s σ H x y v u Q I rx ry q
theorem nomark (b:Expr){op:CmpOp}(h:op ≠ .In:=by decide) (h2:op ≠ .NotIn:=by decide):behindInMarks op b=false:=by
 have e1:(op==CmpOp.In)=false:=by cases op<;>first|rfl|exact absurd rfl h
 have e2:(op==CmpOp.NotIn)=false:=by cases op<;>first|rfl|exact absurd rfl h2
 cases b<;>simp[behindInMarks,e1,e2]
theorem pe_cmpR {op:CmpOp}{r:R2}(ho:OpR X (compareOp op) r) (ha:PE X a ta) (hb:PE X b tb) (hm:behindInMarks op b=false):PE X (.Compare a [op] [b] pos) (tOp r ta tb):=by
 intro pins s σ H Q I h;exact wpAny_Compare1 (binT ha hb I h fun v u s2 x y H2 I2 rx ry q=>ho pins s2 σ H2 x y v u Q I2 rx ry q) hm
noncomputable def tTest (t:TE):TT:=fun σ H Q=>t σ H fun x H'=>∃ k,x=.bl k∧Q k H'
theorem pt_cmpR {op:CmpOp}{r:R2}(ho:OpR X (compareOp op) r) (ha:PE X a ta) (hb:PE X b tb) (hm:behindInMarks op b=false):PT X (.Compare a [op] [b] pos) (tTest (tOp r ta tb)):=by
 intro pins s σ H Q I h;refine wpAny_isTrue_Compare1 (thn (ha pins s σ H _ I h) fun v s1 ⟨x,H1,I1,r1,q1⟩=>thn (hb pins s1 σ H1 _ I1 q1) fun u s2 ⟨y,H2,I2,r2,q2⟩=>thn (ho pins s2 σ H2 x y v u _ I2 r1 r2 q2) fun c s3 ⟨z,H3,I3,r3,k,e,q3⟩ =>?_) hm
 subst e;cases r3;exact wpAny_truthy_bool ⟨H3,I3,q3⟩
noncomputable def TruV (K:Frag) (x:V) (H:Hp) (k:Bool):Prop:=
 match x with
 | .non=>k=false
 | .bl b=>k=b
 | .int i=>k=(i != 0)
 | .str y=>y.length≤sizeLine∧k=((y.length:Int) != 0)
 | .byt y=>y.size≤sizeLine∧k=((y.size:Int) != 0)
 | .ref p=>(∃ xs,SqL K H p xs∧k = !xs.isEmpty)∨(∃ xs,SqT K H p xs∧k = !xs.isEmpty)∨∃ kvs,H p=some (.dK kvs)∧k = !kvs.isEmpty
 | _=>False
theorem isEmpty_kv {κ:Type}{kvs:List (κ×V)}{vs:List (κ×Value)}(r:KV kvs vs):(!vs.isEmpty) = !kvs.isEmpty:=by
 cases r<;>rfl
theorem isEmpty_of {xs:List V}{its:List Value}(r:Vals xs its):(!its.toArray.isEmpty) = !xs.isEmpty:=by
 cases r<;>simp
theorem line63:(sizeLine:Nat)<2 ^ 63:=by rw[sizeLine_eq];decide
theorem tru_ok:TruR X (fun x H Q=>∃ k,TruV X.K x H k∧Q k H):=by
 intro pins s σ H x v Q I rx h;obtain⟨k,e,q⟩:=h;have hl:=line63;have hs:sizeLine=16777216:=sizeLine_eq;cases x with
 | non=>cases rx;have e':k=false:=e;subst e';exact truthy_none ⟨H,I,q⟩
 | bl b=>cases rx;have e':k=b:=e;subst e';exact wpAny_truthy_bool ⟨H,I,q⟩
 | int i=>obtain⟨t,rfl⟩:=rx;have e':k=(i != 0):=e;subst e';exact PySem.P.truthy_int ⟨H,I,q⟩
 | str y=>obtain⟨t,rfl⟩:=rx;obtain⟨hy,e'⟩:y.length≤sizeLine∧k=((y.length:Int) != 0):=e;subst e';exact PySem.P.truthy_str (by omega) ⟨H,I.tok _,q⟩
 | byt y=>obtain⟨t,rfl⟩:=rx;obtain⟨hy,e'⟩:y.size≤sizeLine∧k=((y.size:Int) != 0):=e;subst e';exact PySem.W.truthy_bytes (by omega) ⟨H,I.tok _,q⟩
 | ref p=>
  cases rx;have e':(∃ xs,SqL X.K H p xs∧k = !xs.isEmpty)∨(∃ xs,SqT X.K H p xs∧k = !xs.isEmpty)∨∃ kvs,H p=some (.dK kvs)∧k = !kvs.isEmpty:=e;rcases e' with ⟨xs,hx,e'⟩|⟨xs,hx,e'⟩|⟨kvs,hx,e'⟩
  ·subst e';obtain⟨its,r,pl,hz⟩:=I.list hx;have hlen:=r.length;exact wpAny_truthy_list pl.isList (by simp only[zN];omega) ⟨H,I.tok _,by rw[isEmpty_of r];exact q⟩
  ·subst e';obtain⟨its,r,pl,hz⟩:=I.tuple hx;have hlen:=r.length;exact truthy_tuple pl (by simp only[zN];omega) ⟨H,I.tok _,by rw[isEmpty_of r];exact q⟩
  ·subst e';obtain⟨hz,hS,vs,r,m⟩:kvs.length≤sizeLine∧(p==sysModules)=false∧∃ vs,KV kvs vs∧s.heap.DictOf (mixKind X.prog X.w) p vs:=I.hok p _ hx;have hlen:kvs.length=vs.length:=Paired.length r;exact wpAny_truthy_dict hS m (by omega) ⟨H,I.tok _,by rw[isEmpty_kv r];exact q⟩
 | _=>exact(show False from e).elim
theorem pt_truth (ha:PE X a ta) (he:∀ whole,isTrue a X.env whole=(do let v ← whole;standAt a.pos;holding [v] (truthy v))) :
  PT X a (fun σ H Q=>ta σ H fun x H'=>∃ k,TruV X.K x H' k∧Q k H'):=by
 intro pins s σ H Q I h;exact isTrue_plain (thn (ha pins s σ H _ I h) fun v s1 ⟨x,H1,I1,r1,q1⟩=>tru_ok pins s1 σ H1 x v Q I1 r1 q1) (he _)
theorem op_add_str:OpR X (binaryOp .Add) (fun x y H Q=>∃ i j,x=.str i∧y=.str j∧i.length+j.length≤sizeLine∧Q (.str (i++j)) H):=by
 intro pins s σ H x y v u Q I rx ry h;obtain⟨i,j,rfl,rfl,hz,q⟩:=h;obtain⟨t,rfl⟩:=rx;obtain⟨t',rfl⟩:=ry;exact add_str (fun t' tk=>⟨.str (i++j),H,I.tok _,⟨_,rfl⟩,q⟩) hz
theorem vals1 {x:V}{us:List Value}(r:Vals [x] us):∃ u,us=[u]∧RelV x u:=by
 cases r with
 | cons r1 r2=>cases r2;exact⟨_,rfl,r1⟩
end
end L2
namespace L2
open PySem PySem.Spec PyProof.Rows
structure ObjM (h:Heap) (x dx C:Addr) (mA:Str→Option Value):Prop where
 obj:h.get? x=some (instObj C dx)
 ns:h.Ns1 dx mA
 ne:dx≠x
theorem lookIn_ns {h:Heap}{dx:Addr}{mA:Str→Option Value}(n:h.Ns1 dx mA):∃ od,h.get? dx=some od∧∀ name,lookIn name od=some (mA name):=by
 obtain⟨o,es,ep,ho,hd,hk,_,hm⟩:=n;refine⟨o,ho,fun name =>?_⟩
 have e:=hm name;unfold nsFind findBy at e;rw[← Array.find?_toList] at e;unfold lookIn;rw[hd];dsimp only
 split
 ·rename_i y q;rw[q] at e;exact congrArg some e
 ·rename_i q;rw[q] at e;have a:es.toList.any (·.refKey)=false:=by rw[List.any_eq_false];intro y hy;obtain⟨z,t,hkey⟩:=hk y (Array.mem_toList_iff.mp hy);simp[DictEntry.refKey,hkey]
  have a':¬ es.toList.any (·.refKey)=true:=by rw[a];exact zZ
  rw[if_neg a'];exact congrArg some e
theorem ObjM.look {h:Heap}{x dx C:Addr}{mA:Str→Option Value}(I:ObjM h x dx C mA):∃ od,PySem.W.InstAt h x (instObj C dx) C (some od)∧∀ name,lookIn name od=some (mA name):=
 let ⟨od,ho,hl⟩:=lookIn_ns I.ns
 ⟨od,⟨I.obj,rfl,rfl,ho⟩,hl⟩
noncomputable section
variable {prog:Program}{w:World}{A:Around}{E:Value→Shared→Prop}{s:Shared}{K:Frag}{x dx C f:Addr}{mA:Str→Option Value}{name:Str}{v:Value}
theorem get_map {expr:Bool}{Q:Value→Shared→Prop}(X:K.In s.heap) (I:ObjM s.heap x dx C mA) (hg:plainGet K C name=true) (hh:hasDictIn K C=true)
  (ha:findIn K (.ref C) name=some none) (hv:mA name=some v) (hv':PySem.W.handedIn v=true) (h:Q v { s with toks:=s.toks+1 }) :
  wpAny (model prog w) A (getAttr (.ref x) name expr) Q E s:=by
 obtain⟨od,J,hl⟩:=I.look;exact PySem.W.get_value X J (PySem.W.plainGet_of hg).1 (PySem.W.findObj_own hh ha rfl (by rw[hl,hv])) hv' h
theorem set_map {ns:List Str}{Q:Unit→Shared→Prop}(X:K.In s.heap) (I:ObjM s.heap x dx C mA)
  (hs:findIn K (.ref C) "__setattr__" = some (some (.builtin "object.__setattr__"))) (hp:plainOver K C=true) (ht:takerIn K C name=some none) (hh:hasDictIn K C=true)
  (hw:PySem.Within mA ns) (hsz:ns.length≤sizeLine)
  (h:∀ h',ObjM h' x dx C (fun y=>if y=name then some v else mA y)→Heap.SameBut dx s.heap h'→Q () { s with heap:=h',toks:=s.toks+2 }) :
  wpAny (model prog w) A (setAttr (.ref x) name v) Q E s:=by
 obtain⟨od,J,hl⟩:=I.look;refine PySem.W.set_plain X J hs (PySem.W.osa_open (s:={ s with toks:=s.toks+1 }) (r:=none) X J hp ht fun b =>?_)
 obtain⟨cd,hc,hd'⟩:=PySem.W.any_some hh;have hx:s.heap.get? x=some ⟨.ref C,some dx,.plain,#[]⟩:=I.obj;refine zE (zW (zE (zE (wpAny_loadPart hx (zE (PySem.W.Looks.here (s:={ s with toks:=s.toks+1 }) (PySem.W.looks_clsIn X hc) ?_))))));rw[hd'];refine zW (a:=some dx) (zE (zW (zE ?_)));refine wpAny_nsSet1 (s:={ s with toks:=s.toks+1 }) I.ns fun h' hn2 hs2 =>?_
 obtain⟨oD,esD,epD,hoD,hdD,hcD⟩:=hn2.count (PySem.Within.cons name v hw);refine zE (wpAny_lookBehind hoD (by rw[hdD];exact pastItsLine_dict (yB hcD (by rw[zP];omega))) ?_)
 exact zW (h _ ⟨(hs2.2 _ (Ne.symm I.ne)).trans I.obj,hn2,I.ne⟩ hs2)
theorem make_map {R:Result→Shared→Prop}{vs:List Value}{kw:List (Str×Value)}(X:K.In s.heap) (hm:makesIn K C=true)
  (hi:findIn K (.ref C) "__init__" = some (some (.ref f))) (hf:PySem.W.typeIn K (.ref f)=some (.type "function"))
  (h:codeAny (model prog w) (A.under (.builtin "type.__call__" ⟨.ref C::vs,kw⟩)) (.call (.ref f) ⟨.ref (s.heap.objs.size+1)::vs,kw⟩) (PySem.W.InitBack (s.heap.objs.size+1) R)
   { s with heap:=(s.heap.push emptyDict).push (instObj C s.heap.objs.size) }) :
  codeAny (model prog w) A (.call (.ref C) ⟨vs,kw⟩) R s:=by
 obtain⟨hh,g,d,t,os⟩:=s;exact PySem.W.make_core (PySem.W.makes_of X hm) (PySem.W.looks_findIn X hi) (fun self=>PySem.W.bind_fn X self hf) (.inl rfl) h
end
noncomputable def putF (f:Str) (v:V):List (Str×V)→List (Str×V)
 | []=>[(f,v)]
 | (g,x)::r=>if g=f then (g,v)::r else (g,x)::putF f v r
theorem lookup_putF (f g:Str) (v:V):∀ fs:List (Str×V),(putF f v fs).lookup g=if g=f then some v else fs.lookup g
 | []=>by
  show List.lookup g [(f,v)]=_;by_cases h:g=f
  ·have hb:(g==f)=true:=beq_iff_eq.mpr h;simp only[List.lookup,hb,if_pos h]
  ·have hb:(g==f)=false:=beq_eq_false_iff_ne.mpr h;simp only[List.lookup,hb,if_neg h]
 | (k,x)::r=>by
  have ih:=lookup_putF f g v r;rw[show putF f v ((k,x)::r)=(if k=f then (k,v)::r else (k,x)::putF f v r) from rfl]
  by_cases hk:k=f
  ·rw[if_pos hk];by_cases h:g=k
   ·have hb:(g==k)=true:=beq_iff_eq.mpr h;simp only[List.lookup,hb,if_pos (h.trans hk)]
   ·have hb:(g==k)=false:=beq_eq_false_iff_ne.mpr h;simp only[List.lookup,hb,if_neg (fun e:g=f=>h (e.trans hk.symm))]
  ·rw[if_neg hk];by_cases h:g=k
   ·have hb:(g==k)=true:=beq_iff_eq.mpr h;simp only[List.lookup,hb,if_neg (fun e:g=f=>hk (h.symm.trans e))]
   ·have hb:(g==k)=false:=beq_eq_false_iff_ne.mpr h;simp only[List.lookup,hb];exact ih
theorem keys_putF (f:Str) (v:V):∀ fs:List (Str×V),f∈(putF f v fs).map (·.1)∧∀ g,g∈fs.map (·.1)→g∈(putF f v fs).map (·.1)
 | []=>⟨by simp[putF],fun g h=>by simp at h⟩
 | (k,x)::r=>by
  obtain⟨i1,i2⟩:=keys_putF f v r;rw[show putF f v ((k,x)::r)=(if k=f then (k,v)::r else (k,x)::putF f v r) from rfl]
  by_cases hk:k=f
  ·rw[if_pos hk];subst hk;exact⟨by simp,fun g h=>by simpa using h⟩
  ·rw[if_neg hk];refine⟨?_,fun g h =>?_⟩
   ·rw[List.map_cons];exact zB _ i1
   ·rw[List.map_cons] at h ⊢;rcases zG.mp h with e|e
    ·exact zG.mpr (.inl e)
    ·exact zB _ (i2 g e)
theorem length_putF (f:Str) (v:V):∀ fs:List (Str×V),(putF f v fs).length≤fs.length+1
 | []=>by simp[putF]
 | (k,x)::r=>by
  have ih:=length_putF f v r;rw[show putF f v ((k,x)::r)=(if k=f then (k,v)::r else (k,x)::putF f v r) from rfl]
  by_cases hk:k=f
  ·rw[if_pos hk,zP,zP];omega
  ·rw[if_neg hk,zP,zP];omega
theorem RelO.some_of {v:V}{o:Option Value}(r:RelO (some v) o):∃ u,o=some u∧RelV v u:=by
 cases o with
 | none=>exact(show False from r).elim
 | some u=>exact⟨u,rfl,r⟩
theorem handed_of {v:V}{u:Value}(r:RelV v u):PySem.W.handedIn u=true:=by
 cases v with
 | non=>cases (show u=Value.none from r);rfl
 | bl b=>cases (show u=Value.bool b from r);rfl
 | int i=>obtain⟨t,e⟩:=(show ∃ t,u=Value.int i t from r);cases e;rfl
 | str x=>obtain⟨t,e⟩:=(show ∃ t,u=Value.str x t from r);cases e;rfl
 | byt b=>obtain⟨t,e⟩:=(show ∃ t,u=Value.bytes b t from r);cases e;rfl
 | flt b=>obtain⟨t,e⟩:=(show ∃ t,u=Value.float b t from r);cases e;rfl
 | ref a=>cases (show u=Value.ref a from r);rfl
 | ty n=>cases (show u=Value.type n from r);rfl
noncomputable section
variable {P:Program}{w:World}{H H':Hp}{h h':Heap}{a C dx:Addr}{fs fs':List (Str×V)}
theorem ins_get (hok:HOk P w H h) (e:H a=some (.ins C dx fs)):∃ mA,ObjM h a dx C mA∧(∀ f,RelO (fs.lookup f) (mA f))∧PySem.Within mA (fs.map (·.1))∧fs.length≤1000∧H dx=some (.own a):=by
 obtain⟨d,z,ne,ob,mA,n,r,q⟩:=(show ObjOk P w H h a (.ins C dx fs) from hok a _ e)
 exact⟨mA,⟨ob,n,ne⟩,r,q,z,d⟩
end
structure Cls (K:Frag) (C:Addr):Prop where
 pg:plainGet K C Str.empty=true
 hd:hasDictIn K C=true
 po:plainOver K C=true
 sa:findIn K (.ref C) "__setattr__" = some (some (.builtin "object.__setattr__"))
theorem Cls.get {K:Frag}{C:Addr}(c:Cls K C) (f:Str):plainGet K C f=true:=c.pg
noncomputable def NoAttr (K:Frag) (C:Addr) (f:Str):Prop:=findIn K (.ref C) f=some none
theorem NoAttr.taker {K:Frag}{C:Addr}{f:Str}(n:NoAttr K C f):takerIn K C f=some none:=by
 unfold takerIn;rw[show findIn K (.ref C) f=some none from n]
 rfl
noncomputable section
variable {X:Cx}{pins:List (Addr×Obj)}{σ:St}{H:Hp}{s:Shared}{a C dx:Addr}{fs:List (Str×V)}{f:Str}{v:V}{A:Around}{E:Value→Shared→Prop}
theorem getattr_ok {b:Bool}{Q:Value→Shared→Prop}(I:Inv X pins σ H s) (e:H a=some (.ins C dx fs)) (c:Cls X.K C) (n:NoAttr X.K C f) (l:fs.lookup f=some v)
  (h:∀ u s',Inv X pins σ H s'→RelV v u→Q u s'):wpAny (model X.prog X.w) A (getAttr (.ref a) f b) Q E s:=by
 obtain⟨mA,O,r,_,_,_⟩:=ins_get I.hok e;obtain⟨u,hu,ru⟩:=RelO.some_of (v:=v) (o:=mA f) (by rw[← l];exact r f)
 exact get_map I.kIn O (c.get f) c.hd n hu (handed_of ru) (h u _ (I.tok _) ru)
theorem setattr_ok {y:V}{u:Value}{Q:Unit→Shared→Prop}(I:Inv X pins σ H s) (e:H a=some (.ins C dx fs)) (c:Cls X.K C) (n:NoAttr X.K C f) (hl:fs.length<1000) (ry:RelV y u)
  (h:∀ s',Inv X pins σ (upd H a (.ins C dx (putF f y fs))) s'→Q () s'):wpAny (model X.prog X.w) A (setAttr (.ref a) f u) Q E s:=by
 obtain⟨mA,O,r,wi,_,ho⟩:=ins_get I.hok e;have hz:(fs.map (·.1)).length≤sizeLine:=by rw[zH,sizeLine_eq];omega
 refine set_map I.kIn O c.sa c.po n.taker c.hd wi hz fun h' O' sb=>h _ ?_
 have hd:∃ o,h'.get? dx=some o:=let ⟨o,_,_,e',_⟩:=O'.ns;⟨o,e'⟩;refine I.write (x:=a) (e:=dx) (by rw[e];exact True.intro) (.inr ho) (fun b q hb z=>(sb.2 b hb).trans z) hd ?_
 refine⟨by rw[upd_ne O.ne];exact ho,?_,O.ne,O'.obj,_,O'.ns,fun g =>?_,fun g hg =>?_⟩
 ·have:=length_putF f y fs;omega
 ·show RelO ((putF f y fs).lookup g) (if g=f then some u else mA g)
  rw[lookup_putF];by_cases q:g=f
  ·rw[if_pos q,if_pos q];exact ry
  ·rw[if_neg q,if_neg q];exact r g
 ·by_cases q:g=f
  ·rw[q];exact(keys_putF f y fs).1
  ·refine(keys_putF f y fs).2 g (wi g fun z=>hg ?_)
   show (if g=f then some u else mA g)=none
   rw[if_neg q];exact z
theorem Inv.made (I:Inv X pins σ H s):Inv X pins σ (upd (upd H s.heap.objs.size (.own (s.heap.objs.size+1))) (s.heap.objs.size+1) (.ins C s.heap.objs.size []))
  { s with heap:=(s.heap.push emptyDict).push (instObj C s.heap.objs.size) }:=by
 have e1:(s.heap.push emptyDict).get? s.heap.objs.size=some emptyDict:=zV s.heap rfl;have e2:((s.heap.push emptyDict).push (instObj C s.heap.objs.size)).get? (s.heap.objs.size+1)=some (instObj C s.heap.objs.size):=by
  have:=zV (s.heap.push emptyDict) (o:=instObj C s.heap.objs.size) rfl
  rwa [Heap.size_push] at this
 have e3:(s.heap.push emptyDict).Ns s.heap.objs.size (fun _=>none):=⟨emptyDict,#[],_,e1,rfl,(fun e he=>absurd he (by simp)),fun _=>rfl⟩
 have I1:=I.laid (a:=s.heap.objs.size) (o :=.own (s.heap.objs.size+1)) (h':=s.heap.push emptyDict) (t':=s.toks) (fun b u q=>zF _ q) (zL _) ⟨_,e1⟩
 refine I1.laid (a:=s.heap.objs.size+1) (o :=.ins C s.heap.objs.size []) (t':=s.toks) (fun b u q=>zF _ q) (Nat.le_of_eq (Heap.size_push _ _)) ?_
 have ne:s.heap.objs.size≠s.heap.objs.size+1:=zR (Nat.lt_succ_self _);refine⟨by rw[upd_ne ne,upd_same],Nat.zero_le _,ne,e2,fun _=>none,(Heap.Ns1.of_empty e3).at fun o q=>zF _ q,fun _=>True.intro,fun y hy=>absurd rfl hy⟩
theorem attr_of {prog:Program}{w:World}{env:Env}{e:Expr}{f:Str}{pos:Pos}{s:Shared}{Q:Value→Shared→Prop}(hb:attributeBase e f env (eval e env)=eval e env)
  (h:wpAny (model prog w) A (eval e env) (fun o s₁=>wpAny (model prog w) A (getAttr o f true) Q E s₁) E s):wpAny (model prog w) A (eval (.Attribute e f pos) env) Q E s:=
 Attribute_any_ h (by rw[arm_eval_Attribute,hb])
end
noncomputable def tFld (K:Frag) (ta:TE) (f:Str):TE:=fun σ H Q=>ta σ H fun x H1=>∃ a C dx fs v,x=.ref a∧H1 a=some (.ins C dx fs)∧Cls K C∧NoAttr K C f∧fs.lookup f=some v∧Q v H1
noncomputable def sFld (K:Frag) (ta tv:TE) (f:Str):TS:=fun D σ H=>tv σ H fun y H1=>ta σ H1 fun x H2=>∃ a C dx fs,x=.ref a∧H2 a=some (.ins C dx fs)∧Cls K C∧NoAttr K C f∧fs.length<1000 ∧
 D.nx σ (upd H2 a (.ins C dx (putF f y fs)))
noncomputable section
variable {X:Cx}{o e value:Expr}{f:Str}{pos pos' tpos:Pos}{ta tv:TE}
theorem pe_fld (he:PE X e ta) (hb:attributeBase e f X.env (eval e X.env)=eval e X.env):PE X (.Attribute e f pos) (tFld X.K ta f):=by
 intro pins s σ H Q I h;refine attr_of hb (thn (he pins s σ H _ I h) fun u s1 ⟨x,H1,I1,rx,a,C,dx,fs,v,ex,ea,c,n,l,q⟩ =>?_)
 subst ex;obtain rfl:u=Value.ref a:=rx;exact getattr_ok I1 ea c n l fun u' s2 I2 ru=>⟨v,H1,I2,ru,q⟩
theorem ps_fld (ha:PE X o ta) (hv:PE X value tv) (hs:swapsWith value (some (.Attribute o f pos')) pos.line X.env=pure false):PS X (.Assign [.Attribute o f pos'] value pos) (sFld X.K ta tv f):=by
 intro pins s σ H D I h;refine plainObj_wpAny_Assign_Attribute (thn (hv pins s σ H _ I h) fun u s1 ⟨y,H1,I1,ry,q⟩=>thn (ha pins s1 σ H1 _ I1 q) fun ov s2 ⟨x,H2,I2,rx,a,C,dx,fs,ex,ea,c,n,l,q2⟩ =>?_) hs
 subst ex;obtain rfl:ov=Value.ref a:=rx;exact setattr_ok I2 ea c n l ry fun s3 I3=>⟨σ,_,I3,q2⟩
end
noncomputable section
variable {X:Cx}{pins:List (Addr×Obj)}{σ:St}{H:Hp}{s:Shared}{A:Around}{E:Value→Shared→Prop}{Q:Value→Shared→Prop}{c:Value}{b:Bool}
inductive TyOf (K:Frag) (H:Hp):V→Value→Prop where
 | non:TyOf K H .non (.type "NoneType")
 | bl (x:Bool):TyOf K H (.bl x) (.type "bool")
 | int (i:Int):TyOf K H (.int i) (.type "int")
 | str (x:Str):TyOf K H (.str x) (.type "str")
 | flt (x:UInt64):TyOf K H (.flt x) (.type "float")
 | lst {a:Addr}{xs:List V}(e:H a=some (.lst xs)):TyOf K H (.ref a) (.type "list")
 | frz {a:Addr}{o:Obj}{xs:List V}(e:H a=some (.frz o (.lst xs))):TyOf K H (.ref a) (.type "list")
 | tup {a:Addr}{xs:List V}(e:H a=some (.tup xs)):TyOf K H (.ref a) (.type "tuple")
 | dK {a:Addr}{kvs:List (Key×V)}(e:H a=some (.dK kvs)):TyOf K H (.ref a) (.type "dict")
 | dT {a:Addr}{kvs:List (List Key×V)}(e:H a=some (.dT kvs)):TyOf K H (.ref a) (.type "dict")
 | ins {a C dx:Addr}{fs:List (Str×V)}(e:H a=some (.ins C dx fs)) (cl:Cls K C) (ha:findIn K (.ref C) "__class__" = some (some (.builtin "object.__class__")))
   (hn:PySem.W.specialIn K (.builtin "object.__class__") "__get__" = some (some (.builtin "getset_descriptor.__get__"))) (htk:PySem.W.takesIn K (.builtin "object.__class__")=some true)
   (hm:PySem.W.mroIn K C (.type "object")=some true):TyOf K H (.ref a) (.ref C)
theorem isinst_ok {x:V}{u t:Value}(I:Inv X pins σ H s) (rx:RelV x u) (ty:TyOf X.K H x t) (e:kitOne X.K t c=some b) (h:∀ tk,Q (.bool b) { s with toks:=tk }) :
  wpAny (model X.prog X.w) A (call (.builtin "isinstance") [u,c]) Q E s:=by
 cases ty with
 | non=>cases (show u=Value.none from rx);exact kia_one PySem.W.kitx_none I.kIn True.intro e (fun z=>nomatch z) h
 | bl y=>cases (show u=Value.bool y from rx);exact kia_one PySem.W.kitx_bool I.kIn True.intro e (fun z=>nomatch z) h
 | int i=>obtain⟨t,q⟩:=(show ∃ t,u=Value.int i t from rx);cases q;exact kia_one PySem.W.kitx_int I.kIn True.intro e (fun z=>nomatch z) h
 | str y=>obtain⟨t,q⟩:=(show ∃ t,u=Value.str y t from rx);cases q;exact kia_one PySem.W.kitx_str I.kIn True.intro e (fun z=>nomatch z) h
 | flt y=>obtain⟨t,q⟩:=(show ∃ t,u=Value.float y t from rx);cases q;exact kia_one PySem.W.kitx_float I.kIn True.intro e (fun z=>nomatch z) h
 | @lst a xs ea=>
  cases (show u=Value.ref a from rx)
  obtain⟨_,_,n,_,h1⟩:=(show ObjOk X.prog X.w H s.heap a (.lst xs) from I.hok a _ ea)
  exact kia_one PySem.W.kitx_list I.kIn ⟨_,h1,rfl⟩ e (fun z=>nomatch z) h
 | @frz a ob xs ea=>
  cases (show u=Value.ref a from rx)
  obtain⟨_,_,_,n,_,h1⟩:=(show ObjOk X.prog X.w H s.heap a (.frz ob (.lst xs)) from I.hok a _ ea)
  exact kia_one PySem.W.kitx_list I.kIn ⟨_,h1,rfl⟩ e (fun z=>nomatch z) h
 | @tup a xs ea=>
  cases (show u=Value.ref a from rx)
  obtain⟨_,_,_,p⟩:=(show ObjOk X.prog X.w H s.heap a (.tup xs) from I.hok a _ ea)
  obtain⟨o,h1,h2,_⟩:=p;exact kia_one PySem.W.kitx_tuple I.kIn ⟨o,h1,h2⟩ e (fun z=>nomatch z) h
 | @dK a kvs ea=>
  cases (show u=Value.ref a from rx)
  obtain⟨_,_,vs,_,p⟩:=(show ObjOk X.prog X.w H s.heap a (.dK kvs) from I.hok a _ ea)
  obtain⟨o,es,ep,h1,h2,_⟩:=p;exact kia_one PySem.W.kitx_dict I.kIn ⟨o,h1,h2.1⟩ e (fun z=>nomatch z) h
 | @dT a kvs ea=>
  cases (show u=Value.ref a from rx)
  obtain⟨_,_,xs,_,o,es,ep,h1,h2,_⟩:=(show ObjOk X.prog X.w H s.heap a (.dT kvs) from I.hok a _ ea)
  exact kia_one PySem.W.kitx_dict I.kIn ⟨o,h1,h2.1⟩ e (fun z=>nomatch z) h
 | @ins a C dx fs ea cl ha hn htk hm=>
  cases (show u=Value.ref a from rx)
  obtain⟨mA,O,_⟩:=ins_get I.hok ea;obtain⟨od,J,_⟩:=O.look;exact kia_one (PySem.W.kitx_own (cl.get _) cl.hd ha hn htk hm) I.kIn J e (fun z=>nomatch z) h
end
end L2
namespace L2
open PySem PySem.Spec PyProof.Rows
structure Room (k:Nat) (A:Around):Prop where
 hd:A.handled=none
 dp:A.depth+3*k+5<recursionLimit
 un:A.units+16*k+200<cLine
theorem Room.mono {j k:Nat}{A:Around}(r:Room k A) (h:j≤k):Room j A:=⟨r.hd,by have:=r.dp;omega,by have:=r.un;omega⟩
theorem Room.deeper {k:Nat}{A:Around}(r:Room (k+1) A) (env:Env):Room k (A.deeper env):=
 ⟨r.hd,by have:=r.dp;show A.depth+1+3*k+5<_;omega,by have:=r.un;show A.units+3+16*k+200<_;omega⟩
theorem Room.in1 {k:Nat}{A:Around}(r:Room (k+1) A):Room k A.in1:=
 ⟨r.hd,by have:=r.dp;show A.depth+3*k+5<_;omega,by have:=r.un;show A.units+1+16*k+200<_;omega⟩
theorem make_depth {A:Around}{C:Addr}{us:List Value}{kw:List (Str×Value)}:(A.under (.builtin "type.__call__" ⟨.ref C::us,kw⟩)).depth=A.depth+1:=by
 first|rfl|simp[Around.under,Code.weight,Code.isCreation,Code.isGuard,Code.isCaller,Code.frames,Code.isFrame,guardIds]
theorem make_units {A:Around}{C:Addr}{us:List Value}{kw:List (Str×Value)}:(A.under (.builtin "type.__call__" ⟨.ref C::us,kw⟩)).units=A.units+1:=by
 first|rfl|simp[Around.under,Code.cUnits,Code.frames,Code.isFrame]
theorem Room.make {k:Nat}{A:Around}(r:Room (k+1) A) (C:Addr) (us:List Value) (kw:List (Str×Value)):Room k (A.under (.builtin "type.__call__" ⟨.ref C::us,kw⟩)):=
 ⟨r.hd,by have:=r.dp;rw[make_depth];omega,by have:=r.un;rw[make_units];omega⟩
theorem Room.depth {k:Nat}{A:Around}(r:Room k A):A.depth<recursionLimit:=by have:=r.dp;omega
theorem Room.units {k:Nat}{A:Around}(r:Room k A):A.units+64<cLine:=by have:=r.un;omega
noncomputable def tNil:TA:=fun _ H Q=>Q [] H
noncomputable def tCons (ta:TE) (tr:TA):TA:=fun σ H Q=>ta σ H fun x H1=>tr σ H1 fun xs H2=>Q (x::xs) H2
noncomputable section
variable {X:Cx}{e:Expr}{es:List Expr}{te:TE}{t:TA}{pos:Pos}
theorem pa_nil:PA X [] tNil:=fun _ _ _ _ H Q I h=>Calls.spliced_nil ⟨[],H,I,.nil,h⟩
theorem pa_cons (ha:PE X e te) (hr:PA X es t) (hs:starEach (e::es) X.env=(false,eval e X.env)::starEach es X.env:=by rfl):PA X (e::es) (tCons te t):=by
 intro pos pins s σ H Q I h;rw[hs];show wpAny _ _ (spliced ((false,eval e X.env)::backTo pos (starEach es X.env))) _ _ s;refine Calls.spliced_cons (thn (ha pins s σ H _ I h) fun u s1 ⟨x,H1,I1,r1,q1⟩ =>?_)
 exact thn (hr pos pins s1 σ H1 _ I1 q1) fun us s2 ⟨xs,H2,I2,r2,q2⟩=>⟨x::xs,H2,I2,.cons r1 r2,q2⟩
noncomputable def tTup (t:TA):TE:=fun σ H Q=>t σ H fun xs H1=>xs.length≤sizeLine∧∀ p,H1 p=none→Q (.ref p) (upd H1 p (.tup xs))
noncomputable def tLst (t:TA):TE:=fun σ H Q=>t σ H fun xs H1=>xs.length≤sizeLine∧∀ p,H1 p=none→Q (.ref p) (upd H1 p (.lst xs))
theorem pe_tup {x1} (h:PA X es t):PE X (.Tuple es x1 pos) (tTup t):=by
 intro pins s σ H Q I hq;refine wpAny_Tuple_spliced (thn (h pos pins s σ H _ I hq) fun us s1 ⟨xs,H1,I1,r,z,q⟩=>⟨by rw[← r.length];exact z,?_⟩)
 have hf:H1 s1.heap.objs.size=none:=I1.hok.fresh (zL _);refine⟨.ref s1.heap.objs.size,upd H1 s1.heap.objs.size (.tup xs),I1.laid (t':=s1.toks) (fun b u e=>zF _ e) (zL _) ?_,rfl,q _ hf⟩
 exact⟨z,us,r,⟨_,zV _ rfl,rfl,_,rfl⟩⟩
theorem pe_lst (h:PA X es t):PE X (.List es pos) (tLst t):=by
 intro pins s σ H Q I hq;refine wpAny_List_spliced (thn (h pos pins s σ H _ I hq) fun us s1 ⟨xs,H1,I1,r,z,q⟩=>⟨by rw[← r.length];exact z,?_⟩)
 have hf:H1 s1.heap.objs.size=none:=I1.hok.fresh (zL _);refine⟨.ref s1.heap.objs.size,upd H1 s1.heap.objs.size (.lst xs),I1.laid (t':=s1.toks) (fun b u e=>zF _ e) (zL _) ?_,rfl,q _ hf⟩
 exact⟨z,us,0,r,zV _ rfl⟩
end
noncomputable abbrev Sp:=List V→Hp→VK→XK→Prop
noncomputable abbrev CXT:=List Env→Hp→Shared→XK→Value→Shared→Prop
structure Env0 (P:Program) (w:World) (K:Frag) (mg:Str→Option Value) (base:Heap) (A:Around) (outer:List Env) (s:Shared) (H:Hp):Prop where
 frames:A.frames=some outer
 mod:Mod K mg base
 bs:∀ b o,base.get? b=some o→s.heap.get? b=some o∧H b=none
 bsz:base.objs.size≤s.heap.objs.size
 funs:s.heap.FunFrames base outer
 frf:∀ b∈frs outer,H b=none
 hok:HOk P w H s.heap
 bare:AllBare s.gens
noncomputable def CE (outer:List Env) (P:Program) (w:World) (H:Hp) (s:Shared) (Q:VK) (u:Value) (s':Shared):Prop:=
 ∃ v H',s'.os=s.os∧AllBare s'.gens∧Un (frs outer) [] H H' s.heap s'.heap∧HOk P w H' s'.heap∧RelV v u∧Q v H'
noncomputable def CR (CX:CXT) (outer:List Env) (P:Program) (w:World) (H:Hp) (s:Shared) (Q:VK) (E:XK) (r:Result) (s':Shared):Prop:=
 match r with
 | .ok (.ret u)=>CE outer P w H s Q u s'
 | .ok _=>False
 | .error e=>CX outer H s E e s'
structure FnOk (P:Program) (w:World) (K:Frag) (mg:Str→Option Value) (base:Heap) (CX:CXT) (k:Nat) (f:Addr) (fd:FuncData) (ps:List Str) (sp:Sp):Prop where
 len:∀ vs H Q E,sp vs H Q E→vs.length=ps.length
 run:∀ (A:Around) (outer:List Env) (s:Shared) (H:Hp) (args:Args) (us:List Value) (vs:List V) (Q:VK) (E:XK),Room k A→Env0 P w K mg base A outer s H→BindsTo s fd args (ps.zip us)→Vals vs us→sp vs H Q E →
  codeAny (model P w) A (.call (.ref f) args) (CR CX outer P w H s Q E) s
theorem FnOk.mono {P:Program}{w:World}{K:Frag}{mg:Str→Option Value}{base:Heap}{CX:CXT}{j k:Nat}{f:Addr}{fd:FuncData}{ps:List Str}{sp:Sp}(F:FnOk P w K mg base CX j f fd ps sp) (h:j≤k) :
  FnOk P w K mg base CX k f fd ps sp:=⟨F.len,fun A outer s H args us vs Q E hr=>F.run A outer s H args us vs Q E (hr.mono h)⟩
theorem FnOk.imp {P:Program}{w:World}{K:Frag}{mg:Str→Option Value}{base:Heap}{CX:CXT}{k:Nat}{f:Addr}{fd:FuncData}{ps:List Str}{sp sp':Sp}(F:FnOk P w K mg base CX k f fd ps sp)
  (h:∀ vs H Q E,sp' vs H Q E→sp vs H Q E):FnOk P w K mg base CX k f fd ps sp':=
 ⟨fun vs H Q E q=>F.len vs H Q E (h _ _ _ _ q),fun A outer s H args us vs Q E hr he hb hv hs=>F.run A outer s H args us vs Q E hr he hb hv (h _ _ _ _ hs)⟩
theorem Env0.make {P:Program}{w:World}{K:Frag}{mg:Str→Option Value}{base:Heap}{A:Around}{outer:List Env}{s:Shared}{H:Hp}(e:Env0 P w K mg base A outer s H) (C:Addr) (us:List Value) (kw:List (Str×Value)) :
  Env0 P w K mg base (A.under (.builtin "type.__call__" ⟨.ref C::us,kw⟩)) outer s H:=⟨by first|exact e.frames|(simpa [Around.under,Code.envs,Code.isFrame,pushEnvs] using e.frames),e.mod,e.bs,e.bsz,e.funs,e.frf,e.hok,e.bare⟩
theorem Env0.in1 {P:Program}{w:World}{K:Frag}{mg:Str→Option Value}{base:Heap}{A:Around}{outer:List Env}{s:Shared}{H:Hp}(e:Env0 P w K mg base A outer s H) :
  Env0 P w K mg base A.in1 outer s H:=⟨e.frames,e.mod,e.bs,e.bsz,e.funs,e.frf,e.hok,e.bare⟩
noncomputable section
variable {X:Cx}{pins:List (Addr×Obj)}{σ:St}{H:Hp}{s s':Shared}
theorem Inv.env0 (I:Inv X pins σ H s):Env0 X.prog X.w X.K X.mg X.base X.A X.stack s H:=
 ⟨I.ok.frames,I.ok.mod,I.bs,yB I.ok.bsz I.sz,I.stack,I.stkFree,I.hok,I.bare⟩
theorem Inv.after {Q:VK}{u:Value}(I:Inv X pins σ H s) (h:CE X.stack X.prog X.w H s Q u s'):EP X pins σ Q u s':=by
 obtain⟨v,H',os,bare,un,hok,r,q⟩:=h;obtain⟨hh,g,d,t,os'⟩:=s';obtain rfl:os'=s.os:=os;exact⟨v,H',I.call (h':=hh) (g':=g) (d':=d) (t':=t) (ch:=[]) un hok bare (fun b z=>absurd z (by simp)),r,q⟩
end
noncomputable def tCall (sp:Sp) (dvs:List V) (E:XK) (t:TA):TE:=fun σ H Q=>t σ H fun vs H1=>sp (vs++dvs) H1 Q E
noncomputable def tMake (C:Addr) (sp:Sp) (dvs:List V) (E:XK) (t:TA):TE:=fun σ H Q=>t σ H fun vs H1=>∀ x dx,H1 x=none→H1 dx=none→dx≠x →
 sp (.ref x::(vs++dvs)) (upd (upd H1 dx (.own x)) x (.ins C dx [])) (fun v H2=>v=.non∧Q (.ref x) H2) E
noncomputable def Binds (K:Frag) (fd:FuncData) (ps:List Str) (ds:List Value):Prop:=
 ∀ (s:Shared) (us:List Value),K.In s.heap→(us++ds).length=ps.length→BindsTo s fd ⟨us,[]⟩ (ps.zip (us++ds))
theorem Binds.all {K:Frag}{fd:FuncData}{ps:List Str}(h:∀ us:List Value,us.length=ps.length→bindArgs fd ⟨us,[]⟩=pure (ps.zip us)):Binds K fd ps []:=fun s us _ hl=>by
 rw[List.append_nil] at hl ⊢;exact .of_eq (h us hl)
noncomputable def Passes (CX:CXT) (X:Cx) (E:XK):Prop:=∀ (pins:List (Addr×Obj)) (σ:St) (H:Hp) (s:Shared) (e:Value) (s':Shared),Inv X pins σ H s→CX X.stack H s E e s'→X.xe e s'
noncomputable section
variable {X:Cx}{CX:CXT}{k:Nat}{f C:Addr}{fd:FuncData}{ps:List Str}{sp:Sp}{dvs:List V}{ds:List Value}{E:XK}{x m:Str}{p pos apos:Pos}{e o:Expr}{es:List Expr}{ta:TE}{t:TA}
theorem run_fn {pins:List (Addr×Obj)}{σ:St}{H:Hp}{s:Shared}{Q:VK}{us:List Value}{vs:List V}(F:FnOk X.prog X.w X.K X.mg X.base CX k f fd ps sp) (hr:Room k X.A) (hb:Binds X.K fd ps ds) (hd:Vals dvs ds) (hx:Passes CX X E)
  (I:Inv X pins σ H s) (r:Vals vs us) (h:sp (vs++dvs) H Q E):wpAny (model X.prog X.w) X.A (call (.ref f) us) (EP X pins σ Q) X.xe s:=by
 have r2:Vals (vs++dvs) (us++ds):=r.append hd;have hl:(us++ds).length=ps.length:=by rw[← r2.length];exact F.len _ _ _ _ h
 refine wpAny_call (codeAny_mono (F.run X.A X.stack s H ⟨us,[]⟩ (us++ds) (vs++dvs) Q E hr I.env0 (hb s us I.kIn hl) r2 h) fun r s' hq =>?_)
 cases r with
 | error e=>exact hx pins σ H s e s' I hq
 | ok fl=>
  cases fl with
  | ret u=>exact I.after hq
  | next=>exact False.elim hq
  | brk=>exact False.elim hq
  | cont=>exact False.elim hq
theorem pe_call (F:FnOk X.prog X.w X.K X.mg X.base CX k f fd ps sp) (hr:Room k X.A) (hg:Gl X x) (hm:X.mg x=some (.ref f)) (hk:keepIn X.K (.ref f)=true) (hb:Binds X.K fd ps ds) (hd:Vals dvs ds) (hx:Passes CX X E)
  (ha:PA X (e::es) t) (hdb:(x==("__debug__" : Str))=false:=by decide) (he:starEach (e::es) X.env=(false,eval e X.env)::starEach es X.env:=by rfl) (hpl:(backTo pos (starEach es X.env)).any (·.1)=false:=by rfl) :
  PE X (.Call (.Name x p) (e::es) [] pos) (tCall sp dvs E t):=by
 intro pins s σ H Q I h;refine wpAny_Call_Name_kw (ld_glob I hg hm ?_ hdb);refine PySem.W.callWith_K (h₀:=X.base) I.ok.mod.kin hk (thn (ha pos pins s σ H _ I h) fun us s1 ⟨vs,H1,I1,r,q⟩=>⟨I1.kIn,?_⟩) he hpl
 exact run_fn F hr hb hd hx I1 r q
structure Mk (K:Frag) (C f:Addr):Prop where
 makes:makesIn K C=true
 init:findIn K (.ref C) "__init__" = some (some (.ref f))
 fn:PySem.W.isFn K (.ref f)=true
 kp:keepIn K (.ref C)=true
theorem run_make {pins:List (Addr×Obj)}{σ:St}{H:Hp}{s:Shared}{Q:VK}{us:List Value}{vs:List V}(M:Mk X.K C f) (F:FnOk X.prog X.w X.K X.mg X.base CX k f fd ps sp) (hr:Room (k+1) X.A) (hb:Binds X.K fd ps ds) (hd:Vals dvs ds)
  (hx:Passes CX X E) (I:Inv X pins σ H s) (r:Vals vs us)
  (h:∀ x dx,H x=none→H dx=none→dx≠x→sp (.ref x::(vs++dvs)) (upd (upd H dx (.own x)) x (.ins C dx [])) (fun v H2=>v=.non∧Q (.ref x) H2) E) :
  wpAny (model X.prog X.w) X.A (call (.ref C) us) (EP X pins σ Q) X.xe s:=by
 have hq:=h (s.heap.objs.size+1) s.heap.objs.size (I.hok.fresh (Nat.le_succ _)) (I.hok.fresh (zL _)) (zR (Nat.lt_succ_self _));have I2:=Inv.made (C:=C) I;have r2:Vals (V.ref (s.heap.objs.size+1)::(vs++dvs)) (Value.ref (s.heap.objs.size+1)::(us++ds)) :=.cons rfl (r.append hd);have hl:(Value.ref (s.heap.objs.size+1)::us++ds).length=ps.length:=by have e:=r2.length;rw[F.len _ _ _ _ hq] at e;exact e.symm
 refine wpAny_call (make_map (f:=f) I.kIn M.makes M.init (beq_iff_eq.mp M.fn) (codeAny_mono (F.run _ X.stack _ _ ⟨Value.ref (s.heap.objs.size+1)::us,[]⟩ (Value.ref (s.heap.objs.size+1)::(us++ds)) _ _ E (hr.make C us [])
  (I2.env0.make C us []) (hb _ (Value.ref (s.heap.objs.size+1)::us) I2.kIn hl) r2 hq) fun r s' hq' =>?_))
 cases r with
 | error e=>exact hx pins σ _ _ e s' I2 hq'
 | ok fl=>
  cases fl with
  | ret u=>obtain⟨v,H',I3,rv,ev,q3⟩:=I2.after hq';subst ev;exact⟨rv,⟨V.ref (s.heap.objs.size+1),H',I3,rfl,q3⟩⟩
  | next=>exact False.elim hq'
  | brk=>exact False.elim hq'
  | cont=>exact False.elim hq'
theorem pe_make0 (M:Mk X.K C f) (F:FnOk X.prog X.w X.K X.mg X.base CX k f fd ps sp) (hr:Room (k+1) X.A) (hg:Gl X x) (hm:X.mg x=some (.ref C)) (hb:Binds X.K fd ps ds) (hd:Vals dvs ds) (hx:Passes CX X E)
  (hdb:(x==("__debug__" : Str))=false:=by decide):PE X (.Call (.Name x p) [] [] pos) (tMake C sp dvs E tNil):=by
 intro pins s σ H Q I h;refine wpAny_Call_Name_kw (ld_glob I hg hm ?_ hdb);exact PySem.W.callWith_K0 I.kIn M.kp (run_make (us:=[]) M F hr hb hd hx I .nil h)
end
noncomputable section
variable {X:Cx}{CX:CXT}{k:Nat}{f C:Addr}{fd:FuncData}{ps ks:List Str}{sp:Sp}{E:XK}{x m:Str}{p pos apos kpos:Pos}{e o:Expr}{es:List Expr}{kws:List Keyword}{te ta:TE}{t tk:TA}{nm:Option Str}
variable {g:List Value→List Value→List Value}{gV:List V→List V→List V}
end
structure FnScope (N P:List Str) (sc:Scope):Prop where
 kind:sc.kind=.function
 co:sc.isCoroutine=false
 gen:sc.isGenerator=false
 nd:N.Nodup
 pre:N.take P.length=P
 par:∀ x∈P,sc.names.lookup x=some .local∨sc.names.lookup x=some .cell
 nofree:∀ y∈sc.names,y.2 ≠ .free
theorem bindL_out {kindOf:Str→Option NameKind}{x:Str}:∀ {binds:List (Str×Value)}{m:Str→Option Value},(∀ v,(x,v)∉binds)→bindL kindOf binds m x=m x
 | [],_,_=>rfl
 | (n,v)::r,m,h=>by
  unfold bindL;rw[bindL_out fun w hw=>h w (zB _ hw)]
  split
  ·have:x≠n:=by rintro rfl;exact h v zD
   simp[this]
  ·rfl
theorem bindC_out {kindOf:Str→Option NameKind}{x:Str}:∀ {binds:List (Str×Value)}{m:Str→Option Value},(∀ v,(x,v)∉binds)→bindC kindOf binds m x=m x
 | [],_,_=>rfl
 | (n,v)::r,m,h=>by
  unfold bindC;rw[bindC_out fun w hw=>h w (zB _ hw)]
  split
  ·rfl
  ·have:x≠n:=by rintro rfl;exact h v zD
   simp[this]
theorem bindL_get {kindOf:Str→Option NameKind}{x:Str}{v:Value}:∀ {P:List Str}{vs:List Value}{i:Nat}{m:Str→Option Value},P.Nodup→P[i]?=some x→vs[i]?=some v→kindOf x=some .local →
  bindL kindOf (P.zip vs) m x=some v
 | [],_,_,_,_,h,_,_=>by simp at h
 | _::_,[],_,_,_,_,h,_=>by simp at h
 | p::P,w::vs,0,m,nd,h1,h2,hk=>by
  simp at h1 h2;subst h1;subst h2;show bindL kindOf ((p,w)::P.zip vs) m p=_;unfold bindL;rw[bindL_out fun v hv=>(List.nodup_cons.mp nd).1 (List.of_mem_zip hv).1,if_pos hk]
  simp
 | p::P,w::vs,i+1,m,nd,h1,h2,hk=>by show bindL kindOf ((p,w)::P.zip vs) m x=_;unfold bindL;exact bindL_get (i:=i) (List.nodup_cons.mp nd).2 (by simpa using h1) (by simpa using h2) hk
theorem bindC_get {kindOf:Str→Option NameKind}{x:Str}{v:Value}:∀ {P:List Str}{vs:List Value}{i:Nat}{m:Str→Option Value},P.Nodup→P[i]?=some x→vs[i]?=some v→kindOf x≠some .local →
  bindC kindOf (P.zip vs) m x=some v
 | [],_,_,_,_,h,_,_=>by simp at h
 | _::_,[],_,_,_,_,h,_=>by simp at h
 | p::P,w::vs,0,m,nd,h1,h2,hk=>by
  simp at h1 h2;subst h1;subst h2;show bindC kindOf ((p,w)::P.zip vs) m p=_;unfold bindC;rw[bindC_out fun v hv=>(List.nodup_cons.mp nd).1 (List.of_mem_zip hv).1,if_neg hk]
  simp
 | p::P,w::vs,i+1,m,nd,h1,h2,hk=>by show bindC kindOf ((p,w)::P.zip vs) m x=_;unfold bindC;exact bindC_get (i:=i) (List.nodup_cons.mp nd).2 (by simpa using h1) (by simpa using h2) hk
noncomputable def start (N:List Str) (vs:List V):St:=vs.map some++List.replicate (N.length-vs.length) none
noncomputable def cxOf (CX:CXT) (P:Program) (w:World) (K:Frag) (mg:Str→Option Value) (base:Heap) (N:List Str) (qual:Str) (scope:Scope) (f:Addr) (cd:Value) (A:Around) (outer:List Env) (s:Shared) (H:Hp) (E:XK):Cx where
 prog:=P
 w:=w
 K:=K
 mg:=mg
 base:=base
 A:=A.deeper (envOfC qual scope s.heap.objs.size f cd)
 N:=N
 s₀:=s
 H₀:=H
 env:=envOfC qual scope s.heap.objs.size f cd
 outer:=outer
 stack:=envOfC qual scope s.heap.objs.size f cd::outer
 ex:=[]
 calm:=true
 fn:=fun _=>true
 pn:=[]
 xe:=fun e s'=>wpAny (model P w) (A.deeper (envOfC qual scope s.heap.objs.size f cd)) (leaving (envOfC qual scope s.heap.objs.size f cd) e) (fun _ s''=>CX outer H s E e s'') (fun e' s''=>CX outer H s E e' s'') s'
theorem cell_has {sc:Scope}{n:Nat}{x:Str}(h:sc.names.lookup x=some .cell):∃ c,(cellsFrom n sc.names []).lookup x=some c:=by
 have q:=PySem.W.cellsFrom_some sc.names n [] (.inl h);exact Option.isSome_iff_exists.mp q
theorem inv_start {CX:CXT}{P:Program}{w:World}{K:Frag}{mg:Str→Option Value}{base:Heap}{N ps:List Str}{qual:Str}{scope:Scope}{f:Addr}{cd:Value}{A:Around}{outer:List Env}{s s1:Shared}{H:Hp}{E:XK}{us:List Value}{vs:List V}
  (S:FnScope N ps scope) (hd:A.handled=none) (e0:Env0 P w K mg base A outer s H) (hl:vs.length=ps.length) (r:Vals vs us)
  (x:InCallC s s.heap.objs.size (bindL (envOfC qual scope s.heap.objs.size f cd).kindOf (ps.zip us) fun _=>none) (cellsFrom (s.heap.objs.size+1) scope.names []) (bindC (envOfC qual scope s.heap.objs.size f cd).kindOf (ps.zip us) fun _=>none) s1) :
  Inv (cxOf CX P w K mg base N qual scope f cd A outer s H E) [] (start N vs) H s1:=by
 have hpl:ps.length≤N.length:=by have:=congrArg List.length S.pre;rw[List.length_take] at this;omega
 obtain⟨h1,tk,rfl,hk⟩:=x.done;have noA:∀ b:Addr,b∉(cxOf CX P w K mg base N qual scope f cd A outer s H E).ex:=fun b z=>absurd (show b∈([]:List Addr) from z) (by simp)
 refine⟨⟨e0.mod,S.kind,rfl,rfl,zL _,fun y z c h1 h2 =>?_,fun y hy =>?_,fun y c _ h =>?_,fun _=>hd,Around.frames_deeper e0.frames,.inr ⟨rfl,rfl⟩,fun b z=>absurd z (noA b),e0.bs,e0.bsz,fun b _ _=>noA b,fun b z=>absurd z (noA b),e0.funs,e0.frf⟩,
  rfl,e0.bare,Un.kept hk,⟨_,x.toInCall.ns,fun i y v h1 h2 h3 =>?_⟩,fun y c h=>⟨_,x.cell y c h⟩,e0.hok.fresh (zL _),fun y c h =>?_,fun p hp=>absurd (show p∈([]:List (Addr×Obj)) from hp) (by simp),e0.hok.kept hk,?_⟩
 ·exact name_of_addr x.apart (PySem.mem_of_lookup h1) (PySem.mem_of_lookup h2)
 ·have hy:scope.names.lookup y=some .cell∨scope.names.lookup y=some .free:=hy;rcases hy with hy|hy
  ·exact cell_has hy
  ·exact absurd rfl (S.nofree _ (PySem.mem_of_lookup hy))
 ·exact Nat.le_of_lt (x.above y c (PySem.mem_of_lookup h))
 ·have hi:i<vs.length:=by
   unfold start at h2;by_cases hi:i<vs.length
   ·exact hi
   ·rw[List.getElem?_append_right (by simpa using hi)] at h2
    rw[List.getElem?_replicate] at h2
    split at h2<;>cases h2
  have ha:vs[i]?=some v:=by
   unfold start at h2;rw[yE (by simpa using hi),zM] at h2
   cases e:vs[i]? with
   | none=>rw[e] at h2;cases h2
   | some a=>rw[e] at h2;cases h2;rfl
  obtain⟨u,hu,rv⟩:=r.get ha;have hp:ps[i]?=some y:=by rw[← S.pre,List.getElem?_take_of_lt (by omega)];exact h1
  have ndP:ps.Nodup:=by rw[← S.pre];exact S.nd.sublist (List.take_sublist _ _)
  refine⟨u,rv,?_⟩;rcases S.par y (zX hp) with k|k
  ·exact .inl ⟨k,bindL_get ndP hp hu k⟩
  ·obtain⟨c,e⟩:=cell_has (n:=s.heap.objs.size+1) k;refine .inr ⟨.inl k,c,e,?_⟩;have q:=x.cell y c e;rw[bindC_get ndP hp hu (by show scope.names.lookup y≠_;rw[k];decide)] at q
   exact q
 ·exact e0.hok.fresh (Nat.le_of_lt (x.above y c (PySem.mem_of_lookup h)))
 ·unfold start;show _=N.length;rw[List.length_append,zH,List.length_replicate];omega
theorem fn_of {CX:CXT}{P:Program}{w:World}{K:Frag}{mg:Str→Option Value}{base:Heap}{k:Nat}{f:Addr}{name qual:Str}{params:Arguments}{body:List Stmt}{scope:Scope}{dV kV doc pm cdv ct oc:Value}{an od:Option Addr}
  {osl:Array (Option Value)}{N ps:List Str}{sp:Sp}(lk:K.lookup f=some ⟨oc,od,.func (fnOf name qual params body scope dV kV doc pm an cdv ct),osl⟩) (hcd:codeIn K cdv qual=true) (S:FnScope N ps scope)
  (len:∀ vs H Q E,sp vs H Q E→vs.length=ps.length)
  (hbody:∀ (A:Around) (outer:List Env) (s:Shared) (H:Hp) (vs:List V) (Q:VK) (E:XK),Room k (A.deeper (envOfC qual scope s.heap.objs.size f cdv))→sp vs H Q E →
   ∃ t,PSs (cxOf CX P w K mg base N qual scope f cdv A outer s H E) body t∧t { nx:=fun _ H'=>Q .non H',rt:=Q } (start N vs) H) :
  FnOk P w K mg base CX (k+1) f (fnOf name qual params body scope dV kV doc pm an cdv ct) ps sp:=by
 refine⟨len,fun A outer s H args us vs Q E hr e0 hb r hsp =>?_⟩
 have hl:=len _ _ _ _ hsp;have KX:K.In s.heap:=e0.mod.kin.keeps fun b o e=>(e0.bs b o e).1
 have lim:s.heap.NoLimit:=e0.mod.nolimit.keeps fun b o e=>(e0.bs b o e).1
 have hkind:∀ y∈ps.zip us,scope.names.lookup y.1=some .local∨(scope.names.lookup y.1=some .cell∧((cellsFrom (s.heap.objs.size+1) scope.names []).lookup y.1).isSome=true):=fun ⟨n,v⟩ hy=>by
  rcases S.par n (List.of_mem_zip hy).1 with q|q
  ·exact .inl q
  ·exact .inr ⟨q,PySem.W.cellsFrom_some _ _ _ (.inl q)⟩
 refine codeAny_call_function hr.depth (KX _ _ lk) rfl S.co S.gen rfl (PySem.W.codeRec_of KX hcd) (hb _ _ _ _ ?_);refine wpAny_newFunctionEnv_cells S.kind hkind fun env he s1 x =>?_
 subst he;refine⟨lim.keeps x.toInCall.keep,codeAny_func ?_⟩;obtain⟨t,ht,hq⟩:=hbody A outer s H vs Q E (hr.deeper _) hsp;have I:Inv (cxOf CX P w K mg base N qual scope f cdv A outer s H E) [] (start N vs) H s1:=inv_start S hr.hd e0 hl r x;refine wpAny_mono (ht [] s1 (start N vs) H _ I hq) (fun fl s' hs =>?_) fun e s' hs=>hs
 have fin:∀ {σ':St}{H':Hp}{v:V}{u:Value},Inv (cxOf CX P w K mg base N qual scope f cdv A outer s H E) [] σ' H' s'→RelV v u→Q v H'→CE outer P w H s Q u s':=
  fun {σ' H' v u} J rv q=>⟨v,H',J.os,J.bare,J.base,J.hok,rv,q⟩
 cases fl with
 | ret u=>obtain⟨v,σ',H',J,rv,q⟩:=hs;exact fin J rv q
 | next=>obtain⟨σ',H',J,q⟩:=hs;exact fin (v:=V.non) (u:=Value.none) J rfl q
 | brk=>obtain⟨_,_,_,q⟩:=hs;exact False.elim q
 | cont=>obtain⟨_,_,_,q⟩:=hs;exact False.elim q
end L2
namespace L2
open PySem PySem.Spec PyProof.Rows
noncomputable section
variable {X:Cx}{x:Str}{p pos:Pos}{e:Expr}{es:List Expr}{t:TA}{id T:String}{r:List V→Hp→VK→Prop}
noncomputable def tCB (r:List V→Hp→VK→Prop) (t:TA):TE:=fun σ H Q=>t σ H fun vs H1=>r vs H1 Q
theorem pe_callB (hc:CallR X (.builtin id) r) (hg:Gl X x) (hm:X.mg x=none) (hv:bootBuiltins x=some (.builtin id)) (ha:PA X (e::es) t) (hn:x ≠ "__name__" :=by decide) (hdb:(x==("__debug__" : Str))=false:=by decide)
  (he:starEach (e::es) X.env=(false,eval e X.env)::starEach es X.env:=by rfl) (hpl:(backTo pos (starEach es X.env)).any (·.1)=false:=by rfl):PE X (.Call (.Name x p) (e::es) [] pos) (tCB r t):=by
 intro pins s σ H Q I h;refine wpAny_Call_Name_kw (ld_blt I hg hm hv ?_ hn hdb);exact PyProof.Rows.callWith_builtin1 (thn (ha pos pins s σ H _ I h) fun us s1 ⟨vs,H1,I1,r1,q1⟩=>hc pins s1 σ H1 vs us Q I1 r1 q1) he hpl
end
end L2
namespace HT
open PySem PyProof.Rows
noncomputable section
open PySem.SeqAt
open PySem.AutoSeq1 (wpAny_loadPart')
open PySem.MeetsSeq PySem.MeetsSeq2 PySem.MeetsSeq3
end
noncomputable section
variable {prog:Program}{w:World}{A:Around}{E:Value→Shared→Prop}{s:Shared}
noncomputable def sIx (n d:Nat):Option Int→Nat
 | none=>d
 | some v=>if v<0 then (v+(n:Int)).toNat else min v.toNat n
end
end HT
namespace L2
open PySem PySem.Spec PyProof.Rows
noncomputable abbrev TO:=St→Hp→(Option Int→Hp→Prop)→Prop
noncomputable def PO (X:Cx) (e:Option Expr) (t:TO):Prop:=
 ∀ (pins:List (Addr×Obj)) (s:Shared) (σ:St) (H:Hp) (Q:Option Int→Hp→Prop),Inv X pins σ H s→t σ H Q →
  wpAny (model X.prog X.w) X.A (evalPart e X.env) (fun u s'=>∃ o H',Inv X pins σ H' s'∧IsPart u o∧Q o H') X.xe s
noncomputable def tNoPart:TO:=fun _ H Q=>Q none H
noncomputable def tPart (t:TE):TO:=fun σ H Q=>t σ H fun x H1=>∃ i,x=.int i∧Q (some i) H1
noncomputable section
variable {X:Cx}{e:Expr}{te:TE}{lo hi:Option Expr}{tl th:TO}{pos p2:Pos}
theorem po_none:PO X none tNoPart:=by
 intro pins s σ H Q I h;rw[evalPart_none];exact zW ⟨none,H,I,.none,h⟩
theorem po_some (h:PE X e te):PO X (some e) (tPart te):=by
 intro pins s σ H Q I hw;rw[evalPart_some];refine thn (h pins s σ H _ I hw) fun u s1 ⟨x,H1,I1,r1,q1⟩ =>?_
 obtain⟨i,rfl,q⟩:=q1;obtain⟨t,rfl⟩:=r1;exact⟨some i,H1,I1,.int i t,q⟩
noncomputable def SlR (X:Cx) (r:V→Option Int→Option Int→Hp→VK→Prop):Prop:=
 ∀ (pins:List (Addr×Obj)) (s:Shared) (σ:St) (H:Hp) (x:V) (v vl vu:Value) (lo hi:Option Int) (sl:Addr) (Q:VK),Inv X pins σ H s→RelV x v→s.heap.IsSliceOf sl vl vu .none→IsPart vl lo→IsPart vu hi→r x lo hi H Q →
  ∃ T id,typeLookup (.type T) "__getitem__" = pure (some (.builtin id))∧s.TypeIs v T∧wpAny (model X.prog X.w) X.A (getItem v (.ref sl)) (EP X pins σ Q) X.xe s
noncomputable def tSl (r:V→Option Int→Option Int→Hp→VK→Prop) (te:TE) (tl th:TO):TE:=fun σ H Q=>te σ H fun x H1=>tl σ H1 fun l H2=>th σ H2 fun u H3=>r x l u H3 Q
theorem pe_slice {r:V→Option Int→Option Int→Hp→VK→Prop}(hr:SlR X r) (he:PE X e te) (hl:PO X lo tl) (hu:PO X hi th):PE X (.Subscript e (.Slice lo hi none p2) pos) (tSl r te tl th):=by
 intro pins s σ H Q I h;refine Subscript_ (thn (he pins s σ H _ I h) fun v s1 ⟨x,H1,I1,r1,q1⟩ =>?_)
 refine wpAny_Slice (thn (hl pins s1 σ H1 _ I1 q1) fun vl s2 ⟨l,H2,I2,pl,q2⟩=>thn (hu pins s2 σ H2 _ I2 q2) fun vu s3 ⟨u,H3,I3,pu,q3⟩ =>?_)
 rw[evalPart_none];refine zW ?_;have I4:Inv X pins σ H3 { s3 with heap:=s3.heap.push { cls :=.type "slice",data :=.fields #[vl,vu,.none] } }:=I3.kept (t':=s3.toks) fun b ob q=>zF _ q
 obtain⟨T,id,hT,ht,hg⟩:=hr pins { s3 with heap:=s3.heap.push { cls :=.type "slice",data :=.fields #[vl,vu,.none] } } σ H3 x v vl vu l u s3.heap.objs.size Q I4 r1 (Heap.IsSliceOf.new ..) pl pu q3;show wpAny (model X.prog X.w) X.A (subscriptTail e (.Slice lo hi none p2) v (.ref s3.heap.objs.size)) (EP X pins σ Q) X.xe { s3 with heap:=s3.heap.push { cls :=.type "slice",data :=.fields #[vl,vu,.none] } };exact tail_any (ops:=[.ref s3.heap.objs.size,v]) ht hT hg (by with_unfolding_all rfl)
noncomputable def cutV (xs:List V) (lo hi:Option Int):List V:=(xs.drop (HT.sIx xs.length 0 lo)).take (HT.sIx xs.length xs.length hi-HT.sIx xs.length 0 lo)
theorem cutV_length (xs:List V) (lo hi:Option Int):(cutV xs lo hi).length≤xs.length:=by
 unfold cutV;rw[List.length_take,List.length_drop];omega
end
end L2
namespace L2
open PySem PySem.Spec PyProof.Rows
noncomputable def ixN (n:Nat) (i:Int):Option Nat:=if 0≤i then (if i<n then some i.toNat else none) else if -(n:Int)≤i then some (i+n).toNat else none
noncomputable def atI {α:Type}(xs:List α) (i:Int):Option α:=(ixN xs.length i).bind fun j=>xs[j]?
theorem ixN_seq {n:Nat}{i:Int}{j:Nat}(h:ixN n i=some j):seqIndex? i n=some j∧j<n ∧ -(n:Int)≤i∧i<n:=by
 unfold ixN at h;by_cases h0:0≤i
 ·rw[if_pos h0] at h;by_cases h1:i<n
  ·rw[if_pos h1] at h;have e:i.toNat=j:=yA h;exact⟨by rw[seqIndex_of h0 h1,e],by omega,by omega,h1⟩
  ·rw[if_neg h1] at h;cases h
 ·rw[if_neg h0] at h;by_cases h1 : -(n:Int)≤i
  ·rw[if_pos h1] at h;have e:(i+n).toNat=j:=yA h;exact⟨by rw[seqIndex_neg (by omega) h1,e],by omega,h1,by omega⟩
  ·rw[if_neg h1] at h;cases h
theorem atI_get {α:Type}{xs:List α}{i:Int}{v:α}(h:atI xs i=some v):∃ j,seqIndex? i xs.length=some j∧xs[j]?=some v∧j<xs.length ∧ -(xs.length:Int)≤i∧i<xs.length:=by
 unfold atI at h;cases e:ixN xs.length i with
 | none=>rw[e] at h;cases h
 | some j=>rw[e] at h;obtain⟨h1,h2,h3,h4⟩:=ixN_seq e;exact⟨j,h1,h,h2,h3,h4⟩
theorem atI_nat {α:Type}{xs:List α}{j:Nat}{v:α}(h:xs[j]?=some v):atI xs (j:Int)=some v:=by
 have hj:j<xs.length:=(zC.mp h).1;have e:ixN xs.length (j:Int)=some j:=by unfold ixN;rw[if_pos (by omega),if_pos (by omega)];simp
 unfold atI;rw[e];exact h
theorem atI_last {α:Type}(xs:List α) (v:α):atI (xs++[v]) (-1)=some v:=by
 have hl:(xs++[v]).length=xs.length+1:=by simp
 have e:ixN (xs++[v]).length (-1)=some xs.length:=by
  unfold ixN;rw[hl,if_neg (by decide),if_pos (by omega)]
  congr 1
  omega
 unfold atI;rw[e];show (xs++[v])[xs.length]?=some v;simp
noncomputable def PlainIx (b:Expr):Prop:=∀ o i,subscripted b false o i=operate [o,i] (getItem o i)
noncomputable def IxR (X:Cx) (r:R2):Prop:=
 ∀ (value slice:Expr) (pins:List (Addr×Obj)) (s:Shared) (σ:St) (H:Hp) (x y:V) (v u:Value) (Q:VK),Inv X pins σ H s→RelV x v→RelV y u→r x y H Q →
  subscripted slice false v u=operate [v,u] (getItem v u)→wpAny (model X.prog X.w) X.A (subscriptTail value slice v u) (EP X pins σ Q) X.xe s
noncomputable def MtR (X:Cx) (id:String) (r:V→List V→Hp→VK→Prop):Prop:=
 ∀ (pins:List (Addr×Obj)) (s:Shared) (σ:St) (H:Hp) (x:V) (xs:List V) (v:Value) (us:List Value) (Q:VK),Inv X pins σ H s→RelV x v→Vals xs us→r x xs H Q →
  wpAny (model X.prog X.w) X.A (call (.builtin id) (v::us)) (EP X pins σ Q) X.xe s
noncomputable section
variable {X:Cx}{a b:Expr}{ta tb:TE}{pos:Pos}
theorem IxR.or {r r':R2}(h:IxR X r) (h':IxR X r'):IxR X (fun x y H Q=>r x y H Q∨r' x y H Q):=by
 intro value slice pins s σ H x y v u Q I rx ry q hs;rcases q with q|q
 ·exact h value slice pins s σ H x y v u Q I rx ry q hs
 ·exact h' value slice pins s σ H x y v u Q I rx ry q hs
theorem pe_ix {r:R2}(hr:IxR X r) (ha:PE X a ta) (hb:PE X b tb) (hs:PlainIx b):PE X (.Subscript a b pos) (tOp r ta tb):=by
 intro pins s σ H Q I h;exact Subscript_ (binT ha hb I h fun v u s2 x y H2 I2 rx ry q=>hr a b pins s2 σ H2 x y v u Q I2 rx ry q (hs _ _))
noncomputable def rIxL (K:Frag):R2:=fun x y H Q=>∃ p xs i v,x=.ref p∧y=.int i∧SqL K H p xs∧atI xs i=some v∧Q v H
noncomputable def rIxT (K:Frag):R2:=fun x y H Q=>∃ p xs i v,x=.ref p∧y=.int i∧SqT K H p xs∧atI xs i=some v∧Q v H
noncomputable def rIxS:R2:=fun x y H Q=>∃ z i c,x=.str z∧y=.int i∧z.length≤sizeLine∧atI z.cps.toList i=some c∧Q (.str ⟨#[c]⟩) H
theorem ix_list:IxR X (rIxL X.K):=by
 intro value slice pins s σ H x y v u Q I rx ry h hs;obtain⟨p,xs,i,z,rfl,rfl,hq,he,q⟩:=h;cases rx;obtain⟨t,rfl⟩:=ry;obtain⟨its,r,pl,hz⟩:=I.list hq;obtain⟨j,h1,h2,h3,h4,h5⟩:=atI_get he;obtain⟨w,ew,rw'⟩:=r.get h2;have hl:=r.length;have hn:=line63;have fin:EP X pins σ Q w s:=⟨z,H,I,rw',q⟩;by_cases h0:0≤i
 ·have hj:i.toNat=j:=by rw[seqIndex_of h0 h5] at h1;exact yA h1
  exact item_listR pl.isList h0 (by omega) (by rw[hj];simpa using ew) fin hs
 ·have hj:(i+(its.toArray.size:Int)).toNat=j:=by
   rw[seqIndex_neg (by omega) h4] at h1
   rw[zN,← hl];exact yA h1
  exact subscriptTail_builtinR (x:=w) pl.isList.typeIs slot_list_getitem.lookup
   (wpAny_getItem_list_neg (Q:=fun r s'=>r=w∧EP X pins σ Q r s') pl.isList (by omega) (by rw[zN]<;>omega) (by omega) (by rw[hj];simpa using ew) ⟨rfl,fin⟩) hs
theorem ix_tup:IxR X (rIxT X.K):=by
 intro value slice pins s σ H x y v u Q I rx ry h hs;obtain⟨p,xs,i,z,rfl,rfl,hq,he,q⟩:=h;cases rx;obtain⟨t,rfl⟩:=ry;obtain⟨its,r,pl,hz⟩:=I.tuple hq;obtain⟨j,h1,h2,h3,h4,h5⟩:=atI_get he;obtain⟨w,ew,rw'⟩:=r.get h2;have hl:=r.length;have hn:=line63;have fin:EP X pins σ Q w s:=⟨z,H,I,rw',q⟩;exact subscriptTail_builtinR (x:=w) pl.typeIs slot_tuple_getitem.lookup
  (getItem_tuple (j:=j) (Q:=fun r s'=>r=w∧EP X pins σ Q r s') pl (by omega) (by omega) (by rw[zN,← hl];exact h1) (by simpa using ew) ⟨rfl,fin⟩) hs
theorem ix_str:IxR X rIxS:=by
 intro value slice pins s σ H x y v u Q I rx ry h hs;obtain⟨z,i,c,rfl,rfl,hz,he,q⟩:=h;obtain⟨t,rfl⟩:=rx;obtain⟨t',rfl⟩:=ry;obtain⟨j,h1,h2,h3,h4,h5⟩:=atI_get he;have hl:z.cps.toList.length=z.length:=by simp[Str.length]
 rw[hl] at h1 h4 h5;have hn:=line63;exact tail_any (typeIs_str s z t) slot_str_getitem.lookup (getItem_str (c:=c) (by
  have e1:decide (i < -(2 ^ 63:Int))=false:=decide_eq_false (by omega)
  have e2:decide (i ≥ 2 ^ 63)=false:=decide_eq_false (by omega)
  rw[e1,e2,Bool.or_false]) (by rw[h1];simpa using h2) ⟨.str ⟨#[c]⟩,H,I.tok _,⟨_,rfl⟩,q⟩) hs
noncomputable def rIx (K:Frag):R2:=fun x y H Q=>rIxL K x y H Q∨rIxT K x y H Q∨rIxS x y H Q
theorem ix_seq:IxR X (rIx X.K):=ix_list.or (ix_tup.or ix_str)
theorem mapSeq_set (its:List Value) (n j:Nat) (u:Value):Obj.mapSeq (·.setIfInBounds j u) { cls :=.type "list",data :=.seq its.toArray n }={ cls :=.type "list",data :=.seq (its.set j u).toArray n }:=by
 simp[Obj.mapSeq]
theorem Inv.lst {pins:List (Addr×Obj)}{σ:St}{H:Hp}{s:Shared}{p:Addr}{xs:List V}(I:Inv X pins σ H s) (h:H p=some (.lst xs)) :
  ∃ (its:List Value) (n:Nat),Vals xs its∧s.heap.get? p=some { cls :=.type "list",data :=.seq its.toArray n }∧xs.length≤sizeLine:=by
 obtain⟨z,its,n,r,e⟩:=I.hok p _ h;exact⟨its,n,r,e,z⟩
theorem Inv.lstUpd {pins:List (Addr×Obj)}{σ:St}{H:Hp}{s:Shared}{p:Addr}{xs ys:List V}{its its':List Value}{n n':Nat}{f:Obj→Obj}(I:Inv X pins σ H s) (h:H p=some (.lst xs))
  (ho:s.heap.get? p=some { cls :=.type "list",data :=.seq its.toArray n }) (hf:f { cls :=.type "list",data :=.seq its.toArray n }={ cls :=.type "list",data :=.seq its'.toArray n' }) (r:Vals ys its') (hz:ys.length≤sizeLine) (t:Nat) :
  Inv X pins σ (upd H p (.lst ys)) { s with heap:=s.heap.update p f,toks:=t }:=by
 have e:(s.heap.update p f).get? p=some { cls :=.type "list",data :=.seq its'.toArray n' }:=by rw[Heap.get?_update_self f ho (by rw[hf]<;>rfl),hf]
 refine I.write (x:=p) (e:=p) (by rw[h];trivial) (.inl rfl) (fun b u hb q=>(Heap.get?_update_other _ _ (Ne.symm hb)).trans q) ⟨_,e⟩ ?_
 exact⟨hz,its',n',r,e⟩
noncomputable def rSetL:V→V→V→Hp→(Hp→Prop)→Prop:=fun o i v H Q=>∃ p xs k j,o=.ref p∧i=.int k∧H p=some (.lst xs)∧ixN xs.length k=some j∧Q (upd H p (.lst (xs.set j v)))
theorem set_list:PSet X rSetL:=by
 intro pins s σ H o i v ov iv u Q I ro ri rv h;obtain⟨p,xs,k,j,rfl,rfl,hp,hj,q⟩:=h;cases ro;obtain⟨t,rfl⟩:=ri;obtain⟨its,n,r,ho,hz⟩:=I.lst hp;obtain⟨h1,h2,h3,h4⟩:=ixN_seq hj;have hl:=r.length;have hn:=line63;have I':Inv X pins σ (upd H p (.lst (xs.set j v))) { s with heap:=s.heap.update p (Obj.mapSeq (·.setIfInBounds j u)) }:=
  I.lstUpd hp ho (mapSeq_set its n j u) (r.set rv j) (by rw[List.length_set];exact hz) s.toks
 by_cases h0:0≤k
 ·have hk:k.toNat=j:=by rw[seqIndex_of h0 h4] at h1;exact yA h1
  exact PySem.W.ki_setAt ho h0 (by omega) (by rw[zN,← hl];exact h4) (by rw[hk];exact⟨_,I',q⟩)
 ·have hk:(k+(its.toArray.size:Int)).toNat=j:=by
   rw[seqIndex_neg (by omega) h3] at h1
   rw[zN,← hl];exact yA h1
  exact PySem.W.ki_setBack ho (by omega) (by rw[zN,← hl];exact h3) (by omega) (by rw[hk];exact⟨_,I',q⟩)
theorem slice_bounds (lo hi:Option Int) (n:Nat):(sliceBounds lo hi none n).1=((HT.sIx n 0 lo:Nat):Int)∧(sliceBounds lo hi none n).2.1=((HT.sIx n n hi:Nat):Int)∧(sliceBounds lo hi none n).2.2=1:=by
 refine⟨?_,?_,rfl⟩
 ·cases lo with
  | none=>simp[sliceBounds,HT.sIx]
  | some i=>
   simp only[sliceBounds,HT.sIx,Option.getD_none,show (1:Int) > 0 by decide,if_true]
   by_cases h:i<0
   ·simp only[h,if_true]<;>omega
   ·simp only[h,if_false]<;>omega
 ·cases hi with
  | none=>simp[sliceBounds,HT.sIx]
  | some i=>
   simp only[sliceBounds,HT.sIx,Option.getD_none,show (1:Int) > 0 by decide,if_true]
   by_cases h:i<0
   ·simp only[h,if_true]<;>omega
   ·simp only[h,if_false]<;>omega
theorem slicePick_cut (its:List Value) (lo hi:Option Int):slicePick its.toArray lo hi none=((its.drop (HT.sIx its.length 0 lo)).take (HT.sIx its.length its.length hi-HT.sIx its.length 0 lo)).toArray:=by
 obtain⟨h1,h2,h3⟩:=slice_bounds lo hi its.toArray.size;unfold slicePick;rw[h1,h2,h3];simp only[sliceRange_one,pick_run,zN]<;>rfl
noncomputable def rSlL (K:Frag):V→Option Int→Option Int→Hp→VK→Prop:=fun x lo hi H Q=>∃ a xs,x=.ref a∧SqL K H a xs∧∀ p,H p=none→Q (.ref p) (upd H p (.lst (cutV xs lo hi)))
theorem sl_list:SlR X (rSlL X.K):=by
 intro pins s σ H x v vl vu lo hi sl Q I rx hs pl pu h;obtain⟨a,xs,rfl,hx,q⟩:=h;cases rx;obtain⟨its,r,ht,hz⟩:=I.list hx;have hlen:=r.length;refine⟨"list",_,slot_list_getitem.lookup,ht.isList.typeIs,?_⟩;refine wpAny_getItem_list_slice ht.isList hs pl pu .none (by simp) ?_ (by rw[zN]<;>omega)
 rw[slicePick_cut,← hlen];refine⟨.ref s.heap.objs.size,_,I.laid (t':=s.toks) (o :=.lst (cutV xs lo hi)) (fun b ob q=>zF _ q) (zL _) ?_,rfl,q _ (I.hok.fresh (zL _))⟩
 exact⟨yB (cutV_length xs lo hi) hz,_,0,(r.drop (HT.sIx xs.length 0 lo)).take (HT.sIx xs.length xs.length hi-HT.sIx xs.length 0 lo),zV _ rfl⟩
noncomputable def flatV:V→Bool
 | .non=>true
 | .bl _=>true
 | .int _=>true
 | .str _=>true
 | _=>false
noncomputable def eqV:V→V→Bool
 | .non,.non=>true
 | .bl a,.bl b=>a==b
 | .bl a,.int b=>(if a then 1 else 0)==b
 | .int a,.bl b=>a==(if b then 1 else 0)
 | .int a,.int b=>a==b
 | .str a,.str b=>a==b
 | _,_=>false
theorem eqAt_V {A:Around}{s:Shared}{y x:V}{u v:Value}(ry:RelV y u) (rx:RelV x v) (fy:flatV y=true) (fx:flatV x=true):SeqAt.EqAt A s u v (eqV y x):=by
 cases y with
 | non=>
  cases ry;cases x with
  | non=>cases rx;exact SeqAt.EqAt.same _
  | bl b=>cases rx;exact SeqAt.EqAt.none_bool b
  | int b=>obtain⟨t,rfl⟩:=rx;exact SeqAt.EqAt.none_int b t
  | str b=>obtain⟨t,rfl⟩:=rx;exact SeqAt.EqAt.none_str b t
  | _=>exact absurd (show false=true from fx) zZ
 | bl a=>
  cases ry;cases x with
  | non=>cases rx;exact SeqAt.EqAt.bool_none a
  | bl b=>cases rx;exact SeqAt.EqAt.bool_bool a b
  | int b=>obtain⟨t,rfl⟩:=rx;exact SeqAt.EqAt.bool_int a b t
  | str b=>obtain⟨t,rfl⟩:=rx;exact SeqAt.EqAt.bool_str a b t
  | _=>exact absurd (show false=true from fx) zZ
 | int a=>
  obtain⟨t',rfl⟩:=ry;cases x with
  | non=>cases rx;exact SeqAt.EqAt.int_none a t'
  | bl b=>cases rx;exact SeqAt.EqAt.int_bool a t' b
  | int b=>obtain⟨t,rfl⟩:=rx;exact SeqAt.EqAt.int_int a t' b t
  | str b=>obtain⟨t,rfl⟩:=rx;exact SeqAt.EqAt.int_str a t' b t
  | _=>exact absurd (show false=true from fx) zZ
 | str a=>
  obtain⟨t',rfl⟩:=ry;cases x with
  | non=>cases rx;exact SeqAt.EqAt.str_none a t'
  | bl b=>cases rx;exact SeqAt.EqAt.str_bool a t' b
  | int b=>obtain⟨t,rfl⟩:=rx;exact SeqAt.EqAt.str_int a t' b t
  | str b=>obtain⟨t,rfl⟩:=rx;exact SeqAt.EqAt.str_str a t' b t
  | _=>exact absurd (show false=true from fx) zZ
 | _=>exact absurd (show false=true from fy) zZ
noncomputable def eqU (x:V) (u:Value):Bool:=match u with
 | .none=>eqV .non x
 | .bool b=>eqV (.bl b) x
 | .int i _=>eqV (.int i) x
 | .str z _=>eqV (.str z) x
 | _=>false
theorem eqU_of {x y:V}{u:Value}(r:RelV y u) (f:flatV y=true):eqU x u=eqV y x:=by
 cases y with
 | non=>cases r;rfl
 | bl b=>cases r;rfl
 | int i=>obtain⟨t,rfl⟩:=r;rfl
 | str z=>obtain⟨t,rfl⟩:=r;rfl
 | _=>exact absurd (show false=true from f) zZ
theorem any_eqU {x:V}:∀ {xs:List V}{us:List Value},Vals xs us→xs.all flatV=true→us.any (eqU x)=xs.any fun y=>eqV y x
 | _,_,.nil,_=>rfl
 | y::xs,u::us,.cons r t,f=>by rw[List.all_cons,Bool.and_eq_true] at f;rw[List.any_cons,List.any_cons,eqU_of r f.1,any_eqU t f.2]
theorem mem_eqAt {A:Around}{s:Shared}{x:V}{v:Value}(rx:RelV x v) (fx:flatV x=true):∀ {xs:List V}{us:List Value},Vals xs us→xs.all flatV=true→∀ u∈us,SeqAt.EqAt A s u v (eqU x u)
 | _,_,.nil,_=>fun u hu=>by cases hu
 | y::xs,u::us,.cons r t,f=>fun u' hu=>by
  rw[List.all_cons,Bool.and_eq_true] at f;rcases zG.mp hu with rfl|hu
  ·rw[eqU_of r f.1];exact eqAt_V r rx f.1 fx
  ·exact mem_eqAt rx fx t f.2 u' hu
noncomputable def inV (x:V) (xs:List V):Bool:=xs.any fun y=>eqV y x
noncomputable def rIn (K:Frag) (neg:Bool):R2:=fun x y H Q=>∃ p xs,y=.ref p∧(SqL K H p xs∨SqT K H p xs)∧flatV x=true∧xs.all flatV=true∧Q (.bl (if neg then !inV x xs else inV x xs)) H
theorem op_in_seq:OpR X (compareOp .In) (rIn X.K false):=by
 intro pins s σ H x y v u Q I rx ry h;obtain⟨p,xs,rfl,hq,fx,fs,q⟩:=h;cases ry;rcases hq with hq|hq
 ·obtain⟨its,r,pl,hz⟩:=I.list hq;refine SeqAt.in_listAt (eqU x) pl.isList (fun w hw=>mem_eqAt rx fx r fs w (by simpa using hw)) ⟨.bl _,H,I,rfl,?_⟩
  rw[show its.toArray.any (eqU x)=its.any (eqU x) by simp,any_eqU r fs]
  exact q
 ·obtain⟨its,r,pl,hz⟩:=I.tuple hq;refine SeqAt.in_tupleAt (eqU x) pl (fun w hw=>mem_eqAt rx fx r fs w (by simpa using hw)) ⟨.bl _,H,I,rfl,?_⟩
  rw[show its.toArray.any (eqU x)=its.any (eqU x) by simp,any_eqU r fs]
  exact q
theorem op_notIn_seq:OpR X (compareOp .NotIn) (rIn X.K true):=by
 intro pins s σ H x y v u Q I rx ry h;obtain⟨p,xs,rfl,hq,fx,fs,q⟩:=h;cases ry;rcases hq with hq|hq
 ·obtain⟨its,r,pl,hz⟩:=I.list hq;refine SeqAt.notIn_listAt (eqU x) pl.isList (fun w hw=>mem_eqAt rx fx r fs w (by simpa using hw)) ⟨.bl _,H,I,rfl,?_⟩
  rw[show its.toArray.any (eqU x)=its.any (eqU x) by simp,any_eqU r fs]
  exact q
 ·obtain⟨its,r,pl,hz⟩:=I.tuple hq;refine SeqAt.notIn_tupleAt (eqU x) pl (fun w hw=>mem_eqAt rx fx r fs w (by simpa using hw)) ⟨.bl _,H,I,rfl,?_⟩
  rw[show its.toArray.any (eqU x)=its.any (eqU x) by simp,any_eqU r fs]
  exact q
theorem call_len_seq:CallR X (.builtin "len") (fun xs H Q=>∃ p ys,xs=[.ref p]∧(SqL X.K H p ys∨SqT X.K H p ys)∧Q (.int ys.length) H):=by
 intro pins s σ H xs us Q I r h;obtain⟨p,ys,rfl,hq,q⟩:=h;obtain⟨u,rfl,rx⟩:=vals1 r;cases rx;have hn:=line63;rcases hq with hq|hq
 ·obtain⟨its,r',pl,hz⟩:=I.list hq;have hlen:=r'.length;exact Calls.call_len_list pl.isList (by simp only[zN]<;>omega) ⟨.int ys.length,H,I.tok _,⟨s.toks+1,by rw[zN,hlen]⟩,q⟩
 ·obtain⟨its,r',pl,hz⟩:=I.tuple hq;have hlen:=r'.length;exact len_tuple pl (by simp only[zN]<;>omega) ⟨.int ys.length,H,I.tok _,⟨s.toks+1,by rw[zN,hlen]⟩,q⟩
theorem call_len_str:CallR X (.builtin "len") (fun xs H Q=>∃ z,xs=[.str z]∧z.length≤sizeLine∧Q (.int z.length) H):=by
 intro pins s σ H xs us Q I r h;obtain⟨z,rfl,hz,q⟩:=h;obtain⟨u,rfl,t,rfl⟩:=vals1 r;have hn:=line63;exact len_str (by omega) ⟨.int z.length,H,I.tok _,⟨_,rfl⟩,q⟩
theorem CallR.or {f:Value}{r r':List V→Hp→VK→Prop}(h:CallR X f r) (h':CallR X f r'):CallR X f (fun xs H Q=>r xs H Q∨r' xs H Q):=by
 intro pins s σ H xs us Q I rs q;rcases q with q|q
 ·exact h pins s σ H xs us Q I rs q
 ·exact h' pins s σ H xs us Q I rs q
noncomputable def tyV (K:Frag) (T:String) (x:V) (H:Hp):Prop:=match x with
 | .str _=>T = "str"
 | .int _=>T = "int"
 | .ref p=>(T = "list" ∧ ∃ xs,SqL K H p xs)∨(T = "tuple" ∧ ∃ o,K.lookup p=some o∧o.cls=.type "tuple" ∧o.dict=none) ∨
   (T = "dict" ∧((∃ kvs,H p=some (.dK kvs))∨∃ kvs,H p=some (.dT kvs)))∨(T = "set" ∧ ∃ S n,H p=some (.set S n))
 | _=>False
theorem tyV_is {pins:List (Addr×Obj)}{σ:St}{H:Hp}{s:Shared}{T:String}{x:V}{v:Value}(I:Inv X pins σ H s) (r:RelV x v) (ty:tyV X.K T x H) :
  s.TypeIs v T∧∀ a,v=.ref a→∃ ob,s.heap.get? a=some ob∧ob.dict=none:=by
 cases x with
 | str z=>
  obtain⟨t,rfl⟩:=r;cases (show T = "str" from ty)
  exact⟨typeIs_str s z t,fun _ e=>nomatch e⟩
 | int i=>
  obtain⟨t,rfl⟩:=r;cases (show T = "int" from ty)
  exact⟨typeIs_int s i t,fun _ e=>nomatch e⟩
 | ref p=>
  cases r;rcases ty with ⟨rfl,xs,hq⟩|⟨rfl,o,hk,hc,hd⟩|⟨rfl,hk⟩|⟨rfl,S,n,hk⟩
  ·obtain⟨its,_,pl,_⟩:=I.list hq;refine⟨pl.isList.typeIs,fun a e =>?_⟩
   cases e;obtain⟨o,n,e,c,hd,_⟩:=pl;exact⟨o,e,hd⟩
  ·refine⟨⟨o,I.kIn p o hk,hc⟩,fun a e =>?_⟩
   cases e;exact⟨o,I.kIn _ o hk,hd⟩
  ·have z:∃ o,s.heap.get? p=some o∧o.ExactDict:=by
    rcases hk with ⟨kvs,hk⟩|⟨kvs,hk⟩
    ·obtain⟨_,_,_,_,o,_,_,e,ex,_⟩:=I.hok p _ hk;exact⟨o,e,ex⟩
    ·obtain⟨_,_,_,_,o,_,_,e,ex,_⟩:=I.hok p _ hk;exact⟨o,e,ex⟩
   obtain⟨o,e,ex⟩:=z;refine⟨⟨o,e,ex.1⟩,fun a e2 =>?_⟩
   cases e2;exact⟨o,e,ex.2.1⟩
  ·obtain⟨o,_,_,_,e,ex,_⟩:=I.hok p _ hk;refine⟨⟨o,e,ex.1⟩,fun a e2 =>?_⟩
   cases e2;exact⟨o,e,ex.2.1⟩
 | _=>exact False.elim ty
noncomputable def tBM0 (K:Frag) (T:String) (r:V→List V→Hp→VK→Prop) (to:TE):TE:=fun σ H Q=>to σ H fun x H1=>tyV K T x H1∧r x [] H1 Q
noncomputable def tBM (K:Frag) (T:String) (r:V→List V→Hp→VK→Prop) (to:TE) (t:TA):TE:=fun σ H Q=>to σ H fun x H1=>tyV K T x H1∧t σ H1 fun xs H2=>r x xs H2 Q
variable {o e:Expr}{es:List Expr}{to:TE}{t:TA}{name:Str}{apos cpos:Pos}{T id:String}{r:V→List V→Hp→VK→Prop}
theorem pe_bm0 (pa:PlainAttrs T) (slot:Slot T name id) (hty:typeOf (.builtin id)=pure (.type "method_descriptor")) (hm:MtR X id r) (ho:PE X o to)
  (hbase:attributeBase o name X.env (eval o X.env)=eval o X.env:=by rfl) (hline:(apos.endLine==cpos.line)=true:=by rfl):PE X (.Call (.Attribute o name apos) [] [] cpos) (tBM0 X.K T r to):=by
 intro pins s σ H Q I h;refine wpAny_Call_method0_late hbase hline (thn (ho pins s σ H _ I h) fun v s1 ⟨x,H1,I1,r1,ty,q1⟩ =>?_)
 obtain⟨h1,h2⟩:=tyV_is I1 r1 ty;exact⟨T,id,pa,slot,hty,h1,h2,Calls.callWith_builtin rfl (PySem.evalArgs_none (hm pins s1 σ H1 x [] v [] Q I1 r1 .nil q1))⟩
theorem pe_bm (pa:PlainAttrs T) (slot:Slot T name id) (hty:typeOf (.builtin id)=pure (.type "method_descriptor")) (hm:MtR X id r) (ho:PE X o to) (ha:PA X (e::es) t)
  (hbase:attributeBase o name X.env (eval o X.env)=eval o X.env:=by rfl)
  (hfew:((backTo cpos (starEach (e::es) X.env)).all (fun x=> !x.1)&&(backToKw cpos (keywordEach [] X.env)).all (fun x=>x.1.isSome)
   && decide ((e::es).length+([]:List Keyword).length+(if ([]:List Keyword).isEmpty then 0 else 1)<30))=true:=by rfl)
  (hline:(apos.endLine==cpos.line)=true:=by rfl) (hs:starEach (e::es) X.env=(false,eval e X.env)::starEach es X.env:=by rfl) (hplain:(backTo cpos (starEach es X.env)).any (·.1)=false:=by rfl) :
  PE X (.Call (.Attribute o name apos) (e::es) [] cpos) (tBM X.K T r to t):=by
 intro pins s σ H Q I h;refine wpAny_Call_method_late hbase hfew hline rfl (thn (ho pins s σ H _ I h) fun v s1 ⟨x,H1,I1,r1,ty,q1⟩ =>?_)
 obtain⟨h1,h2⟩:=tyV_is I1 r1 ty;refine⟨T,id,pa,slot,hty,h1,h2,?_⟩;have hA:=ha cpos pins s1 σ H1 _ I1 q1;rw[hs] at hA ⊢;refine Calls.callWith_builtin (by show (false||(backTo cpos (starEach es X.env)).any (·.1))=false;rw[hplain]<;>rfl) (Calls.evalArgs_plain ?_)
 exact thn hA fun us s2 ⟨vs,H2,I2,r2,q2⟩=>hm pins s2 σ H2 x vs v us Q I2 r1 r2 q2
end
end L2
namespace L2
open PySem PySem.Spec PyProof.Rows
noncomputable def MtM (X:Cx) (id:String) (r:V→List V→Hp→VK→Prop):Prop:=
 ∀ (pins:List (Addr×Obj)) (s:Shared) (σ:St) (H:Hp) (x:V) (xs:List V) (v:Value) (us:List Value) (Q:VK),Inv X pins σ H s→RelV x v→Vals xs us→r x xs H Q →
  wpAny (model X.prog X.w) X.A (call (.builtin id) (v::us)) (EP X pins σ Q) X.xe s
theorem Vals.one:∀ {x:V}{us:List Value},Vals [x] us→∃ u,us=[u]∧RelV x u
 | _,_,.cons r .nil=>⟨_,rfl,r⟩
theorem Vals.two:∀ {x y:V}{us:List Value},Vals [x,y] us→∃ u v,us=[u,v]∧RelV x u∧RelV y v
 | _,_,_,.cons r (.cons q .nil)=>⟨_,_,rfl,r,q⟩
theorem Vals.zero:∀ {us:List Value},Vals [] us→us=[]
 | _,.nil=>rfl
theorem Vals.dropLast {xs:List V}{us:List Value}(h:Vals xs us):Vals xs.dropLast us.dropLast:=by
 induction h with
 | nil=>exact .nil
 | cons r t ih=>
  cases t with
  | nil=>exact .nil
  | cons q t'=>exact .cons r ih
theorem Vals.reverse {xs:List V}{us:List Value}(h:Vals xs us):Vals xs.reverse us.reverse:=by
 induction h with
 | nil=>exact .nil
 | cons r t ih=>rw[List.reverse_cons,List.reverse_cons];exact Vals.append ih (.cons r .nil)
theorem Vals.rep {xs:List V}{us:List Value}(h:Vals xs us):∀ k:Nat,Vals (List.replicate k xs).flatten (List.replicate k us).flatten
 | 0 =>.nil
 | k+1=>by rw[List.replicate_succ,List.replicate_succ,List.flatten_cons,List.flatten_cons];exact Vals.append h (Vals.rep h k)
theorem erase_last {α:Type}(l:List α):l.eraseIdx (l.length-1)=l.dropLast:=by
 induction l with
 | nil=>rfl
 | cons a r ih=>
  cases r with
  | nil=>rfl
  | cons b r=>
   have e:(a::b::r).length-1=((b::r).length-1)+1:=by have h1:(a::b::r).length=r.length+2:=rfl;have h2:(b::r).length=r.length+1:=rfl;omega
   rw[e,List.eraseIdx_cons_succ,ih]
   all_goals rfl
theorem foldl_rep (its:List Value):∀ (k:Nat) (acc:List Value),
  List.foldl (fun x1 x2=>x1++x2) acc.toArray (List.replicate k its.toArray)=(acc++(List.replicate k its).flatten).toArray
 | 0,acc=>by simp
 | k+1,acc=>by
  have e:acc.toArray++its.toArray=(acc++its).toArray:=by simp
  have e2:(acc++its)++(List.replicate k its).flatten=acc++(List.replicate (k+1) its).flatten:=by rw[List.replicate_succ,List.flatten_cons,List.append_assoc]
  rw[← e2,← foldl_rep its k (acc++its),← e,List.replicate_succ,List.foldl_cons]
noncomputable section
variable {X:Cx}{pins:List (Addr×Obj)}{σ:St}{H:Hp}{s:Shared}{l b:Addr}{xs ys zs:List V}
theorem Inv.lset {its its':List Value}{n:Nat}{f:Array Value→Array Value}{t':Nat}(I:Inv X pins σ H s) (hH:H l=some (.lst xs))
  (e:s.heap.get? l=some { cls :=.type "list",data :=.seq its.toArray n }) (hf:f its.toArray=its'.toArray) (hv:Vals ys its') (hz:ys.length≤sizeLine) :
  Inv X pins σ (upd H l (.lst ys)) { s with heap:=s.heap.update l (Obj.mapSeq f),toks:=t' }:=by
 have q:=PySem.IsL.update e f;rw[hf] at q;refine I.write (x:=l) (e:=l) (by rw[hH];exact trivial) (.inl rfl) (fun b' u hb hu=>(Heap.get?_update_other s.heap (Obj.mapSeq f) (Ne.symm hb)).trans hu) ⟨_,q⟩ ?_
 exact⟨hz,its',_,hv,q⟩
theorem Inv.lnew {its:List Value}{t':Nat}(I:Inv X pins σ H s) (hv:Vals ys its) (hz:ys.length≤sizeLine) :
  Inv X pins σ (upd H s.heap.objs.size (.lst ys)) { s with heap:=s.heap.push { cls :=.type "list",data :=.seq its.toArray },toks:=t' }:=
 I.laid (fun _ _ q=>zF _ q) (zL _) ⟨hz,its,0,hv,zV _ rfl⟩
theorem Inv.fresh (I:Inv X pins σ H s):H s.heap.objs.size=none:=I.hok.fresh (zL _)
theorem Inv.lstM (I:Inv X pins σ H s) (hH:H l=some (.lst xs)):xs.length≤sizeLine∧∃ (its:List Value) (n:Nat),Vals xs its∧xs.length=its.length∧s.heap.get? l=some { cls :=.type "list",data :=.seq its.toArray n }:=by
 obtain⟨z,its,n,r,e⟩:=I.hok l _ hH;exact⟨z,its,n,r,r.length,e⟩
theorem notLongL {n:Nat}(h:n≤sizeLine):Builtin.List.listTooLong n=false:=by
 unfold Builtin.List.listTooLong;exact decide_eq_false (by omega)
end
noncomputable section
variable {X:Cx}
noncomputable def rAppend:V→List V→Hp→VK→Prop:=fun x vs H Q=>∃ l xs y,x=.ref l∧vs=[y]∧H l=some (.lst xs)∧xs.length<sizeLine∧Q .non (upd H l (.lst (xs++[y])))
theorem mt_append:MtM X "list.append" rAppend:=by
 intro pins s σ H x vs v us Q I rx rv h;obtain⟨l,xs,y,rfl,rfl,hH,hz,q⟩:=h;cases rx;obtain⟨u,rfl,ru⟩:=rv.one;obtain⟨z,its,n,r,hl,e⟩:=I.lstM hH;refine call_meets F.slot_list_append ⟨_,e,rfl⟩ F.entry_list_append (F.args_list_append_2 _ _) (PySem.list_append l its.toArray n u (by rw[zN];omega)) ⟨e,?_⟩
 refine⟨.non,_,I.lset (its':=its++[u]) hH e (by simp) (r.append (.cons ru .nil)) ?_,rfl,q⟩
 rw[List.length_append,List.length_singleton];omega
noncomputable def rExtend:V→List V→Hp→VK→Prop:=fun x vs H Q=>∃ l b xs zs,x=.ref l∧vs=[.ref b]∧H l=some (.lst xs)∧H b=some (.lst zs)∧xs.length+zs.length≤sizeLine∧Q .non (upd H l (.lst (xs++zs)))
theorem mt_extend:MtM X "list.extend" rExtend:=by
 intro pins s σ H x vs v us Q I rx rv h;obtain⟨l,b,xs,zs,rfl,rfl,hH,hB,hz,q⟩:=h;cases rx;obtain⟨u,rfl,ru⟩:=rv.one;cases ru;obtain⟨z,its,n,r,hl,e⟩:=I.lstM hH;obtain⟨z2,its2,n2,r2,hl2,e2⟩:=I.lstM hB;have hsz:its.toArray.size+its2.toArray.size≤sizeLine:=by rw[zN,zN];omega
 have hlong:¬ (!its.toArray.isEmpty&&Builtin.List.listTooLong (its.toArray.size+its2.toArray.size))=true:=by rw[notLongL hsz,Bool.and_false];exact zZ
 refine call_meets F.slot_list_extend ⟨_,e,rfl⟩ F.entry_list_extend (F.args_list_extend_2 _ _)
  (AutoSeq1.list_extend_list_list_0 l its.toArray n b its2.toArray n2 hlong (by rw[zN];omega) (by omega)) ⟨e,e2,?_⟩
 refine⟨.non,_,I.lset (its':=its++its2) hH e (by simp) (r.append r2) ?_,rfl,q⟩
 rw[List.length_append];omega
noncomputable def rPop:V→List V→Hp→VK→Prop:=fun x vs H Q=>∃ l xs y,x=.ref l∧vs=[]∧H l=some (.lst xs)∧xs[xs.length-1]?=some y∧Q y (upd H l (.lst xs.dropLast))
theorem mt_pop:MtM X "list.pop" rPop:=by
 intro pins s σ H x vs v us Q I rx rv h;obtain⟨l,xs,y,rfl,rfl,hH,hy,q⟩:=h;cases rx;have hus:=rv.zero;subst hus;obtain⟨z,its,n,r,hl,e⟩:=I.lstM hH;obtain⟨u,hu,ru⟩:=r.get hy;have hy':its.toArray[its.toArray.size-1]?=some u:=by show its.toArray[its.length-1]?=some u;rw[← Array.getElem?_toList,← hl];exact hu
 refine call_meets F.slot_list_pop ⟨_,e,rfl⟩ F.entry_list_pop (F.args_list_pop_1 _) (MeetsSeq.list_pop_last l its.toArray n u hy' (by rw[zN];omega)) ⟨e,?_⟩
 refine⟨y,_,I.lset (its':=its.dropLast) hH e ?_ r.dropLast ?_,ru,q⟩
 ·show its.toArray.eraseIdxIfInBounds (its.toArray.size-1)=its.dropLast.toArray;rw[zN,List.eraseIdxIfInBounds_toArray,erase_last]
 ·rw[List.length_dropLast];omega
noncomputable def rCat:R2:=fun x y H Q=>∃ l b xs zs,x=.ref l∧y=.ref b∧H l=some (.lst xs)∧H b=some (.lst zs)∧xs.length+zs.length≤sizeLine∧∀ p,H p=none→Q (.ref p) (upd H p (.lst (xs++zs)))
theorem op_cat:OpR X (binaryOp .Add) rCat:=by
 intro pins s σ H x y v u Q I rx ry h;obtain⟨l,b,xs,zs,rfl,rfl,hH,hB,hz,q⟩:=h;cases rx;cases ry;obtain⟨z,its,n,r,hl,e⟩:=I.lstM hH;obtain⟨z2,its2,n2,r2,hl2,e2⟩:=I.lstM hB;refine PySem.P.add_list e e2 ?_ (by rw[zN,zN];omega)
 have ea:its.toArray++its2.toArray=(its++its2).toArray:=by simp
 rw[ea];exact⟨.ref _,_,I.lnew (t':=s.toks) (r.append r2) (by rw[List.length_append];omega),rfl,q _ I.fresh⟩
noncomputable def rRep:R2:=fun x y H Q=>∃ l k xs,x=.ref l∧y=.int k∧H l=some (.lst xs) ∧ -(2 ^ 63)≤k∧k<2 ^ 63∧xs.length*k.toNat≤sizeLine ∧
 ∀ p,H p=none→Q (.ref p) (upd H p (.lst (List.replicate k.toNat xs).flatten))
theorem len_rep {α:Type}(xs:List α) (k:Nat):(List.replicate k xs).flatten.length=k*xs.length:=by
 induction k with
 | zero=>simp
 | succ k ih=>rw[List.replicate_succ,List.flatten_cons,List.length_append,ih,Nat.succ_mul,Nat.add_comm]
theorem op_rep:OpR X (binaryOp .Mult) rRep:=by
 intro pins s σ H x y v u Q I rx ry h;obtain⟨l,k,xs,rfl,rfl,hH,h1,h2,hz,q⟩:=h;cases rx;obtain⟨t,rfl⟩:=ry;obtain⟨z,its,n,r,hl,e⟩:=I.lstM hH;have hlen:its.toArray.size*k.toNat≤sizeLine:=by rw[zN,← hl];exact hz
 have hcap:¬ its.toArray.size*k.toNat > (2 ^ 63-1)/8:=by
  have:(sizeLine:Nat)≤(2 ^ 63-1)/8:=by decide
  omega
 have hfit:¬ (!Builtin.List.listFitsIndex k)=true:=by rw[fitsIndex_both h1 h2];exact zZ
 have hlong:¬ Builtin.List.listTooLong (its.toArray.size*k.toNat)=true:=by rw[notLongL hlen];exact zZ
 have hnew:List.foldl (fun x1 x2=>x1++x2) #[] (List.replicate (if its.toArray.isEmpty=true then 0 else k.toNat) its.toArray)=(List.replicate k.toNat its).flatten.toArray:=by
  have f0:∀ m:Nat,List.foldl (fun x1 x2=>x1++x2) #[] (List.replicate m its.toArray)=(List.replicate m its).flatten.toArray:=fun m=>by have:=foldl_rep its m [];rw[List.nil_append] at this;exact this
  rw[f0];cases its with
  | nil=>simp
  | cons a r'=>rw[if_neg (by simp)]
 refine wpAny_binaryOp_repeat_ref (T:= "list") (U:= "int") (by decide) ⟨_,e,rfl⟩ (fun s'=>typeIs_int s' k t) noFill_list_mul F.fills_int_mul F.slot_int_rmul repeat_list F.slot_int_index.lookup
  (call_meets F.slot_int_rmul (typeIs_int s k t) F.entry_int_rmul (F.args_int_rmul_2 _ _) (int___rmul___int_list k t l its.toArray n)
   ⟨e,rfl,⟨_,e,rfl⟩,call_meets F.slot_list_mul ⟨_,e,rfl⟩ F.entry_list_mul (F.args_list_mul_2 _ _) (AutoListH.list___mul___list_int_3 l its.toArray n k t hfit hcap hlong) ⟨e,?_⟩⟩)
 rw[hnew];exact⟨.ref _,_,I.lnew (t':=s.toks) (r.rep k.toNat) (by rw[len_rep,Nat.mul_comm];exact hz),rfl,q _ I.fresh⟩
end
noncomputable section
variable {prog:Program}{w:World}{A:Around}{E:Value→Shared→Prop}{s:Shared}
set_option maxRecDepth 100000 in
end
noncomputable section
variable {X:Cx}
end
end L2
namespace Att
open PySem PySem.W PySem.Calls PyProof.Rows
theorem ints_of_wellAll {P:Params}{h:Heap}:∀ (ns:List Int) (vs:List Value),WellAll P h vs (ns.map WData.int)→IntsAre vs ns:=by
 intro ns
 induction ns with
 | nil=>intro vs w;rw[List.map_nil] at w;cases w;exact .nil
 | cons n ns ih=>
  intro vs w;rw[List.map_cons] at w;cases w with
  | cons a b=>cases a;exact .cons _ _ (ih _ b)
theorem script_of {l:OpenLaw}{n:Nat}(hn:l.most=some n){P:Params}{h:Heap}{args:List WData}{vals:List Value}
  (hpre:l.row.toRowW.claim.pre args=true) (hwl:WellAll P h vals args) :
  ∃ a vs ns,vals=[Value.ref a]∧args=[WData.list (ns.map WData.int)]∧h.get? a=some { cls :=.type "list",data :=.seq vs.toArray }∧IntsAre vs ns∧ns.length≤n:=by
 have hsh:WShape.hasAll [] args [.list .int]=true:=(pre_splitW hpre).1;have hc:l.pre.holds [] { args:=args }=true:=(pre_splitW hpre).2;obtain⟨d,r,rfl,h1,h2⟩:=hasAllW_cons hsh;obtain rfl:=hasAllW_nil h2;obtain⟨xs,rfl,h3⟩:=hasW_list h1;obtain⟨ns,rfl⟩:=items_int h3;have hlen:ns.length≤n:=by
  unfold OpenLaw.pre at hc;have h4:(WTm.not (.lt (.lit (.int (n:Int))) (.len (.arg 0)))).holds [] { args:=[.list (ns.map .int)] }=true:=by have h4:=(holds_andW hc).1;rw[hn] at h4;exact h4
  have h5:=condW_of h4 (w_not (w_lt w_lit (w_len_list (w_arg rfl))));rw[zH] at h5;refine Nat.le_of_not_lt fun q =>?_
  have q':(n:Int)<((ns.length:Nat):Int):=by omega
  first
   | (rw[decide_eq_true q'] at h5;exact absurd h5 (by decide))
   | (simp at h5;omega)
 cases hwl with
 | cons w1 w2=>
  cases w2;cases w1 with
  | list ho hall=>exact⟨_,_,ns,rfl,rfl,ho,ints_of_wellAll ns _ hall,hlen⟩
theorem post_true (l:OpenLaw) (args:List WData):l.row.toRowW.claim.post args (.bool true) args=true:=
 postW_of (r:=l.row.toRowW) (X:=(true==true))
  (show WShape.has [] (.bool true) .bool=true by first|rfl|decide|simp[WShape.has,WShape.arms,WShape.armsAll])
  (show (WTm.eq .res (.lit (.bool true))).value [] { args:=args,res:=some (.bool true),after:=args }=some (.bool (true==true)) from w_eq_bool (w_res rfl) w_lit) rfl
theorem attach_call {l:OpenLaw}{n:Nat}{q:Program}{loose:List Str}{XP:(Str→Option Value)→Heap→Prop}{YP:World→Heap→Prop}{d:DefRec}
  (hn:l.most=some n) (hdf:d.params.defaults=[])
  (call:∀ (w:World) (s₀ s₁:Shared) (mg mb:Str→Option Value) (fa:Addr) (o:Obj) (pm cd doc:Value) (a:Addr) (vs:List Value) (ns:List Int),
   Ground q loose [] XP w s₀ mg mb s₁.heap→YP w s₁.heap →
   s₁.heap.get? fa=some o→o.data=.func (docDef d.name d.params d.body d.scope pm cd doc)→s₁.heap.CodeRec cd d.name→mg d.name=some (.ref fa) →
   s₁.heap.get? a=some { cls :=.type "list",data :=.seq vs.toArray }→IntsAre vs ns→ns.length≤n→s₁.gens=#[] →
   codeAny (model l.prog w) callerA (.call (.ref fa) ⟨[.ref a],[]⟩) (fun r s'=>r=.ok (.ret (.bool true))∧OldK s₁.heap s'.heap∧s'.os=s₁.os∧AllBare s'.gens) s₁) :
  WalkO q loose XP YP l.row.toRowW d [] (fun f vs=>PySem.call f vs):=by
 intro w s₀ s₁ mg mb G Y fa o pm cd doc dV kV ho hd hcd hD hmg hg args vals as hpre hlay hrd hwl hlo;obtain rfl:dV=.none:=Dflts.none hD hdf;obtain rfl:kV=.none:=Dflts.noKw hD;obtain⟨a,vs,ns,rfl,rfl,hobj,hints,hlen⟩:=script_of hn hpre hwl;refine enter_call (codeAny_mono (call w s₀ s₁ mg mb fa o pm cd doc a vs ns G Y ho (fd_plain hd) hcd hmg hobj hints hlen hg) fun r s' hq =>?_)
 obtain⟨rfl,h2,h3,h4⟩:=hq;exact⟨.inl ⟨.bool true,.bool true,[],rfl,fun _=>rfl,.bool true,post_true l _,fun _=>⟨List.Pairwise.nil,fun _ hm=>(nomatch hm)⟩⟩,h2,h3,h4⟩
noncomputable section
variable {prog:Program}{w:World}{A:Around}{E:Value→Shared→Prop}{s:Shared}{K:Frag}
end
end Att
namespace L2
open PySem PySem.Spec PyProof.Rows
theorem vals_ints:∀ {vs:List Value}{ns:List Int},IntsAre vs ns→Vals (ns.map V.int) vs
 | _,_,.nil =>.nil
 | _,_,.cons n t h =>.cons ⟨t,rfl⟩ (vals_ints h)
noncomputable def Only (H:Hp):Prop:=∀ b,H b=none∨∃ o xs,H b=some (.frz o (.lst xs))
theorem law_call {P:Program}{w:World}{K:Frag}{mg mb:Str→Option Value}{CX:CXT}{k:Nat}{fa a:Addr}{fd:FuncData}{x:Str}{sp:Sp}{s₁:Shared}{vs:List Value}{ns:List Int}
  (KX:K.In s₁.heap) (hns:s₁.heap.Ns mainGlobals mg) (hb:s₁.heap.Ns builtinsNs mb) (hbb:∀ x:Str,x ≠ "__name__" →mb x=bootBuiltins x) (hlim:s₁.heap.NoLimit) (hg:s₁.gens=#[])
  (ha:s₁.heap.get? a=some { cls :=.type "list",data :=.seq vs.toArray }) (hi:IntsAre vs ns) (hl:ns.length≤sizeLine) (hr:Room k callerA)
  (F:∀ base:Heap,K.In base→base.Ns mainGlobals mg→FnOk P w K mg base CX k fa fd [x] sp) (hbind:∀ (s:Shared) (u:Value),BindsTo s fd ⟨[u],[]⟩ [(x,u)])
  (hsp:∀ H:Hp,Only H→SqL K H a (ns.map V.int)→sp [.ref a] H (fun v _=>v=.bl true) fun _ _ _=>False)
  (hCX:∀ H e s',CX [] H s₁ (fun _ _ _=>False) e s'→False) :
  codeAny (model P w) callerA (.call (.ref fa) ⟨[.ref a],[]⟩) (fun r s'=>r=.ok (.ret (.bool true))∧OldK s₁.heap s'.heap∧s'.os=s₁.os∧AllBare s'.gens) s₁:=by
 have rv:=vals_ints hi;have lenV:=hi.length;have core:∀ H:Hp,Only H→SqL K H a (ns.map V.int)→HOk P w H s₁.heap→(∀ b,H b≠none→b=a)→(H a≠none→K.lookup a=none) →
   codeAny (model P w) callerA (.call (.ref fa) ⟨[.ref a],[]⟩) (fun r s'=>r=.ok (.ret (.bool true))∧OldK s₁.heap s'.heap∧s'.os=s₁.os∧AllBare s'.gens) s₁:=by
  intro H hO hS hok hA hK;have base_of:∀ {b:Addr}{o:Obj},s₁.heap.get? b=some o→H b=none→(hidT s₁.heap H).get? b=some o:=fun e n=>hidT_get e n
  have noA:∀ {b:Addr}{o:Obj}{es:Array DictEntry}{ep:Nat},s₁.heap.get? b=some o→o.data=.dict es ep→H b=none:=fun {b o es ep} e d=>by
   cases q:H b with
   | none=>rfl
   | some u=>
    have e':b=a:=hA b (by rw[q];simp)
    subst e';rw[ha] at e;cases e;have d':Data.seq vs.toArray _=Data.dict es ep:=d;cases d'
  have nsK:∀ {b:Addr}{m:Str→Option Value},s₁.heap.Ns b m→(hidT s₁.heap H).Ns b m:=fun {b m} ⟨o,es,ep,e,d,r⟩=>⟨o,es,ep,base_of e (noA e d),d,r⟩
  have hKb:K.In (hidT s₁.heap H):=fun b o e=>base_of (KX b o e) (by
   cases q:H b with
   | none=>rfl
   | some u=>
    have e':b=a:=hA b (by rw[q];simp)
    subst e';rw[hK (by rw[q];simp)] at e;cases e)
  have hM:Mod K mg (hidT s₁.heap H):=⟨hKb,nsK hns,⟨mb,nsK hb,hbb⟩,let ⟨mc,h1,h2⟩:=hlim;⟨mc,nsK h1,h2⟩⟩;have e0:Env0 P w K mg (hidT s₁.heap H) callerA [] s₁ H:=⟨rfl,hM,fun b o e=>of_hidT e,Nat.le_of_eq (hidT_size _ _),trivial,fun b hb=>absurd (show b∈([]:List Addr) from hb) (by simp),hok,.of_eq hg⟩
  refine codeAny_mono ((F _ hKb (nsK hns)).run callerA [] s₁ H ⟨[.ref a],[]⟩ [.ref a] [.ref a] _ _ hr e0 (hbind s₁ (.ref a)) (.cons rfl .nil) (hsp H hO hS)) fun r s' h =>?_
  cases r with
  | error e=>exact(hCX H e s' h).elim
  | ok fl=>
   cases fl with
   | next=>exact False.elim h
   | brk=>exact False.elim h
   | cont=>exact False.elim h
   | ret u=>
    obtain⟨v,H',os,bare,un,hok',r',q⟩:=h;have q':v=.bl true:=q;subst q';obtain rfl:u=Value.bool true:=r';refine⟨rfl,OldK.of_keep fun b o e =>?_,os,bare⟩
    cases q:H b with
    | none=>exact un.keep b o e q (by intro z;exact absurd (show b∈([]:List Addr) from z) (by simp)) (by simp)
    | some u=>
     rcases hO b with z|⟨ob,xs,z⟩
     ·rw[q] at z;cases z
     ·have z2:=un.frzs b ob _ z;obtain⟨e1,_⟩:=hok b _ z;obtain⟨e2,_⟩:=hok' b _ z2;rw[e] at e1;cases e1;exact e2
 cases hk:K.lookup a with
 | some o=>have e:=KX a o hk;rw[ha] at e;cases e;refine core (fun _=>none) (fun _ =>.inl rfl) (.inr ⟨_,vs.toArray,_,hk,rfl,rfl,rfl,by rw[zN,lenV];exact hl,by simpa using rv⟩) (fun b u z=>by have z':(none:Option HO)=some u:=z;cases z') (fun b z=>absurd rfl z) fun z=>absurd rfl z
 | none=>
  refine core (fun b=>if b=a then some (.frz { cls :=.type "list",data :=.seq vs.toArray } (.lst (ns.map V.int))) else none) (fun b =>?_) (.inl (.inr ⟨{ cls :=.type "list",data :=.seq vs.toArray },if_pos rfl⟩)) (fun b u z =>?_) (fun b z =>?_) fun _=>hk
  ·by_cases hb:b=a
   ·exact .inr ⟨_,_,if_pos hb⟩
   ·exact .inl (if_neg hb)
  ·by_cases hb:b=a
   ·have z':=(if_pos hb).symm.trans z;cases z';subst hb;exact⟨ha,by rw[zH];exact hl,vs,_,rv,ha⟩
   ·have z':=(if_neg hb).symm.trans z;cases z'
  ·by_cases hb:b=a
   ·exact hb
   ·exact absurd (if_neg hb) z
end L2
namespace L2
open PySem PySem.Spec PyProof.Rows
theorem walk_of {l:PySem.W.OpenLaw}{n k:Nat}{q:Program}{loose:List Str}{XP:(Str→Option Value)→Heap→Prop}{YP:World→Heap→Prop}{d:DefRec}{K:Params→Frag}{CX:World→CXT}{sp:World→Sp}{x:Str}
  (hn:l.most=some n) (hn2:n≤sizeLine) (hdf:d.params.defaults=[]) (hr:Room k callerA)
  (hY:∀ (w:World) (h:Heap),YP w h→(K w.params).In h)
  (F:∀ (w:World) (mg:Str→Option Value) (fa:Addr) (h:Heap),(K w.params).In h→h.Ns mainGlobals mg→mg d.name=some (.ref fa) →
   ∃ fd:FuncData,(∀ (s:Shared) (u:Value),BindsTo s fd ⟨[u],[]⟩ [(x,u)]) ∧
    ∀ base:Heap,(K w.params).In base→base.Ns mainGlobals mg→FnOk l.prog w (K w.params) mg base (CX w) k fa fd [x] (sp w))
  (hsp:∀ (w:World) (H:Hp) (a:Addr) (ns:List Int),ns.length≤n→Only H→SqL (K w.params) H a (ns.map V.int)→sp w [.ref a] H (fun v _=>v=.bl true) fun _ _ _=>False)
  (hCX:∀ (w:World) (H:Hp) (s:Shared) (e:Value) (s':Shared),CX w [] H s (fun _ _ _=>False) e s'→False) :
  PySem.W.WalkO q loose XP YP l.row.toRowW d [] (fun f vs=>PySem.call f vs):=by
 refine Att.attach_call hn hdf fun w s₀ s₁ mg mb fa o pm cd doc a vs ns G Y ho hd hcd hmg hobj hints hlen hg =>?_
 have KX:=hY w _ Y;obtain⟨fd,hb,hF⟩:=F w mg fa _ KX G.T.g hmg;exact law_call KX G.T.g G.T.b G.T.builtins G.T.nolimit hg hobj hints (yB hlen hn2) hr hF hb (fun H hO hS=>hsp w H a ns hlen hO hS) fun H e s'=>hCX w H s₁ e s'
theorem walk_ofK {l:PySem.W.OpenLaw}{n k:Nat}{q:Program}{loose:List Str}{XP:(Str→Option Value)→Heap→Prop}{YP:World→Heap→Prop}{d:DefRec}{K:Params→Frag}{CX:CXT}{sp:Frag→Sp}{x:Str}
  (hn:l.most=some n) (hn2:n≤sizeLine) (hdf:d.params.defaults=[]) (hr:Room k callerA)
  (hY:∀ (w:World) (h:Heap),YP w h→(K w.params).In h)
  (F:∀ (w:World) (mg:Str→Option Value) (fa:Addr) (h:Heap),(K w.params).In h→h.Ns mainGlobals mg→mg d.name=some (.ref fa) →
   ∃ fd:FuncData,(∀ (s:Shared) (u:Value),BindsTo s fd ⟨[u],[]⟩ [(x,u)]) ∧
    ∀ base:Heap,(K w.params).In base→base.Ns mainGlobals mg→FnOk l.prog w (K w.params) mg base CX k fa fd [x] (sp (K w.params)))
  (hsp:∀ (K:Frag) (H:Hp) (a:Addr) (ns:List Int),ns.length≤n→Only H→SqL K H a (ns.map V.int)→sp K [.ref a] H (fun v _=>v=.bl true) fun _ _ _=>False)
  (hCX:∀ (H:Hp) (s:Shared) (e:Value) (s':Shared),CX [] H s (fun _ _ _=>False) e s'→False) :
  PySem.W.WalkO q loose XP YP l.row.toRowW d [] (fun f vs=>PySem.call f vs):=
 walk_of (K:=K) (CX:=fun _=>CX) (sp:=fun w=>sp (K w.params)) hn hn2 hdf hr hY F (fun w H a ns h1 h2 h3=>hsp (K w.params) H a ns h1 h2 h3) fun _ H s e s'=>hCX H s e s'
end L2
namespace L2
open PySem PySem.Spec PyProof.Rows
noncomputable def inClass (s:Stmt) (j:Nat):Stmt:=match s with
 | .ClassDef _ _ _ body _ _ _ _ _ _ _=>body.getD j (.Pass ⟨0,0,0,0⟩)
 | _ =>.Pass ⟨0,0,0,0⟩
noncomputable def defArgs (s:Stmt):Arguments:=match s with
 | .FunctionDef _ a _ _ _ _ _ _ _ _=>a
 | _=>{ posonlyargs:=[],args:=[],vararg:=none,kwonlyargs:=[],kw_defaults:=[],kwarg:=none,defaults:=[] }
noncomputable def defBody (s:Stmt):List Stmt:=match s with
 | .FunctionDef _ _ b _ _ _ _ _ _ _=>b
 | _=>[]
noncomputable def defScope (s:Stmt):Scope:=match s with
 | .FunctionDef _ _ _ _ _ _ sc _ _ _=>sc
 | _=>{ kind :=.function,names:=[],isGenerator:=false,isCoroutine:=false }
noncomputable abbrev CX0:CXT:=fun _ _ _ _ _ _=>False
noncomputable abbrev E0:XK:=fun _ _ _=>False
theorem pass0 {X:Cx}:Passes CX0 X E0:=fun _ _ _ _ _ _ _ h=>h.elim
structure Fun (K:Frag) (x qual:Str) (st:Stmt) (f:Addr) (fd:FuncData):Prop where
 ex:∃ (oc:Value) (od:Option Addr) (kV doc pm:Value) (an:Option Addr) (cdv ct:Value) (osl:Array (Option Value)),
  fd=fnOf x qual (defArgs st) (defBody st) (defScope st) .none kV doc pm an cdv ct∧K.lookup f=some ⟨oc,od,.func fd,osl⟩∧codeIn K cdv qual=true
 kp:keepIn K (.ref f)=true
noncomputable section
variable {P:Program}{w:World}{K:Frag}{mg:Str→Option Value}{base:Heap}
theorem Fun.ok {x qual:Str}{st:Stmt}{f:Addr}{fd:FuncData}{N ps:List Str}{k:Nat}{sp:Sp}(F:Fun K x qual st f fd) (S:FnScope N ps (defScope st)) (len:∀ vs H Q E,sp vs H Q E→vs.length=ps.length)
  (hbody:∀ (cdv:Value) (A:Around) (outer:List Env) (s:Shared) (H:Hp) (vs:List V) (Q:VK) (E:XK),Room k (A.deeper (envOfC qual (defScope st) s.heap.objs.size f cdv))→sp vs H Q E →
   ∃ t,PSs (cxOf CX0 P w K mg base N qual (defScope st) f cdv A outer s H E).nox (defBody st) t∧t { nx:=fun _ H'=>Q .non H',rt:=Q } (start N vs) H):FnOk P w K mg base CX0 (k+1) f fd ps sp:=by
 obtain⟨oc,od,kV,doc,pm,an,cdv,ct,osl,rfl,lk,hcd⟩:=F.ex;refine fn_of lk hcd S len fun A outer s H vs Q E hr hsp =>?_
 obtain⟨t,h,q⟩:=hbody cdv A outer s H vs Q E hr hsp;exact⟨t,h.nox,q⟩
theorem Fun.binds {x qual:Str}{st:Stmt}{f:Addr}{fd:FuncData}{ps:List Str}(F:Fun K x qual st f fd)
  (h:∀ (kV doc pm:Value) (an:Option Addr) (cdv ct:Value) (us:List Value),us.length=ps.length→bindArgs (fnOf x qual (defArgs st) (defBody st) (defScope st) .none kV doc pm an cdv ct) ⟨us,[]⟩=pure (ps.zip us)):Binds K fd ps []:=by
 obtain⟨oc,od,kV,doc,pm,an,cdv,ct,osl,rfl,lk,hcd⟩:=F.ex;exact .all (h kV doc pm an cdv ct)
theorem fun_mk {x qual:Str}{st:Stmt}{f:Addr}{oc:Value}{od an:Option Addr}{osl:Array (Option Value)}{kV doc pm cdv ct:Value}(l:K.lookup f=some ⟨oc,od,.func (fnOf x qual (defArgs st) (defBody st) (defScope st) .none kV doc pm an cdv ct),osl⟩)
  (c:codeIn K cdv qual=true) (k:keepIn K (.ref f)=true):Fun K x qual st f (fnOf x qual (defArgs st) (defBody st) (defScope st) .none kV doc pm an cdv ct):=⟨⟨oc,od,kV,doc,pm,an,cdv,ct,osl,rfl,l,c⟩,k⟩
end
noncomputable section
variable {X:Cx}
theorem pv (i:Nat){x:Str}{pos:Pos}(hN:X.N[i]?=some x:=by rfl) (hv:Vis X.env.scope x:=by first|exact Or.inl rfl|exact Or.inr (Or.inl rfl)|exact Or.inr (Or.inr rfl)) (hd:(x==("__debug__" : Str))=false:=by decide)
  (hcd:(x==("__classdict__" : Str))=false:=by decide):PE X (.Name x pos) (tVar i):=pe_var hN hv hd hcd
end
theorem iteF {A B:Prop}(h:B):if false=true then A else B:=by
 rw[if_neg zZ];exact h
theorem iteT {A B:Prop}(h:A):if true=true then A else B:=by
 rw[if_pos rfl];exact h
theorem ite2 {c A B:Prop} [Decidable c] (h1:c→A) (h2:¬ c→B):if c then A else B:=by
 by_cases h:c
 ·rw[if_pos h];exact h1 h
 ·rw[if_neg h];exact h2 h
noncomputable def Same (H H':Hp):Prop:=∀ b o,H b=some o→H' b=some o
theorem Same.refl (H:Hp):Same H H:=fun _ _ h=>h
theorem Same.trans {H H1 H2:Hp}(a:Same H H1) (b:Same H1 H2):Same H H2:=fun c o h=>b c o (a c o h)
theorem Same.free {H H':Hp}(e:Same H H'){l:Addr}(h:H' l=Option.none):H l=Option.none:=by
 cases q:H l with
 | none=>rfl
 | some o=>rw[e l o q] at h;cases h
theorem Same.seq {K:Frag}{H H':Hp}{a:Addr}{xs:List V}(e:Same H H') (h:SqL K H a xs):SqL K H' a xs:=by
 rcases h with (h|⟨o,h⟩)|h
 ·exact .inl (.inl (e _ _ h))
 ·exact .inl (.inr ⟨o,e _ _ h⟩)
 ·exact .inr h
end L2
end
noncomputable section
namespace L2
open PySem PySem.Spec PyProof.Rows
noncomputable section
variable {P:Program}{w:World}{H:Hp}{h:Heap}{a:Addr}{o:HO}
theorem HOk.track (x:HOk P w H h) (hn:H a=none) (new:ObjOk P w (upd H a o) h a o):HOk P w (upd H a o) h:=fun b u e=>by
 by_cases hb:b=a
 ·subst hb;rw[upd_same] at e;cases e;exact new
 ·rw[upd_ne hb] at e;exact(x b u e).stay (fun c v _ q=>q) (fun c q=>by rw[upd_ne (ne_of_none q hn)];exact q) fun c xs q=>by rw[upd_ne (ne_of_none q hn)];exact q
theorem HOk.untrack {xs:List V}(x:HOk P w (upd H a (.lst xs)) h) (hn:H a=none):HOk P w H h:=fun b u e=>by
 have hb:b≠a:=ne_of_none e hn;have k:∀ c v,upd H a (.lst xs) c=some v→v ≠ .lst xs→H c=some v:=fun c v q ne=>by
  by_cases hc:c=a
  ·subst hc;rw[upd_same] at q;cases q;exact absurd rfl ne
  ·rwa [upd_ne hc] at q
 exact(x b u (by rw[upd_ne hb];exact e)).stay (fun c v _ q=>q) (fun c q=>k c _ q (by intro z;cases z)) fun c ys q=>k c _ q (by intro z;cases z)
end
noncomputable def lobj (its:List Value) (n:Nat):Obj:={ cls :=.type "list",data :=.seq its.toArray n }
noncomputable section
variable {X:Cx}{pins:List (Addr×Obj)}{σ:St}{H:Hp}{s:Shared}{D:Addr}{ys:List V}{its:List Value}{n:Nat}
theorem Inv.track (I:Inv X (pins++[(D,lobj its n)]) σ H s) (r:Vals ys its) (hz:ys.length≤sizeLine) (hD:X.s₀.heap.objs.size≤D) (hp:∀ p∈X.pn++pins,p.1≠D):Inv X pins σ (upd H D (.lst ys)) s:=by
 obtain⟨e,hn,hL,hF,_⟩:=I.pin (D,lobj its n) (by simp)
 have old:∀ b o,X.s₀.heap.get? b=some o→b≠D:=fun b o q z=>by have q':=zJ q;subst z;exact yF _ (zS q' hD)
 refine⟨I.ok,I.os,I.bare,⟨I.base.keep,I.base.slot,fun b o q m x =>?_,I.base.there,fun b xs q =>?_,fun b o u q =>?_,fun b ps q =>?_⟩,I.loc,I.cell,?_,fun x c q =>?_,fun p q =>?_,I.hok.track hn ⟨hz,its,n,r,e⟩,I.len⟩
 ·rw[upd_ne (old b o q)];exact I.base.free b o q m x
 ·have:=I.base.tups b xs q;rw[upd_ne (ne_of_none this hn)];exact this
 ·have:=I.base.frzs b o u q;rw[upd_ne (ne_of_none this hn)];exact this
 ·obtain⟨more,this⟩:=I.base.tbls b ps q;exact⟨more,by rw[upd_ne (ne_of_none this hn)];exact this⟩
 ·rw[upd_ne (Ne.symm hL)];exact I.free
 ·have nc:c≠D:=fun z=>by obtain⟨v,ob,h1,h2⟩:=I.cell x c q;rw[z,e] at h1;cases h1;cases h2
  rw[upd_ne nc];exact I.freeC x c q
 ·obtain⟨a1,a2,a3⟩:=I.pin p (by rw[← List.append_assoc];exact zU _ q)
  exact⟨a1,by rw[upd_ne (hp p q)];exact a2,a3⟩
theorem Inv.untrack (I:Inv X pins σ (upd H D (.lst ys)) s) (hn:H D=none) (hL:D≠X.env.locals) (hF:D∉X.fs):∃ its n,Vals ys its∧ys.length≤sizeLine∧Inv X (pins++[(D,lobj its n)]) σ H s:=by
 obtain⟨hz,its,n,r,e⟩:=I.hok D _ upd_same;have k:∀ c v,upd H D (.lst ys) c=some v→v ≠ .lst ys→H c=some v:=fun c v q ne=>by
  by_cases hc:c=D
  ·subst hc;rw[upd_same] at q;cases q;exact absurd rfl ne
  ·rwa [upd_ne hc] at q
 have k0:∀ c,upd H D (.lst ys) c=none→H c=none:=fun c q=>by
  by_cases hc:c=D
  ·subst hc;exact hn
  ·rwa [upd_ne hc] at q
 refine⟨its,n,r,hz,I.ok,I.os,I.bare,⟨I.base.keep,I.base.slot,fun b o q m x=>k0 _ (I.base.free b o q m x),I.base.there,fun b xs q=>k _ _ (I.base.tups b xs q) (by intro z;cases z),fun b o u q=>k _ _ (I.base.frzs b o u q) (by intro z;cases z),fun b ps q =>?_⟩,I.loc,I.cell,k0 _ I.free,fun x c q=>k0 _ (I.freeC x c q),fun p q =>?_,I.hok.untrack hn,I.len⟩
 ·obtain⟨more,this⟩:=I.base.tbls b ps q;exact⟨more,k _ _ this (by intro z;cases z)⟩
 ·rw[← List.append_assoc] at q;rcases zO.mp q with q|q
  ·obtain⟨a1,a2,a3⟩:=I.pin p q;exact⟨a1,k0 _ a2,a3⟩
  ·have:p=(D,lobj its n):=by simpa using q
   subst this;exact⟨e,hn,hL,hF,fun v z=>by cases z⟩
end
theorem cellsFrom_app:∀ (names:List (Str×NameKind)) (n:Nat) (acc:List (Str×Addr)),cellsFrom n names acc=cellsFrom n names []++acc
 | [],n,acc=>rfl
 | (x,k)::r,n,acc=>by
  unfold cellsFrom
  split
  ·rw[cellsFrom_app r (n+1) ((x,n)::acc),cellsFrom_app r (n+1) [(x,n)],List.append_assoc];rfl
  ·exact cellsFrom_app r n acc
theorem cellsFrom_kind:∀ (names:List (Str×NameKind)) (n:Nat) (acc:List (Str×Addr)) (x:Str) (c:Addr),(x,c)∈cellsFrom n names acc→(x,c)∈acc∨(x,NameKind.cell)∈names
 | [],n,acc,x,c,h =>.inl h
 | (y,k)::r,n,acc,x,c,h=>by
  unfold cellsFrom at h
  split at h
  ·rename_i hk;rcases cellsFrom_kind r _ _ x c h with q|q
   ·rcases zG.mp q with e|q
    ·cases e;have:k=.cell:=by simpa using hk
     subst this;exact .inr (by simp)
    ·exact .inl q
   ·exact .inr (zB _ q)
  ·rcases cellsFrom_kind r _ _ x c h with q|q
   ·exact .inl q
   ·exact .inr (zB _ q)
noncomputable def cloOf (cells:List (Str×Addr)):List (Str×NameKind)→List (Str×Addr)→List (Str×Addr)
 | [],acc=>acc
 | (x,k)::r,acc=>if k == .free then cloOf cells r ((x,(cells.lookup x).getD 0)::acc) else cloOf cells r acc
theorem closure_run {env:Env}(f:Str×NameKind→List (Str×Addr)→Sem (ForInStep (List (Str×Addr))))
  (hf:∀ name kind cs,f (name,kind) cs=if kind == .free then (do let a ← cellOf env name;pure (.yield ((name,a)::cs))) else pure (.yield cs)) :
  ∀ (names:List (Str×NameKind)) (acc:List (Str×Addr)),(∀ y∈names,y.2=.free→∃ c,env.cells.lookup y.1=some c)→(forIn names acc f:Sem _)=pure (cloOf env.cells names acc)
 | [],acc,_=>by rw[List.forIn_nil];rfl
 | (x,k)::r,acc,h=>by
  rw[List.forIn_cons,hf];unfold cloOf;cases hk:k==NameKind.free with
  | false=>simp only[Bool.false_eq_true,if_false];exact closure_run f hf r acc fun y hy=>h y (zB _ hy)
  | true=>
   obtain⟨c,e⟩:=h (x,k) zD (by simpa using hk)
   have e:env.cells.lookup x=some c:=e;have e2:cellOf env x=pure c:=by unfold cellOf;rw[e]
   simp only[if_true];rw[e2,e];exact closure_run f hf r _ fun y hy=>h y (zB _ hy)
theorem closureFor_of {scope:Scope}{env:Env}(h:∀ y∈scope.names,y.2=.free→∃ c,env.cells.lookup y.1=some c):closureFor scope env=pure (cloOf env.cells scope.names []):=by
 simp only[closureFor];rw[closure_run (env:=env) _ (fun name kind cs=>by cases kind==NameKind.free<;>rfl) scope.names [] h]
 rfl
theorem cloOf_mem {cells:List (Str×Addr)}:∀ {names:List (Str×NameKind)}{acc:List (Str×Addr)}{x:Str}{c:Addr},(x,c)∈cloOf cells names acc→(x,c)∈acc∨((x,NameKind.free)∈names∧c=(cells.lookup x).getD 0)
 | [],acc,x,c,h =>.inl h
 | (y,k)::r,acc,x,c,h=>by
  unfold cloOf at h
  split at h
  ·rename_i hk;rcases cloOf_mem h with q|q
   ·rcases zG.mp q with e|q
    ·cases e;have:k=.free:=by simpa using hk
     subst this;exact .inr ⟨by simp,rfl⟩
    ·exact .inl q
   ·exact .inr ⟨zB _ q.1,q.2⟩
  ·rcases cloOf_mem h with q|q
   ·exact .inl q
   ·exact .inr ⟨zB _ q.1,q.2⟩
theorem cloOf_keep {cells:List (Str×Addr)}:∀ {names:List (Str×NameKind)}{acc:List (Str×Addr)}{x:Str},(∃ c,(x,c)∈acc)→∃ c,(x,c)∈cloOf cells names acc
 | [],acc,x,h=>h
 | (y,k)::r,acc,x,⟨c,h⟩=>by
  unfold cloOf
  split
  ·exact cloOf_keep ⟨c,zB _ h⟩
  ·exact cloOf_keep ⟨c,h⟩
theorem cloOf_has {cells:List (Str×Addr)}:∀ {names:List (Str×NameKind)}{acc:List (Str×Addr)}{x:Str},(x,NameKind.free)∈names→∃ c,(x,c)∈cloOf cells names acc
 | (y,k)::r,acc,x,h=>by
  unfold cloOf;rcases zG.mp h with e|h
  ·cases e;exact cloOf_keep ⟨_,zD⟩
  ·split
   ·exact cloOf_has h
   ·exact cloOf_has h
theorem lookup_of_mem {α:Type}:∀ {l:List (Str×α)}{x:Str}{c:α},(x,c)∈l→∃ d,l.lookup x=some d
 | (y,v)::r,x,c,h=>by
  rw[List.lookup_cons];cases hb:x==y with
  | true=>exact⟨v,rfl⟩
  | false=>
   rcases zG.mp h with e|h
   ·cases e;simp at hb
   ·exact lookup_of_mem h
theorem lookup_app {α:Type}:∀ {l r:List (Str×α)}{x:Str},(l++r).lookup x=(l.lookup x).or (r.lookup x)
 | [],r,x=>by simp
 | (y,v)::l,r,x=>by
  rw[List.cons_append,List.lookup_cons,List.lookup_cons];cases hb:x==y with
  | true=>rfl
  | false=>exact lookup_app
theorem lookup_relabel {env:Env}:∀ {names:List (Str×NameKind)}{x:Str},(names.map fun (n,k)=>if (k==NameKind.free&&env.scope.kind == .function&&env.kindOf n==some .cell) then (n,NameKind.cell) else (n,k)).lookup x =
  (names.lookup x).map fun k=>if (k==NameKind.free&&env.scope.kind == .function&&env.kindOf x==some .cell) then NameKind.cell else k
 | [],_=>rfl
 | (n,k)::r,x=>by
  have ih :=@lookup_relabel env r x;show List.lookup x ((if (k==NameKind.free&&env.scope.kind == .function&&env.kindOf n==some .cell)=true then (n,NameKind.cell) else (n,k))::_)=_
  cases hx:x==n with
  | true=>
   have e:x=n:=by simpa using hx
   subst e;by_cases hc:(k==NameKind.free&&env.scope.kind == .function&&env.kindOf x==some .cell)=true
   ·rw[if_pos hc];simp only[List.lookup_cons,hx,zT,if_pos hc]
   ·rw[if_neg hc];simp only[List.lookup_cons,hx,zT,if_neg hc]
  | false=>
   by_cases hc:(k==NameKind.free&&env.scope.kind == .function&&env.kindOf n==some .cell)=true
   ·rw[if_pos hc];simp only[List.lookup_cons,hx];exact ih
   ·rw[if_neg hc];simp only[List.lookup_cons,hx];exact ih
end L2
end
noncomputable section
namespace L2
open PySem PySem.Spec PyProof.Rows
theorem natLt {a b:Nat}(h:a<b):a<b:=h
theorem natLe {a b:Nat}(h:a≤b):a≤b:=h
theorem natEq {a b:Nat}(h:a=b):a=b:=h
noncomputable abbrev cenvOf (X:Cx) (scope:Scope) (C:Addr):Env:=
 { scope:=relabel scope X.env,locals:=C,globals:=X.env.globals,cells:=cellsFrom (C+1) scope.names (cloOf X.env.cells scope.names []),qual:=X.env.qual,func:=none,code:=X.env.code,frame:=X.env.frame,builtins:=X.env.builtins }
noncomputable def Cx.blk (X:Cx) (N:List Str) (scope:Scope) (C:Addr) (s:Shared) (H:Hp) (ex:List Addr):Cx:=
 { X with N:=N,s₀:=s,H₀:=H,env:=cenvOf X scope C,outer:=X.stack,stack:=X.stack,ex:=ex,fn:=fun x=>scope.names.lookup x==some .cell,pn:=[],xe:=fun _ _=>False }
noncomputable def srcσ (src:List (Option Nat)) (σ:St):St:=src.map fun o=>match o with|some j=>(σ[j]?).getD none|none=>none
structure BlkScope (X:Cx) (N:List Str) (src:List (Option Nat)) (scope:Scope):Prop where
 kind:scope.kind=.function
 uniq:∀ y∈scope.names,scope.names.lookup y.1=some y.2
 free:∀ y∈scope.names,y.2=.free→X.env.scope.names.lookup y.1=some .cell∨X.env.scope.names.lookup y.1=some .free
 len:src.length=N.length
 from_:∀ (i j:Nat) (x:Str),src[i]?=some (some j)→N[i]?=some x→X.N[j]?=some x∧scope.names.lookup x=some .free
noncomputable section
variable {X:Cx}{pins:List (Addr×Obj)}{σ:St}{H:Hp}{s s2:Shared}{N:List Str}{src:List (Option Nat)}{scope:Scope}
theorem newEnv_blk {E:Value→Shared→Prop}{M:Model}{A:Around}{cl:List (Str×Addr)}{Q:Env→Shared→Prop}
  (hQ:∀ h',(∀ b o,s.heap.get? b=some o→h'.get? b=some o)→h'.Ns s.heap.objs.size (fun _=>none)→CellsOk h' (s.heap.objs.size+1) (cellsFrom (s.heap.objs.size+1) scope.names []) →
   Q { scope:=scope,locals:=s.heap.objs.size,globals:=X.env.globals,cells:=cellsFrom (s.heap.objs.size+1) scope.names cl,qual:=X.env.qual,func:=none,code:=X.env.code,frame:=X.env.frame,builtins:=X.env.builtins } { s with heap:=h' }) :
  wpAny M A (newFunctionEnv scope X.env.globals cl [] X.env.qual none .none (some X.env)) Q E s:=by
 simp only[newFunctionEnv,Option.isSome_some,if_true];refine zE (wpAny_alloc ?_);refine zE (wpAny_layCells _ (fun name kind cells=>by cases hkc:kind==NameKind.cell<;>simp[hkc]) _ _ _ _ ?_)
 have ok:=cellsFrom_ok scope.names (s.heap.push { cls :=.type "dict",data :=.dict #[] }) (s.heap.objs.size+1) [] ⟨fun _ _ hm=>(nomatch hm),List.Pairwise.nil⟩ (by rw[Heap.size_push];exact zL _)
 rw[Heap.size_push] at ok;rw[show ({ s with heap:=s.heap.push { cls :=.type "dict",data :=.dict #[] } }:Shared).heap.objs.size=s.heap.objs.size+1 from Heap.size_push ..]
 rw[List.forIn_nil];exact zE (zW (zW (hQ _ (fun b o e=>pushCells_keeps _ _ b o (zF _ e)) ((Heap.Ns.new s.heap (.type "dict")).keeps (pushCells_keeps _ _)) ok)))
theorem blk_cell (S:BlkScope X N src scope) (ok:X.Ok){C:Addr}{x:Str}{c:Addr}(h:(cenvOf X scope C).cells.lookup x=some c) :
  (scope.names.lookup x=some .cell∧(x,c)∈cellsFrom (C+1) scope.names [])∨(scope.names.lookup x=some .free∧X.env.cells.lookup x=some c):=by
 have h:(cellsFrom (C+1) scope.names (cloOf X.env.cells scope.names [])).lookup x=some c:=h;rw[cellsFrom_app,lookup_app] at h;cases e:(cellsFrom (C+1) scope.names []).lookup x with
 | some d=>
  rw[e] at h;have:d=c:=by simpa using h
  subst this;have q:=PySem.mem_of_lookup e;rcases cellsFrom_kind _ _ _ _ _ q with z|z
  ·simp at z
  ·exact .inl ⟨S.uniq _ z,q⟩
 | none=>
  rw[e] at h;have h:(cloOf X.env.cells scope.names []).lookup x=some c:=by simpa using h
  rcases cloOf_mem (PySem.mem_of_lookup h) with z|⟨z,zc⟩
  ·simp at z
  ·obtain⟨d,hd⟩:=ok.has x (S.free _ z rfl);rw[hd] at zc;exact .inr ⟨S.uniq _ z,by rw[hd,zc];rfl⟩
theorem blk_own (S:BlkScope X N src scope){C:Addr}{x:Str}(h:scope.names.lookup x=some .cell):∃ c,(cenvOf X scope C).cells.lookup x=some c:=by
 obtain⟨c,e⟩:=cell_has (sc:=scope) (n:=C+1) h;refine⟨c,?_⟩;show (cellsFrom (C+1) scope.names (cloOf X.env.cells scope.names [])).lookup x=some c;rw[cellsFrom_app,lookup_app,e];rfl
theorem blk_free (S:BlkScope X N src scope) (ok:X.Ok){C:Addr}{x:Str}(h:scope.names.lookup x=some .free):∃ c,(cenvOf X scope C).cells.lookup x=some c∧X.env.cells.lookup x=some c:=by
 have hm:=PySem.mem_of_lookup h;obtain⟨d,hd⟩:=cloOf_has (cells:=X.env.cells) (acc:=[]) hm;obtain⟨c,hc⟩:=lookup_of_mem hd;have e:(cenvOf X scope C).cells.lookup x=some c:=by
  show (cellsFrom (C+1) scope.names (cloOf X.env.cells scope.names [])).lookup x=some c;rw[cellsFrom_app,lookup_app];cases e:(cellsFrom (C+1) scope.names []).lookup x with
  | none=>simpa using hc
  | some d=>
   rcases cellsFrom_kind _ _ _ _ _ (PySem.mem_of_lookup e) with z|z
   ·simp at z
   ·have:=S.uniq _ z;rw[h] at this;cases this
 rcases blk_cell S ok e with ⟨z,_⟩|⟨_,z⟩
 ·rw[h] at z;cases z
 ·exact⟨c,e,z⟩
theorem blk_kind (x:Str){C:Addr}:(cenvOf X scope C).kindOf x=(scope.names.lookup x).map fun k=>if (k==NameKind.free&&X.env.scope.kind == .function&&X.env.kindOf x==some .cell) then NameKind.cell else k:=by
 show (relabel scope X.env).names.lookup x=_;exact lookup_relabel
theorem srcσ_get {i:Nat}{v:V}(h:(srcσ src σ)[i]?=some (some v)):∃ j,src[i]?=some (some j)∧σ[j]?=some (some v):=by
 unfold srcσ at h;rw[zM] at h;cases e:src[i]? with
 | none=>rw[e] at h;cases h
 | some o=>
  rw[e] at h;cases o with
  | none=>cases h
  | some j=>
   refine⟨j,rfl,?_⟩;have h:(σ[j]?).getD none=some v:=by simpa using h
   cases q:σ[j]? with
   | none=>rw[q] at h;cases h
   | some z=>rw[q] at h;rw[show z=some v from h]
theorem blk_start {ex:List Addr}{h':Heap}{D C:Nat}{o:Obj}(S:BlkScope X N src scope) (I:Inv X pins σ H s2) (hf:∀ b∈ex,FpOk X pins H b) (hob:∀ b∈ex,∃ o,s2.heap.get? b=some o)
  (hD:D=s2.heap.objs.size) (hC:C=s2.heap.objs.size+1) (hk:∀ b o,s2.heap.get? b=some o→h'.get? b=some o) (hDo:h'.get? D=some o) (hdo:∀ v,o.data ≠ .cell v)
  (hns:h'.Ns C (fun _=>none)) (hcs:CellsOk h' (C+1) (cellsFrom (C+1) scope.names [])) :
  Inv (X.blk N scope C s2 H ex) (X.pn++pins++[(D,o)]) (srcσ src σ) H { s2 with heap:=h' }:=by
 have lt:∀ {b:Nat}{o:Obj},s2.heap.get? b=some o→b<s2.heap.objs.size:=fun e=>zJ e
 have fr:∀ a:Nat,s2.heap.objs.size≤a→H a=none:=fun a h=>I.hok.fresh h
 have cold:∀ (x:Str) (c:Nat),X.env.cells.lookup x=some c→c<s2.heap.objs.size:=fun x c e=>by obtain⟨v,z⟩:=I.cell x c e;exact z.lt
 have own:∀ {x:Str}{c:Nat},(x,c)∈cellsFrom (C+1) scope.names []→C+1≤c:=fun q=>(hcs.empty _ _ q).2
 refine⟨⟨I.mod,S.kind,I.ok.glob,I.ok.blt,?_,?_,?_,?_,I.ok.hd,I.ok.frames,.inl rfl,?_,I.bs,?_,?_,?_,I.stack,I.stkFree⟩,rfl,I.bare,Un.kept hk,⟨_,hns,?_⟩,?_,?_,?_,?_,I.hok.kept hk,?_⟩
 ·show s2.heap.objs.size≤C;omega
 ·intro x y c h1 h2;rcases blk_cell S I.ok h1 with ⟨_,a⟩|⟨_,a⟩<;>rcases blk_cell S I.ok h2 with ⟨_,b⟩|⟨_,b⟩
  ·exact name_of_addr hcs.apart a b
  ·have:C+1≤(c:Nat):=own a;have:=natLt (cold _ _ b);omega
  ·have:C+1≤(c:Nat):=own b;have:=natLt (cold _ _ a);omega
  ·exact I.ok.inj x y c a b
 ·intro x hx;have hx:(cenvOf X scope C).kindOf x=some .cell∨(cenvOf X scope C).kindOf x=some .free:=hx;rw[blk_kind] at hx;cases e:scope.names.lookup x with
  | none=>rw[e] at hx;rcases hx with z|z<;>cases z
  | some k=>
   cases k with
   | cell=>exact blk_own S e
   | free=>obtain⟨c,q,_⟩:=blk_free S I.ok e;exact⟨c,q⟩
   | _=>rw[e] at hx;exfalso;revert hx;simp
 ·intro x c hx h1;have hx:scope.names.lookup x=some .cell:=by have:(scope.names.lookup x==some .cell)=true:=hx;simpa using this
  show s2.heap.objs.size≤c;rcases blk_cell S I.ok h1 with ⟨_,a⟩|⟨z,_⟩
  ·have:C+1≤(c:Nat):=own a;show s2.heap.objs.size≤(c:Nat);omega
  ·rw[hx] at z;cases z
 ·intro b hb;obtain⟨ob,e⟩:=hob b hb;have l:=natLt (lt e);refine⟨fun z =>?_,fun x c h1 z =>?_⟩
  ·have z:=natEq (a:=b) (b:=C) z;omega
  ·subst z;rcases blk_cell S I.ok h1 with ⟨_,a⟩|⟨_,a⟩
   ·have:C+1≤(c:Nat):=own a;omega
   ·exact(hf c hb).2.2.2.2.1 x c a rfl
 ·show X.base.objs.size≤s2.heap.objs.size;have:=I.ok.bsz;have:=I.sz;omega
 ·intro b ob e hb;rcases(hf b hb).2.2.2.1 with z|z
  ·exact I.ok.noex b ob e z
  ·have e:X.base.get? b=some ob:=e;have a:=natLt (zJ e);have:=I.ok.bsz;have z:X.s₀.heap.objs.size≤(b:Nat):=z;omega
 ·intro b hb;intro z;have z:b∈frs X.stack:=z;have:=I.stkSub b z;rcases zG.mp this with q|q
  ·exact(hf b hb).2.1 q
  ·exact(hf b hb).2.2.1 q
 ·intro i x v h1 h2 h3;obtain⟨j,e1,e2⟩:=srcσ_get h2;obtain⟨e3,e4⟩:=S.from_ i j x e1 h1;obtain⟨m,hm,hl⟩:=I.loc;have kx:=S.free _ (PySem.mem_of_lookup e4) rfl;have vis:Vis X.env.scope x :=.inr kx;obtain⟨u,r,lk⟩:=hl j x v e3 e2 vis;refine⟨u,r,?_⟩;rcases lk with ⟨z,_⟩|⟨_,c,ec,cc⟩
  ·exfalso;have z:X.env.scope.names.lookup x=some .local:=z;rw[z] at kx;rcases kx with q|q<;>cases q
  ·obtain⟨c',q1,q2⟩:=blk_free (C:=C) S I.ok e4;rw[ec] at q2;cases q2;refine .inr ⟨?_,c,q1,cc.keeps hk⟩;show (cenvOf X scope C).kindOf x=some .cell∨(cenvOf X scope C).kindOf x=some .free;rw[blk_kind,e4,zT]
   split
   ·exact .inl rfl
   ·exact .inr rfl
 ·intro x c h1;rcases blk_cell S I.ok h1 with ⟨_,a⟩|⟨_,a⟩
  ·exact⟨none,(hcs.empty _ _ a).1⟩
  ·obtain⟨v,z⟩:=I.cell x c a;exact⟨v,z.keeps hk⟩
 ·exact fr C (by omega)
 ·intro x c h1;rcases blk_cell S I.ok h1 with ⟨_,a⟩|⟨_,a⟩
  ·have:C+1≤(c:Nat):=own a;exact fr c (by omega)
  ·exact I.freeC x c a
 ·intro p hp;have hp:p∈X.pn++pins++[(D,o)]:=by simpa [Cx.blk] using hp
  rcases zO.mp hp with q|q
  ·obtain⟨a1,a2,a3,a4,a5⟩:=I.pin p q;refine⟨hk _ _ a1,a2,fun z =>?_,fun z =>?_,a5⟩
   ·have z:=natEq (a:=p.1) (b:=C) z;have q:=natLt (lt a1);omega
   ·have z:p.1∈frs X.stack:=z;rcases zG.mp (I.stkSub _ z) with q|q
    ·exact a3 q
    ·exact a4 q
  ·have:p=(D,o):=by simpa using q
   subst this;refine⟨hDo,fr D (by omega),fun z =>?_,fun z =>?_,hdo⟩
   ·have z:D=C:=z;omega
   ·have z:D∈frs X.stack:=z;rcases zG.mp (I.stkSub _ z) with q|q
    ·have l:=natLt I.lt;have q:=natEq (a:=D) (b:=X.env.locals) q;omega
    ·exact I.nofs (show s2.heap.objs.size≤D by omega) q
 ·show (srcσ src σ).length=N.length;unfold srcσ;rw[zH];exact S.len
end
end L2
end
noncomputable section
namespace L2
open PySem PySem.Spec PyProof.Rows
noncomputable section
variable {prog:Program}{w:World}{A:Around}{R:Result→Shared→Prop}{s:Shared}
theorem compLoop_own {elt target iter:Expr}{ifs:List Expr}{scope:Scope}{pos:Pos}{it acc:Value}{env:Env}(I:Nat→Shared→Prop)
  (turn:∀ n s,I n s→wpAny (model prog w) A (pyNext it) (fun r s₁=>match r with
   | none=>R (.ok .next) s₁
   | some v=>wpAny (model prog w) A (letOwnedTupleGo target it v) (fun _ s₁'=>wpAny (model prog w) A (assign target env v) (fun _ s₂=>
     wpAny (model prog w) A (forIn ifs true fun c r=>if r=true then do let ok ← isTrue c env (eval c env);pure (ForInStep.yield ok) else pure (ForInStep.yield r)) (fun ok s₃=>
      if ok=true then wpAny (model prog w) A (eval elt env) (fun x s₄=>wpAny (model prog w) A (call (.builtin "list.append") [acc,x]) (fun _ s₅=>∃ m,m<n∧I m s₅) (fun _ _=>False) s₄) (fun _ _=>False) s₃
      else ∃ m,m<n∧I m s₃) (fun _ _=>False) s₂) (fun _ _=>False) s₁') (fun _ _=>False) s₁) (fun _ _=>False) s)
  (n:Nat) (h:I n s) :
  codeAny (model prog w) A (.compLoop (.ListComp elt [⟨target,iter,ifs,0⟩] scope pos) 0 it acc env) R s:=by
 refine codeAny_loop rfl I (fun n s hI =>?_) n h
 show wpAny _ A ((compTurn (.ListComp elt [⟨target,iter,ifs,0⟩] scope pos) 0 it acc env).onRaise (fun x=>do noteFrame x env;theTreesLotGoes x)) _ _ s
 refine wpAny_noted ?_;rw[compTurn_list];refine zE (wpAny_standAt (zE (wpAny_mono (turn n s hI) (fun r s₁ h₁ =>?_) fun _ _ h'=>h'.elim)))
 cases r with
 | none=>exact zW h₁
 | some v=>
  refine zE (wpAny_mono h₁ (fun _ s₁' h₁'=>zE (wpAny_mono h₁' (fun _ s₂ h₂=>zE (wpAny_mono h₂ (fun ok s₃ h₃ =>?_) fun _ _ h'=>h'.elim)) fun _ _ h'=>h'.elim)) fun _ _ h'=>h'.elim)
  cases ok with
  | false=>exact zW ⟨rfl,h₃⟩
  | true=>exact zE (zE (wpAny_mono h₃ (fun x s₄ h₄=>zE (wpAny_mono h₄ (fun _ s₅ h₅=>zW (zW ⟨rfl,h₅⟩)) fun _ _ h'=>h'.elim)) fun _ _ h'=>h'.elim))
end
noncomputable def GAg (own:List Nat) (g:TG):Prop:=∀ x σ H (Q:St→Hp→Prop),g x σ H Q→g x σ H fun σ2 H2=>(σ2.length=σ.length∧∀ i,i∉own→σ2[i]?=σ[i]?)∧Q σ2 H2
theorem ag_name (i:Nat):GAg [i] (gName i):=fun x σ H Q h=>⟨⟨by simp,fun j hj=>by
 have:i≠j:=fun e=>hj (by simp[e])
 rw[zK this]⟩,h⟩
theorem ag_two (K:Frag) (i j:Nat):GAg [i,j] (gTup K 2 (gCons (gName i) (gCons (gName j) gNil))):=by
 rintro x σ H Q ⟨a,xs,rfl,sq,hl,v,r,rfl,v2,r2,rfl,rfl,q⟩;refine⟨a,_,rfl,sq,hl,v,_,rfl,v2,_,rfl,rfl,⟨by simp,fun k hk =>?_⟩,q⟩
 have h1:i≠k:=fun e=>hk (by simp[e])
 have h2:j≠k:=fun e=>hk (by simp[e])
 rw[zK h2,zK h1]
noncomputable def PTs (X:Cx) (ifs:List Expr) (t:TT):Prop:=
 ∀ (pins:List (Addr×Obj)) (s:Shared) (σ:St) (H:Hp) (Q:Bool→Hp→Prop),Inv X pins σ H s→t σ H Q →
  wpAny (model X.prog X.w) X.A (forIn ifs true fun c r=>if r=true then do let ok ← isTrue c X.env (eval c X.env);pure (ForInStep.yield ok) else pure (ForInStep.yield r)) (TP X pins σ Q) X.xe s
noncomputable def tTrue:TT:=fun _ H Q=>Q true H
noncomputable section
variable {X:Cx}{c:Expr}{t:TT}
theorem pts_nil:PTs X [] tTrue:=fun pins s σ H Q I h=>wpAny_tests_nil ⟨H,I,h⟩
theorem pts_one (h:PT X c t):PTs X [c] t:=fun pins s σ H Q I q=>wpAny_tests_one (h pins s σ H Q I q)
end
noncomputable def tLc (wi:TI) (src:List (Option Nat)) (g:TG) (tt:TT) (te:TE):TE:=fun σ H Q=>wi σ H fun J H1=>∃ W:Nat→Nat→List V→Hp→Prop,(∃ m,W 0 m [] H1)∧∀ i m ys H,W i m ys H →
 (J.stop i H∧∀ D,H D=none→Q (.ref D) (upd H D (.lst ys))) ∨
 (J.go i H∧ys.length<sizeLine∧∃ Nx:List V→Hp→Prop,(∀ ys' H',Nx ys' H'→∃ m',m'<m∧W (i+1) m' ys' H')∧∀ x H',J.yld i H x H' →
  g x (srcσ src σ) H' fun σ2 H2=>tt σ2 H2 fun b H3=>if b=true then te σ2 H3 fun v H4=>Nx (ys++[v]) H4 else Nx ys H3)
noncomputable section
variable {X:Cx}{N:List Str}{src:List (Option Nat)}{scope:Scope}{tg iter elt:Expr}{ifs:List Expr}{wi:TI}{g:TG}{tt:TT}{te:TE}{pos:Pos}{own:List Nat}
theorem comp_core {σ:St}{H:Hp}{s:Shared}{pins:List (Addr×Obj)}{Q:VK}{RR:Value→Addr→Result→Shared→Prop}(S:BlkScope X N src scope) (hc:X.calm=true) (hi:PI X tg iter wi)
  (ag:GAg own g) (ho:∀ i∈own,src[i]?=some none)
  (hb:∀ C s H ex,PG (X.blk N scope C s H ex) tg g∧PTs (X.blk N scope C s H ex) ifs tt∧PE (X.blk N scope C s H ex) elt te)
  (I:Inv X pins σ H s) (h:tLc wi src g tt te σ H Q)
  (hRR:∀ (D C:Addr) (s':Shared) (H':Hp),Inv X pins σ H' s'→(∃ m,s'.heap.Ns C m)→H' C=none→C≠X.env.locals→(C∈X.ex∨X.s₀.heap.objs.size≤C)→(∀ x c,X.env.cells.lookup x=some c→c≠C)→(∀ p∈X.pn++pins,p.1≠C) →
   Q (.ref D) H'→RR (.ref D) C (.ok .next) s') :
  wpAny (model X.prog X.w) X.A (eval iter X.env) (fun x s₁=>wpAny (model X.prog X.w) X.A (pyIter x) (fun it s₂=>wpAny (model X.prog X.w) X.A (newList []) (fun acc s₃=>
   wpAny (model X.prog X.w) X.A (newFunctionEnv scope X.env.globals (cloOf X.env.cells scope.names []) [] X.env.qual none .none (some X.env)) (fun cenv s₄=>
    codeAny (model X.prog X.w) X.A (.compStart (.ListComp elt [⟨tg,iter,ifs,0⟩] scope pos) 0 it acc { cenv with scope:=relabel scope X.env }) (RR acc cenv.locals) s₄) X.xe s₃) X.xe s₂) X.xe s₁) X.xe s:=by
 refine thn (hi pins s σ H _ I h) fun v s1 h1=>thn h1 fun itv s2 h2 =>?_
 obtain⟨it,fp,tn,J,H2,e,I2,T,st2,f2,W,⟨m0,w0⟩,turn⟩:=h2;subst e;refine wpAny_newObj_type ?_;generalize hs3:s2.heap.push { cls :=.type "list",dict:=none,data :=.seq ([]:List Value).toArray }=h3;have sz3:h3.objs.size=s2.heap.objs.size+1:=by rw[← hs3,Heap.size_push]
 have k3:∀ b o,s2.heap.get? b=some o→h3.get? b=some o:=fun b o e=>hs3 ▸ zF _ e
 have d3:h3.get? s2.heap.objs.size=some (lobj [] 0):=hs3 ▸ zV _ rfl;refine newEnv_blk (X:=X) (s:={ s2 with heap:=h3 }) fun h4 k4 ns4 cs4 =>?_
 rw[show ({ s2 with heap:=h3 }:Shared).heap.objs.size=s2.heap.objs.size+1 from sz3] at ns4 cs4 ⊢
 have k4':∀ b o,s2.heap.get? b=some o→h4.get? b=some o:=fun b o e=>k4 b o (k3 b o e)
 have fob:∀ b∈fp,∃ o,s2.heap.get? b=some o:=fun b hb=>by obtain⟨o,e,_⟩:=T.obj _ _ st2 b hb;exact⟨o,e⟩
 have I4:=blk_start (ex:=fp) (h':=h4) (D:=s2.heap.objs.size) (C:=s2.heap.objs.size+1) (o:=lobj [] 0) S I2 f2 fob rfl rfl k4' (k4 _ _ d3) (fun v z=>by cases z) ns4 cs4
 have I4:Inv (X.blk N scope (s2.heap.objs.size+1) s2 H2 fp) (X.pn++pins++[(s2.heap.objs.size,lobj [] 0)]) (srcσ src σ) H2 { s2 with heap:=h4 }:=I4;generalize hX:X.blk N scope (s2.heap.objs.size+1) s2 H2 fp=X' at I4;obtain⟨pg,pt,pe⟩:=hb (s2.heap.objs.size+1) s2 H2 fp;rw[hX] at pg pt pe;have eprog:X'.prog=X.prog:=by rw[← hX];rfl
 have ew:X'.w=X.w:=by rw[← hX];rfl
 have eK:X'.K=X.K:=by rw[← hX];rfl
 have eA:X'.A=X.A:=by rw[← hX];rfl
 have ecalm:X'.calm=true:=by rw[← hX];exact hc
 have exe:X'.xe=fun _ _=>False:=by rw[← hX];rfl
 have eenv:X'.env=cenvOf X scope (s2.heap.objs.size+1):=by rw[← hX];rfl
 have epn:X'.pn=[]:=by rw[← hX];rfl
 have es0:X'.s₀=s2:=by rw[← hX];rfl
 have eH0:X'.H₀=H2:=by rw[← hX];rfl
 have eex:X'.ex=fp:=by rw[← hX];rfl
 have efs:X'.fs=frs X.stack:=by rw[← hX];rfl
 have hCl:X'.env.locals=s2.heap.objs.size+1:=by rw[eenv]
 have hDC:s2.heap.objs.size≠X'.env.locals:=by rw[hCl];exact zR (Nat.lt_succ_self _)
 have hDF:s2.heap.objs.size∉X'.fs:=by
  rw[efs];intro z;rcases zG.mp (I2.stkSub _ z) with q|q
  ·exact absurd (natEq q) (Nat.ne_of_gt (natLt I2.lt))
  ·exact I2.nofs (zL _) q
 have hpD:∀ p∈X'.pn++(X.pn++pins),p.1≠s2.heap.objs.size:=fun p hp=>by rw[epn,List.nil_append] at hp;exact zR (natLt (zJ (I2.pin p hp).1))
 have fpD:∀ b∈fp,b≠s2.heap.objs.size:=fun b hb=>by obtain⟨o,e⟩:=fob b hb;exact zR (natLt (zJ e))
 have stat:∀ {P':List (Addr×Obj)}{H':Hp},(∀ p∈P',p∈X.pn++pins∨p.1=s2.heap.objs.size)→(∀ b∈fp,H' b=none)→∀ b∈fp,FpOk X' P' H' b:=fun {P' H'} hP hn b hb=>by
  obtain⟨a1,a2,a3,a4,a5,a6⟩:=f2 b hb;obtain⟨o,e⟩:=fob b hb;have l:=natLt (zJ e);refine⟨hn b hb,?_,?_,.inl (by rw[eex];exact hb),fun x c q z =>?_,fun p hp z =>?_⟩
  ·rw[hCl];exact zR (Nat.lt_succ_of_lt l)
  ·rw[efs];intro z;rcases zG.mp (I2.stkSub b z) with q|q
   ·exact a2 q
   ·exact a3 q
  ·subst z;rw[eenv] at q;rcases blk_cell S I2.ok q with ⟨_,r⟩|⟨_,r⟩
   ·have:=natLe (cs4.empty _ _ r).2;omega
   ·exact a5 x c r rfl
  ·rw[epn,List.nil_append] at hp;rcases hP p hp with q|q
   ·exact a6 p q z
   ·exact fpD b hb (z.symm.trans q)
 have loop:codeAny (model X.prog X.w) X.A (.compLoop (.ListComp elt [⟨tg,iter,ifs,0⟩] scope pos) 0 (.ref it) (.ref s2.heap.objs.size) (cenvOf X scope (s2.heap.objs.size+1))) (RR (.ref s2.heap.objs.size) (s2.heap.objs.size+1)) { s2 with heap:=h4 }:=by
  refine compLoop_own (fun n s'=>∃ i ys its nn H',Inv X' (X.pn++pins++[(s2.heap.objs.size,lobj its nn)]) (srcσ src σ) H' s'∧Vals ys its∧ys.length≤sizeLine∧tn i s'.heap∧(∀ b∈fp,H' b=none)∧W i n ys H') ?_ m0
   ⟨0,[],[],0,H2,I4,.nil,Nat.zero_le _,T.keep _ _ _ st2 (fun b _ o e=>k4' b o e),fun b hb=>(f2 b hb).1,w0⟩
  rintro n s5 ⟨i,ys,its,nn,H5,I5,r5,z5,st5,fr5,w5⟩;have pok:∀ p∈X.pn++pins++[(s2.heap.objs.size,lobj its nn)],p∈X.pn++pins∨p.1=s2.heap.objs.size:=fun p hp=>by
   rcases zO.mp hp with q|q
   ·exact .inl q
   ·exact .inr (by rw[show p=(s2.heap.objs.size,lobj its nn) by simpa using q])
  rcases turn i n ys H5 w5 with ⟨stop,qn⟩|⟨go,lt5,Nx,hN,step⟩
  ·have d:=T.done X' eprog ew eK ecalm i _ s5 (srcσ src σ) H5 (fun _ _=>False) I5 (stat pok fr5) st5 stop
   rw[eA] at d;refine thn d fun r s6 hr6 =>?_
   obtain⟨hr,I6⟩:=hr6;subst hr;have I6':Inv X' (X.pn++pins) (srcσ src σ) (upd H5 s2.heap.objs.size (.lst ys)) s6:=I6.track r5 z5 (by rw[es0];exact zL _) hpD
   have hD5:H5 s2.heap.objs.size=none:=(I6.pin (s2.heap.objs.size,lobj its nn) (by simp)).2.1
   have Un6:=I6'.base;rw[efs,eex,eH0,es0] at Un6;have os6:=I6'.os;rw[es0] at os6;have hok6:=I6'.hok;rw[eprog,ew] at hok6;have J6:Inv X pins σ (upd H5 s2.heap.objs.size (.lst ys)) s6:=I2.call' os6 Un6 hok6 I6'.bare fun b hb=>⟨(f2 b hb).2.2.2.1,(f2 b hb).2.1,(f2 b hb).2.2.2.2.1,(f2 b hb).2.2.2.2.2⟩
   obtain⟨m,hm,_⟩:=I6'.loc;rw[hCl] at hm;have fC:=I6'.free;rw[hCl] at fC;refine hRR _ _ s6 _ J6 ⟨m,hm⟩ fC ?_ (.inr ?_) ?_ ?_ (qn _ hD5)
   ·exact fun z=>absurd (natEq z) (Nat.ne_of_gt (Nat.lt_succ_of_lt (natLt I2.lt)))
   ·exact Nat.le_succ_of_le I2.sz
   ·intro x c q z;obtain⟨v,cc⟩:=I2.cell x c q;have:=natLt cc.lt;have z:=natEq z;omega
   ·intro p hp z;have:=natLt (zJ (I2.pin p hp).1);have z:=natEq z;omega
  ·have d:=T.item X' eprog ew eK ecalm i _ s5 (srcσ src σ) H5 (fun _ _=>False) I5 (stat pok fr5) st5 go
   rw[eA] at d;refine thn d fun r s6 hr6 =>?_
   obtain⟨u,hr,h6⟩:=hr6;subst hr;refine thn h6 fun _ s7 h7 =>?_
   obtain⟨x,H7,I7,r7,y7,st7,fr7⟩:=h7;have I7':=I7.pinned (stat pok fr7) (T.obj _ _ st7);have g7:=pg _ s7 (srcσ src σ) H7 x u _ I7' r7 (ag _ _ _ _ (step x H7 y7));rw[eA,exe,eprog,ew,eenv] at g7;refine thn g7 fun _ s8 h8 =>?_
   obtain⟨σ8,H8,I8,⟨l8,a8⟩,q8⟩:=h8;have t8:=pt _ s8 σ8 H8 _ I8 q8;rw[eA,exe,eprog,ew,eenv] at t8;refine thn t8 fun ok s9 h9 =>?_
   obtain⟨H9,I9,q9⟩:=h9;have weak:∀ {P':List (Addr×Obj)}{H':Hp}{s':Shared},Inv X' P' σ8 H' s'→Inv X' P' (srcσ src σ) H' s':=fun J=>J.weak l8.symm fun j v hj=>by
    obtain⟨k,e1,_⟩:=srcσ_get hj;have:j∉own:=fun z=>by have:=ho j z;rw[e1] at this;cases this
    rw[a8 j this];exact hj
   cases ok with
   | false=>
    have q9:Nx ys H9:=q9;obtain⟨m',hm',w9⟩:=hN _ _ q9;refine⟨m',hm',i+1,ys,its,nn,H9,(weak I9).unpinned,r5,z5,T.keep _ _ _ st7 fun b hb o e=>(I9.pin (b,o) (zQ _ (zQ _ (mem_pinsAt hb e)))).1,fun b hb =>?_,w9⟩
    obtain⟨o,e,d⟩:=T.obj _ _ st7 b hb;exact(I9.pin (b,o) (zQ _ (zQ _ (mem_pinsAt hb e)))).2.1
   | true=>
    have q9:te σ8 H9 fun v H4=>Nx (ys++[v]) H4:=q9
    have e9:=pe _ s9 σ8 H9 _ I9 q9;rw[eA,exe,eprog,ew,eenv] at e9;refine thn e9 fun xv s10 h10 =>?_
    obtain⟨y,H10,I10,r10,q10⟩:=h10;have J10:Inv X' (X.pn++pins++pinsAt fp s7.heap++[(s2.heap.objs.size,lobj its nn)]) σ8 H10 s10:=I10.pins_of fun p hp=>by
     refine I10.pin p ?_;rw[epn,List.nil_append];rcases zO.mp hp with q|q
     ·rcases zO.mp q with q|q
      ·exact zU _ (zU _ q)
      ·exact zQ _ q
     ·exact zU _ (zQ _ q)
    have nD:∀ p∈X'.pn++(X.pn++pins++pinsAt fp s7.heap),p.1≠s2.heap.objs.size:=fun p hp=>by
     rw[epn,List.nil_append] at hp;rcases zO.mp hp with q|q
     ·exact hpD p (by rw[epn,List.nil_append];exact q)
     ·exact fpD _ (of_pinsAt q).1
    have hD10:H10 s2.heap.objs.size=none:=(J10.pin (s2.heap.objs.size,lobj its nn) (by simp)).2.1
    have T10:=J10.track r5 z5 (by rw[es0];exact zL _) nD
    have ap:=mt_append (X:=X') _ s10 σ8 _ (.ref s2.heap.objs.size) [y] (.ref s2.heap.objs.size) [xv] (fun v H'=>v=.non∧H'=upd (upd H10 s2.heap.objs.size (.lst ys)) s2.heap.objs.size (.lst (ys++[y]))) T10 rfl (.cons r10 .nil) ⟨_,ys,y,rfl,rfl,upd_same,lt5,rfl,rfl⟩
    rw[eA,exe,eprog,ew] at ap;refine thn ap fun _ s11 h11 =>?_
    obtain⟨v11,H11,I11,_,_,e11⟩:=h11;subst e11;rw[upd_upd] at I11;obtain⟨its',nn',r11,z11,I12⟩:=I11.untrack hD10 hDC hDF;obtain⟨m',hm',w11⟩:=hN _ _ q10;have I13:Inv X' (X.pn++pins++[(s2.heap.objs.size,lobj its' nn')]) (srcσ src σ) H10 s11:=(weak I12).pins_of fun p hp=>by
     refine I12.pin p ?_;rw[epn,List.nil_append];rcases zO.mp hp with q|q
     ·exact zU _ (zU _ q)
     ·exact zQ _ q
    have pinI:∀ b∈fp,∀ o,s7.heap.get? b=some o→s11.heap.get? b=some o∧H10 b=none:=fun b hb o e=>by
     have:=I12.pin (b,o) (by rw[epn,List.nil_append];exact zU _ (zQ _ (mem_pinsAt hb e)))
     exact⟨this.1,this.2.1⟩
    refine⟨m',hm',i+1,ys++[y],its',nn',H10,I13,r11,z11,T.keep _ _ _ st7 fun b hb o e=>(pinI b hb o e).1,fun b hb =>?_,w11⟩
    obtain⟨o,e,d⟩:=T.obj _ _ st7 b hb;exact(pinI b hb o e).2
 have st4:tn 0 h4:=T.keep _ _ _ st2 fun b _ o e=>k4' b o e
 exact codeAny_compStart_list loop (T.self _ 0 _ _ _ st4 loop)
end
end L2
end
noncomputable section
namespace L2
open PySem PySem.Spec PyProof.Rows
noncomputable section
variable {X:Cx}{N:List Str}{src:List (Option Nat)}{scope:Scope}{tg iter elt:Expr}{ifs:List Expr}{wi:TI}{g:TG}{tt:TT}{te:TE}{pos:Pos}{own:List Nat}
theorem blk_clos {pins:List (Addr×Obj)}{σ:St}{H:Hp}{s:Shared}(S:BlkScope X N src scope) (I:Inv X pins σ H s):closureFor scope X.env=pure (cloOf X.env.cells scope.names []):=
 closureFor_of fun y hy hk=>I.ok.has y.1 (S.free y hy hk)
theorem pe_lc (S:BlkScope X N src scope) (hc:X.calm=true) (hi:PI X tg iter wi) (ag:GAg own g) (ho:∀ i∈own,src[i]?=some none)
  (hb:∀ C s H ex,PG (X.blk N scope C s H ex) tg g∧PTs (X.blk N scope C s H ex) ifs tt∧PE (X.blk N scope C s H ex) elt te)
  (hs:∀ x,foldedSetIterable iter X.env x=pure x:=by intro _;rfl):PE X (.ListComp elt [⟨tg,iter,ifs,0⟩] scope pos) (tLc wi src g tt te):=by
 intro pins s σ H Q I h;rw[eval_ListComp];refine wpAny_comprehension_free (use:=none) rfl hs (blk_clos S I) S.kind (fun x hx hl=>by rw[S.uniq x hx,hl]) ?_
 refine comp_core (RR:=fun acc C=>compPost (model X.prog X.w) X.A X.xe none (EP X pins σ Q) acc C) S hc hi ag ho hb I h ?_
 intro D C s' H' J hm hn hL h1 h2 h3 q;obtain⟨m,hm⟩:=hm;exact⟨m,hm,fun h' hs'=>⟨.ref D,H',J.turned (h':=h') (t':=s'.toks) (fun b o hb e=>hs'.extBut b o hb e) hn hL h1 h2 h3,rfl,q⟩⟩
theorem ps_lcset {i:Nat}{y:Str}{spos py:Pos}(S:BlkScope X N src scope) (hc:X.calm=true) (hN:X.N.Nodup) (hy:X.N[i]?=some y) (hl:X.env.scope.names.lookup y=some .local) (hi:PI X tg iter wi) (ag:GAg own g) (ho:∀ i∈own,src[i]?=some none)
  (hb:∀ C s H ex,PG (X.blk N scope C s H ex) tg g∧PTs (X.blk N scope C s H ex) ifs tt∧PE (X.blk N scope C s H ex) elt te)
  (hsw:swapsWith (.ListComp elt [⟨tg,iter,ifs,0⟩] scope pos) (some (.Name y py)) spos.line X.env=pure true)
  (hs:∀ x,foldedSetIterable iter X.env x=pure x:=by intro _;rfl) :
  PS X (.Assign [.Name y py] (.ListComp elt [⟨tg,iter,ifs,0⟩] scope pos) spos) (tAsg (tLc wi src g tt te) (gName i)):=by
 intro pins s σ H D I h;have h:tLc wi src g tt te σ H fun v H1=>D.nx (σ.set i (some v)) H1:=h
 rw[exec_Assign_Name_used _ _ _ _ hsw];refine zE (wpAny_standAt (zE ?_));show wpAny _ X.A (do let _ ← comprehension (.ListComp elt [⟨tg,iter,ifs,0⟩] scope pos) scope X.env _ (newList []) false (eval iter X.env) (some (assign (.Name y py) X.env))) _ _ s;refine zE (wpAny_mono (wpAny_comprehension_free (use:=some (assign (.Name y py) X.env)) (Q:=fun _ s'=>SP X pins D .next s') rfl hs (blk_clos S I) S.kind (fun x hx hl=>by rw[S.uniq x hx,hl])
  (comp_core (RR:=fun acc C=>compPost (model X.prog X.w) X.A X.xe (some (assign (.Name y py) X.env)) (fun _ s'=>SP X pins D .next s') acc C) S hc hi ag ho hb I h ?_))
  (fun _ s' hq=>zW (zW hq)) fun _ _ e=>e)
 intro d C s' H' J hm hn hL h1 h2 h3 q;obtain⟨m,hm⟩:=hm;refine wpAny_assign_Name (store_ok2 J hN hy (.inl hl) (v :=.ref d) rfl (fun s'' J' hs'' =>?_) (.inr hl))
 obtain⟨a,sb,ha⟩:=hs'';have hCa:C≠a:=by
  rcases ha with z|z
  ·rw[z];exact hL
  ·exact fun e=>h2 _ _ z e.symm
 exact⟨m,hm.sameBut sb hCa,fun h' hs'=>⟨_,H',J'.turned (h':=h') (t':=s''.toks) (fun b o hb e=>hs'.extBut b o hb e) hn hL h1 h2 h3,q⟩⟩
end
end L2
end
noncomputable section
namespace L2
open PySem PySem.Spec PyProof.Rows
inductive D where
 | non|bl (b:Bool)|int (i:Int)|str (x:Str)|lst (xs:List D)|tup (xs:List D)|scr (ns:List Int)
 | ins (c:Str) (ks:List Str) (ds:List D)
mutual
noncomputable def Rep (K:Frag) (G:Hp):D→V→Prop
 | .non,v=>v=.non
 | .bl b,v=>v=.bl b
 | .int i,v=>v=.int i
 | .str x,v=>v=.str x
 | .lst ds,v=>∃ a vs,v=.ref a∧G a=some (.lst vs)∧Reps K G ds vs
 | .tup ds,v=>∃ a vs,v=.ref a∧G a=some (.tup vs)∧Reps K G ds vs
 | .scr ns,v=>∃ a,v=.ref a∧SqL K G a (ns.map V.int)
 | .ins c ks ds,v=>∃ a C dx vs,v=.ref a∧nsIn K mainGlobals c=some (some (.ref C))∧G a=some (.ins C dx (ks.zip vs))∧ks.length=ds.length∧Reps K G ds vs
noncomputable def Reps (K:Frag) (G:Hp):List D→List V→Prop
 | [],vs=>vs=[]
 | d::ds,vs=>∃ v r,vs=v::r∧Rep K G d v∧Reps K G ds r
end
mutual
theorem Rep.mono {K:Frag}{G G':Hp}(s:Same G G'):∀ (d:D){v:V},Rep K G d v→Rep K G' d v
 | .non,v,h=>by simpa only [Rep] using h
 | .bl _,v,h=>by simpa only [Rep] using h
 | .int _,v,h=>by simpa only [Rep] using h
 | .str _,v,h=>by simpa only [Rep] using h
 | .lst ds,v,h=>by simp only[Rep] at h ⊢;obtain⟨a,vs,e,q,r⟩:=h;exact⟨a,vs,e,s _ _ q,Reps.mono s ds r⟩
 | .tup ds,v,h=>by simp only[Rep] at h ⊢;obtain⟨a,vs,e,q,r⟩:=h;exact⟨a,vs,e,s _ _ q,Reps.mono s ds r⟩
 | .scr ns,v,h=>by simp only[Rep] at h ⊢;obtain⟨a,e,q⟩:=h;exact⟨a,e,s.seq q⟩
 | .ins c ks ds,v,h=>by simp only[Rep] at h ⊢;obtain⟨a,C,dx,vs,e,n,q,l,r⟩:=h;exact⟨a,C,dx,vs,e,n,s _ _ q,l,Reps.mono s ds r⟩
theorem Reps.mono {K:Frag}{G G':Hp}(s:Same G G'):∀ (ds:List D){vs:List V},Reps K G ds vs→Reps K G' ds vs
 | [],vs,h=>by simpa only [Reps] using h
 | d::ds,vs,h=>by simp only[Reps] at h ⊢;obtain⟨v,r,e,q,t⟩:=h;exact⟨v,r,e,Rep.mono s d q,Reps.mono s ds t⟩
end
noncomputable section
variable {K:Frag}{G:Hp}
theorem rep_non {v:V}:Rep K G .non v↔v=.non:=by simp only[Rep]
theorem rep_bl {b:Bool}{v:V}:Rep K G (.bl b) v↔v=.bl b:=by simp only[Rep]
theorem rep_int {i:Int}{v:V}:Rep K G (.int i) v↔v=.int i:=by simp only[Rep]
theorem rep_str {x:Str}{v:V}:Rep K G (.str x) v↔v=.str x:=by simp only[Rep]
theorem rep_lst {ds:List D}{v:V}:Rep K G (.lst ds) v↔∃ a vs,v=.ref a∧G a=some (.lst vs)∧Reps K G ds vs:=by simp only[Rep]
theorem rep_tup {ds:List D}{v:V}:Rep K G (.tup ds) v↔∃ a vs,v=.ref a∧G a=some (.tup vs)∧Reps K G ds vs:=by simp only[Rep]
theorem rep_scr {ns:List Int}{v:V}:Rep K G (.scr ns) v↔∃ a,v=.ref a∧SqL K G a (ns.map V.int):=by simp only[Rep]
theorem rep_ins {c:Str}{ks:List Str}{ds:List D}{v:V}:Rep K G (.ins c ks ds) v↔∃ a C dx vs,v=.ref a∧nsIn K mainGlobals c=some (some (.ref C))∧G a=some (.ins C dx (ks.zip vs))∧ks.length=ds.length∧Reps K G ds vs:=by simp only[Rep]
theorem reps_nil {vs:List V}:Reps K G [] vs↔vs=[]:=by simp only[Reps]
theorem reps_cons {d:D}{ds:List D}{vs:List V}:Reps K G (d::ds) vs↔∃ v r,vs=v::r∧Rep K G d v∧Reps K G ds r:=by simp only[Reps]
theorem Reps.cons {d:D}{ds:List D}{v:V}{vs:List V}(h:Rep K G d v) (t:Reps K G ds vs):Reps K G (d::ds) (v::vs):=reps_cons.mpr ⟨v,vs,rfl,h,t⟩
theorem Reps.nil:Reps K G [] []:=reps_nil.mpr rfl
theorem Reps.length:∀ {ds:List D}{vs:List V},Reps K G ds vs→ds.length=vs.length
 | [],vs,h=>by rw[reps_nil.mp h];rfl
 | d::ds,vs,h=>by obtain⟨v,r,rfl,_,t⟩:=reps_cons.mp h;simp[Reps.length t]
theorem Reps.get:∀ {ds:List D}{vs:List V}{i:Nat}{d:D},Reps K G ds vs→ds[i]?=some d→∃ v,vs[i]?=some v∧Rep K G d v
 | [],vs,i,d,h,e=>by simp at e
 | c::ds,vs,0,d,h,e=>by obtain⟨v,r,rfl,q,t⟩:=reps_cons.mp h;simp at e;subst e;exact⟨v,rfl,q⟩
 | c::ds,vs,i+1,d,h,e=>by
  obtain⟨v,r,rfl,q,t⟩:=reps_cons.mp h;obtain⟨u,h1,h2⟩:=Reps.get (i:=i) t (by simpa using e)
  exact⟨u,by simpa using h1,h2⟩
theorem Reps.getV:∀ {ds:List D}{vs:List V}{i:Nat}{v:V},Reps K G ds vs→vs[i]?=some v→∃ d,ds[i]?=some d∧Rep K G d v:=fun {ds vs i v} h e=>by
 have hl:=h.length;have hi:i<ds.length:=by rw[hl];exact(zC.mp e).1
 obtain⟨u,h1,h2⟩:=h.get (zI hi);rw[e] at h1;cases h1;exact⟨_,zI hi,h2⟩
theorem Reps.append:∀ {ds es:List D}{vs us:List V},Reps K G ds vs→Reps K G es us→Reps K G (ds++es) (vs++us)
 | [],es,vs,us,h,k=>by rw[reps_nil.mp h];exact k
 | d::ds,es,vs,us,h,k=>by obtain⟨v,r,rfl,q,t⟩:=reps_cons.mp h;exact .cons q (Reps.append t k)
theorem Reps.take:∀ {ds:List D}{vs:List V}(n:Nat),Reps K G ds vs→Reps K G (ds.take n) (vs.take n)
 | [],vs,n,h=>by rw[reps_nil.mp h];simp;exact .nil
 | d::ds,vs,0,h=>by simp;exact .nil
 | d::ds,vs,n+1,h=>by obtain⟨v,r,rfl,q,t⟩:=reps_cons.mp h;exact .cons q (Reps.take n t)
theorem Reps.drop:∀ {ds:List D}{vs:List V}(n:Nat),Reps K G ds vs→Reps K G (ds.drop n) (vs.drop n)
 | [],vs,n,h=>by rw[reps_nil.mp h];simp;exact .nil
 | d::ds,vs,0,h=>by simpa using h
 | d::ds,vs,n+1,h=>by obtain⟨v,r,rfl,q,t⟩:=reps_cons.mp h;exact Reps.drop n t
theorem Reps.set:∀ {ds:List D}{vs:List V}{d:D}{v:V}(n:Nat),Reps K G ds vs→Rep K G d v→Reps K G (ds.set n d) (vs.set n v)
 | [],vs,d,v,n,h,q=>by rw[reps_nil.mp h];simp;exact .nil
 | c::ds,vs,d,v,0,h,q=>by obtain⟨u,r,rfl,_,t⟩:=reps_cons.mp h;exact .cons q t
 | c::ds,vs,d,v,n+1,h,q=>by obtain⟨u,r,rfl,p,t⟩:=reps_cons.mp h;exact .cons p (Reps.set n t q)
theorem Reps.reverse:∀ {ds:List D}{vs:List V},Reps K G ds vs→Reps K G ds.reverse vs.reverse
 | [],vs,h=>by rw[reps_nil.mp h];exact .nil
 | d::ds,vs,h=>by obtain⟨v,r,rfl,q,t⟩:=reps_cons.mp h;rw[List.reverse_cons,List.reverse_cons];exact(Reps.reverse t).append (.cons q .nil)
theorem Reps.dropLast {ds:List D}{vs:List V}(h:Reps K G ds vs):Reps K G ds.dropLast vs.dropLast:=by
 rw[List.dropLast_eq_take,List.dropLast_eq_take,h.length];exact h.take _
theorem Reps.rep {ds:List D}{vs:List V}(h:Reps K G ds vs):∀ k:Nat,Reps K G (List.replicate k ds).flatten (List.replicate k vs).flatten
 | 0 =>.nil
 | k+1=>by rw[List.replicate_succ,List.replicate_succ,List.flatten_cons,List.flatten_cons];exact h.append (Reps.rep h k)
theorem Reps.ints:∀ (ns:List Int),Reps K G (ns.map D.int) (ns.map V.int)
 | [] =>.nil
 | n::ns =>.cons (rep_int.mpr rfl) (Reps.ints ns)
end
structure Ext (G H G' H':Hp):Prop where
 hh:Same H H'
 gg:Same G G'
 gh:Same G' H'
 fr:∀ b o,G' b=some o→G b=some o∨H b=none
theorem Ext.refl {G H:Hp}(s:Same G H):Ext G H G H:=⟨Same.refl _,Same.refl _,s,fun _ _ e =>.inl e⟩
theorem Ext.trans {G H G1 H1 G2 H2:Hp}(a:Ext G H G1 H1) (b:Ext G1 H1 G2 H2):Ext G H G2 H2:=
 ⟨a.hh.trans b.hh,a.gg.trans b.gg,b.gh,fun c o e=>by
  rcases b.fr c o e with q|q
  ·exact a.fr c o q
  ·exact .inr (a.hh.free q)⟩
theorem Same.alloc {H:Hp}{p:Addr}{o:HO}(h:H p=none):Same H (upd H p o):=fun b u e=>by rw[upd_ne (ne_of_none e h)];exact e
theorem Same.both {G H:Hp}{p:Addr}{o:HO}(s:Same G H):Same (upd G p o) (upd H p o):=fun b u e=>by
 by_cases hb:b=p
 ·subst hb;rw[upd_same] at e ⊢;exact e
 ·rw[upd_ne hb] at e ⊢;exact s _ _ e
theorem Ext.alloc {G H:Hp}{p:Addr}{o:HO}(s:Same G H) (h:H p=none):Ext G H (upd G p o) (upd H p o):=
 ⟨.alloc h,.alloc (s.free h),s.both,fun b u e=>by
  by_cases hb:b=p
  ·subst hb;exact .inr h
  ·rw[upd_ne hb] at e;exact .inl e⟩
theorem Ext.lay {G H:Hp}{p:Addr}{o:HO}(s:Same G H) (h:H p=none):Ext G H G (upd H p o):=
 ⟨.alloc h,Same.refl _,s.trans (.alloc h),fun _ _ e =>.inl e⟩
theorem Ext.freeze {G H G' H':Hp}{p:Addr}{o:HO}(E:Ext G H G' H') (h:H p=none) (g:G' p=none) (e:H' p=some o):Ext G H (upd G' p o) H':=
 ⟨E.hh,E.gg.trans (.alloc g),fun b u q=>by
  by_cases hb:b=p
  ·subst hb;rw[upd_same] at q;cases q;exact e
  ·rw[upd_ne hb] at q;exact E.gh _ _ q,fun b u q=>by
  by_cases hb:b=p
  ·subst hb;exact .inr h
  ·rw[upd_ne hb] at q;exact E.fr _ _ q⟩
noncomputable def RepO (K:Frag) (G H:Hp) (d:D) (v:V):Prop:=Rep K G d v∨∃ a vs ds,d=.lst ds∧v=.ref a∧H a=some (.lst vs)∧Reps K G ds vs
noncomputable section
variable {K:Frag}{G H G' H':Hp}
theorem RepO.ext {d:D}{v:V}(r:RepO K G H d v) (E:Ext G H G' H'):RepO K G' H' d v:=by
 rcases r with r|⟨a,vs,ds,e1,e2,e3,e4⟩
 ·exact .inl (Rep.mono E.gg d r)
 ·exact .inr ⟨a,vs,ds,e1,e2,E.hh _ _ e3,Reps.mono E.gg ds e4⟩
theorem RepO.non {v:V}(r:RepO K G H .non v):v=.non:=by
 rcases r with r|⟨a,vs,ds,e1,_⟩
 ·exact rep_non.mp r
 ·cases e1
theorem RepO.bl {b:Bool}{v:V}(r:RepO K G H (.bl b) v):v=.bl b:=by
 rcases r with r|⟨a,vs,ds,e1,_⟩
 ·exact rep_bl.mp r
 ·cases e1
theorem RepO.int {i:Int}{v:V}(r:RepO K G H (.int i) v):v=.int i:=by
 rcases r with r|⟨a,vs,ds,e1,_⟩
 ·exact rep_int.mp r
 ·cases e1
theorem RepO.str {x:Str}{v:V}(r:RepO K G H (.str x) v):v=.str x:=by
 rcases r with r|⟨a,vs,ds,e1,_⟩
 ·exact rep_str.mp r
 ·cases e1
theorem RepO.lst {ds:List D}{v:V}(s:Same G H) (r:RepO K G H (.lst ds) v):∃ a vs,v=.ref a∧H a=some (.lst vs)∧Reps K G ds vs:=by
 rcases r with r|⟨a,vs,ds',e1,e2,e3,e4⟩
 ·obtain⟨a,vs,e,q,t⟩:=rep_lst.mp r;exact⟨a,vs,e,s _ _ q,t⟩
 ·cases e1;exact⟨a,vs,e2,e3,e4⟩
theorem RepO.tup {ds:List D}{v:V}(s:Same G H) (r:RepO K G H (.tup ds) v):∃ a vs,v=.ref a∧H a=some (.tup vs)∧Reps K G ds vs:=by
 rcases r with r|⟨a,vs,ds',e1,e2,e3,e4⟩
 ·obtain⟨a,vs,e,q,t⟩:=rep_tup.mp r;exact⟨a,vs,e,s _ _ q,t⟩
 ·cases e1
theorem RepO.scr {ns:List Int}{v:V}(s:Same G H) (r:RepO K G H (.scr ns) v):∃ a,v=.ref a∧SqL K H a (ns.map V.int):=by
 rcases r with r|⟨a,vs,ds',e1,e2,e3,e4⟩
 ·obtain⟨a,e,q⟩:=rep_scr.mp r;exact⟨a,e,s.seq q⟩
 ·cases e1
theorem RepO.ins {c:Str}{ks:List Str}{ds:List D}{v:V}(r:RepO K G H (.ins c ks ds) v):∃ a,v=.ref a:=by
 rcases r with r|⟨a,vs,ds',e1,e2,e3,e4⟩
 ·obtain⟨a,C,dx,vs,e,_⟩:=rep_ins.mp r;exact⟨a,e⟩
 ·cases e1
theorem RepO.all {d:D}{v:V}(s:Same G H) (r:RepO K G H d v):Rep K H d v:=by
 rcases r with r|⟨a,vs,ds,e1,e2,e3,e4⟩
 ·exact Rep.mono s d r
 ·subst e1;exact rep_lst.mpr ⟨a,vs,e2,e3,Reps.mono s ds e4⟩
end
noncomputable abbrev DEnv:=List (Option D)
noncomputable abbrev DF:=DEnv→Option D
noncomputable abbrev DT:=DEnv→Option Bool
noncomputable abbrev DL:=DEnv→Option (List D)
structure EnvR (K:Frag) (own:List Nat) (G H:Hp) (σ:St) (ρ:DEnv):Prop where
 len:σ.length=ρ.length
 get:∀ (i:Nat) (d:D),ρ[i]?=some (some d)→∃ v,σ[i]?=some (some v)∧(if i∈own then RepO K G H d v else Rep K G d v)
theorem EnvR.ext {K:Frag}{own:List Nat}{G H G' H':Hp}{σ:St}{ρ:DEnv}(h:EnvR K own G H σ ρ) (E:Ext G H G' H'):EnvR K own G' H' σ ρ:=⟨h.len,fun i d e=>by
 obtain⟨v,q,r⟩:=h.get i d e;refine⟨v,q,?_⟩;by_cases hi:i∈own
 ·rw[if_pos hi] at r ⊢;exact r.ext E
 ·rw[if_neg hi] at r ⊢;exact Rep.mono E.gg d r⟩
noncomputable def tP (K:Frag) (own:List Nat) (f:DF):TE:=fun σ H Q=>∃ G ρ d,Same G H∧EnvR K own G H σ ρ∧f ρ=some d∧∀ v G' H',Ext G H G' H'→Rep K G' d v→Q v H'
noncomputable def tQ (K:Frag) (own:List Nat) (f:DF):TE:=fun σ H Q=>∃ G ρ d,Same G H∧EnvR K own G H σ ρ∧f ρ=some d∧∀ v G' H',Ext G H G' H'→RepO K G' H' d v→Q v H'
noncomputable def tF (K:Frag) (own:List Nat) (f:DL):TE:=fun σ H Q=>∃ G ρ ds,Same G H∧EnvR K own G H σ ρ∧f ρ=some ds∧∀ p vs G' H',Ext G H G' H'→H p=none→G' p=none→H' p=some (.lst vs)→Reps K G' ds vs→Q (.ref p) H'
noncomputable def tPT (K:Frag) (own:List Nat) (f:DT):TT:=fun σ H Q=>∃ G ρ b,Same G H∧EnvR K own G H σ ρ∧f ρ=some b∧∀ G' H',Ext G H G' H'→Q b H'
noncomputable def tPA (K:Frag) (own:List Nat) (f:DL):TA:=fun σ H Q=>∃ G ρ ds,Same G H∧EnvR K own G H σ ρ∧f ρ=some ds∧∀ vs G' H',Ext G H G' H'→Reps K G' ds vs→Q vs H'
noncomputable def RepsO (K:Frag) (G H:Hp):List D→List V→Prop:=Paired (RepO K G H)
noncomputable def tQA (K:Frag) (own:List Nat) (f:DL):TA:=fun σ H Q=>∃ G ρ ds,Same G H∧EnvR K own G H σ ρ∧f ρ=some ds∧∀ vs G' H',Ext G H G' H'→RepsO K G' H' ds vs→Q vs H'
noncomputable section
variable {X:Cx}
theorem PE.imp {e:Expr}{t t':TE}(h:PE X e t) (k:∀ σ H Q,t' σ H Q→t σ H Q):PE X e t':=fun pins s σ H Q I q=>h pins s σ H Q I (k _ _ _ q)
theorem PT.imp {e:Expr}{t t':TT}(h:PT X e t) (k:∀ σ H Q,t' σ H Q→t σ H Q):PT X e t':=fun pins s σ H Q I q=>h pins s σ H Q I (k _ _ _ q)
theorem PW.imp {e:Expr}{t t':TT}(h:PW X e t) (k:∀ σ H Q,t' σ H Q→t σ H Q):PW X e t':=fun w pins s σ H Q I q=>h w pins s σ H Q I (k _ _ _ q)
theorem PA.imp {e:List Expr}{t t':TA}(h:PA X e t) (k:∀ σ H Q,t' σ H Q→t σ H Q):PA X e t':=fun pos pins s σ H Q I q=>h pos pins s σ H Q I (k _ _ _ q)
theorem PS.imp {e:Stmt}{t t':TS}(h:PS X e t) (k:∀ D σ H,t' D σ H→t D σ H):PS X e t':=fun pins s σ H D I q=>h pins s σ H D I (k _ _ _ q)
theorem PSs.imp {e:List Stmt}{t t':TS}(h:PSs X e t) (k:∀ D σ H,t' D σ H→t D σ H):PSs X e t':=fun pins s σ H D I q=>h pins s σ H D I (k _ _ _ q)
theorem OpR.imp {f:Value→Value→Sem Value}{r r':R2}(h:OpR X f r) (k:∀ x y H Q,r' x y H Q→r x y H Q):OpR X f r':=fun pins s σ H x y v u Q I rx ry q=>h pins s σ H x y v u Q I rx ry (k _ _ _ _ q)
variable {own:List Nat}{e:Expr}
theorem dq {f:DF}(h:PE X e (tP X.K own f)):PE X e (tQ X.K own f):=h.imp fun σ H Q ⟨G,ρ,d,gh,env,eq,k⟩=>⟨G,ρ,d,gh,env,eq,fun v G' H' E r=>k v G' H' E (.inl r)⟩
noncomputable def eF (f:DL):DF:=fun ρ=>(f ρ).map D.lst
theorem df {f:DL}(h:PE X e (tF X.K own f)):PE X e (tP X.K own (eF f)):=h.imp fun σ H Q ⟨G,ρ,d,gh,env,eq,k⟩=>by
 cases hf:f ρ with
 | none=>simp[eF,hf] at eq
 | some ds=>
  have:d=.lst ds:=by simpa [eF,hf] using eq.symm
  subst this;refine⟨G,ρ,ds,gh,env,hf,fun p vs G' H' E hp gp hv r=>k _ (upd G' p (.lst vs)) H' (E.freeze hp gp hv) ?_⟩
  exact rep_lst.mpr ⟨p,vs,rfl,upd_same,Reps.mono (.alloc gp) ds r⟩
noncomputable def eV (i:Nat):DF:=fun ρ=>(ρ[i]?).join
noncomputable def eK (d:D):DF:=fun _=>some d
theorem eV_some {i:Nat}{ρ:DEnv}{d:D}(h:eV i ρ=some d):ρ[i]?=some (some d):=by
 unfold eV at h;cases e:ρ[i]? with
 | none=>rw[e] at h;cases h
 | some o=>rw[e] at h;cases o with
  | none=>cases h
  | some c=>rw[show c=d from yA h]
theorem dv {i:Nat}{x:Str}{pos:Pos}(h:PE X (.Name x pos) (tVar i)) (hi:i∉own:=by decide):PE X (.Name x pos) (tP X.K own (eV i)):=h.imp fun σ H Q ⟨G,ρ,d,gh,env,eq,k⟩=>by
 obtain⟨v,q,r⟩:=env.get i d (eV_some eq);rw[if_neg hi] at r;exact⟨v,q,k v G H (.refl gh) r⟩
theorem dvo {i:Nat}{x:Str}{pos:Pos}(h:PE X (.Name x pos) (tVar i)) (hi:i∈own:=by decide):PE X (.Name x pos) (tQ X.K own (eV i)):=h.imp fun σ H Q ⟨G,ρ,d,gh,env,eq,k⟩=>by
 obtain⟨v,q,r⟩:=env.get i d (eV_some eq);rw[if_pos hi] at r;exact⟨v,q,k v G H (.refl gh) r⟩
theorem de_int {i j pos}:PE X (.Constant (.int i) j pos) (tP X.K own (eK (.int i))):=pe_int.imp fun σ H Q ⟨G,ρ,d,gh,env,eq,k⟩=>by
 cases eq;exact k _ G H (.refl gh) (rep_int.mpr rfl)
theorem de_bl {b j pos}:PE X (.Constant (.bool b) j pos) (tP X.K own (eK (.bl b))):=pe_bl.imp fun σ H Q ⟨G,ρ,d,gh,env,eq,k⟩=>by
 cases eq;exact k _ G H (.refl gh) (rep_bl.mpr rfl)
theorem de_non {j pos}:PE X (.Constant .none j pos) (tP X.K own (eK .non)):=pe_non.imp fun σ H Q ⟨G,ρ,d,gh,env,eq,k⟩=>by
 cases eq;exact k _ G H (.refl gh) (rep_non.mpr rfl)
theorem de_str {x j pos}:PE X (.Constant (.str x) j pos) (tP X.K own (eK (.str x))):=pe_str.imp fun σ H Q ⟨G,ρ,d,gh,env,eq,k⟩=>by
 cases eq;exact k _ G H (.refl gh) (rep_str.mpr rfl)
noncomputable def aN:DL:=fun _=>some []
noncomputable def aC (f:DF) (g:DL):DL:=fun ρ=>(f ρ).bind fun x=>(g ρ).bind fun xs=>some (x::xs)
theorem aC_some {f:DF}{g:DL}{ρ:DEnv}{ds:List D}(h:aC f g ρ=some ds):∃ x xs,f ρ=some x∧g ρ=some xs∧ds=x::xs:=by
 unfold aC at h;cases ef:f ρ with
 | none=>rw[ef] at h;cases h
 | some x=>
  rw[ef] at h;cases eg:g ρ with
  | none=>rw[eg] at h;cases h
  | some xs=>rw[eg] at h;exact⟨x,xs,rfl,rfl,(yA h).symm⟩
variable {es:List Expr}
theorem da_nil:PA X [] (tPA X.K own aN):=pa_nil.imp fun σ H Q ⟨G,ρ,d,gh,env,eq,k⟩=>by
 cases eq;exact k _ G H (.refl gh) .nil
theorem da_cons {f:DF}{g:DL}(h:PE X e (tP X.K own f)) (t:PA X es (tPA X.K own g)) (hs:starEach (e::es) X.env=(false,eval e X.env)::starEach es X.env:=by rfl):PA X (e::es) (tPA X.K own (aC f g)):=
 (pa_cons h t hs).imp fun σ H Q ⟨G,ρ,d,gh,env,eq,k⟩=>by obtain⟨x,xs,ex,exs,rfl⟩:=aC_some eq;refine⟨G,ρ,x,gh,env,ex,fun v G1 H1 E1 r1=>⟨G1,ρ,xs,E1.gh,env.ext E1,exs,fun vs G2 H2 E2 r2=>k _ G2 H2 (E1.trans E2) (.cons (Rep.mono E2.gg x r1) r2)⟩⟩
theorem dqa_nil:PA X [] (tQA X.K own aN):=pa_nil.imp fun σ H Q ⟨G,ρ,d,gh,env,eq,k⟩=>by
 cases eq;exact k _ G H (.refl gh) .nil
theorem dqa_cons {f:DF}{g:DL}(h:PE X e (tQ X.K own f)) (t:PA X es (tQA X.K own g)) (hs:starEach (e::es) X.env=(false,eval e X.env)::starEach es X.env:=by rfl):PA X (e::es) (tQA X.K own (aC f g)):=
 (pa_cons h t hs).imp fun σ H Q ⟨G,ρ,d,gh,env,eq,k⟩=>by obtain⟨x,xs,ex,exs,rfl⟩:=aC_some eq;refine⟨G,ρ,x,gh,env,ex,fun v G1 H1 E1 r1=>⟨G1,ρ,xs,E1.gh,env.ext E1,exs,fun vs G2 H2 E2 r2=>k _ G2 H2 (E1.trans E2) (.cons (r1.ext E2) r2)⟩⟩
noncomputable def eTup (g:DL):DF:=fun ρ=>(g ρ).bind fun xs=>if xs.length≤1000 then some (.tup xs) else none
theorem line1000:1000≤sizeLine:=by rw[sizeLine_eq];decide
theorem de_tup {x1 pos} {g:DL}(h:PA X es (tPA X.K own g)):PE X (.Tuple es x1 pos) (tP X.K own (eTup g)):=(pe_tup h).imp fun σ H Q ⟨G,ρ,d,gh,env,eq,k⟩=>by
 unfold eTup at eq;cases eg:g ρ with
 | none=>rw[eg] at eq;cases eq
 | some xs=>
  rw[eg] at eq;have eq:(if xs.length≤1000 then some (D.tup xs) else none)=some d:=eq
  split at eq
  ·cases eq;rename_i hz;refine⟨G,ρ,xs,gh,env,eg,fun vs G1 H1 E1 r1=>⟨?_,fun p hp=>k _ _ _ (E1.trans (Ext.alloc (p:=p) (o :=.tup vs) E1.gh hp)) ?_⟩⟩
   ·rw[← r1.length];exact yB hz line1000
   ·exact rep_tup.mpr ⟨p,vs,rfl,upd_same,Reps.mono (.alloc (E1.gh.free hp)) xs r1⟩
  ·cases eq
noncomputable def eLst (g:DL):DL:=fun ρ=>(g ρ).bind fun xs=>if xs.length≤1000 then some xs else none
theorem de_lst {pos} {g:DL}(h:PA X es (tPA X.K own g)):PE X (.List es pos) (tF X.K own (eLst g)):=(pe_lst h).imp fun σ H Q ⟨G,ρ,ds,gh,env,eq,k⟩=>by
 unfold eLst at eq;cases eg:g ρ with
 | none=>rw[eg] at eq;cases eq
 | some xs=>
  rw[eg] at eq;have eq:(if xs.length≤1000 then some xs else none)=some ds:=eq
  split at eq
  ·cases eq;rename_i hz;refine⟨G,ρ,ds,gh,env,eg,fun vs G1 H1 E1 r1=>⟨?_,fun p hp=>k p vs G1 _ (E1.trans (Ext.lay (p:=p) (o :=.lst vs) E1.gh hp)) (E1.hh.free hp) (E1.gh.free hp) upd_same r1⟩⟩
   rw[← r1.length];exact yB hz line1000
  ·cases eq
noncomputable def e2 (o:D→D→Option D) (a b:DF):DF:=fun ρ=>(a ρ).bind fun x=>(b ρ).bind fun y=>o x y
theorem e2_some {o:D→D→Option D}{a b:DF}{ρ:DEnv}{d:D}(h:e2 o a b ρ=some d):∃ x y,a ρ=some x∧b ρ=some y∧o x y=some d:=by
 unfold e2 at h;cases ea:a ρ with
 | none=>rw[ea] at h;cases h
 | some x=>
  rw[ea] at h;cases eb:b ρ with
  | none=>rw[eb] at h;cases h
  | some y=>rw[eb] at h;exact⟨x,y,rfl,rfl,h⟩
noncomputable def rD (K:Frag) (o:D→D→Option D):R2:=fun x y H Q=>∃ G d1 d2 d,Same G H∧RepO K G H d1 x∧RepO K G H d2 y∧o d1 d2=some d∧∀ v G' H',Ext G H G' H'→Rep K G' d v→Q v H'
noncomputable def OpD (X:Cx) (f:Value→Value→Sem Value) (o:D→D→Option D):Prop:=OpR X f (rD X.K o)
theorem rd_of {K:Frag}{own:List Nat}{o:D→D→Option D}{fa fb:DF}{σ:St}{H:Hp}{Q:VK}(h:tP K own (e2 o fa fb) σ H Q):tOp (rD K o) (tQ K own fa) (tQ K own fb) σ H Q:=by
 obtain⟨G,ρ,d,gh,env,eq,k⟩:=h;obtain⟨x,y,ex,ey,eo⟩:=e2_some eq;exact⟨G,ρ,x,gh,env,ex,fun v G1 H1 E1 r1=>⟨G1,ρ,y,E1.gh,env.ext E1,ey,fun u G2 H2 E2 r2=>⟨G2,x,y,d,E2.gh,r1.ext E2,r2,eo,fun w G3 H3 E3 r3=>k w G3 H3 ((E1.trans E2).trans E3) r3⟩⟩⟩
variable {a b:Expr}{fa fb:DF}{pos:Pos}
theorem de_op {op:Operator}{o:D→D→Option D}(ho:OpD X (binaryOp op) o) (ha:PE X a (tQ X.K own fa)) (hb:PE X b (tQ X.K own fb)):PE X (.BinOp a op b pos) (tP X.K own (e2 o fa fb)):=(pe_op ho ha hb).imp fun σ H Q h=>rd_of h
theorem de_cmp {op:CmpOp}{o:D→D→Option D}(ho:OpD X (compareOp op) o) (ha:PE X a (tQ X.K own fa)) (hb:PE X b (tQ X.K own fb)) (hm:behindInMarks op b=false):PE X (.Compare a [op] [b] pos) (tP X.K own (e2 o fa fb)):=(pe_cmpR ho ha hb hm).imp fun σ H Q h=>rd_of h
noncomputable def tB1 (f:DF):DT:=fun ρ=>(f ρ).bind fun d=>match d with|.bl b=>some b|_=>none
theorem tB1_some {f:DF}{ρ:DEnv}{b:Bool}(h:tB1 f ρ=some b):f ρ=some (.bl b):=by
 unfold tB1 at h;cases e:f ρ with
 | none=>rw[e] at h;cases h
 | some d=>
  rw[e] at h;cases d with
  | bl c=>rw[show c=b from yA h]
  | _=>cases h
theorem dt_cmp {op:CmpOp}{o:D→D→Option D}(ho:OpD X (compareOp op) o) (ha:PE X a (tQ X.K own fa)) (hb:PE X b (tQ X.K own fb)) (hm:behindInMarks op b=false):PT X (.Compare a [op] [b] pos) (tPT X.K own (tB1 (e2 o fa fb))):=
 (pt_cmpR ho ha hb hm).imp fun σ H Q ⟨G,ρ,d,gh,env,eq,k⟩=>rd_of (own:=own) (fa:=fa) (fb:=fb) ⟨G,ρ,.bl d,gh,env,tB1_some eq,fun v G' H' E r=>⟨d,rep_bl.mp r,k G' H' E⟩⟩
noncomputable def tAndD (f g:DT):DT:=fun ρ=>(f ρ).bind fun c=>if c=true then g ρ else some false
noncomputable def tOrD (f g:DT):DT:=fun ρ=>(f ρ).bind fun c=>if c=true then some true else g ρ
noncomputable def tNotD (f:DT):DT:=fun ρ=>(f ρ).map fun c=> !c
variable {f g:DT}{rest:List Expr}
theorem dw_and1 (ha:PT X a (tPT X.K own f)):PW X (.BoolOp .And [a] pos) (tPT X.K own f):=pw_and1 ha
theorem dw_or1 (ha:PT X a (tPT X.K own f)):PW X (.BoolOp .Or [a] pos) (tPT X.K own f):=pw_or1 ha
theorem dw_and (ha : PT X a (tPT X.K own f)) (hb : PW X (.BoolOp .And (b :: rest) pos) (tPT X.K own g)) : PW X (.BoolOp .And (a :: b :: rest) pos) (tPT X.K own (tAndD f g)) := (pw_and ha hb).imp fun σ H Q ⟨G, ρ, d, gh, env, eq, k⟩ => by
  unfold tAndD at eq
  cases ef : f ρ with
  | none => rw [ef] at eq; cases eq
  | some c =>
    rw [ef] at eq
    refine ⟨G, ρ, c, gh, env, ef, fun G1 H1 E1 => ?_⟩
    cases c with
    | true => exact iteT ⟨G1, ρ, d, E1.gh, env.ext E1, eq, fun G2 H2 E2 => k G2 H2 (E1.trans E2)⟩
    | false => have : d = false := (Option.some.inj (show some false = some d from eq)).symm
               subst this; exact iteF (k G1 H1 E1)
theorem dw_or (ha : PT X a (tPT X.K own f)) (hb : PW X (.BoolOp .Or (b :: rest) pos) (tPT X.K own g)) : PW X (.BoolOp .Or (a :: b :: rest) pos) (tPT X.K own (tOrD f g)) := (pw_or ha hb).imp fun σ H Q ⟨G, ρ, d, gh, env, eq, k⟩ => by
  unfold tOrD at eq
  cases ef : f ρ with
  | none => rw [ef] at eq; cases eq
  | some c =>
    rw [ef] at eq
    refine ⟨G, ρ, c, gh, env, ef, fun G1 H1 E1 => ?_⟩
    cases c with
    | false => exact iteF ⟨G1, ρ, d, E1.gh, env.ext E1, eq, fun G2 H2 E2 => k G2 H2 (E1.trans E2)⟩
    | true => have : d = true := (Option.some.inj (show some true = some d from eq)).symm
              subst this; exact iteT (k G1 H1 E1)
theorem dt_not (ha:PT X a (tPT X.K own f)):PT X (.UnaryOp .Not a pos) (tPT X.K own (tNotD f)):=(pt_not ha).imp fun σ H Q ⟨G,ρ,d,gh,env,eq,k⟩=>by
 unfold tNotD at eq;cases ef:f ρ with
 | none=>rw[ef] at eq;cases eq
 | some c=>
  rw[ef] at eq;have:d = !c:=(yA (show some (!c)=some d from eq)).symm
  subst this;exact⟨G,ρ,c,gh,env,ef,fun G1 H1 E1=>k G1 H1 E1⟩
noncomputable def eAnd (f g:DF):DF:=fun ρ=>(tB1 f ρ).bind fun c=>if c=true then g ρ else some (.bl false)
noncomputable def eOr (f g:DF):DF:=fun ρ=>(tB1 f ρ).bind fun c=>if c=true then some (.bl true) else g ρ
noncomputable def eNot (f:DT):DF:=fun ρ=>(f ρ).map fun c =>.bl (!c)
theorem de_one {op} (h:PE X a (tP X.K own fa)):PE X (.BoolOp op [a] pos) (tP X.K own fa):=pe_one h
theorem de_and (ha : PE X a (tP X.K own fa)) (hb : PE X (.BoolOp .And (b :: rest) pos) (tP X.K own fb)) : PE X (.BoolOp .And (a :: b :: rest) pos) (tP X.K own (eAnd fa fb)) := (pe_and ha hb).imp fun σ H Q ⟨G, ρ, d, gh, env, eq, k⟩ => by
  unfold eAnd at eq
  cases ef : tB1 fa ρ with
  | none => rw [ef] at eq; cases eq
  | some c =>
    rw [ef] at eq
    refine ⟨G, ρ, _, gh, env, tB1_some ef, fun v G1 H1 E1 r1 => ⟨c, rep_bl.mp r1, ?_⟩⟩
    cases c with
    | true => exact iteT ⟨G1, ρ, d, E1.gh, env.ext E1, eq, fun v G2 H2 E2 r2 => k v G2 H2 (E1.trans E2) r2⟩
    | false => have : d = .bl false := (Option.some.inj (show some (D.bl false) = some d from eq)).symm
               subst this; exact iteF (k _ G1 H1 E1 (rep_bl.mpr rfl))
theorem de_or (ha : PE X a (tP X.K own fa)) (hb : PE X (.BoolOp .Or (b :: rest) pos) (tP X.K own fb)) : PE X (.BoolOp .Or (a :: b :: rest) pos) (tP X.K own (eOr fa fb)) := (pe_or ha hb).imp fun σ H Q ⟨G, ρ, d, gh, env, eq, k⟩ => by
  unfold eOr at eq
  cases ef : tB1 fa ρ with
  | none => rw [ef] at eq; cases eq
  | some c =>
    rw [ef] at eq
    refine ⟨G, ρ, _, gh, env, tB1_some ef, fun v G1 H1 E1 r1 => ⟨c, rep_bl.mp r1, ?_⟩⟩
    cases c with
    | false => exact iteF ⟨G1, ρ, d, E1.gh, env.ext E1, eq, fun v G2 H2 E2 r2 => k v G2 H2 (E1.trans E2) r2⟩
    | true => have : d = .bl true := (Option.some.inj (show some (D.bl true) = some d from eq)).symm
              subst this; exact iteT (k _ G1 H1 E1 (rep_bl.mpr rfl))
theorem de_not (ha:PE X a (tP X.K own fa)):PE X (.UnaryOp .Not a pos) (tP X.K own (eNot (tB1 fa))):=(pe_not ha).imp fun σ H Q ⟨G,ρ,d,gh,env,eq,k⟩=>by
 unfold eNot at eq;cases ef:tB1 fa ρ with
 | none=>rw[ef] at eq;cases eq
 | some c=>
  rw[ef] at eq;have:d=.bl (!c):=(yA (show some (D.bl (!c))=some d from eq)).symm
  subst this;exact⟨G,ρ,_,gh,env,tB1_some ef,fun v G1 H1 E1 r1=>⟨c,rep_bl.mp r1,k _ G1 H1 E1 (rep_bl.mpr rfl)⟩⟩
noncomputable def eIfE (c:DT) (f g:DF):DF:=fun ρ=>(c ρ).bind fun b=>if b=true then f ρ else g ρ
theorem de_if {c:Expr}(hc:PT X c (tPT X.K own f)) (ha:PE X a (tP X.K own fa)) (hb:PE X b (tP X.K own fb)):PE X (.IfExp c a b pos) (tP X.K own (eIfE f fa fb)):=(pe_ifExp hc ha hb).imp fun σ H Q ⟨G,ρ,d,gh,env,eq,k⟩=>by
 unfold eIfE at eq;cases ef:f ρ with
 | none=>rw[ef] at eq;cases eq
 | some c=>
  rw[ef] at eq;refine⟨G,ρ,c,gh,env,ef,fun G1 H1 E1 =>?_⟩
  cases c with
  | true=>exact iteT ⟨G1,ρ,d,E1.gh,env.ext E1,eq,fun v G2 H2 E2 r2=>k v G2 H2 (E1.trans E2) r2⟩
  | false=>exact iteF ⟨G1,ρ,d,E1.gh,env.ext E1,eq,fun v G2 H2 E2 r2=>k v G2 H2 (E1.trans E2) r2⟩
end
end L2
end
noncomputable section
namespace L2
open PySem PySem.Spec PyProof.Rows
mutual
noncomputable def deq:D→D→Bool
 | .non,.non=>true
 | .bl a,.bl b=>a==b
 | .bl a,.int b=>(if a then 1 else 0)==b
 | .int a,.bl b=>a==(if b then 1 else 0)
 | .int a,.int b=>a==b
 | .str a,.str b=>a==b
 | .lst xs,.lst ys=>deqs xs ys
 | .tup xs,.tup ys=>deqs xs ys
 | _,_=>false
noncomputable def deqs:List D→List D→Bool
 | [],[]=>true
 | x::xs,y::ys=>deq x y&&deqs xs ys
 | _,_=>false
end
mutual
noncomputable def dOk:D→Nat→Bool
 | .lst xs,n=>n != 0&&dOks xs (n-1)
 | .tup xs,n=>n != 0&&dOks xs (n-1)
 | .scr _,_=>false
 | .ins _ _ _,_=>false
 | .non,_=>true
 | .bl _,_=>true
 | .int _,_=>true
 | .str _,_=>true
noncomputable def dOks:List D→Nat→Bool
 | [],_=>true
 | x::xs,n=>dOk x n&&dOks xs n
end
theorem dOks_get:∀ {xs:List D}{n i:Nat}{d:D},dOks xs n=true→xs[i]?=some d→dOk d n=true
 | [],n,i,d,h,e=>by simp at e
 | x::xs,n,0,d,h,e=>by simp only[dOks,Bool.and_eq_true] at h;simp at e;subst e;exact h.1
 | x::xs,n,i+1,d,h,e=>by simp only[dOks,Bool.and_eq_true] at h;exact dOks_get (i:=i) h.2 (by simpa using e)
theorem deqs_all:∀ (xs ys:List D),deqs xs ys=((List.range (min xs.length ys.length)).all (fun j=>deq (xs.getD j .non) (ys.getD j .non))&&(xs.length==ys.length))
 | [],[]=>by simp[deqs]
 | [],y::ys=>by simp[deqs]
 | x::xs,[]=>by simp[deqs]
 | x::xs,y::ys=>by
  have e:min (x::xs).length (y::ys).length=min xs.length ys.length+1:=by simp[Nat.add_min_add_right]
  rw[e,List.range_succ_eq_map,List.all_cons,List.all_map];simp only[deqs,deqs_all xs ys,Function.comp_def,List.getD_cons_zero,List.getD_cons_succ,zP];rw[Bool.and_assoc]
  congr 2
  simp
mutual
theorem deq_refl:∀ (d:D) (n:Nat),dOk d n=true→deq d d=true
 | .non,n,h=>by simp[deq]
 | .bl b,n,h=>by simp[deq]
 | .int b,n,h=>by simp[deq]
 | .str b,n,h=>by simp[deq]
 | .lst xs,n,h=>by simp only[dOk,Bool.and_eq_true] at h;simp only[deq];exact deqs_refl xs _ h.2
 | .tup xs,n,h=>by simp only[dOk,Bool.and_eq_true] at h;simp only[deq];exact deqs_refl xs _ h.2
 | .scr xs,n,h=>by simp[dOk] at h
theorem deqs_refl:∀ (d:List D) (n:Nat),dOks d n=true→deqs d d=true
 | [],n,h=>by simp[deqs]
 | x::xs,n,h=>by simp only[dOks,Bool.and_eq_true] at h;simp only[deqs,deq_refl x n h.1,deqs_refl xs n h.2,Bool.and_self]
end
noncomputable section
variable {K:Frag}{H:Hp}
mutual
theorem Rep.inj:∀ (d1 d2:D) (n m:Nat){v:V},dOk d1 n=true→dOk d2 m=true→Rep K H d1 v→Rep K H d2 v→d1=d2
 | .non,d2,n,m,v,o1,o2,h1,h2=>by have e:=rep_non.mp h1;subst e;cases d2<;>simp[Rep,dOk] at h2 o2 ⊢
 | .bl b,d2,n,m,v,o1,o2,h1,h2=>by have e:=rep_bl.mp h1;subst e;cases d2<;>simp[Rep,dOk] at h2 o2 ⊢<;>exact h2
 | .int b,d2,n,m,v,o1,o2,h1,h2=>by have e:=rep_int.mp h1;subst e;cases d2<;>simp[Rep,dOk] at h2 o2 ⊢<;>exact h2
 | .str b,d2,n,m,v,o1,o2,h1,h2=>by have e:=rep_str.mp h1;subst e;cases d2<;>simp[Rep,dOk] at h2 o2 ⊢<;>exact h2
 | .lst xs,d2,n,m,v,o1,o2,h1,h2=>by
  obtain⟨a,vs,rfl,ha,r⟩:=rep_lst.mp h1;cases d2 with
  | lst ys=>obtain⟨b,us,e,hb,q⟩:=rep_lst.mp h2;cases e;rw[ha] at hb;cases hb;simp only[dOk,Bool.and_eq_true] at o1 o2;rw[Reps.inj xs ys _ _ o1.2 o2.2 r q]
  | tup ys=>obtain⟨b,us,e,hb,q⟩:=rep_tup.mp h2;cases e;rw[ha] at hb;cases hb
  | scr ys=>simp[dOk] at o2
  | ins c ks zs=>simp[dOk] at o2
  | _=>simp[Rep] at h2
 | .tup xs,d2,n,m,v,o1,o2,h1,h2=>by
  obtain⟨a,vs,rfl,ha,r⟩:=rep_tup.mp h1;cases d2 with
  | tup ys=>obtain⟨b,us,e,hb,q⟩:=rep_tup.mp h2;cases e;rw[ha] at hb;cases hb;simp only[dOk,Bool.and_eq_true] at o1 o2;rw[Reps.inj xs ys _ _ o1.2 o2.2 r q]
  | lst ys=>obtain⟨b,us,e,hb,q⟩:=rep_lst.mp h2;cases e;rw[ha] at hb;cases hb
  | scr ys=>simp[dOk] at o2
  | ins c ks zs=>simp[dOk] at o2
  | _=>simp[Rep] at h2
 | .scr xs,d2,n,m,v,o1,o2,h1,h2=>by simp[dOk] at o1
theorem Reps.inj:∀ (xs ys:List D) (n m:Nat){vs:List V},dOks xs n=true→dOks ys m=true→Reps K H xs vs→Reps K H ys vs→xs=ys
 | [],ys,n,m,vs,o1,o2,h1,h2=>by
  rw[reps_nil.mp h1] at h2;cases ys with
  | nil=>rfl
  | cons y ys=>obtain⟨_,_,e,_⟩:=reps_cons.mp h2;cases e
 | x::xs,ys,n,m,vs,o1,o2,h1,h2=>by
  obtain⟨v,r,rfl,q,t⟩:=reps_cons.mp h1;cases ys with
  | nil=>have:=reps_nil.mp h2;cases this
  | cons y ys=>obtain⟨v',r',e,q',t'⟩:=reps_cons.mp h2;cases e;simp only[dOks,Bool.and_eq_true] at o1 o2;rw[Rep.inj x y _ _ o1.1 o2.1 q q',Reps.inj xs ys _ _ o1.2 o2.2 t t']
end
end
noncomputable section
variable {P:Program}{w:World}{K:Frag}{H:Hp}{s:Shared}
theorem objL (hok:HOk P w H s.heap){a:Addr}{vs:List V}(e:H a=some (.lst vs)):∃ its:List Value,Vals vs its∧s.heap.IsList a its.toArray:=by
 obtain⟨z,its,n,r,q⟩:=hok a _ e;exact⟨its,r,_,q,rfl,n,rfl⟩
theorem objT (hok:HOk P w H s.heap){a:Addr}{vs:List V}(e:H a=some (.tup vs)):∃ its:List Value,Vals vs its∧s.heap.IsTuple a its.toArray:=by
 obtain⟨z,its,r,q⟩:=hok a _ e;exact⟨its,r,q⟩
open SeqAt
structure EqAll (A:Around) (s:Shared) (u1 u2:Value) (b:Bool):Prop where
 rc:RcAt A s u1 u2 b
 ne:RcNeAt A s u1 u2 (!b)
 eq:EqAt A s u1 u2 b
theorem eq_scal (hok:HOk P w H s.heap){A:Around}(hu:A.units<cLine){d1 d2:D}{m:Nat}{v1 v2:V}{u1 u2:Value}(o1:dOk d1 0=true) (o2:dOk d2 m=true) (h1:Rep K H d1 v1) (h2:Rep K H d2 v2) (r1:RelV v1 u1) (r2:RelV v2 u2) :
  EqAll A s u1 u2 (deq d1 d2):=by
 cases d1 with
 | lst xs=>simp[dOk] at o1
 | tup xs=>simp[dOk] at o1
 | scr xs=>simp[dOk] at o1
 | ins c ks zs=>simp[dOk] at o1
 | non=>
  have e:=rep_non.mp h1;subst e;cases r1;cases d2 with
  | non=>have e:=rep_non.mp h2;subst e;cases r2;exact⟨.none_none,.none_none,.same _⟩
  | bl b=>have e:=rep_bl.mp h2;subst e;cases r2;exact⟨.none_bool b,.none_bool b,.none_bool b⟩
  | int b=>have e:=rep_int.mp h2;subst e;obtain⟨t,rfl⟩:=r2;exact⟨.none_int b t,.none_int b t,.none_int b t⟩
  | str b=>have e:=rep_str.mp h2;subst e;obtain⟨t,rfl⟩:=r2;exact⟨.none_str b t,.none_str b t,.none_str b t⟩
  | lst ys=>obtain⟨a,vs,rfl,q,_⟩:=rep_lst.mp h2;cases r2;obtain⟨its,_,l⟩:=objL hok q;exact⟨.none_list l hu,.none_list l hu,.none_list l hu⟩
  | tup ys=>obtain⟨a,vs,rfl,q,_⟩:=rep_tup.mp h2;cases r2;obtain⟨its,_,l⟩:=objT hok q;exact⟨.none_tuple l hu,.none_tuple l hu,.none_tuple l hu⟩
  | scr ys=>simp[dOk] at o2
  | ins c ks zs=>simp[dOk] at o2
 | bl c=>
  have e:=rep_bl.mp h1;subst e;cases r1;cases d2 with
  | non=>have e:=rep_non.mp h2;subst e;cases r2;exact⟨.bool_none c,.bool_none c,.bool_none c⟩
  | bl b=>have e:=rep_bl.mp h2;subst e;cases r2;exact⟨.bool_bool c b,.bool_bool c b,.bool_bool c b⟩
  | int b=>have e:=rep_int.mp h2;subst e;obtain⟨t,rfl⟩:=r2;exact⟨.bool_int c b t,.bool_int c b t,.bool_int c b t⟩
  | str b=>have e:=rep_str.mp h2;subst e;obtain⟨t,rfl⟩:=r2;exact⟨.bool_str c b t,.bool_str c b t,.bool_str c b t⟩
  | lst ys=>obtain⟨a,vs,rfl,q,_⟩:=rep_lst.mp h2;cases r2;obtain⟨its,_,l⟩:=objL hok q;exact⟨.bool_list c l hu,.bool_list c l hu,.bool_list c l hu⟩
  | tup ys=>obtain⟨a,vs,rfl,q,_⟩:=rep_tup.mp h2;cases r2;obtain⟨its,_,l⟩:=objT hok q;exact⟨.bool_tuple c l hu,.bool_tuple c l hu,.bool_tuple c l hu⟩
  | scr ys=>simp[dOk] at o2
  | ins c ks zs=>simp[dOk] at o2
 | int c=>
  have e:=rep_int.mp h1;subst e;obtain⟨t',rfl⟩:=r1;cases d2 with
  | non=>have e:=rep_non.mp h2;subst e;cases r2;exact⟨.int_none c t',.int_none c t',.int_none c t'⟩
  | bl b=>have e:=rep_bl.mp h2;subst e;cases r2;exact⟨.int_bool c t' b,.int_bool c t' b,.int_bool c t' b⟩
  | int b=>have e:=rep_int.mp h2;subst e;obtain⟨t,rfl⟩:=r2;exact⟨.int_int c t' b t,.int_int c t' b t,.int_int c t' b t⟩
  | str b=>have e:=rep_str.mp h2;subst e;obtain⟨t,rfl⟩:=r2;exact⟨.int_str c t' b t,.int_str c t' b t,.int_str c t' b t⟩
  | lst ys=>obtain⟨a,vs,rfl,q,_⟩:=rep_lst.mp h2;cases r2;obtain⟨its,_,l⟩:=objL hok q;exact⟨.int_list c t' l hu,.int_list c t' l hu,.int_list c t' l hu⟩
  | tup ys=>obtain⟨a,vs,rfl,q,_⟩:=rep_tup.mp h2;cases r2;obtain⟨its,_,l⟩:=objT hok q;exact⟨.int_tuple c t' l hu,.int_tuple c t' l hu,.int_tuple c t' l hu⟩
  | scr ys=>simp[dOk] at o2
  | ins c ks zs=>simp[dOk] at o2
 | str c=>
  have e:=rep_str.mp h1;subst e;obtain⟨t',rfl⟩:=r1;cases d2 with
  | non=>have e:=rep_non.mp h2;subst e;cases r2;exact⟨.str_none c t',.str_none c t',.str_none c t'⟩
  | bl b=>have e:=rep_bl.mp h2;subst e;cases r2;exact⟨.str_bool c t' b,.str_bool c t' b,.str_bool c t' b⟩
  | int b=>have e:=rep_int.mp h2;subst e;obtain⟨t,rfl⟩:=r2;exact⟨.str_int c t' b t,.str_int c t' b t,.str_int c t' b t⟩
  | str b=>have e:=rep_str.mp h2;subst e;obtain⟨t,rfl⟩:=r2;exact⟨.str_str c t' b t,.str_str c t' b t,.str_str c t' b t⟩
  | lst ys=>obtain⟨a,vs,rfl,q,_⟩:=rep_lst.mp h2;cases r2;obtain⟨its,_,l⟩:=objL hok q;exact⟨.str_list c t' l hu,.str_list c t' l hu,.str_list c t' l hu⟩
  | tup ys=>obtain⟨a,vs,rfl,q,_⟩:=rep_tup.mp h2;cases r2;obtain⟨its,_,l⟩:=objT hok q;exact⟨.str_tuple c t' l hu,.str_tuple c t' l hu,.str_tuple c t' l hu⟩
  | scr ys=>simp[dOk] at o2
  | ins c ks zs=>simp[dOk] at o2
theorem EqAll.refs {A:Around}{l b:Addr}{k:Bool}(rc:RcAt A s (.ref l) (.ref b) k) (ne:RcNeAt A s (.ref l) (.ref b) (!k)) (h:l=b→k=true):EqAll A s (.ref l) (.ref b) k:=by
 refine⟨rc,ne,?_⟩;by_cases e:l=b
 ·subst e;rw[h rfl];exact .same _
 ·exact .of_refs e rc
theorem deqs_len {xs ys:List D}(h:xs.length≠ys.length):deqs xs ys=false:=by
 rw[deqs_all];have:(xs.length==ys.length)=false:=by simpa using h
 rw[this,Bool.and_false]
theorem eq_items {A:Around}{n m:Nat}{xs ys:List D}{vs us:List V}{its its2:List Value}(ih:∀ (d1 d2:D) (v1 v2:V) (u1 u2:Value),dOk d1 n=true→dOk d2 m=true→Rep K H d1 v1→Rep K H d2 v2→RelV v1 u1→RelV v2 u2→EqAll A s u1 u2 (deq d1 d2))
  (o1:dOks xs n=true) (o2:dOks ys m=true) (r:Reps K H xs vs) (q:Reps K H ys us) (rv:Vals vs its) (ru:Vals us its2) (j:Nat) (h1:j<its.toArray.size) (h2:j<its2.toArray.size) :
  EqAt A s its.toArray[j] its2.toArray[j] (deq (xs.getD j .non) (ys.getD j .non)):=by
 have l1:xs.length=its.length:=r.length.trans rv.length;have l2:ys.length=its2.length:=q.length.trans ru.length;have h1':j<its.length:=by simpa using h1
 have h2':j<its2.length:=by simpa using h2
 have g1:xs[j]?=some (xs.getD j .non):=by rw[List.getD_eq_getElem?_getD,zI (by omega)];rfl
 have g2:ys[j]?=some (ys.getD j .non):=by rw[List.getD_eq_getElem?_getD,zI (by omega)];rfl
 obtain⟨v,e1,p1⟩:=r.get g1;obtain⟨u,e2,p2⟩:=q.get g2;obtain⟨w1,f1,t1⟩:=rv.get e1;obtain⟨w2,f2,t2⟩:=ru.get e2;have k1:its.toArray[j]=w1:=by
  have:its[j]?=some its.toArray[j]:=by simp[h1']
  rw[f1] at this;exact(yA this).symm
 have k2:its2.toArray[j]=w2:=by
  have:its2[j]?=some its2.toArray[j]:=by simp[h2']
  rw[f2] at this;exact(yA this).symm
 rw[k1,k2];exact(ih _ _ _ _ _ _ (dOks_get o1 g1) (dOks_get o2 g2) p1 p2 t1 t2).eq
theorem eq_all (hok:HOk P w H s.heap):∀ (n:Nat){A:Around}(_:A.units+n<cLine) (d1 d2:D) (m:Nat) (v1 v2:V) (u1 u2:Value),dOk d1 n=true→dOk d2 m=true→Rep K H d1 v1→Rep K H d2 v2→RelV v1 u1→RelV v2 u2 →
  EqAll A s u1 u2 (deq d1 d2):=by
 intro n
 induction n with
 | zero=>intro A hu d1 d2 m v1 v2 u1 u2 o1 o2 h1 h2 r1 r2;exact eq_scal hok (by omega) o1 o2 h1 h2 r1 r2
 | succ n ih=>
  intro A hu d1 d2 m v1 v2 u1 u2 o1 o2 h1 h2 r1 r2;have hu0:A.units<cLine:=by omega
  have ih':=fun (m':Nat)=>fun (d1 d2:D) (v1 v2:V) (u1 u2:Value)=>ih (A:=A.in1) (by show A.units+1+n<cLine;omega) d1 d2 m' v1 v2 u1 u2
  cases d1 with
  | lst xs=>
   obtain⟨a,vs,rfl,qa,ra⟩:=rep_lst.mp h1;cases r1;obtain⟨its,rv,l⟩:=objL hok qa;cases d2 with
   | lst ys=>
    obtain⟨b,us,rfl,qb,rb⟩:=rep_lst.mp h2;cases r2;obtain⟨its2,ru,l2⟩:=objL hok qb;have p1:=o1;have p2:=o2;simp only[dOk,Bool.and_eq_true,Nat.add_sub_cancel] at p1 p2;have len1:its.toArray.size=xs.length:=by rw[zN];exact(ra.length.trans rv.length).symm
    have len2:its2.toArray.size=ys.length:=by rw[zN];exact(rb.length.trans ru.length).symm
    have same:a=b→deqs xs ys=true:=fun e=>by subst e;rw[qa] at qb;cases qb;rw[← Reps.inj xs ys _ _ p1.2 p2.2 ra rb];exact deqs_refl xs _ p1.2
    show EqAll A s _ _ (deqs xs ys);by_cases hl:xs.length=ys.length
    ·have E:deqs xs ys=(List.range its.toArray.size).all (fun j=>deq (xs.getD j .non) (ys.getD j .non)):=by rw[deqs_all,← hl,Nat.min_self,len1];simp
     have it:=eq_items (ih' _) p1.2 p2.2 ra rb rv ru;exact .refs (by rw[E];exact .lists l l2 (by omega) hu0 it) (by rw[E];exact .lists l l2 (by omega) hu0 it) same
    ·have E:=deqs_len hl;have hne:(its.toArray.size != its2.toArray.size)=true:=by rw[len1,len2];simpa using hl
     refine .refs ?_ ?_ same
     ·rw[E];exact .lists_lengths l l2 hne hu0
     ·rw[E];exact .lists_lengths l l2 hne hu0
   | tup ys=>obtain⟨b,us,rfl,qb,rb⟩:=rep_tup.mp h2;cases r2;obtain⟨its2,ru,l2⟩:=objT hok qb;exact⟨.list_tuple l l2 hu0,.list_tuple l l2 hu0,.list_tuple l l2 hu0⟩
   | non=>have e:=rep_non.mp h2;subst e;cases r2;exact⟨.list_none l hu0,.list_none l hu0,.list_none l hu0⟩
   | bl b=>have e:=rep_bl.mp h2;subst e;cases r2;exact⟨.list_bool b l hu0,.list_bool b l hu0,.list_bool b l hu0⟩
   | int b=>have e:=rep_int.mp h2;subst e;obtain⟨t,rfl⟩:=r2;exact⟨.list_int b t l hu0,.list_int b t l hu0,.list_int b t l hu0⟩
   | str b=>have e:=rep_str.mp h2;subst e;obtain⟨t,rfl⟩:=r2;exact⟨.list_str b t l hu0,.list_str b t l hu0,.list_str b t l hu0⟩
   | scr ys=>simp[dOk] at o2
   | ins c ks zs=>simp[dOk] at o2
  | tup xs=>
   obtain⟨a,vs,rfl,qa,ra⟩:=rep_tup.mp h1;cases r1;obtain⟨its,rv,l⟩:=objT hok qa;cases d2 with
   | tup ys=>
    obtain⟨b,us,rfl,qb,rb⟩:=rep_tup.mp h2;cases r2;obtain⟨its2,ru,l2⟩:=objT hok qb;have p1:=o1;have p2:=o2;simp only[dOk,Bool.and_eq_true,Nat.add_sub_cancel] at p1 p2;have len1:its.toArray.size=xs.length:=by rw[zN];exact(ra.length.trans rv.length).symm
    have len2:its2.toArray.size=ys.length:=by rw[zN];exact(rb.length.trans ru.length).symm
    have same:a=b→deqs xs ys=true:=fun e=>by subst e;rw[qa] at qb;cases qb;rw[← Reps.inj xs ys _ _ p1.2 p2.2 ra rb];exact deqs_refl xs _ p1.2
    show EqAll A s _ _ (deqs xs ys);have E:deqs xs ys=((List.range (min its.toArray.size its2.toArray.size)).all (fun j=>deq (xs.getD j .non) (ys.getD j .non))&&its.toArray.size==its2.toArray.size):=by rw[deqs_all,len1,len2]
    have it:=eq_items (ih' _) p1.2 p2.2 ra rb rv ru;exact .refs (by rw[E];exact .tuples l l2 hu0 it) (by rw[E];exact .tuples l l2 hu0 it) same
   | lst ys=>obtain⟨b,us,rfl,qb,rb⟩:=rep_lst.mp h2;cases r2;obtain⟨its2,ru,l2⟩:=objL hok qb;exact⟨.tuple_list l l2 hu0,.tuple_list l l2 hu0,.tuple_list l l2 hu0⟩
   | non=>have e:=rep_non.mp h2;subst e;cases r2;exact⟨.tuple_none l hu0,.tuple_none l hu0,.tuple_none l hu0⟩
   | bl b=>have e:=rep_bl.mp h2;subst e;cases r2;exact⟨.tuple_bool b l hu0,.tuple_bool b l hu0,.tuple_bool b l hu0⟩
   | int b=>have e:=rep_int.mp h2;subst e;obtain⟨t,rfl⟩:=r2;exact⟨.tuple_int b t l hu0,.tuple_int b t l hu0,.tuple_int b t l hu0⟩
   | str b=>have e:=rep_str.mp h2;subst e;obtain⟨t,rfl⟩:=r2;exact⟨.tuple_str b t l hu0,.tuple_str b t l hu0,.tuple_str b t l hu0⟩
   | scr ys=>simp[dOk] at o2
   | ins c ks zs=>simp[dOk] at o2
  | scr xs=>simp[dOk] at o1
  | ins c ks zs=>simp[dOk] at o1
  | non=>exact eq_scal hok hu0 rfl o2 h1 h2 r1 r2
  | bl b=>exact eq_scal hok hu0 rfl o2 h1 h2 r1 r2
  | int b=>exact eq_scal hok hu0 rfl o2 h1 h2 r1 r2
  | str b=>exact eq_scal hok hu0 rfl o2 h1 h2 r1 r2
end
noncomputable def oEq (x y:D):Option D:=if (dOk x 180&&dOk y 180)=true then some (.bl (deq x y)) else none
noncomputable def oNe (x y:D):Option D:=if (dOk x 180&&dOk y 180)=true then some (.bl (!deq x y)) else none
noncomputable section
variable {X:Cx}
theorem od_eq {k:Nat}(hr:Room k X.A):OpD X (compareOp .Eq) oEq:=by
 intro pins s σ H x y v u Q I rx ry ⟨G,d1,d2,d,gh,h1,h2,eq,q⟩;unfold oEq at eq
 split at eq
 ·rename_i hc;rw[Bool.and_eq_true] at hc;cases eq;have hu:=hr.un;exact(eq_all (K:=X.K) I.hok 180 (A:=X.A) (by omega) d1 d2 180 x y v u hc.1 hc.2 (h1.all gh) (h2.all gh) rx ry).rc _ _ _ _ ⟨.bl _,H,I,rfl,q _ G H (.refl gh) (rep_bl.mpr rfl)⟩
 ·cases eq
theorem od_ne {k:Nat}(hr:Room k X.A):OpD X (compareOp .NotEq) oNe:=by
 intro pins s σ H x y v u Q I rx ry ⟨G,d1,d2,d,gh,h1,h2,eq,q⟩;unfold oNe at eq
 split at eq
 ·rename_i hc;rw[Bool.and_eq_true] at hc;cases eq;have hu:=hr.un;exact(eq_all (K:=X.K) I.hok 180 (A:=X.A) (by omega) d1 d2 180 x y v u hc.1 hc.2 (h1.all gh) (h2.all gh) rx ry).ne _ _ _ _ ⟨.bl _,H,I,rfl,q _ G H (.refl gh) (rep_bl.mpr rfl)⟩
 ·cases eq
noncomputable def oLt:D→D→Option D
 | .int i,.int j=>some (.bl (decide (i<j)))
 | _,_=>none
noncomputable def oGt:D→D→Option D
 | .int i,.int j=>some (.bl (decide (j<i)))
 | _,_=>none
noncomputable def oGe:D→D→Option D
 | .int i,.int j=>some (.bl (decide (j≤i)))
 | _,_=>none
theorem od_ii {f:Value→Value→Sem Value}{C:Int→Int→Prop}{o:D→D→Option D}{g:Int→Int→V}{g':Int→Int→D}(h:OpR X f (rI C g)) (ho:∀ x y d,o x y=some d→∃ i j,x=.int i∧y=.int j∧C i j∧d=g' i j) (hg:∀ i j G,Rep X.K G (g' i j) (g i j)):OpD X f o:=
 OpR.imp h fun x y H Q ⟨G,d1,d2,d,gh,h1,h2,eq,q⟩=>by obtain⟨i,j,rfl,rfl,hc,rfl⟩:=ho _ _ _ eq;exact⟨i,j,h1.int,h2.int,hc,q _ G H (.refl gh) (hg i j G)⟩
theorem op_i0 {f:Value→Value→Sem Value}{g:Int→Int→V}(h:OpR X f (rI0 g)):OpR X f (rI (fun _ _=>True) g):=OpR.imp h fun x y H Q ⟨i,j,e1,e2,_,q⟩=>⟨i,j,e1,e2,q⟩
theorem od_lt:OpD X (compareOp .Lt) oLt:=od_ii (op_i0 op_lt) (g':=fun i j =>.bl (decide (i<j))) (fun x y d h=>by cases x<;>cases y<;>simp[oLt] at h<;>exact⟨_,_,rfl,rfl,trivial,h.symm⟩) fun i j G=>rep_bl.mpr rfl
theorem od_gt:OpD X (compareOp .Gt) oGt:=od_ii (op_i0 op_gt) (g':=fun i j =>.bl (decide (j<i))) (fun x y d h=>by cases x<;>cases y<;>simp[oGt] at h<;>exact⟨_,_,rfl,rfl,trivial,h.symm⟩) fun i j G=>rep_bl.mpr rfl
theorem od_ge:OpD X (compareOp .GtE) oGe:=od_ii (op_i0 op_ge) (g':=fun i j =>.bl (decide (j≤i))) (fun x y d h=>by cases x<;>cases y<;>simp[oGe] at h<;>exact⟨_,_,rfl,rfl,trivial,h.symm⟩) fun i j G=>rep_bl.mpr rfl
noncomputable def oSub:D→D→Option D
 | .int i,.int j=>some (.int (i-j))
 | _,_=>none
theorem od_sub:OpD X (binaryOp .Sub) oSub:=od_ii (op_i0 op_sub) (g':=fun i j =>.int (i-j)) (fun x y d h=>by cases x<;>cases y<;>simp[oSub] at h<;>exact⟨_,_,rfl,rfl,trivial,h.symm⟩) fun i j G=>rep_int.mpr rfl
noncomputable def oMod:D→D→Option D
 | .int i,.int j=>if 0<j then some (.int (i%j)) else none
 | _,_=>none
theorem od_mod:OpD X (binaryOp .Mod) oMod:=od_ii op_mod (g':=fun i j =>.int (i%j)) (fun x y d h=>by
 cases x<;>cases y<;>simp only[oMod] at h<;>first|(cases h;done)|(split at h<;>first|(cases h;exact⟨_,_,rfl,rfl,by assumption,rfl⟩)|cases h)) fun i j G=>rep_int.mpr rfl
noncomputable def oFdiv:D→D→Option D
 | .int i,.int j=>if 0<j∧j<2 ^ 64 then some (.int (i/j)) else none
 | _,_=>none
theorem op_fdivB:OpR X (binaryOp .FloorDiv) (rI (fun _ j=>0<j∧j<2 ^ 64) fun i j =>.int (i/j)):=opI fun i j _ _ _ _ _ hc q=>by
 have h1:(0:Int)<j:=hc.1;have h2:j<2 ^ 64:=hc.2;have h3:j.natAbs<2 ^ 64:=by omega
 refine floordiv_int (by omega) (by rw[Int.fdiv_eq_ediv_of_nonneg i (by omega)];exact q) (.inl (PyProof.noPylong_of_log2 ?_))
 have:=(Nat.log2_lt (n:=j.natAbs) (k:=64) (by omega)).mpr h3
 omega
theorem od_fdiv:OpD X (binaryOp .FloorDiv) oFdiv:=od_ii op_fdivB (g':=fun i j =>.int (i/j)) (fun x y d h=>by
 cases x<;>cases y<;>simp only[oFdiv] at h<;>first|(cases h;done)|(split at h<;>first|(cases h;exact⟨_,_,rfl,rfl,by assumption,rfl⟩)|cases h)) fun i j G=>rep_int.mpr rfl
noncomputable def bigE:Nat:=1000000
theorem bigE_le:bigE≤sizeLine:=by rw[sizeLine_eq];decide
noncomputable def oAdd:D→D→Option D
 | .int i,.int j=>some (.int (i+j))
 | .str x,.str y=>if x.length+y.length≤bigE then some (.str (x++y)) else none
 | .lst xs,.lst ys=>if xs.length+ys.length≤bigE then some (.lst (xs++ys)) else none
 | _,_=>none
theorem od_add:OpD X (binaryOp .Add) oAdd:=by
 refine OpR.imp (op_add.or (op_add_str.or op_cat)) fun x y H Q ⟨G,d1,d2,d,gh,h1,h2,eq,q⟩ =>?_
 cases d1<;>cases d2<;>simp only[oAdd] at eq<;>try (cases eq;done)
 ·cases eq;exact .inl ⟨_,_,h1.int,h2.int,q _ G H (.refl gh) (rep_int.mpr rfl)⟩
 ·split at eq
  ·cases eq;rename_i hz;exact .inr (.inl ⟨_,_,h1.str,h2.str,yB hz bigE_le,q _ G H (.refl gh) (rep_str.mpr rfl)⟩)
  ·cases eq
 ·split at eq
  ·cases eq;rename_i hz;obtain⟨a,vs,ea,qa,ra⟩:=h1.lst gh;obtain⟨b,us,eb,qb,rb⟩:=h2.lst gh;refine .inr (.inr ⟨a,b,vs,us,ea,eb,qa,qb,?_,fun p hp=>q _ _ _ (Ext.alloc (p:=p) gh hp) ?_⟩)
   ·rw[← ra.length,← rb.length];exact yB hz bigE_le
   ·exact rep_lst.mpr ⟨p,_,rfl,upd_same,Reps.mono (.alloc (gh.free hp)) _ (ra.append rb)⟩
  ·cases eq
instance:DecidablePred fun p:Int×Int=>CMul p.1 p.2:=fun p=>by unfold CMul;infer_instance
noncomputable def oMul:D→D→Option D
 | .int i,.int j=>if (-(2 ^ 64)<i∧i<2 ^ 64)∨(-(2 ^ 64)<j∧j<2 ^ 64) then some (.int (i*j)) else none
 | .lst xs,.int k=>if (-(2 ^ 63)≤k∧k<2 ^ 63)∧xs.length*k.toNat≤bigE then some (.lst (List.replicate k.toNat xs).flatten) else none
 | _,_=>none
theorem od_mul:OpD X (binaryOp .Mult) oMul:=by
 refine OpR.imp (op_mul.or op_rep) fun x y H Q ⟨G,d1,d2,d,gh,h1,h2,eq,q⟩ =>?_
 cases d1<;>cases d2<;>simp only[oMul] at eq<;>try (cases eq;done)
 ·split at eq
  ·cases eq;rename_i hc;exact .inl ⟨_,_,h1.int,h2.int,hc,q _ G H (.refl gh) (rep_int.mpr rfl)⟩
  ·cases eq
 ·split at eq
  ·cases eq;rename_i hz;obtain⟨a,vs,ea,qa,ra⟩:=h1.lst gh;refine .inr ⟨a,_,vs,ea,h2.int,qa,hz.1.1,hz.1.2,?_,fun p hp=>q _ _ _ (Ext.alloc (p:=p) gh hp) ?_⟩
   ·rw[← ra.length];exact yB hz.2 bigE_le
   ·exact rep_lst.mpr ⟨p,_,rfl,upd_same,Reps.mono (.alloc (gh.free hp)) _ (ra.rep _)⟩
  ·cases eq
noncomputable def e1 (o:D→Option D) (a:DF):DF:=fun ρ=>(a ρ).bind o
theorem e1_some {o:D→Option D}{a:DF}{ρ:DEnv}{d:D}(h:e1 o a ρ=some d):∃ x,a ρ=some x∧o x=some d:=by
 unfold e1 at h;cases ea:a ρ with
 | none=>rw[ea] at h;cases h
 | some x=>rw[ea] at h;exact⟨x,rfl,h⟩
noncomputable def oNeg:D→Option D
 | .int i=>some (.int (-i))
 | _=>none
theorem de_neg {own:List Nat}{a:Expr}{fa:DF}{pos:Pos}(ha:PE X a (tQ X.K own fa)):PE X (.UnaryOp .USub a pos) (tP X.K own (e1 oNeg fa)):=(pe_un un_neg ha).imp fun σ H Q ⟨G,ρ,d,gh,env,eq,k⟩=>by
 obtain⟨x,ex,eo⟩:=e1_some eq;cases x<;>simp[oNeg] at eo
 subst eo;exact⟨G,ρ,_,gh,env,ex,fun v G1 H1 E1 r1=>⟨_,r1.int,k _ G1 H1 E1 (rep_int.mpr rfl)⟩⟩
end
end L2
end
noncomputable section
namespace L2
open PySem PySem.Spec PyProof.Rows
inductive DO where
 | nx (ρ:DEnv)|rt (d:D)|ro (ds:List D)|bk (ρ:DEnv)|ct (ρ:DEnv)
 | rm (d:D) (ρ:DEnv)
noncomputable abbrev DG:=DEnv→Option DO
structure Bs where
 g:Hp
 h:Hp
 pin:List (Nat×Addr)
structure SR (K:Frag) (B:Bs) (own:List Nat) (G H:Hp) (σ:St) (ρ:DEnv):Prop where
 gh:Same G H
 g0:Same B.1 G
 h0:Same B.2 H
 fr:∀ b o,G b=some o→B.1 b=some o∨B.2 b=none
 env:∀ (i:Nat) (d:D),i∉own→ρ[i]?=some (some d)→∃ v,σ[i]?=some (some v)∧Rep K G d v
 ownd:∀ (i:Nat) (d:D),i∈own→ρ[i]?=some (some d)→∃ a vs ds,d=.lst ds∧σ[i]?=some (some (.ref a))∧H a=some (.lst vs)∧Reps K G ds vs∧G a=none∧B.2 a=none
 inj:∀ (i j:Nat) (a:Addr),i∈own→j∈own→(∃ d,ρ[i]?=some (some d))→(∃ d,ρ[j]?=some (some d))→σ[i]?=some (some (.ref a))→σ[j]?=some (some (.ref a))→i=j
 len:σ.length=ρ.length
 pin:∀ (i:Nat) (a:Addr),(i,a)∈B.3→i∈own∧σ[i]?=some (some (.ref a))
noncomputable section
variable {K:Frag}{B:Bs}{own:List Nat}{G H G' H':Hp}{σ:St}{ρ:DEnv}
theorem SR.toExt (S:SR K B own G H σ ρ):Ext B.1 B.2 G H:=⟨S.h0,S.g0,S.gh,S.fr⟩
theorem SR.envR (S:SR K B own G H σ ρ):EnvR K own G H σ ρ:=⟨S.len,fun i d e=>by
 by_cases hi:i∈own
 ·obtain⟨a,vs,ds,e1,e2,e3,e4,_⟩:=S.ownd i d hi e;exact⟨_,e2,by rw[if_pos hi];exact .inr ⟨a,vs,ds,e1,rfl,e3,e4⟩⟩
 ·obtain⟨v,e1,e2⟩:=S.env i d hi e;exact⟨v,e1,by rw[if_neg hi];exact e2⟩⟩
theorem SR.ext (S:SR K B own G H σ ρ) (E:Ext G H G' H'):SR K B own G' H' σ ρ:=by
 refine⟨E.gh,S.g0.trans E.gg,S.h0.trans E.hh,fun b o e =>?_,fun i d hi e =>?_,fun i d hi e =>?_,S.inj,S.len,S.pin⟩
 ·rcases E.fr b o e with q|q
  ·exact S.fr b o q
  ·exact .inr (S.h0.free q)
 ·obtain⟨v,e1,e2⟩:=S.env i d hi e;exact⟨v,e1,Rep.mono E.gg d e2⟩
 ·obtain⟨a,vs,ds,e1,e2,e3,e4,e5,e6⟩:=S.ownd i d hi e;refine⟨a,vs,ds,e1,e2,E.hh _ _ e3,Reps.mono E.gg ds e4,?_,e6⟩;cases q:G' a with
  | none=>rfl
  | some o=>
   rcases E.fr a o q with z|z
   ·rw[e5] at z;cases z
   ·rw[e3] at z;cases z
theorem set_get {α:Type}{l:List (Option α)}{i j:Nat}{x y:α}(h:(l.set i (some x))[j]?=some (some y)):(i=j∧y=x∧i<l.length)∨(i≠j∧l[j]?=some (some y)):=by
 by_cases e:i=j
 ·subst e;by_cases hl:i<l.length
  ·rw[List.getElem?_set_self hl] at h;cases h;exact .inl ⟨rfl,rfl,hl⟩
  ·rw[List.getElem?_eq_none (by simpa using hl)] at h;cases h
 ·rw[zK e] at h;exact .inr ⟨e,h⟩
theorem get_set {α:Type}{l:List (Option α)}{i:Nat}{x:α}(h:i<l.length):(l.set i (some x))[i]?=some (some x):=by rw[List.getElem?_set_self h]
theorem SR.setS {i:Nat}{d:D}{v:V}(S:SR K B own G H σ ρ) (hi:i∉own) (r:Rep K G d v):SR K B own G H (σ.set i (some v)) (ρ.set i (some d)):=by
 have ne:∀ j,j∈own→i≠j:=fun j hj e=>hi (e ▸ hj)
 refine⟨S.gh,S.g0,S.h0,S.fr,fun j c hj e =>?_,fun j c hj e =>?_,fun j k a hj hk dj dk ej ek =>?_,by simp[S.len],fun j a h=>⟨(S.pin j a h).1,by rw[zK (ne j (S.pin j a h).1)];exact(S.pin j a h).2⟩⟩
 ·rcases set_get e with ⟨rfl,rfl,hl⟩|⟨hne,e⟩
  ·exact⟨v,get_set (by rw[S.len];exact hl),r⟩
  ·obtain⟨u,e1,e2⟩:=S.env j c hj e;exact⟨u,by rw[zK hne];exact e1,e2⟩
 ·rw[zK (ne j hj)] at e;obtain⟨a,vs,ds,e1,e2,e3⟩:=S.ownd j c hj e;exact⟨a,vs,ds,e1,by rw[zK (ne j hj)];exact e2,e3⟩
 ·rw[zK (ne j hj)] at dj ej;rw[zK (ne k hk)] at dk ek;exact S.inj j k a hj hk dj dk ej ek
theorem SR.setO {i:Nat}{ds:List D}{p:Addr}{vs:List V}(S:SR K B own G H σ ρ) (hi:i∈own) (E:Ext G H G' H') (hp:H p=none) (gp:G' p=none) (hv:H' p=some (.lst vs)) (r:Reps K G' ds vs) (hpin:∀ a,(i,a)∉B.3):SR K B own G' H' (σ.set i (some (.ref p))) (ρ.set i (some (.lst ds))):=by
 have S':=S.ext E;have nop:∀ j,j∈own→(∃ d,ρ[j]?=some (some d))→σ[j]?=some (some (.ref p))→False:=fun j hj ⟨d,dj⟩ ej=>by obtain⟨a,us,es,e1,e2,e3,_⟩:=S.ownd j d hj dj;rw[ej] at e2;cases e2;rw[hp] at e3;cases e3
 refine⟨S'.gh,S'.g0,S'.h0,S'.fr,fun j c hj e =>?_,fun j c hj e =>?_,fun j k a hj hk dj dk ej ek =>?_,by simp[S.len],fun j a h=>⟨(S.pin j a h).1,by
  have hij:i≠j:=fun z=>by subst z;exact hpin a h
  rw[zK hij];exact(S.pin j a h).2⟩⟩
 ·have hne:i≠j:=fun e=>hj (e ▸ hi)
  rw[zK hne] at e;obtain⟨u,e1,e2⟩:=S'.env j c hj e;exact⟨u,by rw[zK hne];exact e1,e2⟩
 ·rcases set_get e with ⟨rfl,rfl,hl⟩|⟨hne,e⟩
  ·exact⟨p,vs,ds,rfl,get_set (by rw[S.len];exact hl),hv,r,gp,S.h0.free hp⟩
  ·obtain⟨a,us,es,e1,e2,e3⟩:=S'.ownd j c hj e;exact⟨a,us,es,e1,by rw[zK hne];exact e2,e3⟩
 ·by_cases h1:i=j
  ·by_cases h2:i=k
   ·exact h1.symm.trans h2
   ·subst h1;rw[zK h2] at dk ek;obtain⟨d,dj⟩:=dj;rcases set_get dj with ⟨_,_,hl⟩|⟨z,_⟩
    ·rw[get_set (by rw[S.len];exact hl)] at ej;cases ej
     exact(nop k hk dk ek).elim
    ·exact absurd rfl z
  ·rw[zK h1] at dj ej;by_cases h2:i=k
   ·subst h2;obtain⟨d,dk⟩:=dk;rcases set_get dk with ⟨_,_,hl⟩|⟨z,_⟩
    ·rw[get_set (by rw[S.len];exact hl)] at ek;cases ek
     exact(nop j hj dj ej).elim
    ·exact absurd rfl z
   ·rw[zK h2] at dk ek;exact S.inj j k a hj hk dj dk ej ek
theorem SR.mut {i:Nat}{a:Addr}{ds ds':List D}{vs':List V}(S:SR K B own G H σ ρ) (hi:i∈own) (hd:ρ[i]?=some (some (.lst ds))) (hs:σ[i]?=some (some (.ref a))) (r:Reps K G ds' vs'):SR K B own G (upd H a (.lst vs')) σ (ρ.set i (some (.lst ds'))):=by
 obtain⟨a',us,es,e1,e2,e3,e4,e5,e6⟩:=S.ownd i _ hi hd;rw[hs] at e2;cases e2;refine⟨fun b o e =>?_,S.g0,fun b o e =>?_,S.fr,fun j c hj e =>?_,fun j c hj e =>?_,fun j k b hj hk dj dk ej ek =>?_,by simp[S.len],S.pin⟩
 ·rw[upd_ne (ne_of_none e e5)];exact S.gh _ _ e
 ·rw[upd_ne (ne_of_none e e6)];exact S.h0 _ _ e
 ·have hne:i≠j:=fun e=>hj (e ▸ hi)
  rw[zK hne] at e;exact S.env j c hj e
 ·rcases set_get e with ⟨rfl,rfl,hl⟩|⟨hne,e⟩
  ·exact⟨a,vs',ds',rfl,hs,upd_same,r,e5,e6⟩
  ·obtain⟨b,ws,fs,f1,f2,f3,f4⟩:=S.ownd j c hj e;refine⟨b,ws,fs,f1,f2,?_,f4⟩;have:b≠a:=fun z=>hne (S.inj i j a hi hj ⟨_,hd⟩ ⟨_,e⟩ hs (z ▸ f2))
   rw[upd_ne this];exact f3
 ·have un:∀ m:Nat,(∃ d,(ρ.set i (some (D.lst ds')))[m]?=some (some d))→∃ d,ρ[m]?=some (some d):=fun m ⟨d,e⟩=>by
   rcases set_get e with ⟨rfl,_,_⟩|⟨_,e⟩
   ·exact⟨_,hd⟩
   ·exact⟨_,e⟩
  exact S.inj j k b hj hk (un j dj) (un k dk) ej ek
theorem SR.freeze {own':List Nat}(S:SR K B own G H σ ρ) (sub:∀ j∈own',j∈own) (i:Nat) (hi:∀ j∈own,j∈own'∨j=i) (hn:i∉own') (hio:i∈own) (hpin:∀ a,(i,a)∉B.3):∃ G',SR K B own' G' H σ ρ:=by
 have pin':∀ (j:Nat) (a:Addr),(j,a)∈B.3→j∈own'∧σ[j]?=some (some (.ref a)):=fun j a h=>⟨by
  rcases hi j (S.pin j a h).1 with z|z
  ·exact z
  ·subst z;exact absurd h (hpin a),(S.pin j a h).2⟩
 by_cases hd:∃ d,ρ[i]?=some (some d)
 ·obtain⟨d,hd⟩:=hd;obtain⟨a,vs,ds,rfl,e2,e3,e4,e5,e6⟩:=S.ownd i d hio hd;have mono:Same G (upd G a (.lst vs)) :=.alloc e5;refine⟨upd G a (.lst vs),fun b o e =>?_,S.g0.trans mono,S.h0,fun b o e =>?_,fun j c hj e =>?_,fun j c hj e =>?_,fun j k b hj hk=>S.inj j k b (sub j hj) (sub k hk),S.len,pin'⟩
  ·by_cases hb:b=a
   ·subst hb;rw[upd_same] at e;cases e;exact e3
   ·rw[upd_ne hb] at e;exact S.gh _ _ e
  ·by_cases hb:b=a
   ·subst hb;exact .inr e6
   ·rw[upd_ne hb] at e;exact S.fr _ _ e
  ·by_cases hj':j∈own
   ·rcases hi j hj' with z|z
    ·exact absurd z hj
    ·subst z;rw[hd] at e;cases e;exact⟨_,e2,rep_lst.mpr ⟨a,vs,rfl,upd_same,Reps.mono mono ds e4⟩⟩
   ·obtain⟨u,f1,f2⟩:=S.env j c hj' e;exact⟨u,f1,Rep.mono mono c f2⟩
  ·obtain⟨b,us,es,f1,f2,f3,f4,f5,f6⟩:=S.ownd j c (sub j hj) e;refine⟨b,us,es,f1,f2,f3,Reps.mono mono es f4,?_,f6⟩;have:b≠a:=fun z=>by have:=S.inj i j a hio (sub j hj) ⟨_,hd⟩ ⟨_,e⟩ e2 (z ▸ f2);exact hn (this ▸ hj)
   rw[upd_ne this];exact f5
 ·refine⟨G,S.gh,S.g0,S.h0,S.fr,fun j c hj e =>?_,fun j c hj e=>S.ownd j c (sub j hj) e,fun j k b hj hk=>S.inj j k b (sub j hj) (sub k hk),S.len,pin'⟩
  by_cases hj':j∈own
  ·rcases hi j hj' with z|z
   ·exact absurd z hj
   ·subst z;exact absurd ⟨c,e⟩ hd
  ·exact S.env j c hj' e
end
noncomputable def DEnd (K:Frag) (B:Bs) (oL own:List Nat) (D':Ends):DO→Prop
 | .nx ρ=>∀ σ G H,SR K B own G H σ ρ→D'.nx σ H
 | .rt d=>∀ v G H,Ext B.1 B.2 G H→Rep K G d v→D'.rt v H
 | .ro ds=>∀ a vs G H,Ext B.1 B.2 G H→B.2 a=none→G a=none→H a=some (.lst vs)→Reps K G ds vs→D'.rt (.ref a) H
 | .bk ρ=>∀ σ G H,SR K B oL G H σ ρ→D'.bk σ H
 | .ct ρ=>∀ σ G H,SR K B oL G H σ ρ→D'.ct σ H
 | .rm d ρ=>∀ v σ G H,(∃ own',SR K B own' G H σ ρ)→Rep K G d v→D'.rt v H
noncomputable def tDS (K:Frag) (B:Bs) (oL own own':List Nat) (g:DG):TS:=fun D' σ H=>∃ G ρ o,SR K B own G H σ ρ∧g ρ=some o∧DEnd K B oL own' D' o
noncomputable section
variable {X:Cx}{B:Bs}{oL own own1 own2:List Nat}{g h:DG}{st:Stmt}{rest:List Stmt}{e:Expr}{pos:Pos}
noncomputable def sNil:DG:=fun ρ=>some (.nx ρ)
theorem dss_nil:PSs X [] (tDS X.K B oL own own sNil):=pss_nil.imp fun D σ H ⟨G,ρ,o,S,eq,k⟩=>by cases eq;exact k σ G H S
noncomputable def sSeq (g h:DG):DG:=fun ρ=>(g ρ).bind fun o=>match o with|.nx ρ'=>h ρ'|o=>some o
theorem seq_of {K:Frag}{D':Ends}{σ:St}{H:Hp}(q:tDS K B oL own own2 (sSeq g h) D' σ H):tDS K B oL own own1 g { D' with nx:=fun σ H=>tDS K B oL own1 own2 h D' σ H } σ H:=by
 obtain⟨G,ρ,o,S,eq,k⟩:=q;unfold sSeq at eq;cases eg:g ρ with
 | none=>rw[eg] at eq;cases eq
 | some o1=>
  rw[eg] at eq;refine⟨G,ρ,o1,S,eg,?_⟩;cases o1 with
  | nx ρ'=>exact fun σ' G' H' S'=>⟨G',ρ',o,S',eq,k⟩
  | rt d=>cases eq;exact k
  | ro d=>cases eq;exact k
  | bk d=>cases eq;exact k
  | ct d=>cases eq;exact k
  | rm d ρ=>cases eq;exact k
theorem dss_cons (h1:PS X st (tDS X.K B oL own own1 g)) (h2:PSs X rest (tDS X.K B oL own1 own2 h)):PSs X (st::rest) (tDS X.K B oL own own2 (sSeq g h)):=(pss_cons h1 h2).imp fun D σ H q=>seq_of q
theorem dss_one (h1:PS X st (tDS X.K B oL own own1 g)):PSs X [st] (tDS X.K B oL own own1 g):=pss_one h1
noncomputable def sSet (i:Nat) (f:DF):DG:=fun ρ=>(f ρ).map fun d =>.nx (ρ.set i (some d))
theorem ds_set {i:Nat}{x:Str}{f:DF}{pos':Pos}(hN:X.N.Nodup) (hi:X.N[i]?=some x) (hx:Loc X.env.scope x) (he:PE X e (tP X.K own f)) (ho:i∉own:=by decide)
  (hs:swapsWith e (some (.Name x pos')) pos.line X.env=pure false:=by rfl) (hf:X.fn x=true∨X.env.scope.names.lookup x=some .local:=by first|exact .inl rfl|exact .inr rfl|assumption) :
  PS X (.Assign [.Name x pos'] e pos) (tDS X.K B oL own own (sSet i f)):=(ps_set hN hi hx he hs hf).imp fun D σ H ⟨G,ρ,o,S,eq,k⟩=>by
 unfold sSet at eq;cases ef:f ρ with
 | none=>rw[ef] at eq;cases eq
 | some d=>rw[ef] at eq;cases eq;exact⟨G,ρ,d,S.gh,S.envR,ef,fun v G' H' E r=>k _ G' H' ((S.ext E).setS ho r)⟩
noncomputable def sSetO (i:Nat) (f:DL):DG:=fun ρ=>(f ρ).map fun ds =>.nx (ρ.set i (some (.lst ds)))
theorem ds_setO {i:Nat}{x:Str}{f:DL}{pos':Pos}(hN:X.N.Nodup) (hi:X.N[i]?=some x) (hx:Loc X.env.scope x) (he:PE X e (tF X.K own f)) (ho:i∈own:=by decide) (hpin:∀ a,(i,a)∉B.3:=by intro a;simp_all)
  (hs:swapsWith e (some (.Name x pos')) pos.line X.env=pure false:=by rfl) (hf:X.fn x=true∨X.env.scope.names.lookup x=some .local:=by first|exact .inl rfl|exact .inr rfl|assumption) :
  PS X (.Assign [.Name x pos'] e pos) (tDS X.K B oL own own (sSetO i f)):=(ps_set hN hi hx he hs hf).imp fun D σ H ⟨G,ρ,o,S,eq,k⟩=>by
 unfold sSetO at eq;cases ef:f ρ with
 | none=>rw[ef] at eq;cases eq
 | some ds=>rw[ef] at eq;cases eq;exact⟨G,ρ,ds,S.gh,S.envR,ef,fun p vs G' H' E hp gp hv r=>k _ G' H' (S.setO ho E hp gp hv r hpin)⟩
noncomputable def sRet (f:DF):DG:=fun ρ=>(f ρ).map .rt
theorem ds_ret {f:DF}(he:PE X e (tP X.K own f)):PS X (.Return (some e) pos) (tDS X.K B oL own own1 (sRet f)):=(ps_ret he).imp fun D σ H ⟨G,ρ,o,S,eq,k⟩=>by
 unfold sRet at eq;cases ef:f ρ with
 | none=>rw[ef] at eq;cases eq
 | some d=>rw[ef] at eq;cases eq;exact⟨G,ρ,d,S.gh,S.envR,ef,fun v G' H' E r=>k v G' H' (S.toExt.trans E) r⟩
noncomputable def sRetF (f:DL):DG:=fun ρ=>(f ρ).map .ro
theorem ds_retF {f:DL}(he:PE X e (tF X.K own f)):PS X (.Return (some e) pos) (tDS X.K B oL own own1 (sRetF f)):=(ps_ret he).imp fun D σ H ⟨G,ρ,o,S,eq,k⟩=>by
 unfold sRetF at eq;cases ef:f ρ with
 | none=>rw[ef] at eq;cases eq
 | some d=>rw[ef] at eq;cases eq;exact⟨G,ρ,d,S.gh,S.envR,ef,fun p vs G' H' E hp gp hv r=>k p vs G' H' (S.toExt.trans E) (S.h0.free hp) gp hv r⟩
noncomputable def sRetO (i:Nat):DG:=fun ρ=>(eV i ρ).bind fun d=>match d with|.lst ds=>some (.ro ds)|_=>none
theorem ds_retO {i:Nat}{x:Str}{p:Pos}(h:PE X (.Name x p) (tVar i)) (hi:i∈own:=by decide):PS X (.Return (some (.Name x p)) pos) (tDS X.K B oL own own1 (sRetO i)):=(ps_ret h).imp fun D σ H ⟨G,ρ,o,S,eq,k⟩=>by
 unfold sRetO at eq;cases ef:eV i ρ with
 | none=>rw[ef] at eq;cases eq
 | some d=>rw[ef] at eq;obtain⟨a,vs,ds,rfl,e2,e3,e4,e5,e6⟩:=S.ownd i d hi (eV_some ef);cases eq;exact⟨_,e2,k a vs G H S.toExt e6 e5 e3 e4⟩
noncomputable def sIf (f:DT) (g h:DG):DG:=fun ρ=>(f ρ).bind fun b=>if b=true then g ρ else h ρ
theorem ds_if {c:Expr}{a b:List Stmt}{f:DT}(hc:PT X c (tPT X.K own f)) (ha:PSs X a (tDS X.K B oL own own1 g)) (hb:PSs X b (tDS X.K B oL own own1 h)):PS X (.If c a b pos) (tDS X.K B oL own own1 (sIf f g h)):=(ps_if hc ha hb).imp fun D σ H ⟨G,ρ,o,S,eq,k⟩=>by
 unfold sIf at eq;cases ef:f ρ with
 | none=>rw[ef] at eq;cases eq
 | some c=>
  rw[ef] at eq;refine⟨G,ρ,c,S.gh,S.envR,ef,fun G1 H1 E1 =>?_⟩
  cases c with
  | true=>exact iteT ⟨G1,ρ,o,S.ext E1,eq,k⟩
  | false=>exact iteF ⟨G1,ρ,o,S.ext E1,eq,k⟩
noncomputable def lstAt (i:Nat) (ρ:DEnv):Option (List D):=(eV i ρ).bind fun d=>match d with|.lst ds=>some ds|_=>none
theorem lstAt_some {i:Nat}{ρ:DEnv}{ds:List D}(h:lstAt i ρ=some ds):ρ[i]?=some (some (.lst ds)):=by
 unfold lstAt at h;cases ef:eV i ρ with
 | none=>rw[ef] at h;cases h
 | some d=>rw[ef] at h;have:=eV_some ef;cases d<;>first|(cases h;exact this)|cases h
theorem SR.ownL {K:Frag}{G H:Hp}{σ:St}{ρ:DEnv}{i:Nat}{ds:List D}(S:SR K B own G H σ ρ) (hi:i∈own) (h:ρ[i]?=some (some (.lst ds))):∃ a vs,σ[i]?=some (some (.ref a))∧H a=some (.lst vs)∧Reps K G ds vs∧G a=none∧B.2 a=none:=by
 obtain⟨a,vs,es,e1,e2,e3⟩:=S.ownd i _ hi h;cases e1;exact⟨a,vs,e2,e3⟩
noncomputable def sApp (i:Nat) (f:DF):DG:=fun ρ=>(lstAt i ρ).bind fun ds=>(f ρ).bind fun d=>if ds.length<bigE then some (.nx (ρ.set i (some (.lst (ds++[d]))))) else none
theorem ds_app {i:Nat}{x:Str}{p apos cpos:Pos}{f:DF}(h:PE X (.Name x p) (tVar i)) (he:PE X e (tP X.K own f)) (hi:i∈own:=by decide)
  (hbase:attributeBase (.Name x p) "append" X.env (eval (.Name x p) X.env)=eval (.Name x p) X.env:=by rfl)
  (hfew:((backTo cpos (starEach (e::[]) X.env)).all (fun x=> !x.1)&&(backToKw cpos (keywordEach [] X.env)).all (fun x=>x.1.isSome)
   && decide ((e::[]).length+([]:List Keyword).length+(if ([]:List Keyword).isEmpty then 0 else 1)<30))=true:=by rfl)
  (hline:(apos.endLine==cpos.line)=true:=by rfl) (hs:starEach (e::[]) X.env=(false,eval e X.env)::starEach [] X.env:=by rfl) (hplain:(backTo cpos (starEach [] X.env)).any (·.1)=false:=by rfl)
  (hsw:swapsWith (.Call (.Attribute (.Name x p) "append" apos) [e] [] cpos) none pos.line X.env=pure false:=by rfl) :
  PS X (.Expr (.Call (.Attribute (.Name x p) "append" apos) [e] [] cpos) pos) (tDS X.K B oL own own (sApp i f)):=
 (ps_expr (pe_bm plainAttrs_list PySem.F.slot_list_append PySem.F.type_list_append mt_append h (pa_cons he pa_nil hs) hbase hfew hline hs hplain) hsw).imp fun D σ H ⟨G,ρ,o,S,eq,k⟩=>by
  unfold sApp at eq;cases el:lstAt i ρ with
  | none=>rw[el] at eq;cases eq
  | some ds=>
   rw[el] at eq;cases ef:f ρ with
   | none=>simp[ef] at eq
   | some d=>
    simp only[ef,zA] at eq
    split at eq
    ·cases eq;rename_i hz;have hd:=lstAt_some el;obtain⟨a,vs,e2,e3,e4,e5,e6⟩:=S.ownL hi hd;refine⟨_,e2,.inl ⟨rfl,vs,.of e3⟩,G,ρ,d,S.gh,S.envR,ef,fun v G' H' E r =>?_⟩
     have S':=S.ext E;obtain⟨a',vs',f2,f3,f4,_⟩:=S'.ownL hi hd;rw[e2] at f2;cases f2;refine⟨a,vs',v,rfl,rfl,f3,?_,k _ G' _ (S'.mut hi hd e2 (f4.append (.cons r .nil)))⟩;rw[← f4.length];exact zS hz bigE_le
    ·cases eq
noncomputable def sPop (i j:Nat):DG:=fun ρ=>(lstAt j ρ).bind fun ds=>(ds[ds.length-1]?).map fun d =>.nx ((ρ.set j (some (.lst ds.dropLast))).set i (some d))
theorem pop_of {K:Frag}{j:Nat}{ds:List D}{d:D}{σ:St}{H G:Hp}{ρ:DEnv}{Q:VK}(S:SR K B own G H σ ρ) (hj:j∈own) (hd:ρ[j]?=some (some (.lst ds))) (hl:ds[ds.length-1]?=some d)
  (k:∀ v H',SR K B own G H' σ (ρ.set j (some (.lst ds.dropLast)))→Rep K G d v→Q v H'):tBM0 K "list" rPop (tVar j) σ H Q:=by
 obtain⟨a,vs,e2,e3,e4,e5,e6⟩:=S.ownL hj hd;obtain⟨v,ev,rv⟩:=e4.get hl;rw[e4.length] at ev;exact⟨_,e2,.inl ⟨rfl,vs,.of e3⟩,a,vs,v,rfl,rfl,e3,ev,k v _ (S.mut hj hd e2 e4.dropLast) rv⟩
theorem ds_popset {i j:Nat}{x y:Str}{p p' apos cpos:Pos}(hN:X.N.Nodup) (hx:X.N[i]?=some x) (hlx:Loc X.env.scope x) (h:PE X (.Name y p) (tVar j)) (hi:i∉own:=by decide) (hj:j∈own:=by decide)
  (hbase:attributeBase (.Name y p) "pop" X.env (eval (.Name y p) X.env)=eval (.Name y p) X.env:=by rfl) (hline:(apos.endLine==cpos.line)=true:=by rfl)
  (hs:swapsWith (.Call (.Attribute (.Name y p) "pop" apos) [] [] cpos) (some (.Name x p')) pos.line X.env=pure false:=by rfl) (hf:X.fn x=true∨X.env.scope.names.lookup x=some .local:=by first|exact .inl rfl|exact .inr rfl|assumption) :
  PS X (.Assign [.Name x p'] (.Call (.Attribute (.Name y p) "pop" apos) [] [] cpos) pos) (tDS X.K B oL own own (sPop i j)):=
 (ps_set hN hx hlx (pe_bm0 plainAttrs_list PySem.F.slot_list_pop PySem.F.type_list_pop mt_pop h hbase hline) hs hf).imp fun D σ H ⟨G,ρ,o,S,eq,k⟩=>by
  unfold sPop at eq;cases el:lstAt j ρ with
  | none=>rw[el] at eq;cases eq
  | some ds=>
   rw[el] at eq;cases ed:ds[ds.length-1]? with
   | none=>simp[ed] at eq
   | some d=>simp only[ed,zA,zT] at eq;cases eq;exact pop_of S hj (lstAt_some el) ed fun v H' S' r=>k _ G H' (S'.setS hi r)
noncomputable def sExtend (i:Nat) (f:DF):DG:=fun ρ=>(lstAt i ρ).bind fun ds=>(f ρ).bind fun d=>match d with|.lst es=>if ds.length+es.length≤bigE then some (.nx (ρ.set i (some (.lst (ds++es))))) else none|_=>none
theorem ds_extend {i:Nat}{x:Str}{p apos cpos:Pos}{f:DF}(h:PE X (.Name x p) (tVar i)) (he:PE X e (tP X.K own f)) (hi:i∈own:=by decide)
  (hbase:attributeBase (.Name x p) "extend" X.env (eval (.Name x p) X.env)=eval (.Name x p) X.env:=by rfl)
  (hfew:((backTo cpos (starEach (e::[]) X.env)).all (fun x=> !x.1)&&(backToKw cpos (keywordEach [] X.env)).all (fun x=>x.1.isSome)
   && decide ((e::[]).length+([]:List Keyword).length+(if ([]:List Keyword).isEmpty then 0 else 1)<30))=true:=by rfl)
  (hline:(apos.endLine==cpos.line)=true:=by rfl) (hs:starEach (e::[]) X.env=(false,eval e X.env)::starEach [] X.env:=by rfl) (hplain:(backTo cpos (starEach [] X.env)).any (·.1)=false:=by rfl)
  (hsw:swapsWith (.Call (.Attribute (.Name x p) "extend" apos) [e] [] cpos) none pos.line X.env=pure false:=by rfl) :
  PS X (.Expr (.Call (.Attribute (.Name x p) "extend" apos) [e] [] cpos) pos) (tDS X.K B oL own own (sExtend i f)):=
 (ps_expr (pe_bm plainAttrs_list PySem.F.slot_list_extend PySem.F.type_list_extend mt_extend h (pa_cons he pa_nil hs) hbase hfew hline hs hplain) hsw).imp fun D σ H ⟨G,ρ,o,S,eq,k⟩=>by
  unfold sExtend at eq;cases el:lstAt i ρ with
  | none=>rw[el] at eq;cases eq
  | some ds=>
   rw[el] at eq;cases ef:f ρ with
   | none=>simp[ef] at eq
   | some d=>
    simp only[ef,zA] at eq;cases d<;>simp only at eq<;>try (cases eq;done)
    split at eq
    ·cases eq;rename_i es hz;have hd:=lstAt_some el;obtain⟨a,vs,e2,e3,e4,e5,e6⟩:=S.ownL hi hd;refine⟨_,e2,.inl ⟨rfl,vs,.of e3⟩,G,ρ,_,S.gh,S.envR,ef,fun v G' H' E r =>?_⟩
     have S':=S.ext E;obtain⟨a',vs',f2,f3,f4,_⟩:=S'.ownL hi hd;rw[e2] at f2;cases f2;obtain⟨b,us,rfl,gb,rb⟩:=rep_lst.mp r;refine⟨a,b,vs',us,rfl,rfl,f3,S'.gh _ _ gb,?_,k _ G' _ (S'.mut hi hd e2 (f4.append rb))⟩;rw[← f4.length,← rb.length];exact yB hz bigE_le
    ·cases eq
noncomputable def sItem (j:Nat) (fi fe:DF):DG:=fun ρ=>(fe ρ).bind fun d=>(lstAt j ρ).bind fun ds=>(fi ρ).bind fun k=>match k with|.int k=>(ixN ds.length k).map fun n =>.nx (ρ.set j (some (.lst (ds.set n d))))|_=>none
theorem ds_item {j:Nat}{x:Str}{p spos:Pos}{ei:Expr}{fi fe:DF}(h:PE X (.Name x p) (tVar j)) (hei:PE X ei (tQ X.K own fi)) (he:PE X e (tP X.K own fe)) (hj:j∈own:=by decide)
  (hg:∀ {to ti:TE},PE X (.Name x p) to→PE X ei ti→PG X (.Subscript (.Name x p) ei spos) (gSub to ti rSetL):=by intro to ti h1 h2;exact pg_sub h1 h2 set_list)
  (hs:swapsWithSole [.Subscript (.Name x p) ei spos] e pos.line X.env=pure false:=by rfl) (hw:swappedStores [.Subscript (.Name x p) ei spos] e X.env=pure none:=by rfl) :
  PS X (.Assign [.Subscript (.Name x p) ei spos] e pos) (tDS X.K B oL own own (sItem j fi fe)):=
 (ps_asg he (hg h hei) hs hw).imp fun D σ H ⟨G,ρ,o,S,eq,k⟩=>by
  unfold sItem at eq;cases ef:fe ρ with
  | none=>rw[ef] at eq;cases eq
  | some d=>
   rw[ef] at eq;cases el:lstAt j ρ with
   | none=>simp[el] at eq
   | some ds=>
    cases ei':fi ρ with
    | none=>simp[el,ei'] at eq
    | some kk=>
     simp only[el,ei',zA] at eq;cases kk<;>simp only at eq<;>try (cases eq;done)
     rename_i kk;cases en:ixN ds.length kk with
     | none=>simp[en] at eq
     | some n=>
      simp only[en,zT] at eq;cases eq;have hd:=lstAt_some el;refine⟨G,ρ,d,S.gh,S.envR,ef,fun v G' H' E r =>?_⟩
      have S':=S.ext E;obtain⟨a,vs,e2,e3,e4,e5,e6⟩:=S'.ownL hj hd;refine⟨_,e2,G',ρ,_,S'.gh,S'.envR,ei',fun u G2 H2 E2 r2 =>?_⟩
      have S2:=S'.ext E2;obtain⟨a',vs',f2,f3,f4,_⟩:=S2.ownL hj hd;rw[e2] at f2;cases f2;exact⟨a,vs',kk,n,rfl,r2.int,f3,by rw[← f4.length];exact en,k _ G2 _ (S2.mut hj hd e2 (f4.set n (Rep.mono E2.gg d r)))⟩
end
end L2
end
noncomputable section
namespace L2
open PySem PySem.Spec PyProof.Rows
noncomputable section
variable {X:Cx}{own:List Nat}{a b e:Expr}{fa fb f:DF}{pos:Pos}
theorem IxR.imp {r r':R2}(h:IxR X r) (k:∀ x y H Q,r' x y H Q→r x y H Q):IxR X r':=fun value slice pins s σ H x y v u Q I rx ry q hs=>h value slice pins s σ H x y v u Q I rx ry (k _ _ _ _ q) hs
theorem PO.imp {e:Option Expr}{t t':TO}(h:PO X e t) (k:∀ σ H Q,t' σ H Q→t σ H Q):PO X e t':=fun pins s σ H Q I q=>h pins s σ H Q I (k _ _ _ q)
theorem CallR.imp {c:Value}{r r':List V→Hp→VK→Prop}(h:CallR X c r) (k:∀ xs H Q,r' xs H Q→r xs H Q):CallR X c r':=fun pins s σ H xs us Q I rv q=>h pins s σ H xs us Q I rv (k _ _ _ q)
theorem Reps.atI {K:Frag}{G:Hp}{ds:List D}{vs:List V}{i:Int}{d:D}(r:Reps K G ds vs) (h:atI ds i=some d):∃ v,L2.atI vs i=some v∧Rep K G d v:=by
 unfold L2.atI at h ⊢;rw[← r.length];cases e:ixN ds.length i with
 | none=>rw[e] at h;cases h
 | some j=>rw[e] at h;exact r.get h
theorem atI_map {α β:Type}(g:α→β) (xs:List α) (i:Int):atI (xs.map g) i=(atI xs i).map g:=by
 unfold atI;rw[zH];cases ixN xs.length i with
 | none=>rfl
 | some j=>simp[zM]
noncomputable def oIx:D→D→Option D
 | .lst xs,.int i=>atI xs i
 | .tup xs,.int i=>atI xs i
 | .scr ns,.int i=>(atI ns i).map .int
 | .str x,.int i=>if x.length≤bigE then (atI x.cps.toList i).map fun c =>.str ⟨#[c]⟩ else none
 | _,_=>none
theorem xd_seq:IxR X (rD X.K oIx):=by
 refine IxR.imp ix_seq fun x y H Q ⟨G,d1,d2,d,gh,h1,h2,eq,q⟩ =>?_
 cases d1<;>cases d2<;>simp only[oIx] at eq<;>try (cases eq;done)
 ·split at eq
  ·rename_i z i hz;cases ei:atI z.cps.toList i with
   | none=>rw[ei] at eq;cases eq
   | some c=>rw[ei] at eq;cases eq;exact .inr (.inr ⟨z,i,c,h1.str,h2.int,yB hz bigE_le,ei,q _ G H (.refl gh) (rep_str.mpr rfl)⟩)
  ·cases eq
 ·obtain⟨p,vs,ea,qa,ra⟩:=h1.lst gh;obtain⟨v,ev,rv⟩:=ra.atI eq;exact .inl ⟨p,vs,_,v,ea,h2.int,.of qa,ev,q _ G H (.refl gh) rv⟩
 ·obtain⟨p,vs,ea,qa,ra⟩:=h1.tup gh;obtain⟨v,ev,rv⟩:=ra.atI eq;exact .inr (.inl ⟨p,vs,_,v,ea,h2.int,.of qa,ev,q _ G H (.refl gh) rv⟩)
 ·rename_i ns i;obtain⟨p,ea,qa⟩:=h1.scr gh;cases ei:atI ns i with
  | none=>rw[ei] at eq;cases eq
  | some c=>rw[ei] at eq;cases eq;exact .inl ⟨p,_,_,.int c,ea,h2.int,qa,by rw[atI_map,ei];rfl,q _ G H (.refl gh) (rep_int.mpr rfl)⟩
theorem de_ix (ha:PE X a (tQ X.K own fa)) (hb:PE X b (tQ X.K own fb)) (hs:PlainIx b:=by exact fun _ _=>rfl):PE X (.Subscript a b pos) (tP X.K own (e2 oIx fa fb)):=(pe_ix xd_seq ha hb hs).imp fun σ H Q h=>rd_of h
noncomputable abbrev DP:=DEnv→Option (Option Int)
noncomputable def pN:DP:=fun _=>some none
noncomputable def pS (f:DF):DP:=fun ρ=>(f ρ).bind fun d=>match d with|.int i=>some (some i)|_=>none
theorem pS_some {f:DF}{ρ:DEnv}{o:Option Int}(h:pS f ρ=some o):∃ i,f ρ=some (.int i)∧o=some i:=by
 unfold pS at h;cases e:f ρ with
 | none=>rw[e] at h;cases h
 | some d=>rw[e] at h;cases d<;>first|(cases h;exact⟨_,rfl,rfl⟩)|cases h
noncomputable def tPO (K:Frag) (own:List Nat) (f:DP):TO:=fun σ H Q=>∃ G ρ o,Same G H∧EnvR K own G H σ ρ∧f ρ=some o∧∀ G' H',Ext G H G' H'→Q o H'
theorem dpo_none:PO X none (tPO X.K own pN):=po_none.imp fun σ H Q ⟨G,ρ,o,gh,env,eq,k⟩=>by cases eq;exact k G H (.refl gh)
theorem dpo_some (h:PE X e (tQ X.K own f)):PO X (some e) (tPO X.K own (pS f)):=(po_some h).imp fun σ H Q ⟨G,ρ,o,gh,env,eq,k⟩=>by
 obtain⟨i,ei,rfl⟩:=pS_some eq;exact⟨G,ρ,_,gh,env,ei,fun v G1 H1 E1 r1=>⟨i,r1.int,k G1 H1 E1⟩⟩
noncomputable def cut {α:Type}(xs:List α) (lo hi:Option Int):List α:=(xs.drop (HT.sIx xs.length 0 lo)).take (HT.sIx xs.length xs.length hi-HT.sIx xs.length 0 lo)
theorem Reps.cut {K:Frag}{G:Hp}{ds:List D}{vs:List V}(r:Reps K G ds vs) (lo hi:Option Int):Reps K G (cut ds lo hi) (cutV vs lo hi):=by
 unfold L2.cut cutV;rw[← r.length];exact(r.drop _).take _
noncomputable def fSl (f:DF) (lo hi:DP):DL:=fun ρ=>(f ρ).bind fun d=>(lo ρ).bind fun l=>(hi ρ).bind fun h=>match d with|.lst xs=>some (cut xs l h)|.scr ns=>some ((cut ns l h).map D.int)|_=>none
variable {lo hi:Option Expr}{l h:DP}{p2:Pos}
theorem de_slL (he:PE X e (tQ X.K own f)) (hl:PO X lo (tPO X.K own l)) (hu:PO X hi (tPO X.K own h)):PE X (.Subscript e (.Slice lo hi none p2) pos) (tF X.K own (fSl f l h)):=(pe_slice sl_list he hl hu).imp fun σ H Q ⟨G,ρ,ds,gh,env,eq,k⟩=>by
 unfold fSl at eq;cases ef:f ρ with
 | none=>rw[ef] at eq;cases eq
 | some d=>
  cases el:l ρ with
  | none=>simp[ef,el] at eq
  | some lv=>
   cases eh:h ρ with
   | none=>simp[ef,el,eh] at eq
   | some hv=>
    simp only[ef,el,eh,zA] at eq;refine⟨G,ρ,d,gh,env,ef,fun v G1 H1 E1 r1=>⟨G1,ρ,lv,E1.gh,env.ext E1,el,fun G2 H2 E2=>⟨G2,ρ,hv,E2.gh,(env.ext E1).ext E2,eh,fun G3 H3 E3 =>?_⟩⟩⟩
    have E:=(E1.trans E2).trans E3;have r3:=r1.ext (E2.trans E3);cases d<;>simp only at eq<;>try (cases eq;done)
    ·cases eq;obtain⟨p,vs,ea,qa,ra⟩:=r3.lst E3.gh;exact⟨p,vs,ea,.of qa,fun q hq=>k q _ G3 _ (E.trans (Ext.lay (p:=q) E3.gh hq)) (E.hh.free hq) (E3.gh.free hq) upd_same (ra.cut _ _)⟩
    ·cases eq;rename_i ns;obtain⟨p,ea,qa⟩:=r3.scr E3.gh;refine⟨p,_,ea,qa,fun q hq=>k q _ G3 _ (E.trans (Ext.lay (p:=q) E3.gh hq)) (E.hh.free hq) (E3.gh.free hq) upd_same ?_⟩
     have:cutV (ns.map V.int) lv hv=(cut ns lv hv).map V.int:=by unfold cutV cut;rw[zH,← List.map_drop,← List.map_take]
     rw[this];exact Reps.ints _
theorem sl_str:SlR X (fun x lo hi H Q=>∃ z,x=.str z∧z.length≤sizeLine∧Q (.str (Txt.slice z lo hi)) H):=by
 intro pins s σ H x v vl vu lo hi sl Q I rx hs pl pu ⟨z,ez,hz,q⟩;subst ez;obtain⟨t,rfl⟩:=rx;refine⟨"str",_,F.slot_str_getitem.lookup,typeIs_str _ _ _,?_⟩;have fin:∀ (l u:Option (Int×Tok)),vl=partValue l→vu=partValue u→l.map (·.1)=lo→u.map (·.1)=hi→wpAny (model X.prog X.w) X.A (getItem (.str z t) (.ref sl)) (EP X pins σ Q) X.xe s:=fun l u e1 e2 e3 e4=>by subst e1 e2 e3 e4;exact wpAny_getItem_str_slice (l:=l) (u:=u) (st:=none) hs rfl (post_val_or_str ⟨yB (Txt.slice_le z _ _) hz,fun t' k=>⟨.str _,H,I.tok _,⟨_,rfl⟩,q⟩⟩)
 cases pl with
 | none=>
  cases pu with
  | none=>exact fin none none rfl rfl rfl rfl
  | int j u=>exact fin none (some (j,u)) rfl rfl rfl rfl
 | int i t1=>
  cases pu with
  | none=>exact fin (some (i,t1)) none rfl rfl rfl rfl
  | int j u=>exact fin (some (i,t1)) (some (j,u)) rfl rfl rfl rfl
noncomputable def eSlS (f:DF) (lo hi:DP):DF:=fun ρ=>(f ρ).bind fun d=>(lo ρ).bind fun l=>(hi ρ).bind fun h=>match d with|.str x=>if x.length≤bigE then some (.str (Txt.slice x l h)) else none|_=>none
theorem de_slS (he:PE X e (tQ X.K own f)) (hl:PO X lo (tPO X.K own l)) (hu:PO X hi (tPO X.K own h)):PE X (.Subscript e (.Slice lo hi none p2) pos) (tP X.K own (eSlS f l h)):=(pe_slice sl_str he hl hu).imp fun σ H Q ⟨G,ρ,ds,gh,env,eq,k⟩=>by
 unfold eSlS at eq;cases ef:f ρ with
 | none=>rw[ef] at eq;cases eq
 | some d=>
  cases el:l ρ with
  | none=>simp[ef,el] at eq
  | some lv=>
   cases eh:h ρ with
   | none=>simp[ef,el,eh] at eq
   | some hv=>
    simp only[ef,el,eh,zA] at eq;refine⟨G,ρ,d,gh,env,ef,fun v G1 H1 E1 r1=>⟨G1,ρ,lv,E1.gh,env.ext E1,el,fun G2 H2 E2=>⟨G2,ρ,hv,E2.gh,(env.ext E1).ext E2,eh,fun G3 H3 E3 =>?_⟩⟩⟩
    have E:=(E1.trans E2).trans E3;cases d<;>simp only at eq<;>try (cases eq;done)
    split at eq
    ·cases eq;rename_i hz;exact⟨_,r1.str,yB hz bigE_le,k _ G3 H3 E (rep_str.mpr rfl)⟩
    ·cases eq
noncomputable def eCall (o:List D→Option D) (g:DL):DF:=fun ρ=>(g ρ).bind o
theorem eCall_some {o:List D→Option D}{g:DL}{ρ:DEnv}{d:D}(h:eCall o g ρ=some d):∃ xs,g ρ=some xs∧o xs=some d:=by
 unfold eCall at h;cases ea:g ρ with
 | none=>rw[ea] at h;cases h
 | some x=>rw[ea] at h;exact⟨x,rfl,h⟩
noncomputable def rC (K:Frag) (o:List D→Option D):List V→Hp→VK→Prop:=fun xs H Q=>∃ G ds d,Same G H∧RepsO K G H ds xs∧o ds=some d∧∀ v G' H',Ext G H G' H'→Rep K G' d v→Q v H'
theorem rc_of {K:Frag}{o:List D→Option D}{g:DL}{σ:St}{H:Hp}{Q:VK}(h:tP K own (eCall o g) σ H Q):tCB (rC K o) (tQA K own g) σ H Q:=by
 obtain⟨G,ρ,d,gh,env,eq,k⟩:=h;obtain⟨xs,ex,eo⟩:=eCall_some eq;exact⟨G,ρ,xs,gh,env,ex,fun vs G1 H1 E1 r1=>⟨G1,xs,d,E1.gh,r1,eo,fun v G2 H2 E2 r2=>k v G2 H2 (E1.trans E2) r2⟩⟩
theorem RepsO.one {K:Frag}{G H:Hp}{d:D}{vs:List V}(r:RepsO K G H [d] vs):∃ v,vs=[v]∧RepO K G H d v:=by
 cases r with
 | cons r t=>cases t;exact⟨_,rfl,r⟩
noncomputable def oLen:List D→Option D
 | [.lst xs]=>some (.int xs.length)
 | [.tup xs]=>some (.int xs.length)
 | [.scr xs]=>some (.int xs.length)
 | [.str x]=>if x.length≤bigE then some (.int x.length) else none
 | _=>none
theorem cd_len:CallR X (.builtin "len") (rC X.K oLen):=by
 refine CallR.imp (call_len_seq.or call_len_str) fun vs H Q ⟨G,ds,d,gh,r,eq,q⟩ =>?_
 unfold oLen at eq
 split at eq
 ·cases eq;obtain⟨v,rfl,r1⟩:=r.one;obtain⟨p,us,rfl,qa,ra⟩:=r1.lst gh;refine .inl ⟨p,us,rfl,.inl (.of qa),?_⟩;rw[← ra.length];exact q _ G H (.refl gh) (rep_int.mpr rfl)
 ·cases eq;obtain⟨v,rfl,r1⟩:=r.one;obtain⟨p,us,rfl,qa,ra⟩:=r1.tup gh;refine .inl ⟨p,us,rfl,.inr (.of qa),?_⟩;rw[← ra.length];exact q _ G H (.refl gh) (rep_int.mpr rfl)
 ·cases eq;obtain⟨v,rfl,r1⟩:=r.one;obtain⟨p,rfl,qa⟩:=r1.scr gh;refine .inl ⟨p,_,rfl,.inl qa,?_⟩;rw[zH];exact q _ G H (.refl gh) (rep_int.mpr rfl)
 ·split at eq
  ·cases eq;rename_i hz;obtain⟨v,rfl,r1⟩:=r.one;exact .inr ⟨_,by rw[r1.str],yB hz bigE_le,q _ G H (.refl gh) (rep_int.mpr rfl)⟩
  ·cases eq
 ·cases eq
variable {p:Pos}{x:Str}{es:List Expr}{g:DL}
theorem de_callB {id:String}{o:List D→Option D}(hc:CallR X (.builtin id) (rC X.K o)) (hg:Gl X x) (hm:X.mg x=none) (hv:bootBuiltins x=some (.builtin id)) (ha:PA X (e::es) (tQA X.K own g)) (hn:x ≠ "__name__" :=by decide) (hdb:(x==("__debug__" : Str))=false:=by decide)
  (he:starEach (e::es) X.env=(false,eval e X.env)::starEach es X.env:=by rfl) (hpl:(backTo pos (starEach es X.env)).any (·.1)=false:=by rfl):PE X (.Call (.Name x p) (e::es) [] pos) (tP X.K own (eCall o g)):=
 (pe_callB hc hg hm hv ha hn hdb he hpl).imp fun σ H Q h=>rc_of h
theorem de_len (hg:Gl X "len") (hm:X.mg "len" = none) (h:PE X e (tQ X.K own f)) (hs:starEach (e::[]) X.env=(false,eval e X.env)::starEach [] X.env:=by rfl):PE X (.Call (.Name "len" p) [e] [] pos) (tP X.K own (eCall oLen (aC f aN))):=
 de_callB cd_len hg hm PySem.boot_len (dqa_cons h dqa_nil hs) (by decide) (by decide) hs rfl
noncomputable def isT (T:String):D→Bool
 | .non=>T == "NoneType"
 | .bl _=>T == "bool" || T == "int"
 | .int _=>T == "int"
 | .str _=>T == "str"
 | .lst _=>T == "list"
 | .scr _=>T == "list"
 | .tup _=>T == "tuple"
 | .ins _ _ _=>false
noncomputable def kinds:List String:=["bool", "int", "str", "list", "tuple"]
noncomputable def eIs (T:String) (f:DF):DF:=fun ρ=>(f ρ).bind fun d=>match d with|.scr _=>none|.ins _ _ _=>none|d=>some (.bl (isT T d))
theorem kit_all:∀ T∈kinds,∀ (K:Frag),kitOne K (.type "NoneType") (.type T)=some (isT T .non)∧kitOne K (.type "bool") (.type T)=some (isT T (.bl true))∧kitOne K (.type "int") (.type T)=some (isT T (.int 0)) ∧
  kitOne K (.type "str") (.type T)=some (isT T (.str Str.empty))∧kitOne K (.type "list") (.type T)=some (isT T (.lst []))∧kitOne K (.type "tuple") (.type T)=some (isT T (.tup [])):=by
 intro T hT K;simp only[kinds,zG,List.not_mem_nil,or_false] at hT;rcases hT with rfl|rfl|rfl|rfl|rfl<;>exact⟨by kernel_rfl,by kernel_rfl,by kernel_rfl,by kernel_rfl,by kernel_rfl,by kernel_rfl⟩
theorem cd_isinst (T:String) (hT:T∈kinds):CallR X (.builtin "isinstance") (fun xs H Q=>∃ G d v,Same G H∧xs=[v,.ty T]∧RepO X.K G H d v∧(∀ ns,d ≠ .scr ns)∧(∀ c ks zs,d ≠ .ins c ks zs)∧Q (.bl (isT T d)) H):=by
 intro pins s σ H xs us Q I rv ⟨G,d,v,gh,e,r,hn,hni,q⟩;subst e;obtain⟨u,c,rfl,ru,rc⟩:=Vals.two rv;cases rc;obtain⟨k1,k2,k3,k4,k5,k6⟩:=kit_all T hT X.K;have fin:∀ tk,EP X pins σ Q (.bool (isT T d)) { s with toks:=tk }:=fun tk=>⟨.bl _,H,I.tok _,rfl,q⟩
 cases d with
 | non=>have:=r.non;subst this;exact isinst_ok I ru (.non) k1 fin
 | bl b=>have:=r.bl;subst this;exact isinst_ok I ru (.bl b) k2 fin
 | int i=>have:=r.int;subst this;exact isinst_ok I ru (.int i) k3 fin
 | str i=>have:=r.str;subst this;exact isinst_ok I ru (.str i) k4 fin
 | lst ds=>obtain⟨a,vs,rfl,qa,_⟩:=r.lst gh;exact isinst_ok I ru (.lst qa) k5 fin
 | tup ds=>obtain⟨a,vs,rfl,qa,_⟩:=r.tup gh;exact isinst_ok I ru (.tup qa) k6 fin
 | scr ns=>exact absurd rfl (hn ns)
 | ins c ks zs=>exact absurd rfl (hni c ks zs)
theorem de_isinst {T:String}{y:Str}{p':Pos}(hT:T∈kinds) (hg:Gl X "isinstance") (hm:X.mg "isinstance" = none) (hgT:Gl X y) (hmT:X.mg y=none) (hvT:bootBuiltins y=some (.type T)) (h:PE X e (tQ X.K own f)) (hnT:y ≠ "__name__" :=by decide) (hdT:(y==("__debug__" : Str))=false:=by decide)
  (hs:starEach (e::[.Name y p']) X.env=(false,eval e X.env)::starEach [.Name y p'] X.env:=by rfl) (hs2:starEach [.Name y p'] X.env=(false,eval (.Name y p') X.env)::starEach [] X.env:=by rfl) (hpl:(backTo pos (starEach [.Name y p'] X.env)).any (·.1)=false:=by rfl) :
  PE X (.Call (.Name "isinstance" p) [e,.Name y p'] [] pos) (tP X.K own (eIs T f)):=
 (pe_callB (cd_isinst T hT) hg hm PyProof.Rows.boot_isinstance (pa_cons h (pa_cons (pe_bltn (v :=.ty T) hgT hmT hvT rfl hnT hdT) pa_nil hs2) hs) (by decide) (by decide) hs hpl).imp fun σ H Q ⟨G,ρ,d,gh,env,eq,k⟩=>by
  unfold eIs at eq;cases ef:f ρ with
  | none=>rw[ef] at eq;cases eq
  | some c=>
   rw[ef] at eq;have hn:∀ ns,c ≠ .scr ns:=fun ns z=>by subst z;cases eq
   have hni:∀ c1 ks zs,c ≠ .ins c1 ks zs:=fun c1 ks zs z=>by subst z;cases eq
   have ed:d=.bl (isT T c):=by cases c<;>first|(cases eq;rfl)|cases eq
   subst ed;exact⟨G,ρ,c,gh,env,ef,fun v G1 H1 E1 r1=>⟨G1,c,v,E1.gh,rfl,r1,hn,hni,k _ G1 H1 E1 (rep_bl.mpr rfl)⟩⟩
noncomputable def oIsN:D→D→Option D
 | .non,.non=>some (.bl true)
 | _,.non=>some (.bl false)
 | _,_=>none
theorem od_isN:OpD X (compareOp .Is) oIsN:=OpR.imp op_isN fun x y H Q ⟨G,d1,d2,d,gh,h1,h2,eq,q⟩=>by
 cases d2<;>simp only[oIsN] at eq<;>try (cases d1<;>cases eq;done)
 refine⟨h2.non,?_⟩;cases d1 with
 | non=>cases eq;rw[h1.non];exact q _ G H (.refl gh) (rep_bl.mpr rfl)
 | bl b=>cases eq;rw[h1.bl];exact q _ G H (.refl gh) (rep_bl.mpr (by simp))
 | int b=>cases eq;rw[h1.int];exact q _ G H (.refl gh) (rep_bl.mpr (by simp))
 | str b=>cases eq;rw[h1.str];exact q _ G H (.refl gh) (rep_bl.mpr (by simp))
 | lst b=>cases eq;obtain⟨a,vs,rfl,_⟩:=h1.lst gh;exact q _ G H (.refl gh) (rep_bl.mpr (by simp))
 | tup b=>cases eq;obtain⟨a,vs,rfl,_⟩:=h1.tup gh;exact q _ G H (.refl gh) (rep_bl.mpr (by simp))
 | scr b=>cases eq;obtain⟨a,rfl,_⟩:=h1.scr gh;exact q _ G H (.refl gh) (rep_bl.mpr (by simp))
 | ins c ks zs=>cases eq;obtain⟨a,rfl⟩:=h1.ins;exact q _ G H (.refl gh) (rep_bl.mpr (by simp))
noncomputable def tTru (f:DF):DT:=fun ρ=>(f ρ).bind fun d=>match d with
 | .non=>some false
 | .bl b=>some b
 | .int i=>some (i != 0)
 | .str y=>if y.length≤bigE then some ((y.length:Int) != 0) else none
 | .lst xs=>some (!xs.isEmpty)
 | .tup xs=>some (!xs.isEmpty)
 | .scr xs=>some (!xs.isEmpty)
 | .ins _ _ _=>none
theorem Reps.empty {K:Frag}{G:Hp}{ds:List D}{vs:List V}(r:Reps K G ds vs):ds.isEmpty=vs.isEmpty:=by
 have:=r.length;cases ds<;>cases vs<;>simp at this ⊢
theorem dt_truth (h:PE X e (tQ X.K own f)) (he:∀ whole,isTrue e X.env whole=(do let v ← whole;standAt e.pos;holding [v] (truthy v)):=by intro _;rfl):PT X e (tPT X.K own (tTru f)):=(pt_truth h he).imp fun σ H Q ⟨G,ρ,b,gh,env,eq,k⟩=>by
 unfold tTru at eq;cases ef:f ρ with
 | none=>rw[ef] at eq;cases eq
 | some c=>
  rw[ef] at eq;refine⟨G,ρ,c,gh,env,ef,fun v G1 H1 E1 r1=>⟨b,?_,k G1 H1 E1⟩⟩
  cases c with
  | non=>cases eq;rw[r1.non];rfl
  | bl b=>cases eq;rw[r1.bl];rfl
  | int b=>cases eq;rw[r1.int];rfl
  | str y=>
   rw[r1.str];have eq:(if y.length≤bigE then some ((y.length:Int) != 0) else none)=some b:=eq
   split at eq
   ·cases eq;rename_i hz;exact⟨yB hz bigE_le,rfl⟩
   ·cases eq
  | lst xs=>cases eq;obtain⟨a,vs,rfl,qa,ra⟩:=r1.lst E1.gh;exact .inl ⟨vs,.of qa,by rw[ra.empty]⟩
  | tup xs=>cases eq;obtain⟨a,vs,rfl,qa,ra⟩:=r1.tup E1.gh;exact .inr (.inl ⟨vs,.of qa,by rw[ra.empty]⟩)
  | scr xs=>cases eq;obtain⟨a,rfl,qa⟩:=r1.scr E1.gh;exact .inl ⟨_,qa,by simp⟩
  | ins c ks zs=>cases eq
end
end L2
end
noncomputable section
namespace L2
open PySem PySem.Spec PyProof.Rows
structure ItOk (K:Frag) (G0:Hp) (J:It) (ds:List D):Prop where
 go:∀ i H,Same G0 H→i<ds.length→J.go i H
 stop:∀ i H,Same G0 H→ds.length≤i→J.stop i H
 yld:∀ (i:Nat) (H:Hp) (x:V) (H' G:Hp) (d:D),Same G0 G→Same G H→J.yld i H x H'→ds[i]?=some d→∃ G',Ext G H G' H'∧Rep K G' d x
noncomputable def tPI (K:Frag) (own:List Nat) (f:DL):TI:=fun σ H R=>∃ G ρ ds,Same G H∧EnvR K own G H σ ρ∧f ρ=some ds∧∀ J G' H',Ext G H G' H'→ItOk K G' J ds→R J H'
noncomputable section
variable {X:Cx}{own:List Nat}{tg e:Expr}{f:DF}
theorem PI.imp {iter:Expr}{t t':TI}(h:PI X tg iter t) (k:∀ σ H R,t' σ H R→t σ H R):PI X tg iter t':=fun pins s σ H R I q=>h pins s σ H R I (k _ _ _ q)
noncomputable def iL (f:DF):DL:=fun ρ=>(f ρ).bind fun d=>match d with|.lst xs=>some xs|_=>none
theorem iL_some {f:DF}{ρ:DEnv}{ds:List D}(h:iL f ρ=some ds):f ρ=some (.lst ds):=by
 unfold iL at h;cases e:f ρ with
 | none=>rw[e] at h;cases h
 | some d=>rw[e] at h;cases d<;>first|(cases h;rfl)|cases h
theorem itok_list {K:Frag}{G:Hp}{a:Addr}{vs:List V}{ds:List D}(ha:G a=some (.lst vs)) (r:Reps K G ds vs):ItOk K G (Itl K a) ds:=by
 refine⟨fun i H s hi =>?_,fun i H s hi=>⟨vs,.of (s _ _ ha),by rw[← r.length];exact hi⟩,fun i H x H' G1 d s1 s2 ⟨e,y⟩ hd =>?_⟩
 ·have hi':i<vs.length:=by rw[← r.length];exact hi
  exact⟨vs,vs[i],.of (s _ _ ha),by simp[hi']⟩
 ·subst e;have hx:=y vs (.of (s2 _ _ (s1 _ _ ha)));obtain⟨v,ev,rv⟩:=r.get hd;rw[hx] at ev;cases ev;exact⟨G1,.refl s2,Rep.mono s1 d rv⟩
theorem di_list (h:PE X e (tP X.K own f)):PI X tg e (tPI X.K own (iL f)):=(pi_list h).imp fun σ H R ⟨G,ρ,ds,gh,env,eq,k⟩=>by
 refine⟨G,ρ,_,gh,env,iL_some eq,fun v G1 H1 E1 r1 =>?_⟩
 obtain⟨a,vs,rfl,ga,ra⟩:=rep_lst.mp r1;exact⟨a,rfl,⟨vs,.of (E1.gh _ _ ga)⟩,k _ G1 H1 E1 (itok_list ga ra)⟩
noncomputable def rngD (lo:Int) (n:Nat):List D:=(List.range n).map fun (k:Nat) =>.int (lo+(k:Int))
theorem itok_range {K:Frag}{G:Hp}(lo:Int) (n:Nat):ItOk K G (Itr lo n) (rngD lo n):=by
 have hl:(rngD lo n).length=n:=by simp[rngD]
 refine⟨fun i H s hi=>by rw[hl] at hi;exact hi,fun i H s hi=>by rw[hl] at hi;exact hi,fun i H x H' G1 d s1 s2 ⟨e,y⟩ hd =>?_⟩
 subst e;refine⟨G1,.refl s2,?_⟩;unfold rngD at hd;rw[zM] at hd;cases q:(List.range n)[i]? with
 | none=>rw[q] at hd;cases hd
 | some j=>
  rw[q] at hd;cases hd;have:j=i:=by obtain⟨h1,h2⟩:=zC.mp q;simpa using h2.symm
  subst this;exact rep_int.mpr y
noncomputable def iR1 (f:DF):DL:=fun ρ=>(f ρ).bind fun d=>match d with|.int j=>if -(2 ^ 62)≤j∧j<2 ^ 62 then some (rngD 0 j.toNat) else none|_=>none
theorem di_range1 {p pos:Pos}(hg:Gl X "range") (hm:X.mg "range" = none) (h:PE X e (tQ X.K own f)) (hs:starEach [e] X.env=(false,eval e X.env)::starEach [] X.env:=by rfl) (hs2:starEach [e] X.env=[(false,eval e X.env)]:=by rfl):PI X tg (.Call (.Name "range" p) [e] [] pos) (tPI X.K own (iR1 f)):=
 (pi_range1 hg hm (pa_cons h pa_nil hs) hs2).imp fun σ H R ⟨G,ρ,ds,gh,env,eq,k⟩=>by
  unfold iR1 at eq;cases ef:f ρ with
  | none=>rw[ef] at eq;cases eq
  | some d=>
   rw[ef] at eq;cases d<;>simp only[zA] at eq<;>try (cases eq;done)
   split at eq
   ·cases eq;rename_i j hj;exact⟨G,ρ,_,gh,env,ef,fun v G1 H1 E1 r1=>⟨j,by rw[r1.int],hj.1,hj.2,k _ G1 H1 E1 (itok_range 0 j.toNat)⟩⟩
   ·cases eq
noncomputable def iR2 (f g:DF):DL:=fun ρ=>(f ρ).bind fun d=>(g ρ).bind fun c=>match d,c with|.int i,.int j=>if -(2 ^ 62)≤i∧i<2 ^ 62 ∧ -(2 ^ 62)≤j∧j<2 ^ 62 then some (rngD i (j-i).toNat) else none|_,_=>none
theorem di_range2 {e':Expr}{g:DF}{p pos:Pos}(hg:Gl X "range") (hm:X.mg "range" = none) (h:PE X e (tQ X.K own f)) (h':PE X e' (tQ X.K own g)) (hs:starEach [e,e'] X.env=(false,eval e X.env)::starEach [e'] X.env:=by rfl) (hs':starEach [e'] X.env=(false,eval e' X.env)::starEach [] X.env:=by rfl)
  (hs2:starEach [e,e'] X.env=[(false,eval e X.env),(false,eval e' X.env)]:=by rfl) (hs3:starEach [e'] X.env=[(false,eval e' X.env)]:=by rfl):PI X tg (.Call (.Name "range" p) [e,e'] [] pos) (tPI X.K own (iR2 f g)):=
 (pi_range2 hg hm (pa_cons h (pa_cons h' pa_nil hs') hs) hs2 hs3).imp fun σ H R ⟨G,ρ,ds,gh,env,eq,k⟩=>by
  unfold iR2 at eq;cases ef:f ρ with
  | none=>rw[ef] at eq;cases eq
  | some d=>
   cases eg:g ρ with
   | none=>simp[ef,eg] at eq
   | some c=>
    simp only[ef,eg,zA] at eq;cases d<;>cases c<;>simp only at eq<;>try (cases eq;done)
    split at eq
    ·cases eq;rename_i i j hj;exact⟨G,ρ,_,gh,env,ef,fun v G1 H1 E1 r1=>⟨G1,ρ,_,E1.gh,env.ext E1,eg,fun u G2 H2 E2 r2=>⟨i,j,by rw[r1.int,r2.int],⟨hj.1,hj.2.1,hj.2.2.1,hj.2.2.2⟩,k _ G2 H2 (E1.trans E2) (itok_range i _)⟩⟩⟩
    ·cases eq
end
noncomputable abbrev DTg:=D→DEnv→Option DEnv
noncomputable def tTG (K:Frag) (B:Bs) (own:List Nat) (τ:DTg):TG:=fun v σ H Q=>∃ G ρ d ρ',SR K B own G H σ ρ∧Rep K G d v∧τ d ρ=some ρ'∧∀ σ' G' H',SR K B own G' H' σ' ρ'→Q σ' H'
noncomputable def tTE (K:Frag) (own:List Nat) (τ:DTg):TG:=fun v σ H Q=>∃ G ρ d ρ',Same G H∧EnvR K own G H σ ρ∧Rep K G d v∧τ d ρ=some ρ'∧∀ σ' G' H',Ext G H G' H'→EnvR K own G' H' σ' ρ'→Q σ' H'
noncomputable section
variable {X:Cx}{B:Bs}{own:List Nat}
theorem PG.imp {tg:Expr}{t t':TG}(h:PG X tg t) (k:∀ v σ H Q,t' v σ H Q→t v σ H Q):PG X tg t':=fun pins s σ H v u Q I r q=>h pins s σ H v u Q I r (k _ _ _ _ q)
noncomputable def gN (i:Nat):DTg:=fun d ρ=>some (ρ.set i (some d))
theorem dg_name {i:Nat}{tg:Expr}(h:PG X tg (gName i)) (hi:i∉own:=by decide):PG X tg (tTG X.K B own (gN i)):=h.imp fun v σ H Q ⟨G,ρ,d,ρ',S,r,eq,k⟩=>by
 cases eq;exact k _ G H (S.setS hi r)
theorem EnvR.set {K:Frag}{G H:Hp}{σ:St}{ρ:DEnv}{i:Nat}{d:D}{v:V}(h:EnvR K own G H σ ρ) (hi:i∉own) (r:Rep K G d v):EnvR K own G H (σ.set i (some v)) (ρ.set i (some d)):=
 ⟨by simp[h.len],fun j c e=>by
  rcases set_get e with ⟨rfl,rfl,hl⟩|⟨hne,e⟩
  ·exact⟨v,get_set (by rw[h.len];exact hl),by rw[if_neg hi];exact r⟩
  ·obtain⟨u,e1,e2⟩:=h.get j c e;exact⟨u,by rw[zK hne];exact e1,e2⟩⟩
noncomputable def gN2 (i j:Nat):DTg:=fun d ρ=>match d with|.tup [a,b]=>some ((ρ.set i (some a)).set j (some b))|_=>none
theorem gN2_some {i j:Nat}{d:D}{ρ ρ':DEnv}(h:gN2 i j d ρ=some ρ'):∃ a b,d=.tup [a,b]∧ρ'=(ρ.set i (some a)).set j (some b):=by
 unfold gN2 at h
 split at h
 ·cases h;exact⟨_,_,rfl,rfl⟩
 ·cases h
theorem rep_two {K:Frag}{G:Hp}{a b:D}{v:V}(r:Rep K G (.tup [a,b]) v):∃ p x y,v=.ref p∧G p=some (.tup [x,y])∧Rep K G a x∧Rep K G b y:=by
 obtain⟨p,vs,e,g,rs⟩:=rep_tup.mp r;obtain⟨x,r1,rfl,rx,t⟩:=reps_cons.mp rs;obtain⟨y,r2,rfl,ry,t⟩:=reps_cons.mp t;rw[reps_nil.mp t] at g;exact⟨p,x,y,e,g,rx,ry⟩
end
noncomputable def forD (τ:DTg) (g:DG):List D→DEnv→Option DO
 | [],ρ=>some (.nx ρ)
 | d::ds,ρ=>(τ d ρ).bind fun ρ1=>(g ρ1).bind fun o=>match o with
  | .nx ρ2=>forD τ g ds ρ2
  | .ct ρ2=>forD τ g ds ρ2
  | .bk ρ2=>some (.nx ρ2)
  | .rt d=>some (.rt d)
  | .ro d=>some (.ro d)
  | .rm d ρ=>some (.rm d ρ)
noncomputable def sFor (f:DL) (τ:DTg) (g:DG):DG:=fun ρ=>(f ρ).bind fun ds=>forD τ g ds ρ
noncomputable section
variable {K:Frag}{B:Bs}{own:List Nat}{G H G1 H1:Hp}{σ σ1:St}{ρ ρ1:DEnv}
theorem SR.rebase (S1:SR K B own G1 H1 σ1 ρ1) (S:SR K B own G H σ ρ) (s:Same G1 G):SR K ⟨G1,B.2,B.3⟩ own G H σ ρ:=
 ⟨S.gh,s,S.h0,fun b o e=>by
  rcases S.fr b o e with z|z
  ·exact .inl (S1.g0 b o z)
  ·exact .inr z,S.env,S.ownd,S.inj,S.len,S.pin⟩
theorem SR.unbase (S1:SR K B own G1 H1 σ1 ρ1) (S:SR K ⟨G1,B.2,B.3⟩ own G H σ ρ):SR K B own G H σ ρ:=
 ⟨S.gh,S1.g0.trans S.g0,S.h0,fun b o e=>by
  rcases S.fr b o e with z|z
  ·exact S1.fr b o z
  ·exact .inr z,S.env,S.ownd,S.inj,S.len,S.pin⟩
theorem SR.unbase' {o7:List Nat}(S1:SR K B own G1 H1 σ1 ρ1) (S:SR K ⟨G1,B.2,B.3⟩ o7 G H σ ρ):SR K B o7 G H σ ρ:=
 ⟨S.gh,S1.g0.trans S.g0,S.h0,fun b o e=>by
  rcases S.fr b o e with z|z
  ·exact S1.fr b o z
  ·exact .inr z,S.env,S.ownd,S.inj,S.len,S.pin⟩
theorem Ext.unbase (S1:SR K B own G1 H1 σ1 ρ1) (E:Ext G1 B.2 G H):Ext B.1 B.2 G H:=
 ⟨E.hh,S1.g0.trans E.gg,E.gh,fun b o e=>by
  rcases E.fr b o e with z|z
  ·exact S1.fr b o z
  ·exact .inr z⟩
end
noncomputable section
variable {X:Cx}{B:Bs}{oL own:List Nat}{tg iter:Expr}{f:DL}{τ:DTg}{g:DG}{body:List Stmt}{pos:Pos}
noncomputable def tMI (K:Frag) (B:Bs) (own:List Nat) (f:DEnv→Option (List D×DEnv)):TI:=fun σ H R=>∃ G ρ ds ρ',SR K B own G H σ ρ∧f ρ=some (ds,ρ')∧∀ J G' H',SR K B own G' H' σ ρ'→ItOk K G' J ds→R J H'
noncomputable def sForM (f:DEnv→Option (List D×DEnv)) (τ:DTg) (g:DG):DG:=fun ρ=>(f ρ).bind fun p=>forD τ g p.1 p.2
theorem ds_forM {f:DEnv→Option (List D×DEnv)}(hp:PassesOwn (model X.prog X.w) X.A X.env X.xe) (hc:X.calm=true) (hi:PI X tg iter (tMI X.K B own f)) (hg:∀ C:Bs,C.3=B.3→PG X tg (tTG X.K C own τ)) (hb:∀ C:Bs,C.3=B.3→PSs X body (tDS X.K C own own own g))
  (hs:∀ x,foldedSetIterable iter X.env x=pure x:=by intro _;rfl):PS X (.For tg iter body [] pos) (tDS X.K B oL own own (sForM f τ g)):=by
 intro pins s σ H D' I ⟨G,ρ,o,S,eq,k⟩;unfold sForM at eq;cases ef:f ρ with
 | none=>rw[ef] at eq;cases eq
 | some dρ=>
  obtain⟨ds,ρ0⟩:=dρ;rw[ef] at eq;have eq:forD τ g ds ρ0=some o:=eq;refine wpAny_For (thn (hi pins s σ H (fun J H1=>∃ G1,SR X.K B own G1 H1 σ ρ0∧ItOk X.K G1 J ds) I ⟨G,ρ,ds,ρ0,S,ef,fun J G1 H1 S1 ok=>⟨G1,S1,ok⟩⟩) fun v s1 h1=>thn h1 fun itv s2 h2 =>?_) hs
  obtain⟨it,fp,tn,J,H2,e,I2,T,st2,f2,G1,S1,ok⟩:=h2;subst e;have stat:∀ {H':Hp},(∀ b∈fp,H' b=none)→∀ b∈fp,FpOk X pins H' b:=fun hn b hb=>⟨hn b hb,(f2 b hb).2⟩
  have endN:∀ (ρ':DEnv) (σ':St) (H' G':Hp) (rest:List D),SR X.K ⟨G1,B.2,B.3⟩ own G' H' σ' ρ'→True:=fun _ _ _ _ _ _=>trivial
  refine codeAny_forLoop_any (fun n s'=>∃ i σ' H' G' ρ',Inv X pins σ' H' s'∧tn i s'.heap∧(∀ b∈fp,H' b=none)∧n=ds.length-i∧i≤ds.length∧SR X.K ⟨G1,B.2,B.3⟩ own G' H' σ' ρ'∧forD τ g (ds.drop i) ρ'=some o) ?_ ds.length
   ⟨0,σ,H2,G1,ρ0,I2,st2,fun b hb=>(f2 b hb).1,rfl,Nat.zero_le _,S1.rebase S1 (Same.refl _),eq⟩
  rintro n s3 ⟨i,σ3,H3,G3,ρ3,I3,st3,fr3,rfl,hil,S3,eq3⟩;have sub3:Same G1 H3:=S3.g0.trans S3.gh;by_cases hlt:i<ds.length
  ·have ed:ds.drop i=ds[i]::ds.drop (i+1):=List.drop_eq_getElem_cons hlt;rw[ed] at eq3;unfold forD at eq3;cases et:τ ds[i] ρ3 with
   | none=>rw[et] at eq3;cases eq3
   | some ρ4=>
    rw[et] at eq3;cases eg:g ρ4 with
    | none=>simp[eg] at eq3
    | some o4=>
     simp only[eg,zA] at eq3;refine wpAny_passesOwn hp (thn (T.item X rfl rfl rfl hc i pins s3 σ3 H3 X.xe I3 (stat fr3) st3 (ok.go i H3 sub3 hlt)) fun r s4 ⟨u,hr,h4⟩ =>?_)
     subst hr;refine wpAny_passesOwn hp (thn h4 fun _ s5 ⟨x,H5,I5,r5,y5,st5,fr5⟩ =>?_)
     have I5':=I5.pinned (stat fr5) (T.obj _ _ st5);obtain⟨G5,E5,rep5⟩:=ok.yld i H3 x H5 G3 ds[i] S3.g0 S3.gh y5 (zI hlt);refine wpAny_passesOwn hp (thn (hg ⟨G1,B.2,B.3⟩ rfl _ s5 σ3 H5 x u (fun σ6 H6=>∃ G6,SR X.K ⟨G1,B.2,B.3⟩ own G6 H6 σ6 ρ4) I5' r5 ⟨G5,ρ3,ds[i],ρ4,S3.ext E5,rep5,et,fun σ6 G6 H6 S6=>⟨G6,S6⟩⟩) fun _ s6 ⟨σ6,H6,I6,G6,S6⟩ =>?_)
     have again:∀ {σ7:St}{H7 G7:Hp}{ρ7:DEnv}{s7:Shared},Inv X (pins++pinsAt fp s5.heap) σ7 H7 s7→SR X.K ⟨G1,B.2,B.3⟩ own G7 H7 σ7 ρ7→forD τ g (ds.drop (i+1)) ρ7=some o →
       ∃ m,m<ds.length-i∧∃ i σ' H' G' ρ',Inv X pins σ' H' s7∧tn i s7.heap∧(∀ b∈fp,H' b=none)∧m=ds.length-i∧i≤ds.length∧SR X.K ⟨G1,B.2,B.3⟩ own G' H' σ' ρ'∧forD τ g (ds.drop i) ρ'=some o:=fun {σ7 H7 G7 ρ7 s7} I7 S7 e7=>by
      refine⟨ds.length-(i+1),by omega,i+1,σ7,H7,G7,ρ7,I7.unpinned,T.keep _ _ _ st5 fun b hb o e=>(I7.pin (b,o) (zQ _ (zQ _ (mem_pinsAt hb e)))).1,fun b hb =>?_,rfl,hlt,S7,e7⟩
      obtain⟨o,e,d⟩:=T.obj _ _ st5 b hb;exact(I7.pin (b,o) (zQ _ (zQ _ (mem_pinsAt hb e)))).2.1
     cases o4 with
     | nx ρ5=>
      refine wpAny_passesOwn hp (thn (hb ⟨G1,B.2,B.3⟩ rfl _ s6 σ6 H6 { nx:=fun σ7 H7=>∃ G7,SR X.K ⟨G1,B.2,B.3⟩ own G7 H7 σ7 ρ5,rt:=fun _ _=>False } I6 ⟨G6,ρ4,_,S6,eg,fun σ7 G7 H7 S7=>⟨G7,S7⟩⟩) fun fl s7 q7 =>?_)
      cases fl with
      | next=>obtain⟨σ7,H7,I7,G7,S7⟩:=q7;exact again I7 S7 eq3
      | cont=>obtain⟨_,_,_,z⟩:=q7;exact z.elim
      | brk=>obtain⟨_,_,_,z⟩:=q7;exact z.elim
      | ret v=>obtain⟨_,_,_,_,_,z⟩:=q7;exact z.elim
     | ct ρ5=>
      refine wpAny_passesOwn hp (thn (hb ⟨G1,B.2,B.3⟩ rfl _ s6 σ6 H6 { nx:=fun _ _=>False,ct:=fun σ7 H7=>∃ G7,SR X.K ⟨G1,B.2,B.3⟩ own G7 H7 σ7 ρ5,rt:=fun _ _=>False } I6 ⟨G6,ρ4,_,S6,eg,fun σ7 G7 H7 S7=>⟨G7,S7⟩⟩) fun fl s7 q7 =>?_)
      cases fl with
      | cont=>obtain⟨σ7,H7,I7,G7,S7⟩:=q7;exact again I7 S7 eq3
      | next=>obtain⟨_,_,_,z⟩:=q7;exact z.elim
      | brk=>obtain⟨_,_,_,z⟩:=q7;exact z.elim
      | ret v=>obtain⟨_,_,_,_,_,z⟩:=q7;exact z.elim
     | bk ρ5=>
      refine wpAny_passesOwn hp (thn (hb ⟨G1,B.2,B.3⟩ rfl _ s6 σ6 H6 { nx:=fun _ _=>False,bk:=fun σ7 H7=>∃ G7,SR X.K ⟨G1,B.2,B.3⟩ own G7 H7 σ7 ρ5,rt:=fun _ _=>False } I6 ⟨G6,ρ4,_,S6,eg,fun σ7 G7 H7 S7=>⟨G7,S7⟩⟩) fun fl s7 q7 =>?_)
      cases fl with
      | brk=>obtain⟨σ7,H7,I7,G7,S7⟩:=q7;cases eq3;exact⟨σ7,H7,I7.unpinned,k _ G7 H7 (S1.unbase S7)⟩
      | next=>obtain⟨_,_,_,z⟩:=q7;exact z.elim
      | cont=>obtain⟨_,_,_,z⟩:=q7;exact z.elim
      | ret v=>obtain⟨_,_,_,_,_,z⟩:=q7;exact z.elim
     | rt d=>
      cases eq3;refine wpAny_passesOwn hp (thn (hb ⟨G1,B.2,B.3⟩ rfl _ s6 σ6 H6 { nx:=fun _ _=>False,rt:=D'.rt } I6 ⟨G6,ρ4,_,S6,eg,fun v G7 H7 E7 r7=>k v G7 H7 (Ext.unbase S1 E7) r7⟩) fun fl s7 q7 =>?_)
      cases fl with
      | ret v=>obtain⟨x7,σ7,H7,I7,r7,q7⟩:=q7;exact⟨x7,σ7,H7,I7.unpinned,r7,q7⟩
      | next=>obtain⟨_,_,_,z⟩:=q7;exact z.elim
      | cont=>obtain⟨_,_,_,z⟩:=q7;exact z.elim
      | brk=>obtain⟨_,_,_,z⟩:=q7;exact z.elim
     | ro d=>
      cases eq3;refine wpAny_passesOwn hp (thn (hb ⟨G1,B.2,B.3⟩ rfl _ s6 σ6 H6 { nx:=fun _ _=>False,rt:=D'.rt } I6 ⟨G6,ρ4,_,S6,eg,fun a vs G7 H7 E7 h1 h2 h3 r7=>k a vs G7 H7 (Ext.unbase S1 E7) h1 h2 h3 r7⟩) fun fl s7 q7 =>?_)
      cases fl with
      | ret v=>obtain⟨x7,σ7,H7,I7,r7,q7⟩:=q7;exact⟨x7,σ7,H7,I7.unpinned,r7,q7⟩
      | next=>obtain⟨_,_,_,z⟩:=q7;exact z.elim
      | cont=>obtain⟨_,_,_,z⟩:=q7;exact z.elim
      | brk=>obtain⟨_,_,_,z⟩:=q7;exact z.elim
     | rm d ρ5=>
      cases eq3;refine wpAny_passesOwn hp (thn (hb ⟨G1,B.2,B.3⟩ rfl _ s6 σ6 H6 { nx:=fun _ _=>False,rt:=D'.rt } I6 ⟨G6,ρ4,_,S6,eg,fun v σ7 G7 H7 ⟨o7,S7⟩ r7=>k v σ7 G7 H7 ⟨o7,S1.unbase' S7⟩ r7⟩) fun fl s7 q7 =>?_)
      cases fl with
      | ret v=>obtain⟨x7,σ7,H7,I7,r7,q7⟩:=q7;exact⟨x7,σ7,H7,I7.unpinned,r7,q7⟩
      | next=>obtain⟨_,_,_,z⟩:=q7;exact z.elim
      | cont=>obtain⟨_,_,_,z⟩:=q7;exact z.elim
      | brk=>obtain⟨_,_,_,z⟩:=q7;exact z.elim
  ·have e:i=ds.length:=by omega
   subst e;rw[List.drop_length] at eq3;unfold forD at eq3;cases eq3;refine wpAny_passesOwn hp (thn (T.done X rfl rfl rfl hc _ pins s3 σ3 H3 X.xe I3 (stat fr3) st3 (ok.stop _ H3 sub3 (zL _))) fun r s4 ⟨hr,I4⟩ =>?_)
   subst hr;exact wpAny_execs_nil ⟨σ3,H3,I4,k σ3 G3 H3 (S1.unbase S3)⟩
theorem ds_for (hp:PassesOwn (model X.prog X.w) X.A X.env X.xe) (hc:X.calm=true) (hi:PI X tg iter (tPI X.K own f)) (hg:∀ C:Bs,C.3=B.3→PG X tg (tTG X.K C own τ)) (hb:∀ C:Bs,C.3=B.3→PSs X body (tDS X.K C own own own g))
  (hs:∀ x,foldedSetIterable iter X.env x=pure x:=by intro _;rfl):PS X (.For tg iter body [] pos) (tDS X.K B oL own own (sFor f τ g)):=by
 have e:sFor f τ g=sForM (fun ρ=>(f ρ).map fun ds=>(ds,ρ)) τ g:=funext fun ρ=>by
  show (f ρ).bind _=(Option.map (fun ds=>(ds,ρ)) (f ρ)).bind _
  cases f ρ<;>rfl
 rw[e];refine ds_forM hp hc (hi.imp fun σ H R ⟨G,ρ,ds,ρ',S,eq,k⟩ =>?_) hg hb hs
 have eq:Option.map (fun ds=>(ds,ρ)) (f ρ)=some (ds,ρ'):=eq
 cases ef:f ρ with
 | none=>rw[ef] at eq;cases eq
 | some xs=>rw[ef] at eq;cases eq;exact⟨G,ρ,ds,S.gh,S.envR,ef,fun J G1 H1 E ok=>k J G1 H1 (S.ext E) ok⟩
noncomputable def whileD (f:DT) (g:DG):Nat→DEnv→Option DO
 | 0,_=>none
 | n+1,ρ=>(f ρ).bind fun b=>if b=true then (g ρ).bind fun o=>match o with
   | .nx ρ2=>whileD f g n ρ2
   | .ct ρ2=>whileD f g n ρ2
   | .bk ρ2=>some (.nx ρ2)
   | .rt d=>some (.rt d)
   | .ro d=>some (.ro d)
   | .rm d ρ=>some (.rm d ρ) else some (.nx ρ)
noncomputable def sWhile (n:Nat) (f:DT) (g:DG):DG:=fun ρ=>whileD f g n ρ
theorem ds_while {c:Expr}{f:DT}(n:Nat) (hp:PassesOwn (model X.prog X.w) X.A X.env X.xe) (hc:PT X c (tPT X.K own f)) (hb:PSs X body (tDS X.K B own own own g)):PS X (.While c body [] pos) (tDS X.K B oL own own (sWhile n f g)):=(ps_while hp hc hb).imp fun D' σ H ⟨G,ρ,o,S,eq,k⟩=>by
 refine⟨fun m σ H=>∃ G ρ,SR X.K B own G H σ ρ∧whileD f g m ρ=some o,⟨n,G,ρ,S,eq⟩,?_⟩
 rintro m σ1 H1 ⟨G1,ρ1,S1,eq1⟩;cases m with
 | zero=>cases eq1
 | succ m=>
  unfold whileD at eq1;cases ef:f ρ1 with
  | none=>rw[ef] at eq1;cases eq1
  | some b=>
   rw[ef] at eq1;refine⟨G1,ρ1,b,S1.gh,S1.envR,ef,fun G2 H2 E2 =>?_⟩
   have S2:=S1.ext E2;cases b with
   | false=>cases eq1;exact iteF (k σ1 G2 H2 S2)
   | true=>
    refine iteT ⟨fun σ3 H3=>∃ G3 ρ3,SR X.K B own G3 H3 σ3 ρ3∧whileD f g m ρ3=some o,fun σ3 H3 q=>⟨m,Nat.lt_succ_self m,q⟩,?_⟩
    simp only[zA,if_true] at eq1;cases eg:g ρ1 with
    | none=>rw[eg] at eq1;cases eq1
    | some o1=>
     rw[eg] at eq1;refine⟨G2,ρ1,o1,S2,eg,?_⟩;cases o1 with
     | nx ρ2=>exact fun σ3 G3 H3 S3=>⟨G3,ρ2,S3,eq1⟩
     | ct ρ2=>exact fun σ3 G3 H3 S3=>⟨G3,ρ2,S3,eq1⟩
     | bk ρ2=>cases eq1;exact fun σ3 G3 H3 S3=>k σ3 G3 H3 S3
     | rt d=>cases eq1;exact k
     | ro d=>cases eq1;exact k
     | rm d ρ=>cases eq1;exact k
end
noncomputable def srcρ (src:List (Option Nat)) (ρ:DEnv):DEnv:=src.map fun o=>match o with|some j=>(ρ[j]?).getD none|none=>none
noncomputable def lcD (ρ:DEnv) (τ:DTg) (ft:DT) (fe:DF):List D→Option (List D)
 | []=>some []
 | d::ds=>(τ d ρ).bind fun ρ1=>(ft ρ1).bind fun b=>if b=true then (fe ρ1).bind fun x=>(lcD ρ τ ft fe ds).map (x :: ·) else lcD ρ τ ft fe ds
noncomputable def fLC (f:DL) (src:List (Option Nat)) (τ:DTg) (ft:DT) (fe:DF):DL:=fun ρ=>(f ρ).bind fun ds=>if ds.length≤bigE then lcD (srcρ src ρ) τ ft fe ds else none
noncomputable def tYes:DT:=fun _=>some true
noncomputable def ownSrc (own own':List Nat) (src:List (Option Nat)):Bool:=(List.range src.length).all fun i=>match src[i]? with|some (some j)=>decide (i∈own')==decide (j∈own)|_=>true
theorem ownSrc_get {own own':List Nat}{src:List (Option Nat)}(h:ownSrc own own' src=true){i j:Nat}(e:src[i]?=some (some j)):(i∈own'↔j∈own):=by
 unfold ownSrc at h;rw[List.all_eq_true] at h;have hi:i<src.length:=(zC.mp e).1;have:=h i (by simpa using hi)
 rw[e] at this;simpa using this
theorem EnvR.src {K:Frag}{own own':List Nat}{src:List (Option Nat)}{G H:Hp}{σ:St}{ρ:DEnv}(h:EnvR K own G H σ ρ) (ho:ownSrc own own' src=true):EnvR K own' G H (srcσ src σ) (srcρ src ρ):=by
 refine⟨by simp[srcσ,srcρ],fun i d e =>?_⟩
 unfold srcρ at e;rw[zM] at e;cases es:src[i]? with
 | none=>rw[es] at e;cases e
 | some o=>
  rw[es] at e;cases o with
  | none=>cases e
  | some j=>
   have e:(ρ[j]?).getD none=some d:=by simpa using e
   have ej:ρ[j]?=some (some d):=by
    cases q:ρ[j]? with
    | none=>rw[q] at e;cases e
    | some z=>rw[q] at e;rw[show z=some d from e]
   obtain⟨v,ev,rv⟩:=h.get j d ej;refine⟨v,?_,?_⟩
   ·unfold srcσ;rw[zM,es];simp[ev]
   ·have:=ownSrc_get ho es;by_cases hi:i∈own'
    ·rw[if_pos hi];rw[if_pos (this.mp hi)] at rv;exact rv
    ·rw[if_neg hi];rw[if_neg (fun z=>hi (this.mpr z))] at rv;exact rv
noncomputable section
variable {X:Cx}{own own' oS:List Nat}{N:List Str}{src:List (Option Nat)}{scope:Scope}{tg iter elt:Expr}{ifs:List Expr}{f:DL}{τ:DTg}{ft:DT}{fe:DF}{g:TG}{pos:Pos}
theorem PTs.imp {t t':TT}(h:PTs X ifs t) (k:∀ σ H Q,t' σ H Q→t σ H Q):PTs X ifs t':=fun pins s σ H Q I q=>h pins s σ H Q I (k _ _ _ q)
theorem dts_nil:PTs X [] (tPT X.K own tYes):=pts_nil.imp fun σ H Q ⟨G,ρ,b,gh,env,eq,k⟩=>by cases eq;exact k G H (.refl gh)
theorem dts_one {c:Expr}(h:PT X c (tPT X.K own ft)):PTs X [c] (tPT X.K own ft):=pts_one h
theorem lc_of {K:Frag}{σ:St}{H:Hp}{Q:VK}(ho:ownSrc own own' src=true) (hg:∀ v σ H Q,tTE K own' τ v σ H Q→g v σ H Q) (q:tF K own (fLC f src τ ft fe) σ H Q):tLc (tPI K own f) src g (tPT K own' ft) (tP K own' fe) σ H Q:=by
 obtain⟨G,ρ,rs,gh,env,eq,k⟩:=q;unfold fLC at eq;cases ef:f ρ with
 | none=>rw[ef] at eq;cases eq
 | some ds=>
  rw[ef] at eq;have eq:(if ds.length≤bigE then lcD (srcρ src ρ) τ ft fe ds else none)=some rs:=eq
  split at eq
  ·rename_i hz;refine⟨G,ρ,ds,gh,env,ef,fun J G1 H1 E1 ok =>?_⟩
   refine⟨fun i m ys H2=>m=ds.length-i∧i≤ds.length∧ys.length≤i∧∃ G2 xs rest,Ext G1 H1 G2 H2∧Reps K G2 xs ys∧lcD (srcρ src ρ) τ ft fe (ds.drop i)=some rest∧xs++rest=rs,
    ⟨ds.length,rfl,Nat.zero_le _,zL _,G1,[],rs,.refl E1.gh,.nil,eq,rfl⟩,?_⟩
   rintro i m ys H2 ⟨rfl,hil,hyl,G2,xs,rest,E2,rx,er,rfl⟩;have sub:Same G1 H2:=E2.gg.trans E2.gh;by_cases hlt:i<ds.length
   ·refine .inr ⟨ok.go i H2 sub hlt,?_,fun ys' H'=>ys'.length≤i+1∧∃ G3 xs' rest',Ext G1 H1 G3 H'∧Reps K G3 xs' ys'∧lcD (srcρ src ρ) τ ft fe (ds.drop (i+1))=some rest'∧xs'++rest'=xs++rest,
     fun ys' H' z=>⟨ds.length-(i+1),by omega,rfl,hlt,z⟩,fun x H3 y =>?_⟩
    ·have:=bigE_le;omega
    ·obtain⟨G3,E3,rep3⟩:=ok.yld i H2 x H3 G2 ds[i] E2.gg E2.gh y (zI hlt);rw[List.drop_eq_getElem_cons hlt] at er;unfold lcD at er;cases et:τ ds[i] (srcρ src ρ) with
     | none=>rw[et] at er;cases er
     | some ρ4=>
      rw[et] at er;cases eb:ft ρ4 with
      | none=>simp[eb] at er
      | some b=>
       simp only[eb,zA] at er;have E13:=E1.trans (E2.trans E3);refine hg _ _ _ _ ⟨G3,srcρ src ρ,ds[i],ρ4,E3.gh,(env.ext E13).src ho,rep3,et,fun σ4 G4 H4 E4 env4=>⟨G4,ρ4,b,E4.gh,env4,eb,fun G5 H5 E5 =>?_⟩⟩
       have E15:=(E2.trans E3).trans (E4.trans E5);cases b with
       | false=>exact iteF ⟨by omega,G5,xs,rest,E15,Reps.mono ((E3.trans (E4.trans E5)).gg) xs rx,er,rfl⟩
       | true=>
        refine iteT ?_;simp only[if_true] at er;cases ee:fe ρ4 with
        | none=>rw[ee] at er;cases er
        | some x4=>
         rw[ee] at er;cases el:lcD (srcρ src ρ) τ ft fe (ds.drop (i+1)) with
         | none=>simp[el] at er
         | some rest'=>simp only[el,zA,zT] at er;cases er;refine⟨G5,ρ4,x4,E5.gh,env4.ext E5,ee,fun v G6 H6 E6 r6=>⟨by simp;omega,G6,xs++[x4],rest',E15.trans E6,(Reps.mono ((E3.trans ((E4.trans E5).trans E6)).gg) xs rx).append (.cons r6 .nil),rfl,by simp⟩⟩
   ·have e:i=ds.length:=by omega
    subst e;rw[List.drop_length] at er;unfold lcD at er;cases er;refine .inl ⟨ok.stop _ H2 sub (zL _),fun p hp =>?_⟩
    have E12:=E1.trans E2;refine k p ys G2 _ (E12.trans (Ext.lay (p:=p) E2.gh hp)) (E12.hh.free hp) (E2.gh.free hp) upd_same ?_;rw[List.append_nil];exact rx
  ·cases eq
theorem de_lc (S:BlkScope X N src scope) (hc:X.calm=true) (hi:PI X tg iter (tPI X.K own f)) (ag:GAg oS g) (hos:∀ i∈oS,src[i]?=some none) (hg:∀ v σ H Q,tTE X.K own' τ v σ H Q→g v σ H Q)
  (hb:∀ C s H ex,PG (X.blk N scope C s H ex) tg g∧PTs (X.blk N scope C s H ex) ifs (tPT X.K own' ft)∧PE (X.blk N scope C s H ex) elt (tP X.K own' fe)) (ho:ownSrc own own' src=true:=by decide)
  (hs:∀ x,foldedSetIterable iter X.env x=pure x:=by intro _;rfl):PE X (.ListComp elt [⟨tg,iter,ifs,0⟩] scope pos) (tF X.K own (fLC f src τ ft fe)):=
 (pe_lc S hc hi ag hos hb hs).imp fun σ H Q q=>lc_of ho hg q
theorem ds_lcsetO {B:Bs}{oL:List Nat}{i:Nat}{y:Str}{spos py:Pos}(S:BlkScope X N src scope) (hc:X.calm=true) (hN:X.N.Nodup) (hy:X.N[i]?=some y) (hl:X.env.scope.names.lookup y=some .local) (hi:PI X tg iter (tPI X.K own f)) (ag:GAg oS g) (hos:∀ i∈oS,src[i]?=some none)
  (hg:∀ v σ H Q,tTE X.K own' τ v σ H Q→g v σ H Q) (hb:∀ C s H ex,PG (X.blk N scope C s H ex) tg g∧PTs (X.blk N scope C s H ex) ifs (tPT X.K own' ft)∧PE (X.blk N scope C s H ex) elt (tP X.K own' fe)) (ho:ownSrc own own' src=true:=by decide) (hio:i∈own:=by decide) (hpin:∀ a,(i,a)∉B.3:=by intro a;simp_all)
  (hsw:swapsWith (.ListComp elt [⟨tg,iter,ifs,0⟩] scope pos) (some (.Name y py)) spos.line X.env=pure true:=by rfl)
  (hs:∀ x,foldedSetIterable iter X.env x=pure x:=by intro _;rfl):PS X (.Assign [.Name y py] (.ListComp elt [⟨tg,iter,ifs,0⟩] scope pos) spos) (tDS X.K B oL own own (sSetO i (fLC f src τ ft fe))):=
 (ps_lcset S hc hN hy hl hi ag hos hb hsw hs).imp fun D' σ H ⟨G,ρ,o,S,eq,k⟩=>lc_of ho hg (by
  unfold sSetO at eq;cases ef:fLC f src τ ft fe ρ with
  | none=>rw[ef] at eq;cases eq
  | some ds=>rw[ef] at eq;cases eq;exact⟨G,ρ,ds,S.gh,S.envR,ef,fun p vs G' H' E hp gp hv r=>k _ G' H' (S.setO hio E hp gp hv r hpin)⟩)
theorem ds_lcset {B:Bs}{oL:List Nat}{i:Nat}{y:Str}{spos py:Pos}(S:BlkScope X N src scope) (hc:X.calm=true) (hN:X.N.Nodup) (hy:X.N[i]?=some y) (hl:X.env.scope.names.lookup y=some .local) (hi:PI X tg iter (tPI X.K own f)) (ag:GAg oS g) (hos:∀ i∈oS,src[i]?=some none)
  (hg:∀ v σ H Q,tTE X.K own' τ v σ H Q→g v σ H Q) (hb:∀ C s H ex,PG (X.blk N scope C s H ex) tg g∧PTs (X.blk N scope C s H ex) ifs (tPT X.K own' ft)∧PE (X.blk N scope C s H ex) elt (tP X.K own' fe)) (ho:ownSrc own own' src=true:=by decide) (hio:i∉own:=by decide)
  (hsw:swapsWith (.ListComp elt [⟨tg,iter,ifs,0⟩] scope pos) (some (.Name y py)) spos.line X.env=pure true:=by rfl)
  (hs:∀ x,foldedSetIterable iter X.env x=pure x:=by intro _;rfl):PS X (.Assign [.Name y py] (.ListComp elt [⟨tg,iter,ifs,0⟩] scope pos) spos) (tDS X.K B oL own own (sSet i (eF (fLC f src τ ft fe)))):=
 (ps_lcset S hc hN hy hl hi ag hos hb hsw hs).imp fun D' σ H ⟨G,ρ,o,S,eq,k⟩=>lc_of ho hg (by
  unfold sSet eF at eq;cases ef:fLC f src τ ft fe ρ with
  | none=>rw[ef] at eq;cases eq
  | some ds=>
   rw[ef] at eq;cases eq;refine⟨G,ρ,ds,S.gh,S.envR,ef,fun p vs G' H' E hp gp hv r=>k _ (upd G' p (.lst vs)) H' ((S.ext (E.freeze hp gp hv)).setS hio ?_)⟩
   exact rep_lst.mpr ⟨p,vs,rfl,upd_same,Reps.mono (.alloc gp) ds r⟩)
end
end L2
end
noncomputable section
namespace L2
open PySem PySem.Spec PyProof.Rows
noncomputable def spF (K:Frag) (F:List D→Option D):Sp:=fun vs H Q _=>∃ G ds d,Same G H∧Reps K G ds vs∧F ds=some d∧∀ v G' H',Ext G H G' H'→Rep K G' d v→Q v H'
noncomputable def spO (K:Frag) (F:List D→Option (List D)):Sp:=fun vs H Q _=>∃ G ds rs,Same G H∧Reps K G ds vs∧F ds=some rs∧∀ a us G' H',Ext G H G' H'→H a=none→G' a=none→H' a=some (.lst us)→Reps K G' rs us→Q (.ref a) H'
noncomputable def startD (N:Nat) (ds:List D):DEnv:=ds.map some++List.replicate (N-ds.length) none
noncomputable def outD:DO→Option D
 | .rt d=>some d
 | .ro ds=>some (.lst ds)
 | .nx _=>some .non
 | _=>none
noncomputable def outO:DO→Option (List D)
 | .ro ds=>some ds
 | _=>none
noncomputable def runD (n N:Nat) (g:DG) (ds:List D):Option D:=if ds.length=n then (g (startD N ds)).bind outD else none
noncomputable def runO (n N:Nat) (g:DG) (ds:List D):Option (List D):=if ds.length=n then (g (startD N ds)).bind outO else none
theorem start_get {N:Nat}{ds:List D}{i:Nat}{d:D}(h:(startD N ds)[i]?=some (some d)):ds[i]?=some d:=by
 unfold startD at h;by_cases hi:i<ds.length
 ·rw[yE (by simpa using hi),zM] at h
  cases e:ds[i]? with
  | none=>rw[e] at h;cases h
  | some a=>rw[e] at h;cases h;rfl
 ·rw[List.getElem?_append_right (by simpa using hi),List.getElem?_replicate] at h
  split at h<;>cases h
theorem start_SR {K:Frag}{G H:Hp}{own:List Nat}{N:List Str}{ds:List D}{vs:List V}(s:Same G H) (r:Reps K G ds vs) (ho:∀ i∈own,ds.length≤i):SR K ⟨G,H,[]⟩ own G H (start N vs) (startD N.length ds):=by
 refine⟨s,Same.refl _,Same.refl _,fun b o e =>.inl e,fun i d hi e =>?_,fun i d hi e =>?_,fun i j a hi hj di dj =>?_,by simp[start,startD,r.length],fun i a h=>by cases h⟩
 ·obtain⟨v,ev,rv⟩:=r.get (start_get e);refine⟨v,?_,rv⟩;have hi:i<vs.length:=(zC.mp ev).1;unfold start;rw[yE (by simpa using hi),zM,ev];rfl
 ·have:=(zC.mp (start_get e)).1;have:=ho i hi;omega
 ·obtain⟨d,e⟩:=di;have:=(zC.mp (start_get e)).1;have:=ho i hi;omega
noncomputable section
variable {P:Program}{w:World}{K:Frag}{mg:Str→Option Value}{base:Heap}
theorem Fun.okD {x qual:Str}{st:Stmt}{f:Addr}{fd:FuncData}{N ps:List Str}{k:Nat}(F:Fun K x qual st f fd) (S:FnScope N ps (defScope st)) {own own':List Nat}{g:DG}(hown:∀ i∈own,ps.length≤i)
  (hb:∀ (cdv:Value) (A:Around) (outer:List Env) (s:Shared) (H:Hp) (E:XK),Room k (A.deeper (envOfC qual (defScope st) s.heap.objs.size f cdv))→∀ B:Bs,B.3=[] →
   PSs (cxOf CX0 P w K mg base N qual (defScope st) f cdv A outer s H E).nox (defBody st) (tDS K B [] own own' g)):FnOk P w K mg base CX0 (k+1) f fd ps (spF K (runD ps.length N.length g)):=by
 refine F.ok S (fun vs H Q E h =>?_) (fun cdv A outer s H vs Q E hr h =>?_)
 ·obtain⟨G,ds,d,gh,r,eq,_⟩:=h;unfold runD at eq
  split at eq
  ·rw[← r.length];assumption
  ·cases eq
 ·obtain⟨G,ds,d,gh,r,eq,q⟩:=h;unfold runD at eq
  split at eq
  ·rename_i hl;refine⟨_,hb cdv A outer s H E hr ⟨G,H,[]⟩ rfl,?_⟩;cases eg:g (startD N.length ds) with
   | none=>rw[eg] at eq;cases eq
   | some o=>
    rw[eg] at eq;refine⟨G,_,o,start_SR gh r (by rw[hl];exact hown),eg,?_⟩
    cases o with
    | rt d'=>cases eq;exact fun v G' H' E r=>q v G' H' E r
    | ro rs=>cases eq;exact fun a us G' H' E h1 h2 h3 r=>q _ (upd G' a (.lst us)) H' (E.freeze h1 h2 h3) (rep_lst.mpr ⟨a,us,rfl,upd_same,Reps.mono (.alloc h2) rs r⟩)
    | nx ρ=>cases eq;exact fun σ G' H' S=>q _ G' H' S.toExt (rep_non.mpr rfl)
    | bk ρ=>cases eq
    | ct ρ=>cases eq
    | rm d ρ=>cases eq
  ·cases eq
theorem Fun.okO {x qual:Str}{st:Stmt}{f:Addr}{fd:FuncData}{N ps:List Str}{k:Nat}(F:Fun K x qual st f fd) (S:FnScope N ps (defScope st)) {own own':List Nat}{g:DG}(hown:∀ i∈own,ps.length≤i)
  (hb:∀ (cdv:Value) (A:Around) (outer:List Env) (s:Shared) (H:Hp) (E:XK),Room k (A.deeper (envOfC qual (defScope st) s.heap.objs.size f cdv))→∀ B:Bs,B.3=[] →
   PSs (cxOf CX0 P w K mg base N qual (defScope st) f cdv A outer s H E).nox (defBody st) (tDS K B [] own own' g)):FnOk P w K mg base CX0 (k+1) f fd ps (spO K (runO ps.length N.length g)):=by
 refine F.ok S (fun vs H Q E h =>?_) (fun cdv A outer s H vs Q E hr h =>?_)
 ·obtain⟨G,ds,d,gh,r,eq,_⟩:=h;unfold runO at eq
  split at eq
  ·rw[← r.length];assumption
  ·cases eq
 ·obtain⟨G,ds,d,gh,r,eq,q⟩:=h;unfold runO at eq
  split at eq
  ·rename_i hl;refine⟨_,hb cdv A outer s H E hr ⟨G,H,[]⟩ rfl,?_⟩;cases eg:g (startD N.length ds) with
   | none=>rw[eg] at eq;cases eq
   | some o=>
    rw[eg] at eq;refine⟨G,_,o,start_SR gh r (by rw[hl];exact hown),eg,?_⟩
    cases o with
    | ro rs=>cases eq;exact fun a us G' H' E h1 h2 h3 r=>q a us G' H' E h1 h2 h3 r
    | rt d'=>cases eq
    | nx ρ=>cases eq
    | bk ρ=>cases eq
    | ct ρ=>cases eq
    | rm d ρ=>cases eq
  ·cases eq
structure Ok1 (P:Program) (w:World) (K:Frag) (mg:Str→Option Value) (base:Heap) (x:Str) (k:Nat) (sp:Sp):Prop where
 ex:∃ f fd ps,FnOk P w K mg base CX0 k f fd ps sp∧mg x=some (.ref f)∧keepIn K (.ref f)=true∧Binds K fd ps []
theorem Ok1.mono {x:Str}{j k:Nat}{sp:Sp}(h:Ok1 P w K mg base x j sp) (hk:j≤k):Ok1 P w K mg base x k sp:=by
 obtain⟨f,fd,ps,h1,h2⟩:=h.ex;exact⟨f,fd,ps,h1.mono hk,h2⟩
theorem Ok1.toF {x:Str}{k:Nat}{F:List D→Option (List D)}(h:Ok1 P w K mg base x k (spO K F)):Ok1 P w K mg base x k (spF K fun ds=>(F ds).map .lst):=by
 obtain⟨f,fd,ps,h1,h2⟩:=h.ex;refine⟨f,fd,ps,h1.imp fun vs H Q E ⟨G,ds,d,gh,r,eq,q⟩ =>?_,h2⟩
 have eq:Option.map D.lst (F ds)=some d:=eq;cases ef:F ds with
 | none=>rw[ef] at eq;cases eq
 | some rs=>rw[ef] at eq;cases eq;exact⟨G,ds,rs,gh,r,ef,fun a us G' H' E h1 h2 h3 r=>q _ (upd G' a (.lst us)) H' (E.freeze h1 h2 h3) (rep_lst.mpr ⟨a,us,rfl,upd_same,Reps.mono (.alloc h2) rs r⟩)⟩
end
noncomputable section
variable {X:Cx}{own:List Nat}{x:Str}{p pos:Pos}{e:Expr}{es:List Expr}{g:DL}{k:Nat}
theorem de_call {F:List D→Option D}(h:Ok1 X.prog X.w X.K X.mg X.base x k (spF X.K F)) (hr:Room k X.A) (hg:Gl X x) (ha:PA X (e::es) (tPA X.K own g)) (hdb:(x==("__debug__" : Str))=false:=by decide)
  (he:starEach (e::es) X.env=(false,eval e X.env)::starEach es X.env:=by rfl) (hpl:(backTo pos (starEach es X.env)).any (·.1)=false:=by rfl):PE X (.Call (.Name x p) (e::es) [] pos) (tP X.K own (eCall F g)):=by
 obtain⟨f,fd,ps,h1,hm,hk,hb⟩:=h.ex;refine(pe_call h1 hr hg hm hk hb .nil pass0 ha hdb he hpl).imp fun σ H Q ⟨G,ρ,d,gh,env,eq,q⟩ =>?_
 obtain⟨xs,ex,eo⟩:=eCall_some eq;exact⟨G,ρ,xs,gh,env,ex,fun vs G1 H1 E1 r1=>by show spF X.K F (vs++[]) H1 Q E0;rw[List.append_nil];exact⟨G1,xs,d,E1.gh,r1,eo,fun v G2 H2 E2 r2=>q v G2 H2 (E1.trans E2) r2⟩⟩
noncomputable def fCall (F:List D→Option (List D)) (g:DL):DL:=fun ρ=>(g ρ).bind F
theorem de_callO {F:List D→Option (List D)}(h:Ok1 X.prog X.w X.K X.mg X.base x k (spO X.K F)) (hr:Room k X.A) (hg:Gl X x) (ha:PA X (e::es) (tPA X.K own g)) (hdb:(x==("__debug__" : Str))=false:=by decide)
  (he:starEach (e::es) X.env=(false,eval e X.env)::starEach es X.env:=by rfl) (hpl:(backTo pos (starEach es X.env)).any (·.1)=false:=by rfl):PE X (.Call (.Name x p) (e::es) [] pos) (tF X.K own (fCall F g)):=by
 obtain⟨f,fd,ps,h1,hm,hk,hb⟩:=h.ex;refine(pe_call h1 hr hg hm hk hb .nil pass0 ha hdb he hpl).imp fun σ H Q ⟨G,ρ,ds,gh,env,eq,q⟩ =>?_
 unfold fCall at eq;cases ex:g ρ with
 | none=>rw[ex] at eq;cases eq
 | some xs=>rw[ex] at eq;exact⟨G,ρ,xs,gh,env,ex,fun vs G1 H1 E1 r1=>by show spO X.K F (vs++[]) H1 Q E0;rw[List.append_nil];exact⟨G1,xs,ds,E1.gh,r1,eq,fun a us G2 H2 E2 h1 h2 h3 r2=>q a us G2 H2 (E1.trans E2) (E1.hh.free h1) h2 h3 r2⟩⟩
noncomputable def scalD:D→Bool
 | .non=>true|.bl _=>true|.int _=>true|.str _=>true|_=>false
theorem scal_rep {K:Frag}{G G':Hp}{d:D}{v:V}(h:scalD d=true) (r:Rep K G d v):Rep K G' d v:=by
 cases d<;>first|(simp[scalD] at h;done)|(simpa only [Rep] using r)
theorem RepsO.all {K:Frag}{G H:Hp}(s:Same G H):∀ {ds:List D}{vs:List V},RepsO K G H ds vs→Reps K H ds vs
 | _,_,.nil =>.nil
 | _,_,.cons r t =>.cons (r.all s) (RepsO.all s t)
noncomputable def eCallS (F:List D→Option D) (g:DL):DF:=fun ρ=>(g ρ).bind fun xs=>(F xs).bind fun d=>if scalD d=true then some d else none
theorem de_callS {F:List D→Option D}(h:Ok1 X.prog X.w X.K X.mg X.base x k (spF X.K F)) (hr:Room k X.A) (hg:Gl X x) (ha:PA X (e::es) (tQA X.K own g)) (hdb:(x==("__debug__" : Str))=false:=by decide)
  (he:starEach (e::es) X.env=(false,eval e X.env)::starEach es X.env:=by rfl) (hpl:(backTo pos (starEach es X.env)).any (·.1)=false:=by rfl):PE X (.Call (.Name x p) (e::es) [] pos) (tP X.K own (eCallS F g)):=by
 obtain⟨f,fd,ps,h1,hm,hk,hb⟩:=h.ex;refine(pe_call h1 hr hg hm hk hb .nil pass0 ha hdb he hpl).imp fun σ H Q ⟨G,ρ,d,gh,env,eq,q⟩ =>?_
 unfold eCallS at eq;cases ex:g ρ with
 | none=>rw[ex] at eq;cases eq
 | some xs=>
  cases ef:F xs with
  | none=>simp[ex,ef] at eq
  | some d'=>
   simp only[ex,ef,zA] at eq
   split at eq
   ·cases eq;rename_i hd;refine⟨G,ρ,xs,gh,env,ex,fun vs G1 H1 E1 r1 =>?_⟩
    show spF X.K F (vs++[]) H1 Q E0;rw[List.append_nil];exact⟨H1,xs,d,Same.refl _,r1.all E1.gh,ef,fun v G2 H2 E2 r2=>q v G1 H2 (E1.trans ⟨E2.hh,Same.refl _,E1.gh.trans E2.hh,fun b o z =>.inl z⟩) (scal_rep hd r2)⟩
   ·cases eq
end
theorem law_sp {F:List D→Option D}{m:Nat}(hF:∀ ns:List Int,ns.length≤m→F [.scr ns]=some (.bl true)) (K:Frag) (H:Hp) (a:Addr) (ns:List Int) (hl:ns.length≤m) (hO:Only H) (hS:SqL K H a (ns.map V.int)) :
  spF K F [.ref a] H (fun v _=>v=.bl true) fun _ _ _=>False:=
 ⟨H,[.scr ns],.bl true,Same.refl _,.cons (rep_scr.mpr ⟨a,rfl,hS⟩) .nil,hF ns hl,fun v G' H' E r=>rep_bl.mp r⟩
end L2
end
noncomputable section
namespace L2
open PySem PySem.Spec PyProof.Rows
noncomputable def Ite (K:Frag) (a:Addr):It:=
 ⟨fun i H=>∃ xs x,SqL K H a xs∧xs[i]?=some x,fun i H v H'=>∃ x p,(∀ xs,SqL K H a xs→xs[i]?=some x)∧H p=none∧v=.ref p∧H'=upd H p (.tup [.int i,x]),fun i H=>∃ xs,SqL K H a xs∧xs.length≤i⟩
theorem turn_enum {P:Program}{w:World}{K:Frag}{elts:List Expr}{x1} {tpos:Pos}(a e it:Addr) (hei:e≠it):Turn P w K (.Tuple elts x1 tpos) (Ite K a) [e,it] e (fun i h=>(∃ old,IsEnum h e it (i:Int) old)∧h.IsListIter it a i) where
 mem:=by simp
 obj:=fun i h st b hb=>by
  obtain⟨⟨old,st1⟩,st2⟩:=st;rcases zG.mp hb with rfl|hb
  ·exact⟨_,st1,fun v z=>by cases z⟩
  ·have e:b=it:=by simpa using hb
   subst e;obtain⟨o,e,c,d⟩:=st2;exact⟨o,e,fun v z=>by rw[d] at z;cases z⟩
 keep:=fun i h h' st k=>by obtain⟨⟨old,st1⟩,st2⟩:=st;exact⟨⟨old,k e (by simp) _ st1⟩,st2.at fun o q=>k it (by simp) o q⟩
 item:=by
  intro X hP hw hK hc i pins s σ H E I hf st hg;subst hP hw hK;obtain⟨⟨old,st1⟩,st2⟩:=st;obtain⟨xs,x,hq,hx⟩:=hg;obtain⟨its,rv,p,hz⟩:=I.list hq;obtain⟨u,hu,ru⟩:=rv.get hx;have fe:=hf e (by simp)
  have fi:=hf it (by simp)
  refine wpAny_pyNext_enum_item st1 st2 p.isList (x:=u) (by simpa using hu) hei fun h1 eo it1 t1 z1 k1 =>?_
  refine⟨_,rfl,?_⟩;refine wpAny_letOwnedTupleGo_enum (s:={ s with heap:=h1,toks:=s.toks+1 }) eo fun h2 e2 s2 =>?_
  have hep:e<s.heap.objs.size:=zJ st1;have hn:H s.heap.objs.size=none:=I.hok.fresh (zL _);have s2':Heap.SameBut e h1 h2:=s2;have keep:∀ b o,b≠e→b≠it→s.heap.get? b=some o→h2.get? b=some o:=fun b o h3 h4 q=>(s2'.2 b h3).trans (k1 b o h3 h4 q)
  have tup:h2.get? s.heap.objs.size=some { cls :=.type "tuple",data :=.seq #[.int i s.toks,u] }:=(s2'.2 _ (Nat.ne_of_gt hep)).trans t1;have trk:∀ b o,H b=some o→b≠e∧b≠it:=fun b o q=>⟨fun z=>by(rw[z,fe.1] at q;cases q),fun z=>by(rw[z,fi.1] at q;cases q)⟩
  have new:ObjOk X.prog X.w (upd H s.heap.objs.size (.tup [.int i,x])) h2 s.heap.objs.size (.tup [.int i,x]):=
   ⟨by show 2≤sizeLine;rw[sizeLine_eq];decide,[.int i s.toks,u],.cons ⟨_,rfl⟩ (.cons ru .nil),_,tup,rfl,_,rfl⟩
  have hok2:HOk X.prog X.w (upd H s.heap.objs.size (.tup [.int i,x])) h2:=fun b o q=>by
   by_cases hb:b=s.heap.objs.size
   ·subst hb;rw[upd_same] at q;cases q;exact new
   ·rw[upd_ne hb] at q;refine(I.hok b o q).stay (fun c v hcb r =>?_) (fun c r=>by rw[upd_ne (ne_of_none r hn)];exact r) fun c ys r=>by rw[upd_ne (ne_of_none r hn)];exact r
    rcases hcb with rfl|hcb
    ·exact keep _ _ (trk _ _ q).1 (trk _ _ q).2 r
    ·exact keep _ _ (trk _ _ hcb).1 (trk _ _ hcb).2 r
  have un:Un (frs X.stack) [e,it] H (upd H s.heap.objs.size (.tup [.int i,x])) s.heap h2:=by
   have nin:∀ b,b∉[e,it]→b≠e∧b≠it:=fun b hb=>⟨fun z=>hb (by simp[z]),fun z=>hb (by simp[z])⟩
   have old:∀ b o,s.heap.get? b=some o→b≠s.heap.objs.size:=fun b o q=>zR (zJ q)
   refine⟨fun b o q n _ hx=>keep b o (nin b hx).1 (nin b hx).2 q,fun b o q n _ hx=>⟨o.slots,keep b o (nin b hx).1 (nin b hx).2 q⟩,fun b o q n hx=>by rw[upd_ne (old b o q)];exact n,
    fun b o q hx=>⟨o,keep b o (nin b hx).1 (nin b hx).2 q⟩,fun b ys q=>by rw[upd_ne (ne_of_none q hn)];exact q,fun b o u q=>by rw[upd_ne (ne_of_none q hn)];exact q,fun b ps q=>⟨#[],by rw[upd_ne (ne_of_none q hn)];simpa using q⟩⟩
  have I2:Inv X pins σ (upd H s.heap.objs.size (.tup [.int i,x])) { s with heap:=h2,toks:=s.toks+1 }:=I.call' (s':={ s with heap:=h2,toks:=s.toks+1 }) rfl un hok2 I.bare fun b hb=>by
   rcases zG.mp hb with rfl|hb
   ·exact⟨fe.2.2.2.1,fe.2.1,fe.2.2.2.2.1,fe.2.2.2.2.2⟩
   ·have z:b=it:=by simpa using hb
    subst z;exact⟨fi.2.2.2.1,fi.2.1,fi.2.2.2.2.1,fi.2.2.2.2.2⟩
  have st3:h2.IsListIter it a (i+1):=it1.at fun o q=>(s2'.2 it (Ne.symm hei)).trans q
  refine⟨.ref s.heap.objs.size,_,I2,rfl,⟨x,s.heap.objs.size,fun ys hy=>by rw[I.list_inj hy hq];exact hx,hn,rfl,rfl⟩,⟨⟨u,by exact_mod_cast e2⟩,st3⟩,fun b hb =>?_⟩
  have:b≠s.heap.objs.size:=by
   rcases zG.mp hb with rfl|hb
   ·exact zR hep
   ·have z:b=it:=by simpa using hb
    subst z;obtain⟨o,q,_⟩:=st2;exact zR (zJ q)
  rw[upd_ne this];exact(hf b hb).1
 done:=by
  intro X hP hw hK hc i pins s σ H E I hf st hg;subst hP hw hK;obtain⟨⟨old,st1⟩,st2⟩:=st;obtain⟨xs,hq,hx⟩:=hg;obtain⟨its,rv,p,hz⟩:=I.list hq;obtain⟨f0,f1,f2,f3,f4,f5⟩:=hf it (by simp)
  have hl:=rv.length;exact wpAny_pyNext_enum_end (I.ok.hd hc) st1 st2 p.isList (by simp;omega) fun h' eb=>⟨rfl,I.turned (t':=s.toks) (fun b o hb q=>eb b o hb q) f0 f1 f3 f4 f5⟩
 self:=fun A i s Q E st h=>by obtain⟨⟨old,st1⟩,st2⟩:=st;exact wpAny_pyIter_enum st1 h
noncomputable section
variable {X:Cx}{own:List Nat}{e:Expr}{f:DF}
noncomputable def iEnumT (K:Frag) (tl:TE):TI:=fun σ H R=>tl σ H fun x H1=>∃ a,x=.ref a∧(∃ xs,SqL K H1 a xs)∧R (Ite K a) H1
theorem pi_enum {elts:List Expr}{x1} {tpos p pos:Pos}{tl:TE}(hg:Gl X "enumerate") (hm:X.mg "enumerate" = none) (hl:PE X e tl) (hs:starEach [e] X.env=[(false,eval e X.env)]:=by rfl) (hs1:starEach [e] X.env=(false,eval e X.env)::starEach [] X.env:=by rfl)
  (hv:bootBuiltins "enumerate" = some (.type "enumerate"):=by decide +kernel):PI X (.Tuple elts x1 tpos) (.Call (.Name "enumerate" p) [e] [] pos) (iEnumT X.K tl):=by
 intro pins s σ H R I h;refine Call_ (ld_blt I hg hm hv (PyProof.Rows.callWith_type1 (thn (pa_cons hl pa_nil hs1 pos pins s σ H (fun vs H1=>match vs with|[x]=>∃ a,x=.ref a∧(∃ xs,SqL X.K H1 a xs)∧R (Ite X.K a) H1|_=>False) I h) fun us s1 ⟨vs,H1,I1,r1,q1⟩ =>?_) hs rfl))
 cases vs with
 | nil=>exact q1.elim
 | cons x t=>
  cases t with
  | cons _ _=>exact q1.elim
  | nil=>
  obtain⟨a,rfl,⟨xs,hq⟩,q⟩:=q1;obtain⟨u,rfl,ru⟩:=Vals.one r1;cases ru;obtain⟨its,rv,pl,hz⟩:=I1.list hq;refine call_enumerate_list pl.isList fun h' e1 l1 z1 k1 =>?_
  refine wpAny_pyIter_enum (s:={ s1 with heap:=h' }) e1 ?_;have n1:H1 (s1.heap.objs.size+1)=none:=I1.hok.fresh (Nat.le_succ _);have n0:H1 s1.heap.objs.size=none:=I1.hok.fresh (zL _);refine⟨s1.heap.objs.size+1,[s1.heap.objs.size+1,s1.heap.objs.size],_,_,H1,rfl,I1.kept (t':=s1.toks) k1,turn_enum a (s1.heap.objs.size+1) s1.heap.objs.size (Nat.ne_of_gt (Nat.lt_succ_self _)),⟨⟨_,e1⟩,l1⟩,fun b hb =>?_,q⟩
  rcases zG.mp hb with rfl|hb
  ·exact I1.fpOk (Nat.le_succ _) n1
  ·have z:b=s1.heap.objs.size:=by simpa using hb
   subst z;exact I1.fpOk (zL _) n0
noncomputable def enumD (xs:List D):List D:=xs.zipIdx.map fun p =>.tup [.int (p.2:Nat),p.1]
theorem enumD_get {xs:List D}{i:Nat}{d:D}(h:(enumD xs)[i]?=some d):∃ x,xs[i]?=some x∧d=.tup [.int i,x]:=by
 unfold enumD at h;rw[zM,List.getElem?_zipIdx] at h;cases e:xs[i]? with
 | none=>rw[e] at h;cases h
 | some x=>rw[e] at h;cases h;exact⟨x,rfl,by simp⟩
theorem enumD_len (xs:List D):(enumD xs).length=xs.length:=by simp[enumD]
theorem itok_enum {K:Frag}{G:Hp}{a:Addr}{vs:List V}{ds:List D}(ha:G a=some (.lst vs)) (r:Reps K G ds vs):ItOk K G (Ite K a) (enumD ds):=by
 refine⟨fun i H s hi =>?_,fun i H s hi=>⟨vs,.of (s _ _ ha),by rw[enumD_len] at hi;rw[← r.length];exact hi⟩,fun i H x H' G1 d s1 s2 ⟨y,p,hall,hp,ev,eh⟩ hd =>?_⟩
 ·rw[enumD_len] at hi;have hi':i<vs.length:=by rw[← r.length];exact hi
  exact⟨vs,vs[i],.of (s _ _ ha),by simp[hi']⟩
 ·obtain⟨c,ec,rfl⟩:=enumD_get hd;have hx:=hall vs (.of (s2 _ _ (s1 _ _ ha)));obtain⟨v,ev',rv⟩:=r.get ec;rw[hx] at ev';cases ev';subst ev eh;refine⟨upd G1 p (.tup [.int i,y]),Ext.alloc s2 hp,rep_tup.mpr ⟨p,_,rfl,upd_same,.cons (rep_int.mpr rfl) (.cons (Rep.mono (s1.trans (.alloc (s2.free hp))) c rv) .nil)⟩⟩
noncomputable def iE (f:DF):DL:=fun ρ=>(iL f ρ).map enumD
theorem di_enum {elts:List Expr}{x1} {tpos p pos:Pos}(hg:Gl X "enumerate") (hm:X.mg "enumerate" = none) (h:PE X e (tP X.K own f)) (hs:starEach [e] X.env=[(false,eval e X.env)]:=by rfl) (hs1:starEach [e] X.env=(false,eval e X.env)::starEach [] X.env:=by rfl) :
  PI X (.Tuple elts x1 tpos) (.Call (.Name "enumerate" p) [e] [] pos) (tPI X.K own (iE f)):=(pi_enum hg hm h hs hs1).imp fun σ H R ⟨G,ρ,ds,gh,env,eq,k⟩=>by
 unfold iE at eq;cases ef:iL f ρ with
 | none=>rw[ef] at eq;cases eq
 | some xs=>
  rw[ef] at eq;cases eq;refine⟨G,ρ,_,gh,env,iL_some ef,fun v G1 H1 E1 r1 =>?_⟩
  obtain⟨a,vs,rfl,ga,ra⟩:=rep_lst.mp r1;exact⟨a,rfl,⟨vs,.of (E1.gh _ _ ga)⟩,k _ G1 H1 E1 (itok_enum ga ra)⟩
noncomputable def signsD (x:Str):List D:=x.cps.toList.map fun c =>.str ⟨#[c]⟩
noncomputable def iS (f:DF):DL:=fun ρ=>(f ρ).bind fun d=>match d with|.str x=>if x.cps.all (· < 128)=true then some (signsD x) else none|_=>none
end
theorem hte_name {K:Frag}{own:List Nat}(i:Nat) (hi:i∉own:=by decide):∀ v σ H Q,tTE K own (gN i) v σ H Q→gName i v σ H Q:=fun v σ H Q ⟨G,ρ,d,ρ',gh,env,r,eq,k⟩=>by
 cases eq;exact k _ G H (.refl gh) (env.set hi r)
theorem hte_two {K:Frag}{own:List Nat}(i j:Nat) (hi:i∉own:=by decide) (hj:j∉own:=by decide):∀ v σ H Q,tTE K own (gN2 i j) v σ H Q→gTup K 2 (gCons (gName i) (gCons (gName j) gNil)) v σ H Q:=fun v σ H Q ⟨G,ρ,d,ρ',gh,env,r,eq,k⟩=>by
 obtain⟨a,b,rfl,rfl⟩:=gN2_some eq;obtain⟨p,x,y,rfl,g,rx,ry⟩:=rep_two r;exact⟨p,_,rfl,.of (gh _ _ g),rfl,x,_,rfl,y,_,rfl,rfl,k _ G H (.refl gh) ((env.set hi rx).set hj ry)⟩
noncomputable def blkCheck (outer:Scope) (oN N:List Str) (src:List (Option Nat)) (scope:Scope):Bool:=
 (scope.names.all fun y=>scope.names.lookup y.1==some y.2)&&(scope.names.all fun y=>y.2 != .free||(outer.names.lookup y.1==some .cell||outer.names.lookup y.1==some .free))&&(src.length==N.length) &&
 ((List.range src.length).all fun i=>match src[i]?,N[i]? with|some (some j),some x=>oN[j]? == some x&&scope.names.lookup x==some .free|_,_=>true)
theorem blk_mk {X:Cx}{outer:Scope}{oN N:List Str}{src:List (Option Nat)}{scope:Scope}(hk:scope.kind=.function) (h:blkCheck outer oN N src scope=true) (e1:X.env.scope=outer) (e2:X.N=oN):BlkScope X N src scope:=by
 unfold blkCheck at h;simp only[Bool.and_eq_true,List.all_eq_true,beq_iff_eq,Bool.or_eq_true] at h;obtain⟨⟨⟨h1,h2⟩,h3⟩,h4⟩:=h;refine⟨hk,fun y hy=>h1 y hy,fun y hy hf =>?_,h3,fun i j x hs hN =>?_⟩
 ·rw[e1];rcases h2 y hy with z|z
  ·rw[hf] at z;exact absurd z (by decide)
  ·exact z
 ·have hi:i<src.length:=(zC.mp hs).1;have:=h4 i (by simpa using hi)
  rw[hs,hN] at this;simp only[Bool.and_eq_true,beq_iff_eq] at this;rw[e2];exact this
end L2
end
noncomputable section
namespace L2
open PySem PySem.Spec PyProof.Rows
theorem nolen_lri:typeLookup (.type "list_reverseiterator") "__len__" = pure none:=by rw[typeLookup_type,builtinLookup_eq_fast];kernel_rfl
theorem hint_lri:typeLookup (.type "list_reverseiterator") "__length_hint__" = pure (some (.builtin "list_reverseiterator.__length_hint__")):=by rw[typeLookup_type,builtinLookup_eq_fast];kernel_rfl
noncomputable section
variable {prog:Program}{w:World}{A:Around}{s:Shared}{R:Result→Shared→Prop}
variable {I:Addr}{fp wr:List Addr}{G:Array GenState→Array GenState→Prop}{n:Nat}{P:Nat→Value→Prop}{St:Nat→Shared→Prop}
theorem extend_rev (W:WalksS prog w A.in1 I fp wr G n P St) (hT:∀ i s,St i s→s.TypeIs (.ref I) "list_reverseiterator") (S:Addr) (res:Value) (c₀:Nat) (hst:St 0 s) (hSf:S∉fp) (hI:I∈fp)
  (hS:s.heap.get? S=some { cls :=.type "list",data :=.seq #[] c₀ })
  (hR:∀ s' acc' c',Moved (S::wr) G s s'→s'.heap.get? S=some { cls :=.type "list",dict:=none,data :=.seq acc' c',slots :=#[] }→ItemsOf P acc' n→R (.ok (.ret res)) s') (hn:n≤sizeLine) :
  wpAny (model prog w) A.in1 (Builtin.List.listExtendWith (.ref S) (.ref I) res)
   (fun fin s'=>match fin with|.done f=>R (.ok f) s'|.again c'=>c'.quiet=true∧codeAny (model prog w) A c' R s') (fun e s'=>R (.error e) s') s:=by
 have hSI:S≠I:=fun e=>hSf (e ▸ hI)
 have h1:Builtin.List.listSameRef (.ref S) (.ref I)=false:=by simp[Builtin.List.listSameRef,hSI]
 unfold Builtin.List.listExtendWith;refine zE (wpAny_typeOf (hT 0 _ hst) ?_);rw[if_neg (by rw[h1];decide)]
 refine zE (W.self 0 _ _ _ hst ?_);refine zE (wpAny_holding ?_);unfold Builtin.List.listLengthHint;refine zE (wpAny_specialOf (hT 0 _ hst) nolen_lri ?_);show wpAny _ A.in1 (specialOf (Value.ref I) (Str.ofString "__length_hint__") >>= _) _ _ _;refine zE (wpAny_specialOf (hT 0 _ hst) hint_lri ?_)
 (generalize hid:("list_reverseiterator.__length_hint__" : String)=id0;(fail_if_success (clear hid id0));wp_delta;rw[show splitId id0=some ("list_reverseiterator", "__length_hint__") from by subst hid;decide +kernel];subst hid)
 refine zE (wpAny_isInstance (b:=true) (hT 0 _ hst) (by rw[isSubtype_type];kernel_rfl) ?_)
 refine zW ?_;rw[if_neg (by decide)]
 exact zW ⟨plainId_quiet F.plain_extend_loop _,codeAny_extend_loopS W hn _ hSf _ n 0 _ _ _ rfl (Nat.zero_le _) hst hS (ItemsOf.nil P) hR⟩
theorem init_rev (W:WalksS prog w A.in1 I fp wr G n P St) (hT:∀ i s,St i s→s.TypeIs (.ref I) "list_reverseiterator") (S:Addr) (hst:St 0 s) (hSf:S∉fp) (hI:I∈fp)
  (hS:s.heap.get? S=some { cls :=.type "list",data :=.seq #[] })
  (hR:∀ s' acc' c',Moved (S::wr) G s s'→s'.heap.get? S=some { cls :=.type "list",dict:=none,data :=.seq acc' c',slots :=#[] }→ItemsOf P acc' n→R (.ok (.ret .none)) s') (hn:n≤sizeLine) :
  wpAny (model prog w) A.in1 (Builtin.«list.__init__» ⟨[.ref S,.ref I],[]⟩)
   (fun fin s'=>match fin with|.done f=>R (.ok f) s'|.again c'=>c'.quiet=true∧codeAny (model prog w) A c' R s') (fun e s'=>R (.error e) s') s:=by
 show wpAny _ A.in1 (do let old ← Builtin.List.listItems (.ref S);Builtin.List.listUpdate (.ref S) (fun _ =>#[]);letGo old.toList.reverse;Builtin.List.listExtendWith (.ref S) (.ref I) .none) _ _ s
 refine zE ?_;unfold Builtin.List.listItems;refine zE (wpAny_seqItems hS rfl (zW ?_));show wpAny _ A.in1 (updateSeq S (fun _ =>#[]) >>= fun _=>letGo (#[]:Array Value).toList.reverse >>= fun _=>Builtin.List.listExtendWith (.ref S) (.ref I) .none) _ _ s
 refine zE (wpAny_updateSeq hS rfl ?_);have hS₂:=Heap.get?_update_self (Obj.mapSeq (fun _=>(#[]:Array Value))) hS rfl
 have oth:∀ b o,b≠S→s.heap.get? b=some o→(s.heap.update S (Obj.mapSeq (fun _=>(#[]:Array Value)))).get? b=some o:=
  fun b o hb e=>(Heap.get?_update_other _ _ (Ne.symm hb)).trans e
 refine zE (wpAny_letGo ?_);refine extend_rev (hn:=hn) W hT S .none _ (W.frame 0 s _ s.toks hst (zL _) fun b hb o e=>oth b o (fun h=>hSf (h ▸ hb)) e) hSf hI hS₂ fun s' acc' c' hm hS' hacc =>?_
 exact hR s' acc' c' (Moved.trans W.gtrans ((Moved.refl W.grefl).then_heap (zL _) fun b o hb e=>oth b o (fun h=>hb (h ▸ zD)) e) hm) hS' hacc
end
noncomputable section
variable {prog:Program}{w:World}{A:Around}{E:Value→Shared→Prop}{s:Shared}
variable {I:Addr}{fp wr:List Addr}{G:Array GenState→Array GenState→Prop}{n:Nat}{P:Nat→Value→Prop}{St:Nat→Shared→Prop}
theorem call_list_rev {Q:Value→Shared→Prop}(W:WalksS prog w A.in1.in1 I fp wr G n P St) (hT:∀ i s,St i s→s.TypeIs (.ref I) "list_reverseiterator") (hst:St 0 s) (hfp:∀ b∈fp,b<s.heap.objs.size) (hI:I∈fp)
  (hQ:∀ s' acc' c',Moved (s.heap.objs.size::wr) G { s with heap:=s.heap.push { cls :=.type "list",data :=.seq #[] } } s' →
   s'.heap.get? s.heap.objs.size=some { cls :=.type "list",dict:=none,data :=.seq acc' c',slots :=#[] }→ItemsOf P acc' n→Q (.ref s.heap.objs.size) s') (hn:n≤sizeLine) :
  wpAny (model prog w) A (call (.type "list") [.ref I]) Q E s:=by
 have hSf:s.heap.objs.size∉fp:=fun hm=>yF _ (hfp _ hm)
 refine callType_codes (Q₁:=fun obj s₁=>obj=.ref s.heap.objs.size∧s₁={ s with heap:=s.heap.push { cls :=.type "list",data :=.seq #[] } }) F.called_list (F.typeCall_list_1 _) F.entry_list_init
  (code_list_new _ ⟨rfl,rfl⟩) fun obj s₁ h₁ =>?_
 obtain⟨rfl,rfl⟩:=h₁;have hS:(s.heap.push { cls :=.type "list",data :=.seq #[] }).get? s.heap.objs.size=some { cls :=.type "list",data :=.seq #[] }:=zV _ rfl;refine⟨⟨_,hS,rfl⟩,F.args_list_init_2 _ _,init_rev (hn:=hn) W hT _ (W.frame 0 s _ s.toks hst (zL _) fun b _ o e=>zF _ e) hSf hI hS fun s' acc' c' hm hS' hacc =>?_⟩
 exact⟨rfl,hQ s' acc' c' hm hS' hacc⟩
end
noncomputable section
variable {X:Cx}{own:List Nat}{e:Expr}{f:DF}{p q pos pos':Pos}{tl:TE}
noncomputable def tLR (K:Frag) (tl:TE):TE:=fun σ H Q=>tl σ H fun x H1=>∃ a xs,x=.ref a∧SqL K H1 a xs∧∀ l,H1 l=none→Q (.ref l) (upd H1 l (.lst xs.reverse))
theorem pe_listRev (hcal:X.calm=true) (hg:Gl X "list") (hm:X.mg "list" = none) (hg':Gl X "reversed") (hm':X.mg "reversed" = none) (hl:PE X e tl) (hs:starEach [e] X.env=(false,eval e X.env)::starEach [] X.env:=by rfl)
  (hs':starEach [.Call (.Name "reversed" q) [e] [] pos'] X.env=(false,eval (.Call (.Name "reversed" q) [e] [] pos') X.env)::starEach [] X.env:=by rfl)
  (hv:bootBuiltins "reversed" = some (.type "reversed"):=by decide +kernel):PE X (.Call (.Name "list" p) [.Call (.Name "reversed" q) [e] [] pos'] [] pos) (tLR X.K tl):=by
 intro pins s σ H Q I h;refine wpAny_Call_Name_kw (ld_blt I hg hm PyProof.Rows.boot_list ?_);refine PyProof.Rows.callWith_type1 ?_ hs' rfl;rw[hs'];show wpAny _ _ (spliced ((false,eval _ X.env)::backTo pos (starEach [] X.env))) _ _ s;refine Calls.spliced_cons ?_;refine wpAny_Call_Name_kw (ld_blt I hg' hm' hv ?_);refine PyProof.Rows.callWith_type1 ?_ hs rfl;refine thn (pa_cons hl pa_nil hs pos' pins s σ H (fun vs H1=>match vs with|[x]=>∃ a xs,x=.ref a∧SqL X.K H1 a xs∧∀ l,H1 l=none→Q (.ref l) (upd H1 l (.lst xs.reverse))|_=>False) I h) fun us s1 ⟨vs,H1,I1,r1,q1⟩ =>?_
 cases vs with
 | nil=>exact q1.elim
 | cons x t=>
  cases t with
  | cons _ _=>exact q1.elim
  | nil=>
  obtain⟨a,xs,rfl,hq,q⟩:=q1;obtain⟨u,rfl,ru⟩:=Vals.one r1;cases ru;obtain⟨its,rv,pl,hz⟩:=I1.list hq;have hlen:=rv.length;refine call_reversed_list pl.isList ?_;refine Calls.spliced_nil ?_;obtain⟨o,ho,hc,n0,hd⟩:=pl.isList;have hne:a≠s1.heap.objs.size:=zR (zJ ho);have W:=Walks.listRev (prog:=X.prog) (w:=X.w) (A:=X.A.in1.in1) (I1.ok.hd hcal) s1.heap.objs.size a hne its.toArray;have hl1:(s1.heap.push (revObj a ((its.toArray.size:Int)-1))).IsList a its.toArray:=⟨o,zF _ ho,hc,n0,hd⟩;refine call_list_rev W.toS (fun i s st=>st.2.1.typeIs) ⟨Nat.zero_le _,⟨_,zV _ rfl,rfl,by simp[revObj]⟩,hl1⟩ (fun b hb =>?_) (by simp) (fun s' acc' c' mv e1 it =>?_) (by simp only[zN]<;>omega)
  ·rw[Heap.size_push];rcases zG.mp hb with rfl|hb
   ·exact Nat.lt_succ_self _
   ·have z:b=a:=by simpa using hb
    subst z;exact Nat.lt_succ_of_lt (zJ ho)
  ·obtain⟨hp,g,d,tk,os⟩:=s';have eg:g=s1.gens:=mv.gens;have ed:d=s1.drawn:=mv.drawn;have eo:os=s1.os:=mv.os;subst eg ed eo;have kp:∀ b o',s1.heap.get? b=some o'→hp.get? b=some o':=fun b o' e=>mv.heap b o' (fun hb=>by
    have:=zJ e;rw[Heap.size_push] at hb;rcases zG.mp hb with rfl|hb
    ·exact yF _ (Nat.lt_trans (Nat.lt_succ_self _) this)
    ·have z:b=s1.heap.objs.size:=by simpa using hb
     subst z;exact absurd this (yF _)) (zF _ (zF _ e))
   have hsz:acc'.size=its.length:=by rw[it.1];simp
   have ea:acc'.toList=its.reverse:=by
    apply List.ext_getElem?;intro i;by_cases hi:i<its.length
    ·have:=it.2 i (acc'[i]'(by omega)) (Array.getElem?_eq_getElem (by omega))
     rw[List.getElem?_reverse hi];simp only[zN,List.getElem?_toArray] at this;rw[this];simp[hsz,hi]
    ·rw[List.getElem?_eq_none (by simpa [hsz] using hi),List.getElem?_eq_none (by simpa using hi)]
   refine⟨.ref (s1.heap.push (revObj a ((its.toArray.size:Int)-1))).objs.size,_,I1.laid (t':=tk) kp (by rw[Heap.size_push];omega) (show ObjOk X.prog X.w _ hp _ (.lst xs.reverse) from ⟨by simpa using hz,its.reverse,c',?_,?_⟩),rfl,q _ (I1.hok.fresh (by rw[Heap.size_push];omega))⟩
   ·exact rv.reverse
   ·rw[e1,← ea]
noncomputable def fRev (f:DF):DL:=fun ρ=>(f ρ).bind fun d=>match d with|.lst xs=>some xs.reverse|_=>none
theorem de_listRev (hcal:X.calm=true) (hg:Gl X "list") (hm:X.mg "list" = none) (hg':Gl X "reversed") (hm':X.mg "reversed" = none) (h:PE X e (tQ X.K own f)) (hs:starEach [e] X.env=(false,eval e X.env)::starEach [] X.env:=by rfl)
  (hs':starEach [.Call (.Name "reversed" q) [e] [] pos'] X.env=(false,eval (.Call (.Name "reversed" q) [e] [] pos') X.env)::starEach [] X.env:=by rfl) :
  PE X (.Call (.Name "list" p) [.Call (.Name "reversed" q) [e] [] pos'] [] pos) (tF X.K own (fRev f)):=
 (pe_listRev hcal hg hm hg' hm' h hs hs').imp fun σ H Q ⟨G,ρ,ds,gh,env,eq,k⟩=>by
  unfold fRev at eq;cases ef:f ρ with
  | none=>rw[ef] at eq;cases eq
  | some c=>
   rw[ef] at eq;refine⟨G,ρ,c,gh,env,ef,fun v G1 H1 E1 r1 =>?_⟩
   cases c<;>simp only[zA] at eq<;>try (cases eq;done)
   cases eq;obtain⟨a,vs,rfl,qa,ra⟩:=r1.lst E1.gh;exact⟨a,vs,rfl,.of qa,fun q hq=>k q _ G1 _ (E1.trans (Ext.lay (p:=q) E1.gh hq)) (E1.hh.free hq) (E1.gh.free hq) upd_same ra.reverse⟩
end
end L2
end
noncomputable section
namespace L2
open PySem PySem.Spec PyProof.Rows
noncomputable abbrev DM:=DEnv→Option (D×DEnv)
noncomputable abbrev DMA:=DEnv→Option (List D×DEnv)
noncomputable def tM (K:Frag) (B:Bs) (own:List Nat) (f:DM):TE:=fun σ H Q=>∃ G ρ d ρ',SR K B own G H σ ρ∧f ρ=some (d,ρ')∧∀ v G' H',SR K B own G' H' σ ρ'→Same G G'→Rep K G' d v→Q v H'
noncomputable def tMA (K:Frag) (B:Bs) (own:List Nat) (f:DMA):TA:=fun σ H Q=>∃ G ρ ds ρ',SR K B own G H σ ρ∧f ρ=some (ds,ρ')∧∀ vs G' H',SR K B own G' H' σ ρ'→Same G G'→Reps K G' ds vs→Q vs H'
noncomputable def era (H:Hp) (a:Addr):Hp:=fun b=>if b=a then none else H b
theorem era_self {H:Hp}{a:Addr}:era H a a=none:=by simp[era]
theorem era_ne {H:Hp}{a b:Addr}(h:b≠a):era H a b=H b:=by simp[era,h]
theorem era_sub {H:Hp}{a:Addr}:Same (era H a) H:=fun b o e=>by
 by_cases h:b=a
 ·subst h;rw[era_self] at e;cases e
 ·rw[era_ne h] at e;exact e
noncomputable section
variable {X:Cx}{B:Bs}{own:List Nat}{e:Expr}{es:List Expr}{pos:Pos}
noncomputable def mP (f:DF):DM:=fun ρ=>(f ρ).map fun d=>(d,ρ)
theorem mP_some {f:DF}{ρ ρ':DEnv}{d:D}(h:mP f ρ=some (d,ρ')):f ρ=some d∧ρ'=ρ:=by
 unfold mP at h;cases ef:f ρ with
 | none=>rw[ef] at h;cases h
 | some c=>rw[ef] at h;cases h;exact⟨rfl,rfl⟩
theorem dm_pure {f:DF}(h:PE X e (tP X.K own f)):PE X e (tM X.K B own (mP f)):=h.imp fun σ H Q ⟨G,ρ,d,ρ',S,eq,k⟩=>by
 obtain⟨ef,rfl⟩:=mP_some eq;exact⟨G,ρ',d,S.gh,S.envR,ef,fun v G' H' E r=>k v G' H' (S.ext E) E.gg r⟩
noncomputable def mAN:DMA:=fun ρ=>some ([],ρ)
noncomputable def mAC (f:DM) (g:DMA):DMA:=fun ρ=>(f ρ).bind fun p=>(g p.2).bind fun q=>some (p.1::q.1,q.2)
theorem mAC_some {f:DM}{g:DMA}{ρ ρ':DEnv}{ds:List D}(h:mAC f g ρ=some (ds,ρ')):∃ x ρ1 xs,f ρ=some (x,ρ1)∧g ρ1=some (xs,ρ')∧ds=x::xs:=by
 unfold mAC at h;cases ef:f ρ with
 | none=>rw[ef] at h;cases h
 | some p=>
  obtain⟨x,ρ1⟩:=p;rw[ef] at h;simp only[zA] at h;cases eg:g ρ1 with
  | none=>rw[eg] at h;cases h
  | some q=>obtain⟨xs,ρ2⟩:=q;rw[eg] at h;cases h;exact⟨x,ρ1,xs,rfl,eg,rfl⟩
theorem dma_nil:PA X [] (tMA X.K B own mAN):=pa_nil.imp fun σ H Q ⟨G,ρ,d,ρ',S,eq,k⟩=>by
 cases eq;exact k _ G H S (Same.refl _) .nil
theorem dma_cons {f:DM}{g:DMA}(h:PE X e (tM X.K B own f)) (t:PA X es (tMA X.K B own g)) (hs:starEach (e::es) X.env=(false,eval e X.env)::starEach es X.env:=by rfl):PA X (e::es) (tMA X.K B own (mAC f g)):=
 (pa_cons h t hs).imp fun σ H Q ⟨G,ρ,d,ρ',S,eq,k⟩=>by obtain⟨x,ρ1,xs,ex,exs,rfl⟩:=mAC_some eq;exact⟨G,ρ,x,ρ1,S,ex,fun v G1 H1 S1 s1 r1=>⟨G1,ρ1,xs,ρ',S1,exs,fun vs G2 H2 S2 s2 r2=>k _ G2 H2 S2 (s1.trans s2) (.cons (Rep.mono s2 x r1) r2)⟩⟩
noncomputable def mTup (g:DMA):DM:=fun ρ=>(g ρ).bind fun q=>if q.1.length≤1000 then some (.tup q.1,q.2) else none
theorem dm_tup {x1} {g:DMA}(h:PA X es (tMA X.K B own g)):PE X (.Tuple es x1 pos) (tM X.K B own (mTup g)):=(pe_tup h).imp fun σ H Q ⟨G,ρ,d,ρ',S,eq,k⟩=>by
 unfold mTup at eq;cases eg:g ρ with
 | none=>rw[eg] at eq;cases eq
 | some q=>
  obtain⟨xs,ρ1⟩:=q;rw[eg] at eq;have eq:(if xs.length≤1000 then some (D.tup xs,ρ1) else none)=some (d,ρ'):=eq
  split at eq
  ·cases eq;rename_i hz;refine⟨G,ρ,xs,ρ',S,eg,fun vs G1 H1 S1 s1 r1=>⟨?_,fun p hp =>?_⟩⟩
   ·rw[← r1.length];exact yB hz line1000
   ·have E:=Ext.alloc (p:=p) (o :=.tup vs) S1.gh hp;exact k _ _ _ (S1.ext E) (s1.trans E.gg) (rep_tup.mpr ⟨p,vs,rfl,upd_same,Reps.mono E.gg xs r1⟩)
  ·cases eq
noncomputable def m2 (o:D→D→Option D) (a b:DM):DM:=fun ρ=>(a ρ).bind fun p=>(b p.2).bind fun q=>(o p.1 q.1).map fun d=>(d,q.2)
theorem m2_some {o:D→D→Option D}{a b:DM}{ρ ρ':DEnv}{d:D}(h:m2 o a b ρ=some (d,ρ')):∃ x ρ1 y,a ρ=some (x,ρ1)∧b ρ1=some (y,ρ')∧o x y=some d:=by
 unfold m2 at h;cases ef:a ρ with
 | none=>rw[ef] at h;cases h
 | some p=>
  obtain⟨x,ρ1⟩:=p;rw[ef] at h;simp only[zA] at h;cases eg:b ρ1 with
  | none=>rw[eg] at h;cases h
  | some q=>
   obtain⟨y,ρ2⟩:=q;rw[eg] at h;simp only[zA] at h;cases eo:o x y with
   | none=>rw[eo] at h;cases h
   | some c=>rw[eo] at h;cases h;exact⟨x,ρ1,y,rfl,eg,eo⟩
theorem rm_of {K:Frag}{o:D→D→Option D}{fa fb:DM}{σ:St}{H:Hp}{Q:VK}(h:tM K B own (m2 o fa fb) σ H Q):tOp (rD K o) (tM K B own fa) (tM K B own fb) σ H Q:=by
 obtain⟨G,ρ,d,ρ',S,eq,k⟩:=h;obtain⟨x,ρ1,y,ex,ey,eo⟩:=m2_some eq;exact⟨G,ρ,x,ρ1,S,ex,fun v G1 H1 S1 s1 r1=>⟨G1,ρ1,y,ρ',S1,ey,fun u G2 H2 S2 s2 r2=>⟨G2,x,y,d,S2.gh,.inl (Rep.mono s2 x r1),.inl r2,eo,fun w G3 H3 E3 r3=>k w G3 H3 (S2.ext E3) ((s1.trans s2).trans E3.gg) r3⟩⟩⟩
variable {a b:Expr}{fa fb:DM}
theorem dm_op {op:Operator}{o:D→D→Option D}(ho:OpD X (binaryOp op) o) (ha:PE X a (tM X.K B own fa)) (hb:PE X b (tM X.K B own fb)):PE X (.BinOp a op b pos) (tM X.K B own (m2 o fa fb)):=(pe_op ho ha hb).imp fun σ H Q h=>rm_of h
theorem dm_ix (ha:PE X a (tM X.K B own fa)) (hb:PE X b (tM X.K B own fb)) (hs:PlainIx b:=by exact fun _ _=>rfl):PE X (.Subscript a b pos) (tM X.K B own (m2 oIx fa fb)):=(pe_ix xd_seq ha hb hs).imp fun σ H Q h=>rm_of h
noncomputable def mPop (j:Nat):DM:=fun ρ=>(lstAt j ρ).bind fun ds=>(ds[ds.length-1]?).map fun d=>(d,ρ.set j (some (.lst ds.dropLast)))
theorem dm_pop {j:Nat}{y:Str}{p apos cpos:Pos}(h:PE X (.Name y p) (tVar j)) (hj:j∈own:=by decide)
  (hbase:attributeBase (.Name y p) "pop" X.env (eval (.Name y p) X.env)=eval (.Name y p) X.env:=by rfl) (hline:(apos.endLine==cpos.line)=true:=by rfl) :
  PE X (.Call (.Attribute (.Name y p) "pop" apos) [] [] cpos) (tM X.K B own (mPop j)):=
 (pe_bm0 plainAttrs_list PySem.F.slot_list_pop PySem.F.type_list_pop mt_pop h hbase hline).imp fun σ H Q ⟨G,ρ,d,ρ',S,eq,k⟩=>by
  unfold mPop at eq;cases el:lstAt j ρ with
  | none=>rw[el] at eq;cases eq
  | some ds=>
   rw[el] at eq;cases ed:ds[ds.length-1]? with
   | none=>simp[ed] at eq
   | some c=>simp only[ed,zA,zT] at eq;cases eq;exact pop_of S hj (lstAt_some el) ed fun v H' S' r=>k v G H' S' (Same.refl _) r
noncomputable def spM (K:Frag) (p:Nat) (F:List D→Option (D×List D)):Sp:=fun vs H Q _=>∃ G ds d xs' a ws xs,Same G H∧ds[p]?=some (.lst xs)∧vs[p]?=some (.ref a)∧H a=some (.lst ws)∧Reps K G xs ws∧G a=none ∧
 (∀ (i:Nat) c,i≠p→ds[i]?=some c→∃ v,vs[i]?=some v∧Rep K G c v)∧ds.length=vs.length∧F ds=some (d,xs') ∧
 ∀ v ws' G' H',Ext G (era H a) G' H'→G' a=none→H' a=some (.lst ws')→Reps K G' xs' ws'→Rep K G' d v→Q v H'
noncomputable def outM (p:Nat):DO→Option (D×List D)
 | .rm d ρ=>(lstAt p ρ).map fun xs=>(d,xs)
 | .nx ρ=>(lstAt p ρ).map fun xs=>(.non,xs)
 | _=>none
noncomputable def runM (n N p:Nat) (g:DG) (ds:List D):Option (D×List D):=if ds.length=n then (g (startD N ds)).bind (outM p) else none
theorem SR.called {K:Frag}{G H G' H':Hp}{σ:St}{ρ:DEnv}{j:Nat}{a:Addr}{xs xs':List D}{ws':List V}(S:SR K B own G H σ ρ) (hj:j∈own) (hd:ρ[j]?=some (some (.lst xs))) (hs:σ[j]?=some (some (.ref a)))
  (E:Ext G (era H a) G' H') (ga:G' a=none) (ha:H' a=some (.lst ws')) (r:Reps K G' xs' ws'):SR K B own G' H' σ (ρ.set j (some (.lst xs'))):=by
 obtain⟨a',us,es,e1,e2,e3,e4,e5,e6⟩:=S.ownd j _ hj hd;rw[hs] at e2;cases e2;refine⟨E.gh,S.g0.trans E.gg,fun b o e =>?_,fun b o e =>?_,fun i c hi e =>?_,fun i c hi e =>?_,fun i k b hi hk di dk ei ek =>?_,by simp[S.len],S.pin⟩
 ·exact E.hh b o (by rw[era_ne (ne_of_none e e6)];exact S.h0 b o e)
 ·rcases E.fr b o e with z|z
  ·exact S.fr b o z
  ·by_cases hb:b=a
   ·subst hb;exact .inr e6
   ·rw[era_ne hb] at z;exact .inr (S.h0.free z)
 ·have hne:j≠i:=fun z=>hi (z ▸ hj)
  rw[zK hne] at e;obtain⟨v,f1,f2⟩:=S.env i c hi e;exact⟨v,f1,Rep.mono E.gg c f2⟩
 ·rcases set_get e with ⟨rfl,rfl,hl⟩|⟨hne,e⟩
  ·exact⟨a,ws',xs',rfl,hs,ha,r,ga,e6⟩
  ·obtain⟨b,vs,fs,f1,f2,f3,f4,f5,f6⟩:=S.ownd i c hi e;have hb:b≠a:=fun z=>hne (S.inj j i a hj hi ⟨_,hd⟩ ⟨_,e⟩ hs (z ▸ f2))
   have hb':era H a b=some (.lst vs):=by rw[era_ne hb];exact f3
   refine⟨b,vs,fs,f1,f2,E.hh _ _ hb',Reps.mono E.gg fs f4,?_,f6⟩;cases q:G' b with
   | none=>rfl
   | some o=>
    rcases E.fr b o q with z|z
    ·rw[f5] at z;cases z
    ·rw[hb'] at z;cases z
 ·have un:∀ m:Nat,(∃ d,(ρ.set j (some (D.lst xs')))[m]?=some (some d))→∃ d,ρ[m]?=some (some d):=fun m ⟨d,e⟩=>by
   rcases set_get e with ⟨rfl,_,_⟩|⟨_,e⟩
   ·exact⟨_,hd⟩
   ·exact⟨_,e⟩
  exact S.inj i k b hi hk (un i di) (un k dk) ei ek
noncomputable def mCall (F:List D→Option (D×List D)) (j:Nat) (g:DL):DM:=fun ρ=>(lstAt j ρ).bind fun xs=>(g ρ).bind fun ds=>(F (.lst xs::ds)).map fun q=>(q.1,ρ.set j (some (.lst q.2)))
theorem dm_call {F:List D→Option (D×List D)}{x y:Str}{k j:Nat}{p p':Pos}{g:DL}(h:Ok1 X.prog X.w X.K X.mg X.base x k (spM X.K 0 F)) (hr:Room k X.A) (hg:Gl X x) (hy:PE X (.Name y p') (tVar j)) (ha:PA X es (tPA X.K own g)) (hj:j∈own:=by decide) (hdb:(x==("__debug__" : Str))=false:=by decide)
  (he:starEach (.Name y p'::es) X.env=(false,eval (.Name y p') X.env)::starEach es X.env:=by rfl) (hpl:(backTo pos (starEach es X.env)).any (·.1)=false:=by rfl):PE X (.Call (.Name x p) (.Name y p'::es) [] pos) (tM X.K B own (mCall F j g)):=by
 obtain⟨f,fd,ps,h1,hm,hk,hb⟩:=h.ex;refine(pe_call h1 hr hg hm hk hb .nil pass0 (pa_cons hy ha he) hdb he hpl).imp fun σ H Q ⟨G,ρ,d,ρ',S,eq,q⟩ =>?_
 unfold mCall at eq;cases el:lstAt j ρ with
 | none=>rw[el] at eq;cases eq
 | some xs=>
  rw[el] at eq;cases eg:g ρ with
  | none=>simp[eg] at eq
  | some ds=>
   simp only[eg,zA] at eq;cases ef:F (.lst xs::ds) with
   | none=>rw[ef] at eq;cases eq
   | some r=>
    obtain⟨d',xs'⟩:=r;rw[ef] at eq;cases eq;have hd:=lstAt_some el;obtain⟨a,vs,e2,e3,e4,e5,e6⟩:=S.ownL hj hd;refine⟨_,e2,G,ρ,ds,S.gh,S.envR,eg,fun us G1 H1 E1 r1 =>?_⟩
    have S1:=S.ext E1;obtain⟨a',vs1,f2,f3,f4,f5,f6⟩:=S1.ownL hj hd;rw[e2] at f2;cases f2;show spM X.K 0 F ((.ref a::us)++[]) H1 Q E0;rw[List.append_nil];refine⟨G1,.lst xs::ds,d',xs',a,vs1,xs,E1.gh,rfl,rfl,f3,f4,f5,fun i c hi ec =>?_,by simp[r1.length],ef,fun v ws' G2 H2 E2 g2 h2 r2 r3 =>?_⟩
    ·cases i with
     | zero=>exact absurd rfl hi
     | succ i=>exact r1.get (i:=i) (by simpa using ec)
    ·exact q v G2 H2 (S1.called hj hd e2 E2 g2 h2 r2) (E1.gg.trans E2.gg) r3
noncomputable def mCallP (F:List D→Option D) (g:DMA):DM:=fun ρ=>(g ρ).bind fun q=>(F q.1).map fun d=>(d,q.2)
theorem dm_callP {F:List D→Option D}{x:Str}{k:Nat}{p:Pos}{g:DMA}(h:Ok1 X.prog X.w X.K X.mg X.base x k (spF X.K F)) (hr:Room k X.A) (hg:Gl X x) (ha:PA X (e::es) (tMA X.K B own g)) (hdb:(x==("__debug__" : Str))=false:=by decide)
  (he:starEach (e::es) X.env=(false,eval e X.env)::starEach es X.env:=by rfl) (hpl:(backTo pos (starEach es X.env)).any (·.1)=false:=by rfl):PE X (.Call (.Name x p) (e::es) [] pos) (tM X.K B own (mCallP F g)):=by
 obtain⟨f,fd,ps,h1,hm,hk,hb⟩:=h.ex;refine(pe_call h1 hr hg hm hk hb .nil pass0 ha hdb he hpl).imp fun σ H Q ⟨G,ρ,d,ρ',S,eq,q⟩ =>?_
 unfold mCallP at eq;cases eg:g ρ with
 | none=>rw[eg] at eq;cases eq
 | some r=>
  obtain⟨xs,ρ1⟩:=r;rw[eg] at eq;simp only[zA] at eq;cases ef:F xs with
  | none=>rw[ef] at eq;cases eq
  | some c=>
   rw[ef] at eq;cases eq;exact⟨G,ρ,xs,ρ',S,eg,fun vs G1 H1 S1 s1 r1=>by show spF X.K F (vs++[]) H1 Q E0;rw[List.append_nil];exact⟨G1,xs,d,S1.gh,r1,ef,fun v G2 H2 E2 r2=>q v G2 H2 (S1.ext E2) (s1.trans E2.gg) r2⟩⟩
end
end L2
end
noncomputable section
namespace L2
open PySem PySem.Spec PyProof.Rows
noncomputable section
variable {X:Cx}{B:Bs}{oL own own1:List Nat}{e:Expr}{pos:Pos}{f:DM}
noncomputable def sSetM (i:Nat) (f:DM):DG:=fun ρ=>(f ρ).map fun q =>.nx (q.2.set i (some q.1))
theorem ds_setM {i:Nat}{x:Str}{pos':Pos}(hN:X.N.Nodup) (hi:X.N[i]?=some x) (hx:Loc X.env.scope x) (he:PE X e (tM X.K B own f)) (ho:i∉own:=by decide)
  (hs:swapsWith e (some (.Name x pos')) pos.line X.env=pure false:=by rfl) (hf:X.fn x=true∨X.env.scope.names.lookup x=some .local:=by first|exact .inl rfl|exact .inr rfl|assumption) :
  PS X (.Assign [.Name x pos'] e pos) (tDS X.K B oL own own (sSetM i f)):=(ps_set hN hi hx he hs hf).imp fun D σ H ⟨G,ρ,o,S,eq,k⟩=>by
 unfold sSetM at eq;cases ef:f ρ with
 | none=>rw[ef] at eq;cases eq
 | some q=>obtain⟨d,ρ1⟩:=q;rw[ef] at eq;cases eq;exact⟨G,ρ,d,ρ1,S,ef,fun v G' H' S' _ r=>k _ G' H' (S'.setS ho r)⟩
noncomputable def sRetM (f:DM):DG:=fun ρ=>(f ρ).map fun q =>.rm q.1 q.2
theorem ds_retM (he:PE X e (tM X.K B own f)):PS X (.Return (some e) pos) (tDS X.K B oL own own1 (sRetM f)):=(ps_ret he).imp fun D σ H ⟨G,ρ,o,S,eq,k⟩=>by
 unfold sRetM at eq;cases ef:f ρ with
 | none=>rw[ef] at eq;cases eq
 | some q=>obtain⟨d,ρ1⟩:=q;rw[ef] at eq;cases eq;exact⟨G,ρ,d,ρ1,S,ef,fun v G' H' S' _ r=>k v σ G' H' ⟨own,S'⟩ r⟩
noncomputable def sRetMO (i:Nat):DG:=fun ρ=>(lstAt i ρ).map fun ds =>.rm (.lst ds) ρ
theorem ds_retMO {i:Nat}{x:Str}{p:Pos}(h:PE X (.Name x p) (tVar i)) (hi:i∈own:=by decide) (hpin:∀ a,(i,a)∉B.3:=by intro a;simp_all):PS X (.Return (some (.Name x p)) pos) (tDS X.K B oL own own1 (sRetMO i)):=(ps_ret h).imp fun D σ H ⟨G,ρ,o,S,eq,k⟩=>by
 unfold sRetMO at eq;cases el:lstAt i ρ with
 | none=>rw[el] at eq;cases eq
 | some ds=>
  rw[el] at eq;cases eq;have hd:=lstAt_some el;obtain⟨a,vs,e2,e3,e4,e5,e6⟩:=S.ownL hi hd;obtain⟨G',S'⟩:=S.freeze (own':=own.filter (· != i)) (fun j hj=>(List.mem_filter.mp hj).1) i (fun j hj=>by
   by_cases hji:j=i
   ·exact .inr hji
   ·exact .inl (List.mem_filter.mpr ⟨hj,by simpa using hji⟩)) (fun z=>by have:=(List.mem_filter.mp z).2;simp at this) hi hpin
  obtain⟨v,f1,f2⟩:=S'.env i _ (fun z=>by have:=(List.mem_filter.mp z).2;simp at this) hd
  exact⟨v,f1,k v σ G' H ⟨_,S'⟩ f2⟩
noncomputable def sAppM (i:Nat) (f:DM):DG:=fun ρ=>(lstAt i ρ).bind fun _=>(f ρ).bind fun q=>(lstAt i q.2).bind fun ds=>if ds.length<bigE then some (.nx (q.2.set i (some (.lst (ds++[q.1]))))) else none
theorem ds_appM {i:Nat}{x:Str}{p apos cpos:Pos}(h:PE X (.Name x p) (tVar i)) (he:PE X e (tM X.K B own f)) (hi:i∈own:=by decide)
  (hbase:attributeBase (.Name x p) "append" X.env (eval (.Name x p) X.env)=eval (.Name x p) X.env:=by rfl)
  (hfew:((backTo cpos (starEach (e::[]) X.env)).all (fun x=> !x.1)&&(backToKw cpos (keywordEach [] X.env)).all (fun x=>x.1.isSome)
   && decide ((e::[]).length+([]:List Keyword).length+(if ([]:List Keyword).isEmpty then 0 else 1)<30))=true:=by rfl)
  (hline:(apos.endLine==cpos.line)=true:=by rfl) (hs:starEach (e::[]) X.env=(false,eval e X.env)::starEach [] X.env:=by rfl) (hplain:(backTo cpos (starEach [] X.env)).any (·.1)=false:=by rfl)
  (hsw:swapsWith (.Call (.Attribute (.Name x p) "append" apos) [e] [] cpos) none pos.line X.env=pure false:=by rfl) :
  PS X (.Expr (.Call (.Attribute (.Name x p) "append" apos) [e] [] cpos) pos) (tDS X.K B oL own own (sAppM i f)):=
 (ps_expr (pe_bm plainAttrs_list PySem.F.slot_list_append PySem.F.type_list_append mt_append h (pa_cons he pa_nil hs) hbase hfew hline hs hplain) hsw).imp fun D σ H ⟨G,ρ,o,S,eq,k⟩=>by
  unfold sAppM at eq;cases el:lstAt i ρ with
  | none=>rw[el] at eq;cases eq
  | some ds0=>
   rw[el] at eq;cases ef:f ρ with
   | none=>simp[ef] at eq
   | some q=>
    obtain⟨d,ρ1⟩:=q;simp only[ef,zA] at eq;cases el1:lstAt i ρ1 with
    | none=>rw[el1] at eq;cases eq
    | some ds=>
     rw[el1] at eq;simp only[zA] at eq
     split at eq
     ·cases eq;rename_i hz;obtain⟨a,vs,e2,e3,e4,e5,e6⟩:=S.ownL hi (lstAt_some el);refine⟨_,e2,.inl ⟨rfl,vs,.of e3⟩,G,ρ,d,ρ1,S,ef,fun v G' H' S' s' r =>?_⟩
      have hd:=lstAt_some el1;obtain⟨a',vs',f2,f3,f4,_⟩:=S'.ownL hi hd;rw[e2] at f2;cases f2;refine⟨a,vs',v,rfl,rfl,f3,?_,k _ G' _ (S'.mut hi hd e2 (f4.append (.cons r .nil)))⟩;rw[← f4.length];exact zS hz bigE_le
     ·cases eq
noncomputable def iRM (f:DM):DMA:=fun ρ=>(f ρ).bind fun q=>match q.1 with|.int j=>if -(2 ^ 62)≤j∧j<2 ^ 62 then some (rngD 0 j.toNat,q.2) else none|_=>none
theorem dim_range1 {tg:Expr}{p:Pos}(hg:Gl X "range") (hm:X.mg "range" = none) (h:PE X e (tM X.K B own f)) (hs:starEach [e] X.env=(false,eval e X.env)::starEach [] X.env:=by rfl) (hs2:starEach [e] X.env=[(false,eval e X.env)]:=by rfl):PI X tg (.Call (.Name "range" p) [e] [] pos) (tMI X.K B own (iRM f)):=
 (pi_range1 hg hm (pa_cons h pa_nil hs) hs2).imp fun σ H R ⟨G,ρ,ds,ρ',S,eq,k⟩=>by
  unfold iRM at eq;cases ef:f ρ with
  | none=>rw[ef] at eq;cases eq
  | some q=>
   obtain⟨d,ρ1⟩:=q;rw[ef] at eq;cases d<;>simp only[zA] at eq<;>try (cases eq;done)
   split at eq
   ·cases eq;rename_i j hj;exact⟨G,ρ,_,_,S,ef,fun v G1 H1 S1 s1 r1=>⟨j,by rw[rep_int.mp r1],hj.1,hj.2,k _ G1 H1 S1 (itok_range 0 j.toNat)⟩⟩
   ·cases eq
end
theorem start_SRM {K:Frag}{G H:Hp}{own:List Nat}{N:List Str}{p:Nat}{ds xs:List D}{vs ws:List V}{a:Addr}(s:Same G H) (hp:p∈own) (hd:ds[p]?=some (.lst xs)) (hv:vs[p]?=some (.ref a)) (ha:H a=some (.lst ws)) (r:Reps K G xs ws) (ga:G a=none)
  (ro:∀ (i:Nat) c,i≠p→ds[i]?=some c→∃ v,vs[i]?=some v∧Rep K G c v) (hl:ds.length=vs.length) (ho:∀ i∈own,i=p∨ds.length≤i):SR K ⟨G,era H a,[(p,a)]⟩ own G H (start N vs) (startD N.length ds):=by
 have getσ:∀ (i:Nat) v,vs[i]?=some v→(start N vs)[i]?=some (some v):=fun i v e=>by have hi:i<vs.length:=(zC.mp e).1;unfold start;rw[yE (by simpa using hi),zM,e];rfl
 have isp:∀ i∈own,(∃ d,(startD N.length ds)[i]?=some (some d))→i=p:=fun i hi ⟨d,e⟩=>by
  have:=(zC.mp (start_get e)).1;rcases ho i hi with z|z
  ·exact z
  ·omega
 refine⟨s,Same.refl _,era_sub,fun b o e =>.inl e,fun i d hi e =>?_,fun i d hi e =>?_,fun i j b hi hj di dj _ _=>(isp i hi di).trans (isp j hj dj).symm,by simp[start,startD,hl],fun i b h =>?_⟩
 ·obtain⟨v,ev,rv⟩:=ro i d (fun z=>hi (z ▸ hp)) (start_get e)
  exact⟨v,getσ i v ev,rv⟩
 ·have z:=isp i hi ⟨d,e⟩;subst z;have e':=start_get e;rw[hd] at e';cases e';exact⟨a,ws,xs,rfl,getσ _ _ hv,ha,r,ga,era_self⟩
 ·have z:(i,b)=(p,a):=by simpa using h
  cases z;exact⟨hp,getσ _ _ hv⟩
noncomputable section
variable {P:Program}{w:World}{K:Frag}{mg:Str→Option Value}{base:Heap}
theorem Fun.okM {x qual:Str}{st:Stmt}{f:Addr}{fd:FuncData}{N ps:List Str}{k:Nat}(F:Fun K x qual st f fd) (S:FnScope N ps (defScope st)) (p:Nat) {own own':List Nat}{g:DG}(hp:p∈own) (hown:∀ i∈own,i=p∨ps.length≤i)
  (hb:∀ (cdv:Value) (A:Around) (outer:List Env) (s:Shared) (H:Hp) (E:XK),Room k (A.deeper (envOfC qual (defScope st) s.heap.objs.size f cdv))→∀ (B:Bs) (a:Addr),B.3=[(p,a)] →
   PSs (cxOf CX0 P w K mg base N qual (defScope st) f cdv A outer s H E).nox (defBody st) (tDS K B [] own own' g)):FnOk P w K mg base CX0 (k+1) f fd ps (spM K p (runM ps.length N.length p g)):=by
 refine F.ok S (fun vs H Q E h =>?_) (fun cdv A outer s H vs Q E hr h =>?_)
 ·obtain⟨G,ds,d,xs',a,ws,xs,gh,hd,hv,ha,r,ga,ro,hl,eq,_⟩:=h;unfold runM at eq
  split at eq
  ·rw[← hl];assumption
  ·cases eq
 ·obtain⟨G,ds,d,xs',a,ws,xs,gh,hd,hv,ha,r,ga,ro,hl,eq,q⟩:=h;unfold runM at eq
  split at eq
  ·rename_i hn;refine⟨_,hb cdv A outer s H E hr ⟨G,era H a,[(p,a)]⟩ a rfl,?_⟩;cases eg:g (startD N.length ds) with
   | none=>rw[eg] at eq;cases eq
   | some o=>
    rw[eg] at eq;have fin:∀ {σ:St}{ρ:DEnv}{G' H':Hp}{o':List Nat}{ys:List D},SR K ⟨G,era H a,[(p,a)]⟩ o' G' H' σ ρ→lstAt p ρ=some ys→∃ ws',H' a=some (.lst ws')∧Reps K G' ys ws'∧G' a=none:=fun {σ ρ G' H' o' ys} S' el=>by
     obtain⟨hp',hσ⟩:=S'.pin p a (by simp)
     obtain⟨b,vs',f2,f3,f4,f5,_⟩:=S'.ownL hp' (lstAt_some el);rw[hσ] at f2;cases f2;exact⟨vs',f3,f4,f5⟩
    refine⟨G,_,o,start_SRM gh hp hd hv ha r ga ro hl (by rw[hn];exact hown),eg,?_⟩
    cases o with
    | rm d' ρ=>
     have eq:Option.map (fun xs=>(d',xs)) (lstAt p ρ)=some (d,xs'):=eq
     cases el:lstAt p ρ with
     | none=>rw[el] at eq;cases eq
     | some ys=>rw[el] at eq;cases eq;intro v σ G' H' ⟨o',S'⟩ rv;obtain⟨ws',f3,f4,f5⟩:=fin S' el;exact q v ws' G' H' S'.toExt f5 f3 f4 rv
    | nx ρ=>
     have eq:Option.map (fun xs=>(D.non,xs)) (lstAt p ρ)=some (d,xs'):=eq
     cases el:lstAt p ρ with
     | none=>rw[el] at eq;cases eq
     | some ys=>rw[el] at eq;cases eq;intro σ G' H' S';obtain⟨ws',f3,f4,f5⟩:=fin S' el;exact q _ ws' G' H' S'.toExt f5 f3 f4 (rep_non.mpr rfl)
    | rt d'=>cases eq
    | ro d'=>cases eq
    | bk ρ=>cases eq
    | ct ρ=>cases eq
  ·cases eq
end
end L2
end
noncomputable section
namespace L2
open PySem PySem.Spec PyProof.Rows
noncomputable def lcM (ρ:DEnv) (τ:DTg) (fe:DM) (i0:Nat):List D→List D→Option (List D×List D)
 | [],xs=>some ([],xs)
 | d::ds,xs=>(τ d (ρ.set i0 (some (.lst xs)))).bind fun ρ1=>(fe ρ1).bind fun p=>(lstAt i0 p.2).bind fun xs'=>(lcM ρ τ fe i0 ds xs').map fun q=>(p.1::q.1,q.2)
noncomputable def mLC (f:DL) (src:List (Option Nat)) (τ:DTg) (fe:DM) (i0 j0:Nat):DM:=fun ρ=>(f ρ).bind fun ds=>if ds.length≤bigE then (lstAt j0 ρ).bind fun xs=>(lcM (srcρ src ρ) τ fe i0 ds xs).map fun q=>(.lst q.1,ρ.set j0 (some (.lst q.2))) else none
noncomputable def tMx (K:Frag) (i0:Nat) (fe:DM):TE:=fun σ H Q=>∃ (B:Bs) (a:Addr),B.3=[(i0,a)]∧tM K B [i0] fe σ H Q
theorem dmx {X:Cx}{e:Expr}{i0:Nat}{fe:DM}(h:∀ (B:Bs) (a:Addr),B.3=[(i0,a)]→PE X e (tM X.K B [i0] fe)):PE X e (tMx X.K i0 fe):=fun pins s σ H Q I ⟨B,a,hB,q⟩=>h B a hB pins s σ H Q I q
theorem set_same {α:Type}:∀ {l:List α}{i:Nat}{x:α},l[i]?=some x→l.set i x=l
 | [],i,x,h=>by simp at h
 | y::l,0,x,h=>by simp at h;subst h;rfl
 | y::l,i+1,x,h=>by simp at h;simp[set_same h]
noncomputable section
variable {K:Frag}{B:Bs}{own:List Nat}{src:List (Option Nat)}{G H:Hp}{σ:St}{ρ:DEnv}
theorem srcρ_get {i:Nat}{d:D}(e:(srcρ src ρ)[i]?=some (some d)):∃ j,src[i]?=some (some j)∧ρ[j]?=some (some d):=by
 unfold srcρ at e;rw[zM] at e;cases es:src[i]? with
 | none=>rw[es] at e;cases e
 | some o=>
  rw[es] at e;cases o with
  | none=>cases e
  | some j=>
   have e:(ρ[j]?).getD none=some d:=by simpa using e
   refine⟨j,rfl,?_⟩;cases q:ρ[j]? with
   | none=>rw[q] at e;cases e
   | some z=>rw[q] at e;rw[show z=some d from e]
theorem srcσ_put {i j:Nat}{v:V}(es:src[i]?=some (some j)) (ev:σ[j]?=some (some v)):(srcσ src σ)[i]?=some (some v):=by
 unfold srcσ;rw[zM,es];simp[ev]
theorem SR.inner {i0 j0:Nat}{a:Addr}{xs:List D}(S:SR K B own G H σ (ρ.set j0 (some (.lst xs)))) (ho:ownSrc own [i0] src=true) (h0:src[i0]?=some (some j0)) (hρ:∃ d,ρ[j0]?=some d) (hs:σ[j0]?=some (some (.ref a))) :
  SR K ⟨G,era H a,[(i0,a)]⟩ [i0] G H (srcσ src σ) ((srcρ src ρ).set i0 (some (.lst xs))):=by
 have hj0:j0∈own:=(ownSrc_get ho h0).mp (by simp)
 obtain⟨d0,hρ⟩:=hρ;have hl:j0<ρ.length:=(zC.mp hρ).1;have hd:(ρ.set j0 (some (D.lst xs)))[j0]?=some (some (.lst xs)):=by rw[List.getElem?_set_self hl]
 obtain⟨b,vs,e2,e3,e4,e5,e6⟩:=S.ownL hj0 hd;rw[hs] at e2;cases e2;refine⟨S.gh,Same.refl _,era_sub,fun b o e =>.inl e,fun i d hi e =>?_,fun i d hi e =>?_,fun i j b hi hj _ _ _ _=>by simp at hi hj;rw[hi,hj],by simp[srcσ,srcρ],fun i b h =>?_⟩
 ·rcases set_get e with ⟨rfl,_,_⟩|⟨hne,e⟩
  ·exact absurd (by simp) hi
  ·obtain⟨j,es,ej⟩:=srcρ_get e;have hj:j∉own:=fun z=>hi ((ownSrc_get ho es).mpr z)
   have:j0≠j:=fun z=>hj (z ▸ hj0)
   obtain⟨v,f1,f2⟩:=S.env j d hj (by rw[zK this];exact ej)
   exact⟨v,srcσ_put es f1,f2⟩
 ·have z:i=i0:=by simpa using hi
  subst z;rcases set_get e with ⟨_,rfl,_⟩|⟨hne,_⟩
  ·exact⟨a,vs,xs,rfl,srcσ_put h0 hs,e3,e4,e5,era_self⟩
  ·exact absurd rfl hne
 ·have z:(i,b)=(i0,a):=by simpa using h
  cases z;exact⟨by simp,srcσ_put h0 hs⟩
end
noncomputable section
variable {X:Cx}{B:Bs}{own oS:List Nat}{N:List Str}{src:List (Option Nat)}{scope:Scope}{tg iter elt:Expr}{f:DL}{τ:DTg}{fe:DM}{g:TG}{pos:Pos}{i0 j0:Nat}
theorem lcM_of {K:Frag}{σ:St}{H:Hp}{Q:VK}(ho:ownSrc own [i0] src=true) (h0:src[i0]?=some (some j0)) (hg:∀ (B:Bs) v σ H Q,tTG K B [i0] τ v σ H Q→g v σ H Q) (q:tM K B own (mLC f src τ fe i0 j0) σ H Q) :
  tLc (tPI K own f) src g (tPT K [i0] tYes) (tMx K i0 fe) σ H Q:=by
 obtain⟨G,ρ,d,ρ',S,eq,k⟩:=q;have hj0:j0∈own:=(ownSrc_get ho h0).mp (by simp)
 unfold mLC at eq;cases ef:f ρ with
 | none=>rw[ef] at eq;cases eq
 | some ds=>
  rw[ef] at eq;have eq:(if ds.length≤bigE then (lstAt j0 ρ).bind fun xs=>(lcM (srcρ src ρ) τ fe i0 ds xs).map fun q=>(D.lst q.1,ρ.set j0 (some (.lst q.2))) else none)=some (d,ρ'):=eq
  split at eq
  ·rename_i hz;cases el:lstAt j0 ρ with
   | none=>rw[el] at eq;cases eq
   | some xs0=>
    rw[el] at eq;simp only[zA] at eq;cases em:lcM (srcρ src ρ) τ fe i0 ds xs0 with
    | none=>rw[em] at eq;cases eq
    | some q0=>
     obtain⟨rs,xsF⟩:=q0;rw[em] at eq;cases eq;have hd0:=lstAt_some el;obtain⟨a,vs0,e2,_⟩:=S.ownL hj0 hd0;refine⟨G,ρ,ds,S.gh,S.envR,ef,fun J G1 H1 E1 ok =>?_⟩
     have S1:=S.ext E1;rw[← set_same hd0] at S1;refine⟨fun i m ys H2=>m=ds.length-i∧i≤ds.length∧ys.length≤i∧∃ G2 acc xs rest,SR K B own G2 H2 σ (ρ.set j0 (some (.lst xs)))∧Same G1 G2∧Reps K G2 acc ys∧lcM (srcρ src ρ) τ fe i0 (ds.drop i) xs=some (rest,xsF)∧acc++rest=rs,
      ⟨ds.length,rfl,Nat.zero_le _,zL _,G1,[],xs0,rs,S1,Same.refl _,.nil,em,rfl⟩,?_⟩
     rintro i m ys H2 ⟨rfl,hil,hyl,G2,acc,xs,rest,S2,s2,rx,er,rfl⟩;have sub:Same G1 H2:=s2.trans S2.gh;by_cases hlt:i<ds.length
     ·refine .inr ⟨ok.go i H2 sub hlt,?_,fun ys' H'=>ys'.length≤i+1∧∃ G3 acc' xs' rest',SR K B own G3 H' σ (ρ.set j0 (some (.lst xs')))∧Same G1 G3∧Reps K G3 acc' ys'∧lcM (srcρ src ρ) τ fe i0 (ds.drop (i+1)) xs'=some (rest',xsF)∧acc'++rest'=acc++rest,
       fun ys' H' z=>⟨ds.length-(i+1),by omega,rfl,hlt,z⟩,fun x H3 y =>?_⟩
      ·have:=bigE_le;omega
      ·obtain⟨G3,E3,rep3⟩:=ok.yld i H2 x H3 G2 ds[i] s2 S2.gh y (zI hlt);have S3:=S2.ext E3;rw[List.drop_eq_getElem_cons hlt] at er;unfold lcM at er;cases et:τ ds[i] ((srcρ src ρ).set i0 (some (.lst xs))) with
       | none=>rw[et] at er;cases er
       | some ρ4=>
        rw[et] at er;simp only[zA] at er;cases ee:fe ρ4 with
        | none=>rw[ee] at er;cases er
        | some p4=>
         obtain⟨x4,ρ5⟩:=p4;rw[ee] at er;simp only[zA] at er;cases el4:lstAt i0 ρ5 with
         | none=>rw[el4] at er;cases er
         | some xs4=>
          rw[el4] at er;simp only[zA] at er;cases em4:lcM (srcρ src ρ) τ fe i0 (ds.drop (i+1)) xs4 with
          | none=>rw[em4] at er;cases er
          | some q4=>
           obtain⟨rest4,xsE⟩:=q4;rw[em4] at er;cases er;have SI:=S3.inner ho h0 ⟨_,hd0⟩ e2;refine hg ⟨G3,era H3 a,[(i0,a)]⟩ _ _ _ _ ⟨G3,_,ds[i],ρ4,SI,rep3,et,fun σ4 G4 H4 S4=>⟨G4,ρ4,true,S4.gh,S4.envR,rfl,fun G5 H5 E5=>iteT ?_⟩⟩
           refine⟨⟨G3,era H3 a,[(i0,a)]⟩,a,rfl,G5,ρ4,x4,ρ5,S4.ext E5,ee,fun v G6 H6 S6 s6 r6=>⟨by simp;omega,G6,acc++[x4],xs4,rest4,?_,?_,?_,em4,by simp⟩⟩
           ·obtain⟨hp',hσ⟩:=S6.pin i0 a (by simp)
            obtain⟨b,ws,f2,f3,f4,f5,_⟩:=S6.ownL hp' (lstAt_some el4);rw[hσ] at f2;cases f2;have hl:j0<ρ.length:=(zC.mp hd0).1;have:=S3.called (xs':=xs4) hj0 (by rw[List.getElem?_set_self hl]) e2 S6.toExt f5 f3 f4
            rw[List.set_set] at this;exact this
           ·exact s2.trans (E3.gg.trans S6.g0)
           ·exact(Reps.mono (E3.gg.trans S6.g0) acc rx).append (.cons r6 .nil)
     ·have e:i=ds.length:=by omega
      subst e;rw[List.drop_length] at er;unfold lcM at er;cases er;refine .inl ⟨ok.stop _ H2 sub (zL _),fun p hp =>?_⟩
      have EA:=Ext.alloc (p:=p) (o :=.lst ys) S2.gh hp;refine k _ _ _ (S2.ext EA) (E1.gg.trans (s2.trans EA.gg)) ?_;rw[List.append_nil];exact rep_lst.mpr ⟨p,ys,rfl,upd_same,Reps.mono EA.gg acc rx⟩
  ·cases eq
theorem dm_lc (S:BlkScope X N src scope) (hc:X.calm=true) (hi:PI X tg iter (tPI X.K own f)) (ag:GAg oS g) (hos:∀ i∈oS,src[i]?=some none) (hg:∀ (B:Bs) v σ H Q,tTG X.K B [i0] τ v σ H Q→g v σ H Q)
  (hb:∀ C s H ex,PG (X.blk N scope C s H ex) tg g∧PTs (X.blk N scope C s H ex) [] (tPT X.K [i0] tYes)∧PE (X.blk N scope C s H ex) elt (tMx X.K i0 fe)) (h0:src[i0]?=some (some j0):=by rfl) (ho:ownSrc own [i0] src=true:=by decide)
  (hs:∀ x,foldedSetIterable iter X.env x=pure x:=by intro _;rfl):PE X (.ListComp elt [⟨tg,iter,[],0⟩] scope pos) (tM X.K B own (mLC f src τ fe i0 j0)):=
 (pe_lc S hc hi ag hos hb hs).imp fun σ H Q q=>lcM_of ho h0 hg q
theorem ds_lcsetM {oL:List Nat}{i:Nat}{y:Str}{spos py:Pos}(S:BlkScope X N src scope) (hc:X.calm=true) (hN:X.N.Nodup) (hy:X.N[i]?=some y) (hl:X.env.scope.names.lookup y=some .local) (hi:PI X tg iter (tPI X.K own f)) (ag:GAg oS g) (hos:∀ i∈oS,src[i]?=some none)
  (hg:∀ (B:Bs) v σ H Q,tTG X.K B [i0] τ v σ H Q→g v σ H Q) (hb:∀ C s H ex,PG (X.blk N scope C s H ex) tg g∧PTs (X.blk N scope C s H ex) [] (tPT X.K [i0] tYes)∧PE (X.blk N scope C s H ex) elt (tMx X.K i0 fe))
  (h0:src[i0]?=some (some j0):=by rfl) (ho:ownSrc own [i0] src=true:=by decide) (hio:i∉own:=by decide)
  (hsw:swapsWith (.ListComp elt [⟨tg,iter,[],0⟩] scope pos) (some (.Name y py)) spos.line X.env=pure true:=by rfl)
  (hs:∀ x,foldedSetIterable iter X.env x=pure x:=by intro _;rfl):PS X (.Assign [.Name y py] (.ListComp elt [⟨tg,iter,[],0⟩] scope pos) spos) (tDS X.K B oL own own (sSetM i (mLC f src τ fe i0 j0))):=
 (ps_lcset S hc hN hy hl hi ag hos hb hsw hs).imp fun D' σ H ⟨G,ρ,o,S,eq,k⟩=>lcM_of ho h0 hg (by
  unfold sSetM at eq;cases ef:mLC f src τ fe i0 j0 ρ with
  | none=>rw[ef] at eq;cases eq
  | some q=>obtain⟨d,ρ1⟩:=q;rw[ef] at eq;cases eq;exact⟨G,ρ,d,ρ1,S,ef,fun v G' H' S' _ r=>k _ G' H' (S'.setS hio r)⟩)
theorem htm_name (K:Frag) (i i0:Nat) (hi:i∉[i0]:=by decide):∀ (B:Bs) v σ H Q,tTG K B [i0] (gN i) v σ H Q→gName i v σ H Q:=fun B v σ H Q ⟨G,ρ,d,ρ',S,r,eq,k⟩=>by
 cases eq;exact k _ G H (S.setS hi r)
end
end L2
end
noncomputable section
namespace L2
open PySem PySem.Spec PyProof.Rows
noncomputable section
variable {X:Cx}{own:List Nat}{e:Expr}{pos p:Pos}{g:DF}
noncomputable def eFld (c f:Str) (g:DF):DF:=fun ρ=>(g ρ).bind fun d=>match d with|.ins c' ks ds=>if c'=c then (ks.zip ds).lookup f else none|_=>none
theorem fld_get {K:Frag}{G:Hp}{f:Str}:∀ {ks:List Str}{ds:List D}{vs:List V}{d:D},Reps K G ds vs→(ks.zip ds).lookup f=some d→∃ v,(ks.zip vs).lookup f=some v∧Rep K G d v
 | [],ds,vs,d,r,e=>by simp at e
 | k::ks,[],vs,d,r,e=>by simp at e
 | k::ks,c::ds,vs,d,r,e=>by
  obtain⟨v,t,rfl,rv,rt⟩:=reps_cons.mp r;simp only[List.zip_cons_cons,List.lookup_cons] at e ⊢;cases h:(f==k) with
  | true=>rw[h] at e;cases e;exact⟨v,rfl,rv⟩
  | false=>rw[h] at e;exact fld_get rt e
theorem de_fld {c f:Str}(h:PE X e (tP X.K own g)) (hc:∀ C,nsIn X.K mainGlobals c=some (some (.ref C))→Cls X.K C∧NoAttr X.K C f) (hb:attributeBase e f X.env (eval e X.env)=eval e X.env:=by rfl) :
  PE X (.Attribute e f pos) (tP X.K own (eFld c f g)):=(pe_fld h hb).imp fun σ H Q ⟨G,ρ,d,gh,env,eq,k⟩=>by
 unfold eFld at eq;cases ef:g ρ with
 | none=>rw[ef] at eq;cases eq
 | some o=>
  rw[ef] at eq;refine⟨G,ρ,o,gh,env,ef,fun v G1 H1 E1 r1 =>?_⟩
  cases o<;>simp only[zA] at eq<;>try (cases eq;done)
  split at eq
  ·rename_i hcc;subst hcc;obtain⟨a,C,dx,vs,rfl,n,ga,_,rs⟩:=rep_ins.mp r1;obtain⟨u,eu,ru⟩:=fld_get rs eq;exact⟨a,C,dx,_,u,rfl,E1.gh _ _ ga,(hc C n).1,(hc C n).2,eu,k u G1 H1 E1 ru⟩
  ·cases eq
noncomputable def vOf:D→V
 | .bl b =>.bl b
 | .int i =>.int i
 | .str x =>.str x
 | _ =>.non
theorem vOf_rep {K:Frag}{G:Hp}{d:D}{v:V}(h:scalD d=true) (r:Rep K G d v):v=vOf d∧flatV v=true:=by
 cases d<;>first|(simp[scalD] at h;done)|(simp only[Rep] at r;subst r;exact⟨rfl,rfl⟩)
theorem vOf_reps {K:Frag}{G:Hp}:∀ {ds:List D}{vs:List V},ds.all scalD=true→Reps K G ds vs→vs=ds.map vOf∧vs.all flatV=true
 | [],vs,h,r=>by rw[reps_nil.mp r];exact⟨rfl,rfl⟩
 | d::ds,vs,h,r=>by rw[List.all_cons,Bool.and_eq_true] at h;obtain⟨v,t,rfl,rv,rt⟩:=reps_cons.mp r;obtain⟨e1,f1⟩:=vOf_rep h.1 rv;obtain⟨e2,f2⟩:=vOf_reps h.2 rt;exact⟨by rw[e1,e2];rfl,by rw[List.all_cons,f1,f2];rfl⟩
noncomputable def inD (neg:Bool) (x:D) (ys:List D):Option D:=if (scalD x&&ys.all scalD)=true then some (.bl (if neg then !inV (vOf x) (ys.map vOf) else inV (vOf x) (ys.map vOf))) else none
noncomputable def oIn (neg:Bool):D→D→Option D
 | x,.lst ys=>inD neg x ys
 | x,.tup ys=>inD neg x ys
 | _,_=>none
theorem in_of {K:Frag}{neg:Bool}{x y:V}{H:Hp}{Q:VK}(h:rD K (oIn neg) x y H Q):rIn K neg x y H Q:=by
 obtain⟨G,d1,d2,d,gh,h1,h2,eq,q⟩:=h;have fin:∀ (ys:List D) (vs:List V),inD neg d1 ys=some d→Reps K G ys vs→flatV x=true∧vs.all flatV=true∧d=.bl (if neg then !inV x vs else inV x vs):=fun ys vs e r=>by
  unfold inD at e
  split at e
  ·rename_i hs;rw[Bool.and_eq_true] at hs;have r1:Rep K G d1 x:=by
    rcases h1 with z|⟨a,ws,zs,z,_⟩
    ·exact z
    ·subst z;simp[scalD] at hs
   obtain⟨e1,f1⟩:=vOf_rep hs.1 r1;obtain⟨e2,f2⟩:=vOf_reps hs.2 r;cases e;exact⟨f1,f2,by rw[e1,e2]⟩
  ·cases e
 cases d2<;>simp only[oIn] at eq<;>try (cases eq;done)
 ·obtain⟨p,vs,rfl,qa,ra⟩:=h2.lst gh;obtain⟨f1,f2,rfl⟩:=fin _ _ eq ra;exact⟨p,vs,rfl,.inl (.of qa),f1,f2,q _ G H (.refl gh) (rep_bl.mpr rfl)⟩
 ·obtain⟨p,vs,rfl,qa,ra⟩:=h2.tup gh;obtain⟨f1,f2,rfl⟩:=fin _ _ eq ra;exact⟨p,vs,rfl,.inr (.of qa),f1,f2,q _ G H (.refl gh) (rep_bl.mpr rfl)⟩
theorem od_in:OpD X (compareOp .In) (oIn false):=OpR.imp op_in_seq fun x y H Q h=>in_of h
theorem od_notin:OpD X (compareOp .NotIn) (oIn true):=OpR.imp op_notIn_seq fun x y H Q h=>in_of h
noncomputable def isBl:D→Bool
 | .bl _=>true
 | _=>false
noncomputable def blOf:D→Bool
 | .bl b=>b
 | _=>false
noncomputable def oAllAny (all:Bool):List D→Option D
 | [.lst ys]=>if ys.all isBl=true then some (.bl (if all then ys.all blOf else ys.any blOf)) else none
 | _=>none
theorem bl_get {K:Frag}{G:Hp}{ys:List D}{vs:List V}{us:List Value}(h:ys.all isBl=true) (r:Reps K G ys vs) (rv:Vals vs us){i:Nat}{u:Value}(e:us[i]?=some u):∃ b,u=.bool b∧(ys[i]?).map blOf=some b:=by
 have hi:i<us.length:=(zC.mp e).1;have hi2:i<ys.length:=by rw[r.length,rv.length];exact hi
 have hy:ys[i]?=some ys[i]:=zI hi2;obtain⟨v,ev,rv'⟩:=r.get hy;obtain⟨w,ew,rw'⟩:=rv.get ev;rw[e] at ew;cases ew;have hb:isBl ys[i]=true:=(List.all_eq_true.mp h) _ (List.getElem_mem hi2);cases hd:ys[i] with
 | bl b=>rw[hd] at rv' hy;have:=rep_bl.mp rv';subst this;exact⟨b,rw',by rw[hy];rfl⟩
 | _=>rw[hd] at hb;cases hb
theorem range_all {ys:List D}{tr:Nat→Bool}(h:∀ i,i<ys.length→(ys[i]?).map blOf=some (tr i)):(List.range ys.length).all tr=ys.all blOf∧(List.range ys.length).any tr=ys.any blOf:=by
 have:(List.range ys.length).map tr=ys.map blOf:=by
  apply List.ext_getElem?;intro i;by_cases hi:i<ys.length
  ·have:=h i hi;rw[zM,zM,List.getElem?_range hi,this];rfl
  ·rw[List.getElem?_eq_none (by simpa using hi),List.getElem?_eq_none (by simpa using hi)]
 constructor
 ·have e:=congrArg (fun l=>l.all id) this
  simpa [List.all_map] using e
 ·have e:=congrArg (fun l=>l.any id) this
  simpa [List.any_map] using e
theorem cd_allany (hcal:X.calm=true) (all:Bool):CallR X (.builtin (if all then "all" else "any")) (rC X.K (oAllAny all)):=by
 intro pins s σ H xs us Q I rv ⟨G,ds,d,gh,r,eq,q⟩;unfold oAllAny at eq
 split at eq
 ·rename_i ys
  split at eq
  ·cases eq;rename_i hb;obtain⟨v,rfl,r1⟩:=r.one;obtain⟨a,vs,rfl,qa,ra⟩:=r1.lst gh;obtain⟨u,rfl,ru⟩:=Vals.one rv;cases ru;obtain⟨its,rvi,pl,hz⟩:=I.list (.of qa);obtain⟨o,ho,hc,n0,hd⟩:=pl.isList;have hne:a≠s.heap.objs.size:=zR (zJ ho);have hlen:its.toArray.size=ys.length:=by simp[ra.length,rvi.length]
   let tr:Nat→Bool:=fun i=>((ys[i]?).map blOf).getD false
   have htr:TruthOf X.prog X.w X.A.in1 (fun i v=>its.toArray[i]?=some v) tr:=fun i v s Q E hP hQ=>by
    obtain⟨b,rfl,eb⟩:=bl_get hb ra rvi (i:=i) (u:=v) (by simpa using hP)
    have:tr i=b:=by show ((ys[i]?).map blOf).getD false=b;rw[eb];rfl
    rw[this] at hQ;exact wpAny_truthy_bool hQ
   have hrange:=range_all (ys:=ys) (tr:=tr) fun i hi=>by show _=some (((ys[i]?).map blOf).getD false);rw[zI hi];rfl
   have fin:∀ (b:Bool) (h':Heap) (tk:Nat),(∀ c o',c∉[s.heap.objs.size]→(s.heap.push { cls :=.type "list_iterator",data :=.fields #[.ref a,.int 0 0] }).get? c=some o'→h'.get? c=some o')→b=(if all then ys.all blOf else ys.any blOf) →
     EP X pins σ Q (.bool b) { s with heap:=h',toks:=tk }:=fun b h' tk kp eb=>
    ⟨.bl b,H,I.kept (t':=tk) fun c o' e=>kp c o' (fun z=>by
     have z:c=s.heap.objs.size:=by simpa using z
     exact absurd (zJ e) (by rw[z];exact yF _)) (zF _ e),rfl,by
     rw[eb];exact q _ G H (.refl gh) (rep_bl.mpr rfl)⟩
   have st0:(s.heap.push { cls :=.type "list_iterator",data :=.fields #[.ref a,.int 0 0] }).IsListIter s.heap.objs.size a 0∧(s.heap.push { cls :=.type "list_iterator",data :=.fields #[.ref a,.int 0 0] }).IsList a its.toArray:=
    ⟨⟨_,zV _ rfl,rfl,rfl⟩,⟨o,zF _ ho,hc,n0,hd⟩⟩
   cases all with
   | true=>
    refine call_all_walk (wpAny_pyIter_list pl.isList ⟨s.heap.objs.size,_,_,_,_,_,tr,rfl,Walks.list (A:=X.A.in1) (I.ok.hd hcal) _ a hne its.toArray,st0,htr,fun h' tk kp =>?_⟩)
    rw[hlen,hrange.1];exact fin _ h' tk kp rfl
   | false=>
    refine call_any_walk (wpAny_pyIter_list pl.isList ⟨s.heap.objs.size,_,_,_,_,_,tr,rfl,Walks.list (A:=X.A.in1) (I.ok.hd hcal) _ a hne its.toArray,st0,htr,fun h' tk kp =>?_⟩)
    rw[hlen,hrange.2];exact fin _ h' tk kp rfl
  ·cases eq
 ·cases eq
variable {f:DF}
theorem de_all (hcal:X.calm=true) (hg:Gl X "all") (hm:X.mg "all" = none) (h:PE X e (tQ X.K own f)) (hs:starEach (e::[]) X.env=(false,eval e X.env)::starEach [] X.env:=by rfl):PE X (.Call (.Name "all" p) [e] [] pos) (tP X.K own (eCall (oAllAny true) (aC f aN))):=
 de_callB (cd_allany hcal true) hg hm PyProof.Rows.boot_all (dqa_cons h dqa_nil hs) (by decide) (by decide) hs rfl
theorem de_any (hcal:X.calm=true) (hg:Gl X "any") (hm:X.mg "any" = none) (h:PE X e (tQ X.K own f)) (hs:starEach (e::[]) X.env=(false,eval e X.env)::starEach [] X.env:=by rfl):PE X (.Call (.Name "any" p) [e] [] pos) (tP X.K own (eCall (oAllAny false) (aC f aN))):=
 de_callB (cd_allany hcal false) hg hm PyProof.Rows.boot_any (dqa_cons h dqa_nil hs) (by decide) (by decide) hs rfl
end
end L2
end
noncomputable section
namespace L2
open PySem PySem.Spec PyProof.Rows
noncomputable def Itz (K : PySem.W.Frag) (a b : Addr) : It :=
  ⟨fun i H => ∃ xs ys x y, SqL K H a xs ∧ SqL K H b ys ∧ xs[i]? = some x ∧ ys[i]? = some y,
   fun i H v H' => ∃ x y p, (∀ xs, SqL K H a xs → xs[i]? = some x) ∧ (∀ ys, SqL K H b ys → ys[i]? = some y) ∧ H p = none ∧ v = .ref p ∧ H' = upd H p (.tup [x, y]),
   fun i H => ∃ xs ys, SqL K H a xs ∧ SqL K H b ys ∧ (xs.length ≤ i ∨ ys.length ≤ i)⟩
theorem turn_zip {P:Program}{w:World}{K:Frag}{elts:List Expr}{x1} {tpos:Pos}(a b z TI TO i1 i2:Addr) (Z:ZipApart z TI TO i1 i2 a b) :
  Turn P w K (.Tuple elts x1 tpos) (Itz K a b) [z,TI,TO,i1,i2] z (fun i h=>IsZip h z TI TO .none∧IsPair h TI (.ref i1) (.ref i2)∧(∃ c d,IsPair h TO c d)∧h.IsListIter i1 a i∧h.IsListIter i2 b i) where
 mem:=by simp
 obj:=fun i h st c hc=>by
  obtain⟨s1,s2,⟨u,v,s3⟩,s4,s5⟩:=st;simp only[zG,List.not_mem_nil,or_false] at hc;rcases hc with rfl|rfl|rfl|rfl|rfl
  ·exact⟨_,s1,fun v z=>by cases z⟩
  ·exact⟨_,s2,fun v z=>by cases z⟩
  ·exact⟨_,s3,fun v z=>by cases z⟩
  ·obtain⟨o,e,c,d⟩:=s4;exact⟨o,e,fun v z=>by rw[d] at z;cases z⟩
  ·obtain⟨o,e,c,d⟩:=s5;exact⟨o,e,fun v z=>by rw[d] at z;cases z⟩
 keep:=fun i h h' st k=>by obtain⟨s1,s2,⟨u,v,s3⟩,s4,s5⟩:=st;exact⟨k z (by simp) _ s1,k TI (by simp) _ s2,⟨u,v,k TO (by simp) _ s3⟩,s4.at fun o q=>k i1 (by simp) o q,s5.at fun o q=>k i2 (by simp) o q⟩
 item:=by
  intro X hP hw hK hc i pins s σ H E I hf st hg;subst hP hw hK;obtain⟨s1,s2,⟨c1,c2,s3⟩,s4,s5⟩:=st;obtain⟨xs,ys,x,y,hq,hq',hx,hy⟩:=hg;obtain⟨its,rv,p,hz⟩:=I.list hq;obtain⟨its',rv',p',hz'⟩:=I.list hq';obtain⟨u,hu,ru⟩:=rv.get hx;obtain⟨u',hu',ru'⟩:=rv'.get hy;have ff:∀ c∈[z,TI,TO,i1,i2],FpOk X pins H c:=hf;refine wpAny_pyNext_zip_item Z s1 s2 s3 s4 s5 p.isList p'.isList (x:=u) (y:=u') (by simpa using hu) (by simpa using hu') fun h1 eo to1 it1 it2 t1 z1 k1 =>?_
  refine⟨_,rfl,?_⟩;refine wpAny_letOwnedTupleGo_zip (s:={ s with heap:=h1 }) eo fun h2 e2 w2 =>?_
  have hzp:z<s.heap.objs.size:=zJ s1;have hn:H s.heap.objs.size=none:=I.hok.fresh (zL _);have w2':Heap.SameBut z h1 h2:=w2;have keep:∀ b o,b∉[z,TI,TO,i1,i2]→s.heap.get? b=some o→h2.get? b=some o:=fun b o hb q=>by
   have n1:b≠z:=fun e=>hb (by simp[e])
   have n2:b≠TO:=fun e=>hb (by simp[e])
   have n3:b≠i1:=fun e=>hb (by simp[e])
   have n4:b≠i2:=fun e=>hb (by simp[e])
   exact(w2'.2 b n1).trans (k1 b o n1 n2 n3 n4 q)
  have tup:h2.get? s.heap.objs.size=some { cls :=.type "tuple",data :=.seq #[u,u'] }:=(w2'.2 _ (Nat.ne_of_gt hzp)).trans t1;have trk:∀ b o,H b=some o→b∉[z,TI,TO,i1,i2]:=fun b o q hb=>by have:=(ff b hb).1;rw[this] at q;cases q
  have new:ObjOk X.prog X.w (upd H s.heap.objs.size (.tup [x,y])) h2 s.heap.objs.size (.tup [x,y]):=
   ⟨by show 2≤sizeLine;rw[sizeLine_eq];decide,[u,u'],.cons ru (.cons ru' .nil),_,tup,rfl,_,rfl⟩
  have hok2:HOk X.prog X.w (upd H s.heap.objs.size (.tup [x,y])) h2:=fun b o q=>by
   by_cases hb:b=s.heap.objs.size
   ·subst hb;rw[upd_same] at q;cases q;exact new
   ·rw[upd_ne hb] at q;refine(I.hok b o q).stay (fun c v hcb r =>?_) (fun c r=>by rw[upd_ne (ne_of_none r hn)];exact r) fun c ys r=>by rw[upd_ne (ne_of_none r hn)];exact r
    rcases hcb with rfl|hcb
    ·exact keep _ _ (trk _ _ q) r
    ·exact keep _ _ (trk _ _ hcb) r
  have un:Un (frs X.stack) [z,TI,TO,i1,i2] H (upd H s.heap.objs.size (.tup [x,y])) s.heap h2:=by
   have old:∀ b o,s.heap.get? b=some o→b≠s.heap.objs.size:=fun b o q=>zR (zJ q)
   exact⟨fun b o q n _ hx=>keep b o hx q,fun b o q n _ hx=>⟨o.slots,keep b o hx q⟩,fun b o q n hx=>by rw[upd_ne (old b o q)];exact n,
    fun b o q hx=>⟨o,keep b o hx q⟩,fun b ys q=>by rw[upd_ne (ne_of_none q hn)];exact q,fun b o u q=>by rw[upd_ne (ne_of_none q hn)];exact q,fun b ps q=>⟨#[],by rw[upd_ne (ne_of_none q hn)];simpa using q⟩⟩
  have I2:Inv X pins σ (upd H s.heap.objs.size (.tup [x,y])) { s with heap:=h2 }:=I.call' (s':={ s with heap:=h2 }) rfl un hok2 I.bare fun b hb=>⟨(ff b hb).2.2.2.1,(ff b hb).2.1,(ff b hb).2.2.2.2.1,(ff b hb).2.2.2.2.2⟩
  have tI:IsPair h2 TI (.ref i1) (.ref i2):=(w2'.2 TI Z.TIz).trans (k1 TI _ Z.TIz Z.TITO Z.TIi1 Z.TIi2 s2);have tO:IsPair h2 TO u u':=(w2'.2 TO Z.TOz).trans to1;have j1:h2.IsListIter i1 a (i+1):=it1.at fun o q=>(w2'.2 i1 Z.i1z).trans q
  have j2:h2.IsListIter i2 b (i+1):=it2.at fun o q=>(w2'.2 i2 Z.i2z).trans q
  refine⟨.ref s.heap.objs.size,_,I2,rfl,⟨x,y,s.heap.objs.size,fun zs hzs=>by rw[I.list_inj hzs hq];exact hx,fun zs hzs=>by rw[I.list_inj hzs hq'];exact hy,hn,rfl,rfl⟩,⟨e2,tI,⟨u,u',tO⟩,j1,j2⟩,fun c hc =>?_⟩
  have:c≠s.heap.objs.size:=by
   simp only[zG,List.not_mem_nil,or_false] at hc;rcases hc with rfl|rfl|rfl|rfl|rfl
   ·exact zR hzp
   ·exact zR (zJ s2)
   ·exact zR (zJ s3)
   ·obtain⟨o,q,_⟩:=s4;exact zR (zJ q)
   ·obtain⟨o,q,_⟩:=s5;exact zR (zJ q)
  rw[upd_ne this];exact(ff c hc).1
 done:=by
  intro X hP hw hK hc i pins s σ H E I hf st hg;subst hP hw hK;obtain⟨s1,s2,⟨c1,c2,s3⟩,s4,s5⟩:=st;obtain⟨xs,ys,hq,hq',hx⟩:=hg;obtain⟨its,rv,p,hz⟩:=I.list hq;obtain⟨its',rv',p',hz'⟩:=I.list hq';have hl:=rv.length;have hl':=rv'.length;refine wpAny_pyNext_zip_end (I.ok.hd hc) Z s1 s2 s3 s4 s5 p.isList p'.isList (by
   rcases hx with hx|hx
   ·exact .inl (by simp;omega)
   ·exact .inr (by simp;omega)) fun h' eb=>⟨rfl,?_⟩
  have ff:∀ c∈[z,TI,TO,i1,i2],FpOk X pins H c:=hf;have trk:∀ b o,H b=some o→b∉[z,TI,TO,i1,i2]:=fun b o q hb=>by have:=(ff b hb).1;rw[this] at q;cases q
  have keep:∀ b o,b∉[z,TI,TO,i1,i2]→s.heap.get? b=some o→h'.get? b=some o:=fun b o hb q=>eb b o (fun e=>hb (by simp[e])) (fun e=>hb (by simp[e])) (fun e=>hb (by simp[e])) (fun e=>hb (by simp[e])) q
  have hok2:HOk X.prog X.w H h':=fun b o q=>by
   refine(I.hok b o q).stay (fun c v hcb r =>?_) (fun c r=>r) fun c ys r=>r
   rcases hcb with rfl|hcb
   ·exact keep _ _ (trk _ _ q) r
   ·exact keep _ _ (trk _ _ hcb) r
  have un:Un (frs X.stack) [z,TI,TO,i1,i2] H H s.heap h':=
   ⟨fun b o q n _ hx=>keep b o hx q,fun b o q n _ hx=>⟨o.slots,keep b o hx q⟩,fun b o q n hx=>n,fun b o q hx=>⟨o,keep b o hx q⟩,fun b ys q=>q,fun b o u q=>q,fun b ps q=>⟨#[],by simpa using q⟩⟩
  exact I.call' (s':={ s with heap:=h' }) rfl un hok2 I.bare fun b hb=>⟨(ff b hb).2.2.2.1,(ff b hb).2.1,(ff b hb).2.2.2.2.1,(ff b hb).2.2.2.2.2⟩
 self:=fun A i s Q E st h=>wpAny_pyIter_zip st.1 h
noncomputable section
variable {X:Cx}{own:List Nat}{e e':Expr}{f f':DF}
noncomputable def iZipT (K:Frag) (ta:TA):TI:=fun σ H R=>ta σ H fun vs H1=>∃ a b,vs=[.ref a,.ref b]∧(∃ xs,SqL K H1 a xs)∧(∃ ys,SqL K H1 b ys)∧R (Itz K a b) H1
theorem pi_zip {elts:List Expr}{x1} {tpos p pos:Pos}{ta:TA}(hg:Gl X "zip") (hm:X.mg "zip" = none) (ha:PA X [e,e'] ta) (hs:starEach [e,e'] X.env=[(false,eval e X.env),(false,eval e' X.env)]:=by rfl) (hs2:starEach [e'] X.env=[(false,eval e' X.env)]:=by rfl)
  (hv:bootBuiltins "zip" = some (.type "zip"):=by decide +kernel):PI X (.Tuple elts x1 tpos) (.Call (.Name "zip" p) [e,e'] [] pos) (iZipT X.K ta):=by
 intro pins s σ H R I h;refine Call_ (ld_blt I hg hm hv (PyProof.Rows.callWith_type1 (thn (ha pos pins s σ H _ I h) fun us s1 ⟨vs,H1,I1,r1,q1⟩ =>?_) (by rw[hs,hs2]) (by rw[hs2];rfl)))
 obtain⟨a,b,rfl,⟨xs,hq⟩,⟨ys,hq'⟩,q⟩:=q1;obtain⟨u,v,rfl,ru,rv⟩:=Vals.two r1;cases ru;cases rv;obtain⟨its,rx,pl,hz⟩:=I1.list hq;obtain⟨its',rx',pl',hz'⟩:=I1.list hq';obtain⟨oa,hoa,_⟩:=pl.isList;obtain⟨ob,hob,_⟩:=pl'.isList;have la:=zJ hoa;have lb:=zJ hob;refine call_zip_2 pl.isList pl'.isList fun h' z1 z2 z3 z4 z5 z6 k1 =>?_
 refine wpAny_pyIter_zip (s:={ s1 with heap:=h' }) z1 ?_;have fresh:∀ k:Nat,H1 (s1.heap.objs.size+k)=none:=fun k=>I1.hok.fresh (Nat.le_add_right _ _)
 have ne:∀ {c:Addr}(k:Nat),c<s1.heap.objs.size→c≠s1.heap.objs.size+k:=fun {c} k h z=>by rw[z] at h;exact absurd h (Nat.not_lt.mpr (Nat.le_add_right _ _))
 have nn:∀ j k:Nat,j≠k→s1.heap.objs.size+j≠s1.heap.objs.size+k:=fun j k h z=>h (Nat.add_left_cancel z)
 refine⟨s1.heap.objs.size+4,[s1.heap.objs.size+4,s1.heap.objs.size+2,s1.heap.objs.size+3,s1.heap.objs.size,s1.heap.objs.size+1],_,_,H1,rfl,I1.kept (t':=s1.toks) k1,
  turn_zip a b (s1.heap.objs.size+4) (s1.heap.objs.size+2) (s1.heap.objs.size+3) (s1.heap.objs.size+0) (s1.heap.objs.size+1)
   ⟨nn 2 4 (by decide),nn 3 4 (by decide),nn 0 4 (by decide),nn 1 4 (by decide),nn 2 3 (by decide),nn 2 0 (by decide),nn 2 1 (by decide),nn 3 0 (by decide),nn 3 1 (by decide),nn 0 1 (by decide),ne 4 la,ne 3 la,ne 0 la,ne 1 la,ne 4 lb,ne 3 lb,ne 0 lb,ne 1 lb⟩,
  ⟨z1,z2,⟨_,_,z3⟩,z4,z5⟩,fun c hc =>?_,q⟩
 simp only[zG,List.not_mem_nil,or_false] at hc;rcases hc with rfl|rfl|rfl|rfl|rfl
 ·exact I1.fpOk (Nat.le_add_right _ _) (fresh 4)
 ·exact I1.fpOk (Nat.le_add_right _ _) (fresh 2)
 ·exact I1.fpOk (Nat.le_add_right _ _) (fresh 3)
 ·exact I1.fpOk (zL _) (fresh 0)
 ·exact I1.fpOk (Nat.le_add_right _ _) (fresh 1)
noncomputable def zipD:List D→List D→List D
 | x::xs,y::ys =>.tup [x,y]::zipD xs ys
 | _,_=>[]
theorem zipD_len:∀ (xs ys:List D),(zipD xs ys).length=min xs.length ys.length
 | [],ys=>by simp[zipD]
 | x::xs,[]=>by simp[zipD]
 | x::xs,y::ys=>by simp[zipD,zipD_len xs ys]
theorem zipD_get:∀ {xs ys:List D}{i:Nat}{d:D},(zipD xs ys)[i]?=some d→∃ x y,xs[i]?=some x∧ys[i]?=some y∧d=.tup [x,y]
 | [],ys,i,d,h=>by simp[zipD] at h
 | x::xs,[],i,d,h=>by simp[zipD] at h
 | x::xs,y::ys,0,d,h=>by simp[zipD] at h;exact⟨x,y,rfl,rfl,h.symm⟩
 | x::xs,y::ys,i+1,d,h=>by simp only[zipD,List.getElem?_cons_succ] at h ⊢;exact zipD_get h
theorem itok_zip {K:Frag}{G:Hp}{a b:Addr}{vs us:List V}{ds es:List D}(ha:G a=some (.lst vs)) (hb:G b=some (.lst us)) (r:Reps K G ds vs) (r':Reps K G es us):ItOk K G (Itz K a b) (zipD ds es):=by
 refine⟨fun i H s hi =>?_,fun i H s hi=>⟨vs,us,.of (s _ _ ha),.of (s _ _ hb),by rw[zipD_len] at hi;rw[← r.length,← r'.length];omega⟩,fun i H x H' G1 d s1 s2 ⟨y,y',p,h1,h2,hp,ev,eh⟩ hd =>?_⟩
 ·rw[zipD_len] at hi;have h1:i<vs.length:=by rw[← r.length];omega
  have h2:i<us.length:=by rw[← r'.length];omega
  exact⟨vs,us,vs[i],us[i],.of (s _ _ ha),.of (s _ _ hb),by simp[h1],by simp[h2]⟩
 ·obtain⟨c,c',ec,ec',rfl⟩:=zipD_get hd;have hx:=h1 vs (.of (s2 _ _ (s1 _ _ ha)));have hx':=h2 us (.of (s2 _ _ (s1 _ _ hb)));obtain⟨v,ev',rv⟩:=r.get ec;obtain⟨v',ev'',rv'⟩:=r'.get ec';rw[hx] at ev';cases ev';rw[hx'] at ev'';cases ev'';subst ev eh;have m:=s1.trans (.alloc (o :=.tup [y,y']) (s2.free hp));exact⟨upd G1 p (.tup [y,y']),Ext.alloc s2 hp,rep_tup.mpr ⟨p,_,rfl,upd_same,.cons (Rep.mono m c rv) (.cons (Rep.mono m c' rv') .nil)⟩⟩
noncomputable def iZ (f f':DF):DL:=fun ρ=>(iL f ρ).bind fun xs=>(iL f' ρ).map fun ys=>zipD xs ys
theorem di_zip {elts:List Expr}{x1} {tpos p pos:Pos}(hg:Gl X "zip") (hm:X.mg "zip" = none) (h:PE X e (tP X.K own f)) (h':PE X e' (tP X.K own f')) (hs:starEach [e,e'] X.env=[(false,eval e X.env),(false,eval e' X.env)]:=by rfl) (hs2:starEach [e'] X.env=[(false,eval e' X.env)]:=by rfl)
  (hs1:starEach [e,e'] X.env=(false,eval e X.env)::starEach [e'] X.env:=by rfl) (hs3:starEach [e'] X.env=(false,eval e' X.env)::starEach [] X.env:=by rfl) :
  PI X (.Tuple elts x1 tpos) (.Call (.Name "zip" p) [e,e'] [] pos) (tPI X.K own (iZ f f')):=(pi_zip hg hm (da_cons h (da_cons h' da_nil hs3) hs1) hs hs2).imp fun σ H R ⟨G,ρ,ds,gh,env,eq,k⟩=>by
 unfold iZ at eq;cases ef:iL f ρ with
 | none=>rw[ef] at eq;cases eq
 | some xs=>
  rw[ef] at eq;cases ef':iL f' ρ with
  | none=>simp[ef'] at eq
  | some ys=>
   simp only[ef',zA,zT] at eq;cases eq;refine⟨G,ρ,[.lst xs,.lst ys],gh,env,?_,fun vs G1 H1 E1 r1 =>?_⟩
   ·simp only[aC,aN,iL_some ef,iL_some ef',zA]
   ·obtain⟨v,t,rfl,rv,rt⟩:=reps_cons.mp r1;obtain⟨v',t',rfl,rv',rt'⟩:=reps_cons.mp rt;have:=reps_nil.mp rt';subst this;obtain⟨a,ws,rfl,ga,ra⟩:=rep_lst.mp rv;obtain⟨b,ws',rfl,gb,rb⟩:=rep_lst.mp rv';exact⟨a,b,rfl,⟨ws,.of (E1.gh _ _ ga)⟩,⟨ws',.of (E1.gh _ _ gb)⟩,k _ G1 H1 E1 (itok_zip ga gb ra rb)⟩
end
end L2
end
noncomputable section
namespace L2
open PySem PySem.Spec PyProof.Rows
noncomputable def Itv (K:Frag) (a:Addr) (n:Nat):It:=
 ⟨fun i H=>∃ xs x,SqL K H a xs∧xs.length=n∧i<n∧xs[n-1-i]?=some x,fun i H x H'=>H'=H∧∀ xs,SqL K H a xs→xs[n-1-i]?=some x,fun i H=>n≤i⟩
theorem turn_rev {P:Program}{w:World}{K:Frag}{tg:Expr}(a it:Addr) (n:Nat):Turn P w K tg (Itv K a n) [it] it (fun i h=>i≤n∧h.IsRevIter it a ((n:Int)-1-(i:Int))) where
 mem:=by simp
 obj:=fun i h st b hb=>by
  have e:b=it:=by simpa using hb
  subst e;obtain⟨_,o,e,c,d⟩:=st;exact⟨o,e,fun v z=>by rw[d] at z;cases z⟩
 keep:=fun i h h' st k=>⟨st.1,st.2.at fun o e=>k it (by simp) o e⟩
 item:=by
  intro X hP hw hK hc i pins s σ H E I hf st hg;subst hP hw hK;obtain⟨xs,x,hq,hn,hi,hx⟩:=hg;obtain⟨its,rv,p,hz⟩:=I.list hq;obtain⟨u,hu,ru⟩:=rv.get hx;obtain⟨f0,f1,f2,f3,f4,f5⟩:=hf it (by simp)
  have e1:(n:Int)-1-(i:Int)=((n-1-i:Nat):Int):=by omega
  have st2:=st.2;rw[e1] at st2;refine wpAny_pyNext_rev_item st2 p.isList (x:=u) (by simpa using hu) fun h' st' sb =>?_
  have I1:Inv X pins σ H { s with heap:=h' }:=I.turned (t':=s.toks) (fun b o hb e=>(sb.2 b hb).trans e) f0 f1 f3 f4 f5
  have e2:((n-1-i:Nat):Int)-1=(n:Int)-1-((i+1:Nat):Int):=by omega
  rw[e2] at st';obtain⟨o,e,c,d⟩:=id st';exact⟨u,rfl,go_of (s:={ s with heap:=h' }) e c d (by decide) ⟨x,H,I1,ru,⟨rfl,fun ys hy=>by rw[I.list_inj hy hq];exact hx⟩,⟨hi,st'⟩,fun b hb=>(hf b hb).1⟩⟩
 done:=by
  intro X hP hw hK hc i pins s σ H E I hf st hg;subst hP hw hK;have hg:n≤i:=hg;obtain⟨f0,f1,f2,f3,f4,f5⟩:=hf it (by simp)
  have e1:(n:Int)-1-(i:Int) = -1:=by have:=st.1;omega
  have st2:=st.2;rw[e1] at st2;exact wpAny_pyNext_rev_end (I.ok.hd hc) st2 fun h' eb=>⟨rfl,I.turned (t':=s.toks) (fun b o hb e=>eb b o hb e) f0 f1 f3 f4 f5⟩
 self:=fun _ _ _ _ _ st h=>wpAny_pyIter_revIter st.2 h
noncomputable section
variable {X:Cx}{own:List Nat}{tg e e':Expr}{f f':DF}{p pos:Pos}
noncomputable def iRevT (K:Frag) (tl:TE):TI:=fun σ H R=>tl σ H fun x H1=>∃ a xs,x=.ref a∧SqL K H1 a xs∧R (Itv K a xs.length) H1
theorem pi_rev {tl:TE}(hg:Gl X "reversed") (hm:X.mg "reversed" = none) (hl:PE X e tl) (hs:starEach [e] X.env=[(false,eval e X.env)]:=by rfl) (hs1:starEach [e] X.env=(false,eval e X.env)::starEach [] X.env:=by rfl)
  (hv:bootBuiltins "reversed" = some (.type "reversed"):=by decide +kernel):PI X tg (.Call (.Name "reversed" p) [e] [] pos) (iRevT X.K tl):=by
 intro pins s σ H R I h;refine Call_ (ld_blt I hg hm hv (PyProof.Rows.callWith_type1 (thn (pa_cons hl pa_nil hs1 pos pins s σ H (fun vs H1=>match vs with|[x]=>∃ a xs,x=.ref a∧SqL X.K H1 a xs∧R (Itv X.K a xs.length) H1|_=>False) I h) fun us s1 ⟨vs,H1,I1,r1,q1⟩ =>?_) hs rfl))
 cases vs with
 | nil=>exact q1.elim
 | cons x t=>
  cases t with
  | cons _ _=>exact q1.elim
  | nil=>
  obtain⟨a,xs,rfl,hq,q⟩:=q1;obtain⟨u,rfl,ru⟩:=Vals.one r1;cases ru;obtain⟨its,rv,pl,hz⟩:=I1.list hq;refine call_reversed_list pl.isList ?_;have n0:H1 s1.heap.objs.size=none:=I1.hok.fresh (zL _);have st0:(s1.heap.push (revObj a ((its.toArray.size:Int)-1))).IsRevIter s1.heap.objs.size a ((xs.length:Int)-1-((0:Nat):Int)):=by refine⟨_,zV _ rfl,rfl,?_⟩;simp[revObj,rv.length]
  refine wpAny_pyIter_revIter (s:={ s1 with heap:=s1.heap.push (revObj a ((its.toArray.size:Int)-1)) }) st0 ?_;refine⟨s1.heap.objs.size,[s1.heap.objs.size],_,_,H1,rfl,I1.kept (t':=s1.toks) fun b o e=>zF _ e,turn_rev a s1.heap.objs.size xs.length,⟨Nat.zero_le _,st0⟩,fun b hb =>?_,q⟩
  have z:b=s1.heap.objs.size:=by simpa using hb
  subst z;exact I1.fpOk (zL _) n0
theorem itok_rev {K:Frag}{G:Hp}{a:Addr}{vs:List V}{ds:List D}(ha:G a=some (.lst vs)) (r:Reps K G ds vs):ItOk K G (Itv K a vs.length) ds.reverse:=by
 have hl:=r.length;refine⟨fun i H s hi =>?_,fun i H s hi =>?_,fun i H x H' G1 d s1 s2 ⟨eh,y⟩ hd =>?_⟩
 ·rw[List.length_reverse,hl] at hi;have h2:vs.length-1-i<vs.length:=by omega
  exact⟨vs,vs[vs.length-1-i],.of (s _ _ ha),rfl,hi,by simp[h2]⟩
 ·show vs.length≤i;rw[List.length_reverse,hl] at hi;exact hi
 ·subst eh;have hi:i<ds.length:=by
   have:=(zC.mp hd).1
   rwa [List.length_reverse] at this
  rw[List.getElem?_reverse hi,hl] at hd;obtain⟨v,ev,rv⟩:=r.get hd;have:=y vs (.of (s2 _ _ (s1 _ _ ha)));rw[ev] at this;cases this;exact⟨G1,.refl s2,Rep.mono s1 d rv⟩
theorem di_rev (hg:Gl X "reversed") (hm:X.mg "reversed" = none) (h:PE X e (tP X.K own f)) (hs:starEach [e] X.env=[(false,eval e X.env)]:=by rfl) (hs1:starEach [e] X.env=(false,eval e X.env)::starEach [] X.env:=by rfl) :
  PI X tg (.Call (.Name "reversed" p) [e] [] pos) (tPI X.K own (fRev f)):=(pi_rev hg hm h hs hs1).imp fun σ H R ⟨G,ρ,ds,gh,env,eq,k⟩=>by
 unfold fRev at eq;cases ef:f ρ with
 | none=>rw[ef] at eq;cases eq
 | some c=>
  rw[ef] at eq;refine⟨G,ρ,c,gh,env,ef,fun v G1 H1 E1 r1 =>?_⟩
  cases c<;>simp only[zA] at eq<;>try (cases eq;done)
  cases eq;obtain⟨a,vs,rfl,ga,ra⟩:=rep_lst.mp r1;exact⟨a,vs,rfl,.of (E1.gh _ _ ga),k _ G1 H1 E1 (itok_rev ga ra)⟩
theorem vals_range:∀ (us:List Value) (k:Nat),(∀ (i:Nat) u,us[i]?=some u→∃ t,u=.int ((k+i:Nat):Int) t)→Vals ((List.range' k us.length).map fun (i:Nat)=>V.int i) us
 | [],k,h =>.nil
 | u::us,k,h=>by
  obtain⟨t,rfl⟩:=h 0 u rfl;rw[zP,List.range'_succ,List.map_cons];exact .cons ⟨t,by simp⟩ (vals_range us (k+1) fun i v e=>by
   obtain⟨t,rfl⟩:=h (i+1) v (by simpa using e)
   exact⟨t,by congr 1;omega⟩)
noncomputable def tLRg (tl:TE):TE:=fun σ H Q=>tl σ H fun x H1=>∃ j:Int,x=.int j∧j≤1000000 ∧ -1000000≤j∧∀ l,H1 l=none→Q (.ref l) (upd H1 l (.lst ((List.range j.toNat).map fun (i:Nat)=>V.int i)))
theorem pe_listRange {q pos':Pos}{tl:TE}(hcal:X.calm=true) (hg:Gl X "list") (hm:X.mg "list" = none) (hg':Gl X "range") (hm':X.mg "range" = none) (hl:PE X e tl) (hs:starEach [e] X.env=(false,eval e X.env)::starEach [] X.env:=by rfl)
  (hs':starEach [.Call (.Name "range" q) [e] [] pos'] X.env=(false,eval (.Call (.Name "range" q) [e] [] pos') X.env)::starEach [] X.env:=by rfl):PE X (.Call (.Name "list" p) [.Call (.Name "range" q) [e] [] pos'] [] pos) (tLRg tl):=by
 intro pins s σ H Q I h;refine wpAny_Call_Name_kw (ld_blt I hg hm PyProof.Rows.boot_list ?_);refine PyProof.Rows.callWith_type1 ?_ hs' rfl;rw[hs'];show wpAny _ _ (spliced ((false,eval _ X.env)::backTo pos (starEach [] X.env))) _ _ s;refine Calls.spliced_cons ?_;refine wpAny_Call_Name_kw (ld_blt I hg' hm' boot_range ?_);refine PyProof.Rows.callWith_type1 ?_ hs rfl;refine thn (pa_cons hl pa_nil hs pos' pins s σ H (fun vs H1=>match vs with|[x]=>∃ j:Int,x=.int j∧j≤1000000 ∧ -1000000≤j∧∀ l,H1 l=none→Q (.ref l) (upd H1 l (.lst ((List.range j.toNat).map fun (i:Nat)=>V.int i)))|_=>False) I h) fun us s1 ⟨vs,H1,I1,r1,q1⟩ =>?_
 cases vs with
 | nil=>exact q1.elim
 | cons x t=>
  cases t with
  | cons _ _=>exact q1.elim
  | nil=>
  obtain⟨j,rfl,hj,hj0,q⟩:=q1;obtain⟨u,rfl,ru⟩:=Vals.one r1;obtain⟨t,rfl⟩:=ru;refine call_range_1 ?_;refine Calls.spliced_nil ?_;have hn:Builtin.Range.rangeSize 0 j 1=(j.toNat:Nat):=by rw[rangeSize_one];split<;>omega
  refine call_list_range (n:=j.toNat) (I1.ok.hd hcal) (IsRange.new ..) (small_one (by decide) (by decide) (by omega) (by omega)) hn (by omega) fun h' tk acc' c' kp e1 it =>?_
  have kp1:∀ b o',s1.heap.get? b=some o'→h'.get? b=some o':=fun b o' e=>kp b o' (zF _ e)
  have hz:j.toNat≤sizeLine:=yB (show j.toNat≤bigE by unfold bigE;omega) bigE_le
  have vv:Vals ((List.range j.toNat).map fun (i:Nat)=>V.int i) acc'.toList:=by
   have:=vals_range acc'.toList 0 fun i u e=>by
    obtain⟨t,rfl⟩:=it.2 i u (by simpa using e)
    exact⟨t,by simp⟩
   rw[show acc'.toList.length=j.toNat by simpa using it.1] at this
   rw[List.range_eq_range'];exact this
  exact⟨.ref _,_,I1.laid (t':=tk) kp1 (by rw[Heap.size_push];exact Nat.le_succ _) (show ObjOk X.prog X.w _ h' _ (.lst _) from ⟨by simpa using hz,acc'.toList,c',vv,by rw[e1]⟩),rfl,q _ (I1.hok.fresh (by rw[Heap.size_push];exact Nat.le_succ _))⟩
noncomputable def fLR (f:DF):DL:=fun ρ=>(f ρ).bind fun d=>match d with|.int j=>if j≤1000000 ∧ -1000000≤j then some (rngD 0 j.toNat) else none|_=>none
theorem rng_reps {K:Frag}{G:Hp}(n:Nat):Reps K G (rngD 0 n) ((List.range n).map fun (i:Nat)=>V.int i):=by
 have e1:rngD 0 n=((List.range n).map fun (i:Nat)=>(i:Int)).map D.int:=by simp[rngD]
 have e2:((List.range n).map fun (i:Nat)=>V.int i)=((List.range n).map fun (i:Nat)=>(i:Int)).map V.int:=by simp
 rw[e1,e2];exact Reps.ints _
theorem de_listRange {q pos':Pos}(hcal:X.calm=true) (hg:Gl X "list") (hm:X.mg "list" = none) (hg':Gl X "range") (hm':X.mg "range" = none) (h:PE X e (tQ X.K own f)) (hs:starEach [e] X.env=(false,eval e X.env)::starEach [] X.env:=by rfl)
  (hs':starEach [.Call (.Name "range" q) [e] [] pos'] X.env=(false,eval (.Call (.Name "range" q) [e] [] pos') X.env)::starEach [] X.env:=by rfl):PE X (.Call (.Name "list" p) [.Call (.Name "range" q) [e] [] pos'] [] pos) (tF X.K own (fLR f)):=
 (pe_listRange hcal hg hm hg' hm' h hs hs').imp fun σ H Q ⟨G,ρ,ds,gh,env,eq,k⟩=>by
  unfold fLR at eq;cases ef:f ρ with
  | none=>rw[ef] at eq;cases eq
  | some c=>
   rw[ef] at eq;refine⟨G,ρ,c,gh,env,ef,fun v G1 H1 E1 r1 =>?_⟩
   cases c<;>simp only[zA] at eq<;>try (cases eq;done)
   split at eq
   ·cases eq;rename_i j hj;exact⟨j,r1.int,hj.1,hj.2,fun q hq=>k q _ G1 _ (E1.trans (Ext.lay (p:=q) E1.gh hq)) (E1.hh.free hq) (E1.gh.free hq) upd_same (rng_reps _)⟩
   ·cases eq
noncomputable def Itd (lo:Int) (n:Nat):It:=⟨fun i _=>i<n,fun i H x H'=>H'=H∧x=.int (lo-i),fun i _=>n≤i⟩
theorem turn_down {P:Program}{w:World}{K:Frag}{tg:Expr}(it:Addr) (lo:Int) (n:Nat):Turn P w K tg (Itd lo n) [it] it (fun i h=>IsRangeIter h it (lo+(i:Nat)*(-1)) ((n:Int)-(i:Nat)) (-1)) where
 mem:=by simp
 obj:=fun i h st b hb=>by
  have e:b=it:=by simpa using hb
  subst e;exact⟨_,st,fun v z=>by have z':Data.fields _=Data.cell v:=z;cases z'⟩
 keep:=fun i h h' st k=>k it (by simp) _ st
 item:=by
  intro X hP hw hK hc i pins s σ H E I hf st hg;subst hP hw hK;obtain⟨f0,f1,f2,f3,f4,f5⟩:=hf it (by simp)
  have W:=Walks.range (prog:=X.prog) (w:=X.w) (I.ok.hd hc) it lo (-1) n;refine W.item i s _ _ hg st fun v h' tk hv st' kk =>?_
  obtain⟨t,rfl⟩:=hv;have I1:Inv X pins σ H { s with heap:=h',toks:=tk }:=I.turned (fun b o hb e=>kk b o (by simpa using hb) e) f0 f1 f3 f4 f5
  refine⟨_,rfl,go_of (s:={ s with heap:=h',toks:=tk }) (n:= "range_iterator") st' rfl rfl (by decide) ⟨.int (lo-i),H,I1,⟨t,?_⟩,⟨rfl,rfl⟩,st',fun b hb=>(hf b hb).1⟩⟩
  congr 1;omega
 done:=by
  intro X hP hw hK hc i pins s σ H E I hf st hg;subst hP hw hK;obtain⟨f0,f1,f2,f3,f4,f5⟩:=hf it (by simp)
  exact wpAny_pyNext_range_end (I.ok.hd hc) st (by have:n≤i:=hg;omega) fun h' eb=>⟨rfl,I.turned (t':=s.toks) (fun b o hb e=>eb b o hb e) f0 f1 f3 f4 f5⟩
 self:=fun _ _ _ _ _ st h=>wpAny_pyIter_rangeiter st h
theorem rangeSize_down (a b:Int):Builtin.Range.rangeSize a b (-1)=if a > b then a-b else 0:=by
 unfold Builtin.Range.rangeSize;rw[if_neg (by decide)]
 split
 ·rw[show -(-1:Int)=1 by decide,Int.ediv_one];omega
 ·rfl
theorem small_down {a b:Int}(ha : -(2 ^ 62)≤a) (ha':a<2 ^ 62) (hb : -(2 ^ 62)≤b) (hb':b<2 ^ 62):Builtin.Range.small a b (-1)=true:=by
 unfold Builtin.Range.small;rw[rangeSize_down];simp only[Builtin.Range.rangeFitsLong,Bool.and_eq_true,Bool.or_eq_true,decide_eq_true_eq,beq_iff_eq,show ¬ ((-1:Int) > 0) by decide,if_false]
 split<;>omega
noncomputable def iRng3 (ta:TA):TI:=fun σ H R=>ta σ H fun vs H1=>∃ i j:Int,vs=[.int i,.int j,.int (-1)]∧(-(2 ^ 62)≤i∧i<2 ^ 62 ∧ -(2 ^ 62)≤j∧j<2 ^ 62)∧R (Itd i (i-j).toNat) H1
theorem pi_range3 {a b c:Expr}{ta:TA}(hg:Gl X "range") (hm:X.mg "range" = none) (ha:PA X [a,b,c] ta) (hs:starEach [a,b,c] X.env=(false,eval a X.env)::starEach [b,c] X.env:=by rfl) (hs2:(backTo pos (starEach [b,c] X.env)).any (·.1)=false:=by rfl) :
  PI X tg (.Call (.Name "range" p) [a,b,c] [] pos) (iRng3 ta):=by
 intro pins s σ H R I h;refine Call_ (ld_blt I hg hm boot_range (PyProof.Rows.callWith_type1 (thn (ha pos pins s σ H _ I h) fun us s1 ⟨vs,H1,I1,r1,q1⟩ =>?_) hs hs2))
 obtain⟨i,j,e,⟨q1,q2,q3,q4⟩,q⟩:=q1;subst e;cases r1 with
 | cons r rr=>
  cases rr with
  | cons r' rr=>
   cases rr with
   | cons r'' rr=>
    cases rr;obtain⟨t,rfl⟩:=r;obtain⟨t',rfl⟩:=r';obtain⟨t'',rfl⟩:=r'';refine call_range_3 (by decide) ?_ (Or.inl (PyProof.noPylong_small (by decide)))
    refine wpAny_pyIter_range (IsRange.new ..) (small_down q1 q2 q3 q4) ?_;have I2:Inv X pins σ H1 { s1 with heap:=s1.heap.push { cls :=.type "range",data :=.fields #[.int i t,.int j t',.int (-1) t''] },toks:=s1.toks }:=I1.kept fun b o e=>zF _ e
    refine⟨(s1.heap.push { cls :=.type "range",data :=.fields #[.int i t,.int j t',.int (-1) t''] }).objs.size,[(s1.heap.push { cls :=.type "range",data :=.fields #[.int i t,.int j t',.int (-1) t''] }).objs.size],_,_,H1,rfl,
     I2.kept (t':=s1.toks) fun b o e=>zF _ e,turn_down _ i (i-j).toNat,?_,fun b hb =>?_,q⟩
    ·have e1:i+((0:Nat):Int)*(-1)=i:=by simp
     have e2:(((i-j).toNat:Nat):Int)-((0:Nat):Int)=Builtin.Range.rangeSize i j (-1):=by rw[rangeSize_down];split<;>omega
     show IsRangeIter _ _ (i+((0:Nat):Int)*(-1)) ((((i-j).toNat:Nat):Int)-((0:Nat):Int)) (-1);rw[e1,e2];exact zV _ rfl
    ·have e:b=(s1.heap.push { cls :=.type "range",data :=.fields #[.int i t,.int j t',.int (-1) t''] }).objs.size:=by simpa using hb
     subst e;exact I2.fpOk (zL _) (I2.hok.fresh (zL _))
noncomputable def dwnD (lo:Int) (n:Nat):List D:=(List.range n).map fun (k:Nat) =>.int (lo-(k:Int))
theorem itok_down {K:Frag}{G:Hp}(lo:Int) (n:Nat):ItOk K G (Itd lo n) (dwnD lo n):=by
 have hl:(dwnD lo n).length=n:=by simp[dwnD]
 refine⟨fun i H s hi=>by rw[hl] at hi;exact hi,fun i H s hi=>by rw[hl] at hi;exact hi,fun i H x H' G1 d s1 s2 ⟨e,y⟩ hd =>?_⟩
 subst e;refine⟨G1,.refl s2,?_⟩;unfold dwnD at hd;rw[zM] at hd;cases q:(List.range n)[i]? with
 | none=>rw[q] at hd;cases hd
 | some j=>
  rw[q] at hd;cases hd;have:j=i:=by obtain⟨h1,h2⟩:=zC.mp q;simpa using h2.symm
  subst this;exact rep_int.mpr y
noncomputable def iR3 (f f':DF):DL:=fun ρ=>(f ρ).bind fun d=>(f' ρ).bind fun c=>match d,c with|.int i,.int j=>if -(2 ^ 62)≤i∧i<2 ^ 62 ∧ -(2 ^ 62)≤j∧j<2 ^ 62 then some (dwnD i (i-j).toNat) else none|_,_=>none
theorem di_range3 {c:Expr}(hg:Gl X "range") (hm:X.mg "range" = none) (h:PE X e (tP X.K own f)) (h':PE X e' (tP X.K own f')) (h3:PE X c (tP X.K own (e1 oNeg (eK (.int 1)))))
  (hs:starEach [e,e',c] X.env=(false,eval e X.env)::starEach [e',c] X.env:=by rfl) (hs2:starEach [e',c] X.env=(false,eval e' X.env)::starEach [c] X.env:=by rfl) (hs3:starEach [c] X.env=(false,eval c X.env)::starEach [] X.env:=by rfl) (hp:(backTo pos (starEach [e',c] X.env)).any (·.1)=false:=by rfl) :
  PI X tg (.Call (.Name "range" p) [e,e',c] [] pos) (tPI X.K own (iR3 f f')):=(pi_range3 hg hm (da_cons h (da_cons h' (da_cons h3 da_nil hs3) hs2) hs) hs hp).imp fun σ H R ⟨G,ρ,ds,gh,env,eq,k⟩=>by
 unfold iR3 at eq;cases ef:f ρ with
 | none=>rw[ef] at eq;cases eq
 | some d=>
  rw[ef] at eq;cases ef':f' ρ with
  | none=>simp[ef'] at eq
  | some c=>
   simp only[ef',zA] at eq;cases d<;>cases c<;>simp only at eq<;>try (cases eq;done)
   split at eq
   ·cases eq;rename_i i j hb;refine⟨G,ρ,[.int i,.int j,.int (-1)],gh,env,?_,fun vs G1 H1 E1 r1 =>?_⟩
    ·simp only[aC,aN,ef,ef',zA];rfl
    ·obtain⟨v,t,rfl,rv,rt⟩:=reps_cons.mp r1;obtain⟨v',t',rfl,rv',rt'⟩:=reps_cons.mp rt;obtain⟨v'',t'',rfl,rv'',rt''⟩:=reps_cons.mp rt';have:=reps_nil.mp rt'';subst this;rw[rep_int.mp rv,rep_int.mp rv',rep_int.mp rv''];exact⟨i,j,rfl,hb,k _ G1 H1 E1 (itok_down i _)⟩
   ·cases eq
end
end L2
end
noncomputable section
namespace L2
open PySem PySem.Spec PyProof.Rows
theorem blk_mk2 {X:Cx}{N2 N:List Str}{src:List (Option Nat)}{scope scope2:Scope}{C:Addr}{s:Shared}{H:Hp}{ex:List Addr}(hk:scope.kind=.function) (h:blkCheck scope2 N2 N src scope=true):BlkScope (X.blk N2 scope2 C s H ex) N src scope:=by
 unfold blkCheck at h;simp only[Bool.and_eq_true,List.all_eq_true,beq_iff_eq,Bool.or_eq_true] at h;obtain⟨⟨⟨h1,h2⟩,h3⟩,h4⟩:=h;refine⟨hk,fun y hy=>h1 y hy,fun y hy hf =>?_,h3,fun i j x hs hN =>?_⟩
 ·show (relabel scope2 X.env).names.lookup y.1=some .cell∨(relabel scope2 X.env).names.lookup y.1=some .free;unfold relabel;rw[lookup_relabel];rcases h2 y hy with z|z
  ·rw[hf] at z;exact absurd z (by decide)
  ·rcases z with z|z
   ·rw[z];exact .inl (by simp)
   ·rw[z];simp only[zT]
    split
    ·exact .inl rfl
    ·exact .inr rfl
 ·have hi:i<src.length:=(zC.mp hs).1;have:=h4 i (by simpa using hi)
  rw[hs,hN] at this;simp only[Bool.and_eq_true,beq_iff_eq] at this;exact this
noncomputable section
variable {X:Cx}{own:List Nat}{e o:Expr}{f g:DF}{p pos:Pos}
theorem vals_strs:∀ {ls:List Str}{us:List Value},Vals (ls.map V.str) us→∃ l:List (Str×Tok),us=strValues l∧l.map (·.1)=ls
 | [],us,r=>by cases r;exact⟨[],rfl,rfl⟩
 | x::ls,us,r=>by
  cases r with
  | cons r t=>obtain⟨k,rfl⟩:=r;obtain⟨l,rfl,e⟩:=vals_strs t;exact⟨(x,k)::l,rfl,by simp[e]⟩
noncomputable def joinSz (sep:Str) (ls:List Str):Nat:=ls.foldl (fun a x=>a+x.length+sep.length) 0
noncomputable def rJoin (K:Frag):V→List V→Hp→VK→Prop:=fun x vs H Q=>∃ sep p ls,x=.str sep∧vs=[.ref p]∧SqL K H p (ls.map V.str)∧joinSz sep ls≤bigE∧(Builtin.Str.glued sep ls).length≤bigE∧Q (.str (Builtin.Str.glued sep ls)) H
theorem mt_join:MtR X "str.join" (rJoin X.K):=by
 intro pins s σ H x xs v us Q I rx rv ⟨sep,p,ls,ex,es,hq,h1,h2,q⟩;subst ex es;obtain⟨t,rfl⟩:=rx;obtain⟨u,rfl,ru⟩:=Vals.one rv;cases ru;obtain⟨its,ri,pl,hz⟩:=I.list hq;obtain⟨l,rfl,el⟩:=vals_strs ri;have hfold:Builtin.Str.tooLong ((l.map (·.1)).toArray.foldl (· + ·.length+sep.length) 0)=false:=by
  have:((l.map (·.1)).toArray.foldl (· + ·.length+sep.length) 0)=joinSz sep ls:=by rw[el];simp[joinSz]
  rw[this];unfold Builtin.Str.tooLong;have:=bigE_le;simp;omega
 refine call_meets PySem.F.slot_str_join (typeIs_str _ _ _) PySem.F.entry_str_join (PySem.F.args_str_join_2 _ _) (meets_str_join_list sep t p l hfold) ⟨pl.isList,?_⟩;have big:=yB h2 bigE_le;unfold joinMade
 split
 ·rename_i q0;rw[← el] at q;exact⟨.str q0.1,H,I,⟨q0.2,rfl⟩,q⟩
 ·refine⟨by rw[el];exact big,.str (Builtin.Str.glued sep ls),H,I.kept (t':=s.toks+1) fun b o e=>e,⟨s.toks,by rw[el]⟩,q⟩
noncomputable def isStrD:D→Bool
 | .str _=>true
 | _=>false
noncomputable def strD:D→Str
 | .str x=>x
 | _=>Str.empty
noncomputable def oJoin:D→D→Option D
 | .str sep,.lst ds=>if (ds.all isStrD&&decide (joinSz sep (ds.map strD)≤bigE)&&decide ((Builtin.Str.glued sep (ds.map strD)).length≤bigE))=true then some (.str (Builtin.Str.glued sep (ds.map strD))) else none
 | _,_=>none
theorem reps_strs {K:Frag}{G:Hp}:∀ {ds:List D}{vs:List V},ds.all isStrD=true→Reps K G ds vs→vs=(ds.map strD).map V.str
 | [],vs,h,r=>reps_nil.mp r
 | d::ds,vs,h,r=>by rw[List.all_cons,Bool.and_eq_true] at h;obtain⟨v,t,rfl,rv,rt⟩:=reps_cons.mp r;rw[reps_strs h.2 rt];cases d<;>first|(simp[isStrD] at h;done)|(rw[rep_str.mp rv];rfl)
theorem de_join {apos cpos:Pos}(ho:PE X o (tQ X.K own f)) (he:PE X e (tQ X.K own g)) (hbase:attributeBase o "join" X.env (eval o X.env)=eval o X.env:=by rfl)
  (hfew:((backTo cpos (starEach (e::[]) X.env)).all (fun x=> !x.1)&&(backToKw cpos (keywordEach [] X.env)).all (fun x=>x.1.isSome)
   && decide ((e::[]).length+([]:List Keyword).length+(if ([]:List Keyword).isEmpty then 0 else 1)<30))=true:=by rfl)
  (hline:(apos.endLine==cpos.line)=true:=by rfl) (hs:starEach (e::[]) X.env=(false,eval e X.env)::starEach [] X.env:=by rfl) (hplain:(backTo cpos (starEach [] X.env)).any (·.1)=false:=by rfl) :
  PE X (.Call (.Attribute o "join" apos) [e] [] cpos) (tP X.K own (e2 oJoin f g)):=
 (pe_bm PySem.F.plainAttrs_str PySem.F.slot_str_join PySem.F.type_str_join mt_join ho (pa_cons he pa_nil hs) hbase hfew hline hs hplain).imp fun σ H Q ⟨G,ρ,d,gh,env,eq,k⟩=>by
  obtain⟨x,y,ex,ey,eo⟩:=e2_some eq;refine⟨G,ρ,x,gh,env,ex,fun v G1 H1 E1 r1 =>?_⟩
  unfold oJoin at eo
  split at eo
  ·split at eo
   ·cases eo;rename_i sep ds hb;simp only[Bool.and_eq_true,decide_eq_true_eq] at hb;have:=r1.str;subst this;refine⟨rfl,G1,ρ,_,E1.gh,env.ext E1,ey,fun u G2 H2 E2 r2 =>?_⟩
    obtain⟨a,vs,rfl,qa,ra⟩:=r2.lst E2.gh;have e:=reps_strs hb.1.1 ra;subst e;exact⟨sep,a,_,rfl,rfl,.of qa,hb.1.2,hb.2,k _ G2 H2 (E1.trans E2) (rep_str.mpr rfl)⟩
   ·cases eo
  ·cases eo
end
end L2
end
noncomputable section
namespace L2
open PySem PySem.Spec PyProof.Rows
noncomputable def gN3 (i j l:Nat):DTg:=fun d ρ=>match d with|.tup [a,b,c]=>some (((ρ.set i (some a)).set j (some b)).set l (some c))|_=>none
theorem gN3_some {i j l:Nat}{d:D}{ρ ρ':DEnv}(h:gN3 i j l d ρ=some ρ'):∃ a b c,d=.tup [a,b,c]∧ρ'=((ρ.set i (some a)).set j (some b)).set l (some c):=by
 unfold gN3 at h
 split at h
 ·cases h;exact⟨_,_,_,rfl,rfl⟩
 ·cases h
theorem rep_three {K:Frag}{G:Hp}{a b c:D}{v:V}(r:Rep K G (.tup [a,b,c]) v):∃ p x y z,v=.ref p∧G p=some (.tup [x,y,z])∧Rep K G a x∧Rep K G b y∧Rep K G c z:=by
 obtain⟨p,vs,e,g,rs⟩:=rep_tup.mp r;obtain⟨x,r1,rfl,rx,t⟩:=reps_cons.mp rs;obtain⟨y,r2,rfl,ry,t⟩:=reps_cons.mp t;obtain⟨z,r3,rfl,rz,t⟩:=reps_cons.mp t;rw[reps_nil.mp t] at g;exact⟨p,x,y,z,e,g,rx,ry,rz⟩
noncomputable section
variable {X:Cx}{B:Bs}{own oL:List Nat}
theorem dg_three {i j l:Nat}{tg:Expr}(h:PG X tg (gTup X.K 3 (gCons (gName i) (gCons (gName j) (gCons (gName l) gNil))))) (hi:i∉own:=by decide) (hj:j∉own:=by decide) (hl:l∉own:=by decide):PG X tg (tTG X.K B own (gN3 i j l)):=h.imp fun v σ H Q ⟨G,ρ,d,ρ',S,r,eq,k⟩=>by
 obtain⟨a,b,c,rfl,rfl⟩:=gN3_some eq;obtain⟨p,x,y,z,rfl,g,rx,ry,rz⟩:=rep_three r;exact⟨p,_,rfl,.of (S.gh _ _ g),rfl,x,_,rfl,y,_,rfl,z,_,rfl,rfl,k _ G H (((S.setS hi rx).setS hj ry).setS hl rz)⟩
theorem hte_three {K:Frag}{own:List Nat}(i j l:Nat) (hi:i∉own:=by decide) (hj:j∉own:=by decide) (hl:l∉own:=by decide):∀ v σ H Q,tTE K own (gN3 i j l) v σ H Q→gTup K 3 (gCons (gName i) (gCons (gName j) (gCons (gName l) gNil))) v σ H Q:=fun v σ H Q ⟨G,ρ,d,ρ',gh,env,r,eq,k⟩=>by
 obtain⟨a,b,c,rfl,rfl⟩:=gN3_some eq;obtain⟨p,x,y,z,rfl,g,rx,ry,rz⟩:=rep_three r;exact⟨p,_,rfl,.of (gh _ _ g),rfl,x,_,rfl,y,_,rfl,z,_,rfl,rfl,k _ G H (.refl gh) (((env.set hi rx).set hj ry).set hl rz)⟩
theorem ag_three (K:Frag) (i j l:Nat):GAg [i,j,l] (gTup K 3 (gCons (gName i) (gCons (gName j) (gCons (gName l) gNil)))):=by
 rintro x σ H Q ⟨a,xs,rfl,sq,hl,v,r,rfl,v2,r2,rfl,v3,r3,rfl,rfl,q⟩;refine⟨a,_,rfl,sq,hl,v,_,rfl,v2,_,rfl,v3,_,rfl,rfl,⟨by simp,fun k hk =>?_⟩,q⟩
 have h1:i≠k:=fun e=>hk (by simp[e])
 have h2:j≠k:=fun e=>hk (by simp[e])
 have h3:l≠k:=fun e=>hk (by simp[e])
 rw[zK h3,zK h2,zK h1]
noncomputable def sAsg (τ:DTg) (f:DF):DG:=fun ρ=>(f ρ).bind fun d=>(τ d ρ).map .nx
theorem ds_asg {tg e:Expr}{pos:Pos}{f:DF}{τ:DTg}(he:PE X e (tP X.K own f)) (hg:PG X tg (tTG X.K B own τ)) (hs:swapsWithSole [tg] e pos.line X.env=pure false:=by rfl) (hw:swappedStores [tg] e X.env=pure none:=by rfl)
  (h1:(assignEach [tg] X.env).map (·.2)=[assign tg X.env]:=by rfl):PS X (.Assign [tg] e pos) (tDS X.K B oL own own (sAsg τ f)):=(ps_asg he hg hs hw h1).imp fun D σ H ⟨G,ρ,o,S,eq,k⟩=>by
 unfold sAsg at eq;cases ef:f ρ with
 | none=>rw[ef] at eq;cases eq
 | some d=>
  rw[ef] at eq;have eq:(τ d ρ).map DO.nx=some o:=eq;cases et:τ d ρ with
  | none=>rw[et] at eq;cases eq
  | some ρ'=>rw[et] at eq;cases eq;exact⟨G,ρ,d,S.gh,S.envR,ef,fun v G' H' E r=>⟨G',ρ,d,ρ',S.ext E,r,et,fun σ2 G2 H2 S2=>k _ G2 H2 S2⟩⟩
open Classical in
noncomputable def inF (its:List Value) (ys:List D) (x:D) (u:Value):Bool:=decide (∃ (i:Nat) (d:D),its[i]?=some u∧ys[i]?=some d∧deq d x=true)
noncomputable def oInD (neg:Bool):D→D→Option D
 | x,.lst ys=>if (dOk x 170&&dOks ys 170)=true then some (.bl (if neg then !(ys.any fun y=>deq y x) else (ys.any fun y=>deq y x))) else none
 | x,.tup ys=>if (dOk x 170&&dOks ys 170)=true then some (.bl (if neg then !(ys.any fun y=>deq y x) else (ys.any fun y=>deq y x))) else none
 | _,_=>none
theorem inD_val {P:Program}{w:World}{K:Frag}{H:Hp}{s:Shared}{A:Around}(hok:HOk P w H s.heap) (hu:A.units+170<cLine){x:D}{ys:List D}{v:V}{u:Value}{vs:List V}{its:List Value}(ox:dOk x 170=true) (oy:dOks ys 170=true) (rx:Rep K H x v) (rv:RelV v u) (ry:Reps K H ys vs) (rs:Vals vs its) :
  (∀ z∈its,SeqAt.EqAt A s z u (inF its ys x z))∧its.any (inF its ys x)=ys.any fun y=>deq y x:=by
 have one:∀ (i:Nat) (z:Value),its[i]?=some z→∃ d w,ys[i]?=some d∧Rep K H d w∧RelV w z∧dOk d 170=true:=fun i z e=>by
  have hi:i<vs.length:=by rw[rs.length];exact(zC.mp e).1
  have ev:vs[i]?=some vs[i]:=zI hi;obtain⟨z',ez,rz⟩:=rs.get ev;rw[e] at ez;cases ez;obtain⟨d,ed,rd⟩:=ry.getV ev;exact⟨d,_,ed,rd,rz,dOks_get oy ed⟩
 have val:∀ (i:Nat) (z:Value) (d:D),its[i]?=some z→ys[i]?=some d→inF its ys x z=deq d x:=fun i z d e ed=>by
  obtain⟨d',w',ed',rd',rz',od'⟩:=one i z e;rw[ed] at ed';cases ed';unfold inF;cases hd:deq d x with
  | true=>simp only[decide_eq_true_eq];exact⟨i,d,e,ed,hd⟩
  | false=>simp only[decide_eq_false_iff_not];rintro⟨j,d2,e2,ed2,h2⟩;obtain⟨d3,w3,ed3,rd3,rz3,od3⟩:=one j z e2;rw[ed2] at ed3;cases ed3;have:w'=w3:=RelV.inj rz' rz3;subst this;have:=Rep.inj d d2 170 170 od' od3 rd' rd3;subst this;rw[hd] at h2;cases h2
 refine⟨fun z hz =>?_,?_⟩
 ·obtain⟨i,e⟩:=List.mem_iff_getElem?.mp hz;obtain⟨d,w',ed,rd,rz,od⟩:=one i z e;rw[val i z d e ed];exact(eq_all (K:=K) hok 170 (A:=A) (by omega) d x 170 w' v z u od ox rd rx rz rv).eq
 ·cases hA:ys.any fun y=>deq y x with
  | true=>obtain⟨d,hd,he⟩:=List.any_eq_true.mp hA;obtain⟨i,ed⟩:=List.mem_iff_getElem?.mp hd;obtain⟨w',ew,_⟩:=ry.get ed;obtain⟨z,ez,_⟩:=rs.get ew;rw[List.any_eq_true];exact⟨z,zX ez,by rw[val i z d ez ed];exact he⟩
  | false=>rw[List.any_eq_false];intro z hz;obtain⟨i,e⟩:=List.mem_iff_getElem?.mp hz;obtain⟨d,w',ed,_⟩:=one i z e;rw[val i z d e ed];exact(List.any_eq_false.mp hA) d (zX ed)
theorem od_inD {k:Nat}(hr:Room k X.A):OpD X (compareOp .In) (oInD false):=by
 intro pins s σ H x y v u Q I rx ry ⟨G,d1,d2,d,gh,h1,h2,eq,q⟩;have hu:=hr.un;cases d2 with
 | lst ys=>
  simp only[oInD] at eq
  split at eq
  ·rename_i hc;rw[Bool.and_eq_true] at hc;cases eq;obtain⟨a,vs,rfl,ha,rr⟩:=rep_lst.mp (h2.all gh);cases ry;obtain⟨its,rs,pl,hz⟩:=I.list (.of ha);obtain⟨w1,w2⟩:=inD_val (K:=X.K) I.hok (A:=X.A.in1) (by show X.A.units+1+170<cLine;omega) hc.1 hc.2 (h1.all gh) rx rr rs
   refine SeqAt.in_listAt (inF its ys d1) pl.isList (fun w hw=>w1 w (by simpa using hw)) ⟨.bl _,H,I,rfl,?_⟩
   rw[show its.toArray.any (inF its ys d1)=its.any (inF its ys d1) by simp,w2]
   exact q _ G H (.refl gh) (rep_bl.mpr rfl)
  ·cases eq
 | tup ys=>
  simp only[oInD] at eq
  split at eq
  ·rename_i hc;rw[Bool.and_eq_true] at hc;cases eq;obtain⟨a,vs,rfl,ha,rr⟩:=rep_tup.mp (h2.all gh);cases ry;obtain⟨its,rs,pl,hz⟩:=I.tuple (.of ha);obtain⟨w1,w2⟩:=inD_val (K:=X.K) I.hok (A:=X.A.in1) (by show X.A.units+1+170<cLine;omega) hc.1 hc.2 (h1.all gh) rx rr rs
   refine SeqAt.in_tupleAt (inF its ys d1) pl (fun w hw=>w1 w (by simpa using hw)) ⟨.bl _,H,I,rfl,?_⟩
   rw[show its.toArray.any (inF its ys d1)=its.any (inF its ys d1) by simp,w2]
   exact q _ G H (.refl gh) (rep_bl.mpr rfl)
  ·cases eq
 | _=>simp only[oInD] at eq;cases eq
end
end L2
end
noncomputable section
namespace L2
open PySem
structure TGrow (b:Bool) (t:SetTable):Prop where
 lead:t.led=b
 none:t.dummies=#[]
 rise:t.place.toList.Pairwise (· < ·)
theorem rise_lt {l:List Nat}(r:l.Pairwise (· < ·)){i k:Nat}(hi:i<l.length) (hk:k<l.length) (h:i<k):l[i]<l[k]:=
 List.pairwise_iff_getElem.mp r i k hi hk h
theorem below_go {xs:Array Nat}{j:Nat}(r:xs.toList.Pairwise (· < ·)):∀ (f lo hi:Nat),hi-lo≤f→lo≤hi→hi≤xs.size →
  (∀ k (h:k<xs.size),k<lo→xs[k]<j)→(∀ k (h:k<xs.size),hi≤k→j≤xs[k]) →
  SetTable.below.go xs j f lo hi≤xs.size∧(∀ k (h:k<xs.size),k<SetTable.below.go xs j f lo hi→xs[k]<j)∧(∀ k (h:k<xs.size),SetTable.below.go xs j f lo hi≤k→j≤xs[k])
 | 0,lo,hi,hf,hl,hs,a,b=>by
  have e:lo=hi:=by omega
  subst e;exact⟨hs,a,b⟩
 | f+1,lo,hi,hf,hl,hs,a,b=>by
  unfold SetTable.below.go;by_cases h:lo<hi
  ·rw[if_pos h];have hm:(lo+hi)/2<xs.size:=by omega
   have hg:xs.getD ((lo+hi)/2) j=xs[(lo+hi)/2]:=by simp[Array.getD,hm]
   dsimp only;rw[hg];have hx:∀ i (h:i<xs.size),xs[i]=xs.toList[i]'(by simpa using h):=fun i h=>by simp
   split
   ·rename_i h2;refine below_go r f _ _ (by omega) (by omega) hs (fun k hk hlt =>?_) b
    by_cases e:k=(lo+hi)/2
    ·subst e;exact h2
    ·have:=rise_lt r (i:=k) (k:=(lo+hi)/2) (by simpa using hk) (by simpa using hm) (by omega)
     rw[hx k hk];rw[hx _ hm] at h2;omega
   ·rename_i h2;refine below_go r f _ _ (by omega) (by omega) (by omega) a fun k hk hle =>?_
    by_cases e:k=(lo+hi)/2
    ·subst e;omega
    ·have:=rise_lt r (i:=(lo+hi)/2) (k:=k) (by simpa using hm) (by simpa using hk) (by omega)
     rw[hx k hk];rw[hx _ hm] at h2;omega
  ·rw[if_neg h];have e:lo=hi:=by omega
   subst e;exact⟨hs,a,b⟩
theorem below_at {xs:Array Nat}(r:xs.toList.Pairwise (· < ·)) (j:Nat):SetTable.below xs j≤xs.size∧(∀ k (h:k<xs.size),k<SetTable.below xs j→xs[k]<j)∧(∀ k (h:k<xs.size),SetTable.below xs j≤k→j≤xs[k]):=
 below_go r xs.size 0 xs.size (by omega) (by omega) (by omega) (fun k _ h=>by omega) fun k h h'=>by omega
theorem below_mem {xs:Array Nat}(r:xs.toList.Pairwise (· < ·)){j k:Nat}(hk:k<xs.size) (e:xs[k]=j):SetTable.below xs j=k:=by
 obtain⟨h1,h2,h3⟩:=below_at r j;have hx:∀ i (h:i<xs.size),xs[i]=xs.toList[i]'(by simpa using h):=fun i h=>by simp
 rcases Nat.lt_trichotomy (SetTable.below xs j) k with h|h|h
 ·have hb:SetTable.below xs j<xs.size:=by omega
  have:=rise_lt r (i:=SetTable.below xs j) (k:=k) (by simpa using hb) (by simpa using hk) h
  have h4:=h3 _ hb (zL _);rw[hx _ hb] at h4;rw[hx _ hk] at e;omega
 ·exact h
 ·have:=h2 k hk h;omega
theorem below_next {xs:Array Nat}(r:xs.toList.Pairwise (· < ·)){k:Nat}(hk:k<xs.size):SetTable.below xs (xs[k]+1)=k+1:=by
 obtain⟨h1,h2,h3⟩:=below_at r (xs[k]+1);have hx:∀ i (h:i<xs.size),xs[i]=xs.toList[i]'(by simpa using h):=fun i h=>by simp
 rcases Nat.lt_trichotomy (SetTable.below xs (xs[k]+1)) (k+1) with h|h|h
 ·have:=h3 k hk (by omega)
  omega
 ·exact h
 ·have h4:=h2 (k+1) (by omega) h
  have:=rise_lt r (i:=k) (k:=k+1) (by simpa using hk) (by simp;omega) (by omega)
  rw[hx _ (by omega)] at h4
  rw[hx k hk] at h4;omega
theorem below_first {xs:Array Nat}(r:xs.toList.Pairwise (· < ·)):SetTable.below xs 0=0:=by
 obtain⟨h1,h2,h3⟩:=below_at r 0;rcases Nat.eq_zero_or_pos (SetTable.below xs 0) with h|h
 ·exact h
 ·have:=h2 0 (by omega) h
  omega
theorem put_rise {t:SetTable}{b:Bool}(g:TGrow b t){j:Nat}(h:t.slot j=.empty):TGrow b (t.put j).1:=by
 have hnot:∀ k (hk:k<t.place.size),t.place[k]≠j:=by
  intro k hk e;have hb:=below_mem g.rise hk e;unfold SetTable.slot at h;rw[hb] at h;have:(t.place[k]? == some j)=true:=by rw[Array.getElem?_eq_getElem hk,e];simp
  simp[this] at h
 obtain⟨h1,h2,h3⟩:=below_at g.rise j;refine⟨g.lead,?_,?_⟩
 ·show (if SetTable.has t.dummies j then _ else t.dummies)=#[]
  rw[g.none];simp[SetTable.has]
 ·show (SetTable.insertAt t.place (SetTable.below t.place j) j).toList.Pairwise (· < ·);rw[SetTable.toList_insertAt,List.pairwise_append];refine⟨g.rise.sublist (List.take_sublist _ _),?_,?_⟩
  ·rw[List.pairwise_cons];refine⟨fun y hy =>?_,g.rise.sublist (List.drop_sublist _ _)⟩
   obtain⟨i,hi,e⟩:=List.mem_iff_getElem.mp hy;rw[List.length_drop,yD] at hi;have hs:SetTable.below t.place j+i<t.place.size:=by omega
   have e2:t.place[SetTable.below t.place j+i]=y:=by rw[← e,List.getElem_drop];simp
   have:=h3 _ hs (by omega)
   have:=hnot _ hs;omega
  ·intro a ha y hy;obtain⟨i,hi,e⟩:=List.mem_iff_getElem.mp ha;rw[List.length_take,yD] at hi;have ea:t.place[i]=a:=by rw[← e,List.getElem_take];simp
   have hlt:=h2 i (by omega) (by omega)
   rcases zG.mp hy with rfl|hy
   ·omega
   ·obtain⟨i2,hi2,e2⟩:=List.mem_iff_getElem.mp hy;rw[List.length_drop,yD] at hi2;have hs:SetTable.below t.place j+i2<t.place.size:=by omega
    have e3:t.place[SetTable.below t.place j+i2]=y:=by rw[← e2,List.getElem_drop];simp
    have:=h3 _ hs (by omega)
    omega
theorem stand_rise {t:SetTable}{b:Bool}(g:TGrow b t) (n:Nat):TGrow b (t.standIn n):=by
 refine⟨g.lead,rfl,?_⟩;show (Array.range n).toList.Pairwise (· < ·);rw[Array.toList_range];exact List.pairwise_lt_range
theorem slot_no_dummy {t:SetTable}{b:Bool}(g:TGrow b t) (j:Nat):t.slot j ≠ .dummy:=by
 unfold SetTable.slot;rw[g.none];simp only[SetTable.has]
 split
 ·simp
 ·simp
theorem probe_go {t:SetTable}{b:Bool}(g:TGrow b t){f:Nat→Int}{h:Int}:∀ (n:Nat) (p:SetTable.Probe),p.dummy=none→∀ j d,SetTable.probe.go t f h n p=some (.empty j d)→d=none∧t.slot j=.empty
 | 0,_,_,_,_,e=>by simp[SetTable.probe.go] at e
 | n+1,p,hp,j,d,e=>by
  unfold SetTable.probe.go at e;cases hs:t.slot p.j with
  | empty=>rw[hs] at e;simp only[Option.some.injEq,SetTable.Met.empty.injEq] at e;obtain⟨rfl,rfl⟩:=e;exact⟨hp,hs⟩
  | dummy=>exact absurd hs (slot_no_dummy g _)
  | live i=>
   rw[hs] at e;simp only at e
   split at e
   ·cases e
   ·refine probe_go g n _ ?_ j d e;unfold SetTable.advance
    split
    ·exact hp
    ·exact hp
theorem free_rise {t:SetTable}{b:Bool}(g:TGrow b t){h:Int}{j:Nat}{was:Bool}(e:t.freeSlot h=some (j,was)):t.slot j=.empty:=by
 unfold SetTable.freeSlot SetTable.probe at e
 split at e
 ·rename_i jj dd hq;obtain⟨rfl,h2⟩:=probe_go g _ _ rfl _ _ hq;simp only[Option.getD_none,Option.some.injEq,Prod.mk.injEq] at e;rw[← e.1];exact h2
 ·cases e
theorem lay_rise {t:SetTable}{b:Bool}(g:TGrow b t) (es:Array (Int×Value)) (h:Int) (x:Value):TGrow b (layNew t es h x).2.1:=by
 unfold layNew
 split
 ·rename_i j was e;show TGrow b (SetTable.orStandIn _ _);unfold SetTable.orStandIn
  split
  ·exact put_rise g (free_rise g e)
  ·exact stand_rise (put_rise g (free_rise g e)) _
 ·exact stand_rise g _
theorem laid_rise {mask fi mo:Nat}{led pl:Bool}{hs:Array Int}{t:SetTable}{o:Array Nat}(e:SetTable.laid mask fi mo led pl hs=some (t,o)):TGrow led t:=by
 unfold SetTable.laid at e;simp only[Option.bind_eq_bind,Option.bind_eq_some_iff,Option.pure_def,Option.some.injEq,Prod.mk.injEq] at e;obtain⟨ow,_,e2,_⟩:=e;rw[← e2];refine⟨rfl,rfl,?_⟩;show (((List.range (mask+1)).filterMap fun j=>(ow.getD j none).map (j,·)).map (·.1)).toArray.toList.Pairwise (· < ·)
 rw[List.toList_toArray];have key:∀ l:List Nat,((l.filterMap fun j=>(ow.getD j none).map (j,·)).map (·.1)).Sublist l:=by
  intro l
  induction l with
  | nil=>exact .slnil
  | cons a r ih=>
   rw[List.filterMap_cons];cases hq:(ow.getD a none).map (a,·) with
   | none=>exact ih.cons _
   | some q=>
    have:q.1=a:=by
     cases ho:ow.getD a none with
     | none=>rw[ho] at hq;cases hq
     | some z=>rw[ho] at hq;cases hq;rfl
    simp only[List.map_cons];rw[this];exact ih.cons_cons _
 exact List.pairwise_lt_range.sublist (key _)
theorem relay_rise {t:SetTable}{b:Bool}(g:TGrow b t) (es:Array (Int×Value)) (n:Nat):TGrow b (relayAll t es n).2.1:=by
 unfold relayAll
 split
 ·rename_i t' o e;dsimp only
  split
  ·have:=laid_rise e;rw[g.lead] at this;exact this
  ·exact stand_rise g _
 ·exact stand_rise g _
end L2
end
noncomputable section
namespace L2
open PySem PyProof.Rows
noncomputable def IntSet (prog:Program) (w:World) (h:Heap) (a:Addr) (ms:List Int):Prop:=
 ∃ o es ep t,h.get? a=some o∧o.ExactSet∧o.data=.set es ep t∧ElemsOf (intKind prog w) es.toList∧IntsAre (es.toList.map (·.2)) ms∧t.fits es.size=true
  ∧TGrow (!w.params.followText "set-order") t
theorem intsAre_perm {vs us:List Value}(p:List.Perm us vs):∀ {ns:List Int},IntsAre vs ns→∃ ms,IntsAre us ms∧ms.Perm ns:=by
 induction p with
 | nil=>intro ns h;exact⟨ns,h,.rfl⟩
 | cons x _ ih=>
  intro ns h;cases h with
  | cons n t h=>obtain⟨ms,h1,h2⟩:=ih h;exact⟨n::ms,.cons n t h1,h2.cons n⟩
 | swap x y l=>
  intro ns h;cases h with
  | cons n t h=>cases h with
   | cons n2 t2 h=>exact⟨_,.cons _ _ (.cons _ _ h),.swap _ _ _⟩
 | trans p1 p2 i1 i2=>intro ns h;obtain⟨ms,h1,h2⟩:=i2 h;obtain⟨ks,h3,h4⟩:=i1 h1;exact⟨ks,h3,h4.trans h2⟩
theorem intsAre_app {vs us:List Value}{ns ms:List Int}(h:IntsAre vs ns) (h2:IntsAre us ms):IntsAre (vs++us) (ns++ms):=by
 induction h with
 | nil=>exact h2
 | cons n t _ ih=>exact .cons n t ih
theorem intsAre_find {k:Int}:∀ {es:List (Int×Value)}{ms:List Int},IntsAre (es.map (·.2)) ms→(es.findIdx? (fun e=>Value.isInt k e.2)).isSome=decide (k∈ms)
 | [],ms,h=>by cases h;simp
 | e::r,ms,h=>by
  obtain⟨a,v⟩:=e;cases h with
  | cons n t h=>
   have ih:=intsAre_find (k:=k) h;rw[List.findIdx?_cons];by_cases e:k=n
   ·subst e;simp[Value.isInt]
   ·have hn:Value.isInt k (.int n t)=false:=by simp[Value.isInt];omega
    simp only[hn,Bool.false_eq_true,if_false,Option.isSome_map,ih,zG,e,false_or]
theorem intsAre_len {vs:List Value}{ns:List Int}(h:IntsAre vs ns):vs.length=ns.length:=by
 induction h with
 | nil=>rfl
 | cons _ _ _ ih=>simp[ih]
noncomputable section
variable {prog:Program}{w:World}{A:Around}{E:Value→Shared→Prop}{s:Shared}
theorem intSet_kept {h h2:Heap}{a:Addr}{ms:List Int}(I:IntSet prog w h a ms) (k:∀ o,h.get? a=some o→h2.get? a=some o):IntSet prog w h2 a ms:=
 let ⟨o,es,ep,t,ho,r⟩:=I;⟨o,es,ep,t,k o ho,r⟩
theorem add_tail {a:Addr}{o:Obj}{es:Array (Int×Value)}{ep:Nat}{t:SetTable}{x:Value}{k:Int}{ms:List Int}{tk:Tok}{R:Option Bool→Shared→Prop}
  (ho:s.heap.get? a=some o) (hx:o.ExactSet) (hd:o.data=.set es ep t) (hel:ElemsOf (intKind prog w) es.toList) (hi:IntsAre (es.toList.map (·.2)) ms)
  (g:TGrow (!w.params.followText "set-order") t) (ex:x=.int k tk) (hroom:ms.length+1<scanBound)
  (h:∀ h' ms',Heap.SameBut a s.heap h'→IntSet prog w h' a ms'→ms'.Perm (ms++[k])→R (some true) { s with heap:=h' })
  {gw:Bool→Sem Unit}(hgw:∀ b s1 (Q1:Unit→Shared→Prop),Q1 () s1→wpAny (model prog w) A (gw b) Q1 E s1)
  {es1:Array (Int×Value)}{t1:SetTable}{was gave:Bool}(hL:layNew t es (hashInt k) x=(es1,t1,was,gave)){t2:SetTable}(ht2:t2=t1∨t2={ t1 with plain:=false }) :
  wpAny (model prog w) A (do
   storeSet a es1 t2
   if (!was&&t2.tooFull)=true then do
    gw (relayAll t2 es1 (SetTable.grown es1.size)).2.2
    storeSet a (relayAll t2 es1 (SetTable.grown es1.size)).1 (relayAll t2 es1 (SetTable.grown es1.size)).2.1
    pure (some true)
   else pure (some true)) R E s:=by
 have hp:=layNew_perm t es (hashInt k) x;have hf:=layNew_fits t es (hashInt k) x;have g1:=lay_rise g es (hashInt k) x;rw[hL] at hp hf g1;dsimp only at hp hf g1;have hf2:t2.fits es1.size=true:=by rcases ht2 with rfl|rfl;exact hf;exact SetTable.fits_plain_off hf
 have g2:TGrow (!w.params.followText "set-order") t2:=by
  rcases ht2 with rfl|rfl
  ·exact g1
  ·exact⟨g1.lead,g1.none,g1.rise⟩
 rw[Array.toList_push] at hp;have hk:(intKind prog w).is k x=true:=by rw[ex];exact intKind_is _ _ _ _
 have hel1:ElemsOf (intKind prog w) es1.toList:=(hel.push (knd:=intKind prog w) hk (by rw[ex];rfl)).perm hp
 obtain⟨ms1,hi1,hp1⟩:∃ ms1,IntsAre (es1.toList.map (·.2)) ms1∧ms1.Perm (ms++[k]):=by refine intsAre_perm (hp.map (·.2)) ?_;rw[List.map_append];refine intsAre_app hi ?_;show IntsAre [x] [k];rw[ex];exact .cons k tk .nil
 have hz1:es1.size<scanBound:=by have q:=intsAre_len hi1;rw[zH,yD,hp1.length_eq,List.length_append] at q;simp only[zP,List.length_nil] at q;omega
 have hput:∀ (hp:Heap) (o':Obj) (e':Array (Int×Value)) (t':SetTable) (n':Nat) (en:Array (Int×Value)) (tn:SetTable),hp.get? a=some o'→o'.data=.set e' n' t' →
   (hp.update a (Obj.putSet en tn)).get? a=some { o' with data :=.set en (n'+1) tn }:=by
  intro hp o' e' t' n' en tn q qd;have z:=Heap.get?_update_self (Obj.putSet en tn) q (by rw[putSet_of en tn qd];rfl)
  rw[putSet_of en tn qd] at z;exact z
 have c1:=hput _ _ _ _ _ es1 t2 ho hd;refine zE (wpAny_storeSet_of ho hd ?_ (fits_of_scanBound hz1))
 split
 ·refine zE (hgw _ _ _ ?_);have hp2:=relayAll_perm t2 es1 (SetTable.grown es1.size);have hf3:=relayAll_fits t2 es1 (SetTable.grown es1.size);have g3:=relay_rise g2 es1 (SetTable.grown es1.size);generalize relayAll t2 es1 (SetTable.grown es1.size)=L2 at hp2 hf3 g3 ⊢;obtain⟨es2,t3,gv⟩:=L2;dsimp only at hp2 hf3 g3 ⊢;have hz2:es2.size<scanBound:=by rw[← yD,hp2.length_eq,yD];exact hz1
  obtain⟨ms2,hi2,hq2⟩:=intsAre_perm (hp2.map (·.2)) hi1;refine zE (wpAny_storeSet_of c1 rfl ?_ (fits_of_scanBound hz2));have c2:=hput _ _ _ _ _ es2 t3 c1 rfl;exact zW (h _ ms2 ((Heap.SameBut.update s.heap a _).trans (Heap.SameBut.update _ a _)) ⟨_,es2,_,t3,c2,hx,rfl,hel1.perm hp2,hi2,hf3,g3⟩ (hq2.trans hp1))
 ·exact zW (h _ ms1 (Heap.SameBut.update s.heap a _) ⟨_,es1,_,t2,c1,hx,rfl,hel1,hi1,hf2,g2⟩ hp1)
theorem set_add {a:Addr}{k:Int}{tk:Tok}{ms:List Int}{Q:Bool→Shared→Prop}(I:IntSet prog w s.heap a ms) (hroom:ms.length+1<scanBound)
  (h:∀ b h' ms',Heap.SameBut a s.heap h'→IntSet prog w h' a ms'→ms'.Perm (if k∈ms then ms else ms++[k])→Q b { s with heap:=h' }) :
  wpAny (model prog w) A (setAddHashed a (.int k tk) (hashInt k)) Q E s:=by
 obtain⟨o,es,ep,t,ho,hx,hd,hel,hi,hf,g⟩:=id I;have hz:es.size<scanBound:=by have q:=intsAre_len hi;rw[zH,yD] at q;omega
 unfold setAddHashed setAddHashedIn;refine wpAny_holding (zE (wpAny_setState_of ho hd hf ?_));dsimp only;rw[byScan_of (knd:=intKind prog w) (x :=.int k tk) rfl hz hel,if_pos rfl];unfold setAddByScan;refine zE (zE (wpAny_rule (zE (wpAny_setScan_of (knd:=intKind prog w) (k:=k) (intKind_is _ _ _ _) ho hd hf hel ?_))));have hfi:=intsAre_find (k:=k) hi;have hkd:(fun e:Int×Value=>(intKind prog w).is k e.2)=fun e=>Value.isInt k e.2:=rfl
 rw[hkd];cases hr:List.findIdx? (fun e:Int×Value=>Value.isInt k e.2) es.toList with
 | some j=>
  rw[hr] at hfi;have hm:k∈ms:=by simpa using hfi
  dsimp only;refine zW (zW ?_);have q:=h false s.heap ms (Heap.SameBut.refl a s.heap) I (by rw[if_pos hm])
  have es':({ s with heap:=s.heap }:Shared)=s:=by cases s;rfl
  rw[es'] at q;exact q
 | none=>
  rw[hr] at hfi;have hm:k∉ms:=by simpa using hfi
  rw[if_neg hm] at h;dsimp only;generalize hL:layNew t es (hashInt k) (.int k tk)=L;obtain⟨es1,t1,was,gave⟩:=L;dsimp only;have done:∀ h' ms',Heap.SameBut a s.heap h'→IntSet prog w h' a ms'→ms'.Perm (ms++[k])→wpAny (model prog w) A (pure true) Q E { s with heap:=h' }:=
   fun h' ms' a b c=>zW (h true h' ms' a b c)
  have tail:=fun bv:Bool=>add_tail (A:=A) (E:=E) (k:=k) (tk:=tk) (gw:=fun b=>match b with|true=>rule "set.scan.the-table-gave-way"|false=>pure ()) ho hx hd hel hi g rfl hroom
   (R:=fun r s'=>wpAny (model prog w) A (match r with|some added=>pure added|none=>setAddHashedIn a (.int k tk) (hashInt k) 99999) Q E s') done
   (fun b s1 Q1 q=>by cases b<;>first|exact zW q|exact wpAny_rule q) hL (t2:=if bv then t1 else { t1 with plain:=false }) (by cases bv;exact .inr rfl;exact .inl rfl)
  have go:wpAny (model prog w) A (if t1.plain=true then hashByValue 8 (.int k tk) >>= fun bv=>(do
    storeSet a es1 (if bv=true then t1 else { t1 with plain:=false })
    if (!was&&(if bv=true then t1 else { t1 with plain:=false }).tooFull)=true then do
     (match (relayAll (if bv=true then t1 else { t1 with plain:=false }) es1 (SetTable.grown es1.size)).2.2 with|true=>rule "set.scan.the-table-gave-way"|false=>pure ())
     storeSet a (relayAll (if bv=true then t1 else { t1 with plain:=false }) es1 (SetTable.grown es1.size)).1 (relayAll (if bv=true then t1 else { t1 with plain:=false }) es1 (SetTable.grown es1.size)).2.1
     pure (some true)
    else pure (some true))
   else pure true >>= fun bv=>(do
    storeSet a es1 (if bv=true then t1 else { t1 with plain:=false })
    if (!was&&(if bv=true then t1 else { t1 with plain:=false }).tooFull)=true then do
     (match (relayAll (if bv=true then t1 else { t1 with plain:=false }) es1 (SetTable.grown es1.size)).2.2 with|true=>rule "set.scan.the-table-gave-way"|false=>pure ())
     storeSet a (relayAll (if bv=true then t1 else { t1 with plain:=false }) es1 (SetTable.grown es1.size)).1 (relayAll (if bv=true then t1 else { t1 with plain:=false }) es1 (SetTable.grown es1.size)).2.1
     pure (some true)
    else pure (some true))) (fun r s'=>wpAny (model prog w) A (match r with|some added=>pure added|none=>setAddHashedIn a (.int k tk) (hashInt k) 99999) Q E s') E s:=by
   split
   ·exact zE (zW (tail _))
   ·exact zE (zW (tail _))
  refine zE ?_;cases gave
  ·exact zW go
  ·exact wpAny_rule go
end
end L2
end
noncomputable section
namespace L2
open PySem PyProof.Rows PySem.Spec
noncomputable def firsts (ns:List Int):List Int:=ns.foldl (fun ms k=>if k∈ms then ms else ms++[k]) []
theorem firsts_snoc (ns:List Int) (k:Int):firsts (ns++[k])=if k∈firsts ns then firsts ns else firsts ns++[k]:=by
 unfold firsts;rw[List.foldl_append];rfl
theorem firsts_len (ns:List Int):(firsts ns).length≤ns.length:=by
 have key:∀ (l ms:List Int),(l.foldl (fun ms k=>if k∈ms then ms else ms++[k]) ms).length≤ms.length+l.length:=by
  intro l
  induction l with
  | nil=>intro ms;simp
  | cons a r ih=>
   intro ms;rw[List.foldl_cons];have:=ih (if a∈ms then ms else ms++[a])
   by_cases q:a∈ms
   ·rw[if_pos q] at this ⊢;simp only[zP];omega
   ·rw[if_neg q] at this ⊢;simp only[zP,List.length_append,List.length_nil] at this ⊢;omega
 have:=key ns [];simpa [firsts] using this
noncomputable section
variable {prog:Program}{w:World}{A:Around}{R:Result→Shared→Prop}{I:Addr}{fp wr:List Addr}{G:Array GenState→Array GenState→Prop}{P:Nat→Value→Prop}{St:Nat→Shared→Prop}
theorem fill_loop (ns:List Int) (W:WalksS prog w A.in1 I fp wr G ns.length P St) (S:Addr) (hS:S∉fp)
  (hv:∀ i v,P i v→∃ t,v=.int (ns.getD i 0) t) (hb:ns.length+1<scanBound) :
  ∀ (d i:Nat) (ms:List Int) (s:Shared),ns.length-i=d→i≤ns.length→St i s→IntSet prog w s.heap S ms→ms.Perm (firsts (ns.take i)) →
   (∀ s' ms',Moved (S::wr) G s s'→IntSet prog w s'.heap S ms'→ms'.Perm (firsts ns)→R (.ok (.ret .none)) s') →
   codeAny (model prog w) A (.builtin "set.update.loop" ⟨[.ref S,.ref I],[]⟩) R s:=by
 have hw:S∉wr:=fun z=>hS (W.sub _ z)
 have hs:∀ b∈wr,b∈S::wr:=fun b z =>.tail _ z
 intro d
 induction d with
 | zero=>
  intro i ms s hd hi st hm hp hR;have e:i=ns.length:=by omega
  subst e;refine codeAny_builtin F.entry_set_update_loop ?_;rw[Around.under_plainId F.plain_set_update_loop _];refine zE (W.done s _ _ st fun s' mv =>?_)
  refine zW (hR s' ms (mv.mono hs) (intSet_kept hm fun o q=>mv.heap S _ hw q) ?_)
  rw[List.take_length] at hp;exact hp
 | succ d ih=>
  intro i ms s hd hi st hm hp hR;have hlt:i<ns.length:=by omega
  refine codeAny_builtin F.entry_set_update_loop ?_;rw[Around.under_plainId F.plain_set_update_loop _];refine zE (W.item i s _ _ hlt st fun v s' hP st' mv =>?_)
  obtain⟨t,rfl⟩:=hv i v hP;have hm':IntSet prog w s'.heap S ms:=intSet_kept hm fun o q=>mv.heap S _ hw q
  refine zE (wpAny_holding ?_);unfold setAdd;refine wpAny_holding (zE ((intKind prog w).pyHash (k:=ns.getD i 0) (intKind_is _ _ _ _) ?_));have hl:ms.length+1<scanBound:=by have q:=firsts_len (ns.take i);rw[← hp.length_eq,List.length_take] at q;omega
  refine set_add (s:={ s' with toks:=s'.toks+1 }) hm' hl fun b h' ms' sb hm2 hp2 =>?_
  have e2:ns.take (i+1)=ns.take i++[ns.getD i 0]:=by
   rw[List.take_succ_eq_append_getElem hlt]
   congr 2
   simp[List.getD,hlt]
  have hp3:ms'.Perm (firsts (ns.take (i+1))):=by
   rw[e2,firsts_snoc];refine hp2.trans ?_;have hmem:ns.getD i 0∈ms↔ns.getD i 0∈firsts (ns.take i):=hp.mem_iff;by_cases q:ns.getD i 0∈ms
   ·rw[if_pos q,if_pos (hmem.mp q)];exact hp
   ·rw[if_neg q,if_neg (fun z=>q (hmem.mpr z))];exact hp.append_right _
  refine zW ⟨plainId_quiet F.plain_set_update_loop _,ih (i+1) ms' _ (by omega) hlt (W.frame _ s' _ _ st' (Nat.le_succ _) fun c hc o q =>?_) hm2 hp3 fun s2 ms2 mv2 hm3 hp4 =>?_⟩
  ·rw[sb.2 c (fun z:c=S=>hS (z ▸ hc))];exact q
  ·refine hR s2 ms2 (Moved.trans W.gtrans ((mv.mono hs).then_heap (Nat.le_succ _) fun c o hc q =>?_) mv2) hm3 hp4
   rw[sb.2 c (fun z:c=S=>hc (z ▸ zD))];exact q
end
noncomputable section
variable {prog:Program}{w:World}{A:Around}{E:Value→Shared→Prop}{s:Shared}
noncomputable def freshSet (w:World):Obj:={ cls :=.type "set",dict:=none,data :=.set #[] 0 (.fresh 0 0 (!w.params.followText "set-order")) }
theorem intSet_fresh {h:Heap}:IntSet prog w (h.push (freshSet w)) h.objs.size []:=
 ⟨freshSet w,#[],0,_,zV _ rfl,⟨rfl,rfl,rfl⟩,rfl,fun e he=>by simp at he,.nil,by rfl,⟨rfl,rfl,by simp[SetTable.fresh]⟩⟩
theorem set_new (a:Value){Q:Value→Shared→Prop}(h:Q (.ref s.heap.objs.size) { s with heap:=s.heap.push (freshSet w) }) :
  codeAny (model prog w) A (.call (.builtin "set.__new__") ⟨[.type "set",a],[]⟩) (wants Q E) s:=by
 refine codeAny_of_tree ?_;show wpAny _ A.in1 (checkBuiltinCall "set.__new__" ⟨[.type "set",a],[]⟩ >>= fun _=>again (.builtin "set.__new__" ⟨[.type "set",a],[]⟩)) _ _ s
 refine zE (wpAny_of_eq (PySem.F.newCall_set_1 a) (zW ⟨plainId_quiet PySem.F.plain_set_new _,codeAny_builtin PySem.F.entry_set_new ?_⟩));rw[Around.under_plainId PySem.F.plain_set_new _];unfold Builtin.«set.__new__» Builtin.Frozenset.newClass;have hsub:=sub_set_self;obtain⟨hp,g,d,tk,os⟩:=s;dsimp only
 wp_walk
 refine wpAny_askSetting (zW ?_);dsimp only;simp only[newObj];exact zE (wpAny_alloc (zW (zW h)))
set_option maxHeartbeats 3200000 in
theorem set_call {l:Addr}{xs:Array Value}{ns:List Int}{Q:Value→Shared→Prop}(hh:A.handled=none) (hl:s.heap.IsList l xs) (hi:IntsAre xs.toList ns) (hb:ns.length+1<scanBound)
  (h:∀ h' tk ms,IntSet prog w h' s.heap.objs.size ms→ms.Perm (firsts ns)→(∀ b o,s.heap.get? b=some o→h'.get? b=some o)→Q (.ref s.heap.objs.size) { s with heap:=h',toks:=tk }) :
  wpAny (model prog w) A (call (.type "set") [.ref l]) Q E s:=by
 obtain⟨c,tl,hmro⟩:=PySem.F.called_set.mro;have hmade:=PySem.F.called_set.made;have hsub:=PySem.F.called_set.sub;refine wpAny_call (codeAny_of_tree ?_);show wpAny _ _ (callAny (.type "set") _) _ _ _;refine zW ⟨Code.quiet_builtin _ (by decide +kernel),codeAny_builtin PySem.F.entry_type_call ?_⟩
 rw[Around.under_plain (weight_type_call_type "set" [.ref l] []) rfl];have nt:=PySem.F.called_set.notType;have cc:=PySem.F.called_set.canCreate;have ct:=PySem.F.typeCall_set_1 (.ref l)
 repeat (any_goals (first|assumption|wp_step))
 refine codeAny_mono (set_new (.ref l) (E:=E) (Q:=fun obj s1=>obj=.ref s.heap.objs.size∧s1={ s with heap:=s.heap.push (freshSet w) }) ⟨rfl,rfl⟩) fun r s1 hr =>?_
 cases r with
 | error e=>exact hr
 | ok fl=>
  cases fl with
  | ret obj=>
   obtain⟨rfl,rfl⟩:=hr;have hg:(s.heap.push (freshSet w)).get? s.heap.objs.size=some (freshSet w):=zV _ rfl;have hT:Shared.TypeIs { s with heap:=s.heap.push (freshSet w) } (.ref s.heap.objs.size) "set" :=⟨_,hg,rfl⟩;have li:=PySem.F.called_set.init.lookup;have bi:=PySem.F.called_set.init.bind (.ref s.heap.objs.size)
   repeat (any_goals (first|assumption|wp_step))
   refine codeAny_mono (codeAny_call_builtin (R:=wants (fun r s2=>r=.none∧∃ h' tk ms,s2={ s with heap:=h',toks:=tk }∧IntSet prog w h' s.heap.objs.size ms∧ms.Perm (firsts ns) ∧
    (∀ b o,s.heap.get? b=some o→h'.get? b=some o)) E) PySem.F.called_set.init.plain PySem.F.entry_set_init (check_set_init_1 hT ?_)) fun r2 s2 hr2 =>?_
   ·obtain⟨ol,hol,hcl,nl,hdl⟩:=hl;obtain⟨ocls,odict,odata,oslots⟩:=ol;simp only at hcl hdl;subst hcl;subst hdl;have hol2:=zF (freshSet w) hol;have s1:=PySem.F.sub_list_set;have s2:=PySem.F.sub_list_frozenset;have s3:(Value.type "list" == Value.type "dict")=false:=by decide
    have hl1:(s.heap.push (freshSet w)).IsList l xs:=⟨_,hol2,rfl,nl,rfl⟩;have hls:l<s.heap.objs.size:=zJ hol;have hne:l≠(s.heap.push (freshSet w)).objs.size:=by rw[Heap.size_push];exact zR (Nat.lt_succ_of_lt hls)
    unfold Builtin.«set.__init__» noKeywords Builtin.Frozenset.updateFrom;generalize hPI:pyIter=PI
    wp_walk
    subst hPI;refine wpAny_pyIter_list hl1 (zE (wpAny_runValue ?_));have h3:A.in1.in1.in1.handled=none:=by simp[hh]
    have hlen:xs.size=ns.length:=by rw[← yD];exact intsAre_len hi
    have W:=(Walks.list h3 (s.heap.push (freshSet w)).objs.size l hne xs).toS (prog:=prog) (w:=w);rw[hlen] at W;refine fill_loop ns W s.heap.objs.size ?_ (fun i v hv=>IntsAre.int_at hi i v (by rw[Array.getElem?_toList];exact hv)) hb (ns.length-0) 0 [] _ rfl (Nat.zero_le _)
     ⟨⟨_,zV _ rfl,rfl,rfl⟩,hl1.push _⟩ (intSet_kept intSet_fresh fun o q=>zF _ q) (by rw[List.take_zero];exact .rfl) ?_
    ·rw[Heap.size_push];simp only[zG,List.not_mem_nil,or_false,not_or];exact⟨zR (Nat.lt_succ_self _),Nat.ne_of_gt hls⟩
    ·intro s' ms mv hm hp;obtain⟨h',g',d',tk',os'⟩:=s';have e1:g'=s.gens:=mv.gens;have e2:d'=s.drawn:=mv.drawn;have e3:os'=s.os:=mv.os;subst e1;subst e2;subst e3;show wpAny _ _ _ _ _ _;refine zW ?_;show wpAny _ _ (ret Value.none) _ _ _;refine zW ⟨rfl,h',tk',ms,rfl,hm,hp,fun b o q =>?_⟩
     have hb:=zJ q;refine mv.heap b o ?_ (zF _ (zF _ q));rw[Heap.size_push];simp only[zG,List.not_mem_nil,or_false,not_or];exact⟨zR hb,zR (Nat.lt_succ_of_lt hb)⟩
   ·cases r2 with
    | error e=>exact hr2
    | ok fl2=>
     cases fl2 with
     | ret r=>
      obtain⟨rfl,h',tk,ms,rfl,hm,hp,hk⟩:=hr2
      repeat (any_goals (first|assumption|wp_step))
      exact h _ _ _ hm hp hk
     | _=>exact hr2.elim
  | _=>exact hr.elim
end
end L2
end
noncomputable section
namespace L2
open PySem PyProof.Rows PySem.Spec
theorem si_own:Manifest.owners.lookup (String.ofList ['r','o','t','a','r','e','t','i','_','t','e','s'].reverse)=some Manifest.sig_set_iterator:=by kernel_rfl
theorem si_next:Slot "set_iterator" "__next__" "set_iterator.__next__":=
 .of (owner:= "set_iterator") (n:= "__next__") (by rw[typeLookup_type,builtinLookup_eq_fast];kernel_rfl) (by decide +kernel) (by decide +kernel)
  (by decide +kernel) (by first|exact .inl (by decide +kernel)|exact .inr (by decide +kernel)) (by rw[isSubtype_type];kernel_rfl)
theorem si_iter:Slot "set_iterator" "__iter__" "set_iterator.__iter__":=
 .of (owner:= "set_iterator") (n:= "__iter__") (by rw[typeLookup_type,builtinLookup_eq_fast];kernel_rfl) (by decide +kernel) (by decide +kernel)
  (by decide +kernel) (by first|exact .inl (by decide +kernel)|exact .inr (by decide +kernel)) (by rw[isSubtype_type];kernel_rfl)
theorem si_next_e:entryFor table "set_iterator.__next__" = some Builtin.«set_iterator.__next__» :=entryFor_of_tree (by kernel_rfl)
theorem si_iter_e:entryFor table "set_iterator.__iter__" = some Builtin.«dict_keyiterator.__iter__»:=
 entryFor_alias (id':= "dict_keyiterator.__iter__") (by kernel_rfl) rfl (by decide +kernel) (by kernel_rfl)
theorem s_iter_e:entryFor table "set.__iter__" = some Builtin.«frozenset.__iter__»:=
 entryFor_alias (id':= "frozenset.__iter__") (by kernel_rfl) rfl (by decide +kernel) (by kernel_rfl)
theorem si_next_a (a:Value):argsOk "set_iterator.__next__" ⟨[a],[]⟩:=by
 unfold argsOk;rw[signature?_of (id:= "set_iterator.__next__") (n:=['_','_','t','x','e','n','_','_']) (o:=['r','o','t','a','r','e','t','i','_','t','e','s']) (by kernel_rfl) si_own]
 kernel_rfl
theorem si_iter_a (a:Value):argsOk "set_iterator.__iter__" ⟨[a],[]⟩:=by
 unfold argsOk;rw[signature?_of (id:= "set_iterator.__iter__") (n:=['_','_','r','e','t','i','_','_']) (o:=['r','o','t','a','r','e','t','i','_','t','e','s']) (by kernel_rfl) si_own]
 kernel_rfl
noncomputable section
variable {prog:Program}{w:World}{A:Around}{E:Value→Shared→Prop}{s:Shared}{a:Addr}{o:Obj}{es:Array (Int×Value)}{ep:Nat}{t:SetTable}
theorem byText_of {Q:Bool→Shared→Prop}(h:Q (w.params.followText "set-order") s):wpAny (model prog w) A setsByText Q E s:=
 zE (wpAny_askSetting (zW h))
theorem next_text {sl i:Nat}{Q:Option (Value×Nat)→Shared→Prop}(ho:s.heap.get? a=some o) (hd:o.data=.set es ep t) (hf:t.fits es.size=true)
  (hb:w.params.followText "set-order" = true) (h:Q (((pickOrder (w.params.setOrder a ep) es)[i]?).map fun e=>(e.2,sl)) s):wpAny (model prog w) A (setNext a sl i ep) Q E s:=by
 unfold setNext;refine zE (wpAny_setState_of ho hd hf ?_);refine zE (byText_of ?_);rw[hb,if_pos rfl,if_neg (by simp)]
 refine zE ?_;unfold setWalk;refine zE (wpAny_setState_of ho hd hf ?_);refine zE (byText_of ?_);rw[hb,if_pos rfl];refine zE (wpAny_askSetting (zW ?_));exact zW h
theorem next_led {sl i:Nat}{Q:Option (Value×Nat)→Shared→Prop}(ho:s.heap.get? a=some o) (hd:o.data=.set es ep t) (hf:t.fits es.size=true)
  (hb:w.params.followText "set-order" = false) (hn:(!t.plain&&decide (es.size > 1))=false) (hl:t.led=true)
  (h:Q (match es[SetTable.below t.place sl]?,t.place[SetTable.below t.place sl]? with|some (_,x),some j=>some (x,j+1)|_,_=>none) s):wpAny (model prog w) A (setNext a sl i ep) Q E s:=by
 unfold setNext;refine zE (wpAny_setState_of ho hd hf ?_);refine zE (byText_of ?_);rw[hb,if_neg (by simp)]
 refine wpAny_ite_split (fun z =>?_) fun _ =>?_
 ·have z':(!t.plain&&decide (es.size > 1))=true:=z;rw[hn] at z';cases z'
 ·refine zE ?_;show wpAny _ _ (if !t.led && !es.isEmpty then unsupported "set:maker-not-led" else pure ()) _ _ _
  rw[hl];exact zW (zW h)
noncomputable def SetIt (w : World) (I a T : Addr) (es : Array (Int × Value)) (ep : Nat) (t : SetTable) (vs : List Value) (i : Nat) (h : Heap) : Prop :=
  ∃ first oi os, h.get? I = some oi ∧ oi.cls = .type "set_iterator" ∧ oi.data = .fields #[first, .int i 0, .ref a, .int es.size 0, .int ep 0] ∧
    h.get? a = some os ∧ os.data = .set es ep t ∧
    ((w.params.followText "set-order" = true ∧ (∃ sl : Nat, first = .int sl 0) ∧ vs = (pickOrder (w.params.setOrder a ep) es).toList.map (·.2)) ∨
     (w.params.followText "set-order" = false ∧ (!t.plain && decide (es.size > 1)) = false ∧ t.led = true ∧ (∃ sl : Nat, first = .int sl 0 ∧ SetTable.below t.place sl = i) ∧ vs = es.toList.map (·.2)) ∨
     (first = .ref T ∧ ∃ ps : List Nat, h.IsTuple T (ps.map fun n : Nat => Value.int n 0).toArray ∧ (∀ n ∈ ps, n < es.size) ∧ vs = ps.map fun n => ((es[n]?).map (·.2)).getD .none))
end
end L2
end
noncomputable section
namespace L2
open PySem PyProof.Rows PySem.Spec
noncomputable section
variable {prog:Program}{w:World}{A:Around}{E:Value→Shared→Prop}{s:Shared}{I a T:Addr}{es:Array (Int×Value)}{ep:Nat}{t:SetTable}{vs:List Value}{i:Nat}
theorem SetIt.typeIs (x:SetIt w I a T es ep t vs i s.heap):s.TypeIs (.ref I) "set_iterator":=
 let ⟨_,oi,_,h1,h2,_⟩:=x;⟨oi,h1,h2⟩
theorem it_moved {h:Heap}{oi:Obj}{f x y z u f':Value}{j:Value}(h1:h.get? I=some oi) (h2:oi.cls=.type "set_iterator") (h3:oi.data=.fields #[f,x,y,z,u]) :
  ∃ o2,(h.update I (Obj.mapFields (·.setIfInBounds 1 j))).get? I=some o2∧o2.cls=.type "set_iterator" ∧o2.data=.fields #[f,j,y,z,u]:=
 ⟨_,Heap.get?_update_self _ h1 (Obj.isFreed_of_fields (Obj.data_mapFields h3 _)),(Obj.cls_mapFields ..).trans h2,by rw[Obj.data_mapFields h3];simp⟩
theorem it_moved0 {h:Heap}{oi:Obj}{f x y z u:Value}{j:Value}(h1:h.get? I=some oi) (h2:oi.cls=.type "set_iterator") (h3:oi.data=.fields #[f,x,y,z,u]) :
  ∃ o2,(h.update I (Obj.mapFields (·.setIfInBounds 0 j))).get? I=some o2∧o2.cls=.type "set_iterator" ∧o2.data=.fields #[j,x,y,z,u]:=
 ⟨_,Heap.get?_update_self _ h1 (Obj.isFreed_of_fields (Obj.data_mapFields h3 _)),(Obj.cls_mapFields ..).trans h2,by rw[Obj.data_mapFields h3];simp⟩
theorem set_item {Q:Option Value→Shared→Prop}{v:Value}(x:SetIt w I a T es ep t vs i s.heap) (hf:t.fits es.size=true) (hr:t.place.toList.Pairwise (· < ·)) (ha:a≠I) (hT:T≠I) (hv:vs[i]?=some v)
  (hQ:∀ h',SetIt w I a T es ep t vs (i+1) h'→(∀ b o,b≠I→s.heap.get? b=some o→h'.get? b=some o)→Q (some v) { s with heap:=h' }) :
  wpAny (model prog w) A (pyNext (.ref I)) Q E s:=by
 have hty:=x.typeIs;obtain⟨f,oi,os,h1,h2,h3,h4,h5,hm⟩:=x;unfold pyNext;refine zE (wpAny_attempt (wpAny_callSpecial?_slot (name:=Str.ofString "__next__") hty si_next (wpAny_call_entry si_next hty si_next_e ?_ (si_next_a _))));refine zE (zW ?_);refine zE (wpAny_fieldsOf h1 h3 ?_);show wpAny _ _ (setEntries a >>= _) _ _ _;refine zE (wpAny_setEntries_of h4 h5 hf ?_);rw[if_neg (by simp)]
 have hi:i<vs.length:=(zC.mp hv).1;have other:∀ (h:Heap) (b:Addr) (o:Obj) (g:Obj→Obj),b≠I→h.get? b=some o→(h.update I g).get? b=some o:=fun h b o g hb q=>(Heap.get?_update_other _ _ (Ne.symm hb)).trans q
 have ci:((i:Int)+1)=((i+1:Nat):Int):=by omega
 have two:∀ nx:Nat,(∀ h' oi',h'.get? I=some oi'→oi'.cls=.type "set_iterator" →oi'.data=.fields #[.int nx 0,.int (i+1:Nat) 0,.ref a,.int es.size 0,.int ep 0]→h'.get? a=some os →
   SetIt w I a T es ep t vs (i+1) h')→(f=.int 0 0∨True) →
   wpAny (model prog w) A.in1 (do setField (.ref I) 0 (rawInt nx);setField (.ref I) 1 (rawInt ((i:Int)+1));ret v)
    (fun fin s'=>∃ v,fin=Fin.done (Flow.ret v)∧wpAny (model prog w) A (pure (some v)) Q E s') (fun e s'=>wpAny (model prog w) A (isInstance e (Value.type "StopIteration") >>= fun b=>if b=true then pure none else throw e) Q E s') s:=by
  intro nx hx _;obtain⟨o2,k1,k2,k3⟩:=it_moved0 (j:=rawInt nx) h1 h2 h3;refine zE (wpAny_setField h1 h3 (by simp) (zE (wpAny_setField k1 k3 (by simp) ?_)))
  obtain⟨o3,l1,l2,l3⟩:=it_moved (f' :=.none) (j:=rawInt ((i:Int)+1)) k1 k2 k3;refine zW ⟨_,rfl,zW (hQ _ (hx _ o3 l1 l2 ?_ (other _ _ _ _ ha (other _ _ _ _ ha h4))) fun b o hb q=>other _ _ _ _ hb (other _ _ _ _ hb q))⟩
  rw[l3,ci]
  rfl
 rcases hm with ⟨c1,⟨sl,rfl⟩,c3⟩|⟨c1,c2,c3,⟨sl,rfl,c4⟩,c5⟩|⟨rfl,ps,c1,c2,c3⟩
 ·refine zE (next_text (sl:=sl) (i:=i) h4 h5 hf c1 ?_);obtain⟨e,he,rfl⟩:∃ e,(pickOrder (w.params.setOrder a ep) es)[i]?=some e∧e.2=v:=by
   rw[c3,zM,Array.getElem?_toList] at hv;cases q:(pickOrder (w.params.setOrder a ep) es)[i]? with
   | none=>rw[q] at hv;cases hv
   | some e=>rw[q] at hv;cases hv;exact⟨e,rfl,rfl⟩
  rw[Int.toNat_natCast,he];exact two sl (fun h' oi' q1 q2 q3 q4=>⟨_,oi',os,q1,q2,q3,q4,h5,.inl ⟨c1,⟨sl,rfl⟩,c3⟩⟩) (.inr trivial)
 ·refine zE (next_led (sl:=sl) (i:=i) h4 h5 hf c1 c2 c3 ?_);obtain⟨e,he,rfl⟩:∃ e,es[i]?=some e∧e.2=v:=by
   rw[c5,zM,Array.getElem?_toList] at hv;cases q:es[i]? with
   | none=>rw[q] at hv;cases hv
   | some e=>rw[q] at hv;cases hv;exact⟨e,rfl,rfl⟩
  have hlt:i<t.place.size:=by
   have z:t.place.size=es.size:=by simp only[SetTable.fits,Bool.and_eq_true,beq_iff_eq] at hf;exact hf.1
   rw[z];exact(Array.getElem?_eq_some_iff.mp he).1
  rw[c4,he,Array.getElem?_eq_getElem hlt];exact two (t.place[i]+1) (fun h' oi' q1 q2 q3 q4=>⟨_,oi',os,q1,q2,q3,q4,h5,.inr (.inl ⟨c1,c2,c3,⟨_,rfl,below_next hr hlt⟩,c5⟩)⟩) (.inr trivial)
 ·obtain⟨ot,t1,t2,nt,t3⟩:=c1;refine zE (wpAny_seqItems t1 t3 ?_);obtain⟨n,hn,hv2⟩:∃ n,ps[i]?=some n∧((es[n]?).map (·.2)).getD .none=v:=by
   rw[c3,zM] at hv;cases q:ps[i]? with
   | none=>rw[q] at hv;cases hv
   | some n=>rw[q] at hv;cases hv;exact⟨n,rfl,rfl⟩
  have hne:=c2 n (zX hn);have hen:es[n]?=some es[n]:=Array.getElem?_eq_getElem hne;rw[hen] at hv2;have hp:(ps.map fun n:Nat=>Value.int n 0).toArray[i]?=some (.int n 0):=by rw[List.getElem?_toArray,zM,hn];rfl
  simp only[Int.toNat_natCast,hp];refine zE ?_;unfold setNextDrawn;refine zE (wpAny_setState_of h4 h5 hf ?_);dsimp only;rw[if_neg (by simp)]
  simp only[hen];refine zW (zE (wpAny_setField h1 h3 (by simp) ?_))
  obtain⟨o3,l1,l2,l3⟩:=it_moved (f' :=.none) (j:=rawInt ((i:Int)+1)) h1 h2 h3;have hv3:es[n].2=v:=hv2;rw[hv3];refine zW ⟨_,rfl,zW (hQ _ ⟨_,o3,os,l1,l2,?_,other _ _ _ _ ha h4,h5,.inr (.inr ⟨rfl,ps,⟨ot,other _ _ _ _ hT t1,t2,nt,t3⟩,c2,c3⟩)⟩ fun b o hb q=>other _ _ _ _ hb q)⟩
  rw[l3,ci]
  rfl
theorem set_end {Q:Option Value→Shared→Prop}(hh:A.handled=none) (x:SetIt w I a T es ep t vs i s.heap) (hf:t.fits es.size=true) (hv:vs[i]?=none) (hl:vs.length=es.size)
  (hQ:∀ h',(∀ b o,b≠I→s.heap.get? b=some o→h'.get? b=some o)→Q none { s with heap:=h' }) :
  wpAny (model prog w) A (pyNext (.ref I)) Q E s:=by
 have hty:=x.typeIs;obtain⟨f,oi,os,h1,h2,h3,h4,h5,hm⟩:=x;have hi:vs.length≤i:=List.getElem?_eq_none_iff.mp hv;have other:∀ (h:Heap) (b:Addr) (o:Obj) (g:Obj→Obj),b≠I→h.get? b=some o→(h.update I g).get? b=some o:=fun h b o g hb q=>(Heap.get?_update_other _ _ (Ne.symm hb)).trans q
 have stop:∀ s1:Shared,(∀ b o,b≠I→s.heap.get? b=some o→s1.heap.get? b=some o)→s1={ s with heap:=s1.heap } →
   wpAny (model prog w) A.in1 (newExc (Value.type "StopIteration") [] >>= fun e=>(raiseNew e:Sem Fin))
    (fun fin s'=>∃ v,fin=Fin.done (Flow.ret v)∧wpAny (model prog w) A (pure (some v)) Q E s') (fun e s'=>wpAny (model prog w) A (isInstance e (Value.type "StopIteration") >>= fun b=>if b=true then pure none else throw e) Q E s') s1:=by
  intro s1 hk es1;rw[es1];refine zE ?_;simp only[newExc,newTuple];refine zE (wpAny_newObj_type ?_ (by size_fits))
  refine zE (m:=firstArgMember _ _) (wpAny_of_eq (a:=Value.none) (by first|rfl|(simp only[firstArgMember];rfl)) ?_)
  refine wpAny_newObj_type ?_ (by size_fits)
  simp only[raiseNew];refine zE (wpAny_handled ?_);rw[show A.in1.handled=none from hh]
  refine zE (zW (wpAny_throw ?_));refine zE (wpAny_isInstance (T:= "StopIteration") (b:=true) ⟨_,zV _ rfl,rfl⟩ isSubtype_stop ?_);exact zW (hQ _ fun b o hb q=>zF _ (zF _ (hk b o hb q)))
 unfold pyNext;refine zE (wpAny_attempt (wpAny_callSpecial?_slot (name:=Str.ofString "__next__") hty si_next (wpAny_call_entry si_next hty si_next_e ?_ (si_next_a _))));refine zE (zW ?_);refine zE (wpAny_fieldsOf h1 h3 ?_);show wpAny _ _ (setEntries a >>= _) _ _ _;refine zE (wpAny_setEntries_of h4 h5 hf ?_);rw[if_neg (by simp)]
 rcases hm with ⟨c1,⟨sl,rfl⟩,c3⟩|⟨c1,c2,c3,⟨sl,rfl,c4⟩,c5⟩|⟨rfl,ps,c1,c2,c3⟩
 ·refine zE (next_text (sl:=sl) (i:=i) h4 h5 hf c1 ?_);have he:(pickOrder (w.params.setOrder a ep) es)[i]?=none:=by rw[c3,zH,yD] at hi;exact Array.getElem?_eq_none hi
  rw[Int.toNat_natCast,he];refine zE (wpAny_setField h1 h3 (by simp) (stop _ (fun b o hb q=>other _ _ _ _ hb q) rfl))
 ·refine zE (next_led (sl:=sl) (i:=i) h4 h5 hf c1 c2 c3 ?_);have he:es[i]?=none:=Array.getElem?_eq_none (by omega)
  rw[c4,he];refine zE (wpAny_setField h1 h3 (by simp) (stop _ (fun b o hb q=>other _ _ _ _ hb q) rfl))
 ·obtain⟨ot,t1,t2,nt,t3⟩:=c1;refine zE (wpAny_seqItems t1 t3 ?_);have hp:(ps.map fun n:Nat=>Value.int n 0).toArray[i]?=none:=by rw[c3,zH] at hi;exact Array.getElem?_eq_none (by simpa using hi)
  simp only[Int.toNat_natCast,hp];obtain⟨o2,k1,k2,k3⟩:=it_moved0 (j:=rawInt 0) h1 h2 h3;refine zE (wpAny_setField h1 h3 (by simp) (zE (wpAny_setField k1 k3 (by simp) (stop _ (fun b o hb q=>other _ _ _ _ hb (other _ _ _ _ hb q)) rfl))))
theorem set_walks (hh:A.handled=none) (ha:a≠I) (hT:T≠I) (hf:t.fits es.size=true) (hr:t.place.toList.Pairwise (· < ·)) (hl:vs.length=es.size) :
  Walks prog w A I [I,a,T] [I] vs.length (fun i v=>vs[i]?=some v) (SetIt w I a T es ep t vs) where
 sub:=fun b hb=>by simp at hb;simp[hb]
 frame:=fun i h h' st hk=>by
  obtain⟨f,oi,os,h1,h2,h3,h4,h5,hm⟩:=st;refine⟨f,oi,os,hk I (by simp) _ h1,h2,h3,hk a (by simp) _ h4,h5,?_⟩
  rcases hm with z|z|⟨z1,ps,⟨ot,z2,z3⟩,z4⟩
  ·exact .inl z
  ·exact .inr (.inl z)
  ·exact .inr (.inr ⟨z1,ps,⟨ot,hk T (by simp) _ z2,z3⟩,z4⟩)
 item:=fun i s Q E hi st hQ=>set_item st hf hr ha hT (zI hi) fun h' x k=>hQ _ h' s.toks (zI hi) x fun b o hb q=>k b o (by simpa using hb) q
 done:=fun s Q E st hQ=>set_end hh st hf (List.getElem?_eq_none (zL _)) hl fun h' k=>hQ h' s.toks fun b o hb q=>k b o (by simpa using hb) q
 self:=fun i s Q E st hQ=>by have hty:=st.typeIs;refine wpAny_pyIter_slot hty si_iter (wpAny_call_entry si_iter hty si_iter_e ?_ (si_iter_a _));show wpAny _ _ (ret (.ref I)) _ _ s;exact zW ⟨_,rfl, "set_iterator",_,hty,si_next.lookup,hQ⟩
end
end L2
end
noncomputable section
namespace L2
open PySem PyProof.Rows PySem.Spec
theorem erase_perm {α:Type}{l:List α}{i:Nat}(h:i<l.length):(l[i]::l.eraseIdx i).Perm l:=by
 rw[List.eraseIdx_eq_take_drop_succ];refine(List.perm_middle (a:=l[i])).symm.trans ?_;rw[← List.drop_eq_getElem_cons h,List.take_append_drop]
theorem pick_perm {α:Type}(nx:Nat→Nat):∀ (f k:Nat) (l:List α) (out:Array α),l.length≤f→(pickOrder.go nx f k l out).toList.Perm (out.toList++l)
 | 0,k,l,out,h=>by
  have:l=[]:=List.length_eq_zero_iff.mp (by omega)
  subst this;unfold pickOrder.go;simp
 | f+1,k,l,out,h=>by
  unfold pickOrder.go;by_cases hl:l=[]
  ·subst hl;simp
  ·have hp:0<l.length:=List.length_pos_iff.mpr hl;have hm:nx k%l.length<l.length:=Nat.mod_lt _ hp;rw[zI hm];dsimp only;refine(pick_perm nx f (k+1) _ _ (by rw[List.length_eraseIdx_of_lt hm];omega)).trans ?_
   rw[Array.toList_push,List.append_assoc];exact(List.Perm.append_left _ (erase_perm hm))
noncomputable section
variable {prog:Program}{w:World}{A:Around}{E:Value→Shared→Prop}{s:Shared}{a:Addr}
theorem choose_of {src:Source}{n:Nat}{Q:Nat→Shared→Prop}(hn:n≠0) (h:∀ i d,i<n→Q i { s with drawn:=d }):wpAny (model prog w) A (choose src n) Q E s:=
 fun _ _ _=>⟨hn,h _ _ (Nat.mod_lt _ (Nat.pos_of_ne_zero hn))⟩
theorem draw_of {α:Type}:∀ (n:Nat) (l:List α) (s:Shared) (Q:List α→Shared→Prop),l.length=n→(∀ ys d,ys.Perm l→Q ys { s with drawn:=d })→wpAny (model prog w) A (drawOrder n l) Q E s
 | 0,l,s,Q,hl,h=>by have:l=[]:=List.length_eq_zero_iff.mp hl;subst this;exact zW (h [] s.drawn .rfl)
 | n+1,[],s,Q,hl,h=>by cases hl
 | n+1,x::r,s,Q,hl,h=>by
  unfold drawOrder;refine zE (choose_of (by simp) fun i d hi =>?_)
  rw[zI hi];dsimp only;refine zE (draw_of n _ _ _ (by rw[List.length_eraseIdx_of_lt hi];simp at hl ⊢;omega) fun ys d2 hp =>?_)
  exact zW (h _ d2 ((hp.cons _).trans (erase_perm hi)))
theorem intSet_type {ms:List Int}(x:IntSet prog w s.heap a ms):s.TypeIs (.ref a) "set" :=let ⟨o,_,_,_,h1,h2,_⟩:=x;⟨o,h1,h2.1⟩
theorem set_hint {Q:Bool→Shared→Prop}(hT:s.TypeIs (.ref a) "set") (h:Q false s):wpAny (model prog w) A (Builtin.List.listLengthHint (.ref a)) Q E s:=by
 unfold Builtin.List.listLengthHint;refine zE (wpAny_specialOf hT PySem.F.slot_set_len.lookup ?_);generalize hid:("set.__len__" : String)=id0
 wp_delta
 rw[show splitId id0=some ("set", "__len__") from by subst hid;decide +kernel]
 subst hid;refine zE (wpAny_isInstance (T:= "set") (b:=true) hT (by rw[isSubtype_type];kernel_rfl) ?_)
 refine wpAny_ite_split (fun z=>absurd z (by decide)) (fun _ =>?_)
 refine wpAny_ite_split (fun _ =>?_) (fun z=>absurd (by decide +kernel) z)
 exact zE (wpAny_typeOf hT (zW h))
theorem set_iter {ms : List Int} {Q : Value → Shared → Prop} (x : IntSet prog w s.heap a ms) (hz : ms.length ≤ sizeLine)
    (hQ : ∀ I T es ep t vs ms' h' d, SetIt w I a T es ep t vs 0 h' → t.fits es.size = true → t.place.toList.Pairwise (· < ·) → vs.length = es.size → a ≠ I → T ≠ I → s.heap.objs.size ≤ I → I < h'.objs.size → T < h'.objs.size → (T = a ∨ s.heap.objs.size ≤ T) →
      (∀ b o, s.heap.get? b = some o → h'.get? b = some o) → IntsAre vs ms' → ms'.Perm ms → Q (.ref I) { s with heap := h', drawn := d }) : wpAny (model prog w) A (pyIter (.ref a)) Q E s := by
  have hT := intSet_type x
  obtain ⟨o, es, ep, t, ho, hx, hd, hel, hi, hf, g⟩ := x
  have hlen : es.size = ms.length := by rw [← Array.length_toList, ← List.length_map (f := (·.2))]; exact intsAre_len hi
  have hlt : a < s.heap.objs.size := Heap.lt_size ho
  refine wpAny_pyIter_slot hT PySem.F.slot_set_iter (wpAny_call_entry PySem.F.slot_set_iter hT s_iter_e ?_ (PySem.F.args_set_iter_1 _))
  unfold Builtin.«frozenset.__iter__»
  show wpAny _ _ (pure a >>= _) _ _ _
  refine wpAny_bind (wpAny_pure (wpAny_bind ?_))
  unfold Builtin.Frozenset.sizeOf
  refine wpAny_bind (wpAny_setEntries_of ho hd hf (wpAny_pure ?_))
  refine wpAny_bind ?_
  unfold setDrawn
  refine wpAny_bind (wpAny_setState_of ho hd hf ?_)
  refine wpAny_bind (byText_of ?_)
  show wpAny _ _ (pure (!w.params.followText "set-order" && (!t.plain && decide (es.size > 1)))) _ _ _
  refine wpAny_pure ?_
  dsimp only
  have fin : ∀ (s1 : Shared) (first : Value) (T : Addr) (vs : List Value) (ms' : List Int) (d : Drawn), s1 = { s with heap := s1.heap, drawn := d } → (∀ b o, s.heap.get? b = some o → s1.heap.get? b = some o) → s.heap.objs.size ≤ s1.heap.objs.size → T < s1.heap.objs.size → (T = a ∨ s.heap.objs.size ≤ T) →
      (∀ h' : Heap, (∀ b o, s1.heap.get? b = some o → h'.get? b = some o) →
      ((w.params.followText "set-order" = true ∧ (∃ sl : Nat, first = .int sl 0) ∧ vs = (pickOrder (w.params.setOrder a ep) es).toList.map (·.2)) ∨
     (w.params.followText "set-order" = false ∧ (!t.plain && decide (es.size > 1)) = false ∧ t.led = true ∧ (∃ sl : Nat, first = .int sl 0 ∧ SetTable.below t.place sl = 0) ∧ vs = es.toList.map (·.2)) ∨
     (first = .ref T ∧ ∃ ps : List Nat, h'.IsTuple T (ps.map fun n : Nat => Value.int n 0).toArray ∧ (∀ n ∈ ps, n < es.size) ∧ vs = ps.map fun n => ((es[n]?).map (·.2)).getD .none))) →
      vs.length = es.size → IntsAre vs ms' → ms'.Perm ms →
      wpAny (model prog w) A.in1 (setEpoch a >>= fun e => newFields "set_iterator" [first, rawInt 0, Value.ref a, rawInt es.size, rawInt e] >>= fun v => (ret v : Sem Fin))
      (fun fin s' => ∃ v, fin = Fin.done (Flow.ret v) ∧ ∃ T' r, s'.TypeIs v T' ∧ typeLookup (Value.type T') (Str.ofString "__next__") = pure (some r) ∧ Q v s') E s1 := by
    intro s1 first T vs ms' d e1 k1 k2 k3 k8 k4 k5 k6 k7
    refine wpAny_bind (wpAny_setEpoch_of (k1 _ _ ho) hd hf ?_)
    unfold newFields
    refine wpAny_bind (wpAny_newObj_type (wpAny_pure ⟨_, rfl, "set_iterator", _, ⟨_, Heap.get?_push_size _ rfl, rfl⟩, si_next.lookup, ?_⟩) (by size_fits))
    have q := hQ s1.heap.objs.size T es ep t vs ms' (s1.heap.push { cls := .type "set_iterator", data := .fields #[first, .int 0 0, .ref a, .int es.size 0, .int ep 0] }) d
      ⟨first, _, o, Heap.get?_push_size _ rfl, rfl, rfl, Heap.get?_push_of_some _ (k1 _ _ ho), hd, k4 _ fun b o z => Heap.get?_push_of_some _ z⟩ hf g.rise k5 (Nat.ne_of_lt (Nat.lt_of_lt_of_le hlt k2)) (Nat.ne_of_lt k3) k2 (by rw [Heap.size_push]; exact Nat.lt_succ_self _) (by rw [Heap.size_push]; exact Nat.lt_succ_of_lt k3) k8
      (fun b o z => Heap.get?_push_of_some _ (k1 b o z)) k6 k7
    rw [e1]
    exact q
  by_cases hb : w.params.followText "set-order" = true
  · rw [if_neg (by rw [hb]; simp)]
    refine wpAny_bind (wpAny_pure ?_)
    have hp : (pickOrder (w.params.setOrder a ep) es).toList.Perm es.toList := by
      have := pick_perm (w.params.setOrder a ep) es.size 0 es.toList #[] (by simp)
      simpa [pickOrder] using this
    obtain ⟨ms', i1, i2⟩ := intsAre_perm (hp.map (·.2)) hi
    refine fin s (rawInt 0) a _ ms' s.drawn (by cases s; rfl) (fun _ _ z => z) (Nat.le_refl _) hlt (.inl rfl) (fun h' _ => .inl ⟨hb, ⟨0, rfl⟩, rfl⟩) ?_ i1 i2
    rw [List.length_map, hp.length_eq, Array.length_toList]
  · have hb' : w.params.followText "set-order" = false := by simpa using hb
    by_cases hdr : (!t.plain && decide (es.size > 1)) = true
    · rw [if_pos (by rw [hb', hdr]; rfl)]
      refine wpAny_bind (draw_of es.size (List.range es.size) _ _ (by simp) fun ps d hp => ?_)
      have hmem : ∀ n ∈ ps, n < es.size := fun n hn => by simpa using hp.mem_iff.mp hn
      have hpl : ps.length = es.size := by rw [hp.length_eq]; simp
      refine wpAny_bind (wpAny_newTuple ?_ (by rw [List.length_map, hpl, hlen]; exact hz))
      have hvp : (ps.map fun n => ((es[n]?).map (·.2)).getD Value.none).Perm (es.toList.map (·.2)) := by
        have q := hp.map fun n => ((es[n]?).map (·.2)).getD Value.none
        refine q.trans (List.Perm.of_eq ?_)
        refine List.ext_getElem (by simp) fun n h1 h2 => ?_
        simp at h1
        simp [h1]
      obtain ⟨ms', i1, i2⟩ := intsAre_perm hvp hi
      refine fin _ (.ref s.heap.objs.size) s.heap.objs.size _ ms' d rfl (fun b o z => Heap.get?_push_of_some _ z) (by rw [Heap.size_push]; exact Nat.le_succ _) (by rw [Heap.size_push]; exact Nat.lt_succ_self _) (.inr (Nat.le_refl _)) (fun h' k => .inr (.inr ⟨rfl, ps, ⟨_, k _ _ (Heap.get?_push_size _ rfl), rfl, 0, ?_⟩, hmem, rfl⟩)) ?_ i1 i2
      · rfl
      · rw [List.length_map]; exact hpl
    · rw [if_neg (by rw [hb']; simpa using hdr)]
      refine wpAny_bind (wpAny_pure ?_)
      refine fin s (rawInt 0) a _ ms s.drawn (by cases s; rfl) (fun _ _ z => z) (Nat.le_refl _) hlt (.inl rfl) (fun h' _ => .inr (.inl ⟨hb', by simpa using hdr, by rw [g.lead, hb']; rfl, ⟨0, rfl, below_first g.rise⟩, rfl⟩)) ?_ hi .rfl
      rw [List.length_map, Array.length_toList]
end
end L2
end
noncomputable section
namespace L2
open PySem PyProof.Rows PySem.Spec
noncomputable section
variable {prog:Program}{w:World}{A:Around}{E:Value→Shared→Prop}{s:Shared}{a:Addr}
theorem set_extend {ms:List Int}{R:Result→Shared→Prop}{S:Addr}{res:Value}{c₀:Nat}(hh:A.handled=none) (x:IntSet prog w s.heap a ms) (hz:ms.length≤sizeLine) (hS:s.heap.get? S=some { cls :=.type "list",data :=.seq #[] c₀ }) (hne:S≠a)
  (hR:∀ h' d tk acc c ms',(∀ b o,b≠S→s.heap.get? b=some o→h'.get? b=some o)→h'.get? S=some { cls :=.type "list",dict:=none,data :=.seq acc c,slots :=#[] }→IntsAre acc.toList ms'→ms'.Perm ms →
   R (.ok (.ret res)) { s with heap:=h',drawn:=d,toks:=tk }) :
  wpAny (model prog w) A.in1 (Builtin.List.listExtendWith (.ref S) (.ref a) res)
   (fun fin s'=>match fin with|.done f=>R (.ok f) s'|.again c'=>c'.quiet=true∧codeAny (model prog w) A c' R s') (fun e s'=>R (.error e) s') s:=by
 have n1:Builtin.List.listSameRef (.ref S) (.ref a)=false:=by simp[Builtin.List.listSameRef,hne]
 have n2:(Value.type "set" == Value.type "list")=false:=by decide
 have n3:(Value.type "set" == Value.type "tuple")=false:=by decide
 unfold Builtin.List.listExtendWith;refine zE (wpAny_typeOf (T:= "set") (intSet_type x) ?_);simp only[n1,n2,n3,Bool.or_false,Bool.false_eq_true,if_false];refine zE (set_iter x hz fun I T es ep t vs ms' h1 d it hf hr hl ha hT hI hI2 hT2 hT3 hk hi hp =>?_)
 refine zE (wpAny_holding (set_hint (intSet_type (s:={ s with heap:=h1,drawn:=d }) (intSet_kept x fun o q=>hk _ _ q)) ?_))
 have hls:S<s.heap.objs.size:=zJ hS;have hSI:S≠I:=zR (zS hls hI);have hST:S≠T:=by
  rcases hT3 with e|e
  ·rw[e];exact hne
  ·exact zR (zS hls e)
 have W:=set_walks (prog:=prog) (w:=w) (A:=A.in1) (I:=I) (a:=a) (T:=T) (es:=es) (ep:=ep) (t:=t) (vs:=vs) hh ha hT hf hr hl;have loop:∀ (h2:Heap) (c:Nat),SetIt w I a T es ep t vs 0 h2→(∀ b o,b≠S→s.heap.get? b=some o→h2.get? b=some o)→h2.get? S=some { cls :=.type "list",data :=.seq #[] c } →
   codeAny (model prog w) A (.builtin "list.extend.loop" ⟨[.ref S,.ref I,res],[]⟩) R { s with heap:=h2,drawn:=d }:=by
  intro h2 c it2 hk2 hS2;have hlv:vs.length≤sizeLine:=by rw[intsAre_len hi,hp.length_eq];exact hz
  refine codeAny_extend_loopS W.toS hlv S ?_ res vs.length 0 _ #[] c rfl (Nat.zero_le _) it2 hS2 (ItemsOf.nil _) fun s' acc c' mv hS' hacc =>?_
  ·simp only[zG,List.not_mem_nil,or_false,not_or];exact⟨hSI,hne,hST⟩
  ·have ea:acc.toList=vs:=by
    refine List.ext_getElem? fun i =>?_
    by_cases q:i<vs.length
    ·have q2:i<acc.size:=by rw[hacc.1];exact q
     have:=hacc.2 i acc[i] (Array.getElem?_eq_getElem q2);rw[this,Array.getElem?_toList,Array.getElem?_eq_getElem q2]
    ·rw[List.getElem?_eq_none (by rw[yD,hacc.1];omega),List.getElem?_eq_none (by omega)]
   obtain⟨h3,g3,d3,t3,o3⟩:=s';have eg:g3=s.gens:=mv.gens;have ed:d3=d:=mv.drawn;have eo:o3=s.os:=mv.os;subst eg;subst ed;subst eo;refine hR h3 d3 t3 acc c' ms' (fun b o hb q=>mv.heap b o (fun z =>?_) (hk2 b o hb q)) hS' (by rw[ea];exact hi) hp
   rcases zG.mp z with e|z
   ·exact hb e
   ·have e:=yG.mp z;subst e;exact absurd (zJ q) (Nat.not_lt_of_le hI)
 refine wpAny_ite_split (fun _ =>?_) (fun _=>zW ⟨plainId_quiet PySem.F.plain_extend_loop _,loop _ c₀ it (fun b o _ q=>hk b o q) (hk _ _ hS)⟩)
 refine zE (wpAny_rule (zE ?_));show wpAny _ _ (updateSeq S (·.push .none) >>= fun _=>updateSeq S (·.pop)) _ _ _
 have k1:=hk _ _ hS;refine zE (wpAny_updateSeq k1 rfl ?_);have k2:=Heap.get?_update_self (Obj.mapSeq (·.push Value.none)) k1 rfl;refine wpAny_updateSeq (hz:=by seq_fits) k2 rfl ?_
 have k3:=Heap.get?_update_self (Obj.mapSeq (·.pop)) k2 rfl;have oth:∀ b o,b≠S→h1.get? b=some o→((h1.update S (Obj.mapSeq (·.push Value.none))).update S (Obj.mapSeq (·.pop))).get? b=some o:=
  fun b o hb q=>(Heap.get?_update_other _ _ (Ne.symm hb)).trans ((Heap.get?_update_other _ _ (Ne.symm hb)).trans q)
 refine zW ⟨plainId_quiet PySem.F.plain_extend_loop _,loop _ _ (W.frame 0 _ _ it fun b hb o q=>oth b o (fun z =>?_) q) (fun b o hb q=>oth b o hb (hk b o q)) k3⟩
 subst z;simp only[zG,List.not_mem_nil,or_false] at hb;rcases hb with z|z|z
 ·exact hSI z
 ·exact hne z
 ·exact hST z
theorem set_collect {ms:List Int}{R:List Value→Shared→Prop}(hh:A.handled=none) (x:IntSet prog w s.heap a ms) (hz:ms.length≤sizeLine)
  (h:∀ h' d tk vs ms',s.heap.objs.size≤h'.objs.size→(∀ b o,s.heap.get? b=some o→h'.get? b=some o)→IntsAre vs ms'→ms'.Perm ms→R vs { s with heap:=h',drawn:=d,toks:=tk }) :
  wpAny (model prog w) A (collect (.ref a)) R E s:=by
 have hlt:a<s.heap.objs.size:=let ⟨_,_,_,_,q,_⟩:=x;zJ q;unfold collect;refine zE (wpAny_runValue (codeAny_builtin entry_proto_collect' ?_));rw[Around.under_plainId PySem.F.plain_proto_collect _];show wpAny _ A.in1 (newList [] >>= fun l=>again (.builtin "list.__iadd__" ⟨[l,.ref a],[]⟩)) _ _ s
 refine zE (wpAny_newObj_type (zW ⟨plainId_quiet PySem.F.plain_list_iadd _,codeAny_builtin entry_list_iadd' ?_⟩));rw[Around.under_plainId PySem.F.plain_list_iadd _];have k1:(s.heap.push { cls :=.type "list",data :=.seq ([]:List Value).toArray }).get? s.heap.objs.size=some { cls :=.type "list",data :=.seq #[] }:=zV _ rfl;have key:=set_extend (A:=A) (s:={ s with heap:=s.heap.push { cls :=.type "list",data :=.seq ([]:List Value).toArray } })
  (R:=fun q s'=>∃ h' d tk acc c ms',q=.ok (.ret (.ref s.heap.objs.size))∧s'={ s with heap:=h',drawn:=d,toks:=tk }∧(∀ b o,s.heap.get? b=some o→h'.get? b=some o) ∧
   h'.get? s.heap.objs.size=some { cls :=.type "list",dict:=none,data :=.seq acc c,slots :=#[] }∧IntsAre acc.toList ms'∧ms'.Perm ms)
  (res :=.ref s.heap.objs.size) hh (intSet_kept x fun o q=>zF _ q) hz k1 (Nat.ne_of_gt hlt)
  (fun h' d tk acc c ms' k2 k3 k4 k5=>⟨h',d,tk,acc,c,ms',rfl,rfl,fun b o q=>k2 b o (zR (zJ q)) (zF _ q),k3,k4,k5⟩)
 refine wpAny_mono key (fun fin s' z =>?_) fun e s' z =>?_
 ·cases fin with
  | done f=>obtain⟨h',d,tk,acc,c,ms',e,rfl,k2,k3,k4,k5⟩:=z;cases e;show wpAny _ A (load s.heap.objs.size >>= _) _ _ _;exact zE (wpAny_load k3 (zW (h h' d tk _ ms' (Nat.le_of_lt (zJ k3)) k2 k4 k5)))
  | again c1=>
   refine⟨z.1,codeAny_mono z.2 fun q s2 y =>?_⟩
   obtain⟨h',d,tk,acc,c,ms',rfl,rfl,k2,k3,k4,k5⟩:=y;show wpAny _ A (load s.heap.objs.size >>= _) _ _ _;exact zE (wpAny_load k3 (zW (h h' d tk _ ms' (Nat.le_of_lt (zJ k3)) k2 k4 k5)))
 ·obtain⟨_,_,_,_,_,_,e',_⟩:=z;cases e'
theorem set_sorted {ms:List Int}{Q:Value→Shared→Prop}(hh:A.handled=none) (x:IntSet prog w s.heap a ms) (h64:ms.length<64)
  (h:∀ D h' d tk out n ns,s.heap.objs.size≤D→(∀ b o,s.heap.get? b=some o→h'.get? b=some o)→h'.get? D=some (seqObj "list" out n)→IntsAre out.toList ns→ns.Perm ms→ns.Pairwise (· ≤ ·) →
   Q (.ref D) { s with heap:=h',drawn:=d,toks:=tk }) :
  wpAny (model prog w) A (call (.builtin "sorted") [.ref a]) Q E s:=by
 refine Calls.call_function_entry kind_sorted plain_sorted entry_sorted (args_sorted1 _) ?_;unfold Builtin.«sorted»;refine zE (m:=checkCount "sorted" 1 1 _) (zW ?_);refine zE (set_collect (A:=A.in1) hh x (by rw[sizeLine_eq];omega) fun h1 d tk vs ms1 hmono k1 k2 k3 =>?_)
 have hl:vs.length<64:=by rw[intsAre_len k2,k3.length_eq];exact h64
 refine zE (wpAny_newList ?_ (by rw[sizeLine_eq];omega))
 have hD:(h1.push (seqObj "list" vs.toArray 0)).get? h1.objs.size=some (seqObj "list" vs.toArray 0):=zV _ rfl;show wpAny _ _ _ _ _ { s with heap:=h1.push (seqObj "list" vs.toArray 0),drawn:=d,toks:=tk };refine zE (wpAny_holding (wpAny_call_entry slot_list_sort ⟨_,hD,rfl⟩ entry_list_sort (list_sort_tree hD k2 hl fun out ns a1 a2 a3=>⟨_,rfl,?_⟩) (args_list_sort _)))
 have up:=get?_update_seq hD (fun _ =>#[])
 have hlast:=get?_update_seq (zF (seqObj "list" #[] 0) (zF (seqObj "tuple" vs.toArray 0) up)) (fun _=>out)
 refine zW ⟨_,rfl,h h1.objs.size _ d tk out _ ns hmono (fun b o q =>?_) hlast a1 (a2.trans k3) a3⟩
 have hb:b≠h1.objs.size:=zR (zS (zJ q) hmono);unfold sortedHeap;rw[Heap.get?_update_other _ _ (Ne.symm hb)];refine zF _ (zF _ ?_);rw[Heap.get?_update_other _ _ (Ne.symm hb)];exact zF _ (k1 b o q)
end
end L2
end
noncomputable section
namespace L2
open PySem PySem.Spec PyProof.Rows
theorem Inv.redrawn {X:Cx}{pins:List (Addr×Obj)}{σ:St}{H:Hp}{s:Shared}(I:Inv X pins σ H s) (d:Drawn):Inv X pins σ H { s with drawn:=d }:=
 I.step (h':=s.heap) (g':=s.gens) (d':=d) (t':=s.toks) (ch:=[]) (fun _ z=>nomatch z) (fun b o _ _ _ e _=>e) (fun b o _ _ _ e _=>⟨o.slots,e⟩) (fun b o _ _ n=>n) (fun b o _ e=>⟨o,e⟩)
  (fun _ _ e=>e) (fun _ _ _ e=>e) (fun b ps e=>⟨#[],by rw[e];simp⟩) (fun m hm=>hm) I.hok I.bare
noncomputable def srt (ns:List Int):List Int:=ns.mergeSort (fun a b=>decide (a≤b))
theorem srt_perm (ns:List Int):(srt ns).Perm ns:=List.mergeSort_perm ns _
theorem srt_sorted (ns:List Int):(srt ns).Pairwise (· ≤ ·):=by
 have:=List.pairwise_mergeSort (le:=fun a b:Int=>decide (a≤b)) (fun a b c h1 h2=>by simp at *;omega) (fun a b=>by simp;omega) ns
 exact this.imp fun h=>by simpa using h
theorem srt_of {a b:List Int}(p:a.Perm b) (h:a.Pairwise (· ≤ ·)):a=srt b:=PySem.W.ksm_same (p.trans (srt_perm b).symm) h (srt_sorted b)
theorem ints_of_vals:∀ {ns:List Int}{us:List Value},Vals (ns.map V.int) us→IntsAre us ns
 | [],us,h=>by cases h;exact .nil
 | n::r,us,h=>by
  cases h with
  | cons h1 h2=>obtain⟨t,rfl⟩:=h1;exact .cons n t (ints_of_vals h2)
theorem vals_of_ints {us:List Value}{ns:List Int}(h:IntsAre us ns):Vals (ns.map V.int) us:=by
 induction h with
 | nil=>exact .nil
 | cons n t _ ih=>exact .cons ⟨t,rfl⟩ ih
noncomputable section
variable {X:Cx}{own:List Nat}{e:Expr}{f:DF}{p q pos pos':Pos}{tl:TE}
noncomputable def tSS (K:Frag) (tl:TE):TE:=fun σ H Q=>tl σ H fun x H1=>∃ a ns,x=.ref a∧SqL K H1 a (ns.map V.int)∧ns.length<64∧∀ l,H1 l=none→Q (.ref l) (upd H1 l (.lst ((srt (firsts ns)).map V.int)))
theorem pe_ssort (hcal:X.calm=true) (hg:Gl X "sorted") (hm:X.mg "sorted" = none) (hg':Gl X "set") (hm':X.mg "set" = none) (hl:PE X e tl) (hs:starEach [e] X.env=(false,eval e X.env)::starEach [] X.env:=by rfl)
  (hs':starEach [.Call (.Name "set" q) [e] [] pos'] X.env=(false,eval (.Call (.Name "set" q) [e] [] pos') X.env)::starEach [] X.env:=by rfl)
  (hv:bootBuiltins "set" = some (.type "set"):=by decide +kernel) (hv':bootBuiltins "sorted" = some (.builtin "sorted"):=by decide +kernel):PE X (.Call (.Name "sorted" p) [.Call (.Name "set" q) [e] [] pos'] [] pos) (tSS X.K tl):=by
 intro pins s σ H Q I h;refine wpAny_Call_Name_kw (ld_blt I hg hm hv' ?_);refine PyProof.Rows.callWith_builtin1 ?_ hs' rfl;rw[hs'];show wpAny _ _ (spliced ((false,eval _ X.env)::backTo pos (starEach [] X.env))) _ _ s;refine Calls.spliced_cons ?_;refine wpAny_Call_Name_kw (ld_blt I hg' hm' hv ?_);refine PyProof.Rows.callWith_type1 ?_ hs rfl;refine thn (pa_cons hl pa_nil hs pos' pins s σ H (fun vs H1=>match vs with|[x]=>∃ a ns,x=.ref a∧SqL X.K H1 a (ns.map V.int)∧ns.length<64∧∀ l,H1 l=none→Q (.ref l) (upd H1 l (.lst ((srt (firsts ns)).map V.int)))|_=>False) I h) fun us s1 ⟨vs,H1,I1,r1,q1⟩ =>?_
 cases vs with
 | nil=>exact q1.elim
 | cons x t=>
  cases t with
  | cons _ _=>exact q1.elim
  | nil=>
  obtain⟨a,ns,rfl,hq,h64,q⟩:=q1;obtain⟨u,rfl,ru⟩:=Vals.one r1;cases ru;obtain⟨its,rv,pl,hz⟩:=I1.list hq;have hi:IntsAre its ns:=ints_of_vals rv;have hsb:ns.length+1<scanBound:=by have e:scanBound=4096:=rfl;omega
  refine set_call (I1.ok.hd hcal) pl.isList (by simpa using hi) hsb fun h2 tk ms hm2 hp2 hk2 =>?_
  have hl2:ms.length<64:=by rw[hp2.length_eq];exact Nat.lt_of_le_of_lt (firsts_len ns) h64
  refine Calls.spliced_nil ?_;refine set_sorted (s:={ s1 with heap:=h2,toks:=tk }) (I1.ok.hd hcal) hm2 hl2 fun D h3 d tk3 out n os hD hk3 hL hio hpo hso =>?_
  have eo:os=srt (firsts ns):=srt_of (hpo.trans hp2) hso;subst eo;have hsz:s1.heap.objs.size≤D:=by obtain⟨o,_,_,_,q1,_⟩:=hm2;exact yB (Nat.le_of_lt (zJ q1)) hD
  have kp:∀ b o',s1.heap.get? b=some o'→h3.get? b=some o':=fun b o' z=>hk3 b o' (hk2 b o' z)
  refine⟨.ref D,_,(I1.redrawn d).laid (t':=tk3) kp hsz (show ObjOk X.prog X.w _ h3 _ (.lst ((srt (firsts ns)).map V.int)) from ⟨?_,out.toList,n,vals_of_ints hio,?_⟩),rfl,q _ (I1.hok.fresh hsz)⟩
  ·rw[zH,(srt_perm _).length_eq];have:=firsts_len ns;have e:sizeLine ≥ 64:=by decide
   omega
  ·rw[Array.toArray_toList];exact hL
noncomputable def intsD:List D→Option (List Int)
 | []=>some []
 | .int i::r=>(intsD r).map (i :: ·)
 | _::_=>none
theorem intsD_some:∀ {ds:List D}{ns:List Int},intsD ds=some ns→ds=ns.map D.int
 | [],ns,h=>by cases h;rfl
 | d::r,ns,h=>by
  cases d<;>simp only[intsD] at h<;>try (cases h;done)
  cases e:intsD r with
  | none=>rw[e] at h;cases h
  | some ms=>rw[e] at h;cases h;rw[intsD_some e];rfl
theorem intsD_of:∀ (ns:List Int),intsD (ns.map D.int)=some ns
 | []=>rfl
 | n::r=>by simp[intsD,intsD_of r]
theorem reps_ints {K:Frag}{G:Hp}:∀ {ns:List Int}{vs:List V},Reps K G (ns.map D.int) vs↔vs=ns.map V.int
 | [],vs=>by simp[Reps]
 | n::r,vs=>by
  simp only[List.map_cons,reps_cons,rep_int]
  constructor
  ·rintro⟨v,t,rfl,rfl,h⟩;rw[reps_ints.mp h]
  ·rintro rfl;exact⟨_,_,rfl,rfl,reps_ints.mpr rfl⟩
noncomputable def fSS (f:DF):DL:=fun ρ=>(f ρ).bind fun d=>match d with|.lst xs=>(intsD xs).bind fun ns=>if ns.length<64 then some ((srt (firsts ns)).map D.int) else none|_=>none
theorem de_ssort (hcal:X.calm=true) (hg:Gl X "sorted") (hm:X.mg "sorted" = none) (hg':Gl X "set") (hm':X.mg "set" = none) (h:PE X e (tQ X.K own f)) (hs:starEach [e] X.env=(false,eval e X.env)::starEach [] X.env:=by rfl)
  (hs':starEach [.Call (.Name "set" q) [e] [] pos'] X.env=(false,eval (.Call (.Name "set" q) [e] [] pos') X.env)::starEach [] X.env:=by rfl) :
  PE X (.Call (.Name "sorted" p) [.Call (.Name "set" q) [e] [] pos'] [] pos) (tF X.K own (fSS f)):=
 (pe_ssort hcal hg hm hg' hm' h hs hs').imp fun σ H Q ⟨G,ρ,ds,gh,env,eq,k⟩=>by
  unfold fSS at eq;cases ef:f ρ with
  | none=>rw[ef] at eq;cases eq
  | some c=>
   rw[ef] at eq;refine⟨G,ρ,c,gh,env,ef,fun v G1 H1 E1 r1 =>?_⟩
   cases c<;>simp only[zA] at eq<;>try (cases eq;done)
   rename_i xs;cases en:intsD xs with
   | none=>rw[en] at eq;cases eq
   | some ns=>
    rw[en] at eq;simp only[zA] at eq
    split at eq
    ·cases eq;rename_i hz;rw[intsD_some en] at r1;obtain⟨a,vs,rfl,qa,ra⟩:=r1.lst E1.gh;rw[reps_ints.mp ra] at qa;exact⟨a,ns,rfl,.of qa,hz,fun q hq=>k q _ G1 _ (E1.trans (Ext.lay (p:=q) E1.gh hq)) (E1.hh.free hq) (E1.gh.free hq) upd_same (reps_ints.mpr rfl)⟩
    ·cases eq
end
end L2
end
noncomputable section
namespace L2
open PySem PySem.Spec PyProof.Rows
noncomputable section
variable {X:Cx}{own:List Nat}
theorem op_mulS:OpR X (binaryOp .Mult) (fun x y H Q=>∃ t k,x=.str t∧y=.int k∧(k=0∨k=1)∧Q (.str (if k=0 then Str.empty else t)) H):=by
 intro pins s σ H x y v u Q I rx ry h;obtain⟨t,k,rfl,rfl,hk,q⟩:=h;obtain⟨tk,rfl⟩:=rx;obtain⟨tk',rfl⟩:=ry;rcases hk with rfl|rfl
 ·exact PySem.P.mul_str_none (by decide) (by decide) ⟨.str Str.empty,H,I.tok _,⟨_,rfl⟩,by simpa using q⟩
 ·refine PySem.P.mul_str (by decide) (fun _ z=>by simp at z) (fun _ z=>by simp at z) ?_
  show (if (1:Int)<1 then _ else _:Made).post _ _
  rw[if_neg (by decide),if_pos (by simp)]
  exact⟨.str t,H,I,⟨_,rfl⟩,by simpa using q⟩
noncomputable def oMulS:D→D→Option D
 | .str t,.int k=>if k=0 then some (.str Str.empty) else if k=1 then some (.str t) else none
 | _,_=>none
theorem od_mulS:OpD X (binaryOp .Mult) oMulS:=by
 refine OpR.imp op_mulS fun x y H Q ⟨G,d1,d2,d,gh,h1,h2,eq,q⟩ =>?_
 cases d1<;>cases d2<;>simp only[oMulS] at eq<;>try (cases eq;done)
 rename_i t k
 split at eq
 ·cases eq;rename_i hk;exact⟨t,k,h1.str,h2.int,.inl hk,by rw[if_pos hk];exact q _ G H (.refl gh) (rep_str.mpr rfl)⟩
 ·split at eq
  ·cases eq;rename_i hk hk1;exact⟨t,k,h1.str,h2.int,.inr hk1,by rw[if_neg hk];exact q _ G H (.refl gh) (rep_str.mpr rfl)⟩
  ·cases eq
variable {a b:Expr}{fa fb:DF}{pos:Pos}
noncomputable def fAdd (fa fb:DF):DL:=fun ρ=>(fa ρ).bind fun x=>(fb ρ).bind fun y=>match x,y with|.lst xs,.lst ys=>if xs.length+ys.length≤bigE then some (xs++ys) else none|_,_=>none
theorem de_addF (ha:PE X a (tQ X.K own fa)) (hb:PE X b (tQ X.K own fb)):PE X (.BinOp a .Add b pos) (tF X.K own (fAdd fa fb)):=
 (pe_op op_cat ha hb).imp fun σ H Q ⟨G,ρ,ds,gh,env,eq,k⟩=>by
  unfold fAdd at eq;cases ea:fa ρ with
  | none=>rw[ea] at eq;cases eq
  | some x=>
   rw[ea] at eq;cases eb:fb ρ with
   | none=>simp[eb] at eq
   | some y=>
    simp only[eb,zA] at eq;refine⟨G,ρ,x,gh,env,ea,fun v G1 H1 E1 r1=>⟨G1,ρ,y,E1.gh,env.ext E1,eb,fun u G2 H2 E2 r2 =>?_⟩⟩
    cases x<;>cases y<;>simp only at eq<;>try (cases eq;done)
    split at eq
    ·cases eq;rename_i hz;obtain⟨p,vs,ep,qp,rp⟩:=(r1.ext E2).lst E2.gh;obtain⟨p',us,ep',qp',rp'⟩:=r2.lst E2.gh;refine⟨p,p',vs,us,ep,ep',qp,qp',?_,fun l hl =>?_⟩
     ·rw[← rp.length,← rp'.length];exact yB hz bigE_le
     ·have E3:=Ext.lay (p:=l) (o :=.lst (vs++us)) E2.gh hl;exact k l _ G2 _ ((E1.trans E2).trans E3) (E1.hh.free (E2.hh.free hl)) (E2.gh.free hl) upd_same (rp.append rp')
    ·cases eq
end
noncomputable section
variable {X:Cx}{B:Bs}{own:List Nat}{c a b e:Expr}{pos:Pos}
noncomputable def mIf (f:DT) (fa fb:DM):DM:=fun ρ=>(f ρ).bind fun c=>if c=true then fa ρ else fb ρ
theorem dm_if {f:DT}{fa fb:DM}(hc:PT X c (tPT X.K own f)) (ha:PE X a (tM X.K B own fa)) (hb:PE X b (tM X.K B own fb)):PE X (.IfExp c a b pos) (tM X.K B own (mIf f fa fb)):=
 (pe_ifExp hc ha hb).imp fun σ H Q ⟨G,ρ,d,ρ',S,eq,k⟩=>by
  unfold mIf at eq;cases ef:f ρ with
  | none=>rw[ef] at eq;cases eq
  | some c=>
   rw[ef] at eq;refine⟨G,ρ,c,S.gh,S.envR,ef,fun G1 H1 E1 =>?_⟩
   cases c with
   | true=>exact iteT ⟨G1,ρ,d,ρ',S.ext E1,eq,fun v G2 H2 S2 s2 r2=>k v G2 H2 S2 (E1.gg.trans s2) r2⟩
   | false=>exact iteF ⟨G1,ρ,d,ρ',S.ext E1,eq,fun v G2 H2 S2 s2 r2=>k v G2 H2 S2 (E1.gg.trans s2) r2⟩
noncomputable def mCall1 (F:List D→Option (D×List D)) (f:DF) (j:Nat):DM:=fun ρ=>(f ρ).bind fun d=>(lstAt j ρ).bind fun xs=>(F [d,.lst xs]).map fun q=>(q.1,ρ.set j (some (.lst q.2)))
theorem dm_call1 {F:List D→Option (D×List D)}{x y:Str}{k j:Nat}{p p':Pos}{fe:DF}(h:Ok1 X.prog X.w X.K X.mg X.base x k (spM X.K 1 F)) (hr:Room k X.A) (hg:Gl X x) (ha:PE X e (tP X.K own fe)) (hy:PE X (.Name y p') (tVar j)) (hj:j∈own:=by decide) (hdb:(x==("__debug__" : Str))=false:=by decide)
  (he:starEach [e,.Name y p'] X.env=(false,eval e X.env)::starEach [.Name y p'] X.env:=by rfl) (he2:starEach [.Name y p'] X.env=(false,eval (.Name y p') X.env)::starEach [] X.env:=by rfl)
  (hpl:(backTo pos (starEach [.Name y p'] X.env)).any (·.1)=false:=by rfl):PE X (.Call (.Name x p) [e,.Name y p'] [] pos) (tM X.K B own (mCall1 F fe j)):=by
 obtain⟨f,fd,ps,h1,hm,hk,hb⟩:=h.ex;refine(pe_call h1 hr hg hm hk hb .nil pass0 (pa_cons ha (pa_cons hy pa_nil he2) he) hdb he hpl).imp fun σ H Q ⟨G,ρ,d,ρ',S,eq,q⟩ =>?_
 unfold mCall1 at eq;cases ef:fe ρ with
 | none=>rw[ef] at eq;cases eq
 | some dx=>
  rw[ef] at eq;cases el:lstAt j ρ with
  | none=>simp[el] at eq
  | some xs=>
   simp only[el,zA] at eq;cases eF:F [dx,.lst xs] with
   | none=>rw[eF] at eq;cases eq
   | some r=>
    obtain⟨d',xs'⟩:=r;rw[eF] at eq;cases eq;have hd:=lstAt_some el;refine⟨G,ρ,dx,S.gh,S.envR,ef,fun v1 G1 H1 E1 r1 =>?_⟩
    have S1:=S.ext E1;obtain⟨a',vs1,f2,f3,f4,f5,f6⟩:=S1.ownL hj hd;refine⟨_,f2,?_⟩;show spM X.K 1 F ([v1,.ref a']++[]) H1 Q E0;rw[List.append_nil];refine⟨G1,[dx,.lst xs],d',xs',a',vs1,xs,E1.gh,rfl,rfl,f3,f4,f5,fun i c hi ec =>?_,rfl,eF,fun v ws' G2 H2 E2 g2 h2 r2 r3 =>?_⟩
    ·match i,hi with
     | 0,_=>cases ec;exact⟨v1,rfl,r1⟩
     | 1,hi=>exact absurd rfl hi
     | i+2,_=>cases ec
    ·exact q v G2 H2 (S1.called hj hd f2 E2 g2 h2 r2) (E1.gg.trans E2.gg) r3
noncomputable def eCallT (F:List D→Option (D×List D)) (f:DF) (g:DL):DF:=fun ρ=>(f ρ).bind fun d=>(g ρ).bind fun xs=>(F [d,.lst xs]).map fun q=>q.1
theorem de_callT {F:List D→Option (D×List D)}{x:Str}{k:Nat}{p:Pos}{fe:DF}{g:DL}(h:Ok1 X.prog X.w X.K X.mg X.base x k (spM X.K 1 F)) (hr:Room k X.A) (hg:Gl X x) (ha:PE X e (tP X.K own fe)) (hl:PE X b (tF X.K own g)) (hdb:(x==("__debug__" : Str))=false:=by decide)
  (he:starEach [e,b] X.env=(false,eval e X.env)::starEach [b] X.env:=by rfl) (he2:starEach [b] X.env=(false,eval b X.env)::starEach [] X.env:=by rfl)
  (hpl:(backTo pos (starEach [b] X.env)).any (·.1)=false:=by rfl):PE X (.Call (.Name x p) [e,b] [] pos) (tP X.K own (eCallT F fe g)):=by
 obtain⟨f,fd,ps,h1,hm,hk,hb⟩:=h.ex;refine(pe_call h1 hr hg hm hk hb .nil pass0 (pa_cons ha (pa_cons hl pa_nil he2) he) hdb he hpl).imp fun σ H Q ⟨G,ρ,d,gh,env,eq,q⟩ =>?_
 unfold eCallT at eq;cases ef:fe ρ with
 | none=>rw[ef] at eq;cases eq
 | some dx=>
  rw[ef] at eq;cases el:g ρ with
  | none=>simp[el] at eq
  | some xs=>
   simp only[el,zA] at eq;cases eF:F [dx,.lst xs] with
   | none=>rw[eF] at eq;cases eq
   | some r=>
    obtain⟨d',xs'⟩:=r;rw[eF] at eq;cases eq;refine⟨G,ρ,dx,gh,env,ef,fun v1 G1 H1 E1 r1=>⟨G1,ρ,xs,E1.gh,env.ext E1,el,fun l vs G2 H2 E2 hn gn hl2 rl =>?_⟩⟩
    show spM X.K 1 F ([v1,.ref l]++[]) H2 Q E0;rw[List.append_nil];refine⟨G2,[dx,.lst xs],d',xs',l,vs,xs,E2.gh,rfl,rfl,hl2,rl,gn,fun i c hi ec =>?_,rfl,eF,fun v ws' G3 H3 E3 g3 h3 r2 r3 =>?_⟩
    ·match i,hi with
     | 0,_=>cases ec;exact⟨v1,rfl,Rep.mono E2.gg _ r1⟩
     | 1,hi=>exact absurd rfl hi
     | i+2,_=>cases ec
    ·refine q v G3 H3 (E1.trans ⟨fun b o e=>E3.hh b o ?_,E2.gg.trans E3.gg,E3.gh,fun b o e =>?_⟩) r3
     ·have hb:b≠l:=fun z=>by rw[z,hn] at e;cases e
      rw[era_ne hb];exact E2.hh b o e
     ·rcases E3.fr b o e with z|z
      ·exact E2.fr b o z
      ·by_cases hb:b=l
       ·subst hb;exact .inr hn
       ·rw[era_ne hb] at z;refine .inr ?_;cases qq:H1 b with
        | none=>rfl
        | some o'=>rw[E2.hh b o' qq] at z;cases z
end
end L2
end
noncomputable section
namespace L2
open PySem
noncomputable section
variable {X:Cx}{own:List Nat}
theorem vP (i:Nat){x:Str}{pos:Pos}(hN:X.N[i]?=some x:=by rfl) (hv:Vis X.env.scope x:=by first|exact Or.inl rfl|exact Or.inr (Or.inl rfl)|exact Or.inr (Or.inr rfl)) (hd:(x==("__debug__" : Str))=false:=by decide)
  (hcd:(x==("__classdict__" : Str))=false:=by decide) (hi:i∉own:=by decide):PE X (.Name x pos) (tP X.K own (eV i)):=dv (pv i hN hv hd hcd) hi
theorem vQ (i:Nat){x:Str}{pos:Pos}(hN:X.N[i]?=some x:=by rfl) (hv:Vis X.env.scope x:=by first|exact Or.inl rfl|exact Or.inr (Or.inl rfl)|exact Or.inr (Or.inr rfl)) (hd:(x==("__debug__" : Str))=false:=by decide)
  (hcd:(x==("__classdict__" : Str))=false:=by decide) (hi:i∉own:=by decide):PE X (.Name x pos) (tQ X.K own (eV i)):=dq (vP i hN hv hd hcd hi)
end
end L2
end
noncomputable section
namespace L2
open PySem PySem.Spec PyProof.Rows
noncomputable def Lev (K:Frag) (G H:Hp) (l:Addr) (its:List D) (tail:List V):Prop:=∃ vs,H l=some (.lst (vs++tail))∧Reps K G its vs
noncomputable abbrev Zs:=List (Str×List D)
noncomputable def Pile (K:Frag) (H0 G H:Hp):Zs→List Addr→List D→Addr→List V→Prop
 | [],ls,L0,l0,tail=>ls=[]∧Lev K G H l0 L0 tail
 | (nm,its)::st,ls,L0,l0,tail=>∃ l r t,ls=l::r∧Lev K G H l its tail∧H t=some (.tup [.str nm,.ref l])∧G t=none∧H0 t=none∧Pile K H0 G H st r L0 l0 [.ref t]
noncomputable section
variable {K:Frag}{H0 G H G' H':Hp}
theorem Ext.nil {a:Addr}{o:HO}(E:Ext G H G' H') (h:H a=some o) (g:G a=none):G' a=none:=by
 cases q:G' a with
 | none=>rfl
 | some u=>
  rcases E.fr a u q with z|z
  ·rw[g] at z;cases z
  ·rw[h] at z;cases z
theorem Lev.ext {l:Addr}{its:List D}{tail:List V}(E:Ext G H G' H') (h:Lev K G H l its tail):Lev K G' H' l its tail:=by
 obtain⟨vs,e,r⟩:=h;exact⟨vs,E.hh _ _ e,Reps.mono E.gg its r⟩
theorem Pile.ext (E:Ext G H G' H'):∀ {st:Zs}{ls:List Addr}{L0:List D}{l0:Addr}{tail:List V},Pile K H0 G H st ls L0 l0 tail→Pile K H0 G' H' st ls L0 l0 tail
 | [],ls,L0,l0,tail,h=>⟨h.1,h.2.ext E⟩
 | (nm,its)::st,ls,L0,l0,tail,h=>by obtain⟨l,r,t,e,hl,ht,gt,h0,hp⟩:=h;exact⟨l,r,t,e,hl.ext E,E.hh _ _ ht,E.nil ht gt,h0,hp.ext E⟩
theorem Pile.upd {a:Addr}{xs ws:List V}(ha:H a=some (.lst xs)):∀ {st:Zs}{ls:List Addr}{L0:List D}{l0:Addr}{tail:List V},a∉ls→a≠l0→Pile K H0 G H st ls L0 l0 tail→Pile K H0 G (L2.upd H a (.lst ws)) st ls L0 l0 tail
 | [],ls,L0,l0,tail,n1,n2,h=>by obtain⟨e,vs,q,r⟩:=h;exact⟨e,vs,by rw[upd_ne (Ne.symm n2)];exact q,r⟩
 | (nm,its)::st,ls,L0,l0,tail,n1,n2,h=>by
  obtain⟨l,r,t,rfl,⟨vs,q,rr⟩,ht,gt,h0,hp⟩:=h;have nl:l≠a:=fun z=>n1 (by rw[z];exact zD)
  have nt:t≠a:=ne_of ht ha (by intro z;cases z)
  exact⟨l,r,t,rfl,⟨vs,by rw[upd_ne nl];exact q,rr⟩,by rw[upd_ne nt];exact ht,gt,h0,hp.upd ha (fun z=>n1 (zB _ z)) n2⟩
noncomputable def inner:Zs→List D→List D
 | [],L0=>L0
 | (_,its)::_,_=>its
noncomputable def setI:Zs→List D→List D→Zs×List D
 | [],_,d=>([],d)
 | (nm,_)::st,L0,d=>((nm,d)::st,L0)
theorem Pile.inner:∀ {st:Zs}{ls:List Addr}{L0:List D}{l0:Addr}{tail:List V},Pile K H0 G H st ls L0 l0 tail→∃ vs,H (ls.headD l0)=some (.lst (vs++tail))∧Reps K G (L2.inner st L0) vs
 | [],ls,L0,l0,tail,h=>by obtain⟨rfl,vs,q,r⟩:=h;exact⟨vs,q,r⟩
 | (nm,its)::st,ls,L0,l0,tail,h=>by obtain⟨l,r,t,rfl,⟨vs,q,rr⟩,_⟩:=h;exact⟨vs,q,rr⟩
theorem Pile.set {its':List D}{vs' tail':List V}(r':Reps K G its' vs'):∀ {st:Zs}{ls:List Addr}{L0:List D}{l0:Addr}{tail:List V},(ls++[l0]).Nodup→Pile K H0 G H st ls L0 l0 tail →
  Pile K H0 G (L2.upd H (ls.headD l0) (.lst (vs'++tail'))) (setI st L0 its').1 ls (setI st L0 its').2 l0 tail'
 | [],ls,L0,l0,tail,nd,h=>by obtain⟨rfl,vs,q,r⟩:=h;exact⟨rfl,vs',upd_same,r'⟩
 | (nm,its)::st,ls,L0,l0,tail,nd,h=>by
  obtain⟨l,r,t,rfl,⟨vs,q,rr⟩,ht,gt,h0,hp⟩:=h;have nt:t≠l:=ne_of ht q (by intro z;cases z)
  have nd':=List.nodup_cons.mp nd;refine⟨l,r,t,rfl,⟨vs',upd_same,r'⟩,by rw[upd_ne (show t≠(l::r).headD l0 from nt)];exact ht,gt,h0,Pile.upd (a:=l) q (fun z=>nd'.1 (zU _ z)) (fun z=>nd'.1 (by rw[z];simp)) hp⟩
theorem Pile.close {nm : Str} {its : List D} {st : Zs} {ls : List Addr} {L0 : List D} {l0 : Addr} (s : Same G H) (nd : (ls ++ [l0]).Nodup) (gl : ∀ a ∈ ls ++ [l0], G a = none ∧ H0 a = none) (h : Pile K H0 G H ((nm, its) :: st) ls L0 l0 []) :
    ∃ l r G', ls = l :: r ∧ Same G G' ∧ Same G' H ∧ (∀ b o, G' b = some o → G b = some o ∨ H0 b = none) ∧ (∀ a ∈ r ++ [l0], G' a = none) ∧ (∀ a o, H a = some (.lst o) → a ∉ ls → G a = none → G' a = none) ∧
      Pile K H0 G' H (setI st L0 (L2.inner st L0 ++ [.tup [.str nm, .lst its]])).1 r (setI st L0 (L2.inner st L0 ++ [.tup [.str nm, .lst its]])).2 l0 [] := by
  obtain ⟨l, r, t, rfl, ⟨vs, q, rr⟩, ht, gt, h0, hp⟩ := h
  rw [List.append_nil] at q
  have ntl : t ≠ l := ne_of ht q (by intro z; cases z)
  have nd' := List.nodup_cons.mp nd
  have gl0 := gl l (by simp)
  have s1 : Same G (L2.upd G l (.lst vs)) := .alloc gl0.1
  have gt1 : L2.upd G l (.lst vs) t = none := by rw [upd_ne ntl]; exact gt
  have s2 : Same (L2.upd G l (.lst vs)) (L2.upd (L2.upd G l (.lst vs)) t (.tup [.str nm, .ref l])) := .alloc gt1
  have sub : Same (L2.upd (L2.upd G l (.lst vs)) t (.tup [.str nm, .ref l])) H := fun b o e => by
    by_cases h1 : b = t
    · subst h1; rw [upd_same] at e; cases e; exact ht
    · rw [upd_ne h1] at e
      by_cases h2 : b = l
      · subst h2; rw [upd_same] at e; cases e; exact q
      · rw [upd_ne h2] at e; exact s _ _ e
  have rep : Rep K (L2.upd (L2.upd G l (.lst vs)) t (.tup [.str nm, .ref l])) (.tup [.str nm, .lst its]) (.ref t) :=
    rep_tup.mpr ⟨t, _, rfl, upd_same, .cons (rep_str.mpr rfl) (.cons (rep_lst.mpr ⟨l, vs, rfl, by rw [upd_ne (Ne.symm ntl), upd_same], Reps.mono (s1.trans s2) its rr⟩) .nil)⟩
  have other : ∀ a o, H a = some (.lst o) → a ≠ l → G a = none → L2.upd (L2.upd G l (.lst vs)) t (.tup [.str nm, .ref l]) a = none := fun a o e n g => by
    have : a ≠ t := fun z => by subst z; rw [ht] at e; cases e
    rw [upd_ne this, upd_ne n]; exact g
  have grow : ∀ {st : Zs} {r : List Addr} {tail : List V}, l ∉ r → Pile K H0 G H st r L0 l0 tail → Pile K H0 (L2.upd (L2.upd G l (.lst vs)) t (.tup [.str nm, .ref l])) H st r L0 l0 tail := fun {st} => by
    induction st with
    | nil => intro r tail _ h; obtain ⟨e, us, q', r'⟩ := h; exact ⟨e, us, q', Reps.mono (s1.trans s2) _ r'⟩
    | cons c st ih =>
      intro r tail nl h
      obtain ⟨nm', its'⟩ := c
      obtain ⟨l', r', t', rfl, ⟨us, q', rr'⟩, ht', gt', h0', hp'⟩ := h
      have n1 : t' ≠ l := ne_of ht' q (by intro z; cases z)
      have n2 : t' ≠ t := fun z => by
        subst z
        rw [ht] at ht'
        have : l = l' := by injection ht' with z; injection z with z; injection z with _ z; injection z with z; injection z
        exact nl (by rw [this]; exact List.mem_cons_self)
      exact ⟨l', r', t', rfl, ⟨us, q', Reps.mono (s1.trans s2) _ rr'⟩, ht', by rw [upd_ne n2, upd_ne n1]; exact gt', h0', ih (fun z => nl (List.mem_cons_of_mem _ z)) hp'⟩
  have hp2 := grow (fun z => nd'.1 (List.mem_append_left _ z)) hp
  refine ⟨l, r, _, rfl, s1.trans s2, sub, fun b o e => ?_, fun a ha => ?_, fun a o e n g => other a o e (fun z => n (by rw [z]; exact List.mem_cons_self)) g, ?_⟩
  · by_cases h1 : b = t
    · subst h1; exact .inr h0
    · rw [upd_ne h1] at e
      by_cases h2 : b = l
      · subst h2; exact .inr gl0.2
      · rw [upd_ne h2] at e; exact .inl e
  · have nal : a ≠ l := fun z => nd'.1 (z ▸ ha)
    have : a ≠ t := fun z => by
      subst z
      have isl : ∀ {st : Zs} {r : List Addr} {tail : List V}, Pile K H0 G H st r L0 l0 tail → ∀ a ∈ r ++ [l0], ∃ o, H a = some (.lst o) := fun {st} => by
        induction st with
        | nil => intro r tail h a ha; obtain ⟨rfl, us, q', _⟩ := h; have : a = l0 := by simpa using ha
                 subst this; exact ⟨_, q'⟩
        | cons c st ih =>
          intro r tail h a ha
          obtain ⟨nm', its'⟩ := c
          obtain ⟨l', r', t', rfl, ⟨us, q', rr'⟩, ht', gt', h0', hp'⟩ := h
          rcases List.mem_cons.mp ha with rfl | ha
          · exact ⟨_, q'⟩
          · exact ih hp' a ha
      obtain ⟨o, z⟩ := isl hp a ha
      rw [ht] at z; cases z
    rw [upd_ne this, upd_ne nal]
    exact (gl a (List.mem_cons_of_mem _ ha)).1
  · cases st with
    | nil =>
      obtain ⟨e, us, q', r'⟩ := hp2
      exact ⟨e, us ++ [.ref t], by rw [List.append_nil]; exact q', r'.append (.cons rep .nil)⟩
    | cons c st =>
      obtain ⟨nm', its'⟩ := c
      obtain ⟨l', r', t', rfl, ⟨us, q', rr'⟩, rest⟩ := hp2
      exact ⟨l', r', t', rfl, ⟨us ++ [.ref t], by rw [List.append_nil]; exact q', rr'.append (.cons rep .nil)⟩, rest⟩
end
noncomputable def part (nm:Str) (its:List D):D :=.tup [.str nm,.lst its]
noncomputable def zput (d:D) (st:Zs) (L0:List D):Zs×List D:=setI st L0 (inner st L0++[d])
noncomputable def sOpen:Str:=Str.ofString "open"
noncomputable def sText:Str:=Str.ofString "text"
noncomputable def sClose:Str:=Str.ofString "close"
noncomputable def zstep (z:Zs×List D) (s:D):Option (Zs×List D):=match s with
 | .tup [.str k,.str x]=>
  if k=sOpen then (if z.1=[]∧z.2≠[] then none else some ((x,[])::z.1,z.2))
  else if k=sText then (if z.1=[] then none else some (zput (.str x) z.1 z.2)) else none
 | .tup [.str k]=>if k=sClose then (match z.1 with|[]=>none|(nm,its)::r=>some (zput (part nm its) r z.2)) else none
 | _=>none
noncomputable def zrun:List D→Zs×List D→Option (Zs×List D)
 | [],z=>some z
 | s::ss,z=>(zstep z s).bind (zrun ss)
noncomputable def closeUp (d:D):Zs→List D→List D
 | [],L0=>L0++[d]
 | (nm,its)::st,L0=>closeUp (part nm (its++[d])) st L0
noncomputable def zclose:Zs→List D→List D
 | [],L0=>L0
 | (nm,its)::st,L0=>closeUp (part nm its) st L0
theorem zclose_put (nm:Str) (its:List D) (st:Zs) (L0:List D):zclose ((nm,its)::st) L0=zclose (zput (part nm its) st L0).1 (zput (part nm its) st L0).2:=by
 cases st with
 | nil=>rfl
 | cons c st=>obtain⟨a,b⟩:=c;rfl
noncomputable def F_stump (ds:List D):Option D:=match ds with
 | [.lst ss]=>if ss.length≤100000 then (zrun ss ([],[])).bind fun z=>(zclose z.1 z.2)[0]? else none
 | _=>none
theorem Pile.closeAll {K:Frag}{H0 H:Hp}{l0:Addr}:∀ (n:Nat){G:Hp}{st:Zs}{ls:List Addr}{L0:List D},st.length=n→Same G H→(ls++[l0]).Nodup→(∀ a∈ls++[l0],G a=none∧H0 a=none)→Pile K H0 G H st ls L0 l0 [] →
  ∃ G' vs,Same G G'∧Same G' H∧(∀ b o,G' b=some o→G b=some o∨H0 b=none)∧H l0=some (.lst vs)∧Reps K G' (zclose st L0) vs
 | 0,G,st,ls,L0,hn,s,nd,gl,h=>by have:st=[]:=List.length_eq_zero_iff.mp hn;subst this;obtain⟨e,vs,q,r⟩:=h;exact⟨G,vs,Same.refl _,s,fun _ _ e =>.inl e,by rw[← List.append_nil vs];exact q,r⟩
 | n+1,G,st,ls,L0,hn,s,nd,gl,h=>by
  cases st with
  | nil=>cases hn
  | cons c st=>
   obtain⟨nm,its⟩:=c;obtain⟨l,r,G',rfl,s1,s2,fr,g',_,h'⟩:=h.close s nd gl;have len:(setI st L0 (L2.inner st L0++[.tup [.str nm,.lst its]])).1.length=n:=by
    cases st with
    | nil=>simp[setI] at hn ⊢;omega
    | cons c st=>obtain⟨a,b⟩:=c;simpa [setI] using hn
   obtain⟨G2,vs,t1,t2,fr2,e,rr⟩:=Pile.closeAll n len s2 (List.nodup_cons.mp nd).2 (fun a ha=>⟨g' a ha,(gl a (zB _ ha)).2⟩) h'
   refine⟨G2,vs,s1.trans t1,t2,fun b o q =>?_,e,?_⟩
   ·rcases fr2 b o q with z|z
    ·exact fr b o z
    ·exact .inr z
   ·rw[zclose_put];exact rr
structure ZLen (i:Nat) (z:Zs×List D):Prop where
 st:z.1.length≤i
 l0:z.2.length≤i
 all:∀ p∈z.1,p.2.length≤i
theorem ZLen.inner {i:Nat}{z:Zs×List D}(h:ZLen i z):(L2.inner z.1 z.2).length≤i:=by
 obtain⟨st,L0⟩:=z;cases st with
 | nil=>exact h.l0
 | cons c st=>exact h.all c zD
theorem ZLen.put {i:Nat}{st:Zs}{L0:List D}(h:ZLen i (st,L0)) (d:D):ZLen (i+1) (zput d st L0):=by
 have hi:=h.inner;have h1:st.length≤i:=h.st;have h2:L0.length≤i:=h.l0;cases st with
 | nil=>exact⟨by simp[zput,setI],by simp[zput,setI,L2.inner];omega,fun p hp=>by simp[zput,setI] at hp⟩
 | cons c st=>
  obtain⟨a,b⟩:=c;refine⟨by simp[zput,setI] at h1 ⊢;omega,by simp[zput,setI];omega,fun p hp =>?_⟩
  simp only[zput,setI,L2.inner] at hp;rcases zG.mp hp with rfl|hp
  ·have:=h.all (a,b) zD;simp at this ⊢;omega
  ·have:=h.all p (zB _ hp);omega
theorem ZLen.step {i:Nat}{z z':Zs×List D}{s:D}(h:ZLen i z) (e:zstep z s=some z'):ZLen (i+1) z':=by
 obtain⟨st,L0⟩:=z;unfold zstep at e
 split at e
 ·split at e
  ·split at e
   ·cases e
   ·cases e;refine⟨by have:=h.st;simp at this ⊢;omega,by have:=h.l0;simp at this ⊢;omega,fun p hp =>?_⟩
    rcases zG.mp hp with rfl|hp
    ·simp
    ·have:=h.all p hp;omega
  ·split at e
   ·split at e
    ·cases e
    ·cases e;exact h.put _
   ·cases e
 ·split at e
  ·split at e
   ·cases e
   ·cases e;rename_i nm its r hr;have hr:st=(nm,its)::r:=hr;subst hr;have:ZLen i (r,L0):=⟨by have:=h.st;simp at this ⊢;omega,h.l0,fun p hp=>h.all p (zB _ hp)⟩
    exact this.put _
  ·cases e
 ·cases e
theorem zstep_cases {z z':Zs×List D}{s:D}(e:zstep z s=some z'):(∃ x,s=.tup [.str sOpen,.str x]∧¬ (z.1=[]∧z.2≠[])∧z'=((x,[])::z.1,z.2)) ∨
  (∃ x,s=.tup [.str sText,.str x]∧z.1≠[]∧z'=zput (.str x) z.1 z.2)∨(∃ nm its r,s=.tup [.str sClose]∧z.1=(nm,its)::r∧z'=zput (part nm its) r z.2):=by
 unfold zstep at e
 split at e
 ·split at e
  ·rename_i k x hk;subst hk
   split at e
   ·cases e
   ·cases e;rename_i h;exact .inl ⟨x,rfl,h,rfl⟩
  ·split at e
   ·rename_i k x _ hk;subst hk
    split at e
    ·cases e
    ·cases e;rename_i h;exact .inr (.inl ⟨x,rfl,h,rfl⟩)
   ·cases e
 ·split at e
  ·rename_i k hk;subst hk
   split at e
   ·cases e
   ·cases e;rename_i nm its r h;exact .inr (.inr ⟨nm,its,r,rfl,h,rfl⟩)
  ·cases e
 ·cases e
theorem Pile.len {K:Frag}{H0 G H:Hp}:∀ {st:Zs}{ls:List Addr}{L0:List D}{l0:Addr}{tail:List V},Pile K H0 G H st ls L0 l0 tail→ls.length=st.length
 | [],ls,L0,l0,tail,h=>by rw[h.1];rfl
 | (nm,its)::st,ls,L0,l0,tail,h=>by obtain⟨l,r,t,rfl,_,_,_,_,hp⟩:=h;simp[Pile.len hp]
theorem sOT:¬ (sOpen=sText):=by decide +kernel
theorem sOC:¬ (sOpen=sClose):=by decide +kernel
theorem sTC:¬ (sText=sClose):=by decide +kernel
theorem last_cur (ls:List Addr) (l0:Addr):atI ((ls++[l0]).reverse.map V.ref) (-1)=some (.ref (ls.headD l0)):=by
 cases ls with
 | nil=>exact atI_last [] _
 | cons l r=>
  have:((l::r++[l0]).reverse.map V.ref)=((r++[l0]).reverse.map V.ref)++[.ref l]:=by simp
  rw[this];exact atI_last _ _
theorem Pile.isl {K:Frag}{H0 G H:Hp}:∀ {st:Zs}{r:List Addr}{L0:List D}{l0:Addr}{tail:List V},Pile K H0 G H st r L0 l0 tail→∀ a∈r++[l0],∃ o,H a=some (.lst o)
 | [],r,L0,l0,tail,h,a,ha=>by
  obtain⟨rfl,us,q',_⟩:=h;have:a=l0:=by simpa using ha
  subst this;exact⟨_,q'⟩
 | (nm,its)::st,r,L0,l0,tail,h,a,ha=>by
  obtain⟨l',r',t',rfl,⟨us,q',rr'⟩,ht',gt',h0',hp'⟩:=h;rcases zG.mp ha with rfl|ha
  ·exact⟨_,q'⟩
  ·exact Pile.isl hp' a ha
theorem head_mem (ls:List Addr) (l0:Addr):ls.headD l0∈ls++[l0]:=by cases ls<;>simp
end L2
end
noncomputable section
namespace L2
open PySem PySem.Spec PyProof.Rows
noncomputable section
variable {K:Frag}{G H0 H:Hp}{Nn:Addr}{cs:List (Addr×Addr×Addr)}{ns:List Nd}
end
end L2
end
noncomputable section
namespace L2
open PySem PySem.Spec PyProof.Rows
theorem ne_mem {q a:Addr}{ts:List Addr}{i:Nat}(h:q∉ts) (e:ts[i]?=some a):a≠q:=fun z=>by subst z;exact h (zX e)
theorem ne_mem' {q a:Addr}{ts:List Addr}(h:q∉ts) (m:a∈ts):q≠a:=fun z=>by subst z;exact h m
theorem nodup_inj {α:Type}:∀ {l:List α}{i j:Nat}{a:α},l.Nodup→l[i]?=some a→l[j]?=some a→i=j
 | [],i,j,a,_,h,_=>by simp at h
 | x::l,0,0,a,_,_,_=>rfl
 | x::l,0,j+1,a,nd,h,k=>by simp at h k;subst h;exact absurd (zX k) (List.nodup_cons.mp nd).1
 | x::l,i+1,0,a,nd,h,k=>by simp at h k;subst k;exact absurd (zX h) (List.nodup_cons.mp nd).1
 | x::l,i+1,j+1,a,nd,h,k=>by simp at h k;rw[nodup_inj (List.nodup_cons.mp nd).2 h k]
structure Ly where
 names:List D
 pars:List Int
 texts:List (List D)
 row:List Int
structure LayR (K:Frag) (G H0 H:Hp) (A C dx n p t R:Addr) (ts:List Addr) (z:Ly):Prop where
 obj:H A=some (.ins C dx [("names",.ref n),("parents",.ref p),("texts",.ref t)])
 nm:∃ vs,H n=some (.lst vs)∧Reps K G z.names vs
 pa:H p=some (.lst (z.pars.map V.int))
 tx:H t=some (.lst (ts.map V.ref))
 tl:ts.length=z.texts.length
 te:∀ (i:Nat) a ds,ts[i]?=some a→z.texts[i]?=some ds→∃ vs,H a=some (.lst vs)∧Reps K G ds vs
 ro:H R=some (.lst (z.row.map V.int))
 nd:(n::p::t::R::ts).Nodup
 new0:∀ a∈A::n::p::t::R::ts,H0 a=none∧G a=none
noncomputable section
variable {K:Frag}{G H0 H:Hp}{A C dx n p t R:Addr}{ts:List Addr}{z:Ly}
theorem LayR.apart (L:LayR K G H0 H A C dx n p t R ts z):n≠p∧n≠t∧n≠R∧n∉ts∧p≠t∧p≠R∧p∉ts∧t≠R∧t∉ts∧R∉ts∧ts.Nodup:=by
 have:=L.nd;simp only[List.nodup_cons,zG,not_or] at this;obtain⟨⟨a1,a2,a3,a4⟩,⟨b1,b2,b3⟩,⟨c1,c2⟩,d1,e⟩:=this;exact⟨a1,a2,a3,a4,b1,b2,b3,c1,c2,d1,e⟩
theorem LayR.nA (L:LayR K G H0 H A C dx n p t R ts z){q:Addr}{vs:List V}(h:H q=some (.lst vs)):A≠q:=fun e=>by
 subst e;rw[L.obj] at h;cases h
theorem LayR.par (L:LayR K G H0 H A C dx n p t R ts z) (x:Int):LayR K G H0 (upd H p (.lst (z.pars.map V.int++[.int x]))) A C dx n p t R ts { z with pars:=z.pars++[x] }:=by
 obtain⟨a1,a2,a3,a4,b1,b2,b3,c1,c2,d1,e⟩:=L.apart;obtain⟨vs,hn,rn⟩:=L.nm;refine⟨by rw[upd_ne (L.nA L.pa)];exact L.obj,⟨vs,by rw[upd_ne a1];exact hn,rn⟩,by rw[upd_same];simp,by rw[upd_ne b1.symm];exact L.tx,L.tl,fun i a ds ea ed =>?_,by rw[upd_ne b2.symm];exact L.ro,L.nd,L.new0⟩
 obtain⟨vs,h,r⟩:=L.te i a ds ea ed;exact⟨vs,by rw[upd_ne (ne_mem b3 ea)];exact h,r⟩
theorem LayR.rowSet (L:LayR K G H0 H A C dx n p t R ts z) (r:List Int):LayR K G H0 (upd H R (.lst (r.map V.int))) A C dx n p t R ts { z with row:=r }:=by
 obtain⟨a1,a2,a3,a4,b1,b2,b3,c1,c2,d1,e⟩:=L.apart;obtain⟨vs,hn,rn⟩:=L.nm;refine⟨by rw[upd_ne (L.nA L.ro)];exact L.obj,⟨vs,by rw[upd_ne a3];exact hn,rn⟩,by rw[upd_ne b2];exact L.pa,by rw[upd_ne c1];exact L.tx,L.tl,fun i a ds ea ed =>?_,upd_same,L.nd,L.new0⟩
 obtain⟨vs,h,r⟩:=L.te i a ds ea ed;exact⟨vs,by rw[upd_ne (ne_mem d1 ea)];exact h,r⟩
theorem LayR.name (L:LayR K G H0 H A C dx n p t R ts z){vs:List V}(hv:H n=some (.lst vs)){d:D}{v:V}(r:Rep K G d v):LayR K G H0 (upd H n (.lst (vs++[v]))) A C dx n p t R ts { z with names:=z.names++[d] }:=by
 obtain⟨a1,a2,a3,a4,b1,b2,b3,c1,c2,d1,e⟩:=L.apart;obtain⟨vs',hn,rn⟩:=L.nm;rw[hv] at hn;cases hn;refine⟨by rw[upd_ne (L.nA hv)];exact L.obj,⟨_,upd_same,rn.append (.cons r .nil)⟩,by rw[upd_ne a1.symm];exact L.pa,by rw[upd_ne a2.symm];exact L.tx,L.tl,fun i a ds ea ed =>?_,by rw[upd_ne a3.symm];exact L.ro,L.nd,L.new0⟩
 obtain⟨vs,h,r⟩:=L.te i a ds ea ed;exact⟨vs,by rw[upd_ne (ne_mem a4 ea)];exact h,r⟩
theorem LayR.lay (L:LayR K G H0 H A C dx n p t R ts z) (g:Same G H){q:Addr}{o:HO}(hq:H q=none):LayR K G H0 (upd H q o) A C dx n p t R ts z:=by
 obtain⟨vs,hn,rn⟩:=L.nm;refine⟨by rw[upd_ne (ne_of_none L.obj hq)];exact L.obj,⟨vs,by rw[upd_ne (ne_of_none hn hq)];exact hn,rn⟩,by rw[upd_ne (ne_of_none L.pa hq)];exact L.pa,by rw[upd_ne (ne_of_none L.tx hq)];exact L.tx,L.tl,fun i a ds ea ed =>?_,by rw[upd_ne (ne_of_none L.ro hq)];exact L.ro,L.nd,L.new0⟩
 obtain⟨vs,h,r⟩:=L.te i a ds ea ed;exact⟨vs,by rw[upd_ne (ne_of_none h hq)];exact h,r⟩
theorem LayR.ext {G' H':Hp}(L:LayR K G H0 H A C dx n p t R ts z) (E:Ext G H G' H'):LayR K G' H0 H' A C dx n p t R ts z:=by
 obtain⟨vs,hn,rn⟩:=L.nm;refine⟨E.hh _ _ L.obj,⟨vs,E.hh _ _ hn,Reps.mono E.gg _ rn⟩,E.hh _ _ L.pa,E.hh _ _ L.tx,L.tl,fun i a ds ea ed =>?_,E.hh _ _ L.ro,L.nd,fun a ha=>⟨(L.new0 a ha).1,?_⟩⟩
 ·obtain⟨vs,h,r⟩:=L.te i a ds ea ed;exact⟨vs,E.hh _ _ h,Reps.mono E.gg _ r⟩
 ·have g:=(L.new0 a ha).2;simp only[zG] at ha;rcases ha with rfl|rfl|rfl|rfl|rfl|hm
  ·exact E.nil L.obj g
  ·exact E.nil hn g
  ·exact E.nil L.pa g
  ·exact E.nil L.tx g
  ·exact E.nil L.ro g
  ·obtain⟨i,hi⟩:=List.mem_iff_getElem?.mp hm;have hl:i<z.texts.length:=by rw[← L.tl];exact(zC.mp hi).1
   obtain⟨vs,h,_⟩:=L.te i a z.texts[i] hi (zI hl);exact E.nil h g
theorem LayR.textNew (L:LayR K G H0 H A C dx n p t R ts z) (s0:Same H0 H) (g:Same G H){q:Addr}(hq:H q=none):LayR K G H0 (upd (upd H q (.lst [])) t (.lst (ts.map V.ref++[.ref q]))) A C dx n p t R (ts++[q]) { z with texts:=z.texts++[[]] }:=by
 obtain⟨a1,a2,a3,a4,b1,b2,b3,c1,c2,d1,e⟩:=L.apart;have L':=L.lay (o :=.lst []) g hq;obtain⟨vs,hn,rn⟩:=L'.nm;have qt:q≠t:=fun z=>by rw[z,L.tx] at hq;cases hq
 have qn:q≠n:=fun z=>by obtain⟨vs,h,_⟩:=L.nm;rw[z,h] at hq;cases hq
 have qp:q≠p:=fun z=>by rw[z,L.pa] at hq;cases hq
 have qR:q≠R:=fun z=>by rw[z,L.ro] at hq;cases hq
 have qts:q∉ts:=fun hm=>by
  obtain⟨i,hi⟩:=List.mem_iff_getElem?.mp hm;have hl:i<z.texts.length:=by rw[← L.tl];exact(zC.mp hi).1
  obtain⟨vs,h,_⟩:=L.te i q z.texts[i] hi (zI hl);rw[hq] at h;cases h
 refine⟨by rw[upd_ne (L'.nA L'.tx)];exact L'.obj,⟨vs,by rw[upd_ne a2];exact hn,rn⟩,by rw[upd_ne b1];exact L'.pa,by rw[upd_same];simp,by simp[L.tl],fun i a ds ea ed =>?_,by rw[upd_ne c1.symm];exact L'.ro,?_,fun a ha =>?_⟩
 ·by_cases hi:i<ts.length
  ·rw[yE hi] at ea;rw[yE (by rw[← L.tl];exact hi)] at ed
   obtain⟨vs,h,r⟩:=L'.te i a ds ea ed;exact⟨vs,by rw[upd_ne (ne_mem c2 ea)];exact h,r⟩
  ·have hl:=(zC.mp ea).1;have ei:i=ts.length:=by simp at hl;omega
   subst ei;simp at ea;rw[L.tl] at ed;simp at ed;subst ea ed;exact⟨[],by rw[upd_ne qt,upd_same],.nil⟩
 ·simp only[List.nodup_cons,zG,zO,List.not_mem_nil,or_false,not_or,List.nodup_append];refine⟨⟨a1,a2,a3,a4,qn.symm⟩,⟨b1,b2,b3,qp.symm⟩,⟨c1,c2,qt.symm⟩,⟨d1,qR.symm⟩,e,by simp,?_⟩
  intro a ha b hb;subst hb;exact ne_mem' (fun h=>qts h) ha |>.symm
 ·have cases':a∈A::n::p::t::R::ts∨a=q:=by simp only[zG,zO,List.not_mem_nil,or_false] at ha ⊢;rcases ha with h|h|h|h|h|h|h<;>simp[h]
  rcases cases' with h|rfl
  ·exact L.new0 a h
  ·exact⟨s0.free hq,g.free hq⟩
theorem LayR.textApp (L:LayR K G H0 H A C dx n p t R ts z){i:Nat}{a:Addr}{ds:List D}{vs:List V}(ea:ts[i]?=some a) (ed:z.texts[i]?=some ds) (hv:H a=some (.lst vs)){d:D}{v:V}(r:Rep K G d v) :
  LayR K G H0 (upd H a (.lst (vs++[v]))) A C dx n p t R ts { z with texts:=z.texts.set i (ds++[d]) }:=by
 obtain⟨a1,a2,a3,a4,b1,b2,b3,c1,c2,d1,e⟩:=L.apart;have ma:a∈ts:=zX ea;obtain⟨vn,hn,rn⟩:=L.nm;obtain⟨vs',h',r'⟩:=L.te i a ds ea ed;rw[hv] at h';cases h';refine⟨by rw[upd_ne (L.nA hv)];exact L.obj,⟨vn,by rw[upd_ne (ne_mem' a4 ma)];exact hn,rn⟩,by rw[upd_ne (ne_mem' b3 ma)];exact L.pa,by rw[upd_ne (ne_mem' c2 ma)];exact L.tx,by simp[L.tl],fun j b es eb ee =>?_,by rw[upd_ne (ne_mem' d1 ma)];exact L.ro,L.nd,L.new0⟩
 by_cases hij:i=j
 ·subst hij;rw[ea] at eb;cases eb;rw[List.getElem?_set_self (zC.mp ed).1] at ee;cases ee;exact⟨_,upd_same,r'.append (.cons r .nil)⟩
 ·rw[zK hij] at ee;obtain⟨ws,h,rr⟩:=L.te j b es eb ee;refine⟨ws,?_,rr⟩;have:b≠a:=fun z=>by subst z;exact hij (nodup_inj e ea eb)
  rw[upd_ne this];exact h
noncomputable def lyD (c:Str) (z:Ly):D :=.ins c ["names", "parents", "texts"] [.lst z.names,.lst (z.pars.map D.int),.lst (z.texts.map D.lst)]
theorem reps_index {K:Frag}{G:Hp}:∀ {ds:List D}{vs:List V},ds.length=vs.length→(∀ (i:Nat) d v,ds[i]?=some d→vs[i]?=some v→Rep K G d v)→Reps K G ds vs
 | [],[],_,_ =>.nil
 | d::ds,[],h,_=>by simp at h
 | [],v::vs,h,_=>by simp at h
 | d::ds,v::vs,h,k =>.cons (k 0 d v rfl rfl) (reps_index (by simpa using h) fun i d v e1 e2=>k (i+1) d v (by simpa using e1) (by simpa using e2))
theorem LayR.freeze (L:LayR K G H0 H A C dx n p t R ts z) (g:Same G H){c:Str}(hc:nsIn K mainGlobals c=some (some (.ref C))):∃ G',Same G G'∧Same G' H∧(∀ b o,G' b=some o→G b=some o∨H0 b=none)∧Rep K G' (lyD c z) (.ref A):=by
 let S:=A::n::p::t::ts
 have nS:∀ b∈S,H0 b=none∧G b=none:=fun b hb=>L.new0 b (by simp only[S,zG] at hb ⊢;rcases hb with h|h|h|h|h<;>simp[h])
 let G':Hp:=fun b=>if b∈S then H b else G b
 have inS:∀ b,b∈S→G' b=H b:=fun b h=>by show (if b∈S then H b else G b)=_;rw[if_pos h]
 have sg:Same G G':=fun b o e=>by
  show (if b∈S then H b else G b)=_
  rw[if_neg (fun h=>by rw[(nS b h).2] at e;cases e)];exact e
 obtain⟨vs,hn,rn⟩:=L.nm;refine⟨G',sg,fun b o e =>?_,fun b o e =>?_,?_⟩
 ·by_cases h:b∈S
  ·rw[inS b h] at e;exact e
  ·have e:(if b∈S then H b else G b)=some o:=e
   rw[if_neg h] at e;exact g _ _ e
 ·by_cases h:b∈S
  ·exact .inr (nS b h).1
  ·have e:(if b∈S then H b else G b)=some o:=e
   rw[if_neg h] at e;exact .inl e
 ·refine rep_ins.mpr ⟨A,C,dx,[.ref n,.ref p,.ref t],rfl,hc,by rw[inS A (by simp[S])];exact L.obj,rfl,.cons ?_ (.cons ?_ (.cons ?_ .nil))⟩
  ·exact rep_lst.mpr ⟨n,vs,rfl,by rw[inS n (by simp[S])];exact hn,Reps.mono sg _ rn⟩
  ·exact rep_lst.mpr ⟨p,_,rfl,by rw[inS p (by simp[S])];exact L.pa,Reps.ints _⟩
  ·refine rep_lst.mpr ⟨t,_,rfl,by rw[inS t (by simp[S])];exact L.tx,reps_index (by simp[L.tl]) fun i d v e1 e2 =>?_⟩
   rw[zM] at e1 e2;cases q1:z.texts[i]? with
   | none=>rw[q1] at e1;cases e1
   | some ds=>
    cases q2:ts[i]? with
    | none=>rw[q2] at e2;cases e2
    | some a=>rw[q1] at e1;rw[q2] at e2;cases e1;cases e2;obtain⟨ws,h,r⟩:=L.te i a ds q2 q1;exact rep_lst.mpr ⟨a,ws,rfl,by rw[inS a (by simp[S,zX q2])];exact h,Reps.mono sg _ r⟩
end
noncomputable def lstep (z:Ly) (s:D):Option Ly:=match s with
 | .tup [.str k,.str x]=>
  if k=sOpen then some { names:=z.names++[.str x],pars:=z.pars++[z.row.getLastD (-1)],texts:=z.texts++[[]],row:=z.row++[(z.names.length:Int)] }
  else if k=sText then (match z.row.getLast? with|some i=>if 0≤i then (z.texts[i.toNat]?).map fun ds=>{ z with texts:=z.texts.set i.toNat (ds++[.str x]) } else none|none=>none) else none
 | .tup [.str k]=>if k=sClose then (if z.row=[] then none else some { z with row:=z.row.dropLast }) else none
 | _=>none
noncomputable def lrun:List D→Ly→Option Ly
 | [],z=>some z
 | s::ss,z=>(lstep z s).bind (lrun ss)
noncomputable def F_laid (c:Str) (Fs:List D→Option (List D)) (ds:List D):Option D:=(Fs ds).bind fun ss=>if ss.length≤100000 then (lrun ss ⟨[],[],[],[]⟩).map (lyD c) else none
end L2
end
noncomputable section
namespace L2
open PySem PySem.Spec PyProof.Rows
theorem for_inv {τ:DTg}{g:DG}(I:Nat→DEnv→Prop):∀ (ds:List D) (i:Nat) (ρ:DEnv),I i ρ→(∀ j d ρ,ds[j]?=some d→I (i+j) ρ→∃ ρ1 ρ2,τ d ρ=some ρ1∧g ρ1=some (.nx ρ2)∧I (i+j+1) ρ2) →
  ∃ ρ',forD τ g ds ρ=some (.nx ρ')∧I (i+ds.length) ρ'
 | [],i,ρ,h,_=>⟨ρ,rfl,h⟩
 | d::ds,i,ρ,h,st=>by
  obtain⟨ρ1,ρ2,e1,e2,h2⟩:=st 0 d ρ rfl h;obtain⟨ρ',e,h'⟩:=for_inv I ds (i+1) ρ2 h2 fun j d ρ hj hI=>by
   have:=st (j+1) d ρ (by simpa using hj) (by rw[show i+(j+1)=i+1+j by omega];exact hI)
   rw[show i+(j+1)+1=i+1+j+1 by omega] at this
   exact this
  refine⟨ρ',?_,by rw[show i+(d::ds).length=i+1+ds.length by simp;omega];exact h'⟩
  unfold forD;rw[e1];simp only[zA,e2];exact e
theorem for_inv0 {τ:DTg}{g:DG}(I:Nat→DEnv→Prop){ds:List D}{ρ:DEnv}(h0:I 0 ρ) (st:∀ j d ρ,ds[j]?=some d→I j ρ→∃ ρ1 ρ2,τ d ρ=some ρ1∧g ρ1=some (.nx ρ2)∧I (j+1) ρ2):∃ ρ',forD τ g ds ρ=some (.nx ρ')∧I ds.length ρ':=by
 have:=for_inv (τ:=τ) (g:=g) I ds 0 ρ h0 (fun j d ρ hj hI=>by rw[Nat.zero_add] at hI ⊢;exact st j d ρ hj hI)
 rw[Nat.zero_add] at this;exact this
theorem atI_pos {α:Type}{xs:List α}{z:Int}(h0:0≤z) (h1:z<xs.length):∃ v,atI xs z=some v∧v∈xs:=by
 have hz:z.toNat<xs.length:=by omega
 refine⟨xs[z.toNat],?_,List.getElem_mem hz⟩;have e:((z.toNat:Nat):Int)=z:=by omega
 have:=atI_nat (xs:=xs) (j:=z.toNat) (v:=xs[z.toNat]) (by simp[hz])
 rw[e] at this;exact this
theorem atI_int {xs:List Int}{z:Int}(h0:0≤z) (h1:z<xs.length):∃ v,atI (xs.map D.int) z=some (.int v):=by
 obtain⟨v,e,hm⟩:=atI_pos (xs:=xs) h0 h1;exact⟨v,by rw[atI_map,e];rfl⟩
theorem atI_str {xs:List Str}{z:Int}(h0:0≤z) (h1:z<xs.length):∃ v,atI (xs.map D.str) z=some (.str v)∧v∈xs:=by
 obtain⟨v,e,hm⟩:=atI_pos (xs:=xs) h0 h1;exact⟨v,by rw[atI_map,e];rfl,hm⟩
theorem ixN_pos {n:Nat}{z:Int}(h0:0≤z) (h1:z<n):ixN n z=some z.toNat:=by unfold ixN;rw[if_pos h0,if_pos h1]
theorem rngD_get {lo:Int}{n j:Nat}{d:D}(h:(rngD lo n)[j]?=some d):j<n∧d=.int (lo+j):=by
 unfold rngD at h;rw[zM] at h;cases q:(List.range n)[j]? with
 | none=>rw[q] at h;cases h
 | some k=>
  rw[q] at h;cases h;obtain⟨h1,h2⟩:=zC.mp q;have:k=j:=by simpa using h2.symm
  subst this;exact⟨by simpa using h1,rfl⟩
theorem rngD_len (lo:Int) (n:Nat):(rngD lo n).length=n:=by simp[rngD]
theorem lc_all {ρ:DEnv}{τ:DTg}{fe:DF}{h:D→D}:∀ {ds:List D},(∀ d∈ds,∃ ρ1,τ d ρ=some ρ1∧fe ρ1=some (h d))→lcD ρ τ tYes fe ds=some (ds.map h)
 | [],_=>rfl
 | d::ds,hd=>by
  obtain⟨ρ1,e1,e2⟩:=hd d zD;unfold lcD;rw[e1];simp only[tYes,zA,if_true,e2];rw[lc_all fun d h=>hd d (zB _ h)]
  rfl
theorem bigE_eq:bigE=1000000:=rfl
theorem cut_le {α:Type}(xs:List α) (l h:Option Int):(cut xs l h).length≤xs.length:=by
 unfold cut;rw[List.length_take,List.length_drop];omega
theorem cut_to {α:Type}(xs:List α){k:Int}(h0:0≤k):cut xs none (some k)=xs.take k.toNat:=by
 unfold cut HT.sIx;simp only[List.drop_zero,Nat.sub_zero,if_neg (show ¬ k<0 by omega)]
 by_cases h:k.toNat≤xs.length
 ·rw[Nat.min_eq_left h]
 ·rw[Nat.min_eq_right (by omega),List.take_length,List.take_of_length_le (by omega)]
theorem cut_from {α:Type}(xs:List α){k:Int}(h0:0≤k):cut xs (some k) none=xs.drop k.toNat:=by
 unfold cut HT.sIx;simp only[if_neg (show ¬ k<0 by omega)]
 by_cases h:k.toNat≤xs.length
 ·rw[Nat.min_eq_left h,List.take_of_length_le (by simp)]
 ·rw[Nat.min_eq_right (by omega),Nat.sub_self,List.take_zero,List.drop_eq_nil_of_le (by omega)]
end L2
end
noncomputable section
namespace L2
open PySem
noncomputable def isS:D→Bool
 | .str _=>true
 | _=>false
noncomputable def texts (its:List D):List D:=its.filter isS
end L2
end
noncomputable section
namespace L2
open PySem
theorem sSeq_nx {g h:DG}{ρ ρ':DEnv}(e:g ρ=some (.nx ρ')):sSeq g h ρ=h ρ':=by simp only[sSeq,e,zA]
theorem sIf_f {t:DT}{g h:DG}{ρ:DEnv}(e:t ρ=some false):sIf t g h ρ=h ρ:=by simp[sIf,e]
theorem sIf_t {t:DT}{g h:DG}{ρ:DEnv}(e:t ρ=some true):sIf t g h ρ=g ρ:=by simp[sIf,e]
theorem sSet_eq {i:Nat}{f:DF}{ρ:DEnv}{d:D}(e:f ρ=some d):sSet i f ρ=some (.nx (ρ.set i (some d))):=by simp only[sSet,e,zT]
theorem sRet_eq {f:DF}{ρ:DEnv}{d:D}(e:f ρ=some d):sRet f ρ=some (.rt d):=by simp only[sRet,e,zT]
theorem eF_eq {f:DL}{ρ:DEnv}{ds:List D}(e:f ρ=some ds):eF f ρ=some (.lst ds):=by simp only[eF,e,zT]
theorem e2_eq {o:D→D→Option D}{f g:DF}{ρ:DEnv}{x y:D}(e1:f ρ=some x) (e2':g ρ=some y):e2 o f g ρ=o x y:=by simp only[e2,e1,e2',zA]
theorem tB1_eq {f:DF}{ρ:DEnv}{b:Bool}(e:f ρ=some (.bl b)):tB1 f ρ=some b:=by simp only[tB1,e,zA]
theorem fLC_eq {f:DL}{src:List (Option Nat)}{τ:DTg}{ft:DT}{fe:DF}{ρ:DEnv}{ds rs:List D}(e:f ρ=some ds) (hz:ds.length≤bigE) (h:lcD (srcρ src ρ) τ ft fe ds=some rs):fLC f src τ ft fe ρ=some rs:=by simp only[fLC,e,zA,hz,if_true,h]
theorem iR1_eq {f:DF}{ρ:DEnv}{z:Int}(e:f ρ=some (.int z)) (h : -(2 ^ 62)≤z∧z<2 ^ 62):iR1 f ρ=some (rngD 0 z.toNat):=by
 simp only[iR1,e,zA];rw[if_pos h]
theorem small62 {n:Nat}(h:n≤100000) : -(2 ^ 62)≤(n:Int)∧(n:Int)<2 ^ 62:=
 ⟨Int.le_trans (by decide) (Int.natCast_nonneg _),Int.lt_of_le_of_lt (Int.ofNat_le.mpr h) (by decide)⟩
theorem zrun_app (b:List D):∀ (a:List D) (z:Zs×List D),zrun (a++b) z=(zrun a z).bind (zrun b)
 | [],z=>rfl
 | s::a,z=>by
  show (zstep z s).bind (zrun (a++b))=((zstep z s).bind (zrun a)).bind (zrun b);cases zstep z s with
  | none=>rfl
  | some z'=>exact zrun_app b a z'
noncomputable def isSign (s:D):Prop:=(∃ x,s=.tup [.str sOpen,.str x])∨(∃ x,s=.tup [.str sText,.str x])∨s=.tup [.str sClose]
theorem isSign.ok {s:D}(h:isSign s) (n:Nat):dOk s (n+1)=true:=by
 rcases h with ⟨x,rfl⟩|⟨x,rfl⟩|rfl<;>simp[dOk,dOks]
theorem signs_dOks {ss:List D}(h:∀ s∈ss,isSign s) (n:Nat):dOks ss (n+1)=true:=by
 induction ss with
 | nil=>simp[dOks]
 | cons s ss ih=>simp only[dOks,(h s zD).ok n,ih fun s hs=>h s (zB _ hs),Bool.and_self]
theorem zrun_snoc (s:D):∀ (ss:List D) (z:Zs×List D),zrun (ss++[s]) z=(zrun ss z).bind fun z'=>zstep z' s
 | [],z=>by show (zstep z s).bind (zrun [])=zstep z s;cases zstep z s<;>rfl
 | t::ss,z=>by
  show (zstep z t).bind (zrun (ss++[s]))=((zstep z t).bind (zrun ss)).bind _;cases zstep z t with
  | none=>rfl
  | some z'=>exact zrun_snoc s ss z'
structure SG (ss:List D) (dep:Int):Prop where
 sg:∀ s∈ss,isSign s
 ex:∃ z,zrun ss ([],[])=some z∧dep=z.1.length∧(ss=[]→z=([],[]))
theorem SG.open {ss:List D}{dep:Int}(h:SG ss dep) (x:Str) (hc:ss=[]∨0<dep):SG (ss++[.tup [.str sOpen,.str x]]) (dep+1):=by
 obtain⟨z,e1,e2,e3⟩:=h.ex;refine⟨fun s hs =>?_,((x,[])::z.1,z.2),?_,by simp;omega,fun h=>by simp at h⟩
 ·rcases zO.mp hs with hs|hs
  ·exact h.sg s hs
  ·exact .inl ⟨x,by simpa using hs⟩
 ·rw[zrun_snoc,e1];simp only[zA];have:¬ (z.1=[]∧z.2≠[]):=fun ⟨a,b⟩=>by
   rcases hc with hc|hc
   ·rw[e3 hc] at b;exact b rfl
   ·rw[a] at e2;simp at e2;omega
  simp[zstep,this]
theorem SG.text {ss:List D}{dep:Int}(h:SG ss dep) (x:Str) (hc:0<dep):SG (ss++[.tup [.str sText,.str x]]) dep:=by
 obtain⟨z,e1,e2,e3⟩:=h.ex;have hz:z.1≠[]:=fun a=>by rw[a] at e2;simp at e2;omega
 refine⟨fun s hs =>?_,zput (.str x) z.1 z.2,?_,?_,fun h=>by simp at h⟩
 ·rcases zO.mp hs with hs|hs
  ·exact h.sg s hs
  ·exact .inr (.inl ⟨x,by simpa using hs⟩)
 ·rw[zrun_snoc,e1];simp only[zA];have:¬ sText=sOpen:=fun z=>sOT z.symm
  simp[zstep,this,hz]
 ·obtain⟨st,L0⟩:=z;cases st with
  | nil=>exact absurd rfl hz
  | cons c st=>obtain⟨a,b⟩:=c;exact e2
theorem SG.close {ss:List D}{dep:Int}(h:SG ss dep) (hc:0<dep):SG (ss++[.tup [.str sClose]]) (dep-1):=by
 obtain⟨z,e1,e2,e3⟩:=h.ex;obtain⟨st,L0⟩:=z;cases st with
 | nil=>simp at e2;omega
 | cons c st=>
  obtain⟨nm,its⟩:=c;refine⟨fun s hs =>?_,zput (part nm its) st L0,?_,?_,fun h=>by simp at h⟩
  ·rcases zO.mp hs with hs|hs
   ·exact h.sg s hs
   ·exact .inr (.inr (by simpa using hs))
  ·rw[zrun_snoc,e1];simp[zstep]
  ·have e2:dep=((st.length+1:Nat):Int):=by simpa using e2
   cases st with
   | nil=>simp only[zput,setI,List.length_nil] at e2 ⊢;omega
   | cons c st=>obtain⟨a,b⟩:=c;simp[zput,setI] at e2 ⊢;omega
theorem eqSameD {d:D}(h:dOk d 180=true):oEq d d=some (.bl true):=by
 simp only[oEq];rw[if_pos (by rw[h];rfl),deq_refl _ 180 h]
theorem dOk_lst {ds:List D}(h:dOks ds 179=true):dOk (.lst ds) 180=true:=by simp only[dOk];rw[show 180-1=179 by rfl,h];rfl
noncomputable abbrev sgO (x:Str):D :=.tup [.str sOpen,.str x]
noncomputable abbrev sgT (x:Str):D :=.tup [.str sText,.str x]
noncomputable abbrev sgC:D :=.tup [.str sClose]
inductive Sgs:List D→List D→Prop
 | nil:Sgs [] []
 | txt {x:Str}{ds ts:List D}:Sgs ds ts→Sgs (.str x::ds) (sgT x::ts)
 | non {ds ts:List D}:Sgs ds ts→Sgs (.non::ds) (sgC::ts)
 | prt {nm:Str}{its ss ds ts:List D}:Sgs its ss→Sgs ds ts→Sgs (.tup [.str nm,.lst its]::ds) (sgO nm::(ss++sgC::ts))
theorem Sgs.append {a x b y:List D}(h:Sgs a x) (k:Sgs b y):Sgs (a++b) (x++y):=by
 induction h with
 | nil=>exact k
 | txt _ ih=>exact .txt ih
 | non _ ih=>exact .non ih
 | @prt nm _ _ _ _ h1 _ _ ih=>have:=Sgs.prt (nm:=nm) h1 ih;simpa using this
theorem Sgs.len {a x:List D}(h:Sgs a x):a.length≤x.length:=by
 induction h with
 | nil=>exact zL _
 | txt _ ih=>simp;exact ih
 | non _ ih=>simp;exact ih
 | prt _ _ _ ih=>simp;omega
noncomputable def Em:Zs→List D→List D→Prop
 | [],L0,ss=>Sgs L0 ss
 | (nm,its)::st,L0,ss=>∃ a b,Em st L0 a∧Sgs its b∧ss=a++sgO nm::b
theorem Em.put {d:D}{c:List D}(hd:Sgs [d] c):∀ {st:Zs}{L0 ss:List D},Em st L0 ss→Em (zput d st L0).1 (zput d st L0).2 (ss++c)
 | [],L0,ss,h=>by have h:Sgs L0 ss:=h;exact h.append hd
 | (nm,its)::st,L0,ss,⟨a,b,h1,h2,e⟩=>⟨a,b++c,h1,h2.append hd,by rw[e];simp⟩
theorem Em.step {z z':Zs×List D}{s:D}{ss:List D}(h:Em z.1 z.2 ss) (e:zstep z s=some z'):Em z'.1 z'.2 (ss++[s]):=by
 rcases zstep_cases e with ⟨x,rfl,_,rfl⟩|⟨x,rfl,_,rfl⟩|⟨nm,its,r',rfl,hst,rfl⟩
 ·exact⟨ss,[],h,.nil,rfl⟩
 ·exact h.put (.txt .nil)
 ·rw[hst] at h;obtain⟨a,b,h1,h2,rfl⟩:=h;have:=h1.put (d:=part nm its) (Sgs.prt (nm:=nm) h2 .nil);simpa using this
theorem Em.run:∀ (ss:List D) {z z':Zs×List D}{a:List D},Em z.1 z.2 a→zrun ss z=some z'→Em z'.1 z'.2 (a++ss)
 | [],z,z',a,h,e=>by cases e;simpa using h
 | s::ss,z,z',a,h,e=>by
  have e:(zstep z s).bind (zrun ss)=some z':=e;cases es:zstep z s with
  | none=>rw[es] at e;cases e
  | some z1=>rw[es] at e;have:=Em.run ss (h.step es) e;simpa using this
noncomputable def One (z:Zs×List D):Prop:=(z.1≠[]→z.2=[])∧z.2.length≤1
theorem One.put {d:D}{st:Zs}{L0:List D}(h:L0=[]):One (zput d st L0):=by
 subst h;cases st with
 | nil=>exact⟨fun z=>absurd rfl z,zL _⟩
 | cons c st=>obtain⟨a,b⟩:=c;exact⟨fun _=>rfl,Nat.zero_le _⟩
theorem One.step {z z':Zs×List D}{s:D}(h:One z) (e:zstep z s=some z'):One z':=by
 rcases zstep_cases e with ⟨x,rfl,ho,rfl⟩|⟨x,rfl,hne,rfl⟩|⟨nm,its,r',rfl,hst,rfl⟩
 ·refine⟨fun _ =>?_,h.2⟩
  by_cases hz:z.1=[]
  ·show z.2=[];by_cases h2:z.2=[]
   ·exact h2
   ·exact absurd ⟨hz,h2⟩ ho
  ·exact h.1 hz
 ·exact One.put (h.1 hne)
 ·exact One.put (h.1 (by rw[hst];simp))
theorem One.run:∀ (ss:List D) {z z':Zs×List D},One z→zrun ss z=some z'→One z'
 | [],z,z',h,e=>by cases e;exact h
 | s::ss,z,z',h,e=>by
  have e:(zstep z s).bind (zrun ss)=some z':=e;cases es:zstep z s with
  | none=>rw[es] at e;cases e
  | some z1=>rw[es] at e;exact One.run ss (h.step es) e
noncomputable def headIs (k:Str):D→Bool
 | .tup (.str x::_)=>x==k
 | _=>false
noncomputable def cnt (k:Str) (ss:List D):Nat:=(ss.filter (headIs k)).length
theorem cnt_cons (k:Str) (s:D) (ss:List D):cnt k (s::ss)=(if headIs k s=true then 1 else 0)+cnt k ss:=by
 unfold cnt;by_cases h:headIs k s=true
 ·simp[h];omega
 ·have:headIs k s=false:=by simpa using h
  simp[this]
theorem oo:headIs sOpen (sgO x)=true:=by simp[headIs]
theorem ot:headIs sOpen (sgT x)=false:=by simp[headIs];exact fun z=>sOT z.symm
theorem oc:headIs sOpen sgC=false:=by simp[headIs];exact fun z=>sOC z.symm
theorem co:headIs sClose (sgO x)=false:=by simp[headIs];exact fun z=>sOC z
theorem ct:headIs sClose (sgT x)=false:=by simp[headIs];exact fun z=>sTC z
theorem cc:headIs sClose sgC=true:=by simp[headIs]
theorem zput_len (d:D) (st:Zs) (L0:List D):(zput d st L0).1.length=st.length:=by
 cases st with
 | nil=>rfl
 | cons c st=>obtain⟨a,b⟩:=c;rfl
theorem zlen_run:∀ (ss:List D) {z z':Zs×List D},zrun ss z=some z'→(z'.1.length:Int)=z.1.length+cnt sOpen ss-cnt sClose ss
 | [],z,z',e=>by cases e;simp[cnt]
 | s::ss,z,z',e=>by
  have e:(zstep z s).bind (zrun ss)=some z':=e;cases es:zstep z s with
  | none=>rw[es] at e;cases e
  | some z1=>
   rw[es] at e;have ih:=zlen_run ss e;rw[cnt_cons,cnt_cons];rcases zstep_cases es with ⟨x,rfl,ho,rfl⟩|⟨x,rfl,hne,rfl⟩|⟨nm,its,r',rfl,hst,rfl⟩
   ·rw[if_pos oo,if_neg (by rw[co];decide)]
    simp at ih ⊢;omega
   ·rw[if_neg (by rw[ot];decide),if_neg (by rw[ct];decide)]
    rw[zput_len] at ih;simp at ih ⊢;omega
   ·rw[if_neg (by rw[oc];decide),if_pos cc]
    rw[zput_len] at ih;rw[hst];simp at ih ⊢;omega
end L2
end
noncomputable section
namespace L2
open PySem
theorem mulR {i j:Int}(h : -(2 ^ 64)<j∧j<2 ^ 64):oMul (.int i) (.int j)=some (.int (i*j)):=by simp only[oMul];rw[if_pos (.inr h)]
theorem mulL {i j:Int}(h : -(2 ^ 64)<i∧i<2 ^ 64):oMul (.int i) (.int j)=some (.int (i*j)):=by simp only[oMul];rw[if_pos (.inl h)]
theorem modR {i j:Int}(h:0<j):oMod (.int i) (.int j)=some (.int (i%j)):=by simp only[oMod];rw[if_pos h]
theorem fdivR {i j:Int}(h:0<j∧j<2 ^ 64):oFdiv (.int i) (.int j)=some (.int (i/j)):=by simp only[oFdiv];rw[if_pos h]
theorem addI {i j:Int}:oAdd (.int i) (.int j)=some (.int (i+j)):=rfl
theorem subI {i j:Int}:oSub (.int i) (.int j)=some (.int (i-j)):=rfl
theorem eqI {i j:Int}:oEq (.int i) (.int j)=some (.bl (i==j)):=rfl
theorem eqB {i j:Bool}:oEq (.bl i) (.bl j)=some (.bl (i==j)):=rfl
theorem eqS {i j:Str}:oEq (.str i) (.str j)=some (.bl (i==j)):=rfl
theorem neI {i j:Int}:oNe (.int i) (.int j)=some (.bl (!(i==j))):=rfl
theorem neS {i j:Str}:oNe (.str i) (.str j)=some (.bl (!(i==j))):=rfl
theorem ltI {i j:Int}:oLt (.int i) (.int j)=some (.bl (decide (i<j))):=rfl
theorem gtI {i j:Int}:oGt (.int i) (.int j)=some (.bl (decide (j<i))):=rfl
theorem ixL {xs:List D}{i:Int}:oIx (.lst xs) (.int i)=atI xs i:=rfl
theorem ixT {xs:List D}{i:Int}:oIx (.tup xs) (.int i)=atI xs i:=rfl
theorem lenL {xs:List D}:oLen [.lst xs]=some (.int xs.length):=rfl
theorem lenT {xs:List D}:oLen [.tup xs]=some (.int xs.length):=rfl
theorem geI {i j:Int}:oGe (.int i) (.int j)=some (.bl (decide (j≤i))):=rfl
theorem int_of_mem {xs:List Int}{j:Nat}{d:D}(h:(xs.map D.int)[j]?=some d):∃ c,xs[j]?=some c∧d=.int c:=by
 rw[zM] at h;cases e:xs[j]? with
 | none=>rw[e] at h;cases h
 | some c=>rw[e] at h;cases h;exact⟨c,rfl,rfl⟩
theorem set_map_int (xs:List Int) (n:Nat) (v:Int):(xs.map D.int).set n (.int v)=(xs.set n v).map D.int:=by rw[List.map_set]
end L2
end
noncomputable section
namespace L2
open PySem
noncomputable abbrev sAny:Str:=Str.ofString "any"
noncomputable abbrev sTxt:Str:=Str.ofString "text"
noncomputable abbrev sHas:Str:=Str.ofString "has"
noncomputable abbrev sBoth:Str:=Str.ofString "both"
noncomputable abbrev sOne:Str:=Str.ofString "one"
noncomputable abbrev sInner:Str:=Str.ofString "inner"
noncomputable abbrev sOwn:Str:=Str.ofString "own"
noncomputable abbrev sStar:Str:=Str.ofString "*"
noncomputable abbrev wAny:D :=.tup [.str sAny]
noncomputable abbrev wText (x:Str):D :=.tup [.str sTxt,.str x]
noncomputable abbrev wHas (ss:List D):D :=.tup [.str sHas,.lst ss]
noncomputable abbrev wBoth (ws:List D):D :=.tup [.str sBoth,.lst ws]
noncomputable abbrev wOne (ws:List D):D :=.tup [.str sOne,.lst ws]
noncomputable abbrev stepD (way nm:Str) (w:D):D :=.tup [.str way,.str nm,w]
noncomputable def WfW:Nat→D→Prop
 | 0,d=>d=wAny∨∃ x,d=wText x
 | n+1,d=>d=wAny∨(∃ x,d=wText x)∨(∃ ss,d=wHas ss∧1≤ss.length∧ss.length≤3∧∀ s∈ss,∃ way nm w,s=stepD way nm w∧(way=sInner∨way=sOwn)∧WfW n w) ∨
   (∃ ws,d=wBoth ws∧ws.length≤100∧∀ w∈ws,WfW n w)∨(∃ ws,d=wOne ws∧ws.length≤100∧∀ w∈ws,WfW n w)
noncomputable def WfS (n:Nat) (s:D):Prop:=∃ way nm w,s=stepD way nm w∧(way=sInner∨way=sOwn)∧WfW n w
theorem WfW.any (n:Nat):WfW n wAny:=by cases n<;>exact .inl rfl
theorem WfW.text (n:Nat) (x:Str):WfW n (wText x):=by
 cases n with
 | zero=>exact .inr ⟨x,rfl⟩
 | succ n=>exact .inr (.inl ⟨x,rfl⟩)
end L2
end
noncomputable section
namespace L2
open PySem
theorem lstep_cases {z z':Ly}{s:D}(e:lstep z s=some z'):(∃ x,s=.tup [.str sOpen,.str x]∧z'={ names:=z.names++[.str x],pars:=z.pars++[z.row.getLastD (-1)],texts:=z.texts++[[]],row:=z.row++[(z.names.length:Int)] }) ∨
  (∃ x i ds,s=.tup [.str sText,.str x]∧z.row.getLast? = some i∧0≤i∧z.texts[i.toNat]?=some ds∧z'={ z with texts:=z.texts.set i.toNat (ds++[.str x]) })∨(s=.tup [.str sClose]∧z.row≠[]∧z'={ z with row:=z.row.dropLast }):=by
 unfold lstep at e
 split at e
 ·split at e
  ·rename_i hk;subst hk;cases e;exact .inl ⟨_,rfl,rfl⟩
  ·split at e
   ·rename_i hk;subst hk
    split at e
    ·rename_i i hi
     split at e
     ·rename_i h0;cases et:z.texts[i.toNat]? with
      | none=>rw[et] at e;cases e
      | some ds=>rw[et] at e;cases e;exact .inr (.inl ⟨_,i,ds,rfl,hi,h0,et,rfl⟩)
     ·cases e
    ·cases e
   ·cases e
 ·split at e
  ·rename_i hk;subst hk
   split at e
   ·cases e
   ·rename_i hr;cases e;exact .inr (.inr ⟨rfl,hr,rfl⟩)
  ·cases e
 ·cases e
structure LW (z:Ly):Prop where
 pl:z.pars.length=z.names.length
 tl:z.texts.length=z.names.length
 nm:∀ d∈z.names,∃ x,d=.str x
 tx:∀ ds∈z.texts,∀ d∈ds,∃ x,d=.str x
 pr:∀ (i:Nat) (p:Int),z.pars[i]?=some p→(i=0→p = -1)∧(0<i→0≤p∧p<i)
 rw:∀ r∈z.row,0≤r∧r<z.names.length
structure Grow (z z':Ly):Prop where
 nm:z.names <+: z'.names
 pa:z.pars <+: z'.pars
 tx:∀ (i:Nat) ds,z.texts[i]?=some ds→∃ ds',z'.texts[i]?=some ds'∧ds <+: ds'
theorem LW.step {z z':Ly}{s:D}(h:LW z) (e:lstep z s=some z') (ho:∀ x,s=sgO x→z.row=[]→z.names=[]):LW z':=by
 rcases lstep_cases e with ⟨x,hs,rfl⟩|⟨x,k,ds,_,_,_,ed,rfl⟩|⟨_,_,rfl⟩
 ·refine⟨by simp[h.pl],by simp[h.tl],fun d hd =>?_,fun ds hd d hdd =>?_,fun i p hp =>?_,fun r hr =>?_⟩
  ·rcases zO.mp hd with hd|hd
   ·exact h.nm d hd
   ·exact⟨x,by simpa using hd⟩
  ·rcases zO.mp hd with hd|hd
   ·exact h.tx ds hd d hdd
   ·have:ds=[]:=by simpa using hd
    rw[this] at hdd;cases hdd
  ·have hp:(z.pars++[z.row.getLastD (-1)])[i]?=some p:=hp;by_cases hi:i<z.pars.length
   ·rw[yE hi] at hp;exact h.pr i p hp
   ·have hl:=(zC.mp hp).1;have ei:i=z.pars.length:=by simp at hl;omega
    subst ei;simp at hp;subst hp;have hpl:=h.pl;cases er:z.row.getLast? with
    | none=>have e0:=ho x hs (List.getLast?_eq_none_iff.mp er);rw[e0] at hpl;simp at hpl;rw[hpl];exact⟨fun _=>rfl,fun z=>absurd z (by simp)⟩
    | some r=>have:=h.rw r (List.mem_of_getLast? er);exact⟨fun z=>by rw[hpl] at z;omega,fun _=>by rw[hpl];exact this⟩
  ·have hr:r∈z.row++[(z.names.length:Int)]:=hr;show 0≤r∧r<((z.names++[D.str x]).length:Int);rcases zO.mp hr with hr|hr
   ·have:=h.rw r hr;simp;omega
   ·have:r=(z.names.length:Int):=by simpa using hr
    simp;omega
 ·refine⟨h.pl,by simp[h.tl],h.nm,fun es hd d hdd =>?_,h.pr,h.rw⟩
  have hd:es∈z.texts.set k.toNat (ds++[.str x]):=hd;rcases List.mem_or_eq_of_mem_set hd with hd|hd
  ·exact h.tx es hd d hdd
  ·rw[hd] at hdd;rcases zO.mp hdd with hdd|hdd
   ·exact h.tx ds (zX ed) d hdd
   ·exact⟨x,by simpa using hdd⟩
 ·exact⟨h.pl,h.tl,h.nm,h.tx,h.pr,fun r hr=>h.rw r (List.dropLast_subset _ hr)⟩
theorem lrun_app (b:List D):∀ (a:List D) (z:Ly),lrun (a++b) z=(lrun a z).bind (lrun b)
 | [],z=>rfl
 | s::a,z=>by
  show (lstep z s).bind (lrun (a++b))=((lstep z s).bind (lrun a)).bind (lrun b);cases lstep z s with
  | none=>rfl
  | some z'=>exact lrun_app b a z'
noncomputable abbrev ly0:Ly:=⟨[],[],[],[]⟩
noncomputable abbrev sE:Str:=Str.ofString ""
theorem stump_sgs:∀ (n:Nat){st:Zs}{L0 ss:List D},st.length=n→Em st L0 ss→Sgs (zclose st L0) (ss++List.replicate n sgC)
 | 0,st,L0,ss,hn,h=>by have:st=[]:=List.length_eq_zero_iff.mp hn;subst this;have h:Sgs L0 ss:=h;show Sgs L0 (ss++[]);rw[List.append_nil];exact h
 | n+1,st,L0,ss,hn,h=>by
  cases st with
  | nil=>cases hn
  | cons c st=>
   obtain⟨nm,its⟩:=c;rw[zclose_put];have e:zstep ((nm,its)::st,L0) sgC=some (zput (part nm its) st L0):=by simp[zstep]
   have h2:=Em.step (z:=((nm,its)::st,L0)) h e;have:=stump_sgs n (by rw[zput_len];simpa using hn) h2
   rw[List.append_assoc] at this;exact this
theorem zput_ne {d:D}{st:Zs}{L0:List D}:(zput d st L0).1≠[]∨(zput d st L0).2≠[]:=by
 cases st with
 | nil=>right;simp[zput,setI]
 | cons c st=>left;obtain⟨a,b⟩:=c;simp[zput,setI]
theorem zstep_ne {z z':Zs×List D}{s:D}(e:zstep z s=some z'):z'.1≠[]∨z'.2≠[]:=by
 rcases zstep_cases e with ⟨x,rfl,_,rfl⟩|⟨x,rfl,hz,rfl⟩|⟨nm,its,r',rfl,hst,rfl⟩
 ·left;simp
 ·exact zput_ne
 ·exact zput_ne
theorem zrun_ne {ss:List D}{z z':Zs×List D}(e:zrun ss z=some z') (h:ss≠[]):z'.1≠[]∨z'.2≠[]:=by
 have:ss=ss.dropLast++[ss.getLast h]:=(List.dropLast_concat_getLast h).symm;rw[this,zrun_snoc] at e;cases e1:zrun ss.dropLast z with
 | none=>rw[e1] at e;cases e
 | some z1=>rw[e1] at e;exact zstep_ne e
theorem zclose_one:∀ (n:Nat){st:Zs}{L0:List D},st.length=n→One (st,L0)→(st≠[]∨L0≠[])→∃ d,zclose st L0=[d]
 | 0,st,L0,hn,h,hne=>by
  have:st=[]:=List.length_eq_zero_iff.mp hn;subst this;have h1:L0≠[]:=by
   rcases hne with z|z
   ·exact absurd rfl z
   ·exact z
  have h2:L0.length≤1:=h.2;cases L0 with
  | nil=>exact absurd rfl h1
  | cons d L=>
   cases L with
   | nil=>exact⟨d,rfl⟩
   | cons a b=>simp at h2
 | n+1,st,L0,hn,h,_=>by
  cases st with
  | nil=>cases hn
  | cons c st=>
   obtain⟨nm,its⟩:=c;rw[zclose_put];have hL:L0=[]:=h.1 (by simp)
   exact zclose_one n (by rw[zput_len];simpa using hn) (One.put hL) zput_ne
theorem stump_ok {ss:List D}{z:Zs×List D}(e:zrun ss ([],[])=some z) (hne:ss≠[]) (hl:ss.length≤100000):∃ d,F_stump [.lst ss]=some d∧Sgs [d] (ss++List.replicate z.1.length sgC):=by
 have hE:=Em.run ss (z:=([],[])) (a:=[]) Sgs.nil e;have hO:=One.run ss (z:=([],[])) ⟨fun _=>rfl,by simp⟩ e
 obtain⟨d,ed⟩:=zclose_one _ rfl hO (zrun_ne e hne);have hS:=stump_sgs _ rfl hE;rw[ed] at hS;refine⟨d,?_,by simpa using hS⟩
 simp only[F_stump];rw[if_pos hl,e];simp only[zA];rw[ed];rfl
end L2
end
noncomputable section
namespace L2
open PySem
theorem nTH:sTxt≠sHas:=by decide +kernel
theorem nTB:sTxt≠sBoth:=by decide +kernel
theorem nTO:sTxt≠sOne:=by decide +kernel
theorem nHB:sHas≠sBoth:=by decide +kernel
theorem nHO:sHas≠sOne:=by decide +kernel
theorem nBO:sBoth≠sOne:=by decide +kernel
theorem nAT:sAny≠sTxt:=by decide +kernel
theorem nAH:sAny≠sHas:=by decide +kernel
theorem nAB:sAny≠sBoth:=by decide +kernel
theorem nAO:sAny≠sOne:=by decide +kernel
theorem nIO:sInner≠sOwn:=by decide +kernel
noncomputable abbrev Tr (bs:List Bool) (i:Nat):Prop:=bs[i]?=some true
noncomputable def Child (y:Ly) (k i:Nat):Prop:=0<i∧∃ p:Int,y.pars[i]?=some p∧p.toNat=k
inductive Desc (y:Ly):Nat→Nat→Prop
 | one {k i:Nat}:Child y k i→Desc y k i
 | more {k j i:Nat}:Desc y k j→Child y j i→Desc y k i
noncomputable def Reach (y:Ly) (way:Str) (k i:Nat):Prop:=Child y k i∨(way=sInner∧Desc y k i)
theorem Child.lt {y:Ly}(h:LW y){k i:Nat}(c:Child y k i):k<i∧i<y.names.length:=by
 obtain⟨h0,p,e,hk⟩:=c;have:=(h.pr i p e).2 h0;have hl:=(zC.mp e).1;rw[h.pl] at hl;exact⟨by omega,hl⟩
theorem Child.of {y:Ly}(h:LW y){i:Nat}(h0:0<i) (hl:i<y.names.length):∃ k p,Child y k i∧y.pars[i]?=some p∧p=(k:Int)∧k<i:=by
 have hl':i<y.pars.length:=by rw[h.pl];exact hl
 have e:y.pars[i]?=some y.pars[i]:=zI hl';have:=(h.pr i _ e).2 h0;exact⟨y.pars[i].toNat,y.pars[i],⟨h0,_,e,rfl⟩,e,by omega,by omega⟩
theorem Child.uniq {y:Ly}{k k' i:Nat}(a:Child y k i) (b:Child y k' i):k=k':=by
 obtain⟨_,p,e,h⟩:=a;obtain⟨_,p',e',h'⟩:=b;rw[e] at e';cases e';rw[← h,← h']
theorem Desc.lt {y:Ly}(h:LW y){k i:Nat}(c:Desc y k i):k<i∧i<y.names.length:=by
 induction c with
 | one c=>exact c.lt h
 | more _ c ih=>have:=c.lt h;omega
theorem Desc.head {y:Ly}{k j i:Nat}(a:Child y k j) (b:Desc y j i):Desc y k i:=by
 induction b with
 | one c=>exact .more (.one a) c
 | more _ c ih=>exact .more ih c
theorem Reach.lt {y:Ly}(h:LW y){way:Str}{k i:Nat}(c:Reach y way k i):k<i∧i<y.names.length:=by
 rcases c with c|⟨_,c⟩
 ·exact c.lt h
 ·exact c.lt h
theorem below_reach {y:Ly}(h:LW y){way:Str}{ms bs:List Bool}(sp:∀ i,Tr bs i↔∃ k,Child y k i∧(Tr ms k∨(way=sInner∧Tr bs k))):∀ i,Tr bs i↔∃ k,Reach y way k i∧Tr ms k:=by
 have fwd:∀ (n i:Nat),i≤n→Tr bs i→∃ k,Reach y way k i∧Tr ms k:=by
  intro n
  induction n with
  | zero=>intro i hi t;obtain⟨k,c,_⟩:=(sp i).mp t;have:=c.lt h;omega
  | succ n ih=>
   intro i hi t;obtain⟨k,c,m|⟨w,b⟩⟩:=(sp i).mp t
   ·exact⟨k,.inl c,m⟩
   ·have:=c.lt h;obtain⟨k0,r,m⟩:=ih k (by omega) b
    refine⟨k0,.inr ⟨w,?_⟩,m⟩;rcases r with r|⟨_,r⟩
    ·exact .more (.one r) c
    ·exact .more r c
 intro i;refine⟨fwd i i (zL _),?_⟩;rintro⟨k,c|⟨w,c⟩,m⟩
 ·exact(sp i).mpr ⟨k,c,.inl m⟩
 ·induction c with
  | one c=>exact(sp _).mpr ⟨_,c,.inl m⟩
  | more _ c ih=>exact(sp _).mpr ⟨_,c,.inr ⟨w,ih⟩⟩
theorem above_reach {y:Ly}(h:LW y){way:Str}{ms bs:List Bool}(sp:∀ k,Tr bs k↔∃ i,Child y k i∧(Tr ms i∨(way=sInner∧Tr bs i))):∀ k,Tr bs k↔∃ i,Reach y way k i∧Tr ms i:=by
 have fwd:∀ (n k:Nat),y.names.length-k≤n→Tr bs k→∃ i,Reach y way k i∧Tr ms i:=by
  intro n
  induction n with
  | zero=>intro k hk t;obtain⟨i,c,_⟩:=(sp k).mp t;have:=c.lt h;omega
  | succ n ih=>
   intro k hk t;obtain⟨i,c,m|⟨w,b⟩⟩:=(sp k).mp t
   ·exact⟨i,.inl c,m⟩
   ·have:=c.lt h;obtain⟨i0,r,m⟩:=ih i (by omega) b
    refine⟨i0,.inr ⟨w,?_⟩,m⟩;rcases r with r|⟨_,r⟩
    ·exact .head c (.one r)
    ·exact .head c r
 intro k;refine⟨fwd _ k (zL _),?_⟩;rintro⟨i,c|⟨w,c⟩,m⟩
 ·exact(sp k).mpr ⟨i,c,.inl m⟩
 ·have:∀ {k i:Nat},Desc y k i→(Tr ms i∨Tr bs i)→Tr bs k:=by
   intro k i c
   induction c with
   | one c=>rintro(m|m);exact(sp _).mpr ⟨_,c,.inl m⟩;exact(sp _).mpr ⟨_,c,.inr ⟨w,m⟩⟩
   | more _ c ih=>rintro(m|m);exact ih (.inr ((sp _).mpr ⟨_,c,.inl m⟩));exact ih (.inr ((sp _).mpr ⟨_,c,.inr ⟨w,m⟩⟩))
  exact this c (.inl m)
noncomputable def Nmd (y:Ly) (nm:Str) (j:Nat):Prop:=∃ x:Str,y.names[j]?=some (.str x)∧(nm=sStar∨nm=x)
noncomputable def AnF (y:Ly) (H:D→Nat→Prop):List D→Nat→Nat→Prop
 | [],k,i=>i=k
 | s::ss,k,i=>∃ way nm w j,s=stepD way nm w∧Reach y way k j∧Nmd y nm j∧H w j∧AnF y H ss j i
noncomputable def TxtH (y:Ly) (d:D) (i:Nat):Prop:=∃ x ds,d=wText x∧y.texts[i]?=some ds∧D.str x∈ds
noncomputable def HW (y:Ly):Nat→D→Nat→Prop
 | 0,d,i=>d=wAny∨TxtH y d i
 | n+1,d,i=>d=wAny∨TxtH y d i∨(∃ ss,d=wHas ss∧∃ j,AnF y (HW y n) ss i j)∨(∃ ws,d=wBoth ws∧∀ w∈ws,HW y n w i)∨(∃ ws,d=wOne ws∧∃ w∈ws,HW y n w i)
theorem tup2 {a b c d:D}(h:D.tup [a,b]=D.tup [c,d]):a=c∧b=d:=by
 injection h with h;injection h with h1 h2;injection h2 with h2 _;exact⟨h1,h2⟩
theorem tup12 {a c d:D}(h:D.tup [a]=D.tup [c,d]):False:=by
 injection h with h;injection h with h1 h2;cases h2
theorem tup2s {a c:Str}{b d:D}(h:D.tup [.str a,b]=D.tup [.str c,d]):a=c∧b=d:=by
 obtain⟨h1,h2⟩:=tup2 h;injection h1 with h1;exact⟨h1,h2⟩
theorem hw_any (y:Ly) (n i:Nat):HW y n wAny i:=by
 cases n<;>exact .inl rfl
theorem hw_text (y:Ly) (n i:Nat) (x:Str):HW y n (wText x) i↔∃ ds,y.texts[i]?=some ds∧D.str x∈ds:=by
 have key:TxtH y (wText x) i↔∃ ds,y.texts[i]?=some ds∧D.str x∈ds:=by
  constructor
  ·rintro⟨x',ds,e,h1,h2⟩;obtain⟨_,e⟩:=tup2 e;cases e;exact⟨ds,h1,h2⟩
  ·rintro⟨ds,h1,h2⟩;exact⟨x,ds,rfl,h1,h2⟩
 cases n with
 | zero=>
  refine⟨?_,fun h =>.inr (key.mpr h)⟩
  rintro(h|h)
  ·exact(tup12 h.symm).elim
  ·exact key.mp h
 | succ n=>
  refine⟨?_,fun h =>.inr (.inl (key.mpr h))⟩
  rintro(h|h|⟨ss,h,_⟩|⟨ss,h,_⟩|⟨ss,h,_⟩)
  ·exact(tup12 h.symm).elim
  ·exact key.mp h
  ·exact(nTH (tup2s h).1).elim
  ·exact(nTB (tup2s h).1).elim
  ·exact(nTO (tup2s h).1).elim
theorem hw_has (y:Ly) (n i:Nat) (ss:List D):HW y (n+1) (wHas ss) i↔∃ j,AnF y (HW y n) ss i j:=by
 refine⟨?_,fun h =>.inr (.inr (.inl ⟨ss,rfl,h⟩))⟩
 rintro(h|⟨_,_,h,_⟩|⟨ss',h,r⟩|⟨ss',h,_⟩|⟨ss',h,_⟩)
 ·exact(tup12 h.symm).elim
 ·exact(nTH (tup2s h).1.symm).elim
 ·have:=(tup2s h).2;cases this;exact r
 ·exact(nHB (tup2s h).1).elim
 ·exact(nHO (tup2s h).1).elim
theorem hw_both (y:Ly) (n i:Nat) (ws:List D):HW y (n+1) (wBoth ws) i↔∀ w∈ws,HW y n w i:=by
 refine⟨?_,fun h =>.inr (.inr (.inr (.inl ⟨ws,rfl,h⟩)))⟩
 rintro(h|⟨_,_,h,_⟩|⟨ss',h,r⟩|⟨ss',h,r⟩|⟨ss',h,_⟩)
 ·exact(tup12 h.symm).elim
 ·exact(nTB (tup2s h).1.symm).elim
 ·exact(nHB (tup2s h).1.symm).elim
 ·have:=(tup2s h).2;cases this;exact r
 ·exact(nBO (tup2s h).1).elim
theorem hw_one (y:Ly) (n i:Nat) (ws:List D):HW y (n+1) (wOne ws) i↔∃ w∈ws,HW y n w i:=by
 refine⟨?_,fun h =>.inr (.inr (.inr (.inr ⟨ws,rfl,h⟩)))⟩
 rintro(h|⟨_,_,h,_⟩|⟨ss',h,r⟩|⟨ss',h,r⟩|⟨ss',h,r⟩)
 ·exact(tup12 h.symm).elim
 ·exact(nTO (tup2s h).1.symm).elim
 ·exact(nHO (tup2s h).1.symm).elim
 ·exact(nBO (tup2s h).1.symm).elim
 ·have:=(tup2s h).2;cases this;exact r
theorem pre_get {α:Type}{l m:List α}(h:l <+: m){i:Nat}{x:α}(e:l[i]?=some x):m[i]?=some x:=by
 obtain⟨t,rfl⟩:=h;rw[yE (zC.mp e).1];exact e
noncomputable section
variable {y y':Ly}(g:Grow y y')
include g
end
theorem AnF.snoc {y:Ly}{H:D→Nat→Prop}{s:D}:∀ {ss:List D}{k i:Nat},AnF y H (ss++[s]) k i↔∃ j,AnF y H ss k j∧AnF y H [s] j i
 | [],k,i=>by
  constructor
  ·intro h;exact⟨k,rfl,h⟩
  ·rintro⟨j,e,h⟩;have e:j=k:=e;rw[← e];exact h
 | t::ss,k,i=>by
  constructor
  ·rintro⟨way,nm,w,j,e,r,n,hw,h⟩;obtain⟨m,h1,h2⟩:=AnF.snoc.mp h;exact⟨m,⟨way,nm,w,j,e,r,n,hw,h1⟩,h2⟩
  ·rintro⟨m,⟨way,nm,w,j,e,r,n,hw,h1⟩,h2⟩;exact⟨way,nm,w,j,e,r,n,hw,AnF.snoc.mpr ⟨m,h1,h2⟩⟩
theorem AnF.one {y:Ly}{H:D→Nat→Prop}{way nm:Str}{w:D}{k i:Nat}:AnF y H [stepD way nm w] k i↔Reach y way k i∧Nmd y nm i∧H w i:=by
 constructor
 ·rintro⟨way',nm',w',j,e,r,n,hw,h⟩;have h:i=j:=h;subst h;injection e with e;injection e with e1 e;injection e with e2 e;injection e with e3 _;injection e1 with e1;injection e2 with e2;subst e1 e2 e3;exact⟨r,n,hw⟩
 ·rintro⟨r,n,hw⟩;exact⟨way,nm,w,i,rfl,r,n,hw,rfl⟩
end L2
end
noncomputable section
namespace L2
open PySem
noncomputable abbrev strsI (its:List D):List D:=its.filter isStrD
noncomputable abbrev ptsI (its:List D):List D:=its.filter fun e=> !isStrD e
noncomputable abbrev prtD (nm:Str) (its:List D):D :=.tup [.str nm,.lst its]
noncomputable def PtOk:Nat→D→Prop
 | 0,_=>False
 | n+1,d=>∃ nm its,d=prtD nm its∧∀ e∈its,(∃ x,e=.str x)∨PtOk n e
noncomputable abbrev Itm (n:Nat) (e:D):Prop:=(∃ x,e=.str x)∨PtOk n e
noncomputable def PPo (m:Nat):Zs→List D→Prop
 | [],L0=>∀ e∈L0,Itm m e
 | (_,its)::st,L0=>st.length+1≤m∧(∀ e∈its,Itm (m-(st.length+1)) e)∧PPo m st L0
theorem PPo.put {m:Nat}{d:D}:∀ {st:Zs}{L0:List D},PPo m st L0→Itm (m-st.length) d→PPo m (zput d st L0).1 (zput d st L0).2
 | [],L0,h,hd=>fun e he=>by
  have he:e∈L0++[d]:=he;rcases zO.mp he with he|he
  ·exact h e he
  ·have:e=d:=by simpa using he
   rw[this];simpa using hd
 | (nm,its)::st,L0,h,hd=>by
  refine⟨h.1,fun e he =>?_,h.2.2⟩
  have he:e∈its++[d]:=he;rcases zO.mp he with he|he
  ·exact h.2.1 e he
  ·have:e=d:=by simpa using he
   rw[this];simpa using hd
theorem PPo.step {m:Nat}{z z':Zs×List D}{s:D}(h:PPo m z.1 z.2) (e:zstep z s=some z') (ho:z'.1.length≤m):PPo m z'.1 z'.2:=by
 rcases zstep_cases e with ⟨x,rfl,_,rfl⟩|⟨x,rfl,hz,rfl⟩|⟨nm,its,r',rfl,hst,rfl⟩
 ·exact⟨by simpa using ho,fun e he=>(by cases he),h⟩
 ·exact h.put (.inl ⟨x,rfl⟩)
 ·rw[hst] at h;refine PPo.put h.2.2 (.inr ?_);have h1:=h.1;have:m-r'.length=(m-(r'.length+1))+1:=by omega
  rw[this];exact⟨nm,its,rfl,h.2.1⟩
theorem PPo.close {m:Nat}:∀ (n:Nat){st:Zs}{L0:List D},st.length=n→PPo m st L0→∀ e∈zclose st L0,Itm m e
 | 0,st,L0,hn,h=>by have:st=[]:=List.length_eq_zero_iff.mp hn;subst this;exact h
 | n+1,st,L0,hn,h=>by
  cases st with
  | nil=>cases hn
  | cons c st=>
   obtain⟨nm,its⟩:=c;rw[zclose_put];refine PPo.close n (by rw[zput_len];simpa using hn) (PPo.put h.2.2 (.inr ?_))
   have h1:=h.1;have:m-st.length=(m-(st.length+1))+1:=by omega
   rw[this];exact⟨nm,its,rfl,h.2.1⟩
inductive Par2 {α β:Type}(R:α→β→Prop):List α→List β→Prop
 | nil:Par2 R [] []
 | cons {a b l m}:R a b→Par2 R l m→Par2 R (a::l) (b::m)
theorem Par2.imp {α β:Type}{R S:α→β→Prop}{l:List α}{m:List β}(h:Par2 R l m) (k:∀ a b,a∈l→R a b→S a b):Par2 S l m:=by
 induction h with
 | nil=>exact .nil
 | cons r _ ih=>exact .cons (k _ _ zD r) (ih fun a b ha=>k a b (zB _ ha))
theorem Par2.left {α β:Type}{R:α→β→Prop}{l:List α}{m:List β}(h:Par2 R l m):∀ a∈l,∃ b∈m,R a b:=by
 induction h with
 | nil=>intro a h;cases h
 | cons r _ ih=>
  intro a ha;rcases zG.mp ha with rfl|ha
  ·exact⟨_,zD,r⟩
  ·obtain⟨b,hb,rb⟩:=ih a ha;exact⟨b,zB _ hb,rb⟩
theorem Par2.right {α β:Type}{R:α→β→Prop}{l:List α}{m:List β}(h:Par2 R l m):∀ b∈m,∃ a∈l,R a b:=by
 induction h with
 | nil=>intro a h;cases h
 | cons r _ ih=>
  intro a ha;rcases zG.mp ha with rfl|ha
  ·exact⟨_,zD,r⟩
  ·obtain⟨b,hb,rb⟩:=ih a ha;exact⟨b,zB _ hb,rb⟩
structure Keep (y y':Ly) (lo hi:Nat):Prop where
 nm:∀ i x,lo≤i→i<hi→y.names[i]?=some x→y'.names[i]?=some x
 tx:∀ i x,lo≤i→i<hi→y.texts[i]?=some x→y'.texts[i]?=some x
 ch:∀ i c,lo≤i→i<hi→(Child y' i c↔Child y i c)
theorem child_lt {y:Ly}(h:LW y){i c:Nat}(z:Child y i c):i<y.names.length:=by have:=z.lt h;omega
theorem getLast_snoc {α:Type}(r:List α) (k:α):(r++[k]).getLast? = some k:=by simp
end L2
end
noncomputable section
namespace L2
open PySem
theorem Desc.head_cases {y:Ly}{k i:Nat}(h:Desc y k i):Child y k i∨∃ c,Child y k c∧Desc y c i:=by
 induction h with
 | one c=>exact .inl c
 | more _ c ih=>
  rcases ih with ih|⟨d,h1,h2⟩
  ·exact .inr ⟨_,ih,.one c⟩
  ·exact .inr ⟨d,h1,.more h2 c⟩
noncomputable section
variable {y:Ly}{lo hi:Nat}
end
noncomputable def Sz (m:Nat) (d:D):Prop:=∃ ss,Sgs [d] ss∧ss.length≤m
theorem Sgs.item {its ss:List D}(h:Sgs its ss):∀ e∈its,∃ ss',Sgs [e] ss'∧ss'.length≤ss.length:=by
 induction h with
 | nil=>intro e he;cases he
 | @txt x ds ts _ ih=>
  intro e he;rcases zG.mp he with rfl|he
  ·exact⟨[sgT x],.txt .nil,by simp⟩
  ·obtain⟨s,h1,h2⟩:=ih e he;exact⟨s,h1,by simp;omega⟩
 | @non ds ts _ ih=>
  intro e he;rcases zG.mp he with rfl|he
  ·exact⟨[sgC],.non .nil,by simp⟩
  ·obtain⟨s,h1,h2⟩:=ih e he;exact⟨s,h1,by simp;omega⟩
 | @prt nm its ss ds ts h1 _ _ ih=>
  intro e he;rcases zG.mp he with rfl|he
  ·exact⟨_,.prt h1 .nil,by simp⟩
  ·obtain⟨s,h1,h2⟩:=ih e he;exact⟨s,h1,by simp;omega⟩
theorem Sgs.prt_inv {nm:Str}{its ss:List D}(h:Sgs [prtD nm its] ss):∃ ss',Sgs its ss'∧ss=sgO nm::(ss'++[sgC]):=by
 cases h with
 | prt h1 h2=>cases h2;exact⟨_,h1,rfl⟩
theorem Sz.item {m:Nat}{nm:Str}{its:List D}(h:Sz m (prtD nm its)):its.length≤m∧∀ e∈its,Sz m e:=by
 obtain⟨ss,h1,h2⟩:=h;obtain⟨ss',h3,rfl⟩:=h1.prt_inv;have:=h3.len;simp at h2;refine⟨by omega,fun e he =>?_⟩
 obtain⟨s,a,b⟩:=h3.item e he;exact⟨s,a,by omega⟩
theorem PtOk.dOk:∀ {n:Nat}{d:D},PtOk n d→∀ k,2*n≤k→L2.dOk d k=true
 | 0,d,h,k,hk=>h.elim
 | n+1,d,⟨nm,its,e,h⟩,k,hk=>by
  subst e;have e1:(k != 0)=true:=by simp;omega
  have e2:(k-1 != 0)=true:=by simp;omega
  have all:∀ l:List D,(∀ e∈l,Itm n e)→dOks l (k-1-1)=true:=by
   intro l
   induction l with
   | nil=>intro _;rfl
   | cons x l ih=>
    intro hl;simp only[dOks,Bool.and_eq_true];refine⟨?_,ih fun e he=>hl e (zB _ he)⟩
    rcases hl x zD with ⟨s,rfl⟩|z
    ·simp[L2.dOk]
    ·exact z.dOk _ (by omega)
  simp only[L2.dOk,dOks,e1,e2,all its h,Bool.and_self]
theorem WfW.dOk:∀ {n:Nat}{w:D},WfW n w→∀ k,4*n+1≤k→L2.dOk w k=true:=by
 intro n
 induction n with
 | zero=>
  intro w h k hk;have e1:(k != 0)=true:=by simp;omega
  rcases h with rfl|⟨x,rfl⟩
  ·simp[L2.dOk,dOks,e1]
  ·simp[L2.dOk,dOks,e1]
 | succ n ih=>
  intro w h k hk;have e1:(k != 0)=true:=by simp;omega
  have e2:(k-1 != 0)=true:=by simp;omega
  have all:∀ (l:List D) (j:Nat),(∀ e∈l,L2.dOk e j=true)→dOks l j=true:=by
   intro l j
   induction l with
   | nil=>intro _;rfl
   | cons x l ih=>intro hl;simp only[dOks,Bool.and_eq_true];exact⟨hl x zD,ih fun e he=>hl e (zB _ he)⟩
  rcases h with rfl|⟨x,rfl⟩|⟨ss,rfl,_,_,hs⟩|⟨ws,rfl,_,hs⟩|⟨ws,rfl,_,hs⟩
  ·simp[L2.dOk,dOks];omega
  ·simp[L2.dOk,dOks];omega
  ·have:dOks ss (k-1-1)=true:=all ss _ fun s hs'=>by
    obtain⟨way,nm,v,rfl,_,hv⟩:=hs s hs';have e3:(k-1-1 != 0)=true:=by simp;omega
    simp only[L2.dOk,dOks,e3,ih hv (k-1-1-1) (by omega),Bool.and_self]
   simp only[L2.dOk,dOks,e1,e2,this,Bool.and_self]
  ·have:dOks ws (k-1-1)=true:=all ws _ fun s hs'=>ih (hs s hs') _ (by omega)
   simp only[L2.dOk,dOks,e1,e2,this,Bool.and_self]
  ·have:dOks ws (k-1-1)=true:=all ws _ fun s hs'=>ih (hs s hs') _ (by omega)
   simp only[L2.dOk,dOks,e1,e2,this,Bool.and_self]
theorem lrun_len:∀ (ts:List D){a b:Ly},lrun ts a=some b→b.names.length≤a.names.length+ts.length
 | [],a,b,e=>by cases e;simp
 | t::ts,a,b,e=>by
  have e:(lstep a t).bind (lrun ts)=some b:=e;cases es:lstep a t with
  | none=>rw[es] at e;cases e
  | some a1=>
   rw[es] at e;have i1:=lrun_len ts e;have i2:a1.names.length≤a.names.length+1:=by
    rcases lstep_cases es with ⟨x,_,rfl⟩|⟨x,k,ds,_,_,_,_,rfl⟩|⟨_,_,rfl⟩
    ·simp
    ·simp
    ·simp
   simp;omega
end L2
end
noncomputable section
namespace L2
open PySem
noncomputable abbrev prtN (nm:Str) (its:List D) (k:Int):D :=.tup [.str nm,.lst its,.int k]
inductive Num:List D→Nat→List D→Nat→Prop
 | nil {k:Nat}:Num [] k [] k
 | txt {x:Str}{ds ds':List D}{k k':Nat}:Num ds k ds' k'→Num (.str x::ds) k (.str x::ds') k'
 | prt {nm:Str}{its ds its' ds':List D}{k k1 k2:Nat}:Num its (k+1) its' k1→Num ds k1 ds' k2→Num (prtD nm its::ds) k (prtN nm its' ((k:Int)-1)::ds') k2
theorem Num.le {its its':List D}{k k':Nat}(h:Num its k its' k'):k≤k':=by
 induction h with
 | nil=>exact zL _
 | txt _ ih=>exact ih
 | prt _ _ i1 i2=>omega
theorem Num.strs {its its':List D}{k k':Nat}(h:Num its k its' k'):strsI its'=strsI its:=by
 induction h with
 | nil=>rfl
 | @txt x ds ds' _ _ _ ih=>rw[show strsI (.str x::ds')=.str x::strsI ds' from List.filter_cons_of_pos rfl,show strsI (.str x::ds)=.str x::strsI ds from List.filter_cons_of_pos rfl,ih]
 | @prt nm its ds its' ds' k _ _ _ _ _ i2=>rw[show strsI (prtN nm its' ((k:Int)-1)::ds')=strsI ds' by simp[strsI,isStrD],show strsI (prtD nm its::ds)=strsI ds by simp[strsI,isStrD],i2]
theorem Num.len {its its':List D}{k k':Nat}(h:Num its k its' k'):its'.length=its.length:=by
 induction h with
 | nil=>rfl
 | txt _ ih=>simp[ih]
 | prt _ _ _ i2=>simp[i2]
theorem Num.size {its its':List D}{k k':Nat}(h:Num its k its' k'):∀ {ss:List D},Sgs its ss→k'≤k+ss.length:=by
 induction h with
 | nil=>intro ss _;omega
 | txt _ ih=>
  intro ss hs;cases hs with
  | txt hs=>have:=ih hs;simp;omega
 | prt _ _ i1 i2=>
  intro ss hs;cases hs with
  | prt h1 h2=>have:=i1 h1;have:=i2 h2;simp;omega
theorem Num.item {its its':List D}{k k':Nat}(h:Num its k its' k'):∀ e'∈its',∃ e∈its,∃ a b,Num [e] a [e'] b:=by
 induction h with
 | nil=>intro e' h;cases h
 | @txt x ds ds' k k' _ ih=>
  intro e' he;rcases zG.mp he with rfl|he
  ·exact⟨_,zD,k,k,.txt .nil⟩
  ·obtain⟨e,h1,h2⟩:=ih e' he;exact⟨e,zB _ h1,h2⟩
 | @prt nm its ds its' ds' k k1 k2 h1 _ _ i2=>
  intro e' he;rcases zG.mp he with rfl|he
  ·exact⟨_,zD,k,k1,.prt h1 .nil⟩
  ·obtain⟨e,h1,h2⟩:=i2 e' he;exact⟨e,zB _ h1,h2⟩
theorem Num.prt_inv {nm:Str}{its:List D}{d:D}{k k':Nat}(h:Num [prtD nm its] k [d] k'):∃ its',d=prtN nm its' ((k:Int)-1)∧Num its (k+1) its' k':=by
 cases h with
 | prt h1 h2=>cases h2;exact⟨_,rfl,h1⟩
theorem num_ex:∀ (n:Nat) (its:List D) (k:Nat),(∀ e∈its,Itm n e)→∃ its' k',Num its k its' k':=by
 intro n
 induction n with
 | zero=>
  intro its
  induction its with
  | nil=>intro k _;exact⟨[],k,.nil⟩
  | cons e its ih=>
   intro k h;rcases h e zD with ⟨x,rfl⟩|hp
   ·obtain⟨its',k',q⟩:=ih k fun e he=>h e (zB _ he)
    exact⟨_,k',.txt q⟩
   ·exact hp.elim
 | succ n ihn=>
  intro its
  induction its with
  | nil=>intro k _;exact⟨[],k,.nil⟩
  | cons e its ih=>
   intro k h;rcases h e zD with ⟨x,rfl⟩|hp
   ·obtain⟨its',k',q⟩:=ih k fun e he=>h e (zB _ he)
    exact⟨_,k',.txt q⟩
   ·obtain⟨nm,its0,rfl,h0⟩:=hp;obtain⟨its1,k1,q1⟩:=ihn its0 (k+1) h0;obtain⟨its',k',q⟩:=ih k1 fun e he=>h e (zB _ he)
    exact⟨_,k',.prt q1 q⟩
noncomputable def PtN:Nat→D→Prop
 | 0,_=>False
 | n+1,d=>∃ nm its,(∃ k,d=prtN nm its k)∧∀ e∈its,(∃ x,e=.str x)∨PtN n e
noncomputable abbrev ItmN (n:Nat) (e:D):Prop:=(∃ x,e=.str x)∨PtN n e
theorem PtN.succ:∀ {n:Nat}{d:D},PtN n d→PtN (n+1) d
 | 0,d,h=>h.elim
 | n+1,d,⟨nm,its,e,h⟩=>⟨nm,its,e,fun x hx=>by
  rcases h x hx with z|z
  ·exact .inl z
  ·exact .inr z.succ⟩
theorem PtN.mono {n m:Nat}{d:D}(h:PtN n d) (k:n≤m):PtN m d:=by
 induction k with
 | refl=>exact h
 | step _ ih=>exact ih.succ
theorem ItmN.mono {n m:Nat}{d:D}(h:ItmN n d) (k:n≤m):ItmN m d:=by
 rcases h with z|z
 ·exact .inl z
 ·exact .inr (z.mono k)
theorem PtN.notStr:∀ {n:Nat}{d:D},PtN n d→isStrD d=false
 | 0,d,h=>h.elim
 | n+1,d,⟨nm,its,⟨k,e⟩,h⟩=>by subst e;rfl
theorem num_ok:∀ (n:Nat) {its its':List D}{k k':Nat},Num its k its' k'→(∀ e∈its,Itm n e)→∀ e∈its',ItmN n e:=by
 intro n its its' k k' h
 induction h generalizing n with
 | nil=>intro _ e he;cases he
 | @txt x ds ds' _ _ _ ih=>
  intro hi e he;rcases zG.mp he with rfl|he
  ·exact .inl ⟨x,rfl⟩
  ·exact ih n (fun e he=>hi e (zB _ he)) e he
 | @prt nm its ds its' ds' k _ _ _ _ i1 i2=>
  intro hi e he;rcases zG.mp he with rfl|he
  ·rcases hi _ zD with ⟨x,z⟩|hp
   ·cases z
   ·cases n with
    | zero=>exact hp.elim
    | succ n=>obtain⟨nm',its0,z,hz⟩:=hp;injection z with z;injection z with _ z;injection z with z _;injection z with z;subst z;exact .inr ⟨nm,its',⟨_,rfl⟩,i1 n hz⟩
  ·exact i2 n (fun e he=>hi e (zB _ he)) e he
noncomputable def TreeN (y:Ly) (lo hi:Nat):Nat→Nat→D→Prop
 | 0,_,_=>False
 | n+1,i,d=>lo≤i∧i<hi∧∃ nm its cs,d=prtN nm its ((i:Int)-1)∧(∀ e∈its,ItmN n e)∧y.names[i]?=some (.str nm)∧y.texts[i]?=some (strsI its)∧Par2 (TreeN y lo hi n) cs (ptsI its)∧∀ c,Child y i c↔c∈cs
theorem TreeN.wide {y:Ly}{lo hi lo' hi':Nat}(h1:lo'≤lo) (h2:hi≤hi'):∀ {n i:Nat}{d:D},TreeN y lo hi n i d→TreeN y lo' hi' n i d
 | 0,i,d,h=>h.elim
 | n+1,i,d,h=>by obtain⟨a,b,nm,its,cs,e,hi,hn,ht,hp,hc⟩:=h;exact⟨by omega,by omega,nm,its,cs,e,hi,hn,ht,hp.imp fun c x _ r=>r.wide h1 h2,hc⟩
theorem TreeN.succ {y:Ly}{lo hi:Nat}:∀ {n i:Nat}{d:D},TreeN y lo hi n i d→TreeN y lo hi (n+1) i d
 | 0,i,d,h=>h.elim
 | n+1,i,d,h=>by obtain⟨a,b,nm,its,cs,e,hi,hn,ht,hp,hc⟩:=h;exact⟨a,b,nm,its,cs,e,fun x hx=>(hi x hx).mono (by omega),hn,ht,hp.imp fun c x _ r=>r.succ,hc⟩
theorem TreeN.keep {y y':Ly}{lo hi:Nat}(k:Keep y y' lo hi):∀ {n i:Nat}{d:D},TreeN y lo hi n i d→TreeN y' lo hi n i d
 | 0,i,d,h=>h.elim
 | n+1,i,d,h=>by obtain⟨a,b,nm,its,cs,e,hi,hn,ht,hp,hc⟩:=h;exact⟨a,b,nm,its,cs,e,hi,k.nm i _ a b hn,k.tx i _ a b ht,hp.imp fun c x _ r=>r.keep k,fun c=>by rw[k.ch i c a b];exact hc c⟩
theorem items_runN {its ss:List D}(hS:Sgs its ss):∀ {n:Nat}(hi:∀ e∈its,Itm n e){y:Ly}(h:LW y){r:List Int}{k:Nat}(hr:y.row=r++[(k:Int)]){jts:List D}{kk:Nat}(hu:Num its y.names.length jts kk),
  ∃ y' cs,lrun ss y=some y'∧y'.names.length=kk∧LW y'∧y'.row=y.row∧y.names <+: y'.names∧(∀ tk,y.texts[k]?=some tk→y'.texts[k]?=some (tk++strsI its))∧(∀ i,i≠k→i<y.names.length→y'.texts[i]?=y.texts[i]?) ∧
   (∀ i c,i<y.names.length→(Child y' i c↔Child y i c∨(i=k∧c∈cs)))∧Par2 (TreeN y' y.names.length y'.names.length n) cs (ptsI jts):=by
 induction hS with
 | nil=>
  intro n hi y h r k hr jts kk hu;cases hu;refine⟨y,[],rfl,rfl,h,rfl,List.prefix_refl _,fun tk e=>by simpa using e,fun _ _ _=>rfl,fun i c _ =>?_,.nil⟩
  constructor
  ·exact .inl
  ·rintro(z|⟨_,z⟩)
   ·exact z
   ·cases z
 | @txt x ds ts hs ih=>
  intro n hi y h r k hr jts kk hu;obtain⟨jds,rfl,hu0⟩:∃ jds,jts=.str x::jds∧Num ds y.names.length jds kk:=by cases hu with|txt hu=>exact⟨_,rfl,hu⟩
  have hk:=h.rw (k:Int) (by rw[hr];simp)
  have hkt:k<y.texts.length:=by rw[h.tl];omega
  have et:y.texts[k]?=some y.texts[k]:=zI hkt;have es:lstep y (sgT x)=some { y with texts:=y.texts.set k (y.texts[k]++[.str x]) }:=by
   have:¬ sText=sOpen:=fun z=>sOT z.symm
   simp only[lstep,this,if_false,if_true];rw[hr,getLast_snoc];simp only;rw[if_pos (Int.natCast_nonneg _)];rw[show ((k:Int)).toNat=k from rfl,et];rfl
  have h1:LW { y with texts:=y.texts.set k (y.texts[k]++[.str x]) }:=h.step es fun x hx _=>by injection hx with hx;injection hx with hx _;injection hx with hx;exact absurd hx (fun z=>sOT z.symm)
  obtain⟨y',cs,e1,hkk,h',r',p',t1,t2,ch,tr⟩:=ih (n:=n) (fun e he=>hi e (zB _ he)) h1 (r:=r) (k:=k) hr (jts:=jds) (kk:=kk) hu0
  refine⟨y',cs,by show (lstep y (sgT x)).bind (lrun ts)=_;rw[es];exact e1,hkk,h',r',p',fun tk etk =>?_,fun i hik hil =>?_,ch,?_⟩
  ·have:({ y with texts:=y.texts.set k (y.texts[k]++[.str x]) }:Ly).texts[k]?=some (y.texts[k]++[.str x]):=List.getElem?_set_self hkt;rw[t1 _ this];rw[et] at etk;injection etk with etk;rw[etk];rw[show strsI (.str x::ds)=.str x::strsI ds from List.filter_cons_of_pos rfl]
   simp
  ·rw[t2 i hik hil];show (y.texts.set k (y.texts[k]++[.str x]))[i]?=_;rw[zK (Ne.symm hik)]
  ·have:ptsI (.str x::jds)=ptsI jds:=by simp[ptsI,isStrD]
   rw[this];exact tr
 | @non ds ts hs ih=>
  intro n hi y h r k hr jts kk hu;rcases hi .non zD with ⟨x,z⟩|z
  ·cases z
  ·cases n with
   | zero=>exact z.elim
   | succ n=>obtain⟨nm,its,z,_⟩:=z;cases z
 | @prt nm its ss ds ts h1 h2 ih1 ih2=>
  intro n hi y h r k hr jts kk hu;have hk:=h.rw (k:Int) (by rw[hr];simp)
  obtain⟨m,hm,hits⟩:∃ m,n=m+1∧∀ e∈its,Itm m e:=by
   rcases hi (prtD nm its) zD with ⟨x,z⟩|z
   ·cases z
   ·cases n with
    | zero=>exact z.elim
    | succ m=>obtain⟨nm',its',z,hz⟩:=z;injection z with z;injection z with _ z;injection z with z _;injection z with z;subst z;exact⟨m,rfl,hz⟩
  subst hm;obtain⟨jts1,jds,k1,rfl,hu1,hu2⟩:∃ jts1 jds k1,jts=prtN nm jts1 ((y.names.length:Int)-1)::jds∧Num its (y.names.length+1) jts1 k1∧Num ds k1 jds kk:=by cases hu with|prt a b=>exact⟨_,_,_,rfl,a,b⟩
  obtain⟨y1,ey1⟩:∃ y1:Ly,y1={ names:=y.names++[.str nm],pars:=y.pars++[(k:Int)],texts:=y.texts++[[]],row:=y.row++[(y.names.length:Int)] }:=⟨_,rfl⟩;have es1:lstep y (sgO nm)=some y1:=by simp only[lstep,if_true];rw[ey1,hr];simp
  have hy1:LW y1:=h.step es1 fun x _ z=>by rw[hr] at z;simp at z
  have hn1:y1.names.length=y.names.length+1:=by rw[ey1];simp
  obtain⟨y2,cs1,e2,hk2,hy2,r2,p2,t21,t22,ch2,tr2⟩:=ih1 (n:=m) hits hy1 (r:=y.row) (k:=y.names.length) (by rw[ey1]) (jts:=jts1) (kk:=k1) (by rw[hn1];exact hu1)
  obtain⟨y3,ey3⟩:∃ y3:Ly,y3={ y2 with row:=y.row }:=⟨_,rfl⟩;have es3:lstep y2 sgC=some y3:=by
   simp only[lstep,if_true];have:y2.row=y.row++[(y.names.length:Int)]:=by rw[r2,ey1]
   rw[if_neg (by rw[this];simp),ey3,this]
   simp
  have hy3:LW y3:=hy2.step es3 fun x hx _=>by injection hx with hx;injection hx with hx z;cases z
  obtain⟨y4,cs2,e4,hk4,hy4,r4,p4,t41,t42,ch4,tr4⟩:=ih2 (n:=m+1) (fun e he=>hi e (zB _ he)) hy3 (r:=r) (k:=k) (by rw[ey3];exact hr) (jts:=jds) (kk:=kk) (by rw[ey3];show Num ds y2.names.length jds kk;rw[hk2];exact hu2)
  have hN12:y1.names.length≤y2.names.length:=p2.length_le;have hN3:y3.names=y2.names:=by rw[ey3]
  have hN34:y2.names.length≤y4.names.length:=by rw[← hN3];exact p4.length_le
  have ch3:∀ i c,Child y3 i c↔Child y2 i c:=fun i c=>by rw[ey3];exact Iff.rfl
  have ch1:∀ i c,Child y1 i c↔Child y i c∨(i=k∧c=y.names.length):=fun i c=>by
   constructor
   ·rintro⟨c0,p,ep,hp⟩;have ep:(y.pars++[(k:Int)])[c]?=some p:=by rw[ey1] at ep;exact ep
    by_cases hc:c<y.pars.length
    ·rw[yE hc] at ep;exact .inl ⟨c0,p,ep,hp⟩
    ·have hl:=(zC.mp ep).1;have ec:c=y.pars.length:=by simp at hl;omega
     subst ec;simp at ep;subst ep;exact .inr ⟨by simpa using hp.symm,h.pl⟩
   ·rintro(⟨c0,p,ep,hp⟩|⟨rfl,rfl⟩)
    ·refine⟨c0,p,?_,hp⟩;rw[ey1];show (y.pars++[(k:Int)])[c]?=_;rw[yE (zC.mp ep).1];exact ep
    ·refine⟨by omega,(i:Int),?_,by simp⟩
     rw[ey1];show (y.pars++[(i:Int)])[y.names.length]?=_;rw[← h.pl];simp
  have tree:TreeN y2 y.names.length y2.names.length (m+1) y.names.length (prtN nm jts1 ((y.names.length:Int)-1)):=by
   refine⟨zL _,by omega,nm,jts1,cs1,rfl,num_ok m hu1 hits,?_,?_,tr2.imp fun c x _ t=>t.wide (by omega) (zL _),fun c =>?_⟩
   ·refine pre_get p2 ?_;rw[ey1];simp
   ·have:y1.texts[y.names.length]?=some []:=by rw[ey1,← h.tl];simp
    rw[hu1.strs];simpa using t21 _ this
   ·rw[ch2 _ c (by omega),ch1]
    constructor
    ·rintro((z|⟨z,_⟩)|⟨_,z⟩)
     ·have:=child_lt h z;omega
     ·omega
     ·exact z
    ·intro z;exact .inr ⟨rfl,z⟩
  have keep:Keep y2 y4 y.names.length y2.names.length:=by
   refine⟨fun i x _ _ e=>pre_get p4 (by rw[hN3];exact e),fun i x hl hh e =>?_,fun i c hl hh =>?_⟩
   ·rw[t42 i (by omega) (by rw[hN3];exact hh),ey3];exact e
   ·rw[ch4 i c (by rw[hN3];exact hh),ch3]
    constructor
    ·rintro(z|⟨z,_⟩)
     ·exact z
     ·omega
    ·exact .inl
  refine⟨y4,y.names.length::cs2,?_,hk4,hy4,?_,?_,fun tk etk =>?_,fun i hik hil =>?_,fun i c hil =>?_,?_⟩
  ·show (lstep y (sgO nm)).bind (lrun (ss++sgC::ts))=_;rw[es1];simp only[zA];rw[lrun_app,e2];show (lstep y2 sgC).bind (lrun ts)=_;rw[es3];exact e4
  ·rw[r4,ey3]
  ·refine List.IsPrefix.trans ?_ (hN3 ▸ p4);refine List.IsPrefix.trans ?_ p2;rw[ey1];exact List.prefix_append _ _
  ·have hkl:k<y.texts.length:=(zC.mp etk).1;have a1:y1.texts[k]?=some tk:=by rw[ey1];show (y.texts++[[]])[k]?=_;rw[yE hkl];exact etk
   have a3:y3.texts[k]?=some tk:=by rw[ey3];show y2.texts[k]?=_;rw[t22 k (by omega) (by omega)];exact a1
   rw[t41 _ a3];have:strsI (prtD nm its::ds)=strsI ds:=by simp[strsI,isStrD]
   rw[this]
  ·rw[t42 i hik (by rw[hN3];omega),ey3]
   show y2.texts[i]?=_;rw[t22 i (by omega) (by omega),ey1]
   show (y.texts++[[]])[i]?=_;rw[yE (by rw[h.tl];exact hil)]
  ·rw[ch4 i c (by rw[hN3];omega),ch3,ch2 i c (by omega),ch1]
   constructor
   ·rintro(((z|⟨z,w⟩)|⟨z,_⟩)|⟨z,w⟩)
    ·exact .inl z
    ·exact .inr ⟨z,by rw[w];exact zD⟩
    ·omega
    ·exact .inr ⟨z,zB _ w⟩
   ·rintro(z|⟨z,w⟩)
    ·exact .inl (.inl (.inl z))
    ·rcases zG.mp w with w|w
     ·exact .inl (.inl (.inr ⟨z,w⟩))
     ·exact .inr ⟨z,w⟩
  ·have:ptsI (prtN nm jts1 ((y.names.length:Int)-1)::jds)=prtN nm jts1 ((y.names.length:Int)-1)::ptsI jds:=by simp[ptsI,isStrD]
   rw[this];refine .cons ((tree.keep keep).wide (zL _) hN34) (tr4.imp fun c x _ t=>t.wide (by rw[hN3];omega) (zL _))
end L2
end
noncomputable section
namespace L2
open PySem
noncomputable def sbsN:Nat→D→List D
 | 0,_=>[]
 | n+1,.tup [_,.lst its,_]=>(ptsI its).flatMap fun e=>e::sbsN n e
 | _+1,_=>[]
theorem sbsN_prt (n:Nat) (nm:Str) (its:List D) (k:Int):sbsN (n+1) (prtN nm its k)=(ptsI its).flatMap fun e=>e::sbsN n e:=rfl
noncomputable section
variable {y:Ly}{lo hi:Nat}
theorem TreeN.inv {n i:Nat}{nm:Str}{its:List D}{k:Int}(h:TreeN y lo hi (n+1) i (prtN nm its k)):k=(i:Int)-1∧y.names[i]?=some (.str nm)∧y.texts[i]?=some (strsI its)∧(∀ e∈its,ItmN n e)∧(∀ e∈ptsI its,∃ c,Child y i c∧TreeN y lo hi n c e)∧∀ c,Child y i c→∃ e∈ptsI its,TreeN y lo hi n c e:=by
 obtain⟨a,b,nm',its',cs,e,hi,hn,ht,hp,hc⟩:=h;injection e with e;injection e with e1 e;injection e with e2 e;injection e with e3 _;injection e1 with e1;injection e2 with e2;injection e3 with e3;subst e1 e2;refine⟨e3,hn,ht,hi,fun e he =>?_,fun c hc'=>hp.left c ((hc c).mp hc')⟩
 obtain⟨c,hc',t⟩:=hp.right e he;exact⟨c,(hc c).mpr hc',t⟩
theorem TreeN.ok:∀ {n i:Nat}{d:D},TreeN y lo hi n i d→PtN n d
 | 0,i,d,h=>h.elim
 | n+1,i,d,h=>by obtain⟨a,b,nm,its,cs,e,hi,_⟩:=h;exact⟨nm,its,⟨_,e⟩,hi⟩
theorem TreeN.within:∀ {n i:Nat}{d:D},TreeN y lo hi n i d→(∀ e∈sbsN n d,∃ j,Desc y i j∧TreeN y lo hi n j e)∧∀ j,Desc y i j→∃ e∈sbsN n d,TreeN y lo hi n j e
 | 0,i,d,h=>h.elim
 | n+1,i,d,h=>by
  obtain⟨nm,its,⟨k0,e⟩,_⟩:=h.ok;subst e;obtain⟨hk0,hn,ht,hit,h1,h2⟩:=h.inv;rw[sbsN_prt]
  constructor
  ·intro e he;obtain⟨f,hf,he⟩:=List.mem_flatMap.mp he;obtain⟨c,hc,t⟩:=h1 f hf;rcases zG.mp he with rfl|he
   ·exact⟨c,.one hc,t.succ⟩
   ·obtain⟨j,hj,tj⟩:=t.within.1 e he;exact⟨j,.head hc hj,tj.succ⟩
  ·intro j hj;rcases hj.head_cases with hc|⟨c,hc,hj⟩
   ·obtain⟨f,hf,t⟩:=h2 j hc;exact⟨f,List.mem_flatMap.mpr ⟨f,hf,zD⟩,t.succ⟩
   ·obtain⟨f,hf,t⟩:=h2 c hc;obtain⟨e,he,te⟩:=t.within.2 j hj;exact⟨e,List.mem_flatMap.mpr ⟨f,hf,zB _ he⟩,te.succ⟩
noncomputable def blwN (n:Nat) (way:Str) (d:D):List D:=if way=sOwn then (match d with|.tup [_,.lst its,_]=>ptsI its|_=>[]) else sbsN n d
theorem TreeN.reach {n i:Nat}{d:D}(h:TreeN y lo hi n i d){way:Str}(hw:way=sInner∨way=sOwn):(∀ e∈blwN n way d,∃ j,Reach y way i j∧TreeN y lo hi n j e)∧∀ j,Reach y way i j→∃ e∈blwN n way d,TreeN y lo hi n j e:=by
 cases n with
 | zero=>exact h.elim
 | succ n=>
  obtain⟨nm,its,⟨k0,e⟩,_⟩:=h.ok;subst e;obtain⟨hk0,hn,ht,hit,h1,h2⟩:=h.inv;rcases hw with rfl|rfl
  ·unfold blwN;rw[if_neg nIO]
   constructor
   ·intro e he;obtain⟨j,hj,t⟩:=h.within.1 e he;exact⟨j,.inr ⟨rfl,hj⟩,t⟩
   ·rintro j (hj|⟨_,hj⟩)
    ·exact h.within.2 j (.one hj)
    ·exact h.within.2 j hj
  ·unfold blwN;rw[if_pos rfl]
   constructor
   ·intro e he;obtain⟨c,hc,t⟩:=h1 e he;exact⟨c,.inl hc,t.succ⟩
   ·rintro j (hj|⟨z,_⟩)
    ·obtain⟨e,he,t⟩:=h2 j hj;exact⟨e,he,t.succ⟩
    ·exact absurd z.symm nIO
end
noncomputable def SzN (m:Nat) (d:D):Prop:=∃ p ss k k',Sgs [p] ss∧ss.length≤m∧Num [p] k [d] k'
theorem Num.of_prt {p:D}{nm:Str}{its:List D}{z:Int}{k k':Nat}(h:Num [p] k [prtN nm its z] k'):∃ its0,p=prtD nm its0∧z=(k:Int)-1∧Num its0 (k+1) its k':=by
 cases h with
 | prt h1 h2=>cases h2;exact⟨_,rfl,rfl,h1⟩
theorem SzN.item {m:Nat}{nm:Str}{its:List D}{z:Int}(h:SzN m (prtN nm its z)):its.length≤m∧∀ e∈its,SzN m e:=by
 obtain⟨p,ss,k,k',h1,h2,h3⟩:=h;obtain⟨its0,rfl,rfl,h4⟩:=h3.of_prt;obtain⟨ss',h5,rfl⟩:=h1.prt_inv;have:=h5.len;simp at h2;refine⟨by rw[h4.len];omega,fun e he =>?_⟩
 obtain⟨e0,he0,a,b,q⟩:=h4.item e he;obtain⟨s,q1,q2⟩:=h5.item e0 he0;exact⟨e0,s,a,b,q1,by omega,q⟩
noncomputable def nbD:D→Int
 | .tup [_,_,.int k]=>k
 | _=>0
theorem num_nums {its its':List D}{k k':Nat}(h:Num its k its' k'):∀ {n:Nat},(∀ e∈its',ItmN n e)→(((ptsI its').flatMap fun e=>e::sbsN n e).map nbD)=(List.range' k (k'-k)).map fun i:Nat=>(i:Int)-1:=by
 induction h with
 | nil=>intro n _;simp
 | @txt x ds ds' k k' _ ih=>
  intro n hi;have:ptsI (.str x::ds')=ptsI ds':=by simp[ptsI,isStrD]
  rw[this];exact ih fun e he=>hi e (zB _ he)
 | @prt nm its ds its' ds' k k1 k2 h1 h2 i1 i2=>
  intro n hi;have hp:ptsI (prtN nm its' ((k:Int)-1)::ds')=prtN nm its' ((k:Int)-1)::ptsI ds':=by simp[ptsI,isStrD]
  rw[hp,List.flatMap_cons,List.map_append,i2 fun e he=>hi e (zB _ he)]
  rcases hi _ zD with ⟨x,z⟩|z
  ·cases z
  ·cases n with
   | zero=>exact z.elim
   | succ n=>
    obtain⟨nm',its'',⟨_,z⟩,hz⟩:=z;injection z with z;injection z with _ z;injection z with z _;injection z with z;subst z;rw[sbsN_prt,List.map_cons,i1 hz];have l1:=h1.le;have l2:=h2.le;have e:List.range' k (k2-k)=k::(List.range' (k+1) (k1-(k+1))++List.range' k1 (k2-k1)):=by
     have e1:k2-k=(k1-(k+1)+(k2-k1))+1:=by omega
     rw[e1,List.range'_succ]
     congr 1
     have:=List.range'_append (s:=k+1) (m:=k1-(k+1)) (n:=k2-k1) (step:=1);rw[show k+1+1*(k1-(k+1))=k1 by omega] at this
     rw[← this]
    rw[e];simp[nbD]
theorem num_one {p d:D}{k k' n:Nat}(h:Num [p] k [d] k') (hp:PtN n d):((d::sbsN n d).map nbD)=(List.range' k (k'-k)).map fun i:Nat=>(i:Int)-1:=by
 have:=num_nums h (n:=n) (fun e he=>by rw[yG.mp he];exact .inr hp)
 have e:ptsI [d]=[d]:=by simp[ptsI,hp.notStr]
 rw[e] at this;simpa using this
theorem SzN.sbs {m n:Nat}{d:D}(h:SzN m d) (hp:PtN n d):(sbsN n d).length≤m∧((sbsN n d).map nbD).Nodup:=by
 obtain⟨p,ss,k,k',h1,h2,h3⟩:=h;have e:=num_one h3 hp;have hl:(sbsN n d).length+1=k'-k:=by have:=congrArg List.length e;simpa using this
 have:=h3.size h1;refine⟨by omega,?_⟩
 have nd:((List.range' k (k'-k)).map fun i:Nat=>(i:Int)-1).Nodup:=by
  refine List.Pairwise.map _ (fun a b (hab:a≠b) =>?_) List.nodup_range'
  omega
 rw[← e,List.map_cons] at nd;exact(List.nodup_cons.mp nd).2
theorem SzN.mem_subs {m:Nat}:∀ {n:Nat}{d:D},SzN m d→PtN n d→∀ e∈sbsN n d,SzN m e∧PtN n e
 | 0,d,h,hp=>hp.elim
 | n+1,d,h,hp=>by
  obtain⟨nm,its,⟨k,rfl⟩,hi⟩:=hp;intro e he;rw[sbsN_prt] at he;obtain⟨f,hf,he⟩:=List.mem_flatMap.mp he;have hf':f∈its∧isStrD f=false:=by simpa [ptsI] using hf
  have hsf:=h.item.2 f hf'.1;have hpf:PtN n f:=by
   rcases hi f hf'.1 with ⟨x,z⟩|z
   ·rw[z] at hf';cases hf'.2
   ·exact z
  rcases zG.mp he with rfl|he
  ·exact⟨hsf,hpf.succ⟩
  ·have:=hsf.mem_subs hpf e he;exact⟨this.1,this.2.succ⟩
theorem sub_flat {α:Type}(f:α→List α):∀ l:List α,l.Sublist (l.flatMap fun e=>e::f e)
 | [] =>.slnil
 | a::l=>by rw[List.flatMap_cons,List.cons_append];exact((sub_flat f l).trans (List.sublist_append_right _ _)).cons_cons _
theorem SzN.blw {m n:Nat}{d:D}(h:SzN m d) (hp:PtN n d) (way:Str):(blwN n way d).length≤m∧((blwN n way d).map nbD).Nodup:=by
 unfold blwN
 split
 ·cases n with
  | zero=>exact hp.elim
  | succ n=>obtain⟨nm,its,⟨k,rfl⟩,hi⟩:=hp;obtain⟨s1,s2⟩:=h.sbs (n:=n+1) ⟨nm,its,⟨k,rfl⟩,hi⟩;rw[sbsN_prt] at s1 s2;have sb:=sub_flat (sbsN n) (ptsI its);exact⟨yB sb.length_le s1,s2.sublist (sb.map _)⟩
 ·exact h.sbs hp
theorem PtN.dOk:∀ {n:Nat}{d:D},PtN n d→∀ k,2*n≤k→L2.dOk d k=true
 | 0,d,h,k,hk=>h.elim
 | n+1,d,⟨nm,its,⟨z,e⟩,h⟩,k,hk=>by
  subst e;have e1:(k != 0)=true:=by simp;omega
  have e2:(k-1 != 0)=true:=by simp;omega
  have all:∀ l:List D,(∀ e∈l,ItmN n e)→dOks l (k-1-1)=true:=by
   intro l
   induction l with
   | nil=>intro _;rfl
   | cons x l ih=>
    intro hl;simp only[dOks,Bool.and_eq_true];refine⟨?_,ih fun e he=>hl e (zB _ he)⟩
    rcases hl x zD with ⟨s,rfl⟩|z
    ·simp[L2.dOk]
    ·exact z.dOk _ (by omega)
  simp only[L2.dOk,dOks,e1,e2,all its h,Bool.and_self]
theorem items_dOksN {n:Nat}{its:List D}(h:∀ e∈its,ItmN n e) (k:Nat) (hk:2*n≤k):dOks its k=true:=by
 induction its with
 | nil=>rfl
 | cons x l ih=>
  simp only[dOks,Bool.and_eq_true];refine⟨?_,ih fun e he=>h e (zB _ he)⟩
  rcases h x zD with ⟨s,rfl⟩|z
  ·simp[L2.dOk]
  ·exact z.dOk _ hk
theorem table_partN {Fs:List D→Option (List D)}(hFs:∀ d ss,Sgs [d] ss→ss.length≤1000→Fs [d]=some ss){n:Nat}{d:D}(hp:PtOk n d) (hz:Sz 900 d) {d':D}{k':Nat}(hu:Num [d] 0 [d'] k') :
  ∃ y,F_laid "Layout" Fs [d]=some (lyD "Layout" y)∧LW y∧y.names.length≤1000∧y.names.length=k'∧TreeN y 0 y.names.length n 0 d':=by
 cases n with
 | zero=>exact hp.elim
 | succ n=>
  obtain⟨nm,its,rfl,hi⟩:=hp;obtain⟨ss0,h1,h2⟩:=hz;obtain⟨ss,h3,rfl⟩:=h1.prt_inv;obtain⟨jts,rfl,hu'⟩:=hu.prt_inv;have es:lstep ly0 (sgO nm)=some ⟨[.str nm],[-1],[[]],[0]⟩:=by simp[lstep]
  have hy1:LW ⟨[.str nm],[-1],[[]],[0]⟩:=LW.step (z:=ly0) ⟨rfl,rfl,fun d h=>(by cases h),fun d h=>(by cases h),fun i p h=>by simp at h,fun r h=>by cases h⟩ es fun _ _ _=>rfl
  obtain⟨y2,cs,e2,hk2,hy2,r2,p2,t21,t22,ch2,tr2⟩:=items_runN h3 hi hy1 (r:=[]) (k:=0) rfl (jts:=jts) (kk:=k') hu';have e3:lstep y2 sgC=some { y2 with row:=[] }:=by simp only[lstep,if_true];rw[if_neg (by rw[r2];simp),r2];rfl
  have hrun:lrun (sgO nm::(ss++[sgC])) ly0=some { y2 with row:=[] }:=by show (lstep ly0 (sgO nm)).bind (lrun (ss++[sgC]))=_;rw[es];simp only[zA];rw[lrun_app,e2];show (lstep y2 sgC).bind (lrun [])=_;rw[e3];rfl
  have hl:=lrun_len _ hrun;simp at hl h2;refine⟨{ y2 with row:=[] },?_,hy2.step e3 (fun x hx _=>by injection hx with hx;injection hx with hx z;cases z),by show y2.names.length≤1000;omega,hk2,?_⟩
  ·unfold F_laid;rw[hFs _ _ h1 (by simp;omega)]
   simp only[zA];rw[if_pos (by simp;omega),hrun];rfl
  ·have keep:Keep y2 { y2 with row:=[] } 0 y2.names.length:=⟨fun _ _ _ _ e=>e,fun _ _ _ _ e=>e,fun _ _ _ _=>Iff.rfl⟩
   have tree:TreeN y2 0 y2.names.length (n+1) 0 (prtN nm jts (((0:Nat):Int)-1)):=by
    have hpos:1≤y2.names.length:=by have:=p2.length_le;simpa using this
    refine⟨zL _,by omega,nm,jts,cs,rfl,num_ok n hu' hi,pre_get p2 (by simp),?_,tr2.imp fun c x _ t=>t.wide (by omega) (zL _),fun c =>?_⟩
    ·rw[hu'.strs];simpa using t21 [] (by simp)
    ·rw[ch2 0 c (by simp)]
     constructor
     ·rintro(⟨z0,p,ep,_⟩|⟨_,z⟩)
      ·have hl:=(zC.mp ep).1;simp at hl;omega
      ·exact z
     ·intro z;exact .inr ⟨rfl,z⟩
   exact tree.keep keep
end L2
end
noncomputable section
namespace K05
open PySem L2
noncomputable def top (i:Nat):Stmt:=PySem.Challenge.pw_earlysift_k05_plain_answers.main.body.getD i (.Pass ⟨0,0,0,0⟩)
noncomputable def b_draws_1:DG:=
  (sSeq (sSet 7 (e2 oMod (eV 6) (eCall oLen (aC (eV 5) aN))))
    (sSeq (sIf (tB1 (e2 oGe (eV 6) (eV 1)))
    (sApp 4 (e2 oMod (e2 oIx (eV 5) (eV 7)) (eK (.int 2147483587))))
    sNil)
    (sItem 5 (eV 7) (e2 oFdiv (e2 oIx (eV 5) (eV 7)) (eK (.int 2147483587))))))
noncomputable def b_draws_2:DG:=
  (sSeq (sSet 8 (e2 oAdd (e2 oMul (e2 oMul (e2 oAdd (eV 6) (eV 1)) (e2 oAdd (eV 6) (eV 1))) (eK (.int 7919))) (eK (.int 104729))))
   (sSeq (sSet 9 (e2 oMod (e2 oMul (e2 oAdd (e2 oMod (e2 oIx (eV 3) (e2 oMod (eV 6) (eCall oLen (aC (eV 3) aN)))) (eK (.int 2147483647))) (eV 8)) (eK (.int 48271))) (eK (.int 2147483647))))
   (sSeq (sSet 9 (e2 oMod (e2 oAdd (e2 oMul (eV 9) (eV 9)) (e2 oMul (eK (.int 69621)) (eV 6))) (eK (.int 2147483629))))
   (sApp 4 (e2 oMod (e2 oMul (eV 9) (eV 9)) (eK (.int 2147483587)))))))
noncomputable def g_draws:DG:=
  (sSeq (sSet 3 (e2 oAdd (eF (fSl (eV 0) pN (pS (eK (.int 63))))) (eF (eLst (aC (eV 1) aN)))))
  (sSeq (sSetO 4 (eLst aN))
  (sSeq (sIf (tB1 (e2 oEq (e2 oMod (e2 oFdiv (e2 oIx (eV 3) (eK (.int 0))) (eK (.int 50000))) (eK (.int 2))) (eK (.int 1))))
  (sSeq (sSetO 5 (fLC (iL (eV 3)) [none] (gN 0) tYes (e2 oFdiv (eV 0) (eK (.int 100000)))))
   (sSeq (sFor (iR1 (e2 oAdd (eV 1) (eV 2))) (gN 6)
   b_draws_1)
   (sRetO 4)))
  sNil)
  (sSeq (sFor (iR1 (eV 2)) (gN 6)
  b_draws_2)
  (sRetO 4)))))
noncomputable def F_draws:List D→Option (List D):=runO 3 10 g_draws
noncomputable abbrev st_draws:Stmt:=top 13
noncomputable abbrev N_draws:List Str:=["_law_script", "_law_turn", "_law_many", "_law_cells", "_law_found", "_law_left", "_law_k", "_law_at", "_law_place", "_law_number"]
theorem sc_draws:FnScope N_draws ["_law_script", "_law_turn", "_law_many"] (defScope st_draws):=⟨rfl,rfl,rfl,by decide +kernel,rfl,by decide +kernel,by decide +kernel⟩
noncomputable def g_pop:DG:=
  (sSeq (sIf (tB1 (e2 oEq (eV 0) (eF (eLst aN))))
  (sRetM (mP (eK (.int 0))))
  sNil)
  (sRetM (mPop 0)))
noncomputable def F_pop:List D→Option (D×List D):=runM 1 1 0 g_pop
noncomputable abbrev st_pop:Stmt:=top 14
noncomputable abbrev N_pop:List Str:=["_law_draws_here"]
theorem sc_pop:FnScope N_pop ["_law_draws_here"] (defScope st_pop):=⟨rfl,rfl,rfl,by decide +kernel,rfl,by decide +kernel,by decide +kernel⟩
noncomputable def g_text:DG:=
  (sSeq (sSet 1 (eF (eLst (aC (eK (.str (Str.ofString ""))) (aC (eK (.str (Str.ofString "x"))) (aC (eK (.str (Str.ofString "any"))) (aC (eK (.str (Str.ofString "\""))) (aC (eK (.str (Str.ofString "\\"))) (aC (eK (.str (Str.ofString "\\q"))) (aC (eK (.str (Str.ofString "a b"))) (aC (eK (.str (Str.ofString "]"))) aN)))))))))))
  (sRet (e2 oIx (eV 1) (e2 oMod (eV 0) (eCall oLen (aC (eV 1) aN))))))
noncomputable def F_text:List D→Option D:=runD 1 2 g_text
noncomputable abbrev st_text:Stmt:=top 18
noncomputable abbrev N_text:List Str:=["_law_number", "_law_some"]
theorem sc_text:FnScope N_text ["_law_number"] (defScope st_text):=⟨rfl,rfl,rfl,by decide +kernel,rfl,by decide +kernel,by decide +kernel⟩
noncomputable def b_signs_1:DG:=
  (sSeq (sSet 6 (e2 oMod (eV 5) (eK (.int 8))))
   (sIf (tOrD (tB1 (e2 oEq (eV 3) (eF (eLst aN)))) (tAndD (tB1 (e2 oLt (eV 6) (eK (.int 4)))) (tB1 (e2 oLt (eV 4) (eV 2)))))
   (sSeq (sApp 3 (eTup (aC (eK (.str (Str.ofString "open"))) (aC (e2 oIx (eV 1) (e2 oMod (e2 oFdiv (eV 5) (eK (.int 8))) (eCall oLen (aC (eV 1) aN)))) aN))))
    (sSet 4 (e2 oAdd (eV 4) (eK (.int 1)))))
   (sIf (tOrD (tB1 (e2 oLt (eV 6) (eK (.int 6)))) (tB1 (e2 oLt (eV 4) (eK (.int 2)))))
    (sApp 3 (eTup (aC (eK (.str (Str.ofString "text"))) (aC (eCall F_text (aC (e2 oMod (e2 oFdiv (eV 5) (eK (.int 8))) (eK (.int 3))) aN)) aN))))
    (sSeq (sApp 3 (eTup (aC (eK (.str (Str.ofString "close"))) aN)))
     (sSet 4 (e2 oSub (eV 4) (eK (.int 1))))))))
noncomputable def g_signs:DG:=
  (sSeq (sSetO 3 (eLst aN))
  (sSeq (sSet 4 (eK (.int 0)))
  (sSeq (sFor (iL (eV 0)) (gN 5)
  b_signs_1)
  (sRetO 3))))
noncomputable def F_signs:List D→Option (List D):=runO 3 7 g_signs
noncomputable abbrev st_signs:Stmt:=top 19
noncomputable abbrev N_signs:List Str:=["_law_draws_here", "_law_names_here", "_law_deep", "_law_found", "_law_depth", "_law_number", "_law_kind"]
theorem sc_signs:FnScope N_signs ["_law_draws_here", "_law_names_here", "_law_deep"] (defScope st_signs):=⟨rfl,rfl,rfl,by decide +kernel,rfl,by decide +kernel,by decide +kernel⟩
noncomputable section
variable {P:Program}{w:World}{K:Frag}{mg:Str→Option Value}{base:Heap}{f:Addr}{fd:FuncData}
theorem ok_draws (F:Fun K "_law_draws" "_law_draws" st_draws f fd) (z_len:mg "len" = none) (z_range:mg "range" = none):FnOk P w K mg base CX0 1 f fd ["_law_script", "_law_turn", "_law_many"] (spO K F_draws):=
 F.okO (own:=[4,5]) (own':=[4,5]) (g:=g_draws) sc_draws (by decide) fun cdv A outer s H E hr B hB=>
  (dss_cons (ds_set (i:=3) sc_draws.nd rfl (.inl rfl) (de_op od_add (dq (df (de_slL (vQ 0) dpo_none (dpo_some (dq de_int))))) (dq (df (de_lst (da_cons (vP 1) da_nil))))))
  (dss_cons (ds_setO (i:=4) sc_draws.nd rfl (.inl rfl) (de_lst da_nil))
  (dss_cons (ds_if (dt_cmp (od_eq hr) (dq (de_op od_mod (dq (de_op od_fdiv (dq (de_ix (vQ 3) (dq de_int))) (dq de_int))) (dq de_int))) (dq de_int) (nomark _))
  (dss_cons (ds_lcsetO (i:=5) (own':=[]) (N:=[("_law_cell" : Str)]) (src:=[none]) (blk_mk (outer:=defScope st_draws) (oN:=N_draws) rfl (by decide +kernel) rfl rfl) rfl sc_draws.nd rfl rfl (di_list (vP 3)) (ag_name 0) (by decide) (hte_name 0) (fun C s H ex=>⟨pg_name (i:=0) (show ([("_law_cell" : Str)]:List Str).Nodup by decide +kernel) rfl (.inl rfl),dts_nil,(de_op od_fdiv (vQ 0) (dq de_int))⟩))
   (dss_cons (ds_for PassesOwn.never rfl (di_range1 rfl z_range (dq (de_op od_add (vQ 1) (vQ 2)))) (fun B hB=>(dg_name (pg_name (i:=6) sc_draws.nd rfl (.inl rfl)))) (fun B hB=>
   (dss_cons (ds_set (i:=7) sc_draws.nd rfl (.inl rfl) (de_op od_mod (vQ 6) (dq (de_len rfl z_len (dvo (pv 5))))))
    (dss_cons (ds_if (dt_cmp od_ge (vQ 6) (vQ 1) (nomark _))
    (dss_one (ds_app (pv 4) (de_op od_mod (dq (de_ix (dvo (pv 5)) (vQ 7))) (dq de_int))))
    dss_nil)
    (dss_one (ds_item (pv 5) (vQ 7) (de_op od_fdiv (dq (de_ix (dvo (pv 5)) (vQ 7))) (dq de_int))))))))
   (dss_one (ds_retO (pv 4)))))
  dss_nil)
  (dss_cons (ds_for PassesOwn.never rfl (di_range1 rfl z_range (vQ 2)) (fun B hB=>(dg_name (pg_name (i:=6) sc_draws.nd rfl (.inl rfl)))) (fun B hB=>
  (dss_cons (ds_set (i:=8) sc_draws.nd rfl (.inl rfl) (de_op od_add (dq (de_op od_mul (dq (de_op od_mul (dq (de_op od_add (vQ 6) (vQ 1))) (dq (de_op od_add (vQ 6) (vQ 1))))) (dq de_int))) (dq de_int)))
   (dss_cons (ds_set (i:=9) sc_draws.nd rfl (.inl rfl) (de_op od_mod (dq (de_op od_mul (dq (de_op od_add (dq (de_op od_mod (dq (de_ix (vQ 3) (dq (de_op od_mod (vQ 6) (dq (de_len rfl z_len (vQ 3))))))) (dq de_int))) (vQ 8))) (dq de_int))) (dq de_int)))
   (dss_cons (ds_set (i:=9) sc_draws.nd rfl (.inl rfl) (de_op od_mod (dq (de_op od_add (dq (de_op od_mul (vQ 9) (vQ 9))) (dq (de_op od_mul (dq de_int) (vQ 6))))) (dq de_int)))
   (dss_one (ds_app (pv 4) (de_op od_mod (dq (de_op od_mul (vQ 9) (vQ 9))) (dq de_int)))))))))
  (dss_one (ds_retO (pv 4)))))))
theorem ok_pop (F:Fun K "_law_pop" "_law_pop" st_pop f fd):FnOk P w K mg base CX0 1 f fd ["_law_draws_here"] (spM K 0 F_pop):=
 F.okM (own:=[0]) (own':=[0]) (g:=g_pop) sc_pop 0 (by decide) (by decide) fun cdv A outer s H E hr B a hB=>
  (dss_cons (ds_if (dt_cmp (od_eq hr) (dvo (pv 0)) (dq (df (de_lst da_nil))) (nomark _))
  (dss_one (ds_retM (dm_pure de_int)))
  dss_nil)
  (dss_one (ds_retM (dm_pop (pv 0)))))
theorem ok_text (F:Fun K "_law_text" "_law_text" st_text f fd) (z_len:mg "len" = none):FnOk P w K mg base CX0 1 f fd ["_law_number"] (spF K F_text):=
 F.okD (own:=[]) (own':=[]) (g:=g_text) sc_text (by decide) fun cdv A outer s H E hr B hB=>
  (dss_cons (ds_set (i:=1) sc_text.nd rfl (.inl rfl) (df (de_lst (da_cons de_str (da_cons de_str (da_cons de_str (da_cons de_str (da_cons de_str (da_cons de_str (da_cons de_str (da_cons de_str da_nil)))))))))))
  (dss_one (ds_ret (de_ix (vQ 1) (dq (de_op od_mod (vQ 0) (dq (de_len rfl z_len (vQ 1)))))))))
theorem ok_signs (F:Fun K "_law_signs" "_law_signs" st_signs f fd) (z_len:mg "len" = none) (h_text:Ok1 P w K mg base "_law_text" 1 (spF K F_text)):FnOk P w K mg base CX0 2 f fd ["_law_draws_here", "_law_names_here", "_law_deep"] (spO K F_signs):=
 F.okO (own:=[3]) (own':=[3]) (g:=g_signs) sc_signs (by decide) fun cdv A outer s H E hr B hB=>
  (dss_cons (ds_setO (i:=3) sc_signs.nd rfl (.inl rfl) (de_lst da_nil))
  (dss_cons (ds_set (i:=4) sc_signs.nd rfl (.inl rfl) de_int)
  (dss_cons (ds_for PassesOwn.never rfl (di_list (vP 0)) (fun B hB=>(dg_name (pg_name (i:=5) sc_signs.nd rfl (.inl rfl)))) (fun B hB=>
  (dss_cons (ds_set (i:=6) sc_signs.nd rfl (.inl rfl) (de_op od_mod (vQ 5) (dq de_int)))
   (dss_one (ds_if (PW.pt (dw_or (dt_cmp (od_eq hr) (dvo (pv 3)) (dq (df (de_lst da_nil))) (nomark _)) (dw_or1 (PW.pt (dw_and (dt_cmp od_lt (vQ 6) (dq de_int) (nomark _)) (dw_and1 (dt_cmp od_lt (vQ 4) (vQ 2) (nomark _))))))))
   (dss_cons (ds_app (pv 3) (de_tup (da_cons de_str (da_cons (de_ix (vQ 1) (dq (de_op od_mod (dq (de_op od_fdiv (vQ 5) (dq de_int))) (dq (de_len rfl z_len (vQ 1)))))) da_nil))))
    (dss_one (ds_set (i:=4) sc_signs.nd rfl (.inl rfl) (de_op od_add (vQ 4) (dq de_int)))))
   (dss_one (ds_if (PW.pt (dw_or (dt_cmp od_lt (vQ 6) (dq de_int) (nomark _)) (dw_or1 (dt_cmp od_lt (vQ 4) (dq de_int) (nomark _)))))
    (dss_one (ds_app (pv 3) (de_tup (da_cons de_str (da_cons (de_call h_text hr rfl (da_cons (de_op od_mod (dq (de_op od_fdiv (vQ 5) (dq de_int))) (dq de_int)) da_nil)) da_nil)))))
    (dss_cons (ds_app (pv 3) (de_tup (da_cons de_str da_nil)))
     (dss_one (ds_set (i:=4) sc_signs.nd rfl (.inl rfl) (de_op od_sub (vQ 4) (dq de_int))))))))))))
  (dss_one (ds_retO (pv 3))))))
end
end K05
end
noncomputable section
namespace K05
open PySem L2
noncomputable def g_wish (F_wish:List D→Option (D×List D)) (F_steps:List D→Option (D×List D)):DG:=
  (sSeq (sSetM 3 (mCall F_pop 0 aN))
  (sSeq (sSet 4 (e2 oMod (eV 3) (eK (.int 8))))
  (sSeq (sIf (tOrD (tB1 (e2 oEq (eV 4) (eK (.int 2)))) (tB1 (e2 oEq (eV 4) (eK (.int 3)))))
  (sRetM (mP (eTup (aC (eK (.str (Str.ofString "text"))) (aC (eCall F_text (aC (e2 oFdiv (eV 3) (eK (.int 8))) aN)) aN)))))
  sNil)
  (sSeq (sIf (tOrD (tB1 (e2 oLt (eV 4) (eK (.int 2)))) (tB1 (e2 oEq (eV 2) (eK (.int 0)))))
  (sRetM (mP (eTup (aC (eK (.str (Str.ofString "any"))) aN))))
  sNil)
  (sSeq (sIf (tB1 (e2 oLt (eV 4) (eK (.int 6))))
  (sRetM (mTup (mAC (mP (eK (.str (Str.ofString "has")))) (mAC (mCall F_steps 0 (aC (eV 1) (aC (e2 oSub (eV 2) (eK (.int 1))) aN))) mAN))))
  sNil)
  (sSeq (sSet 5 (e2 oIx (eF (eLst (aC (eK (.int 2)) (aC (eK (.int 1)) (aC (eK (.int 0)) (aC (eK (.int 3)) aN)))))) (e2 oMod (e2 oFdiv (eV 3) (eK (.int 8))) (eK (.int 4)))))
  (sRetM (mTup (mAC (mP (e2 oIx (eF (eLst (aC (eK (.str (Str.ofString "both"))) (aC (eK (.str (Str.ofString "one"))) aN)))) (e2 oSub (eV 4) (eK (.int 6))))) (mAC (mLC (iR1 (eV 5)) [none,some 0,some 1,some 2] (gN 0) (mCall F_wish 1 (aC (eV 2) (aC (e2 oSub (eV 3) (eK (.int 1))) aN))) 1 0) mAN))))))))))
noncomputable abbrev st_wish:Stmt:=top 21
noncomputable abbrev N_wish:List Str:=["_law_draws_here", "_law_names_here", "_law_deep", "_law_number", "_law_kind", "_law_many"]
theorem sc_wish:FnScope N_wish ["_law_draws_here", "_law_names_here", "_law_deep"] (defScope st_wish):=⟨rfl,rfl,rfl,by decide +kernel,rfl,by decide +kernel,by decide +kernel⟩
noncomputable def b_steps_1 (F_wish:List D→Option (D×List D)) (F_steps:List D→Option (D×List D)):DG:=
  (sSeq (sSetM 5 (mCall F_pop 0 aN))
   (sSeq (sSet 6 (e2 oIx (e2 oAdd (eV 1) (eF (eLst (aC (eK (.str (Str.ofString "*"))) aN)))) (e2 oMod (e2 oFdiv (eV 5) (eK (.int 2))) (e2 oAdd (eCall oLen (aC (eV 1) aN)) (eK (.int 1))))))
   (sAppM 3 (mTup (mAC (mP (e2 oIx (eF (eLst (aC (eK (.str (Str.ofString "inner"))) (aC (eK (.str (Str.ofString "own"))) aN)))) (e2 oMod (eV 5) (eK (.int 2))))) (mAC (mP (eV 6)) (mAC (mCall F_wish 0 (aC (eV 1) (aC (eV 2) aN))) mAN)))))))
noncomputable def g_steps (F_wish:List D→Option (D×List D)) (F_steps:List D→Option (D×List D)):DG:=
  (sSeq (sSetO 3 (eLst aN))
  (sSeq (sForM (iRM (m2 oIx (mP (eF (eLst (aC (eK (.int 1)) (aC (eK (.int 1)) (aC (eK (.int 2)) (aC (eK (.int 3)) aN))))))) (m2 oMod (mCall F_pop 0 aN) (mP (eK (.int 4)))))) (gN 4)
  (b_steps_1 F_wish F_steps))
  (sRetMO 3)))
noncomputable abbrev st_steps:Stmt:=top 22
noncomputable abbrev N_steps:List Str:=["_law_draws_here", "_law_names_here", "_law_deep", "_law_found", "_law_k", "_law_number", "_law_name_here"]
theorem sc_steps:FnScope N_steps ["_law_draws_here", "_law_names_here", "_law_deep"] (defScope st_steps):=⟨rfl,rfl,rfl,by decide +kernel,rfl,by decide +kernel,by decide +kernel⟩
noncomputable def b_more_steps_1:DG:=
  (sSeq (sSetM 4 (mCall F_pop 0 aN))
   (sSeq (sSet 5 (e2 oIx (e2 oAdd (eV 1) (eF (eLst (aC (eK (.str (Str.ofString "*"))) aN)))) (e2 oMod (e2 oFdiv (eV 4) (eK (.int 2))) (e2 oAdd (eCall oLen (aC (eV 1) aN)) (eK (.int 1))))))
   (sApp 2 (eTup (aC (e2 oIx (eF (eLst (aC (eK (.str (Str.ofString "inner"))) (aC (eK (.str (Str.ofString "own"))) aN)))) (e2 oMod (eV 4) (eK (.int 2)))) (aC (eV 5) (aC (eTup (aC (eK (.str (Str.ofString "any"))) aN)) aN)))))))
noncomputable def g_more_steps:DG:=
  (sSeq (sSetO 2 (eLst aN))
  (sSeq (sForM (iRM (m2 oAdd (mP (eK (.int 1))) (m2 oMod (mCall F_pop 0 aN) (mP (eK (.int 2)))))) (gN 3)
  b_more_steps_1)
  (sRetMO 2)))
noncomputable def F_more_steps:List D→Option (D×List D):=runM 2 6 0 g_more_steps
noncomputable abbrev st_more_steps:Stmt:=top 23
noncomputable abbrev N_more_steps:List Str:=["_law_draws_here", "_law_names_here", "_law_found", "_law_k", "_law_number", "_law_name_here"]
theorem sc_more_steps:FnScope N_more_steps ["_law_draws_here", "_law_names_here"] (defScope st_more_steps):=⟨rfl,rfl,rfl,by decide +kernel,rfl,by decide +kernel,by decide +kernel⟩
mutual
noncomputable def Fr_wish:Nat→List D→Option (D×List D)
 | 0=>fun _=>none
 | n+1=>runM 3 6 0 (g_wish (Fr_wish n) (Fr_steps n))
noncomputable def Fr_steps:Nat→List D→Option (D×List D)
 | 0=>fun _=>none
 | n+1=>runM 3 7 0 (g_steps (Fr_wish n) (Fr_steps n))
end
noncomputable section
variable {P:Program}{w:World}{K:Frag}{mg:Str→Option Value}{base:Heap}{f:Addr}{fd:FuncData}
theorem ok_wish {n:Nat}(F:Fun K "_law_wish" "_law_wish" st_wish f fd) (z_range:mg "range" = none) (h_pop:Ok1 P w K mg base "_law_pop" (n+1) (spM K 0 F_pop)) (h_text:Ok1 P w K mg base "_law_text" (n+1) (spF K F_text)) (h_steps:Ok1 P w K mg base "_law_steps" (n+1) (spM K 0 (Fr_steps n))) (h_wish:Ok1 P w K mg base "_law_wish" (n+1) (spM K 0 (Fr_wish n))):FnOk P w K mg base CX0 (n+1+1) f fd ["_law_draws_here", "_law_names_here", "_law_deep"] (spM K 0 (Fr_wish (n+1))):=
 F.okM (own:=[0]) (own':=[0]) (g:=(g_wish (Fr_wish n) (Fr_steps n))) sc_wish 0 (by decide) (by decide) fun cdv A outer s H E hr B a hB=>
  (dss_cons (ds_setM (i:=3) sc_wish.nd rfl (.inl rfl) (dm_call h_pop hr rfl (pv 0) da_nil))
  (dss_cons (ds_set (i:=4) sc_wish.nd rfl (.inl rfl) (de_op od_mod (vQ 3) (dq de_int)))
  (dss_cons (ds_if (PW.pt (dw_or (dt_cmp (od_eq hr) (vQ 4) (dq de_int) (nomark _)) (dw_or1 (dt_cmp (od_eq hr) (vQ 4) (dq de_int) (nomark _)))))
  (dss_one (ds_retM (dm_pure (de_tup (da_cons de_str (da_cons (de_call h_text hr rfl (da_cons (de_op od_fdiv (vQ 3) (dq de_int)) da_nil)) da_nil))))))
  dss_nil)
  (dss_cons (ds_if (PW.pt (dw_or (dt_cmp od_lt (vQ 4) (dq de_int) (nomark _)) (dw_or1 (dt_cmp (od_eq hr) (vQ 2) (dq de_int) (nomark _)))))
  (dss_one (ds_retM (dm_pure (de_tup (da_cons de_str da_nil)))))
  dss_nil)
  (dss_cons (ds_if (dt_cmp od_lt (vQ 4) (dq de_int) (nomark _))
  (dss_one (ds_retM (dm_tup (dma_cons (dm_pure de_str) (dma_cons (dm_call h_steps hr rfl (pv 0) (da_cons (vP 1) (da_cons (de_op od_sub (vQ 2) (dq de_int)) da_nil))) dma_nil)))))
  dss_nil)
  (dss_cons (ds_set (i:=5) sc_wish.nd rfl (.inl rfl) (de_ix (dq (df (de_lst (da_cons de_int (da_cons de_int (da_cons de_int (da_cons de_int da_nil))))))) (dq (de_op od_mod (dq (de_op od_fdiv (vQ 3) (dq de_int))) (dq de_int)))))
  (dss_one (ds_retM (dm_tup (dma_cons (dm_pure (de_ix (dq (df (de_lst (da_cons de_str (da_cons de_str da_nil))))) (dq (de_op od_sub (vQ 4) (dq de_int))))) (dma_cons (dm_lc (i0:=1) (j0:=0) (N:=[("_law_k" : Str),("_law_draws_here" : Str),("_law_names_here" : Str),("_law_deep" : Str)]) (src:=[none,some 0,some 1,some 2]) (blk_mk (outer:=defScope st_wish) (oN:=N_wish) rfl (by decide +kernel) rfl rfl) rfl (di_range1 rfl z_range (vQ 5)) (ag_name 0) (by decide) (htm_name _ 0 1) (fun C s H ex=>⟨pg_name (i:=0) (show ([("_law_k" : Str),("_law_draws_here" : Str),("_law_names_here" : Str),("_law_deep" : Str)]:List Str).Nodup by decide +kernel) rfl (Or.inl rfl),dts_nil,dmx fun B a hB=>(dm_call h_wish hr rfl (pv 1) (da_cons (vP 2) (da_cons (de_op od_sub (vQ 3) (dq de_int)) da_nil)))⟩)) dma_nil)))))))))))
theorem ok_steps {n:Nat}(F:Fun K "_law_steps" "_law_steps" st_steps f fd) (z_len:mg "len" = none) (z_range:mg "range" = none) (h_pop:Ok1 P w K mg base "_law_pop" (n+1) (spM K 0 F_pop)) (h_wish:Ok1 P w K mg base "_law_wish" (n+1) (spM K 0 (Fr_wish n))):FnOk P w K mg base CX0 (n+1+1) f fd ["_law_draws_here", "_law_names_here", "_law_deep"] (spM K 0 (Fr_steps (n+1))):=
 F.okM (own:=[0,3]) (own':=[0,3]) (g:=(g_steps (Fr_wish n) (Fr_steps n))) sc_steps 0 (by decide) (by decide) fun cdv A outer s H E hr B a hB=>
  (dss_cons (ds_setO (i:=3) sc_steps.nd rfl (.inl rfl) (de_lst da_nil))
  (dss_cons (ds_forM PassesOwn.never rfl (dim_range1 rfl z_range (dm_ix (dm_pure (df (de_lst (da_cons de_int (da_cons de_int (da_cons de_int (da_cons de_int da_nil))))))) (dm_op od_mod (dm_call h_pop hr rfl (pv 0) da_nil) (dm_pure de_int)))) (fun B hB=>(dg_name (pg_name (i:=4) sc_steps.nd rfl (.inl rfl)))) (fun B hB=>
  (dss_cons (ds_setM (i:=5) sc_steps.nd rfl (.inl rfl) (dm_call h_pop hr rfl (pv 0) da_nil))
   (dss_cons (ds_set (i:=6) sc_steps.nd rfl (.inl rfl) (de_ix (dq (de_op od_add (vQ 1) (dq (df (de_lst (da_cons de_str da_nil)))))) (dq (de_op od_mod (dq (de_op od_fdiv (vQ 5) (dq de_int))) (dq (de_op od_add (dq (de_len rfl z_len (vQ 1))) (dq de_int)))))))
   (dss_one (ds_appM (pv 3) (dm_tup (dma_cons (dm_pure (de_ix (dq (df (de_lst (da_cons de_str (da_cons de_str da_nil))))) (dq (de_op od_mod (vQ 5) (dq de_int))))) (dma_cons (dm_pure (vP 6)) (dma_cons (dm_call h_wish hr rfl (pv 0) (da_cons (vP 1) (da_cons (vP 2) da_nil))) dma_nil))))))))))
  (dss_one (ds_retMO (pv 3)))))
theorem ok_more_steps (F:Fun K "_law_more_steps" "_law_more_steps" st_more_steps f fd) (z_len:mg "len" = none) (z_range:mg "range" = none) (h_pop:Ok1 P w K mg base "_law_pop" 1 (spM K 0 F_pop)):FnOk P w K mg base CX0 2 f fd ["_law_draws_here", "_law_names_here"] (spM K 0 F_more_steps):=
 F.okM (own:=[0,2]) (own':=[0,2]) (g:=g_more_steps) sc_more_steps 0 (by decide) (by decide) fun cdv A outer s H E hr B a hB=>
  (dss_cons (ds_setO (i:=2) sc_more_steps.nd rfl (.inl rfl) (de_lst da_nil))
  (dss_cons (ds_forM PassesOwn.never rfl (dim_range1 rfl z_range (dm_op od_add (dm_pure de_int) (dm_op od_mod (dm_call h_pop hr rfl (pv 0) da_nil) (dm_pure de_int)))) (fun B hB=>(dg_name (pg_name (i:=3) sc_more_steps.nd rfl (.inl rfl)))) (fun B hB=>
  (dss_cons (ds_setM (i:=4) sc_more_steps.nd rfl (.inl rfl) (dm_call h_pop hr rfl (pv 0) da_nil))
   (dss_cons (ds_set (i:=5) sc_more_steps.nd rfl (.inl rfl) (de_ix (dq (de_op od_add (vQ 1) (dq (df (de_lst (da_cons de_str da_nil)))))) (dq (de_op od_mod (dq (de_op od_fdiv (vQ 4) (dq de_int))) (dq (de_op od_add (dq (de_len rfl z_len (vQ 1))) (dq de_int)))))))
   (dss_one (ds_app (pv 2) (de_tup (da_cons (de_ix (dq (df (de_lst (da_cons de_str (da_cons de_str da_nil))))) (dq (de_op od_mod (vQ 4) (dq de_int)))) (da_cons (vP 5) (da_cons (de_tup (da_cons de_str da_nil)) da_nil))))))))))
  (dss_one (ds_retMO (pv 2)))))
end
end K05
end
noncomputable section
namespace K05
open PySem L2
noncomputable def b_signs_of_1:DG:=
  (sSeq (sPop 3 2)
   (sIf (tB1 (e2 oIsN (eV 3) (eK .non)))
   (sApp 1 (eTup (aC (eK (.str (Str.ofString "close"))) aN)))
   (sIf (tTru (eIs "str" (eV 3)))
    (sApp 1 (eTup (aC (eK (.str (Str.ofString "text"))) (aC (eV 3) aN))))
    (sSeq (sApp 1 (eTup (aC (eK (.str (Str.ofString "open"))) (aC (e2 oIx (eV 3) (eK (.int 0))) aN))))
     (sSeq (sApp 2 (eK .non))
     (sExtend 2 (eF (fRev (e2 oIx (eV 3) (eK (.int 1)))))))))))
noncomputable def g_signs_of:DG:=
  (sSeq (sSetO 1 (eLst aN))
  (sSeq (sSetO 2 (eLst (aC (eV 0) aN)))
  (sSeq (sWhile 1000000 (tTru (eV 2))
  b_signs_of_1)
  (sRetO 1))))
noncomputable def F_signs_of:List D→Option (List D):=runO 1 4 g_signs_of
noncomputable abbrev st_signs_of:Stmt:=top 2
noncomputable abbrev N_signs_of:List Str:=["part", "signs", "rest", "piece"]
theorem sc_signs_of:FnScope N_signs_of ["part"] (defScope st_signs_of):=⟨rfl,rfl,rfl,by decide +kernel,rfl,by decide +kernel,by decide +kernel⟩
noncomputable def g_both_marks:DG:=
  (sRetF (fLC (iZ (eV 0) (eV 1)) [none,none] (gN2 0 1) tYes (eAnd (eV 0) (eV 1))))
noncomputable def F_both_marks:List D→Option (List D):=runO 2 2 g_both_marks
noncomputable abbrev st_both_marks:Stmt:=top 9
noncomputable abbrev N_both_marks:List Str:=["ones", "others"]
theorem sc_both_marks:FnScope N_both_marks ["ones", "others"] (defScope st_both_marks):=⟨rfl,rfl,rfl,by decide +kernel,rfl,by decide +kernel,by decide +kernel⟩
noncomputable def b_below_marks_1:DG:=
  (sSeq (sSet 5 (e2 oIx (eFld "Layout" "parents" (eV 0)) (eV 4)))
   (sItem 3 (eV 4) (eOr (e2 oIx (eV 2) (eV 5)) (eAnd (e2 oEq (eV 1) (eK (.str (Str.ofString "inner")))) (e2 oIx (eV 3) (eV 5))))))
noncomputable def g_below_marks:DG:=
  (sSeq (sSetO 3 (fLC (iL (eV 2)) [none] (gN 0) tYes (eK (.bl false))))
  (sSeq (sFor (iR2 (eK (.int 1)) (eCall oLen (aC (eV 2) aN))) (gN 4)
  b_below_marks_1)
  (sRetO 3)))
noncomputable def F_below_marks:List D→Option (List D):=runO 3 6 g_below_marks
noncomputable abbrev st_below_marks:Stmt:=top 10
noncomputable abbrev N_below_marks:List Str:=["layout", "way", "marks", "below", "number", "parent"]
theorem sc_below_marks:FnScope N_below_marks ["layout", "way", "marks"] (defScope st_below_marks):=⟨rfl,rfl,rfl,by decide +kernel,rfl,by decide +kernel,by decide +kernel⟩
noncomputable def b_above_marks_1:DG:=
  (sIf (tOrD (tTru (e2 oIx (eV 2) (eV 4))) (tAndD (tB1 (e2 oEq (eV 1) (eK (.str (Str.ofString "inner"))))) (tTru (e2 oIx (eV 3) (eV 4)))))
   (sItem 3 (e2 oIx (eFld "Layout" "parents" (eV 0)) (eV 4)) (eK (.bl true)))
   sNil)
noncomputable def g_above_marks:DG:=
  (sSeq (sSetO 3 (fLC (iL (eV 2)) [none] (gN 0) tYes (eK (.bl false))))
  (sSeq (sFor (iR3 (e2 oSub (eCall oLen (aC (eV 2) aN)) (eK (.int 1))) (eK (.int 0))) (gN 4)
  b_above_marks_1)
  (sRetO 3)))
noncomputable def F_above_marks:List D→Option (List D):=runO 3 5 g_above_marks
noncomputable abbrev st_above_marks:Stmt:=top 11
noncomputable abbrev N_above_marks:List Str:=["layout", "way", "marks", "above", "number"]
theorem sc_above_marks:FnScope N_above_marks ["layout", "way", "marks"] (defScope st_above_marks):=⟨rfl,rfl,rfl,by decide +kernel,rfl,by decide +kernel,by decide +kernel⟩
noncomputable def g_name:DG:=
  (sSeq (sSet 2 (eK (.str (Str.ofString "abcdefghijklmnopqrstuvwxyz"))))
  (sSeq (sSet 3 (e2 oJoin (eK (.str (Str.ofString ""))) (eF (fLC (iR1 (e2 oMod (eV 1) (eK (.int 11)))) [none,some 2,some 1] (gN 0) tYes (e2 oIx (eV 1) (e2 oMod (e2 oAdd (e2 oFdiv (eV 2) (eK (.int 150))) (e2 oMul (eV 0) (eV 0))) (eK (.int 26))))))))
  (sSeq (sSet 4 (e2 oMod (e2 oFdiv (eV 1) (eK (.int 11))) (e2 oAdd (eCall oLen (aC (eV 3) aN)) (eK (.int 1)))))
  (sRet (e2 oAdd (e2 oAdd (e2 oAdd (eSlS (eV 3) pN (pS (eV 4))) (e2 oIx (eV 2) (e2 oMod (e2 oAdd (e2 oFdiv (eV 0) (eK (.int 2))) (eV 1)) (eK (.int 26))))) (eSlS (eV 3) (pS (eV 4)) pN)) (e2 oMulS (eK (.str (Str.ofString "a"))) (e2 oMod (eV 0) (eK (.int 2)))))))))
noncomputable def F_name:List D→Option D:=runD 2 5 g_name
noncomputable abbrev st_name:Stmt:=top 16
noncomputable abbrev N_name:List Str:=["_law_k", "_law_draw", "_law_letters", "_law_base", "_law_at"]
theorem sc_name:FnScope N_name ["_law_k", "_law_draw"] (defScope st_name):=⟨rfl,rfl,rfl,by decide +kernel,rfl,by decide +kernel,by decide +kernel⟩
noncomputable def g_names:DG:=
  (sRetF (fLC (iR1 (e2 oAdd (eK (.int 1)) (e2 oMod (e2 oFdiv (eV 0) (eK (.int 7))) (eK (.int 4))))) [none,some 0] (gN 0) tYes (eCall F_name (aC (eV 0) (aC (eV 1) aN)))))
noncomputable def F_names:List D→Option (List D):=runO 1 1 g_names
noncomputable abbrev st_names:Stmt:=top 17
noncomputable abbrev N_names:List Str:=["_law_draw"]
theorem sc_names:FnScope N_names ["_law_draw"] (defScope st_names):=⟨rfl,rfl,rfl,by decide +kernel,rfl,by decide +kernel,by decide +kernel⟩
noncomputable section
variable {P:Program}{w:World}{K:Frag}{mg:Str→Option Value}{base:Heap}{f:Addr}{fd:FuncData}
theorem ok_signs_of (F:Fun K "signs_of" "signs_of" st_signs_of f fd) (z_isinstance:mg "isinstance" = none) (z_list:mg "list" = none) (z_reversed:mg "reversed" = none) (z_str:mg "str" = none):FnOk P w K mg base CX0 1 f fd ["part"] (spO K F_signs_of):=
 F.okO (own:=[1,2]) (own':=[1,2]) (g:=g_signs_of) sc_signs_of (by decide) fun cdv A outer s H E hr B hB=>
  (dss_cons (ds_setO (i:=1) sc_signs_of.nd rfl (.inl rfl) (de_lst da_nil))
  (dss_cons (ds_setO (i:=2) sc_signs_of.nd rfl (.inl rfl) (de_lst (da_cons (vP 0) da_nil)))
  (dss_cons (ds_while 1000000 PassesOwn.never (dt_truth (dvo (pv 2)))
  (dss_cons (ds_popset (i:=3) sc_signs_of.nd rfl (.inl rfl) (pv 2))
   (dss_one (ds_if (dt_cmp od_isN (vQ 3) (dq de_non) (nomark _))
   (dss_one (ds_app (pv 1) (de_tup (da_cons de_str da_nil))))
   (dss_one (ds_if (dt_truth (dq (de_isinst (T:= "str") (by decide) rfl z_isinstance rfl z_str (by decide +kernel) (vQ 3))))
    (dss_one (ds_app (pv 1) (de_tup (da_cons de_str (da_cons (vP 3) da_nil)))))
    (dss_cons (ds_app (pv 1) (de_tup (da_cons de_str (da_cons (de_ix (vQ 3) (dq de_int)) da_nil))))
     (dss_cons (ds_app (pv 2) de_non)
     (dss_one (ds_extend (pv 2) (df (de_listRev rfl rfl z_list rfl z_reversed (dq (de_ix (vQ 3) (dq de_int)))))))))))))))
  (dss_one (ds_retO (pv 1))))))
theorem ok_both_marks (F:Fun K "both_marks" "both_marks" st_both_marks f fd) (z_zip:mg "zip" = none):FnOk P w K mg base CX0 1 f fd ["ones", "others"] (spO K F_both_marks):=
 F.okO (own:=[]) (own':=[]) (g:=g_both_marks) sc_both_marks (by decide) fun cdv A outer s H E hr B hB=>
  (dss_one (ds_retF (de_lc (own':=[]) (N:=[("one" : Str),("other" : Str)]) (src:=[none,none]) (blk_mk (outer:=defScope st_both_marks) (oN:=N_both_marks) rfl (by decide +kernel) rfl rfl) rfl (di_zip rfl z_zip (vP 0) (vP 1)) (ag_two _ 0 1) (by decide) (hte_two 0 1) (fun C s H ex=>⟨pg_tup rfl (pgs_cons (pg_name (i:=0) (show ([("one" : Str),("other" : Str)]:List Str).Nodup by decide +kernel) rfl (.inl rfl)) (pgs_cons (pg_name (i:=1) (show ([("one" : Str),("other" : Str)]:List Str).Nodup by decide +kernel) rfl (.inl rfl)) pgs_nil)),dts_nil,(de_and (vP 0) (de_one (vP 1)))⟩))))
theorem ok_below_marks (F:Fun K "below_marks" "below_marks" st_below_marks f fd) (z_len:mg "len" = none) (z_range:mg "range" = none) (k_Layout_parents:∀ C,nsIn K mainGlobals "Layout" = some (some (.ref C))→Cls K C∧NoAttr K C "parents"):FnOk P w K mg base CX0 1 f fd ["layout", "way", "marks"] (spO K F_below_marks):=
 F.okO (own:=[3]) (own':=[3]) (g:=g_below_marks) sc_below_marks (by decide) fun cdv A outer s H E hr B hB=>
  (dss_cons (ds_lcsetO (i:=3) (own':=[]) (N:=[("mark" : Str)]) (src:=[none]) (blk_mk (outer:=defScope st_below_marks) (oN:=N_below_marks) rfl (by decide +kernel) rfl rfl) rfl sc_below_marks.nd rfl rfl (di_list (vP 2)) (ag_name 0) (by decide) (hte_name 0) (fun C s H ex=>⟨pg_name (i:=0) (show ([("mark" : Str)]:List Str).Nodup by decide +kernel) rfl (.inl rfl),dts_nil,de_bl⟩))
  (dss_cons (ds_for PassesOwn.never rfl (di_range2 rfl z_range (dq de_int) (dq (de_len rfl z_len (vQ 2)))) (fun B hB=>(dg_name (pg_name (i:=4) sc_below_marks.nd rfl (.inl rfl)))) (fun B hB=>
  (dss_cons (ds_set (i:=5) sc_below_marks.nd rfl (.inl rfl) (de_ix (dq (de_fld (c:= "Layout") (vP 0) k_Layout_parents)) (vQ 4)))
   (dss_one (ds_item (pv 3) (vQ 4) (de_or (de_ix (vQ 2) (vQ 5)) (de_one (de_and (de_cmp (od_eq hr) (vQ 1) (dq de_str) (nomark _)) (de_one (de_ix (dvo (pv 3)) (vQ 5)))))))))))
  (dss_one (ds_retO (pv 3)))))
theorem ok_above_marks (F:Fun K "above_marks" "above_marks" st_above_marks f fd) (z_len:mg "len" = none) (z_range:mg "range" = none) (k_Layout_parents:∀ C,nsIn K mainGlobals "Layout" = some (some (.ref C))→Cls K C∧NoAttr K C "parents"):FnOk P w K mg base CX0 1 f fd ["layout", "way", "marks"] (spO K F_above_marks):=
 F.okO (own:=[3]) (own':=[3]) (g:=g_above_marks) sc_above_marks (by decide) fun cdv A outer s H E hr B hB=>
  (dss_cons (ds_lcsetO (i:=3) (own':=[]) (N:=[("mark" : Str)]) (src:=[none]) (blk_mk (outer:=defScope st_above_marks) (oN:=N_above_marks) rfl (by decide +kernel) rfl rfl) rfl sc_above_marks.nd rfl rfl (di_list (vP 2)) (ag_name 0) (by decide) (hte_name 0) (fun C s H ex=>⟨pg_name (i:=0) (show ([("mark" : Str)]:List Str).Nodup by decide +kernel) rfl (.inl rfl),dts_nil,de_bl⟩))
  (dss_cons (ds_for PassesOwn.never rfl (di_range3 rfl z_range (de_op od_sub (dq (de_len rfl z_len (vQ 2))) (dq de_int)) de_int (de_neg (dq de_int))) (fun B hB=>(dg_name (pg_name (i:=4) sc_above_marks.nd rfl (.inl rfl)))) (fun B hB=>
  (dss_one (ds_if (PW.pt (dw_or (dt_truth (dq (de_ix (vQ 2) (vQ 4)))) (dw_or1 (PW.pt (dw_and (dt_cmp (od_eq hr) (vQ 1) (dq de_str) (nomark _)) (dw_and1 (dt_truth (dq (de_ix (dvo (pv 3)) (vQ 4))))))))))
   (dss_one (ds_item (pv 3) (dq (de_ix (dq (de_fld (c:= "Layout") (vP 0) k_Layout_parents)) (vQ 4))) de_bl))
   dss_nil))))
  (dss_one (ds_retO (pv 3)))))
theorem ok_name (F:Fun K "_law_name" "_law_name" st_name f fd) (z_len:mg "len" = none) (z_range:mg "range" = none):FnOk P w K mg base CX0 1 f fd ["_law_k", "_law_draw"] (spF K F_name):=
 F.okD (own:=[]) (own':=[]) (g:=g_name) sc_name (by decide) fun cdv A outer s H E hr B hB=>
  (dss_cons (ds_set (i:=2) sc_name.nd rfl (.inr rfl) de_str)
  (dss_cons (ds_set (i:=3) sc_name.nd rfl (.inl rfl) (de_join (dq de_str) (dq (df (de_lc (own':=[]) (N:=[("_law_j" : Str),("_law_letters" : Str),("_law_draw" : Str)]) (src:=[none,some 2,some 1]) (blk_mk (outer:=defScope st_name) (oN:=N_name) rfl (by decide +kernel) rfl rfl) rfl (di_range1 rfl z_range (dq (de_op od_mod (vQ 1) (dq de_int)))) (ag_name 0) (by decide) (hte_name 0) (fun C s H ex=>⟨pg_name (i:=0) (show ([("_law_j" : Str),("_law_letters" : Str),("_law_draw" : Str)]:List Str).Nodup by decide +kernel) rfl (.inl rfl),dts_nil,(de_ix (vQ 1) (dq (de_op od_mod (dq (de_op od_add (dq (de_op od_fdiv (vQ 2) (dq de_int))) (dq (de_op od_mul (vQ 0) (vQ 0))))) (dq de_int))))⟩))))))
  (dss_cons (ds_set (i:=4) sc_name.nd rfl (.inl rfl) (de_op od_mod (dq (de_op od_fdiv (vQ 1) (dq de_int))) (dq (de_op od_add (dq (de_len rfl z_len (vQ 3))) (dq de_int)))))
  (dss_one (ds_ret (de_op od_add (dq (de_op od_add (dq (de_op od_add (dq (de_slS (vQ 3) dpo_none (dpo_some (vQ 4)))) (dq (de_ix (vQ 2) (dq (de_op od_mod (dq (de_op od_add (dq (de_op od_fdiv (vQ 0) (dq de_int))) (vQ 1))) (dq de_int))))))) (dq (de_slS (vQ 3) (dpo_some (vQ 4)) dpo_none)))) (dq (de_op od_mulS (dq de_str) (dq (de_op od_mod (vQ 0) (dq de_int)))))))))))
theorem ok_names (F:Fun K "_law_names" "_law_names" st_names f fd) (z_range:mg "range" = none) (h_name:Ok1 P w K mg base "_law_name" 1 (spF K F_name)):FnOk P w K mg base CX0 2 f fd ["_law_draw"] (spO K F_names):=
 F.okO (own:=[]) (own':=[]) (g:=g_names) sc_names (by decide) fun cdv A outer s H E hr B hB=>
  (dss_one (ds_retF (de_lc (own':=[]) (N:=[("_law_k" : Str),("_law_draw" : Str)]) (src:=[none,some 0]) (blk_mk (outer:=defScope st_names) (oN:=N_names) rfl (by decide +kernel) rfl rfl) rfl (di_range1 rfl z_range (dq (de_op od_add (dq de_int) (dq (de_op od_mod (dq (de_op od_fdiv (vQ 0) (dq de_int))) (dq de_int)))))) (ag_name 0) (by decide) (hte_name 0) (fun C s H ex=>⟨pg_name (i:=0) (show ([("_law_k" : Str),("_law_draw" : Str)]:List Str).Nodup by decide +kernel) rfl (.inl rfl),dts_nil,(de_call h_name hr rfl (da_cons (vP 0) (da_cons (vP 1) da_nil)))⟩))))
end
end K05
end
noncomputable section
namespace K05
open PySem L2
noncomputable def g_wish_marks (F_wish_marks:List D→Option D) (F_start_marks:List D→Option D) (F_fit_marks:List D→Option D):DG:=
  (sSeq (sIf (tB1 (e2 oEq (e2 oIx (eV 1) (eK (.int 0))) (eK (.str (Str.ofString "any")))))
  (sRetF (fLC (iL (eFld "Layout" "names" (eV 0))) [none] (gN 0) tYes (eK (.bl true))))
  sNil)
  (sSeq (sIf (tB1 (e2 oEq (e2 oIx (eV 1) (eK (.int 0))) (eK (.str (Str.ofString "text")))))
  (sRetF (fLC (iL (eFld "Layout" "texts" (eV 0))) [none,some 1] (gN 0) tYes (e2 (oIn false) (e2 oIx (eV 1) (eK (.int 1))) (eV 0))))
  sNil)
  (sSeq (sIf (tB1 (e2 oEq (e2 oIx (eV 1) (eK (.int 0))) (eK (.str (Str.ofString "has")))))
  (sRet (eCall F_start_marks (aC (eV 0) (aC (e2 oIx (eV 1) (eK (.int 1))) aN))))
  sNil)
  (sSeq (sSet 2 (eF (fLC (iL (e2 oIx (eV 1) (eK (.int 1)))) [none,some 0] (gN 0) tYes (eCall F_wish_marks (aC (eV 1) (aC (eV 0) aN))))))
  (sSeq (sSet 3 (eF (fLR (eCall oLen (aC (eFld "Layout" "names" (eV 0)) aN)))))
  (sSeq (sIf (tB1 (e2 oEq (e2 oIx (eV 1) (eK (.int 0))) (eK (.str (Str.ofString "both")))))
  (sRetF (fLC (iL (eV 3)) [none,some 2] (gN 0) tYes (eCall (oAllAny true) (aC (eF (fLC (iL (eV 1)) [none,some 0] (gN 0) tYes (e2 oIx (eV 0) (eV 1)))) aN))))
  sNil)
  (sRetF (fLC (iL (eV 3)) [none,some 2] (gN 0) tYes (eCall (oAllAny false) (aC (eF (fLC (iL (eV 1)) [none,some 0] (gN 0) tYes (e2 oIx (eV 0) (eV 1)))) aN))))))))))
noncomputable abbrev st_wish_marks:Stmt:=top 6
noncomputable abbrev N_wish_marks:List Str:=["layout", "wish", "rows", "numbers"]
theorem sc_wish_marks:FnScope N_wish_marks ["layout", "wish"] (defScope st_wish_marks):=⟨rfl,rfl,rfl,by decide +kernel,rfl,by decide +kernel,by decide +kernel⟩
noncomputable def b_start_marks_1 (F_wish_marks:List D→Option D) (F_start_marks:List D→Option D) (F_fit_marks:List D→Option D):DG:=
  (sSet 2 (eF (fCall F_above_marks (aC (eV 0) (aC (e2 oIx (eV 3) (eK (.int 0))) (aC (eF (fCall F_both_marks (aC (eV 2) (aC (eCall F_fit_marks (aC (eV 0) (aC (eV 3) aN))) aN)))) aN))))))
noncomputable def g_start_marks (F_wish_marks:List D→Option D) (F_start_marks:List D→Option D) (F_fit_marks:List D→Option D):DG:=
  (sSeq (sSet 2 (eF (fLC (iL (eFld "Layout" "names" (eV 0))) [none] (gN 0) tYes (eK (.bl true)))))
  (sSeq (sFor (fRev (eV 1)) (gN 3)
  (b_start_marks_1 F_wish_marks F_start_marks F_fit_marks))
  (sRet (eV 2))))
noncomputable abbrev st_start_marks:Stmt:=top 7
noncomputable abbrev N_start_marks:List Str:=["layout", "steps", "marks", "step"]
theorem sc_start_marks:FnScope N_start_marks ["layout", "steps"] (defScope st_start_marks):=⟨rfl,rfl,rfl,by decide +kernel,rfl,by decide +kernel,by decide +kernel⟩
noncomputable def g_fit_marks (F_wish_marks:List D→Option D) (F_start_marks:List D→Option D) (F_fit_marks:List D→Option D):DG:=
  (sSeq (sSet 2 (eF (fLC (iL (eFld "Layout" "names" (eV 0))) [none,some 1] (gN 0) tYes (eOr (e2 oEq (e2 oIx (eV 1) (eK (.int 1))) (eK (.str (Str.ofString "*")))) (e2 oEq (e2 oIx (eV 1) (eK (.int 1))) (eV 0))))))
  (sRetF (fCall F_both_marks (aC (eV 2) (aC (eCall F_wish_marks (aC (eV 0) (aC (e2 oIx (eV 1) (eK (.int 2))) aN))) aN)))))
noncomputable abbrev st_fit_marks:Stmt:=top 8
noncomputable abbrev N_fit_marks:List Str:=["layout", "step", "named"]
theorem sc_fit_marks:FnScope N_fit_marks ["layout", "step"] (defScope st_fit_marks):=⟨rfl,rfl,rfl,by decide +kernel,rfl,by decide +kernel,by decide +kernel⟩
mutual
noncomputable def Fr_wish_marks:Nat→List D→Option D
 | 0=>fun _=>none
 | n+1=>runD 2 4 (g_wish_marks (Fr_wish_marks n) (Fr_start_marks n) (Fr_fit_marks n))
noncomputable def Fr_start_marks:Nat→List D→Option D
 | 0=>fun _=>none
 | n+1=>runD 2 4 (g_start_marks (Fr_wish_marks n) (Fr_start_marks n) (Fr_fit_marks n))
noncomputable def Fr_fit_marks:Nat→List D→Option D
 | 0=>fun _=>none
 | n+1=>runD 2 3 (g_fit_marks (Fr_wish_marks n) (Fr_start_marks n) (Fr_fit_marks n))
end
noncomputable section
variable {P:Program}{w:World}{K:Frag}{mg:Str→Option Value}{base:Heap}{f:Addr}{fd:FuncData}
theorem ok_wish_marks {n:Nat}(F:Fun K "wish_marks" "wish_marks" st_wish_marks f fd) (z_all:mg "all" = none) (z_any:mg "any" = none) (z_len:mg "len" = none) (z_list:mg "list" = none) (z_range:mg "range" = none) (k_Layout_names:∀ C,nsIn K mainGlobals "Layout" = some (some (.ref C))→Cls K C∧NoAttr K C "names") (k_Layout_texts:∀ C,nsIn K mainGlobals "Layout" = some (some (.ref C))→Cls K C∧NoAttr K C "texts") (h_start_marks:Ok1 P w K mg base "start_marks" (n+1) (spF K (Fr_start_marks n))) (h_wish_marks:Ok1 P w K mg base "wish_marks" (n+1) (spF K (Fr_wish_marks n))):FnOk P w K mg base CX0 (n+1+1) f fd ["layout", "wish"] (spF K (Fr_wish_marks (n+1))):=
 F.okD (own:=[]) (own':=[]) (g:=(g_wish_marks (Fr_wish_marks n) (Fr_start_marks n) (Fr_fit_marks n))) sc_wish_marks (by decide) fun cdv A outer s H E hr B hB=>
  (dss_cons (ds_if (dt_cmp (od_eq hr) (dq (de_ix (vQ 1) (dq de_int))) (dq de_str) (nomark _))
  (dss_one (ds_retF (de_lc (own':=[]) (N:=[("name" : Str)]) (src:=[none]) (blk_mk (outer:=defScope st_wish_marks) (oN:=N_wish_marks) rfl (by decide +kernel) rfl rfl) rfl (di_list (de_fld (c:= "Layout") (vP 0) k_Layout_names)) (ag_name 0) (by decide) (hte_name 0) (fun C s H ex=>⟨pg_name (i:=0) (show ([("name" : Str)]:List Str).Nodup by decide +kernel) rfl (.inl rfl),dts_nil,de_bl⟩))))
  dss_nil)
  (dss_cons (ds_if (dt_cmp (od_eq hr) (dq (de_ix (vQ 1) (dq de_int))) (dq de_str) (nomark _))
  (dss_one (ds_retF (de_lc (own':=[]) (N:=[("own" : Str),("wish" : Str)]) (src:=[none,some 1]) (blk_mk (outer:=defScope st_wish_marks) (oN:=N_wish_marks) rfl (by decide +kernel) rfl rfl) rfl (di_list (de_fld (c:= "Layout") (vP 0) k_Layout_texts)) (ag_name 0) (by decide) (hte_name 0) (fun C s H ex=>⟨pg_name (i:=0) (show ([("own" : Str),("wish" : Str)]:List Str).Nodup by decide +kernel) rfl (.inl rfl),dts_nil,(de_cmp od_in (dq (de_ix (vQ 1) (dq de_int))) (vQ 0) rfl)⟩))))
  dss_nil)
  (dss_cons (ds_if (dt_cmp (od_eq hr) (dq (de_ix (vQ 1) (dq de_int))) (dq de_str) (nomark _))
  (dss_one (ds_ret (de_call h_start_marks hr rfl (da_cons (vP 0) (da_cons (de_ix (vQ 1) (dq de_int)) da_nil)))))
  dss_nil)
  (dss_cons (ds_set (i:=2) sc_wish_marks.nd rfl (.inr rfl) (df (de_lc (own':=[]) (N:=[("inner" : Str),("layout" : Str)]) (src:=[none,some 0]) (blk_mk (outer:=defScope st_wish_marks) (oN:=N_wish_marks) rfl (by decide +kernel) rfl rfl) rfl (di_list (de_ix (vQ 1) (dq de_int))) (ag_name 0) (by decide) (hte_name 0) (fun C s H ex=>⟨pg_name (i:=0) (show ([("inner" : Str),("layout" : Str)]:List Str).Nodup by decide +kernel) rfl (.inl rfl),dts_nil,(de_call h_wish_marks hr rfl (da_cons (vP 1) (da_cons (vP 0) da_nil)))⟩))))
  (dss_cons (ds_set (i:=3) sc_wish_marks.nd rfl (.inl rfl) (df (de_listRange rfl rfl z_list rfl z_range (dq (de_len rfl z_len (dq (de_fld (c:= "Layout") (vP 0) k_Layout_names)))))))
  (dss_cons (ds_if (dt_cmp (od_eq hr) (dq (de_ix (vQ 1) (dq de_int))) (dq de_str) (nomark _))
  (dss_one (ds_retF (de_lc (own':=[]) (N:=[("number" : Str),("rows" : Str)]) (src:=[none,some 2]) (blk_mk (outer:=defScope st_wish_marks) (oN:=N_wish_marks) rfl (by decide +kernel) rfl rfl) rfl (di_list (vP 3)) (ag_name 0) (by decide) (hte_name 0) (fun C s H ex=>⟨pg_name (i:=0) (show ([("number" : Str),("rows" : Str)]:List Str).Nodup by decide +kernel) rfl (by first|exact Or.inl rfl|exact Or.inr rfl),dts_nil,(de_all rfl rfl z_all (dq (df (de_lc (own':=[]) (N:=[("row" : Str),("number" : Str)]) (src:=[none,some 0]) (blk_mk2 rfl (by decide +kernel)) rfl (di_list (vP 1)) (ag_name 0) (by decide) (hte_name 0) (fun C s H ex=>⟨pg_name (i:=0) (show ([("row" : Str),("number" : Str)]:List Str).Nodup by decide +kernel) rfl (.inl rfl),dts_nil,(de_ix (vQ 0) (vQ 1))⟩)))))⟩))))
  dss_nil)
  (dss_one (ds_retF (de_lc (own':=[]) (N:=[("number" : Str),("rows" : Str)]) (src:=[none,some 2]) (blk_mk (outer:=defScope st_wish_marks) (oN:=N_wish_marks) rfl (by decide +kernel) rfl rfl) rfl (di_list (vP 3)) (ag_name 0) (by decide) (hte_name 0) (fun C s H ex=>⟨pg_name (i:=0) (show ([("number" : Str),("rows" : Str)]:List Str).Nodup by decide +kernel) rfl (by first|exact Or.inl rfl|exact Or.inr rfl),dts_nil,(de_any rfl rfl z_any (dq (df (de_lc (own':=[]) (N:=[("row" : Str),("number" : Str)]) (src:=[none,some 0]) (blk_mk2 rfl (by decide +kernel)) rfl (di_list (vP 1)) (ag_name 0) (by decide) (hte_name 0) (fun C s H ex=>⟨pg_name (i:=0) (show ([("row" : Str),("number" : Str)]:List Str).Nodup by decide +kernel) rfl (.inl rfl),dts_nil,(de_ix (vQ 0) (vQ 1))⟩)))))⟩))))))))))
theorem ok_start_marks {n:Nat}(F:Fun K "start_marks" "start_marks" st_start_marks f fd) (z_reversed:mg "reversed" = none) (k_Layout_names:∀ C,nsIn K mainGlobals "Layout" = some (some (.ref C))→Cls K C∧NoAttr K C "names") (h_above_marks:Ok1 P w K mg base "above_marks" (n+1) (spO K F_above_marks)) (h_both_marks:Ok1 P w K mg base "both_marks" (n+1) (spO K F_both_marks)) (h_fit_marks:Ok1 P w K mg base "fit_marks" (n+1) (spF K (Fr_fit_marks n))):FnOk P w K mg base CX0 (n+1+1) f fd ["layout", "steps"] (spF K (Fr_start_marks (n+1))):=
 F.okD (own:=[]) (own':=[]) (g:=(g_start_marks (Fr_wish_marks n) (Fr_start_marks n) (Fr_fit_marks n))) sc_start_marks (by decide) fun cdv A outer s H E hr B hB=>
  (dss_cons (ds_lcset (i:=2) (own':=[]) (N:=[("name" : Str)]) (src:=[none]) (blk_mk (outer:=defScope st_start_marks) (oN:=N_start_marks) rfl (by decide +kernel) rfl rfl) rfl sc_start_marks.nd rfl rfl (di_list (de_fld (c:= "Layout") (vP 0) k_Layout_names)) (ag_name 0) (by decide) (hte_name 0) (fun C s H ex=>⟨pg_name (i:=0) (show ([("name" : Str)]:List Str).Nodup by decide +kernel) rfl (.inl rfl),dts_nil,de_bl⟩))
  (dss_cons (ds_for PassesOwn.never rfl (di_rev rfl z_reversed (vP 1)) (fun B hB=>(dg_name (pg_name (i:=3) sc_start_marks.nd rfl (.inl rfl)))) (fun B hB=>
  (dss_one (ds_set (i:=2) sc_start_marks.nd rfl (.inl rfl) (df (de_callO h_above_marks hr rfl (da_cons (vP 0) (da_cons (de_ix (vQ 3) (dq de_int)) (da_cons (df (de_callO h_both_marks hr rfl (da_cons (vP 2) (da_cons (de_call h_fit_marks hr rfl (da_cons (vP 0) (da_cons (vP 3) da_nil))) da_nil)))) da_nil)))))))))
  (dss_one (ds_ret (vP 2)))))
theorem ok_fit_marks {n:Nat}(F:Fun K "fit_marks" "fit_marks" st_fit_marks f fd) (k_Layout_names:∀ C,nsIn K mainGlobals "Layout" = some (some (.ref C))→Cls K C∧NoAttr K C "names") (h_both_marks:Ok1 P w K mg base "both_marks" (n+1) (spO K F_both_marks)) (h_wish_marks:Ok1 P w K mg base "wish_marks" (n+1) (spF K (Fr_wish_marks n))):FnOk P w K mg base CX0 (n+1+1) f fd ["layout", "step"] (spF K (Fr_fit_marks (n+1))):=
 F.okD (own:=[]) (own':=[]) (g:=(g_fit_marks (Fr_wish_marks n) (Fr_start_marks n) (Fr_fit_marks n))) sc_fit_marks (by decide) fun cdv A outer s H E hr B hB=>
  (dss_cons (ds_lcset (i:=2) (own':=[]) (N:=[("name" : Str),("step" : Str)]) (src:=[none,some 1]) (blk_mk (outer:=defScope st_fit_marks) (oN:=N_fit_marks) rfl (by decide +kernel) rfl rfl) rfl sc_fit_marks.nd rfl rfl (di_list (de_fld (c:= "Layout") (vP 0) k_Layout_names)) (ag_name 0) (by decide) (hte_name 0) (fun C s H ex=>⟨pg_name (i:=0) (show ([("name" : Str),("step" : Str)]:List Str).Nodup by decide +kernel) rfl (.inl rfl),dts_nil,(de_or (de_cmp (od_eq hr) (dq (de_ix (vQ 1) (dq de_int))) (dq de_str) (nomark _)) (de_one (de_cmp (od_eq hr) (dq (de_ix (vQ 1) (dq de_int))) (vQ 0) (nomark _))))⟩))
  (dss_one (ds_retF (de_callO h_both_marks hr rfl (da_cons (vP 2) (da_cons (de_call h_wish_marks hr rfl (da_cons (vP 0) (da_cons (de_ix (vQ 1) (dq de_int)) da_nil))) da_nil))))))
end
end K05
end
noncomputable section
namespace K05
open PySem L2
noncomputable abbrev st_stump:Stmt:=top 20
noncomputable abbrev N_stump:List Str:=["_law_signs_here", "_law_around", "_law_pile", "_law_sign", "_law_parts"]
theorem sc_stump:FnScope N_stump ["_law_signs_here"] (defScope st_stump):=⟨rfl,rfl,rfl,by decide +kernel,rfl,by decide +kernel,by decide +kernel⟩
structure PpInv (K:Frag) (G0 H0:Hp) (ss:List D) (zf:Zs×List D) (a0 l0 R:Addr) (i:Nat) (σ:St) (H:Hp):Prop where
 ex:∃ G st ls L0 v3 v4,σ=[some (.ref a0),some (.ref l0),some (.ref R),v3,v4]∧Ext G0 H0 G H∧Pile K H0 G H st ls L0 l0 []∧(R::(ls++[l0])).Nodup∧(∀ a∈R::(ls++[l0]),G a=none∧H0 a=none) ∧
  H R=some (.lst ((ls++[l0]).reverse.map V.ref))∧ZLen i (st,L0)∧zrun (ss.drop i) (st,L0)=some zf
theorem ok_stump {P:Program}{w:World}{K:Frag}{mg:Str→Option Value}{base:Heap}{f:Addr}{fd:FuncData}(F:Fun K "_law_stump" "_law_stump" st_stump f fd) :
  FnOk P w K mg base CX0 1 f fd ["_law_signs_here"] (spF K F_stump):=by
 have inv:∀ ds d,F_stump ds=some d→∃ ss zf,ds=[.lst ss]∧ss.length≤100000∧zrun ss ([],[])=some zf∧(zclose zf.1 zf.2)[0]?=some d:=fun ds d eq=>by
  unfold F_stump at eq
  split at eq
  ·split at eq
   ·rename_i ss hz
    cases ez:zrun ss ([],[]) with
    | none=>rw[ez] at eq;cases eq
    | some zf=>rw[ez] at eq;exact⟨ss,zf,rfl,hz,ez,eq⟩
   ·cases eq
  ·cases eq
 refine F.ok sc_stump (fun vs H Q E h =>?_) (fun cdv A outer s H vs Q E hr h =>?_)
 ·obtain⟨G,ds,d,gh,r,eq,_⟩:=h
  obtain⟨ss,zf,rfl,_⟩:=inv ds d eq
  exact r.length.symm
 ·obtain⟨G0,ds,d,gh,r,eq,q⟩:=h
  obtain⟨ss,zf,rfl,hz,ez,ed⟩:=inv ds d eq
  obtain⟨v0,r0,rfl,rs,rn⟩:=reps_cons.mp r
  have:=reps_nil.mp rn;subst this
  obtain⟨a0,us,rfl,ga0,ru⟩:=rep_lst.mp rs
  have big:100000<sizeLine:=by rw[sizeLine_eq];decide
  refine⟨_,pss_cons (ps_set (i:=1) sc_stump.nd rfl (Or.inl rfl) (pe_lst pa_nil))
   (pss_cons (ps_set (i:=2) sc_stump.nd rfl (Or.inl rfl) (pe_lst (pa_cons (pv 1) pa_nil)))
   (pss_cons (ps_for PassesOwn.never rfl (pi_list (pv 0)) (pg_name (i:=3) sc_stump.nd rfl (Or.inl rfl))
    (pss_one (ps_if (pt_cmpR op_eq (pe_ix ix_tup (pv 3) pe_int (fun _ _=>rfl)) pe_str (nomark _))
     (pss_cons (ps_set (i:=4) sc_stump.nd rfl (Or.inl rfl) (pe_lst pa_nil))
     (pss_cons (ps_expr (pe_bm plainAttrs_list PySem.F.slot_list_append PySem.F.type_list_append mt_append (pe_ix ix_list (pv 2) (pe_un un_neg pe_int) (fun _ _=>rfl)) (pa_cons (pe_tup (pa_cons (pe_ix ix_tup (pv 3) pe_int (fun _ _=>rfl)) (pa_cons (pv 4) pa_nil))) pa_nil)))
     (pss_one (ps_expr (pe_bm plainAttrs_list PySem.F.slot_list_append PySem.F.type_list_append mt_append (pv 2) (pa_cons (pv 4) pa_nil))))))
     (pss_one (ps_if (pt_cmpR op_eq (pe_ix ix_tup (pv 3) pe_int (fun _ _=>rfl)) pe_str (nomark _))
      (pss_one (ps_expr (pe_bm plainAttrs_list PySem.F.slot_list_append PySem.F.type_list_append mt_append (pe_ix ix_list (pv 2) (pe_un un_neg pe_int) (fun _ _=>rfl)) (pa_cons (pe_ix ix_tup (pv 3) pe_int (fun _ _=>rfl)) pa_nil))))
      (pss_one (ps_expr (pe_bm0 plainAttrs_list PySem.F.slot_list_pop PySem.F.type_list_pop mt_pop (pv 2)))))))))
   (pss_one (ps_ret (pe_ix ix_list (pv 1) pe_int (fun _ _=>rfl)))))),?_⟩
  refine⟨Nat.zero_le _,fun l0 hl0 =>?_⟩
  refine⟨_,rfl,(by show 1≤sizeLine;omega),fun R hR =>?_⟩
  have nRl:R≠l0:=fun z=>by rw[z,upd_same] at hR;cases hR
  have hR0:H R=none:=by rw[upd_ne nRl] at hR;exact hR
  have sqs:∀ {G H':Hp},Ext G0 H G H'→SqL K H' a0 us:=fun E =>.of (E.gh _ _ (E.gg _ _ ga0))
  have EE0:Ext G0 H G0 (upd (upd H l0 (.lst [])) R (.lst [.ref l0])):=(Ext.lay (p:=l0) gh hl0).trans (Ext.lay (p:=R) (gh.trans (.alloc hl0)) hR)
  refine⟨_,rfl,a0,rfl,⟨us,sqs EE0⟩,?_⟩
  refine for_list (K:=K) (a:=a0) (xs:=us) (fun i σ H'=>PpInv K G0 H ss zf a0 l0 R i σ H')
   ⟨G0,[],[],[],none,none,rfl,EE0,?_,?_,?_,upd_same,⟨zL _,zL _,fun p hp=>by cases hp⟩,ez⟩ (fun i σ H' _ ⟨_,_,_,_,_,_,_,s1,_⟩=>sqs s1) ?_ ?_
  ·exact⟨rfl,[],by rw[upd_ne nRl.symm,upd_same];rfl,.nil⟩
  ·simp;exact nRl
  ·intro a ha
   rcases zG.mp ha with rfl|ha
   ·exact⟨gh.free hR0,hR0⟩
   ·have z:a=l0:=by simpa using ha
    subst z;exact⟨gh.free hl0,hl0⟩
  ·rintro i y σ H1 hy ⟨G1,st,ls,L0,v3,v4,rfl,E1,hp,nd,fr,hR1,zl,ezr⟩
   have hlu:i<us.length:=(zC.mp hy).1
   have hlt:i<ss.length:=by rw[ru.length];exact hlu
   rw[List.drop_eq_getElem_cons hlt] at ezr
   have ezr:(zstep (st,L0) ss[i]).bind (zrun (ss.drop (i+1)))=some zf:=ezr
   cases es:zstep (st,L0) ss[i] with
   | none=>rw[es] at ezr;cases ezr
   | some z'=>
    rw[es] at ezr
    have ezr:zrun (ss.drop (i+1)) z'=some zf:=ezr
    have zl':=zl.step es
    obtain⟨y',hy',ry⟩:=ru.get (zI hlt)
    rw[hy] at hy';cases hy'
    have hlen:=hp.len
    have llen:((ls++[l0]).reverse.map V.ref).length=st.length+1:=by simp[hlen]
    have nd2:=(List.nodup_cons.mp nd).2
    have nR:=(List.nodup_cons.mp nd).1
    have hcR:ls.headD l0≠R:=fun z=>nR (by rw[← z];exact head_mem ls l0)
    rcases zstep_cases es with ⟨x,ek,hopen,rfl⟩|⟨x,ek,hst,rfl⟩|⟨nm,its,r',ek,hst,rfl⟩
    ·
     rw[ek] at ry
     obtain⟨b,ws,rfl,gb,rw'⟩:=rep_tup.mp ry
     obtain⟨w1,q1,rfl,rw1,rw'⟩:=reps_cons.mp rw'
     obtain⟨w2,q2,rfl,rw2,rw'⟩:=reps_cons.mp rw'
     have:=reps_nil.mp rw';subst this
     have:=rep_str.mp rw1;subst this
     have:=rep_str.mp rw2;subst this
     have hb3:H1 b=some (.tup [.str sOpen,.str x]):=E1.gh _ _ (E1.gg _ _ gb)
     refine⟨_,rfl,b,_,_,_,rfl,rfl,.of hb3,atI_nat (j:=0) rfl,rfl,_,rfl,?_⟩
     refine ite2 (fun _ =>?_) (fun hn=>absurd (decide_eq_true rfl) hn)
     obtain⟨vs,hcur,rcur⟩:=hp.inner
     rw[List.append_nil] at hcur
     refine⟨Nat.zero_le _,fun p1 hp1 =>?_⟩
     have E4:=Ext.lay (o :=.lst []) E1.gh hp1
     have hp4:=hp.ext E4
     have hR4:=E4.hh _ _ hR1
     have hb4:=E4.hh _ _ hb3
     have np1:upd H1 p1 (.lst []) p1=some (.lst []):=upd_same
     have hcur4:=E4.hh _ _ hcur
     generalize hH4:upd H1 p1 (.lst [])=H4 at *
     refine⟨_,rfl,_,rfl,R,_,-1,_,rfl,rfl,.of hR4,last_cur ls l0,.inl ⟨rfl,_,.of hcur4⟩,_,rfl,b,_,_,_,rfl,rfl,.of hb4,atI_nat (j:=1) rfl,_,rfl,(by show 2≤sizeLine;omega),fun t ht =>?_⟩
     have E5:=Ext.lay (o :=.tup [.str x,.ref p1]) E4.gh ht
     have hp5:=hp4.ext E5
     have hR5:=E5.hh _ _ hR4
     have hcur5:=E5.hh _ _ hcur4
     have np5:=E5.hh _ _ np1
     have nt5:upd H4 t (.tup [.str x,.ref p1]) t=some (.tup [.str x,.ref p1]):=upd_same
     generalize hH5:upd H4 t (.tup [.str x,.ref p1])=H5 at *
     have hvl:vs.length≤i:=by rw[← rcur.length];exact zl.inner
     refine⟨_,vs,_,rfl,rfl,hcur5,(by omega),?_⟩
     have npc:p1≠ls.headD l0:=fun z=>by rw[← z] at hcur;rw[hp1] at hcur;cases hcur
     have hpn1:∀ a∈R::(ls++[l0]),a≠p1:=fun a ha z=>by
      subst z
      rcases zG.mp ha with rfl|ha
      ·rw[hp1] at hR1;cases hR1
      ·obtain⟨o,z⟩:=hp.isl a ha
       rw[hp1] at z;cases z
     have tcur:t≠ls.headD l0:=fun z=>by rw[← z] at hcur4;rw[ht] at hcur4;cases hcur4
     have tR:t≠R:=fun z=>by rw[z] at ht;rw[hR4] at ht;cases ht
     have hR6:upd H5 (ls.headD l0) (.lst (vs++[.ref t])) R=some (.lst ((ls++[l0]).reverse.map V.ref)):=by rw[upd_ne hcR.symm];exact hR5
     have nt6:upd H5 (ls.headD l0) (.lst (vs++[.ref t])) t=some (.tup [.str x,.ref p1]):=by rw[upd_ne tcur];exact nt5
     have hlR:((ls++[l0]).reverse.map V.ref).length<sizeLine:=by have:=zl.st;simp at this;rw[llen];omega
     refine⟨_,rfl,.inl ⟨rfl,_,.of hR6⟩,_,rfl,R,_,_,rfl,rfl,hR6,hlR,?_⟩
     have E06:Ext G0 H G1 H5:=E1.trans (E4.trans E5)
     have h0t:H t=none:=(E1.hh.trans E4.hh).free ht
     have h0p:H p1=none:=E1.hh.free hp1
     have g3p:G1 p1=none:=E1.gh.free hp1
     have g3t:G1 t=none:=E4.gh.free ht
     have ps:=hp5.set (its':=L2.inner st L0) (vs':=vs) (tail':=[.ref t]) rcur nd2
     have inn:setI st L0 (L2.inner st L0)=(st,L0):=by cases st with
      | nil=>rfl
      | cons c st=>obtain⟨a,b⟩:=c;rfl
     rw[inn] at ps
     have pu:=Pile.upd (a:=R) (ws:=(ls++[l0]).reverse.map V.ref++[.ref p1]) hR6 (fun z=>nR (zU _ z)) (fun z=>nR (by rw[z];simp)) ps
     have ndp:p1∉R::(ls++[l0]):=fun z=>hpn1 _ z rfl
     have np6:upd (upd H5 (ls.headD l0) (.lst (vs++[.ref t]))) R (.lst ((ls++[l0]).reverse.map V.ref++[.ref p1])) p1=some (.lst []):=by
      rw[upd_ne (fun z=>ndp (by rw[z];exact zD)),upd_ne npc];exact np5
     refine⟨G1,(x,[])::st,p1::ls,L0,_,_,rfl,⟨fun b' o z =>?_,E06.gg,fun b' o z =>?_,E06.fr⟩,⟨p1,ls,t,rfl,⟨[],np6,.nil⟩,?_,g3t,h0t,pu⟩,?_,fun a ha =>?_,?_,zl',ezr⟩
     ·have n1:b'≠R:=fun z'=>by rw[z',(fr R zD).2] at z;cases z
      have n2:b'≠ls.headD l0:=fun z'=>by rw[z',(fr _ (zB _ (head_mem ls l0))).2] at z;cases z
      rw[upd_ne n1,upd_ne n2];exact E06.hh _ _ z
     ·have n1:b'≠R:=fun z'=>by rw[z',(fr R zD).1] at z;cases z
      have n2:b'≠ls.headD l0:=fun z'=>by rw[z',(fr _ (zB _ (head_mem ls l0))).1] at z;cases z
      rw[upd_ne n1,upd_ne n2];exact E06.gh _ _ z
     ·rw[upd_ne tR,upd_ne tcur];exact nt5
     ·show (R::p1::(ls++[l0])).Nodup
      refine List.nodup_cons.mpr ⟨fun z =>?_,List.nodup_cons.mpr ⟨fun z=>ndp (zB _ z),nd2⟩⟩
      rcases zG.mp z with z|z
      ·exact ndp (by rw[z];exact zD)
      ·exact nR z
     ·rcases zG.mp ha with rfl|ha
      ·exact fr _ zD
      ·rcases zG.mp ha with rfl|ha
       ·exact⟨g3p,h0p⟩
       ·exact fr a (zB _ ha)
     ·rw[upd_same];simp
    ·
     rw[ek] at ry
     obtain⟨b,ws,rfl,gb,rw'⟩:=rep_tup.mp ry
     obtain⟨w1,q1,rfl,rw1,rw'⟩:=reps_cons.mp rw'
     obtain⟨w2,q2,rfl,rw2,rw'⟩:=reps_cons.mp rw'
     have:=reps_nil.mp rw';subst this
     have:=rep_str.mp rw1;subst this
     have:=rep_str.mp rw2;subst this
     have hb3:H1 b=some (.tup [.str sText,.str x]):=E1.gh _ _ (E1.gg _ _ gb)
     refine⟨_,rfl,b,_,_,_,rfl,rfl,.of hb3,atI_nat (j:=0) rfl,rfl,_,rfl,?_⟩
     refine ite2 (fun hn=>absurd (V.str.inj (of_decide_eq_true hn)) (fun z=>sOT z.symm)) (fun _ =>?_)
     refine⟨_,rfl,b,_,_,_,rfl,rfl,.of hb3,atI_nat (j:=0) rfl,rfl,_,rfl,?_⟩
     refine ite2 (fun _ =>?_) (fun hn=>absurd (decide_eq_true rfl) hn)
     obtain⟨vs,hcur,rcur⟩:=hp.inner
     rw[List.append_nil] at hcur
     have hvl:vs.length≤i:=by rw[← rcur.length];exact zl.inner
     refine⟨_,rfl,_,rfl,R,_,-1,_,rfl,rfl,.of hR1,last_cur ls l0,.inl ⟨rfl,_,.of hcur⟩,_,rfl,b,_,_,_,rfl,rfl,.of hb3,atI_nat (j:=1) rfl,_,vs,_,rfl,rfl,hcur,(by omega),?_⟩
     have ps:=hp.set (its':=L2.inner st L0++[.str x]) (vs':=vs++[.str x]) (tail':=[]) (rcur.append (.cons (rep_str.mpr rfl) .nil)) nd2
     rw[List.append_nil] at ps
     refine⟨G1,_,ls,_,_,_,rfl,⟨fun b' o z =>?_,E1.gg,fun b' o z =>?_,E1.fr⟩,ps,nd,fr,?_,zl',ezr⟩
     ·have n2:b'≠ls.headD l0:=fun z'=>by rw[z',(fr _ (zB _ (head_mem ls l0))).2] at z;cases z
      rw[upd_ne n2];exact E1.hh _ _ z
     ·have n2:b'≠ls.headD l0:=fun z'=>by rw[z',(fr _ (zB _ (head_mem ls l0))).1] at z;cases z
      rw[upd_ne n2];exact E1.gh _ _ z
     ·rw[upd_ne hcR.symm];exact hR1
    ·
     have hst:st=(nm,its)::r':=hst
     subst hst
     rw[ek] at ry
     obtain⟨b,ws,rfl,gb,rw'⟩:=rep_tup.mp ry
     obtain⟨w1,q1,rfl,rw1,rw'⟩:=reps_cons.mp rw'
     have:=reps_nil.mp rw';subst this
     have:=rep_str.mp rw1;subst this
     have hb3:H1 b=some (.tup [.str sClose]):=E1.gh _ _ (E1.gg _ _ gb)
     refine⟨_,rfl,b,_,_,_,rfl,rfl,.of hb3,atI_nat (j:=0) rfl,rfl,_,rfl,?_⟩
     refine ite2 (fun hn=>absurd (V.str.inj (of_decide_eq_true hn)) (fun z=>sOC z.symm)) (fun _ =>?_)
     refine⟨_,rfl,b,_,_,_,rfl,rfl,.of hb3,atI_nat (j:=0) rfl,rfl,_,rfl,?_⟩
     refine ite2 (fun hn=>absurd (V.str.inj (of_decide_eq_true hn)) (fun z=>sTC z.symm)) (fun _ =>?_)
     obtain⟨l,lr,G4,rfl,s1,s2,f2,g4,g4',hp4⟩:=hp.close E1.gh nd2 (fun a ha=>fr a (zB _ ha))
     have eR:(l::lr++[l0]).reverse.map V.ref=(lr++[l0]).reverse.map V.ref++[.ref l]:=by simp
     rw[eR] at hR1
     refine⟨_,rfl,.inl ⟨rfl,_,.of hR1⟩,R,_,.ref l,rfl,rfl,hR1,(by simp),?_⟩
     rw[List.dropLast_concat]
     have g4R:G4 R=none:=g4' R _ hR1 (fun z=>nR (zU _ z)) (fr R zD).1
     have nR':R∉lr++[l0]:=fun z=>nR (zB _ z)
     refine⟨G4,_,lr,_,_,_,rfl,⟨fun b' o z =>?_,E1.gg.trans s1,fun b' o z =>?_,fun b' o z =>?_⟩,Pile.upd (a:=R) hR1 (fun z=>nR' (zU _ z)) (fun z=>nR' (by rw[z];simp)) hp4,List.nodup_cons.mpr ⟨nR',(List.nodup_cons.mp nd2).2⟩,fun a ha =>?_,upd_same,zl',ezr⟩
     ·have n1:b'≠R:=fun z'=>by rw[z',(fr R zD).2] at z;cases z
      rw[upd_ne n1];exact E1.hh _ _ z
     ·have n1:b'≠R:=fun z'=>by rw[z',g4R] at z;cases z
      rw[upd_ne n1];exact s2 _ _ z
     ·rcases f2 b' o z with z|z
      ·exact E1.fr b' o z
      ·exact .inr z
     ·rcases zG.mp ha with rfl|ha
      ·exact⟨g4R,(fr _ zD).2⟩
      ·exact⟨g4 a ha,(fr a (zB _ (zB _ ha))).2⟩
  ·
   rintro σ H1 ⟨G1,st,ls,L0,v3,v4,rfl,E1,hp,nd,fr,hR1,zl,ezr⟩
   rw[← ru.length,List.drop_length] at ezr
   cases ezr
   obtain⟨G2,vs,s1,s2,f2,hl,rl⟩:=Pile.closeAll _ rfl E1.gh (List.nodup_cons.mp nd).2 (fun a ha=>fr a (zB _ ha)) hp
   obtain⟨v,ev,rv⟩:=rl.get ed
   refine⟨_,rfl,l0,vs,0,v,rfl,rfl,.of hl,atI_nat (j:=0) ev,q v G2 H1 ⟨E1.hh,E1.gg.trans s1,s2,fun b o z =>?_⟩ rv⟩
   rcases f2 b o z with z|z
   ·exact E1.fr b o z
   ·exact .inr z
end K05
end
noncomputable section
namespace K05
open PySem L2
noncomputable abbrev st_init:Stmt:=inClass (top 1) 0
noncomputable abbrev st_laid:Stmt:=top 3
theorem sc_init:FnScope ["self"] ["self"] (defScope st_init):=⟨rfl,rfl,rfl,by decide +kernel,rfl,by decide +kernel,by decide +kernel⟩
theorem sc_laid:FnScope ["paper", "layout", "row", "sign"] ["paper"] (defScope st_laid):=⟨rfl,rfl,rfl,by decide +kernel,rfl,by decide +kernel,by decide +kernel⟩
structure Txt (K:Frag) (mg:Str→Option Value) (C:Addr):Prop where
 cl:Cls K C
 nN:NoAttr K C "names"
 nP:NoAttr K C "parents"
 nT:NoAttr K C "texts"
 mgC:mg "Layout" = some (.ref C)
 ns:nsIn K mainGlobals "Layout" = some (some (.ref C))
noncomputable def spInit (C:Addr):Sp:=fun vs H Q _=>∃ a dx,vs=[.ref a]∧H a=some (.ins C dx [])∧∀ n p t H',H n=none→H p=none→H t=none→n≠p→n≠t→p≠t →
 H' a=some (.ins C dx [("names",.ref n),("parents",.ref p),("texts",.ref t)])→H' n=some (.lst [])→H' p=some (.lst [])→H' t=some (.lst [])→(∀ b o,H b=some o→b≠a→H' b=some o)→Q .non H'
noncomputable section
variable {P:Program}{w:World}{K:Frag}{mg:Str→Option Value}{base:Heap}
theorem ok_init {f C:Addr}{fd:FuncData}(F:Fun K "__init__" "Layout.__init__" st_init f fd) (T:Txt K mg C):FnOk P w K mg base CX0 1 f fd ["self"] (spInit C):=by
 refine F.ok sc_init (fun vs H Q E h =>?_) (fun cdv A outer s H vs Q E hr h =>?_)
 ·obtain⟨p,dx,rfl,_⟩:=h
  rfl
 ·obtain⟨a,dx,rfl,ha,k⟩:=h
  refine⟨_,pss_cons (ps_fld (pv 0) (pe_lst pa_nil) rfl) (pss_cons (ps_fld (pv 0) (pe_lst pa_nil) rfl) (pss_one (ps_fld (pv 0) (pe_lst pa_nil) rfl))),?_⟩
  refine⟨Nat.zero_le _,fun n hn =>?_⟩
  have an:a≠n:=ne_of_none ha hn
  refine⟨_,rfl,a,C,dx,[],rfl,(by rw[upd_ne an];exact ha),T.cl,T.nN,(by show 0<1000;decide),?_⟩
  refine⟨Nat.zero_le _,fun p hp =>?_⟩
  have ap:a≠p:=fun z=>by rw[← z,upd_same] at hp;cases hp
  have pn:p≠n:=fun z=>by rw[z,upd_ne an.symm,upd_same] at hp;cases hp
  have hp0:H p=none:=by rw[upd_ne ap.symm,upd_ne pn] at hp;exact hp
  refine⟨_,rfl,a,C,dx,[("names",.ref n)],rfl,(by rw[upd_ne ap,upd_same];rfl),T.cl,T.nP,(by show 1<1000;decide),?_⟩
  refine⟨Nat.zero_le _,fun t ht =>?_⟩
  have at':a≠t:=fun z=>by rw[← z,upd_same] at ht;cases ht
  have tp:t≠p:=fun z=>by rw[z,upd_ne ap.symm,upd_same] at ht;cases ht
  have tn:t≠n:=fun z=>by rw[z,upd_ne an.symm,upd_ne pn.symm,upd_ne an.symm,upd_same] at ht;cases ht
  have ht0:H t=none:=by rw[upd_ne at'.symm,upd_ne tp,upd_ne at'.symm,upd_ne tn] at ht;exact ht
  refine⟨_,rfl,a,C,dx,[("names",.ref n),("parents",.ref p)],rfl,(by rw[upd_ne at',upd_same];rfl),T.cl,T.nT,(by show 2<1000;decide),?_⟩
  refine k n p t _ hn hp0 ht0 pn.symm tn.symm tp.symm (by rw[upd_same];rfl) ?_ ?_ ?_ fun b o e hb =>?_
  ·rw[upd_ne an.symm,upd_ne tn.symm,upd_ne an.symm,upd_ne pn.symm,upd_ne an.symm,upd_same]
  ·rw[upd_ne ap.symm,upd_ne tp.symm,upd_ne ap.symm,upd_same]
  ·rw[upd_ne at'.symm,upd_same]
  ·rw[upd_ne hb,upd_ne (ne_of_none e ht0),upd_ne hb,upd_ne (ne_of_none e hp0),upd_ne hb,upd_ne (ne_of_none e hn)];exact e
theorem lstep_cases {z z':Ly}{s:D}(e:lstep z s=some z'):(∃ x,s=.tup [.str sOpen,.str x]∧z'={ names:=z.names++[.str x],pars:=z.pars++[z.row.getLastD (-1)],texts:=z.texts++[[]],row:=z.row++[(z.names.length:Int)] }) ∨
  (∃ x i ds,s=.tup [.str sText,.str x]∧z.row.getLast? = some i∧0≤i∧z.texts[i.toNat]?=some ds∧z'={ z with texts:=z.texts.set i.toNat (ds++[.str x]) })∨(s=.tup [.str sClose]∧z.row≠[]∧z'={ z with row:=z.row.dropLast }):=by
 unfold lstep at e
 split at e
 ·split at e
  ·rename_i hk;subst hk;cases e;exact .inl ⟨_,rfl,rfl⟩
  ·split at e
   ·rename_i hk;subst hk
    split at e
    ·rename_i i hi
     split at e
     ·rename_i h0;cases et:z.texts[i.toNat]? with
      | none=>rw[et] at e;cases e
      | some ds=>rw[et] at e;cases e;exact .inr (.inl ⟨_,i,ds,rfl,hi,h0,et,rfl⟩)
     ·cases e
    ·cases e
   ·cases e
 ·split at e
  ·rename_i hk;subst hk
   split at e
   ·cases e
   ·rename_i hr;cases e;exact .inr (.inr ⟨rfl,hr,rfl⟩)
  ·cases e
 ·cases e
structure LyLen (i:Nat) (z:Ly):Prop where
 n:z.names.length≤i
 p:z.pars.length≤i
 t:z.texts.length≤i
 r:z.row.length≤i
 e:∀ (j:Nat) ds,z.texts[j]?=some ds→ds.length≤i
theorem LyLen.step {i:Nat}{z z':Ly}{s:D}(h:LyLen i z) (e:lstep z s=some z'):LyLen (i+1) z':=by
 have h1:=h.n;have h2:=h.p;have h3:=h.t;have h4:=h.r;rcases lstep_cases e with ⟨x,_,rfl⟩|⟨x,k,ds,_,_,_,ed,rfl⟩|⟨_,_,rfl⟩
 ·refine⟨by simp;omega,by simp;omega,by simp;omega,by simp;omega,fun j ds hj =>?_⟩
  by_cases hl:j<z.texts.length
  ·rw[yE hl] at hj;have:=h.e j ds hj;omega
  ·have hl2:=(zC.mp hj).1;have:j=z.texts.length:=by simp at hl2;omega
   subst this;simp at hj;subst hj;simp
 ·refine⟨by show z.names.length≤_;omega,by show z.pars.length≤_;omega,by simp;omega,by show z.row.length≤_;omega,fun j es hj =>?_⟩
  by_cases hij:k.toNat=j
  ·subst hij;rw[List.getElem?_set_self (zC.mp ed).1] at hj;cases hj;have:=h.e _ ds ed;simp;omega
  ·have hj:(z.texts.set k.toNat (ds++[.str x]))[j]?=some es:=hj;rw[zK hij] at hj;have:=h.e j es hj;omega
 ·refine⟨by show z.names.length≤_;omega,by show z.pars.length≤_;omega,by show z.texts.length≤_;omega,by simp;omega,fun j es hj=>by have:=h.e j es hj;omega⟩
theorem ok_laid {f C fI:Addr}{fd fdI:FuncData}(F:Fun K "laid_out" "laid_out" st_laid f fd) (T:Txt K mg C) (M:Mk K C fI) (FI:Fun K "__init__" "Layout.__init__" st_init fI fdI) (bI:Binds K fdI ["self"] []) (h_so:Ok1 P w K mg base "signs_of" 1 (spO K F_signs_of)) (z_len:mg "len" = none) :
  FnOk P w K mg base CX0 3 f fd ["paper"] (spF K (F_laid "Layout" F_signs_of)):=by
 obtain⟨fs,fds,pss,hS,hmS,hkS,hbS⟩:=(h_so.mono (show 1≤2 by decide)).ex
 have GI:=ok_init (P:=P) (w:=w) (base:=base) FI T
 have inv:∀ ds d,F_laid "Layout" F_signs_of ds=some d→∃ ss z,F_signs_of ds=some ss∧ss.length≤100000∧lrun ss ⟨[],[],[],[]⟩=some z∧d=lyD "Layout" z:=fun ds d eq=>by
  unfold F_laid at eq
  cases ef:F_signs_of ds with
  | none=>rw[ef] at eq;cases eq
  | some ss=>
   rw[ef] at eq
   have eq:(if ss.length≤100000 then (lrun ss ⟨[],[],[],[]⟩).map (lyD "Layout") else none)=some d:=eq
   split at eq
   ·rename_i hz
    cases er:lrun ss ⟨[],[],[],[]⟩ with
    | none=>rw[er] at eq;cases eq
    | some z=>rw[er] at eq;cases eq;exact⟨ss,z,rfl,hz,er,rfl⟩
   ·cases eq
 have one:∀ ds ss,F_signs_of ds=some ss→ds.length=1:=fun ds ss h=>by
  unfold F_signs_of runO at h
  split at h
  ·assumption
  ·cases h
 refine F.ok sc_laid (fun vs H Q E h =>?_) (fun cdv A outer s H vs Q E hr h =>?_)
 ·obtain⟨G,ds,d,gh,r,eq,_⟩:=h
  obtain⟨ss,z,e1,_⟩:=inv ds d eq
  rw[← r.length,one ds ss e1];rfl
 ·obtain⟨G0,ds,d,gh,r,eq,q⟩:=h
  obtain⟨ss,zf,es,hz,er,rfl⟩:=inv ds d eq
  have big:100000<sizeLine:=by rw[sizeLine_eq];decide
  obtain⟨v0,rfl⟩:∃ v0,vs=[v0]:=by
   have h1:=r.length
   rw[one ds ss es] at h1
   match vs,h1 with
   | [v],_=>exact⟨v,rfl⟩
  refine⟨_,pss_cons (ps_set (i:=1) sc_laid.nd rfl (Or.inl rfl) (pe_make0 M GI hr rfl T.mgC bI .nil pass0))
   (pss_cons (ps_set (i:=2) sc_laid.nd rfl (Or.inl rfl) (pe_lst pa_nil))
   (pss_cons (ps_for PassesOwn.never rfl (pi_list (pe_call hS hr rfl hmS hkS hbS .nil pass0 (pa_cons (pv 0) pa_nil))) (pg_name (i:=3) sc_laid.nd rfl (Or.inl rfl))
    (pss_one (ps_if (pt_cmpR op_eq (pe_ix ix_tup (pv 3) pe_int (fun _ _=>rfl)) pe_str (nomark _))
     (pss_cons (ps_expr (pe_bm plainAttrs_list PySem.F.slot_list_append PySem.F.type_list_append mt_append (pe_fld (pv 1) rfl) (pa_cons (pe_ifExp (pt_truth (pv 2) (by intro _;rfl)) (pe_ix ix_list (pv 2) (pe_un un_neg pe_int) (fun _ _=>rfl)) (pe_un un_neg pe_int)) pa_nil)))
     (pss_cons (ps_expr (pe_bm plainAttrs_list PySem.F.slot_list_append PySem.F.type_list_append mt_append (pv 2) (pa_cons (pe_callB call_len_seq rfl z_len PySem.boot_len (pa_cons (pe_fld (pv 1) rfl) pa_nil)) pa_nil)))
     (pss_cons (ps_expr (pe_bm plainAttrs_list PySem.F.slot_list_append PySem.F.type_list_append mt_append (pe_fld (pv 1) rfl) (pa_cons (pe_ix ix_tup (pv 3) pe_int (fun _ _=>rfl)) pa_nil)))
     (pss_one (ps_expr (pe_bm plainAttrs_list PySem.F.slot_list_append PySem.F.type_list_append mt_append (pe_fld (pv 1) rfl) (pa_cons (pe_lst pa_nil) pa_nil)))))))
     (pss_one (ps_if (pt_cmpR op_eq (pe_ix ix_tup (pv 3) pe_int (fun _ _=>rfl)) pe_str (nomark _))
      (pss_one (ps_expr (pe_bm plainAttrs_list PySem.F.slot_list_append PySem.F.type_list_append mt_append (pe_ix ix_list (pe_fld (pv 1) rfl) (pe_ix ix_list (pv 2) (pe_un un_neg pe_int) (fun _ _=>rfl)) (fun _ _=>rfl)) (pa_cons (pe_ix ix_tup (pv 3) pe_int (fun _ _=>rfl)) pa_nil))))
      (pss_one (ps_expr (pe_bm0 plainAttrs_list PySem.F.slot_list_pop PySem.F.type_list_pop mt_pop (pv 2)))))))))
   (pss_one (ps_ret (pv 1))))),?_⟩
  intro A0 dx nA ndx nex
  refine⟨A0,dx,rfl,upd_same,fun n p t H1 hn hp ht np nt pt hA1 hn1 hp1 ht1 kp=>⟨rfl,?_⟩⟩
  have s0:Same H (upd (upd H dx (.own A0)) A0 (.ins C dx [])):=fun b o e=>by rw[upd_ne (ne_of_none e nA),upd_ne (ne_of_none e ndx)];exact e
  have s1:Same H H1:=fun b o e=>kp b o (s0 b o e) (ne_of_none e nA)
  have hn0:H n=none:=s0.free hn
  have hp0:H p=none:=s0.free hp
  have ht0:H t=none:=s0.free ht
  refine⟨Nat.zero_le _,fun R hR =>?_⟩
  have s2:Same H (upd H1 R (.lst [])):=s1.trans (.alloc hR)
  have hR0:H R=none:=s1.free hR
  have L0:LayR K G0 H (upd H1 R (.lst [])) A0 C dx n p t R [] ⟨[],[],[],[]⟩:=by
   have nR:n≠R:=fun z=>by rw[z] at hn1;rw[hR] at hn1;cases hn1
   have pR:p≠R:=fun z=>by rw[z] at hp1;rw[hR] at hp1;cases hp1
   have tR:t≠R:=fun z=>by rw[z] at ht1;rw[hR] at ht1;cases ht1
   have AR:A0≠R:=fun z=>by rw[z] at hA1;rw[hR] at hA1;cases hA1
   refine⟨by rw[upd_ne AR];exact hA1,⟨[],by rw[upd_ne nR];exact hn1,.nil⟩,by rw[upd_ne pR];exact hp1,by rw[upd_ne tR];exact ht1,rfl,fun i a ds e=>by simp at e,upd_same,?_,fun a ha =>?_⟩
   ·simp;exact⟨⟨np,nt,nR⟩,⟨pt,pR⟩,tR⟩
   ·simp only[zG,List.not_mem_nil,or_false] at ha
    rcases ha with rfl|rfl|rfl|rfl|rfl
    ·exact⟨nA,gh.free nA⟩
    ·exact⟨hn0,gh.free hn0⟩
    ·exact⟨hp0,gh.free hp0⟩
    ·exact⟨ht0,gh.free ht0⟩
    ·exact⟨hR0,gh.free hR0⟩
  generalize hH2:upd H1 R (.lst [])=H2 at *
  refine⟨v0,rfl,G0,ds,ss,gh.trans s2,r,es,fun sa us G1 H3 E3 hsa gsa hsa3 ru =>?_⟩
  have E4:Ext G0 H2 (upd G1 sa (.lst us)) H3:=E3.freeze hsa gsa hsa3
  have L1:=L0.ext E4
  have ru2:Reps K (upd G1 sa (.lst us)) ss us:=Reps.mono (.alloc gsa) ss ru
  have gs:upd G1 sa (.lst us) sa=some (.lst us):=upd_same
  generalize upd G1 sa (.lst us)=G2 at *
  have s3:Same H H3:=s2.trans E4.hh
  refine⟨sa,rfl,⟨us,.of hsa3⟩,?_⟩
  refine for_list (K:=K) (a:=sa) (xs:=us) (fun i σ H'=>∃ z ts v3,σ=[some v0,some (.ref A0),some (.ref R),v3]∧LayR K G2 H H' A0 C dx n p t R ts z∧LyLen i z∧lrun (ss.drop i) z=some zf∧Same G2 H'∧Same H H')
   ⟨_,[],none,rfl,L1,⟨zL _,zL _,zL _,zL _,fun j ds e=>by simp at e⟩,er,E4.gh,s3⟩ (fun i σ H' _ ⟨_,_,_,_,_,_,_,g2,_⟩ =>.of (g2 _ _ gs)) ?_ ?_
  ·rintro i y σ H5 hy ⟨z,ts,v3,rfl,L,ll,elr,g2,s5⟩
   have hlu:i<us.length:=(zC.mp hy).1
   have hlt:i<ss.length:=by rw[ru2.length];exact hlu
   rw[List.drop_eq_getElem_cons hlt] at elr
   have elr:(lstep z ss[i]).bind (lrun (ss.drop (i+1)))=some zf:=elr
   cases est:lstep z ss[i] with
   | none=>rw[est] at elr;cases elr
   | some z'=>
    rw[est] at elr
    have elr:lrun (ss.drop (i+1)) z'=some zf:=elr
    have ll':=ll.step est
    obtain⟨y',hy',ry⟩:=ru2.get (zI hlt)
    rw[hy] at hy';cases hy'
    have ln:=ll.n;have lp:=ll.p;have lt:=ll.t;have lr:=ll.r
    have keepH:∀ {q:Addr}{o:HO},q∈A0::n::p::t::R::ts→∀ {Hx:Hp},Same G2 Hx→Same H Hx→Same G2 (upd Hx q o)∧Same H (upd Hx q o):=fun {q o} hq {Hx} ga ha=>
     ⟨fun b u e=>by rw[upd_ne (ne_of_none e (L.new0 q hq).2)];exact ga _ _ e,fun b u e=>by rw[upd_ne (ne_of_none e (L.new0 q hq).1)];exact ha _ _ e⟩
    rcases lstep_cases est with ⟨x,ek,rfl⟩|⟨x,k,ds',ek,hk,hk0,ed,rfl⟩|⟨ek,hrow,rfl⟩
    ·
     rw[ek] at ry
     obtain⟨b,ws,rfl,gb,rw'⟩:=rep_tup.mp ry
     obtain⟨w1,q1,rfl,rw1,rw'⟩:=reps_cons.mp rw'
     obtain⟨w2,q2,rfl,rw2,rw'⟩:=reps_cons.mp rw'
     have:=reps_nil.mp rw';subst this
     have:=rep_str.mp rw1;subst this
     have:=rep_str.mp rw2;subst this
     refine⟨_,rfl,b,_,_,_,rfl,rfl,.of (g2 _ _ gb),atI_nat (j:=0) rfl,rfl,_,rfl,?_⟩
     refine ite2 (fun _ =>?_) (fun hn=>absurd (decide_eq_true rfl) hn)
     refine⟨_,rfl,A0,C,dx,_,_,rfl,L.obj,T.cl,T.nP,rfl,.inl ⟨rfl,_,.of L.pa⟩,?_⟩
     have lenp:(z.pars.map V.int).length<sizeLine:=by rw[zH];omega
     refine⟨_,rfl,!(z.row.map V.int).isEmpty,.inl ⟨_,.of L.ro,rfl⟩,?_⟩
     rcases List.eq_nil_or_concat z.row with hrow|⟨r0,k0,hrow⟩
     ·have ew:z.row.getLastD (-1) = -1:=by rw[hrow];rfl
      rw[if_neg (by rw[hrow];decide)]
      refine⟨1,rfl,p,_,_,rfl,rfl,L.pa,lenp,?_⟩
      have La:=L.par (z.row.getLastD (-1))
      rw[ew] at La
      have ka:=keepH (q:=p) (o :=.lst (z.pars.map V.int++[.int (-1)])) (by simp) g2 s5
      generalize hHa:upd H5 p (.lst (z.pars.map V.int++[.int (-1)]))=Ha at *
      obtain⟨vn,hvn,rvn⟩:=La.nm
      have lvn:vn.length=z.names.length:=rvn.length.symm
      have lrow:(z.row.map V.int).length<sizeLine:=by rw[zH];omega
      refine⟨_,rfl,.inl ⟨rfl,_,.of La.ro⟩,_,rfl,A0,C,dx,_,_,rfl,La.obj,T.cl,T.nN,rfl,n,vn,rfl,.inl (.of hvn),R,_,_,rfl,rfl,La.ro,lrow,?_⟩
      have Lb:=La.rowSet (z.row++[(z.names.length:Int)])
      rw[show (z.row++[(z.names.length:Int)]).map V.int=z.row.map V.int++[.int (vn.length:Int)] by rw[lvn];simp] at Lb
      have kb:=keepH (q:=R) (o :=.lst (z.row.map V.int++[.int (vn.length:Int)])) (by simp) ka.1 ka.2
      generalize hHb:upd Ha R (.lst (z.row.map V.int++[.int (vn.length:Int)]))=Hb at *
      obtain⟨vn',hvn',rvn'⟩:=Lb.nm
      have lvn':vn'.length<sizeLine:=by rw[← rvn'.length];show z.names.length<_;omega
      refine⟨_,rfl,A0,C,dx,_,_,rfl,Lb.obj,T.cl,T.nN,rfl,.inl ⟨rfl,_,.of hvn'⟩,_,rfl,b,_,_,_,rfl,rfl,.of (kb.1 _ _ gb),atI_nat (j:=1) rfl,n,vn',_,rfl,rfl,hvn',lvn',?_⟩
      have Lc:=Lb.name hvn' (d :=.str x) (rep_str.mpr rfl)
      have kc:=keepH (q:=n) (o :=.lst (vn'++[.str x])) (by simp) kb.1 kb.2
      generalize hHc:upd Hb n (.lst (vn'++[.str x]))=Hc at *
      have lts:(ts.map V.ref).length<sizeLine:=by rw[zH,L.tl];omega
      refine⟨_,rfl,A0,C,dx,_,_,rfl,Lc.obj,T.cl,T.nT,rfl,.inl ⟨rfl,_,.of Lc.tx⟩,Nat.zero_le _,fun q0 hq0 =>?_⟩
      have Ld:=Lc.textNew kc.2 kc.1 hq0
      refine⟨t,_,_,rfl,rfl,(by rw[upd_ne (ne_of_none Lc.tx hq0)];exact Lc.tx),lts,?_⟩
      have kd:=keepH (q:=t) (o :=.lst (ts.map V.ref++[.ref q0])) (by simp) (kc.1.trans (.alloc (o :=.lst []) hq0)) (kc.2.trans (.alloc (o :=.lst []) hq0))
      rw[ew] at ll' elr
      exact⟨_,ts++[q0],_,rfl,Ld,ll',elr,kd.1,kd.2⟩
     ·have ew:z.row.getLastD (-1)=k0:=by rw[hrow];simp
      have elast:atI (z.row.map V.int) (-1)=some (.int k0):=by rw[hrow];simp only[List.concat_eq_append,List.map_append];exact atI_last _ _
      rw[if_pos (by rw[hrow];simp)]
      refine⟨_,rfl,_,rfl,R,_,-1,_,rfl,rfl,.of L.ro,elast,p,_,_,rfl,rfl,L.pa,lenp,?_⟩
      have La:=L.par (z.row.getLastD (-1))
      rw[ew] at La
      have ka:=keepH (q:=p) (o :=.lst (z.pars.map V.int++[.int k0])) (by simp) g2 s5
      generalize hHa:upd H5 p (.lst (z.pars.map V.int++[.int k0]))=Ha at *
      obtain⟨vn,hvn,rvn⟩:=La.nm
      have lvn:vn.length=z.names.length:=rvn.length.symm
      have lrow:(z.row.map V.int).length<sizeLine:=by rw[zH];omega
      refine⟨_,rfl,.inl ⟨rfl,_,.of La.ro⟩,_,rfl,A0,C,dx,_,_,rfl,La.obj,T.cl,T.nN,rfl,n,vn,rfl,.inl (.of hvn),R,_,_,rfl,rfl,La.ro,lrow,?_⟩
      have Lb:=La.rowSet (z.row++[(z.names.length:Int)])
      rw[show (z.row++[(z.names.length:Int)]).map V.int=z.row.map V.int++[.int (vn.length:Int)] by rw[lvn];simp] at Lb
      have kb:=keepH (q:=R) (o :=.lst (z.row.map V.int++[.int (vn.length:Int)])) (by simp) ka.1 ka.2
      generalize hHb:upd Ha R (.lst (z.row.map V.int++[.int (vn.length:Int)]))=Hb at *
      obtain⟨vn',hvn',rvn'⟩:=Lb.nm
      have lvn':vn'.length<sizeLine:=by rw[← rvn'.length];show z.names.length<_;omega
      refine⟨_,rfl,A0,C,dx,_,_,rfl,Lb.obj,T.cl,T.nN,rfl,.inl ⟨rfl,_,.of hvn'⟩,_,rfl,b,_,_,_,rfl,rfl,.of (kb.1 _ _ gb),atI_nat (j:=1) rfl,n,vn',_,rfl,rfl,hvn',lvn',?_⟩
      have Lc:=Lb.name hvn' (d :=.str x) (rep_str.mpr rfl)
      have kc:=keepH (q:=n) (o :=.lst (vn'++[.str x])) (by simp) kb.1 kb.2
      generalize hHc:upd Hb n (.lst (vn'++[.str x]))=Hc at *
      have lts:(ts.map V.ref).length<sizeLine:=by rw[zH,L.tl];omega
      refine⟨_,rfl,A0,C,dx,_,_,rfl,Lc.obj,T.cl,T.nT,rfl,.inl ⟨rfl,_,.of Lc.tx⟩,Nat.zero_le _,fun q0 hq0 =>?_⟩
      have Ld:=Lc.textNew kc.2 kc.1 hq0
      refine⟨t,_,_,rfl,rfl,(by rw[upd_ne (ne_of_none Lc.tx hq0)];exact Lc.tx),lts,?_⟩
      have kd:=keepH (q:=t) (o :=.lst (ts.map V.ref++[.ref q0])) (by simp) (kc.1.trans (.alloc (o :=.lst []) hq0)) (kc.2.trans (.alloc (o :=.lst []) hq0))
      rw[ew] at ll' elr
      exact⟨_,ts++[q0],_,rfl,Ld,ll',elr,kd.1,kd.2⟩
    ·
     rw[ek] at ry
     obtain⟨b,ws,rfl,gb,rw'⟩:=rep_tup.mp ry
     obtain⟨w1,q1,rfl,rw1,rw'⟩:=reps_cons.mp rw'
     obtain⟨w2,q2,rfl,rw2,rw'⟩:=reps_cons.mp rw'
     have:=reps_nil.mp rw';subst this
     have:=rep_str.mp rw1;subst this
     have:=rep_str.mp rw2;subst this
     refine⟨_,rfl,b,_,_,_,rfl,rfl,.of (g2 _ _ gb),atI_nat (j:=0) rfl,rfl,_,rfl,?_⟩
     refine ite2 (fun hn=>absurd (V.str.inj (of_decide_eq_true hn)) (fun z=>sOT z.symm)) (fun _ =>?_)
     refine⟨_,rfl,b,_,_,_,rfl,rfl,.of (g2 _ _ gb),atI_nat (j:=0) rfl,rfl,_,rfl,?_⟩
     refine ite2 (fun _ =>?_) (fun hn=>absurd (decide_eq_true rfl) hn)
     obtain⟨r0,er0⟩:=List.getLast?_eq_some_iff.mp hk
     have elast:atI (z.row.map V.int) (-1)=some (.int k):=by rw[er0,List.map_append];exact atI_last _ _
     have hkl:k.toNat<ts.length:=by rw[L.tl];exact(zC.mp ed).1
     have ea:ts[k.toNat]?=some ts[k.toNat]:=zI hkl
     obtain⟨va,ha,ra⟩:=L.te k.toNat ts[k.toNat] ds' ea ed
     have eix:atI (ts.map V.ref) k=some (.ref ts[k.toNat]):=by
      have:=atI_nat (xs:=ts.map V.ref) (j:=k.toNat) (v :=.ref ts[k.toNat]) (by rw[zM,ea];rfl)
      rwa [Int.toNat_of_nonneg hk0] at this
     have lva:va.length<sizeLine:=by have:=ll.e _ ds' ed;rw[← ra.length];omega
     refine⟨_,rfl,A0,C,dx,_,_,rfl,L.obj,T.cl,T.nT,rfl,_,rfl,_,rfl,R,_,-1,_,rfl,rfl,.of L.ro,elast,t,_,k,_,rfl,rfl,.of L.tx,eix,.inl ⟨rfl,_,.of ha⟩,_,rfl,b,_,_,_,rfl,rfl,.of (g2 _ _ gb),atI_nat (j:=1) rfl,_,va,_,rfl,rfl,ha,lva,?_⟩
     have L':=L.textApp ea ed ha (d :=.str x) (rep_str.mpr rfl)
     have kk:=keepH (q:=ts[k.toNat]) (o :=.lst (va++[.str x])) (by simp[zX ea]) g2 s5
     exact⟨_,ts,_,rfl,L',ll',elr,kk.1,kk.2⟩
    ·
     rw[ek] at ry
     obtain⟨b,ws,rfl,gb,rw'⟩:=rep_tup.mp ry
     obtain⟨w1,q1,rfl,rw1,rw'⟩:=reps_cons.mp rw'
     have:=reps_nil.mp rw';subst this
     have:=rep_str.mp rw1;subst this
     refine⟨_,rfl,b,_,_,_,rfl,rfl,.of (g2 _ _ gb),atI_nat (j:=0) rfl,rfl,_,rfl,?_⟩
     refine ite2 (fun hn=>absurd (V.str.inj (of_decide_eq_true hn)) (fun z=>sOC z.symm)) (fun _ =>?_)
     refine⟨_,rfl,b,_,_,_,rfl,rfl,.of (g2 _ _ gb),atI_nat (j:=0) rfl,rfl,_,rfl,?_⟩
     refine ite2 (fun hn=>absurd (V.str.inj (of_decide_eq_true hn)) (fun z=>sTC z.symm)) (fun _ =>?_)
     have el:=List.dropLast_concat_getLast hrow
     have hro:H5 R=some (.lst (z.row.dropLast.map V.int++[.int (z.row.getLast hrow)])):=by
      rw[L.ro]
      have:z.row.map V.int=z.row.dropLast.map V.int++[V.int (z.row.getLast hrow)]:=by
       rw[← List.map_singleton,← List.map_append,el]
      rw[this]
     refine⟨_,rfl,.inl ⟨rfl,_,.of hro⟩,R,_,.int (z.row.getLast hrow),rfl,rfl,hro,(by simp),?_⟩
     rw[List.dropLast_concat]
     have L':=L.rowSet z.row.dropLast
     have kk:=keepH (q:=R) (o :=.lst (z.row.dropLast.map V.int)) (by simp) g2 s5
     exact⟨_,ts,_,rfl,L',ll',elr,kk.1,kk.2⟩
  ·
   rintro σ H5 ⟨z,ts,v3,rfl,L,ll,elr,g2,s5⟩
   rw[← ru2.length,List.drop_length] at elr
   cases elr
   obtain⟨G',sg,sh,fr,rep⟩:=L.freeze g2 T.ns
   refine⟨_,rfl,q _ G' H5 ⟨s5,(E4.gg).trans sg,sh,fun b o e =>?_⟩ rep⟩
   rcases fr b o e with e|e
   ·rcases E4.fr b o e with e|e
    ·exact .inl e
    ·exact .inr (s2.free e)
   ·exact .inr e
end
end K05
end
noncomputable section
namespace K05
open PySem L2
noncomputable def b_alike_1 (F_alike:List D→Option D):DG:=
  (sIf (tNotD (tTru (eCall F_alike (aC (e2 oIx (eV 0) (eV 2)) (aC (e2 oIx (eV 1) (eV 2)) aN)))))
   (sRet (eK (.bl false)))
   sNil)
noncomputable def g_alike (F_alike:List D→Option D):DG:=
  (sSeq (sIf (tTru (eIs "str" (eV 1)))
  (sRet (eAnd (eIs "str" (eV 0)) (e2 oEq (eV 0) (eV 1))))
  sNil)
  (sSeq (sIf (tTru (eIs "int" (eV 1)))
  (sRet (eAnd (eIs "int" (eV 0)) (eAnd (eNot (tB1 (eIs "bool" (eV 0)))) (e2 oEq (eV 0) (eV 1)))))
  sNil)
  (sSeq (sIf (tTru (eIs "list" (eV 1)))
  (sIf (tNotD (tTru (eIs "list" (eV 0))))
   (sRet (eK (.bl false)))
   sNil)
  (sIf (tNotD (tTru (eIs "tuple" (eV 0))))
   (sRet (eK (.bl false)))
   sNil))
  (sSeq (sIf (tB1 (e2 oNe (eCall oLen (aC (eV 0) aN)) (eCall oLen (aC (eV 1) aN))))
  (sRet (eK (.bl false)))
  sNil)
  (sSeq (sFor (iR1 (eCall oLen (aC (eV 1) aN))) (gN 2)
  (b_alike_1 F_alike))
  (sRet (eK (.bl true))))))))
noncomputable abbrev st_alike:Stmt:=top 15
noncomputable abbrev N_alike:List Str:=["_law_found", "_law_due", "_law_k"]
theorem sc_alike:FnScope N_alike ["_law_found", "_law_due"] (defScope st_alike):=⟨rfl,rfl,rfl,by decide +kernel,rfl,by decide +kernel,by decide +kernel⟩
noncomputable def Fr_alike:Nat→List D→Option D
 | 0=>fun _=>none
 | n+1=>runD 2 3 (g_alike (Fr_alike n))
noncomputable section
variable {P:Program}{w:World}{K:Frag}{mg:Str→Option Value}{base:Heap}{f:Addr}{fd:FuncData}
theorem ok_alike {n:Nat}(F:Fun K "_law_alike" "_law_alike" st_alike f fd) (z_bool:mg "bool" = none) (z_int:mg "int" = none) (z_isinstance:mg "isinstance" = none) (z_len:mg "len" = none) (z_list:mg "list" = none) (z_range:mg "range" = none) (z_str:mg "str" = none) (z_tuple:mg "tuple" = none) (h_alike:Ok1 P w K mg base "_law_alike" (n+0) (spF K (Fr_alike n))):FnOk P w K mg base CX0 (n+0+1) f fd ["_law_found", "_law_due"] (spF K (Fr_alike (n+1))):=
 F.okD (own:=[]) (own':=[]) (g:=(g_alike (Fr_alike n))) sc_alike (by decide) fun cdv A outer s H E hr B hB=>
  (dss_cons (ds_if (dt_truth (dq (de_isinst (T:= "str") (by decide) rfl z_isinstance rfl z_str (by decide +kernel) (vQ 1))))
  (dss_one (ds_ret (de_and (de_isinst (T:= "str") (by decide) rfl z_isinstance rfl z_str (by decide +kernel) (vQ 0)) (de_one (de_cmp (od_eq hr) (vQ 0) (vQ 1) (nomark _))))))
  dss_nil)
  (dss_cons (ds_if (dt_truth (dq (de_isinst (T:= "int") (by decide) rfl z_isinstance rfl z_int (by decide +kernel) (vQ 1))))
  (dss_one (ds_ret (de_and (de_isinst (T:= "int") (by decide) rfl z_isinstance rfl z_int (by decide +kernel) (vQ 0)) (de_and (de_not (de_isinst (T:= "bool") (by decide) rfl z_isinstance rfl z_bool (by decide +kernel) (vQ 0))) (de_one (de_cmp (od_eq hr) (vQ 0) (vQ 1) (nomark _)))))))
  dss_nil)
  (dss_cons (ds_if (dt_truth (dq (de_isinst (T:= "list") (by decide) rfl z_isinstance rfl z_list (by decide +kernel) (vQ 1))))
  (dss_one (ds_if (dt_not (dt_truth (dq (de_isinst (T:= "list") (by decide) rfl z_isinstance rfl z_list (by decide +kernel) (vQ 0)))))
   (dss_one (ds_ret de_bl))
   dss_nil))
  (dss_one (ds_if (dt_not (dt_truth (dq (de_isinst (T:= "tuple") (by decide) rfl z_isinstance rfl z_tuple (by decide +kernel) (vQ 0)))))
   (dss_one (ds_ret de_bl))
   dss_nil)))
  (dss_cons (ds_if (dt_cmp (od_ne hr) (dq (de_len rfl z_len (vQ 0))) (dq (de_len rfl z_len (vQ 1))) (nomark _))
  (dss_one (ds_ret de_bl))
  dss_nil)
  (dss_cons (ds_for PassesOwn.never rfl (di_range1 rfl z_range (dq (de_len rfl z_len (vQ 1)))) (fun B hB=>(dg_name (pg_name (i:=2) sc_alike.nd rfl (.inl rfl)))) (fun B hB=>
  (dss_one (ds_if (dt_not (dt_truth (dq (de_call h_alike hr rfl (da_cons (de_ix (vQ 0) (vQ 2)) (da_cons (de_ix (vQ 1) (vQ 2)) da_nil))))))
   (dss_one (ds_ret de_bl))
   dss_nil))))
  (dss_one (ds_ret de_bl)))))))
end
end K05
end
noncomputable section
namespace K05
open PySem L2
noncomputable def g_copy_wish (F_copy_wish:List D→Option D) (F_copy_steps:List D→Option D):DG:=
  (sSeq (sIf (tB1 (e2 oEq (e2 oIx (eV 0) (eK (.int 0))) (eK (.str (Str.ofString "has")))))
  (sRet (eTup (aC (eK (.str (Str.ofString "has"))) (aC (eCall F_copy_steps (aC (e2 oIx (eV 0) (eK (.int 1))) aN)) aN))))
  sNil)
  (sSeq (sIf (tB1 (e2 (oIn false) (e2 oIx (eV 0) (eK (.int 0))) (eTup (aC (eK (.str (Str.ofString "both"))) (aC (eK (.str (Str.ofString "one"))) aN)))))
  (sRet (eTup (aC (e2 oIx (eV 0) (eK (.int 0))) (aC (eF (fLC (iL (e2 oIx (eV 0) (eK (.int 1)))) [none] (gN 0) tYes (eCall F_copy_wish (aC (eV 0) aN)))) aN))))
  sNil)
  (sRet (eV 0))))
noncomputable abbrev st_copy_wish:Stmt:=top 24
noncomputable abbrev N_copy_wish:List Str:=["_law_wish_here"]
theorem sc_copy_wish:FnScope N_copy_wish ["_law_wish_here"] (defScope st_copy_wish):=⟨rfl,rfl,rfl,by decide +kernel,rfl,by decide +kernel,by decide +kernel⟩
noncomputable def g_copy_steps (F_copy_wish:List D→Option D) (F_copy_steps:List D→Option D):DG:=
  (sRetF (fLC (iL (eV 0)) [none,none,none] (gN3 0 1 2) tYes (eTup (aC (eV 0) (aC (eV 1) (aC (eCall F_copy_wish (aC (eV 2) aN)) aN))))))
noncomputable abbrev st_copy_steps:Stmt:=top 25
noncomputable abbrev N_copy_steps:List Str:=["_law_steps_here"]
theorem sc_copy_steps:FnScope N_copy_steps ["_law_steps_here"] (defScope st_copy_steps):=⟨rfl,rfl,rfl,by decide +kernel,rfl,by decide +kernel,by decide +kernel⟩
noncomputable def g_copy_row (F_copy_row:List D→Option D):DG:=
  (sRetF (fLC (iL (eV 0)) [none] (gN 0) tYes (eIfE (tTru (eIs "str" (eV 0))) (eV 0) (eTup (aC (e2 oIx (eV 0) (eK (.int 0))) (aC (eCall F_copy_row (aC (e2 oIx (eV 0) (eK (.int 1))) aN)) aN))))))
noncomputable abbrev st_copy_row:Stmt:=top 26
noncomputable abbrev N_copy_row:List Str:=["_law_row"]
theorem sc_copy_row:FnScope N_copy_row ["_law_row"] (defScope st_copy_row):=⟨rfl,rfl,rfl,by decide +kernel,rfl,by decide +kernel,by decide +kernel⟩
noncomputable def b_within_1 (F_within:List D→Option D):DG:=
  (sIf (tNotD (tTru (eIs "str" (eV 2))))
   (sSet 1 (e2 oAdd (e2 oAdd (eV 1) (eF (eLst (aC (eV 2) aN)))) (eCall F_within (aC (eV 2) aN))))
   sNil)
noncomputable def g_within (F_within:List D→Option D):DG:=
  (sSeq (sSet 1 (eF (eLst aN)))
  (sSeq (sFor (iL (e2 oIx (eV 0) (eK (.int 1)))) (gN 2)
  (b_within_1 F_within))
  (sRet (eV 1))))
noncomputable abbrev st_within:Stmt:=top 27
noncomputable abbrev N_within:List Str:=["_law_part", "_law_found", "_law_one"]
theorem sc_within:FnScope N_within ["_law_part"] (defScope st_within):=⟨rfl,rfl,rfl,by decide +kernel,rfl,by decide +kernel,by decide +kernel⟩
mutual
noncomputable def Fr_copy_wish:Nat→List D→Option D
 | 0=>fun _=>none
 | n+1=>runD 1 1 (g_copy_wish (Fr_copy_wish n) (Fr_copy_steps n))
noncomputable def Fr_copy_steps:Nat→List D→Option D
 | 0=>fun _=>none
 | n+1=>runD 1 1 (g_copy_steps (Fr_copy_wish n) (Fr_copy_steps n))
end
noncomputable def Fr_copy_row:Nat→List D→Option D
 | 0=>fun _=>none
 | n+1=>runD 1 1 (g_copy_row (Fr_copy_row n))
noncomputable def Fr_within:Nat→List D→Option D
 | 0=>fun _=>none
 | n+1=>runD 1 3 (g_within (Fr_within n))
noncomputable section
variable {P:Program}{w:World}{K:Frag}{mg:Str→Option Value}{base:Heap}{f:Addr}{fd:FuncData}
theorem ok_copy_wish {n:Nat}(F:Fun K "_law_copy_wish" "_law_copy_wish" st_copy_wish f fd) (h_copy_wish:Ok1 P w K mg base "_law_copy_wish" (n+0) (spF K (Fr_copy_wish n))) (h_copy_steps:Ok1 P w K mg base "_law_copy_steps" (n+0) (spF K (Fr_copy_steps n))):FnOk P w K mg base CX0 (n+0+1) f fd ["_law_wish_here"] (spF K (Fr_copy_wish (n+1))):=
 F.okD (own:=[]) (own':=[]) (g:=(g_copy_wish (Fr_copy_wish n) (Fr_copy_steps n))) sc_copy_wish (by decide) fun cdv A outer s H E hr B hB=>
  (dss_cons (ds_if (dt_cmp (od_eq hr) (dq (de_ix (vQ 0) (dq de_int))) (dq de_str) (nomark _))
  (dss_one (ds_ret (de_tup (da_cons de_str (da_cons (de_call h_copy_steps hr rfl (da_cons (de_ix (vQ 0) (dq de_int)) da_nil)) da_nil)))))
  dss_nil)
  (dss_cons (ds_if (dt_cmp od_in (dq (de_ix (vQ 0) (dq de_int))) (dq (de_tup (da_cons de_str (da_cons de_str da_nil)))) rfl)
  (dss_one (ds_ret (de_tup (da_cons (de_ix (vQ 0) (dq de_int)) (da_cons (df (de_lc (own':=[]) (N:=[("_law_one" : Str)]) (src:=[none]) (blk_mk (outer:=defScope st_copy_wish) (oN:=N_copy_wish) rfl (by decide +kernel) rfl rfl) rfl (di_list (de_ix (vQ 0) (dq de_int))) (ag_name 0) (by decide) (hte_name 0) (fun C s H ex=>⟨pg_name (i:=0) (show ([("_law_one" : Str)]:List Str).Nodup by decide +kernel) rfl (.inl rfl),dts_nil,(de_call h_copy_wish hr rfl (da_cons (vP 0) da_nil))⟩))) da_nil)))))
  dss_nil)
  (dss_one (ds_ret (vP 0)))))
theorem ok_copy_steps {n:Nat}(F:Fun K "_law_copy_steps" "_law_copy_steps" st_copy_steps f fd) (h_copy_wish:Ok1 P w K mg base "_law_copy_wish" (n+0) (spF K (Fr_copy_wish n))):FnOk P w K mg base CX0 (n+0+1) f fd ["_law_steps_here"] (spF K (Fr_copy_steps (n+1))):=
 F.okD (own:=[]) (own':=[]) (g:=(g_copy_steps (Fr_copy_wish n) (Fr_copy_steps n))) sc_copy_steps (by decide) fun cdv A outer s H E hr B hB=>
  (dss_one (ds_retF (de_lc (own':=[]) (N:=[("_law_way" : Str),("_law_name_here" : Str),("_law_wish_here" : Str)]) (src:=[none,none,none]) (blk_mk (outer:=defScope st_copy_steps) (oN:=N_copy_steps) rfl (by decide +kernel) rfl rfl) rfl (di_list (vP 0)) (ag_three _ 0 1 2) (by decide) (hte_three 0 1 2) (fun C s H ex=>⟨pg_tup rfl (pgs_cons (pg_name (i:=0) (show ([("_law_way" : Str),("_law_name_here" : Str),("_law_wish_here" : Str)]:List Str).Nodup by decide +kernel) rfl (.inl rfl)) (pgs_cons (pg_name (i:=1) (show ([("_law_way" : Str),("_law_name_here" : Str),("_law_wish_here" : Str)]:List Str).Nodup by decide +kernel) rfl (.inl rfl)) (pgs_cons (pg_name (i:=2) (show ([("_law_way" : Str),("_law_name_here" : Str),("_law_wish_here" : Str)]:List Str).Nodup by decide +kernel) rfl (.inl rfl)) pgs_nil))),dts_nil,(de_tup (da_cons (vP 0) (da_cons (vP 1) (da_cons (de_call h_copy_wish hr rfl (da_cons (vP 2) da_nil)) da_nil))))⟩))))
theorem ok_copy_row {n:Nat}(F:Fun K "_law_copy_row" "_law_copy_row" st_copy_row f fd) (z_isinstance:mg "isinstance" = none) (z_str:mg "str" = none) (h_copy_row:Ok1 P w K mg base "_law_copy_row" (n+0) (spF K (Fr_copy_row n))):FnOk P w K mg base CX0 (n+0+1) f fd ["_law_row"] (spF K (Fr_copy_row (n+1))):=
 F.okD (own:=[]) (own':=[]) (g:=(g_copy_row (Fr_copy_row n))) sc_copy_row (by decide) fun cdv A outer s H E hr B hB=>
  (dss_one (ds_retF (de_lc (own':=[]) (N:=[("_law_part" : Str)]) (src:=[none]) (blk_mk (outer:=defScope st_copy_row) (oN:=N_copy_row) rfl (by decide +kernel) rfl rfl) rfl (di_list (vP 0)) (ag_name 0) (by decide) (hte_name 0) (fun C s H ex=>⟨pg_name (i:=0) (show ([("_law_part" : Str)]:List Str).Nodup by decide +kernel) rfl (.inl rfl),dts_nil,(de_if (dt_truth (dq (de_isinst (T:= "str") (by decide) rfl z_isinstance rfl z_str (by decide +kernel) (vQ 0)))) (vP 0) (de_tup (da_cons (de_ix (vQ 0) (dq de_int)) (da_cons (de_call h_copy_row hr rfl (da_cons (de_ix (vQ 0) (dq de_int)) da_nil)) da_nil))))⟩))))
theorem ok_within {n:Nat}(F:Fun K "_law_within" "_law_within" st_within f fd) (z_isinstance:mg "isinstance" = none) (z_str:mg "str" = none) (h_within:Ok1 P w K mg base "_law_within" (n+0) (spF K (Fr_within n))):FnOk P w K mg base CX0 (n+0+1) f fd ["_law_part"] (spF K (Fr_within (n+1))):=
 F.okD (own:=[]) (own':=[]) (g:=(g_within (Fr_within n))) sc_within (by decide) fun cdv A outer s H E hr B hB=>
  (dss_cons (ds_set (i:=1) sc_within.nd rfl (.inl rfl) (df (de_lst da_nil)))
  (dss_cons (ds_for PassesOwn.never rfl (di_list (de_ix (vQ 0) (dq de_int))) (fun B hB=>(dg_name (pg_name (i:=2) sc_within.nd rfl (.inl rfl)))) (fun B hB=>
  (dss_one (ds_if (dt_not (dt_truth (dq (de_isinst (T:= "str") (by decide) rfl z_isinstance rfl z_str (by decide +kernel) (vQ 2)))))
   (dss_one (ds_set (i:=1) sc_within.nd rfl (.inl rfl) (de_op od_add (dq (de_op od_add (vQ 1) (dq (df (de_lst (da_cons (vP 2) da_nil)))))) (dq (de_call h_within hr rfl (da_cons (vP 2) da_nil))))))
   dss_nil))))
  (dss_one (ds_ret (vP 1)))))
end
end K05
end
noncomputable section
namespace K05
open PySem L2
noncomputable def F_within:=Fr_within 12
noncomputable def g_below:DG:=
  (sSeq (sIf (tB1 (e2 oEq (eV 1) (eK (.str (Str.ofString "own")))))
  (sRetF (fLC (iL (e2 oIx (eV 0) (eK (.int 1)))) [none] (gN 0) (tNotD (tTru (eIs "str" (eV 0)))) (eV 0)))
  sNil)
  (sRet (eCall F_within (aC (eV 0) aN))))
noncomputable def F_below:List D→Option D:=runD 2 2 g_below
noncomputable abbrev st_below:Stmt:=top 28
noncomputable abbrev N_below:List Str:=["_law_part", "_law_way"]
theorem sc_below:FnScope N_below ["_law_part", "_law_way"] (defScope st_below):=⟨rfl,rfl,rfl,by decide +kernel,rfl,by decide +kernel,by decide +kernel⟩
noncomputable def g_holds (F_holds:List D→Option D) (F_leads:List D→Option D):DG:=
  (sSeq (sIf (tB1 (e2 oEq (e2 oIx (eV 1) (eK (.int 0))) (eK (.str (Str.ofString "any")))))
  (sRet (eK (.bl true)))
  sNil)
  (sSeq (sIf (tB1 (e2 oEq (e2 oIx (eV 1) (eK (.int 0))) (eK (.str (Str.ofString "text")))))
  (sRet (e2 (oInD false) (e2 oIx (eV 1) (eK (.int 1))) (e2 oIx (eV 0) (eK (.int 1)))))
  sNil)
  (sSeq (sIf (tB1 (e2 oEq (e2 oIx (eV 1) (eK (.int 0))) (eK (.str (Str.ofString "has")))))
  (sRet (eCall F_leads (aC (eV 0) (aC (e2 oIx (eV 1) (eK (.int 1))) aN))))
  sNil)
  (sSeq (sSet 2 (eF (fLC (iL (e2 oIx (eV 1) (eK (.int 1)))) [none,some 0] (gN 0) (tTru (eCall F_holds (aC (eV 1) (aC (eV 0) aN)))) (eV 0))))
  (sSeq (sIf (tB1 (e2 oEq (e2 oIx (eV 1) (eK (.int 0))) (eK (.str (Str.ofString "both")))))
  (sRet (e2 oEq (eCall oLen (aC (eV 2) aN)) (eCall oLen (aC (e2 oIx (eV 1) (eK (.int 1))) aN))))
  sNil)
  (sRet (e2 oGt (eCall oLen (aC (eV 2) aN)) (eK (.int 0)))))))))
noncomputable abbrev st_holds:Stmt:=top 29
noncomputable abbrev N_holds:List Str:=["_law_part", "_law_wish_here", "_law_found"]
theorem sc_holds:FnScope N_holds ["_law_part", "_law_wish_here"] (defScope st_holds):=⟨rfl,rfl,rfl,by decide +kernel,rfl,by decide +kernel,by decide +kernel⟩
noncomputable def b_leads_1 (F_holds:List D→Option D) (F_leads:List D→Option D):DG:=
  (sIf (tAndD (tB1 (e2 (oIn false) (eV 3) (eTup (aC (eK (.str (Str.ofString "*"))) (aC (e2 oIx (eV 5) (eK (.int 0))) aN))))) (tAndD (tTru (eCall F_holds (aC (eV 5) (aC (eV 4) aN)))) (tTru (eCall F_leads (aC (eV 5) (aC (eF (fSl (eV 1) (pS (eK (.int 1))) pN)) aN))))))
   (sRet (eK (.bl true)))
   sNil)
noncomputable def g_leads (F_holds:List D→Option D) (F_leads:List D→Option D):DG:=
  (sSeq (sIf (tB1 (e2 oEq (eV 1) (eF (eLst aN))))
  (sRet (eK (.bl true)))
  sNil)
  (sSeq (sAsg (gN3 2 3 4) (e2 oIx (eV 1) (eK (.int 0))))
  (sSeq (sFor (iL (eCall F_below (aC (eV 0) (aC (eV 2) aN)))) (gN 5)
  (b_leads_1 F_holds F_leads))
  (sRet (eK (.bl false))))))
noncomputable abbrev st_leads:Stmt:=top 30
noncomputable abbrev N_leads:List Str:=["_law_part", "_law_steps_here", "_law_way", "_law_name_here", "_law_wish_here", "_law_one"]
theorem sc_leads:FnScope N_leads ["_law_part", "_law_steps_here"] (defScope st_leads):=⟨rfl,rfl,rfl,by decide +kernel,rfl,by decide +kernel,by decide +kernel⟩
mutual
noncomputable def Fr_holds:Nat→List D→Option D
 | 0=>fun _=>none
 | n+1=>runD 2 3 (g_holds (Fr_holds n) (Fr_leads n))
noncomputable def Fr_leads:Nat→List D→Option D
 | 0=>fun _=>none
 | n+1=>runD 2 6 (g_leads (Fr_holds n) (Fr_leads n))
end
noncomputable section
variable {P:Program}{w:World}{K:Frag}{mg:Str→Option Value}{base:Heap}{f:Addr}{fd:FuncData}
theorem ok_below (F:Fun K "_law_below" "_law_below" st_below f fd) (z_isinstance:mg "isinstance" = none) (z_str:mg "str" = none) (h_within:Ok1 P w K mg base "_law_within" 13 (spF K F_within)):FnOk P w K mg base CX0 14 f fd ["_law_part", "_law_way"] (spF K F_below):=
 F.okD (own:=[]) (own':=[]) (g:=g_below) sc_below (by decide) fun cdv A outer s H E hr B hB=>
  (dss_cons (ds_if (dt_cmp (od_eq hr) (vQ 1) (dq de_str) (nomark _))
  (dss_one (ds_retF (de_lc (own':=[]) (N:=[("_law_one" : Str)]) (src:=[none]) (blk_mk (outer:=defScope st_below) (oN:=N_below) rfl (by decide +kernel) rfl rfl) rfl (di_list (de_ix (vQ 0) (dq de_int))) (ag_name 0) (by decide) (hte_name 0) (fun C s H ex=>⟨pg_name (i:=0) (show ([("_law_one" : Str)]:List Str).Nodup by decide +kernel) rfl (.inl rfl),(dts_one (dt_not (dt_truth (dq (de_isinst (T:= "str") (by decide) rfl z_isinstance rfl z_str (by decide +kernel) (vQ 0)))))),(vP 0)⟩))))
  dss_nil)
  (dss_one (ds_ret (de_call h_within hr rfl (da_cons (vP 0) da_nil)))))
theorem ok_holds {n:Nat}(F:Fun K "_law_holds" "_law_holds" st_holds f fd) (z_len:mg "len" = none) (h_holds:Ok1 P w K mg base "_law_holds" (n+14) (spF K (Fr_holds n))) (h_leads:Ok1 P w K mg base "_law_leads" (n+14) (spF K (Fr_leads n))):FnOk P w K mg base CX0 (n+14+1) f fd ["_law_part", "_law_wish_here"] (spF K (Fr_holds (n+1))):=
 F.okD (own:=[]) (own':=[]) (g:=(g_holds (Fr_holds n) (Fr_leads n))) sc_holds (by decide) fun cdv A outer s H E hr B hB=>
  (dss_cons (ds_if (dt_cmp (od_eq hr) (dq (de_ix (vQ 1) (dq de_int))) (dq de_str) (nomark _))
  (dss_one (ds_ret de_bl))
  dss_nil)
  (dss_cons (ds_if (dt_cmp (od_eq hr) (dq (de_ix (vQ 1) (dq de_int))) (dq de_str) (nomark _))
  (dss_one (ds_ret (de_cmp (od_inD hr) (dq (de_ix (vQ 1) (dq de_int))) (dq (de_ix (vQ 0) (dq de_int))) rfl)))
  dss_nil)
  (dss_cons (ds_if (dt_cmp (od_eq hr) (dq (de_ix (vQ 1) (dq de_int))) (dq de_str) (nomark _))
  (dss_one (ds_ret (de_call h_leads hr rfl (da_cons (vP 0) (da_cons (de_ix (vQ 1) (dq de_int)) da_nil)))))
  dss_nil)
  (dss_cons (ds_lcset (i:=2) (own':=[]) (N:=[("_law_one" : Str),("_law_part" : Str)]) (src:=[none,some 0]) (blk_mk (outer:=defScope st_holds) (oN:=N_holds) rfl (by decide +kernel) rfl rfl) rfl sc_holds.nd rfl rfl (di_list (de_ix (vQ 1) (dq de_int))) (ag_name 0) (by decide) (hte_name 0) (fun C s H ex=>⟨pg_name (i:=0) (show ([("_law_one" : Str),("_law_part" : Str)]:List Str).Nodup by decide +kernel) rfl (.inl rfl),(dts_one (dt_truth (dq (de_call h_holds hr rfl (da_cons (vP 1) (da_cons (vP 0) da_nil)))))),(vP 0)⟩))
  (dss_cons (ds_if (dt_cmp (od_eq hr) (dq (de_ix (vQ 1) (dq de_int))) (dq de_str) (nomark _))
  (dss_one (ds_ret (de_cmp (od_eq hr) (dq (de_len rfl z_len (vQ 2))) (dq (de_len rfl z_len (dq (de_ix (vQ 1) (dq de_int))))) (nomark _))))
  dss_nil)
  (dss_one (ds_ret (de_cmp od_gt (dq (de_len rfl z_len (vQ 2))) (dq de_int) (nomark _)))))))))
theorem ok_leads {n:Nat}(F:Fun K "_law_leads" "_law_leads" st_leads f fd) (h_below:Ok1 P w K mg base "_law_below" (n+14) (spF K F_below)) (h_holds:Ok1 P w K mg base "_law_holds" (n+14) (spF K (Fr_holds n))) (h_leads:Ok1 P w K mg base "_law_leads" (n+14) (spF K (Fr_leads n))):FnOk P w K mg base CX0 (n+14+1) f fd ["_law_part", "_law_steps_here"] (spF K (Fr_leads (n+1))):=
 F.okD (own:=[]) (own':=[]) (g:=(g_leads (Fr_holds n) (Fr_leads n))) sc_leads (by decide) fun cdv A outer s H E hr B hB=>
  (dss_cons (ds_if (dt_cmp (od_eq hr) (vQ 1) (dq (df (de_lst da_nil))) (nomark _))
  (dss_one (ds_ret de_bl))
  dss_nil)
  (dss_cons (ds_asg (de_ix (vQ 1) (dq de_int)) (dg_three (pg_tup rfl (pgs_cons (pg_name (i:=2) sc_leads.nd rfl (.inl rfl)) (pgs_cons (pg_name (i:=3) sc_leads.nd rfl (.inl rfl)) (pgs_cons (pg_name (i:=4) sc_leads.nd rfl (.inl rfl)) pgs_nil))))))
  (dss_cons (ds_for PassesOwn.never rfl (di_list (de_call h_below hr rfl (da_cons (vP 0) (da_cons (vP 2) da_nil)))) (fun B hB=>(dg_name (pg_name (i:=5) sc_leads.nd rfl (.inl rfl)))) (fun B hB=>
  (dss_one (ds_if (PW.pt (dw_and (dt_cmp od_in (vQ 3) (dq (de_tup (da_cons de_str (da_cons (de_ix (vQ 5) (dq de_int)) da_nil)))) rfl) (dw_and (dt_truth (dq (de_call h_holds hr rfl (da_cons (vP 5) (da_cons (vP 4) da_nil))))) (dw_and1 (dt_truth (dq (de_call h_leads hr rfl (da_cons (vP 5) (da_cons (df (de_slL (vQ 1) (dpo_some (dq de_int)) dpo_none)) da_nil)))))))))
   (dss_one (ds_ret de_bl))
   dss_nil))))
  (dss_one (ds_ret de_bl)))))
end
end K05
end
noncomputable section
namespace K05
open PySem L2
noncomputable def F_holds:=Fr_holds 24
noncomputable def g_numbered (F_numbered:List D→Option (D×List D)):DG:=
  (sSeq (sSet 2 (e2 oIx (eV 1) (eK (.int 0))))
  (sSeq (sItem 1 (eK (.int 0)) (e2 oAdd (e2 oIx (eV 1) (eK (.int 0))) (eK (.int 1))))
  (sSeq (sSetM 3 (mLC (iL (e2 oIx (eV 0) (eK (.int 1)))) [none,some 1] (gN 0) (mIf (tTru (eIs "str" (eV 0))) (mP (eV 0)) (mCall1 F_numbered (eV 0) 1)) 1 1))
  (sRetM (mP (eTup (aC (e2 oIx (eV 0) (eK (.int 0))) (aC (eV 3) (aC (eV 2) aN)))))))))
noncomputable abbrev st_numbered:Stmt:=top 31
noncomputable abbrev N_numbered:List Str:=["_law_part", "_law_count", "_law_number", "_law_parts"]
theorem sc_numbered:FnScope N_numbered ["_law_part", "_law_count"] (defScope st_numbered):=⟨rfl,rfl,rfl,by decide +kernel,rfl,by decide +kernel,by decide +kernel⟩
noncomputable def b_ends_1 (F_ends:List D→Option (List D)):DG:=
  (sIf (tAndD (tB1 (e2 (oIn false) (eV 3) (eTup (aC (eK (.str (Str.ofString "*"))) (aC (e2 oIx (eV 6) (eK (.int 0))) aN))))) (tTru (eCall F_holds (aC (eV 6) (aC (eV 4) aN)))))
   (sIf (tB1 (e2 oEq (eCall oLen (aC (eV 1) aN)) (eK (.int 1))))
    (sApp 5 (e2 oIx (eV 6) (eK (.int 2))))
    (sSetO 5 (fAdd (eV 5) (eF (fLC (iL (eF (fCall F_ends (aC (eV 6) (aC (eF (fSl (eV 1) (pS (eK (.int 1))) pN)) aN))))) [none,some 5] (gN 0) (tB1 (e2 (oIn true) (eV 0) (eV 1))) (eV 0))))))
   sNil)
noncomputable def g_ends (F_ends:List D→Option (List D)):DG:=
  (sSeq (sAsg (gN3 2 3 4) (e2 oIx (eV 1) (eK (.int 0))))
  (sSeq (sSetO 5 (eLst aN))
  (sSeq (sFor (iL (eCall F_below (aC (eV 0) (aC (eV 2) aN)))) (gN 6)
  (b_ends_1 F_ends))
  (sRetO 5))))
noncomputable abbrev st_ends:Stmt:=top 32
noncomputable abbrev N_ends:List Str:=["_law_part", "_law_steps_here", "_law_way", "_law_name_here", "_law_wish_here", "_law_found", "_law_one"]
theorem sc_ends:FnScope N_ends ["_law_part", "_law_steps_here"] (defScope st_ends):=⟨rfl,rfl,rfl,by decide +kernel,rfl,by decide +kernel,by decide +kernel⟩
noncomputable def Fr_numbered:Nat→List D→Option (D×List D)
 | 0=>fun _=>none
 | n+1=>runM 2 4 1 (g_numbered (Fr_numbered n))
noncomputable def Fr_ends:Nat→List D→Option (List D)
 | 0=>fun _=>none
 | n+1=>runO 2 7 (g_ends (Fr_ends n))
noncomputable section
variable {P:Program}{w:World}{K:Frag}{mg:Str→Option Value}{base:Heap}{f:Addr}{fd:FuncData}
theorem ok_numbered {n:Nat}(F:Fun K "_law_numbered" "_law_numbered" st_numbered f fd) (z_isinstance:mg "isinstance" = none) (z_str:mg "str" = none) (h_numbered:Ok1 P w K mg base "_law_numbered" (n+0) (spM K 1 (Fr_numbered n))):FnOk P w K mg base CX0 (n+0+1) f fd ["_law_part", "_law_count"] (spM K 1 (Fr_numbered (n+1))):=
 F.okM (own:=[1]) (own':=[1]) (g:=(g_numbered (Fr_numbered n))) sc_numbered 1 (by decide) (by decide) fun cdv A outer s H E hr B a hB=>
  (dss_cons (ds_set (i:=2) sc_numbered.nd rfl (.inl rfl) (de_ix (dvo (pv 1)) (dq de_int)))
  (dss_cons (ds_item (pv 1) (dq de_int) (de_op od_add (dq (de_ix (dvo (pv 1)) (dq de_int))) (dq de_int)))
  (dss_cons (ds_lcsetM (i:=3) (i0:=1) (j0:=1) (N:=[("_law_one" : Str),("_law_count" : Str)]) (src:=[none,some 1]) (blk_mk (outer:=defScope st_numbered) (oN:=N_numbered) rfl (by decide +kernel) rfl rfl) rfl sc_numbered.nd rfl rfl (di_list (de_ix (vQ 0) (dq de_int))) (ag_name 0) (by decide) (htm_name _ 0 1) (fun C s H ex=>⟨pg_name (i:=0) (show ([("_law_one" : Str),("_law_count" : Str)]:List Str).Nodup by decide +kernel) rfl (Or.inl rfl),dts_nil,dmx fun B a hB=>(dm_if (dt_truth (dq (de_isinst (T:= "str") (by decide) rfl z_isinstance rfl z_str (by decide +kernel) (vQ 0)))) (dm_pure (vP 0)) (dm_call1 h_numbered hr rfl (vP 0) (pv 1)))⟩))
  (dss_one (ds_retM (dm_pure (de_tup (da_cons (de_ix (vQ 0) (dq de_int)) (da_cons (vP 3) (da_cons (vP 2) da_nil))))))))))
theorem ok_ends {n:Nat}(F:Fun K "_law_ends" "_law_ends" st_ends f fd) (z_len:mg "len" = none) (h_below:Ok1 P w K mg base "_law_below" (n+39) (spF K F_below)) (h_holds:Ok1 P w K mg base "_law_holds" (n+39) (spF K F_holds)) (h_ends:Ok1 P w K mg base "_law_ends" (n+39) (spO K (Fr_ends n))):FnOk P w K mg base CX0 (n+39+1) f fd ["_law_part", "_law_steps_here"] (spO K (Fr_ends (n+1))):=
 F.okO (own:=[5]) (own':=[5]) (g:=(g_ends (Fr_ends n))) sc_ends (by decide) fun cdv A outer s H E hr B hB=>
  (dss_cons (ds_asg (de_ix (vQ 1) (dq de_int)) (dg_three (pg_tup rfl (pgs_cons (pg_name (i:=2) sc_ends.nd rfl (.inl rfl)) (pgs_cons (pg_name (i:=3) sc_ends.nd rfl (.inl rfl)) (pgs_cons (pg_name (i:=4) sc_ends.nd rfl (.inl rfl)) pgs_nil))))))
  (dss_cons (ds_setO (i:=5) sc_ends.nd rfl (.inr rfl) (de_lst da_nil))
  (dss_cons (ds_for PassesOwn.never rfl (di_list (de_call h_below hr rfl (da_cons (vP 0) (da_cons (vP 2) da_nil)))) (fun B hB=>(dg_name (pg_name (i:=6) sc_ends.nd rfl (.inl rfl)))) (fun B hB=>
  (dss_one (ds_if (PW.pt (dw_and (dt_cmp od_in (vQ 3) (dq (de_tup (da_cons de_str (da_cons (de_ix (vQ 6) (dq de_int)) da_nil)))) rfl) (dw_and1 (dt_truth (dq (de_call h_holds hr rfl (da_cons (vP 6) (da_cons (vP 4) da_nil))))))))
   (dss_one (ds_if (dt_cmp (od_eq hr) (dq (de_len rfl z_len (vQ 1))) (dq de_int) (nomark _))
    (dss_one (ds_app (pv 5) (de_ix (vQ 6) (dq de_int))))
    (dss_one (ds_setO (i:=5) sc_ends.nd rfl (.inr rfl) (de_addF (dvo (pv 5)) (dq (df (de_lc (own':=[1]) (N:=[("_law_number" : Str),("_law_found" : Str)]) (src:=[none,some 5]) (blk_mk (outer:=defScope st_ends) (oN:=N_ends) rfl (by decide +kernel) rfl rfl) rfl (di_list (df (de_callO h_ends hr rfl (da_cons (vP 6) (da_cons (df (de_slL (vQ 1) (dpo_some (dq de_int)) dpo_none)) da_nil))))) (ag_name 0) (by decide) (hte_name 0) (fun C s H ex=>⟨pg_name (i:=0) (show ([("_law_number" : Str),("_law_found" : Str)]:List Str).Nodup by decide +kernel) rfl (.inl rfl),(dts_one (dt_cmp od_notin (vQ 0) (dvo (pv 1)) rfl)),(vP 0)⟩)))))))))
   dss_nil))))
  (dss_one (ds_retO (pv 5))))))
end
end K05
end
noncomputable section
namespace K05
open PySem L2
noncomputable def F_numbered:=Fr_numbered 12
noncomputable def F_ends:=Fr_ends 20
noncomputable def g_lanswers:DG:=
  (sRetF (fSS (eF (fCall F_ends (aC (eTup (aC (eK (.str (Str.ofString ""))) (aC (eF (eLst (aC (eCallT F_numbered (eV 0) (eLst (aC (eK (.int 0)) aN))) aN))) (aC (e1 oNeg (eK (.int 1))) aN)))) (aC (eV 1) aN))))))
noncomputable def F_lanswers:List D→Option (List D):=runO 2 2 g_lanswers
noncomputable abbrev st_lanswers:Stmt:=top 33
noncomputable abbrev N_lanswers:List Str:=["_law_paper", "_law_question"]
theorem sc_lanswers:FnScope N_lanswers ["_law_paper", "_law_question"] (defScope st_lanswers):=⟨rfl,rfl,rfl,by decide +kernel,rfl,by decide +kernel,by decide +kernel⟩
noncomputable section
variable {P:Program}{w:World}{K:Frag}{mg:Str→Option Value}{base:Heap}{f:Addr}{fd:FuncData}
theorem ok_lanswers (F:Fun K "_law_answers" "_law_answers" st_lanswers f fd) (z_set:mg "set" = none) (z_sorted:mg "sorted" = none) (h_numbered:Ok1 P w K mg base "_law_numbered" 59 (spM K 1 F_numbered)) (h_ends:Ok1 P w K mg base "_law_ends" 59 (spO K F_ends)):FnOk P w K mg base CX0 60 f fd ["_law_paper", "_law_question"] (spO K F_lanswers):=
 F.okO (own:=[]) (own':=[]) (g:=g_lanswers) sc_lanswers (by decide) fun cdv A outer s H E hr B hB=>
  (dss_one (ds_retF (de_ssort rfl rfl z_sorted rfl z_set (dq (df (de_callO h_ends hr rfl (da_cons (de_tup (da_cons de_str (da_cons (df (de_lst (da_cons (de_callT h_numbered hr rfl (vP 0) (de_lst (da_cons de_int da_nil))) da_nil))) (da_cons (de_neg (dq de_int)) da_nil)))) (da_cons (vP 1) da_nil))))))))
end
end K05
end
noncomputable section
namespace K05
open PySem L2
noncomputable abbrev F_laid_out:=L2.F_laid "Layout" F_signs_of
noncomputable abbrev F_laidL:=L2.F_laid "Layout" F_signs_of
noncomputable def F_wish_marks:=Fr_wish_marks 12
noncomputable def F_fit_marks:=Fr_fit_marks 12
noncomputable def F_wish:=Fr_wish 12
noncomputable def F_steps:=Fr_steps 12
noncomputable def F_copy_wish:=Fr_copy_wish 12
noncomputable def F_copy_steps:=Fr_copy_steps 12
noncomputable def F_copy_row:=Fr_copy_row 12
noncomputable def F_alike:=Fr_alike 12
noncomputable def b_answers_1:DG:=
  (sSet 3 (eF (fCall F_both_marks (aC (eF (fCall F_below_marks (aC (eV 2) (aC (e2 oIx (eV 4) (eK (.int 0))) (aC (eV 3) aN))))) (aC (eCall F_fit_marks (aC (eV 2) (aC (eV 4) aN))) aN)))))
noncomputable def g_answers:DG:=
  (sSeq (sSet 2 (eCall F_laid_out (aC (eTup (aC (eK (.str (Str.ofString ""))) (aC (eF (eLst (aC (eV 0) aN))) aN))) aN)))
  (sSeq (sSet 3 (eF (fLC (iR1 (eCall oLen (aC (eFld "Layout" "names" (eV 2)) aN))) [none] (gN 0) tYes (e2 oEq (eV 0) (eK (.int 0))))))
  (sSeq (sFor (iL (eV 1)) (gN 4)
  b_answers_1)
  (sRetF (fLC (iE (eV 3)) [none,none] (gN2 0 1) (tTru (eV 1)) (e2 oSub (eV 0) (eK (.int 1))))))))
noncomputable def F_answers:List D→Option (List D):=runO 2 5 g_answers
noncomputable abbrev st_answers:Stmt:=top 5
noncomputable abbrev N_answers:List Str:=["paper", "question", "layout", "marks", "step"]
theorem sc_answers:FnScope N_answers ["paper", "question"] (defScope st_answers):=⟨rfl,rfl,rfl,by decide +kernel,rfl,by decide +kernel,by decide +kernel⟩
noncomputable def b_law_1:DG:=
  (sSeq (sSetO 9 (fCall F_answers (aC (e2 oIx (eV 7) (eK (.int 0))) (aC (e2 oIx (eV 7) (eK (.int 1))) aN))))
   (sSeq (sIf (tNotD (tTru (eCallS F_alike (aC (eV 9) (aC (eV 6) aN)))))
   (sRet (eK (.bl false)))
   sNil)
   (sApp 9 (eK (.int 0)))))
noncomputable def g_law:DG:=
  (sSeq (sSetO 1 (fCall F_draws (aC (eV 0) (aC (eK (.int 200)) (aC (eK (.int 26)) aN)))))
  (sSeq (sSetM 2 (mCallP (fun ds=>(F_names ds).map D.lst) (mAC (mCall F_pop 1 aN) mAN)))
  (sSeq (sSetM 3 (mCall F_pop 1 aN))
  (sSeq (sSet 4 (eCall F_stump (aC (eF (fCall F_signs (aC (eF (fCall F_draws (aC (eV 0) (aC (eK (.int 2)) (aC (e2 oAdd (eK (.int 1)) (e2 oMod (eV 3) (eK (.int 48)))) aN))))) (aC (eV 2) (aC (eK (.int 6)) aN))))) aN)))
  (sSeq (sSetM 5 (mCall F_steps 1 (aC (eV 2) (aC (eK (.int 2)) aN))))
  (sSeq (sIf (tB1 (e2 oEq (e2 oMod (e2 oFdiv (eV 3) (eK (.int 48))) (eK (.int 4))) (eK (.int 0))))
  (sSetM 5 (m2 oAdd (mP (eV 5)) (mCall F_more_steps 1 (aC (eV 2) aN))))
  sNil)
  (sSeq (sSet 6 (eF (fCall F_lanswers (aC (eV 4) (aC (eV 5) aN)))))
  (sSeq (sSet 7 (eF (eLst (aC (eTup (aC (e2 oIx (eV 4) (eK (.int 0))) (aC (eCall F_copy_row (aC (e2 oIx (eV 4) (eK (.int 1))) aN)) aN))) (aC (eCall F_copy_steps (aC (eV 5) aN)) aN)))))
  (sSeq (sFor (iR1 (eK (.int 2))) (gN 8)
  b_law_1)
  (sRet (e2 oEq (eV 7) (eF (eLst (aC (eV 4) (aC (eV 5) aN)))))))))))))))
noncomputable def F_law:List D→Option D:=runD 1 10 g_law
noncomputable abbrev st_law:Stmt:=top 34
noncomputable abbrev N_law:List Str:=["_law_script", "_law_draws_here", "_law_names_here", "_law_some", "_law_paper", "_law_question", "_law_due", "_law_handed", "_law_k", "_law_found"]
theorem sc_law:FnScope N_law ["_law_script"] (defScope st_law):=⟨rfl,rfl,rfl,by decide +kernel,rfl,by decide +kernel,by decide +kernel⟩
noncomputable section
variable {P:Program}{w:World}{K:Frag}{mg:Str→Option Value}{base:Heap}{f:Addr}{fd:FuncData}
theorem ok_answers (F:Fun K "answers" "answers" st_answers f fd) (z_enumerate:mg "enumerate" = none) (z_len:mg "len" = none) (z_range:mg "range" = none) (k_Layout_names:∀ C,nsIn K mainGlobals "Layout" = some (some (.ref C))→Cls K C∧NoAttr K C "names") (h_laid_out:Ok1 P w K mg base "laid_out" 19 (spF K F_laidL)) (h_both_marks:Ok1 P w K mg base "both_marks" 19 (spO K F_both_marks)) (h_below_marks:Ok1 P w K mg base "below_marks" 19 (spO K F_below_marks)) (h_fit_marks:Ok1 P w K mg base "fit_marks" 19 (spF K F_fit_marks)):FnOk P w K mg base CX0 20 f fd ["paper", "question"] (spO K F_answers):=
 F.okO (own:=[]) (own':=[]) (g:=g_answers) sc_answers (by decide) fun cdv A outer s H E hr B hB=>
  (dss_cons (ds_set (i:=2) sc_answers.nd rfl (.inl rfl) (de_call h_laid_out hr rfl (da_cons (de_tup (da_cons de_str (da_cons (df (de_lst (da_cons (vP 0) da_nil))) da_nil))) da_nil)))
  (dss_cons (ds_lcset (i:=3) (own':=[]) (N:=[("number" : Str)]) (src:=[none]) (blk_mk (outer:=defScope st_answers) (oN:=N_answers) rfl (by decide +kernel) rfl rfl) rfl sc_answers.nd rfl rfl (di_range1 rfl z_range (dq (de_len rfl z_len (dq (de_fld (c:= "Layout") (vP 2) k_Layout_names))))) (ag_name 0) (by decide) (hte_name 0) (fun C s H ex=>⟨pg_name (i:=0) (show ([("number" : Str)]:List Str).Nodup by decide +kernel) rfl (.inl rfl),dts_nil,(de_cmp (od_eq hr) (vQ 0) (dq de_int) (nomark _))⟩))
  (dss_cons (ds_for PassesOwn.never rfl (di_list (vP 1)) (fun B hB=>(dg_name (pg_name (i:=4) sc_answers.nd rfl (.inl rfl)))) (fun B hB=>
  (dss_one (ds_set (i:=3) sc_answers.nd rfl (.inl rfl) (df (de_callO h_both_marks hr rfl (da_cons (df (de_callO h_below_marks hr rfl (da_cons (vP 2) (da_cons (de_ix (vQ 4) (dq de_int)) (da_cons (vP 3) da_nil))))) (da_cons (de_call h_fit_marks hr rfl (da_cons (vP 2) (da_cons (vP 4) da_nil))) da_nil))))))))
  (dss_one (ds_retF (de_lc (own':=[]) (N:=[("number" : Str),("mark" : Str)]) (src:=[none,none]) (blk_mk (outer:=defScope st_answers) (oN:=N_answers) rfl (by decide +kernel) rfl rfl) rfl (di_enum rfl z_enumerate (vP 3)) (ag_two _ 0 1) (by decide) (hte_two 0 1) (fun C s H ex=>⟨pg_tup rfl (pgs_cons (pg_name (i:=0) (show ([("number" : Str),("mark" : Str)]:List Str).Nodup by decide +kernel) rfl (.inl rfl)) (pgs_cons (pg_name (i:=1) (show ([("number" : Str),("mark" : Str)]:List Str).Nodup by decide +kernel) rfl (.inl rfl)) pgs_nil)),(dts_one (dt_truth (vQ 1))),(de_op od_sub (vQ 0) (dq de_int))⟩)))))))
theorem ok_law (F:Fun K "law" "law" st_law f fd) (z_range:mg "range" = none) (h_draws:Ok1 P w K mg base "_law_draws" 61 (spO K F_draws)) (h_names:Ok1 P w K mg base "_law_names" 61 (spO K F_names)) (h_pop:Ok1 P w K mg base "_law_pop" 61 (spM K 0 F_pop)) (h_signs:Ok1 P w K mg base "_law_signs" 61 (spO K F_signs)) (h_stump:Ok1 P w K mg base "_law_stump" 61 (spF K F_stump)) (h_steps:Ok1 P w K mg base "_law_steps" 61 (spM K 0 F_steps)) (h_more_steps:Ok1 P w K mg base "_law_more_steps" 61 (spM K 0 F_more_steps)) (h_lanswers:Ok1 P w K mg base "_law_answers" 61 (spO K F_lanswers)) (h_copy_row:Ok1 P w K mg base "_law_copy_row" 61 (spF K F_copy_row)) (h_copy_steps:Ok1 P w K mg base "_law_copy_steps" 61 (spF K F_copy_steps)) (h_answers:Ok1 P w K mg base "answers" 61 (spO K F_answers)) (h_alike:Ok1 P w K mg base "_law_alike" 61 (spF K F_alike)):FnOk P w K mg base CX0 62 f fd ["_law_script"] (spF K F_law):=
 F.okD (own:=[1,9]) (own':=[1,9]) (g:=g_law) sc_law (by decide) fun cdv A outer s H E hr B hB=>
  (dss_cons (ds_setO (i:=1) sc_law.nd rfl (.inl rfl) (de_callO h_draws hr rfl (da_cons (vP 0) (da_cons de_int (da_cons de_int da_nil)))))
  (dss_cons (ds_setM (i:=2) sc_law.nd rfl (.inl rfl) (dm_callP h_names.toF hr rfl (dma_cons (dm_call h_pop hr rfl (pv 1) da_nil) dma_nil)))
  (dss_cons (ds_setM (i:=3) sc_law.nd rfl (.inl rfl) (dm_call h_pop hr rfl (pv 1) da_nil))
  (dss_cons (ds_set (i:=4) sc_law.nd rfl (.inl rfl) (de_call h_stump hr rfl (da_cons (df (de_callO h_signs hr rfl (da_cons (df (de_callO h_draws hr rfl (da_cons (vP 0) (da_cons de_int (da_cons (de_op od_add (dq de_int) (dq (de_op od_mod (vQ 3) (dq de_int)))) da_nil))))) (da_cons (vP 2) (da_cons de_int da_nil))))) da_nil)))
  (dss_cons (ds_setM (i:=5) sc_law.nd rfl (.inl rfl) (dm_call h_steps hr rfl (pv 1) (da_cons (vP 2) (da_cons de_int da_nil))))
  (dss_cons (ds_if (dt_cmp (od_eq hr) (dq (de_op od_mod (dq (de_op od_fdiv (vQ 3) (dq de_int))) (dq de_int))) (dq de_int) (nomark _))
  (dss_one (ds_setM (i:=5) sc_law.nd rfl (.inl rfl) (dm_op od_add (dm_pure (vP 5)) (dm_call h_more_steps hr rfl (pv 1) (da_cons (vP 2) da_nil)))))
  dss_nil)
  (dss_cons (ds_set (i:=6) sc_law.nd rfl (.inl rfl) (df (de_callO h_lanswers hr rfl (da_cons (vP 4) (da_cons (vP 5) da_nil)))))
  (dss_cons (ds_set (i:=7) sc_law.nd rfl (.inl rfl) (df (de_lst (da_cons (de_tup (da_cons (de_ix (vQ 4) (dq de_int)) (da_cons (de_call h_copy_row hr rfl (da_cons (de_ix (vQ 4) (dq de_int)) da_nil)) da_nil))) (da_cons (de_call h_copy_steps hr rfl (da_cons (vP 5) da_nil)) da_nil)))))
  (dss_cons (ds_for PassesOwn.never rfl (di_range1 rfl z_range (dq de_int)) (fun B hB=>(dg_name (pg_name (i:=8) sc_law.nd rfl (.inl rfl)))) (fun B hB=>
  (dss_cons (ds_setO (i:=9) sc_law.nd rfl (.inl rfl) (de_callO h_answers hr rfl (da_cons (de_ix (vQ 7) (dq de_int)) (da_cons (de_ix (vQ 7) (dq de_int)) da_nil))))
   (dss_cons (ds_if (dt_not (dt_truth (dq (de_callS h_alike hr rfl (dqa_cons (dvo (pv 9)) (dqa_cons (vQ 6) dqa_nil))))))
   (dss_one (ds_ret de_bl))
   dss_nil)
   (dss_one (ds_app (pv 9) de_int))))))
  (dss_one (ds_ret (de_cmp (od_eq hr) (vQ 7) (dq (df (de_lst (da_cons (vP 4) (da_cons (vP 5) da_nil))))) (nomark _)))))))))))))
end
end K05
end
noncomputable section
open PySem L2
local macro_rules | `(tactic| walk_at "v") => `(tactic| simp only [runD, runO, startD, sSeq, sSet, sSetO, sRet, sRetF, sRetO, sIf, sNil, sFor, sApp, sItem, lstAt, e2, eV, eK, eF, eLst, eTup, eCall, fCall, aC, aN, tB1, tAndD, tOrD, tNotD, fLC, iL, iE, iR1, iR2, pN, pS, fSl, eSlS, iS, srcρ, tTru, eIs,
  List.length_cons, List.length_nil, List.map_cons, List.map_nil, List.cons_append, List.nil_append, List.replicate, List.getElem?_cons_zero, List.getElem?_cons_succ, List.getElem?_nil, Option.join_some, Option.join_none, Option.bind_some, Option.map_some, Option.getD_some, addI, subI, eqI, eqB, eqS, neI, neS, ltI, gtI, geI, ixL, ixT, lenL, lenT,
  List.set_cons_zero, List.set_cons_succ, if_true, if_false, Bool.false_eq_true, outD, outO, Nat.reduceAdd, Nat.reduceSub, Nat.reduceLeDiff])
noncomputable section
namespace K05
open PySem L2
theorem draws_ok (ns:List Int) (hns:ns.length≤63) (turn many:Int) (t0:0≤turn) (t1:turn≤1000) (m0:0≤many) (m1:many≤1000):∃ xs:List Int,F_draws [.scr ns,.int turn,.int many]=some (xs.map D.int)∧xs.length=many.toNat∧∀ x∈xs,0≤x:=by
 have hcl:(cut ns none (some 63)).length≤63:=yB (cut_le _ _ _) hns;generalize hcs:cut ns none (some 63)++[turn]=cs;have hcs1:1≤cs.length:=by rw[← hcs];simp
 have hcs2:cs.length≤64:=by rw[← hcs];simp;omega
 have e1:oAdd (.lst ((cut ns none (some 63)).map D.int)) (.lst [.int turn])=some (.lst (cs.map D.int)):=by simp only[oAdd];rw[if_pos (by simp[bigE_eq];omega),← hcs];simp
 obtain⟨c0,ec0⟩:=atI_int (xs:=cs) (z:=0) (by decide) (by omega)
 unfold F_draws g_draws;walk_at "v";rw[e1];walk_at "v";rw[ec0];walk_at "v";rw[fdivR ⟨by decide,by decide⟩]
 walk_at "v";rw[modR (by decide)]
 walk_at "v";by_cases hb:(c0/50000%2==1)=true
 ·rw[hb];walk_at "v";have hz:(cs.map D.int).length≤bigE:=by simp[bigE_eq];omega
  rw[if_pos hz];rw[lc_all (h:=fun d=>match d with|.int i =>.int (i/100000)|d=>d) (fun d hd=>by obtain⟨i,_,rfl⟩:=List.mem_map.mp hd;exact⟨_,rfl,by walk_at "v";rw[fdivR ⟨by decide,by decide⟩]⟩)]
  have el:(cs.map D.int).map (fun d=>match d with|.int i =>.int (i/100000)|d=>d)=(cs.map (· / 100000)).map D.int:=by simp
  rw[el];walk_at "v";rw[if_pos (show -(2 ^ 62)≤turn+many∧turn+many<2 ^ 62 from ⟨by omega,by omega⟩)]
  walk_at "v";have hl0:(cs.map (· / 100000)).length=cs.length:=by simp
  have hrl:(rngD 0 (turn+many).toNat).length=(turn+many).toNat:=rngD_len _ _;obtain⟨ρ',ef,⟨fs,ls,v6,v7,rfl,hfs,hls,hpos⟩⟩:=for_inv0 (τ:=gN 6) (g:=b_draws_1) (ds:=rngD 0 (turn+many).toNat) (fun i ρ=>∃ (fs ls:List Int) (v6 v7:Option D),ρ=[some (.scr ns),some (.int turn),some (.int many),some (.lst (cs.map D.int)),some (.lst (fs.map D.int)),some (.lst (ls.map D.int)),v6,v7,none,none]∧fs.length=i-turn.toNat∧ls.length=cs.length∧∀ x∈fs,0≤x)
   (ρ:=[some (.scr ns),some (.int turn),some (.int many),some (.lst (cs.map D.int)),some (.lst []),some (.lst ((cs.map (· / 100000)).map D.int)),none,none,none,none]) ⟨[],cs.map (· / 100000),none,none,rfl,by simp,hl0,fun x h=>by cases h⟩ (by
   rintro j d ρ hd ⟨fs,ls,v6,v7,rfl,hfs,hls,hpos⟩;obtain⟨hj,rfl⟩:=rngD_get hd;have hlp:(0:Int)<(ls.length:Int):=by omega
   have k0:=yC (0+(j:Int)) (show (ls.length:Int)≠0 by omega)
   have k1:=zY (0+(j:Int)) hlp;obtain⟨v,ev⟩:=atI_int (xs:=ls) k0 k1;by_cases hge:turn≤0+(j:Int)
   ·refine⟨_,[some (.scr ns),some (.int turn),some (.int many),some (.lst (cs.map D.int)),some (.lst ((fs++[v%2147483587]).map D.int)),some (.lst ((ls.set ((0+(j:Int))%(ls.length:Int)).toNat (v/2147483587)).map D.int)),some (.int (0+(j:Int))),some (.int ((0+(j:Int))%(ls.length:Int))),none,none],rfl,?_,⟨_,_,_,_,rfl,by simp[hfs];omega,by simp[hls],fun x hx =>?_⟩⟩
    ·unfold b_draws_1;walk_at "v";rw[zH,modR hlp];walk_at "v";rw[decide_eq_true hge];walk_at "v";rw[ev];walk_at "v";rw[modR (by decide)]
     walk_at "v";rw[if_pos (by rw[zH,bigE_eq];omega)]
     walk_at "v";rw[ev];walk_at "v";rw[fdivR ⟨by decide,by decide⟩]
     walk_at "v";rw[zH,ixN_pos k0 k1];walk_at "v";rw[set_map_int];simp
    ·rcases zO.mp hx with h|h
     ·exact hpos x h
     ·rw[yG.mp h];exact yC _ (by decide)
   ·refine⟨_,[some (.scr ns),some (.int turn),some (.int many),some (.lst (cs.map D.int)),some (.lst (fs.map D.int)),some (.lst ((ls.set ((0+(j:Int))%(ls.length:Int)).toNat (v/2147483587)).map D.int)),some (.int (0+(j:Int))),some (.int ((0+(j:Int))%(ls.length:Int))),none,none],rfl,?_,⟨_,_,_,_,rfl,by rw[hfs];omega,by simp[hls],hpos⟩⟩
    unfold b_draws_1;walk_at "v";rw[zH,modR hlp];walk_at "v";rw[decide_eq_false hge];walk_at "v";rw[ev];walk_at "v";rw[fdivR ⟨by decide,by decide⟩]
    walk_at "v";rw[zH,ixN_pos k0 k1];walk_at "v";rw[set_map_int])
  rw[ef];walk_at "v";rw[hrl] at hfs;exact⟨fs,rfl,by rw[hfs];omega,hpos⟩
 ·have hb':(c0/50000%2==1)=false:=by simpa using hb
  rw[hb'];walk_at "v";rw[if_pos (show -(2 ^ 62)≤many∧many<2 ^ 62 from ⟨by omega,by omega⟩)]
  walk_at "v";have hrl:(rngD 0 many.toNat).length=many.toNat:=rngD_len _ _;obtain⟨ρ',ef,⟨fs,v6,v8,v9,rfl,hfs,hpos⟩⟩:=for_inv0 (τ:=gN 6) (g:=b_draws_2) (ds:=rngD 0 many.toNat) (fun i ρ=>∃ (fs:List Int) (v6 v8 v9:Option D),ρ=[some (.scr ns),some (.int turn),some (.int many),some (.lst (cs.map D.int)),some (.lst (fs.map D.int)),none,v6,none,v8,v9]∧fs.length=i∧∀ x∈fs,0≤x)
   (ρ:=[some (.scr ns),some (.int turn),some (.int many),some (.lst (cs.map D.int)),some (.lst []),none,none,none,none,none]) ⟨[],none,none,none,rfl,rfl,fun x h=>by cases h⟩ (by
   rintro j d ρ hd ⟨fs,v6,v8,v9,rfl,hfs,hpos⟩;obtain⟨hj,rfl⟩:=rngD_get hd;have hlp:(0:Int)<(cs.length:Int):=by omega
   have k0:=yC (0+(j:Int)) (show (cs.length:Int)≠0 by omega)
   have k1:=zY (0+(j:Int)) hlp;obtain⟨v,ev⟩:=atI_int (xs:=cs) k0 k1;generalize hpl:(0+(j:Int)+turn)*(0+(j:Int)+turn)*7919+104729=place;generalize hn1:(v%2147483647+place)*48271%2147483647=num1;have n0:0≤num1:=by rw[← hn1];exact yC _ (by decide)
   have n1:num1<2147483647:=by rw[← hn1];exact zY _ (by decide)
   generalize hn2:(num1*num1+69621*(0+(j:Int)))%2147483629=num2;have p0:0≤num2:=by rw[← hn2];exact yC _ (by decide)
   have p1:num2<2147483629:=by rw[← hn2];exact zY _ (by decide)
   refine⟨_,[some (.scr ns),some (.int turn),some (.int many),some (.lst (cs.map D.int)),some (.lst ((fs++[num2*num2%2147483587]).map D.int)),none,some (.int (0+(j:Int))),none,some (.int place),some (.int num2)],rfl,?_,⟨_,_,_,_,rfl,by simp[hfs],fun x hx =>?_⟩⟩
   ·unfold b_draws_2;walk_at "v";rw[mulL ⟨by omega,by omega⟩]
    walk_at "v";rw[mulR ⟨by decide,by decide⟩]
    walk_at "v";rw[hpl,zH,modR hlp];walk_at "v";rw[ev];walk_at "v";rw[modR (by decide)]
    walk_at "v";rw[mulR ⟨by decide,by decide⟩]
    walk_at "v";rw[modR (by decide),hn1]
    walk_at "v";rw[mulL ⟨by omega,by omega⟩]
    walk_at "v";rw[mulL ⟨by decide,by decide⟩]
    walk_at "v";rw[modR (by decide),hn2]
    walk_at "v";rw[mulL ⟨by omega,by omega⟩]
    walk_at "v";rw[modR (by decide)]
    walk_at "v";rw[if_pos (by rw[zH,bigE_eq];omega)]
    simp
   ·rcases zO.mp hx with h|h
    ·exact hpos x h
    ·rw[yG.mp h];exact yC _ (by decide))
  rw[ef];walk_at "v";rw[hrl] at hfs;exact⟨fs,rfl,hfs,hpos⟩
end K05
end
noncomputable section
namespace K05
open PySem L2
theorem ints_dOks (xs:List Int) (n:Nat):dOks (xs.map D.int) n=true:=by
 induction xs with
 | nil=>rfl
 | cons x xs ih=>simp only[List.map_cons,dOks,dOk,ih,Bool.and_self]
theorem eqNilI (xs:List Int):oEq (.lst (xs.map D.int)) (.lst [])=some (.bl xs.isEmpty):=by
 simp only[oEq];rw[if_pos (by rw[dOk_lst (ints_dOks xs 179)];rfl)]
 cases xs<;>rfl
noncomputable def popZ (xs:List Int):Int:=xs.getLastD 0
theorem pop_ok (xs:List Int):F_pop [.lst (xs.map D.int)]=some (.int (popZ xs),xs.dropLast.map D.int):=by
 unfold F_pop g_pop runM;have t:tB1 (e2 oEq (eV 0) (eF (eLst aN))) [some (.lst (xs.map D.int))]=some xs.isEmpty:=by walk_at "v";rw[eqNilI];walk_at "v"
 rw[if_pos (show [D.lst (xs.map D.int)].length=1 from rfl)]
 show (sSeq _ _ [some (.lst (xs.map D.int))]).bind (outM 0)=_;rcases List.eq_nil_or_concat xs with rfl|⟨ys,x,rfl⟩
 ·have e:sIf (tB1 (e2 oEq (eV 0) (eF (eLst aN)))) (sRetM (mP (eK (.int 0)))) sNil [some (.lst (([]:List Int).map D.int))]=some (.rm (.int 0) [some (.lst [])]):=by rw[sIf_t t];rfl
  simp only[sSeq,e,zA]
  rfl
 ·have e:sIf (tB1 (e2 oEq (eV 0) (eF (eLst aN)))) (sRetM (mP (eK (.int 0)))) sNil [some (.lst ((ys.concat x).map D.int))]=some (.nx [some (.lst ((ys.concat x).map D.int))]):=by rw[sIf_f (by rw[t];simp)];rfl
  rw[sSeq_nx e];simp only[sRetM,mPop];walk_at "v";simp[outM,lstAt,eV,popZ]
theorem text_ok (n:Int):∃ x:Str,F_text [.int n]=some (.str x):=by
 unfold F_text g_text;walk_at "v";have q0:=yC n (show (8:Int)≠0 by decide)
 have q1:=zY n (show (0:Int)<8 by decide)
 have em:[D.str (Str.ofString ""),D.str (Str.ofString "x"),D.str (Str.ofString "any"),D.str (Str.ofString "\""),D.str (Str.ofString "\\"),D.str (Str.ofString "\\q"),D.str (Str.ofString "a b"),D.str (Str.ofString "]")]=([Str.ofString "",Str.ofString "x",Str.ofString "any",Str.ofString "\"",Str.ofString "\\",Str.ofString "\\q",Str.ofString "a b",Str.ofString "]"]:List Str).map D.str:=rfl
 have e8:oMod (.int n) (.int ((8:Nat):Int))=some (.int (n%8)):=modR (by decide)
 rw[em];obtain⟨x,ex,_⟩:=atI_str (xs:=([Str.ofString "",Str.ofString "x",Str.ofString "any",Str.ofString "\"",Str.ofString "\\",Str.ofString "\\q",Str.ofString "a b",Str.ofString "]"]:List Str)) q0 (by simpa using q1)
 refine⟨x,?_⟩;show (Option.map DO.rt ((oMod (.int n) (.int ((8:Nat):Int))).bind fun y=>oIx (.lst _) y)).bind outD=_
 rw[e8];simp only[zA,ixL];rw[ex]
 rfl
end K05
end
noncomputable section
namespace K05
open PySem L2
theorem eqNil {ss:List D}(h:∀ s∈ss,isSign s):oEq (.lst ss) (.lst [])=some (.bl ss.isEmpty):=by
 simp only[oEq];rw[if_pos (by rw[dOk_lst (signs_dOks h 178)];rfl)]
 cases ss<;>rfl
theorem PPo.snoc {m:Nat}{ss:List D}{s:D}{dep:Int}(h:∀ z,zrun ss ([],[])=some z→PPo m z.1 z.2) (hs:SG (ss++[s]) dep) (hd:dep≤m):∀ z,zrun (ss++[s]) ([],[])=some z→PPo m z.1 z.2:=by
 intro z hz;obtain⟨z',e',d',_⟩:=hs.ex;rw[hz] at e';cases e';rw[zrun_snoc] at hz;cases e1:zrun ss ([],[]) with
 | none=>rw[e1] at hz;cases hz
 | some z1=>rw[e1] at hz;exact(h z1 e1).step hz (by omega)
theorem signs_ok (xs:List Int) (nms:List Str) (deep:Int) (m:Nat) (hm:deep=m) (hm1:1≤m) (hx:xs.length≤500) (hn:1≤nms.length):∃ ss dep,F_signs [.lst (xs.map D.int),.lst (nms.map D.str),.int deep]=some ss∧SG ss dep∧ss.length=xs.length∧(ss≠[]→1≤dep)∧dep≤m∧∀ z,zrun ss ([],[])=some z→PPo m z.1 z.2:=by
 unfold F_signs g_signs;walk_at "v";obtain⟨ρ',ef,⟨ss,dep,v5,v6,rfl,hs,hl,hp,hdm,hpo⟩⟩:=for_inv0 (τ:=gN 5) (g:=b_signs_1) (ds:=xs.map D.int) (fun i ρ=>∃ (ss:List D) (dep:Int) (v5 v6:Option D),ρ=[some (.lst (xs.map D.int)),some (.lst (nms.map D.str)),some (.int deep),some (.lst ss),some (.int dep),v5,v6]∧SG ss dep∧ss.length=i∧(ss≠[]→1≤dep)∧dep≤m∧∀ z,zrun ss ([],[])=some z→PPo m z.1 z.2)
  (ρ:=[some (.lst (xs.map D.int)),some (.lst (nms.map D.str)),some (.int deep),some (.lst []),some (.int 0),none,none]) ⟨[],0,none,none,rfl,⟨fun s h=>(by cases h),([],[]),rfl,rfl,fun _=>rfl⟩,rfl,fun h=>absurd rfl h,by omega,fun z hz=>by cases hz;exact fun e he=>by cases he⟩ (by
  rintro j d ρ hd ⟨ss,dep,v5,v6,rfl,hs,hl,hp,hdm,hpo⟩;obtain⟨c,hc,rfl⟩:=int_of_mem hd;have hj:j<xs.length:=(zC.mp hc).1;have hlp:(0:Int)<(nms.length:Int):=by omega
  have q0:=yC (c/8) (show (nms.length:Int)≠0 by omega)
  have q1:=zY (c/8) hlp;obtain⟨nm,en,_⟩:=atI_str (xs:=nms) q0 q1;obtain⟨tx,et⟩:=text_ok (c/8%3);have hbig:ss.length<bigE:=by rw[bigE_eq];omega
  have main:∃ ss' dep' v6',b_signs_1 [some (.lst (xs.map D.int)),some (.lst (nms.map D.str)),some (.int deep),some (.lst ss),some (.int dep),some (.int c),v6]=some (.nx [some (.lst (xs.map D.int)),some (.lst (nms.map D.str)),some (.int deep),some (.lst ss'),some (.int dep'),some (.int c),v6'])∧SG ss' dep'∧ss'.length=j+1∧(ss'≠[]→1≤dep')∧dep'≤m∧∀ z,zrun ss' ([],[])=some z→PPo m z.1 z.2:=by
   unfold b_signs_1;walk_at "v";rw[modR (by decide)]
   walk_at "v";rw[eqNil hs.sg];walk_at "v";generalize c%8=kind;have k1:∃ b,(if ss.isEmpty=true then some true else if decide (kind<4)=true then some (decide (dep<deep)) else some false)=some b∧(b=true∨ss≠[])∧(b=true→ss=[]∨dep<deep):=by
    split
    ·rename_i h;exact⟨true,rfl,.inl rfl,fun _ =>.inl (by simpa using h)⟩
    ·rename_i h;have:ss≠[]:=fun z=>h (by rw[z];rfl)
     split
     ·exact⟨_,rfl,.inr this,fun z =>.inr (of_decide_eq_true z)⟩
     ·exact⟨false,rfl,.inr this,fun z=>by cases z⟩
   obtain⟨b1,e1,f1,f1'⟩:=k1;rw[e1];cases b1 with
   | true=>
    walk_at "v";rw[fdivR ⟨by decide,by decide⟩]
    walk_at "v";rw[zH,modR hlp];walk_at "v";rw[en];walk_at "v";rw[if_pos hbig];walk_at "v";have hop:ss=[]∨0<dep:=by
     by_cases z:ss=[]
     ·exact .inl z
     ·exact .inr (by have:=hp z;omega)
    have hdd:dep+1≤m:=by
     rcases f1' rfl with z|z
     ·obtain⟨zz,q1,q2,q3⟩:=hs.ex;rw[q3 z] at q2;simp at q2;omega
     ·omega
    refine⟨_,_,_,rfl,hs.open nm hop,by simp[hl],fun _ =>?_,hdd,PPo.snoc hpo (hs.open nm hop) hdd⟩
    ·by_cases z:ss=[]
     ·obtain⟨zz,e1,e2,e3⟩:=hs.ex;rw[e3 z] at e2;simp at e2;omega
     ·have:=hp z;omega
   | false=>
    have hne:ss≠[]:=by
     rcases f1 with z|z
     ·cases z
     ·exact z
    have hd1:=hp hne;walk_at "v";have k2:∃ b,(if decide (kind<6)=true then some true else some (decide (dep<2)))=some b∧(b=false→2≤dep):=by
     split
     ·exact⟨true,rfl,fun h=>by cases h⟩
     ·exact⟨_,rfl,fun h=>by have:=of_decide_eq_false h;omega⟩
    obtain⟨b2,e2,f2⟩:=k2;rw[e2];cases b2 with
    | true=>
     walk_at "v";rw[fdivR ⟨by decide,by decide⟩]
     walk_at "v";rw[modR (by decide)]
     walk_at "v";rw[et];walk_at "v";rw[if_pos hbig];exact⟨_,_,_,rfl,hs.text tx (by omega),by simp[hl],fun _=>hd1,hdm,PPo.snoc hpo (hs.text tx (by omega)) hdm⟩
    | false=>have:=f2 rfl;walk_at "v";rw[if_pos hbig];walk_at "v";exact⟨_,_,_,rfl,hs.close (by omega),by simp[hl],fun _=>by omega,by omega,PPo.snoc hpo (hs.close (by omega)) (by omega)⟩
  obtain⟨ss',dep',v6',e,hs',hl',hp',q1,q2⟩:=main;exact⟨_,_,rfl,e,⟨ss',dep',_,_,rfl,hs',hl',hp',q1,q2⟩⟩)
 rw[ef];walk_at "v";rw[zH] at hl;exact⟨ss,dep,rfl,hs,hl,hp,hdm,hpo⟩
end K05
end
noncomputable section
namespace K05
open PySem L2
theorem lc_ex {ρ:DEnv}{τ:DTg}{fe:DF}{Pr:D→Prop}:∀ {ds:List D},(∀ d∈ds,∃ ρ1 x,τ d ρ=some ρ1∧fe ρ1=some x∧Pr x)→∃ rs,lcD ρ τ tYes fe ds=some rs∧rs.length=ds.length∧∀ x∈rs,Pr x
 | [],_=>⟨[],rfl,rfl,fun x h=>by cases h⟩
 | d::ds,h=>by
  obtain⟨ρ1,x,e1,e2,px⟩:=h d zD;obtain⟨rs,er,hl,hp⟩:=lc_ex fun d hd=>h d (zB _ hd)
  refine⟨x::rs,?_,by simp[hl],fun y hy =>?_⟩
  ·simp only[lcD,e1,zA,tYes,if_true,e2,er,zT]
  ·rcases zG.mp hy with rfl|hy
   ·exact px
   ·exact hp y hy
theorem lenS {x:Str}(h:x.length≤bigE):oLen [.str x]=some (.int x.length):=by simp[oLen,h]
theorem addS {x y:Str}(h:x.length+y.length≤bigE):oAdd (.str x) (.str y)=some (.str (x++y)):=by simp[oAdd,h]
noncomputable abbrev letters:Str:=Str.ofString "abcdefghijklmnopqrstuvwxyz"
theorem letter (i:Int) (h0:0≤i) (h1:i<26):∃ c,oIx (.str letters) (.int i)=some (.str ⟨#[c]⟩):=by
 have hl:letters.length≤bigE:=by decide +kernel
 have h26:letters.cps.toList.length=26:=by decide +kernel
 obtain⟨c,ec,_⟩:=atI_pos (xs:=letters.cps.toList) h0 (by rw[h26];exact h1)
 refine⟨c,?_⟩;simp only[oIx];rw[if_pos hl,ec];rfl
theorem size_fold (g:Array Nat) (hg:g.size=0):∀ (ls:List Str) (acc:Array Nat),(∀ x∈ls,x.cps.size=1)→(ls.foldl (fun a (p:Str)=>a++g++p.cps) acc).size=acc.size+ls.length
 | [],acc,_=>by simp
 | x::ls,acc,h=>by
  rw[List.foldl_cons,size_fold g hg ls _ fun y hy=>h y (zB _ hy)]
  simp[hg,h x zD];omega
theorem fold_len (sep:Str) (hs:sep.length=0):∀ (ls:List Str) (k:Nat),(∀ x∈ls,x.length=1)→ls.foldl (fun a x=>a+x.length+sep.length) k=k+ls.length
 | [],k,_=>rfl
 | x::ls,k,h=>by
  rw[List.foldl_cons,fold_len sep hs ls _ fun y hy=>h y (zB _ hy),h x zD,hs]
  simp;omega
theorem join_ok {rs:List D}(h:∀ x∈rs,∃ c,x=.str ⟨#[c]⟩) (hl:rs.length≤100):∃ x:Str,oJoin (.str (Str.ofString "")) (.lst rs)=some (.str x)∧x.length≤100:=by
 have h1:rs.all isStrD=true:=by
  rw[List.all_eq_true];intro x hx;obtain⟨c,rfl⟩:=h x hx
  rfl
 have h2:∀ x∈rs.map strD,x.length=1:=fun x hx=>by
  obtain⟨d,hd,rfl⟩:=List.mem_map.mp hx;obtain⟨c,rfl⟩:=h d hd
  rfl
 have e0:(Str.ofString "").length=0:=by decide +kernel
 have h3:joinSz (Str.ofString "") (rs.map strD)=rs.length:=by unfold joinSz;rw[fold_len _ e0 _ _ h2];simp
 have h4:(Builtin.Str.glued (Str.ofString "") (rs.map strD)).length≤100:=by
  show ((List.drop 1 (rs.map strD)).foldl (fun acc (p:Str)=>acc++(Str.ofString "").cps++p.cps) ((rs.map strD).headD Str.empty).cps).size≤100
  rw[size_fold _ e0 _ _ fun x hx=>h2 x (List.mem_of_mem_drop hx)]
  cases rs with
  | nil=>simp;decide
  | cons d ds=>
   have:=h2 (strD d) (by simp)
   have this:(strD d).cps.size=1:=this;simp[this];simp at hl;omega
 refine⟨_,?_,h4⟩;have g1:joinSz (Str.ofString "") (rs.map strD)≤bigE:=by rw[h3,bigE_eq];omega
 have g2:(Builtin.Str.glued (Str.ofString "") (rs.map strD)).length≤bigE:=by rw[bigE_eq];omega
 simp only[oJoin];rw[if_pos (by rw[h1,decide_eq_true g1,decide_eq_true g2];rfl)]
theorem small64 {z:Int}(h0:0≤z) (h1:z≤100000) : -(2 ^ 64)<z∧z<2 ^ 64:=⟨Int.lt_of_lt_of_le (by decide) h0,Int.lt_of_le_of_lt h1 (by decide)⟩
end K05
end
noncomputable section
namespace K05
open PySem L2
noncomputable def gL_name (L:Str):DG:=
  (sSeq (sSet 2 (eK (.str L)))
  (sSeq (sSet 3 (e2 oJoin (eK (.str (Str.ofString ""))) (eF (fLC (iR1 (e2 oMod (eV 1) (eK (.int 11)))) [none,some 2,some 1] (gN 0) tYes (e2 oIx (eV 1) (e2 oMod (e2 oAdd (e2 oFdiv (eV 2) (eK (.int 150))) (e2 oMul (eV 0) (eV 0))) (eK (.int 26))))))))
  (sSeq (sSet 4 (e2 oMod (e2 oFdiv (eV 1) (eK (.int 11))) (e2 oAdd (eCall oLen (aC (eV 3) aN)) (eK (.int 1)))))
  (sRet (e2 oAdd (e2 oAdd (e2 oAdd (eSlS (eV 3) pN (pS (eV 4))) (e2 oIx (eV 2) (e2 oMod (e2 oAdd (e2 oFdiv (eV 0) (eK (.int 2))) (eV 1)) (eK (.int 26))))) (eSlS (eV 3) (pS (eV 4)) pN)) (e2 oMulS (eK (.str (Str.ofString "a"))) (e2 oMod (eV 0) (eK (.int 2)))))))))
theorem gL_eq:g_name=gL_name letters:=rfl
theorem nameL_lc (L:Str) (hL:∀ i:Int,0≤i→i<26→∃ c,oIx (.str L) (.int i)=some (.str ⟨#[c]⟩)) (draw z:Int) (z0:0≤z) (z1:z≤11):∃ c,e2 oIx (eV 1) (e2 oMod (e2 oAdd (e2 oFdiv (eV 2) (eK (.int 150))) (e2 oMul (eV 0) (eV 0))) (eK (.int 26))) [some (.int z),some (.str L),some (.int draw)]=some (.str ⟨#[c]⟩):=by
 obtain⟨c,ec⟩:=hL ((draw/150+z*z)%26) (yC _ (by decide)) (zY _ (by decide))
 refine⟨c,?_⟩;walk_at "v";rw[fdivR ⟨by decide,by decide⟩]
 walk_at "v";rw[mulL (small64 z0 (by omega))]
 walk_at "v";rw[modR (by decide)]
 walk_at "v";exact ec
theorem app1_len (a:Str) (c:Nat):(a++(⟨#[c]⟩:Str)).length=a.length+1:=by
 show (a.cps ++ #[c]).size=a.cps.size+1;simp
theorem nameL_ok (L:Str) (hL:∀ i:Int,0≤i→i<26→∃ c,oIx (.str L) (.int i)=some (.str ⟨#[c]⟩)) (k draw:Int):∃ x:Str,runD 2 5 (gL_name L) [.int k,.int draw]=some (.str x):=by
 have m0:=yC draw (show (11:Int)≠0 by decide)
 have m1:=zY draw (show (0:Int)<11 by decide)
 have e11:oMod (.int draw) (.int 11)=some (.int (draw%11)):=modR (by decide)
 generalize draw%11=md at *
 obtain⟨rs,er,hrl,hrs⟩:=lc_ex (ρ:=[none,some (.str L),some (.int draw)]) (τ:=gN 0) (fe:=e2 oIx (eV 1) (e2 oMod (e2 oAdd (e2 oFdiv (eV 2) (eK (.int 150))) (e2 oMul (eV 0) (eV 0))) (eK (.int 26)))) (Pr:=fun x=>∃ c,x=.str ⟨#[c]⟩) (ds:=rngD 0 md.toNat) fun d hd=>by
  obtain⟨j,hj⟩:=List.mem_iff_getElem?.mp hd;obtain⟨hj,rfl⟩:=rngD_get hj;have a0:(0:Int)≤0+(j:Int):=by omega
  have a1:(0:Int)+(j:Int)≤11:=by omega
  generalize (0:Int)+(j:Int)=z at a0 a1;obtain⟨c,ec⟩:=nameL_lc L hL draw z a0 a1;exact⟨_,_,rfl,ec,c,rfl⟩
 rw[rngD_len] at hrl;obtain⟨base,eb,hbl⟩:=join_ok hrs (by omega)
 obtain⟨c,ec⟩:=hL ((k/2+draw)%26) (yC _ (by decide)) (zY _ (by decide))
 have hbb:base.length≤bigE:=by rw[bigE_eq];omega
 have hlen:oLen [.str base]=some (.int base.length):=lenS hbb;have hl0:(0:Int)≤(base.length:Int):=Int.natCast_nonneg _;have hmz:(rngD 0 md.toNat).length≤bigE:=by rw[rngD_len,bigE_eq];omega
 have hr1 : -(2 ^ 62)≤md∧md<2 ^ 62:=⟨Int.le_trans (by decide) m0,Int.lt_trans m1 (by decide)⟩
 unfold gL_name;walk_at "v";rw[e11];walk_at "v";rw[if_pos hr1];walk_at "v";rw[if_pos hmz];rw[er];walk_at "v";rw[eb];walk_at "v";rw[hlen];generalize (base.length:Int)=bl at hl0;rw[fdivR ⟨by decide,by decide⟩]
 walk_at "v";rw[modR (by omega)]
 walk_at "v";generalize draw/11%(bl+1)=at_;have s1:=Txt.slice_le base none (some at_);have s2:=Txt.slice_le base (some at_) none;have l1:(⟨#[c]⟩:Str).length=1:=rfl;have lm:∃ x:Str,oMulS (.str (Str.ofString "a")) (.int (k%2))=some (.str x)∧x.length≤1:=by
  have h0:=yC k (show (2:Int)≠0 by decide)
  have h1:=zY k (show (0:Int)<2 by decide)
  have h2:k%2=0∨k%2=1:=by omega
  rcases h2 with h2|h2
  ·rw[h2];exact⟨Str.empty,rfl,by decide⟩
  ·rw[h2];exact⟨Str.ofString "a",rfl,by decide⟩
 obtain⟨tx,etx,ltx⟩:=lm;rw[if_pos hbb,fdivR ⟨by decide,by decide⟩]
 walk_at "v";rw[modR (by decide)]
 walk_at "v";rw[ec];walk_at "v";rw[addS (by rw[l1,bigE_eq];omega)]
 walk_at "v";rw[if_pos hbb];walk_at "v";rw[addS (by rw[app1_len,bigE_eq];omega)]
 walk_at "v";rw[modR (by decide)]
 walk_at "v";rw[etx];walk_at "v";have s3:∀ a b:Str,(a++b).length=a.length+b.length:=fun a b=>by show (a.cps++b.cps).size=_;simp;rfl
 rw[addS (by rw[s3,app1_len,bigE_eq];omega)]
 exact⟨_,rfl⟩
theorem name_ok (k draw:Int):∃ x:Str,F_name [.int k,.int draw]=some (.str x):=by
 unfold F_name;rw[gL_eq];exact nameL_ok letters letter k draw
theorem names_ok (draw:Int):∃ nms:List Str,F_names [.int draw]=some (nms.map D.str)∧1≤nms.length∧nms.length≤4:=by
 have m0:=yC (draw/7) (show (4:Int)≠0 by decide)
 have m1:=zY (draw/7) (show (0:Int)<4 by decide)
 have e1:oMod (.int (draw/7)) (.int 4)=some (.int (draw/7%4)):=modR (by decide)
 generalize draw/7%4=md at *
 obtain⟨rs,er,hrl,hrs⟩:=lc_ex (ρ:=[none,some (.int draw)]) (τ:=gN 0) (fe:=eCall F_name (aC (eV 0) (aC (eV 1) aN))) (Pr:=fun x=>∃ c,x=.str c) (ds:=rngD 0 (1+md).toNat) fun d hd=>by obtain⟨j,hj⟩:=List.mem_iff_getElem?.mp hd;obtain⟨hj,rfl⟩:=rngD_get hj;generalize (0:Int)+(j:Int)=z;obtain⟨x,ex⟩:=name_ok z draw;refine⟨_,.str x,rfl,?_,x,rfl⟩;walk_at "v";exact ex
 rw[rngD_len] at hrl;have hmz:(rngD 0 (1+md).toNat).length≤bigE:=by rw[rngD_len,bigE_eq];omega
 have hr1 : -(2 ^ 62)≤1+md∧1+md<2 ^ 62:=⟨Int.le_trans (by decide) (show 0≤1+md by omega),Int.lt_of_le_of_lt (show 1+md≤4 by omega) (by decide)⟩
 have hm:∃ nms:List Str,rs=nms.map D.str:=by
  clear er hrl
  induction rs with
  | nil=>exact⟨[],rfl⟩
  | cons d ds ih=>
   obtain⟨c,rfl⟩:=hrs d zD;obtain⟨nms,rfl⟩:=ih fun x hx=>hrs x (zB _ hx)
   exact⟨c::nms,rfl⟩
 obtain⟨nms,rfl⟩:=hm;refine⟨nms,?_,by simp at hrl;omega,by simp at hrl;omega⟩
 unfold F_names g_names;walk_at "v";rw[fdivR ⟨by decide,by decide⟩]
 walk_at "v";rw[e1];walk_at "v";rw[if_pos hr1];walk_at "v";rw[if_pos hmz,er]
 rfl
end K05
end
noncomputable section
namespace K05
open PySem L2
local macro_rules | `(tactic| walk_at "m") => `(tactic| simp only [runM, startD, sSeq, sSet, sSetO, sIf, sNil, lstAt, e2, eV, eK, eF, eLst, eTup, eCall, fCall, aC, aN, tB1, tAndD, tOrD, tNotD, iL, iR1, srcρ, sSetM, sRetM, sRetMO, sAppM, sForM, iRM, m2, mP, mAN, mAC, mTup, mCall, mLC, outM,
  List.length_cons, List.length_nil, List.map_cons, List.map_nil, List.cons_append, List.nil_append, List.replicate, List.getElem?_cons_zero, List.getElem?_cons_succ, List.getElem?_nil, Option.join_some, Option.join_none, Option.bind_some, Option.map_some, Option.getD_some, addI, subI, eqI, eqB, eqS, ltI, gtI, geI, ixL, ixT, lenL, lenT,
  List.set_cons_zero, List.set_cons_succ, if_true, if_false, Bool.false_eq_true, Nat.reduceAdd, Nat.reduceSub, Nat.reduceLeDiff])
theorem lcM_ex {ρ:DEnv}{τ:DTg}{fe:DM}{i0:Nat}{Pr:D→Prop}:∀ {ds:List D}(xs:List Int),(∀ d∈ds,∀ xs:List Int,∃ (ρ1:DEnv) (x:D) (ρ2:DEnv) (xs':List Int),τ d (ρ.set i0 (some (.lst (xs.map D.int))))=some ρ1∧fe ρ1=some (x,ρ2)∧lstAt i0 ρ2=some (xs'.map D.int)∧Pr x)→∃ rs xs',lcM ρ τ fe i0 ds (xs.map D.int)=some (rs,List.map D.int xs')∧rs.length=ds.length∧∀ x∈rs,Pr x
 | [],xs,_=>⟨[],xs,rfl,rfl,fun x h=>by cases h⟩
 | d::ds,xs,h=>by
  obtain⟨ρ1,x,ρ2,xs1,e1,e2,e3,px⟩:=h d zD xs;obtain⟨rs,xs',er,hl,hp⟩:=lcM_ex (ds:=ds) xs1 fun d hd=>h d (zB _ hd)
  refine⟨x::rs,xs',?_,by simp[hl],fun y hy =>?_⟩
  ·simp only[lcM,e1,zA,e2,e3,er,zT]
  ·rcases zG.mp hy with rfl|hy
   ·exact px
   ·exact hp y hy
noncomputable abbrev qA (xs:List Int) (nms:List Str) (dp:Int):List D:=[.lst (xs.map D.int),.lst (nms.map D.str),.int dp]
theorem wish_step (Fw Fs:List D→Option (D×List D)) (n:Nat) (dp:Int) (hdp:dp=n) (nms:List Str)
  (hs:∀ m,n=m+1→∀ xs:List Int,∃ (ss:List D) (xs':List Int),Fs (qA xs nms (dp-1))=some (.lst ss,xs'.map D.int)∧1≤ss.length∧ss.length≤3∧∀ s∈ss,WfS m s)
  (hw:∀ m,n=m+1→∀ xs:List Int,∃ (w:D) (xs':List Int),Fw (qA xs nms (dp-1))=some (w,xs'.map D.int)∧WfW m w)
  (xs:List Int):∃ (w:D) (xs':List Int),runM 3 6 0 (g_wish Fw Fs) (qA xs nms dp)=some (w,xs'.map D.int)∧WfW n w:=by
 have q0:=yC (popZ xs) (show (8:Int)≠0 by decide)
 have q1:=zY (popZ xs) (show (0:Int)<8 by decide)
 have e8:oMod (.int (popZ xs)) (.int 8)=some (.int (popZ xs%8)):=modR (by decide)
 have f8:oFdiv (.int (popZ xs)) (.int 8)=some (.int (popZ xs/8)):=fdivR ⟨by decide,by decide⟩
 have hpop:=pop_ok xs;generalize popZ xs=num at *
 generalize num%8=kd at *
 generalize num/8=nd at *
 unfold g_wish;walk_at "m";rw[hpop];walk_at "m";rw[e8];walk_at "m";by_cases k2:kd=2∨kd=3
 ·have:(if (kd==2)=true then some true else some (kd==3))=some true:=by rcases k2 with rfl|rfl<;>rfl
  rw[this];walk_at "m";rw[f8];walk_at "m";obtain⟨x,ex⟩:=text_ok nd;rw[ex];walk_at "m";exact⟨_,xs.dropLast,rfl,WfW.text _ x⟩
 ·have:(if (kd==2)=true then some true else some (kd==3))=some false:=by
   have a:(kd==2)=false:=by simp;exact fun z=>k2 (.inl z)
   have b:(kd==3)=false:=by simp;exact fun z=>k2 (.inr z)
   rw[a,b];rfl
  rw[this];walk_at "m";by_cases k1:kd<2∨dp=0
  ·have:(if decide (kd<2)=true then some true else some (dp==0))=some true:=by
    by_cases a:kd<2
    ·rw[decide_eq_true a];rfl
    ·rw[decide_eq_false a];rcases k1 with z|z
     ·exact absurd z a
     ·rw[z];rfl
   rw[this];walk_at "m";exact⟨_,xs.dropLast,rfl,WfW.any _⟩
  ·have:(if decide (kd<2)=true then some true else some (dp==0))=some false:=by
    have a:¬ kd<2:=fun z=>k1 (.inl z)
    have b:(dp==0)=false:=by simp;exact fun z=>k1 (.inr z)
    rw[decide_eq_false a,b];rfl
   rw[this];walk_at "m";obtain⟨m,hm⟩:∃ m,n=m+1:=by
    cases n with
    | zero=>exact absurd (.inr (by rw[hdp];rfl)) k1
    | succ m=>exact⟨m,rfl⟩
   subst hm;by_cases k6:kd<6
   ·rw[decide_eq_true k6];walk_at "m";obtain⟨ss,xs',es,l0,l1,hss⟩:=hs m rfl xs.dropLast;simp only[qA] at es;rw[es];walk_at "m";exact⟨_,xs',rfl,.inr (.inr (.inl ⟨ss,rfl,l0,l1,hss⟩))⟩
   ·rw[decide_eq_false k6];walk_at "m";rw[f8];walk_at "m";rw[modR (by decide)]
    walk_at "m";have r0:=yC nd (show (4:Int)≠0 by decide)
    have r1:=zY nd (show (0:Int)<4 by decide)
    generalize nd%4=md at *
    obtain⟨mn,em,m0,m1⟩:∃ mn:Int,atI [D.int 2,D.int 1,D.int 0,D.int 3] md=some (.int mn)∧0≤mn∧mn≤3:=by
     have:md=0∨md=1∨md=2∨md=3:=by omega
     rcases this with rfl|rfl|rfl|rfl
     ·exact⟨2,rfl,by decide,by decide⟩
     ·exact⟨1,rfl,by decide,by decide⟩
     ·exact⟨0,rfl,by decide,by decide⟩
     ·exact⟨3,rfl,by decide,by decide⟩
    rw[em];walk_at "m";obtain⟨kn,ek,hk⟩:∃ kn:Str,atI [D.str (Str.ofString "both"),D.str (Str.ofString "one")] (kd-6)=some (.str kn)∧(kn=sBoth∨kn=sOne):=by
     have:kd=6∨kd=7:=by omega
     rcases this with rfl|rfl
     ·exact⟨_,rfl,.inl rfl⟩
     ·exact⟨_,rfl,.inr rfl⟩
    rw[ek];walk_at "m";have hr1 : -(2 ^ 62)≤mn∧mn<2 ^ 62:=⟨Int.le_trans (by decide) m0,Int.lt_of_le_of_lt m1 (by decide)⟩
    rw[if_pos hr1];walk_at "m";have hz:(rngD 0 mn.toNat).length≤bigE:=by rw[rngD_len,bigE_eq];omega
    rw[if_pos hz];obtain⟨ws,xs',el,hl,hws⟩:=lcM_ex (ρ:=[none,some (.lst (xs.dropLast.map D.int)),some (.lst (nms.map D.str)),some (.int dp)]) (τ:=gN 0) (fe:=mCall Fw 1 (aC (eV 2) (aC (e2 oSub (eV 3) (eK (.int 1))) aN))) (i0:=1) (Pr:=WfW m) (ds:=rngD 0 mn.toNat) xs.dropLast fun d _ ys=>by obtain⟨w,ys',ew,hww⟩:=hw m rfl ys;simp only[qA] at ew;refine⟨_,w,[some d,some (.lst (ys'.map D.int)),some (.lst (nms.map D.str)),some (.int dp)],ys',rfl,?_,rfl,hww⟩;walk_at "m";rw[ew];walk_at "m"
    rw[el];walk_at "m";rw[rngD_len] at hl;refine⟨_,xs',rfl,?_⟩;rcases hk with rfl|rfl
    ·exact .inr (.inr (.inr (.inl ⟨ws,rfl,by omega,hws⟩)))
    ·exact .inr (.inr (.inr (.inr ⟨ws,rfl,by omega,hws⟩)))
theorem steps_step (Fw Fs:List D→Option (D×List D)) (n:Nat) (dp:Int) (nms:List Str) (hn:nms.length≤100)
  (hw:∀ xs:List Int,∃ (w:D) (xs':List Int),Fw (qA xs nms dp)=some (w,xs'.map D.int)∧WfW n w)
  (xs:List Int):∃ (ss:List D) (xs':List Int),runM 3 7 0 (g_steps Fw Fs) (qA xs nms dp)=some (.lst ss,xs'.map D.int)∧1≤ss.length∧ss.length≤3∧∀ s∈ss,WfS n s:=by
 have r0:=yC (popZ xs) (show (4:Int)≠0 by decide)
 have r1:=zY (popZ xs) (show (0:Int)<4 by decide)
 have e4:oMod (.int (popZ xs)) (.int 4)=some (.int (popZ xs%4)):=modR (by decide)
 have hpop:=pop_ok xs;generalize popZ xs=num at *
 generalize num%4=md at *
 obtain⟨mn,em,m0,m1⟩:∃ mn:Int,atI [D.int 1,D.int 1,D.int 2,D.int 3] md=some (.int mn)∧1≤mn∧mn≤3:=by
  have:md=0∨md=1∨md=2∨md=3:=by omega
  rcases this with rfl|rfl|rfl|rfl
  ·exact⟨1,rfl,by decide,by decide⟩
  ·exact⟨1,rfl,by decide,by decide⟩
  ·exact⟨2,rfl,by decide,by decide⟩
  ·exact⟨3,rfl,by decide,by decide⟩
 have hr1 : -(2 ^ 62)≤mn∧mn<2 ^ 62:=⟨Int.le_trans (by decide) m0,Int.lt_of_le_of_lt m1 (by decide)⟩
 unfold g_steps;walk_at "m";rw[hpop];walk_at "m";rw[e4];walk_at "m";rw[em];walk_at "m";rw[if_pos hr1];walk_at "m";have hl0:(0:Int)≤(nms.length:Int):=Int.natCast_nonneg _;obtain⟨ρ',ef,ys,ss,v4,v5,v6,rfl,hl,hss⟩:=for_inv0 (τ:=gN 4) (g:=b_steps_1 Fw Fs) (ds:=rngD 0 mn.toNat) (fun i ρ=>∃ (ys:List Int) (ss:List D) (v4 v5 v6:Option D),ρ=[some (.lst (ys.map D.int)),some (.lst (nms.map D.str)),some (.int dp),some (.lst ss),v4,v5,v6]∧ss.length=i∧∀ s∈ss,WfS n s)
  (ρ:=[some (.lst (xs.dropLast.map D.int)),some (.lst (nms.map D.str)),some (.int dp),some (.lst []),none,none,none]) ⟨xs.dropLast,[],none,none,none,rfl,rfl,fun s h=>(by cases h)⟩ (by
  rintro j d ρ hd ⟨ys,ss,v4,v5,v6,rfl,hl,hss⟩;have hj:j<mn.toNat:=by have:=(zC.mp hd).1;rw[rngD_len] at this;exact this
  have hpop:=pop_ok ys;generalize popZ ys=num at *
  obtain⟨w,zs,ew,hww⟩:=hw ys.dropLast;simp only[qA] at ew;have hlen:((nms.map D.str++[D.str (Str.ofString "*")]).length:Int)=(nms.length:Int)+1:=by simp
  have t0:=yC (num/2) (show (nms.length:Int)+1≠0 by omega)
  have t1:=zY (num/2) (show (0:Int)<(nms.length:Int)+1 by omega)
  obtain⟨nm,en,_⟩:=atI_str (xs:=nms++[Str.ofString "*"]) (z:=num/2%((nms.length:Int)+1)) t0 (by simpa using t1)
  rw[List.map_append] at en;obtain⟨wy,ey,hy⟩:∃ wy:Str,atI [D.str (Str.ofString "inner"),D.str (Str.ofString "own")] (num%2)=some (.str wy)∧(wy=sInner∨wy=sOwn):=by
   have:num%2=0∨num%2=1:=by omega
   rcases this with z|z
   ·rw[z];exact⟨_,rfl,.inl rfl⟩
   ·rw[z];exact⟨_,rfl,.inr rfl⟩
  refine⟨_,[some (.lst (zs.map D.int)),some (.lst (nms.map D.str)),some (.int dp),some (.lst (ss++[stepD wy nm w])),some d,some (.int num),some (.str nm)],rfl,?_,zs,ss++[stepD wy nm w],some d,some (.int num),some (.str nm),rfl,by simp[hl],fun s hs =>?_⟩
  ·unfold b_steps_1;walk_at "m";rw[hpop];walk_at "m";rw[fdivR ⟨by decide,by decide⟩]
   walk_at "m";have hadd:oAdd (.lst (nms.map D.str)) (.lst [.str (Str.ofString "*")])=some (.lst (nms.map D.str++[.str (Str.ofString "*")])):=by simp only[oAdd];rw[if_pos (by simp[bigE_eq];omega)]
   rw[hadd];walk_at "m";rw[zH];rw[modR (by omega)]
   walk_at "m";rw[show atI (nms.map D.str++[D.str (Str.ofString "*")]) (num/2%((nms.length:Int)+1))=some (.str nm) from en]
   walk_at "m";rw[modR (by decide)]
   walk_at "m";rw[ey];walk_at "m";rw[ew];walk_at "m";rw[if_pos (by rw[bigE_eq];omega)]
  ·rcases zO.mp hs with hs|hs
   ·exact hss s hs
   ·have:s=stepD wy nm w:=by simpa using hs
    exact⟨wy,nm,w,this,hy,hww⟩)
 rw[ef];walk_at "m";rw[rngD_len] at hl;exact⟨ss,ys,rfl,by omega,by omega,hss⟩
theorem wish_steps_ok (nms:List Str) (hn:nms.length≤100):∀ (n:Nat),
  (∀ (fuel:Nat) (xs:List Int),2*n+1≤fuel→∃ (w:D) (xs':List Int),Fr_wish fuel (qA xs nms (n:Int))=some (w,xs'.map D.int)∧WfW n w) ∧
  (∀ (fuel:Nat) (xs:List Int),2*n+2≤fuel→∃ (ss:List D) (xs':List Int),Fr_steps fuel (qA xs nms (n:Int))=some (.lst ss,xs'.map D.int)∧1≤ss.length∧ss.length≤3∧∀ s∈ss,WfS n s):=by
 intro n;have hst:∀ (k:Nat),(∀ (fuel:Nat) (xs:List Int),2*k+1≤fuel→∃ (w:D) (xs':List Int),Fr_wish fuel (qA xs nms (k:Int))=some (w,xs'.map D.int)∧WfW k w)→(∀ (fuel:Nat) (xs:List Int),2*k+2≤fuel→∃ (ss:List D) (xs':List Int),Fr_steps fuel (qA xs nms (k:Int))=some (.lst ss,xs'.map D.int)∧1≤ss.length∧ss.length≤3∧∀ s∈ss,WfS k s):=by
  intro k hk fuel xs hf;cases fuel with
  | zero=>omega
  | succ f=>rw[Fr_steps];exact steps_step (Fr_wish f) (Fr_steps f) k (k:Int) nms hn (fun ys=>hk f ys (by omega)) xs
 induction n with
 | zero=>
  have h1:∀ (fuel:Nat) (xs:List Int),2*0+1≤fuel→∃ (w:D) (xs':List Int),Fr_wish fuel (qA xs nms ((0:Nat):Int))=some (w,xs'.map D.int)∧WfW 0 w:=by
   intro fuel xs hf;cases fuel with
   | zero=>omega
   | succ f=>rw[Fr_wish];exact wish_step (Fr_wish f) (Fr_steps f) 0 _ rfl nms (fun m h=>by cases h) (fun m h=>by cases h) xs
  exact⟨h1,hst 0 h1⟩
 | succ m ih=>
  have h1:∀ (fuel:Nat) (xs:List Int),2*(m+1)+1≤fuel→∃ (w:D) (xs':List Int),Fr_wish fuel (qA xs nms ((m+1:Nat):Int))=some (w,xs'.map D.int)∧WfW (m+1) w:=by
   intro fuel xs hf;cases fuel with
   | zero=>omega
   | succ f=>
    rw[Fr_wish];have e:((m+1:Nat):Int)-1=(m:Int):=by omega
    refine wish_step (Fr_wish f) (Fr_steps f) (m+1) _ rfl nms (fun k h ys =>?_) (fun k h ys =>?_) xs
    ·cases h;rw[e];exact ih.2 f ys (by omega)
    ·cases h;rw[e];exact ih.1 f ys (by omega)
  exact⟨h1,hst (m+1) h1⟩
theorem steps_ok (nms:List Str) (hn:nms.length≤100) (xs:List Int):∃ (ss:List D) (xs':List Int),F_steps (qA xs nms 2)=some (.lst ss,xs'.map D.int)∧1≤ss.length∧ss.length≤3∧∀ s∈ss,WfS 2 s:=
 (wish_steps_ok nms hn 2).2 12 xs (by decide)
end K05
end
noncomputable section
namespace K05
open PySem L2
theorem pop_eq {a b v:Option D}{r:List D}{d:D}:sPop 3 2 [a,b,some (.lst (r++[d])),v]=some (.nx [a,b,some (.lst r),some d]):=by
 unfold sPop;walk_at "v";simp
theorem body_non {a v:Option D}{r out:List D}(h:out.length<bigE):b_signs_of_1 [a,some (.lst out),some (.lst (r++[.non])),v]=some (.nx [a,some (.lst (out++[sgC])),some (.lst r),some .non]):=by
 unfold b_signs_of_1;rw[sSeq_nx pop_eq];walk_at "v";simp only[oIsN];walk_at "v";rw[if_pos h];rfl
theorem body_txt {a v:Option D}{r out:List D}{x:Str}(h:out.length<bigE):b_signs_of_1 [a,some (.lst out),some (.lst (r++[.str x])),v]=some (.nx [a,some (.lst (out++[sgT x])),some (.lst r),some (.str x)]):=by
 unfold b_signs_of_1;rw[sSeq_nx pop_eq];walk_at "v";simp only[oIsN];walk_at "v";rw[if_pos (show isT "str" (.str x)=true from rfl)]
 rw[if_pos h];rfl
theorem body_prt {a v:Option D}{r out its:List D}{x:Str}(h:out.length<bigE) (h':r.length+1+its.length≤bigE) :
  b_signs_of_1 [a,some (.lst out),some (.lst (r++[.tup [.str x,.lst its]])),v]=some (.nx [a,some (.lst (out++[sgO x])),some (.lst ((its ++ .non::r.reverse).reverse)),some (.tup [.str x,.lst its])]):=by
 have h2:r.length<bigE:=by omega
 unfold b_signs_of_1;rw[sSeq_nx pop_eq];walk_at "v";simp only[oIsN];walk_at "v";rw[if_neg (show ¬ (isT "str" (.tup [.str x,.lst its])=true) from fun z=>by have z:(("str" : String) == "tuple")=true:=z;revert z;decide)]
 rw[show atI [D.str x,D.lst its] 0=some (.str x) from rfl]
 walk_at "v";rw[if_pos h];walk_at "v";rw[if_pos h2];unfold sExtend;walk_at "v";simp only[fRev];walk_at "v";rw[show atI [D.str x,D.lst its] 1=some (.lst its) from rfl]
 walk_at "v";rw[if_pos (by simp;omega)]
 simp[sOpen]
theorem while_ok (p:D):∀ (n:Nat) (st ss out:List D) (v:Option D),Sgs st ss→ss.length<n→out.length+ss.length≤1000 →
  ∃ v',whileD (tTru (eV 2)) b_signs_of_1 n [some p,some (.lst out),some (.lst st.reverse),v]=some (.nx [some p,some (.lst (out++ss)),some (.lst []),v'])
 | 0,st,ss,out,v,h,hn,_=>absurd hn (Nat.not_lt_zero _)
 | n+1,st,ss,out,v,h,hn,hl=>by
  have hb:bigE=1000000:=bigE_eq;have hsl:=h.len;cases h with
  | nil=>refine⟨v,?_⟩;unfold whileD;walk_at "v";simp
  | @txt x ds ts h=>
   simp only[zP] at hn hl hsl;obtain⟨v',e⟩:=while_ok p n ds ts (out++[sgT x]) (some (.str x)) h (by omega) (by simp;omega)
   refine⟨v',?_⟩;unfold whileD;rw[List.reverse_cons,show tTru (eV 2) [some p,some (.lst out),some (.lst (ds.reverse++[.str x])),v]=some true from by walk_at "v";simp]
   simp only[zA,if_true];rw[body_txt (by omega)]
   simp only[zA];rw[e];simp
  | @non ds ts h=>
   simp only[zP] at hn hl hsl;obtain⟨v',e⟩:=while_ok p n ds ts (out++[sgC]) (some .non) h (by omega) (by simp;omega)
   refine⟨v',?_⟩;unfold whileD;rw[List.reverse_cons,show tTru (eV 2) [some p,some (.lst out),some (.lst (ds.reverse++[.non])),v]=some true from by walk_at "v";simp]
   simp only[zA,if_true];rw[body_non (by omega)]
   simp only[zA];rw[e];simp
  | @prt nm its ss ds ts h1 h2=>
   have l1:=h1.len;have l2:=h2.len;simp only[zP,List.length_append] at hn hl hsl;obtain⟨v',e⟩:=while_ok p n (its ++ .non::ds) (ss++sgC::ts) (out++[sgO nm]) (some (.tup [.str nm,.lst its])) (h1.append (.non h2)) (by simp;omega) (by simp;omega)
   refine⟨v',?_⟩;unfold whileD;rw[List.reverse_cons,show tTru (eV 2) [some p,some (.lst out),some (.lst (ds.reverse++[.tup [.str nm,.lst its]])),v]=some true from by walk_at "v";simp]
   simp only[zA,if_true];rw[body_prt (by omega) (by simp;omega)]
   simp only[zA];rw[List.reverse_reverse,e];simp
theorem signs_of_ok (d:D) (ss:List D) (h:Sgs [d] ss) (hl:ss.length≤1000):F_signs_of [d]=some ss:=by
 obtain⟨v',e⟩:=while_ok d 1000000 [d] ss [] none h (by omega) (by simpa using hl)
 have e:whileD (tTru (eV 2)) b_signs_of_1 1000000 [some d,some (.lst []),some (.lst [d]),none]=some (.nx [some d,some (.lst ss),some (.lst []),v']):=by simpa using e
 unfold F_signs_of g_signs_of;walk_at "v";unfold sWhile;rw[e];walk_at "v"
end K05
end
noncomputable section
namespace K05
open PySem L2
noncomputable abbrev mk (bs:List Bool):List D:=bs.map D.bl
theorem atN {α:Type}{xs:List α}{i:Nat}{x:α}(h:xs[i]?=some x):atI xs (i:Int)=some x:=by
 have hl:=(zC.mp h).1;unfold atI ixN;rw[if_pos (Int.natCast_nonneg _),if_pos (by exact_mod_cast hl)]
 simpa using h
theorem zip_lc {as bs:List Bool}:∀ {n:Nat},lcD [none,none] (gN2 0 1) tYes (eAnd (eV 0) (eV 1)) (zipD (mk as) (mk bs))=some (mk (List.zipWith (· && ·) as bs)):=by
 intro _
 induction as generalizing bs with
 | nil=>rfl
 | cons a as ih=>
  cases bs with
  | nil=>rfl
  | cons b bs=>show lcD [none,none] (gN2 0 1) tYes (eAnd (eV 0) (eV 1)) (.tup [.bl a,.bl b]::zipD (mk as) (mk bs))=_;simp only[lcD];rw[ih];cases a<;>rfl
theorem both_ok (as bs:List Bool) (h:as.length≤1000):F_both_marks [.lst (mk as),.lst (mk bs)]=some (mk (List.zipWith (· && ·) as bs)):=by
 unfold F_both_marks g_both_marks;walk_at "v";simp only[iZ];walk_at "v";rw[if_pos (by rw[zipD_len,bigE_eq];simp;omega)]
 rw[zip_lc (n:=0)]
 rfl
theorem tr_zip {as bs:List Bool}{i:Nat}:Tr (List.zipWith (· && ·) as bs) i↔Tr as i∧Tr bs i:=by
 show (List.zipWith (· && ·) as bs)[i]?=some true↔_;rw[List.getElem?_zipWith];cases ha:as[i]? with
 | none=>simp[Tr,ha]
 | some a=>
  cases hb:bs[i]? with
  | none=>simp[Tr,hb]
  | some b=>simp[Tr,ha,hb]
theorem lay_names (y:Ly) (ρ:DEnv) (i:Nat) (h:eV i ρ=some (lyD "Layout" y)):eFld "Layout" "names" (eV i) ρ=some (.lst y.names):=by
 unfold eFld;rw[h];rfl
theorem lay_parents (y:Ly) (ρ:DEnv) (i:Nat) (h:eV i ρ=some (lyD "Layout" y)):eFld "Layout" "parents" (eV i) ρ=some (.lst (y.pars.map D.int)):=by
 unfold eFld;rw[h];rfl
theorem lay_texts (y:Ly) (ρ:DEnv) (i:Nat) (h:eV i ρ=some (lyD "Layout" y)):eFld "Layout" "texts" (eV i) ρ=some (.lst (y.texts.map D.lst)):=by
 unfold eFld;rw[h];rfl
theorem par_at {y:Ly}{i:Nat}{p:Int}(h:y.pars[i]?=some p):atI (y.pars.map D.int) (i:Int)=some (.int p):=atN (by rw[zM,h];rfl)
theorem mk_at {bs:List Bool}{i:Nat}(h:i<bs.length):∃ b,bs[i]?=some b∧atI (mk bs) (i:Int)=some (.bl b):=
 ⟨bs[i],zI h,atN (by rw[zM,zI h];rfl)⟩
theorem ixN_nat {n i:Nat}(h:i<n):ixN n (i:Int)=some i:=by
 unfold ixN;rw[if_pos (Int.natCast_nonneg _),if_pos (by exact_mod_cast h)]
 simp
theorem false_lc (ms:List D):lcD [none] (gN 0) tYes (eK (.bl false)) ms=some (mk (List.replicate ms.length false)):=by
 induction ms with
 | nil=>rfl
 | cons d ds ih=>simp only[lcD,gN,tYes,eK,zA,if_true];rw[ih];rfl
theorem tr_set {bs:List Bool}{n i:Nat}{b:Bool}(h:n<bs.length):Tr (bs.set n b) i↔(if n=i then b=true else Tr bs i):=by
 show (bs.set n b)[i]?=some true↔_;by_cases e:n=i
 ·subst e;rw[List.getElem?_set_self h,if_pos rfl];simp
 ·rw[zK e,if_neg e]
theorem mk_set (bs:List Bool) (n:Nat) (b:Bool):(mk bs).set n (.bl b)=mk (bs.set n b):=by simp[mk,List.map_set]
theorem iR2_eq {f g:DF}{ρ:DEnv}{i j:Int}(e1:f ρ=some (.int i)) (e2:g ρ=some (.int j)) (h : -(2 ^ 62)≤i∧i<2 ^ 62 ∧ -(2 ^ 62)≤j∧j<2 ^ 62):iR2 f g ρ=some (rngD i (j-i).toNat):=by
 simp only[iR2,e1,e2,zA];rw[if_pos h]
theorem iR3_eq {f g:DF}{ρ:DEnv}{i j:Int}(e1:f ρ=some (.int i)) (e2:g ρ=some (.int j)) (h : -(2 ^ 62)≤i∧i<2 ^ 62 ∧ -(2 ^ 62)≤j∧j<2 ^ 62):iR3 f g ρ=some (dwnD i (i-j).toNat):=by
 simp only[iR3,e1,e2,zA];rw[if_pos h]
theorem sFor_eq {f:DL}{τ:DTg}{g:DG}{ρ ρ':DEnv}{ds:List D}(e:f ρ=some ds) (h:forD τ g ds ρ=some (.nx ρ')):sFor f τ g ρ=some (.nx ρ'):=by
 simp only[sFor,e,zA,h]
theorem sSetO_eq {i:Nat}{f:DL}{ρ:DEnv}{ds:List D}(e:f ρ=some ds):sSetO i f ρ=some (.nx (ρ.set i (some (.lst ds)))):=by simp only[sSetO,e,zT]
theorem iL_eq {f:DF}{ρ:DEnv}{ds:List D}(e:f ρ=some (.lst ds)):iL f ρ=some ds:=by simp only[iL,e,zA]
theorem runO_eq {n N:Nat}{g:DG}{ds:List D}{o:DO}{rs:List D}(hn:ds.length=n) (e:g (startD N ds)=some o) (ho:outO o=some rs):runO n N g ds=some rs:=by
 unfold runO;rw[if_pos hn,e];exact ho
theorem below_ok {y:Ly}(h:LW y) (hN:y.names.length≤1000) (way:Str) (ms:List Bool) (hm:ms.length=y.names.length):∃ bs,F_below_marks [lyD "Layout" y,.str way,.lst (mk ms)]=some (mk bs)∧bs.length=ms.length∧∀ i,Tr bs i↔∃ k,Reach y way k i∧Tr ms k:=by
 have hlt:(ms.length:Int)≤1000:=by omega
 have hl0:(0:Int)≤(ms.length:Int):=Int.natCast_nonneg _;have hr : -(2 ^ 62)≤(1:Int)∧(1:Int)<2 ^ 62 ∧ -(2 ^ 62)≤(ms.length:Int)∧(ms.length:Int)<2 ^ 62:=⟨by decide,by decide,Int.le_trans (by decide) hl0,Int.lt_of_le_of_lt hlt (by decide)⟩
 have hn:(((ms.length:Int))-1).toNat=ms.length-1:=by omega
 obtain⟨ρ',ef,bs,v4,v5,rfl,hb,hsp⟩:=for_inv0 (τ:=gN 4) (g:=b_below_marks_1) (ds:=rngD 1 (ms.length-1)) (fun j ρ=>∃ (bs:List Bool) (v4 v5:Option D),ρ=[some (lyD "Layout" y),some (.str way),some (.lst (mk ms)),some (.lst (mk bs)),v4,v5]∧bs.length=ms.length∧∀ i,Tr bs i↔i<j+1∧∃ k,Child y k i∧(Tr ms k∨(way=sInner∧Tr bs k)))
  (ρ:=[some (lyD "Layout" y),some (.str way),some (.lst (mk ms)),some (.lst (mk (List.replicate (mk ms).length false))),none,none])
  ⟨List.replicate (mk ms).length false,none,none,rfl,by simp,fun i=>by
   constructor
   ·intro t;have t:(List.replicate (mk ms).length false)[i]?=some true:=t;rw[List.getElem?_replicate] at t
    split at t<;>cases t
   ·rintro⟨hi,k,c,_⟩;have:=c.lt h;omega⟩ (by
  rintro j d ρ hd ⟨bs,v4,v5,rfl,hb,hsp⟩;obtain⟨hj,rfl⟩:=rngD_get hd;have hz:(1:Int)+(j:Int)=((j+1:Nat):Int):=by omega
  rw[hz];obtain⟨k,p,hc,hp,hpk,hk⟩:=Child.of h (i:=j+1) (by omega) (by omega)
  obtain⟨mb,hmb,emb⟩:=mk_at (bs:=ms) (i:=k) (by omega)
  obtain⟨bb,hbb,ebb⟩:=mk_at (bs:=bs) (i:=k) (by omega)
  have body:b_below_marks_1 [some (lyD "Layout" y),some (.str way),some (.lst (mk ms)),some (.lst (mk bs)),some (.int ((j+1:Nat):Int)),v5]=some (.nx [some (lyD "Layout" y),some (.str way),some (.lst (mk ms)),some (.lst (mk (bs.set (j+1) (mb||(way==sInner&&bb))))),some (.int ((j+1:Nat):Int)),some (.int p)]):=by
   unfold b_below_marks_1;have e1:e2 oIx (eFld "Layout" "parents" (eV 0)) (eV 4) [some (lyD "Layout" y),some (.str way),some (.lst (mk ms)),some (.lst (mk bs)),some (.int ((j+1:Nat):Int)),v5]=some (.int p):=by
    rw[e2_eq (lay_parents y _ 0 rfl) (show eV 4 _=some (.int ((j+1:Nat):Int)) from rfl)]
    exact par_at hp
   rw[sSeq_nx (sSet_eq e1)];subst hpk;have emb':e2 oIx (eV 2) (eV 5) [some (lyD "Layout" y),some (.str way),some (.lst (mk ms)),some (.lst (mk bs)),some (.int ((j+1:Nat):Int)),some (.int (k:Int))]=some (.bl mb):=emb;have ebb':e2 oIx (eV 3) (eV 5) [some (lyD "Layout" y),some (.str way),some (.lst (mk ms)),some (.lst (mk bs)),some (.int ((j+1:Nat):Int)),some (.int (k:Int))]=some (.bl bb):=ebb;have ew:e2 oEq (eV 1) (eK (.str (Str.ofString "inner"))) [some (lyD "Layout" y),some (.str way),some (.lst (mk ms)),some (.lst (mk bs)),some (.int ((j+1:Nat):Int)),some (.int (k:Int))]=some (.bl (way==sInner)):=rfl;have ev:eOr (e2 oIx (eV 2) (eV 5)) (eAnd (e2 oEq (eV 1) (eK (.str (Str.ofString "inner")))) (e2 oIx (eV 3) (eV 5))) [some (lyD "Layout" y),some (.str way),some (.lst (mk ms)),some (.lst (mk bs)),some (.int ((j+1:Nat):Int)),some (.int (k:Int))]=some (.bl (mb||(way==sInner&&bb))):=by simp only[eOr,eAnd];rw[tB1_eq emb',tB1_eq ew,ebb'];cases mb<;>cases way==sInner<;>rfl
   show sItem 3 (eV 4) _ [some (lyD "Layout" y),some (.str way),some (.lst (mk ms)),some (.lst (mk bs)),some (.int ((j+1:Nat):Int)),some (.int (k:Int))]=_;simp only[sItem];rw[ev];simp only[zA];have:lstAt 3 [some (lyD "Layout" y),some (.str way),some (.lst (mk ms)),some (.lst (mk bs)),some (.int ((j+1:Nat):Int)),some (.int (k:Int))]=some (mk bs):=rfl;rw[this];simp only[zA];rw[show eV 4 [some (lyD "Layout" y),some (.str way),some (.lst (mk ms)),some (.lst (mk bs)),some (.int ((j+1:Nat):Int)),some (.int (k:Int))]=some (.int ((j+1:Nat):Int)) from rfl]
   simp only[zA];rw[ixN_nat (by simp;omega)]
   simp only[zT];rw[mk_set];rfl
  refine⟨_,_,rfl,body,_,_,_,rfl,by simp[hb],fun i =>?_⟩
  have hlt1:j+1<bs.length:=by omega
  have hkk:∀ k',k'<j+1→(Tr (bs.set (j+1) (mb||(way==sInner&&bb))) k'↔Tr bs k'):=fun k' hk'=>by rw[tr_set hlt1,if_neg (by omega)]
  have hval:(mb||(way==sInner&&bb))=true↔(Tr ms k∨(way=sInner∧Tr bs k)):=by show _↔(ms[k]?=some true∨(way=sInner∧bs[k]?=some true));rw[hmb,hbb];simp
  rw[tr_set hlt1];by_cases e:j+1=i
  ·rw[if_pos e];subst e;rw[hval]
   constructor
   ·intro t;refine⟨by omega,k,hc,?_⟩
    rw[hkk k hk];exact t
   ·rintro⟨_,k',c',t⟩;have:=c'.uniq hc;subst this;rw[hkk k' hk] at t;exact t
  ·rw[if_neg e,hsp i]
   constructor
   ·rintro⟨hi,k',c',t⟩;refine⟨by omega,k',c',?_⟩
    have:=c'.lt h;rw[hkk k' (by omega)];exact t
   ·rintro⟨hi,k',c',t⟩;have:=c'.lt h;refine⟨by omega,k',c',?_⟩
    rw[hkk k' (by omega)] at t;exact t)
 refine⟨bs,?_,hb,below_reach h fun i =>?_⟩
 ·unfold F_below_marks g_below_marks;refine runO_eq (o :=.ro (mk bs)) rfl ?_ rfl;have e0:fLC (iL (eV 2)) [none] (gN 0) tYes (eK (.bl false)) (startD 6 [lyD "Layout" y,.str way,.lst (mk ms)])=some (mk (List.replicate (mk ms).length false)):=fLC_eq (iL_eq (ds:=mk ms) rfl) (by rw[bigE_eq];simp;omega) (false_lc (mk ms))
  rw[sSeq_nx (sSetO_eq e0)];have e1:iR2 (eK (.int 1)) (eCall oLen (aC (eV 2) aN)) [some (lyD "Layout" y),some (.str way),some (.lst (mk ms)),some (.lst (mk (List.replicate (mk ms).length false))),none,none]=some (rngD 1 (ms.length-1)):=by rw[← hn];refine iR2_eq rfl ?_ hr;show some (D.int ((mk ms).length:Int))=_;rw[zH]
  exact(sSeq_nx (sFor_eq e1 ef)).trans rfl
 rw[hsp i,rngD_len]
 constructor
 ·rintro⟨_,t⟩;exact t
 ·rintro⟨k,c,t⟩;have:=c.lt h;exact⟨by omega,k,c,t⟩
theorem dwnD_get {lo:Int}{n j:Nat}{d:D}(h:(dwnD lo n)[j]?=some d):j<n∧d=.int (lo-j):=by
 unfold dwnD at h;rw[zM] at h;cases e:(List.range n)[j]? with
 | none=>rw[e] at h;cases h
 | some k=>rw[e] at h;cases h;obtain⟨hj,ek⟩:=zC.mp e;simp at hj ek;subst ek;exact⟨hj,rfl⟩
theorem dwnD_len (lo:Int) (n:Nat):(dwnD lo n).length=n:=by simp[dwnD]
theorem above_ok {y:Ly}(h:LW y) (hN:y.names.length≤1000) (way:Str) (ms:List Bool) (hm:ms.length=y.names.length):∃ bs,F_above_marks [lyD "Layout" y,.str way,.lst (mk ms)]=some (mk bs)∧bs.length=ms.length∧∀ k,Tr bs k↔∃ i,Reach y way k i∧Tr ms i:=by
 have hlt:(ms.length:Int)≤1000:=by omega
 have hl0:(0:Int)≤(ms.length:Int):=Int.natCast_nonneg _;have hr : -(2 ^ 62)≤(ms.length:Int)-1∧(ms.length:Int)-1<2 ^ 62 ∧ -(2 ^ 62)≤(0:Int)∧(0:Int)<2 ^ 62:=⟨Int.le_trans (by decide) (show (-1:Int)≤(ms.length:Int)-1 by omega),Int.lt_of_le_of_lt (show (ms.length:Int)-1≤1000 by omega) (by decide),by decide,by decide⟩
 have hn:((ms.length:Int)-1-0).toNat=ms.length-1:=by omega
 obtain⟨ρ',ef,bs,v4,rfl,hb,hsp⟩:=for_inv0 (τ:=gN 4) (g:=b_above_marks_1) (ds:=dwnD ((ms.length:Int)-1) (ms.length-1)) (fun j ρ=>∃ (bs:List Bool) (v4:Option D),ρ=[some (lyD "Layout" y),some (.str way),some (.lst (mk ms)),some (.lst (mk bs)),v4]∧bs.length=ms.length∧∀ k,Tr bs k↔∃ i,ms.length-j≤i∧Child y k i∧(Tr ms i∨(way=sInner∧Tr bs i)))
  (ρ:=[some (lyD "Layout" y),some (.str way),some (.lst (mk ms)),some (.lst (mk (List.replicate (mk ms).length false))),none])
  ⟨List.replicate (mk ms).length false,none,rfl,by simp,fun i=>by
   constructor
   ·intro t;have t:(List.replicate (mk ms).length false)[i]?=some true:=t;rw[List.getElem?_replicate] at t
    split at t<;>cases t
   ·rintro⟨k,hi,c,_⟩;have:=c.lt h;omega⟩ (by
  rintro j d ρ hd ⟨bs,v4,rfl,hb,hsp⟩;obtain⟨hj,rfl⟩:=dwnD_get hd;obtain⟨q,hq⟩:∃ q:Nat,q=ms.length-1-j:=⟨_,rfl⟩;have hz:(ms.length:Int)-1-(j:Int)=(q:Int):=by omega
  rw[hz];obtain⟨k,p,hc,hp,hpk,hk⟩:=Child.of h (i:=q) (by omega) (by omega)
  subst hpk;obtain⟨mb,hmb,emb⟩:=mk_at (bs:=ms) (i:=q) (by omega)
  obtain⟨bb,hbb,ebb⟩:=mk_at (bs:=bs) (i:=q) (by omega)
  have emb':e2 oIx (eV 2) (eV 4) [some (lyD "Layout" y),some (.str way),some (.lst (mk ms)),some (.lst (mk bs)),some (.int (q:Int))]=some (.bl mb):=emb;have ebb':e2 oIx (eV 3) (eV 4) [some (lyD "Layout" y),some (.str way),some (.lst (mk ms)),some (.lst (mk bs)),some (.int (q:Int))]=some (.bl bb):=ebb;have ew:e2 oEq (eV 1) (eK (.str (Str.ofString "inner"))) [some (lyD "Layout" y),some (.str way),some (.lst (mk ms)),some (.lst (mk bs)),some (.int (q:Int))]=some (.bl (way==sInner)):=rfl;have ec:tOrD (tTru (e2 oIx (eV 2) (eV 4))) (tAndD (tB1 (e2 oEq (eV 1) (eK (.str (Str.ofString "inner"))))) (tTru (e2 oIx (eV 3) (eV 4)))) [some (lyD "Layout" y),some (.str way),some (.lst (mk ms)),some (.lst (mk bs)),some (.int (q:Int))]=some (mb||(way==sInner&&bb)):=by simp only[tOrD,tAndD,tTru];rw[emb',tB1_eq ew,ebb'];cases mb<;>cases way==sInner<;>rfl
  have e1:e2 oIx (eFld "Layout" "parents" (eV 0)) (eV 4) [some (lyD "Layout" y),some (.str way),some (.lst (mk ms)),some (.lst (mk bs)),some (.int (q:Int))]=some (.int (k:Int)):=by
   rw[e2_eq (lay_parents y _ 0 rfl) (show eV 4 _=some (.int (q:Int)) from rfl)]
   exact par_at hp
  have hval:(mb||(way==sInner&&bb))=true↔(Tr ms q∨(way=sInner∧Tr bs q)):=by show _↔(ms[q]?=some true∨(way=sInner∧bs[q]?=some true));rw[hmb,hbb];simp
  by_cases hv:(mb||(way==sInner&&bb))=true
  ·have body:b_above_marks_1 [some (lyD "Layout" y),some (.str way),some (.lst (mk ms)),some (.lst (mk bs)),some (.int (q:Int))]=some (.nx [some (lyD "Layout" y),some (.str way),some (.lst (mk ms)),some (.lst (mk (bs.set k true))),some (.int (q:Int))]):=by
    unfold b_above_marks_1;rw[sIf_t (by rw[ec,hv])]
    simp only[sItem];rw[e1,show eK (.bl true) _=some (.bl true) from rfl,show lstAt 3 [some (lyD "Layout" y),some (.str way),some (.lst (mk ms)),some (.lst (mk bs)),some (.int (q:Int))]=some (mk bs) from rfl]
    simp only[zA];rw[ixN_nat (by simp;omega)]
    simp only[zT];rw[mk_set];rfl
   refine⟨_,_,rfl,body,_,_,rfl,by simp[hb],fun k' =>?_⟩
   have hlt1:k<bs.length:=by omega
   have hkk:∀ i,q≤i→(Tr (bs.set k true) i↔Tr bs i):=fun i hi=>by rw[tr_set hlt1,if_neg (by omega)]
   rw[tr_set hlt1];by_cases e:k=k'
   ·rw[if_pos e];subst e;refine⟨fun _=>⟨q,by omega,hc,?_⟩,fun _=>rfl⟩
    rw[hkk q (zL _)];exact hval.mp hv
   ·rw[if_neg e,hsp k']
    constructor
    ·rintro⟨i,hi,c',t⟩;refine⟨i,by omega,c',?_⟩
     rw[hkk i (by omega)];exact t
    ·rintro⟨i,hi,c',t⟩;have:i≠q:=fun z=>by subst z;exact e (hc.uniq c')
     refine⟨i,by omega,c',?_⟩
     rw[hkk i (by omega)] at t;exact t
  ·have body:b_above_marks_1 [some (lyD "Layout" y),some (.str way),some (.lst (mk ms)),some (.lst (mk bs)),some (.int (q:Int))]=some (.nx [some (lyD "Layout" y),some (.str way),some (.lst (mk ms)),some (.lst (mk bs)),some (.int (q:Int))]):=by
    unfold b_above_marks_1;have hv':(mb||(way==sInner&&bb))=false:=by simpa using hv
    rw[sIf_f (by rw[ec,hv'])]
    rfl
   refine⟨_,_,rfl,body,_,_,rfl,hb,fun k' =>?_⟩
   rw[hsp k']
   constructor
   ·rintro⟨i,hi,c',t⟩;exact⟨i,by omega,c',t⟩
   ·rintro⟨i,hi,c',t⟩;have:i≠q:=fun z=>by subst z;exact hv (hval.mpr t)
    exact⟨i,by omega,c',t⟩)
 refine⟨bs,?_,hb,above_reach h fun k =>?_⟩
 ·unfold F_above_marks g_above_marks;refine runO_eq (o :=.ro (mk bs)) rfl ?_ rfl;have e0:fLC (iL (eV 2)) [none] (gN 0) tYes (eK (.bl false)) (startD 5 [lyD "Layout" y,.str way,.lst (mk ms)])=some (mk (List.replicate (mk ms).length false)):=fLC_eq (iL_eq (ds:=mk ms) rfl) (by rw[bigE_eq];simp;omega) (false_lc (mk ms))
  rw[sSeq_nx (sSetO_eq e0)];have e1:iR3 (e2 oSub (eCall oLen (aC (eV 2) aN)) (eK (.int 1))) (eK (.int 0)) [some (lyD "Layout" y),some (.str way),some (.lst (mk ms)),some (.lst (mk (List.replicate (mk ms).length false))),none]=some (dwnD ((ms.length:Int)-1) (ms.length-1)):=by rw[← hn];refine iR3_eq ?_ rfl hr;show some (D.int (((mk ms).length:Int)-1))=_;rw[zH]
  exact(sSeq_nx (sFor_eq e1 ef)).trans rfl
 ·rw[hsp k,dwnD_len]
  constructor
  ·rintro⟨i,_,t⟩;exact⟨i,t⟩
  ·rintro⟨i,c,t⟩;have:=c.lt h;exact⟨i,by omega,c,t⟩
end K05
end
noncomputable section
namespace K05
open PySem L2
theorem runD_eq {n N:Nat}{g:DG}{ds:List D}{o:DO}{r:D}(hn:ds.length=n) (e:g (startD N ds)=some o) (ho:outD o=some r):runD n N g ds=some r:=by
 unfold runD;rw[if_pos hn,e];exact ho
theorem sRetF_eq {f:DL}{ρ:DEnv}{ds:List D}(e:f ρ=some ds):sRetF f ρ=some (.ro ds):=by simp only[sRetF,e,zT]
theorem strs_of {ds:List D}(h:∀ d∈ds,∃ x,d=.str x):∃ xs:List Str,ds=xs.map D.str:=by
 induction ds with
 | nil=>exact⟨[],rfl⟩
 | cons d ds ih=>
  obtain⟨x,rfl⟩:=h d zD;obtain⟨xs,rfl⟩:=ih fun e he=>h e (zB _ he)
  exact⟨x::xs,rfl⟩
theorem lc_rel {ρ:DEnv}{τ:DTg}{fe:DF}{R:D→D→Prop}:∀ {ds:List D},(∀ d∈ds,∃ ρ1 x,τ d ρ=some ρ1∧fe ρ1=some x∧R d x)→∃ rs,lcD ρ τ tYes fe ds=some rs∧rs.length=ds.length∧(∀ x∈rs,∃ d∈ds,R d x)∧(∀ d∈ds,∃ x∈rs,R d x)∧∀ (i:Nat) d,ds[i]?=some d→∃ x,rs[i]?=some x∧R d x
 | [],_=>⟨[],rfl,rfl,fun x h=>(by cases h),fun x h=>(by cases h),fun i d h=>by simp at h⟩
 | d::ds,h=>by
  obtain⟨ρ1,x,e1,e2,px⟩:=h d zD;obtain⟨rs,er,hl,hp,hq,hi⟩:=lc_rel fun d hd=>h d (zB _ hd)
  refine⟨x::rs,?_,by simp[hl],fun y hy =>?_,fun y hy =>?_,fun i e he =>?_⟩
  ·simp only[lcD,e1,zA,tYes,if_true,e2,er,zT]
  ·rcases zG.mp hy with rfl|hy
   ·exact⟨d,zD,px⟩
   ·obtain⟨e,he,r⟩:=hp y hy;exact⟨e,zB _ he,r⟩
  ·rcases zG.mp hy with rfl|hy
   ·exact⟨x,zD,px⟩
   ·obtain⟨e,he,r⟩:=hq y hy;exact⟨e,zB _ he,r⟩
  ·cases i with
   | zero=>simp at he;subst he;exact⟨x,by simp,px⟩
   | succ i=>simp at he;obtain⟨z,e1,e2⟩:=hi i e he;exact⟨z,by simpa using e1,e2⟩
noncomputable section
variable {y:Ly}(h:LW y) (hN:y.names.length≤1000)
include h hN
theorem true_lc:∃ bs:List Bool,(∀ (N:Nat) (r:List D) ,fLC (iL (eFld "Layout" "names" (eV 0))) [none] (gN 0) tYes (eK (.bl true)) (startD N (lyD "Layout" y::r))=some (mk bs))∧bs.length=y.names.length∧∀ i,i<y.names.length→Tr bs i:=by
 refine⟨List.replicate y.names.length true,fun N r =>?_,by simp,fun i hi =>?_⟩
 ·refine fLC_eq (iL_eq (ds:=y.names) (lay_names y _ 0 rfl)) (by rw[bigE_eq];omega) ?_
  generalize y.names=l;show lcD [none] _ _ _ _=_
  induction l with
  | nil=>rfl
  | cons d ds ih=>simp only[lcD,gN,tYes,eK,zA,if_true];rw[ih];rfl
 ·show (List.replicate y.names.length true)[i]?=some true;rw[List.getElem?_replicate,if_pos hi]
theorem fit_step {Fw Fst Ff:List D→Option D}{way nm:Str}{w:D}{bs:List Bool}(ew:Fw [lyD "Layout" y,w]=some (.lst (mk bs))) (hb:bs.length=y.names.length) :
  ∃ cs,runD 2 3 (g_fit_marks Fw Fst Ff) [lyD "Layout" y,stepD way nm w]=some (.lst (mk cs))∧cs.length=y.names.length∧∀ i,Tr cs i↔Nmd y nm i∧Tr bs i:=by
 obtain⟨xs,exs⟩:=strs_of h.nm;have hxl:xs.length=y.names.length:=by rw[exs];simp
 let nb:List Bool:=xs.map fun x=>(nm==sStar||nm==x)
 have hnb:nb.length=y.names.length:=by simp[nb,hxl]
 have e0:fLC (iL (eFld "Layout" "names" (eV 0))) [none,some 1] (gN 0) tYes (eOr (e2 oEq (e2 oIx (eV 1) (eK (.int 1))) (eK (.str (Str.ofString "*")))) (e2 oEq (e2 oIx (eV 1) (eK (.int 1))) (eV 0))) (startD 3 [lyD "Layout" y,stepD way nm w])=some (mk nb):=by
  refine fLC_eq (iL_eq (ds:=y.names) (lay_names y _ 0 rfl)) (by rw[bigE_eq];omega) ?_
  rw[exs];rw[lc_all (h:=fun d=>match d with|.str x =>.bl (nm==sStar||nm==x)|d=>d) (fun d hd=>by obtain⟨x,_,rfl⟩:=List.mem_map.mp hd;refine⟨_,rfl,?_⟩;simp only[eOr];rw[tB1_eq (b:=nm==sStar) rfl];simp only[zA];cases nm==sStar<;>rfl)]
  simp[mk,nb]
 refine⟨List.zipWith (· && ·) nb bs,?_,by simp[hnb,hb],fun i =>?_⟩
 ·unfold g_fit_marks;refine runD_eq (o :=.ro (mk (List.zipWith (· && ·) nb bs))) rfl ?_ rfl;rw[sSeq_nx (sSet_eq (eF_eq e0))];refine sRetF_eq ?_;show (fCall F_both_marks (aC (eV 2) (aC (eCall Fw (aC (eV 0) (aC (e2 oIx (eV 1) (eK (.int 2))) aN))) aN))) [some (lyD "Layout" y),some (stepD way nm w),some (.lst (mk nb))]=_;have e1:eCall Fw (aC (eV 0) (aC (e2 oIx (eV 1) (eK (.int 2))) aN)) [some (lyD "Layout" y),some (stepD way nm w),some (.lst (mk nb))]=some (.lst (mk bs)):=by show Fw [lyD "Layout" y,w]=_;exact ew
  simp only[fCall,aC,aN];rw[e1];show F_both_marks [.lst (mk nb),.lst (mk bs)]=_;exact both_ok nb bs (by omega)
 ·rw[tr_zip];have:Tr nb i↔Nmd y nm i:=by
   show (xs.map fun x=>(nm==sStar||nm==x))[i]?=some true↔_
   unfold Nmd;rw[exs,zM,zM];cases hx:xs[i]? with
   | none=>simp
   | some x=>simp
  rw[this]
theorem start_step {Fw Fst Ff:List D→Option D}{n:Nat}{ss:List D}(hss:∀ s∈ss,WfS n s) (hl:ss.length≤100)
  (hf:∀ way nm w,WfW n w→∃ cs,Ff [lyD "Layout" y,stepD way nm w]=some (.lst (mk cs))∧cs.length=y.names.length∧∀ i,i<y.names.length→(Tr cs i↔Nmd y nm i∧HW y n w i)) :
  ∃ bs,runD 2 4 (g_start_marks Fw Fst Ff) [lyD "Layout" y,.lst ss]=some (.lst (mk bs))∧bs.length=y.names.length∧∀ i,i<y.names.length→(Tr bs i↔∃ j,AnF y (HW y n) ss i j):=by
 obtain⟨b0,e0,hb0,ht0⟩:=true_lc h hN;obtain⟨ρ',ef,bs,v3,rfl,hb,hsp⟩:=for_inv0 (τ:=gN 3) (g:=b_start_marks_1 Fw Fst Ff) (ds:=ss.reverse) (fun j ρ=>∃ (bs:List Bool) (v3:Option D),ρ=[some (lyD "Layout" y),some (.lst ss),some (.lst (mk bs)),v3]∧bs.length=y.names.length∧∀ i,i<y.names.length→(Tr bs i↔∃ t,AnF y (HW y n) (ss.drop (ss.length-j)) i t))
  (ρ:=[some (lyD "Layout" y),some (.lst ss),some (.lst (mk b0)),none])
  ⟨b0,none,rfl,hb0,fun i hi=>⟨fun _=>⟨i,by simp[AnF]⟩,fun _=>ht0 i hi⟩⟩ (by
  rintro j d ρ hd ⟨bs,v3,rfl,hb,hsp⟩;have hj:j<ss.length:=by simpa using (zC.mp hd).1
  rw[List.getElem?_reverse hj] at hd;obtain⟨way,nm,w,rfl,hway,hw⟩:=hss d (zX hd);obtain⟨cs,ec,hc,hcs⟩:=hf way nm w hw;have eb:=both_ok bs cs (by omega)
  have hzl:(List.zipWith (· && ·) bs cs).length=y.names.length:=by simp[hb,hc]
  obtain⟨as,ea,ha,has⟩:=above_ok h hN way (List.zipWith (· && ·) bs cs) hzl;refine⟨_,[some (lyD "Layout" y),some (.lst ss),some (.lst (mk as)),some (stepD way nm w)],rfl,?_,as,_,rfl,by rw[ha,hzl],fun i hi =>?_⟩
  ·unfold b_start_marks_1;refine(sSet_eq (eF_eq (ds:=mk as) ?_)).trans rfl;have e1:eCall Ff (aC (eV 0) (aC (eV 3) aN)) [some (lyD "Layout" y),some (.lst ss),some (.lst (mk bs)),some (stepD way nm w)]=some (.lst (mk cs)):=by show Ff [lyD "Layout" y,stepD way nm w]=_;exact ec
   have e2':eF (fCall F_both_marks (aC (eV 2) (aC (eCall Ff (aC (eV 0) (aC (eV 3) aN))) aN))) [some (lyD "Layout" y),some (.lst ss),some (.lst (mk bs)),some (stepD way nm w)]=some (.lst (mk (List.zipWith (· && ·) bs cs))):=by refine eF_eq ?_;simp only[fCall,aC,aN];rw[e1];exact eb
   show (fCall F_above_marks (aC (eV 0) (aC (e2 oIx (eV 3) (eK (.int 0))) (aC (eF (fCall F_both_marks (aC (eV 2) (aC (eCall Ff (aC (eV 0) (aC (eV 3) aN))) aN)))) aN)))) [some (lyD "Layout" y),some (.lst ss),some (.lst (mk bs)),some (stepD way nm w)]=_;have e3:e2 oIx (eV 3) (eK (.int 0)) [some (lyD "Layout" y),some (.lst ss),some (.lst (mk bs)),some (stepD way nm w)]=some (.str way):=rfl;rw[show ∀ (F:List D→Option (List D)) (g:DL) (ρ:DEnv),fCall F g ρ=(g ρ).bind F from fun _ _ _=>rfl]
   simp only[aC,aN];rw[e3,e2'];exact ea
  ·have hdrop:ss.drop (ss.length-(j+1))=stepD way nm w::ss.drop (ss.length-j):=by
    have h1:ss.length-(j+1)<ss.length:=by omega
    have h2:ss.length-1-j=ss.length-(j+1):=by omega
    rw[h2] at hd;rw[List.drop_eq_getElem_cons h1];have h3:ss[ss.length-(j+1)]=stepD way nm w:=by have:=zI h1;rw[hd] at this;injection this with this;exact this.symm
    rw[h3]
    congr 2
    omega
   rw[hdrop,has i]
   constructor
   ·rintro⟨k,r,t⟩;have hk:=(r.lt h).2;obtain⟨t1,t2⟩:=tr_zip.mp t;obtain⟨m,hm⟩:=(hsp k hk).mp t1;obtain⟨n1,w1⟩:=(hcs k hk).mp t2;exact⟨m,way,nm,w,k,rfl,r,n1,w1,hm⟩
   ·rintro⟨m,way',nm',w',k,e,r,n1,w1,hm⟩;injection e with e;injection e with e1 e;injection e with e2 e;injection e with e3 _;injection e1 with e1;injection e2 with e2;subst e1 e2 e3;have hk:=(r.lt h).2;exact⟨k,r,tr_zip.mpr ⟨(hsp k hk).mpr ⟨m,hm⟩,(hcs k hk).mpr ⟨n1,w1⟩⟩⟩)
 refine⟨bs,?_,hb,fun i hi =>?_⟩
 ·unfold g_start_marks;refine runD_eq (o :=.rt (.lst (mk bs))) rfl ?_ rfl;rw[sSeq_nx (sSet_eq (eF_eq (e0 4 [.lst ss])))];refine(sSeq_nx (sFor_eq (ds:=ss.reverse) (ρ:=[some (lyD "Layout" y),some (.lst ss),some (.lst (mk b0)),none]) ?_ ef)).trans rfl
  rfl
 ·rw[hsp i hi];simp
end
end K05
end
noncomputable section
namespace K05
open PySem L2
theorem in_str {x:Str}{ds:List D}(h:∀ d∈ds,∃ z,d=.str z):∃ b,oIn false (.str x) (.lst ds)=some (.bl b)∧(b=true↔D.str x∈ds):=by
 obtain⟨xs,rfl⟩:=strs_of h;have h1:(xs.map D.str).all scalD=true:=by
  rw[List.all_eq_true];intro d hd;obtain⟨z,_,rfl⟩:=List.mem_map.mp hd
  rfl
 refine⟨inV (.str x) ((xs.map D.str).map vOf),?_,?_⟩
 ·simp only[oIn,inD];rw[if_pos (by rw[h1];rfl)]
  rfl
 ·unfold inV;rw[List.any_eq_true]
  constructor
  ·rintro⟨v,hv,e⟩;rw[List.map_map] at hv;obtain⟨z,hz,rfl⟩:=List.mem_map.mp hv;have e:(z==x)=true:=e;have:z=x:=by simpa using e
   subst this;exact List.mem_map.mpr ⟨z,hz,rfl⟩
  ·intro hx;obtain⟨z,hz,e⟩:=List.mem_map.mp hx;injection e with e;subst e;refine⟨.str z,List.mem_map.mpr ⟨.str z,hx,rfl⟩,?_⟩;show (z==z)=true;simp
theorem fLR_eq {f:DF}{ρ:DEnv}{n:Nat}(e:f ρ=some (.int n)) (h:n≤1000):fLR f ρ=some (rngD 0 n):=by
 simp only[fLR,e,zA];rw[if_pos ⟨by omega,by omega⟩]
 rfl
theorem col_lc {i:Nat}:∀ (rows:List (List Bool)),(∀ r∈rows,i<r.length)→∃ cs:List Bool,lcD [none,some (.int (i:Int))] (gN 0) tYes (e2 oIx (eV 0) (eV 1)) (rows.map fun r =>.lst (mk r))=some (mk cs)∧((cs.all id)=true↔∀ r∈rows,Tr r i)∧((cs.any id)=true↔∃ r∈rows,Tr r i)
 | [],_=>⟨[],rfl,by simp,by simp⟩
 | r::rows,hr=>by
  obtain⟨cs,e,h1,h2⟩:=col_lc rows fun r h=>hr r (zB _ h)
  obtain⟨b,hb,eb⟩:=mk_at (hr r zD);have eb':e2 oIx (eV 0) (eV 1) [some (.lst (mk r)),some (.int (i:Int))]=some (.bl b):=eb;refine⟨b::cs,?_,?_,?_⟩
  ·simp only[List.map_cons,lcD,gN,tYes,List.set_cons_zero,zA,if_true];rw[eb',e];rfl
  ·rw[List.all_cons,Bool.and_eq_true,h1]
   constructor
   ·rintro⟨a,t⟩ q hq;rcases zG.mp hq with rfl|hq
    ·show q[i]?=some true;rw[hb];exact congrArg some a
    ·exact t q hq
   ·intro t;refine⟨?_,fun q hq=>t q (zB _ hq)⟩
    have:=t r zD;rw[show Tr r i↔r[i]?=some true from Iff.rfl,hb] at this
    injection this
  ·rw[List.any_cons,Bool.or_eq_true,h2]
   constructor
   ·rintro(a|⟨q,hq,t⟩)
    ·refine⟨r,zD,?_⟩;show r[i]?=some true;rw[hb];exact congrArg some a
    ·exact⟨q,zB _ hq,t⟩
   ·rintro⟨q,hq,t⟩;rcases zG.mp hq with rfl|hq
    ·left;rw[show Tr q i↔q[i]?=some true from Iff.rfl,hb] at t
     injection t
    ·exact .inr ⟨q,hq,t⟩
theorem mk_all (cs:List Bool):(mk cs).all isBl=true:=by
 rw[List.all_eq_true];intro d hd;obtain⟨b,_,rfl⟩:=List.mem_map.mp hd
 rfl
theorem mk_allB (cs:List Bool):(mk cs).all blOf=cs.all id:=by
 induction cs with
 | nil=>rfl
 | cons b cs ih=>show (D.bl b::mk cs).all blOf=_;rw[List.all_cons,List.all_cons,ih];rfl
theorem mk_anyB (cs:List Bool):(mk cs).any blOf=cs.any id:=by
 induction cs with
 | nil=>rfl
 | cons b cs ih=>show (D.bl b::mk cs).any blOf=_;rw[List.any_cons,List.any_cons,ih];rfl
theorem mk_of {ds:List D}(h:∀ d∈ds,∃ b,d=.bl b):∃ bs:List Bool,ds=mk bs:=by
 induction ds with
 | nil=>exact⟨[],rfl⟩
 | cons d ds ih=>
  obtain⟨x,rfl⟩:=h d zD;obtain⟨xs,rfl⟩:=ih fun e he=>h e (zB _ he)
  exact⟨x::xs,rfl⟩
theorem rows_of {ds:List D}{n:Nat}(h:∀ d∈ds,∃ b:List Bool,d=.lst (mk b)∧b.length=n):∃ bs:List (List Bool),ds=bs.map (fun r =>.lst (mk r))∧∀ b∈bs,b.length=n:=by
 induction ds with
 | nil=>exact⟨[],rfl,fun b h=>by cases h⟩
 | cons d ds ih=>
  obtain⟨x,rfl,hx⟩:=h d zD;obtain⟨xs,rfl,hxs⟩:=ih fun e he=>h e (zB _ he)
  refine⟨x::xs,rfl,fun b hb =>?_⟩
  rcases zG.mp hb with rfl|hb
  ·exact hx
  ·exact hxs b hb
theorem grid_lc (all:Bool) (N:Nat) (rows:List (List Bool)) (hl:rows.length≤1000) (hr:∀ r∈rows,r.length=N) (hN:N≤1000):∃ bs:List Bool,lcD [none,some (.lst (rows.map fun r =>.lst (mk r)))] (gN 0) tYes (eCall (oAllAny all) (aC (eF (fLC (iL (eV 1)) [none,some 0] (gN 0) tYes (e2 oIx (eV 0) (eV 1)))) aN)) (rngD 0 N)=some (mk bs)∧bs.length=N∧∀ i,i<N→(Tr bs i↔if all=true then ∀ r∈rows,Tr r i else ∃ r∈rows,Tr r i):=by
 obtain⟨rs,er,hrl,hp,_,hi⟩:=lc_rel (ρ:=[none,some (.lst (rows.map fun r =>.lst (mk r)))]) (τ:=gN 0) (fe:=eCall (oAllAny all) (aC (eF (fLC (iL (eV 1)) [none,some 0] (gN 0) tYes (e2 oIx (eV 0) (eV 1)))) aN)) (ds:=rngD 0 N)
  (R:=fun d x=>∃ b,x=.bl b∧∀ i:Nat,d=.int (i:Int)→(b=true↔if all=true then ∀ r∈rows,Tr r i else ∃ r∈rows,Tr r i)) fun d hd=>by
  obtain⟨j,hj⟩:=List.mem_iff_getElem?.mp hd;obtain⟨hj2,rfl⟩:=rngD_get hj;rw[Int.zero_add];obtain⟨cs,ec,h1,h2⟩:=col_lc (i:=j) rows fun r h=>by rw[hr r h];exact hj2
  refine⟨_,.bl (if all=true then cs.all id else cs.any id),rfl,?_,_,rfl,fun i ei =>?_⟩
  ·have e1:eF (fLC (iL (eV 1)) [none,some 0] (gN 0) tYes (e2 oIx (eV 0) (eV 1))) [some (.int (j:Int)),some (.lst (rows.map fun r =>.lst (mk r)))]=some (.lst (mk cs)):=by
    refine eF_eq (fLC_eq (iL_eq (ds:=rows.map fun r =>.lst (mk r)) rfl) (by rw[zH,bigE_eq];omega) ?_)
    exact ec
   show (eCall (oAllAny all) (aC (eF (fLC (iL (eV 1)) [none,some 0] (gN 0) tYes (e2 oIx (eV 0) (eV 1)))) aN)) [some (.int (j:Int)),some (.lst (rows.map fun r =>.lst (mk r)))]=_
   simp only[eCall,aC,aN];rw[e1];show oAllAny all [.lst (mk cs)]=_;simp only[oAllAny];rw[if_pos (mk_all cs),mk_allB,mk_anyB]
  ·injection ei with ei;have:i=j:=by omega
   subst this;cases all with
   | true=>simpa using h1
   | false=>simpa using h2
 obtain⟨bs,rfl⟩:=mk_of fun d hd=>by obtain⟨e,_,b,hb,_⟩:=hp d hd;exact⟨b,hb⟩
 rw[rngD_len] at hrl;refine⟨bs,er,by simpa using hrl,fun i hin =>?_⟩
 have hg:(rngD 0 N)[i]?=some (.int (i:Int)):=by unfold rngD;rw[zM,List.getElem?_range hin];simp
 obtain⟨x,ex,b,rfl,hb⟩:=hi i _ hg;rw[zM] at ex;cases hbs:bs[i]? with
 | none=>rw[hbs] at ex;cases ex
 | some c=>
  rw[hbs] at ex;have:c=b:=by injection ex with ex;injection ex
  subst this;rw[← hb i rfl];show bs[i]?=some true↔_;rw[hbs];simp
noncomputable section
variable {y:Ly}(h:LW y) (hN:y.names.length≤1000)
include h hN
theorem wish_marks_step {Fw Fst Ff:List D→Option D}{n:Nat}{w:D}(hw:WfW n w)
  (hst:∀ m ss,n=m+1→w=wHas ss→(∀ s∈ss,WfS m s)→ss.length≤100→∃ bs,Fst [lyD "Layout" y,.lst ss]=some (.lst (mk bs))∧bs.length=y.names.length∧∀ i,i<y.names.length→(Tr bs i↔∃ j,AnF y (HW y m) ss i j))
  (hwm:∀ m v,n=m+1→WfW m v→∃ bs,Fw [lyD "Layout" y,v]=some (.lst (mk bs))∧bs.length=y.names.length∧∀ i,i<y.names.length→(Tr bs i↔HW y m v i)) :
  ∃ bs,runD 2 4 (g_wish_marks Fw Fst Ff) [lyD "Layout" y,w]=some (.lst (mk bs))∧bs.length=y.names.length∧∀ i,i<y.names.length→(Tr bs i↔HW y n w i):=by
 have hany:∀ n,w=wAny→∃ bs,runD 2 4 (g_wish_marks Fw Fst Ff) [lyD "Layout" y,w]=some (.lst (mk bs))∧bs.length=y.names.length∧∀ i,i<y.names.length→(Tr bs i↔HW y n w i):=by
  intro n e;subst e;obtain⟨b0,e0,hb0,ht0⟩:=true_lc h hN;refine⟨b0,?_,hb0,fun i hi=>⟨fun _=>hw_any y n i,fun _=>ht0 i hi⟩⟩
  unfold g_wish_marks;refine runD_eq (o :=.ro (mk b0)) rfl ?_ rfl;have:sIf (tB1 (e2 oEq (e2 oIx (eV 1) (eK (.int 0))) (eK (.str (Str.ofString "any"))))) (sRetF (fLC (iL (eFld "Layout" "names" (eV 0))) [none] (gN 0) tYes (eK (.bl true)))) sNil (startD 4 [lyD "Layout" y,wAny])=some (.ro (mk b0)):=by
   rw[sIf_t (by exact tB1_eq (b:=true) (by show some (D.bl (sAny==sAny))=_;simp))]
   exact sRetF_eq (e0 4 [wAny])
  simp only[sSeq,this,zA]
 have nany:∀ k v,w=.tup [.str k,v]→k≠sAny→∀ (g1 g2:DG),sSeq (sIf (tB1 (e2 oEq (e2 oIx (eV 1) (eK (.int 0))) (eK (.str (Str.ofString "any"))))) g1 sNil) g2 (startD 4 [lyD "Layout" y,w])=g2 (startD 4 [lyD "Layout" y,w]):=by
  intro k v e hk g1 g2;subst e;refine sSeq_nx ?_;rw[sIf_f (by exact tB1_eq (b:=false) (by show some (D.bl (k==sAny))=_;simp[hk]))]
  rfl
 have ntxt:∀ k v,w=.tup [.str k,v]→k≠sTxt→∀ (g1 g2:DG),sSeq (sIf (tB1 (e2 oEq (e2 oIx (eV 1) (eK (.int 0))) (eK (.str (Str.ofString "text"))))) g1 sNil) g2 (startD 4 [lyD "Layout" y,w])=g2 (startD 4 [lyD "Layout" y,w]):=by
  intro k v e hk g1 g2;subst e;refine sSeq_nx ?_;rw[sIf_f (by exact tB1_eq (b:=false) (by show some (D.bl (k==sTxt))=_;simp[hk]))]
  rfl
 have nhas:∀ k v,w=.tup [.str k,v]→k≠sHas→∀ (g1 g2:DG),sSeq (sIf (tB1 (e2 oEq (e2 oIx (eV 1) (eK (.int 0))) (eK (.str (Str.ofString "has"))))) g1 sNil) g2 (startD 4 [lyD "Layout" y,w])=g2 (startD 4 [lyD "Layout" y,w]):=by
  intro k v e hk g1 g2;subst e;refine sSeq_nx ?_;rw[sIf_f (by exact tB1_eq (b:=false) (by show some (D.bl (k==sHas))=_;simp[hk]))]
  rfl
 have htxt:∀ n x,w=wText x→∃ bs,runD 2 4 (g_wish_marks Fw Fst Ff) [lyD "Layout" y,w]=some (.lst (mk bs))∧bs.length=y.names.length∧∀ i,i<y.names.length→(Tr bs i↔HW y n w i):=by
  intro n x e;obtain⟨rs,er,hrl,hp,_,hi⟩:=lc_rel (ρ:=[none,some w]) (τ:=gN 0) (fe:=e2 (oIn false) (e2 oIx (eV 1) (eK (.int 1))) (eV 0)) (ds:=y.texts.map D.lst)
   (R:=fun d z=>∃ b,z=.bl b∧∀ ds,d=.lst ds→(b=true↔D.str x∈ds)) fun d hd=>by
   obtain⟨ds,hds,rfl⟩:=List.mem_map.mp hd;obtain⟨b,eb,hb⟩:=in_str (x:=x) (h.tx ds hds);refine⟨_,.bl b,rfl,?_,b,rfl,fun ds' e'=>by cases e';exact hb⟩
   subst e;exact eb
  obtain⟨bs,rfl⟩:=mk_of fun d hd=>by obtain⟨e,_,b,hb,_⟩:=hp d hd;exact⟨b,hb⟩
  rw[zH,zH,h.tl] at hrl;refine⟨bs,?_,hrl,fun i hi' =>?_⟩
  ·unfold g_wish_marks;refine runD_eq (o :=.ro (mk bs)) rfl ?_ rfl;rw[nany sTxt (.str x) e (fun z=>nAT z.symm)]
   have:sIf (tB1 (e2 oEq (e2 oIx (eV 1) (eK (.int 0))) (eK (.str (Str.ofString "text"))))) (sRetF (fLC (iL (eFld "Layout" "texts" (eV 0))) [none,some 1] (gN 0) tYes (e2 (oIn false) (e2 oIx (eV 1) (eK (.int 1))) (eV 0)))) sNil (startD 4 [lyD "Layout" y,w])=some (.ro (mk bs)):=by
    rw[sIf_t (by exact tB1_eq (b:=true) (by rw[e];show some (D.bl (sTxt==sTxt))=_;simp))]
    refine sRetF_eq (fLC_eq (iL_eq (ds:=y.texts.map D.lst) (lay_texts y _ 0 rfl)) (by rw[zH,h.tl,bigE_eq];omega) ?_)
    exact er
   simp only[sSeq,this,zA]
  ·rw[e,hw_text];have hil:i<y.texts.length:=by rw[h.tl];exact hi'
   have ht:y.texts[i]?=some y.texts[i]:=zI hil;obtain⟨z,ez,b,rfl,hb⟩:=hi i (.lst y.texts[i]) (by rw[zM,ht];rfl)
   rw[zM] at ez;cases hbs:bs[i]? with
   | none=>rw[hbs] at ez;cases ez
   | some c=>
    rw[hbs] at ez;have:c=b:=by injection ez with ez;injection ez
    subst this;have:Tr bs i↔c=true:=by show bs[i]?=some true↔_;rw[hbs];simp
    rw[this,hb _ rfl,ht]
    constructor
    ·intro q;exact⟨_,rfl,q⟩
    ·rintro⟨ds,e1,q⟩;injection e1 with e1;subst e1;exact q
 have hlist:∀ m (all:Bool) ws,n=m+1→w=(if all=true then wBoth ws else wOne ws)→ws.length≤100→(∀ v∈ws,WfW m v)→∃ bs,runD 2 4 (g_wish_marks Fw Fst Ff) [lyD "Layout" y,w]=some (.lst (mk bs))∧bs.length=y.names.length∧∀ i,i<y.names.length→(Tr bs i↔if all=true then ∀ v∈ws,HW y m v i else ∃ v∈ws,HW y m v i):=by
  intro m all ws en e hl hws;obtain⟨k,hk,hka,hkt,hkh,hkb⟩:∃ k,w=.tup [.str k,.lst ws]∧k≠sAny∧k≠sTxt∧k≠sHas∧(k==sBoth)=all:=by
   cases all with
   | true=>exact⟨sBoth,e,fun z=>nAB z.symm,fun z=>nTB z.symm,fun z=>nHB z.symm,by simp⟩
   | false=>exact⟨sOne,e,fun z=>nAO z.symm,fun z=>nTO z.symm,fun z=>nHO z.symm,by simp;exact fun z=>nBO z.symm⟩
  obtain⟨rs,er,hrl,hp,hq,_⟩:=lc_rel (ρ:=[none,some (lyD "Layout" y)]) (τ:=gN 0) (fe:=eCall Fw (aC (eV 1) (aC (eV 0) aN))) (ds:=ws)
   (R:=fun d z=>∃ b:List Bool,z=.lst (mk b)∧b.length=y.names.length∧∀ i,i<y.names.length→(Tr b i↔HW y m d i)) fun d hd=>by
   obtain⟨b,eb,hb,hbs⟩:=hwm m d en (hws d hd);exact⟨_,_,rfl,eb,b,rfl,hb,hbs⟩
  obtain⟨rows,rfl,hrows⟩:=rows_of (n:=y.names.length) fun d hd=>by obtain⟨_,_,b,hb,hbl,_⟩:=hp d hd;exact⟨b,hb,hbl⟩
  rw[zH] at hrl;obtain⟨bs,eg,hbl,hbs⟩:=grid_lc all y.names.length rows (by omega) hrows hN
  refine⟨bs,?_,hbl,fun i hi =>?_⟩
  ·unfold g_wish_marks;refine runD_eq (o :=.ro (mk bs)) rfl ?_ rfl;rw[nany k _ hk hka,ntxt k _ hk hkt,nhas k _ hk hkh];have e1:eF (fLC (iL (e2 oIx (eV 1) (eK (.int 1)))) [none,some 0] (gN 0) tYes (eCall Fw (aC (eV 1) (aC (eV 0) aN)))) (startD 4 [lyD "Layout" y,w])=some (.lst (rows.map fun r =>.lst (mk r))):=by
    refine eF_eq (fLC_eq (iL_eq (ds:=ws) ?_) (by rw[bigE_eq];omega) er)
    subst hk;rfl
   rw[sSeq_nx (sSet_eq e1)];have e2':eF (fLR (eCall oLen (aC (eFld "Layout" "names" (eV 0)) aN))) [some (lyD "Layout" y),some w,some (.lst (rows.map fun r =>.lst (mk r))),none]=some (.lst (rngD 0 y.names.length)):=by
    refine eF_eq (fLR_eq ?_ hN);simp only[eCall,aC,aN];rw[lay_names y _ 0 rfl]
    rfl
   refine(sSeq_nx (sSet_eq (ρ:=[some (lyD "Layout" y),some w,some (.lst (rows.map fun r =>.lst (mk r))),none]) e2')).trans ?_
   have e3:tB1 (e2 oEq (e2 oIx (eV 1) (eK (.int 0))) (eK (.str (Str.ofString "both")))) [some (lyD "Layout" y),some w,some (.lst (rows.map fun r =>.lst (mk r))),some (.lst (rngD 0 y.names.length))]=some all:=by refine tB1_eq ?_;subst hk;show some (D.bl (k==sBoth))=_;rw[hkb]
   have e4:∀ al:Bool,al=all→fLC (iL (eV 3)) [none,some 2] (gN 0) tYes (eCall (oAllAny al) (aC (eF (fLC (iL (eV 1)) [none,some 0] (gN 0) tYes (e2 oIx (eV 0) (eV 1)))) aN)) [some (lyD "Layout" y),some w,some (.lst (rows.map fun r =>.lst (mk r))),some (.lst (rngD 0 y.names.length))]=some (mk bs):=by intro al ea;subst ea;exact fLC_eq (iL_eq (ds:=rngD 0 y.names.length) rfl) (by rw[rngD_len,bigE_eq];omega) eg
   show sSeq _ _ [some (lyD "Layout" y),some w,some (.lst (rows.map fun r =>.lst (mk r))),some (.lst (rngD 0 y.names.length))]=_
   cases all with
   | true=>
    have:sIf (tB1 (e2 oEq (e2 oIx (eV 1) (eK (.int 0))) (eK (.str (Str.ofString "both"))))) (sRetF (fLC (iL (eV 3)) [none,some 2] (gN 0) tYes (eCall (oAllAny true) (aC (eF (fLC (iL (eV 1)) [none,some 0] (gN 0) tYes (e2 oIx (eV 0) (eV 1)))) aN)))) sNil [some (lyD "Layout" y),some w,some (.lst (rows.map fun r =>.lst (mk r))),some (.lst (rngD 0 y.names.length))]=some (.ro (mk bs)):=by rw[sIf_t e3];exact sRetF_eq (e4 true rfl)
    simp only[sSeq,this,zA]
   | false=>
    refine(sSeq_nx (by rw[sIf_f e3];rfl)).trans ?_
    exact sRetF_eq (e4 false rfl)
  ·rw[hbs i hi];cases all with
   | true=>
    simp only[if_true]
    constructor
    ·intro t v hv;obtain⟨z,hz,b,rfl,_,hb⟩:=hq v hv;obtain⟨b',hb',eb'⟩:=List.mem_map.mp hz;have:b'=b:=by injection eb' with eb';exact(List.map_inj_right (fun a b h=>by injection h)).mp eb'
     subst this;exact(hb i hi).mp (t b' hb')
    ·intro t r hr;obtain⟨v,hv,b,eb,_,hb⟩:=hp (.lst (mk r)) (List.mem_map.mpr ⟨r,hr,rfl⟩);have:r=b:=by injection eb with eb;exact(List.map_inj_right (fun a b h=>by injection h)).mp eb
     subst this;exact(hb i hi).mpr (t v hv)
   | false=>
    simp only[Bool.false_eq_true,if_false]
    constructor
    ·rintro⟨r,hr,t⟩;obtain⟨v,hv,b,eb,_,hb⟩:=hp (.lst (mk r)) (List.mem_map.mpr ⟨r,hr,rfl⟩);have:r=b:=by injection eb with eb;exact(List.map_inj_right (fun a b h=>by injection h)).mp eb
     subst this;exact⟨v,hv,(hb i hi).mp t⟩
    ·rintro⟨v,hv,t⟩;obtain⟨z,hz,b,rfl,_,hb⟩:=hq v hv;obtain⟨b',hb',eb'⟩:=List.mem_map.mp hz;have:b'=b:=by injection eb' with eb';exact(List.map_inj_right (fun a b h=>by injection h)).mp eb'
     subst this;exact⟨b',hb',(hb i hi).mpr t⟩
 cases n with
 | zero=>
  rcases hw with e|⟨x,e⟩
  ·exact hany 0 e
  ·exact htxt 0 x e
 | succ m=>
  rcases hw with e|⟨x,e⟩|⟨ss,e,l0,l1,hss⟩|⟨ws,e,l1,hws⟩|⟨ws,e,l1,hws⟩
  ·exact hany _ e
  ·exact htxt _ x e
  ·obtain⟨bs,eb,hb,hbs⟩:=hst m ss rfl e hss (by omega)
   refine⟨bs,?_,hb,fun i hi =>?_⟩
   ·unfold g_wish_marks;refine runD_eq (o :=.rt (.lst (mk bs))) rfl ?_ rfl;rw[nany sHas _ e (fun z=>nAH z.symm),ntxt sHas _ e (fun z=>nTH z.symm)]
    have:sIf (tB1 (e2 oEq (e2 oIx (eV 1) (eK (.int 0))) (eK (.str (Str.ofString "has"))))) (sRet (eCall Fst (aC (eV 0) (aC (e2 oIx (eV 1) (eK (.int 1))) aN)))) sNil (startD 4 [lyD "Layout" y,w])=some (.rt (.lst (mk bs))):=by
     subst e;rw[sIf_t (by exact tB1_eq (b:=true) (by show some (D.bl (sHas==sHas))=_;simp))]
     exact sRet_eq eb
    simp only[sSeq,this,zA]
   ·rw[hbs i hi,e,hw_has]
  ·obtain⟨bs,eb,hb,hbs⟩:=hlist m true ws rfl e l1 hws;refine⟨bs,eb,hb,fun i hi =>?_⟩
   rw[hbs i hi,e,hw_both];simp
  ·obtain⟨bs,eb,hb,hbs⟩:=hlist m false ws rfl e l1 hws;refine⟨bs,eb,hb,fun i hi =>?_⟩
   rw[hbs i hi,e,hw_one];simp
theorem marks_ok:∀ (n:Nat),
  (∀ (fuel:Nat) (w:D),3*n+1≤fuel→WfW n w→∃ bs,Fr_wish_marks fuel [lyD "Layout" y,w]=some (.lst (mk bs))∧bs.length=y.names.length∧∀ i,i<y.names.length→(Tr bs i↔HW y n w i)) ∧
  (∀ (fuel:Nat) (way nm:Str) (w:D),3*n+2≤fuel→WfW n w→∃ cs,Fr_fit_marks fuel [lyD "Layout" y,stepD way nm w]=some (.lst (mk cs))∧cs.length=y.names.length∧∀ i,i<y.names.length→(Tr cs i↔Nmd y nm i∧HW y n w i)):=by
 have fit:∀ n,(∀ (fuel:Nat) (w:D),3*n+1≤fuel→WfW n w→∃ bs,Fr_wish_marks fuel [lyD "Layout" y,w]=some (.lst (mk bs))∧bs.length=y.names.length∧∀ i,i<y.names.length→(Tr bs i↔HW y n w i)) →
   (∀ (fuel:Nat) (way nm:Str) (w:D),3*n+2≤fuel→WfW n w→∃ cs,Fr_fit_marks fuel [lyD "Layout" y,stepD way nm w]=some (.lst (mk cs))∧cs.length=y.names.length∧∀ i,i<y.names.length→(Tr cs i↔Nmd y nm i∧HW y n w i)):=by
  intro n hn fuel way nm w hf hw;cases fuel with
  | zero=>omega
  | succ f=>
   rw[Fr_fit_marks];obtain⟨bs,eb,hb,hbs⟩:=hn f w (by omega) hw
   obtain⟨cs,ec,hc,hcs⟩:=fit_step h hN (Fst:=Fr_start_marks f) (Ff:=Fr_fit_marks f) (way:=way) (nm:=nm) eb hb;refine⟨cs,ec,hc,fun i hi =>?_⟩
   rw[hcs i,hbs i hi]
 intro n
 induction n with
 | zero=>
  have h1:(∀ (fuel:Nat) (w:D),3*0+1≤fuel→WfW 0 w→∃ bs,Fr_wish_marks fuel [lyD "Layout" y,w]=some (.lst (mk bs))∧bs.length=y.names.length∧∀ i,i<y.names.length→(Tr bs i↔HW y 0 w i)):=by
   intro fuel w hf hw;cases fuel with
   | zero=>omega
   | succ f=>rw[Fr_wish_marks];exact wish_marks_step h hN hw (fun m ss e=>by cases e) (fun m v e=>by cases e)
  exact⟨h1,fit 0 h1⟩
 | succ m ih=>
  have h1:(∀ (fuel:Nat) (w:D),3*(m+1)+1≤fuel→WfW (m+1) w→∃ bs,Fr_wish_marks fuel [lyD "Layout" y,w]=some (.lst (mk bs))∧bs.length=y.names.length∧∀ i,i<y.names.length→(Tr bs i↔HW y (m+1) w i)):=by
   intro fuel w hf hw;cases fuel with
   | zero=>omega
   | succ f=>
    rw[Fr_wish_marks];refine wish_marks_step h hN hw (fun k ss e _ hss hl =>?_) (fun k v e hv =>?_)
    ·cases e;cases f with
     | zero=>omega
     | succ f=>rw[Fr_start_marks];exact start_step h hN hss hl fun way nm w hw=>ih.2 f way nm w (by omega) hw
    ·cases e;exact ih.1 f v (by omega) hv
  exact⟨h1,fit (m+1) h1⟩
end
end K05
end
noncomputable section
namespace K05
open PySem L2
theorem zero_lc (N:Nat):∃ bs:List Bool,lcD [none] (gN 0) tYes (e2 oEq (eV 0) (eK (.int 0))) (rngD 0 N)=some (mk bs)∧bs.length=N∧∀ i,i<N→(Tr bs i↔i=0):=by
 refine⟨(List.range N).map fun i=>decide (i=0),?_,by simp,fun i hi =>?_⟩
 ·rw[lc_all (h:=fun d=>match d with|.int z =>.bl (z==0)|d=>d) (fun d hd=>by obtain⟨j,hj⟩:=List.mem_iff_getElem?.mp hd;obtain⟨_,rfl⟩:=rngD_get hj;exact⟨_,rfl,rfl⟩)]
  unfold rngD;rw[List.map_map];show _=some (List.map D.bl _);rw[List.map_map]
  congr 1
  apply List.map_congr_left;intro a _;show D.bl ((0+(a:Int))==0)=D.bl (decide (a=0))
  congr 1
  rw[Int.zero_add];cases a<;>simp
  omega
 ·show ((List.range N).map fun i=>decide (i=0))[i]?=some true↔_
  rw[zM,List.getElem?_range hi];simp
end K05
end
noncomputable section
namespace K05
open PySem L2
theorem for_any {τ:DTg}{g:DG}{P:D→Prop}{I:DEnv→Prop}{r:D}:∀ {ds:List D},(∀ d∈ds,∀ ρ,I ρ→∃ ρ1,τ d ρ=some ρ1∧((P d∧g ρ1=some (.rt r))∨(¬ P d∧∃ ρ2,g ρ1=some (.nx ρ2)∧I ρ2)))→∀ ρ,I ρ →
  (((∃ d∈ds,P d)∧forD τ g ds ρ=some (.rt r))∨((∀ d∈ds,¬ P d)∧∃ ρ',forD τ g ds ρ=some (.nx ρ')∧I ρ'))
 | [],_,ρ,hI =>.inr ⟨fun d h=>(by cases h),ρ,rfl,hI⟩
 | d::ds,st,ρ,hI=>by
  obtain⟨ρ1,e1,⟨p,e2⟩|⟨np,ρ2,e2,hI2⟩⟩:=st d zD ρ hI
  ·left;refine⟨⟨d,zD,p⟩,?_⟩;simp only[forD,e1,zA,e2]
  ·rcases for_any (ds:=ds) (fun d hd=>st d (zB _ hd)) ρ2 hI2 with ⟨⟨d',hd',p'⟩,e⟩|⟨h,ρ',e,hI'⟩
   ·left;refine⟨⟨d',zB _ hd',p'⟩,?_⟩;simp only[forD,e1,zA,e2];exact e
   ·right;refine⟨fun d' hd' =>?_,ρ',?_,hI'⟩
    ·rcases zG.mp hd' with rfl|hd'
     ·exact np
     ·exact h d' hd'
    ·simp only[forD,e1,zA,e2];exact e
theorem lc_filter {ρ:DEnv}{τ:DTg}{ft:DT}{fe:DF}{P:D→Prop}:∀ {ds:List D},(∀ d∈ds,∃ ρ1 b,τ d ρ=some ρ1∧ft ρ1=some b∧(b=true↔P d)∧fe ρ1=some d)→∃ rs,lcD ρ τ ft fe ds=some rs∧rs.length≤ds.length∧(rs.length=ds.length↔∀ d∈ds,P d)∧(0<rs.length↔∃ d∈ds,P d)
 | [],_=>⟨[],rfl,zL _,by simp,by simp⟩
 | d::ds,h=>by
  obtain⟨ρ1,b,e1,e2,hb,e3⟩:=h d zD;obtain⟨rs,er,hl,ha,he⟩:=lc_filter (P:=P) fun d hd=>h d (zB _ hd)
  cases b with
  | true=>
   have pd:=hb.mp rfl;refine⟨d::rs,?_,by simp;omega,?_,?_⟩
   ·simp only[lcD,e1,zA,e2,if_true,e3,er,zT]
   ·simp only[zP,Nat.add_right_cancel_iff,ha]
    constructor
    ·intro q x hx;rcases zG.mp hx with rfl|hx
     ·exact pd
     ·exact q x hx
    ·intro q x hx;exact q x (zB _ hx)
   ·simp only[zP];exact⟨fun _=>⟨d,zD,pd⟩,fun _=>by omega⟩
  | false=>
   have npd:¬ P d:=fun z=>by have:=hb.mpr z;cases this
   refine⟨rs,?_,by simp;omega,?_,?_⟩
   ·simp only[lcD,e1,zA,e2,Bool.false_eq_true,if_false,er]
   ·constructor
    ·intro q;simp only[zP] at q;omega
    ·intro q;exact absurd (q d zD) npd
   ·rw[he]
    constructor
    ·rintro⟨x,hx,p⟩;exact⟨x,zB _ hx,p⟩
    ·rintro⟨x,hx,p⟩;rcases zG.mp hx with rfl|hx
     ·exact absurd p npd
     ·exact⟨x,hx,p⟩
theorem isS_str (x:Str):isT "str" (.str x)=true:=rfl
theorem isS_tup (ds:List D):isT "str" (.tup ds)=false:=by show (("str" : String) == "tuple")=false;decide
theorem copy_row_ok:∀ (fuel n:Nat) (its:List D),n+1≤fuel→(∀ e∈its,Itm n e)→(∀ e∈its,Sz 900 e)→its.length≤900→Fr_copy_row fuel [.lst its]=some (.lst its)
 | 0,n,its,hf,_,_,_=>by omega
 | f+1,n,its,hf,hi,hz,hl=>by
  rw[Fr_copy_row];unfold g_copy_row;refine runD_eq (o :=.ro its) rfl (sRetF_eq (fLC_eq (iL_eq (ds:=its) rfl) (by rw[bigE_eq];omega) ?_)) rfl
  rw[lc_all (h:=fun d=>d) (fun d hd=>by
   refine⟨_,rfl,?_⟩;rcases hi d hd with ⟨x,rfl⟩|hp
   ·rfl
   ·cases n with
    | zero=>exact hp.elim
    | succ n=>
     obtain⟨nm,its',rfl,hi'⟩:=hp;have hs:=(hz _ hd).item;have ih:=copy_row_ok f n its' (by omega) hi' hs.2 (by omega)
     show (eIfE (tTru (eIs "str" (eV 0))) (eV 0) (eTup (aC (e2 oIx (eV 0) (eK (.int 0))) (aC (eCall (Fr_copy_row f) (aC (e2 oIx (eV 0) (eK (.int 1))) aN)) aN)))) [some (prtD nm its')]=_;have e1:tTru (eIs "str" (eV 0)) [some (prtD nm its')]=some false:=by show some (isT "str" (prtD nm its'))=_;rw[isS_tup]
     have e2':eCall (Fr_copy_row f) (aC (e2 oIx (eV 0) (eK (.int 1))) aN) [some (prtD nm its')]=some (.lst its'):=by show Fr_copy_row f [.lst its']=_;exact ih
     simp only[eIfE,eTup,aC,aN];rw[e1,e2']
     rfl)]
  simp
theorem copy_wish_ok:∀ (n:Nat),(∀ (fuel:Nat) (w:D),2*n+1≤fuel→WfW n w→Fr_copy_wish fuel [w]=some w)∧(∀ (fuel:Nat) (ss:List D),2*n+2≤fuel→(∀ s∈ss,WfS n s)→ss.length≤100→Fr_copy_steps fuel [.lst ss]=some (.lst ss)):=by
 have steps:∀ n,(∀ (fuel:Nat) (w:D),2*n+1≤fuel→WfW n w→Fr_copy_wish fuel [w]=some w)→∀ (fuel:Nat) (ss:List D),2*n+2≤fuel→(∀ s∈ss,WfS n s)→ss.length≤100→Fr_copy_steps fuel [.lst ss]=some (.lst ss):=by
  intro n hw fuel ss hf hs hl;cases fuel with
  | zero=>omega
  | succ f=>
   rw[Fr_copy_steps];unfold g_copy_steps;refine runD_eq (o :=.ro ss) rfl (sRetF_eq (fLC_eq (iL_eq (ds:=ss) rfl) (by rw[bigE_eq];omega) ?_)) rfl
   rw[lc_all (h:=fun d=>d) (fun d hd=>by
    obtain⟨way,nm,w,rfl,_,hww⟩:=hs d hd;refine⟨_,rfl,?_⟩;have e1:eCall (Fr_copy_wish f) (aC (eV 2) aN) [some (.str way),some (.str nm),some w]=some w:=hw f w (by omega) hww
    show (eTup (aC (eV 0) (aC (eV 1) (aC (eCall (Fr_copy_wish f) (aC (eV 2) aN)) aN)))) [some (.str way),some (.str nm),some w]=_;simp only[eTup,aC,aN];rw[e1]
    rfl)]
   simp
 have nolist:∀ (f:Nat) (w:D) (k:Str) (r:List D),w=.tup (.str k::r)→k≠sHas→k≠sBoth→k≠sOne→Fr_copy_wish (f+1) [w]=some w:=by
  intro f w k r e h1 h2 h3;rw[Fr_copy_wish];unfold g_copy_wish;subst e;refine runD_eq (o :=.rt (.tup (.str k::r))) rfl ?_ rfl;have t1:sIf (tB1 (e2 oEq (e2 oIx (eV 0) (eK (.int 0))) (eK (.str (Str.ofString "has"))))) (sRet (eTup (aC (eK (.str (Str.ofString "has"))) (aC (eCall (Fr_copy_steps f) (aC (e2 oIx (eV 0) (eK (.int 1))) aN)) aN)))) sNil (startD 1 [.tup (.str k::r)])=some (.nx (startD 1 [.tup (.str k::r)])):=by
   rw[sIf_f (by exact tB1_eq (b:=false) (by
    rw[e2_eq (x :=.str k) (y :=.str sHas) (by show atI (D.str k::r) 0=_;exact atN (i:=0) rfl) rfl]
    show some (D.bl (k==sHas))=_;simp[h1]))]
   rfl
  have t2:sIf (tB1 (e2 (oIn false) (e2 oIx (eV 0) (eK (.int 0))) (eTup (aC (eK (.str (Str.ofString "both"))) (aC (eK (.str (Str.ofString "one"))) aN))))) (sRet (eTup (aC (e2 oIx (eV 0) (eK (.int 0))) (aC (eF (fLC (iL (e2 oIx (eV 0) (eK (.int 1)))) [none] (gN 0) tYes (eCall (Fr_copy_wish f) (aC (eV 0) aN)))) aN)))) sNil (startD 1 [.tup (.str k::r)])=some (.nx (startD 1 [.tup (.str k::r)])):=by
   rw[sIf_f (by exact tB1_eq (b:=false) (by
    rw[e2_eq (x :=.str k) (y :=.tup [.str sBoth,.str sOne]) (by show atI (D.str k::r) 0=_;exact atN (i:=0) rfl) rfl]
    show some (D.bl ((sBoth==k)||((sOne==k)||false)))=_;have a:(sBoth==k)=false:=by simp;exact fun z=>h2 z.symm
    have b:(sOne==k)=false:=by simp;exact fun z=>h3 z.symm
    rw[a,b];rfl))]
   rfl
  rw[sSeq_nx t1,sSeq_nx t2]
  rfl
 intro n
 induction n with
 | zero=>
  have h1:∀ (fuel:Nat) (w:D),2*0+1≤fuel→WfW 0 w→Fr_copy_wish fuel [w]=some w:=by
   intro fuel w hf hw;cases fuel with
   | zero=>omega
   | succ f=>
    rcases hw with rfl|⟨x,rfl⟩
    ·exact nolist f _ sAny [] rfl nAH nAB nAO
    ·exact nolist f _ sTxt [.str x] rfl nTH nTB nTO
  exact⟨h1,steps 0 h1⟩
 | succ m ih=>
  have h1:∀ (fuel:Nat) (w:D),2*(m+1)+1≤fuel→WfW (m+1) w→Fr_copy_wish fuel [w]=some w:=by
   intro fuel w hf hw;cases fuel with
   | zero=>omega
   | succ f=>
    have hlist:∀ k ws,(k=sBoth∨k=sOne)→w=.tup [.str k,.lst ws]→ws.length≤100→(∀ v∈ws,WfW m v)→Fr_copy_wish (f+1) [w]=some w:=by
     intro k ws hk e hl hws;rw[Fr_copy_wish];unfold g_copy_wish;subst e;refine runD_eq (o :=.rt (.tup [.str k,.lst ws])) rfl ?_ rfl;have hkh:k≠sHas:=by rcases hk with rfl|rfl;exact fun z=>nHB z.symm;exact fun z=>nHO z.symm
     have t1:sIf (tB1 (e2 oEq (e2 oIx (eV 0) (eK (.int 0))) (eK (.str (Str.ofString "has"))))) (sRet (eTup (aC (eK (.str (Str.ofString "has"))) (aC (eCall (Fr_copy_steps f) (aC (e2 oIx (eV 0) (eK (.int 1))) aN)) aN)))) sNil (startD 1 [.tup [.str k,.lst ws]])=some (.nx (startD 1 [.tup [.str k,.lst ws]])):=by
      rw[sIf_f (by exact tB1_eq (b:=false) (by show some (D.bl (k==sHas))=_;simp[hkh]))]
      rfl
     rw[sSeq_nx t1];have lc:lcD [none] (gN 0) tYes (eCall (Fr_copy_wish f) (aC (eV 0) aN)) ws=some ws:=by
      have:=lc_all (ρ:=[none]) (τ:=gN 0) (fe:=eCall (Fr_copy_wish f) (aC (eV 0) aN)) (h:=fun d=>d) (ds:=ws) (fun d hd=>⟨[some d],rfl,ih.1 f d (by omega) (hws d hd)⟩)
      rw[this];simp
     have t2:sIf (tB1 (e2 (oIn false) (e2 oIx (eV 0) (eK (.int 0))) (eTup (aC (eK (.str (Str.ofString "both"))) (aC (eK (.str (Str.ofString "one"))) aN))))) (sRet (eTup (aC (e2 oIx (eV 0) (eK (.int 0))) (aC (eF (fLC (iL (e2 oIx (eV 0) (eK (.int 1)))) [none] (gN 0) tYes (eCall (Fr_copy_wish f) (aC (eV 0) aN)))) aN)))) sNil (startD 1 [.tup [.str k,.lst ws]])=some (.rt (.tup [.str k,.lst ws])):=by
      rw[sIf_t (by exact tB1_eq (b:=true) (by show some (D.bl ((sBoth==k)||((sOne==k)||false)))=_;rcases hk with rfl|rfl<;>simp))]
      refine sRet_eq ?_;have e1:eF (fLC (iL (e2 oIx (eV 0) (eK (.int 1)))) [none] (gN 0) tYes (eCall (Fr_copy_wish f) (aC (eV 0) aN))) (startD 1 [.tup [.str k,.lst ws]])=some (.lst ws):=eF_eq (fLC_eq (iL_eq (ds:=ws) rfl) (by rw[bigE_eq];omega) lc)
      simp only[eTup,aC,aN];rw[e1]
      rfl
     simp only[sSeq,t2,zA]
    rcases hw with rfl|⟨x,rfl⟩|⟨ss,rfl,_,l1,hss⟩|⟨ws,rfl,l1,hws⟩|⟨ws,rfl,l1,hws⟩
    ·exact nolist f _ sAny [] rfl nAH nAB nAO
    ·exact nolist f _ sTxt [.str x] rfl nTH nTB nTO
    ·rw[Fr_copy_wish];unfold g_copy_wish;refine runD_eq (o :=.rt (wHas ss)) rfl ?_ rfl;have t1:sIf (tB1 (e2 oEq (e2 oIx (eV 0) (eK (.int 0))) (eK (.str (Str.ofString "has"))))) (sRet (eTup (aC (eK (.str (Str.ofString "has"))) (aC (eCall (Fr_copy_steps f) (aC (e2 oIx (eV 0) (eK (.int 1))) aN)) aN)))) sNil (startD 1 [wHas ss])=some (.rt (wHas ss)):=by
      rw[sIf_t (by exact tB1_eq (b:=true) (by show some (D.bl (sHas==sHas))=_;simp))]
      refine sRet_eq ?_;have e1:eCall (Fr_copy_steps f) (aC (e2 oIx (eV 0) (eK (.int 1))) aN) (startD 1 [wHas ss])=some (.lst ss):=ih.2 f ss (by omega) hss (by omega)
      simp only[eTup,aC,aN];rw[e1]
      rfl
     simp only[sSeq,t1,zA]
    ·exact hlist sBoth ws (.inl rfl) rfl l1 hws
    ·exact hlist sOne ws (.inr rfl) rfl l1 hws
  exact⟨h1,steps (m+1) h1⟩
theorem addL {xs ys:List D}(h:xs.length+ys.length≤bigE):oAdd (.lst xs) (.lst ys)=some (.lst (xs++ys)):=by simp[oAdd,h]
theorem within_ok:∀ (fuel n:Nat) (d:D),n≤fuel→PtN n d→SzN 900 d→Fr_within fuel [d]=some (.lst (sbsN n d))
 | fuel,0,d,hf,hp,hz=>hp.elim
 | 0,n+1,d,hf,hp,hz=>by omega
 | f+1,n+1,d,hf,hp,hz=>by
  have hsl:=(hz.sbs hp).1;obtain⟨nm,its,⟨k0,rfl⟩,hi⟩:=hp;have hs:=hz.item;rw[sbsN_prt] at hsl;rw[Fr_within];unfold g_within;obtain⟨ρ',ef,v2,rfl⟩:=for_inv0 (τ:=gN 2) (g:=b_within_1 (Fr_within f)) (ds:=its) (fun j ρ=>∃ (v2:Option D),ρ=[some (prtN nm its k0),some (.lst ((ptsI (its.take j)).flatMap fun e=>e::sbsN n e)),v2])
   (ρ:=[some (prtN nm its k0),some (.lst []),none]) ⟨none,rfl⟩ (by
   rintro j e ρ he ⟨v2,rfl⟩;have hmem:=zX he;have ht:its.take (j+1)=its.take j++[e]:=by rw[List.take_add_one,he];rfl
   rcases hi e hmem with ⟨x,rfl⟩|hpe
   ·refine⟨_,[some (prtN nm its k0),some (.lst ((ptsI (its.take j)).flatMap fun e=>e::sbsN n e)),some (.str x)],rfl,?_,some (.str x),?_⟩
    ·unfold b_within_1;rw[sIf_f (by show (some (isT "str" (.str x))).map (fun c=> !c)=_;rw[isS_str];rfl)]
     rfl
    ·have hfl:(ptsI (its.take (j+1))).flatMap (fun e=>e::sbsN n e)=(ptsI (its.take j)).flatMap (fun e=>e::sbsN n e):=by rw[ht];simp[ptsI,isStrD]
     rw[hfl]
   ·have hns:=hpe.notStr;have ih:=within_ok f n e (by omega) hpe (hs.2 e hmem)
    have hfl:(ptsI (its.take (j+1))).flatMap (fun e=>e::sbsN n e)=(ptsI (its.take j)).flatMap (fun e=>e::sbsN n e)++[e]++sbsN n e:=by rw[ht];simp[ptsI,hns]
    have hle:((ptsI (its.take (j+1))).flatMap (fun e=>e::sbsN n e)).length≤900:=by have:its=its.take (j+1)++its.drop (j+1):=(List.take_append_drop _ _).symm;rw[this] at hsl;simp only[ptsI,List.filter_append,List.flatMap_append,List.length_append] at hsl ⊢;omega
    rw[hfl] at hle;simp only[List.length_append,zP,List.length_nil] at hle;refine⟨_,[some (prtN nm its k0),some (.lst ((ptsI (its.take (j+1))).flatMap fun e=>e::sbsN n e)),some e],rfl,?_,_,rfl⟩
    unfold b_within_1;have et:(tNotD (tTru (eIs "str" (eV 2)))) [some (prtN nm its k0),some (.lst ((ptsI (its.take j)).flatMap fun e=>e::sbsN n e)),some e]=some true:=by
     cases n with
     | zero=>exact hpe.elim
     | succ n=>
      obtain⟨nm',its',⟨k1,rfl⟩,_⟩:=hpe;show (some (isT "str" (prtN nm' its' k1))).map (fun c=> !c)=_
      rw[isS_tup];rfl
    rw[hfl];refine(sIf_t et).trans ?_;refine(sSet_eq (d :=.lst ((ptsI (its.take j)).flatMap (fun e=>e::sbsN n e)++[e]++sbsN n e)) ?_).trans rfl
    have e1:e2 oAdd (eV 1) (eF (eLst (aC (eV 2) aN))) [some (prtN nm its k0),some (.lst ((ptsI (its.take j)).flatMap fun e=>e::sbsN n e)),some e]=some (.lst ((ptsI (its.take j)).flatMap (fun e=>e::sbsN n e)++[e])):=by show oAdd (.lst _) (.lst [e])=_;exact addL (by rw[bigE_eq];simp only[zP,List.length_nil];omega)
    have e2':eCall (Fr_within f) (aC (eV 2) aN) [some (prtN nm its k0),some (.lst ((ptsI (its.take j)).flatMap fun e=>e::sbsN n e)),some e]=some (.lst (sbsN n e)):=ih
    rw[e2_eq e1 e2'];exact addL (by rw[bigE_eq];simp only[List.length_append,zP,List.length_nil];omega))
  refine runD_eq (o :=.rt (.lst ((ptsI its).flatMap fun e=>e::sbsN n e))) rfl ?_ rfl
  refine(sSeq_nx (sSet_eq (d :=.lst []) rfl)).trans ?_;refine(sSeq_nx (sFor_eq (ds:=its) (ρ:=[some (prtN nm its k0),some (.lst []),none]) rfl ef)).trans ?_;rw[List.take_length]
  rfl
theorem pts_lc {n:Nat}:∀ {its:List D},(∀ e∈its,ItmN n e)→lcD [none] (gN 0) (tNotD (tTru (eIs "str" (eV 0)))) (eV 0) its=some (ptsI its)
 | [],_=>rfl
 | e::its,h=>by
  have ih:=pts_lc (its:=its) fun e he=>h e (zB _ he)
  rcases h e zD with ⟨x,rfl⟩|hp
  ·have:tNotD (tTru (eIs "str" (eV 0))) [some (.str x)]=some false:=by show (some (isT "str" (.str x))).map (fun c=> !c)=_;rw[isS_str];rfl
   simp only[lcD,gN,List.set_cons_zero,zA];rw[this];simp only[zA,Bool.false_eq_true,if_false];rw[ih];simp[ptsI,isStrD]
  ·have hns:=hp.notStr;have:tNotD (tTru (eIs "str" (eV 0))) [some e]=some true:=by
    cases n with
    | zero=>exact hp.elim
    | succ n=>
     obtain⟨nm',its',⟨k1,rfl⟩,_⟩:=hp;show (some (isT "str" (prtN nm' its' k1))).map (fun c=> !c)=_
     rw[isS_tup];rfl
   simp only[lcD,gN,List.set_cons_zero,zA];rw[this];simp only[zA,if_true];rw[ih];show some (e::ptsI its)=some (ptsI (e::its));simp[ptsI,hns]
theorem lbelow_ok {n:Nat}(hn:n≤12){d:D}(hp:PtN n d) (hz:SzN 900 d) (way:Str):F_below [d,.str way]=some (.lst (blwN n way d)):=by
 have hw:=within_ok 12 n d hn hp hz;cases n with
 | zero=>exact hp.elim
 | succ n=>
  obtain⟨nm,its,⟨k0,rfl⟩,hi⟩:=hp;have hs:=hz.item;unfold F_below g_below blwN;by_cases h:way=sOwn
  ·rw[if_pos h];refine runD_eq (o :=.ro (ptsI its)) rfl ?_ rfl;have t1:sIf (tB1 (e2 oEq (eV 1) (eK (.str (Str.ofString "own"))))) (sRetF (fLC (iL (e2 oIx (eV 0) (eK (.int 1)))) [none] (gN 0) (tNotD (tTru (eIs "str" (eV 0)))) (eV 0))) sNil (startD 2 [prtN nm its k0,.str way])=some (.ro (ptsI its)):=by
    rw[sIf_t (by exact tB1_eq (b:=true) (by show some (D.bl (way==sOwn))=_;simp[h]))]
    exact sRetF_eq (fLC_eq (iL_eq (ds:=its) rfl) (by rw[bigE_eq];omega) (pts_lc hi))
   simp only[sSeq,t1,zA]
  ·rw[if_neg h];refine runD_eq (o :=.rt (.lst (sbsN (n+1) (prtN nm its k0)))) rfl ?_ rfl;have t1:sIf (tB1 (e2 oEq (eV 1) (eK (.str (Str.ofString "own"))))) (sRetF (fLC (iL (e2 oIx (eV 0) (eK (.int 1)))) [none] (gN 0) (tNotD (tTru (eIs "str" (eV 0)))) (eV 0))) sNil (startD 2 [prtN nm its k0,.str way])=some (.nx (startD 2 [prtN nm its k0,.str way])):=by
    rw[sIf_f (by exact tB1_eq (b:=false) (by show some (D.bl (way==sOwn))=_;simp[h]))]
    rfl
   rw[sSeq_nx t1];exact sRet_eq hw
end K05
end
noncomputable section
namespace K05
open PySem L2
theorem in_items {n:Nat}{x:Str}{its:List D}(h:∀ e∈its,ItmN n e) (hn:n≤80):∃ b,oInD false (.str x) (.lst its)=some (.bl b)∧(b=true↔D.str x∈strsI its):=by
 refine⟨its.any fun y=>deq y (.str x),?_,?_⟩
 ·simp only[oInD];rw[if_pos (by rw[items_dOksN h 170 (by omega)];rfl)]
  rfl
 ·rw[List.any_eq_true]
  constructor
  ·rintro⟨e,he,q⟩;rcases h e he with ⟨z,rfl⟩|hp
   ·have q:(z==x)=true:=q;have:z=x:=by simpa using q
    subst this;exact List.mem_filter.mpr ⟨he,rfl⟩
   ·cases n with
    | zero=>exact hp.elim
    | succ n=>obtain⟨nm,its',⟨k0,rfl⟩,_⟩:=hp;have q:false=true:=q;cases q
  ·intro hx;have:=(List.mem_filter.mp hx).1;refine⟨.str x,this,?_⟩;show (x==x)=true;simp
theorem szN_blw {n:Nat}{d:D}(hz:SzN 900 d) (hp:PtN n d) (way:Str):∀ e∈blwN n way d,SzN 900 e:=by
 intro e he;unfold L2.blwN at he
 split at he
 ·cases n with
  | zero=>exact hp.elim
  | succ n=>obtain⟨nm,its,⟨k0,rfl⟩,hi⟩:=hp;have he:e∈ptsI its:=he;exact hz.item.2 e (List.mem_filter.mp he).1
 ·exact(hz.mem_subs hp e he).1
theorem steps_nil {n:Nat}{ss:List D}(h:∀ s∈ss,WfS n s) (hn:n≤20):oEq (.lst ss) (.lst [])=some (.bl ss.isEmpty):=by
 have h1:dOk (.lst ss) 180=true:=dOk_lst (by
  have:∀ l:List D,(∀ s∈l,WfS n s)→dOks l 179=true:=by
   intro l
   induction l with
   | nil=>intro _;rfl
   | cons s l ih=>
    intro hl;obtain⟨way,nm,w,rfl,_,hw⟩:=hl s zD;simp only[dOks,Bool.and_eq_true];refine⟨?_,ih fun e he=>hl e (zB _ he)⟩
    simp only[L2.dOk,dOks];rw[show 179-1=178 by rfl,hw.dOk 178 (by omega)]
    rfl
  exact this ss h)
 simp only[oEq];rw[if_pos (by rw[h1];rfl)]
 cases ss<;>rfl
noncomputable section
variable {y:Ly}{lo hi m:Nat}(hm:m≤12)
include hm
theorem leads_step {n f:Nat}(hn:n≤20){way nm:Str}{w:D}{rest:List D}(hway:way=sInner∨way=sOwn) (hws:WfW n w) (hr:∀ s∈rest,WfS n s) (hrl:rest.length≤100)
  (hh:∀ (d:D) (i:Nat),TreeN y lo hi m i d→SzN 900 d→∃ b,Fr_holds f [d,w]=some (.bl b)∧(b=true↔HW y n w i))
  (hl:∀ (d:D) (i:Nat),TreeN y lo hi m i d→SzN 900 d→∃ b,Fr_leads f [d,.lst rest]=some (.bl b)∧(b=true↔∃ j,AnF y (HW y n) rest i j))
  {d:D}{i:Nat}(ht:TreeN y lo hi m i d) (hz:SzN 900 d):∃ b,Fr_leads (f+1) [d,.lst (stepD way nm w::rest)]=some (.bl b)∧(b=true↔∃ j,AnF y (HW y n) (stepD way nm w::rest) i j):=by
 have hall:∀ s∈stepD way nm w::rest,WfS n s:=fun s hs=>by
  rcases zG.mp hs with rfl|hs
  ·exact⟨way,nm,w,rfl,hway,hws⟩
  ·exact hr s hs
 have e0:=steps_nil hall hn;have hb:=lbelow_ok hm ht.ok hz way;obtain⟨r1,r2⟩:=ht.reach hway;have hzb:=szN_blw hz ht.ok way
 let P:D→Prop:=fun e=>(∃ x its k0,e=prtN x its k0∧(nm=sStar∨nm=x))∧Fr_holds f [e,w]=some (.bl true)∧Fr_leads f [e,.lst rest]=some (.bl true)
 have hcut:cut (stepD way nm w::rest) (some 1) none=rest:=by rw[cut_from _ (by decide)];rfl
 have loop:=for_any (τ:=gN 5) (g:=b_leads_1 (Fr_holds f) (Fr_leads f)) (P:=P) (I:=fun ρ=>∃ v5,ρ=[some d,some (.lst (stepD way nm w::rest)),some (.str way),some (.str nm),some w,v5]) (r :=.bl true) (ds:=blwN m way d) (by
  rintro e he ρ ⟨v5,rfl⟩;obtain⟨j,hj,tj⟩:=r1 e he;obtain⟨bh,eh,hbh⟩:=hh e j tj (hzb e he);obtain⟨bl,el,hbl⟩:=hl e j tj (hzb e he);refine⟨[some d,some (.lst (stepD way nm w::rest)),some (.str way),some (.str nm),some w,some e],rfl,?_⟩;cases m with
  | zero=>exact tj.elim
  | succ m=>
   obtain⟨x,its,⟨k0,rfl⟩,hits⟩:=tj.ok;have t1:tB1 (e2 (oIn false) (eV 3) (eTup (aC (eK (.str (Str.ofString "*"))) (aC (e2 oIx (eV 5) (eK (.int 0))) aN)))) [some d,some (.lst (stepD way nm w::rest)),some (.str way),some (.str nm),some w,some (prtN x its k0)]=some ((sStar==nm)||((x==nm)||false)):=tB1_eq rfl;have t2:tTru (eCall (Fr_holds f) (aC (eV 5) (aC (eV 4) aN))) [some d,some (.lst (stepD way nm w::rest)),some (.str way),some (.str nm),some w,some (prtN x its k0)]=some bh:=by show (Fr_holds f [prtN x its k0,w]).bind _=_;rw[eh];rfl
   have t3:tTru (eCall (Fr_leads f) (aC (eV 5) (aC (eF (fSl (eV 1) (pS (eK (.int 1))) pN)) aN))) [some d,some (.lst (stepD way nm w::rest)),some (.str way),some (.str nm),some w,some (prtN x its k0)]=some bl:=by show (Fr_leads f [prtN x its k0,.lst (cut (stepD way nm w::rest) (some 1) none)]).bind _=_;rw[hcut,el];rfl
   have tt:(tAndD (tB1 (e2 (oIn false) (eV 3) (eTup (aC (eK (.str (Str.ofString "*"))) (aC (e2 oIx (eV 5) (eK (.int 0))) aN))))) (tAndD (tTru (eCall (Fr_holds f) (aC (eV 5) (aC (eV 4) aN)))) (tTru (eCall (Fr_leads f) (aC (eV 5) (aC (eF (fSl (eV 1) (pS (eK (.int 1))) pN)) aN)))))) [some d,some (.lst (stepD way nm w::rest)),some (.str way),some (.str nm),some w,some (prtN x its k0)]=some (((sStar==nm)||((x==nm)||false))&&(bh&&bl)):=by simp only[tAndD];rw[t1,t2,t3];cases ((sStar==nm)||((x==nm)||false))<;>cases bh<;>rfl
   have hP:P (prtN x its k0)↔(((sStar==nm)||((x==nm)||false))&&(bh&&bl))=true:=by
    show ((∃ x' its' k',prtN x its k0=prtN x' its' k'∧(nm=sStar∨nm=x'))∧_∧_)↔_;rw[eh,el];simp only[Bool.and_eq_true,Bool.or_eq_true,beq_iff_eq,Bool.or_false,Option.some.injEq,D.bl.injEq]
    constructor
    ·rintro⟨⟨x',its',k',e,h⟩,h2,h3⟩;injection e with e;injection e with e1 e;injection e1 with e1;subst e1;refine⟨?_,h2,h3⟩;rcases h with h|h
     ·exact .inl h.symm
     ·exact .inr h.symm
    ·rintro⟨h,h2,h3⟩;refine⟨⟨x,its,k0,rfl,?_⟩,h2,h3⟩;rcases h with h|h
     ·exact .inl h.symm
     ·exact .inr h.symm
   by_cases hv:(((sStar==nm)||((x==nm)||false))&&(bh&&bl))=true
   ·left;refine⟨hP.mpr hv,?_⟩;unfold b_leads_1;rw[sIf_t (by rw[tt,hv])];rfl
   ·right;refine⟨fun z=>hv (hP.mp z),[some d,some (.lst (stepD way nm w::rest)),some (.str way),some (.str nm),some w,some (prtN x its k0)],?_,_,rfl⟩
    unfold b_leads_1;have hv':(((sStar==nm)||((x==nm)||false))&&(bh&&bl))=false:=by simpa using hv
    rw[sIf_f (by rw[tt,hv'])];rfl) [some d,some (.lst (stepD way nm w::rest)),some (.str way),some (.str nm),some w,none] ⟨none,rfl⟩
 have pre:∀ (o:DO),forD (gN 5) (b_leads_1 (Fr_holds f) (Fr_leads f)) (blwN m way d) [some d,some (.lst (stepD way nm w::rest)),some (.str way),some (.str nm),some w,none]=some o →
   g_leads (Fr_holds f) (Fr_leads f) (startD 6 [d,.lst (stepD way nm w::rest)])=(some o).bind fun o=>match o with|.nx ρ'=>sRet (eK (.bl false)) ρ'|o=>some o:=by
  intro o eo;unfold g_leads;have s1:sIf (tB1 (e2 oEq (eV 1) (eF (eLst aN)))) (sRet (eK (.bl true))) sNil (startD 6 [d,.lst (stepD way nm w::rest)])=some (.nx (startD 6 [d,.lst (stepD way nm w::rest)])):=by
   rw[sIf_f (by exact tB1_eq (b:=false) (by show oEq (.lst (stepD way nm w::rest)) (.lst [])=_;rw[e0];rfl))]
   rfl
  rw[sSeq_nx s1];have s2:sAsg (gN3 2 3 4) (e2 oIx (eV 1) (eK (.int 0))) (startD 6 [d,.lst (stepD way nm w::rest)])=some (.nx [some d,some (.lst (stepD way nm w::rest)),some (.str way),some (.str nm),some w,none]):=by
   have:e2 oIx (eV 1) (eK (.int 0)) (startD 6 [d,.lst (stepD way nm w::rest)])=some (stepD way nm w):=by show atI (stepD way nm w::rest) 0=_;exact atN (i:=0) rfl
   simp only[sAsg];rw[this];rfl
  rw[sSeq_nx s2];have s3:sFor (iL (eCall F_below (aC (eV 0) (aC (eV 2) aN)))) (gN 5) (b_leads_1 (Fr_holds f) (Fr_leads f)) [some d,some (.lst (stepD way nm w::rest)),some (.str way),some (.str nm),some w,none]=some o:=by
   have:iL (eCall F_below (aC (eV 0) (aC (eV 2) aN))) [some d,some (.lst (stepD way nm w::rest)),some (.str way),some (.str nm),some w,none]=some (blwN m way d):=iL_eq (by show F_below [d,.str way]=_;exact hb)
   simp only[sFor,this,zA];exact eo
  simp only[sSeq,s3]
  all_goals (cases o<;>rfl)
 rw[Fr_leads];rcases loop with ⟨⟨e,he,p⟩,ef⟩|⟨hno,ρ',ef,v5,rfl⟩
 ·refine⟨true,runD_eq (o :=.rt (.bl true)) rfl (pre _ ef) rfl,⟨fun _ =>?_,fun _=>rfl⟩⟩
  obtain⟨j,hj,tj⟩:=r1 e he;obtain⟨⟨x,its,k0,e1,hx⟩,p2,p3⟩:=p;obtain⟨bh,eh,hbh⟩:=hh e j tj (hzb e he);obtain⟨bl,el,hbl⟩:=hl e j tj (hzb e he);rw[p2] at eh;rw[p3] at el;have q2:bh=true:=by injection eh with eh;injection eh with eh;exact eh.symm
  have q3:bl=true:=by injection el with el;injection el with el;exact el.symm
  obtain⟨t,ht'⟩:=hbl.mp q3;cases m with
  | zero=>exact tj.elim
  | succ m=>subst e1;exact⟨t,way,nm,w,j,rfl,hj,⟨x,tj.inv.2.1,hx⟩,hbh.mp q2,ht'⟩
 ·refine⟨false,runD_eq (o :=.rt (.bl false)) rfl ((pre _ ef).trans rfl) rfl,⟨fun z=>(by cases z),?_⟩⟩
  rintro⟨t,way',nm',w',j,e,r,nmd,hw,ht'⟩;exfalso;injection e with e;injection e with e1 e;injection e with e2 e;injection e with e3 _;injection e1 with e1;injection e2 with e2;subst e1 e2 e3;obtain⟨e,he,tj⟩:=r2 j r;obtain⟨bh,eh,hbh⟩:=hh e j tj (hzb e he);obtain⟨bl,el,hbl⟩:=hl e j tj (hzb e he);refine hno e he ⟨?_,?_,?_⟩
  ·cases m with
   | zero=>exact tj.elim
   | succ m=>obtain⟨x,its,⟨k0,rfl⟩,_⟩:=tj.ok;obtain⟨x',ex',hx'⟩:=nmd;have:=tj.inv.2.1;rw[ex'] at this;injection this with this;injection this with this;subst this;exact⟨x',its,k0,rfl,hx'⟩
  ·rw[eh,hbh.mpr hw]
  ·rw[el,hbl.mpr ⟨t,ht'⟩]
theorem holds_ok:∀ (n:Nat),n≤20 →
  (∀ (fuel:Nat) (w:D),4*n+1≤fuel→WfW n w→∀ (d:D) (i:Nat),TreeN y lo hi m i d→SzN 900 d→∃ b,Fr_holds fuel [d,w]=some (.bl b)∧(b=true↔HW y n w i)) ∧
  (∀ (ss:List D) (fuel:Nat),4*n+1+ss.length≤fuel→(∀ s∈ss,WfS n s)→ss.length≤100→∀ (d:D) (i:Nat),TreeN y lo hi m i d→SzN 900 d→∃ b,Fr_leads fuel [d,.lst ss]=some (.bl b)∧(b=true↔∃ j,AnF y (HW y n) ss i j)):=by
 have leads:∀ n,n≤20→(∀ (fuel:Nat) (w:D),4*n+1≤fuel→WfW n w→∀ (d:D) (i:Nat),TreeN y lo hi m i d→SzN 900 d→∃ b,Fr_holds fuel [d,w]=some (.bl b)∧(b=true↔HW y n w i)) →
   (∀ (ss:List D) (fuel:Nat),4*n+1+ss.length≤fuel→(∀ s∈ss,WfS n s)→ss.length≤100→∀ (d:D) (i:Nat),TreeN y lo hi m i d→SzN 900 d→∃ b,Fr_leads fuel [d,.lst ss]=some (.bl b)∧(b=true↔∃ j,AnF y (HW y n) ss i j)):=by
  intro n hn hh ss
  induction ss with
  | nil=>
   intro fuel hf _ _ d i ht hz;cases fuel with
   | zero=>omega
   | succ f=>
    refine⟨true,?_,⟨fun _=>⟨i,rfl⟩,fun _=>rfl⟩⟩
    rw[Fr_leads];unfold g_leads;refine runD_eq (o :=.rt (.bl true)) rfl ?_ rfl;have:sIf (tB1 (e2 oEq (eV 1) (eF (eLst aN)))) (sRet (eK (.bl true))) sNil (startD 6 [d,.lst []])=some (.rt (.bl true)):=by
     rw[sIf_t (by exact tB1_eq (b:=true) (by show oEq (.lst []) (.lst [])=_;simp only[oEq];rfl))]
     rfl
    simp only[sSeq,this,zA]
  | cons s rest ih=>
   intro fuel hf hs hl d i ht hz;simp only[zP] at hf hl;cases fuel with
   | zero=>omega
   | succ f=>
    obtain⟨way,nm,w,rfl,hway,hws⟩:=hs s zD;have hr:∀ s∈rest,WfS n s:=fun s h=>hs s (zB _ h)
    exact leads_step hm hn hway hws hr (by omega) (fun d i t z=>hh f w (by omega) hws d i t z) (fun d i t z=>ih f (by omega) hr (by omega) d i t z) ht hz
 have hany:∀ (f n:Nat) (d:D) (i:Nat),∃ b,Fr_holds (f+1) [d,wAny]=some (.bl b)∧(b=true↔HW y n wAny i):=by
  intro f n d i;refine⟨true,?_,⟨fun _=>hw_any y n i,fun _=>rfl⟩⟩
  rw[Fr_holds];unfold g_holds;refine runD_eq (o :=.rt (.bl true)) rfl ?_ rfl;have:sIf (tB1 (e2 oEq (e2 oIx (eV 1) (eK (.int 0))) (eK (.str (Str.ofString "any"))))) (sRet (eK (.bl true))) sNil (startD 3 [d,wAny])=some (.rt (.bl true)):=by
   rw[sIf_t (by exact tB1_eq (b:=true) (by show some (D.bl (sAny==sAny))=_;simp))]
   rfl
  simp only[sSeq,this,zA]
 have nskip:∀ (s:Str) (d:D) (k:Str) (v:D),k≠s→∀ (g1 g2:DG),sSeq (sIf (tB1 (e2 oEq (e2 oIx (eV 1) (eK (.int 0))) (eK (.str s)))) g1 sNil) g2 (startD 3 [d,.tup [.str k,v]])=g2 (startD 3 [d,.tup [.str k,v]]):=by
  intro s d k v hk g1 g2;refine sSeq_nx ?_;rw[sIf_f (by exact tB1_eq (b:=false) (by show some (D.bl (k==s))=_;simp[hk]))]
  rfl
 have htxt:∀ (f n:Nat) (x:Str) (d:D) (i:Nat),TreeN y lo hi m i d→∃ b,Fr_holds (f+1) [d,wText x]=some (.bl b)∧(b=true↔HW y n (wText x) i):=by
  intro f n x d i ht;cases m with
  | zero=>exact ht.elim
  | succ m=>
   obtain⟨nm,its,⟨k0,rfl⟩,hi⟩:=ht.ok;obtain⟨b,eb,hb⟩:=in_items (x:=x) hi (by omega)
   refine⟨b,?_,?_⟩
   ·rw[Fr_holds];unfold g_holds;refine runD_eq (o :=.rt (.bl b)) rfl ?_ rfl;rw[nskip _ _ _ _ (fun z=>nAT z.symm)]
    have:sIf (tB1 (e2 oEq (e2 oIx (eV 1) (eK (.int 0))) (eK (.str (Str.ofString "text"))))) (sRet (e2 (oInD false) (e2 oIx (eV 1) (eK (.int 1))) (e2 oIx (eV 0) (eK (.int 1))))) sNil (startD 3 [prtN nm its k0,wText x])=some (.rt (.bl b)):=by
     rw[sIf_t (by exact tB1_eq (b:=true) (by show some (D.bl (sTxt==sTxt))=_;simp))]
     exact sRet_eq eb
    simp only[sSeq,this,zA]
   ·rw[hb,hw_text,ht.inv.2.2.1]
    constructor
    ·intro q;exact⟨_,rfl,q⟩
    ·rintro⟨ds,e,q⟩;injection e with e;subst e;exact q
 have hlist:∀ (f n:Nat) (all:Bool) (ws:List D) (d:D) (i:Nat),ws.length≤100→(∀ v∈ws,∃ b,Fr_holds f [d,v]=some (.bl b)∧(b=true↔HW y n v i))→∃ b,Fr_holds (f+1) [d,if all=true then wBoth ws else wOne ws]=some (.bl b)∧(b=true↔if all=true then ∀ v∈ws,HW y n v i else ∃ v∈ws,HW y n v i):=by
  intro f n all ws d i hl hv;obtain⟨rs,er,hrl,ha,he⟩:=lc_filter (ρ:=[none,some d]) (τ:=gN 0) (ft:=tTru (eCall (Fr_holds f) (aC (eV 1) (aC (eV 0) aN)))) (fe:=eV 0) (P:=fun v=>HW y n v i) (ds:=ws) fun v hv'=>by obtain⟨b,eb,hb⟩:=hv v hv';refine⟨[some v,some d],b,rfl,?_,hb,rfl⟩;show (Fr_holds f [d,v]).bind _=_;rw[eb];rfl
  obtain⟨k,hk,hka,hkt,hkh,hkb⟩:∃ k,(if all=true then wBoth ws else wOne ws)=.tup [.str k,.lst ws]∧k≠sAny∧k≠sTxt∧k≠sHas∧(k==sBoth)=all:=by
   cases all with
   | true=>exact⟨sBoth,rfl,fun z=>nAB z.symm,fun z=>nTB z.symm,fun z=>nHB z.symm,by simp⟩
   | false=>exact⟨sOne,rfl,fun z=>nAO z.symm,fun z=>nTO z.symm,fun z=>nHO z.symm,by simp;exact fun z=>nBO z.symm⟩
  rw[hk,Fr_holds];unfold g_holds;have e1:eF (fLC (iL (e2 oIx (eV 1) (eK (.int 1)))) [none,some 0] (gN 0) (tTru (eCall (Fr_holds f) (aC (eV 1) (aC (eV 0) aN)))) (eV 0)) (startD 3 [d,.tup [.str k,.lst ws]])=some (.lst rs):=eF_eq (fLC_eq (iL_eq (ds:=ws) rfl) (by rw[bigE_eq];omega) er)
  have pre:∀ (g2:DG),sSeq (sSet 2 (eF (fLC (iL (e2 oIx (eV 1) (eK (.int 1)))) [none,some 0] (gN 0) (tTru (eCall (Fr_holds f) (aC (eV 1) (aC (eV 0) aN)))) (eV 0)))) g2 (startD 3 [d,.tup [.str k,.lst ws]])=g2 [some d,some (.tup [.str k,.lst ws]),some (.lst rs)]:=fun g2=>sSeq_nx (sSet_eq e1)
  cases all with
  | true=>
   refine⟨((rs.length:Int)==(ws.length:Int)),runD_eq (o :=.rt (.bl ((rs.length:Int)==(ws.length:Int)))) rfl ?_ rfl,?_⟩
   ·rw[nskip _ _ _ _ hka,nskip _ _ _ _ hkt,nskip _ _ _ _ hkh,pre];have:sIf (tB1 (e2 oEq (e2 oIx (eV 1) (eK (.int 0))) (eK (.str (Str.ofString "both"))))) (sRet (e2 oEq (eCall oLen (aC (eV 2) aN)) (eCall oLen (aC (e2 oIx (eV 1) (eK (.int 1))) aN)))) sNil [some d,some (.tup [.str k,.lst ws]),some (.lst rs)]=some (.rt (.bl ((rs.length:Int)==(ws.length:Int)))):=by
     rw[sIf_t (by exact tB1_eq (b:=true) (by show some (D.bl (k==sBoth))=_;rw[hkb]))]
     refine sRet_eq ?_;rw[e2_eq (x :=.int (rs.length:Int)) (y :=.int (ws.length:Int)) rfl rfl];exact eqI
    simp only[sSeq,this,zA]
   ·simp only[if_true];rw[← ha,beq_iff_eq];omega
  | false=>
   refine⟨decide ((0:Int)<(rs.length:Int)),runD_eq (o :=.rt (.bl (decide ((0:Int)<(rs.length:Int))))) rfl ?_ rfl,?_⟩
   ·rw[nskip _ _ _ _ hka,nskip _ _ _ _ hkt,nskip _ _ _ _ hkh,pre];have:sIf (tB1 (e2 oEq (e2 oIx (eV 1) (eK (.int 0))) (eK (.str (Str.ofString "both"))))) (sRet (e2 oEq (eCall oLen (aC (eV 2) aN)) (eCall oLen (aC (e2 oIx (eV 1) (eK (.int 1))) aN)))) sNil [some d,some (.tup [.str k,.lst ws]),some (.lst rs)]=some (.nx [some d,some (.tup [.str k,.lst ws]),some (.lst rs)]):=by
     rw[sIf_f (by exact tB1_eq (b:=false) (by show some (D.bl (k==sBoth))=_;rw[hkb]))]
     rfl
    rw[sSeq_nx this];refine sRet_eq ?_;rw[e2_eq (x :=.int (rs.length:Int)) (y :=.int 0) rfl rfl];exact gtI
   ·simp only[Bool.false_eq_true,if_false];rw[← he,decide_eq_true_eq];omega
 intro n
 induction n with
 | zero=>
  intro hn;have h1:∀ (fuel:Nat) (w:D),4*0+1≤fuel→WfW 0 w→∀ (d:D) (i:Nat),TreeN y lo hi m i d→SzN 900 d→∃ b,Fr_holds fuel [d,w]=some (.bl b)∧(b=true↔HW y 0 w i):=by
   intro fuel w hf hw d i ht hz;cases fuel with
   | zero=>omega
   | succ f=>
    rcases hw with rfl|⟨x,rfl⟩
    ·exact hany f 0 d i
    ·exact htxt f 0 x d i ht
  exact⟨h1,leads 0 hn h1⟩
 | succ n ih=>
  intro hn;obtain⟨ih1,ih2⟩:=ih (by omega)
  have h1:∀ (fuel:Nat) (w:D),4*(n+1)+1≤fuel→WfW (n+1) w→∀ (d:D) (i:Nat),TreeN y lo hi m i d→SzN 900 d→∃ b,Fr_holds fuel [d,w]=some (.bl b)∧(b=true↔HW y (n+1) w i):=by
   intro fuel w hf hw d i ht hz;cases fuel with
   | zero=>omega
   | succ f=>
    rcases hw with rfl|⟨x,rfl⟩|⟨ss,rfl,_,l1,hss⟩|⟨ws,rfl,l1,hws⟩|⟨ws,rfl,l1,hws⟩
    ·exact hany f _ d i
    ·exact htxt f _ x d i ht
    ·obtain⟨b,eb,hb⟩:=ih2 ss f (by omega) hss (by omega) d i ht hz
     refine⟨b,?_,by rw[hb,hw_has]⟩
     rw[Fr_holds];unfold g_holds;refine runD_eq (o :=.rt (.bl b)) rfl ?_ rfl;rw[nskip _ _ _ _ (fun z=>nAH z.symm),nskip _ _ _ _ (fun z=>nTH z.symm)]
     have:sIf (tB1 (e2 oEq (e2 oIx (eV 1) (eK (.int 0))) (eK (.str (Str.ofString "has"))))) (sRet (eCall (Fr_leads f) (aC (eV 0) (aC (e2 oIx (eV 1) (eK (.int 1))) aN)))) sNil (startD 3 [d,wHas ss])=some (.rt (.bl b)):=by
      rw[sIf_t (by exact tB1_eq (b:=true) (by show some (D.bl (sHas==sHas))=_;simp))]
      exact sRet_eq eb
     simp only[sSeq,this,zA]
    ·obtain⟨b,eb,hb⟩:=hlist f n true ws d i l1 fun v hv=>ih1 f v (by omega) (hws v hv) d i ht hz
     refine⟨b,eb,?_⟩;rw[hb,hw_both];simp
    ·obtain⟨b,eb,hb⟩:=hlist f n false ws d i l1 fun v hv=>ih1 f v (by omega) (hws v hv) d i ht hz
     refine⟨b,eb,?_⟩;rw[hb,hw_one];simp
  exact⟨h1,leads (n+1) hn h1⟩
end
end K05
end
noncomputable section
namespace K05
open PySem L2
noncomputable abbrev cN (k:Nat):List D:=[.int ((k:Int)-1)]
theorem numbered_lc {F:List D→Option (D×List D)}{c0:Option D}:∀ {its its':List D}{a b:Nat},Num its a its' b →
  (∀ e∈its,∀ nm its0 d' k k',e=prtD nm its0→Num [e] k [d'] k'→F [e,.lst (cN k)]=some (d',cN k')) →
  lcM [none,c0] (gN 0) (mIf (tTru (eIs "str" (eV 0))) (mP (eV 0)) (mCall1 F (eV 0) 1)) 1 its (cN a)=some (its',cN b):=by
 intro its its' a b h
 induction h with
 | nil=>intro _;rfl
 | @txt x ds ds' k k' _ ih=>
  intro hF;have e1:=ih fun e he=>hF e (zB _ he)
  have e2:mIf (tTru (eIs "str" (eV 0))) (mP (eV 0)) (mCall1 F (eV 0) 1) [some (.str x),some (.lst (cN k))]=some (.str x,[some (.str x),some (.lst (cN k))]):=by
   unfold mIf;rw[show tTru (eIs "str" (eV 0)) [some (.str x),some (.lst (cN k))]=some true from by show some (isT "str" (.str x))=_;rw[isS_str]]
   rfl
  show (gN 0 (.str x) [none,some (.lst (cN k))]).bind _=_;rw[show gN 0 (.str x) [none,some (.lst (cN k))]=some [some (.str x),some (.lst (cN k))] from rfl,zA,e2,zA]
  rw[show lstAt 1 (D.str x,[some (D.str x),some (.lst (cN k))]).2=some (cN k) from rfl,zA,e1]
  rfl
 | @prt nm its0 ds its1 ds' k k1 k2 h1 h2 i1 i2=>
  intro hF;have e1:=i2 fun e he=>hF e (zB _ he)
  have eF:=hF _ zD nm its0 (prtN nm its1 ((k:Int)-1)) k k1 rfl (.prt h1 .nil);have e2:mIf (tTru (eIs "str" (eV 0))) (mP (eV 0)) (mCall1 F (eV 0) 1) [some (prtD nm its0),some (.lst (cN k))]=some (prtN nm its1 ((k:Int)-1),[some (prtD nm its0),some (.lst (cN k1))]):=by
   unfold mIf;rw[show tTru (eIs "str" (eV 0)) [some (prtD nm its0),some (.lst (cN k))]=some false from by show some (isT "str" (prtD nm its0))=_;rw[isS_tup]]
   show (F [prtD nm its0,.lst (cN k)]).map _=_;rw[eF];rfl
  show (gN 0 (prtD nm its0) [none,some (.lst (cN k))]).bind _=_;rw[show gN 0 (prtD nm its0) [none,some (.lst (cN k))]=some [some (prtD nm its0),some (.lst (cN k))] from rfl,zA,e2,zA]
  rw[show lstAt 1 (prtN nm its1 ((k:Int)-1),[some (prtD nm its0),some (D.lst (cN k1))]).2=some (cN k1) from rfl,zA,e1]
  rfl
theorem numbered_ok:∀ (fuel n:Nat) (d d':D) (k k':Nat),n≤fuel→PtOk n d→Sz 900 d→Num [d] k [d'] k'→Fr_numbered fuel [d,.lst (cN k)]=some (d',cN k')
 | fuel,0,d,d',k,k',hf,hp,hz,hu=>hp.elim
 | 0,n+1,d,d',k,k',hf,hp,hz,hu=>by omega
 | f+1,n+1,d,d',k,k',hf,hp,hz,hu=>by
  obtain⟨nm,its,rfl,hi⟩:=hp;obtain⟨its',rfl,hu'⟩:=hu.prt_inv;have hs:=hz.item;have lc:=numbered_lc (F:=Fr_numbered f) (c0:=some (.lst (cN (k+1)))) hu' (by
   rintro e he nm0 its0 d0 a b rfl hn;rcases hi _ he with ⟨x,z⟩|hp
   ·cases z
   ·exact numbered_ok f n _ d0 a b (by omega) hp (hs.2 _ he) hn)
  rw[Fr_numbered];unfold runM;rw[if_pos (show [prtD nm its,D.lst (cN k)].length=2 from rfl)]
  have s1:sSet 2 (e2 oIx (eV 1) (eK (.int 0))) (startD 4 [prtD nm its,.lst (cN k)])=some (.nx [some (prtD nm its),some (.lst (cN k)),some (.int ((k:Int)-1)),none]):=rfl;have s2:sItem 1 (eK (.int 0)) (e2 oAdd (e2 oIx (eV 1) (eK (.int 0))) (eK (.int 1))) [some (prtD nm its),some (.lst (cN k)),some (.int ((k:Int)-1)),none]=some (.nx [some (prtD nm its),some (.lst (cN (k+1))),some (.int ((k:Int)-1)),none]):=by
   have e:((k:Int)-1+1)=(((k+1:Nat):Int)-1):=by omega
   show some (DO.nx [some (prtD nm its),some (.lst [.int ((k:Int)-1+1)]),some (.int ((k:Int)-1)),none])=_;rw[e]
  have s3:sSetM 3 (mLC (iL (e2 oIx (eV 0) (eK (.int 1)))) [none,some 1] (gN 0) (mIf (tTru (eIs "str" (eV 0))) (mP (eV 0)) (mCall1 (Fr_numbered f) (eV 0) 1)) 1 1) [some (prtD nm its),some (.lst (cN (k+1))),some (.int ((k:Int)-1)),none]=some (.nx [some (prtD nm its),some (.lst (cN k')),some (.int ((k:Int)-1)),some (.lst its')]):=by
   have e1:mLC (iL (e2 oIx (eV 0) (eK (.int 1)))) [none,some 1] (gN 0) (mIf (tTru (eIs "str" (eV 0))) (mP (eV 0)) (mCall1 (Fr_numbered f) (eV 0) 1)) 1 1 [some (prtD nm its),some (.lst (cN (k+1))),some (.int ((k:Int)-1)),none]=some (.lst its',[some (prtD nm its),some (.lst (cN k')),some (.int ((k:Int)-1)),none]):=by
    unfold mLC;rw[show iL (e2 oIx (eV 0) (eK (.int 1))) [some (prtD nm its),some (.lst (cN (k+1))),some (.int ((k:Int)-1)),none]=some its from rfl,zA,if_pos (by rw[bigE_eq];omega)]
    rw[show lstAt 1 [some (prtD nm its),some (.lst (cN (k+1))),some (.int ((k:Int)-1)),none]=some (cN (k+1)) from rfl,zA]
    rw[show srcρ [none,some 1] [some (prtD nm its),some (.lst (cN (k+1))),some (.int ((k:Int)-1)),none]=[none,some (.lst (cN (k+1)))] from rfl,lc]
    rfl
   unfold sSetM;rw[e1];rfl
  unfold g_numbered;rw[sSeq_nx s1,sSeq_nx s2,sSeq_nx s3]
  rfl
noncomputable def ansL:Nat→List Bool→List Int
 | _,[]=>[]
 | k,b::bs=>if b=true then ((k:Int)-1)::ansL (k+1) bs else ansL (k+1) bs
theorem ansL_lc:∀ (bs:List Bool) (k:Nat),lcD [none,none] (gN2 0 1) (tTru (eV 1)) (e2 oSub (eV 0) (eK (.int 1))) (((mk bs).zipIdx k).map fun p=>D.tup [.int (p.2:Int),p.1])=some ((ansL k bs).map D.int)
 | [],k=>rfl
 | b::bs,k=>by
  have ih:=ansL_lc bs (k+1);show lcD [none,none] (gN2 0 1) (tTru (eV 1)) (e2 oSub (eV 0) (eK (.int 1))) (D.tup [.int (k:Int),.bl b]::(((mk bs).zipIdx (k+1)).map fun p=>D.tup [.int (p.2:Int),p.1]))=_
  unfold lcD;rw[show gN2 0 1 (D.tup [.int (k:Int),.bl b]) [none,none]=some [some (.int (k:Int)),some (.bl b)] from rfl,zA,show tTru (eV 1) [some (.int (k:Int)),some (.bl b)]=some b from rfl,zA]
  cases b with
  | true=>
   rw[if_pos rfl,show e2 oSub (eV 0) (eK (.int 1)) [some (.int (k:Int)),some (.bl true)]=some (.int ((k:Int)-1)) from rfl,zA,ih]
   rfl
  | false=>
   rw[if_neg (by decide),ih]
   rfl
theorem ansL_mem:∀ (bs:List Bool) (k:Nat) (z:Int),z∈ansL k bs↔∃ i:Nat,bs[i]?=some true∧z=((k+i:Nat):Int)-1
 | [],k,z=>by simp[ansL]
 | b::bs,k,z=>by
  have ih:=ansL_mem bs (k+1) z;have ih':z∈ansL (k+1) bs↔∃ i:Nat,(b::bs)[i+1]?=some true∧z=((k+(i+1):Nat):Int)-1:=by
   rw[ih]
   constructor
   ·rintro⟨i,h1,h2⟩;exact⟨i,by simpa using h1,by rw[h2];congr 2;omega⟩
   ·rintro⟨i,h1,h2⟩;exact⟨i,by simpa using h1,by rw[h2];congr 2;omega⟩
  unfold ansL
  split
  ·rename_i hb;rw[zG,ih']
   constructor
   ·rintro(h|⟨i,h1,h2⟩)
    ·exact⟨0,by simp[hb],by simpa using h⟩
    ·exact⟨i+1,h1,h2⟩
   ·rintro⟨i,h1,h2⟩;cases i with
    | zero=>exact .inl (by simpa using h2)
    | succ i=>exact .inr ⟨i,h1,h2⟩
  ·rename_i hb;rw[ih']
   constructor
   ·rintro⟨i,h1,h2⟩;exact⟨i+1,h1,h2⟩
   ·rintro⟨i,h1,h2⟩;cases i with
    | zero=>simp at h1;exact absurd h1 hb
    | succ i=>exact⟨i,h1,h2⟩
theorem ansL_rise:∀ (bs:List Bool) (k:Nat),(ansL k bs).Pairwise (· < ·)
 | [],k =>.nil
 | b::bs,k=>by
  have ih:=ansL_rise bs (k+1);unfold ansL
  split
  ·refine .cons (fun z hz =>?_) ih
   obtain⟨i,_,rfl⟩:=(ansL_mem bs (k+1) z).mp hz;omega
  ·exact ih
theorem rise_ext {a b:List Int}(ha:a.Pairwise (· < ·)) (hb:b.Pairwise (· < ·)) (h:∀ z,z∈a↔z∈b):a=b:=by
 have na:a.Nodup:=ha.imp fun h=>by omega
 have nb:b.Nodup:=hb.imp fun h=>by omega
 exact PySem.W.ksm_same ((List.perm_ext_iff_of_nodup na nb).mpr h) (ha.imp fun h=>by omega) (hb.imp fun h=>by omega)
theorem firsts_spec (ns:List Int):(firsts ns).Nodup∧∀ z,z∈firsts ns↔z∈ns:=by
 have key:∀ (l ms:List Int),ms.Nodup→(l.foldl (fun ms k=>if k∈ms then ms else ms++[k]) ms).Nodup∧∀ z,z∈l.foldl (fun ms k=>if k∈ms then ms else ms++[k]) ms↔z∈ms∨z∈l:=by
  intro l
  induction l with
  | nil=>intro ms h;exact⟨h,fun z=>by simp⟩
  | cons a r ih=>
   intro ms h;rw[List.foldl_cons];by_cases q:a∈ms
   ·rw[if_pos q];obtain⟨h1,h2⟩:=ih ms h;refine⟨h1,fun z =>?_⟩
    rw[h2,zG]
    constructor
    ·rintro(h|h)
     ·exact .inl h
     ·exact .inr (.inr h)
    ·rintro(h|rfl|h)
     ·exact .inl h
     ·exact .inl q
     ·exact .inr h
   ·rw[if_neg q];obtain⟨h1,h2⟩:=ih (ms++[a]) (by
     rw[List.nodup_append];refine⟨h,by simp,fun x hx y hy =>?_⟩
     rw[yG] at hy;subst hy;intro e;subst e;exact q hx)
    refine⟨h1,fun z =>?_⟩
    rw[h2,zG,zO,yG]
    constructor
    ·rintro((h|h)|h)
     ·exact .inl h
     ·exact .inr (.inl h)
     ·exact .inr (.inr h)
    ·rintro(h|h|h)
     ·exact .inl (.inl h)
     ·exact .inl (.inr h)
     ·exact .inr h
 obtain⟨h1,h2⟩:=key ns [] List.nodup_nil;exact⟨h1,fun z=>(h2 z).trans (by simp)⟩
theorem srt_rise (ns:List Int) (h:ns.Nodup):(srt ns).Pairwise (· < ·):=by
 have h1:=srt_sorted ns;have h2:(srt ns).Nodup:=(srt_perm ns).symm.nodup h;exact(h1.and h2).imp fun ⟨a,b⟩=>by omega
end K05
end
noncomputable section
namespace K05
open PySem L2
theorem notin_dec (z:Int) (ns:List Int):oIn true (.int z) (.lst (ns.map D.int))=some (.bl (decide (z∉ns))):=by
 have h1:(ns.map D.int).all scalD=true:=by
  rw[List.all_eq_true];intro d hd;obtain⟨i,_,rfl⟩:=List.mem_map.mp hd
  rfl
 have h2:inV (.int z) ((ns.map D.int).map vOf)=decide (z∈ns):=by
  unfold inV;rw[Bool.eq_iff_iff,List.any_eq_true,decide_eq_true_eq]
  constructor
  ·rintro⟨v,hv,e⟩;obtain⟨d,hd,rfl⟩:=List.mem_map.mp hv;obtain⟨i,hi,rfl⟩:=List.mem_map.mp hd;have e:(i==z)=true∨(z==i)=true:=by first|exact .inl e|exact .inr e
   have:i=z:=by rcases e with e|e<;>simp at e<;>omega
   rw[← this];exact hi
  ·intro h;refine⟨.int z,List.mem_map.mpr ⟨.int z,List.mem_map.mpr ⟨z,h,rfl⟩,rfl⟩,?_⟩;show (z==z)=true;simp
 simp only[oIn,inD];rw[if_pos (by rw[h1];rfl)]
 show some (D.bl (!inV (.int z) ((ns.map D.int).map vOf)))=_;rw[h2];by_cases q:z∈ns<;>simp[q]
theorem notin_lc (found:List Int):∀ ns:List Int,lcD [none,some (.lst (found.map D.int))] (gN 0) (tB1 (e2 (oIn true) (eV 0) (eV 1))) (eV 0) (ns.map D.int)=some ((ns.filter fun z=>decide (z∉found)).map D.int)
 | []=>rfl
 | z::ns=>by
  have ih:=notin_lc found ns;rw[List.map_cons];unfold lcD;rw[show gN 0 (.int z) [none,some (.lst (found.map D.int))]=some [some (.int z),some (.lst (found.map D.int))] from rfl,zA]
  have t:tB1 (e2 (oIn true) (eV 0) (eV 1)) [some (.int z),some (.lst (found.map D.int))]=some (decide (z∉found)):=tB1_eq (by rw[e2_eq (x :=.int z) (y :=.lst (found.map D.int)) rfl rfl];exact notin_dec z found)
  rw[t,zA,List.filter_cons];by_cases q:z∉found
  ·have q2:decide (z∉found)=true:=by simpa using q
   rw[q2,if_pos rfl,if_pos rfl,show eV 0 [some (.int z),some (.lst (found.map D.int))]=some (.int z) from rfl,zA,ih]
   rfl
  ·have q2:decide (z∉found)=false:=by simpa using q
   rw[q2,if_neg (by decide),if_neg (by decide),ih]
theorem anf_lt {y:Ly}(h:LW y){H:D→Nat→Prop}:∀ {ss:List D}{k j:Nat},ss≠[]→AnF y H ss k j→j<y.names.length
 | [],k,j,hn,_=>absurd rfl hn
 | [s],k,j,_,⟨way,nm,w,i,e,r,n,hw,t⟩=>by have t:j=i:=t;subst t;have:=r.lt h;omega
 | s::s2::ss,k,j,_,⟨way,nm,w,i,e,r,n,hw,t⟩=>anf_lt h (by simp) t
theorem len_of {N:Nat}{ns:List Int}(nd:ns.Nodup) (h:∀ z∈ns,∃ j:Nat,j<N∧z=(j:Int)-1):ns.length≤N:=by
 have hs:ns ⊆ (List.range N).map fun i:Nat=>(i:Int)-1:=fun z hz=>by obtain⟨j,hj,rfl⟩:=h z hz;exact List.mem_map.mpr ⟨j,List.mem_range.mpr hj,rfl⟩
 have:=List.Nodup.length_le_of_subset nd hs;simpa using this
noncomputable section
variable {y:Ly}{lo hi m:Nat}
theorem treeN_nb {k:Nat}{e:D}(h:TreeN y lo hi m k e):nbD e=(k:Int)-1:=by
 cases m with
 | zero=>exact h.elim
 | succ m=>
  obtain⟨_,_,nm,its,cs,rfl,_⟩:=h
  rfl
theorem ends_ok (hm:m≤12) (hy:LW y) (hN:y.names.length≤1000):∀ (qs:List D) (fuel:Nat),qs≠[]→qs.length≤fuel→qs.length≤100→(∀ s∈qs,WfS 2 s)→∀ (d:D) (i:Nat),TreeN y lo hi m i d→SzN 900 d →
  ∃ ns:List Int,Fr_ends fuel [d,.lst qs]=some (ns.map D.int)∧ns.Nodup∧∀ z,z∈ns↔∃ j:Nat,AnF y (HW y 2) qs i j∧z=(j:Int)-1
 | [],fuel,hne,_,_,_,d,i,_,_=>absurd rfl hne
 | s::rest,0,_,hf,_,_,d,i,_,_=>by simp at hf
 | s::rest,f+1,_,hf,hl,hq,d,i,ht,hz=>by
  obtain⟨way,nm,w,rfl,hway,hws⟩:=hq s zD;have hr:∀ s∈rest,WfS 2 s:=fun s h=>hq s (zB _ h)
  simp only[zP] at hf hl;have hb:=lbelow_ok hm ht.ok hz way;obtain⟨r1,r2⟩:=ht.reach hway;have hzb:=szN_blw hz ht.ok way;obtain⟨hbl,hbn⟩:=hz.blw ht.ok way;have hcut:cut (stepD way nm w::rest) (some 1) none=rest:=by rw[cut_from _ (by decide)];rfl
  let Ad:D→Int→Prop:=fun e z=>∃ k:Nat,TreeN y lo hi m k e∧Nmd y nm k∧HW y 2 w k∧∃ t:Nat,AnF y (HW y 2) rest k t∧z=(t:Int)-1
  let env:List Int→Option D→DEnv:=fun found v6=>[some d,some (.lst (stepD way nm w::rest)),some (.str way),some (.str nm),some w,some (.lst (found.map D.int)),v6]
  have adlt:∀ e∈blwN m way d,∀ z,Ad e z→∃ j:Nat,j<y.names.length∧z=(j:Int)-1:=by
   rintro e he z ⟨k,tk,hk,hw,t,ha,rfl⟩;refine⟨t,?_,rfl⟩;obtain⟨j,hj,tj⟩:=r1 e he;have hjk:j=k:=by have a:=treeN_nb tj;have b:=treeN_nb tk;omega
   subst hjk;cases rest with
   | nil=>have ha:t=j:=ha;subst ha;have:=hj.lt hy;omega
   | cons s2 ss=>exact anf_lt hy (by simp) ha
  obtain⟨ρ',ef,found,v6,rfl,hnd,hmem⟩:=for_inv0 (τ:=gN 6) (g:=b_ends_1 (Fr_ends f)) (ds:=blwN m way d) (fun j ρ=>∃ (found:List Int) (v6:Option D),ρ=env found v6∧found.Nodup∧∀ z,z∈found↔∃ e∈(blwN m way d).take j,Ad e z)
   (ρ:=env [] none) ⟨[],none,rfl,List.nodup_nil,fun z=>by simp⟩ (by
   rintro j e ρ he ⟨found,v6,rfl,hnd,hmem⟩;have hmem0:=zX he;have htk:(blwN m way d).take (j+1)=(blwN m way d).take j++[e]:=by rw[List.take_add_one,he];rfl
   obtain⟨k,hk,tk⟩:=r1 e hmem0;have hze:=hzb e hmem0;obtain⟨bh,eh,hbh⟩:=(holds_ok (y:=y) (lo:=lo) (hi:=hi) hm 2 (by decide)).1 24 w (by decide) hws e k tk hze
   have eh:F_holds [e,w]=some (.bl bh):=eh;have hfl:found.length≤y.names.length:=len_of hnd fun z hz'=>by obtain⟨e',he',ha⟩:=(hmem z).mp hz';exact adlt e' (List.mem_of_mem_take he') z ha
   have uniq:∀ z,Ad e z↔(Nmd y nm k∧HW y 2 w k∧∃ t:Nat,AnF y (HW y 2) rest k t∧z=(t:Int)-1):=fun z=>by
    constructor
    ·rintro⟨k',tk',h⟩;have hkk:k'=k:=by have a:=treeN_nb tk;have b:=treeN_nb tk';omega
     subst hkk;exact h
    ·intro h;exact⟨k,tk,h⟩
   obtain⟨x,its,he1,hnx⟩:∃ x its,e=prtN x its ((k:Int)-1)∧y.names[k]?=some (.str x):=by
    cases m with
    | zero=>exact tk.elim
    | succ m=>obtain⟨_,_,x,its,cs,e1,_,hn,_⟩:=tk;exact⟨x,its,e1,hn⟩
   have nmd:((sStar==nm)||((x==nm)||false))=true↔Nmd y nm k:=by
    simp only[Bool.or_eq_true,beq_iff_eq,Bool.or_false]
    constructor
    ·rintro(h|h)
     ·exact⟨x,hnx,.inl h.symm⟩
     ·exact⟨x,hnx,.inr h.symm⟩
    ·rintro⟨x',ex',h⟩;rw[hnx] at ex';injection ex' with ex';injection ex' with ex';subst ex';rcases h with h|h
     ·exact .inl h.symm
     ·exact .inr h.symm
   have tt:(tAndD (tB1 (e2 (oIn false) (eV 3) (eTup (aC (eK (.str (Str.ofString "*"))) (aC (e2 oIx (eV 6) (eK (.int 0))) aN))))) (tTru (eCall F_holds (aC (eV 6) (aC (eV 4) aN))))) (env found (some e))=some (((sStar==nm)||((x==nm)||false))&&bh):=by
    have t1:tB1 (e2 (oIn false) (eV 3) (eTup (aC (eK (.str (Str.ofString "*"))) (aC (e2 oIx (eV 6) (eK (.int 0))) aN)))) (env found (some e))=some ((sStar==nm)||((x==nm)||false)):=by rw[he1];exact tB1_eq rfl
    have t2:tTru (eCall F_holds (aC (eV 6) (aC (eV 4) aN))) (env found (some e))=some bh:=by show (F_holds [e,w]).bind _=_;rw[eh];rfl
    simp only[tAndD];rw[t1,t2];cases ((sStar==nm)||((x==nm)||false))<;>cases bh<;>rfl
   have hg:gN 6 e (env found v6)=some (env found (some e)):=rfl;by_cases hv:(((sStar==nm)||((x==nm)||false))&&bh)=true
   ·have hv':=hv;rw[Bool.and_eq_true] at hv;have c1:=nmd.mp hv.1;have c2:=hbh.mp hv.2;by_cases hrest:rest=[]
    ·
     subst hrest;have hnew:(k:Int)-1∉found:=fun hin=>by
      obtain⟨e',he',ha⟩:=(hmem _).mp hin;obtain⟨k',tk',_,_,t,ht',e1⟩:=ha;have ht':t=k':=ht';subst ht';have hb1:=treeN_nb tk';have hb2:=treeN_nb tk;obtain⟨j',hj',ej'⟩:=List.mem_iff_getElem.mp he';rw[List.length_take] at hj';have hjl:j<(blwN m way d).length:=(zC.mp he).1;have ej:(blwN m way d)[j]=e:=(zC.mp he).2;rw[List.getElem_take] at ej';have q:=(List.pairwise_iff_getElem.mp hbn) j' j (by rw[zH];omega) (by rw[zH];exact hjl) (by omega)
      apply q;rw[List.getElem_map,List.getElem_map,ej',ej,hb1,hb2];omega
     refine⟨_,env (found++[(k:Int)-1]) (some e),hg,?_,_,_,rfl,?_,fun z =>?_⟩
     ·unfold b_ends_1;rw[sIf_t (by rw[tt,hv'])]
      have l1:tB1 (e2 oEq (eCall oLen (aC (eV 1) aN)) (eK (.int 1))) (env found (some e))=some true:=rfl;rw[sIf_t l1];unfold sApp;rw[show lstAt 5 (env found (some e))=some (found.map D.int) from rfl,zA]
      have l2:e2 oIx (eV 6) (eK (.int 2)) (env found (some e))=some (.int ((k:Int)-1)):=by rw[he1];rfl
      rw[l2,zA,if_pos (by rw[zH,bigE_eq];omega)]
      show some (DO.nx [some d,some (.lst [stepD way nm w]),some (.str way),some (.str nm),some w,some (.lst (found.map D.int++[.int ((k:Int)-1)])),some e])=_;rw[show found.map D.int++[.int ((k:Int)-1)]=(found++[(k:Int)-1]).map D.int by simp]
     ·rw[List.nodup_append];refine⟨hnd,by simp,fun a ha b hb' =>?_⟩
      rw[yG] at hb';subst hb';intro e;subst e;exact hnew ha
     ·rw[htk,zO,hmem z,yG]
      constructor
      ·rintro(⟨e',he',ha⟩|rfl)
       ·exact⟨e',zU _ he',ha⟩
       ·exact⟨e,by simp,(uniq _).mpr ⟨c1,c2,k,rfl,rfl⟩⟩
      ·rintro⟨e',he',ha⟩;rcases zO.mp he' with he'|he'
       ·exact .inl ⟨e',he',ha⟩
       ·rw[yG] at he';subst he';obtain⟨_,_,t,ht',rfl⟩:=(uniq _).mp ha;have ht':t=k:=ht';rw[ht'];exact .inr rfl
    ·
     obtain⟨ns,en,hnn,hnm⟩:=ends_ok hm hy hN rest f hrest (by omega) (by omega) hr e k tk hze
     have hnl:ns.length≤y.names.length:=len_of hnn fun z hz'=>by obtain⟨j,ha,rfl⟩:=(hnm z).mp hz';exact⟨j,anf_lt hy hrest ha,rfl⟩
     refine⟨_,env (found++ns.filter fun z=>decide (z∉found)) (some e),hg,?_,_,_,rfl,?_,fun z =>?_⟩
     ·unfold b_ends_1;rw[sIf_t (by rw[tt,hv'])]
      have l1:tB1 (e2 oEq (eCall oLen (aC (eV 1) aN)) (eK (.int 1))) (env found (some e))=some false:=by
       refine tB1_eq ?_;rw[e2_eq (x :=.int ((stepD way nm w::rest).length:Int)) (y :=.int 1) rfl rfl];show some (D.bl (((stepD way nm w::rest).length:Int)==1))=_;have:rest.length≠0:=fun z=>hrest (List.length_eq_zero_iff.mp z)
       have q:(((stepD way nm w::rest).length:Int)==1)=false:=by rw[beq_eq_false_iff_ne];simp only[zP];omega
       rw[q]
      rw[sIf_f l1];have l2:eF (fLC (iL (eF (fCall (Fr_ends f) (aC (eV 6) (aC (eF (fSl (eV 1) (pS (eK (.int 1))) pN)) aN))))) [none,some 5] (gN 0) (tB1 (e2 (oIn true) (eV 0) (eV 1))) (eV 0)) (env found (some e))=some (.lst ((ns.filter fun z=>decide (z∉found)).map D.int)):=by
       refine eF_eq (fLC_eq (ds:=ns.map D.int) (iL_eq (eF_eq ?_)) (by rw[zH,bigE_eq];omega) (notin_lc found ns))
       show Fr_ends f [e,.lst (cut (stepD way nm w::rest) (some 1) none)]=_;rw[hcut];exact en
      have hfl2:(ns.filter fun z=>decide (z∉found)).length≤ns.length:=List.length_filter_le _ _
      have l3:fAdd (eV 5) (eF (fLC (iL (eF (fCall (Fr_ends f) (aC (eV 6) (aC (eF (fSl (eV 1) (pS (eK (.int 1))) pN)) aN))))) [none,some 5] (gN 0) (tB1 (e2 (oIn true) (eV 0) (eV 1))) (eV 0))) (env found (some e))=some ((found++ns.filter fun z=>decide (z∉found)).map D.int):=by
       unfold fAdd;rw[show eV 5 (env found (some e))=some (.lst (found.map D.int)) from rfl,zA,l2,zA]
       show (if _≤bigE then _ else _)=_
       rw[if_pos (by rw[zH,zH,bigE_eq];omega),List.map_append]
      rw[sSetO_eq l3];rfl
     ·rw[List.nodup_append];refine⟨hnd,hnn.filter _,fun a ha b hb' =>?_⟩
      have:=(List.mem_filter.mp hb').2;intro e;subst e;simp at this;exact this ha
     ·rw[htk,zO,hmem z,List.mem_filter,hnm z]
      constructor
      ·rintro(⟨e',he',ha⟩|⟨⟨t,ha,rfl⟩,_⟩)
       ·exact⟨e',zU _ he',ha⟩
       ·exact⟨e,by simp,(uniq _).mpr ⟨c1,c2,t,ha,rfl⟩⟩
      ·rintro⟨e',he',ha⟩;rcases zO.mp he' with he'|he'
       ·exact .inl ⟨e',he',ha⟩
       ·rw[yG] at he';subst he';obtain⟨_,_,t,ht',rfl⟩:=(uniq _).mp ha;by_cases q:((t:Int)-1)∈found
        ·exact .inl ((hmem _).mp q)
        ·exact .inr ⟨⟨t,ht',rfl⟩,by simpa using q⟩
   ·have hv':(((sStar==nm)||((x==nm)||false))&&bh)=false:=by simpa using hv
    refine⟨_,env found (some e),hg,?_,_,_,rfl,hnd,fun z =>?_⟩
    ·unfold b_ends_1;rw[sIf_f (by rw[tt,hv'])];rfl
    ·rw[htk,hmem z]
     constructor
     ·rintro⟨e',he',ha⟩;exact⟨e',zU _ he',ha⟩
     ·rintro⟨e',he',ha⟩;rcases zO.mp he' with he'|he'
      ·exact⟨e',he',ha⟩
      ·rw[yG] at he';subst he';obtain⟨a1,a2,_⟩:=(uniq _).mp ha;exfalso;apply hv;rw[Bool.and_eq_true];exact⟨nmd.mpr a1,hbh.mpr a2⟩)
  rw[List.take_length] at hmem;refine⟨found,?_,hnd,fun z =>?_⟩
  ·rw[Fr_ends];unfold g_ends;refine runO_eq (o :=.ro (found.map D.int)) rfl ?_ rfl;have s1:sAsg (gN3 2 3 4) (e2 oIx (eV 1) (eK (.int 0))) (startD 7 [d,.lst (stepD way nm w::rest)])=some (.nx [some d,some (.lst (stepD way nm w::rest)),some (.str way),some (.str nm),some w,none,none]):=by
    have:e2 oIx (eV 1) (eK (.int 0)) (startD 7 [d,.lst (stepD way nm w::rest)])=some (stepD way nm w):=by show atI (stepD way nm w::rest) 0=_;exact atN (i:=0) rfl
    simp only[sAsg];rw[this];rfl
   rw[sSeq_nx s1];have s2:sSetO 5 (eLst aN) [some d,some (.lst (stepD way nm w::rest)),some (.str way),some (.str nm),some w,none,none]=some (.nx (env [] none)):=rfl;rw[sSeq_nx s2];have s3:iL (eCall F_below (aC (eV 0) (aC (eV 2) aN))) (env [] none)=some (blwN m way d):=iL_eq (by show F_below [d,.str way]=_;exact hb)
   rw[sSeq_nx (sFor_eq s3 ef)]
   rfl
  ·rw[hmem z]
   constructor
   ·rintro⟨e,he,k,tk,h1,h2,t,h3,rfl⟩;obtain⟨j,hj,tj⟩:=r1 e he;have hjk:j=k:=by have a:=treeN_nb tj;have b:=treeN_nb tk;omega
    subst hjk;exact⟨t,⟨way,nm,w,j,rfl,hj,h1,h2,h3⟩,rfl⟩
   ·rintro⟨t,⟨way',nm',w',k,e,r,h1,h2,h3⟩,rfl⟩;injection e with e;injection e with e1 e;injection e with e2 e;injection e with e3 _;injection e1 with e1;injection e2 with e2;subst e1 e2 e3;obtain⟨e,he,tk⟩:=r2 k r;exact⟨e,he,k,tk,h1,h2,t,h3,rfl⟩
end
end K05
end
noncomputable section
namespace K05
open PySem L2
theorem answersL_ok {y:Ly}(h:LW y) (hN:y.names.length≤1000) (d:D) (el:F_laid "Layout" F_signs_of [.tup [.str sE,.lst [d]]]=some (lyD "Layout" y)) (qs:List D) (hq:∀ s∈qs,WfS 2 s) :
  ∃ bs:List Bool,F_answers [d,.lst qs]=some ((ansL 0 bs).map D.int)∧bs.length=y.names.length∧∀ i,i<y.names.length→(bs[i]?=some true↔AnF y (HW y 2) qs 0 i):=by
 obtain⟨b0,e0,hb0,ht0⟩:=zero_lc y.names.length;obtain⟨ρ',ef,bs,v4,rfl,hb,hsp⟩:=for_inv0 (τ:=gN 4) (g:=b_answers_1) (ds:=qs) (fun j ρ=>∃ (bs:List Bool) (v4:Option D),ρ=[some d,some (.lst qs),some (lyD "Layout" y),some (.lst (mk bs)),v4]∧bs.length=y.names.length∧∀ i,i<y.names.length→(Tr bs i↔AnF y (HW y 2) (qs.take j) 0 i))
  (ρ:=[some d,some (.lst qs),some (lyD "Layout" y),some (.lst (mk b0)),none])
  ⟨b0,none,rfl,hb0,fun i hi=>by rw[ht0 i hi];rfl⟩ (by
  rintro j s ρ hd ⟨bs,v4,rfl,hb,hsp⟩;have hj:j<qs.length:=(zC.mp hd).1;obtain⟨way,nm,w,rfl,hway,hw⟩:=hq s (zX hd);obtain⟨cs,ec,hc,hcs⟩:=(marks_ok h hN 2).2 12 way nm w (by decide) hw
  obtain⟨ls,elb,hls,hlsp⟩:=below_ok h hN way bs hb;have eb:=both_ok ls cs (by omega)
  refine⟨_,[some d,some (.lst qs),some (lyD "Layout" y),some (.lst (mk (List.zipWith (· && ·) ls cs))),some (stepD way nm w)],rfl,?_,_,_,rfl,by simp[hls,hb,hc],fun i hi =>?_⟩
  ·unfold b_answers_1;refine(sSet_eq (eF_eq (ds:=mk (List.zipWith (· && ·) ls cs)) ?_)).trans rfl;have e1:eF (fCall F_below_marks (aC (eV 2) (aC (e2 oIx (eV 4) (eK (.int 0))) (aC (eV 3) aN)))) [some d,some (.lst qs),some (lyD "Layout" y),some (.lst (mk bs)),some (stepD way nm w)]=some (.lst (mk ls)):=by refine eF_eq ?_;show F_below_marks [lyD "Layout" y,.str way,.lst (mk bs)]=_;exact elb
   have e2':eCall F_fit_marks (aC (eV 2) (aC (eV 4) aN)) [some d,some (.lst qs),some (lyD "Layout" y),some (.lst (mk bs)),some (stepD way nm w)]=some (.lst (mk cs)):=by show F_fit_marks [lyD "Layout" y,stepD way nm w]=_;exact ec
   show (fCall F_both_marks (aC (eF (fCall F_below_marks (aC (eV 2) (aC (e2 oIx (eV 4) (eK (.int 0))) (aC (eV 3) aN))))) (aC (eCall F_fit_marks (aC (eV 2) (aC (eV 4) aN))) aN))) [some d,some (.lst qs),some (lyD "Layout" y),some (.lst (mk bs)),some (stepD way nm w)]=_;rw[show ∀ (F:List D→Option (List D)) (g:DL) (ρ:DEnv),fCall F g ρ=(g ρ).bind F from fun _ _ _=>rfl]
   simp only[aC,aN];rw[e1,e2'];exact eb
  ·have ht:qs.take (j+1)=qs.take j++[stepD way nm w]:=by rw[List.take_add_one,hd];rfl
   rw[ht,AnF.snoc,tr_zip,hlsp i]
   constructor
   ·rintro⟨⟨k,r,t⟩,t2⟩;have hk:k<y.names.length:=by have:=r.lt h;omega
    exact⟨k,(hsp k hk).mp t,AnF.one.mpr ⟨r,(hcs i hi).mp t2⟩⟩
   ·rintro⟨k,a,b⟩;obtain⟨r,n1,w1⟩:=AnF.one.mp b;have hk:k<y.names.length:=by have:=r.lt h;omega
    exact⟨⟨k,r,(hsp k hk).mpr a⟩,(hcs i hi).mpr ⟨n1,w1⟩⟩)
 rw[List.take_length] at hsp;have ea:=ansL_lc bs 0;refine⟨bs,?_,hb,hsp⟩
 ·unfold F_answers g_answers;refine runO_eq (o :=.ro ((ansL 0 bs).map D.int)) rfl ?_ rfl;have e1:eCall F_laid_out (aC (eTup (aC (eK (.str (Str.ofString ""))) (aC (eF (eLst (aC (eV 0) aN))) aN))) aN) (startD 5 [d,.lst qs])=some (lyD "Layout" y):=by show F_laid "Layout" F_signs_of [.tup [.str sE,.lst [d]]]=_;exact el
  rw[sSeq_nx (sSet_eq e1)];have e2':eF (fLC (iR1 (eCall oLen (aC (eFld "Layout" "names" (eV 2)) aN))) [none] (gN 0) tYes (e2 oEq (eV 0) (eK (.int 0)))) [some d,some (.lst qs),some (lyD "Layout" y),none,none]=some (.lst (mk b0)):=by
   refine eF_eq (fLC_eq (ds:=rngD 0 y.names.length) ?_ (by rw[rngD_len,bigE_eq];omega) e0)
   refine(iR1_eq (z:=(y.names.length:Int)) ?_ (small62 (by omega))).trans (by simp)
   simp only[eCall,aC,aN];rw[lay_names y _ 2 rfl]
   rfl
  refine(sSeq_nx (sSet_eq (ρ:=[some d,some (.lst qs),some (lyD "Layout" y),none,none]) e2')).trans ?_;refine(sSeq_nx (sFor_eq (ds:=qs) (ρ:=[some d,some (.lst qs),some (lyD "Layout" y),some (.lst (mk b0)),none]) rfl ef)).trans ?_;refine sRetF_eq (fLC_eq (ds:=enumD (mk bs)) rfl ?_ ea);unfold enumD;simp;rw[bigE_eq];omega
theorem lanswers_ok {p p':D}{y:Ly}{k' n:Nat}(hn:n≤11) (hp:PtOk n p) (hz:Sz 900 p) (hu:Num [p] 1 [p'] k') (hy:LW y) (hN:y.names.length≤63) (ht:TreeN y 0 y.names.length (n+1) 0 (prtN sE [p'] (-1))) (hz2:SzN 900 (prtN sE [p'] (-1)))
  {qs:List D}(hq:∀ s∈qs,WfS 2 s) (q1:qs≠[]) (q2:qs.length≤20):∃ ns:List Int,F_lanswers [p,.lst qs]=some (ns.map D.int)∧ns.Pairwise (· < ·)∧∀ z,z∈ns↔∃ j:Nat,AnF y (HW y 2) qs 0 j∧z=(j:Int)-1:=by
 obtain⟨ns,en,hnd,hm⟩:=ends_ok (y:=y) (lo:=0) (hi:=y.names.length) (m:=n+1) (by omega) hy (by omega) qs 20 q1 q2 (by omega) hq _ 0 ht hz2
 have hl:ns.length≤y.names.length:=len_of hnd fun z hz'=>by obtain⟨j,ha,rfl⟩:=(hm z).mp hz';exact⟨j,anf_lt hy q1 ha,rfl⟩
 obtain⟨f1,f2⟩:=firsts_spec ns;refine⟨srt (firsts ns),?_,srt_rise _ f1,fun z =>?_⟩
 ·have enu:F_numbered [p,.lst [.int 0]]=some (p',cN k'):=numbered_ok 12 n p p' 1 k' (by omega) hp hz hu
  have d1:eCallT F_numbered (eV 0) (eLst (aC (eK (.int 0)) aN)) (startD 2 [p,.lst qs])=some p':=by show (F_numbered [p,.lst [.int 0]]).map _=_;rw[enu];rfl
  have d2:eTup (aC (eK (.str (Str.ofString ""))) (aC (eF (eLst (aC (eCallT F_numbered (eV 0) (eLst (aC (eK (.int 0)) aN))) aN))) (aC (e1 oNeg (eK (.int 1))) aN))) (startD 2 [p,.lst qs])=some (prtN sE [p'] (-1)):=by
   simp only[eTup,aC,aN,eF,eLst];rw[d1]
   rfl
  have e3:eF (fCall F_ends (aC (eTup (aC (eK (.str (Str.ofString ""))) (aC (eF (eLst (aC (eCallT F_numbered (eV 0) (eLst (aC (eK (.int 0)) aN))) aN))) (aC (e1 oNeg (eK (.int 1))) aN)))) (aC (eV 1) aN))) (startD 2 [p,.lst qs])=some (.lst (ns.map D.int)):=by
   refine eF_eq ?_;refine(show ∀ (F:List D→Option (List D)) (g:DL) (ρ:DEnv) (xs:List D),g ρ=some xs→fCall F g ρ=F xs from fun F g ρ xs e=>by simp only[fCall,e,zA]) _ _ _ [prtN sE [p'] (-1),.lst qs] ?_ |>.trans en
   show (eTup _ (startD 2 [p,.lst qs])).bind _=_;rw[d2]
   rfl
  unfold F_lanswers g_lanswers;refine runO_eq (o :=.ro ((srt (firsts ns)).map D.int)) rfl (sRetF_eq ?_) rfl;unfold fSS;rw[e3,zA];show (intsD (ns.map D.int)).bind _=_;rw[intsD_of,zA,if_pos (by omega)]
 ·rw[(srt_perm _).mem_iff,f2,hm]
theorem alike_int (f:Nat) (z:Int):Fr_alike (f+1) [.int z,.int z]=some (.bl true):=by
 rw[Fr_alike];unfold g_alike;refine runD_eq (o :=.rt (.bl true)) rfl ?_ rfl;have t1:sIf (tTru (eIs "str" (eV 1))) (sRet (eAnd (eIs "str" (eV 0)) (e2 oEq (eV 0) (eV 1)))) sNil (startD 3 [.int z,.int z])=some (.nx (startD 3 [.int z,.int z])):=by rw[sIf_f (by show some (isT "str" (.int z))=_;rfl)];rfl
 rw[sSeq_nx t1];have t2:sIf (tTru (eIs "int" (eV 1))) (sRet (eAnd (eIs "int" (eV 0)) (eAnd (eNot (tB1 (eIs "bool" (eV 0)))) (e2 oEq (eV 0) (eV 1))))) sNil (startD 3 [.int z,.int z])=some (.rt (.bl true)):=by
  rw[sIf_t (by show some (isT "int" (.int z))=_;rfl)]
  refine sRet_eq ?_;have c1:eIs "int" (eV 0) (startD 3 [.int z,.int z])=some (.bl true):=rfl;have c2:eNot (tB1 (eIs "bool" (eV 0))) (startD 3 [.int z,.int z])=some (.bl true):=rfl;have c3:e2 oEq (eV 0) (eV 1) (startD 3 [.int z,.int z])=some (.bl true):=by rw[e2_eq (x :=.int z) (y :=.int z) rfl rfl,eqI];simp
  unfold eAnd;rw[tB1_eq c1,zA,if_pos rfl,tB1_eq c2,zA,if_pos rfl];exact c3
 simp only[sSeq,t2,zA]
theorem alike_ok (f:Nat) (ns:List Int) (hl:ns.length≤1000):Fr_alike (f+2) [.lst (ns.map D.int),.lst (ns.map D.int)]=some (.bl true):=by
 rw[Fr_alike];unfold g_alike;refine runD_eq (o :=.rt (.bl true)) rfl ?_ rfl;have st:∀ g:DG,sIf (tTru (eIs "str" (eV 1))) g sNil (startD 3 [.lst (ns.map D.int),.lst (ns.map D.int)])=some (.nx (startD 3 [.lst (ns.map D.int),.lst (ns.map D.int)])):=fun g=>by rw[sIf_f (by show some (isT "str" (.lst _))=_;rfl)];rfl
 have si:∀ g:DG,sIf (tTru (eIs "int" (eV 1))) g sNil (startD 3 [.lst (ns.map D.int),.lst (ns.map D.int)])=some (.nx (startD 3 [.lst (ns.map D.int),.lst (ns.map D.int)])):=fun g=>by rw[sIf_f (by show some (isT "int" (.lst _))=_;rfl)];rfl
 have sl:∀ g h:DG,sIf (tTru (eIs "list" (eV 1))) (sIf (tNotD (tTru (eIs "list" (eV 0)))) g sNil) h (startD 3 [.lst (ns.map D.int),.lst (ns.map D.int)])=some (.nx (startD 3 [.lst (ns.map D.int),.lst (ns.map D.int)])):=fun g h=>by rw[sIf_t (by show some (isT "list" (.lst _))=_;rfl),sIf_f (by show (some (isT "list" (.lst _))).map (fun c=> !c)=_;rfl)];rfl
 have sn:∀ g:DG,sIf (tB1 (e2 oNe (eCall oLen (aC (eV 0) aN)) (eCall oLen (aC (eV 1) aN)))) g sNil (startD 3 [.lst (ns.map D.int),.lst (ns.map D.int)])=some (.nx (startD 3 [.lst (ns.map D.int),.lst (ns.map D.int)])):=fun g=>by
  rw[sIf_f (by refine tB1_eq (b:=false) ?_;rw[e2_eq (x :=.int ((ns.map D.int).length:Int)) (y :=.int ((ns.map D.int).length:Int)) rfl rfl,neI];simp)];rfl
 rw[sSeq_nx (st _),sSeq_nx (si _),sSeq_nx (sl _ _),sSeq_nx (sn _)];obtain⟨ρ',ef,v,rfl⟩:=for_inv0 (τ:=gN 2) (g:=b_alike_1 (Fr_alike (f+1))) (ds:=rngD 0 ns.length) (fun _ ρ=>∃ v:Option D,ρ=[some (.lst (ns.map D.int)),some (.lst (ns.map D.int)),v])
  (ρ:=startD 3 [.lst (ns.map D.int),.lst (ns.map D.int)]) ⟨none,rfl⟩ (by
  rintro j d ρ hd ⟨v,rfl⟩;obtain⟨hj,rfl⟩:=rngD_get hd;have hz:(0:Int)+(j:Int)=(j:Int):=by omega
  rw[hz];refine⟨_,[some (.lst (ns.map D.int)),some (.lst (ns.map D.int)),some (.int (j:Int))],rfl,?_,_,rfl⟩;unfold b_alike_1;have ea:atI (ns.map D.int) (j:Int)=some (.int ns[j]):=atN (by rw[zM,zI hj];rfl)
  have e0:e2 oIx (eV 0) (eV 2) [some (.lst (ns.map D.int)),some (.lst (ns.map D.int)),some (.int (j:Int))]=some (.int ns[j]):=ea;have e1:e2 oIx (eV 1) (eV 2) [some (.lst (ns.map D.int)),some (.lst (ns.map D.int)),some (.int (j:Int))]=some (.int ns[j]):=ea;have e3:tNotD (tTru (eCall (Fr_alike (f+1)) (aC (e2 oIx (eV 0) (eV 2)) (aC (e2 oIx (eV 1) (eV 2)) aN)))) [some (.lst (ns.map D.int)),some (.lst (ns.map D.int)),some (.int (j:Int))]=some false:=by unfold tNotD tTru eCall;simp only[aC,aN];rw[e0,e1];show ((Fr_alike (f+1) [.int ns[j],.int ns[j]]).bind _).map _=_;rw[alike_int];rfl
  exact(sIf_f e3).trans rfl)
 have ei:iR1 (eCall oLen (aC (eV 1) aN)) (startD 3 [.lst (ns.map D.int),.lst (ns.map D.int)])=some (rngD 0 ns.length):=by
  refine(iR1_eq (z:=(ns.length:Int)) ?_ (small62 (by omega))).trans (by simp)
  show oLen [.lst (ns.map D.int)]=_;rw[lenL,zH]
 rw[sSeq_nx (sFor_eq ei ef)]
 rfl
end K05
end
noncomputable section
namespace K05
open PySem L2
local macro_rules | `(tactic| walk_at "m") => `(tactic| simp only [runM, startD, sSeq, sSet, sSetO, sIf, sNil, lstAt, e2, eV, eK, eF, eLst, eTup, eCall, fCall, aC, aN, tB1, tAndD, tOrD, tNotD, iL, iR1, srcρ, sSetM, sRetM, sRetMO, sAppM, sForM, iRM, m2, mP, mAN, mAC, mTup, mCall, mLC, outM,
  List.length_cons, List.length_nil, List.map_cons, List.map_nil, List.cons_append, List.nil_append, List.replicate, List.getElem?_cons_zero, List.getElem?_cons_succ, List.getElem?_nil, Option.join_some, Option.join_none, Option.bind_some, Option.map_some, Option.getD_some, addI, subI, eqI, eqB, eqS, ltI, gtI, geI, ixL, ixT, lenL, lenT,
  List.set_cons_zero, List.set_cons_succ, if_true, if_false, Bool.false_eq_true, Nat.reduceAdd, Nat.reduceSub, Nat.reduceLeDiff])
theorem more_steps_ok (nms:List Str) (hn:nms.length≤100) (xs:List Int):∃ (ss:List D) (xs':List Int),F_more_steps [.lst (xs.map D.int),.lst (nms.map D.str)]=some (.lst ss,xs'.map D.int)∧1≤ss.length∧ss.length≤2∧∀ s∈ss,WfS 2 s:=by
 have r0:=yC (popZ xs) (show (2:Int)≠0 by decide)
 have r1:=zY (popZ xs) (show (0:Int)<2 by decide)
 have e4:oMod (.int (popZ xs)) (.int 2)=some (.int (popZ xs%2)):=modR (by decide)
 have hpop:=pop_ok xs;generalize popZ xs=num at *
 generalize num%2=md at *
 have hr1 : -(2 ^ 62)≤1+md∧1+md<2 ^ 62:=⟨Int.le_trans (by decide) (show (0:Int)≤1+md by omega),Int.lt_of_le_of_lt (show 1+md≤2 by omega) (by decide)⟩
 unfold F_more_steps g_more_steps;walk_at "m";rw[hpop];walk_at "m";rw[e4];walk_at "m";rw[if_pos hr1];walk_at "m";have hl0:(0:Int)≤(nms.length:Int):=Int.natCast_nonneg _;obtain⟨ρ',ef,ys,ss,v4,v5,v6,rfl,hl,hss⟩:=for_inv0 (τ:=gN 3) (g:=b_more_steps_1) (ds:=rngD 0 (1+md).toNat) (fun i ρ=>∃ (ys:List Int) (ss:List D) (v4 v5 v6:Option D),ρ=[some (.lst (ys.map D.int)),some (.lst (nms.map D.str)),some (.lst ss),v4,v5,v6]∧ss.length=i∧∀ s∈ss,WfS 2 s)
  (ρ:=[some (.lst (xs.dropLast.map D.int)),some (.lst (nms.map D.str)),some (.lst []),none,none,none]) ⟨xs.dropLast,[],none,none,none,rfl,rfl,fun s h=>(by cases h)⟩ (by
  rintro j d ρ hd ⟨ys,ss,v4,v5,v6,rfl,hl,hss⟩;have hj:j<(1+md).toNat:=by have:=(zC.mp hd).1;rw[rngD_len] at this;exact this
  have hpop:=pop_ok ys;generalize popZ ys=num at *
  have t0:=yC (num/2) (show (nms.length:Int)+1≠0 by omega)
  have t1:=zY (num/2) (show (0:Int)<(nms.length:Int)+1 by omega)
  obtain⟨nm,en,_⟩:=atI_str (xs:=nms++[Str.ofString "*"]) (z:=num/2%((nms.length:Int)+1)) t0 (by simpa using t1)
  rw[List.map_append] at en;obtain⟨wy,ey,hy⟩:∃ wy:Str,atI [D.str (Str.ofString "inner"),D.str (Str.ofString "own")] (num%2)=some (.str wy)∧(wy=sInner∨wy=sOwn):=by
   have:num%2=0∨num%2=1:=by omega
   rcases this with z|z
   ·rw[z];exact⟨_,rfl,.inl rfl⟩
   ·rw[z];exact⟨_,rfl,.inr rfl⟩
  refine⟨_,[some (.lst (ys.dropLast.map D.int)),some (.lst (nms.map D.str)),some (.lst (ss++[stepD wy nm wAny])),some d,some (.int num),some (.str nm)],rfl,?_,ys.dropLast,ss++[stepD wy nm wAny],some d,some (.int num),some (.str nm),rfl,by simp[hl],fun s hs =>?_⟩
  ·unfold b_more_steps_1;walk_at "m";rw[hpop];walk_at "m";rw[fdivR ⟨by decide,by decide⟩]
   walk_at "m";have hadd:oAdd (.lst (nms.map D.str)) (.lst [.str (Str.ofString "*")])=some (.lst (nms.map D.str++[.str (Str.ofString "*")])):=by simp only[oAdd];rw[if_pos (by simp[bigE_eq];omega)]
   rw[hadd];walk_at "m";rw[zH];rw[modR (by omega)]
   walk_at "m";rw[show atI (nms.map D.str++[D.str (Str.ofString "*")]) (num/2%((nms.length:Int)+1))=some (.str nm) from en]
   walk_at "v";rw[modR (by decide)]
   walk_at "v";rw[ey];walk_at "v";rw[if_pos (by rw[bigE_eq];omega)]
  ·rcases zO.mp hs with hs|hs
   ·exact hss s hs
   ·have:s=stepD wy nm wAny:=by simpa using hs
    exact⟨wy,nm,wAny,this,hy,WfW.any 2⟩)
 rw[ef];walk_at "m";rw[rngD_len] at hl;exact⟨ss,ys,rfl,by omega,by omega,hss⟩
theorem cntA (k:Str) (a b:List D):cnt k (a++b)=cnt k a+cnt k b:=by simp[cnt]
theorem num_opens {its its':List D}{k k':Nat}(h:Num its k its' k'):∀ {ss:List D},Sgs its ss→k'≤k+cnt sOpen ss:=by
 induction h with
 | nil=>intro ss _;omega
 | txt _ ih=>
  intro ss hs;cases hs with
  | txt hs=>have:=ih hs;rw[cnt_cons];omega
 | prt _ _ i1 i2=>
  intro ss hs;cases hs with
  | prt h1 h2=>
   have a1:=i1 h1;have a2:=i2 h2;have h0:∀ nm,headIs sOpen (sgO nm)=true:=fun nm=>by show (sOpen==sOpen)=true;simp
   rw[cnt_cons,if_pos (h0 _),cntA,cnt_cons];omega
noncomputable abbrev eE (ns:List Int) (a1 a2 a3 a4 a5 a6 a7 a8 a9:Option D):DEnv:=[some (.scr ns),a1,a2,a3,a4,a5,a6,a7,a8,a9]
noncomputable abbrev eG (ns xs:List Int) (nms:List Str) (som:Int) (a4 a5 a6 a7 a8 a9:Option D):DEnv:=eE ns (some (.lst (xs.map D.int))) (some (.lst (nms.map D.str))) (some (.int som)) a4 a5 a6 a7 a8 a9
noncomputable abbrev eH (ns xs:List Int) (nms:List Str) (som:Int) (pap:D) (qs:List D) (a6 a7 a8 a9:Option D):DEnv:=eG ns xs nms som (some pap) (some (.lst qs)) a6 a7 a8 a9
noncomputable abbrev eI (ns xs:List Int) (nms:List Str) (som:Int) (pap:D) (qs:List D) (due:List Int) (a8 a9:Option D):DEnv:=eH ns xs nms som pap qs (some (.lst (due.map D.int))) (some (.lst [pap,.lst qs])) a8 a9
noncomputable abbrev eJ (ns xs:List Int) (nms:List Str) (som:Int) (pap:D) (qs:List D) (due:List Int):DEnv:=eH ns xs nms som pap qs (some (.lst (due.map D.int))) none none none
theorem sSetM_eq {i:Nat}{f:DM}{ρ ρ':DEnv}{d:D}(e:f ρ=some (d,ρ')):sSetM i f ρ=some (.nx (ρ'.set i (some d))):=by simp only[sSetM,e,zT]
theorem aC_eq {f:DF}{g:DL}{ρ:DEnv}{x:D}{xs:List D}(e:f ρ=some x) (e':g ρ=some xs):aC f g ρ=some (x::xs):=by simp only[aC,e,e',zA]
theorem eCall_eq {F:List D→Option D}{g:DL}{ρ:DEnv}{xs:List D}(e:g ρ=some xs):eCall F g ρ=F xs:=by simp only[eCall,e,zA]
theorem fCall_eq {F:List D→Option (List D)}{g:DL}{ρ:DEnv}{xs:List D}(e:g ρ=some xs):fCall F g ρ=F xs:=by simp only[fCall,e,zA]
theorem law_true (ns:List Int) (hns:ns.length≤63):F_law [.scr ns]=some (.bl true):=by
 obtain⟨xs0,ex,_,_⟩:=draws_ok ns hns 200 26 (by decide) (by decide) (by decide) (by decide)
 obtain⟨nms,en,hn1,hn4⟩:=names_ok (popZ xs0);obtain⟨som,hsom⟩:∃ som,som=popZ xs0.dropLast:=⟨_,rfl⟩;have m0:=yC som (show (48:Int)≠0 by decide)
 have m1:=zY som (show (0:Int)<48 by decide)
 have em:oMod (.int som) (.int 48)=some (.int (som%48)):=modR (by decide)
 have ed48:oFdiv (.int som) (.int 48)=some (.int (som/48)):=fdivR ⟨by decide,by decide⟩
 have em4:oMod (.int (som/48)) (.int 4)=some (.int (som/48%4)):=modR (by decide)
 obtain⟨dr,edr,hdr,_⟩:=draws_ok ns hns 2 (1+som%48) (by decide) (by decide) (by omega) (by omega)
 obtain⟨ss,dep,es,hs,hsl,_,_,hpo⟩:=signs_ok dr nms 6 6 rfl (by decide) (by omega) hn1
 have hl48:ss.length≤48:=by omega
 have hl1:1≤ss.length:=by omega
 obtain⟨z,ez,_⟩:=hs.ex;have hne:ss≠[]:=fun e=>by rw[e] at hl1;simp at hl1
 obtain⟨pap,epap,hS⟩:=stump_ok ez hne (by omega)
 have hzl:z.1.length≤48:=by have:=zlen_run ss ez;have hc:cnt sOpen ss≤ss.length:=List.length_filter_le _ _;simp at this;omega
 have hsz:Sz 900 pap:=⟨_,hS,by simp;omega⟩
 have hpt:PtOk 6 pap:=by
  have h1:=PPo.close _ rfl (hpo z ez);have hE:F_stump [.lst ss]=(zclose z.1 z.2)[0]? :=by simp only[F_stump];rw[if_pos (by omega),ez];rfl
  rw[epap] at hE;have hmem:pap∈zclose z.1 z.2:=zX hE.symm;rcases h1 pap hmem with ⟨x,hx⟩|h
  ·exfalso;subst hx;cases hS':ss++List.replicate z.1.length sgC with
   | nil=>rw[hS'] at hS;cases hS
   | cons a b=>
    rw[hS'] at hS;cases hS with
    | txt h=>
     have h0:ss.head? = some (sgT x):=by
      cases ss with
      | nil=>exact absurd rfl hne
      | cons s ss=>simp at hS';simp[hS'.1]
     cases ss with
     | nil=>exact absurd rfl hne
     | cons s ss=>
      simp at h0;subst h0;have ez:(zstep ([],[]) (sgT x)).bind (zrun ss)=some z:=ez;have:zstep ([],[]) (sgT x)=none:=by
       have:¬ sText=sOpen:=fun z=>sOT z.symm
       simp[zstep,this]
      rw[this] at ez;cases ez
  ·exact h
 obtain⟨qs0,xs1,eq0,hq1,hq2,hq0⟩:=steps_ok nms (by omega) xs0.dropLast.dropLast
 obtain⟨qs,xs2,e5,hql,hq1',hq⟩:∃ (qs:List D) (xs2:List Int),sIf (tB1 (e2 oEq (e2 oMod (e2 oFdiv (eV 3) (eK (.int 48))) (eK (.int 4))) (eK (.int 0)))) (sSetM 5 (m2 oAdd (mP (eV 5)) (mCall F_more_steps 1 (aC (eV 2) aN)))) sNil (eH ns xs1 nms som pap qs0 none none none none)
   = some (.nx (eH ns xs2 nms som pap qs none none none none))∧qs.length≤5∧qs≠[]∧∀ s∈qs,WfS 2 s:=by
  have ec:tB1 (e2 oEq (e2 oMod (e2 oFdiv (eV 3) (eK (.int 48))) (eK (.int 4))) (eK (.int 0))) (eH ns xs1 nms som pap qs0 none none none none)=some (som/48%4==0):=by
   refine tB1_eq ?_;have c1:e2 oFdiv (eV 3) (eK (.int 48)) (eH ns xs1 nms som pap qs0 none none none none)=some (.int (som/48)):=ed48;have c2:e2 oMod (e2 oFdiv (eV 3) (eK (.int 48))) (eK (.int 4)) (eH ns xs1 nms som pap qs0 none none none none)=some (.int (som/48%4)):=by rw[e2_eq c1 (show eK (.int 4) _=some (.int 4) from rfl)];exact em4
   rw[e2_eq c2 (show eK (.int 0) _=some (.int 0) from rfl)]
   exact eqI
  by_cases hb:(som/48%4==0)=true
  ·obtain⟨ms,xs2,eqm,hm1,hm2,hmw⟩:=more_steps_ok nms (by omega) xs1
   refine⟨qs0++ms,xs2,?_,by simp;omega,fun z=>by simp at z;rw[z.1] at hq1;simp at hq1,fun s hs'=>(zO.mp hs').elim (hq0 s) (hmw s)⟩
   rw[sIf_t (by rw[ec,hb])]
   refine(sSetM_eq (d :=.lst (qs0++ms)) (ρ':=(eH ns xs2 nms som pap qs0 none none none none)) ?_).trans rfl;have c1:mCall F_more_steps 1 (aC (eV 2) aN) (eH ns xs1 nms som pap qs0 none none none none)=some (.lst ms,(eH ns xs2 nms som pap qs0 none none none none)):=by show ((F_more_steps [.lst (xs1.map D.int),.lst (nms.map D.str)]).map _)=_;rw[eqm];rfl
   unfold m2;rw[show mP (eV 5) (eH ns xs1 nms som pap qs0 none none none none)=some (.lst qs0,(eH ns xs1 nms som pap qs0 none none none none)) from rfl,zA,c1,zA]
   rw[addL (by rw[bigE_eq];omega)]
   rfl
  ·refine⟨qs0,xs1,?_,by omega,fun z=>by rw[z] at hq1;simp at hq1,hq0⟩
   rw[sIf_f (by rw[ec];simpa using hb)]
   rfl
 have hroot:PtOk 7 (prtD sE [pap]):=⟨sE,[pap],rfl,fun e he=>by rw[yG.mp he];exact .inr hpt⟩
 have hSr:Sgs [prtD sE [pap]] (sgO sE::((ss++List.replicate z.1.length sgC)++[sgC])) :=.prt hS .nil;have hszr:Sz 900 (prtD sE [pap]):=⟨_,hSr,by simp;omega⟩
 obtain⟨its',k',hu0⟩:=num_ex 7 [prtD sE [pap]] 0 (fun e he=>by rw[yG.mp he];exact .inr hroot)
 obtain⟨r',hr'⟩:∃ r',its'=[r']:=by
  have:=hu0.len;cases its' with
  | nil=>simp at this
  | cons a l=>cases l with
   | nil=>exact⟨a,rfl⟩
   | cons b l=>simp at this
 subst hr';obtain⟨y,ey,hy,hN,hNk,ht⟩:=table_partN (Fs:=F_signs_of) signs_of_ok hroot hszr hu0;have hzr':SzN 900 r':=⟨_,_,0,k',hSr,by simp;omega,hu0⟩
 obtain⟨jts,hr',hu1⟩:=hu0.prt_inv;obtain⟨pap',hp'⟩:∃ p',jts=[p']:=by
  have:=hu1.len;cases jts with
  | nil=>simp at this
  | cons a l=>cases l with
   | nil=>exact⟨a,rfl⟩
   | cons b l=>simp at this
 subst hp';have hr'':r'=prtN sE [pap'] (-1):=hr';subst hr'';have hN63:y.names.length≤63:=by
  have h1:=num_opens hu0 hSr;have hc:cnt sOpen ss≤ss.length:=List.length_filter_le _ _;have hrep:cnt sOpen (List.replicate z.1.length sgC)=0:=by
   unfold cnt;rw[List.length_eq_zero_iff,List.filter_eq_nil_iff];intro a ha;rw[(List.mem_replicate.mp ha).2];show ¬ (sClose==sOpen)=true
   decide
  rw[cnt_cons,cntA,cntA,hrep] at h1;have hlast:cnt sOpen [sgC]=0:=by
   unfold cnt;rw[List.length_eq_zero_iff,List.filter_eq_nil_iff];intro a ha;rw[yG.mp ha];show ¬ (sClose==sOpen)=true
   decide
  rw[hlast] at h1
  split at h1<;>omega
 obtain⟨due,edue,hd1,hd2⟩:=lanswers_ok (n:=6) (by decide) hpt hsz hu1 hy hN63 ht hzr' hq hq1' (by omega)
 obtain⟨bs,eans,hbl,hbs⟩:=answersL_ok hy (by omega) pap ey qs hq
 have hsame:ansL 0 bs=due:=by
  refine rise_ext (ansL_rise bs 0) hd1 fun x =>?_
  rw[ansL_mem,hd2]
  constructor
  ·rintro⟨i,h1,h2⟩;have hi:i<y.names.length:=by rw[← hbl];exact(zC.mp h1).1
   exact⟨i,(hbs i hi).mp h1,by rw[h2];simp⟩
  ·rintro⟨j,h1,h2⟩;have hj:=anf_lt hy hq1' h1;exact⟨j,(hbs j hj).mpr h1,by rw[h2];simp⟩
 rw[hsame] at eans;have hdl:due.length≤1000:=by
  have:due.Nodup:=hd1.imp fun h=>by omega
  have:=len_of (N:=y.names.length) this fun x hx=>by obtain⟨j,h1,h2⟩:=(hd2 x).mp hx;exact⟨j,anf_lt hy hq1' h1,h2⟩
  omega
 obtain⟨nm,its,hpe,hits⟩:∃ nm its,pap=prtD nm its∧∀ e∈its,Itm 5 e:=hpt;have hcr:F_copy_row [.lst its]=some (.lst its):=by have hsi:Sz 900 (prtD nm its):=hpe ▸ hsz;exact copy_row_ok 12 5 its (by decide) hits hsi.item.2 hsi.item.1
 have hcs:F_copy_steps [.lst qs]=some (.lst qs):=(copy_wish_ok 2).2 12 qs (by decide) hq (by omega)
 have hdk:dOk (.lst [pap,.lst qs]) 180=true:=by
  have h1:dOk pap 179=true:=PtOk.dOk (n:=6) ⟨nm,its,hpe,hits⟩ 179 (by decide)
  have h2:dOks qs 178=true:=by
   have:∀ l:List D,(∀ s∈l,WfS 2 s)→dOks l 178=true:=by
    intro l
    induction l with
    | nil=>intro _;rfl
    | cons s l ih=>
     intro hl;obtain⟨way,nm,w,rfl,_,hw⟩:=hl s zD;simp only[dOks,Bool.and_eq_true];refine⟨?_,ih fun e he=>hl e (zB _ he)⟩
     simp only[L2.dOk,dOks];rw[show 178-1=177 by rfl,hw.dOk 177 (by omega)]
     rfl
   exact this qs hq
  refine dOk_lst ?_;simp only[dOks,h1,Bool.true_and,Bool.and_true];simp only[L2.dOk];rw[show 179-1=178 by rfl,h2];rfl
 have q1:fCall F_draws (aC (eV 0) (aC (eK (.int 200)) (aC (eK (.int 26)) aN))) (eE ns none none none none none none none none none)=some (xs0.map D.int):=ex;have q2:mCallP (fun ds=>(F_names ds).map D.lst) (mAC (mCall F_pop 1 aN) mAN) (eE ns (some (.lst (xs0.map D.int))) none none none none none none none none)=some (.lst (nms.map D.str),(eE ns (some (.lst (xs0.dropLast.map D.int))) none none none none none none none none)):=by simp only[eE,mCallP,mAC,mAN,mCall,lstAt,eV,aN,List.getElem?_cons_succ,List.getElem?_cons_zero,Option.join_some,zA];rw[pop_ok];simp only[zT,zA];rw[en];rfl
 have q3:mCall F_pop 1 aN (eE ns (some (.lst (xs0.dropLast.map D.int))) (some (.lst (nms.map D.str))) none none none none none none none)=some (.int som,(eE ns (some (.lst (xs0.dropLast.dropLast.map D.int))) (some (.lst (nms.map D.str))) none none none none none none none)):=by simp only[eE,mCall,lstAt,eV,aN,List.getElem?_cons_succ,List.getElem?_cons_zero,Option.join_some,zA];rw[pop_ok,← hsom];rfl
 have q4:eCall F_stump (aC (eF (fCall F_signs (aC (eF (fCall F_draws (aC (eV 0) (aC (eK (.int 2)) (aC (e2 oAdd (eK (.int 1)) (e2 oMod (eV 3) (eK (.int 48)))) aN))))) (aC (eV 2) (aC (eK (.int 6)) aN))))) aN) (eG ns xs0.dropLast.dropLast nms som none none none none none none)=some pap:=by
  have a1:e2 oAdd (eK (.int 1)) (e2 oMod (eV 3) (eK (.int 48))) (eG ns xs0.dropLast.dropLast nms som none none none none none none)=some (.int (1+som%48)):=by have:e2 oMod (eV 3) (eK (.int 48)) (eG ns xs0.dropLast.dropLast nms som none none none none none none)=some (.int (som%48)):=em;exact e2_eq (x :=.int 1) rfl this
  have a2:eF (fCall F_draws (aC (eV 0) (aC (eK (.int 2)) (aC (e2 oAdd (eK (.int 1)) (e2 oMod (eV 3) (eK (.int 48)))) aN)))) (eG ns xs0.dropLast.dropLast nms som none none none none none none)=some (.lst (dr.map D.int)):=
   eF_eq ((fCall_eq (xs:=[.scr ns,.int 2,.int (1+som%48)]) (aC_eq rfl (aC_eq rfl (aC_eq a1 rfl)))).trans edr)
  have a3:eF (fCall F_signs (aC (eF (fCall F_draws (aC (eV 0) (aC (eK (.int 2)) (aC (e2 oAdd (eK (.int 1)) (e2 oMod (eV 3) (eK (.int 48)))) aN))))) (aC (eV 2) (aC (eK (.int 6)) aN)))) (eG ns xs0.dropLast.dropLast nms som none none none none none none)=some (.lst ss):=
   eF_eq ((fCall_eq (aC_eq a2 (aC_eq rfl (aC_eq rfl rfl)))).trans es)
  exact(eCall_eq (aC_eq a3 rfl)).trans epap
 have q5:mCall F_steps 1 (aC (eV 2) (aC (eK (.int 2)) aN)) (eG ns xs0.dropLast.dropLast nms som (some pap) none none none none none)=some (.lst qs0,(eG ns xs1 nms som (some pap) none none none none none)):=by show ((F_steps (qA xs0.dropLast.dropLast nms 2)).map _)=_;rw[eq0];rfl
 have q6:eF (fCall F_lanswers (aC (eV 4) (aC (eV 5) aN))) (eH ns xs2 nms som pap qs none none none none)=some (.lst (due.map D.int)):=
  eF_eq ((fCall_eq (xs:=[pap,.lst qs]) rfl).trans edue)
 have q7:eF (eLst (aC (eTup (aC (e2 oIx (eV 4) (eK (.int 0))) (aC (eCall F_copy_row (aC (e2 oIx (eV 4) (eK (.int 1))) aN)) aN))) (aC (eCall F_copy_steps (aC (eV 5) aN)) aN))) (eJ ns xs2 nms som pap qs due)=some (.lst [pap,.lst qs]):=by
  have a1:eCall F_copy_row (aC (e2 oIx (eV 4) (eK (.int 1))) aN) (eJ ns xs2 nms som pap qs due)=some (.lst its):=(eCall_eq (xs:=[.lst its]) (by rw[hpe];rfl)).trans hcr
  have a2:eCall F_copy_steps (aC (eV 5) aN) (eJ ns xs2 nms som pap qs due)=some (.lst qs):=(eCall_eq (xs:=[.lst qs]) rfl).trans hcs;have a3:eTup (aC (e2 oIx (eV 4) (eK (.int 0))) (aC (eCall F_copy_row (aC (e2 oIx (eV 4) (eK (.int 1))) aN)) aN)) (eJ ns xs2 nms som pap qs due)=some pap:=by
   simp only[eTup];rw[aC_eq (x :=.str nm) (by rw[hpe];rfl) (aC_eq a1 rfl),hpe]
   rfl
  refine eF_eq ?_;simp only[eLst];rw[aC_eq a3 (aC_eq a2 rfl)]
  rfl
 obtain⟨ρ',ef,v8,v9,rfl⟩:=for_inv0 (τ:=gN 8) (g:=b_law_1) (ds:=rngD 0 2) (fun _ ρ=>∃ (v8 v9:Option D),ρ=(eI ns xs2 nms som pap qs due v8 v9)) (ρ:=(eI ns xs2 nms som pap qs due none none)) ⟨none,none,rfl⟩ (by
  rintro j d ρ _ ⟨v8,v9,rfl⟩;refine⟨_,(eI ns xs2 nms som pap qs due (some d) (some (.lst (due.map D.int++[.int 0])))),rfl,?_,_,_,rfl⟩;unfold b_law_1;have c1:fCall F_answers (aC (e2 oIx (eV 7) (eK (.int 0))) (aC (e2 oIx (eV 7) (eK (.int 1))) aN)) (eI ns xs2 nms som pap qs due (some d) v9)=some (due.map D.int):=(fCall_eq (xs:=[pap,.lst qs]) rfl).trans eans;refine(sSeq_nx (sSetO_eq c1)).trans ?_;have c2:tNotD (tTru (eCallS F_alike (aC (eV 9) (aC (eV 6) aN)))) (eI ns xs2 nms som pap qs due (some d) (some (.lst (due.map D.int))))=some false:=by have ea:F_alike [.lst (due.map D.int),.lst (due.map D.int)]=some (.bl true):=alike_ok 10 due hdl;unfold tNotD tTru eCallS;show (((F_alike [.lst (due.map D.int),.lst (due.map D.int)]).bind _).bind _).map _=_;rw[ea];rfl
  refine(sSeq_nx ((sIf_f c2).trans rfl)).trans ?_;unfold sApp;show (if (due.map D.int).length<bigE then _ else _)=_
  rw[if_pos (by rw[zH,bigE_eq];omega)]
  rfl)
 have q9:e2 oEq (eV 7) (eF (eLst (aC (eV 4) (aC (eV 5) aN)))) (eI ns xs2 nms som pap qs due v8 v9)=some (.bl true):=by rw[e2_eq (x :=.lst [pap,.lst qs]) (y :=.lst [pap,.lst qs]) rfl rfl];exact eqSameD hdk
 refine runD_eq (o :=.rt (.bl true)) rfl ?_ rfl;unfold g_law;refine(sSeq_nx (sSetO_eq q1)).trans ?_;refine(sSeq_nx (sSetM_eq q2)).trans ?_;refine(sSeq_nx (sSetM_eq q3)).trans ?_;refine(sSeq_nx (sSet_eq q4)).trans ?_;refine(sSeq_nx (sSetM_eq q5)).trans ?_;refine(sSeq_nx e5).trans ?_;refine(sSeq_nx (sSet_eq q6)).trans ?_;refine(sSeq_nx (sSet_eq q7)).trans ?_;refine(sSeq_nx (sFor_eq (iR1_eq (z:=2) rfl ⟨by decide,by decide⟩) ef)).trans ?_
 exact sRet_eq q9
end K05
end
end
namespace K05
open PySem L2
theorem us1 {α:Type}{us:List α}(h:us.length=1):∃ a,us=[a]:=List.length_eq_one_iff.mp h
theorem us2 {α:Type}{us:List α}(h:us.length=2):∃ a b,us=[a,b]:=by
 cases us with
 | nil=>cases h
 | cons a us=>obtain⟨b,rfl⟩:=us1 (Nat.succ.inj h);exact⟨a,b,rfl⟩
theorem us3 {α:Type}{us:List α}(h:us.length=3):∃ a b c,us=[a,b,c]:=by
 cases us with
 | nil=>cases h
 | cons a us=>obtain⟨b,c,rfl⟩:=us2 (Nat.succ.inj h);exact⟨a,b,c,rfl⟩
noncomputable abbrev FA (K:Frag) (x:Str) (st:Stmt):Prop:=∃ f fd,nsIn K mainGlobals x=some (some (.ref f))∧Fun K x x st f fd
theorem FA_mk {K:Frag}{x:Str}{st:Stmt}{f:Addr}{od an:Option Addr}{sl:Array (Option Value)}{oc kV dc pm cd ct:Value}(a:nsIn K mainGlobals x=some (some (.ref f))) (l:K.lookup f=some ⟨oc,od,.func (fnOf x x (defArgs st) (defBody st) (defScope st) .none kV dc pm an cd ct),sl⟩) (c:codeIn K cd x=true) (k:keepIn K (.ref f)=true):FA K x st:=⟨f,_,a,fun_mk l c k⟩
theorem all_mk {l:PySem.W.OpenLaw}{w:World}{K:Frag}{h:Heap}{mg:Str→Option Value}{fa:Addr}{C_Layout:Addr}
  {f1:Addr}{od1 an1:Option Addr}{sl1:Array (Option Value)}{oc1 kV1 dc1 pm1 cd1 ct1:Value}
  {f32:Addr}{od32 an32:Option Addr}{sl32:Array (Option Value)}{oc32 kV32 dc32 pm32 cd32 ct32:Value}(X:K.In h) (G:h.Ns mainGlobals mg) (hfa:mg "law" = some (.ref fa))
  (aC_Layout:nsIn K mainGlobals "Layout" = some (some (.ref C_Layout)))
  (pg_Layout:plainGet K C_Layout Str.empty=true)
  (hd_Layout:hasDictIn K C_Layout=true)
  (po_Layout:plainOver K C_Layout=true)
  (sa_Layout:findIn K (.ref C_Layout) "__setattr__" = some (some (.builtin "object.__setattr__")))
  (mk_Layout:makesIn K C_Layout=true)
  (kc_Layout:keepIn K (.ref C_Layout)=true)
  (n_names_Layout:findIn K (.ref C_Layout) "names" = some none)
  (n_parents_Layout:findIn K (.ref C_Layout) "parents" = some none)
  (n_texts_Layout:findIn K (.ref C_Layout) "texts" = some none)
  (a1:findIn K (.ref C_Layout) "__init__" = some (some (.ref f1))) (l1:K.lookup f1=some ⟨oc1,od1,.func (fnOf "__init__" "Layout.__init__" (defArgs st_init) (defBody st_init) (defScope st_init) .none kV1 dc1 pm1 an1 cd1 ct1),sl1⟩) (c1:codeIn K cd1 "Layout.__init__" = true) (k1:keepIn K (.ref f1)=true)
  (i1:PySem.W.isFn K (.ref f1)=true)
  (q2:FA K "signs_of" st_signs_of)
  (q3:FA K "laid_out" st_laid)
  (q4:FA K "both_marks" st_both_marks)
  (q5:FA K "below_marks" st_below_marks)
  (q6:FA K "above_marks" st_above_marks)
  (q7:FA K "wish_marks" st_wish_marks)
  (q8:FA K "start_marks" st_start_marks)
  (q9:FA K "fit_marks" st_fit_marks)
  (q10:FA K "answers" st_answers)
  (q11:FA K "_law_draws" st_draws)
  (q12:FA K "_law_pop" st_pop)
  (q13:FA K "_law_alike" st_alike)
  (q14:FA K "_law_name" st_name)
  (q15:FA K "_law_names" st_names)
  (q16:FA K "_law_text" st_text)
  (q17:FA K "_law_signs" st_signs)
  (q18:FA K "_law_stump" st_stump)
  (q19:FA K "_law_wish" st_wish)
  (q20:FA K "_law_steps" st_steps)
  (q21:FA K "_law_more_steps" st_more_steps)
  (q22:FA K "_law_copy_wish" st_copy_wish)
  (q23:FA K "_law_copy_steps" st_copy_steps)
  (q24:FA K "_law_copy_row" st_copy_row)
  (q25:FA K "_law_within" st_within)
  (q26:FA K "_law_below" st_below)
  (q27:FA K "_law_holds" st_holds)
  (q28:FA K "_law_leads" st_leads)
  (q29:FA K "_law_numbered" st_numbered)
  (q30:FA K "_law_ends" st_ends)
  (q31:FA K "_law_answers" st_lanswers)
  (a32:nsIn K mainGlobals "law" = some (some (.ref f32))) (l32:K.lookup f32=some ⟨oc32,od32,.func (fnOf "law" "law" (defArgs st_law) (defBody st_law) (defScope st_law) .none kV32 dc32 pm32 an32 cd32 ct32),sl32⟩) (c32:codeIn K cd32 "law" = true) (k32:keepIn K (.ref f32)=true)
  (y_len:nsIn K mainGlobals "len" = some none)
  (y_range:nsIn K mainGlobals "range" = some none)
  (y_isinstance:nsIn K mainGlobals "isinstance" = some none)
  (y_list:nsIn K mainGlobals "list" = some none)
  (y_reversed:nsIn K mainGlobals "reversed" = some none)
  (y_str:nsIn K mainGlobals "str" = some none)
  (y_zip:nsIn K mainGlobals "zip" = some none)
  (y_all:nsIn K mainGlobals "all" = some none)
  (y_any:nsIn K mainGlobals "any" = some none)
  (y_enumerate:nsIn K mainGlobals "enumerate" = some none)
  (y_bool:nsIn K mainGlobals "bool" = some none)
  (y_int:nsIn K mainGlobals "int" = some none)
  (y_tuple:nsIn K mainGlobals "tuple" = some none)
  (y_sorted:nsIn K mainGlobals "sorted" = some none)
  (y_set:nsIn K mainGlobals "set" = some none) :
  ∃ fd:FuncData,(∀ (s:Shared) (v:Value),BindsTo s fd ⟨[v],[]⟩ [("_law_script",v)])∧∀ base:Heap,K.In base→base.Ns mainGlobals mg→FnOk l.prog w K mg base CX0 62 fa fd ["_law_script"] (spF K F_law):=by
 have e:=hfa.symm.trans (mg_of X G a32);cases e;have z_len:=mg_none_of X G y_len;have z_range:=mg_none_of X G y_range;have z_isinstance:=mg_none_of X G y_isinstance;have z_list:=mg_none_of X G y_list;have z_reversed:=mg_none_of X G y_reversed;have z_str:=mg_none_of X G y_str;have z_zip:=mg_none_of X G y_zip;have z_all:=mg_none_of X G y_all;have z_any:=mg_none_of X G y_any;have z_enumerate:=mg_none_of X G y_enumerate;have z_bool:=mg_none_of X G y_bool;have z_int:=mg_none_of X G y_int;have z_tuple:=mg_none_of X G y_tuple;have z_sorted:=mg_none_of X G y_sorted;have z_set:=mg_none_of X G y_set;have F1:=fun_mk (st:=st_init) l1 c1 k1;have b1:=F1.binds (ps:=["self"]) fun _ _ _ _ _ _ us hl=>by obtain⟨a,rfl⟩:=us1 hl;rfl
 obtain⟨f2,d2,a2,F2⟩:=q2;have k2:=F2.kp;have b2:=F2.binds (ps:=["part"]) fun _ _ _ _ _ _ us hl=>by obtain⟨a,rfl⟩:=us1 hl;rfl
 obtain⟨f3,d3,a3,F3⟩:=q3;have k3:=F3.kp;have b3:=F3.binds (ps:=["paper"]) fun _ _ _ _ _ _ us hl=>by obtain⟨a,rfl⟩:=us1 hl;rfl
 obtain⟨f4,d4,a4,F4⟩:=q4;have k4:=F4.kp;have b4:=F4.binds (ps:=["ones", "others"]) fun _ _ _ _ _ _ us hl=>by obtain⟨a,b,rfl⟩:=us2 hl;rfl
 obtain⟨f5,d5,a5,F5⟩:=q5;have k5:=F5.kp;have b5:=F5.binds (ps:=["layout", "way", "marks"]) fun _ _ _ _ _ _ us hl=>by obtain⟨a,b,c,rfl⟩:=us3 hl;rfl
 obtain⟨f6,d6,a6,F6⟩:=q6;have k6:=F6.kp;have b6:=F6.binds (ps:=["layout", "way", "marks"]) fun _ _ _ _ _ _ us hl=>by obtain⟨a,b,c,rfl⟩:=us3 hl;rfl
 obtain⟨f7,d7,a7,F7⟩:=q7;have k7:=F7.kp;have b7:=F7.binds (ps:=["layout", "wish"]) fun _ _ _ _ _ _ us hl=>by obtain⟨a,b,rfl⟩:=us2 hl;rfl
 obtain⟨f8,d8,a8,F8⟩:=q8;have k8:=F8.kp;have b8:=F8.binds (ps:=["layout", "steps"]) fun _ _ _ _ _ _ us hl=>by obtain⟨a,b,rfl⟩:=us2 hl;rfl
 obtain⟨f9,d9,a9,F9⟩:=q9;have k9:=F9.kp;have b9:=F9.binds (ps:=["layout", "step"]) fun _ _ _ _ _ _ us hl=>by obtain⟨a,b,rfl⟩:=us2 hl;rfl
 obtain⟨f10,d10,a10,F10⟩:=q10;have k10:=F10.kp;have b10:=F10.binds (ps:=["paper", "question"]) fun _ _ _ _ _ _ us hl=>by obtain⟨a,b,rfl⟩:=us2 hl;rfl
 obtain⟨f11,d11,a11,F11⟩:=q11;have k11:=F11.kp;have b11:=F11.binds (ps:=["_law_script", "_law_turn", "_law_many"]) fun _ _ _ _ _ _ us hl=>by obtain⟨a,b,c,rfl⟩:=us3 hl;rfl
 obtain⟨f12,d12,a12,F12⟩:=q12;have k12:=F12.kp;have b12:=F12.binds (ps:=["_law_draws_here"]) fun _ _ _ _ _ _ us hl=>by obtain⟨a,rfl⟩:=us1 hl;rfl
 obtain⟨f13,d13,a13,F13⟩:=q13;have k13:=F13.kp;have b13:=F13.binds (ps:=["_law_found", "_law_due"]) fun _ _ _ _ _ _ us hl=>by obtain⟨a,b,rfl⟩:=us2 hl;rfl
 obtain⟨f14,d14,a14,F14⟩:=q14;have k14:=F14.kp;have b14:=F14.binds (ps:=["_law_k", "_law_draw"]) fun _ _ _ _ _ _ us hl=>by obtain⟨a,b,rfl⟩:=us2 hl;rfl
 obtain⟨f15,d15,a15,F15⟩:=q15;have k15:=F15.kp;have b15:=F15.binds (ps:=["_law_draw"]) fun _ _ _ _ _ _ us hl=>by obtain⟨a,rfl⟩:=us1 hl;rfl
 obtain⟨f16,d16,a16,F16⟩:=q16;have k16:=F16.kp;have b16:=F16.binds (ps:=["_law_number"]) fun _ _ _ _ _ _ us hl=>by obtain⟨a,rfl⟩:=us1 hl;rfl
 obtain⟨f17,d17,a17,F17⟩:=q17;have k17:=F17.kp;have b17:=F17.binds (ps:=["_law_draws_here", "_law_names_here", "_law_deep"]) fun _ _ _ _ _ _ us hl=>by obtain⟨a,b,c,rfl⟩:=us3 hl;rfl
 obtain⟨f18,d18,a18,F18⟩:=q18;have k18:=F18.kp;have b18:=F18.binds (ps:=["_law_signs_here"]) fun _ _ _ _ _ _ us hl=>by obtain⟨a,rfl⟩:=us1 hl;rfl
 obtain⟨f19,d19,a19,F19⟩:=q19;have k19:=F19.kp;have b19:=F19.binds (ps:=["_law_draws_here", "_law_names_here", "_law_deep"]) fun _ _ _ _ _ _ us hl=>by obtain⟨a,b,c,rfl⟩:=us3 hl;rfl
 obtain⟨f20,d20,a20,F20⟩:=q20;have k20:=F20.kp;have b20:=F20.binds (ps:=["_law_draws_here", "_law_names_here", "_law_deep"]) fun _ _ _ _ _ _ us hl=>by obtain⟨a,b,c,rfl⟩:=us3 hl;rfl
 obtain⟨f21,d21,a21,F21⟩:=q21;have k21:=F21.kp;have b21:=F21.binds (ps:=["_law_draws_here", "_law_names_here"]) fun _ _ _ _ _ _ us hl=>by obtain⟨a,b,rfl⟩:=us2 hl;rfl
 obtain⟨f22,d22,a22,F22⟩:=q22;have k22:=F22.kp;have b22:=F22.binds (ps:=["_law_wish_here"]) fun _ _ _ _ _ _ us hl=>by obtain⟨a,rfl⟩:=us1 hl;rfl
 obtain⟨f23,d23,a23,F23⟩:=q23;have k23:=F23.kp;have b23:=F23.binds (ps:=["_law_steps_here"]) fun _ _ _ _ _ _ us hl=>by obtain⟨a,rfl⟩:=us1 hl;rfl
 obtain⟨f24,d24,a24,F24⟩:=q24;have k24:=F24.kp;have b24:=F24.binds (ps:=["_law_row"]) fun _ _ _ _ _ _ us hl=>by obtain⟨a,rfl⟩:=us1 hl;rfl
 obtain⟨f25,d25,a25,F25⟩:=q25;have k25:=F25.kp;have b25:=F25.binds (ps:=["_law_part"]) fun _ _ _ _ _ _ us hl=>by obtain⟨a,rfl⟩:=us1 hl;rfl
 obtain⟨f26,d26,a26,F26⟩:=q26;have k26:=F26.kp;have b26:=F26.binds (ps:=["_law_part", "_law_way"]) fun _ _ _ _ _ _ us hl=>by obtain⟨a,b,rfl⟩:=us2 hl;rfl
 obtain⟨f27,d27,a27,F27⟩:=q27;have k27:=F27.kp;have b27:=F27.binds (ps:=["_law_part", "_law_wish_here"]) fun _ _ _ _ _ _ us hl=>by obtain⟨a,b,rfl⟩:=us2 hl;rfl
 obtain⟨f28,d28,a28,F28⟩:=q28;have k28:=F28.kp;have b28:=F28.binds (ps:=["_law_part", "_law_steps_here"]) fun _ _ _ _ _ _ us hl=>by obtain⟨a,b,rfl⟩:=us2 hl;rfl
 obtain⟨f29,d29,a29,F29⟩:=q29;have k29:=F29.kp;have b29:=F29.binds (ps:=["_law_part", "_law_count"]) fun _ _ _ _ _ _ us hl=>by obtain⟨a,b,rfl⟩:=us2 hl;rfl
 obtain⟨f30,d30,a30,F30⟩:=q30;have k30:=F30.kp;have b30:=F30.binds (ps:=["_law_part", "_law_steps_here"]) fun _ _ _ _ _ _ us hl=>by obtain⟨a,b,rfl⟩:=us2 hl;rfl
 obtain⟨f31,d31,a31,F31⟩:=q31;have k31:=F31.kp;have b31:=F31.binds (ps:=["_law_paper", "_law_question"]) fun _ _ _ _ _ _ us hl=>by obtain⟨a,b,rfl⟩:=us2 hl;rfl
 have F32:=fun_mk (st:=st_law) l32 c32 k32;have T_Layout:Txt K mg C_Layout:=⟨⟨pg_Layout,hd_Layout,po_Layout,sa_Layout⟩,n_names_Layout,n_parents_Layout,n_texts_Layout,mg_of X G aC_Layout,aC_Layout⟩;have k_Layout_names:∀ C,nsIn K mainGlobals "Layout" = some (some (.ref C))→Cls K C∧NoAttr K C "names" :=fun C e=>by rw[aC_Layout] at e;cases e;exact⟨⟨pg_Layout,hd_Layout,po_Layout,sa_Layout⟩,n_names_Layout⟩
 have k_Layout_parents:∀ C,nsIn K mainGlobals "Layout" = some (some (.ref C))→Cls K C∧NoAttr K C "parents" :=fun C e=>by rw[aC_Layout] at e;cases e;exact⟨⟨pg_Layout,hd_Layout,po_Layout,sa_Layout⟩,n_parents_Layout⟩
 have k_Layout_texts:∀ C,nsIn K mainGlobals "Layout" = some (some (.ref C))→Cls K C∧NoAttr K C "texts" :=fun C e=>by rw[aC_Layout] at e;cases e;exact⟨⟨pg_Layout,hd_Layout,po_Layout,sa_Layout⟩,n_texts_Layout⟩
 refine⟨fnOf "law" "law" (defArgs st_law) (defBody st_law) (defScope st_law) .none kV32 dc32 pm32 an32 cd32 ct32,fun s v =>.of_eq rfl,fun base _ _ =>?_⟩
 have h_signs_of:Ok1 l.prog w K mg base "signs_of" 1 (spO K F_signs_of):=⟨f2,_,_,ok_signs_of F2 z_isinstance z_list z_reversed z_str,mg_of X G a2,k2,b2⟩;have h_laid:Ok1 l.prog w K mg base "laid_out" 3 (spF K F_laidL):=⟨f3,_,_,ok_laid F3 T_Layout ⟨mk_Layout,a1,i1,kc_Layout⟩ F1 b1 h_signs_of z_len,mg_of X G a3,k3,b3⟩;have h_both_marks:Ok1 l.prog w K mg base "both_marks" 1 (spO K F_both_marks):=⟨f4,_,_,ok_both_marks F4 z_zip,mg_of X G a4,k4,b4⟩;have h_below_marks:Ok1 l.prog w K mg base "below_marks" 1 (spO K F_below_marks):=⟨f5,_,_,ok_below_marks F5 z_len z_range k_Layout_parents,mg_of X G a5,k5,b5⟩;have h_above_marks:Ok1 l.prog w K mg base "above_marks" 1 (spO K F_above_marks):=⟨f6,_,_,ok_above_marks F6 z_len z_range k_Layout_parents,mg_of X G a6,k6,b6⟩;have g_marks:∀ n,Ok1 l.prog w K mg base "wish_marks" (n+1) (spF K (Fr_wish_marks n))∧Ok1 l.prog w K mg base "start_marks" (n+1) (spF K (Fr_start_marks n))∧Ok1 l.prog w K mg base "fit_marks" (n+1) (spF K (Fr_fit_marks n)):=fun n=>by
  induction n with
  | zero=>exact⟨⟨f7,_,_,⟨fun vs H Q E ⟨G,ds,d,gh,r,eq,_⟩=>(by cases eq),fun A outer s H args us vs Q E hr he hb hv ⟨G,ds,d,gh,r,eq,_⟩=>(by cases eq)⟩,mg_of X G a7,k7,b7⟩,⟨f8,_,_,⟨fun vs H Q E ⟨G,ds,d,gh,r,eq,_⟩=>(by cases eq),fun A outer s H args us vs Q E hr he hb hv ⟨G,ds,d,gh,r,eq,_⟩=>(by cases eq)⟩,mg_of X G a8,k8,b8⟩,⟨f9,_,_,⟨fun vs H Q E ⟨G,ds,d,gh,r,eq,_⟩=>(by cases eq),fun A outer s H args us vs Q E hr he hb hv ⟨G,ds,d,gh,r,eq,_⟩=>(by cases eq)⟩,mg_of X G a9,k9,b9⟩⟩
  | succ n ih=>obtain⟨h_wish_marks,h_start_marks,h_fit_marks⟩:=ih;exact⟨⟨f7,_,_,(ok_wish_marks F7 z_all z_any z_len z_list z_range k_Layout_names k_Layout_texts h_start_marks h_wish_marks).mono (by omega),mg_of X G a7,k7,b7⟩,⟨f8,_,_,(ok_start_marks F8 z_reversed k_Layout_names (h_above_marks.mono (by omega)) (h_both_marks.mono (by omega)) h_fit_marks).mono (by omega),mg_of X G a8,k8,b8⟩,⟨f9,_,_,(ok_fit_marks F9 k_Layout_names (h_both_marks.mono (by omega)) h_wish_marks).mono (by omega),mg_of X G a9,k9,b9⟩⟩
 have h_fit:Ok1 l.prog w K mg base "fit_marks" 19 (spF K F_fit_marks):=(g_marks 12).2.2.mono (by decide)
 have h_answers:Ok1 l.prog w K mg base "answers" 20 (spO K F_answers):=⟨f10,_,_,ok_answers F10 z_enumerate z_len z_range k_Layout_names (h_laid.mono (by decide)) (h_both_marks.mono (by decide)) (h_below_marks.mono (by decide)) h_fit,mg_of X G a10,k10,b10⟩
 have h_draws:Ok1 l.prog w K mg base "_law_draws" 1 (spO K F_draws):=⟨f11,_,_,ok_draws F11 z_len z_range,mg_of X G a11,k11,b11⟩;have h_pop:Ok1 l.prog w K mg base "_law_pop" 1 (spM K 0 F_pop):=⟨f12,_,_,ok_pop F12,mg_of X G a12,k12,b12⟩;have g_alikes:∀ n,Ok1 l.prog w K mg base "_law_alike" (n+0) (spF K (Fr_alike n)):=fun n=>by
  induction n with
  | zero=>exact⟨f13,_,_,⟨fun vs H Q E ⟨G,ds,d,gh,r,eq,_⟩=>(by cases eq),fun A outer s H args us vs Q E hr he hb hv ⟨G,ds,d,gh,r,eq,_⟩=>(by cases eq)⟩,mg_of X G a13,k13,b13⟩
  | succ n ih=>have h_alike:=ih;exact⟨f13,_,_,(ok_alike F13 z_bool z_int z_isinstance z_len z_list z_range z_str z_tuple h_alike).mono (by omega),mg_of X G a13,k13,b13⟩
 have h_al:Ok1 l.prog w K mg base "_law_alike" 61 (spF K F_alike):=(g_alikes 12).mono (by decide)
 have h_name:Ok1 l.prog w K mg base "_law_name" 1 (spF K F_name):=⟨f14,_,_,ok_name F14 z_len z_range,mg_of X G a14,k14,b14⟩;have h_names:Ok1 l.prog w K mg base "_law_names" 2 (spO K F_names):=⟨f15,_,_,ok_names F15 z_range h_name,mg_of X G a15,k15,b15⟩;have h_text:Ok1 l.prog w K mg base "_law_text" 1 (spF K F_text):=⟨f16,_,_,ok_text F16 z_len,mg_of X G a16,k16,b16⟩;have h_signs:Ok1 l.prog w K mg base "_law_signs" 2 (spO K F_signs):=⟨f17,_,_,ok_signs F17 z_len h_text,mg_of X G a17,k17,b17⟩;have h_stump:Ok1 l.prog w K mg base "_law_stump" 1 (spF K F_stump):=⟨f18,_,_,ok_stump F18,mg_of X G a18,k18,b18⟩;have g_wishes:∀ n,Ok1 l.prog w K mg base "_law_wish" (n+1) (spM K 0 (Fr_wish n))∧Ok1 l.prog w K mg base "_law_steps" (n+1) (spM K 0 (Fr_steps n)):=fun n=>by
  induction n with
  | zero=>exact⟨⟨f19,_,_,⟨fun vs H Q E ⟨G,ds,d,xs',a,ws,xs,_,_,_,_,_,_,_,_,eq,_⟩=>(by cases eq),fun A outer s H args us vs Q E hr he hb hv ⟨G,ds,d,xs',a,ws,xs,_,_,_,_,_,_,_,_,eq,_⟩=>(by cases eq)⟩,mg_of X G a19,k19,b19⟩,⟨f20,_,_,⟨fun vs H Q E ⟨G,ds,d,xs',a,ws,xs,_,_,_,_,_,_,_,_,eq,_⟩=>(by cases eq),fun A outer s H args us vs Q E hr he hb hv ⟨G,ds,d,xs',a,ws,xs,_,_,_,_,_,_,_,_,eq,_⟩=>(by cases eq)⟩,mg_of X G a20,k20,b20⟩⟩
  | succ n ih=>obtain⟨h_wish,h_steps⟩:=ih;exact⟨⟨f19,_,_,(ok_wish F19 z_range (h_pop.mono (by omega)) (h_text.mono (by omega)) h_steps h_wish).mono (by omega),mg_of X G a19,k19,b19⟩,⟨f20,_,_,(ok_steps F20 z_len z_range (h_pop.mono (by omega)) h_wish).mono (by omega),mg_of X G a20,k20,b20⟩⟩
 have h_st:Ok1 l.prog w K mg base "_law_steps" 61 (spM K 0 F_steps):=(g_wishes 12).2.mono (by decide)
 have h_more_steps:Ok1 l.prog w K mg base "_law_more_steps" 2 (spM K 0 F_more_steps):=⟨f21,_,_,ok_more_steps F21 z_len z_range h_pop,mg_of X G a21,k21,b21⟩;have g_copies:∀ n,Ok1 l.prog w K mg base "_law_copy_wish" (n+0) (spF K (Fr_copy_wish n))∧Ok1 l.prog w K mg base "_law_copy_steps" (n+0) (spF K (Fr_copy_steps n)):=fun n=>by
  induction n with
  | zero=>exact⟨⟨f22,_,_,⟨fun vs H Q E ⟨G,ds,d,gh,r,eq,_⟩=>(by cases eq),fun A outer s H args us vs Q E hr he hb hv ⟨G,ds,d,gh,r,eq,_⟩=>(by cases eq)⟩,mg_of X G a22,k22,b22⟩,⟨f23,_,_,⟨fun vs H Q E ⟨G,ds,d,gh,r,eq,_⟩=>(by cases eq),fun A outer s H args us vs Q E hr he hb hv ⟨G,ds,d,gh,r,eq,_⟩=>(by cases eq)⟩,mg_of X G a23,k23,b23⟩⟩
  | succ n ih=>obtain⟨h_copy_wish,h_copy_steps⟩:=ih;exact⟨⟨f22,_,_,(ok_copy_wish F22 h_copy_wish h_copy_steps).mono (by omega),mg_of X G a22,k22,b22⟩,⟨f23,_,_,(ok_copy_steps F23 h_copy_wish).mono (by omega),mg_of X G a23,k23,b23⟩⟩
 have h_cs:Ok1 l.prog w K mg base "_law_copy_steps" 61 (spF K F_copy_steps):=(g_copies 12).2.mono (by decide)
 have g_rows:∀ n,Ok1 l.prog w K mg base "_law_copy_row" (n+0) (spF K (Fr_copy_row n)):=fun n=>by
  induction n with
  | zero=>exact⟨f24,_,_,⟨fun vs H Q E ⟨G,ds,d,gh,r,eq,_⟩=>(by cases eq),fun A outer s H args us vs Q E hr he hb hv ⟨G,ds,d,gh,r,eq,_⟩=>(by cases eq)⟩,mg_of X G a24,k24,b24⟩
  | succ n ih=>have h_copy_row:=ih;exact⟨f24,_,_,(ok_copy_row F24 z_isinstance z_str h_copy_row).mono (by omega),mg_of X G a24,k24,b24⟩
 have h_cr:Ok1 l.prog w K mg base "_law_copy_row" 61 (spF K F_copy_row):=(g_rows 12).mono (by decide)
 have g_withins:∀ n,Ok1 l.prog w K mg base "_law_within" (n+0) (spF K (Fr_within n)):=fun n=>by
  induction n with
  | zero=>exact⟨f25,_,_,⟨fun vs H Q E ⟨G,ds,d,gh,r,eq,_⟩=>(by cases eq),fun A outer s H args us vs Q E hr he hb hv ⟨G,ds,d,gh,r,eq,_⟩=>(by cases eq)⟩,mg_of X G a25,k25,b25⟩
  | succ n ih=>have h_within:=ih;exact⟨f25,_,_,(ok_within F25 z_isinstance z_str h_within).mono (by omega),mg_of X G a25,k25,b25⟩
 have h_wn:Ok1 l.prog w K mg base "_law_within" 13 (spF K F_within):=(g_withins 12).mono (by decide)
 have h_below:Ok1 l.prog w K mg base "_law_below" 14 (spF K F_below):=⟨f26,_,_,ok_below F26 z_isinstance z_str h_wn,mg_of X G a26,k26,b26⟩;have g_holdings:∀ n,Ok1 l.prog w K mg base "_law_holds" (n+14) (spF K (Fr_holds n))∧Ok1 l.prog w K mg base "_law_leads" (n+14) (spF K (Fr_leads n)):=fun n=>by
  induction n with
  | zero=>exact⟨⟨f27,_,_,⟨fun vs H Q E ⟨G,ds,d,gh,r,eq,_⟩=>(by cases eq),fun A outer s H args us vs Q E hr he hb hv ⟨G,ds,d,gh,r,eq,_⟩=>(by cases eq)⟩,mg_of X G a27,k27,b27⟩,⟨f28,_,_,⟨fun vs H Q E ⟨G,ds,d,gh,r,eq,_⟩=>(by cases eq),fun A outer s H args us vs Q E hr he hb hv ⟨G,ds,d,gh,r,eq,_⟩=>(by cases eq)⟩,mg_of X G a28,k28,b28⟩⟩
  | succ n ih=>obtain⟨h_holds,h_leads⟩:=ih;exact⟨⟨f27,_,_,(ok_holds F27 z_len h_holds h_leads).mono (by omega),mg_of X G a27,k27,b27⟩,⟨f28,_,_,(ok_leads F28 (h_below.mono (by omega)) h_holds h_leads).mono (by omega),mg_of X G a28,k28,b28⟩⟩
 have h_ho:Ok1 l.prog w K mg base "_law_holds" 39 (spF K F_holds):=(g_holdings 24).1.mono (by decide)
 have g_numbers:∀ n,Ok1 l.prog w K mg base "_law_numbered" (n+0) (spM K 1 (Fr_numbered n)):=fun n=>by
  induction n with
  | zero=>exact⟨f29,_,_,⟨fun vs H Q E ⟨G,ds,d,xs',a,ws,xs,_,_,_,_,_,_,_,_,eq,_⟩=>(by cases eq),fun A outer s H args us vs Q E hr he hb hv ⟨G,ds,d,xs',a,ws,xs,_,_,_,_,_,_,_,_,eq,_⟩=>(by cases eq)⟩,mg_of X G a29,k29,b29⟩
  | succ n ih=>have h_numbered:=ih;exact⟨f29,_,_,(ok_numbered F29 z_isinstance z_str h_numbered).mono (by omega),mg_of X G a29,k29,b29⟩
 have h_nu:Ok1 l.prog w K mg base "_law_numbered" 59 (spM K 1 F_numbered):=(g_numbers 12).mono (by decide)
 have g_endings:∀ n,Ok1 l.prog w K mg base "_law_ends" (n+39) (spO K (Fr_ends n)):=fun n=>by
  induction n with
  | zero=>exact⟨f30,_,_,⟨fun vs H Q E ⟨G,ds,d,gh,r,eq,_⟩=>(by cases eq),fun A outer s H args us vs Q E hr he hb hv ⟨G,ds,d,gh,r,eq,_⟩=>(by cases eq)⟩,mg_of X G a30,k30,b30⟩
  | succ n ih=>have h_ends:=ih;exact⟨f30,_,_,(ok_ends F30 z_len (h_below.mono (by omega)) (h_ho.mono (by omega)) h_ends).mono (by omega),mg_of X G a30,k30,b30⟩
 have h_en:Ok1 l.prog w K mg base "_law_ends" 59 (spO K F_ends):=(g_endings 20).mono (by decide)
 have h_lanswers:Ok1 l.prog w K mg base "_law_answers" 60 (spO K F_lanswers):=⟨f31,_,_,ok_lanswers F31 z_set z_sorted h_nu h_en,mg_of X G a31,k31,b31⟩;exact ok_law F32 z_range (h_draws.mono (by decide)) (h_names.mono (by decide)) (h_pop.mono (by decide)) (h_signs.mono (by decide)) (h_stump.mono (by decide)) h_st (h_more_steps.mono (by decide)) (h_lanswers.mono (by decide)) h_cr h_cs (h_answers.mono (by decide)) h_al
theorem walk {l:PySem.W.OpenLaw}{q:Program}{loose:List Str}{XP:(Str→Option Value)→Heap→Prop}{YP:World→Heap→Prop}{d:DefRec}{K:Params→Frag}(hn:l.most=some 63) (hdf:d.params.defaults=[])
  (hY:∀ (w:World) (h:Heap),YP w h→(K w.params).In h)
  (F:∀ (w:World) (mg:Str→Option Value) (fa:Addr) (h:Heap),(K w.params).In h→h.Ns mainGlobals mg→mg d.name=some (.ref fa) →
   ∃ fd:FuncData,(∀ (s:Shared) (u:Value),BindsTo s fd ⟨[u],[]⟩ [("_law_script",u)])∧∀ base:Heap,(K w.params).In base→base.Ns mainGlobals mg→FnOk l.prog w (K w.params) mg base CX0 62 fa fd ["_law_script"] (spF (K w.params) F_law)) :
  PySem.W.WalkO q loose XP YP l.row.toRowW d [] (fun f vs=>PySem.call f vs):=
 L2.walk_ofK (n:=63) (k:=62) (x:= "_law_script") (CX:=CX0) (sp:=fun K=>spF K F_law) hn (by decide) hdf ⟨rfl,by decide,by decide⟩ hY F (fun K H a ns hl hO hS=>law_sp law_true K H a ns hl hO hS) fun _ _ _ _ z=>z
end K05
open PySem PySem.W PyProof.Rows
local macro_rules | `(tactic| walk_at "fa") => `(tactic| exact K05.FA_mk (by k_is) (by k_is) (by k_is) (by k_is))
namespace PySem.W.Fast
theorem tw13707265181709465549:True:=⟨⟩
theorem tw17802120799513932936:True:=⟨⟩
theorem tw12896893912176292917:True:=⟨⟩
theorem tw8843936981605050913:True:=⟨⟩
theorem tw6543067054985799287:True:=⟨⟩
theorem tw14030550531913693664:True:=⟨⟩
theorem tw425807044542664341:True:=⟨⟩
theorem tw9520069326932456332:True:=⟨⟩
theorem tw3852894353766945001:True:=⟨⟩
theorem tw2558444212749199582:True:=⟨⟩
theorem tw7395365145714569286:True:=⟨⟩
theorem tw5162064428175393733:True:=⟨⟩
theorem tw4231433172178558566:True:=⟨⟩
theorem tw768496454216558977:True:=⟨⟩
theorem tw3114327742471285584:True:=⟨⟩
theorem tw10948223595485821429:True:=⟨⟩
theorem tw13890911913868712349:True:=⟨⟩
theorem tw2005966241780207430:True:=⟨⟩
theorem tw11466402552637818211:True:=⟨⟩
theorem tw14202628844059081898:True:=⟨⟩
theorem tw15627388816758500967:True:=⟨⟩
theorem tw3017435450853654009:True:=⟨⟩
theorem tw7336661552949516959:True:=⟨⟩
theorem tw6177110242765274695:True:=⟨⟩
theorem tw721002330030922232:True:=⟨⟩
theorem tw9946433253484231479:True:=⟨⟩
theorem tw4807558996970480914:True:=⟨⟩
theorem tw18230250816320579131:True:=⟨⟩
theorem tw7750866421045858757:True:=⟨⟩
theorem tw8425802042859504956:True:=⟨⟩
theorem tw5354582016760794031:True:=⟨⟩
theorem tw5275912014567927052:True:=⟨⟩
theorem tw550891601142466637:True:=⟨⟩
theorem tw10327193154383296462:True:=⟨⟩
theorem tw7205550521790854858:True:=⟨⟩
theorem tw14467964210205006871:True:=⟨⟩
theorem tw2832242758599516379:True:=⟨⟩
theorem tw16302157624909830204:True:=⟨⟩
theorem tw17287010418538683147:True:=⟨⟩
theorem tw5954901079191225255:True:=⟨⟩
theorem tw9973044955714097027:True:=⟨⟩
theorem tw2268110788017950496:True:=⟨⟩
theorem tw672051875079923613:True:=⟨⟩
theorem tw3816407348978325585:True:=⟨⟩
theorem tw2657258560817906361:True:=⟨⟩
theorem tw9817434263538182508:True:=⟨⟩
theorem tw15919628389090395043:True:=⟨⟩
theorem tw13797835453999197500:True:=⟨⟩
theorem tw4995289647411349633:True:=⟨⟩
theorem tw12435209169077687197:True:=⟨⟩
theorem tw18410471535597429151:True:=⟨⟩
theorem tw4325276325584027890:True:=⟨⟩
theorem tw8327438695829404489:True:=⟨⟩
theorem tw6898591949381174718:True:=⟨⟩
theorem tw12851643725370600746:True:=⟨⟩
theorem tw7648162133674606054:True:=⟨⟩
theorem tw6671213467953747537:True:=⟨⟩
theorem tw14111184891714151291:True:=⟨⟩
theorem tw5719465458993804374:True:=⟨⟩
theorem tw3858871480530197448:True:=⟨⟩
theorem tw16636335876020484487:True:=⟨⟩
theorem tw13766774447073516994:True:=⟨⟩
theorem tw5252090281378226912:True:=⟨⟩
theorem tw1456816864036149375:True:=⟨⟩
theorem tw9731429928035767278:True:=⟨⟩
theorem tw12206881970913470798:True:=⟨⟩
theorem tw1126748489807899712:True:=⟨⟩
theorem tw11866266702784493704:True:=⟨⟩
theorem tw3721847033521198303:True:=⟨⟩
theorem tw16745136812454612969:True:=⟨⟩
theorem tw9305539383664137955:True:=⟨⟩
theorem tw11398273470919117914:True:=⟨⟩
theorem tw12583223449560830485:True:=⟨⟩
theorem tw15163982106334287526:True:=⟨⟩
theorem tw9627268314442842963:True:=⟨⟩
theorem tw13013522643404924136:True:=⟨⟩
theorem tw10114729056319048623:True:=⟨⟩
theorem tw3128284696868906768:True:=⟨⟩
theorem tw4934333223930154401:True:=⟨⟩
theorem tw12766954069382567353:True:=⟨⟩
end PySem.W.Fast
set_option maxRecDepth 100000 in
set_option maxHeartbeats 0 in
theorem PySem.Challenge.cw_earlysift_k05_plain_answers_holds : PySem.Challenge.rw_earlysift_k05_plain_answers.Holds := by
  w_on; o_law; k_head; (case hw => w_witness2)
  k_fill
  refine K05.walk (l := PySem.Challenge.rw_earlysift_k05_plain_answers) rfl rfl (fun w h Y => PySem.W.kIn_of Y) ?F
  case F =>
    intro w mg fa h KX G hmg
    refine' K05.all_mk KX G hmg ?aC_Layout ?pg_Layout ?hd_Layout ?po_Layout ?sa_Layout ?mk_Layout ?kc_Layout ?n_names_Layout ?n_parents_Layout ?n_texts_Layout ?a1 ?l1 ?c1 ?k1 ?i1 ?q2 ?q3 ?q4 ?q5 ?q6 ?q7 ?q8 ?q9 ?q10 ?q11 ?q12 ?q13 ?q14 ?q15 ?q16 ?q17 ?q18 ?q19 ?q20 ?q21 ?q22 ?q23 ?q24 ?q25 ?q26 ?q27 ?q28 ?q29 ?q30 ?q31 ?a32 ?l32 ?c32 ?k32 ?y_len ?y_range ?y_isinstance ?y_list ?y_reversed ?y_str ?y_zip ?y_all ?y_any ?y_enumerate ?y_bool ?y_int ?y_tuple ?y_sorted ?y_set
    (case aC_Layout => k_is); (case pg_Layout => k_is); (case hd_Layout => k_is); (case po_Layout => k_is); (case sa_Layout => k_is); (case mk_Layout => k_is); (case kc_Layout => k_is); (case n_names_Layout => k_is)
    (case n_parents_Layout => k_is); (case n_texts_Layout => k_is); (case a1 => k_is); (case l1 => k_is); (case c1 => k_is); (case k1 => k_is); (case i1 => k_is); (case q2 => walk_at "fa")
    (case q3 => walk_at "fa"); (case q4 => walk_at "fa"); (case q5 => walk_at "fa"); (case q6 => walk_at "fa"); (case q7 => walk_at "fa"); (case q8 => walk_at "fa"); (case q9 => walk_at "fa"); (case q10 => walk_at "fa")
    (case q11 => walk_at "fa"); (case q12 => walk_at "fa"); (case q13 => walk_at "fa"); (case q14 => walk_at "fa"); (case q15 => walk_at "fa"); (case q16 => walk_at "fa"); (case q17 => walk_at "fa"); (case q18 => walk_at "fa")
    (case q19 => walk_at "fa"); (case q20 => walk_at "fa"); (case q21 => walk_at "fa"); (case q22 => walk_at "fa"); (case q23 => walk_at "fa"); (case q24 => walk_at "fa"); (case q25 => walk_at "fa"); (case q26 => walk_at "fa")
    (case q27 => walk_at "fa"); (case q28 => walk_at "fa"); (case q29 => walk_at "fa"); (case q30 => walk_at "fa"); (case q31 => walk_at "fa"); (case a32 => k_is); (case l32 => k_is); (case c32 => k_is)
    (case k32 => k_is); (case y_len => k_is); (case y_range => k_is); (case y_isinstance => k_is); (case y_list => k_is); (case y_reversed => k_is); (case y_str => k_is); (case y_zip => k_is)
    (case y_all => k_is); (case y_any => k_is); (case y_enumerate => k_is); (case y_bool => k_is); (case y_int => k_is); (case y_tuple => k_is); (case y_sorted => k_is); (case y_set => k_is)
