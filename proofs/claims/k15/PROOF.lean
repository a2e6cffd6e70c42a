import PyProof.Rows.All
import Wide.All
import OpenK.AllK
import Wide.FinOn
import Lean
import PyProof.EqAt
import PyProof.EqKinds
import PyProof.TupleCall
import PyProof.NeKinds
import PyProof.StrCalls6
import PyProof.FString5
import PyProof.Rows.StrClose
import PySem.Challenge.RW_earlysift_k15_questions_written
set_option maxRecDepth 100000
set_option maxHeartbeats 4000000
open PySem.W (Frag mg_of nsIn mg_none_of findIn kia_one fnOf emptyDict keepIn instObj kitOne codeIn plainGet hasDictIn plainOver takerIn makesIn methodObj lookIn)
open PySem.F (plainAttrs_list)
abbrev zA:=@Option.bind_some
abbrev zB:=@List.mem_cons_of_mem
abbrev zC:=@List.getElem?_eq_some_iff
abbrev zD:=@List.mem_cons_self
abbrev zE:=@PySem.wpAny_bind
abbrev zF:=@PySem.Heap.get?_push_of_some
abbrev zG:=@List.mem_cons
abbrev zH:=@List.length_map
abbrev zI:=@List.getElem?_eq_getElem
abbrev zJ:=@PySem.Heap.lt_size
abbrev zK:=@List.getElem?_set_ne
abbrev zL:=@Nat.le_refl
abbrev zM:=@List.getElem?_map
abbrev zN:=@List.size_toArray
abbrev zO:=@List.mem_append
abbrev zP:=@List.length_cons
abbrev zQ:=@List.mem_append_right
abbrev zR:=@Nat.ne_of_lt
abbrev zS:=@Nat.lt_of_lt_of_le
abbrev zT:=@Option.map_some
abbrev zU:=@List.mem_append_left
abbrev zV:=@PySem.Heap.get?_push_size
abbrev zW:=@PySem.wpAny_pure
abbrev zX:=@List.mem_of_getElem?
abbrev zY:=@Int.emod_lt_of_pos
abbrev zZ:=@Bool.false_ne_true
abbrev yA:=@Option.some.inj
abbrev yB:=@Nat.le_trans
abbrev yC:=@Int.emod_nonneg
abbrev yD:=@List.getElem?_append_left
abbrev yE:=@Nat.lt_irrefl
abbrev yF:=@List.mem_singleton
set_option Elab.async false
set_option linter.all false
noncomputable section
namespace L2
open PySem PySem.Spec PyProof.Rows
noncomputable abbrev Key:=Sum Int Str
noncomputable def keyIs:Key→Value→Bool
 | .inl k,v=>Value.isInt k v
 | .inr x,v=>Value.isStrOf x v
noncomputable def keyH (w:World):Key→Int
 | .inl k=>hashInt k
 | .inr x=>hashStr w x
theorem keyIs_shape:∀ {k:Key}{v:Value},keyIs k v=true→(∃ i t,k=Sum.inl i∧v=Value.int i t)∨(∃ x t,k=Sum.inr x∧v=Value.str x t)
 | .inl i,v,h=>by obtain⟨t,e⟩:=Value.isInt_shape (k:=i) (v:=v) h;exact .inl ⟨i,t,rfl,e⟩
 | .inr x,v,h=>by obtain⟨t,e⟩:=Value.isStrOf_shape (x:=x) (v:=v) h;exact .inr ⟨x,t,rfl,e⟩
theorem keyIs_int (i:Int) (t:Tok):keyIs (.inl i) (.int i t)=true:=by simp[keyIs,Value.isInt]
theorem keyIs_str (x:Str) (t:Tok):keyIs (.inr x) (.str x t)=true:=by simp[keyIs,Value.isStrOf]
theorem key_ll (a b:Int):decide ((Sum.inl a:Key)=Sum.inl b)=(a==b):=by
 by_cases e:a=b
 ·subst e;simp
 ·have h:¬ (Sum.inl a:Key)=Sum.inl b:=fun q=>e (Sum.inl.inj q)
  rw[decide_eq_false h];exact(beq_eq_false_iff_ne.mpr e).symm
theorem key_rr (a b:Str):decide ((Sum.inr a:Key)=Sum.inr b)=decide (a=b):=by
 by_cases e:a=b
 ·subst e;simp
 ·have h:¬ (Sum.inr a:Key)=Sum.inr b:=fun q=>e (Sum.inr.inj q)
  rw[decide_eq_false h,decide_eq_false e]
theorem key_lr (a:Int) (b:Str):decide ((Sum.inl a:Key)=Sum.inr b)=false:=decide_eq_false (fun q=>nomatch q)
theorem key_rl (a:Str) (b:Int):decide ((Sum.inr a:Key)=Sum.inl b)=false:=decide_eq_false (fun q=>nomatch q)
noncomputable def mixKind (prog:Program) (w:World):PySem.KeyKind prog w Key where
 is:=keyIs
 hash:=keyH w
 inj:=fun v a b ha hb=>by
  rcases keyIs_shape ha with ⟨i,t,rfl,rfl⟩|⟨x,t,rfl,rfl⟩
  ·rcases keyIs_shape hb with ⟨j,u,rfl,e⟩|⟨y,u,rfl,e⟩
   ·injection e with e1 _;rw[e1]
   ·exact nomatch e
  ·rcases keyIs_shape hb with ⟨j,u,rfl,e⟩|⟨y,u,rfl,e⟩
   ·exact nomatch e
   ·injection e with e1 _;rw[e1]
 byValue:=fun k v h=>by
  rcases keyIs_shape h with ⟨i,t,rfl,rfl⟩|⟨x,t,rfl,rfl⟩<;>rfl
 pyHash:=fun hv h=>by
  rcases keyIs_shape hv with ⟨i,t,rfl,rfl⟩|⟨x,t,rfl,rfl⟩
  ·exact wpAny_pyHash_int h
  ·exact wpAny_pyHash_str h
 eqBool:=fun hu hv h=>by
  rcases keyIs_shape hu with ⟨i,t,rfl,rfl⟩|⟨x,t,rfl,rfl⟩
  ·rcases keyIs_shape hv with ⟨j,u,rfl,rfl⟩|⟨y,u,rfl,rfl⟩
   ·rw[key_ll] at h;exact wpAny_eqBool_int h
   ·rw[key_lr] at h;exact SeqAt.EqAt.int_str i t y u _ _ _ _ h
  ·rcases keyIs_shape hv with ⟨j,u,rfl,rfl⟩|⟨y,u,rfl,rfl⟩
   ·rw[key_rl] at h;exact SeqAt.EqAt.str_int x t j u _ _ _ _ h
   ·rw[key_rr] at h;exact wpAny_eqBool_str h
 «strs» :=fun k x t v h=>by
  rcases keyIs_shape h with ⟨i,u,rfl,e⟩|⟨y,u,rfl,e⟩
  ·exact nomatch e
  ·injection e with e1 _
   subst e1
   cases v<;>rfl
theorem mixKind_int (prog:Program) (w:World) (i:Int) (t:Tok):(mixKind prog w).is (.inl i) (.int i t)=true:=keyIs_int i t
theorem mixKind_str (prog:Program) (w:World) (x:Str) (t:Tok):(mixKind prog w).is (.inr x) (.str x t)=true:=keyIs_str x t
end L2
namespace L2
open PySem PySem.Spec PyProof.Rows
inductive V where
 | non|bl (b:Bool)|int (i:Int)|str (x:Str)|byt (b:Array UInt8)|flt (b:UInt64)|ref (a:Addr)|ty (n:String)
 deriving DecidableEq
noncomputable def RelV:V→Value→Prop
 | .non,u=>u=Value.none
 | .bl b,u=>u=Value.bool b
 | .int i,u=>∃ t,u=Value.int i t
 | .str x,u=>∃ t,u=Value.str x t
 | .byt b,u=>∃ t,u=Value.bytes b t
 | .flt b,u=>∃ t,u=Value.float b t
 | .ref a,u=>u=Value.ref a
 | .ty n,u=>u=Value.type n
noncomputable abbrev Vals:List V→List Value→Prop:=Paired RelV
theorem Vals.length {xs:List V}{us:List Value}(r:Vals xs us):xs.length=us.length:=Paired.length r
theorem Vals.get:∀ {xs:List V}{us:List Value}{i:Nat}{x:V},Vals xs us→xs[i]?=some x→∃ u,us[i]?=some u∧RelV x u
 | _,_,_,_,.nil,e=>by simp at e
 | _,_,0,_,.cons r _,e=>by simp at e;subst e;exact⟨_,rfl,r⟩
 | _,_,i+1,x,.cons _ t,e=>by
  obtain⟨u,h1,h2⟩:=Vals.get (i:=i) (x:=x) t (by simpa using e)
  exact⟨u,by simpa using h1,h2⟩
theorem Vals.set {x:V}{u:Value}(r:RelV x u):∀ {xs:List V}{us:List Value}(i:Nat),Vals xs us→Vals (xs.set i x) (us.set i u)
 | _,_,_,.nil =>.nil
 | _,_,0,.cons _ t =>.cons r t
 | _,_,i+1,.cons q t =>.cons q (Vals.set r i t)
theorem Vals.append:∀ {xs ys:List V}{us ws:List Value},Vals xs us→Vals ys ws→Vals (xs++ys) (us++ws)
 | _,_,_,_,.nil,s=>s
 | _,_,_,_,.cons r t,s =>.cons r (Vals.append t s)
theorem Vals.take:∀ {xs:List V}{us:List Value}(n:Nat),Vals xs us→Vals (xs.take n) (us.take n)
 | _,_,0,_ =>.nil
 | _,_,_+1,.nil =>.nil
 | _,_,n+1,.cons r t =>.cons r (Vals.take n t)
theorem Vals.drop:∀ {xs:List V}{us:List Value}(n:Nat),Vals xs us→Vals (xs.drop n) (us.drop n)
 | _,_,0,r=>r
 | _,_,_+1,.nil =>.nil
 | _,_,n+1,.cons _ t=>Vals.drop n t
noncomputable def RelO:Option V→Option Value→Prop
 | some v,some u=>RelV v u
 | none,none=>True
 | _,_=>False
noncomputable def KV {κ:Type}:List (κ×V)→List (κ×Value)→Prop:=Paired fun (p:κ×V) (q:κ×Value)=>p.1=q.1∧RelV p.2 q.2
noncomputable def kV:Key→V
 | .inl i =>.int i
 | .inr x =>.str x
inductive HO where
 | lst (xs:List V)
 | tup (xs:List V)
 | dK (kvs:List (Key×V))|dT (kvs:List (List Key×V))
 | set (S:Int→Bool) (n:Nat)
 | ins (C dx:Addr) (fs:List (Str×V))
 | own (x:Addr)
 | xd (fs:List (Str×V))
 | met (f x:Addr)
 | rng (lo hi:Int)
 | frz (o:Obj) (u:HO)
 | tbl (ps:Array Value)
 | ext (φ:Heap→Prop)
noncomputable abbrev Hp:=Addr→Option HO
noncomputable def upd (H:Hp) (a:Addr) (o:HO):Hp:=fun b=>if b=a then some o else H b
theorem upd_same {H:Hp}{a:Addr}{o:HO}:upd H a o a=some o:=by unfold upd;rw[if_pos rfl]
theorem upd_ne {H:Hp}{a b:Addr}{o:HO}(h:b≠a):upd H a o b=H b:=by unfold upd;rw[if_neg h]
theorem upd_upd {H:Hp}{a:Addr}{o u:HO}:upd (upd H a o) a u=upd H a u:=by
 funext b;unfold upd;split<;>rfl
theorem ne_of_none {H:Hp}{a b:Addr}{o:HO}(h:H a=some o) (h':H b=none):a≠b:=by
 intro e;subst e;rw[h] at h';cases h'
noncomputable section
variable (P:Program) (w:World)
noncomputable def ObjOk (H:Hp) (h:Heap) (a:Addr):HO→Prop
 | .lst xs=>xs.length≤sizeLine∧∃ (its:List Value) (n:Nat),Vals xs its∧h.get? a=some { cls :=.type "list",data :=.seq its.toArray n }
 | .tup xs=>xs.length≤sizeLine∧∃ its:List Value,Vals xs its∧IsTup h a its.toArray
 | .dK kvs=>kvs.length≤sizeLine∧(a==sysModules)=false∧∃ vs,KV kvs vs∧h.DictOf (mixKind P w) a vs
 | .dT kvs=>kvs.length≤sizeLine∧(a==sysModules)=false∧∃ xs:List (List Key×Addr×Value),
   Paired (fun (p:List Key×V) (q:List Key×Addr×Value)=>p.1=q.1∧H q.2.1=some (.tup (p.1.map kV))∧RelV p.2 q.2.2) kvs xs ∧
   ∃ o es ep,h.get? a=some o∧o.ExactDict∧o.data=.dict es ep∧es.toList=xs.map (entryOfKey (tupleKind (mixKind P w)))∧(xs.map (·.1)).Nodup
 | .set S n=>h.SetOf (intKind P w) a S n
 | .ins C dx fs=>H dx=some (.own a)∧fs.length≤1000∧dx≠a∧h.get? a=some (instObj C dx) ∧
   ∃ mA,h.Ns1 dx mA∧(∀ f,RelO (fs.lookup f) (mA f))∧PySem.Within mA (fs.map (·.1))
 | .own _=>∃ o,h.get? a=some o
 | .xd fs=>∃ mA,h.Ns1 a mA∧∀ f,RelO (fs.lookup f) (mA f)
 | .rng lo hi=>∃ t u v,h.get? a=some { cls :=.type "range",data :=.fields #[.int lo t,.int hi u,.int 1 v] }
 | .frz o u=>h.get? a=some o∧ObjOk H h a u
 | .tbl ps=>h.get? a=some { cls :=.none,data :=.fields ps }
 | .met f x=>h.get? a=some (methodObj (.ref f) (.ref x))
 | .ext φ=>φ h∧(∃ o,h.get? a=some o)∧∀ h1 h2:Heap,φ h1→(∀ o,h1.get? a=some o→h2.get? a=some o)→φ h2
noncomputable def HOk (H:Hp) (h:Heap):Prop:=∀ a o,H a=some o→ObjOk P w H h a o
end
noncomputable section
variable {P:Program}{w:World}{H H':Hp}{h h':Heap}{a:Addr}{o:HO}
theorem ObjOk.lt (x:ObjOk P w H h a o):a<h.objs.size:=by
 cases o with
 | lst xs=>obtain⟨_,_,_,_,e⟩:=x;exact zJ e
 | tup xs=>obtain⟨_,_,_,p⟩:=x;exact p.lt
 | dK kvs=>obtain⟨_,_,_,_,o,_,_,e,_⟩:=x;exact zJ e
 | dT kvs=>obtain⟨_,_,_,_,o,_,_,e,_⟩:=x;exact zJ e
 | set S n=>obtain⟨o,_,_,_,e,_⟩:=x;exact zJ e
 | ins C dx fs=>obtain⟨_,_,_,e,_⟩:=x;exact zJ e
 | own y=>obtain⟨_,e⟩:=x;exact zJ e
 | xd fs=>obtain⟨_,⟨_,_,_,e,_⟩,_⟩:=x;exact zJ e
 | rng lo hi=>obtain⟨_,_,_,e⟩:=x;exact zJ e
 | frz ob u=>obtain⟨e,_⟩:=x;exact zJ e
 | tbl ps=>exact zJ (show h.get? a=some _ from x)
 | met f y=>exact zJ (show h.get? a=some _ from x)
 | ext φ=>obtain⟨_,⟨_,e⟩,_⟩:=x;exact zJ e
theorem Paired.mapP {α β:Type}{F G:α→β→Prop}:∀ {l₁:List α}{l₂:List β},Paired F l₁ l₂→(∀ a b,F a b→G a b)→Paired G l₁ l₂
 | _,_,.nil,_ =>.nil
 | _,_,.cons r t,f =>.cons (f _ _ r) (Paired.mapP t f)
theorem ObjOk.stay (x:ObjOk P w H h a o) (k:∀ b u,(b=a∨H b=some (.own a))→h.get? b=some u→h'.get? b=some u)
  (ho:∀ b,H b=some (.own a)→H' b=some (.own a)) (ht:∀ b xs,H b=some (.tup xs)→H' b=some (.tup xs)):ObjOk P w H' h' a o:=by
 induction o with
 | lst xs=>obtain⟨z,its,n,r,e⟩:=x;exact⟨z,its,n,r,k _ _ (.inl rfl) e⟩
 | tup xs=>obtain⟨z,its,r,ob,e,c⟩:=x;exact⟨z,its,r,ob,k _ _ (.inl rfl) e,c⟩
 | dK kvs=>obtain⟨z,y,vs,r,ob,es,ep,e,c⟩:=x;exact⟨z,y,vs,r,ob,es,ep,k _ _ (.inl rfl) e,c⟩
 | dT kvs=>obtain⟨z,y,xs,r,ob,es,ep,e,c⟩:=x;exact⟨z,y,xs,Paired.mapP r fun p q z=>⟨z.1,ht _ _ z.2.1,z.2.2⟩,ob,es,ep,k _ _ (.inl rfl) e,c⟩
 | set S n=>obtain⟨ob,es,ep,t,e,c⟩:=x;exact⟨ob,es,ep,t,k _ _ (.inl rfl) e,c⟩
 | ins C dx fs=>obtain⟨d,z,ne,e,mA,⟨od,es,ep,e2,c⟩,r⟩:=x;exact⟨ho _ d,z,ne,k _ _ (.inl rfl) e,mA,⟨od,es,ep,k _ _ (.inr d) e2,c⟩,r⟩
 | own y=>obtain⟨ob,e⟩:=x;exact⟨ob,k _ _ (.inl rfl) e⟩
 | xd fs=>obtain⟨mA,⟨od,es,ep,e,c⟩,r⟩:=x;exact⟨mA,⟨od,es,ep,k _ _ (.inl rfl) e,c⟩,r⟩
 | rng lo hi=>obtain⟨t,u,v,e⟩:=x;exact⟨t,u,v,k _ _ (.inl rfl) e⟩
 | frz ob u ih=>obtain⟨e,q⟩:=x;exact⟨k _ _ (.inl rfl) e,ih q⟩
 | tbl ps=>have e:h.get? a=some { cls :=.none,data :=.fields ps }:=x;show h'.get? a=some { cls :=.none,data :=.fields ps };exact k a _ (.inl rfl) e
 | met f y=>have e:h.get? a=some (methodObj (.ref f) (.ref y)):=x;show h'.get? a=some (methodObj (.ref f) (.ref y));exact k a _ (.inl rfl) e
 | ext φ=>obtain⟨p,⟨o,e⟩,st⟩:=x;exact⟨st _ _ p fun o q=>k _ _ (.inl rfl) q,⟨o,k _ _ (.inl rfl) e⟩,st⟩
theorem HOk.lt (x:HOk P w H h) (e:H a=some o):a<h.objs.size:=(x a o e).lt
theorem HOk.fresh (x:HOk P w H h) (e:h.objs.size≤a):H a=none:=by
 cases q:H a with
 | none=>rfl
 | some u=>exact absurd (zS (x.lt q) e) (yE _)
theorem HOk.kept (x:HOk P w H h) (k:∀ b u,h.get? b=some u→h'.get? b=some u):HOk P w H h':=fun a o e=>
 (x a o e).stay (fun b u _ q=>k b u q) (fun _ q=>q) fun _ _ q=>q
theorem HOk.laid (x:HOk P w H h) (k:∀ b u,h.get? b=some u→h'.get? b=some u) (hp:h.objs.size≤a) (new:ObjOk P w (upd H a o) h' a o):HOk P w (upd H a o) h':=fun b u e=>by
 have hn:=x.fresh hp;by_cases hb:b=a
 ·subst hb;rw[upd_same] at e;cases e;exact new
 ·rw[upd_ne hb] at e;exact(x b u e).stay (fun c v _ q=>k c v q) (fun c q=>by rw[upd_ne (ne_of_none q hn)];exact q) fun c xs q=>by rw[upd_ne (ne_of_none q hn)];exact q
end
noncomputable def Rd (H:Hp) (a:Addr) (u:HO):Prop:=H a=some u∨∃ o,H a=some (.frz o u)
theorem Rd.of {H:Hp}{a:Addr}{u:HO}(h:H a=some u):Rd H a u :=.inl h
theorem Rd.ok {P:Program}{w:World}{H:Hp}{h:Heap}{a:Addr}{u:HO}(r:Rd H a u) (x:HOk P w H h):ObjOk P w H h a u:=by
 rcases r with r|⟨o,r⟩
 ·exact x a u r
 ·obtain⟨_,q⟩:=x a _ r;exact q
noncomputable def Mut:Option HO→Prop
 | some (.lst _)=>True
 | some (.dK _)=>True
 | some (.dT _)=>True
 | some (.set _ _)=>True
 | some (.ins _ _ _)=>True
 | some (.ext _)=>True
 | _=>False
noncomputable section
variable {P:Program}{w:World}{H:Hp}{h h':Heap}{x e:Addr}{o':HO}
theorem HOk.write (ok:HOk P w H h) (mu:Mut (H x)) (he:e=x∨H e=some (.own x)) (k:∀ b u,b≠e→h.get? b=some u→h'.get? b=some u) (heo:∃ u,h'.get? e=some u)
  (new:ObjOk P w (upd H x o') h' x o'):HOk P w (upd H x o') h':=fun b u q=>by
 have nown:∀ c y,H c=some (.own y)→c≠x:=fun c y r z=>by subst z;rw[r] at mu;exact mu
 have ntup:∀ c xs,H c=some (.tup xs)→c≠x:=fun c xs r z=>by subst z;rw[r] at mu;exact mu
 by_cases hb:b=x
 ·subst hb;rw[upd_same] at q;cases q;exact new
 ·rw[upd_ne hb] at q;by_cases hbe:b=e
  ·have q':H b=some (.own x):=by
    rcases he with z|z
    ·exact absurd (hbe.trans z) hb
    ·rw[hbe];exact z
   rw[q] at q';cases q';obtain⟨v,hv⟩:=heo;exact⟨v,by rw[hbe];exact hv⟩
  ·refine(ok b u q).stay (fun c v hc r=>k c v ?_ r) (fun c r=>by rw[upd_ne (nown c b r)];exact r) fun c xs r=>by rw[upd_ne (ntup c xs r)];exact r
   rcases hc with rfl|hc
   ·exact hbe
   ·rintro rfl;rcases he with z|z
    ·exact nown c b hc z
    ·rw[hc] at z;cases z;exact hb rfl
end
structure Un (fs ex:List Addr) (H H':Hp) (h h':Heap):Prop where
 keep:∀ b o,h.get? b=some o→H b=none→b∉fs→b∉ex→h'.get? b=some o
 slot:∀ b o,h.get? b=some o→H b=none→b∈fs→b∉ex→∃ sl,h'.get? b=some { o with slots:=sl }
 free:∀ b o,h.get? b=some o→H b=none→b∉ex→H' b=none
 there:∀ b o,h.get? b=some o→b∉ex→∃ o',h'.get? b=some o'
 tups:∀ b xs,H b=some (.tup xs)→H' b=some (.tup xs)
 frzs:∀ b o u,H b=some (.frz o u)→H' b=some (.frz o u)
 tbls:∀ b ps,H b=some (.tbl ps)→∃ more,H' b=some (.tbl (ps++more))
noncomputable section
variable {fs fs' ex ex':List Addr}{H H1 H2:Hp}{h h1 h2 h':Heap}{a x e:Addr}{o:HO}
theorem Un.any (u:Un fs ex H H1 h h1){b:Addr}{ob:Obj}(q:h.get? b=some ob) (n:H b=none) (hx:b∉ex):∃ sl,h1.get? b=some { ob with slots:=sl }:=by
 by_cases hb:b∈fs
 ·exact u.slot b ob q n hb hx
 ·exact⟨ob.slots,u.keep b ob q n hb hx⟩
theorem Un.kept (k:∀ b u,h.get? b=some u→h'.get? b=some u):Un fs ex H H h h':=
 ⟨fun b ob q _ _ _=>k b ob q,fun b ob q _ _ _=>⟨ob.slots,k b ob q⟩,fun _ _ _ n _=>n,fun b ob q _=>⟨ob,k b ob q⟩,fun _ _ q=>q,fun _ _ _ q=>q,fun _ ps q=>⟨#[],by rw[q];simp⟩⟩
theorem Un.refl:Un fs ex H H h h:=Un.kept fun _ _ q=>q
theorem Un.laid (k:∀ b u,h.get? b=some u→h'.get? b=some u) (hp:h.objs.size≤a) (hn:H a=none):Un fs ex H (upd H a o) h h' where
 keep:=fun b u q _ _ _=>k b u q
 slot:=fun b u q _ _ _=>⟨u.slots,k b u q⟩
 free:=fun b u q n _=>by rw[upd_ne (zR (zS (zJ q) hp))];exact n
 there:=fun b u q _=>⟨u,k b u q⟩
 tups:=fun b xs q=>by rw[upd_ne (ne_of_none q hn)];exact q
 frzs:=fun b u xs q=>by rw[upd_ne (ne_of_none q hn)];exact q
 tbls:=fun b ps q=>⟨#[],by rw[upd_ne (ne_of_none q hn),q];simp⟩
theorem Un.write (mu:Mut (H x)) (he:e=x∨H e=some (.own x)) (k:∀ b u,b≠e→h.get? b=some u→h'.get? b=some u) (heo:∃ u,h'.get? e=some u):Un fs ex H (upd H x o) h h':=by
 have hx:∀ b,H b=none→b≠x:=fun b n z=>by subst z;rw[n] at mu;exact mu
 have hb:∀ b,H b=none→b≠e:=fun b n z=>by
  subst z;rcases he with r|r
  ·exact hx b n r
  ·rw[n] at r;cases r
 have hm:∀ b u,H b=some u→¬ Mut (some u)→b≠x:=fun b u q nm z=>by subst z;rw[q] at mu;exact nm mu
 refine⟨fun b u q n _ _=>k b u (hb b n) q,fun b u q n _ _=>⟨u.slots,k b u (hb b n) q⟩,fun b u q n _=>by rw[upd_ne (hx b n)];exact n,fun b u q _ =>?_,
  fun b xs q=>by rw[upd_ne (hm b _ q fun z=>z)];exact q,fun b u xs q=>by rw[upd_ne (hm b _ q fun z=>z)];exact q,fun b ps q=>⟨#[],by rw[upd_ne (hm b _ q fun z=>z),q];simp⟩⟩
 by_cases hbe:b=e
 ·subst hbe;exact heo
 ·exact⟨u,k b u hbe q⟩
end
noncomputable def trk (h:Heap) (H:Hp):List Addr:=(List.range h.objs.size).filter fun a=>(H a).isSome
noncomputable def hidT (h:Heap) (H:Hp):Heap:=PySem.W.hideAll h (trk h H)
theorem hidT_size (h:Heap) (H:Hp):(hidT h H).objs.size=h.objs.size:=PySem.W.hideAll_size _ _
theorem hidT_get {h:Heap}{H:Hp}{b:Addr}{o:Obj}(e:h.get? b=some o) (n:H b=none):(hidT h H).get? b=some o:=
 PySem.W.hideAll_get _ e fun hm=>by have q:(H b).isSome=true:=(List.mem_filter.mp hm).2;rw[n] at q;simp at q
theorem of_hidT {h:Heap}{H:Hp}{b:Addr}{o:Obj}(e:(hidT h H).get? b=some o):h.get? b=some o∧H b=none:=by
 have e':h.get? b=some o:=PySem.W.of_hideAll (trk h H) e;refine⟨e',?_⟩;cases q:H b with
 | none=>rfl
 | some x=>
  have hm:b∈trk h H:=List.mem_filter.mpr ⟨List.mem_range.mpr (zJ e'),by simp[q]⟩
  have z:(hidT h H).get? b=none:=PySem.W.hideAll_none (trk h H) hm;rw[z] at e;cases e
noncomputable def allNews (g h:Heap) (L:Addr):List (Addr×Obj):=(List.range h.objs.size).filterMap fun a=>if a=L∨(g.get? a).isSome=true then none else (h.get? a).map fun o=>(a,o)
noncomputable def rest (g h:Heap) (L d:Addr):List (Addr×Obj):=(allNews g h L).filter fun p=>decide (p.1≠d)
end L2
namespace L2
open PySem PySem.Spec PyProof.Rows
structure Mod (K:Frag) (mg:Str→Option Value) (base:Heap):Prop where
 kin:K.In base
 glob:base.Ns mainGlobals mg
 blt:∃ mb,base.Ns builtinsNs mb∧∀ x:Str,x ≠ "__name__" →mb x=bootBuiltins x
 nolimit:base.NoLimit
structure Cx where
 prog:Program
 w:World
 K:Frag
 mg:Str→Option Value
 base:Heap
 A:Around
 N:List Str
 s₀:Shared
 H₀:Hp
 env:Env
 outer:List Env
 stack:List Env
 ex:List Addr
 fn:Str→Bool
 calm:Bool
 pn:List (Addr×Obj)
 xe:Value→Shared→Prop
noncomputable def frs (l:List Env):List Addr:=l.filterMap (·.frame)
noncomputable abbrev Cx.fs (X:Cx):List Addr:=frs X.outer
noncomputable def Vis (sc:Scope) (x:Str):Prop:=sc.names.lookup x=some .local∨sc.names.lookup x=some .cell∨sc.names.lookup x=some .free
noncomputable def Loc (sc:Scope) (x:Str):Prop:=sc.names.lookup x=some .local∨sc.names.lookup x=some .cell
noncomputable def Look (env:Env) (h:Heap) (m:Str→Option Value) (x:Str) (u:Value):Prop:=
 (env.kindOf x=some .local∧m x=some u)∨((env.kindOf x=some .cell∨env.kindOf x=some .free)∧∃ c,env.cells.lookup x=some c∧h.IsCell c (some u))
structure Cx.Ok (X:Cx):Prop where
 mod:Mod X.K X.mg X.base
 kind:X.env.scope.kind=.function
 glob:X.env.globals=mainGlobals
 blt:X.env.builtins=builtinsNs
 above:X.s₀.heap.objs.size≤X.env.locals
 inj:∀ x y c,X.env.cells.lookup x=some c→X.env.cells.lookup y=some c→x=y
 has:∀ x,(X.env.kindOf x=some .cell∨X.env.kindOf x=some .free)→∃ c,X.env.cells.lookup x=some c
 cab:∀ x c,X.fn x=true→X.env.cells.lookup x=some c→X.s₀.heap.objs.size≤c
 hd:X.calm=true→X.A.handled=none
 frames:X.A.frames=some X.stack
 stk:X.stack=X.outer∨(X.stack=X.env::X.outer∧X.env.frame=some X.env.locals)
 exf:∀ b∈X.ex,b≠X.env.locals∧∀ x c,X.env.cells.lookup x=some c→c≠b
 bs:∀ b o,X.base.get? b=some o→X.s₀.heap.get? b=some o∧X.H₀ b=none
 bsz:X.base.objs.size≤X.s₀.heap.objs.size
 noex:∀ b o,X.base.get? b=some o→b∉X.ex
 exfs:∀ b∈X.ex,b∉X.fs
 funs:X.s₀.heap.FunFrames X.base X.outer
 frf:∀ b∈X.fs,X.H₀ b=none
structure Inv (X:Cx) (pins:List (Addr×Obj)) (σ:List (Option V)) (H:Hp) (s:Shared):Prop where
 ok:X.Ok
 os:s.os=X.s₀.os
 bare:AllBare s.gens
 base:Un X.fs X.ex X.H₀ H X.s₀.heap s.heap
 loc:∃ m,s.heap.Ns X.env.locals m∧∀ (i:Nat) (x:Str) (v:V),X.N[i]?=some x→σ[i]?=some (some v)→Vis X.env.scope x→∃ u,RelV v u∧Look X.env s.heap m x u
 cell:∀ x c,X.env.cells.lookup x=some c→∃ v,s.heap.IsCell c v
 free:H X.env.locals=none
 freeC:∀ x c,X.env.cells.lookup x=some c→H c=none
 pin:∀ p∈X.pn++pins,s.heap.get? p.1=some p.2∧H p.1=none∧p.1≠X.env.locals∧p.1∉X.fs∧∀ v,p.2.data ≠ .cell v
 hok:HOk X.prog X.w H s.heap
 len:σ.length=X.N.length
noncomputable section
variable {X:Cx}{pins:List (Addr×Obj)}{σ:List (Option V)}{H H':Hp}{s:Shared}{h':Heap}
theorem Cx.Ok.nofr (ok:X.Ok){b:Addr}{o:Obj}(e:X.base.get? b=some o):b∉X.fs:=fun hb=>by
 have:=(ok.funs.mem hb).1;rw[e] at this;cases this
theorem Inv.bs (I:Inv X pins σ H s):∀ b o,X.base.get? b=some o→s.heap.get? b=some o∧H b=none:=fun b o e=>
 ⟨I.base.keep b o (I.ok.bs b o e).1 (I.ok.bs b o e).2 (I.ok.nofr e) (I.ok.noex b o e),I.base.free b o (I.ok.bs b o e).1 (I.ok.bs b o e).2 (I.ok.noex b o e)⟩
theorem Inv.bk (I:Inv X pins σ H s):∀ b o,X.base.get? b=some o→s.heap.get? b=some o:=fun b o e=>(I.bs b o e).1
theorem Inv.mod (I:Inv X pins σ H s):Mod X.K X.mg X.base:=I.ok.mod
theorem Inv.kIn (I:Inv X pins σ H s):X.K.In s.heap:=I.ok.mod.kin.keeps I.bk
theorem Inv.nolimit (I:Inv X pins σ H s):s.heap.NoLimit:=I.ok.mod.nolimit.keeps I.bk
theorem Inv.fr (I:Inv X pins σ H s):∃ m,Fr X.base X.env.locals s.heap m:=
 let ⟨m,hn,_⟩:=I.loc
 ⟨m,hn,I.bk,yB I.ok.bsz I.ok.above⟩
theorem Inv.lt (I:Inv X pins σ H s):X.env.locals<s.heap.objs.size:=let ⟨_,hn,_⟩:=I.loc;hn.lt
theorem Inv.sz (I:Inv X pins σ H s):X.s₀.heap.objs.size≤s.heap.objs.size:=yB I.ok.above (Nat.le_of_lt I.lt)
theorem Inv.nofs (I:Inv X pins σ H s){a:Addr}(h:s.heap.objs.size≤a):a∉X.fs:=fun hb=>by
 obtain⟨_,o,ho,_⟩:=I.ok.funs.mem hb;exact absurd (zS (zJ ho) (yB I.sz h)) (yE _)
theorem Inv.cne (I:Inv X pins σ H s):∀ x c,X.env.cells.lookup x=some c→c≠X.env.locals:=fun x c e z=>by
 obtain⟨v,o,ho,hd⟩:=I.cell x c e;obtain⟨m,⟨o',es,ep,ho',hd',_⟩,_⟩:=I.loc;rw[z,ho'] at ho;cases ho;rw[hd'] at hd;cases hd
theorem Inv.funs (I:Inv X pins σ H s):s.heap.FunFrames X.base X.outer:=by
 have all:∀ (l:List Env),(∀ b∈frs l,b∈X.fs)→X.s₀.heap.FunFrames X.base l→s.heap.FunFrames X.base l:=by
  intro l
  induction l with
  | nil=>intro _ _;trivial
  | cons env r ih=>
   intro hs hl;obtain⟨hk,⟨L,o,hf,hn,ho,hd⟩,hr⟩:=hl;have hL:L∈X.fs:=hs L (by unfold frs;rw[List.filterMap_cons,hf];exact zD)
   obtain⟨sl,e⟩:=I.base.slot L o ho (I.ok.frf L hL) hL fun z=>I.ok.exfs L z hL
   exact⟨hk,⟨L,_,hf,hn,e,hd⟩,ih (fun b hb=>hs b (by unfold frs;rw[List.filterMap_cons,hf];exact zB _ hb)) hr⟩
 exact all X.outer (fun _ hb=>hb) I.ok.funs
theorem Inv.stack (I:Inv X pins σ H s):s.heap.FunFrames X.base X.stack:=by
 rcases I.ok.stk with e|⟨e,hf⟩
 ·rw[e];exact I.funs
 ·rw[e];obtain⟨m,hn,_⟩:=I.loc;refine .cons (by rw[I.ok.kind];decide) hf hn ?_ I.funs
  exact Heap.get?_none_of_le (yB I.ok.bsz I.ok.above)
theorem Inv.stkSub (I:Inv X pins σ H s):∀ b∈frs X.stack,b∈X.env.locals::X.fs:=fun b hb=>by
 rcases I.ok.stk with e|⟨e,hf⟩
 ·rw[e] at hb;exact zB _ hb
 ·rw[e] at hb;unfold frs at hb;rw[List.filterMap_cons,hf] at hb;exact hb
theorem Inv.stkFree (I:Inv X pins σ H s):∀ b∈frs X.stack,H b=none:=fun b hb=>by
 rcases zG.mp (I.stkSub b hb) with e|hb
 ·rw[e];exact I.free
 ·obtain⟨_,o,ho,_⟩:=I.ok.funs.mem hb;exact I.base.free b o ho (I.ok.frf b hb) fun z=>I.ok.exfs b z hb
theorem Inv.step {g':Array GenState}{t':Nat}{d':Drawn}{ch:List Addr}(I:Inv X pins σ H s)
  (hch:∀ b∈ch,(b∈X.ex∨X.s₀.heap.objs.size≤b)∧b≠X.env.locals∧(∀ x c,X.env.cells.lookup x=some c→c≠b)∧∀ p∈X.pn++pins,p.1≠b)
  (keep:∀ b o,b≠X.env.locals→b∉X.fs→b∉ch→s.heap.get? b=some o→H b=none→h'.get? b=some o)
  (slot:∀ b o,b≠X.env.locals→b∈X.fs→b∉ch→s.heap.get? b=some o→H b=none→∃ sl,h'.get? b=some { o with slots:=sl }) (free:∀ b o,b∉ch→s.heap.get? b=some o→H b=none→H' b=none)
  (there:∀ b o,b∉ch→s.heap.get? b=some o→∃ o',h'.get? b=some o')
  (tups:∀ b xs,H b=some (.tup xs)→H' b=some (.tup xs)) (frzs:∀ b o u,H b=some (.frz o u)→H' b=some (.frz o u)) (tbls:∀ b ps,H b=some (.tbl ps)→∃ more,H' b=some (.tbl (ps++more)))
  (ns:∀ m,s.heap.Ns X.env.locals m→h'.Ns X.env.locals m) (hok:HOk X.prog X.w H' h') (hg:AllBare g') :
  Inv X pins σ H' { s with heap:=h',gens:=g',drawn:=d',toks:=t' }:=by
 have neL:∀ b o,X.s₀.heap.get? b=some o→b≠X.env.locals:=fun b o e=>zR (zS (zJ e) I.ok.above)
 have neC:∀ b o,X.s₀.heap.get? b=some o→b∉X.ex→b∉ch:=fun b o e hx hb=>by
  rcases(hch b hb).1 with z|z
  ·exact hx z
  ·exact absurd (zS (zJ e) z) (yE _)
 have cellK:∀ x c,X.env.cells.lookup x=some c→∀ v,s.heap.IsCell c v→h'.IsCell c v:=fun x c e v ⟨o,ho,hd⟩=>by
  have nch:c∉ch:=fun z=>(hch c z).2.2.1 x c e rfl
  by_cases hc:c∈X.fs
  ·obtain⟨sl,q⟩:=slot c o (I.cne x c e) hc nch ho (I.freeC x c e);exact⟨_,q,hd⟩
  ·exact⟨o,keep c o (I.cne x c e) hc nch ho (I.freeC x c e),hd⟩
 refine⟨I.ok,I.os,hg,⟨fun b o e n hb hx =>?_,fun b o e n hb hx =>?_,fun b o e n hx =>?_,fun b o e hx =>?_,fun b xs e=>tups b xs (I.base.tups b xs e),fun b o xs e=>frzs b o xs (I.base.frzs b o xs e),fun b ps e =>?_⟩,?_,fun x c e =>?_,?_,fun x c e =>?_,fun p hp =>?_,hok,I.len⟩
 ·exact keep b o (neL b o e) hb (neC b o e hx) (I.base.keep b o e n hb hx) (I.base.free b o e n hx)
 ·obtain⟨sl,e1⟩:=I.base.slot b o e n hb hx;obtain⟨sl',e2⟩:=slot b _ (neL b o e) hb (neC b o e hx) e1 (I.base.free b o e n hx);exact⟨sl',e2⟩
 ·obtain⟨o',e1⟩:=I.base.there b o e hx;exact free b o' (neC b o e hx) e1 (I.base.free b o e n hx)
 ·obtain⟨o',e1⟩:=I.base.there b o e hx;exact there b o' (neC b o e hx) e1
 ·obtain⟨m1,e1⟩:=I.base.tbls b ps e;obtain⟨m2,e2⟩:=tbls b _ e1;exact⟨m1++m2,by rw[e2,Array.append_assoc]⟩
 ·obtain⟨m,hn,hl⟩:=I.loc;refine⟨m,ns m hn,fun i x v e1 e2 e3 =>?_⟩
  obtain⟨u,r,l⟩:=hl i x v e1 e2 e3;refine⟨u,r,?_⟩;rcases l with l|⟨k,c,e,z⟩
  ·exact .inl l
  ·exact .inr ⟨k,c,e,cellK x c e _ z⟩
 ·obtain⟨v,z⟩:=I.cell x c e;exact⟨v,cellK x c e v z⟩
 ·obtain⟨m,⟨o,_,_,ho,_⟩,_⟩:=I.loc;exact free _ o (fun z=>(hch _ z).2.1 rfl) ho I.free
 ·obtain⟨v,o,ho,hd⟩:=I.cell x c e;exact free c o (fun z=>(hch c z).2.2.1 x c e rfl) ho (I.freeC x c e)
 ·obtain⟨e,n,ne,nf,d⟩:=I.pin p hp;have nch:p.1∉ch:=fun z=>(hch p.1 z).2.2.2 p hp rfl
  exact⟨keep p.1 p.2 ne nf nch e n,free p.1 p.2 nch e n,ne,nf,d⟩
theorem Inv.un {t':Nat}(I:Inv X pins σ H s) (u:Un X.fs [] H H' s.heap h') (hok:HOk X.prog X.w H' h'):Inv X pins σ H' { s with heap:=h',toks:=t' }:=by
 obtain⟨m,⟨o,es,ep,ho,r⟩,_⟩:=id I.loc;obtain⟨sl,hL⟩:=u.any ho I.free (by simp)
 exact I.step (g':=s.gens) (d':=s.drawn) (ch:=[]) (fun _ z=>nomatch z) (fun b o _ hb _ e n=>u.keep b o e n hb (by simp)) (fun b o _ hb _ e n=>u.slot b o e n hb (by simp)) (fun b o _ e n=>u.free b o e n (by simp)) (fun b o _ e=>u.there b o e (by simp)) u.tups u.frzs u.tbls (fun m' hm=>by obtain⟨o',es',ep',ho',r'⟩:=hm;rw[ho] at ho';cases ho';exact⟨_,es',ep',hL,r'⟩) hok I.bare
theorem Inv.call {g':Array GenState}{t':Nat}{d':Drawn}{ch:List Addr}(I:Inv X pins σ H s) (u:Un (frs X.stack) ch H H' s.heap h') (hok:HOk X.prog X.w H' h') (hg:AllBare g')
  (hch:∀ b∈ch,(b∈X.ex∨X.s₀.heap.objs.size≤b)∧b≠X.env.locals∧(∀ x c,X.env.cells.lookup x=some c→c≠b)∧∀ p∈X.pn++pins,p.1≠b) :
  Inv X pins σ H' { s with heap:=h',gens:=g',drawn:=d',toks:=t' }:=by
 obtain⟨m,⟨o,es,ep,ho,r⟩,_⟩:=id I.loc;obtain⟨sl,hL⟩:=u.any ho I.free fun z=>(hch _ z).2.1 rfl
 exact I.step (ch:=ch) hch (fun b o hL hb hc e n=>u.keep b o e n (fun z=>(zG.mp (I.stkSub b z)).elim hL hb) hc) (fun b o _ _ hc e n=>u.any e n hc) (fun b o hc e n=>u.free b o e n hc) (fun b o hc e=>u.there b o e hc) u.tups u.frzs u.tbls (fun m' hm=>by obtain⟨o',es',ep',ho',r'⟩:=hm;rw[ho] at ho';cases ho';exact⟨_,es',ep',hL,r'⟩) hok hg
theorem Inv.turned {t':Nat}{it:Addr}(I:Inv X pins σ H s) (k:∀ b o,b≠it→s.heap.get? b=some o→h'.get? b=some o) (hn:H it=none) (hL:it≠X.env.locals)
  (h1:it∈X.ex∨X.s₀.heap.objs.size≤it) (h2:∀ x c,X.env.cells.lookup x=some c→c≠it) (h3:∀ p∈X.pn++pins,p.1≠it):Inv X pins σ H { s with heap:=h',toks:=t' }:=by
 have nit:∀ b u,H b=some u→b≠it:=fun b u e z=>by rw[z,hn] at e;cases e
 refine I.step (g':=s.gens) (d':=s.drawn) (ch:=[it]) (fun b hb =>?_) (fun b o _ _ hc e _=>k b o (fun z=>hc (by simp[z])) e) (fun b o _ _ hc e _=>⟨o.slots,k b o (fun z=>hc (by simp[z])) e⟩) (fun _ _ _ _ n=>n)
  (fun b o hc e=>⟨o,k b o (fun z=>hc (by simp[z])) e⟩) (fun _ _ e=>e) (fun _ _ _ e=>e) (fun b ps e=>⟨#[],by rw[e];simp⟩) (fun m hm =>?_) (fun b u e =>?_) I.bare
 ·have e:b=it:=by simpa using hb
  subst e;exact⟨h1,hL,h2,h3⟩
 ·obtain⟨o,es,ep,ho,r⟩:=hm;exact⟨o,es,ep,k _ o (Ne.symm hL) ho,r⟩
 ·refine(I.hok b u e).stay (fun c v hc q=>k c v ?_ q) (fun _ q=>q) fun _ _ q=>q
  rcases hc with z|z
  ·rw[z];exact nit b u e
  ·exact nit c _ z
theorem Inv.tok (I:Inv X pins σ H s) (t:Nat):Inv X pins σ H { s with toks:=t }:=I.un (h':=s.heap) (t':=t) Un.refl I.hok
theorem Inv.kept {t':Nat}(I:Inv X pins σ H s) (k:∀ b u,s.heap.get? b=some u→h'.get? b=some u):Inv X pins σ H { s with heap:=h',toks:=t' }:=I.un (Un.kept k) (I.hok.kept k)
theorem Inv.laid {a:Addr}{o:HO}{t':Nat}(I:Inv X pins σ H s) (k:∀ b u,s.heap.get? b=some u→h'.get? b=some u) (hp:s.heap.objs.size≤a) (new:ObjOk X.prog X.w (upd H a o) h' a o) :
  Inv X pins σ (upd H a o) { s with heap:=h',toks:=t' }:=I.un (Un.laid k hp (I.hok.fresh hp)) (I.hok.laid k hp new)
theorem Inv.write {x e:Addr}{o:HO}{t':Nat}(I:Inv X pins σ H s) (mu:Mut (H x)) (he:e=x∨H e=some (.own x)) (k:∀ b u,b≠e→s.heap.get? b=some u→h'.get? b=some u) (heo:∃ u,h'.get? e=some u)
  (new:ObjOk X.prog X.w (upd H x o) h' x o):Inv X pins σ (upd H x o) { s with heap:=h',toks:=t' }:=I.un (Un.write mu he k heo) (I.hok.write mu he k heo new)
theorem Inv.weak {σ':List (Option V)}(I:Inv X pins σ H s) (hl:σ'.length=σ.length) (w:∀ (i:Nat) v,σ'[i]?=some (some v)→σ[i]?=some (some v)):Inv X pins σ' H s:=
 ⟨I.ok,I.os,I.bare,I.base,let ⟨m,hn,hl'⟩:=I.loc;⟨m,hn,fun i x v e1 e2 e3=>hl' i x v e1 (w i v e2) e3⟩,I.cell,I.free,I.freeC,I.pin,I.hok,hl.trans I.len⟩
theorem Inv.pins_of {pins':List (Addr×Obj)}(I:Inv X pins σ H s) (h:∀ p∈pins',s.heap.get? p.1=some p.2∧H p.1=none∧p.1≠X.env.locals∧p.1∉X.fs∧∀ v,p.2.data ≠ .cell v):Inv X pins' σ H s:=
 ⟨I.ok,I.os,I.bare,I.base,I.loc,I.cell,I.free,I.freeC,fun p hp=>(zO.mp hp).elim (fun z=>I.pin p (zU _ z)) (h p),I.hok,I.len⟩
theorem nodup_ix {N:List Str}(hN:N.Nodup){i j:Nat}{x:Str}(a:N[i]?=some x) (b:N[j]?=some x):i=j:=by
 obtain⟨h1,e1⟩:=zC.mp a;obtain⟨h2,e2⟩:=zC.mp b;exact(List.getElem_inj hN).mp (e1.trans e2.symm)
theorem store_ok2 {M:Model}{A:Around}{E:Value→Shared→Prop}{i:Nat}{x:Str}{v:V}{u:Value}{Q:Unit→Shared→Prop}(I:Inv X pins σ H s) (hN:X.N.Nodup) (hi:X.N[i]?=some x) (hx:Loc X.env.scope x) (r:RelV v u)
  (h:∀ s',Inv X pins (σ.set i (some v)) H s'→(∃ a,Heap.SameBut a s.heap s'.heap∧(a=X.env.locals∨X.env.cells.lookup x=some a))→Q () s') (hf:X.fn x=true∨X.env.scope.names.lookup x=some .local:=by first|exact .inl rfl|exact .inr rfl|assumption):wpAny M A (storeName X.env x u) Q E s:=by
 obtain⟨m,hn,hl⟩:=id I.loc;have hcls:(X.env.scope.kind == .class||(X.env.scope.kind == .module&&X.env.locals != X.env.globals))=false:=by rw[I.ok.kind];rfl
 have hiσ:i<σ.length:=by rw[I.len];exact(zC.mp hi).1
 have cne:=I.cne;have tracked:∀ {a:Addr}{h':Heap},(∃ o,s.heap.get? a=some o∧H a=none)→Heap.SameBut a s.heap h'→HOk X.prog X.w H h':=fun {a h'} ha hs b ob e=>by
  obtain⟨_,_,hfree⟩:=ha;refine(I.hok b ob e).stay (fun c w' hc q=>(hs.2 c ?_).trans q) (fun _ q=>q) fun _ _ q=>q
  rintro rfl;rcases hc with rfl|hc
  ·rw[hfree] at e;cases e
  ·rw[hfree] at hc;cases hc
 rcases hx with hk|hk
 ·refine wpAny_storeName_local hk hn (fun h' hn' hs =>?_) hcls
  obtain⟨oL,_,_,hoL,_⟩:=id hn;refine h _ ⟨I.ok,I.os,I.bare,⟨fun b o e n hb hx =>?_,fun b o e n hb hx =>?_,I.base.free,fun b o e hx =>?_,I.base.tups,I.base.frzs,I.base.tbls⟩,⟨_,hn',fun j y v' e1 e2 e3 =>?_⟩,fun y c e =>?_,I.free,I.freeC,fun p hp =>?_,tracked ⟨oL,hoL,I.free⟩ hs,by simpa using I.len⟩ ⟨_,hs,.inl rfl⟩
  ·exact(hs.2 b (zR (zS (zJ e) I.ok.above))).trans (I.base.keep b o e n hb hx)
  ·obtain⟨sl,e1⟩:=I.base.slot b o e n hb hx;exact⟨sl,(hs.2 b (zR (zS (zJ e) I.ok.above))).trans e1⟩
  ·obtain⟨o',e1⟩:=I.base.there b o e hx;exact⟨o',(hs.2 b (zR (zS (zJ e) I.ok.above))).trans e1⟩
  ·by_cases hj:j=i
   ·subst hj;rw[hi] at e1;cases e1;rw[List.getElem?_set_self hiσ] at e2;cases e2;exact⟨u,r,.inl ⟨hk,by simp⟩⟩
   ·rw[zK (Ne.symm hj)] at e2;obtain⟨u',r',q⟩:=hl j y v' e1 e2 e3;refine⟨u',r',?_⟩;rcases q with ⟨k,e⟩|⟨k,c,e,z⟩
    ·refine .inl ⟨k,?_⟩;have:y≠x:=fun e=>hj (nodup_ix hN e1 (e ▸ hi))
     simp[this,e]
    ·exact .inr ⟨k,c,e,z.sameBut hs (cne y c e)⟩
  ·obtain⟨w',z⟩:=I.cell y c e;exact⟨w',z.sameBut hs (cne y c e)⟩
  ·obtain⟨e,n,ne,nf,d⟩:=I.pin p hp;exact⟨(hs.2 p.1 ne).trans e,n,ne,nf,d⟩
 ·have hfn:X.fn x=true:=by
   rcases hf with z|z
   ·exact z
   ·rw[z] at hk;cases hk
  obtain⟨c,hc⟩:=I.ok.has x (.inl hk);obtain⟨w',z⟩:=I.cell x c hc;refine wpAny_storeName_cell I.ok.kind hk hc z (fun h' hc' hs =>?_)
  obtain⟨oc,hoc,hocd⟩:=id z;refine h { s with heap:=h' } ⟨I.ok,I.os,I.bare,⟨fun b o e n hb hx =>?_,fun b o e n hb hx =>?_,I.base.free,fun b o e hx =>?_,I.base.tups,I.base.frzs,I.base.tbls⟩,⟨m,hn.sameBut hs (Ne.symm (cne x c hc)),fun j y v' e1 e2 e3 =>?_⟩,fun y c' e =>?_,I.free,I.freeC,fun p hp =>?_,tracked ⟨oc,hoc,I.freeC x c hc⟩ hs,by simpa using I.len⟩ ⟨c,hs,.inr hc⟩
  ·exact(hs.2 b (zR (zS (zJ e) (I.ok.cab x c hfn hc)))).trans (I.base.keep b o e n hb hx)
  ·obtain⟨sl,e1⟩:=I.base.slot b o e n hb hx;exact⟨sl,(hs.2 b (zR (zS (zJ e) (I.ok.cab x c hfn hc)))).trans e1⟩
  ·obtain⟨o',e1⟩:=I.base.there b o e hx;exact⟨o',(hs.2 b (zR (zS (zJ e) (I.ok.cab x c hfn hc)))).trans e1⟩
  ·by_cases hj:j=i
   ·subst hj;rw[hi] at e1;cases e1;rw[List.getElem?_set_self hiσ] at e2;cases e2;exact⟨u,r,.inr ⟨.inl hk,c,hc,hc'⟩⟩
   ·rw[zK (Ne.symm hj)] at e2;obtain⟨u',r',q⟩:=hl j y v' e1 e2 e3;refine⟨u',r',?_⟩;rcases q with q|⟨k,c',e,z'⟩
    ·exact .inl q
    ·refine .inr ⟨k,c',e,z'.sameBut hs ?_⟩;rintro rfl;exact hj (nodup_ix hN e1 (I.ok.inj _ _ _ e hc ▸ hi))
  ·by_cases hcc:c'=c
   ·subst hcc;exact⟨_,hc'⟩
   ·obtain⟨w2,z2⟩:=I.cell y c' e;exact⟨w2,z2.sameBut hs hcc⟩
  ·obtain⟨e,n,ne,nf,d⟩:=I.pin p hp;refine⟨(hs.2 p.1 ?_).trans e,n,ne,nf,d⟩;intro q;rw[q,hoc] at e;have q':oc=p.2:=yA e;exact d w' (by rw[← q'];exact hocd)
theorem store_ok {M:Model}{A:Around}{E:Value→Shared→Prop}{i:Nat}{x:Str}{v:V}{u:Value}{Q:Unit→Shared→Prop}(I:Inv X pins σ H s) (hN:X.N.Nodup) (hi:X.N[i]?=some x) (hx:Loc X.env.scope x) (r:RelV v u)
  (h:∀ s',Inv X pins (σ.set i (some v)) H s'→Q () s') (hf:X.fn x=true∨X.env.scope.names.lookup x=some .local:=by first|exact .inl rfl|exact .inr rfl|assumption):wpAny M A (storeName X.env x u) Q E s:=
 store_ok2 I hN hi hx r (fun s' I' _=>h s' I') hf
theorem Inv.call' {s':Shared}{ch:List Addr}(I:Inv X pins σ H s) (ho:s'.os=s.os) (u:Un (frs X.stack) ch H H' s.heap s'.heap) (hok:HOk X.prog X.w H' s'.heap) (hg:AllBare s'.gens)
  (hch:∀ b∈ch,(b∈X.ex∨X.s₀.heap.objs.size≤b)∧b≠X.env.locals∧(∀ x c,X.env.cells.lookup x=some c→c≠b)∧∀ p∈X.pn++pins,p.1≠b):Inv X pins σ H' s':=by
 obtain⟨h',g',d',t',o'⟩:=s';have e:o'=s.os:=ho;subst e;exact I.call (g':=g') (t':=t') (d':=d') u hok hg hch
end
noncomputable abbrev XK:=Value→Option Addr→Hp→Prop
noncomputable abbrev St:=List (Option V)
noncomputable abbrev VK:=V→Hp→Prop
noncomputable abbrev TE:=St→Hp→VK→Prop
noncomputable abbrev TT:=St→Hp→(Bool→Hp→Prop)→Prop
noncomputable abbrev TA:=St→Hp→(List V→Hp→Prop)→Prop
structure Ends where
 nx:St→Hp→Prop
 rt:VK
 bk:St→Hp→Prop:=fun _ _=>False
 ct:St→Hp→Prop:=fun _ _=>False
noncomputable abbrev TS:=Ends→St→Hp→Prop
noncomputable def EP (X:Cx) (pins:List (Addr×Obj)) (σ:St) (Q:VK) (u:Value) (s':Shared):Prop:=∃ v H',Inv X pins σ H' s'∧RelV v u∧Q v H'
noncomputable def TP (X:Cx) (pins:List (Addr×Obj)) (σ:St) (Q:Bool→Hp→Prop) (b:Bool) (s':Shared):Prop:=∃ H',Inv X pins σ H' s'∧Q b H'
noncomputable def AP (X:Cx) (pins:List (Addr×Obj)) (σ:St) (Q:List V→Hp→Prop) (us:List Value) (s':Shared):Prop:=∃ vs H',Inv X pins σ H' s'∧Vals vs us∧Q vs H'
noncomputable def SP (X:Cx) (pins:List (Addr×Obj)) (D:Ends) (f:Flow) (s':Shared):Prop:=
 match f with
 | .next=>∃ σ' H',Inv X pins σ' H' s'∧D.nx σ' H'
 | .brk=>∃ σ' H',Inv X pins σ' H' s'∧D.bk σ' H'
 | .cont=>∃ σ' H',Inv X pins σ' H' s'∧D.ct σ' H'
 | .ret u=>∃ v σ' H',Inv X pins σ' H' s'∧RelV v u∧D.rt v H'
noncomputable def PE (X:Cx) (e:Expr) (t:TE):Prop:=
 ∀ (pins:List (Addr×Obj)) (s:Shared) (σ:St) (H:Hp) (Q:VK),Inv X pins σ H s→t σ H Q→wpAny (model X.prog X.w) X.A (eval e X.env) (EP X pins σ Q) X.xe s
noncomputable def PT (X:Cx) (e:Expr) (t:TT):Prop:=
 ∀ (pins:List (Addr×Obj)) (s:Shared) (σ:St) (H:Hp) (Q:Bool→Hp→Prop),Inv X pins σ H s→t σ H Q→wpAny (model X.prog X.w) X.A (isTrue e X.env (eval e X.env)) (TP X pins σ Q) X.xe s
noncomputable def PW (X:Cx) (e:Expr) (t:TT):Prop:=
 ∀ (whole:Sem Value) (pins:List (Addr×Obj)) (s:Shared) (σ:St) (H:Hp) (Q:Bool→Hp→Prop),Inv X pins σ H s→t σ H Q→wpAny (model X.prog X.w) X.A (isTrue e X.env whole) (TP X pins σ Q) X.xe s
theorem PW.pt {X:Cx}{e:Expr}{t:TT}(h:PW X e t):PT X e t:=h _
noncomputable def PA (X:Cx) (es:List Expr) (t:TA):Prop:=
 ∀ (pos:Pos) (pins:List (Addr×Obj)) (s:Shared) (σ:St) (H:Hp) (Q:List V→Hp→Prop),Inv X pins σ H s→t σ H Q→wpAny (model X.prog X.w) X.A (spliced (backTo pos (starEach es X.env))) (AP X pins σ Q) X.xe s
noncomputable def PS (X:Cx) (st:Stmt) (t:TS):Prop:=
 ∀ (pins:List (Addr×Obj)) (s:Shared) (σ:St) (H:Hp) (D:Ends),Inv X pins σ H s→t D σ H→wpAny (model X.prog X.w) X.A (exec st X.env) (SP X pins D) X.xe s
noncomputable def PSs (X:Cx) (st:List Stmt) (t:TS):Prop:=
 ∀ (pins:List (Addr×Obj)) (s:Shared) (σ:St) (H:Hp) (D:Ends),Inv X pins σ H s→t D σ H→wpAny (model X.prog X.w) X.A (execs st X.env) (SP X pins D) X.xe s
theorem thn {α:Type}{t:Sem α}{Q Q':α→Shared→Prop}{M:Model}{A:Around}{E:Value→Shared→Prop}{s:Shared}(h:wpAny M A t Q E s) (hQ:∀ a s,Q a s→Q' a s):wpAny M A t Q' E s:=wpAny_mono h hQ fun _ _ x=>x
end L2
namespace L2
open PySem PySem.Spec PyProof.Rows
noncomputable section
variable {X:Cx}
theorem bin {a b:Expr}{ta tb:TE}(ha:PE X a ta) (hb:PE X b tb){pins:List (Addr×Obj)}{s:Shared}{σ:St}{H:Hp}{R:V→V→Hp→Prop}(I:Inv X pins σ H s) (h:ta σ H fun x H1=>tb σ H1 fun y H2=>R x y H2)
  {α:Type}{Q:α→Shared→Prop}{f:Value→Value→Sem α}
  (hf:∀ v u s2 x y H2,Inv X pins σ H2 s2→RelV x v→RelV y u→R x y H2→wpAny (model X.prog X.w) X.A (f v u) Q X.xe s2) :
  wpAny (model X.prog X.w) X.A (eval a X.env) (fun v s₁=>wpAny (model X.prog X.w) X.A (eval b X.env) (fun u s₂=>wpAny (model X.prog X.w) X.A (f v u) Q X.xe s₂) X.xe s₁) X.xe s:=by
 refine thn (ha pins s σ H _ I h) fun v s1 ⟨x,H1,I1,r1,q1⟩ =>?_
 refine thn (hb pins s1 σ H1 _ I1 q1) fun u s2 ⟨y,H2,I2,r2,q2⟩ =>?_
 exact hf v u s2 x y H2 I2 r1 r2 q2
noncomputable def tVar (i:Nat):TE:=fun σ H Q=>∃ v,σ[i]?=some (some v)∧Q v H
noncomputable def tC (v:V):TE:=fun _ H Q=>Q v H
theorem pe_var {i:Nat}{x:Str}{pos:Pos}(hN:X.N[i]?=some x) (hv:Vis X.env.scope x) (hd:(x==("__debug__" : Str))=false:=by decide) (hcd:(x==("__classdict__" : Str))=false:=by decide):PE X (.Name x pos) (tVar i):=by
 intro pins s σ H Q I h;obtain⟨v,e,h⟩:=h;obtain⟨m,hn,hl⟩:=I.loc;obtain⟨u,r,l⟩:=hl i x v hN e hv;have fin:EP X pins σ Q u s:=⟨v,H,I,r,h⟩;rcases l with ⟨hk,hm⟩|⟨hk,c,hc,hcell⟩
 ·exact wpAny_Name (wpAny_loadName_local I.ok.kind hk hn hm fin) hd
 ·rcases hk with hk|hk
  ·exact wpAny_Name (wpAny_loadName_cell I.ok.kind hk hc hcell fin) hd
  ·exact wpAny_Name (wpAny_loadName_free I.ok.kind hk hc hcell fin hcd) hd
theorem pe_int {i j pos}:PE X (.Constant (.int i) j pos) (tC (.int i)):=fun _ _ _ H _ I h=>wpAny_Constant_int ⟨.int i,H,I.tok _,⟨_,rfl⟩,h⟩
theorem pe_bl {b j pos}:PE X (.Constant (.bool b) j pos) (tC (.bl b)):=fun _ _ _ H _ I h=>Constant_bool ⟨.bl b,H,I,rfl,h⟩
theorem pe_str {x j pos}:PE X (.Constant (.str x) j pos) (tC (.str x)):=fun _ _ _ H _ I h=>Calls.Constant_str ⟨.str x,H,I.tok _,⟨_,rfl⟩,h⟩
noncomputable def Gl (X:Cx) (x:Str):Prop:=X.env.kindOf x=some .globalImplicit
theorem ld_glob {E:Value→Shared→Prop}{pins:List (Addr×Obj)}{s:Shared}{σ:St}{H:Hp}{x:Str}{u:Value}{pos:Pos}{Q:Value→Shared→Prop}(I:Inv X pins σ H s) (hg:Gl X x) (hm:X.mg x=some u) (h:Q u s)
  (hd:(x==("__debug__" : Str))=false:=by decide):wpAny (model X.prog X.w) X.A (eval (.Name x pos) X.env) Q E s:=
 Calls.Name_function_global I.ok.kind hg (Calls.loadGlobal_global (by rw[I.ok.glob];exact I.mod.glob.keeps I.bk) hm h) hd
theorem ld_blt {E:Value→Shared→Prop}{pins:List (Addr×Obj)}{s:Shared}{σ:St}{H:Hp}{x:Str}{u:Value}{pos:Pos}{Q:Value→Shared→Prop}(I:Inv X pins σ H s) (hg:Gl X x) (hm:X.mg x=none) (hv:bootBuiltins x=some u) (h:Q u s)
  (hn:x ≠ "__name__" :=by decide) (hd:(x==("__debug__" : Str))=false:=by decide):wpAny (model X.prog X.w) X.A (eval (.Name x pos) X.env) Q E s:=by
 obtain⟨mb,h1,h2⟩:=I.mod.blt;exact Calls.Name_function_global I.ok.kind hg (Calls.loadGlobal_builtin (by rw[I.ok.glob];exact I.mod.glob.keeps I.bk) hm (by rw[I.ok.blt];exact h1.keeps I.bk) ((h2 x hn).trans hv) h) hd
theorem pe_glob {x:Str}{v:V}{u:Value}{pos:Pos}(hg:Gl X x) (hm:X.mg x=some u) (r:RelV v u) (hd:(x==("__debug__" : Str))=false:=by decide):PE X (.Name x pos) (tC v):=
 fun _ _ _ H _ I h=>ld_glob I hg hm ⟨v,H,I,r,h⟩ hd
theorem pe_bltn {x:Str}{v:V}{u:Value}{pos:Pos}(hg:Gl X x) (hm:X.mg x=none) (hv:bootBuiltins x=some u) (r:RelV v u) (hn:x ≠ "__name__" :=by decide) (hd:(x==("__debug__" : Str))=false:=by decide):PE X (.Name x pos) (tC v):=
 fun _ _ _ H _ I h=>ld_blt I hg hm hv ⟨v,H,I,r,h⟩ hn hd
variable {a b:Expr}{ta tb:TE}{pos:Pos}
noncomputable def PC (X:Cx) (op:CmpOp) (a b:Expr) (t:TE):Prop:=
 ∀ (pins:List (Addr×Obj)) (s:Shared) (σ:St) (H:Hp) (Q:VK),Inv X pins σ H s→t σ H Q →
  wpAny (model X.prog X.w) X.A (eval a X.env) (fun v s₁=>wpAny (model X.prog X.w) X.A (eval b X.env) (fun u s₂=>wpAny (model X.prog X.w) X.A (compareOp op v u) (EP X pins σ Q) X.xe s₂) X.xe s₁) X.xe s
theorem nobehind (b:Expr){op:CmpOp}(h:op ≠ .In) (h2:op ≠ .NotIn):behindInMarks op b=false:=by
 have e1:(op==CmpOp.In)=false:=by cases op<;>first|rfl|exact absurd rfl h
 have e2:(op==CmpOp.NotIn)=false:=by cases op<;>first|rfl|exact absurd rfl h2
 cases b<;>simp[behindInMarks,e1,e2]
noncomputable def tB (t:TE):TT:=fun σ H Q=>t σ H fun x H1=>∃ c,x=.bl c∧Q c H1
theorem pt_cmp {op:CmpOp}{t:TE}(h:PC X op a b t) (h1:behindInMarks op b=false:=by first|exact nobehind _ (by decide) (by decide)|rfl):PT X (.Compare a [op] [b] pos) (tB t):=by
 intro pins s σ H Q I hw;refine wpAny_isTrue_Compare1 (thn (h pins s σ H _ I hw) fun v s1 h1=>thn h1 fun u s2 h2=>thn h2 fun c s3 ⟨x,H1,I1,r1,q1⟩ =>?_) h1
 obtain⟨d,rfl,q⟩:=q1;cases r1;exact wpAny_truthy_bool ⟨H1,I1,q⟩
variable {tA tB':TT}{rest:List Expr}
noncomputable def tOr (t u:TT):TT:=fun σ H Q=>t σ H fun c H1=>if c=true then Q true H1 else u σ H1 Q
noncomputable def tNot (t:TT):TT:=fun σ H Q=>t σ H fun c H1=>Q (!c) H1
theorem pw_or1 (ha:PT X a tA):PW X (.BoolOp .Or [a] pos) tA:=by
 intro wh pins s σ H Q I h;refine isTrue_or (thn (ha pins s σ H Q I h) fun c s1 e =>?_)
 cases c with
 | false=>exact isTrue_or_nil e
 | true=>exact e
theorem pw_or (ha:PT X a tA) (hb:PW X (.BoolOp .Or (b::rest) pos) tB'):PW X (.BoolOp .Or (a::b::rest) pos) (tOr tA tB'):=by
 intro wh pins s σ H Q I h;refine isTrue_or (thn (ha pins s σ H _ I h) fun c s1 ⟨H1,I1,q1⟩ =>?_)
 cases c with
 | true=>exact⟨H1,I1,q1⟩
 | false=>exact hb wh pins s1 σ H1 Q I1 q1
theorem pt_not (ha:PT X a tA):PT X (.UnaryOp .Not a pos) (tNot tA):=by
 intro pins s σ H Q I h;exact isTrue_not (ha pins s σ H (fun c H1=>Q (!c) H1) I h)
noncomputable def tAndV (ta tb:TE):TE:=fun σ H Q=>ta σ H fun x H1=>∃ c,x=.bl c∧if c=true then tb σ H1 Q else Q (.bl false) H1
noncomputable def tNotV (ta:TE):TE:=fun σ H Q=>ta σ H fun x H1=>∃ c,x=.bl c∧Q (.bl (!c)) H1
theorem pe_one {op} {t:TE}(h:PE X a t):PE X (.BoolOp op [a] pos) t:=fun pins s σ H Q I hw=>BoolOp_one (h pins s σ H Q I hw)
theorem pe_and (ha:PE X a ta) (hb:PE X (.BoolOp .And (b::rest) pos) tb):PE X (.BoolOp .And (a::b::rest) pos) (tAndV ta tb):=by
 intro pins s σ H Q I h;refine BoolOp_and (thn (ha pins s σ H _ I h) fun v s1 ⟨x,H1,I1,r1,q1⟩ =>?_)
 obtain⟨c,rfl,q1⟩:=q1;cases r1;refine wpAny_truthy_bool ?_;cases c with
 | true=>exact hb pins s1 σ H1 Q I1 q1
 | false=>exact⟨.bl false,H1,I1,rfl,q1⟩
theorem pe_not (ha:PE X a ta):PE X (.UnaryOp .Not a pos) (tNotV ta):=by
 intro pins s σ H Q I h;refine UnaryOp_ (thn (ha pins s σ H _ I h) fun v s1 ⟨x,H1,I1,r1,q1⟩ =>?_)
 obtain⟨c,rfl,q1⟩:=q1;cases r1;exact not_of (wpAny_truthy_bool ⟨.bl (!c),H1,I1,rfl,q1⟩)
noncomputable def tIf (t:TT) (ta tb:TE):TE:=fun σ H Q=>t σ H fun c H1=>if c=true then ta σ H1 Q else tb σ H1 Q
theorem pe_ifExp {c:Expr}(hc:PT X c tA) (ha:PE X a ta) (hb:PE X b tb):PE X (.IfExp c a b pos) (tIf tA ta tb):=by
 intro pins s σ H Q I h;refine wpAny_IfExp (thn (hc pins s σ H _ I h) fun d s1 ⟨H1,I1,q1⟩ =>?_)
 cases d with
 | true=>exact ha pins s1 σ H1 Q I1 q1
 | false=>exact hb pins s1 σ H1 Q I1 q1
end
end L2
namespace L2
open PySem PySem.Spec PyProof.Rows
noncomputable def SqL (K:Frag) (H:Hp) (a:Addr) (xs:List V):Prop:=
 Rd H a (.lst xs) ∨
  ∃ (o:Obj) (its:Array Value) (n:Nat),K.lookup a=some o∧o.cls=.type "list" ∧o.dict=none∧o.data=.seq its n∧its.size≤sizeLine∧Vals xs its.toList
noncomputable def SqT (K:Frag) (H:Hp) (a:Addr) (xs:List V):Prop:=
 Rd H a (.tup xs) ∨
  ∃ (o:Obj) (its:Array Value) (n:Nat),K.lookup a=some o∧o.cls=.type "tuple" ∧o.data=.seq its n∧its.size≤sizeLine∧Vals xs its.toList
noncomputable def absV:Value→Option V
 | .none=>some .non
 | .bool b=>some (.bl b)
 | .int i _=>some (.int i)
 | .str x _=>some (.str x)
 | .bytes b _=>some (.byt b)
 | .float b _=>some (.flt b)
 | .ref a=>some (.ref a)
 | .type n=>some (.ty n)
 | _=>none
theorem RelV.abs {x:V}{u:Value}(r:RelV x u):absV u=some x:=by
 cases x with
 | non=>cases r;rfl
 | bl _=>cases r;rfl
 | int _=>obtain⟨t,rfl⟩:=r;rfl
 | str _=>obtain⟨t,rfl⟩:=r;rfl
 | byt _=>obtain⟨t,rfl⟩:=r;rfl
 | flt _=>obtain⟨t,rfl⟩:=r;rfl
 | ref _=>cases r;rfl
 | ty _=>cases r;rfl
theorem RelV.inj {x y:V}{u:Value}(r:RelV x u) (q:RelV y u):x=y:=yA (r.abs.symm.trans q.abs)
theorem Vals.inj:∀ {xs ys:List V}{us:List Value},Vals xs us→Vals ys us→xs=ys
 | _,_,_,.nil,.nil=>rfl
 | _,_,_,.cons r t,.cons r' t'=>by rw[r.inj r',Vals.inj t t']
noncomputable section
variable {X:Cx}{pins:List (Addr×Obj)}{σ:St}{H:Hp}{s:Shared}{a:Addr}{xs ys:List V}
theorem SqL.of {K:Frag}(h:H a=some (.lst xs)):SqL K H a xs :=.inl (.inl h)
theorem SqT.of {K:Frag}(h:H a=some (.tup xs)):SqT K H a xs :=.inl (.inl h)
theorem Inv.list (I:Inv X pins σ H s) (h:SqL X.K H a xs):∃ its:List Value,Vals xs its∧PlainL s.heap a its.toArray∧xs.length≤sizeLine:=by
 rcases h with h|⟨o,its,n,hk,hc,hd,hs,hz,r⟩
 ·obtain⟨z,its,n,r,e⟩:=h.ok I.hok;exact⟨its,r,⟨_,n,e,rfl,rfl,rfl⟩,z⟩
 ·refine⟨its.toList,r,⟨o,n,I.kIn a o hk,hc,hd,by simpa using hs⟩,?_⟩
  have e:=r.length;simp only[Array.length_toList] at e;omega
theorem Inv.tuple (I:Inv X pins σ H s) (h:SqT X.K H a xs):∃ its:List Value,Vals xs its∧IsTup s.heap a its.toArray∧xs.length≤sizeLine:=by
 rcases h with h|⟨o,its,n,hk,hc,hs,hz,r⟩
 ·obtain⟨z,its,r,p⟩:=h.ok I.hok;exact⟨its,r,p,z⟩
 ·refine⟨its.toList,r,⟨o,I.kIn a o hk,hc,n,by simpa using hs⟩,?_⟩
  have e:=r.length;simp only[Array.length_toList] at e;omega
theorem Inv.list_inj (I:Inv X pins σ H s) (h:SqL X.K H a xs) (h':SqL X.K H a ys):xs=ys:=by
 obtain⟨its,r,⟨o,n,e,_,_,d⟩,_⟩:=I.list h;obtain⟨its',r',⟨o',n',e',_,_,d'⟩,_⟩:=I.list h';rw[e] at e';cases e';rw[d] at d';injection d' with d1 _;have:its=its':=by simpa using congrArg Array.toList d1
 subst this;exact r.inj r'
end
noncomputable abbrev Cx.wish (X:Cx) (E:Value→Shared→Prop):Cx:={ X with xe:=E }
noncomputable abbrev Cx.nox (X:Cx):Cx:=X.wish fun _ _=>False
theorem Cx.Ok.wish {X:Cx}(ok:X.Ok) (E:Value→Shared→Prop):(X.wish E).Ok:=
 ⟨ok.mod,ok.kind,ok.glob,ok.blt,ok.above,ok.inj,ok.has,ok.cab,ok.hd,ok.frames,ok.stk,ok.exf,ok.bs,ok.bsz,ok.noex,ok.exfs,ok.funs,ok.frf⟩
theorem Cx.Ok.unwish {X:Cx}{E:Value→Shared→Prop}(ok:(X.wish E).Ok):X.Ok:=
 ⟨ok.mod,ok.kind,ok.glob,ok.blt,ok.above,ok.inj,ok.has,ok.cab,ok.hd,ok.frames,ok.stk,ok.exf,ok.bs,ok.bsz,ok.noex,ok.exfs,ok.funs,ok.frf⟩
noncomputable section
variable {X:Cx}{pins:List (Addr×Obj)}{σ:St}{H:Hp}{s:Shared}{E:Value→Shared→Prop}
theorem Inv.wish (I:Inv X pins σ H s) (E:Value→Shared→Prop):Inv (X.wish E) pins σ H s:=⟨I.ok.wish E,I.os,I.bare,I.base,I.loc,I.cell,I.free,I.freeC,I.pin,I.hok,I.len⟩
theorem Inv.unwish (I:Inv (X.wish E) pins σ H s):Inv X pins σ H s:=⟨I.ok.unwish,I.os,I.bare,I.base,I.loc,I.cell,I.free,I.freeC,I.pin,I.hok,I.len⟩
theorem SP.unwish {D:Ends}{f:Flow}{s':Shared}(h:SP (X.wish E) pins D f s'):SP X pins D f s':=by
 cases f with
 | next=>obtain⟨σ',H',I,q⟩:=h;exact⟨σ',H',I.unwish,q⟩
 | brk=>obtain⟨σ',H',I,q⟩:=h;exact⟨σ',H',I.unwish,q⟩
 | cont=>obtain⟨σ',H',I,q⟩:=h;exact⟨σ',H',I.unwish,q⟩
 | ret u=>obtain⟨v,σ',H',I,r,q⟩:=h;exact⟨v,σ',H',I.unwish,r,q⟩
theorem PSs.nox {st:List Stmt}{t:TS}(h:PSs X.nox st t):PSs X st t:=fun pins s σ H D I hw=>
 wpAny_mono (h pins s σ H D (I.wish _) hw) (fun _ _ q=>q.unwish) fun _ _ z=>False.elim z
end
noncomputable section
variable {X:Cx}{st:Stmt}{rest:List Stmt}{t u:TS}{e:Expr}{te:TE}{pos:Pos}
noncomputable def tNext:TS:=fun D σ H=>D.nx σ H
noncomputable def tSeq (t u:TS):TS:=fun D σ H=>t { D with nx:=u D } σ H
theorem pss_nil:PSs X [] tNext:=fun _ _ σ H _ I h=>wpAny_execs_nil ⟨σ,H,I,h⟩
theorem pss_cons (h1:PS X st t) (h2:PSs X rest u):PSs X (st::rest) (tSeq t u):=by
 intro pins s σ H D I h;refine wpAny_execs_cons (thn (h1 pins s σ H { D with nx:=u D } I h) fun f s1 q =>?_)
 cases f with
 | next=>obtain⟨σ',H',I',q⟩:=q;exact h2 pins s1 σ' H' D I' q
 | ret v=>exact q
 | brk=>exact q
 | cont=>exact q
theorem pss_one (h1:PS X st t):PSs X [st] t:=by
 intro pins s σ H D I h;refine wpAny_execs_cons (thn (h1 pins s σ H D I h) fun f s1 q =>?_)
 cases f with
 | next=>exact wpAny_execs_nil q
 | ret v=>exact q
 | brk=>exact q
 | cont=>exact q
theorem Inv.quiet {pins:List (Addr×Obj)}{σ:St}{H:Hp}{s:Shared}(I:Inv X pins σ H s):interactive X.env=false:=by simp[interactive,I.ok.kind]
noncomputable def tDrop (te:TE):TS:=fun D σ H=>te σ H fun _ H1=>D.nx σ H1
theorem ps_expr (he:PE X e te) (hs:swapsWith e none pos.line X.env=pure false:=by rfl):PS X (.Expr e pos) (tDrop te):=by
 intro pins s σ H D I h;exact wpAny_Expr_any (thn (he pins s σ H _ I h) fun v s1 ⟨x,H1,I1,r1,q1⟩=>⟨σ,H1,I1,q1⟩) I.quiet hs
noncomputable def tRet (te:TE):TS:=fun D σ H=>te σ H D.rt
theorem ps_ret (he:PE X e te):PS X (.Return (some e) pos) (tRet te):=by
 intro pins s σ H D I h;exact wpAny_Return_some (thn (he pins s σ H _ I h) fun v s1 ⟨x,H1,I1,r1,q1⟩=>⟨x,σ,H1,I1,r1,q1⟩)
noncomputable def tIfS (c:TT) (t u:TS):TS:=fun D σ H=>c σ H fun b H1=>if b=true then t D σ H1 else u D σ H1
theorem ps_if {c:Expr}{a b:List Stmt}{tc:TT}(hc:PT X c tc) (ha:PSs X a t) (hb:PSs X b u):PS X (.If c a b pos) (tIfS tc t u):=by
 intro pins s σ H D I h;refine wpAny_If (thn (hc pins s σ H _ I h) fun d s1 ⟨H1,I1,q1⟩ =>?_)
 cases d with
 | true=>exact ha pins s1 σ H1 D I1 q1
 | false=>exact hb pins s1 σ H1 D I1 q1
noncomputable def tNever:TS:=fun _ _ _=>False
theorem ps_never:PS X st tNever:=fun _ _ _ _ _ _ h=>h.elim
end
noncomputable abbrev TG:=V→St→Hp→(St→Hp→Prop)→Prop
noncomputable abbrev TGs:=List V→St→Hp→(St→Hp→Prop)→Prop
noncomputable def PG (X:Cx) (target:Expr) (t:TG):Prop:=
 ∀ (pins:List (Addr×Obj)) (s:Shared) (σ:St) (H:Hp) (v:V) (u:Value) (Q:St→Hp→Prop),Inv X pins σ H s→RelV v u→t v σ H Q →
  wpAny (model X.prog X.w) X.A (assign target X.env u) (fun _ s'=>∃ σ' H',Inv X pins σ' H' s'∧Q σ' H') X.xe s
noncomputable def PGs (X:Cx) (ts:List Expr) (t:TGs):Prop:=
 ∀ (pins:List (Addr×Obj)) (s:Shared) (σ:St) (H:Hp) (vs:List V) (us:List Value) (Q:St→Hp→Prop),Inv X pins σ H s→Vals vs us→t vs σ H Q →
  wpAny (model X.prog X.w) X.A (assignInOrder ((assignEach ts X.env).map (·.2)) us) (fun _ s'=>∃ σ' H',Inv X pins σ' H' s'∧Q σ' H') X.xe s
noncomputable abbrev TSet:=V→V→V→Hp→(Hp→Prop)→Prop
noncomputable def PSet (X:Cx) (t:TSet):Prop:=
 ∀ (pins:List (Addr×Obj)) (s:Shared) (σ:St) (H:Hp) (o i v:V) (ov iv u:Value) (Q:Hp→Prop),Inv X pins σ H s→RelV o ov→RelV i iv→RelV v u→t o i v H Q →
  wpAny (model X.prog X.w) X.A (setItem ov iv u) (fun _ s'=>∃ H',Inv X pins σ H' s'∧Q H') X.xe s
noncomputable section
variable {X:Cx}{pos:Pos}
noncomputable def gName (i:Nat):TG:=fun v σ H Q=>Q (σ.set i (some v)) H
theorem pg_name {i:Nat}{x:Str}(hN:X.N.Nodup) (hi:X.N[i]?=some x) (hx:Loc X.env.scope x) (hf:X.fn x=true∨X.env.scope.names.lookup x=some .local:=by first|exact .inl rfl|exact .inr rfl|assumption):PG X (.Name x pos) (gName i):=by
 intro pins s σ H v u Q I r h;exact wpAny_assign_Name (store_ok I hN hi hx r (fun s' I'=>⟨_,H,I',h⟩) hf)
noncomputable def gNil:TGs:=fun vs σ H Q=>vs=[]∧Q σ H
noncomputable def gCons (t:TG) (u:TGs):TGs:=fun vs σ H Q=>∃ v r,vs=v::r∧t v σ H fun σ' H'=>u r σ' H' Q
theorem pgs_nil:PGs X [] gNil:=by
 intro pins s σ H vs us Q I r h;obtain⟨e,h⟩:=h;subst e;cases r;exact assignInOrder_nil ⟨σ,H,I,h⟩
theorem pgs_cons {e:Expr}{es:List Expr}{t:TG}{u:TGs}(h1:PG X e t) (h2:PGs X es u)
  (hs:(assignEach (e::es) X.env).map (·.2)=assign e X.env::(assignEach es X.env).map (·.2):=by rfl):PGs X (e::es) (gCons t u):=by
 intro pins s σ H vs us Q I r h;obtain⟨v,vr,e1,h⟩:=h;subst e1;cases r with
 | cons r rr=>
  rw[hs];refine assignInOrder_cons (thn (h1 pins s σ H _ _ _ I r h) fun _ s1 ⟨σ1,H1,I1,q1⟩ =>?_)
  exact h2 pins s1 σ1 H1 _ _ Q I1 rr q1
noncomputable def gTup (K:Frag) (n:Nat) (t:TGs):TG:=fun v σ H Q=>∃ a xs,v=.ref a∧SqT K H a xs∧xs.length=n∧t xs σ H Q
theorem pg_tup {es:List Expr}{k:Nat}{t:TGs}{n:Nat}(hc:X.calm=true) (h:PGs X es t)
  (hn:(assignEach es X.env).length=n:=by rfl) (hst:(assignEach es X.env).findIdx? (·.1)=none:=by rfl):PG X (.Tuple es k pos) (gTup X.K n t):=by
 intro pins s σ H v u Q I r hw;obtain⟨a,xs,e1,hq,hl,hw⟩:=hw;subst e1;cases r;obtain⟨its,rv,ht,hz⟩:=I.tuple hq;refine assign_Tuple_tuple (I.ok.hd hc) ht (by simp[hn,← hl,rv.length]) hst fun h' hx =>?_
 have I1:Inv X pins σ H { s with heap:=h' }:=I.kept (t':=s.toks) fun b o e=>hx b o (zR (zJ e)) e
 exact h pins _ σ H xs _ Q I1 (by simpa using rv) hw
noncomputable def gSub (to ti:TE) (t:TSet):TG:=fun v σ H Q=>to σ H fun o H1=>ti σ H1 fun i H2=>t o i v H2 fun H3=>Q σ H3
theorem pg_sub {o i:Expr}{to ti:TE}{t:TSet}(ho:PE X o to) (hi:PE X i ti) (hs:PSet X t)
  (ha:∀ v,assign (.Subscript o i pos) X.env v=(do
   let ov ← holding [v] (eval o X.env)
   let iv ← holding [v,ov] (eval i X.env)
   standAt pos
   holding [v,ov,iv] (setItem ov iv v)
   release [v,ov,iv] []):=by intro _;rfl):PG X (.Subscript o i pos) (gSub to ti t):=by
 intro pins s σ H v u Q I r h;rw[ha];refine zE (wpAny_holding (thn (ho pins s σ H _ I h) fun ov s1 ⟨x,H1,I1,r1,q1⟩ =>?_))
 refine zE (wpAny_holding (thn (hi pins s1 σ H1 _ I1 q1) fun iv s2 ⟨y,H2,I2,r2,q2⟩ =>?_))
 refine zE (wpAny_standAt (zE (wpAny_holding (thn (hs pins s2 σ H2 x y v ov iv u _ I2 r1 r2 r q2) fun _ s3 ⟨H3,I3,q3⟩ =>?_))))
 exact wpAny_release ⟨σ,H3,I3,q3⟩
noncomputable def tAsg (te:TE) (g:TG):TS:=fun D σ H=>te σ H fun x H1=>g x σ H1 D.nx
theorem ps_asg {tg e:Expr}{te:TE}{g:TG}(he:PE X e te) (hg:PG X tg g) (hs:swapsWithSole [tg] e pos.line X.env=pure false:=by rfl) (hw:swappedStores [tg] e X.env=pure none:=by rfl)
  (h1:(assignEach [tg] X.env).map (·.2)=[assign tg X.env]:=by rfl):PS X (.Assign [tg] e pos) (tAsg te g):=by
 intro pins s σ H D I h;refine wpAny_Assign_stores (thn (he pins s σ H _ I h) fun v s1 ⟨x,H1,I1,r1,q1⟩ =>?_) hs hw
 rw[h1];exact thn (hg pins s1 σ H1 x v _ I1 r1 q1) fun _ s2 q=>q
theorem ps_set {i:Nat}{x:Str}{e:Expr}{te:TE}{pos':Pos}(hN:X.N.Nodup) (hi:X.N[i]?=some x) (hx:Loc X.env.scope x) (he:PE X e te) (hs:swapsWith e (some (.Name x pos')) pos.line X.env=pure false:=by rfl) (hf:X.fn x=true∨X.env.scope.names.lookup x=some .local:=by first|exact .inl rfl|exact .inr rfl|assumption) :
  PS X (.Assign [.Name x pos'] e pos) (tAsg te (gName i)):=by
 intro pins s σ H D I h;refine wpAny_Assign_Name (thn (he pins s σ H _ I h) fun v s1 ⟨y,H1,I1,r1,q1⟩ =>?_) hs
 exact store_ok I1 hN hi hx r1 (fun s2 I2=>⟨_,H1,I2,q1⟩) hf
end
noncomputable section
variable {X:Cx}{pos:Pos}
noncomputable def tWhile (c:TT) (tb:TS):TS:=fun D σ H=>∃ W:Nat→St→Hp→Prop,(∃ m,W m σ H)∧∀ m σ H,W m σ H →
 c σ H fun b H1=>if b=true then ∃ N:St→Hp→Prop,(∀ σ' H',N σ' H'→∃ m',m'<m∧W m' σ' H')∧tb { D with nx:=N,ct:=N,bk:=D.nx } σ H1 else D.nx σ H1
theorem ps_while {c:Expr}{body:List Stmt}{tc:TT}{tb:TS}(hp:PassesOwn (model X.prog X.w) X.A X.env X.xe) (hc:PT X c tc) (hb:PSs X body tb):PS X (.While c body [] pos) (tWhile tc tb):=by
 intro pins s σ H D I h;obtain⟨W,⟨m0,w0⟩,turn⟩:=h;refine wpAny_While (codeAny_whileLoop (fun n s'=>∃ σ' H',Inv X pins σ' H' s'∧W n σ' H') ?_ m0 ⟨σ,H,I,w0⟩)
 rintro n s1 ⟨σ1,H1,I1,w1⟩;refine wpAny_passesOwn hp (thn (hc pins s1 σ1 H1 _ I1 (turn n σ1 H1 w1)) fun b s2 ⟨H2,I2,q2⟩ =>?_)
 cases b with
 | true=>
  obtain⟨N,hN,q2⟩:=q2;rw[if_pos rfl];refine wpAny_passesOwn hp (thn (hb pins s2 σ1 H2 _ I2 q2) fun f s3 q3 =>?_)
  cases f with
  | next=>obtain⟨σ3,H3,I3,n3⟩:=q3;obtain⟨m',hm,w3⟩:=hN σ3 H3 n3;exact⟨m',hm,σ3,H3,I3,w3⟩
  | cont=>obtain⟨σ3,H3,I3,n3⟩:=q3;obtain⟨m',hm,w3⟩:=hN σ3 H3 n3;exact⟨m',hm,σ3,H3,I3,w3⟩
  | brk=>exact q3
  | ret v=>exact q3
 | false=>rw[if_neg zZ];exact wpAny_execs_nil ⟨σ1,H2,I2,q2⟩
end
structure It where
 go:Nat→Hp→Prop
 yld:Nat→Hp→V→Hp→Prop
 stop:Nat→Hp→Prop
noncomputable def FpOk (X:Cx) (pins:List (Addr×Obj)) (H:Hp) (b:Addr):Prop:=
 H b=none∧b≠X.env.locals∧b∉X.fs∧(b∈X.ex∨X.s₀.heap.objs.size≤b)∧(∀ x c,X.env.cells.lookup x=some c→c≠b)∧∀ p∈X.pn++pins,p.1≠b
theorem Inv.fpOk {X:Cx}{pins:List (Addr×Obj)}{σ:St}{H H':Hp}{s:Shared}{b:Addr}(I:Inv X pins σ H s) (hb:s.heap.objs.size≤b) (hn:H' b=none):FpOk X pins H' b:=by
 refine⟨hn,Nat.ne_of_gt (zS I.lt hb),I.nofs hb,.inr (yB I.sz hb),fun x c e z =>?_,fun p hp z =>?_⟩
 ·obtain⟨v,q⟩:=I.cell x c e;exact absurd (zS q.lt (by rw[z];exact hb)) (yE _)
 ·exact absurd (zS (zJ (I.pin p hp).1) (by rw[z];exact hb)) (yE _)
structure Turn (P:Program) (w:World) (K:Frag) (tg:Expr) (J:It) (fp:List Addr) (it:Addr) (tn:Nat→Heap→Prop):Prop where
 mem:it∈fp
 obj:∀ i h,tn i h→∀ b∈fp,∃ o,h.get? b=some o∧∀ v,o.data ≠ .cell v
 keep:∀ i h h',tn i h→(∀ b∈fp,∀ o,h.get? b=some o→h'.get? b=some o)→tn i h'
 item:∀ (X:Cx),X.prog=P→X.w=w→X.K=K→X.calm=true→∀ (i:Nat) (pins:List (Addr×Obj)) (s:Shared) (σ:St) (H:Hp) (E:Value→Shared→Prop),Inv X pins σ H s→(∀ b∈fp,FpOk X pins H b)→tn i s.heap→J.go i H →
  wpAny (model P w) X.A (pyNext (.ref it)) (fun r s1=>∃ u,r=some u ∧
   wpAny (model P w) X.A (letOwnedTupleGo tg (.ref it) u) (fun _ s2=>∃ x H',Inv X pins σ H' s2∧RelV x u∧J.yld i H x H'∧tn (i+1) s2.heap∧∀ b∈fp,H' b=none) E s1) E s
 done:∀ (X:Cx),X.prog=P→X.w=w→X.K=K→X.calm=true→∀ (i:Nat) (pins:List (Addr×Obj)) (s:Shared) (σ:St) (H:Hp) (E:Value→Shared→Prop),Inv X pins σ H s→(∀ b∈fp,FpOk X pins H b)→tn i s.heap→J.stop i H →
  wpAny (model P w) X.A (pyNext (.ref it)) (fun r s1=>r=none∧Inv X pins σ H s1) E s
 self:∀ (A:Around) (i:Nat) (s:Shared) (Q:Value→Shared→Prop) (E:Value→Shared→Prop),tn i s.heap→Q (.ref it) s→wpAny (model P w) A (pyIter (.ref it)) Q E s
noncomputable abbrev TI:=St→Hp→(It→Hp→Prop)→Prop
noncomputable def PIE (X:Cx) (pins:List (Addr×Obj)) (σ:St) (tg:Expr) (R:It→Hp→Prop) (itv:Value) (s2:Shared):Prop:=
 ∃ (it:Addr) (fp:List Addr) (tn:Nat→Heap→Prop) (J:It) (H':Hp),itv=.ref it∧Inv X pins σ H' s2∧Turn X.prog X.w X.K tg J fp it tn∧tn 0 s2.heap∧(∀ b∈fp,FpOk X pins H' b)∧R J H'
noncomputable def PI (X:Cx) (tg iter:Expr) (wi:TI):Prop:=
 ∀ (pins:List (Addr×Obj)) (s:Shared) (σ:St) (H:Hp) (R:It→Hp→Prop),Inv X pins σ H s→wi σ H R →
  wpAny (model X.prog X.w) X.A (eval iter X.env) (fun v s1=>wpAny (model X.prog X.w) X.A (pyIter v) (PIE X pins σ tg R) X.xe s1) X.xe s
theorem go_of {M : Model} {A : Around} {E : Value → Shared → Prop} {s : Shared} {tg : Expr} {it : Addr} {u : Value} {o : Obj} {n : String} {vs : Array Value} {Q : Unit → Shared → Prop} (ho : s.heap.get? it = some o) (hc : o.cls = .type n) (hd : o.data = .fields vs)
    (hn : ["enumerate", "zip", "dict_itemiterator", "dict_reverseitemiterator", "odict_iterator", "itertools.zip_longest", "itertools.pairwise"].contains n = false) (hQ : Q () s) : wpAny M A (letOwnedTupleGo tg (.ref it) u) Q E s := by
  unfold letOwnedTupleGo
  cases tg <;> first
    | exact wpAny_pure hQ
    | (cases u <;> first
        | exact wpAny_pure hQ
        | (refine wpAny_bind (wpAny_load ho ?_)
           rw [hc, hd]
           show wpAny M A (if (["enumerate", "zip", "dict_itemiterator", "dict_reverseitemiterator", "odict_iterator", "itertools.zip_longest", "itertools.pairwise"].contains n && vs[0]? == some (rawInt _)) = true then _ else _) Q E s
           rw [if_neg (by intro h; rw [hn, Bool.false_and] at h; cases h)]
           exact wpAny_pure hQ))
noncomputable def Itl (K:Frag) (a:Addr):It:=
 ⟨fun i H=>∃ xs x,SqL K H a xs∧xs[i]?=some x,fun i H x H'=>H'=H∧∀ xs,SqL K H a xs→xs[i]?=some x,fun i H=>∃ xs,SqL K H a xs∧xs.length≤i⟩
noncomputable def Itr (lo:Int) (n:Nat):It:=⟨fun i _=>i<n,fun i H x H'=>H'=H∧x=.int (lo+i),fun i _=>n≤i⟩
theorem turn_list {P:Program}{w:World}{K:Frag}{tg:Expr}(a it:Addr):Turn P w K tg (Itl K a) [it] it (fun i h=>h.IsListIter it a i) where
 mem:=by simp
 obj:=fun i h st b hb=>by
  have e:b=it:=by simpa using hb
  subst e;obtain⟨o,e,c,d⟩:=st;exact⟨o,e,fun v z=>by rw[d] at z;cases z⟩
 keep:=fun i h h' st k=>st.at fun o e=>k it (by simp) o e
 item:=by
  intro X hP hw hK hc i pins s σ H E I hf st hg;subst hP hw hK;obtain⟨xs,x,hq,hx⟩:=hg;obtain⟨its,rv,p,hz⟩:=I.list hq;obtain⟨u,hu,ru⟩:=rv.get hx;obtain⟨f0,f1,f2,f3,f4,f5⟩:=hf it (by simp)
  refine wpAny_pyNext_list_item st p.isList (x:=u) (by simpa using hu) fun h' st' sb =>?_
  have I1:Inv X pins σ H { s with heap:=h' }:=I.turned (t':=s.toks) (fun b o hb e=>(sb.2 b hb).trans e) f0 f1 f3 f4 f5
  obtain⟨o,e,c,d⟩:=id st';exact⟨u,rfl,go_of (s:={ s with heap:=h' }) e c d (by decide) ⟨x,H,I1,ru,⟨rfl,fun ys hy=>by rw[I.list_inj hy hq];exact hx⟩,st',fun b hb=>(hf b hb).1⟩⟩
 done:=by
  intro X hP hw hK hc i pins s σ H E I hf st hg;subst hP hw hK;obtain⟨xs,hq,hx⟩:=hg;obtain⟨its,rv,p,hz⟩:=I.list hq;obtain⟨f0,f1,f2,f3,f4,f5⟩:=hf it (by simp)
  have hl:=rv.length;exact wpAny_pyNext_list_end (I.ok.hd hc) st p.isList (by simp;omega) fun h' eb=>⟨rfl,I.turned (t':=s.toks) (fun b o hb e=>eb b o hb e) f0 f1 f3 f4 f5⟩
 self:=fun _ _ _ _ _ st h=>wpAny_pyIter_listiter st h
theorem turn_range {P:Program}{w:World}{K:Frag}{tg:Expr}(it:Addr) (lo:Int) (n:Nat):Turn P w K tg (Itr lo n) [it] it (fun i h=>IsRangeIter h it (lo+(i:Nat)*1) ((n:Int)-(i:Nat)) 1) where
 mem:=by simp
 obj:=fun i h st b hb=>by
  have e:b=it:=by simpa using hb
  subst e;exact⟨_,st,fun v z=>by have z':Data.fields _=Data.cell v:=z;cases z'⟩
 keep:=fun i h h' st k=>k it (by simp) _ st
 item:=by
  intro X hP hw hK hc i pins s σ H E I hf st hg;subst hP hw hK;obtain⟨f0,f1,f2,f3,f4,f5⟩:=hf it (by simp)
  have W:=Walks.range (prog:=X.prog) (w:=X.w) (I.ok.hd hc) it lo 1 n;refine W.item i s _ _ hg st fun v h' tk hv st' kk =>?_
  obtain⟨t,rfl⟩:=hv;have I1:Inv X pins σ H { s with heap:=h',toks:=tk }:=I.turned (fun b o hb e=>kk b o (by simpa using hb) e) f0 f1 f3 f4 f5
  refine⟨_,rfl,go_of (s:={ s with heap:=h',toks:=tk }) (n:= "range_iterator") st' rfl rfl (by decide) ⟨.int (lo+i),H,I1,⟨t,?_⟩,⟨rfl,rfl⟩,st',fun b hb=>(hf b hb).1⟩⟩
  rw[Int.mul_one]
 done:=by
  intro X hP hw hK hc i pins s σ H E I hf st hg;subst hP hw hK;obtain⟨f0,f1,f2,f3,f4,f5⟩:=hf it (by simp)
  exact wpAny_pyNext_range_end (I.ok.hd hc) st (by have:n≤i:=hg;omega) fun h' eb=>⟨rfl,I.turned (t':=s.toks) (fun b o hb e=>eb b o hb e) f0 f1 f3 f4 f5⟩
 self:=fun _ _ _ _ _ st h=>wpAny_pyIter_rangeiter st h
end L2
namespace L2
open PySem PySem.Spec PyProof.Rows
noncomputable section
variable {X:Cx}{tg:Expr}
noncomputable def iList (K:Frag) (tl:TE):TI:=fun σ H R=>tl σ H fun x H1=>∃ a,x=.ref a∧(∃ xs,SqL K H1 a xs)∧R (Itl K a) H1
theorem pi_list {l:Expr}{tl:TE}(hl:PE X l tl):PI X tg l (iList X.K tl):=by
 intro pins s σ H R I h;refine thn (hl pins s σ H _ I h) fun v s1 ⟨x,H1,I1,r1,q1⟩ =>?_
 obtain⟨a,e,⟨xs,hq⟩,q⟩:=q1;subst e;cases r1;obtain⟨its,rv,p,hz⟩:=I1.list hq;refine wpAny_pyIter_list p.isList ?_;refine⟨s1.heap.objs.size,[s1.heap.objs.size],_,_,H1,rfl,I1.kept (t':=s1.toks) fun b o e=>zF _ e,turn_list a _,⟨_,zV _ rfl,rfl,rfl⟩,fun b hb =>?_,q⟩
 have e:b=s1.heap.objs.size:=by simpa using hb
 subst e;exact I1.fpOk (zL _) (I1.hok.fresh (zL _))
theorem range_it {pins:List (Addr×Obj)}{σ:St}{H:Hp}{s:Shared}{R:It→Hp→Prop}{E:Value→Shared→Prop}{lo hi:Int}{t u v:Tok}{tk:Nat}(I:Inv X pins σ H s) (h1 : -(2 ^ 62)≤lo) (h2:lo<2 ^ 62) (h3 : -(2 ^ 62)≤hi) (h4:hi<2 ^ 62)
  (q:R (Itr lo (hi-lo).toNat) H):wpAny (model X.prog X.w) X.A (pyIter (.ref s.heap.objs.size)) (PIE X pins σ tg R) E { s with heap:=s.heap.push { cls :=.type "range",data :=.fields #[.int lo t,.int hi u,.int 1 v] },toks:=tk }:=by
 refine wpAny_pyIter_range (IsRange.new ..) (small_one h1 h2 h3 h4) ?_;have I1:Inv X pins σ H { s with heap:=s.heap.push { cls :=.type "range",data :=.fields #[.int lo t,.int hi u,.int 1 v] },toks:=tk }:=I.kept fun b o e=>zF _ e
 refine⟨(s.heap.push { cls :=.type "range",data :=.fields #[.int lo t,.int hi u,.int 1 v] }).objs.size,[(s.heap.push { cls :=.type "range",data :=.fields #[.int lo t,.int hi u,.int 1 v] }).objs.size],_,_,H,rfl,
  I1.kept (t':=tk) fun b o e=>zF _ e,turn_range _ lo (hi-lo).toNat,?_,fun b hb =>?_,q⟩
 ·have e1:lo+((0:Nat):Int)*1=lo:=by simp
  have e2:(((hi-lo).toNat:Nat):Int)-((0:Nat):Int)=Builtin.Range.rangeSize lo hi 1:=by rw[rangeSize_one];split<;>omega
  show IsRangeIter _ _ (lo+((0:Nat):Int)*1) ((((hi-lo).toNat:Nat):Int)-((0:Nat):Int)) 1;rw[e1,e2];exact zV _ rfl
 ·have e:b=(s.heap.push { cls :=.type "range",data :=.fields #[.int lo t,.int hi u,.int 1 v] }).objs.size:=by simpa using hb
  subst e;exact I1.fpOk (zL _) (I1.hok.fresh (zL _))
noncomputable def iRng1 (ta:TA):TI:=fun σ H R=>ta σ H fun vs H1=>∃ j:Int,vs=[.int j] ∧ -(2 ^ 62)≤j∧j<2 ^ 62∧R (Itr 0 j.toNat) H1
theorem pi_range1 {a:Expr}{ta:TA}{p pos:Pos}(hg:Gl X "range") (hm:X.mg "range" = none) (ha:PA X [a] ta) (hs:starEach [a] X.env=[(false,eval a X.env)]:=by rfl):PI X tg (.Call (.Name "range" p) [a] [] pos) (iRng1 ta):=by
 intro pins s σ H R I h;refine Call_ (ld_blt I hg hm boot_range (PyProof.Rows.callWith_type1 (thn (ha pos pins s σ H _ I h) fun us s1 ⟨vs,H1,I1,r1,q1⟩ =>?_) hs rfl))
 obtain⟨j,e,q1,q2,q⟩:=q1;subst e;cases r1 with
 | cons r rr=>cases rr;obtain⟨t,rfl⟩:=r;exact call_range_1 (range_it I1 (by omega) (by omega) q1 q2 (by simpa using q))
noncomputable def tFor (wi:TI) (g:TG) (tb:TS):TS:=fun D σ H=>wi σ H fun J H1=>∃ W:Nat→Nat→St→Hp→Prop,(∃ m,W 0 m σ H1)∧∀ i m σ H,W i m σ H →
 (J.stop i H∧D.nx σ H)∨(J.go i H∧∃ N:St→Hp→Prop,(∀ σ' H',N σ' H'→∃ m',m'<m∧W (i+1) m' σ' H')∧∀ x H',J.yld i H x H'→g x σ H' fun σ2 H2=>tb { D with nx:=N,ct:=N,bk:=D.nx } σ2 H2)
noncomputable def pinsAt (fp:List Addr) (h:Heap):List (Addr×Obj):=fp.filterMap fun b=>(h.get? b).map fun o=>(b,o)
theorem mem_pinsAt {fp:List Addr}{h:Heap}{b:Addr}{o:Obj}(hb:b∈fp) (e:h.get? b=some o):(b,o)∈pinsAt fp h:=List.mem_filterMap.mpr ⟨b,hb,by rw[e];rfl⟩
theorem of_pinsAt {fp:List Addr}{h:Heap}{p:Addr×Obj}(hp:p∈pinsAt fp h):p.1∈fp∧h.get? p.1=some p.2:=by
 obtain⟨b,hb,e⟩:=List.mem_filterMap.mp hp;cases q:h.get? b with
 | none=>rw[q] at e;cases e
 | some o=>rw[q] at e;have e':(b,o)=p:=yA e;subst e';exact⟨hb,q⟩
theorem Inv.pinned {pins:List (Addr×Obj)}{σ:St}{H:Hp}{s:Shared}{fp:List Addr}(I:Inv X pins σ H s) (hf:∀ b∈fp,FpOk X pins H b) (ho:∀ b∈fp,∃ o,s.heap.get? b=some o∧∀ v,o.data ≠ .cell v):Inv X (pins++pinsAt fp s.heap) σ H s:=
 I.pins_of fun p hp=>(zO.mp hp).elim (fun z=>I.pin p (zQ _ z)) fun z=>by obtain⟨hb,e⟩:=of_pinsAt z;obtain⟨f0,f1,f2,_⟩:=hf p.1 hb;obtain⟨o,e',d⟩:=ho p.1 hb;rw[e] at e';cases e';exact⟨e,f0,f1,f2,d⟩
theorem Inv.unpinned {pins pl:List (Addr×Obj)}{σ:St}{H:Hp}{s:Shared}(I:Inv X (pins++pl) σ H s):Inv X pins σ H s:=I.pins_of fun p hp=>I.pin p (zQ _ (zU _ hp))
theorem ps_for {iter:Expr}{body:List Stmt}{wi:TI}{g:TG}{tb:TS}{pos:Pos}(hp:PassesOwn (model X.prog X.w) X.A X.env X.xe) (hc:X.calm=true) (hi:PI X tg iter wi) (hg:PG X tg g) (hb:PSs X body tb)
  (hs:∀ x,foldedSetIterable iter X.env x=pure x:=by intro _;rfl):PS X (.For tg iter body [] pos) (tFor wi g tb):=by
 intro pins s σ H D I h;refine wpAny_For (thn (hi pins s σ H _ I h) fun v s1 h1=>thn h1 fun itv s2 h2 =>?_) hs
 obtain⟨it,fp,tn,J,H2,e,I2,T,st2,f2,W,⟨m0,w0⟩,turn⟩:=h2;subst e;have stat:∀ {H':Hp},(∀ b∈fp,H' b=none)→∀ b∈fp,FpOk X pins H' b:=fun hn b hb=>⟨hn b hb,(f2 b hb).2⟩
 refine codeAny_forLoop_any (fun n s'=>∃ i σ' H',Inv X pins σ' H' s'∧tn i s'.heap∧(∀ b∈fp,H' b=none)∧W i n σ' H') ?_ m0 ⟨0,σ,H2,I2,st2,fun b hb=>(f2 b hb).1,w0⟩
 rintro n s3 ⟨i,σ3,H3,I3,st3,fr3,w3⟩;rcases turn i n σ3 H3 w3 with ⟨stop,qn⟩|⟨go,N,hN,step⟩
 ·refine wpAny_passesOwn hp (thn (T.done X rfl rfl rfl hc i pins s3 σ3 H3 X.xe I3 (stat fr3) st3 stop) fun r s4 ⟨hr,I4⟩ =>?_)
  subst hr;exact wpAny_execs_nil ⟨σ3,H3,I4,qn⟩
 ·refine wpAny_passesOwn hp (thn (T.item X rfl rfl rfl hc i pins s3 σ3 H3 X.xe I3 (stat fr3) st3 go) fun r s4 ⟨u,hr,h4⟩ =>?_)
  subst hr;refine wpAny_passesOwn hp (thn h4 fun _ s5 ⟨x,H5,I5,r5,y5,st5,fr5⟩ =>?_)
  have I5':=I5.pinned (stat fr5) (T.obj _ _ st5);refine wpAny_passesOwn hp (thn (hg _ s5 σ3 H5 x u _ I5' r5 (step x H5 y5)) fun _ s6 ⟨σ6,H6,I6,q6⟩ =>?_)
  refine wpAny_passesOwn hp (thn (hb _ s6 σ6 H6 _ I6 q6) fun f s7 q7 =>?_)
  have again:∀ {σ7:St}{H7:Hp},Inv X (pins++pinsAt fp s5.heap) σ7 H7 s7→N σ7 H7→∃ m,m<n∧∃ i σ' H',Inv X pins σ' H' s7∧tn i s7.heap∧(∀ b∈fp,H' b=none)∧W i m σ' H':=fun {σ7 H7} I7 n7=>by
   obtain⟨m',hm,w7⟩:=hN σ7 H7 n7;refine⟨m',hm,i+1,σ7,H7,I7.unpinned,T.keep _ _ _ st5 fun b hb o e=>(I7.pin (b,o) (zQ _ (zQ _ (mem_pinsAt hb e)))).1,fun b hb =>?_,w7⟩
   obtain⟨o,e,d⟩:=T.obj _ _ st5 b hb;exact(I7.pin (b,o) (zQ _ (zQ _ (mem_pinsAt hb e)))).2.1
  cases f with
  | next=>obtain⟨σ7,H7,I7,n7⟩:=q7;exact again I7 n7
  | cont=>obtain⟨σ7,H7,I7,n7⟩:=q7;exact again I7 n7
  | brk=>obtain⟨σ7,H7,I7,q7⟩:=q7;exact⟨σ7,H7,I7.unpinned,q7⟩
  | ret v=>obtain⟨x7,σ7,H7,I7,r7,q7⟩:=q7;exact⟨x7,σ7,H7,I7.unpinned,r7,q7⟩
end
theorem for_list {K:Frag}{a:Addr}{xs:List V}{g:TG}{tb:TS}{D:Ends}{σ:St}{H:Hp}(Pv:Nat→St→Hp→Prop) (h0:Pv 0 σ H) (hl:∀ i σ H,i≤xs.length→Pv i σ H→SqL K H a xs)
  (hs:∀ i x σ H,xs[i]?=some x→Pv i σ H→g x σ H fun σ2 H2=>tb { D with nx:=Pv (i+1),ct:=Pv (i+1),bk:=D.nx } σ2 H2) (hd:∀ σ H,Pv xs.length σ H→D.nx σ H) :
  ∃ W:Nat→Nat→St→Hp→Prop,(∃ m,W 0 m σ H)∧∀ i m σ H,W i m σ H →
   ((Itl K a).stop i H∧D.nx σ H)∨((Itl K a).go i H∧∃ N:St→Hp→Prop,(∀ σ' H',N σ' H'→∃ m',m'<m∧W (i+1) m' σ' H')∧∀ x H',(Itl K a).yld i H x H'→g x σ H' fun σ2 H2=>tb { D with nx:=N,ct:=N,bk:=D.nx } σ2 H2):=by
 refine⟨fun i m σ H=>m=xs.length-i∧i≤xs.length∧Pv i σ H,⟨xs.length,by simp,Nat.zero_le _,h0⟩,?_⟩
 rintro i m σ H ⟨rfl,hi,p⟩;have q:=hl i σ H hi p;by_cases hlt:i<xs.length
 ·refine .inr ⟨⟨xs,xs[i],q,by simp[hlt]⟩,Pv (i+1),fun σ' H' p'=>⟨xs.length-(i+1),by omega,rfl,hlt,p'⟩,fun x H' y =>?_⟩
  obtain⟨e,y⟩:=y;subst e;exact hs i x σ _ (y xs q) p
 ·have e:i=xs.length:=by omega
  subst e;exact .inl ⟨⟨xs,q,zL _⟩,hd σ H p⟩
end L2
namespace L2
open PySem PySem.Spec PyProof.Rows
noncomputable abbrev R2:=V→V→Hp→VK→Prop
noncomputable def OpR (X:Cx) (f:Value→Value→Sem Value) (r:R2):Prop:=
 ∀ (pins:List (Addr×Obj)) (s:Shared) (σ:St) (H:Hp) (x y:V) (v u:Value) (Q:VK),Inv X pins σ H s→RelV x v→RelV y u→r x y H Q →
  wpAny (model X.prog X.w) X.A (f v u) (EP X pins σ Q) X.xe s
noncomputable def CallR (X:Cx) (f:Value) (r:List V→Hp→VK→Prop):Prop:=
 ∀ (pins:List (Addr×Obj)) (s:Shared) (σ:St) (H:Hp) (xs:List V) (us:List Value) (Q:VK),Inv X pins σ H s→Vals xs us→r xs H Q →
  wpAny (model X.prog X.w) X.A (call f us) (EP X pins σ Q) X.xe s
noncomputable def TruR (X:Cx) (r:V→Hp→(Bool→Hp→Prop)→Prop):Prop:=
 ∀ (pins:List (Addr×Obj)) (s:Shared) (σ:St) (H:Hp) (x:V) (v:Value) (Q:Bool→Hp→Prop),Inv X pins σ H s→RelV x v→r x H Q →
  wpAny (model X.prog X.w) X.A (truthy v) (TP X pins σ Q) X.xe s
noncomputable def tOp (r:R2) (ta tb:TE):TE:=fun σ H Q=>ta σ H fun x H1=>tb σ H1 fun y H2=>r x y H2 Q
noncomputable def rI (C:Int→Int→Prop) (g:Int→Int→V):R2:=fun x y H Q=>∃ i j,x=.int i∧y=.int j∧C i j∧Q (g i j) H
noncomputable def rI0 (g:Int→Int→V):R2:=fun x y H Q=>∃ i j,x=.int i∧y=.int j∧Q (g i j) H
noncomputable section
variable {X:Cx}{a b c:Expr}{ta tb tc:TE}{pos:Pos}
theorem binT (ha:PE X a ta) (hb:PE X b tb){pins:List (Addr×Obj)}{s:Shared}{σ:St}{H:Hp}{R:V→V→Hp→Prop}(I:Inv X pins σ H s)
  (h:ta σ H fun x H1=>tb σ H1 fun y H2=>R x y H2){Q:Value→Shared→Prop}{f:Value→Value→Sem Value}
  (hf:∀ v u s2 x y H2,Inv X pins σ H2 s2→RelV x v→RelV y u→R x y H2→wpAny (model X.prog X.w) X.A (f v u) Q X.xe s2) :
  wpAny (model X.prog X.w) X.A (eval a X.env) (fun v s₁=>wpAny (model X.prog X.w) X.A (eval b X.env) (fun u s₂=>wpAny (model X.prog X.w) X.A (f v u) Q X.xe s₂) X.xe s₁) X.xe s:=by
 refine thn (ha pins s σ H _ I h) fun v s1 ⟨x,H1,I1,r1,q1⟩ =>?_
 refine thn (hb pins s1 σ H1 _ I1 q1) fun u s2 ⟨y,H2,I2,r2,q2⟩ =>?_
 exact hf v u s2 x y H2 I2 r1 r2 q2
theorem pe_op {op:Operator}{r:R2}(ho:OpR X (binaryOp op) r) (ha:PE X a ta) (hb:PE X b tb):PE X (.BinOp a op b pos) (tOp r ta tb):=by
 intro pins s σ H Q I h;exact wpAny_BinOp (binT ha hb I h fun v u s2 x y H2 I2 rx ry q=>ho pins s2 σ H2 x y v u Q I2 rx ry q)
theorem opI {f:Value→Value→Sem Value}{C:Int→Int→Prop}{g:Int→Int→Int}
  (rule:∀ (i j:Int) (t u:Tok) (s:Shared) (Q:Value→Shared→Prop) (E:Value→Shared→Prop),C i j→Q (.int (g i j) s.toks) { s with toks:=s.toks+1 }→wpAny (model X.prog X.w) X.A (f (.int i t) (.int j u)) Q E s) :
  OpR X f (rI C fun i j =>.int (g i j)):=by
 intro pins s σ H x y v u Q I rx ry h;obtain⟨i,j,rfl,rfl,hc,q⟩:=h;obtain⟨t,rfl⟩:=rx;obtain⟨t',rfl⟩:=ry;exact rule i j t t' s _ _ hc ⟨.int (g i j),H,I.tok _,⟨_,rfl⟩,q⟩
theorem opI0 {f:Value→Value→Sem Value}{g:Int→Int→Int}
  (rule:∀ (i j:Int) (t u:Tok) (s:Shared) (Q:Value→Shared→Prop) (E:Value→Shared→Prop),Q (.int (g i j) s.toks) { s with toks:=s.toks+1 }→wpAny (model X.prog X.w) X.A (f (.int i t) (.int j u)) Q E s) :
  OpR X f (rI0 fun i j =>.int (g i j)):=by
 intro pins s σ H x y v u Q I rx ry h;obtain⟨i,j,rfl,rfl,q⟩:=h;obtain⟨t,rfl⟩:=rx;obtain⟨t',rfl⟩:=ry;exact rule i j t t' s _ _ ⟨.int (g i j),H,I.tok _,⟨_,rfl⟩,q⟩
theorem opB0 {f:Value→Value→Sem Value}{g:Int→Int→Bool}
  (rule:∀ (i j:Int) (t u:Tok) (s:Shared) (Q:Value→Shared→Prop) (E:Value→Shared→Prop),Q (.bool (g i j)) s→wpAny (model X.prog X.w) X.A (f (.int i t) (.int j u)) Q E s) :
  OpR X f (rI0 fun i j =>.bl (g i j)):=by
 intro pins s σ H x y v u Q I rx ry h;obtain⟨i,j,rfl,rfl,q⟩:=h;obtain⟨t,rfl⟩:=rx;obtain⟨t',rfl⟩:=ry;exact rule i j t t' s _ _ ⟨.bl (g i j),H,I,rfl,q⟩
noncomputable def CMul (i j:Int):Prop:=(-(2 ^ 64)<i∧i<2 ^ 64)∨(-(2 ^ 64)<j∧j<2 ^ 64)
theorem CMul.ok {i j:Int}(h:CMul i j):IntMulOk i j:=by
 rcases h with ⟨h1,h2⟩|⟨h1,h2⟩
 ·exact .of_left (intBits_le_64 h1 h2)
 ·exact .of_right (intBits_le_64 h1 h2)
theorem op_add:OpR X (binaryOp .Add) (rI0 fun i j =>.int (i+j)):=opI0 fun _ _ _ _ _ _ _ q=>add_int q
theorem op_sub:OpR X (binaryOp .Sub) (rI0 fun i j =>.int (i-j)):=opI0 fun _ _ _ _ _ _ _ q=>sub_int q
theorem op_mul:OpR X (binaryOp .Mult) (rI CMul fun i j =>.int (i*j)):=opI fun _ _ _ _ _ _ _ hc q=>mul_int q hc.ok
theorem op_mod:OpR X (binaryOp .Mod) (rI (fun _ j=>0<j) fun i j =>.int (i%j)):=opI fun i j _ _ _ _ _ hc q=>by
 have h1:(0:Int)<j:=hc;exact mod_int' (by omega) (by rw[Int.fmod_eq_emod_of_nonneg i (by omega)];exact q)
end
noncomputable section
variable {X:Cx}{a b c:Expr}{ta tb tc:TE}{pos:Pos}
theorem fin_bl {pins:List (Addr×Obj)}{σ:St}{H:Hp}{s:Shared}{Q:VK}{k k':Bool}(I:Inv X pins σ H s) (q:Q (.bl k) H) (e:k=k'):EP X pins σ Q (.bool k') s:=by
 subst e;exact⟨.bl k,H,I,rfl,q⟩
theorem op_lt:OpR X (compareOp .Lt) (rI0 fun i j =>.bl (decide (i<j))):=opB0 fun _ _ _ _ _ _ _ q=>lt_int q
theorem op_ge:OpR X (compareOp .GtE) (rI0 fun i j =>.bl (decide (j≤i))):=opB0 fun _ _ _ _ _ _ _ q=>ge_int q
theorem OpR.or {f:Value→Value→Sem Value}{r r':R2}(h:OpR X f r) (h':OpR X f r'):OpR X f (fun x y H Q=>r x y H Q∨r' x y H Q):=by
 intro pins s σ H x y v u Q I rx ry q;rcases q with q|q
 ·exact h pins s σ H x y v u Q I rx ry q
 ·exact h' pins s σ H x y v u Q I rx ry q
theorem nomark (b:Expr){op:CmpOp}(h:op ≠ .In:=by decide) (h2:op ≠ .NotIn:=by decide):behindInMarks op b=false:=by
 have e1:(op==CmpOp.In)=false:=by cases op<;>first|rfl|exact absurd rfl h
 have e2:(op==CmpOp.NotIn)=false:=by cases op<;>first|rfl|exact absurd rfl h2
 cases b<;>simp[behindInMarks,e1,e2]
theorem pe_cmpR {op:CmpOp}{r:R2}(ho:OpR X (compareOp op) r) (ha:PE X a ta) (hb:PE X b tb) (hm:behindInMarks op b=false):PE X (.Compare a [op] [b] pos) (tOp r ta tb):=by
 intro pins s σ H Q I h;exact wpAny_Compare1 (binT ha hb I h fun v u s2 x y H2 I2 rx ry q=>ho pins s2 σ H2 x y v u Q I2 rx ry q) hm
noncomputable def tTest (t:TE):TT:=fun σ H Q=>t σ H fun x H'=>∃ k,x=.bl k∧Q k H'
theorem pt_cmpR {op:CmpOp}{r:R2}(ho:OpR X (compareOp op) r) (ha:PE X a ta) (hb:PE X b tb) (hm:behindInMarks op b=false):PT X (.Compare a [op] [b] pos) (tTest (tOp r ta tb)):=by
 intro pins s σ H Q I h;refine wpAny_isTrue_Compare1 (thn (ha pins s σ H _ I h) fun v s1 ⟨x,H1,I1,r1,q1⟩=>thn (hb pins s1 σ H1 _ I1 q1) fun u s2 ⟨y,H2,I2,r2,q2⟩=>thn (ho pins s2 σ H2 x y v u _ I2 r1 r2 q2) fun c s3 ⟨z,H3,I3,r3,k,e,q3⟩ =>?_) hm
 subst e;cases r3;exact wpAny_truthy_bool ⟨H3,I3,q3⟩
noncomputable def tChain (r r':R2) (ta tb tc:TE):TE:=fun σ H Q=>ta σ H fun x H1=>tb σ H1 fun y H2=>r x y H2 fun z H3=>∃ k,z=.bl k ∧
 (if k=true then tc σ H3 fun w' H4=>r' y w' H4 Q else Q (.bl false) H3)
theorem pt_chain {op op':CmpOp}{r r':R2}(ho:OpR X (compareOp op) r) (ho':OpR X (compareOp op') r') (ha:PE X a ta) (hb:PE X b tb) (hc:PE X c tc)
  (hm:lastMarks [op,op'] [b,c]=false:=by with_unfolding_all rfl):PT X (.Compare a [op,op'] [b,c] pos) (tTest (tChain r r' ta tb tc)):=by
 intro pins s σ H Q I h;refine isTrue_chain (thn (ha pins s σ H _ I h) fun v s1 ⟨x,H1,I1,r1,q1⟩=>test_link (thn (hb pins s1 σ H1 _ I1 q1) fun u s2 ⟨y,H2,I2,r2,q2⟩=>thn (ho pins s2 σ H2 x y v u _ I2 r1 r2 q2) fun d s3 ⟨z,H3,I3,r3,k,e,q3⟩ =>?_)) hm
 subst e;cases r3;refine wpAny_truthy_bool ?_;cases k with
 | false=>obtain⟨k',e',q'⟩:=q3;cases e';exact ite_ff ⟨H3,I3,q'⟩
 | true=>
  refine ite_tt (test_last (thn (hc pins s3 σ H3 _ I3 q3) fun w' s4 ⟨z',H4,I4,r4,q4⟩=>thn (ho' pins s4 σ H4 y z' u w' _ I4 r2 r4 q4) fun d' s5 ⟨z2,H5,I5,r5,k2,e2,q5⟩ =>?_))
  subst e2;cases r5;exact wpAny_truthy_bool ⟨H5,I5,q5⟩
noncomputable def TruV (K:Frag) (x:V) (H:Hp) (k:Bool):Prop:=
 match x with
 | .non=>k=false
 | .bl b=>k=b
 | .int i=>k=(i != 0)
 | .str y=>y.length≤sizeLine∧k=((y.length:Int) != 0)
 | .byt y=>y.size≤sizeLine∧k=((y.size:Int) != 0)
 | .ref p=>(∃ xs,SqL K H p xs∧k = !xs.isEmpty)∨(∃ xs,SqT K H p xs∧k = !xs.isEmpty)∨∃ kvs,H p=some (.dK kvs)∧k = !kvs.isEmpty
 | _=>False
theorem isEmpty_kv {κ:Type}{kvs:List (κ×V)}{vs:List (κ×Value)}(r:KV kvs vs):(!vs.isEmpty) = !kvs.isEmpty:=by
 cases r<;>rfl
theorem isEmpty_of {xs:List V}{its:List Value}(r:Vals xs its):(!its.toArray.isEmpty) = !xs.isEmpty:=by
 cases r<;>simp
theorem line63:(sizeLine:Nat)<2 ^ 63:=by rw[sizeLine_eq];decide
theorem tru_ok:TruR X (fun x H Q=>∃ k,TruV X.K x H k∧Q k H):=by
 intro pins s σ H x v Q I rx h;obtain⟨k,e,q⟩:=h;have hl:=line63;have hs:sizeLine=16777216:=sizeLine_eq;cases x with
 | non=>cases rx;have e':k=false:=e;subst e';exact truthy_none ⟨H,I,q⟩
 | bl b=>cases rx;have e':k=b:=e;subst e';exact wpAny_truthy_bool ⟨H,I,q⟩
 | int i=>obtain⟨t,rfl⟩:=rx;have e':k=(i != 0):=e;subst e';exact PySem.P.truthy_int ⟨H,I,q⟩
 | str y=>obtain⟨t,rfl⟩:=rx;obtain⟨hy,e'⟩:y.length≤sizeLine∧k=((y.length:Int) != 0):=e;subst e';exact PySem.P.truthy_str (by omega) ⟨H,I.tok _,q⟩
 | byt y=>obtain⟨t,rfl⟩:=rx;obtain⟨hy,e'⟩:y.size≤sizeLine∧k=((y.size:Int) != 0):=e;subst e';exact PySem.W.truthy_bytes (by omega) ⟨H,I.tok _,q⟩
 | ref p=>
  cases rx;have e':(∃ xs,SqL X.K H p xs∧k = !xs.isEmpty)∨(∃ xs,SqT X.K H p xs∧k = !xs.isEmpty)∨∃ kvs,H p=some (.dK kvs)∧k = !kvs.isEmpty:=e;rcases e' with ⟨xs,hx,e'⟩|⟨xs,hx,e'⟩|⟨kvs,hx,e'⟩
  ·subst e';obtain⟨its,r,pl,hz⟩:=I.list hx;have hlen:=r.length;exact wpAny_truthy_list pl.isList (by simp only[zN];omega) ⟨H,I.tok _,by rw[isEmpty_of r];exact q⟩
  ·subst e';obtain⟨its,r,pl,hz⟩:=I.tuple hx;have hlen:=r.length;exact truthy_tuple pl (by simp only[zN];omega) ⟨H,I.tok _,by rw[isEmpty_of r];exact q⟩
  ·subst e';obtain⟨hz,hS,vs,r,m⟩:kvs.length≤sizeLine∧(p==sysModules)=false∧∃ vs,KV kvs vs∧s.heap.DictOf (mixKind X.prog X.w) p vs:=I.hok p _ hx;have hlen:kvs.length=vs.length:=Paired.length r;exact wpAny_truthy_dict hS m (by omega) ⟨H,I.tok _,by rw[isEmpty_kv r];exact q⟩
 | _=>exact(show False from e).elim
theorem pt_truth (ha:PE X a ta) (he:∀ whole,isTrue a X.env whole=(do let v ← whole;standAt a.pos;holding [v] (truthy v))) :
  PT X a (fun σ H Q=>ta σ H fun x H'=>∃ k,TruV X.K x H' k∧Q k H'):=by
 intro pins s σ H Q I h;exact isTrue_plain (thn (ha pins s σ H _ I h) fun v s1 ⟨x,H1,I1,r1,q1⟩=>tru_ok pins s1 σ H1 x v Q I1 r1 q1) (he _)
theorem op_add_str:OpR X (binaryOp .Add) (fun x y H Q=>∃ i j,x=.str i∧y=.str j∧i.length+j.length≤sizeLine∧Q (.str (i++j)) H):=by
 intro pins s σ H x y v u Q I rx ry h;obtain⟨i,j,rfl,rfl,hz,q⟩:=h;obtain⟨t,rfl⟩:=rx;obtain⟨t',rfl⟩:=ry;exact add_str (fun t' tk=>⟨.str (i++j),H,I.tok _,⟨_,rfl⟩,q⟩) hz
theorem vals1 {x:V}{us:List Value}(r:Vals [x] us):∃ u,us=[u]∧RelV x u:=by
 cases r with
 | cons r1 r2=>cases r2;exact⟨_,rfl,r1⟩
theorem call_ord:CallR X (.builtin "ord") (fun xs H Q=>∃ x,xs=[.str x]∧x.length=1∧Q (.int (x.cps.getD 0 0:Nat)) H):=by
 intro pins s σ H xs us Q I r h;obtain⟨x,rfl,hz,q⟩:=h;obtain⟨u,rfl,t,rfl⟩:=vals1 r;exact ord_of_one hz ⟨.int _,H,I.tok _,⟨_,rfl⟩,q⟩
end
end L2
namespace L2
open PySem PySem.Spec PyProof.Rows
structure ObjM (h:Heap) (x dx C:Addr) (mA:Str→Option Value):Prop where
 obj:h.get? x=some (instObj C dx)
 ns:h.Ns1 dx mA
 ne:dx≠x
theorem lookIn_ns {h:Heap}{dx:Addr}{mA:Str→Option Value}(n:h.Ns1 dx mA):∃ od,h.get? dx=some od∧∀ name,lookIn name od=some (mA name):=by
 obtain⟨o,es,ep,ho,hd,hk,_,hm⟩:=n;refine⟨o,ho,fun name =>?_⟩
 have e:=hm name;unfold nsFind findBy at e;rw[← Array.find?_toList] at e;unfold lookIn;rw[hd];dsimp only
 split
 ·rename_i y q;rw[q] at e;exact congrArg some e
 ·rename_i q;rw[q] at e;have a:es.toList.any (·.refKey)=false:=by rw[List.any_eq_false];intro y hy;obtain⟨z,t,hkey⟩:=hk y (Array.mem_toList_iff.mp hy);simp[DictEntry.refKey,hkey]
  have a':¬ es.toList.any (·.refKey)=true:=by rw[a];exact zZ
  rw[if_neg a'];exact congrArg some e
theorem ObjM.look {h:Heap}{x dx C:Addr}{mA:Str→Option Value}(I:ObjM h x dx C mA):∃ od,PySem.W.InstAt h x (instObj C dx) C (some od)∧∀ name,lookIn name od=some (mA name):=
 let ⟨od,ho,hl⟩:=lookIn_ns I.ns
 ⟨od,⟨I.obj,rfl,rfl,ho⟩,hl⟩
noncomputable section
variable {prog:Program}{w:World}{A:Around}{E:Value→Shared→Prop}{s:Shared}{K:Frag}{x dx C f:Addr}{mA:Str→Option Value}{name:Str}{v:Value}
theorem get_map {expr:Bool}{Q:Value→Shared→Prop}(X:K.In s.heap) (I:ObjM s.heap x dx C mA) (hg:plainGet K C name=true) (hh:hasDictIn K C=true)
  (ha:findIn K (.ref C) name=some none) (hv:mA name=some v) (hv':PySem.W.handedIn v=true) (h:Q v { s with toks:=s.toks+1 }) :
  wpAny (model prog w) A (getAttr (.ref x) name expr) Q E s:=by
 obtain⟨od,J,hl⟩:=I.look;exact PySem.W.get_value X J (PySem.W.plainGet_of hg).1 (PySem.W.findObj_own hh ha rfl (by rw[hl,hv])) hv' h
theorem get_meth {pl:Sem Bool}{Q:Value×List Value→Shared→Prop}(X:K.In s.heap) (I:ObjM s.heap x dx C mA) (hg:plainGet K C name=true)
  (hf:findIn K (.ref C) name=some (some (.ref f))) (ht:PySem.W.isFn K (.ref f)=true) (hv:mA name=none) (h:Q (.ref f,[.ref x]) s) :
  wpAny (model prog w) A (getMethod (.ref x) name pl) Q E s:=by
 obtain⟨od,J,hl⟩:=I.look;exact PySem.W.method_fn X J (PySem.W.plainGet_of hg).1 (PySem.W.plainGet_of hg).2 hf (beq_iff_eq.mp ht) (by show (lookIn name od).map (·.isSome)=some false;rw[hl,hv];rfl) h
theorem set_map {ns:List Str}{Q:Unit→Shared→Prop}(X:K.In s.heap) (I:ObjM s.heap x dx C mA)
  (hs:findIn K (.ref C) "__setattr__" = some (some (.builtin "object.__setattr__"))) (hp:plainOver K C=true) (ht:takerIn K C name=some none) (hh:hasDictIn K C=true)
  (hw:PySem.Within mA ns) (hsz:ns.length≤sizeLine)
  (h:∀ h',ObjM h' x dx C (fun y=>if y=name then some v else mA y)→Heap.SameBut dx s.heap h'→Q () { s with heap:=h',toks:=s.toks+2 }) :
  wpAny (model prog w) A (setAttr (.ref x) name v) Q E s:=by
 obtain⟨od,J,hl⟩:=I.look;refine PySem.W.set_plain X J hs (PySem.W.osa_open (s:={ s with toks:=s.toks+1 }) (r:=none) X J hp ht fun b =>?_)
 obtain⟨cd,hc,hd'⟩:=PySem.W.any_some hh;have hx:s.heap.get? x=some ⟨.ref C,some dx,.plain,#[]⟩:=I.obj;refine zE (zW (zE (zE (wpAny_loadPart hx (zE (PySem.W.Looks.here (s:={ s with toks:=s.toks+1 }) (PySem.W.looks_clsIn X hc) ?_))))));rw[hd'];refine zW (a:=some dx) (zE (zW (zE ?_)));refine wpAny_nsSet1 (s:={ s with toks:=s.toks+1 }) I.ns fun h' hn2 hs2 =>?_
 obtain⟨oD,esD,epD,hoD,hdD,hcD⟩:=hn2.count (PySem.Within.cons name v hw);refine zE (wpAny_lookBehind hoD (by rw[hdD];exact pastItsLine_dict (yB hcD (by rw[zP];omega))) ?_)
 exact zW (h _ ⟨(hs2.2 _ (Ne.symm I.ne)).trans I.obj,hn2,I.ne⟩ hs2)
theorem make_map {R:Result→Shared→Prop}{vs:List Value}{kw:List (Str×Value)}(X:K.In s.heap) (hm:makesIn K C=true)
  (hi:findIn K (.ref C) "__init__" = some (some (.ref f))) (hf:PySem.W.typeIn K (.ref f)=some (.type "function"))
  (h:codeAny (model prog w) (A.under (.builtin "type.__call__" ⟨.ref C::vs,kw⟩)) (.call (.ref f) ⟨.ref (s.heap.objs.size+1)::vs,kw⟩) (PySem.W.InitBack (s.heap.objs.size+1) R)
   { s with heap:=(s.heap.push emptyDict).push (instObj C s.heap.objs.size) }) :
  codeAny (model prog w) A (.call (.ref C) ⟨vs,kw⟩) R s:=by
 obtain⟨hh,g,d,t,os⟩:=s;exact PySem.W.make_core (PySem.W.makes_of X hm) (PySem.W.looks_findIn X hi) (fun self=>PySem.W.bind_fn X self hf) (.inl rfl) h
end
noncomputable def putF (f:Str) (v:V):List (Str×V)→List (Str×V)
 | []=>[(f,v)]
 | (g,x)::r=>if g=f then (g,v)::r else (g,x)::putF f v r
theorem lookup_putF (f g:Str) (v:V):∀ fs:List (Str×V),(putF f v fs).lookup g=if g=f then some v else fs.lookup g
 | []=>by
  show List.lookup g [(f,v)]=_;by_cases h:g=f
  ·have hb:(g==f)=true:=beq_iff_eq.mpr h;simp only[List.lookup,hb,if_pos h]
  ·have hb:(g==f)=false:=beq_eq_false_iff_ne.mpr h;simp only[List.lookup,hb,if_neg h]
 | (k,x)::r=>by
  have ih:=lookup_putF f g v r;rw[show putF f v ((k,x)::r)=(if k=f then (k,v)::r else (k,x)::putF f v r) from rfl]
  by_cases hk:k=f
  ·rw[if_pos hk];by_cases h:g=k
   ·have hb:(g==k)=true:=beq_iff_eq.mpr h;simp only[List.lookup,hb,if_pos (h.trans hk)]
   ·have hb:(g==k)=false:=beq_eq_false_iff_ne.mpr h;simp only[List.lookup,hb,if_neg (fun e:g=f=>h (e.trans hk.symm))]
  ·rw[if_neg hk];by_cases h:g=k
   ·have hb:(g==k)=true:=beq_iff_eq.mpr h;simp only[List.lookup,hb,if_neg (fun e:g=f=>hk (h.symm.trans e))]
   ·have hb:(g==k)=false:=beq_eq_false_iff_ne.mpr h;simp only[List.lookup,hb];exact ih
theorem keys_putF (f:Str) (v:V):∀ fs:List (Str×V),f∈(putF f v fs).map (·.1)∧∀ g,g∈fs.map (·.1)→g∈(putF f v fs).map (·.1)
 | []=>⟨by simp[putF],fun g h=>by simp at h⟩
 | (k,x)::r=>by
  obtain⟨i1,i2⟩:=keys_putF f v r;rw[show putF f v ((k,x)::r)=(if k=f then (k,v)::r else (k,x)::putF f v r) from rfl]
  by_cases hk:k=f
  ·rw[if_pos hk];subst hk;exact⟨by simp,fun g h=>by simpa using h⟩
  ·rw[if_neg hk];refine⟨?_,fun g h =>?_⟩
   ·rw[List.map_cons];exact zB _ i1
   ·rw[List.map_cons] at h ⊢;rcases zG.mp h with e|e
    ·exact zG.mpr (.inl e)
    ·exact zB _ (i2 g e)
theorem length_putF (f:Str) (v:V):∀ fs:List (Str×V),(putF f v fs).length≤fs.length+1
 | []=>by simp[putF]
 | (k,x)::r=>by
  have ih:=length_putF f v r;rw[show putF f v ((k,x)::r)=(if k=f then (k,v)::r else (k,x)::putF f v r) from rfl]
  by_cases hk:k=f
  ·rw[if_pos hk,zP,zP];omega
  ·rw[if_neg hk,zP,zP];omega
theorem RelO.some_of {v:V}{o:Option Value}(r:RelO (some v) o):∃ u,o=some u∧RelV v u:=by
 cases o with
 | none=>exact(show False from r).elim
 | some u=>exact⟨u,rfl,r⟩
theorem RelO.none_of {o:Option Value}(r:RelO none o):o=none:=by
 cases o with
 | none=>rfl
 | some u=>exact(show False from r).elim
theorem handed_of {v:V}{u:Value}(r:RelV v u):PySem.W.handedIn u=true:=by
 cases v with
 | non=>cases (show u=Value.none from r);rfl
 | bl b=>cases (show u=Value.bool b from r);rfl
 | int i=>obtain⟨t,e⟩:=(show ∃ t,u=Value.int i t from r);cases e;rfl
 | str x=>obtain⟨t,e⟩:=(show ∃ t,u=Value.str x t from r);cases e;rfl
 | byt b=>obtain⟨t,e⟩:=(show ∃ t,u=Value.bytes b t from r);cases e;rfl
 | flt b=>obtain⟨t,e⟩:=(show ∃ t,u=Value.float b t from r);cases e;rfl
 | ref a=>cases (show u=Value.ref a from r);rfl
 | ty n=>cases (show u=Value.type n from r);rfl
noncomputable section
variable {P:Program}{w:World}{H H':Hp}{h h':Heap}{a C dx:Addr}{fs fs':List (Str×V)}
theorem ins_get (hok:HOk P w H h) (e:H a=some (.ins C dx fs)):∃ mA,ObjM h a dx C mA∧(∀ f,RelO (fs.lookup f) (mA f))∧PySem.Within mA (fs.map (·.1))∧fs.length≤1000∧H dx=some (.own a):=by
 obtain⟨d,z,ne,ob,mA,n,r,q⟩:=(show ObjOk P w H h a (.ins C dx fs) from hok a _ e)
 exact⟨mA,⟨ob,n,ne⟩,r,q,z,d⟩
end
structure Cls (K:Frag) (C:Addr):Prop where
 pg:plainGet K C Str.empty=true
 hd:hasDictIn K C=true
 po:plainOver K C=true
 sa:findIn K (.ref C) "__setattr__" = some (some (.builtin "object.__setattr__"))
theorem Cls.get {K:Frag}{C:Addr}(c:Cls K C) (f:Str):plainGet K C f=true:=c.pg
noncomputable def NoAttr (K:Frag) (C:Addr) (f:Str):Prop:=findIn K (.ref C) f=some none
theorem NoAttr.taker {K:Frag}{C:Addr}{f:Str}(n:NoAttr K C f):takerIn K C f=some none:=by
 unfold takerIn;rw[show findIn K (.ref C) f=some none from n]
 rfl
structure Meth (K:Frag) (C:Addr) (m:Str) (f:Addr):Prop where
 at_:findIn K (.ref C) m=some (some (.ref f))
 fn:PySem.W.isFn K (.ref f)=true
 kp:keepIn K (.ref f)=true
noncomputable section
variable {X:Cx}{pins:List (Addr×Obj)}{σ:St}{H:Hp}{s:Shared}{a C dx:Addr}{fs:List (Str×V)}{f:Str}{v:V}{A:Around}{E:Value→Shared→Prop}
theorem getattr_ok {b:Bool}{Q:Value→Shared→Prop}(I:Inv X pins σ H s) (e:H a=some (.ins C dx fs)) (c:Cls X.K C) (n:NoAttr X.K C f) (l:fs.lookup f=some v)
  (h:∀ u s',Inv X pins σ H s'→RelV v u→Q u s'):wpAny (model X.prog X.w) A (getAttr (.ref a) f b) Q E s:=by
 obtain⟨mA,O,r,_,_,_⟩:=ins_get I.hok e;obtain⟨u,hu,ru⟩:=RelO.some_of (v:=v) (o:=mA f) (by rw[← l];exact r f)
 exact get_map I.kIn O (c.get f) c.hd n hu (handed_of ru) (h u _ (I.tok _) ru)
theorem getmeth_ok {m:Str}{g:Addr}{pl:Sem Bool}{Q:Value×List Value→Shared→Prop}(I:Inv X pins σ H s) (e:H a=some (.ins C dx fs)) (c:Cls X.K C) (k:Meth X.K C m g) (l:fs.lookup m=none)
  (h:Q (.ref g,[.ref a]) s):wpAny (model X.prog X.w) A (getMethod (.ref a) m pl) Q E s:=by
 obtain⟨mA,O,r,_,_,_⟩:=ins_get I.hok e;have hn:mA m=none:=RelO.none_of (by rw[← l];exact r m)
 exact get_meth I.kIn O (c.get m) k.at_ k.fn hn h
theorem setattr_ok {y:V}{u:Value}{Q:Unit→Shared→Prop}(I:Inv X pins σ H s) (e:H a=some (.ins C dx fs)) (c:Cls X.K C) (n:NoAttr X.K C f) (hl:fs.length<1000) (ry:RelV y u)
  (h:∀ s',Inv X pins σ (upd H a (.ins C dx (putF f y fs))) s'→Q () s'):wpAny (model X.prog X.w) A (setAttr (.ref a) f u) Q E s:=by
 obtain⟨mA,O,r,wi,_,ho⟩:=ins_get I.hok e;have hz:(fs.map (·.1)).length≤sizeLine:=by rw[zH,sizeLine_eq];omega
 refine set_map I.kIn O c.sa c.po n.taker c.hd wi hz fun h' O' sb=>h _ ?_
 have hd:∃ o,h'.get? dx=some o:=let ⟨o,_,_,e',_⟩:=O'.ns;⟨o,e'⟩;refine I.write (x:=a) (e:=dx) (by rw[e];exact True.intro) (.inr ho) (fun b q hb z=>(sb.2 b hb).trans z) hd ?_
 refine⟨by rw[upd_ne O.ne];exact ho,?_,O.ne,O'.obj,_,O'.ns,fun g =>?_,fun g hg =>?_⟩
 ·have:=length_putF f y fs;omega
 ·show RelO ((putF f y fs).lookup g) (if g=f then some u else mA g)
  rw[lookup_putF];by_cases q:g=f
  ·rw[if_pos q,if_pos q];exact ry
  ·rw[if_neg q,if_neg q];exact r g
 ·by_cases q:g=f
  ·rw[q];exact(keys_putF f y fs).1
  ·refine(keys_putF f y fs).2 g (wi g fun z=>hg ?_)
   show (if g=f then some u else mA g)=none
   rw[if_neg q];exact z
theorem Inv.made (I:Inv X pins σ H s):Inv X pins σ (upd (upd H s.heap.objs.size (.own (s.heap.objs.size+1))) (s.heap.objs.size+1) (.ins C s.heap.objs.size []))
  { s with heap:=(s.heap.push emptyDict).push (instObj C s.heap.objs.size) }:=by
 have e1:(s.heap.push emptyDict).get? s.heap.objs.size=some emptyDict:=zV s.heap rfl;have e2:((s.heap.push emptyDict).push (instObj C s.heap.objs.size)).get? (s.heap.objs.size+1)=some (instObj C s.heap.objs.size):=by
  have:=zV (s.heap.push emptyDict) (o:=instObj C s.heap.objs.size) rfl
  rwa [Heap.size_push] at this
 have e3:(s.heap.push emptyDict).Ns s.heap.objs.size (fun _=>none):=⟨emptyDict,#[],_,e1,rfl,(fun e he=>absurd he (by simp)),fun _=>rfl⟩
 have I1:=I.laid (a:=s.heap.objs.size) (o :=.own (s.heap.objs.size+1)) (h':=s.heap.push emptyDict) (t':=s.toks) (fun b u q=>zF _ q) (zL _) ⟨_,e1⟩
 refine I1.laid (a:=s.heap.objs.size+1) (o :=.ins C s.heap.objs.size []) (t':=s.toks) (fun b u q=>zF _ q) (Nat.le_of_eq (Heap.size_push _ _)) ?_
 have ne:s.heap.objs.size≠s.heap.objs.size+1:=zR (Nat.lt_succ_self _);refine⟨by rw[upd_ne ne,upd_same],Nat.zero_le _,ne,e2,fun _=>none,(Heap.Ns1.of_empty e3).at fun o q=>zF _ q,fun _=>True.intro,fun y hy=>absurd rfl hy⟩
theorem attr_of {prog:Program}{w:World}{env:Env}{e:Expr}{f:Str}{pos:Pos}{s:Shared}{Q:Value→Shared→Prop}(hb:attributeBase e f env (eval e env)=eval e env)
  (h:wpAny (model prog w) A (eval e env) (fun o s₁=>wpAny (model prog w) A (getAttr o f true) Q E s₁) E s):wpAny (model prog w) A (eval (.Attribute e f pos) env) Q E s:=
 Attribute_any_ h (by rw[arm_eval_Attribute,hb])
end
noncomputable def tFld (K:Frag) (ta:TE) (f:Str):TE:=fun σ H Q=>ta σ H fun x H1=>∃ a C dx fs v,x=.ref a∧H1 a=some (.ins C dx fs)∧Cls K C∧NoAttr K C f∧fs.lookup f=some v∧Q v H1
noncomputable def sFld (K:Frag) (ta tv:TE) (f:Str):TS:=fun D σ H=>tv σ H fun y H1=>ta σ H1 fun x H2=>∃ a C dx fs,x=.ref a∧H2 a=some (.ins C dx fs)∧Cls K C∧NoAttr K C f∧fs.length<1000 ∧
 D.nx σ (upd H2 a (.ins C dx (putF f y fs)))
noncomputable def InOp (X:Cx) (op:Operator) (rd:V→V→Hp→VK→Prop):Prop:=
 ∀ (pins:List (Addr×Obj)) (s:Shared) (σ:St) (H:Hp) (x y:V) (u v:Value) (Q:VK),Inv X pins σ H s→RelV x u→RelV y v→rd x y H Q→wpAny (model X.prog X.w) X.A (inplaceOp op u v) (EP X pins σ Q) X.xe s
noncomputable def sFldAug (K:Frag) (ta tv:TE) (rd:V→V→Hp→VK→Prop) (f:Str):TS:=fun D σ H=>ta σ H fun x H1=>∃ a C dx fs v,x=.ref a∧H1 a=some (.ins C dx fs)∧Cls K C∧NoAttr K C f∧fs.lookup f=some v ∧
 tv σ H1 fun y H2=>rd v y H2 fun z H3=>∃ dx' fs',H3 a=some (.ins C dx' fs')∧fs'.length<1000∧D.nx σ (upd H3 a (.ins C dx' (putF f z fs')))
noncomputable section
variable {X:Cx}{o e value:Expr}{f:Str}{pos pos' tpos:Pos}{ta tv:TE}
theorem pe_fld (he:PE X e ta) (hb:attributeBase e f X.env (eval e X.env)=eval e X.env):PE X (.Attribute e f pos) (tFld X.K ta f):=by
 intro pins s σ H Q I h;refine attr_of hb (thn (he pins s σ H _ I h) fun u s1 ⟨x,H1,I1,rx,a,C,dx,fs,v,ex,ea,c,n,l,q⟩ =>?_)
 subst ex;obtain rfl:u=Value.ref a:=rx;exact getattr_ok I1 ea c n l fun u' s2 I2 ru=>⟨v,H1,I2,ru,q⟩
theorem ps_fld (ha:PE X o ta) (hv:PE X value tv) (hs:swapsWith value (some (.Attribute o f pos')) pos.line X.env=pure false):PS X (.Assign [.Attribute o f pos'] value pos) (sFld X.K ta tv f):=by
 intro pins s σ H D I h;refine plainObj_wpAny_Assign_Attribute (thn (hv pins s σ H _ I h) fun u s1 ⟨y,H1,I1,ry,q⟩=>thn (ha pins s1 σ H1 _ I1 q) fun ov s2 ⟨x,H2,I2,rx,a,C,dx,fs,ex,ea,c,n,l,q2⟩ =>?_) hs
 subst ex;obtain rfl:ov=Value.ref a:=rx;exact setattr_ok I2 ea c n l ry fun s3 I3=>⟨σ,_,I3,q2⟩
theorem ps_fldaug {op:Operator}{rd:V→V→Hp→VK→Prop}(ha:PE X o ta) (hv:PE X value tv) (hop:InOp X op rd):PS X (.AugAssign (.Attribute o f tpos) op value pos) (sFldAug X.K ta tv rd f):=by
 intro pins s σ H D I h;refine wpAny_AugAssign_AttributeAny (thn (ha pins s σ H _ I h) fun ov s1 ⟨x,H1,I1,rx,a,C,dx,fs,v,ex,ea,c,n,l,q⟩ =>?_)
 subst ex;obtain rfl:ov=Value.ref a:=rx;refine getattr_ok I1 ea c n l fun u s2 I2 ru=>thn (hv pins s2 σ H1 _ I2 q) fun w3 s3 ⟨y,H2,I3,ry,q3⟩=>thn (hop pins s3 σ H2 v y u w3 _ I3 ru ry q3) fun w4 s4 ⟨z,H3,I4,rz,dx',fs',ea',l',q4⟩ =>?_
 exact setattr_ok I4 ea' c n l' rz fun s5 I5=>⟨σ,_,I5,q4⟩
noncomputable def rAdd:V→V→Hp→VK→Prop:=fun x y H Q=>∃ i j,x=.int i∧y=.int j∧Q (.int (i+j)) H
theorem in_add:InOp X .Add rAdd:=by
 rintro pins s σ H x y u v Q I rx ry ⟨i,j,rfl,rfl,q⟩;obtain⟨t,rfl⟩:=(show ∃ t,u=Value.int i t from rx)
 obtain⟨t',rfl⟩:=(show ∃ t',v=Value.int j t' from ry)
 exact PyProof.Rows.iadd_int ⟨.int (i+j),H,I.tok _,⟨_,rfl⟩,q⟩
theorem methcall_of {pl:Sem Bool}{m:Str}{apos:Pos}{args:List Expr}{pins:List (Addr×Obj)}{s:Shared}{σ:St}{H:Hp}{Q:Value→Shared→Prop}{te:TE}(he:PE X e te) (I:Inv X pins σ H s)
  (h:te σ H fun x H1=>∃ a C dx fs g,x=.ref a∧H1 a=some (.ins C dx fs)∧Cls X.K C∧Meth X.K C m g∧fs.lookup m=none ∧
   ∀ s1,Inv X pins σ H1 s1→wpAny (model X.prog X.w) X.A (callWith pos (.ref g) [.ref a] (backTo pos (starEach args X.env)) (backToKw pos (keywordEach [] X.env))) Q X.xe s1)
  (ht:eval (.Call (.Attribute e m apos) args [] pos) X.env=(do
   let ov ← eval e X.env
   standAt apos.atName
   let (f,first) ← holding [ov] (getMethod ov m pl)
   callWith pos f first (backTo pos (starEach args X.env)) (backToKw pos (keywordEach [] X.env)))) :
  wpAny (model X.prog X.w) X.A (eval (.Call (.Attribute e m apos) args [] pos) X.env) Q X.xe s:=by
 refine PySem.W.methodCall_KW (pl:=pl) (thn (he pins s σ H _ I h) fun u s1 ⟨x,H1,I1,rx,a,C,dx,fs,g,ex,ea,c,k,l,q⟩ =>?_) ht
 subst ex;obtain rfl:u=Value.ref a:=rx;exact getmeth_ok I1 ea c k l (q s1 I1)
end
noncomputable section
variable {X:Cx}{pins:List (Addr×Obj)}{σ:St}{H:Hp}{s:Shared}{A:Around}{E:Value→Shared→Prop}{Q:Value→Shared→Prop}{c:Value}{b:Bool}
inductive TyOf (K:Frag) (H:Hp):V→Value→Prop where
 | non:TyOf K H .non (.type "NoneType")
 | bl (x:Bool):TyOf K H (.bl x) (.type "bool")
 | int (i:Int):TyOf K H (.int i) (.type "int")
 | str (x:Str):TyOf K H (.str x) (.type "str")
 | flt (x:UInt64):TyOf K H (.flt x) (.type "float")
 | lst {a:Addr}{xs:List V}(e:H a=some (.lst xs)):TyOf K H (.ref a) (.type "list")
 | frz {a:Addr}{o:Obj}{xs:List V}(e:H a=some (.frz o (.lst xs))):TyOf K H (.ref a) (.type "list")
 | tup {a:Addr}{xs:List V}(e:H a=some (.tup xs)):TyOf K H (.ref a) (.type "tuple")
 | dK {a:Addr}{kvs:List (Key×V)}(e:H a=some (.dK kvs)):TyOf K H (.ref a) (.type "dict")
 | dT {a:Addr}{kvs:List (List Key×V)}(e:H a=some (.dT kvs)):TyOf K H (.ref a) (.type "dict")
 | ins {a C dx:Addr}{fs:List (Str×V)}(e:H a=some (.ins C dx fs)) (cl:Cls K C) (ha:findIn K (.ref C) "__class__" = some (some (.builtin "object.__class__")))
   (hn:PySem.W.specialIn K (.builtin "object.__class__") "__get__" = some (some (.builtin "getset_descriptor.__get__"))) (htk:PySem.W.takesIn K (.builtin "object.__class__")=some true)
   (hm:PySem.W.mroIn K C (.type "object")=some true):TyOf K H (.ref a) (.ref C)
theorem isinst_ok {x:V}{u t:Value}(I:Inv X pins σ H s) (rx:RelV x u) (ty:TyOf X.K H x t) (e:kitOne X.K t c=some b) (h:∀ tk,Q (.bool b) { s with toks:=tk }) :
  wpAny (model X.prog X.w) A (call (.builtin "isinstance") [u,c]) Q E s:=by
 cases ty with
 | non=>cases (show u=Value.none from rx);exact kia_one PySem.W.kitx_none I.kIn True.intro e (fun z=>nomatch z) h
 | bl y=>cases (show u=Value.bool y from rx);exact kia_one PySem.W.kitx_bool I.kIn True.intro e (fun z=>nomatch z) h
 | int i=>obtain⟨t,q⟩:=(show ∃ t,u=Value.int i t from rx);cases q;exact kia_one PySem.W.kitx_int I.kIn True.intro e (fun z=>nomatch z) h
 | str y=>obtain⟨t,q⟩:=(show ∃ t,u=Value.str y t from rx);cases q;exact kia_one PySem.W.kitx_str I.kIn True.intro e (fun z=>nomatch z) h
 | flt y=>obtain⟨t,q⟩:=(show ∃ t,u=Value.float y t from rx);cases q;exact kia_one PySem.W.kitx_float I.kIn True.intro e (fun z=>nomatch z) h
 | @lst a xs ea=>
  cases (show u=Value.ref a from rx)
  obtain⟨_,_,n,_,h1⟩:=(show ObjOk X.prog X.w H s.heap a (.lst xs) from I.hok a _ ea)
  exact kia_one PySem.W.kitx_list I.kIn ⟨_,h1,rfl⟩ e (fun z=>nomatch z) h
 | @frz a ob xs ea=>
  cases (show u=Value.ref a from rx)
  obtain⟨_,_,_,n,_,h1⟩:=(show ObjOk X.prog X.w H s.heap a (.frz ob (.lst xs)) from I.hok a _ ea)
  exact kia_one PySem.W.kitx_list I.kIn ⟨_,h1,rfl⟩ e (fun z=>nomatch z) h
 | @tup a xs ea=>
  cases (show u=Value.ref a from rx)
  obtain⟨_,_,_,p⟩:=(show ObjOk X.prog X.w H s.heap a (.tup xs) from I.hok a _ ea)
  obtain⟨o,h1,h2,_⟩:=p;exact kia_one PySem.W.kitx_tuple I.kIn ⟨o,h1,h2⟩ e (fun z=>nomatch z) h
 | @dK a kvs ea=>
  cases (show u=Value.ref a from rx)
  obtain⟨_,_,vs,_,p⟩:=(show ObjOk X.prog X.w H s.heap a (.dK kvs) from I.hok a _ ea)
  obtain⟨o,es,ep,h1,h2,_⟩:=p;exact kia_one PySem.W.kitx_dict I.kIn ⟨o,h1,h2.1⟩ e (fun z=>nomatch z) h
 | @dT a kvs ea=>
  cases (show u=Value.ref a from rx)
  obtain⟨_,_,xs,_,o,es,ep,h1,h2,_⟩:=(show ObjOk X.prog X.w H s.heap a (.dT kvs) from I.hok a _ ea)
  exact kia_one PySem.W.kitx_dict I.kIn ⟨o,h1,h2.1⟩ e (fun z=>nomatch z) h
 | @ins a C dx fs ea cl ha hn htk hm=>
  cases (show u=Value.ref a from rx)
  obtain⟨mA,O,_⟩:=ins_get I.hok ea;obtain⟨od,J,_⟩:=O.look;exact kia_one (PySem.W.kitx_own (cl.get _) cl.hd ha hn htk hm) I.kIn J e (fun z=>nomatch z) h
end
end L2
namespace L2
open PySem PySem.Spec PyProof.Rows
structure Room (k:Nat) (A:Around):Prop where
 hd:A.handled=none
 dp:A.depth+3*k+5<recursionLimit
 un:A.units+16*k+200<cLine
theorem Room.mono {j k:Nat}{A:Around}(r:Room k A) (h:j≤k):Room j A:=⟨r.hd,by have:=r.dp;omega,by have:=r.un;omega⟩
theorem Room.deeper {k:Nat}{A:Around}(r:Room (k+1) A) (env:Env):Room k (A.deeper env):=
 ⟨r.hd,by have:=r.dp;show A.depth+1+3*k+5<_;omega,by have:=r.un;show A.units+3+16*k+200<_;omega⟩
theorem Room.in1 {k:Nat}{A:Around}(r:Room (k+1) A):Room k A.in1:=
 ⟨r.hd,by have:=r.dp;show A.depth+3*k+5<_;omega,by have:=r.un;show A.units+1+16*k+200<_;omega⟩
theorem make_depth {A:Around}{C:Addr}{us:List Value}{kw:List (Str×Value)}:(A.under (.builtin "type.__call__" ⟨.ref C::us,kw⟩)).depth=A.depth+1:=by
 first|rfl|simp[Around.under,Code.weight,Code.isCreation,Code.isGuard,Code.isCaller,Code.frames,Code.isFrame,guardIds]
theorem make_units {A:Around}{C:Addr}{us:List Value}{kw:List (Str×Value)}:(A.under (.builtin "type.__call__" ⟨.ref C::us,kw⟩)).units=A.units+1:=by
 first|rfl|simp[Around.under,Code.cUnits,Code.frames,Code.isFrame]
theorem Room.make {k:Nat}{A:Around}(r:Room (k+1) A) (C:Addr) (us:List Value) (kw:List (Str×Value)):Room k (A.under (.builtin "type.__call__" ⟨.ref C::us,kw⟩)):=
 ⟨r.hd,by have:=r.dp;rw[make_depth];omega,by have:=r.un;rw[make_units];omega⟩
theorem Room.depth {k:Nat}{A:Around}(r:Room k A):A.depth<recursionLimit:=by have:=r.dp;omega
theorem Room.units {k:Nat}{A:Around}(r:Room k A):A.units+64<cLine:=by have:=r.un;omega
noncomputable def tNil:TA:=fun _ H Q=>Q [] H
noncomputable def tCons (ta:TE) (tr:TA):TA:=fun σ H Q=>ta σ H fun x H1=>tr σ H1 fun xs H2=>Q (x::xs) H2
noncomputable section
variable {X:Cx}{e:Expr}{es:List Expr}{te:TE}{t:TA}{pos:Pos}
theorem pa_nil:PA X [] tNil:=fun _ _ _ _ H Q I h=>Calls.spliced_nil ⟨[],H,I,.nil,h⟩
theorem pa_cons (ha:PE X e te) (hr:PA X es t) (hs:starEach (e::es) X.env=(false,eval e X.env)::starEach es X.env:=by rfl):PA X (e::es) (tCons te t):=by
 intro pos pins s σ H Q I h;rw[hs];show wpAny _ _ (spliced ((false,eval e X.env)::backTo pos (starEach es X.env))) _ _ s;refine Calls.spliced_cons (thn (ha pins s σ H _ I h) fun u s1 ⟨x,H1,I1,r1,q1⟩ =>?_)
 exact thn (hr pos pins s1 σ H1 _ I1 q1) fun us s2 ⟨xs,H2,I2,r2,q2⟩=>⟨x::xs,H2,I2,.cons r1 r2,q2⟩
noncomputable def tTup (t:TA):TE:=fun σ H Q=>t σ H fun xs H1=>xs.length≤sizeLine∧∀ p,H1 p=none→Q (.ref p) (upd H1 p (.tup xs))
noncomputable def tLst (t:TA):TE:=fun σ H Q=>t σ H fun xs H1=>xs.length≤sizeLine∧∀ p,H1 p=none→Q (.ref p) (upd H1 p (.lst xs))
theorem pe_tup {x1} (h:PA X es t):PE X (.Tuple es x1 pos) (tTup t):=by
 intro pins s σ H Q I hq;refine wpAny_Tuple_spliced (thn (h pos pins s σ H _ I hq) fun us s1 ⟨xs,H1,I1,r,z,q⟩=>⟨by rw[← r.length];exact z,?_⟩)
 have hf:H1 s1.heap.objs.size=none:=I1.hok.fresh (zL _);refine⟨.ref s1.heap.objs.size,upd H1 s1.heap.objs.size (.tup xs),I1.laid (t':=s1.toks) (fun b u e=>zF _ e) (zL _) ?_,rfl,q _ hf⟩
 exact⟨z,us,r,⟨_,zV _ rfl,rfl,_,rfl⟩⟩
theorem pe_lst (h:PA X es t):PE X (.List es pos) (tLst t):=by
 intro pins s σ H Q I hq;refine wpAny_List_spliced (thn (h pos pins s σ H _ I hq) fun us s1 ⟨xs,H1,I1,r,z,q⟩=>⟨by rw[← r.length];exact z,?_⟩)
 have hf:H1 s1.heap.objs.size=none:=I1.hok.fresh (zL _);refine⟨.ref s1.heap.objs.size,upd H1 s1.heap.objs.size (.lst xs),I1.laid (t':=s1.toks) (fun b u e=>zF _ e) (zL _) ?_,rfl,q _ hf⟩
 exact⟨z,us,0,r,zV _ rfl⟩
end
noncomputable abbrev Sp:=List V→Hp→VK→XK→Prop
noncomputable abbrev CXT:=List Env→Hp→Shared→XK→Value→Shared→Prop
structure Env0 (P:Program) (w:World) (K:Frag) (mg:Str→Option Value) (base:Heap) (A:Around) (outer:List Env) (s:Shared) (H:Hp):Prop where
 frames:A.frames=some outer
 mod:Mod K mg base
 bs:∀ b o,base.get? b=some o→s.heap.get? b=some o∧H b=none
 bsz:base.objs.size≤s.heap.objs.size
 funs:s.heap.FunFrames base outer
 frf:∀ b∈frs outer,H b=none
 hok:HOk P w H s.heap
 bare:AllBare s.gens
noncomputable def CE (outer:List Env) (P:Program) (w:World) (H:Hp) (s:Shared) (Q:VK) (u:Value) (s':Shared):Prop:=
 ∃ v H',s'.os=s.os∧AllBare s'.gens∧Un (frs outer) [] H H' s.heap s'.heap∧HOk P w H' s'.heap∧RelV v u∧Q v H'
noncomputable def CR (CX:CXT) (outer:List Env) (P:Program) (w:World) (H:Hp) (s:Shared) (Q:VK) (E:XK) (r:Result) (s':Shared):Prop:=
 match r with
 | .ok (.ret u)=>CE outer P w H s Q u s'
 | .ok _=>False
 | .error e=>CX outer H s E e s'
structure FnOk (P:Program) (w:World) (K:Frag) (mg:Str→Option Value) (base:Heap) (CX:CXT) (k:Nat) (f:Addr) (fd:FuncData) (ps:List Str) (sp:Sp):Prop where
 len:∀ vs H Q E,sp vs H Q E→vs.length=ps.length
 run:∀ (A:Around) (outer:List Env) (s:Shared) (H:Hp) (args:Args) (us:List Value) (vs:List V) (Q:VK) (E:XK),Room k A→Env0 P w K mg base A outer s H→BindsTo s fd args (ps.zip us)→Vals vs us→sp vs H Q E →
  codeAny (model P w) A (.call (.ref f) args) (CR CX outer P w H s Q E) s
theorem FnOk.mono {P:Program}{w:World}{K:Frag}{mg:Str→Option Value}{base:Heap}{CX:CXT}{j k:Nat}{f:Addr}{fd:FuncData}{ps:List Str}{sp:Sp}(F:FnOk P w K mg base CX j f fd ps sp) (h:j≤k) :
  FnOk P w K mg base CX k f fd ps sp:=⟨F.len,fun A outer s H args us vs Q E hr=>F.run A outer s H args us vs Q E (hr.mono h)⟩
theorem Env0.make {P:Program}{w:World}{K:Frag}{mg:Str→Option Value}{base:Heap}{A:Around}{outer:List Env}{s:Shared}{H:Hp}(e:Env0 P w K mg base A outer s H) (C:Addr) (us:List Value) (kw:List (Str×Value)) :
  Env0 P w K mg base (A.under (.builtin "type.__call__" ⟨.ref C::us,kw⟩)) outer s H:=⟨by first|exact e.frames|(simpa [Around.under,Code.envs,Code.isFrame,pushEnvs] using e.frames),e.mod,e.bs,e.bsz,e.funs,e.frf,e.hok,e.bare⟩
theorem Env0.in1 {P:Program}{w:World}{K:Frag}{mg:Str→Option Value}{base:Heap}{A:Around}{outer:List Env}{s:Shared}{H:Hp}(e:Env0 P w K mg base A outer s H) :
  Env0 P w K mg base A.in1 outer s H:=⟨e.frames,e.mod,e.bs,e.bsz,e.funs,e.frf,e.hok,e.bare⟩
noncomputable section
variable {X:Cx}{pins:List (Addr×Obj)}{σ:St}{H:Hp}{s s':Shared}
theorem Inv.env0 (I:Inv X pins σ H s):Env0 X.prog X.w X.K X.mg X.base X.A X.stack s H:=
 ⟨I.ok.frames,I.ok.mod,I.bs,yB I.ok.bsz I.sz,I.stack,I.stkFree,I.hok,I.bare⟩
theorem Inv.after {Q:VK}{u:Value}(I:Inv X pins σ H s) (h:CE X.stack X.prog X.w H s Q u s'):EP X pins σ Q u s':=by
 obtain⟨v,H',os,bare,un,hok,r,q⟩:=h;obtain⟨hh,g,d,t,os'⟩:=s';obtain rfl:os'=s.os:=os;exact⟨v,H',I.call (h':=hh) (g':=g) (d':=d) (t':=t) (ch:=[]) un hok bare (fun b z=>absurd z (by simp)),r,q⟩
end
noncomputable def tCall (sp:Sp) (dvs:List V) (E:XK) (t:TA):TE:=fun σ H Q=>t σ H fun vs H1=>sp (vs++dvs) H1 Q E
noncomputable def tMeth (C:Addr) (m:Str) (sp:Sp) (dvs:List V) (E:XK) (ta:TE) (t:TA):TE:=fun σ H Q=>ta σ H fun x H1=>∃ a dx fs,x=.ref a∧H1 a=some (.ins C dx fs)∧fs.lookup m=none ∧
 t σ H1 fun vs H2=>sp (x::(vs++dvs)) H2 Q E
noncomputable def tMake (C:Addr) (sp:Sp) (dvs:List V) (E:XK) (t:TA):TE:=fun σ H Q=>t σ H fun vs H1=>∀ x dx,H1 x=none→H1 dx=none→dx≠x →
 sp (.ref x::(vs++dvs)) (upd (upd H1 dx (.own x)) x (.ins C dx [])) (fun v H2=>v=.non∧Q (.ref x) H2) E
noncomputable def Binds (K:Frag) (fd:FuncData) (ps:List Str) (ds:List Value):Prop:=
 ∀ (s:Shared) (us:List Value),K.In s.heap→(us++ds).length=ps.length→BindsTo s fd ⟨us,[]⟩ (ps.zip (us++ds))
theorem Binds.all {K:Frag}{fd:FuncData}{ps:List Str}(h:∀ us:List Value,us.length=ps.length→bindArgs fd ⟨us,[]⟩=pure (ps.zip us)):Binds K fd ps []:=fun s us _ hl=>by
 rw[List.append_nil] at hl ⊢;exact .of_eq (h us hl)
noncomputable def Passes (CX:CXT) (X:Cx) (E:XK):Prop:=∀ (pins:List (Addr×Obj)) (σ:St) (H:Hp) (s:Shared) (e:Value) (s':Shared),Inv X pins σ H s→CX X.stack H s E e s'→X.xe e s'
noncomputable section
variable {X:Cx}{CX:CXT}{k:Nat}{f C:Addr}{fd:FuncData}{ps:List Str}{sp:Sp}{dvs:List V}{ds:List Value}{E:XK}{x m:Str}{p pos apos:Pos}{e o:Expr}{es:List Expr}{ta:TE}{t:TA}
theorem run_fn {pins:List (Addr×Obj)}{σ:St}{H:Hp}{s:Shared}{Q:VK}{us:List Value}{vs:List V}(F:FnOk X.prog X.w X.K X.mg X.base CX k f fd ps sp) (hr:Room k X.A) (hb:Binds X.K fd ps ds) (hd:Vals dvs ds) (hx:Passes CX X E)
  (I:Inv X pins σ H s) (r:Vals vs us) (h:sp (vs++dvs) H Q E):wpAny (model X.prog X.w) X.A (call (.ref f) us) (EP X pins σ Q) X.xe s:=by
 have r2:Vals (vs++dvs) (us++ds):=r.append hd;have hl:(us++ds).length=ps.length:=by rw[← r2.length];exact F.len _ _ _ _ h
 refine wpAny_call (codeAny_mono (F.run X.A X.stack s H ⟨us,[]⟩ (us++ds) (vs++dvs) Q E hr I.env0 (hb s us I.kIn hl) r2 h) fun r s' hq =>?_)
 cases r with
 | error e=>exact hx pins σ H s e s' I hq
 | ok fl=>
  cases fl with
  | ret u=>exact I.after hq
  | next=>exact False.elim hq
  | brk=>exact False.elim hq
  | cont=>exact False.elim hq
theorem pe_call (F:FnOk X.prog X.w X.K X.mg X.base CX k f fd ps sp) (hr:Room k X.A) (hg:Gl X x) (hm:X.mg x=some (.ref f)) (hk:keepIn X.K (.ref f)=true) (hb:Binds X.K fd ps ds) (hd:Vals dvs ds) (hx:Passes CX X E)
  (ha:PA X (e::es) t) (hdb:(x==("__debug__" : Str))=false:=by decide) (he:starEach (e::es) X.env=(false,eval e X.env)::starEach es X.env:=by rfl) (hpl:(backTo pos (starEach es X.env)).any (·.1)=false:=by rfl) :
  PE X (.Call (.Name x p) (e::es) [] pos) (tCall sp dvs E t):=by
 intro pins s σ H Q I h;refine wpAny_Call_Name_kw (ld_glob I hg hm ?_ hdb);refine PySem.W.callWith_K (h₀:=X.base) I.ok.mod.kin hk (thn (ha pos pins s σ H _ I h) fun us s1 ⟨vs,H1,I1,r,q⟩=>⟨I1.kIn,?_⟩) he hpl
 exact run_fn F hr hb hd hx I1 r q
theorem pe_meth {pl:Sem Bool}(he:PE X o ta) (c:Cls X.K C) (hm:Meth X.K C m f) (F:FnOk X.prog X.w X.K X.mg X.base CX k f fd ps sp) (hr:Room k X.A) (hb:Binds X.K fd ps ds) (hd:Vals dvs ds) (hx:Passes CX X E) (ha:PA X (e::es) t)
  (hst:starEach (e::es) X.env=(false,eval e X.env)::starEach es X.env:=by rfl) (hpl:(backTo pos (starEach es X.env)).any (·.1)=false:=by rfl)
  (ht:eval (.Call (.Attribute o m apos) (e::es) [] pos) X.env=(do
   let ov ← eval o X.env
   standAt apos.atName
   let (f,first) ← holding [ov] (getMethod ov m pl)
   callWith pos f first (backTo pos (starEach (e::es) X.env)) (backToKw pos (keywordEach [] X.env))):=by rfl) :
  PE X (.Call (.Attribute o m apos) (e::es) [] pos) (tMeth C m sp dvs E ta t):=by
 intro pins s σ H Q I h;refine PySem.W.methodCall_KW (pl:=pl) (thn (he pins s σ H _ I h) fun u s1 ⟨x,H1,I1,rx,a,dx,fs,ex,ea,l,q⟩ =>?_) ht
 subst ex;obtain rfl:u=Value.ref a:=rx;refine getmeth_ok I1 ea c hm l ?_;refine PySem.W.callWith_K (first:=[.ref a]) (h₀:=X.base) I.ok.mod.kin hm.kp (thn (ha pos pins s1 σ H1 _ I1 q) fun us s2 ⟨vs,H2,I2,r,q2⟩=>⟨I2.kIn,?_⟩) hst hpl
 exact run_fn (us :=.ref a::us) (vs :=.ref a::vs) F hr hb hd hx I2 (.cons rfl r) q2
theorem pe_meth0 {pl:Sem Bool}(he:PE X o ta) (c:Cls X.K C) (hm:Meth X.K C m f) (F:FnOk X.prog X.w X.K X.mg X.base CX k f fd ps sp) (hr:Room k X.A) (hb:Binds X.K fd ps ds) (hd:Vals dvs ds) (hx:Passes CX X E)
  (ht:eval (.Call (.Attribute o m apos) [] [] pos) X.env=(do
   let ov ← eval o X.env
   standAt apos.atName
   let (f,first) ← holding [ov] (getMethod ov m pl)
   callWith pos f first (backTo pos (starEach [] X.env)) (backToKw pos (keywordEach [] X.env))):=by rfl) :
  PE X (.Call (.Attribute o m apos) [] [] pos) (tMeth C m sp dvs E ta tNil):=by
 intro pins s σ H Q I h;refine PySem.W.methodCall_KW (pl:=pl) (thn (he pins s σ H _ I h) fun u s1 ⟨x,H1,I1,rx,a,dx,fs,ex,ea,l,q⟩ =>?_) ht
 subst ex;obtain rfl:u=Value.ref a:=rx;refine getmeth_ok I1 ea c hm l ?_;exact PySem.W.callWith_K0 (first:=[.ref a]) I1.kIn hm.kp (run_fn (us:=[.ref a]) (vs:=[.ref a]) F hr hb hd hx I1 (.cons rfl .nil) q)
structure Mk (K:Frag) (C f:Addr):Prop where
 makes:makesIn K C=true
 init:findIn K (.ref C) "__init__" = some (some (.ref f))
 fn:PySem.W.isFn K (.ref f)=true
 kp:keepIn K (.ref C)=true
theorem run_make {pins:List (Addr×Obj)}{σ:St}{H:Hp}{s:Shared}{Q:VK}{us:List Value}{vs:List V}(M:Mk X.K C f) (F:FnOk X.prog X.w X.K X.mg X.base CX k f fd ps sp) (hr:Room (k+1) X.A) (hb:Binds X.K fd ps ds) (hd:Vals dvs ds)
  (hx:Passes CX X E) (I:Inv X pins σ H s) (r:Vals vs us)
  (h:∀ x dx,H x=none→H dx=none→dx≠x→sp (.ref x::(vs++dvs)) (upd (upd H dx (.own x)) x (.ins C dx [])) (fun v H2=>v=.non∧Q (.ref x) H2) E) :
  wpAny (model X.prog X.w) X.A (call (.ref C) us) (EP X pins σ Q) X.xe s:=by
 have hq:=h (s.heap.objs.size+1) s.heap.objs.size (I.hok.fresh (Nat.le_succ _)) (I.hok.fresh (zL _)) (zR (Nat.lt_succ_self _));have I2:=Inv.made (C:=C) I;have r2:Vals (V.ref (s.heap.objs.size+1)::(vs++dvs)) (Value.ref (s.heap.objs.size+1)::(us++ds)) :=.cons rfl (r.append hd);have hl:(Value.ref (s.heap.objs.size+1)::us++ds).length=ps.length:=by have e:=r2.length;rw[F.len _ _ _ _ hq] at e;exact e.symm
 refine wpAny_call (make_map (f:=f) I.kIn M.makes M.init (beq_iff_eq.mp M.fn) (codeAny_mono (F.run _ X.stack _ _ ⟨Value.ref (s.heap.objs.size+1)::us,[]⟩ (Value.ref (s.heap.objs.size+1)::(us++ds)) _ _ E (hr.make C us [])
  (I2.env0.make C us []) (hb _ (Value.ref (s.heap.objs.size+1)::us) I2.kIn hl) r2 hq) fun r s' hq' =>?_))
 cases r with
 | error e=>exact hx pins σ _ _ e s' I2 hq'
 | ok fl=>
  cases fl with
  | ret u=>obtain⟨v,H',I3,rv,ev,q3⟩:=I2.after hq';subst ev;exact⟨rv,⟨V.ref (s.heap.objs.size+1),H',I3,rfl,q3⟩⟩
  | next=>exact False.elim hq'
  | brk=>exact False.elim hq'
  | cont=>exact False.elim hq'
theorem pe_make (M:Mk X.K C f) (F:FnOk X.prog X.w X.K X.mg X.base CX k f fd ps sp) (hr:Room (k+1) X.A) (hg:Gl X x) (hm:X.mg x=some (.ref C)) (hb:Binds X.K fd ps ds) (hd:Vals dvs ds) (hx:Passes CX X E)
  (ha:PA X (e::es) t) (hdb:(x==("__debug__" : Str))=false:=by decide) (he:starEach (e::es) X.env=(false,eval e X.env)::starEach es X.env:=by rfl) (hpl:(backTo pos (starEach es X.env)).any (·.1)=false:=by rfl) :
  PE X (.Call (.Name x p) (e::es) [] pos) (tMake C sp dvs E t):=by
 intro pins s σ H Q I h;refine wpAny_Call_Name_kw (ld_glob I hg hm ?_ hdb);refine PySem.W.callWith_K (h₀:=X.base) I.ok.mod.kin M.kp (thn (ha pos pins s σ H _ I h) fun us s1 ⟨vs,H1,I1,r,q⟩=>⟨I1.kIn,?_⟩) he hpl
 exact run_make M F hr hb hd hx I1 r q
end
noncomputable section
variable {X:Cx}{CX:CXT}{k:Nat}{f C:Addr}{fd:FuncData}{ps ks:List Str}{sp:Sp}{E:XK}{x m:Str}{p pos apos kpos:Pos}{e o:Expr}{es:List Expr}{kws:List Keyword}{te ta:TE}{t tk:TA}{nm:Option Str}
variable {g:List Value→List Value→List Value}{gV:List V→List V→List V}
end
structure FnScope (N P:List Str) (sc:Scope):Prop where
 kind:sc.kind=.function
 co:sc.isCoroutine=false
 gen:sc.isGenerator=false
 nd:N.Nodup
 pre:N.take P.length=P
 par:∀ x∈P,sc.names.lookup x=some .local∨sc.names.lookup x=some .cell
 nofree:∀ y∈sc.names,y.2 ≠ .free
theorem bindL_out {kindOf:Str→Option NameKind}{x:Str}:∀ {binds:List (Str×Value)}{m:Str→Option Value},(∀ v,(x,v)∉binds)→bindL kindOf binds m x=m x
 | [],_,_=>rfl
 | (n,v)::r,m,h=>by
  unfold bindL;rw[bindL_out fun w hw=>h w (zB _ hw)]
  split
  ·have:x≠n:=by rintro rfl;exact h v zD
   simp[this]
  ·rfl
theorem bindC_out {kindOf:Str→Option NameKind}{x:Str}:∀ {binds:List (Str×Value)}{m:Str→Option Value},(∀ v,(x,v)∉binds)→bindC kindOf binds m x=m x
 | [],_,_=>rfl
 | (n,v)::r,m,h=>by
  unfold bindC;rw[bindC_out fun w hw=>h w (zB _ hw)]
  split
  ·rfl
  ·have:x≠n:=by rintro rfl;exact h v zD
   simp[this]
theorem bindL_get {kindOf:Str→Option NameKind}{x:Str}{v:Value}:∀ {P:List Str}{vs:List Value}{i:Nat}{m:Str→Option Value},P.Nodup→P[i]?=some x→vs[i]?=some v→kindOf x=some .local →
  bindL kindOf (P.zip vs) m x=some v
 | [],_,_,_,_,h,_,_=>by simp at h
 | _::_,[],_,_,_,_,h,_=>by simp at h
 | p::P,w::vs,0,m,nd,h1,h2,hk=>by
  simp at h1 h2;subst h1;subst h2;show bindL kindOf ((p,w)::P.zip vs) m p=_;unfold bindL;rw[bindL_out fun v hv=>(List.nodup_cons.mp nd).1 (List.of_mem_zip hv).1,if_pos hk]
  simp
 | p::P,w::vs,i+1,m,nd,h1,h2,hk=>by show bindL kindOf ((p,w)::P.zip vs) m x=_;unfold bindL;exact bindL_get (i:=i) (List.nodup_cons.mp nd).2 (by simpa using h1) (by simpa using h2) hk
theorem bindC_get {kindOf:Str→Option NameKind}{x:Str}{v:Value}:∀ {P:List Str}{vs:List Value}{i:Nat}{m:Str→Option Value},P.Nodup→P[i]?=some x→vs[i]?=some v→kindOf x≠some .local →
  bindC kindOf (P.zip vs) m x=some v
 | [],_,_,_,_,h,_,_=>by simp at h
 | _::_,[],_,_,_,_,h,_=>by simp at h
 | p::P,w::vs,0,m,nd,h1,h2,hk=>by
  simp at h1 h2;subst h1;subst h2;show bindC kindOf ((p,w)::P.zip vs) m p=_;unfold bindC;rw[bindC_out fun v hv=>(List.nodup_cons.mp nd).1 (List.of_mem_zip hv).1,if_neg hk]
  simp
 | p::P,w::vs,i+1,m,nd,h1,h2,hk=>by show bindC kindOf ((p,w)::P.zip vs) m x=_;unfold bindC;exact bindC_get (i:=i) (List.nodup_cons.mp nd).2 (by simpa using h1) (by simpa using h2) hk
noncomputable def start (N:List Str) (vs:List V):St:=vs.map some++List.replicate (N.length-vs.length) none
noncomputable def cxOf (CX:CXT) (P:Program) (w:World) (K:Frag) (mg:Str→Option Value) (base:Heap) (N:List Str) (qual:Str) (scope:Scope) (f:Addr) (cd:Value) (A:Around) (outer:List Env) (s:Shared) (H:Hp) (E:XK):Cx where
 prog:=P
 w:=w
 K:=K
 mg:=mg
 base:=base
 A:=A.deeper (envOfC qual scope s.heap.objs.size f cd)
 N:=N
 s₀:=s
 H₀:=H
 env:=envOfC qual scope s.heap.objs.size f cd
 outer:=outer
 stack:=envOfC qual scope s.heap.objs.size f cd::outer
 ex:=[]
 calm:=true
 fn:=fun _=>true
 pn:=[]
 xe:=fun e s'=>wpAny (model P w) (A.deeper (envOfC qual scope s.heap.objs.size f cd)) (leaving (envOfC qual scope s.heap.objs.size f cd) e) (fun _ s''=>CX outer H s E e s'') (fun e' s''=>CX outer H s E e' s'') s'
theorem cell_has {sc:Scope}{n:Nat}{x:Str}(h:sc.names.lookup x=some .cell):∃ c,(cellsFrom n sc.names []).lookup x=some c:=by
 have q:=PySem.W.cellsFrom_some sc.names n [] (.inl h);exact Option.isSome_iff_exists.mp q
theorem inv_start {CX:CXT}{P:Program}{w:World}{K:Frag}{mg:Str→Option Value}{base:Heap}{N ps:List Str}{qual:Str}{scope:Scope}{f:Addr}{cd:Value}{A:Around}{outer:List Env}{s s1:Shared}{H:Hp}{E:XK}{us:List Value}{vs:List V}
  (S:FnScope N ps scope) (hd:A.handled=none) (e0:Env0 P w K mg base A outer s H) (hl:vs.length=ps.length) (r:Vals vs us)
  (x:InCallC s s.heap.objs.size (bindL (envOfC qual scope s.heap.objs.size f cd).kindOf (ps.zip us) fun _=>none) (cellsFrom (s.heap.objs.size+1) scope.names []) (bindC (envOfC qual scope s.heap.objs.size f cd).kindOf (ps.zip us) fun _=>none) s1) :
  Inv (cxOf CX P w K mg base N qual scope f cd A outer s H E) [] (start N vs) H s1:=by
 have hpl:ps.length≤N.length:=by have:=congrArg List.length S.pre;rw[List.length_take] at this;omega
 obtain⟨h1,tk,rfl,hk⟩:=x.done;have noA:∀ b:Addr,b∉(cxOf CX P w K mg base N qual scope f cd A outer s H E).ex:=fun b z=>absurd (show b∈([]:List Addr) from z) (by simp)
 refine⟨⟨e0.mod,S.kind,rfl,rfl,zL _,fun y z c h1 h2 =>?_,fun y hy =>?_,fun y c _ h =>?_,fun _=>hd,Around.frames_deeper e0.frames,.inr ⟨rfl,rfl⟩,fun b z=>absurd z (noA b),e0.bs,e0.bsz,fun b _ _=>noA b,fun b z=>absurd z (noA b),e0.funs,e0.frf⟩,
  rfl,e0.bare,Un.kept hk,⟨_,x.toInCall.ns,fun i y v h1 h2 h3 =>?_⟩,fun y c h=>⟨_,x.cell y c h⟩,e0.hok.fresh (zL _),fun y c h =>?_,fun p hp=>absurd (show p∈([]:List (Addr×Obj)) from hp) (by simp),e0.hok.kept hk,?_⟩
 ·exact name_of_addr x.apart (PySem.mem_of_lookup h1) (PySem.mem_of_lookup h2)
 ·have hy:scope.names.lookup y=some .cell∨scope.names.lookup y=some .free:=hy;rcases hy with hy|hy
  ·exact cell_has hy
  ·exact absurd rfl (S.nofree _ (PySem.mem_of_lookup hy))
 ·exact Nat.le_of_lt (x.above y c (PySem.mem_of_lookup h))
 ·have hi:i<vs.length:=by
   unfold start at h2;by_cases hi:i<vs.length
   ·exact hi
   ·rw[List.getElem?_append_right (by simpa using hi)] at h2
    rw[List.getElem?_replicate] at h2
    split at h2<;>cases h2
  have ha:vs[i]?=some v:=by
   unfold start at h2;rw[yD (by simpa using hi),zM] at h2
   cases e:vs[i]? with
   | none=>rw[e] at h2;cases h2
   | some a=>rw[e] at h2;cases h2;rfl
  obtain⟨u,hu,rv⟩:=r.get ha;have hp:ps[i]?=some y:=by rw[← S.pre,List.getElem?_take_of_lt (by omega)];exact h1
  have ndP:ps.Nodup:=by rw[← S.pre];exact S.nd.sublist (List.take_sublist _ _)
  refine⟨u,rv,?_⟩;rcases S.par y (zX hp) with k|k
  ·exact .inl ⟨k,bindL_get ndP hp hu k⟩
  ·obtain⟨c,e⟩:=cell_has (n:=s.heap.objs.size+1) k;refine .inr ⟨.inl k,c,e,?_⟩;have q:=x.cell y c e;rw[bindC_get ndP hp hu (by show scope.names.lookup y≠_;rw[k];decide)] at q
   exact q
 ·exact e0.hok.fresh (Nat.le_of_lt (x.above y c (PySem.mem_of_lookup h)))
 ·unfold start;show _=N.length;rw[List.length_append,zH,List.length_replicate];omega
theorem fn_of {CX:CXT}{P:Program}{w:World}{K:Frag}{mg:Str→Option Value}{base:Heap}{k:Nat}{f:Addr}{name qual:Str}{params:Arguments}{body:List Stmt}{scope:Scope}{dV kV doc pm cdv ct oc:Value}{an od:Option Addr}
  {osl:Array (Option Value)}{N ps:List Str}{sp:Sp}(lk:K.lookup f=some ⟨oc,od,.func (fnOf name qual params body scope dV kV doc pm an cdv ct),osl⟩) (hcd:codeIn K cdv qual=true) (S:FnScope N ps scope)
  (len:∀ vs H Q E,sp vs H Q E→vs.length=ps.length)
  (hbody:∀ (A:Around) (outer:List Env) (s:Shared) (H:Hp) (vs:List V) (Q:VK) (E:XK),Room k (A.deeper (envOfC qual scope s.heap.objs.size f cdv))→sp vs H Q E →
   ∃ t,PSs (cxOf CX P w K mg base N qual scope f cdv A outer s H E) body t∧t { nx:=fun _ H'=>Q .non H',rt:=Q } (start N vs) H) :
  FnOk P w K mg base CX (k+1) f (fnOf name qual params body scope dV kV doc pm an cdv ct) ps sp:=by
 refine⟨len,fun A outer s H args us vs Q E hr e0 hb r hsp =>?_⟩
 have hl:=len _ _ _ _ hsp;have KX:K.In s.heap:=e0.mod.kin.keeps fun b o e=>(e0.bs b o e).1
 have lim:s.heap.NoLimit:=e0.mod.nolimit.keeps fun b o e=>(e0.bs b o e).1
 have hkind:∀ y∈ps.zip us,scope.names.lookup y.1=some .local∨(scope.names.lookup y.1=some .cell∧((cellsFrom (s.heap.objs.size+1) scope.names []).lookup y.1).isSome=true):=fun ⟨n,v⟩ hy=>by
  rcases S.par n (List.of_mem_zip hy).1 with q|q
  ·exact .inl q
  ·exact .inr ⟨q,PySem.W.cellsFrom_some _ _ _ (.inl q)⟩
 refine codeAny_call_function hr.depth (KX _ _ lk) rfl S.co S.gen rfl (PySem.W.codeRec_of KX hcd) (hb _ _ _ _ ?_);refine wpAny_newFunctionEnv_cells S.kind hkind fun env he s1 x =>?_
 subst he;refine⟨lim.keeps x.toInCall.keep,codeAny_func ?_⟩;obtain⟨t,ht,hq⟩:=hbody A outer s H vs Q E (hr.deeper _) hsp;have I:Inv (cxOf CX P w K mg base N qual scope f cdv A outer s H E) [] (start N vs) H s1:=inv_start S hr.hd e0 hl r x;refine wpAny_mono (ht [] s1 (start N vs) H _ I hq) (fun fl s' hs =>?_) fun e s' hs=>hs
 have fin:∀ {σ':St}{H':Hp}{v:V}{u:Value},Inv (cxOf CX P w K mg base N qual scope f cdv A outer s H E) [] σ' H' s'→RelV v u→Q v H'→CE outer P w H s Q u s':=
  fun {σ' H' v u} J rv q=>⟨v,H',J.os,J.bare,J.base,J.hok,rv,q⟩
 cases fl with
 | ret u=>obtain⟨v,σ',H',J,rv,q⟩:=hs;exact fin J rv q
 | next=>obtain⟨σ',H',J,q⟩:=hs;exact fin (v:=V.non) (u:=Value.none) J rfl q
 | brk=>obtain⟨_,_,_,q⟩:=hs;exact False.elim q
 | cont=>obtain⟨_,_,_,q⟩:=hs;exact False.elim q
end L2
namespace L2
open PySem PySem.Spec PyProof.Rows
noncomputable section
variable {X:Cx}{x:Str}{p pos:Pos}{e:Expr}{es:List Expr}{t:TA}{id T:String}{r:List V→Hp→VK→Prop}
noncomputable def tCB (r:List V→Hp→VK→Prop) (t:TA):TE:=fun σ H Q=>t σ H fun vs H1=>r vs H1 Q
theorem pe_callB (hc:CallR X (.builtin id) r) (hg:Gl X x) (hm:X.mg x=none) (hv:bootBuiltins x=some (.builtin id)) (ha:PA X (e::es) t) (hn:x ≠ "__name__" :=by decide) (hdb:(x==("__debug__" : Str))=false:=by decide)
  (he:starEach (e::es) X.env=(false,eval e X.env)::starEach es X.env:=by rfl) (hpl:(backTo pos (starEach es X.env)).any (·.1)=false:=by rfl):PE X (.Call (.Name x p) (e::es) [] pos) (tCB r t):=by
 intro pins s σ H Q I h;refine wpAny_Call_Name_kw (ld_blt I hg hm hv ?_ hn hdb);exact PyProof.Rows.callWith_builtin1 (thn (ha pos pins s σ H _ I h) fun us s1 ⟨vs,H1,I1,r1,q1⟩=>hc pins s1 σ H1 vs us Q I1 r1 q1) he hpl
theorem pe_callTy (hc:CallR X (.type T) r) (hg:Gl X x) (hm:X.mg x=none) (hv:bootBuiltins x=some (.type T)) (ha:PA X (e::es) t) (hn:x ≠ "__name__" :=by decide) (hdb:(x==("__debug__" : Str))=false:=by decide)
  (he:starEach (e::es) X.env=(false,eval e X.env)::starEach es X.env:=by rfl) (hpl:(backTo pos (starEach es X.env)).any (·.1)=false:=by rfl):PE X (.Call (.Name x p) (e::es) [] pos) (tCB r t):=by
 intro pins s σ H Q I h;refine wpAny_Call_Name_kw (ld_blt I hg hm hv ?_ hn hdb);exact PyProof.Rows.callWith_type1 (thn (ha pos pins s σ H _ I h) fun us s1 ⟨vs,H1,I1,r1,q1⟩=>hc pins s1 σ H1 vs us Q I1 r1 q1) he hpl
end
end L2
namespace HT
open PySem PyProof.Rows
noncomputable section
open PySem.SeqAt
open PySem.AutoSeq1 (wpAny_loadPart')
open PySem.MeetsSeq PySem.MeetsSeq2 PySem.MeetsSeq3
end
noncomputable section
variable {prog:Program}{w:World}{A:Around}{E:Value→Shared→Prop}{s:Shared}
noncomputable def sIx (n d:Nat):Option Int→Nat
 | none=>d
 | some v=>if v<0 then (v+(n:Int)).toNat else min v.toNat n
end
end HT
namespace L2
open PySem PySem.Spec PyProof.Rows
noncomputable abbrev TO:=St→Hp→(Option Int→Hp→Prop)→Prop
noncomputable def PO (X:Cx) (e:Option Expr) (t:TO):Prop:=
 ∀ (pins:List (Addr×Obj)) (s:Shared) (σ:St) (H:Hp) (Q:Option Int→Hp→Prop),Inv X pins σ H s→t σ H Q →
  wpAny (model X.prog X.w) X.A (evalPart e X.env) (fun u s'=>∃ o H',Inv X pins σ H' s'∧IsPart u o∧Q o H') X.xe s
noncomputable def tNoPart:TO:=fun _ H Q=>Q none H
noncomputable def tPart (t:TE):TO:=fun σ H Q=>t σ H fun x H1=>∃ i,x=.int i∧Q (some i) H1
noncomputable section
variable {X:Cx}{e:Expr}{te:TE}{lo hi:Option Expr}{tl th:TO}{pos p2:Pos}
theorem po_none:PO X none tNoPart:=by
 intro pins s σ H Q I h;rw[evalPart_none];exact zW ⟨none,H,I,.none,h⟩
theorem po_some (h:PE X e te):PO X (some e) (tPart te):=by
 intro pins s σ H Q I hw;rw[evalPart_some];refine thn (h pins s σ H _ I hw) fun u s1 ⟨x,H1,I1,r1,q1⟩ =>?_
 obtain⟨i,rfl,q⟩:=q1;obtain⟨t,rfl⟩:=r1;exact⟨some i,H1,I1,.int i t,q⟩
noncomputable def SlR (X:Cx) (r:V→Option Int→Option Int→Hp→VK→Prop):Prop:=
 ∀ (pins:List (Addr×Obj)) (s:Shared) (σ:St) (H:Hp) (x:V) (v vl vu:Value) (lo hi:Option Int) (sl:Addr) (Q:VK),Inv X pins σ H s→RelV x v→s.heap.IsSliceOf sl vl vu .none→IsPart vl lo→IsPart vu hi→r x lo hi H Q →
  ∃ T id,typeLookup (.type T) "__getitem__" = pure (some (.builtin id))∧s.TypeIs v T∧wpAny (model X.prog X.w) X.A (getItem v (.ref sl)) (EP X pins σ Q) X.xe s
noncomputable def tSl (r:V→Option Int→Option Int→Hp→VK→Prop) (te:TE) (tl th:TO):TE:=fun σ H Q=>te σ H fun x H1=>tl σ H1 fun l H2=>th σ H2 fun u H3=>r x l u H3 Q
theorem pe_slice {r:V→Option Int→Option Int→Hp→VK→Prop}(hr:SlR X r) (he:PE X e te) (hl:PO X lo tl) (hu:PO X hi th):PE X (.Subscript e (.Slice lo hi none p2) pos) (tSl r te tl th):=by
 intro pins s σ H Q I h;refine Subscript_ (thn (he pins s σ H _ I h) fun v s1 ⟨x,H1,I1,r1,q1⟩ =>?_)
 refine wpAny_Slice (thn (hl pins s1 σ H1 _ I1 q1) fun vl s2 ⟨l,H2,I2,pl,q2⟩=>thn (hu pins s2 σ H2 _ I2 q2) fun vu s3 ⟨u,H3,I3,pu,q3⟩ =>?_)
 rw[evalPart_none];refine zW ?_;have I4:Inv X pins σ H3 { s3 with heap:=s3.heap.push { cls :=.type "slice",data :=.fields #[vl,vu,.none] } }:=I3.kept (t':=s3.toks) fun b ob q=>zF _ q
 obtain⟨T,id,hT,ht,hg⟩:=hr pins { s3 with heap:=s3.heap.push { cls :=.type "slice",data :=.fields #[vl,vu,.none] } } σ H3 x v vl vu l u s3.heap.objs.size Q I4 r1 (Heap.IsSliceOf.new ..) pl pu q3;show wpAny (model X.prog X.w) X.A (subscriptTail e (.Slice lo hi none p2) v (.ref s3.heap.objs.size)) (EP X pins σ Q) X.xe { s3 with heap:=s3.heap.push { cls :=.type "slice",data :=.fields #[vl,vu,.none] } };exact tail_any (ops:=[.ref s3.heap.objs.size,v]) ht hT hg (by with_unfolding_all rfl)
noncomputable def cutV (xs:List V) (lo hi:Option Int):List V:=(xs.drop (HT.sIx xs.length 0 lo)).take (HT.sIx xs.length xs.length hi-HT.sIx xs.length 0 lo)
theorem cutV_length (xs:List V) (lo hi:Option Int):(cutV xs lo hi).length≤xs.length:=by
 unfold cutV;rw[List.length_take,List.length_drop];omega
end
end L2
namespace L2
open PySem PySem.Spec PyProof.Rows
noncomputable def ixN (n:Nat) (i:Int):Option Nat:=if 0≤i then (if i<n then some i.toNat else none) else if -(n:Int)≤i then some (i+n).toNat else none
noncomputable def atI {α:Type}(xs:List α) (i:Int):Option α:=(ixN xs.length i).bind fun j=>xs[j]?
theorem ixN_seq {n:Nat}{i:Int}{j:Nat}(h:ixN n i=some j):seqIndex? i n=some j∧j<n ∧ -(n:Int)≤i∧i<n:=by
 unfold ixN at h;by_cases h0:0≤i
 ·rw[if_pos h0] at h;by_cases h1:i<n
  ·rw[if_pos h1] at h;have e:i.toNat=j:=yA h;exact⟨by rw[seqIndex_of h0 h1,e],by omega,by omega,h1⟩
  ·rw[if_neg h1] at h;cases h
 ·rw[if_neg h0] at h;by_cases h1 : -(n:Int)≤i
  ·rw[if_pos h1] at h;have e:(i+n).toNat=j:=yA h;exact⟨by rw[seqIndex_neg (by omega) h1,e],by omega,h1,by omega⟩
  ·rw[if_neg h1] at h;cases h
theorem atI_get {α:Type}{xs:List α}{i:Int}{v:α}(h:atI xs i=some v):∃ j,seqIndex? i xs.length=some j∧xs[j]?=some v∧j<xs.length ∧ -(xs.length:Int)≤i∧i<xs.length:=by
 unfold atI at h;cases e:ixN xs.length i with
 | none=>rw[e] at h;cases h
 | some j=>rw[e] at h;obtain⟨h1,h2,h3,h4⟩:=ixN_seq e;exact⟨j,h1,h,h2,h3,h4⟩
theorem atI_nat {α:Type}{xs:List α}{j:Nat}{v:α}(h:xs[j]?=some v):atI xs (j:Int)=some v:=by
 have hj:j<xs.length:=(zC.mp h).1;have e:ixN xs.length (j:Int)=some j:=by unfold ixN;rw[if_pos (by omega),if_pos (by omega)];simp
 unfold atI;rw[e];exact h
noncomputable def PlainIx (b:Expr):Prop:=∀ o i,subscripted b false o i=operate [o,i] (getItem o i)
noncomputable def IxR (X:Cx) (r:R2):Prop:=
 ∀ (value slice:Expr) (pins:List (Addr×Obj)) (s:Shared) (σ:St) (H:Hp) (x y:V) (v u:Value) (Q:VK),Inv X pins σ H s→RelV x v→RelV y u→r x y H Q →
  subscripted slice false v u=operate [v,u] (getItem v u)→wpAny (model X.prog X.w) X.A (subscriptTail value slice v u) (EP X pins σ Q) X.xe s
noncomputable def MtR (X:Cx) (id:String) (r:V→List V→Hp→VK→Prop):Prop:=
 ∀ (pins:List (Addr×Obj)) (s:Shared) (σ:St) (H:Hp) (x:V) (xs:List V) (v:Value) (us:List Value) (Q:VK),Inv X pins σ H s→RelV x v→Vals xs us→r x xs H Q →
  wpAny (model X.prog X.w) X.A (call (.builtin id) (v::us)) (EP X pins σ Q) X.xe s
noncomputable section
variable {X:Cx}{a b:Expr}{ta tb:TE}{pos:Pos}
theorem IxR.or {r r':R2}(h:IxR X r) (h':IxR X r'):IxR X (fun x y H Q=>r x y H Q∨r' x y H Q):=by
 intro value slice pins s σ H x y v u Q I rx ry q hs;rcases q with q|q
 ·exact h value slice pins s σ H x y v u Q I rx ry q hs
 ·exact h' value slice pins s σ H x y v u Q I rx ry q hs
theorem pe_ix {r:R2}(hr:IxR X r) (ha:PE X a ta) (hb:PE X b tb) (hs:PlainIx b):PE X (.Subscript a b pos) (tOp r ta tb):=by
 intro pins s σ H Q I h;exact Subscript_ (binT ha hb I h fun v u s2 x y H2 I2 rx ry q=>hr a b pins s2 σ H2 x y v u Q I2 rx ry q (hs _ _))
noncomputable def rIxL (K:Frag):R2:=fun x y H Q=>∃ p xs i v,x=.ref p∧y=.int i∧SqL K H p xs∧atI xs i=some v∧Q v H
noncomputable def rIxT (K:Frag):R2:=fun x y H Q=>∃ p xs i v,x=.ref p∧y=.int i∧SqT K H p xs∧atI xs i=some v∧Q v H
noncomputable def rIxS:R2:=fun x y H Q=>∃ z i c,x=.str z∧y=.int i∧z.length≤sizeLine∧atI z.cps.toList i=some c∧Q (.str ⟨#[c]⟩) H
theorem ix_list:IxR X (rIxL X.K):=by
 intro value slice pins s σ H x y v u Q I rx ry h hs;obtain⟨p,xs,i,z,rfl,rfl,hq,he,q⟩:=h;cases rx;obtain⟨t,rfl⟩:=ry;obtain⟨its,r,pl,hz⟩:=I.list hq;obtain⟨j,h1,h2,h3,h4,h5⟩:=atI_get he;obtain⟨w,ew,rw'⟩:=r.get h2;have hl:=r.length;have hn:=line63;have fin:EP X pins σ Q w s:=⟨z,H,I,rw',q⟩;by_cases h0:0≤i
 ·have hj:i.toNat=j:=by rw[seqIndex_of h0 h5] at h1;exact yA h1
  exact item_listR pl.isList h0 (by omega) (by rw[hj];simpa using ew) fin hs
 ·have hj:(i+(its.toArray.size:Int)).toNat=j:=by
   rw[seqIndex_neg (by omega) h4] at h1
   rw[zN,← hl];exact yA h1
  exact subscriptTail_builtinR (x:=w) pl.isList.typeIs slot_list_getitem.lookup
   (wpAny_getItem_list_neg (Q:=fun r s'=>r=w∧EP X pins σ Q r s') pl.isList (by omega) (by rw[zN]<;>omega) (by omega) (by rw[hj];simpa using ew) ⟨rfl,fin⟩) hs
theorem ix_tup:IxR X (rIxT X.K):=by
 intro value slice pins s σ H x y v u Q I rx ry h hs;obtain⟨p,xs,i,z,rfl,rfl,hq,he,q⟩:=h;cases rx;obtain⟨t,rfl⟩:=ry;obtain⟨its,r,pl,hz⟩:=I.tuple hq;obtain⟨j,h1,h2,h3,h4,h5⟩:=atI_get he;obtain⟨w,ew,rw'⟩:=r.get h2;have hl:=r.length;have hn:=line63;have fin:EP X pins σ Q w s:=⟨z,H,I,rw',q⟩;exact subscriptTail_builtinR (x:=w) pl.typeIs slot_tuple_getitem.lookup
  (getItem_tuple (j:=j) (Q:=fun r s'=>r=w∧EP X pins σ Q r s') pl (by omega) (by omega) (by rw[zN,← hl];exact h1) (by simpa using ew) ⟨rfl,fin⟩) hs
theorem ix_str:IxR X rIxS:=by
 intro value slice pins s σ H x y v u Q I rx ry h hs;obtain⟨z,i,c,rfl,rfl,hz,he,q⟩:=h;obtain⟨t,rfl⟩:=rx;obtain⟨t',rfl⟩:=ry;obtain⟨j,h1,h2,h3,h4,h5⟩:=atI_get he;have hl:z.cps.toList.length=z.length:=by simp[Str.length]
 rw[hl] at h1 h4 h5;have hn:=line63;exact tail_any (typeIs_str s z t) slot_str_getitem.lookup (getItem_str (c:=c) (by
  have e1:decide (i < -(2 ^ 63:Int))=false:=decide_eq_false (by omega)
  have e2:decide (i ≥ 2 ^ 63)=false:=decide_eq_false (by omega)
  rw[e1,e2,Bool.or_false]) (by rw[h1];simpa using h2) ⟨.str ⟨#[c]⟩,H,I.tok _,⟨_,rfl⟩,q⟩) hs
noncomputable def rIx (K:Frag):R2:=fun x y H Q=>rIxL K x y H Q∨rIxT K x y H Q∨rIxS x y H Q
theorem ix_seq:IxR X (rIx X.K):=ix_list.or (ix_tup.or ix_str)
theorem mapSeq_set (its:List Value) (n j:Nat) (u:Value):Obj.mapSeq (·.setIfInBounds j u) { cls :=.type "list",data :=.seq its.toArray n }={ cls :=.type "list",data :=.seq (its.set j u).toArray n }:=by
 simp[Obj.mapSeq]
theorem Inv.lst {pins:List (Addr×Obj)}{σ:St}{H:Hp}{s:Shared}{p:Addr}{xs:List V}(I:Inv X pins σ H s) (h:H p=some (.lst xs)) :
  ∃ (its:List Value) (n:Nat),Vals xs its∧s.heap.get? p=some { cls :=.type "list",data :=.seq its.toArray n }∧xs.length≤sizeLine:=by
 obtain⟨z,its,n,r,e⟩:=I.hok p _ h;exact⟨its,n,r,e,z⟩
theorem Inv.lstUpd {pins:List (Addr×Obj)}{σ:St}{H:Hp}{s:Shared}{p:Addr}{xs ys:List V}{its its':List Value}{n n':Nat}{f:Obj→Obj}(I:Inv X pins σ H s) (h:H p=some (.lst xs))
  (ho:s.heap.get? p=some { cls :=.type "list",data :=.seq its.toArray n }) (hf:f { cls :=.type "list",data :=.seq its.toArray n }={ cls :=.type "list",data :=.seq its'.toArray n' }) (r:Vals ys its') (hz:ys.length≤sizeLine) (t:Nat) :
  Inv X pins σ (upd H p (.lst ys)) { s with heap:=s.heap.update p f,toks:=t }:=by
 have e:(s.heap.update p f).get? p=some { cls :=.type "list",data :=.seq its'.toArray n' }:=by rw[Heap.get?_update_self f ho (by rw[hf]<;>rfl),hf]
 refine I.write (x:=p) (e:=p) (by rw[h];trivial) (.inl rfl) (fun b u hb q=>(Heap.get?_update_other _ _ (Ne.symm hb)).trans q) ⟨_,e⟩ ?_
 exact⟨hz,its',n',r,e⟩
noncomputable def rSetL:V→V→V→Hp→(Hp→Prop)→Prop:=fun o i v H Q=>∃ p xs k j,o=.ref p∧i=.int k∧H p=some (.lst xs)∧ixN xs.length k=some j∧Q (upd H p (.lst (xs.set j v)))
theorem set_list:PSet X rSetL:=by
 intro pins s σ H o i v ov iv u Q I ro ri rv h;obtain⟨p,xs,k,j,rfl,rfl,hp,hj,q⟩:=h;cases ro;obtain⟨t,rfl⟩:=ri;obtain⟨its,n,r,ho,hz⟩:=I.lst hp;obtain⟨h1,h2,h3,h4⟩:=ixN_seq hj;have hl:=r.length;have hn:=line63;have I':Inv X pins σ (upd H p (.lst (xs.set j v))) { s with heap:=s.heap.update p (Obj.mapSeq (·.setIfInBounds j u)) }:=
  I.lstUpd hp ho (mapSeq_set its n j u) (r.set rv j) (by rw[List.length_set];exact hz) s.toks
 by_cases h0:0≤k
 ·have hk:k.toNat=j:=by rw[seqIndex_of h0 h4] at h1;exact yA h1
  exact PySem.W.ki_setAt ho h0 (by omega) (by rw[zN,← hl];exact h4) (by rw[hk];exact⟨_,I',q⟩)
 ·have hk:(k+(its.toArray.size:Int)).toNat=j:=by
   rw[seqIndex_neg (by omega) h3] at h1
   rw[zN,← hl];exact yA h1
  exact PySem.W.ki_setBack ho (by omega) (by rw[zN,← hl];exact h3) (by omega) (by rw[hk];exact⟨_,I',q⟩)
theorem slice_bounds (lo hi:Option Int) (n:Nat):(sliceBounds lo hi none n).1=((HT.sIx n 0 lo:Nat):Int)∧(sliceBounds lo hi none n).2.1=((HT.sIx n n hi:Nat):Int)∧(sliceBounds lo hi none n).2.2=1:=by
 refine⟨?_,?_,rfl⟩
 ·cases lo with
  | none=>simp[sliceBounds,HT.sIx]
  | some i=>
   simp only[sliceBounds,HT.sIx,Option.getD_none,show (1:Int) > 0 by decide,if_true]
   by_cases h:i<0
   ·simp only[h,if_true]<;>omega
   ·simp only[h,if_false]<;>omega
 ·cases hi with
  | none=>simp[sliceBounds,HT.sIx]
  | some i=>
   simp only[sliceBounds,HT.sIx,Option.getD_none,show (1:Int) > 0 by decide,if_true]
   by_cases h:i<0
   ·simp only[h,if_true]<;>omega
   ·simp only[h,if_false]<;>omega
theorem slicePick_cut (its:List Value) (lo hi:Option Int):slicePick its.toArray lo hi none=((its.drop (HT.sIx its.length 0 lo)).take (HT.sIx its.length its.length hi-HT.sIx its.length 0 lo)).toArray:=by
 obtain⟨h1,h2,h3⟩:=slice_bounds lo hi its.toArray.size;unfold slicePick;rw[h1,h2,h3];simp only[sliceRange_one,pick_run,zN]<;>rfl
noncomputable def rSlL (K:Frag):V→Option Int→Option Int→Hp→VK→Prop:=fun x lo hi H Q=>∃ a xs,x=.ref a∧SqL K H a xs∧∀ p,H p=none→Q (.ref p) (upd H p (.lst (cutV xs lo hi)))
theorem sl_list:SlR X (rSlL X.K):=by
 intro pins s σ H x v vl vu lo hi sl Q I rx hs pl pu h;obtain⟨a,xs,rfl,hx,q⟩:=h;cases rx;obtain⟨its,r,ht,hz⟩:=I.list hx;have hlen:=r.length;refine⟨"list",_,slot_list_getitem.lookup,ht.isList.typeIs,?_⟩;refine wpAny_getItem_list_slice ht.isList hs pl pu .none (by simp) ?_ (by rw[zN]<;>omega)
 rw[slicePick_cut,← hlen];refine⟨.ref s.heap.objs.size,_,I.laid (t':=s.toks) (o :=.lst (cutV xs lo hi)) (fun b ob q=>zF _ q) (zL _) ?_,rfl,q _ (I.hok.fresh (zL _))⟩
 exact⟨yB (cutV_length xs lo hi) hz,_,0,(r.drop (HT.sIx xs.length 0 lo)).take (HT.sIx xs.length xs.length hi-HT.sIx xs.length 0 lo),zV _ rfl⟩
noncomputable def flatV:V→Bool
 | .non=>true
 | .bl _=>true
 | .int _=>true
 | .str _=>true
 | _=>false
noncomputable def eqV:V→V→Bool
 | .non,.non=>true
 | .bl a,.bl b=>a==b
 | .bl a,.int b=>(if a then 1 else 0)==b
 | .int a,.bl b=>a==(if b then 1 else 0)
 | .int a,.int b=>a==b
 | .str a,.str b=>a==b
 | _,_=>false
theorem eqAt_V {A:Around}{s:Shared}{y x:V}{u v:Value}(ry:RelV y u) (rx:RelV x v) (fy:flatV y=true) (fx:flatV x=true):SeqAt.EqAt A s u v (eqV y x):=by
 cases y with
 | non=>
  cases ry;cases x with
  | non=>cases rx;exact SeqAt.EqAt.same _
  | bl b=>cases rx;exact SeqAt.EqAt.none_bool b
  | int b=>obtain⟨t,rfl⟩:=rx;exact SeqAt.EqAt.none_int b t
  | str b=>obtain⟨t,rfl⟩:=rx;exact SeqAt.EqAt.none_str b t
  | _=>exact absurd (show false=true from fx) zZ
 | bl a=>
  cases ry;cases x with
  | non=>cases rx;exact SeqAt.EqAt.bool_none a
  | bl b=>cases rx;exact SeqAt.EqAt.bool_bool a b
  | int b=>obtain⟨t,rfl⟩:=rx;exact SeqAt.EqAt.bool_int a b t
  | str b=>obtain⟨t,rfl⟩:=rx;exact SeqAt.EqAt.bool_str a b t
  | _=>exact absurd (show false=true from fx) zZ
 | int a=>
  obtain⟨t',rfl⟩:=ry;cases x with
  | non=>cases rx;exact SeqAt.EqAt.int_none a t'
  | bl b=>cases rx;exact SeqAt.EqAt.int_bool a t' b
  | int b=>obtain⟨t,rfl⟩:=rx;exact SeqAt.EqAt.int_int a t' b t
  | str b=>obtain⟨t,rfl⟩:=rx;exact SeqAt.EqAt.int_str a t' b t
  | _=>exact absurd (show false=true from fx) zZ
 | str a=>
  obtain⟨t',rfl⟩:=ry;cases x with
  | non=>cases rx;exact SeqAt.EqAt.str_none a t'
  | bl b=>cases rx;exact SeqAt.EqAt.str_bool a t' b
  | int b=>obtain⟨t,rfl⟩:=rx;exact SeqAt.EqAt.str_int a t' b t
  | str b=>obtain⟨t,rfl⟩:=rx;exact SeqAt.EqAt.str_str a t' b t
  | _=>exact absurd (show false=true from fx) zZ
 | _=>exact absurd (show false=true from fy) zZ
noncomputable def eqU (x:V) (u:Value):Bool:=match u with
 | .none=>eqV .non x
 | .bool b=>eqV (.bl b) x
 | .int i _=>eqV (.int i) x
 | .str z _=>eqV (.str z) x
 | _=>false
theorem eqU_of {x y:V}{u:Value}(r:RelV y u) (f:flatV y=true):eqU x u=eqV y x:=by
 cases y with
 | non=>cases r;rfl
 | bl b=>cases r;rfl
 | int i=>obtain⟨t,rfl⟩:=r;rfl
 | str z=>obtain⟨t,rfl⟩:=r;rfl
 | _=>exact absurd (show false=true from f) zZ
theorem any_eqU {x:V}:∀ {xs:List V}{us:List Value},Vals xs us→xs.all flatV=true→us.any (eqU x)=xs.any fun y=>eqV y x
 | _,_,.nil,_=>rfl
 | y::xs,u::us,.cons r t,f=>by rw[List.all_cons,Bool.and_eq_true] at f;rw[List.any_cons,List.any_cons,eqU_of r f.1,any_eqU t f.2]
theorem mem_eqAt {A:Around}{s:Shared}{x:V}{v:Value}(rx:RelV x v) (fx:flatV x=true):∀ {xs:List V}{us:List Value},Vals xs us→xs.all flatV=true→∀ u∈us,SeqAt.EqAt A s u v (eqU x u)
 | _,_,.nil,_=>fun u hu=>by cases hu
 | y::xs,u::us,.cons r t,f=>fun u' hu=>by
  rw[List.all_cons,Bool.and_eq_true] at f;rcases zG.mp hu with rfl|hu
  ·rw[eqU_of r f.1];exact eqAt_V r rx f.1 fx
  ·exact mem_eqAt rx fx t f.2 u' hu
noncomputable def inV (x:V) (xs:List V):Bool:=xs.any fun y=>eqV y x
noncomputable def rIn (K:Frag) (neg:Bool):R2:=fun x y H Q=>∃ p xs,y=.ref p∧(SqL K H p xs∨SqT K H p xs)∧flatV x=true∧xs.all flatV=true∧Q (.bl (if neg then !inV x xs else inV x xs)) H
theorem op_in_seq:OpR X (compareOp .In) (rIn X.K false):=by
 intro pins s σ H x y v u Q I rx ry h;obtain⟨p,xs,rfl,hq,fx,fs,q⟩:=h;cases ry;rcases hq with hq|hq
 ·obtain⟨its,r,pl,hz⟩:=I.list hq;refine SeqAt.in_listAt (eqU x) pl.isList (fun w hw=>mem_eqAt rx fx r fs w (by simpa using hw)) ⟨.bl _,H,I,rfl,?_⟩
  rw[show its.toArray.any (eqU x)=its.any (eqU x) by simp,any_eqU r fs]
  exact q
 ·obtain⟨its,r,pl,hz⟩:=I.tuple hq;refine SeqAt.in_tupleAt (eqU x) pl (fun w hw=>mem_eqAt rx fx r fs w (by simpa using hw)) ⟨.bl _,H,I,rfl,?_⟩
  rw[show its.toArray.any (eqU x)=its.any (eqU x) by simp,any_eqU r fs]
  exact q
theorem call_len_seq:CallR X (.builtin "len") (fun xs H Q=>∃ p ys,xs=[.ref p]∧(SqL X.K H p ys∨SqT X.K H p ys)∧Q (.int ys.length) H):=by
 intro pins s σ H xs us Q I r h;obtain⟨p,ys,rfl,hq,q⟩:=h;obtain⟨u,rfl,rx⟩:=vals1 r;cases rx;have hn:=line63;rcases hq with hq|hq
 ·obtain⟨its,r',pl,hz⟩:=I.list hq;have hlen:=r'.length;exact Calls.call_len_list pl.isList (by simp only[zN]<;>omega) ⟨.int ys.length,H,I.tok _,⟨s.toks+1,by rw[zN,hlen]⟩,q⟩
 ·obtain⟨its,r',pl,hz⟩:=I.tuple hq;have hlen:=r'.length;exact len_tuple pl (by simp only[zN]<;>omega) ⟨.int ys.length,H,I.tok _,⟨s.toks+1,by rw[zN,hlen]⟩,q⟩
theorem call_len_str:CallR X (.builtin "len") (fun xs H Q=>∃ z,xs=[.str z]∧z.length≤sizeLine∧Q (.int z.length) H):=by
 intro pins s σ H xs us Q I r h;obtain⟨z,rfl,hz,q⟩:=h;obtain⟨u,rfl,t,rfl⟩:=vals1 r;have hn:=line63;exact len_str (by omega) ⟨.int z.length,H,I.tok _,⟨_,rfl⟩,q⟩
theorem CallR.or {f:Value}{r r':List V→Hp→VK→Prop}(h:CallR X f r) (h':CallR X f r'):CallR X f (fun xs H Q=>r xs H Q∨r' xs H Q):=by
 intro pins s σ H xs us Q I rs q;rcases q with q|q
 ·exact h pins s σ H xs us Q I rs q
 ·exact h' pins s σ H xs us Q I rs q
noncomputable def tyV (K:Frag) (T:String) (x:V) (H:Hp):Prop:=match x with
 | .str _=>T = "str"
 | .int _=>T = "int"
 | .ref p=>(T = "list" ∧ ∃ xs,SqL K H p xs)∨(T = "tuple" ∧ ∃ o,K.lookup p=some o∧o.cls=.type "tuple" ∧o.dict=none) ∨
   (T = "dict" ∧((∃ kvs,H p=some (.dK kvs))∨∃ kvs,H p=some (.dT kvs)))∨(T = "set" ∧ ∃ S n,H p=some (.set S n))
 | _=>False
theorem tyV_is {pins:List (Addr×Obj)}{σ:St}{H:Hp}{s:Shared}{T:String}{x:V}{v:Value}(I:Inv X pins σ H s) (r:RelV x v) (ty:tyV X.K T x H) :
  s.TypeIs v T∧∀ a,v=.ref a→∃ ob,s.heap.get? a=some ob∧ob.dict=none:=by
 cases x with
 | str z=>
  obtain⟨t,rfl⟩:=r;cases (show T = "str" from ty)
  exact⟨typeIs_str s z t,fun _ e=>nomatch e⟩
 | int i=>
  obtain⟨t,rfl⟩:=r;cases (show T = "int" from ty)
  exact⟨typeIs_int s i t,fun _ e=>nomatch e⟩
 | ref p=>
  cases r;rcases ty with ⟨rfl,xs,hq⟩|⟨rfl,o,hk,hc,hd⟩|⟨rfl,hk⟩|⟨rfl,S,n,hk⟩
  ·obtain⟨its,_,pl,_⟩:=I.list hq;refine⟨pl.isList.typeIs,fun a e =>?_⟩
   cases e;obtain⟨o,n,e,c,hd,_⟩:=pl;exact⟨o,e,hd⟩
  ·refine⟨⟨o,I.kIn p o hk,hc⟩,fun a e =>?_⟩
   cases e;exact⟨o,I.kIn _ o hk,hd⟩
  ·have z:∃ o,s.heap.get? p=some o∧o.ExactDict:=by
    rcases hk with ⟨kvs,hk⟩|⟨kvs,hk⟩
    ·obtain⟨_,_,_,_,o,_,_,e,ex,_⟩:=I.hok p _ hk;exact⟨o,e,ex⟩
    ·obtain⟨_,_,_,_,o,_,_,e,ex,_⟩:=I.hok p _ hk;exact⟨o,e,ex⟩
   obtain⟨o,e,ex⟩:=z;refine⟨⟨o,e,ex.1⟩,fun a e2 =>?_⟩
   cases e2;exact⟨o,e,ex.2.1⟩
  ·obtain⟨o,_,_,_,e,ex,_⟩:=I.hok p _ hk;refine⟨⟨o,e,ex.1⟩,fun a e2 =>?_⟩
   cases e2;exact⟨o,e,ex.2.1⟩
 | _=>exact False.elim ty
noncomputable def tBM0 (K:Frag) (T:String) (r:V→List V→Hp→VK→Prop) (to:TE):TE:=fun σ H Q=>to σ H fun x H1=>tyV K T x H1∧r x [] H1 Q
noncomputable def tBM (K:Frag) (T:String) (r:V→List V→Hp→VK→Prop) (to:TE) (t:TA):TE:=fun σ H Q=>to σ H fun x H1=>tyV K T x H1∧t σ H1 fun xs H2=>r x xs H2 Q
variable {o e:Expr}{es:List Expr}{to:TE}{t:TA}{name:Str}{apos cpos:Pos}{T id:String}{r:V→List V→Hp→VK→Prop}
theorem pe_bm0 (pa:PlainAttrs T) (slot:Slot T name id) (hty:typeOf (.builtin id)=pure (.type "method_descriptor")) (hm:MtR X id r) (ho:PE X o to)
  (hbase:attributeBase o name X.env (eval o X.env)=eval o X.env:=by rfl) (hline:(apos.endLine==cpos.line)=true:=by rfl):PE X (.Call (.Attribute o name apos) [] [] cpos) (tBM0 X.K T r to):=by
 intro pins s σ H Q I h;refine wpAny_Call_method0_late hbase hline (thn (ho pins s σ H _ I h) fun v s1 ⟨x,H1,I1,r1,ty,q1⟩ =>?_)
 obtain⟨h1,h2⟩:=tyV_is I1 r1 ty;exact⟨T,id,pa,slot,hty,h1,h2,Calls.callWith_builtin rfl (PySem.evalArgs_none (hm pins s1 σ H1 x [] v [] Q I1 r1 .nil q1))⟩
theorem pe_bm (pa:PlainAttrs T) (slot:Slot T name id) (hty:typeOf (.builtin id)=pure (.type "method_descriptor")) (hm:MtR X id r) (ho:PE X o to) (ha:PA X (e::es) t)
  (hbase:attributeBase o name X.env (eval o X.env)=eval o X.env:=by rfl)
  (hfew:((backTo cpos (starEach (e::es) X.env)).all (fun x=> !x.1)&&(backToKw cpos (keywordEach [] X.env)).all (fun x=>x.1.isSome)
   && decide ((e::es).length+([]:List Keyword).length+(if ([]:List Keyword).isEmpty then 0 else 1)<30))=true:=by rfl)
  (hline:(apos.endLine==cpos.line)=true:=by rfl) (hs:starEach (e::es) X.env=(false,eval e X.env)::starEach es X.env:=by rfl) (hplain:(backTo cpos (starEach es X.env)).any (·.1)=false:=by rfl) :
  PE X (.Call (.Attribute o name apos) (e::es) [] cpos) (tBM X.K T r to t):=by
 intro pins s σ H Q I h;refine wpAny_Call_method_late hbase hfew hline rfl (thn (ho pins s σ H _ I h) fun v s1 ⟨x,H1,I1,r1,ty,q1⟩ =>?_)
 obtain⟨h1,h2⟩:=tyV_is I1 r1 ty;refine⟨T,id,pa,slot,hty,h1,h2,?_⟩;have hA:=ha cpos pins s1 σ H1 _ I1 q1;rw[hs] at hA ⊢;refine Calls.callWith_builtin (by show (false||(backTo cpos (starEach es X.env)).any (·.1))=false;rw[hplain]<;>rfl) (Calls.evalArgs_plain ?_)
 exact thn hA fun us s2 ⟨vs,H2,I2,r2,q2⟩=>hm pins s2 σ H2 x vs v us Q I2 r1 r2 q2
end
end L2
namespace L2
open PySem PySem.Spec PyProof.Rows
noncomputable def MtM (X:Cx) (id:String) (r:V→List V→Hp→VK→Prop):Prop:=
 ∀ (pins:List (Addr×Obj)) (s:Shared) (σ:St) (H:Hp) (x:V) (xs:List V) (v:Value) (us:List Value) (Q:VK),Inv X pins σ H s→RelV x v→Vals xs us→r x xs H Q →
  wpAny (model X.prog X.w) X.A (call (.builtin id) (v::us)) (EP X pins σ Q) X.xe s
theorem Vals.one:∀ {x:V}{us:List Value},Vals [x] us→∃ u,us=[u]∧RelV x u
 | _,_,.cons r .nil=>⟨_,rfl,r⟩
theorem Vals.two:∀ {x y:V}{us:List Value},Vals [x,y] us→∃ u v,us=[u,v]∧RelV x u∧RelV y v
 | _,_,_,.cons r (.cons q .nil)=>⟨_,_,rfl,r,q⟩
theorem Vals.zero:∀ {us:List Value},Vals [] us→us=[]
 | _,.nil=>rfl
theorem Vals.dropLast {xs:List V}{us:List Value}(h:Vals xs us):Vals xs.dropLast us.dropLast:=by
 induction h with
 | nil=>exact .nil
 | cons r t ih=>
  cases t with
  | nil=>exact .nil
  | cons q t'=>exact .cons r ih
theorem Vals.rep {xs:List V}{us:List Value}(h:Vals xs us):∀ k:Nat,Vals (List.replicate k xs).flatten (List.replicate k us).flatten
 | 0 =>.nil
 | k+1=>by rw[List.replicate_succ,List.replicate_succ,List.flatten_cons,List.flatten_cons];exact Vals.append h (Vals.rep h k)
theorem erase_last {α:Type}(l:List α):l.eraseIdx (l.length-1)=l.dropLast:=by
 induction l with
 | nil=>rfl
 | cons a r ih=>
  cases r with
  | nil=>rfl
  | cons b r=>
   have e:(a::b::r).length-1=((b::r).length-1)+1:=by have h1:(a::b::r).length=r.length+2:=rfl;have h2:(b::r).length=r.length+1:=rfl;omega
   rw[e,List.eraseIdx_cons_succ,ih]
   all_goals rfl
theorem foldl_rep (its:List Value):∀ (k:Nat) (acc:List Value),
  List.foldl (fun x1 x2=>x1++x2) acc.toArray (List.replicate k its.toArray)=(acc++(List.replicate k its).flatten).toArray
 | 0,acc=>by simp
 | k+1,acc=>by
  have e:acc.toArray++its.toArray=(acc++its).toArray:=by simp
  have e2:(acc++its)++(List.replicate k its).flatten=acc++(List.replicate (k+1) its).flatten:=by rw[List.replicate_succ,List.flatten_cons,List.append_assoc]
  rw[← e2,← foldl_rep its k (acc++its),← e,List.replicate_succ,List.foldl_cons]
noncomputable section
variable {X:Cx}{pins:List (Addr×Obj)}{σ:St}{H:Hp}{s:Shared}{l b:Addr}{xs ys zs:List V}
theorem Inv.lset {its its':List Value}{n:Nat}{f:Array Value→Array Value}{t':Nat}(I:Inv X pins σ H s) (hH:H l=some (.lst xs))
  (e:s.heap.get? l=some { cls :=.type "list",data :=.seq its.toArray n }) (hf:f its.toArray=its'.toArray) (hv:Vals ys its') (hz:ys.length≤sizeLine) :
  Inv X pins σ (upd H l (.lst ys)) { s with heap:=s.heap.update l (Obj.mapSeq f),toks:=t' }:=by
 have q:=PySem.IsL.update e f;rw[hf] at q;refine I.write (x:=l) (e:=l) (by rw[hH];exact trivial) (.inl rfl) (fun b' u hb hu=>(Heap.get?_update_other s.heap (Obj.mapSeq f) (Ne.symm hb)).trans hu) ⟨_,q⟩ ?_
 exact⟨hz,its',_,hv,q⟩
theorem Inv.lnew {its:List Value}{t':Nat}(I:Inv X pins σ H s) (hv:Vals ys its) (hz:ys.length≤sizeLine) :
  Inv X pins σ (upd H s.heap.objs.size (.lst ys)) { s with heap:=s.heap.push { cls :=.type "list",data :=.seq its.toArray },toks:=t' }:=
 I.laid (fun _ _ q=>zF _ q) (zL _) ⟨hz,its,0,hv,zV _ rfl⟩
theorem Inv.fresh (I:Inv X pins σ H s):H s.heap.objs.size=none:=I.hok.fresh (zL _)
theorem Inv.lstM (I:Inv X pins σ H s) (hH:H l=some (.lst xs)):xs.length≤sizeLine∧∃ (its:List Value) (n:Nat),Vals xs its∧xs.length=its.length∧s.heap.get? l=some { cls :=.type "list",data :=.seq its.toArray n }:=by
 obtain⟨z,its,n,r,e⟩:=I.hok l _ hH;exact⟨z,its,n,r,r.length,e⟩
theorem notLongL {n:Nat}(h:n≤sizeLine):Builtin.List.listTooLong n=false:=by
 unfold Builtin.List.listTooLong;exact decide_eq_false (by omega)
end
noncomputable section
variable {X:Cx}
noncomputable def rAppend:V→List V→Hp→VK→Prop:=fun x vs H Q=>∃ l xs y,x=.ref l∧vs=[y]∧H l=some (.lst xs)∧xs.length<sizeLine∧Q .non (upd H l (.lst (xs++[y])))
theorem mt_append:MtM X "list.append" rAppend:=by
 intro pins s σ H x vs v us Q I rx rv h;obtain⟨l,xs,y,rfl,rfl,hH,hz,q⟩:=h;cases rx;obtain⟨u,rfl,ru⟩:=rv.one;obtain⟨z,its,n,r,hl,e⟩:=I.lstM hH;refine call_meets F.slot_list_append ⟨_,e,rfl⟩ F.entry_list_append (F.args_list_append_2 _ _) (PySem.list_append l its.toArray n u (by rw[zN];omega)) ⟨e,?_⟩
 refine⟨.non,_,I.lset (its':=its++[u]) hH e (by simp) (r.append (.cons ru .nil)) ?_,rfl,q⟩
 rw[List.length_append,List.length_singleton];omega
noncomputable def rExtend:V→List V→Hp→VK→Prop:=fun x vs H Q=>∃ l b xs zs,x=.ref l∧vs=[.ref b]∧H l=some (.lst xs)∧H b=some (.lst zs)∧xs.length+zs.length≤sizeLine∧Q .non (upd H l (.lst (xs++zs)))
theorem mt_extend:MtM X "list.extend" rExtend:=by
 intro pins s σ H x vs v us Q I rx rv h;obtain⟨l,b,xs,zs,rfl,rfl,hH,hB,hz,q⟩:=h;cases rx;obtain⟨u,rfl,ru⟩:=rv.one;cases ru;obtain⟨z,its,n,r,hl,e⟩:=I.lstM hH;obtain⟨z2,its2,n2,r2,hl2,e2⟩:=I.lstM hB;have hsz:its.toArray.size+its2.toArray.size≤sizeLine:=by rw[zN,zN];omega
 have hlong:¬ (!its.toArray.isEmpty&&Builtin.List.listTooLong (its.toArray.size+its2.toArray.size))=true:=by rw[notLongL hsz,Bool.and_false];exact zZ
 refine call_meets F.slot_list_extend ⟨_,e,rfl⟩ F.entry_list_extend (F.args_list_extend_2 _ _)
  (AutoSeq1.list_extend_list_list_0 l its.toArray n b its2.toArray n2 hlong (by rw[zN];omega) (by omega)) ⟨e,e2,?_⟩
 refine⟨.non,_,I.lset (its':=its++its2) hH e (by simp) (r.append r2) ?_,rfl,q⟩
 rw[List.length_append];omega
noncomputable def rPop:V→List V→Hp→VK→Prop:=fun x vs H Q=>∃ l xs y,x=.ref l∧vs=[]∧H l=some (.lst xs)∧xs[xs.length-1]?=some y∧Q y (upd H l (.lst xs.dropLast))
theorem mt_pop:MtM X "list.pop" rPop:=by
 intro pins s σ H x vs v us Q I rx rv h;obtain⟨l,xs,y,rfl,rfl,hH,hy,q⟩:=h;cases rx;have hus:=rv.zero;subst hus;obtain⟨z,its,n,r,hl,e⟩:=I.lstM hH;obtain⟨u,hu,ru⟩:=r.get hy;have hy':its.toArray[its.toArray.size-1]?=some u:=by show its.toArray[its.length-1]?=some u;rw[← Array.getElem?_toList,← hl];exact hu
 refine call_meets F.slot_list_pop ⟨_,e,rfl⟩ F.entry_list_pop (F.args_list_pop_1 _) (MeetsSeq.list_pop_last l its.toArray n u hy' (by rw[zN];omega)) ⟨e,?_⟩
 refine⟨y,_,I.lset (its':=its.dropLast) hH e ?_ r.dropLast ?_,ru,q⟩
 ·show its.toArray.eraseIdxIfInBounds (its.toArray.size-1)=its.dropLast.toArray;rw[zN,List.eraseIdxIfInBounds_toArray,erase_last]
 ·rw[List.length_dropLast];omega
noncomputable def rCat:R2:=fun x y H Q=>∃ l b xs zs,x=.ref l∧y=.ref b∧H l=some (.lst xs)∧H b=some (.lst zs)∧xs.length+zs.length≤sizeLine∧∀ p,H p=none→Q (.ref p) (upd H p (.lst (xs++zs)))
theorem op_cat:OpR X (binaryOp .Add) rCat:=by
 intro pins s σ H x y v u Q I rx ry h;obtain⟨l,b,xs,zs,rfl,rfl,hH,hB,hz,q⟩:=h;cases rx;cases ry;obtain⟨z,its,n,r,hl,e⟩:=I.lstM hH;obtain⟨z2,its2,n2,r2,hl2,e2⟩:=I.lstM hB;refine PySem.P.add_list e e2 ?_ (by rw[zN,zN];omega)
 have ea:its.toArray++its2.toArray=(its++its2).toArray:=by simp
 rw[ea];exact⟨.ref _,_,I.lnew (t':=s.toks) (r.append r2) (by rw[List.length_append];omega),rfl,q _ I.fresh⟩
noncomputable def rRep:R2:=fun x y H Q=>∃ l k xs,x=.ref l∧y=.int k∧H l=some (.lst xs) ∧ -(2 ^ 63)≤k∧k<2 ^ 63∧xs.length*k.toNat≤sizeLine ∧
 ∀ p,H p=none→Q (.ref p) (upd H p (.lst (List.replicate k.toNat xs).flatten))
theorem len_rep {α:Type}(xs:List α) (k:Nat):(List.replicate k xs).flatten.length=k*xs.length:=by
 induction k with
 | zero=>simp
 | succ k ih=>rw[List.replicate_succ,List.flatten_cons,List.length_append,ih,Nat.succ_mul,Nat.add_comm]
theorem op_rep:OpR X (binaryOp .Mult) rRep:=by
 intro pins s σ H x y v u Q I rx ry h;obtain⟨l,k,xs,rfl,rfl,hH,h1,h2,hz,q⟩:=h;cases rx;obtain⟨t,rfl⟩:=ry;obtain⟨z,its,n,r,hl,e⟩:=I.lstM hH;have hlen:its.toArray.size*k.toNat≤sizeLine:=by rw[zN,← hl];exact hz
 have hcap:¬ its.toArray.size*k.toNat > (2 ^ 63-1)/8:=by
  have:(sizeLine:Nat)≤(2 ^ 63-1)/8:=by decide
  omega
 have hfit:¬ (!Builtin.List.listFitsIndex k)=true:=by rw[fitsIndex_both h1 h2];exact zZ
 have hlong:¬ Builtin.List.listTooLong (its.toArray.size*k.toNat)=true:=by rw[notLongL hlen];exact zZ
 have hnew:List.foldl (fun x1 x2=>x1++x2) #[] (List.replicate (if its.toArray.isEmpty=true then 0 else k.toNat) its.toArray)=(List.replicate k.toNat its).flatten.toArray:=by
  have f0:∀ m:Nat,List.foldl (fun x1 x2=>x1++x2) #[] (List.replicate m its.toArray)=(List.replicate m its).flatten.toArray:=fun m=>by have:=foldl_rep its m [];rw[List.nil_append] at this;exact this
  rw[f0];cases its with
  | nil=>simp
  | cons a r'=>rw[if_neg (by simp)]
 refine wpAny_binaryOp_repeat_ref (T:= "list") (U:= "int") (by decide) ⟨_,e,rfl⟩ (fun s'=>typeIs_int s' k t) noFill_list_mul F.fills_int_mul F.slot_int_rmul repeat_list F.slot_int_index.lookup
  (call_meets F.slot_int_rmul (typeIs_int s k t) F.entry_int_rmul (F.args_int_rmul_2 _ _) (int___rmul___int_list k t l its.toArray n)
   ⟨e,rfl,⟨_,e,rfl⟩,call_meets F.slot_list_mul ⟨_,e,rfl⟩ F.entry_list_mul (F.args_list_mul_2 _ _) (AutoListH.list___mul___list_int_3 l its.toArray n k t hfit hcap hlong) ⟨e,?_⟩⟩)
 rw[hnew];exact⟨.ref _,_,I.lnew (t':=s.toks) (r.rep k.toNat) (by rw[len_rep,Nat.mul_comm];exact hz),rfl,q _ I.fresh⟩
end
noncomputable section
variable {prog:Program}{w:World}{A:Around}{E:Value→Shared→Prop}{s:Shared}
set_option maxRecDepth 100000 in
end
noncomputable section
variable {X:Cx}
end
end L2
namespace Att
open PySem PySem.W PySem.Calls PyProof.Rows
theorem ints_of_wellAll {P:Params}{h:Heap}:∀ (ns:List Int) (vs:List Value),WellAll P h vs (ns.map WData.int)→IntsAre vs ns:=by
 intro ns
 induction ns with
 | nil=>intro vs w;rw[List.map_nil] at w;cases w;exact .nil
 | cons n ns ih=>
  intro vs w;rw[List.map_cons] at w;cases w with
  | cons a b=>cases a;exact .cons _ _ (ih _ b)
theorem script_of {l:OpenLaw}{n:Nat}(hn:l.most=some n){P:Params}{h:Heap}{args:List WData}{vals:List Value}
  (hpre:l.row.toRowW.claim.pre args=true) (hwl:WellAll P h vals args) :
  ∃ a vs ns,vals=[Value.ref a]∧args=[WData.list (ns.map WData.int)]∧h.get? a=some { cls :=.type "list",data :=.seq vs.toArray }∧IntsAre vs ns∧ns.length≤n:=by
 have hsh:WShape.hasAll [] args [.list .int]=true:=(pre_splitW hpre).1;have hc:l.pre.holds [] { args:=args }=true:=(pre_splitW hpre).2;obtain⟨d,r,rfl,h1,h2⟩:=hasAllW_cons hsh;obtain rfl:=hasAllW_nil h2;obtain⟨xs,rfl,h3⟩:=hasW_list h1;obtain⟨ns,rfl⟩:=items_int h3;have hlen:ns.length≤n:=by
  unfold OpenLaw.pre at hc;have h4:(WTm.not (.lt (.lit (.int (n:Int))) (.len (.arg 0)))).holds [] { args:=[.list (ns.map .int)] }=true:=by have h4:=(holds_andW hc).1;rw[hn] at h4;exact h4
  have h5:=condW_of h4 (w_not (w_lt w_lit (w_len_list (w_arg rfl))));rw[zH] at h5;refine Nat.le_of_not_lt fun q =>?_
  have q':(n:Int)<((ns.length:Nat):Int):=by omega
  first
   | (rw[decide_eq_true q'] at h5;exact absurd h5 (by decide))
   | (simp at h5;omega)
 cases hwl with
 | cons w1 w2=>
  cases w2;cases w1 with
  | list ho hall=>exact⟨_,_,ns,rfl,rfl,ho,ints_of_wellAll ns _ hall,hlen⟩
theorem post_true (l:OpenLaw) (args:List WData):l.row.toRowW.claim.post args (.bool true) args=true:=
 postW_of (r:=l.row.toRowW) (X:=(true==true))
  (show WShape.has [] (.bool true) .bool=true by first|rfl|decide|simp[WShape.has,WShape.arms,WShape.armsAll])
  (show (WTm.eq .res (.lit (.bool true))).value [] { args:=args,res:=some (.bool true),after:=args }=some (.bool (true==true)) from w_eq_bool (w_res rfl) w_lit) rfl
theorem attach_call {l:OpenLaw}{n:Nat}{q:Program}{loose:List Str}{XP:(Str→Option Value)→Heap→Prop}{YP:World→Heap→Prop}{d:DefRec}
  (hn:l.most=some n) (hdf:d.params.defaults=[])
  (call:∀ (w:World) (s₀ s₁:Shared) (mg mb:Str→Option Value) (fa:Addr) (o:Obj) (pm cd doc:Value) (a:Addr) (vs:List Value) (ns:List Int),
   Ground q loose [] XP w s₀ mg mb s₁.heap→YP w s₁.heap →
   s₁.heap.get? fa=some o→o.data=.func (docDef d.name d.params d.body d.scope pm cd doc)→s₁.heap.CodeRec cd d.name→mg d.name=some (.ref fa) →
   s₁.heap.get? a=some { cls :=.type "list",data :=.seq vs.toArray }→IntsAre vs ns→ns.length≤n→s₁.gens=#[] →
   codeAny (model l.prog w) callerA (.call (.ref fa) ⟨[.ref a],[]⟩) (fun r s'=>r=.ok (.ret (.bool true))∧OldK s₁.heap s'.heap∧s'.os=s₁.os∧AllBare s'.gens) s₁) :
  WalkO q loose XP YP l.row.toRowW d [] (fun f vs=>PySem.call f vs):=by
 intro w s₀ s₁ mg mb G Y fa o pm cd doc dV kV ho hd hcd hD hmg hg args vals as hpre hlay hrd hwl hlo;obtain rfl:dV=.none:=Dflts.none hD hdf;obtain rfl:kV=.none:=Dflts.noKw hD;obtain⟨a,vs,ns,rfl,rfl,hobj,hints,hlen⟩:=script_of hn hpre hwl;refine enter_call (codeAny_mono (call w s₀ s₁ mg mb fa o pm cd doc a vs ns G Y ho (fd_plain hd) hcd hmg hobj hints hlen hg) fun r s' hq =>?_)
 obtain⟨rfl,h2,h3,h4⟩:=hq;exact⟨.inl ⟨.bool true,.bool true,[],rfl,fun _=>rfl,.bool true,post_true l _,fun _=>⟨List.Pairwise.nil,fun _ hm=>(nomatch hm)⟩⟩,h2,h3,h4⟩
noncomputable section
variable {prog:Program}{w:World}{A:Around}{E:Value→Shared→Prop}{s:Shared}{K:Frag}
end
end Att
namespace L2
open PySem PySem.Spec PyProof.Rows
theorem vals_ints:∀ {vs:List Value}{ns:List Int},IntsAre vs ns→Vals (ns.map V.int) vs
 | _,_,.nil =>.nil
 | _,_,.cons n t h =>.cons ⟨t,rfl⟩ (vals_ints h)
noncomputable def Only (H:Hp):Prop:=∀ b,H b=none∨∃ o xs,H b=some (.frz o (.lst xs))
theorem law_call {P:Program}{w:World}{K:Frag}{mg mb:Str→Option Value}{CX:CXT}{k:Nat}{fa a:Addr}{fd:FuncData}{x:Str}{sp:Sp}{s₁:Shared}{vs:List Value}{ns:List Int}
  (KX:K.In s₁.heap) (hns:s₁.heap.Ns mainGlobals mg) (hb:s₁.heap.Ns builtinsNs mb) (hbb:∀ x:Str,x ≠ "__name__" →mb x=bootBuiltins x) (hlim:s₁.heap.NoLimit) (hg:s₁.gens=#[])
  (ha:s₁.heap.get? a=some { cls :=.type "list",data :=.seq vs.toArray }) (hi:IntsAre vs ns) (hl:ns.length≤sizeLine) (hr:Room k callerA)
  (F:∀ base:Heap,K.In base→base.Ns mainGlobals mg→FnOk P w K mg base CX k fa fd [x] sp) (hbind:∀ (s:Shared) (u:Value),BindsTo s fd ⟨[u],[]⟩ [(x,u)])
  (hsp:∀ H:Hp,Only H→SqL K H a (ns.map V.int)→sp [.ref a] H (fun v _=>v=.bl true) fun _ _ _=>False)
  (hCX:∀ H e s',CX [] H s₁ (fun _ _ _=>False) e s'→False) :
  codeAny (model P w) callerA (.call (.ref fa) ⟨[.ref a],[]⟩) (fun r s'=>r=.ok (.ret (.bool true))∧OldK s₁.heap s'.heap∧s'.os=s₁.os∧AllBare s'.gens) s₁:=by
 have rv:=vals_ints hi;have lenV:=hi.length;have core:∀ H:Hp,Only H→SqL K H a (ns.map V.int)→HOk P w H s₁.heap→(∀ b,H b≠none→b=a)→(H a≠none→K.lookup a=none) →
   codeAny (model P w) callerA (.call (.ref fa) ⟨[.ref a],[]⟩) (fun r s'=>r=.ok (.ret (.bool true))∧OldK s₁.heap s'.heap∧s'.os=s₁.os∧AllBare s'.gens) s₁:=by
  intro H hO hS hok hA hK;have base_of:∀ {b:Addr}{o:Obj},s₁.heap.get? b=some o→H b=none→(hidT s₁.heap H).get? b=some o:=fun e n=>hidT_get e n
  have noA:∀ {b:Addr}{o:Obj}{es:Array DictEntry}{ep:Nat},s₁.heap.get? b=some o→o.data=.dict es ep→H b=none:=fun {b o es ep} e d=>by
   cases q:H b with
   | none=>rfl
   | some u=>
    have e':b=a:=hA b (by rw[q];simp)
    subst e';rw[ha] at e;cases e;have d':Data.seq vs.toArray _=Data.dict es ep:=d;cases d'
  have nsK:∀ {b:Addr}{m:Str→Option Value},s₁.heap.Ns b m→(hidT s₁.heap H).Ns b m:=fun {b m} ⟨o,es,ep,e,d,r⟩=>⟨o,es,ep,base_of e (noA e d),d,r⟩
  have hKb:K.In (hidT s₁.heap H):=fun b o e=>base_of (KX b o e) (by
   cases q:H b with
   | none=>rfl
   | some u=>
    have e':b=a:=hA b (by rw[q];simp)
    subst e';rw[hK (by rw[q];simp)] at e;cases e)
  have hM:Mod K mg (hidT s₁.heap H):=⟨hKb,nsK hns,⟨mb,nsK hb,hbb⟩,let ⟨mc,h1,h2⟩:=hlim;⟨mc,nsK h1,h2⟩⟩;have e0:Env0 P w K mg (hidT s₁.heap H) callerA [] s₁ H:=⟨rfl,hM,fun b o e=>of_hidT e,Nat.le_of_eq (hidT_size _ _),trivial,fun b hb=>absurd (show b∈([]:List Addr) from hb) (by simp),hok,.of_eq hg⟩
  refine codeAny_mono ((F _ hKb (nsK hns)).run callerA [] s₁ H ⟨[.ref a],[]⟩ [.ref a] [.ref a] _ _ hr e0 (hbind s₁ (.ref a)) (.cons rfl .nil) (hsp H hO hS)) fun r s' h =>?_
  cases r with
  | error e=>exact(hCX H e s' h).elim
  | ok fl=>
   cases fl with
   | next=>exact False.elim h
   | brk=>exact False.elim h
   | cont=>exact False.elim h
   | ret u=>
    obtain⟨v,H',os,bare,un,hok',r',q⟩:=h;have q':v=.bl true:=q;subst q';obtain rfl:u=Value.bool true:=r';refine⟨rfl,OldK.of_keep fun b o e =>?_,os,bare⟩
    cases q:H b with
    | none=>exact un.keep b o e q (by intro z;exact absurd (show b∈([]:List Addr) from z) (by simp)) (by simp)
    | some u=>
     rcases hO b with z|⟨ob,xs,z⟩
     ·rw[q] at z;cases z
     ·have z2:=un.frzs b ob _ z;obtain⟨e1,_⟩:=hok b _ z;obtain⟨e2,_⟩:=hok' b _ z2;rw[e] at e1;cases e1;exact e2
 cases hk:K.lookup a with
 | some o=>have e:=KX a o hk;rw[ha] at e;cases e;refine core (fun _=>none) (fun _ =>.inl rfl) (.inr ⟨_,vs.toArray,_,hk,rfl,rfl,rfl,by rw[zN,lenV];exact hl,by simpa using rv⟩) (fun b u z=>by have z':(none:Option HO)=some u:=z;cases z') (fun b z=>absurd rfl z) fun z=>absurd rfl z
 | none=>
  refine core (fun b=>if b=a then some (.frz { cls :=.type "list",data :=.seq vs.toArray } (.lst (ns.map V.int))) else none) (fun b =>?_) (.inl (.inr ⟨{ cls :=.type "list",data :=.seq vs.toArray },if_pos rfl⟩)) (fun b u z =>?_) (fun b z =>?_) fun _=>hk
  ·by_cases hb:b=a
   ·exact .inr ⟨_,_,if_pos hb⟩
   ·exact .inl (if_neg hb)
  ·by_cases hb:b=a
   ·have z':=(if_pos hb).symm.trans z;cases z';subst hb;exact⟨ha,by rw[zH];exact hl,vs,_,rv,ha⟩
   ·have z':=(if_neg hb).symm.trans z;cases z'
  ·by_cases hb:b=a
   ·exact hb
   ·exact absurd (if_neg hb) z
end L2
namespace L2
open PySem PySem.Spec PyProof.Rows
theorem walk_of {l:PySem.W.OpenLaw}{n k:Nat}{q:Program}{loose:List Str}{XP:(Str→Option Value)→Heap→Prop}{YP:World→Heap→Prop}{d:DefRec}{K:Params→Frag}{CX:World→CXT}{sp:World→Sp}{x:Str}
  (hn:l.most=some n) (hn2:n≤sizeLine) (hdf:d.params.defaults=[]) (hr:Room k callerA)
  (hY:∀ (w:World) (h:Heap),YP w h→(K w.params).In h)
  (F:∀ (w:World) (mg:Str→Option Value) (fa:Addr) (h:Heap),(K w.params).In h→h.Ns mainGlobals mg→mg d.name=some (.ref fa) →
   ∃ fd:FuncData,(∀ (s:Shared) (u:Value),BindsTo s fd ⟨[u],[]⟩ [(x,u)]) ∧
    ∀ base:Heap,(K w.params).In base→base.Ns mainGlobals mg→FnOk l.prog w (K w.params) mg base (CX w) k fa fd [x] (sp w))
  (hsp:∀ (w:World) (H:Hp) (a:Addr) (ns:List Int),ns.length≤n→Only H→SqL (K w.params) H a (ns.map V.int)→sp w [.ref a] H (fun v _=>v=.bl true) fun _ _ _=>False)
  (hCX:∀ (w:World) (H:Hp) (s:Shared) (e:Value) (s':Shared),CX w [] H s (fun _ _ _=>False) e s'→False) :
  PySem.W.WalkO q loose XP YP l.row.toRowW d [] (fun f vs=>PySem.call f vs):=by
 refine Att.attach_call hn hdf fun w s₀ s₁ mg mb fa o pm cd doc a vs ns G Y ho hd hcd hmg hobj hints hlen hg =>?_
 have KX:=hY w _ Y;obtain⟨fd,hb,hF⟩:=F w mg fa _ KX G.T.g hmg;exact law_call KX G.T.g G.T.b G.T.builtins G.T.nolimit hg hobj hints (yB hlen hn2) hr hF hb (fun H hO hS=>hsp w H a ns hlen hO hS) fun H e s'=>hCX w H s₁ e s'
theorem walk_ofK {l:PySem.W.OpenLaw}{n k:Nat}{q:Program}{loose:List Str}{XP:(Str→Option Value)→Heap→Prop}{YP:World→Heap→Prop}{d:DefRec}{K:Params→Frag}{CX:CXT}{sp:Frag→Sp}{x:Str}
  (hn:l.most=some n) (hn2:n≤sizeLine) (hdf:d.params.defaults=[]) (hr:Room k callerA)
  (hY:∀ (w:World) (h:Heap),YP w h→(K w.params).In h)
  (F:∀ (w:World) (mg:Str→Option Value) (fa:Addr) (h:Heap),(K w.params).In h→h.Ns mainGlobals mg→mg d.name=some (.ref fa) →
   ∃ fd:FuncData,(∀ (s:Shared) (u:Value),BindsTo s fd ⟨[u],[]⟩ [(x,u)]) ∧
    ∀ base:Heap,(K w.params).In base→base.Ns mainGlobals mg→FnOk l.prog w (K w.params) mg base CX k fa fd [x] (sp (K w.params)))
  (hsp:∀ (K:Frag) (H:Hp) (a:Addr) (ns:List Int),ns.length≤n→Only H→SqL K H a (ns.map V.int)→sp K [.ref a] H (fun v _=>v=.bl true) fun _ _ _=>False)
  (hCX:∀ (H:Hp) (s:Shared) (e:Value) (s':Shared),CX [] H s (fun _ _ _=>False) e s'→False) :
  PySem.W.WalkO q loose XP YP l.row.toRowW d [] (fun f vs=>PySem.call f vs):=
 walk_of (K:=K) (CX:=fun _=>CX) (sp:=fun w=>sp (K w.params)) hn hn2 hdf hr hY F (fun w H a ns h1 h2 h3=>hsp (K w.params) H a ns h1 h2 h3) fun _ H s e s'=>hCX H s e s'
end L2
namespace L2
open PySem PySem.Spec PyProof.Rows
noncomputable def inClass (s:Stmt) (j:Nat):Stmt:=match s with
 | .ClassDef _ _ _ body _ _ _ _ _ _ _=>body.getD j (.Pass ⟨0,0,0,0⟩)
 | _ =>.Pass ⟨0,0,0,0⟩
noncomputable def defArgs (s:Stmt):Arguments:=match s with
 | .FunctionDef _ a _ _ _ _ _ _ _ _=>a
 | _=>{ posonlyargs:=[],args:=[],vararg:=none,kwonlyargs:=[],kw_defaults:=[],kwarg:=none,defaults:=[] }
noncomputable def defBody (s:Stmt):List Stmt:=match s with
 | .FunctionDef _ _ b _ _ _ _ _ _ _=>b
 | _=>[]
noncomputable def defScope (s:Stmt):Scope:=match s with
 | .FunctionDef _ _ _ _ _ _ sc _ _ _=>sc
 | _=>{ kind :=.function,names:=[],isGenerator:=false,isCoroutine:=false }
noncomputable abbrev CX0:CXT:=fun _ _ _ _ _ _=>False
noncomputable abbrev E0:XK:=fun _ _ _=>False
theorem pass0 {X:Cx}:Passes CX0 X E0:=fun _ _ _ _ _ _ _ h=>h.elim
structure Fun (K:Frag) (x qual:Str) (st:Stmt) (f:Addr) (fd:FuncData):Prop where
 ex:∃ (oc:Value) (od:Option Addr) (kV doc pm:Value) (an:Option Addr) (cdv ct:Value) (osl:Array (Option Value)),
  fd=fnOf x qual (defArgs st) (defBody st) (defScope st) .none kV doc pm an cdv ct∧K.lookup f=some ⟨oc,od,.func fd,osl⟩∧codeIn K cdv qual=true
 kp:keepIn K (.ref f)=true
noncomputable section
variable {P:Program}{w:World}{K:Frag}{mg:Str→Option Value}{base:Heap}
theorem Fun.ok {x qual:Str}{st:Stmt}{f:Addr}{fd:FuncData}{N ps:List Str}{k:Nat}{sp:Sp}(F:Fun K x qual st f fd) (S:FnScope N ps (defScope st)) (len:∀ vs H Q E,sp vs H Q E→vs.length=ps.length)
  (hbody:∀ (cdv:Value) (A:Around) (outer:List Env) (s:Shared) (H:Hp) (vs:List V) (Q:VK) (E:XK),Room k (A.deeper (envOfC qual (defScope st) s.heap.objs.size f cdv))→sp vs H Q E →
   ∃ t,PSs (cxOf CX0 P w K mg base N qual (defScope st) f cdv A outer s H E).nox (defBody st) t∧t { nx:=fun _ H'=>Q .non H',rt:=Q } (start N vs) H):FnOk P w K mg base CX0 (k+1) f fd ps sp:=by
 obtain⟨oc,od,kV,doc,pm,an,cdv,ct,osl,rfl,lk,hcd⟩:=F.ex;refine fn_of lk hcd S len fun A outer s H vs Q E hr hsp =>?_
 obtain⟨t,h,q⟩:=hbody cdv A outer s H vs Q E hr hsp;exact⟨t,h.nox,q⟩
theorem Fun.binds {x qual:Str}{st:Stmt}{f:Addr}{fd:FuncData}{ps:List Str}(F:Fun K x qual st f fd)
  (h:∀ (kV doc pm:Value) (an:Option Addr) (cdv ct:Value) (us:List Value),us.length=ps.length→bindArgs (fnOf x qual (defArgs st) (defBody st) (defScope st) .none kV doc pm an cdv ct) ⟨us,[]⟩=pure (ps.zip us)):Binds K fd ps []:=by
 obtain⟨oc,od,kV,doc,pm,an,cdv,ct,osl,rfl,lk,hcd⟩:=F.ex;exact .all (h kV doc pm an cdv ct)
theorem fun_mk {x qual:Str}{st:Stmt}{f:Addr}{oc:Value}{od an:Option Addr}{osl:Array (Option Value)}{kV doc pm cdv ct:Value}(l:K.lookup f=some ⟨oc,od,.func (fnOf x qual (defArgs st) (defBody st) (defScope st) .none kV doc pm an cdv ct),osl⟩)
  (c:codeIn K cdv qual=true) (k:keepIn K (.ref f)=true):Fun K x qual st f (fnOf x qual (defArgs st) (defBody st) (defScope st) .none kV doc pm an cdv ct):=⟨⟨oc,od,kV,doc,pm,an,cdv,ct,osl,rfl,l,c⟩,k⟩
end
theorem hu_of {A:Around}{k:Nat}(hr:Room k A):A.units+1<cLine:=Nat.lt_of_le_of_lt (Nat.add_le_add_left (by decide:1≤64) _) hr.units
noncomputable section
variable {X:Cx}
theorem pv (i:Nat){x:Str}{pos:Pos}(hN:X.N[i]?=some x:=by rfl) (hv:Vis X.env.scope x:=by first|exact Or.inl rfl|exact Or.inr (Or.inl rfl)|exact Or.inr (Or.inr rfl)) (hd:(x==("__debug__" : Str))=false:=by decide)
  (hcd:(x==("__classdict__" : Str))=false:=by decide):PE X (.Name x pos) (tVar i):=pe_var hN hv hd hcd
end
theorem iteF {A B:Prop}(h:B):if false=true then A else B:=by
 rw[if_neg zZ];exact h
theorem iteT {A B:Prop}(h:A):if true=true then A else B:=by
 rw[if_pos rfl];exact h
theorem ite2 {c A B:Prop} [Decidable c] (h1:c→A) (h2:¬ c→B):if c then A else B:=by
 by_cases h:c
 ·rw[if_pos h];exact h1 h
 ·rw[if_neg h];exact h2 h
noncomputable def Same (H H':Hp):Prop:=∀ b o,H b=some o→H' b=some o
theorem Same.refl (H:Hp):Same H H:=fun _ _ h=>h
theorem Same.trans {H H1 H2:Hp}(a:Same H H1) (b:Same H1 H2):Same H H2:=fun c o h=>b c o (a c o h)
theorem Same.free {H H':Hp}(e:Same H H'){l:Addr}(h:H' l=Option.none):H l=Option.none:=by
 cases q:H l with
 | none=>rfl
 | some o=>rw[e l o q] at h;cases h
theorem Same.seq {K:Frag}{H H':Hp}{a:Addr}{xs:List V}(e:Same H H') (h:SqL K H a xs):SqL K H' a xs:=by
 rcases h with (h|⟨o,h⟩)|h
 ·exact .inl (.inl (e _ _ h))
 ·exact .inl (.inr ⟨o,e _ _ h⟩)
 ·exact .inr h
end L2
end
noncomputable section
namespace L2
open PySem PySem.Spec PyProof.Rows
noncomputable section
variable {P:Program}{w:World}{H:Hp}{h:Heap}{a:Addr}{o:HO}
theorem HOk.track (x:HOk P w H h) (hn:H a=none) (new:ObjOk P w (upd H a o) h a o):HOk P w (upd H a o) h:=fun b u e=>by
 by_cases hb:b=a
 ·subst hb;rw[upd_same] at e;cases e;exact new
 ·rw[upd_ne hb] at e;exact(x b u e).stay (fun c v _ q=>q) (fun c q=>by rw[upd_ne (ne_of_none q hn)];exact q) fun c xs q=>by rw[upd_ne (ne_of_none q hn)];exact q
theorem HOk.untrack {xs:List V}(x:HOk P w (upd H a (.lst xs)) h) (hn:H a=none):HOk P w H h:=fun b u e=>by
 have hb:b≠a:=ne_of_none e hn;have k:∀ c v,upd H a (.lst xs) c=some v→v ≠ .lst xs→H c=some v:=fun c v q ne=>by
  by_cases hc:c=a
  ·subst hc;rw[upd_same] at q;cases q;exact absurd rfl ne
  ·rwa [upd_ne hc] at q
 exact(x b u (by rw[upd_ne hb];exact e)).stay (fun c v _ q=>q) (fun c q=>k c _ q (by intro z;cases z)) fun c ys q=>k c _ q (by intro z;cases z)
end
noncomputable def lobj (its:List Value) (n:Nat):Obj:={ cls :=.type "list",data :=.seq its.toArray n }
noncomputable section
variable {X:Cx}{pins:List (Addr×Obj)}{σ:St}{H:Hp}{s:Shared}{D:Addr}{ys:List V}{its:List Value}{n:Nat}
theorem Inv.track (I:Inv X (pins++[(D,lobj its n)]) σ H s) (r:Vals ys its) (hz:ys.length≤sizeLine) (hD:X.s₀.heap.objs.size≤D) (hp:∀ p∈X.pn++pins,p.1≠D):Inv X pins σ (upd H D (.lst ys)) s:=by
 obtain⟨e,hn,hL,hF,_⟩:=I.pin (D,lobj its n) (by simp)
 have old:∀ b o,X.s₀.heap.get? b=some o→b≠D:=fun b o q z=>by have q':=zJ q;subst z;exact yE _ (zS q' hD)
 refine⟨I.ok,I.os,I.bare,⟨I.base.keep,I.base.slot,fun b o q m x =>?_,I.base.there,fun b xs q =>?_,fun b o u q =>?_,fun b ps q =>?_⟩,I.loc,I.cell,?_,fun x c q =>?_,fun p q =>?_,I.hok.track hn ⟨hz,its,n,r,e⟩,I.len⟩
 ·rw[upd_ne (old b o q)];exact I.base.free b o q m x
 ·have:=I.base.tups b xs q;rw[upd_ne (ne_of_none this hn)];exact this
 ·have:=I.base.frzs b o u q;rw[upd_ne (ne_of_none this hn)];exact this
 ·obtain⟨more,this⟩:=I.base.tbls b ps q;exact⟨more,by rw[upd_ne (ne_of_none this hn)];exact this⟩
 ·rw[upd_ne (Ne.symm hL)];exact I.free
 ·have nc:c≠D:=fun z=>by obtain⟨v,ob,h1,h2⟩:=I.cell x c q;rw[z,e] at h1;cases h1;cases h2
  rw[upd_ne nc];exact I.freeC x c q
 ·obtain⟨a1,a2,a3⟩:=I.pin p (by rw[← List.append_assoc];exact zU _ q)
  exact⟨a1,by rw[upd_ne (hp p q)];exact a2,a3⟩
theorem Inv.untrack (I:Inv X pins σ (upd H D (.lst ys)) s) (hn:H D=none) (hL:D≠X.env.locals) (hF:D∉X.fs):∃ its n,Vals ys its∧ys.length≤sizeLine∧Inv X (pins++[(D,lobj its n)]) σ H s:=by
 obtain⟨hz,its,n,r,e⟩:=I.hok D _ upd_same;have k:∀ c v,upd H D (.lst ys) c=some v→v ≠ .lst ys→H c=some v:=fun c v q ne=>by
  by_cases hc:c=D
  ·subst hc;rw[upd_same] at q;cases q;exact absurd rfl ne
  ·rwa [upd_ne hc] at q
 have k0:∀ c,upd H D (.lst ys) c=none→H c=none:=fun c q=>by
  by_cases hc:c=D
  ·subst hc;exact hn
  ·rwa [upd_ne hc] at q
 refine⟨its,n,r,hz,I.ok,I.os,I.bare,⟨I.base.keep,I.base.slot,fun b o q m x=>k0 _ (I.base.free b o q m x),I.base.there,fun b xs q=>k _ _ (I.base.tups b xs q) (by intro z;cases z),fun b o u q=>k _ _ (I.base.frzs b o u q) (by intro z;cases z),fun b ps q =>?_⟩,I.loc,I.cell,k0 _ I.free,fun x c q=>k0 _ (I.freeC x c q),fun p q =>?_,I.hok.untrack hn,I.len⟩
 ·obtain⟨more,this⟩:=I.base.tbls b ps q;exact⟨more,k _ _ this (by intro z;cases z)⟩
 ·rw[← List.append_assoc] at q;rcases zO.mp q with q|q
  ·obtain⟨a1,a2,a3⟩:=I.pin p q;exact⟨a1,k0 _ a2,a3⟩
  ·have:p=(D,lobj its n):=by simpa using q
   subst this;exact⟨e,hn,hL,hF,fun v z=>by cases z⟩
end
theorem cellsFrom_app:∀ (names:List (Str×NameKind)) (n:Nat) (acc:List (Str×Addr)),cellsFrom n names acc=cellsFrom n names []++acc
 | [],n,acc=>rfl
 | (x,k)::r,n,acc=>by
  unfold cellsFrom
  split
  ·rw[cellsFrom_app r (n+1) ((x,n)::acc),cellsFrom_app r (n+1) [(x,n)],List.append_assoc];rfl
  ·exact cellsFrom_app r n acc
theorem cellsFrom_kind:∀ (names:List (Str×NameKind)) (n:Nat) (acc:List (Str×Addr)) (x:Str) (c:Addr),(x,c)∈cellsFrom n names acc→(x,c)∈acc∨(x,NameKind.cell)∈names
 | [],n,acc,x,c,h =>.inl h
 | (y,k)::r,n,acc,x,c,h=>by
  unfold cellsFrom at h
  split at h
  ·rename_i hk;rcases cellsFrom_kind r _ _ x c h with q|q
   ·rcases zG.mp q with e|q
    ·cases e;have:k=.cell:=by simpa using hk
     subst this;exact .inr (by simp)
    ·exact .inl q
   ·exact .inr (zB _ q)
  ·rcases cellsFrom_kind r _ _ x c h with q|q
   ·exact .inl q
   ·exact .inr (zB _ q)
noncomputable def cloOf (cells:List (Str×Addr)):List (Str×NameKind)→List (Str×Addr)→List (Str×Addr)
 | [],acc=>acc
 | (x,k)::r,acc=>if k == .free then cloOf cells r ((x,(cells.lookup x).getD 0)::acc) else cloOf cells r acc
theorem closure_run {env:Env}(f:Str×NameKind→List (Str×Addr)→Sem (ForInStep (List (Str×Addr))))
  (hf:∀ name kind cs,f (name,kind) cs=if kind == .free then (do let a ← cellOf env name;pure (.yield ((name,a)::cs))) else pure (.yield cs)) :
  ∀ (names:List (Str×NameKind)) (acc:List (Str×Addr)),(∀ y∈names,y.2=.free→∃ c,env.cells.lookup y.1=some c)→(forIn names acc f:Sem _)=pure (cloOf env.cells names acc)
 | [],acc,_=>by rw[List.forIn_nil];rfl
 | (x,k)::r,acc,h=>by
  rw[List.forIn_cons,hf];unfold cloOf;cases hk:k==NameKind.free with
  | false=>simp only[Bool.false_eq_true,if_false];exact closure_run f hf r acc fun y hy=>h y (zB _ hy)
  | true=>
   obtain⟨c,e⟩:=h (x,k) zD (by simpa using hk)
   have e:env.cells.lookup x=some c:=e;have e2:cellOf env x=pure c:=by unfold cellOf;rw[e]
   simp only[if_true];rw[e2,e];exact closure_run f hf r _ fun y hy=>h y (zB _ hy)
theorem closureFor_of {scope:Scope}{env:Env}(h:∀ y∈scope.names,y.2=.free→∃ c,env.cells.lookup y.1=some c):closureFor scope env=pure (cloOf env.cells scope.names []):=by
 simp only[closureFor];rw[closure_run (env:=env) _ (fun name kind cs=>by cases kind==NameKind.free<;>rfl) scope.names [] h]
 rfl
theorem cloOf_mem {cells:List (Str×Addr)}:∀ {names:List (Str×NameKind)}{acc:List (Str×Addr)}{x:Str}{c:Addr},(x,c)∈cloOf cells names acc→(x,c)∈acc∨((x,NameKind.free)∈names∧c=(cells.lookup x).getD 0)
 | [],acc,x,c,h =>.inl h
 | (y,k)::r,acc,x,c,h=>by
  unfold cloOf at h
  split at h
  ·rename_i hk;rcases cloOf_mem h with q|q
   ·rcases zG.mp q with e|q
    ·cases e;have:k=.free:=by simpa using hk
     subst this;exact .inr ⟨by simp,rfl⟩
    ·exact .inl q
   ·exact .inr ⟨zB _ q.1,q.2⟩
  ·rcases cloOf_mem h with q|q
   ·exact .inl q
   ·exact .inr ⟨zB _ q.1,q.2⟩
theorem cloOf_keep {cells:List (Str×Addr)}:∀ {names:List (Str×NameKind)}{acc:List (Str×Addr)}{x:Str},(∃ c,(x,c)∈acc)→∃ c,(x,c)∈cloOf cells names acc
 | [],acc,x,h=>h
 | (y,k)::r,acc,x,⟨c,h⟩=>by
  unfold cloOf
  split
  ·exact cloOf_keep ⟨c,zB _ h⟩
  ·exact cloOf_keep ⟨c,h⟩
theorem cloOf_has {cells:List (Str×Addr)}:∀ {names:List (Str×NameKind)}{acc:List (Str×Addr)}{x:Str},(x,NameKind.free)∈names→∃ c,(x,c)∈cloOf cells names acc
 | (y,k)::r,acc,x,h=>by
  unfold cloOf;rcases zG.mp h with e|h
  ·cases e;exact cloOf_keep ⟨_,zD⟩
  ·split
   ·exact cloOf_has h
   ·exact cloOf_has h
theorem lookup_of_mem {α:Type}:∀ {l:List (Str×α)}{x:Str}{c:α},(x,c)∈l→∃ d,l.lookup x=some d
 | (y,v)::r,x,c,h=>by
  rw[List.lookup_cons];cases hb:x==y with
  | true=>exact⟨v,rfl⟩
  | false=>
   rcases zG.mp h with e|h
   ·cases e;simp at hb
   ·exact lookup_of_mem h
theorem lookup_app {α:Type}:∀ {l r:List (Str×α)}{x:Str},(l++r).lookup x=(l.lookup x).or (r.lookup x)
 | [],r,x=>by simp
 | (y,v)::l,r,x=>by
  rw[List.cons_append,List.lookup_cons,List.lookup_cons];cases hb:x==y with
  | true=>rfl
  | false=>exact lookup_app
theorem lookup_relabel {env:Env}:∀ {names:List (Str×NameKind)}{x:Str},(names.map fun (n,k)=>if (k==NameKind.free&&env.scope.kind == .function&&env.kindOf n==some .cell) then (n,NameKind.cell) else (n,k)).lookup x =
  (names.lookup x).map fun k=>if (k==NameKind.free&&env.scope.kind == .function&&env.kindOf x==some .cell) then NameKind.cell else k
 | [],_=>rfl
 | (n,k)::r,x=>by
  have ih :=@lookup_relabel env r x;show List.lookup x ((if (k==NameKind.free&&env.scope.kind == .function&&env.kindOf n==some .cell)=true then (n,NameKind.cell) else (n,k))::_)=_
  cases hx:x==n with
  | true=>
   have e:x=n:=by simpa using hx
   subst e;by_cases hc:(k==NameKind.free&&env.scope.kind == .function&&env.kindOf x==some .cell)=true
   ·rw[if_pos hc];simp only[List.lookup_cons,hx,zT,if_pos hc]
   ·rw[if_neg hc];simp only[List.lookup_cons,hx,zT,if_neg hc]
  | false=>
   by_cases hc:(k==NameKind.free&&env.scope.kind == .function&&env.kindOf n==some .cell)=true
   ·rw[if_pos hc];simp only[List.lookup_cons,hx];exact ih
   ·rw[if_neg hc];simp only[List.lookup_cons,hx];exact ih
end L2
end
noncomputable section
namespace L2
open PySem PySem.Spec PyProof.Rows
theorem natLt {a b:Nat}(h:a<b):a<b:=h
theorem natLe {a b:Nat}(h:a≤b):a≤b:=h
theorem natEq {a b:Nat}(h:a=b):a=b:=h
noncomputable abbrev cenvOf (X:Cx) (scope:Scope) (C:Addr):Env:=
 { scope:=relabel scope X.env,locals:=C,globals:=X.env.globals,cells:=cellsFrom (C+1) scope.names (cloOf X.env.cells scope.names []),qual:=X.env.qual,func:=none,code:=X.env.code,frame:=X.env.frame,builtins:=X.env.builtins }
noncomputable def Cx.blk (X:Cx) (N:List Str) (scope:Scope) (C:Addr) (s:Shared) (H:Hp) (ex:List Addr):Cx:=
 { X with N:=N,s₀:=s,H₀:=H,env:=cenvOf X scope C,outer:=X.stack,stack:=X.stack,ex:=ex,fn:=fun x=>scope.names.lookup x==some .cell,pn:=[],xe:=fun _ _=>False }
noncomputable def srcσ (src:List (Option Nat)) (σ:St):St:=src.map fun o=>match o with|some j=>(σ[j]?).getD none|none=>none
structure BlkScope (X:Cx) (N:List Str) (src:List (Option Nat)) (scope:Scope):Prop where
 kind:scope.kind=.function
 uniq:∀ y∈scope.names,scope.names.lookup y.1=some y.2
 free:∀ y∈scope.names,y.2=.free→X.env.scope.names.lookup y.1=some .cell∨X.env.scope.names.lookup y.1=some .free
 len:src.length=N.length
 from_:∀ (i j:Nat) (x:Str),src[i]?=some (some j)→N[i]?=some x→X.N[j]?=some x∧scope.names.lookup x=some .free
noncomputable section
variable {X:Cx}{pins:List (Addr×Obj)}{σ:St}{H:Hp}{s s2:Shared}{N:List Str}{src:List (Option Nat)}{scope:Scope}
theorem newEnv_blk {E:Value→Shared→Prop}{M:Model}{A:Around}{cl:List (Str×Addr)}{Q:Env→Shared→Prop}
  (hQ:∀ h',(∀ b o,s.heap.get? b=some o→h'.get? b=some o)→h'.Ns s.heap.objs.size (fun _=>none)→CellsOk h' (s.heap.objs.size+1) (cellsFrom (s.heap.objs.size+1) scope.names []) →
   Q { scope:=scope,locals:=s.heap.objs.size,globals:=X.env.globals,cells:=cellsFrom (s.heap.objs.size+1) scope.names cl,qual:=X.env.qual,func:=none,code:=X.env.code,frame:=X.env.frame,builtins:=X.env.builtins } { s with heap:=h' }) :
  wpAny M A (newFunctionEnv scope X.env.globals cl [] X.env.qual none .none (some X.env)) Q E s:=by
 simp only[newFunctionEnv,Option.isSome_some,if_true];refine zE (wpAny_alloc ?_);refine zE (wpAny_layCells _ (fun name kind cells=>by cases hkc:kind==NameKind.cell<;>simp[hkc]) _ _ _ _ ?_)
 have ok:=cellsFrom_ok scope.names (s.heap.push { cls :=.type "dict",data :=.dict #[] }) (s.heap.objs.size+1) [] ⟨fun _ _ hm=>(nomatch hm),List.Pairwise.nil⟩ (by rw[Heap.size_push];exact zL _)
 rw[Heap.size_push] at ok;rw[show ({ s with heap:=s.heap.push { cls :=.type "dict",data :=.dict #[] } }:Shared).heap.objs.size=s.heap.objs.size+1 from Heap.size_push ..]
 rw[List.forIn_nil];exact zE (zW (zW (hQ _ (fun b o e=>pushCells_keeps _ _ b o (zF _ e)) ((Heap.Ns.new s.heap (.type "dict")).keeps (pushCells_keeps _ _)) ok)))
theorem blk_cell (S:BlkScope X N src scope) (ok:X.Ok){C:Addr}{x:Str}{c:Addr}(h:(cenvOf X scope C).cells.lookup x=some c) :
  (scope.names.lookup x=some .cell∧(x,c)∈cellsFrom (C+1) scope.names [])∨(scope.names.lookup x=some .free∧X.env.cells.lookup x=some c):=by
 have h:(cellsFrom (C+1) scope.names (cloOf X.env.cells scope.names [])).lookup x=some c:=h;rw[cellsFrom_app,lookup_app] at h;cases e:(cellsFrom (C+1) scope.names []).lookup x with
 | some d=>
  rw[e] at h;have:d=c:=by simpa using h
  subst this;have q:=PySem.mem_of_lookup e;rcases cellsFrom_kind _ _ _ _ _ q with z|z
  ·simp at z
  ·exact .inl ⟨S.uniq _ z,q⟩
 | none=>
  rw[e] at h;have h:(cloOf X.env.cells scope.names []).lookup x=some c:=by simpa using h
  rcases cloOf_mem (PySem.mem_of_lookup h) with z|⟨z,zc⟩
  ·simp at z
  ·obtain⟨d,hd⟩:=ok.has x (S.free _ z rfl);rw[hd] at zc;exact .inr ⟨S.uniq _ z,by rw[hd,zc];rfl⟩
theorem blk_own (S:BlkScope X N src scope){C:Addr}{x:Str}(h:scope.names.lookup x=some .cell):∃ c,(cenvOf X scope C).cells.lookup x=some c:=by
 obtain⟨c,e⟩:=cell_has (sc:=scope) (n:=C+1) h;refine⟨c,?_⟩;show (cellsFrom (C+1) scope.names (cloOf X.env.cells scope.names [])).lookup x=some c;rw[cellsFrom_app,lookup_app,e];rfl
theorem blk_free (S:BlkScope X N src scope) (ok:X.Ok){C:Addr}{x:Str}(h:scope.names.lookup x=some .free):∃ c,(cenvOf X scope C).cells.lookup x=some c∧X.env.cells.lookup x=some c:=by
 have hm:=PySem.mem_of_lookup h;obtain⟨d,hd⟩:=cloOf_has (cells:=X.env.cells) (acc:=[]) hm;obtain⟨c,hc⟩:=lookup_of_mem hd;have e:(cenvOf X scope C).cells.lookup x=some c:=by
  show (cellsFrom (C+1) scope.names (cloOf X.env.cells scope.names [])).lookup x=some c;rw[cellsFrom_app,lookup_app];cases e:(cellsFrom (C+1) scope.names []).lookup x with
  | none=>simpa using hc
  | some d=>
   rcases cellsFrom_kind _ _ _ _ _ (PySem.mem_of_lookup e) with z|z
   ·simp at z
   ·have:=S.uniq _ z;rw[h] at this;cases this
 rcases blk_cell S ok e with ⟨z,_⟩|⟨_,z⟩
 ·rw[h] at z;cases z
 ·exact⟨c,e,z⟩
theorem blk_kind (x:Str){C:Addr}:(cenvOf X scope C).kindOf x=(scope.names.lookup x).map fun k=>if (k==NameKind.free&&X.env.scope.kind == .function&&X.env.kindOf x==some .cell) then NameKind.cell else k:=by
 show (relabel scope X.env).names.lookup x=_;exact lookup_relabel
theorem srcσ_get {i:Nat}{v:V}(h:(srcσ src σ)[i]?=some (some v)):∃ j,src[i]?=some (some j)∧σ[j]?=some (some v):=by
 unfold srcσ at h;rw[zM] at h;cases e:src[i]? with
 | none=>rw[e] at h;cases h
 | some o=>
  rw[e] at h;cases o with
  | none=>cases h
  | some j=>
   refine⟨j,rfl,?_⟩;have h:(σ[j]?).getD none=some v:=by simpa using h
   cases q:σ[j]? with
   | none=>rw[q] at h;cases h
   | some z=>rw[q] at h;rw[show z=some v from h]
theorem blk_start {ex:List Addr}{h':Heap}{D C:Nat}{o:Obj}(S:BlkScope X N src scope) (I:Inv X pins σ H s2) (hf:∀ b∈ex,FpOk X pins H b) (hob:∀ b∈ex,∃ o,s2.heap.get? b=some o)
  (hD:D=s2.heap.objs.size) (hC:C=s2.heap.objs.size+1) (hk:∀ b o,s2.heap.get? b=some o→h'.get? b=some o) (hDo:h'.get? D=some o) (hdo:∀ v,o.data ≠ .cell v)
  (hns:h'.Ns C (fun _=>none)) (hcs:CellsOk h' (C+1) (cellsFrom (C+1) scope.names [])) :
  Inv (X.blk N scope C s2 H ex) (X.pn++pins++[(D,o)]) (srcσ src σ) H { s2 with heap:=h' }:=by
 have lt:∀ {b:Nat}{o:Obj},s2.heap.get? b=some o→b<s2.heap.objs.size:=fun e=>zJ e
 have fr:∀ a:Nat,s2.heap.objs.size≤a→H a=none:=fun a h=>I.hok.fresh h
 have cold:∀ (x:Str) (c:Nat),X.env.cells.lookup x=some c→c<s2.heap.objs.size:=fun x c e=>by obtain⟨v,z⟩:=I.cell x c e;exact z.lt
 have own:∀ {x:Str}{c:Nat},(x,c)∈cellsFrom (C+1) scope.names []→C+1≤c:=fun q=>(hcs.empty _ _ q).2
 refine⟨⟨I.mod,S.kind,I.ok.glob,I.ok.blt,?_,?_,?_,?_,I.ok.hd,I.ok.frames,.inl rfl,?_,I.bs,?_,?_,?_,I.stack,I.stkFree⟩,rfl,I.bare,Un.kept hk,⟨_,hns,?_⟩,?_,?_,?_,?_,I.hok.kept hk,?_⟩
 ·show s2.heap.objs.size≤C;omega
 ·intro x y c h1 h2;rcases blk_cell S I.ok h1 with ⟨_,a⟩|⟨_,a⟩<;>rcases blk_cell S I.ok h2 with ⟨_,b⟩|⟨_,b⟩
  ·exact name_of_addr hcs.apart a b
  ·have:C+1≤(c:Nat):=own a;have:=natLt (cold _ _ b);omega
  ·have:C+1≤(c:Nat):=own b;have:=natLt (cold _ _ a);omega
  ·exact I.ok.inj x y c a b
 ·intro x hx;have hx:(cenvOf X scope C).kindOf x=some .cell∨(cenvOf X scope C).kindOf x=some .free:=hx;rw[blk_kind] at hx;cases e:scope.names.lookup x with
  | none=>rw[e] at hx;rcases hx with z|z<;>cases z
  | some k=>
   cases k with
   | cell=>exact blk_own S e
   | free=>obtain⟨c,q,_⟩:=blk_free S I.ok e;exact⟨c,q⟩
   | _=>rw[e] at hx;exfalso;revert hx;simp
 ·intro x c hx h1;have hx:scope.names.lookup x=some .cell:=by have:(scope.names.lookup x==some .cell)=true:=hx;simpa using this
  show s2.heap.objs.size≤c;rcases blk_cell S I.ok h1 with ⟨_,a⟩|⟨z,_⟩
  ·have:C+1≤(c:Nat):=own a;show s2.heap.objs.size≤(c:Nat);omega
  ·rw[hx] at z;cases z
 ·intro b hb;obtain⟨ob,e⟩:=hob b hb;have l:=natLt (lt e);refine⟨fun z =>?_,fun x c h1 z =>?_⟩
  ·have z:=natEq (a:=b) (b:=C) z;omega
  ·subst z;rcases blk_cell S I.ok h1 with ⟨_,a⟩|⟨_,a⟩
   ·have:C+1≤(c:Nat):=own a;omega
   ·exact(hf c hb).2.2.2.2.1 x c a rfl
 ·show X.base.objs.size≤s2.heap.objs.size;have:=I.ok.bsz;have:=I.sz;omega
 ·intro b ob e hb;rcases(hf b hb).2.2.2.1 with z|z
  ·exact I.ok.noex b ob e z
  ·have e:X.base.get? b=some ob:=e;have a:=natLt (zJ e);have:=I.ok.bsz;have z:X.s₀.heap.objs.size≤(b:Nat):=z;omega
 ·intro b hb;intro z;have z:b∈frs X.stack:=z;have:=I.stkSub b z;rcases zG.mp this with q|q
  ·exact(hf b hb).2.1 q
  ·exact(hf b hb).2.2.1 q
 ·intro i x v h1 h2 h3;obtain⟨j,e1,e2⟩:=srcσ_get h2;obtain⟨e3,e4⟩:=S.from_ i j x e1 h1;obtain⟨m,hm,hl⟩:=I.loc;have kx:=S.free _ (PySem.mem_of_lookup e4) rfl;have vis:Vis X.env.scope x :=.inr kx;obtain⟨u,r,lk⟩:=hl j x v e3 e2 vis;refine⟨u,r,?_⟩;rcases lk with ⟨z,_⟩|⟨_,c,ec,cc⟩
  ·exfalso;have z:X.env.scope.names.lookup x=some .local:=z;rw[z] at kx;rcases kx with q|q<;>cases q
  ·obtain⟨c',q1,q2⟩:=blk_free (C:=C) S I.ok e4;rw[ec] at q2;cases q2;refine .inr ⟨?_,c,q1,cc.keeps hk⟩;show (cenvOf X scope C).kindOf x=some .cell∨(cenvOf X scope C).kindOf x=some .free;rw[blk_kind,e4,zT]
   split
   ·exact .inl rfl
   ·exact .inr rfl
 ·intro x c h1;rcases blk_cell S I.ok h1 with ⟨_,a⟩|⟨_,a⟩
  ·exact⟨none,(hcs.empty _ _ a).1⟩
  ·obtain⟨v,z⟩:=I.cell x c a;exact⟨v,z.keeps hk⟩
 ·exact fr C (by omega)
 ·intro x c h1;rcases blk_cell S I.ok h1 with ⟨_,a⟩|⟨_,a⟩
  ·have:C+1≤(c:Nat):=own a;exact fr c (by omega)
  ·exact I.freeC x c a
 ·intro p hp;have hp:p∈X.pn++pins++[(D,o)]:=by simpa [Cx.blk] using hp
  rcases zO.mp hp with q|q
  ·obtain⟨a1,a2,a3,a4,a5⟩:=I.pin p q;refine⟨hk _ _ a1,a2,fun z =>?_,fun z =>?_,a5⟩
   ·have z:=natEq (a:=p.1) (b:=C) z;have q:=natLt (lt a1);omega
   ·have z:p.1∈frs X.stack:=z;rcases zG.mp (I.stkSub _ z) with q|q
    ·exact a3 q
    ·exact a4 q
  ·have:p=(D,o):=by simpa using q
   subst this;refine⟨hDo,fr D (by omega),fun z =>?_,fun z =>?_,hdo⟩
   ·have z:D=C:=z;omega
   ·have z:D∈frs X.stack:=z;rcases zG.mp (I.stkSub _ z) with q|q
    ·have l:=natLt I.lt;have q:=natEq (a:=D) (b:=X.env.locals) q;omega
    ·exact I.nofs (show s2.heap.objs.size≤D by omega) q
 ·show (srcσ src σ).length=N.length;unfold srcσ;rw[zH];exact S.len
end
end L2
end
noncomputable section
namespace L2
open PySem PySem.Spec PyProof.Rows
noncomputable section
variable {prog:Program}{w:World}{A:Around}{R:Result→Shared→Prop}{s:Shared}
theorem compLoop_own {elt target iter:Expr}{ifs:List Expr}{scope:Scope}{pos:Pos}{it acc:Value}{env:Env}(I:Nat→Shared→Prop)
  (turn:∀ n s,I n s→wpAny (model prog w) A (pyNext it) (fun r s₁=>match r with
   | none=>R (.ok .next) s₁
   | some v=>wpAny (model prog w) A (letOwnedTupleGo target it v) (fun _ s₁'=>wpAny (model prog w) A (assign target env v) (fun _ s₂=>
     wpAny (model prog w) A (forIn ifs true fun c r=>if r=true then do let ok ← isTrue c env (eval c env);pure (ForInStep.yield ok) else pure (ForInStep.yield r)) (fun ok s₃=>
      if ok=true then wpAny (model prog w) A (eval elt env) (fun x s₄=>wpAny (model prog w) A (call (.builtin "list.append") [acc,x]) (fun _ s₅=>∃ m,m<n∧I m s₅) (fun _ _=>False) s₄) (fun _ _=>False) s₃
      else ∃ m,m<n∧I m s₃) (fun _ _=>False) s₂) (fun _ _=>False) s₁') (fun _ _=>False) s₁) (fun _ _=>False) s)
  (n:Nat) (h:I n s) :
  codeAny (model prog w) A (.compLoop (.ListComp elt [⟨target,iter,ifs,0⟩] scope pos) 0 it acc env) R s:=by
 refine codeAny_loop rfl I (fun n s hI =>?_) n h
 show wpAny _ A ((compTurn (.ListComp elt [⟨target,iter,ifs,0⟩] scope pos) 0 it acc env).onRaise (fun x=>do noteFrame x env;theTreesLotGoes x)) _ _ s
 refine wpAny_noted ?_;rw[compTurn_list];refine zE (wpAny_standAt (zE (wpAny_mono (turn n s hI) (fun r s₁ h₁ =>?_) fun _ _ h'=>h'.elim)))
 cases r with
 | none=>exact zW h₁
 | some v=>
  refine zE (wpAny_mono h₁ (fun _ s₁' h₁'=>zE (wpAny_mono h₁' (fun _ s₂ h₂=>zE (wpAny_mono h₂ (fun ok s₃ h₃ =>?_) fun _ _ h'=>h'.elim)) fun _ _ h'=>h'.elim)) fun _ _ h'=>h'.elim)
  cases ok with
  | false=>exact zW ⟨rfl,h₃⟩
  | true=>exact zE (zE (wpAny_mono h₃ (fun x s₄ h₄=>zE (wpAny_mono h₄ (fun _ s₅ h₅=>zW (zW ⟨rfl,h₅⟩)) fun _ _ h'=>h'.elim)) fun _ _ h'=>h'.elim))
end
noncomputable def GAg (own:List Nat) (g:TG):Prop:=∀ x σ H (Q:St→Hp→Prop),g x σ H Q→g x σ H fun σ2 H2=>(σ2.length=σ.length∧∀ i,i∉own→σ2[i]?=σ[i]?)∧Q σ2 H2
theorem ag_name (i:Nat):GAg [i] (gName i):=fun x σ H Q h=>⟨⟨by simp,fun j hj=>by
 have:i≠j:=fun e=>hj (by simp[e])
 rw[zK this]⟩,h⟩
noncomputable def PTs (X:Cx) (ifs:List Expr) (t:TT):Prop:=
 ∀ (pins:List (Addr×Obj)) (s:Shared) (σ:St) (H:Hp) (Q:Bool→Hp→Prop),Inv X pins σ H s→t σ H Q →
  wpAny (model X.prog X.w) X.A (forIn ifs true fun c r=>if r=true then do let ok ← isTrue c X.env (eval c X.env);pure (ForInStep.yield ok) else pure (ForInStep.yield r)) (TP X pins σ Q) X.xe s
noncomputable def tTrue:TT:=fun _ H Q=>Q true H
noncomputable section
variable {X:Cx}{c:Expr}{t:TT}
theorem pts_nil:PTs X [] tTrue:=fun pins s σ H Q I h=>wpAny_tests_nil ⟨H,I,h⟩
end
noncomputable def tLc (wi:TI) (src:List (Option Nat)) (g:TG) (tt:TT) (te:TE):TE:=fun σ H Q=>wi σ H fun J H1=>∃ W:Nat→Nat→List V→Hp→Prop,(∃ m,W 0 m [] H1)∧∀ i m ys H,W i m ys H →
 (J.stop i H∧∀ D,H D=none→Q (.ref D) (upd H D (.lst ys))) ∨
 (J.go i H∧ys.length<sizeLine∧∃ Nx:List V→Hp→Prop,(∀ ys' H',Nx ys' H'→∃ m',m'<m∧W (i+1) m' ys' H')∧∀ x H',J.yld i H x H' →
  g x (srcσ src σ) H' fun σ2 H2=>tt σ2 H2 fun b H3=>if b=true then te σ2 H3 fun v H4=>Nx (ys++[v]) H4 else Nx ys H3)
noncomputable section
variable {X:Cx}{N:List Str}{src:List (Option Nat)}{scope:Scope}{tg iter elt:Expr}{ifs:List Expr}{wi:TI}{g:TG}{tt:TT}{te:TE}{pos:Pos}{own:List Nat}
theorem comp_core {σ:St}{H:Hp}{s:Shared}{pins:List (Addr×Obj)}{Q:VK}{RR:Value→Addr→Result→Shared→Prop}(S:BlkScope X N src scope) (hc:X.calm=true) (hi:PI X tg iter wi)
  (ag:GAg own g) (ho:∀ i∈own,src[i]?=some none)
  (hb:∀ C s H ex,PG (X.blk N scope C s H ex) tg g∧PTs (X.blk N scope C s H ex) ifs tt∧PE (X.blk N scope C s H ex) elt te)
  (I:Inv X pins σ H s) (h:tLc wi src g tt te σ H Q)
  (hRR:∀ (D C:Addr) (s':Shared) (H':Hp),Inv X pins σ H' s'→(∃ m,s'.heap.Ns C m)→H' C=none→C≠X.env.locals→(C∈X.ex∨X.s₀.heap.objs.size≤C)→(∀ x c,X.env.cells.lookup x=some c→c≠C)→(∀ p∈X.pn++pins,p.1≠C) →
   Q (.ref D) H'→RR (.ref D) C (.ok .next) s') :
  wpAny (model X.prog X.w) X.A (eval iter X.env) (fun x s₁=>wpAny (model X.prog X.w) X.A (pyIter x) (fun it s₂=>wpAny (model X.prog X.w) X.A (newList []) (fun acc s₃=>
   wpAny (model X.prog X.w) X.A (newFunctionEnv scope X.env.globals (cloOf X.env.cells scope.names []) [] X.env.qual none .none (some X.env)) (fun cenv s₄=>
    codeAny (model X.prog X.w) X.A (.compStart (.ListComp elt [⟨tg,iter,ifs,0⟩] scope pos) 0 it acc { cenv with scope:=relabel scope X.env }) (RR acc cenv.locals) s₄) X.xe s₃) X.xe s₂) X.xe s₁) X.xe s:=by
 refine thn (hi pins s σ H _ I h) fun v s1 h1=>thn h1 fun itv s2 h2 =>?_
 obtain⟨it,fp,tn,J,H2,e,I2,T,st2,f2,W,⟨m0,w0⟩,turn⟩:=h2;subst e;refine wpAny_newObj_type ?_;generalize hs3:s2.heap.push { cls :=.type "list",dict:=none,data :=.seq ([]:List Value).toArray }=h3;have sz3:h3.objs.size=s2.heap.objs.size+1:=by rw[← hs3,Heap.size_push]
 have k3:∀ b o,s2.heap.get? b=some o→h3.get? b=some o:=fun b o e=>hs3 ▸ zF _ e
 have d3:h3.get? s2.heap.objs.size=some (lobj [] 0):=hs3 ▸ zV _ rfl;refine newEnv_blk (X:=X) (s:={ s2 with heap:=h3 }) fun h4 k4 ns4 cs4 =>?_
 rw[show ({ s2 with heap:=h3 }:Shared).heap.objs.size=s2.heap.objs.size+1 from sz3] at ns4 cs4 ⊢
 have k4':∀ b o,s2.heap.get? b=some o→h4.get? b=some o:=fun b o e=>k4 b o (k3 b o e)
 have fob:∀ b∈fp,∃ o,s2.heap.get? b=some o:=fun b hb=>by obtain⟨o,e,_⟩:=T.obj _ _ st2 b hb;exact⟨o,e⟩
 have I4:=blk_start (ex:=fp) (h':=h4) (D:=s2.heap.objs.size) (C:=s2.heap.objs.size+1) (o:=lobj [] 0) S I2 f2 fob rfl rfl k4' (k4 _ _ d3) (fun v z=>by cases z) ns4 cs4
 have I4:Inv (X.blk N scope (s2.heap.objs.size+1) s2 H2 fp) (X.pn++pins++[(s2.heap.objs.size,lobj [] 0)]) (srcσ src σ) H2 { s2 with heap:=h4 }:=I4;generalize hX:X.blk N scope (s2.heap.objs.size+1) s2 H2 fp=X' at I4;obtain⟨pg,pt,pe⟩:=hb (s2.heap.objs.size+1) s2 H2 fp;rw[hX] at pg pt pe;have eprog:X'.prog=X.prog:=by rw[← hX];rfl
 have ew:X'.w=X.w:=by rw[← hX];rfl
 have eK:X'.K=X.K:=by rw[← hX];rfl
 have eA:X'.A=X.A:=by rw[← hX];rfl
 have ecalm:X'.calm=true:=by rw[← hX];exact hc
 have exe:X'.xe=fun _ _=>False:=by rw[← hX];rfl
 have eenv:X'.env=cenvOf X scope (s2.heap.objs.size+1):=by rw[← hX];rfl
 have epn:X'.pn=[]:=by rw[← hX];rfl
 have es0:X'.s₀=s2:=by rw[← hX];rfl
 have eH0:X'.H₀=H2:=by rw[← hX];rfl
 have eex:X'.ex=fp:=by rw[← hX];rfl
 have efs:X'.fs=frs X.stack:=by rw[← hX];rfl
 have hCl:X'.env.locals=s2.heap.objs.size+1:=by rw[eenv]
 have hDC:s2.heap.objs.size≠X'.env.locals:=by rw[hCl];exact zR (Nat.lt_succ_self _)
 have hDF:s2.heap.objs.size∉X'.fs:=by
  rw[efs];intro z;rcases zG.mp (I2.stkSub _ z) with q|q
  ·exact absurd (natEq q) (Nat.ne_of_gt (natLt I2.lt))
  ·exact I2.nofs (zL _) q
 have hpD:∀ p∈X'.pn++(X.pn++pins),p.1≠s2.heap.objs.size:=fun p hp=>by rw[epn,List.nil_append] at hp;exact zR (natLt (zJ (I2.pin p hp).1))
 have fpD:∀ b∈fp,b≠s2.heap.objs.size:=fun b hb=>by obtain⟨o,e⟩:=fob b hb;exact zR (natLt (zJ e))
 have stat:∀ {P':List (Addr×Obj)}{H':Hp},(∀ p∈P',p∈X.pn++pins∨p.1=s2.heap.objs.size)→(∀ b∈fp,H' b=none)→∀ b∈fp,FpOk X' P' H' b:=fun {P' H'} hP hn b hb=>by
  obtain⟨a1,a2,a3,a4,a5,a6⟩:=f2 b hb;obtain⟨o,e⟩:=fob b hb;have l:=natLt (zJ e);refine⟨hn b hb,?_,?_,.inl (by rw[eex];exact hb),fun x c q z =>?_,fun p hp z =>?_⟩
  ·rw[hCl];exact zR (Nat.lt_succ_of_lt l)
  ·rw[efs];intro z;rcases zG.mp (I2.stkSub b z) with q|q
   ·exact a2 q
   ·exact a3 q
  ·subst z;rw[eenv] at q;rcases blk_cell S I2.ok q with ⟨_,r⟩|⟨_,r⟩
   ·have:=natLe (cs4.empty _ _ r).2;omega
   ·exact a5 x c r rfl
  ·rw[epn,List.nil_append] at hp;rcases hP p hp with q|q
   ·exact a6 p q z
   ·exact fpD b hb (z.symm.trans q)
 have loop:codeAny (model X.prog X.w) X.A (.compLoop (.ListComp elt [⟨tg,iter,ifs,0⟩] scope pos) 0 (.ref it) (.ref s2.heap.objs.size) (cenvOf X scope (s2.heap.objs.size+1))) (RR (.ref s2.heap.objs.size) (s2.heap.objs.size+1)) { s2 with heap:=h4 }:=by
  refine compLoop_own (fun n s'=>∃ i ys its nn H',Inv X' (X.pn++pins++[(s2.heap.objs.size,lobj its nn)]) (srcσ src σ) H' s'∧Vals ys its∧ys.length≤sizeLine∧tn i s'.heap∧(∀ b∈fp,H' b=none)∧W i n ys H') ?_ m0
   ⟨0,[],[],0,H2,I4,.nil,Nat.zero_le _,T.keep _ _ _ st2 (fun b _ o e=>k4' b o e),fun b hb=>(f2 b hb).1,w0⟩
  rintro n s5 ⟨i,ys,its,nn,H5,I5,r5,z5,st5,fr5,w5⟩;have pok:∀ p∈X.pn++pins++[(s2.heap.objs.size,lobj its nn)],p∈X.pn++pins∨p.1=s2.heap.objs.size:=fun p hp=>by
   rcases zO.mp hp with q|q
   ·exact .inl q
   ·exact .inr (by rw[show p=(s2.heap.objs.size,lobj its nn) by simpa using q])
  rcases turn i n ys H5 w5 with ⟨stop,qn⟩|⟨go,lt5,Nx,hN,step⟩
  ·have d:=T.done X' eprog ew eK ecalm i _ s5 (srcσ src σ) H5 (fun _ _=>False) I5 (stat pok fr5) st5 stop
   rw[eA] at d;refine thn d fun r s6 hr6 =>?_
   obtain⟨hr,I6⟩:=hr6;subst hr;have I6':Inv X' (X.pn++pins) (srcσ src σ) (upd H5 s2.heap.objs.size (.lst ys)) s6:=I6.track r5 z5 (by rw[es0];exact zL _) hpD
   have hD5:H5 s2.heap.objs.size=none:=(I6.pin (s2.heap.objs.size,lobj its nn) (by simp)).2.1
   have Un6:=I6'.base;rw[efs,eex,eH0,es0] at Un6;have os6:=I6'.os;rw[es0] at os6;have hok6:=I6'.hok;rw[eprog,ew] at hok6;have J6:Inv X pins σ (upd H5 s2.heap.objs.size (.lst ys)) s6:=I2.call' os6 Un6 hok6 I6'.bare fun b hb=>⟨(f2 b hb).2.2.2.1,(f2 b hb).2.1,(f2 b hb).2.2.2.2.1,(f2 b hb).2.2.2.2.2⟩
   obtain⟨m,hm,_⟩:=I6'.loc;rw[hCl] at hm;have fC:=I6'.free;rw[hCl] at fC;refine hRR _ _ s6 _ J6 ⟨m,hm⟩ fC ?_ (.inr ?_) ?_ ?_ (qn _ hD5)
   ·exact fun z=>absurd (natEq z) (Nat.ne_of_gt (Nat.lt_succ_of_lt (natLt I2.lt)))
   ·exact Nat.le_succ_of_le I2.sz
   ·intro x c q z;obtain⟨v,cc⟩:=I2.cell x c q;have:=natLt cc.lt;have z:=natEq z;omega
   ·intro p hp z;have:=natLt (zJ (I2.pin p hp).1);have z:=natEq z;omega
  ·have d:=T.item X' eprog ew eK ecalm i _ s5 (srcσ src σ) H5 (fun _ _=>False) I5 (stat pok fr5) st5 go
   rw[eA] at d;refine thn d fun r s6 hr6 =>?_
   obtain⟨u,hr,h6⟩:=hr6;subst hr;refine thn h6 fun _ s7 h7 =>?_
   obtain⟨x,H7,I7,r7,y7,st7,fr7⟩:=h7;have I7':=I7.pinned (stat pok fr7) (T.obj _ _ st7);have g7:=pg _ s7 (srcσ src σ) H7 x u _ I7' r7 (ag _ _ _ _ (step x H7 y7));rw[eA,exe,eprog,ew,eenv] at g7;refine thn g7 fun _ s8 h8 =>?_
   obtain⟨σ8,H8,I8,⟨l8,a8⟩,q8⟩:=h8;have t8:=pt _ s8 σ8 H8 _ I8 q8;rw[eA,exe,eprog,ew,eenv] at t8;refine thn t8 fun ok s9 h9 =>?_
   obtain⟨H9,I9,q9⟩:=h9;have weak:∀ {P':List (Addr×Obj)}{H':Hp}{s':Shared},Inv X' P' σ8 H' s'→Inv X' P' (srcσ src σ) H' s':=fun J=>J.weak l8.symm fun j v hj=>by
    obtain⟨k,e1,_⟩:=srcσ_get hj;have:j∉own:=fun z=>by have:=ho j z;rw[e1] at this;cases this
    rw[a8 j this];exact hj
   cases ok with
   | false=>
    have q9:Nx ys H9:=q9;obtain⟨m',hm',w9⟩:=hN _ _ q9;refine⟨m',hm',i+1,ys,its,nn,H9,(weak I9).unpinned,r5,z5,T.keep _ _ _ st7 fun b hb o e=>(I9.pin (b,o) (zQ _ (zQ _ (mem_pinsAt hb e)))).1,fun b hb =>?_,w9⟩
    obtain⟨o,e,d⟩:=T.obj _ _ st7 b hb;exact(I9.pin (b,o) (zQ _ (zQ _ (mem_pinsAt hb e)))).2.1
   | true=>
    have q9:te σ8 H9 fun v H4=>Nx (ys++[v]) H4:=q9
    have e9:=pe _ s9 σ8 H9 _ I9 q9;rw[eA,exe,eprog,ew,eenv] at e9;refine thn e9 fun xv s10 h10 =>?_
    obtain⟨y,H10,I10,r10,q10⟩:=h10;have J10:Inv X' (X.pn++pins++pinsAt fp s7.heap++[(s2.heap.objs.size,lobj its nn)]) σ8 H10 s10:=I10.pins_of fun p hp=>by
     refine I10.pin p ?_;rw[epn,List.nil_append];rcases zO.mp hp with q|q
     ·rcases zO.mp q with q|q
      ·exact zU _ (zU _ q)
      ·exact zQ _ q
     ·exact zU _ (zQ _ q)
    have nD:∀ p∈X'.pn++(X.pn++pins++pinsAt fp s7.heap),p.1≠s2.heap.objs.size:=fun p hp=>by
     rw[epn,List.nil_append] at hp;rcases zO.mp hp with q|q
     ·exact hpD p (by rw[epn,List.nil_append];exact q)
     ·exact fpD _ (of_pinsAt q).1
    have hD10:H10 s2.heap.objs.size=none:=(J10.pin (s2.heap.objs.size,lobj its nn) (by simp)).2.1
    have T10:=J10.track r5 z5 (by rw[es0];exact zL _) nD
    have ap:=mt_append (X:=X') _ s10 σ8 _ (.ref s2.heap.objs.size) [y] (.ref s2.heap.objs.size) [xv] (fun v H'=>v=.non∧H'=upd (upd H10 s2.heap.objs.size (.lst ys)) s2.heap.objs.size (.lst (ys++[y]))) T10 rfl (.cons r10 .nil) ⟨_,ys,y,rfl,rfl,upd_same,lt5,rfl,rfl⟩
    rw[eA,exe,eprog,ew] at ap;refine thn ap fun _ s11 h11 =>?_
    obtain⟨v11,H11,I11,_,_,e11⟩:=h11;subst e11;rw[upd_upd] at I11;obtain⟨its',nn',r11,z11,I12⟩:=I11.untrack hD10 hDC hDF;obtain⟨m',hm',w11⟩:=hN _ _ q10;have I13:Inv X' (X.pn++pins++[(s2.heap.objs.size,lobj its' nn')]) (srcσ src σ) H10 s11:=(weak I12).pins_of fun p hp=>by
     refine I12.pin p ?_;rw[epn,List.nil_append];rcases zO.mp hp with q|q
     ·exact zU _ (zU _ q)
     ·exact zQ _ q
    have pinI:∀ b∈fp,∀ o,s7.heap.get? b=some o→s11.heap.get? b=some o∧H10 b=none:=fun b hb o e=>by
     have:=I12.pin (b,o) (by rw[epn,List.nil_append];exact zU _ (zQ _ (mem_pinsAt hb e)))
     exact⟨this.1,this.2.1⟩
    refine⟨m',hm',i+1,ys++[y],its',nn',H10,I13,r11,z11,T.keep _ _ _ st7 fun b hb o e=>(pinI b hb o e).1,fun b hb =>?_,w11⟩
    obtain⟨o,e,d⟩:=T.obj _ _ st7 b hb;exact(pinI b hb o e).2
 have st4:tn 0 h4:=T.keep _ _ _ st2 fun b _ o e=>k4' b o e
 exact codeAny_compStart_list loop (T.self _ 0 _ _ _ st4 loop)
end
end L2
end
noncomputable section
namespace L2
open PySem PySem.Spec PyProof.Rows
noncomputable section
variable {X:Cx}{N:List Str}{src:List (Option Nat)}{scope:Scope}{tg iter elt:Expr}{ifs:List Expr}{wi:TI}{g:TG}{tt:TT}{te:TE}{pos:Pos}{own:List Nat}
theorem blk_clos {pins:List (Addr×Obj)}{σ:St}{H:Hp}{s:Shared}(S:BlkScope X N src scope) (I:Inv X pins σ H s):closureFor scope X.env=pure (cloOf X.env.cells scope.names []):=
 closureFor_of fun y hy hk=>I.ok.has y.1 (S.free y hy hk)
theorem pe_lc (S:BlkScope X N src scope) (hc:X.calm=true) (hi:PI X tg iter wi) (ag:GAg own g) (ho:∀ i∈own,src[i]?=some none)
  (hb:∀ C s H ex,PG (X.blk N scope C s H ex) tg g∧PTs (X.blk N scope C s H ex) ifs tt∧PE (X.blk N scope C s H ex) elt te)
  (hs:∀ x,foldedSetIterable iter X.env x=pure x:=by intro _;rfl):PE X (.ListComp elt [⟨tg,iter,ifs,0⟩] scope pos) (tLc wi src g tt te):=by
 intro pins s σ H Q I h;rw[eval_ListComp];refine wpAny_comprehension_free (use:=none) rfl hs (blk_clos S I) S.kind (fun x hx hl=>by rw[S.uniq x hx,hl]) ?_
 refine comp_core (RR:=fun acc C=>compPost (model X.prog X.w) X.A X.xe none (EP X pins σ Q) acc C) S hc hi ag ho hb I h ?_
 intro D C s' H' J hm hn hL h1 h2 h3 q;obtain⟨m,hm⟩:=hm;exact⟨m,hm,fun h' hs'=>⟨.ref D,H',J.turned (h':=h') (t':=s'.toks) (fun b o hb e=>hs'.extBut b o hb e) hn hL h1 h2 h3,rfl,q⟩⟩
theorem ps_lcset {i:Nat}{y:Str}{spos py:Pos}(S:BlkScope X N src scope) (hc:X.calm=true) (hN:X.N.Nodup) (hy:X.N[i]?=some y) (hl:X.env.scope.names.lookup y=some .local) (hi:PI X tg iter wi) (ag:GAg own g) (ho:∀ i∈own,src[i]?=some none)
  (hb:∀ C s H ex,PG (X.blk N scope C s H ex) tg g∧PTs (X.blk N scope C s H ex) ifs tt∧PE (X.blk N scope C s H ex) elt te)
  (hsw:swapsWith (.ListComp elt [⟨tg,iter,ifs,0⟩] scope pos) (some (.Name y py)) spos.line X.env=pure true)
  (hs:∀ x,foldedSetIterable iter X.env x=pure x:=by intro _;rfl) :
  PS X (.Assign [.Name y py] (.ListComp elt [⟨tg,iter,ifs,0⟩] scope pos) spos) (tAsg (tLc wi src g tt te) (gName i)):=by
 intro pins s σ H D I h;have h:tLc wi src g tt te σ H fun v H1=>D.nx (σ.set i (some v)) H1:=h
 rw[exec_Assign_Name_used _ _ _ _ hsw];refine zE (wpAny_standAt (zE ?_));show wpAny _ X.A (do let _ ← comprehension (.ListComp elt [⟨tg,iter,ifs,0⟩] scope pos) scope X.env _ (newList []) false (eval iter X.env) (some (assign (.Name y py) X.env))) _ _ s;refine zE (wpAny_mono (wpAny_comprehension_free (use:=some (assign (.Name y py) X.env)) (Q:=fun _ s'=>SP X pins D .next s') rfl hs (blk_clos S I) S.kind (fun x hx hl=>by rw[S.uniq x hx,hl])
  (comp_core (RR:=fun acc C=>compPost (model X.prog X.w) X.A X.xe (some (assign (.Name y py) X.env)) (fun _ s'=>SP X pins D .next s') acc C) S hc hi ag ho hb I h ?_))
  (fun _ s' hq=>zW (zW hq)) fun _ _ e=>e)
 intro d C s' H' J hm hn hL h1 h2 h3 q;obtain⟨m,hm⟩:=hm;refine wpAny_assign_Name (store_ok2 J hN hy (.inl hl) (v :=.ref d) rfl (fun s'' J' hs'' =>?_) (.inr hl))
 obtain⟨a,sb,ha⟩:=hs'';have hCa:C≠a:=by
  rcases ha with z|z
  ·rw[z];exact hL
  ·exact fun e=>h2 _ _ z e.symm
 exact⟨m,hm.sameBut sb hCa,fun h' hs'=>⟨_,H',J'.turned (h':=h') (t':=s''.toks) (fun b o hb e=>hs'.extBut b o hb e) hn hL h1 h2 h3,q⟩⟩
end
end L2
end
noncomputable section
namespace L2
open PySem PySem.Spec PyProof.Rows
noncomputable section
variable {κ:Type} [DecidableEq κ]
noncomputable def valV (kvs:List (κ×V)) (k:κ):Option V:=(kvs.find? fun kv=>decide (kv.1=k)).map (·.2)
noncomputable def putK (kvs:List (κ×V)) (k:κ) (v:V):List (κ×V):=
 if (kvs.any fun kv=>decide (kv.1=k))=true then kvs.map (fun kv=>if kv.1=k then (kv.1,v) else kv) else kvs++[(k,v)]
theorem valV_pos {p:κ×V}{r:List (κ×V)}{k:κ}(e:p.1=k):valV (p::r) k=some p.2:=by simp[valV,List.find?_cons,e]
theorem valV_neg {p:κ×V}{r:List (κ×V)}{k:κ}(e:¬ p.1=k):valV (p::r) k=valV r k:=by simp[valV,List.find?_cons,e]
theorem valV_any (k:κ):∀ kvs:List (κ×V),(kvs.any fun kv=>decide (kv.1=k))=(valV kvs k).isSome
 | []=>rfl
 | p::r=>by
  rw[List.any_cons];by_cases e:p.1=k
  ·simp only[valV_pos e,decide_eq_true e,Bool.true_or,Option.isSome_some]
  ·rw[valV_neg e,decide_eq_false e,Bool.false_or];exact valV_any k r
theorem length_putK (kvs:List (κ×V)) (k:κ) (v:V):(putK kvs k v).length≤kvs.length+1:=by
 unfold putK
 split
 ·rw[zH];omega
 ·rw[List.length_append,zP,List.length_nil];omega
theorem putK_new {kvs:List (κ×V)}{k:κ}(v:V) (h:valV kvs k=none):putK kvs k v=kvs++[(k,v)]:=by
 unfold putK;rw[valV_any,h];exact if_neg (by decide)
theorem RelO.isSome_eq {o:Option V}{u:Option Value}(r:RelO o u):o.isSome=u.isSome:=by
 cases o with
 | none=>cases u with
  | none=>rfl
  | some _=>exact(show False from r).elim
 | some _=>cases u with
  | none=>exact(show False from r).elim
  | some _=>rfl
theorem RelO.getD {o:Option V}{u:Option Value}{d:V}{d':Value}(r:RelO o u) (rd:RelV d d'):RelV (o.getD d) (u.getD d'):=by
 cases o with
 | none=>cases u with
  | none=>exact rd
  | some _=>exact(show False from r).elim
 | some _=>cases u with
  | none=>exact(show False from r).elim
  | some _=>exact r
theorem KV.val {kvs:List (κ×V)}{vs:List (κ×Value)}(r:KV kvs vs) (k:κ):RelO (valV kvs k) (valueAt vs k):=by
 unfold KV at r
 induction r with
 | nil=>exact True.intro
 | @cons p q ps qs h t ih=>
  obtain⟨h1,h2⟩:=h;by_cases e:p.1=k
  ·have e':q.1=k:=h1.symm.trans e;have b:valueAt (q::qs) k=some q.2:=by simp[valueAt,List.find?_cons,e']
   rw[valV_pos e,b];exact h2
  ·have e':¬ q.1=k:=fun z=>e (h1.trans z)
   have b:valueAt (q::qs) k=valueAt qs k:=by simp[valueAt,List.find?_cons,e']
   rw[valV_neg e,b];exact ih
theorem KV.any {kvs:List (κ×V)}{vs:List (κ×Value)}(r:KV kvs vs) (k:κ):(kvs.any fun kv=>decide (kv.1=k))=vs.any fun kv=>decide (kv.1=k):=by
 unfold KV at r
 induction r with
 | nil=>rfl
 | cons h t ih=>rw[List.any_cons,List.any_cons,ih,h.1]
theorem KV.repl {kvs:List (κ×V)}{vs:List (κ×Value)}(r:KV kvs vs) (k:κ){y:V}{u:Value}(ry:RelV y u) :
  KV (kvs.map fun kv=>if kv.1=k then (kv.1,y) else kv) (vs.map fun kv=>if kv.1=k then (kv.1,u) else kv):=by
 unfold KV at r ⊢
 induction r with
 | nil=>exact .nil
 | @cons p q ps qs h t ih=>
  rw[List.map_cons,List.map_cons];refine .cons ?_ ih;obtain⟨h1,h2⟩:=h;by_cases e:p.1=k
  ·rw[if_pos e,if_pos (h1.symm.trans e)];exact⟨h1,ry⟩
  ·rw[if_neg e,if_neg (fun z=>e (h1.trans z))];exact⟨h1,h2⟩
theorem KV.put {kvs:List (κ×V)}{vs:List (κ×Value)}(r:KV kvs vs) (k:κ){y:V}{u:Value}(ry:RelV y u):KV (putK kvs k y) (stored vs k u):=by
 unfold putK stored;rw[r.any k];by_cases e:(vs.any fun kv=>decide (kv.1=k))=true
 ·rw[if_pos e,if_pos e];exact r.repl k ry
 ·rw[if_neg e,if_neg e];exact Paired.snoc r ⟨rfl,ry⟩
theorem KV.keys {kvs:List (κ×V)}{vs:List (κ×Value)}(r:KV kvs vs):kvs.map (·.1)=vs.map (·.1):=by
 unfold KV at r
 induction r with
 | nil=>rfl
 | cons h t ih=>rw[List.map_cons,List.map_cons,ih,h.1]
end
theorem kV_is {P:Program}{w:World}{k:Key}{u:Value}(r:RelV (kV k) u):(mixKind P w).is k u=true:=by
 cases k with
 | inl i=>obtain⟨t,e⟩:=(show ∃ t,u=Value.int i t from r);subst e;exact mixKind_int P w i t
 | inr x=>obtain⟨t,e⟩:=(show ∃ t,u=Value.str x t from r);subst e;exact mixKind_str P w x t
theorem items_are {P:Program}{w:World}:∀ {ks:List Key}{us:List Value},Vals (ks.map kV) us→ItemsAre (mixKind P w) ks us
 | [],_,r=>by rw[List.map_nil] at r;cases r;exact .nil
 | k::ks,_,r=>by
  rw[List.map_cons] at r;cases r with
  | cons h t=>exact .cons (kV_is h) (items_are t)
noncomputable abbrev KT (H:Hp):List (List Key×V)→List (List Key×Addr×Value)→Prop:=Paired fun p q=>p.1=q.1∧H q.2.1=some (.tup (p.1.map kV))∧RelV p.2 q.2.2
theorem KT.val {H:Hp}{kvs:List (List Key×V)}{xs:List (List Key×Addr×Value)}(r:KT H kvs xs) (k:List Key):RelO (valV kvs k) ((atKey xs k).map (·.2)):=by
 induction r with
 | nil=>exact True.intro
 | @cons p q ps qs h t ih=>
  obtain⟨h1,_,h2⟩:=h;by_cases e:p.1=k
  ·have e':q.1=k:=h1.symm.trans e;have b:atKey (q::qs) k=some q.2:=by simp[atKey,List.find?_cons,e']
   rw[valV_pos e,b];exact h2
  ·have e':¬ q.1=k:=fun z=>e (h1.trans z)
   have b:atKey (q::qs) k=atKey qs k:=by simp[atKey,List.find?_cons,e']
   rw[valV_neg e,b];exact ih
theorem KT.keeps {H H':Hp}{kvs:List (List Key×V)}{xs:List (List Key×Addr×Value)}(r:KT H kvs xs) (ht:∀ b ys,H b=some (.tup ys)→H' b=some (.tup ys)):KT H' kvs xs:=
 Paired.mapP r fun _ _ z=>⟨z.1,ht _ _ z.2.1,z.2.2⟩
noncomputable section
variable {P:Program}{w:World}{H:Hp}{h:Heap}{a:Addr}
theorem rd_ofD {u:HO}(ok:HOk P w H h) (e:Rd H a u):ObjOk P w H h a u:=e.ok ok
theorem dk_rd {kvs:List (Key×V)}(ok:HOk P w H h) (e:Rd H a (.dK kvs)):kvs.length≤sizeLine∧(a==sysModules)=false∧∃ vs,KV kvs vs∧h.DictOf (mixKind P w) a vs:=
 show ObjOk P w H h a (.dK kvs) from rd_ofD ok e
theorem dk_of {kvs:List (Key×V)}(ok:HOk P w H h) (e:H a=some (.dK kvs)):kvs.length≤sizeLine∧(a==sysModules)=false∧∃ vs,KV kvs vs∧h.DictOf (mixKind P w) a vs:=dk_rd ok (.inl e)
theorem key_of {ks:List Key}(ok:HOk P w H h) (e:H a=some (.tup (ks.map kV))):(tupleKind (mixKind P w)).is h ks a:=by
 obtain⟨_,its,r,o,h1,h2,n,h3⟩:=(show ObjOk P w H h a (.tup (ks.map kV)) from ok a _ e)
 exact⟨o,its.toArray,n,h1,h2,h3,by simpa using items_are r⟩
theorem dt_rd {kvs:List (List Key×V)}(ok:HOk P w H h) (e:Rd H a (.dT kvs)):kvs.length≤sizeLine∧(a==sysModules)=false ∧
  ∃ xs,KT H kvs xs∧h.DictOfH (tupleKind (mixKind P w)) a xs:=by
 obtain⟨z,y,xs,r,o,es,ep,h1,h2,h3,h4,h5⟩:=(show ObjOk P w H h a (.dT kvs) from rd_ofD ok e)
 refine⟨z,y,xs,r,o,es,ep,h1,h2,h3,h4,fun x hx =>?_,h5⟩
 have all:∀ {l:List (List Key×V)}{m:List (List Key×Addr×Value)},KT H l m→∀ x∈m,(tupleKind (mixKind P w)).is h x.1 x.2.1:=by
  intro l m q
  induction q with
  | nil=>intro x hx;exact nomatch hx
  | @cons p q ps qs hq t ih=>
   intro x hx;rcases zG.mp hx with e|hx
   ·subst e;exact key_of ok (by rw[← hq.1];exact hq.2.1)
   ·exact ih x hx
 exact all r x hx
end
noncomputable def DGet (H:Hp) (a:Addr) (y:V) (r:Option V):Prop:=
 (∃ kvs k,Rd H a (.dK kvs)∧y=kV k∧r=valV kvs k)∨∃ kvs k b,Rd H a (.dT kvs)∧y=.ref b∧H b=some (.tup (k.map kV))∧r=valV kvs k
noncomputable def DPut (H:Hp) (a:Addr) (y v:V) (H':Hp):Prop:=
 (∃ kvs k,H a=some (.dK kvs)∧y=kV k∧kvs.length<sizeLine∧H'=upd H a (.dK (putK kvs k v))) ∨
 ∃ kvs k b,H a=some (.dT kvs)∧y=.ref b∧H b=some (.tup (k.map kV))∧kvs.length<sizeLine∧H'=upd H a (.dT (putK kvs k v))
theorem DGet.k {H:Hp}{a:Addr}{kvs:List (Key×V)}{k:Key}(e:H a=some (.dK kvs)):DGet H a (kV k) (valV kvs k) :=.inl ⟨kvs,k,.inl e,rfl,rfl⟩
theorem DGet.t {H:Hp}{a b:Addr}{kvs:List (List Key×V)}{k:List Key}(e:H a=some (.dT kvs)) (eb:H b=some (.tup (k.map kV))):DGet H a (.ref b) (valV kvs k) :=.inr ⟨kvs,k,b,.inl e,rfl,eb,rfl⟩
theorem DPut.t {H:Hp}{a b:Addr}{kvs:List (List Key×V)}{k:List Key}{v:V}(e:H a=some (.dT kvs)) (eb:H b=some (.tup (k.map kV))) (hl:kvs.length<sizeLine) :
  DPut H a (.ref b) v (upd H a (.dT (putK kvs k v))) :=.inr ⟨kvs,k,b,e,rfl,eb,hl,rfl⟩
noncomputable section
variable {X:Cx}{pins:List (Addr×Obj)}{σ:St}{H:Hp}{s:Shared}{a:Addr}{y v:V}{u r:Value}{o:Option V}{A:Around}{E:Value→Shared→Prop}
theorem Inv.big (I:Inv X pins σ H s):sysModules<s.heap.objs.size:=by
 have h:mainGlobals<s.heap.objs.size:=(I.mod.glob.keeps I.bk).lt;exact Nat.lt_trans (by decide) h
theorem d_write {h':Heap}{t':Nat}{ob:HO}(I:Inv X pins σ H s) (mu:Mut (H a)) (hs:Heap.SameBut a s.heap h') (he:∃ q,h'.get? a=some q) (new:ObjOk X.prog X.w (upd H a ob) h' a ob) :
  Inv X pins σ (upd H a ob) { s with heap:=h',toks:=t' }:=
 I.write (x:=a) (e:=a) mu (.inl rfl) (fun b q hb z=>(hs.2 b hb).trans z) he new
theorem dk_new {P:Program}{w:World}{H':Hp}{h':Heap}{kvs:List (Key×V)}{vs:List (Key×Value)}(z:kvs.length≤sizeLine) (hd:(a==sysModules)=false) (rel:KV kvs vs) (dd:h'.DictOf (mixKind P w) a vs) :
  ObjOk P w H' h' a (.dK kvs):=⟨z,hd,vs,rel,dd⟩
end
noncomputable section
variable {X:Cx}{pins:List (Addr×Obj)}{σ:St}{H:Hp}{s:Shared}{a:Addr}{kvs:List (Key×V)}{k:Key}{u:Value}{A:Around}{E:Value→Shared→Prop}
end
noncomputable def NoSl (i:Expr):Prop:=∀ ov iv,subscripted i false ov iv=operate [ov,iv] (getItem ov iv)
theorem subD_of {prog:Program}{w:World}{A:Around}{E:Value→Shared→Prop}{s:Shared}{env:Env}{value slice:Expr}{pos:Pos}{T id:String}{Q:Value→Shared→Prop}
  (hl:typeLookup (.type T) "__getitem__" = pure (some (.builtin id))) (hs:NoSl slice)
  (h:wpAny (model prog w) A (eval value env) (fun o s₁=>wpAny (model prog w) A (eval slice env) (fun i s₂=>s₂.TypeIs o T∧wpAny (model prog w) A (getItem o i) Q E s₂) E s₁) E s) :
  wpAny (model prog w) A (eval (.Subscript value slice pos) env) Q E s:=by
 refine Subscript_ (wpAny_mono h (fun o s₁ h₁=>wpAny_mono h₁ (fun i s₂ h₂ =>?_) fun _ _ x=>x) fun _ _ x=>x)
 obtain⟨hT,h₂⟩:=h₂;unfold subscriptTail;refine zE ?_;rw[getitemInPython_of_ne hT.not_modules];refine zE (wpAny_specialOf hT hl ?_);have fin:wpAny (model prog w) A (subscripted slice false o i) (fun r s₃=>wpAny (model prog w) A (letTemporaryGo value o r >>= fun _=>pure r) Q E s₃) E s₂:=by rw[hs o i];exact wpAny_operating (wpAny_mono h₂ (fun r s₃ h₃=>zE (wpAny_letTemporaryGo (zW h₃))) fun _ _ x=>x)
 first
  | exact zW (zE fin)
  | exact zE (zW (zE fin))
  | exact zE fin
noncomputable section
variable {X:Cx}{o i e value:Expr}{pos pos' tpos:Pos}{td ty tv:TE}
end
theorem dk_empty {P:Program}{w:World}{H:Hp}(h:Heap) (hb:sysModules<h.objs.size):ObjOk P w H (h.push { cls :=.type "dict",data :=.dict #[] }) h.objs.size (.dK []):=
 ⟨Nat.zero_le _,beq_eq_false_iff_ne.mpr (Ne.symm (zR hb)),[],.nil,Heap.DictOf.new h⟩
noncomputable section
variable {X:Cx}{pos:Pos}
end
noncomputable def tPairs:List (TE×TE)→St→Hp→(List (V×V)→Hp→Prop)→Prop
 | [],_,H,Q=>Q [] H
 | (tk,tv)::r,σ,H,Q=>tk σ H fun x H1=>tv σ H1 fun y H2=>tPairs r σ H2 fun ps H3=>Q ((x,y)::ps) H3
noncomputable abbrev VV:List (V×V)→List (Value×Value)→Prop:=Paired fun p q=>RelV p.1 q.1∧RelV p.2 q.2
noncomputable def PPs (X:Cx) (pos:Pos) (keys:List (Option Expr)) (values:List Expr) (trs:List (TE×TE)):Prop:=
 ∀ (pins:List (Addr×Obj)) (s:Shared) (σ:St) (H:Hp) (Q:List (V×V)→Hp→Prop),Inv X pins σ H s→tPairs trs σ H Q →
  wpAny (model X.prog X.w) X.A (evalPairs (pairTrees keys values X.env pos)) (fun vs s'=>∃ ps H',Inv X pins σ H' s'∧VV ps vs∧Q ps H') X.xe s
theorem pps_nil {X:Cx}{pos:Pos}:PPs X pos [] [] []:=fun pins s σ H Q I h=>pairTrees_nil_walk ⟨[],H,I,.nil,h⟩
theorem pps_cons {X:Cx}{pos:Pos}{k v:Expr}{ks:List (Option Expr)}{vs:List Expr}{tk tv:TE}{trs:List (TE×TE)}(hk:PE X k tk) (hv:PE X v tv) (hr:PPs X pos ks vs trs) :
  PPs X pos (some k::ks) (v::vs) ((tk,tv)::trs):=fun pins s σ H Q I h=>
 pairTrees_cons_walk (thn (hk pins s σ H _ I h) fun u s1 ⟨x,H1,I1,rx,q1⟩=>thn (hv pins s1 σ H1 _ I1 q1) fun w2 s2 ⟨y,H2,I2,ry,q2⟩=>thn (hr pins s2 σ H2 _ I2 q2) fun ws s3 ⟨ps,H3,I3,rel,q3⟩=>⟨(x,y)::ps,H3,I3,.cons ⟨rx,ry⟩ rel,q3⟩)
noncomputable def mergeK (kvs more:List (Key×V)):List (Key×V):=more.foldl (fun acc kv=>putK acc kv.1 kv.2) kvs
theorem KV.merge:∀ {more:List (Key×V)}{rs:List (Key×Value)}{kvs:List (Key×V)}{vs:List (Key×Value)},KV more rs→KV kvs vs→KV (mergeK kvs more) (merged vs rs):=by
 intro more rs kvs vs r;unfold KV at r
 induction r generalizing kvs vs with
 | nil=>intro q;exact q
 | @cons p q ps qs h t ih=>
  intro r0;have e:KV (putK kvs p.1 p.2) (stored vs q.1 q.2):=by have:=r0.put p.1 h.2;rw[← h.1];exact this
  exact ih e
theorem length_mergeK:∀ (more kvs:List (Key×V)),(mergeK kvs more).length≤kvs.length+more.length
 | [],kvs=>by show kvs.length≤kvs.length+0;omega
 | p::r,kvs=>by have h1:=length_mergeK r (putK kvs p.1 p.2);have h2:=length_putK kvs p.1 p.2;show (mergeK (putK kvs p.1 p.2) r).length≤_;rw[zP];omega
theorem carries_of {P:Program}{w:World}:∀ {kvs:List (Key×V)}{ws:List (Value×Value)},VV (kvs.map fun kv=>(kV kv.1,kv.2)) ws→∃ rs,Carries (mixKind P w) ws rs∧KV kvs rs
 | [],_,r=>by rw[List.map_nil] at r;cases r;exact⟨[],True.intro,.nil⟩
 | p::kvs,_,r=>by
  rw[List.map_cons] at r;cases r with
  | @cons a b as bs h t=>obtain⟨rs,c,q⟩:=carries_of (P:=P) (w:=w) t;obtain⟨b1,b2⟩:=b;exact⟨(p.1,b2)::rs,⟨kV_is h.1,rfl,c⟩,.cons ⟨rfl,h.2⟩ q⟩
noncomputable def tDisp (trs:List (TE×TE)):TE:=fun σ H Q=>∀ p,H p=none→tPairs trs σ (upd H p (.dK [])) fun ps H2=>H2 p=some (.dK [])∧∃ kvs:List (Key×V),ps=kvs.map (fun kv=>(kV kv.1,kv.2))∧kvs.length≤15∧Q (.ref p) (upd H2 p (.dK (mergeK [] kvs)))
theorem pe_disp {X:Cx}{pos:Pos}{keys:List (Option Expr)}{values:List Expr}{trs:List (TE×TE)}(h:PPs X pos keys values trs) (hall:keys.all (·.isSome)=true) (hl:keys.length=values.length) (h0:keys≠[])
  (h15:keys.length≤15):PE X (.Dict keys values pos) (tDisp trs):=by
 intro pins s σ H Q I q;have hn:=I.hok.fresh (zL s.heap.objs.size);have I1:=I.laid (a:=s.heap.objs.size) (o :=.dK []) (h':=s.heap.push { cls :=.type "dict",data :=.dict #[] }) (t':=s.toks) (fun _ _ q=>zF _ q) (zL _) (dk_empty s.heap I.big)
 refine wpAny_Dict_walk (knd:=mixKind X.prog X.w) hall hl h0 h15 (thn (h pins _ σ _ _ I1 (q _ hn)) fun ws s2 ⟨ps,H2,I2,rel,e,kvs,ep,lk,q2⟩ =>?_)
 subst ep;obtain⟨rs,c,rk⟩:=carries_of (P:=X.prog) (w:=X.w) rel;obtain⟨z,hd,vs0,r0,dd⟩:=dk_of I2.hok e;cases r0;refine⟨rs,c,dd,fun h' dd' hs=>⟨.ref s.heap.objs.size,_,?_,rfl,q2⟩⟩
 have hz:(mergeK [] kvs).length≤sizeLine:=by have h1:=length_mergeK kvs [];rw[List.length_nil] at h1;rw[sizeLine_eq];omega
 have he:∃ q,h'.get? s.heap.objs.size=some q:=let ⟨q,_,_,hq,_⟩:=dd';⟨q,hq⟩;exact d_write I2 (by rw[e];exact True.intro) hs he (dk_new hz hd (rk.merge .nil) dd')
structure M2 (X:Cx) (o:Expr) (m:Str) (apos:Pos) (e f:Expr) (cpos:Pos):Prop where
 base:attributeBase o m X.env (eval o X.env)=eval o X.env
 few:((backTo cpos (starEach [e,f] X.env)).all (fun x=> !x.1)&&(backToKw cpos (keywordEach [] X.env)).all (fun x=>x.1.isSome)
  && decide (([e,f]:List Expr).length+([]:List Keyword).length+(if ([]:List Keyword).isEmpty then 0 else 1)<30))=true
 line:(apos.endLine==cpos.line)=true
 trees:backTo cpos (starEach [e,f] X.env)=[(false,eval e X.env),(false,eval f X.env)]
noncomputable def IsD (H:Hp) (a:Addr):Prop:=(∃ kvs,Rd H a (.dK kvs))∨∃ kvs,Rd H a (.dT kvs)
theorem isD_at {X:Cx}{pins:List (Addr×Obj)}{σ:St}{H:Hp}{s:Shared}{a:Addr}(I:Inv X pins σ H s) (d:IsD H a) :
  s.TypeIs (.ref a) "dict" ∧(∀ b,Value.ref a=.ref b→∃ ob,s.heap.get? b=some ob∧ob.dict=none)∧(a==sysModules)=false:=by
 rcases d with ⟨kvs,e⟩|⟨kvs,e⟩
 ·obtain⟨_,hd,vs,_,dd⟩:=dk_rd I.hok e;refine⟨dd.typeIs,fun b q =>?_,hd⟩
  cases q;obtain⟨ob,_,_,h1,h2,_⟩:=dd;exact⟨ob,h1,h2.2.1⟩
 ·obtain⟨_,hd,xs,_,dd⟩:=dt_rd I.hok e;refine⟨dd.typeIs,fun b q =>?_,hd⟩
  cases q;obtain⟨ob,_,_,h1,h2,_⟩:=dd;exact⟨ob,h1,h2.2.1⟩
noncomputable section
variable {X:Cx}{pins:List (Addr×Obj)}{σ:St}{H:Hp}{s:Shared}{a:Addr}{y d:V}{u r:Value}{o:Option V}{A:Around}{E:Value→Shared→Prop}
theorem d_get2 {Q:Value→Shared→Prop}(hu:A.units+1<cLine) (I:Inv X pins σ H s) (g:DGet H a y o) (ry:RelV y u) (rd:RelV d r) (h:∀ w' s',Inv X pins σ H s'→RelV (o.getD d) w'→Q w' s') :
  wpAny (model X.prog X.w) A (call (.builtin "dict.get") [.ref a,u,r]) Q E s:=by
 rcases g with ⟨kvs,k,e,ey,l⟩|⟨kvs,k,b,e,ey,eb,l⟩
 ·subst ey;obtain⟨z,hd,vs,rel,dd⟩:=dk_rd I.hok e;refine call_meetsIn PySem.F.slot_dict_get dd.typeIs PySem.F.entry_dict_get (PySem.F.args_dict_get_3 _ _ _) (meets_dict_get_default (mixKind X.prog X.w) a (kV_is ry) hd r) ⟨_,dd.mapOf,h _ _ (I.tok _) ?_⟩;rw[l];exact(rel.val k).getD rd
 ·subst ey;cases (show u=Value.ref b from ry)
  obtain⟨z,hd,xs,rel,dd⟩:=dt_rd I.hok e;refine call_meetsIn PySem.F.slot_dict_get dd.typeIs PySem.F.entry_dict_get (PySem.F.args_dict_get_3 _ _ _) (meetsH_dict_get_default (tupleKind (mixKind X.prog X.w)) a b hd r) ⟨tupleKind_room_in1 hu,k,xs,key_of I.hok eb,dd,h _ _ (I.tok _) ?_⟩;rw[l];exact(rel.val k).getD rd
end
noncomputable def tDGet2 (td ty tx:TE):TE:=fun σ H Q=>td σ H fun x H1=>∃ a,x=.ref a∧IsD H1 a∧ty σ H1 fun y H2=>tx σ H2 fun z H3=>∃ o,DGet H3 a y o∧Q (o.getD z) H3
noncomputable section
variable {X:Cx}{o e f:Expr}{apos cpos:Pos}{td ty tx:TE}
theorem pe_dget2 (hu:X.A.units+1<cLine) (ho:PE X o td) (he:PE X e ty) (hf:PE X f tx) (m:M2 X o "get" apos e f cpos):PE X (.Call (.Attribute o "get" apos) [e,f] [] cpos) (tDGet2 td ty tx):=by
 intro pins s σ H Q I h;refine wpAny_Call_method m.base m.few m.line PySem.F.plainAttrs_dict PySem.F.slot_dict_get PySem.F.type_dict_get (thn (ho pins s σ H _ I h) fun u s1 ⟨x,H1,I1,rx,a,ex,d,q1⟩ =>?_)
 subst ex;obtain rfl:u=Value.ref a:=rx;obtain⟨t1,t2,_⟩:=isD_at I1 d;refine⟨t1,t2,?_⟩;rw[m.trees];refine Calls.callWith_builtin rfl (Calls.evalArgs_plain (Calls.spliced_cons (thn (he pins s1 σ H1 _ I1 q1) fun iv s2 ⟨y,H2,I2,ry,q2⟩=>Calls.spliced_cons (thn (hf pins s2 σ H2 _ I2 q2) fun fv s3 ⟨z,H3,I3,rz,ov,g,q3⟩=>Calls.spliced_nil ?_))))
 exact d_get2 hu I3 g ry rz fun w' s4 I4 rw'=>⟨_,H3,I4,rw',q3⟩
end
noncomputable section
variable {X:Cx}{pins:List (Addr×Obj)}{σ:St}{H:Hp}{s:Shared}{a:Addr}{kvs:List (Key×V)}{A:Around}{E:Value→Shared→Prop}
end
noncomputable section
variable {X:Cx}{pins:List (Addr×Obj)}{σ:St}{H:Hp}{s:Shared}{a:Addr}{y:V}{u:Value}{A:Around}{E:Value→Shared→Prop}
end
end L2
end
noncomputable section
namespace L2
open PySem PySem.Spec PyProof.Rows
inductive D where
 | non|bl (b:Bool)|int (i:Int)|str (x:Str)|lst (xs:List D)|tup (xs:List D)|scr (ns:List Int)
 | ins (c:Str) (ks:List Str) (ds:List D)
 | dic (ks:List Key) (ds:List D)
mutual
noncomputable def Rep (K:Frag) (G:Hp):D→V→Prop
 | .non,v=>v=.non
 | .bl b,v=>v=.bl b
 | .int i,v=>v=.int i
 | .str x,v=>v=.str x
 | .lst ds,v=>∃ a vs,v=.ref a∧G a=some (.lst vs)∧Reps K G ds vs
 | .tup ds,v=>∃ a vs,v=.ref a∧G a=some (.tup vs)∧Reps K G ds vs
 | .scr ns,v=>∃ a,v=.ref a∧SqL K G a (ns.map V.int)
 | .ins c ks ds,v=>∃ a C dx vs,v=.ref a∧nsIn K mainGlobals c=some (some (.ref C))∧G a=some (.ins C dx (ks.zip vs))∧ks.length=ds.length∧Reps K G ds vs
 | .dic ks ds,v=>∃ a vs,v=.ref a∧G a=some (.dK (ks.zip vs))∧ks.length=ds.length∧Reps K G ds vs
noncomputable def Reps (K:Frag) (G:Hp):List D→List V→Prop
 | [],vs=>vs=[]
 | d::ds,vs=>∃ v r,vs=v::r∧Rep K G d v∧Reps K G ds r
end
mutual
theorem Rep.mono {K:Frag}{G G':Hp}(s:Same G G'):∀ (d:D){v:V},Rep K G d v→Rep K G' d v
 | .non,v,h=>by simpa only [Rep] using h
 | .bl _,v,h=>by simpa only [Rep] using h
 | .int _,v,h=>by simpa only [Rep] using h
 | .str _,v,h=>by simpa only [Rep] using h
 | .lst ds,v,h=>by simp only[Rep] at h ⊢;obtain⟨a,vs,e,q,r⟩:=h;exact⟨a,vs,e,s _ _ q,Reps.mono s ds r⟩
 | .tup ds,v,h=>by simp only[Rep] at h ⊢;obtain⟨a,vs,e,q,r⟩:=h;exact⟨a,vs,e,s _ _ q,Reps.mono s ds r⟩
 | .scr ns,v,h=>by simp only[Rep] at h ⊢;obtain⟨a,e,q⟩:=h;exact⟨a,e,s.seq q⟩
 | .ins c ks ds,v,h=>by simp only[Rep] at h ⊢;obtain⟨a,C,dx,vs,e,n,q,l,r⟩:=h;exact⟨a,C,dx,vs,e,n,s _ _ q,l,Reps.mono s ds r⟩
 | .dic ks ds,v,h=>by simp only[Rep] at h ⊢;obtain⟨a,vs,e,q,l,r⟩:=h;exact⟨a,vs,e,s _ _ q,l,Reps.mono s ds r⟩
theorem Reps.mono {K:Frag}{G G':Hp}(s:Same G G'):∀ (ds:List D){vs:List V},Reps K G ds vs→Reps K G' ds vs
 | [],vs,h=>by simpa only [Reps] using h
 | d::ds,vs,h=>by simp only[Reps] at h ⊢;obtain⟨v,r,e,q,t⟩:=h;exact⟨v,r,e,Rep.mono s d q,Reps.mono s ds t⟩
end
noncomputable section
variable {K:Frag}{G:Hp}
theorem rep_non {v:V}:Rep K G .non v↔v=.non:=by simp only[Rep]
theorem rep_bl {b:Bool}{v:V}:Rep K G (.bl b) v↔v=.bl b:=by simp only[Rep]
theorem rep_int {i:Int}{v:V}:Rep K G (.int i) v↔v=.int i:=by simp only[Rep]
theorem rep_str {x:Str}{v:V}:Rep K G (.str x) v↔v=.str x:=by simp only[Rep]
theorem rep_lst {ds:List D}{v:V}:Rep K G (.lst ds) v↔∃ a vs,v=.ref a∧G a=some (.lst vs)∧Reps K G ds vs:=by simp only[Rep]
theorem rep_tup {ds:List D}{v:V}:Rep K G (.tup ds) v↔∃ a vs,v=.ref a∧G a=some (.tup vs)∧Reps K G ds vs:=by simp only[Rep]
theorem rep_scr {ns:List Int}{v:V}:Rep K G (.scr ns) v↔∃ a,v=.ref a∧SqL K G a (ns.map V.int):=by simp only[Rep]
theorem rep_ins {c:Str}{ks:List Str}{ds:List D}{v:V}:Rep K G (.ins c ks ds) v↔∃ a C dx vs,v=.ref a∧nsIn K mainGlobals c=some (some (.ref C))∧G a=some (.ins C dx (ks.zip vs))∧ks.length=ds.length∧Reps K G ds vs:=by simp only[Rep]
theorem rep_dic {ks:List Key}{ds:List D}{v:V}:Rep K G (.dic ks ds) v↔∃ a vs,v=.ref a∧G a=some (.dK (ks.zip vs))∧ks.length=ds.length∧Reps K G ds vs:=by simp only[Rep]
theorem reps_nil {vs:List V}:Reps K G [] vs↔vs=[]:=by simp only[Reps]
theorem reps_cons {d:D}{ds:List D}{vs:List V}:Reps K G (d::ds) vs↔∃ v r,vs=v::r∧Rep K G d v∧Reps K G ds r:=by simp only[Reps]
theorem Reps.cons {d:D}{ds:List D}{v:V}{vs:List V}(h:Rep K G d v) (t:Reps K G ds vs):Reps K G (d::ds) (v::vs):=reps_cons.mpr ⟨v,vs,rfl,h,t⟩
theorem Reps.nil:Reps K G [] []:=reps_nil.mpr rfl
theorem Reps.length:∀ {ds:List D}{vs:List V},Reps K G ds vs→ds.length=vs.length
 | [],vs,h=>by rw[reps_nil.mp h];rfl
 | d::ds,vs,h=>by obtain⟨v,r,rfl,_,t⟩:=reps_cons.mp h;simp[Reps.length t]
theorem Reps.get:∀ {ds:List D}{vs:List V}{i:Nat}{d:D},Reps K G ds vs→ds[i]?=some d→∃ v,vs[i]?=some v∧Rep K G d v
 | [],vs,i,d,h,e=>by simp at e
 | c::ds,vs,0,d,h,e=>by obtain⟨v,r,rfl,q,t⟩:=reps_cons.mp h;simp at e;subst e;exact⟨v,rfl,q⟩
 | c::ds,vs,i+1,d,h,e=>by
  obtain⟨v,r,rfl,q,t⟩:=reps_cons.mp h;obtain⟨u,h1,h2⟩:=Reps.get (i:=i) t (by simpa using e)
  exact⟨u,by simpa using h1,h2⟩
theorem Reps.getV:∀ {ds:List D}{vs:List V}{i:Nat}{v:V},Reps K G ds vs→vs[i]?=some v→∃ d,ds[i]?=some d∧Rep K G d v:=fun {ds vs i v} h e=>by
 have hl:=h.length;have hi:i<ds.length:=by rw[hl];exact(zC.mp e).1
 obtain⟨u,h1,h2⟩:=h.get (zI hi);rw[e] at h1;cases h1;exact⟨_,zI hi,h2⟩
theorem Reps.append:∀ {ds es:List D}{vs us:List V},Reps K G ds vs→Reps K G es us→Reps K G (ds++es) (vs++us)
 | [],es,vs,us,h,k=>by rw[reps_nil.mp h];exact k
 | d::ds,es,vs,us,h,k=>by obtain⟨v,r,rfl,q,t⟩:=reps_cons.mp h;exact .cons q (Reps.append t k)
theorem Reps.take:∀ {ds:List D}{vs:List V}(n:Nat),Reps K G ds vs→Reps K G (ds.take n) (vs.take n)
 | [],vs,n,h=>by rw[reps_nil.mp h];simp;exact .nil
 | d::ds,vs,0,h=>by simp;exact .nil
 | d::ds,vs,n+1,h=>by obtain⟨v,r,rfl,q,t⟩:=reps_cons.mp h;exact .cons q (Reps.take n t)
theorem Reps.drop:∀ {ds:List D}{vs:List V}(n:Nat),Reps K G ds vs→Reps K G (ds.drop n) (vs.drop n)
 | [],vs,n,h=>by rw[reps_nil.mp h];simp;exact .nil
 | d::ds,vs,0,h=>by simpa using h
 | d::ds,vs,n+1,h=>by obtain⟨v,r,rfl,q,t⟩:=reps_cons.mp h;exact Reps.drop n t
theorem Reps.set:∀ {ds:List D}{vs:List V}{d:D}{v:V}(n:Nat),Reps K G ds vs→Rep K G d v→Reps K G (ds.set n d) (vs.set n v)
 | [],vs,d,v,n,h,q=>by rw[reps_nil.mp h];simp;exact .nil
 | c::ds,vs,d,v,0,h,q=>by obtain⟨u,r,rfl,_,t⟩:=reps_cons.mp h;exact .cons q t
 | c::ds,vs,d,v,n+1,h,q=>by obtain⟨u,r,rfl,p,t⟩:=reps_cons.mp h;exact .cons p (Reps.set n t q)
theorem Reps.dropLast {ds:List D}{vs:List V}(h:Reps K G ds vs):Reps K G ds.dropLast vs.dropLast:=by
 rw[List.dropLast_eq_take,List.dropLast_eq_take,h.length];exact h.take _
theorem Reps.rep {ds:List D}{vs:List V}(h:Reps K G ds vs):∀ k:Nat,Reps K G (List.replicate k ds).flatten (List.replicate k vs).flatten
 | 0 =>.nil
 | k+1=>by rw[List.replicate_succ,List.replicate_succ,List.flatten_cons,List.flatten_cons];exact h.append (Reps.rep h k)
theorem Reps.ints:∀ (ns:List Int),Reps K G (ns.map D.int) (ns.map V.int)
 | [] =>.nil
 | n::ns =>.cons (rep_int.mpr rfl) (Reps.ints ns)
end
structure Ext (G H G' H':Hp):Prop where
 hh:Same H H'
 gg:Same G G'
 gh:Same G' H'
 fr:∀ b o,G' b=some o→G b=some o∨H b=none
theorem Ext.refl {G H:Hp}(s:Same G H):Ext G H G H:=⟨Same.refl _,Same.refl _,s,fun _ _ e =>.inl e⟩
theorem Ext.trans {G H G1 H1 G2 H2:Hp}(a:Ext G H G1 H1) (b:Ext G1 H1 G2 H2):Ext G H G2 H2:=
 ⟨a.hh.trans b.hh,a.gg.trans b.gg,b.gh,fun c o e=>by
  rcases b.fr c o e with q|q
  ·exact a.fr c o q
  ·exact .inr (a.hh.free q)⟩
theorem Same.alloc {H:Hp}{p:Addr}{o:HO}(h:H p=none):Same H (upd H p o):=fun b u e=>by rw[upd_ne (ne_of_none e h)];exact e
theorem Same.both {G H:Hp}{p:Addr}{o:HO}(s:Same G H):Same (upd G p o) (upd H p o):=fun b u e=>by
 by_cases hb:b=p
 ·subst hb;rw[upd_same] at e ⊢;exact e
 ·rw[upd_ne hb] at e ⊢;exact s _ _ e
theorem Ext.alloc {G H:Hp}{p:Addr}{o:HO}(s:Same G H) (h:H p=none):Ext G H (upd G p o) (upd H p o):=
 ⟨.alloc h,.alloc (s.free h),s.both,fun b u e=>by
  by_cases hb:b=p
  ·subst hb;exact .inr h
  ·rw[upd_ne hb] at e;exact .inl e⟩
theorem Ext.lay {G H:Hp}{p:Addr}{o:HO}(s:Same G H) (h:H p=none):Ext G H G (upd H p o):=
 ⟨.alloc h,Same.refl _,s.trans (.alloc h),fun _ _ e =>.inl e⟩
theorem Ext.freeze {G H G' H':Hp}{p:Addr}{o:HO}(E:Ext G H G' H') (h:H p=none) (g:G' p=none) (e:H' p=some o):Ext G H (upd G' p o) H':=
 ⟨E.hh,E.gg.trans (.alloc g),fun b u q=>by
  by_cases hb:b=p
  ·subst hb;rw[upd_same] at q;cases q;exact e
  ·rw[upd_ne hb] at q;exact E.gh _ _ q,fun b u q=>by
  by_cases hb:b=p
  ·subst hb;exact .inr h
  ·rw[upd_ne hb] at q;exact E.fr _ _ q⟩
noncomputable def Cell (K:Frag) (G:Hp):D→HO→Prop
 | .lst ds,o=>∃ vs,o=.lst vs∧Reps K G ds vs
 | .ins c ks ds,o=>∃ C dx vs,o=.ins C dx (ks.zip vs)∧nsIn K mainGlobals c=some (some (.ref C))∧ks.length=ds.length∧Reps K G ds vs
 | .dic ks ds,o=>∃ vs,o=.dK (ks.zip vs)∧ks.length=ds.length∧Reps K G ds vs
 | _,_=>False
noncomputable section
variable {K:Frag}{G G':Hp}
theorem Cell.mono (s:Same G G'){d:D}{o:HO}(h:Cell K G d o):Cell K G' d o:=by
 cases d with
 | lst ds=>obtain⟨vs,e,r⟩:=h;exact⟨vs,e,Reps.mono s ds r⟩
 | ins c ks ds=>obtain⟨C,dx,vs,e,n,l,r⟩:=h;exact⟨C,dx,vs,e,n,l,Reps.mono s ds r⟩
 | dic ks ds=>obtain⟨vs,e,l,r⟩:=h;exact⟨vs,e,l,Reps.mono s ds r⟩
 | _=>exact h.elim
theorem Cell.rep {d:D}{o:HO}{a:Addr}(h:Cell K G d o) (e:G a=some o):Rep K G d (.ref a):=by
 cases d with
 | lst ds=>obtain⟨vs,rfl,r⟩:=h;exact rep_lst.mpr ⟨a,vs,rfl,e,r⟩
 | ins c ks ds=>obtain⟨C,dx,vs,rfl,n,l,r⟩:=h;exact rep_ins.mpr ⟨a,C,dx,vs,rfl,n,e,l,r⟩
 | dic ks ds=>obtain⟨vs,rfl,l,r⟩:=h;exact rep_dic.mpr ⟨a,vs,rfl,e,l,r⟩
 | _=>exact h.elim
end
noncomputable def RepO (K:Frag) (G H:Hp) (d:D) (v:V):Prop:=Rep K G d v∨∃ a o,v=.ref a∧H a=some o∧Cell K G d o
noncomputable section
variable {K:Frag}{G H G' H':Hp}
theorem RepO.ext {d:D}{v:V}(r:RepO K G H d v) (E:Ext G H G' H'):RepO K G' H' d v:=by
 rcases r with r|⟨a,o,e1,e2,e3⟩
 ·exact .inl (Rep.mono E.gg d r)
 ·exact .inr ⟨a,o,e1,E.hh _ _ e2,e3.mono E.gg⟩
theorem RepO.non {v:V}(r:RepO K G H .non v):v=.non:=by
 rcases r with r|⟨a,o,_,_,e⟩
 ·exact rep_non.mp r
 ·exact e.elim
theorem RepO.bl {b:Bool}{v:V}(r:RepO K G H (.bl b) v):v=.bl b:=by
 rcases r with r|⟨a,o,_,_,e⟩
 ·exact rep_bl.mp r
 ·exact e.elim
theorem RepO.int {i:Int}{v:V}(r:RepO K G H (.int i) v):v=.int i:=by
 rcases r with r|⟨a,o,_,_,e⟩
 ·exact rep_int.mp r
 ·exact e.elim
theorem RepO.str {x:Str}{v:V}(r:RepO K G H (.str x) v):v=.str x:=by
 rcases r with r|⟨a,o,_,_,e⟩
 ·exact rep_str.mp r
 ·exact e.elim
theorem RepO.lst {ds:List D}{v:V}(s:Same G H) (r:RepO K G H (.lst ds) v):∃ a vs,v=.ref a∧H a=some (.lst vs)∧Reps K G ds vs:=by
 rcases r with r|⟨a,o,e1,e2,vs,rfl,e4⟩
 ·obtain⟨a,vs,e,q,t⟩:=rep_lst.mp r;exact⟨a,vs,e,s _ _ q,t⟩
 ·exact⟨a,vs,e1,e2,e4⟩
theorem RepO.tup {ds:List D}{v:V}(s:Same G H) (r:RepO K G H (.tup ds) v):∃ a vs,v=.ref a∧H a=some (.tup vs)∧Reps K G ds vs:=by
 rcases r with r|⟨a,o,_,_,e⟩
 ·obtain⟨a,vs,e,q,t⟩:=rep_tup.mp r;exact⟨a,vs,e,s _ _ q,t⟩
 ·exact e.elim
theorem RepO.scr {ns:List Int}{v:V}(s:Same G H) (r:RepO K G H (.scr ns) v):∃ a,v=.ref a∧SqL K H a (ns.map V.int):=by
 rcases r with r|⟨a,o,_,_,e⟩
 ·obtain⟨a,e,q⟩:=rep_scr.mp r;exact⟨a,e,s.seq q⟩
 ·exact e.elim
theorem RepO.insH {c:Str}{ks:List Str}{ds:List D}{v:V}(s:Same G H) (r:RepO K G H (.ins c ks ds) v):∃ a C dx vs,v=.ref a∧H a=some (.ins C dx (ks.zip vs))∧nsIn K mainGlobals c=some (some (.ref C))∧ks.length=ds.length∧Reps K G ds vs:=by
 rcases r with r|⟨a,o,e1,e2,C,dx,vs,rfl,n,l,e4⟩
 ·obtain⟨a,C,dx,vs,e,n,q,l,t⟩:=rep_ins.mp r;exact⟨a,C,dx,vs,e,s _ _ q,n,l,t⟩
 ·exact⟨a,C,dx,vs,e1,e2,n,l,e4⟩
theorem RepO.dicH {ks:List Key}{ds:List D}{v:V}(s:Same G H) (r:RepO K G H (.dic ks ds) v):∃ a vs,v=.ref a∧H a=some (.dK (ks.zip vs))∧ks.length=ds.length∧Reps K G ds vs:=by
 rcases r with r|⟨a,o,e1,e2,vs,rfl,l,e4⟩
 ·obtain⟨a,vs,e,q,l,t⟩:=rep_dic.mp r;exact⟨a,vs,e,s _ _ q,l,t⟩
 ·exact⟨a,vs,e1,e2,l,e4⟩
theorem RepO.ins {c:Str}{ks:List Str}{ds:List D}{v:V}(r:RepO K G H (.ins c ks ds) v):∃ a,v=.ref a:=by
 rcases r with r|⟨a,o,e1,_⟩
 ·obtain⟨a,C,dx,vs,e,_⟩:=rep_ins.mp r;exact⟨a,e⟩
 ·exact⟨a,e1⟩
theorem RepO.dic {ks:List Key}{ds:List D}{v:V}(r:RepO K G H (.dic ks ds) v):∃ a,v=.ref a:=by
 rcases r with r|⟨a,o,e1,_⟩
 ·obtain⟨a,vs,e,_⟩:=rep_dic.mp r;exact⟨a,e⟩
 ·exact⟨a,e1⟩
theorem RepO.all {d:D}{v:V}(s:Same G H) (r:RepO K G H d v):Rep K H d v:=by
 rcases r with r|⟨a,o,e1,e2,e3⟩
 ·exact Rep.mono s d r
 ·subst e1;exact(e3.mono s).rep e2
end
noncomputable abbrev DEnv:=List (Option D)
noncomputable abbrev DF:=DEnv→Option D
noncomputable abbrev DT:=DEnv→Option Bool
noncomputable abbrev DL:=DEnv→Option (List D)
structure EnvR (K:Frag) (own:List Nat) (G H:Hp) (σ:St) (ρ:DEnv):Prop where
 len:σ.length=ρ.length
 get:∀ (i:Nat) (d:D),ρ[i]?=some (some d)→∃ v,σ[i]?=some (some v)∧(if i∈own then RepO K G H d v else Rep K G d v)
theorem EnvR.ext {K:Frag}{own:List Nat}{G H G' H':Hp}{σ:St}{ρ:DEnv}(h:EnvR K own G H σ ρ) (E:Ext G H G' H'):EnvR K own G' H' σ ρ:=⟨h.len,fun i d e=>by
 obtain⟨v,q,r⟩:=h.get i d e;refine⟨v,q,?_⟩;by_cases hi:i∈own
 ·rw[if_pos hi] at r ⊢;exact r.ext E
 ·rw[if_neg hi] at r ⊢;exact Rep.mono E.gg d r⟩
noncomputable def tP (K:Frag) (own:List Nat) (f:DF):TE:=fun σ H Q=>∃ G ρ d,Same G H∧EnvR K own G H σ ρ∧f ρ=some d∧∀ v G' H',Ext G H G' H'→Rep K G' d v→Q v H'
noncomputable def tQ (K:Frag) (own:List Nat) (f:DF):TE:=fun σ H Q=>∃ G ρ d,Same G H∧EnvR K own G H σ ρ∧f ρ=some d∧∀ v G' H',Ext G H G' H'→RepO K G' H' d v→Q v H'
noncomputable def tF (K:Frag) (own:List Nat) (f:DL):TE:=fun σ H Q=>∃ G ρ ds,Same G H∧EnvR K own G H σ ρ∧f ρ=some ds∧∀ p vs G' H',Ext G H G' H'→H p=none→G' p=none→H' p=some (.lst vs)→Reps K G' ds vs→Q (.ref p) H'
noncomputable def tPT (K:Frag) (own:List Nat) (f:DT):TT:=fun σ H Q=>∃ G ρ b,Same G H∧EnvR K own G H σ ρ∧f ρ=some b∧∀ G' H',Ext G H G' H'→Q b H'
noncomputable def tPA (K:Frag) (own:List Nat) (f:DL):TA:=fun σ H Q=>∃ G ρ ds,Same G H∧EnvR K own G H σ ρ∧f ρ=some ds∧∀ vs G' H',Ext G H G' H'→Reps K G' ds vs→Q vs H'
noncomputable def RepsO (K:Frag) (G H:Hp):List D→List V→Prop:=Paired (RepO K G H)
noncomputable def tQA (K:Frag) (own:List Nat) (f:DL):TA:=fun σ H Q=>∃ G ρ ds,Same G H∧EnvR K own G H σ ρ∧f ρ=some ds∧∀ vs G' H',Ext G H G' H'→RepsO K G' H' ds vs→Q vs H'
noncomputable section
variable {X:Cx}
theorem PE.imp {e:Expr}{t t':TE}(h:PE X e t) (k:∀ σ H Q,t' σ H Q→t σ H Q):PE X e t':=fun pins s σ H Q I q=>h pins s σ H Q I (k _ _ _ q)
theorem PT.imp {e:Expr}{t t':TT}(h:PT X e t) (k:∀ σ H Q,t' σ H Q→t σ H Q):PT X e t':=fun pins s σ H Q I q=>h pins s σ H Q I (k _ _ _ q)
theorem PW.imp {e:Expr}{t t':TT}(h:PW X e t) (k:∀ σ H Q,t' σ H Q→t σ H Q):PW X e t':=fun w pins s σ H Q I q=>h w pins s σ H Q I (k _ _ _ q)
theorem PA.imp {e:List Expr}{t t':TA}(h:PA X e t) (k:∀ σ H Q,t' σ H Q→t σ H Q):PA X e t':=fun pos pins s σ H Q I q=>h pos pins s σ H Q I (k _ _ _ q)
theorem PS.imp {e:Stmt}{t t':TS}(h:PS X e t) (k:∀ D σ H,t' D σ H→t D σ H):PS X e t':=fun pins s σ H D I q=>h pins s σ H D I (k _ _ _ q)
theorem PSs.imp {e:List Stmt}{t t':TS}(h:PSs X e t) (k:∀ D σ H,t' D σ H→t D σ H):PSs X e t':=fun pins s σ H D I q=>h pins s σ H D I (k _ _ _ q)
theorem OpR.imp {f:Value→Value→Sem Value}{r r':R2}(h:OpR X f r) (k:∀ x y H Q,r' x y H Q→r x y H Q):OpR X f r':=fun pins s σ H x y v u Q I rx ry q=>h pins s σ H x y v u Q I rx ry (k _ _ _ _ q)
variable {own:List Nat}{e:Expr}
theorem dq {f:DF}(h:PE X e (tP X.K own f)):PE X e (tQ X.K own f):=h.imp fun σ H Q ⟨G,ρ,d,gh,env,eq,k⟩=>⟨G,ρ,d,gh,env,eq,fun v G' H' E r=>k v G' H' E (.inl r)⟩
noncomputable def eF (f:DL):DF:=fun ρ=>(f ρ).map D.lst
theorem df {f:DL}(h:PE X e (tF X.K own f)):PE X e (tP X.K own (eF f)):=h.imp fun σ H Q ⟨G,ρ,d,gh,env,eq,k⟩=>by
 cases hf:f ρ with
 | none=>simp[eF,hf] at eq
 | some ds=>
  have:d=.lst ds:=by simpa [eF,hf] using eq.symm
  subst this;refine⟨G,ρ,ds,gh,env,hf,fun p vs G' H' E hp gp hv r=>k _ (upd G' p (.lst vs)) H' (E.freeze hp gp hv) ?_⟩
  exact rep_lst.mpr ⟨p,vs,rfl,upd_same,Reps.mono (.alloc gp) ds r⟩
noncomputable def eV (i:Nat):DF:=fun ρ=>(ρ[i]?).join
noncomputable def eK (d:D):DF:=fun _=>some d
theorem eV_some {i:Nat}{ρ:DEnv}{d:D}(h:eV i ρ=some d):ρ[i]?=some (some d):=by
 unfold eV at h;cases e:ρ[i]? with
 | none=>rw[e] at h;cases h
 | some o=>rw[e] at h;cases o with
  | none=>cases h
  | some c=>rw[show c=d from yA h]
theorem dv {i:Nat}{x:Str}{pos:Pos}(h:PE X (.Name x pos) (tVar i)) (hi:i∉own:=by decide):PE X (.Name x pos) (tP X.K own (eV i)):=h.imp fun σ H Q ⟨G,ρ,d,gh,env,eq,k⟩=>by
 obtain⟨v,q,r⟩:=env.get i d (eV_some eq);rw[if_neg hi] at r;exact⟨v,q,k v G H (.refl gh) r⟩
theorem dvo {i:Nat}{x:Str}{pos:Pos}(h:PE X (.Name x pos) (tVar i)) (hi:i∈own:=by decide):PE X (.Name x pos) (tQ X.K own (eV i)):=h.imp fun σ H Q ⟨G,ρ,d,gh,env,eq,k⟩=>by
 obtain⟨v,q,r⟩:=env.get i d (eV_some eq);rw[if_pos hi] at r;exact⟨v,q,k v G H (.refl gh) r⟩
theorem de_int {i j pos}:PE X (.Constant (.int i) j pos) (tP X.K own (eK (.int i))):=pe_int.imp fun σ H Q ⟨G,ρ,d,gh,env,eq,k⟩=>by
 cases eq;exact k _ G H (.refl gh) (rep_int.mpr rfl)
theorem de_bl {b j pos}:PE X (.Constant (.bool b) j pos) (tP X.K own (eK (.bl b))):=pe_bl.imp fun σ H Q ⟨G,ρ,d,gh,env,eq,k⟩=>by
 cases eq;exact k _ G H (.refl gh) (rep_bl.mpr rfl)
theorem de_str {x j pos}:PE X (.Constant (.str x) j pos) (tP X.K own (eK (.str x))):=pe_str.imp fun σ H Q ⟨G,ρ,d,gh,env,eq,k⟩=>by
 cases eq;exact k _ G H (.refl gh) (rep_str.mpr rfl)
noncomputable def aN:DL:=fun _=>some []
noncomputable def aC (f:DF) (g:DL):DL:=fun ρ=>(f ρ).bind fun x=>(g ρ).bind fun xs=>some (x::xs)
theorem aC_some {f:DF}{g:DL}{ρ:DEnv}{ds:List D}(h:aC f g ρ=some ds):∃ x xs,f ρ=some x∧g ρ=some xs∧ds=x::xs:=by
 unfold aC at h;cases ef:f ρ with
 | none=>rw[ef] at h;cases h
 | some x=>
  rw[ef] at h;cases eg:g ρ with
  | none=>rw[eg] at h;cases h
  | some xs=>rw[eg] at h;exact⟨x,xs,rfl,rfl,(yA h).symm⟩
variable {es:List Expr}
theorem da_nil:PA X [] (tPA X.K own aN):=pa_nil.imp fun σ H Q ⟨G,ρ,d,gh,env,eq,k⟩=>by
 cases eq;exact k _ G H (.refl gh) .nil
theorem da_cons {f:DF}{g:DL}(h:PE X e (tP X.K own f)) (t:PA X es (tPA X.K own g)) (hs:starEach (e::es) X.env=(false,eval e X.env)::starEach es X.env:=by rfl):PA X (e::es) (tPA X.K own (aC f g)):=
 (pa_cons h t hs).imp fun σ H Q ⟨G,ρ,d,gh,env,eq,k⟩=>by obtain⟨x,xs,ex,exs,rfl⟩:=aC_some eq;refine⟨G,ρ,x,gh,env,ex,fun v G1 H1 E1 r1=>⟨G1,ρ,xs,E1.gh,env.ext E1,exs,fun vs G2 H2 E2 r2=>k _ G2 H2 (E1.trans E2) (.cons (Rep.mono E2.gg x r1) r2)⟩⟩
theorem dqa_nil:PA X [] (tQA X.K own aN):=pa_nil.imp fun σ H Q ⟨G,ρ,d,gh,env,eq,k⟩=>by
 cases eq;exact k _ G H (.refl gh) .nil
theorem dqa_cons {f:DF}{g:DL}(h:PE X e (tQ X.K own f)) (t:PA X es (tQA X.K own g)) (hs:starEach (e::es) X.env=(false,eval e X.env)::starEach es X.env:=by rfl):PA X (e::es) (tQA X.K own (aC f g)):=
 (pa_cons h t hs).imp fun σ H Q ⟨G,ρ,d,gh,env,eq,k⟩=>by obtain⟨x,xs,ex,exs,rfl⟩:=aC_some eq;refine⟨G,ρ,x,gh,env,ex,fun v G1 H1 E1 r1=>⟨G1,ρ,xs,E1.gh,env.ext E1,exs,fun vs G2 H2 E2 r2=>k _ G2 H2 (E1.trans E2) (.cons (r1.ext E2) r2)⟩⟩
noncomputable def eTup (g:DL):DF:=fun ρ=>(g ρ).bind fun xs=>if xs.length≤1000 then some (.tup xs) else none
theorem line1000:1000≤sizeLine:=by rw[sizeLine_eq];decide
theorem de_tup {x1 pos} {g:DL}(h:PA X es (tPA X.K own g)):PE X (.Tuple es x1 pos) (tP X.K own (eTup g)):=(pe_tup h).imp fun σ H Q ⟨G,ρ,d,gh,env,eq,k⟩=>by
 unfold eTup at eq;cases eg:g ρ with
 | none=>rw[eg] at eq;cases eq
 | some xs=>
  rw[eg] at eq;have eq:(if xs.length≤1000 then some (D.tup xs) else none)=some d:=eq
  split at eq
  ·cases eq;rename_i hz;refine⟨G,ρ,xs,gh,env,eg,fun vs G1 H1 E1 r1=>⟨?_,fun p hp=>k _ _ _ (E1.trans (Ext.alloc (p:=p) (o :=.tup vs) E1.gh hp)) ?_⟩⟩
   ·rw[← r1.length];exact yB hz line1000
   ·exact rep_tup.mpr ⟨p,vs,rfl,upd_same,Reps.mono (.alloc (E1.gh.free hp)) xs r1⟩
  ·cases eq
noncomputable def eLst (g:DL):DL:=fun ρ=>(g ρ).bind fun xs=>if xs.length≤1000 then some xs else none
theorem de_lst {pos} {g:DL}(h:PA X es (tPA X.K own g)):PE X (.List es pos) (tF X.K own (eLst g)):=(pe_lst h).imp fun σ H Q ⟨G,ρ,ds,gh,env,eq,k⟩=>by
 unfold eLst at eq;cases eg:g ρ with
 | none=>rw[eg] at eq;cases eq
 | some xs=>
  rw[eg] at eq;have eq:(if xs.length≤1000 then some xs else none)=some ds:=eq
  split at eq
  ·cases eq;rename_i hz;refine⟨G,ρ,ds,gh,env,eg,fun vs G1 H1 E1 r1=>⟨?_,fun p hp=>k p vs G1 _ (E1.trans (Ext.lay (p:=p) (o :=.lst vs) E1.gh hp)) (E1.hh.free hp) (E1.gh.free hp) upd_same r1⟩⟩
   rw[← r1.length];exact yB hz line1000
  ·cases eq
noncomputable def e2 (o:D→D→Option D) (a b:DF):DF:=fun ρ=>(a ρ).bind fun x=>(b ρ).bind fun y=>o x y
theorem e2_some {o:D→D→Option D}{a b:DF}{ρ:DEnv}{d:D}(h:e2 o a b ρ=some d):∃ x y,a ρ=some x∧b ρ=some y∧o x y=some d:=by
 unfold e2 at h;cases ea:a ρ with
 | none=>rw[ea] at h;cases h
 | some x=>
  rw[ea] at h;cases eb:b ρ with
  | none=>rw[eb] at h;cases h
  | some y=>rw[eb] at h;exact⟨x,y,rfl,rfl,h⟩
noncomputable def rD (K:Frag) (o:D→D→Option D):R2:=fun x y H Q=>∃ G d1 d2 d,Same G H∧RepO K G H d1 x∧RepO K G H d2 y∧o d1 d2=some d∧∀ v G' H',Ext G H G' H'→Rep K G' d v→Q v H'
noncomputable def OpD (X:Cx) (f:Value→Value→Sem Value) (o:D→D→Option D):Prop:=OpR X f (rD X.K o)
theorem rd_of {K:Frag}{own:List Nat}{o:D→D→Option D}{fa fb:DF}{σ:St}{H:Hp}{Q:VK}(h:tP K own (e2 o fa fb) σ H Q):tOp (rD K o) (tQ K own fa) (tQ K own fb) σ H Q:=by
 obtain⟨G,ρ,d,gh,env,eq,k⟩:=h;obtain⟨x,y,ex,ey,eo⟩:=e2_some eq;exact⟨G,ρ,x,gh,env,ex,fun v G1 H1 E1 r1=>⟨G1,ρ,y,E1.gh,env.ext E1,ey,fun u G2 H2 E2 r2=>⟨G2,x,y,d,E2.gh,r1.ext E2,r2,eo,fun w G3 H3 E3 r3=>k w G3 H3 ((E1.trans E2).trans E3) r3⟩⟩⟩
variable {a b:Expr}{fa fb:DF}{pos:Pos}
theorem de_op {op:Operator}{o:D→D→Option D}(ho:OpD X (binaryOp op) o) (ha:PE X a (tQ X.K own fa)) (hb:PE X b (tQ X.K own fb)):PE X (.BinOp a op b pos) (tP X.K own (e2 o fa fb)):=(pe_op ho ha hb).imp fun σ H Q h=>rd_of h
theorem de_cmp {op:CmpOp}{o:D→D→Option D}(ho:OpD X (compareOp op) o) (ha:PE X a (tQ X.K own fa)) (hb:PE X b (tQ X.K own fb)) (hm:behindInMarks op b=false):PE X (.Compare a [op] [b] pos) (tP X.K own (e2 o fa fb)):=(pe_cmpR ho ha hb hm).imp fun σ H Q h=>rd_of h
noncomputable def tB1 (f:DF):DT:=fun ρ=>(f ρ).bind fun d=>match d with|.bl b=>some b|_=>none
theorem tB1_some {f:DF}{ρ:DEnv}{b:Bool}(h:tB1 f ρ=some b):f ρ=some (.bl b):=by
 unfold tB1 at h;cases e:f ρ with
 | none=>rw[e] at h;cases h
 | some d=>
  rw[e] at h;cases d with
  | bl c=>rw[show c=b from yA h]
  | _=>cases h
theorem dt_cmp {op:CmpOp}{o:D→D→Option D}(ho:OpD X (compareOp op) o) (ha:PE X a (tQ X.K own fa)) (hb:PE X b (tQ X.K own fb)) (hm:behindInMarks op b=false):PT X (.Compare a [op] [b] pos) (tPT X.K own (tB1 (e2 o fa fb))):=
 (pt_cmpR ho ha hb hm).imp fun σ H Q ⟨G,ρ,d,gh,env,eq,k⟩=>rd_of (own:=own) (fa:=fa) (fb:=fb) ⟨G,ρ,.bl d,gh,env,tB1_some eq,fun v G' H' E r=>⟨d,rep_bl.mp r,k G' H' E⟩⟩
noncomputable def tAndD (f g:DT):DT:=fun ρ=>(f ρ).bind fun c=>if c=true then g ρ else some false
noncomputable def tOrD (f g:DT):DT:=fun ρ=>(f ρ).bind fun c=>if c=true then some true else g ρ
noncomputable def tNotD (f:DT):DT:=fun ρ=>(f ρ).map fun c=> !c
variable {f g:DT}{rest:List Expr}
theorem dw_or1 (ha:PT X a (tPT X.K own f)):PW X (.BoolOp .Or [a] pos) (tPT X.K own f):=pw_or1 ha
theorem dw_or (ha : PT X a (tPT X.K own f)) (hb : PW X (.BoolOp .Or (b :: rest) pos) (tPT X.K own g)) : PW X (.BoolOp .Or (a :: b :: rest) pos) (tPT X.K own (tOrD f g)) := (pw_or ha hb).imp fun σ H Q ⟨G, ρ, d, gh, env, eq, k⟩ => by
  unfold tOrD at eq
  cases ef : f ρ with
  | none => rw [ef] at eq; cases eq
  | some c =>
    rw [ef] at eq
    refine ⟨G, ρ, c, gh, env, ef, fun G1 H1 E1 => ?_⟩
    cases c with
    | false => exact iteF ⟨G1, ρ, d, E1.gh, env.ext E1, eq, fun G2 H2 E2 => k G2 H2 (E1.trans E2)⟩
    | true => have : d = true := (Option.some.inj (show some true = some d from eq)).symm
              subst this; exact iteT (k G1 H1 E1)
theorem dt_not (ha:PT X a (tPT X.K own f)):PT X (.UnaryOp .Not a pos) (tPT X.K own (tNotD f)):=(pt_not ha).imp fun σ H Q ⟨G,ρ,d,gh,env,eq,k⟩=>by
 unfold tNotD at eq;cases ef:f ρ with
 | none=>rw[ef] at eq;cases eq
 | some c=>
  rw[ef] at eq;have:d = !c:=(yA (show some (!c)=some d from eq)).symm
  subst this;exact⟨G,ρ,c,gh,env,ef,fun G1 H1 E1=>k G1 H1 E1⟩
noncomputable def eAnd (f g:DF):DF:=fun ρ=>(tB1 f ρ).bind fun c=>if c=true then g ρ else some (.bl false)
noncomputable def eNot (f:DT):DF:=fun ρ=>(f ρ).map fun c =>.bl (!c)
theorem de_one {op} (h:PE X a (tP X.K own fa)):PE X (.BoolOp op [a] pos) (tP X.K own fa):=pe_one h
theorem de_and (ha : PE X a (tP X.K own fa)) (hb : PE X (.BoolOp .And (b :: rest) pos) (tP X.K own fb)) : PE X (.BoolOp .And (a :: b :: rest) pos) (tP X.K own (eAnd fa fb)) := (pe_and ha hb).imp fun σ H Q ⟨G, ρ, d, gh, env, eq, k⟩ => by
  unfold eAnd at eq
  cases ef : tB1 fa ρ with
  | none => rw [ef] at eq; cases eq
  | some c =>
    rw [ef] at eq
    refine ⟨G, ρ, _, gh, env, tB1_some ef, fun v G1 H1 E1 r1 => ⟨c, rep_bl.mp r1, ?_⟩⟩
    cases c with
    | true => exact iteT ⟨G1, ρ, d, E1.gh, env.ext E1, eq, fun v G2 H2 E2 r2 => k v G2 H2 (E1.trans E2) r2⟩
    | false => have : d = .bl false := (Option.some.inj (show some (D.bl false) = some d from eq)).symm
               subst this; exact iteF (k _ G1 H1 E1 (rep_bl.mpr rfl))
theorem de_not (ha:PE X a (tP X.K own fa)):PE X (.UnaryOp .Not a pos) (tP X.K own (eNot (tB1 fa))):=(pe_not ha).imp fun σ H Q ⟨G,ρ,d,gh,env,eq,k⟩=>by
 unfold eNot at eq;cases ef:tB1 fa ρ with
 | none=>rw[ef] at eq;cases eq
 | some c=>
  rw[ef] at eq;have:d=.bl (!c):=(yA (show some (D.bl (!c))=some d from eq)).symm
  subst this;exact⟨G,ρ,_,gh,env,tB1_some ef,fun v G1 H1 E1 r1=>⟨c,rep_bl.mp r1,k _ G1 H1 E1 (rep_bl.mpr rfl)⟩⟩
noncomputable def eIfE (c:DT) (f g:DF):DF:=fun ρ=>(c ρ).bind fun b=>if b=true then f ρ else g ρ
theorem de_if {c:Expr}(hc:PT X c (tPT X.K own f)) (ha:PE X a (tP X.K own fa)) (hb:PE X b (tP X.K own fb)):PE X (.IfExp c a b pos) (tP X.K own (eIfE f fa fb)):=(pe_ifExp hc ha hb).imp fun σ H Q ⟨G,ρ,d,gh,env,eq,k⟩=>by
 unfold eIfE at eq;cases ef:f ρ with
 | none=>rw[ef] at eq;cases eq
 | some c=>
  rw[ef] at eq;refine⟨G,ρ,c,gh,env,ef,fun G1 H1 E1 =>?_⟩
  cases c with
  | true=>exact iteT ⟨G1,ρ,d,E1.gh,env.ext E1,eq,fun v G2 H2 E2 r2=>k v G2 H2 (E1.trans E2) r2⟩
  | false=>exact iteF ⟨G1,ρ,d,E1.gh,env.ext E1,eq,fun v G2 H2 E2 r2=>k v G2 H2 (E1.trans E2) r2⟩
end
end L2
end
noncomputable section
namespace L2
open PySem PySem.Spec PyProof.Rows
mutual
noncomputable def deq:D→D→Bool
 | .non,.non=>true
 | .bl a,.bl b=>a==b
 | .bl a,.int b=>(if a then 1 else 0)==b
 | .int a,.bl b=>a==(if b then 1 else 0)
 | .int a,.int b=>a==b
 | .str a,.str b=>a==b
 | .lst xs,.lst ys=>deqs xs ys
 | .tup xs,.tup ys=>deqs xs ys
 | _,_=>false
noncomputable def deqs:List D→List D→Bool
 | [],[]=>true
 | x::xs,y::ys=>deq x y&&deqs xs ys
 | _,_=>false
end
mutual
noncomputable def dOk:D→Nat→Bool
 | .lst xs,n=>n != 0&&dOks xs (n-1)
 | .tup xs,n=>n != 0&&dOks xs (n-1)
 | .scr _,_=>false
 | .ins _ _ _,_=>false
 | .dic _ _,_=>false
 | .non,_=>true
 | .bl _,_=>true
 | .int _,_=>true
 | .str _,_=>true
noncomputable def dOks:List D→Nat→Bool
 | [],_=>true
 | x::xs,n=>dOk x n&&dOks xs n
end
theorem dOks_get:∀ {xs:List D}{n i:Nat}{d:D},dOks xs n=true→xs[i]?=some d→dOk d n=true
 | [],n,i,d,h,e=>by simp at e
 | x::xs,n,0,d,h,e=>by simp only[dOks,Bool.and_eq_true] at h;simp at e;subst e;exact h.1
 | x::xs,n,i+1,d,h,e=>by simp only[dOks,Bool.and_eq_true] at h;exact dOks_get (i:=i) h.2 (by simpa using e)
theorem deqs_all:∀ (xs ys:List D),deqs xs ys=((List.range (min xs.length ys.length)).all (fun j=>deq (xs.getD j .non) (ys.getD j .non))&&(xs.length==ys.length))
 | [],[]=>by simp[deqs]
 | [],y::ys=>by simp[deqs]
 | x::xs,[]=>by simp[deqs]
 | x::xs,y::ys=>by
  have e:min (x::xs).length (y::ys).length=min xs.length ys.length+1:=by simp[Nat.add_min_add_right]
  rw[e,List.range_succ_eq_map,List.all_cons,List.all_map];simp only[deqs,deqs_all xs ys,Function.comp_def,List.getD_cons_zero,List.getD_cons_succ,zP];rw[Bool.and_assoc]
  congr 2
  simp
mutual
theorem deq_refl:∀ (d:D) (n:Nat),dOk d n=true→deq d d=true
 | .non,n,h=>by simp[deq]
 | .bl b,n,h=>by simp[deq]
 | .int b,n,h=>by simp[deq]
 | .str b,n,h=>by simp[deq]
 | .lst xs,n,h=>by simp only[dOk,Bool.and_eq_true] at h;simp only[deq];exact deqs_refl xs _ h.2
 | .tup xs,n,h=>by simp only[dOk,Bool.and_eq_true] at h;simp only[deq];exact deqs_refl xs _ h.2
 | .scr xs,n,h=>by simp[dOk] at h
 | .ins _ _ _,n,h=>by simp[dOk] at h
 | .dic _ _,n,h=>by simp[dOk] at h
theorem deqs_refl:∀ (d:List D) (n:Nat),dOks d n=true→deqs d d=true
 | [],n,h=>by simp[deqs]
 | x::xs,n,h=>by simp only[dOks,Bool.and_eq_true] at h;simp only[deqs,deq_refl x n h.1,deqs_refl xs n h.2,Bool.and_self]
end
noncomputable section
variable {K:Frag}{H:Hp}
mutual
theorem Rep.inj:∀ (d1 d2:D) (n m:Nat){v:V},dOk d1 n=true→dOk d2 m=true→Rep K H d1 v→Rep K H d2 v→d1=d2
 | .non,d2,n,m,v,o1,o2,h1,h2=>by have e:=rep_non.mp h1;subst e;cases d2<;>simp[Rep,dOk] at h2 o2 ⊢
 | .bl b,d2,n,m,v,o1,o2,h1,h2=>by have e:=rep_bl.mp h1;subst e;cases d2<;>simp[Rep,dOk] at h2 o2 ⊢<;>exact h2
 | .int b,d2,n,m,v,o1,o2,h1,h2=>by have e:=rep_int.mp h1;subst e;cases d2<;>simp[Rep,dOk] at h2 o2 ⊢<;>exact h2
 | .str b,d2,n,m,v,o1,o2,h1,h2=>by have e:=rep_str.mp h1;subst e;cases d2<;>simp[Rep,dOk] at h2 o2 ⊢<;>exact h2
 | .lst xs,d2,n,m,v,o1,o2,h1,h2=>by
  obtain⟨a,vs,rfl,ha,r⟩:=rep_lst.mp h1;cases d2 with
  | lst ys=>obtain⟨b,us,e,hb,q⟩:=rep_lst.mp h2;cases e;rw[ha] at hb;cases hb;simp only[dOk,Bool.and_eq_true] at o1 o2;rw[Reps.inj xs ys _ _ o1.2 o2.2 r q]
  | tup ys=>obtain⟨b,us,e,hb,q⟩:=rep_tup.mp h2;cases e;rw[ha] at hb;cases hb
  | scr ys=>simp[dOk] at o2
  | ins c ks zs=>simp[dOk] at o2
  | dic ks zs=>simp[dOk] at o2
  | _=>simp[Rep] at h2
 | .tup xs,d2,n,m,v,o1,o2,h1,h2=>by
  obtain⟨a,vs,rfl,ha,r⟩:=rep_tup.mp h1;cases d2 with
  | tup ys=>obtain⟨b,us,e,hb,q⟩:=rep_tup.mp h2;cases e;rw[ha] at hb;cases hb;simp only[dOk,Bool.and_eq_true] at o1 o2;rw[Reps.inj xs ys _ _ o1.2 o2.2 r q]
  | lst ys=>obtain⟨b,us,e,hb,q⟩:=rep_lst.mp h2;cases e;rw[ha] at hb;cases hb
  | scr ys=>simp[dOk] at o2
  | ins c ks zs=>simp[dOk] at o2
  | dic ks zs=>simp[dOk] at o2
  | _=>simp[Rep] at h2
 | .scr xs,d2,n,m,v,o1,o2,h1,h2=>by simp[dOk] at o1
 | .ins _ _ _,d2,n,m,v,o1,o2,h1,h2=>by simp[dOk] at o1
 | .dic _ _,d2,n,m,v,o1,o2,h1,h2=>by simp[dOk] at o1
theorem Reps.inj:∀ (xs ys:List D) (n m:Nat){vs:List V},dOks xs n=true→dOks ys m=true→Reps K H xs vs→Reps K H ys vs→xs=ys
 | [],ys,n,m,vs,o1,o2,h1,h2=>by
  rw[reps_nil.mp h1] at h2;cases ys with
  | nil=>rfl
  | cons y ys=>obtain⟨_,_,e,_⟩:=reps_cons.mp h2;cases e
 | x::xs,ys,n,m,vs,o1,o2,h1,h2=>by
  obtain⟨v,r,rfl,q,t⟩:=reps_cons.mp h1;cases ys with
  | nil=>have:=reps_nil.mp h2;cases this
  | cons y ys=>obtain⟨v',r',e,q',t'⟩:=reps_cons.mp h2;cases e;simp only[dOks,Bool.and_eq_true] at o1 o2;rw[Rep.inj x y _ _ o1.1 o2.1 q q',Reps.inj xs ys _ _ o1.2 o2.2 t t']
end
end
noncomputable section
variable {P:Program}{w:World}{K:Frag}{H:Hp}{s:Shared}
theorem objL (hok:HOk P w H s.heap){a:Addr}{vs:List V}(e:H a=some (.lst vs)):∃ its:List Value,Vals vs its∧s.heap.IsList a its.toArray:=by
 obtain⟨z,its,n,r,q⟩:=hok a _ e;exact⟨its,r,_,q,rfl,n,rfl⟩
theorem objT (hok:HOk P w H s.heap){a:Addr}{vs:List V}(e:H a=some (.tup vs)):∃ its:List Value,Vals vs its∧s.heap.IsTuple a its.toArray:=by
 obtain⟨z,its,r,q⟩:=hok a _ e;exact⟨its,r,q⟩
open SeqAt
structure EqAll (A:Around) (s:Shared) (u1 u2:Value) (b:Bool):Prop where
 rc:RcAt A s u1 u2 b
 ne:RcNeAt A s u1 u2 (!b)
 eq:EqAt A s u1 u2 b
theorem eq_scal (hok:HOk P w H s.heap){A:Around}(hu:A.units<cLine){d1 d2:D}{m:Nat}{v1 v2:V}{u1 u2:Value}(o1:dOk d1 0=true) (o2:dOk d2 m=true) (h1:Rep K H d1 v1) (h2:Rep K H d2 v2) (r1:RelV v1 u1) (r2:RelV v2 u2) :
  EqAll A s u1 u2 (deq d1 d2):=by
 cases d1 with
 | lst xs=>simp[dOk] at o1
 | tup xs=>simp[dOk] at o1
 | scr xs=>simp[dOk] at o1
 | ins c ks zs=>simp[dOk] at o1
 | dic ks zs=>simp[dOk] at o1
 | non=>
  have e:=rep_non.mp h1;subst e;cases r1;cases d2 with
  | non=>have e:=rep_non.mp h2;subst e;cases r2;exact⟨.none_none,.none_none,.same _⟩
  | bl b=>have e:=rep_bl.mp h2;subst e;cases r2;exact⟨.none_bool b,.none_bool b,.none_bool b⟩
  | int b=>have e:=rep_int.mp h2;subst e;obtain⟨t,rfl⟩:=r2;exact⟨.none_int b t,.none_int b t,.none_int b t⟩
  | str b=>have e:=rep_str.mp h2;subst e;obtain⟨t,rfl⟩:=r2;exact⟨.none_str b t,.none_str b t,.none_str b t⟩
  | lst ys=>obtain⟨a,vs,rfl,q,_⟩:=rep_lst.mp h2;cases r2;obtain⟨its,_,l⟩:=objL hok q;exact⟨.none_list l hu,.none_list l hu,.none_list l hu⟩
  | tup ys=>obtain⟨a,vs,rfl,q,_⟩:=rep_tup.mp h2;cases r2;obtain⟨its,_,l⟩:=objT hok q;exact⟨.none_tuple l hu,.none_tuple l hu,.none_tuple l hu⟩
  | scr ys=>simp[dOk] at o2
  | ins c ks zs=>simp[dOk] at o2
  | dic ks zs=>simp[dOk] at o2
 | bl c=>
  have e:=rep_bl.mp h1;subst e;cases r1;cases d2 with
  | non=>have e:=rep_non.mp h2;subst e;cases r2;exact⟨.bool_none c,.bool_none c,.bool_none c⟩
  | bl b=>have e:=rep_bl.mp h2;subst e;cases r2;exact⟨.bool_bool c b,.bool_bool c b,.bool_bool c b⟩
  | int b=>have e:=rep_int.mp h2;subst e;obtain⟨t,rfl⟩:=r2;exact⟨.bool_int c b t,.bool_int c b t,.bool_int c b t⟩
  | str b=>have e:=rep_str.mp h2;subst e;obtain⟨t,rfl⟩:=r2;exact⟨.bool_str c b t,.bool_str c b t,.bool_str c b t⟩
  | lst ys=>obtain⟨a,vs,rfl,q,_⟩:=rep_lst.mp h2;cases r2;obtain⟨its,_,l⟩:=objL hok q;exact⟨.bool_list c l hu,.bool_list c l hu,.bool_list c l hu⟩
  | tup ys=>obtain⟨a,vs,rfl,q,_⟩:=rep_tup.mp h2;cases r2;obtain⟨its,_,l⟩:=objT hok q;exact⟨.bool_tuple c l hu,.bool_tuple c l hu,.bool_tuple c l hu⟩
  | scr ys=>simp[dOk] at o2
  | ins c ks zs=>simp[dOk] at o2
  | dic ks zs=>simp[dOk] at o2
 | int c=>
  have e:=rep_int.mp h1;subst e;obtain⟨t',rfl⟩:=r1;cases d2 with
  | non=>have e:=rep_non.mp h2;subst e;cases r2;exact⟨.int_none c t',.int_none c t',.int_none c t'⟩
  | bl b=>have e:=rep_bl.mp h2;subst e;cases r2;exact⟨.int_bool c t' b,.int_bool c t' b,.int_bool c t' b⟩
  | int b=>have e:=rep_int.mp h2;subst e;obtain⟨t,rfl⟩:=r2;exact⟨.int_int c t' b t,.int_int c t' b t,.int_int c t' b t⟩
  | str b=>have e:=rep_str.mp h2;subst e;obtain⟨t,rfl⟩:=r2;exact⟨.int_str c t' b t,.int_str c t' b t,.int_str c t' b t⟩
  | lst ys=>obtain⟨a,vs,rfl,q,_⟩:=rep_lst.mp h2;cases r2;obtain⟨its,_,l⟩:=objL hok q;exact⟨.int_list c t' l hu,.int_list c t' l hu,.int_list c t' l hu⟩
  | tup ys=>obtain⟨a,vs,rfl,q,_⟩:=rep_tup.mp h2;cases r2;obtain⟨its,_,l⟩:=objT hok q;exact⟨.int_tuple c t' l hu,.int_tuple c t' l hu,.int_tuple c t' l hu⟩
  | scr ys=>simp[dOk] at o2
  | ins c ks zs=>simp[dOk] at o2
  | dic ks zs=>simp[dOk] at o2
 | str c=>
  have e:=rep_str.mp h1;subst e;obtain⟨t',rfl⟩:=r1;cases d2 with
  | non=>have e:=rep_non.mp h2;subst e;cases r2;exact⟨.str_none c t',.str_none c t',.str_none c t'⟩
  | bl b=>have e:=rep_bl.mp h2;subst e;cases r2;exact⟨.str_bool c t' b,.str_bool c t' b,.str_bool c t' b⟩
  | int b=>have e:=rep_int.mp h2;subst e;obtain⟨t,rfl⟩:=r2;exact⟨.str_int c t' b t,.str_int c t' b t,.str_int c t' b t⟩
  | str b=>have e:=rep_str.mp h2;subst e;obtain⟨t,rfl⟩:=r2;exact⟨.str_str c t' b t,.str_str c t' b t,.str_str c t' b t⟩
  | lst ys=>obtain⟨a,vs,rfl,q,_⟩:=rep_lst.mp h2;cases r2;obtain⟨its,_,l⟩:=objL hok q;exact⟨.str_list c t' l hu,.str_list c t' l hu,.str_list c t' l hu⟩
  | tup ys=>obtain⟨a,vs,rfl,q,_⟩:=rep_tup.mp h2;cases r2;obtain⟨its,_,l⟩:=objT hok q;exact⟨.str_tuple c t' l hu,.str_tuple c t' l hu,.str_tuple c t' l hu⟩
  | scr ys=>simp[dOk] at o2
  | ins c ks zs=>simp[dOk] at o2
  | dic ks zs=>simp[dOk] at o2
theorem EqAll.refs {A:Around}{l b:Addr}{k:Bool}(rc:RcAt A s (.ref l) (.ref b) k) (ne:RcNeAt A s (.ref l) (.ref b) (!k)) (h:l=b→k=true):EqAll A s (.ref l) (.ref b) k:=by
 refine⟨rc,ne,?_⟩;by_cases e:l=b
 ·subst e;rw[h rfl];exact .same _
 ·exact .of_refs e rc
theorem deqs_len {xs ys:List D}(h:xs.length≠ys.length):deqs xs ys=false:=by
 rw[deqs_all];have:(xs.length==ys.length)=false:=by simpa using h
 rw[this,Bool.and_false]
theorem eq_items {A:Around}{n m:Nat}{xs ys:List D}{vs us:List V}{its its2:List Value}(ih:∀ (d1 d2:D) (v1 v2:V) (u1 u2:Value),dOk d1 n=true→dOk d2 m=true→Rep K H d1 v1→Rep K H d2 v2→RelV v1 u1→RelV v2 u2→EqAll A s u1 u2 (deq d1 d2))
  (o1:dOks xs n=true) (o2:dOks ys m=true) (r:Reps K H xs vs) (q:Reps K H ys us) (rv:Vals vs its) (ru:Vals us its2) (j:Nat) (h1:j<its.toArray.size) (h2:j<its2.toArray.size) :
  EqAt A s its.toArray[j] its2.toArray[j] (deq (xs.getD j .non) (ys.getD j .non)):=by
 have l1:xs.length=its.length:=r.length.trans rv.length;have l2:ys.length=its2.length:=q.length.trans ru.length;have h1':j<its.length:=by simpa using h1
 have h2':j<its2.length:=by simpa using h2
 have g1:xs[j]?=some (xs.getD j .non):=by rw[List.getD_eq_getElem?_getD,zI (by omega)];rfl
 have g2:ys[j]?=some (ys.getD j .non):=by rw[List.getD_eq_getElem?_getD,zI (by omega)];rfl
 obtain⟨v,e1,p1⟩:=r.get g1;obtain⟨u,e2,p2⟩:=q.get g2;obtain⟨w1,f1,t1⟩:=rv.get e1;obtain⟨w2,f2,t2⟩:=ru.get e2;have k1:its.toArray[j]=w1:=by
  have:its[j]?=some its.toArray[j]:=by simp[h1']
  rw[f1] at this;exact(yA this).symm
 have k2:its2.toArray[j]=w2:=by
  have:its2[j]?=some its2.toArray[j]:=by simp[h2']
  rw[f2] at this;exact(yA this).symm
 rw[k1,k2];exact(ih _ _ _ _ _ _ (dOks_get o1 g1) (dOks_get o2 g2) p1 p2 t1 t2).eq
theorem eq_all (hok:HOk P w H s.heap):∀ (n:Nat){A:Around}(_:A.units+n<cLine) (d1 d2:D) (m:Nat) (v1 v2:V) (u1 u2:Value),dOk d1 n=true→dOk d2 m=true→Rep K H d1 v1→Rep K H d2 v2→RelV v1 u1→RelV v2 u2 →
  EqAll A s u1 u2 (deq d1 d2):=by
 intro n
 induction n with
 | zero=>intro A hu d1 d2 m v1 v2 u1 u2 o1 o2 h1 h2 r1 r2;exact eq_scal hok (by omega) o1 o2 h1 h2 r1 r2
 | succ n ih=>
  intro A hu d1 d2 m v1 v2 u1 u2 o1 o2 h1 h2 r1 r2;have hu0:A.units<cLine:=by omega
  have ih':=fun (m':Nat)=>fun (d1 d2:D) (v1 v2:V) (u1 u2:Value)=>ih (A:=A.in1) (by show A.units+1+n<cLine;omega) d1 d2 m' v1 v2 u1 u2
  cases d1 with
  | lst xs=>
   obtain⟨a,vs,rfl,qa,ra⟩:=rep_lst.mp h1;cases r1;obtain⟨its,rv,l⟩:=objL hok qa;cases d2 with
   | lst ys=>
    obtain⟨b,us,rfl,qb,rb⟩:=rep_lst.mp h2;cases r2;obtain⟨its2,ru,l2⟩:=objL hok qb;have p1:=o1;have p2:=o2;simp only[dOk,Bool.and_eq_true,Nat.add_sub_cancel] at p1 p2;have len1:its.toArray.size=xs.length:=by rw[zN];exact(ra.length.trans rv.length).symm
    have len2:its2.toArray.size=ys.length:=by rw[zN];exact(rb.length.trans ru.length).symm
    have same:a=b→deqs xs ys=true:=fun e=>by subst e;rw[qa] at qb;cases qb;rw[← Reps.inj xs ys _ _ p1.2 p2.2 ra rb];exact deqs_refl xs _ p1.2
    show EqAll A s _ _ (deqs xs ys);by_cases hl:xs.length=ys.length
    ·have E:deqs xs ys=(List.range its.toArray.size).all (fun j=>deq (xs.getD j .non) (ys.getD j .non)):=by rw[deqs_all,← hl,Nat.min_self,len1];simp
     have it:=eq_items (ih' _) p1.2 p2.2 ra rb rv ru;exact .refs (by rw[E];exact .lists l l2 (by omega) hu0 it) (by rw[E];exact .lists l l2 (by omega) hu0 it) same
    ·have E:=deqs_len hl;have hne:(its.toArray.size != its2.toArray.size)=true:=by rw[len1,len2];simpa using hl
     refine .refs ?_ ?_ same
     ·rw[E];exact .lists_lengths l l2 hne hu0
     ·rw[E];exact .lists_lengths l l2 hne hu0
   | tup ys=>obtain⟨b,us,rfl,qb,rb⟩:=rep_tup.mp h2;cases r2;obtain⟨its2,ru,l2⟩:=objT hok qb;exact⟨.list_tuple l l2 hu0,.list_tuple l l2 hu0,.list_tuple l l2 hu0⟩
   | non=>have e:=rep_non.mp h2;subst e;cases r2;exact⟨.list_none l hu0,.list_none l hu0,.list_none l hu0⟩
   | bl b=>have e:=rep_bl.mp h2;subst e;cases r2;exact⟨.list_bool b l hu0,.list_bool b l hu0,.list_bool b l hu0⟩
   | int b=>have e:=rep_int.mp h2;subst e;obtain⟨t,rfl⟩:=r2;exact⟨.list_int b t l hu0,.list_int b t l hu0,.list_int b t l hu0⟩
   | str b=>have e:=rep_str.mp h2;subst e;obtain⟨t,rfl⟩:=r2;exact⟨.list_str b t l hu0,.list_str b t l hu0,.list_str b t l hu0⟩
   | scr ys=>simp[dOk] at o2
   | ins c ks zs=>simp[dOk] at o2
   | dic ks zs=>simp[dOk] at o2
  | tup xs=>
   obtain⟨a,vs,rfl,qa,ra⟩:=rep_tup.mp h1;cases r1;obtain⟨its,rv,l⟩:=objT hok qa;cases d2 with
   | tup ys=>
    obtain⟨b,us,rfl,qb,rb⟩:=rep_tup.mp h2;cases r2;obtain⟨its2,ru,l2⟩:=objT hok qb;have p1:=o1;have p2:=o2;simp only[dOk,Bool.and_eq_true,Nat.add_sub_cancel] at p1 p2;have len1:its.toArray.size=xs.length:=by rw[zN];exact(ra.length.trans rv.length).symm
    have len2:its2.toArray.size=ys.length:=by rw[zN];exact(rb.length.trans ru.length).symm
    have same:a=b→deqs xs ys=true:=fun e=>by subst e;rw[qa] at qb;cases qb;rw[← Reps.inj xs ys _ _ p1.2 p2.2 ra rb];exact deqs_refl xs _ p1.2
    show EqAll A s _ _ (deqs xs ys);have E:deqs xs ys=((List.range (min its.toArray.size its2.toArray.size)).all (fun j=>deq (xs.getD j .non) (ys.getD j .non))&&its.toArray.size==its2.toArray.size):=by rw[deqs_all,len1,len2]
    have it:=eq_items (ih' _) p1.2 p2.2 ra rb rv ru;exact .refs (by rw[E];exact .tuples l l2 hu0 it) (by rw[E];exact .tuples l l2 hu0 it) same
   | lst ys=>obtain⟨b,us,rfl,qb,rb⟩:=rep_lst.mp h2;cases r2;obtain⟨its2,ru,l2⟩:=objL hok qb;exact⟨.tuple_list l l2 hu0,.tuple_list l l2 hu0,.tuple_list l l2 hu0⟩
   | non=>have e:=rep_non.mp h2;subst e;cases r2;exact⟨.tuple_none l hu0,.tuple_none l hu0,.tuple_none l hu0⟩
   | bl b=>have e:=rep_bl.mp h2;subst e;cases r2;exact⟨.tuple_bool b l hu0,.tuple_bool b l hu0,.tuple_bool b l hu0⟩
   | int b=>have e:=rep_int.mp h2;subst e;obtain⟨t,rfl⟩:=r2;exact⟨.tuple_int b t l hu0,.tuple_int b t l hu0,.tuple_int b t l hu0⟩
   | str b=>have e:=rep_str.mp h2;subst e;obtain⟨t,rfl⟩:=r2;exact⟨.tuple_str b t l hu0,.tuple_str b t l hu0,.tuple_str b t l hu0⟩
   | scr ys=>simp[dOk] at o2
   | ins c ks zs=>simp[dOk] at o2
   | dic ks zs=>simp[dOk] at o2
  | scr xs=>simp[dOk] at o1
  | ins c ks zs=>simp[dOk] at o1
  | dic ks zs=>simp[dOk] at o1
  | non=>exact eq_scal hok hu0 rfl o2 h1 h2 r1 r2
  | bl b=>exact eq_scal hok hu0 rfl o2 h1 h2 r1 r2
  | int b=>exact eq_scal hok hu0 rfl o2 h1 h2 r1 r2
  | str b=>exact eq_scal hok hu0 rfl o2 h1 h2 r1 r2
end
noncomputable def oEq (x y:D):Option D:=if (dOk x 180&&dOk y 180)=true then some (.bl (deq x y)) else none
noncomputable def oNe (x y:D):Option D:=if (dOk x 180&&dOk y 180)=true then some (.bl (!deq x y)) else none
noncomputable section
variable {X:Cx}
theorem od_eq {k:Nat}(hr:Room k X.A):OpD X (compareOp .Eq) oEq:=by
 intro pins s σ H x y v u Q I rx ry ⟨G,d1,d2,d,gh,h1,h2,eq,q⟩;unfold oEq at eq
 split at eq
 ·rename_i hc;rw[Bool.and_eq_true] at hc;cases eq;have hu:=hr.un;exact(eq_all (K:=X.K) I.hok 180 (A:=X.A) (by omega) d1 d2 180 x y v u hc.1 hc.2 (h1.all gh) (h2.all gh) rx ry).rc _ _ _ _ ⟨.bl _,H,I,rfl,q _ G H (.refl gh) (rep_bl.mpr rfl)⟩
 ·cases eq
theorem od_ne {k:Nat}(hr:Room k X.A):OpD X (compareOp .NotEq) oNe:=by
 intro pins s σ H x y v u Q I rx ry ⟨G,d1,d2,d,gh,h1,h2,eq,q⟩;unfold oNe at eq
 split at eq
 ·rename_i hc;rw[Bool.and_eq_true] at hc;cases eq;have hu:=hr.un;exact(eq_all (K:=X.K) I.hok 180 (A:=X.A) (by omega) d1 d2 180 x y v u hc.1 hc.2 (h1.all gh) (h2.all gh) rx ry).ne _ _ _ _ ⟨.bl _,H,I,rfl,q _ G H (.refl gh) (rep_bl.mpr rfl)⟩
 ·cases eq
noncomputable def oLt:D→D→Option D
 | .int i,.int j=>some (.bl (decide (i<j)))
 | _,_=>none
noncomputable def oGt:D→D→Option D
 | .int i,.int j=>some (.bl (decide (j<i)))
 | _,_=>none
noncomputable def oGe:D→D→Option D
 | .int i,.int j=>some (.bl (decide (j≤i)))
 | _,_=>none
theorem od_ii {f:Value→Value→Sem Value}{C:Int→Int→Prop}{o:D→D→Option D}{g:Int→Int→V}{g':Int→Int→D}(h:OpR X f (rI C g)) (ho:∀ x y d,o x y=some d→∃ i j,x=.int i∧y=.int j∧C i j∧d=g' i j) (hg:∀ i j G,Rep X.K G (g' i j) (g i j)):OpD X f o:=
 OpR.imp h fun x y H Q ⟨G,d1,d2,d,gh,h1,h2,eq,q⟩=>by obtain⟨i,j,rfl,rfl,hc,rfl⟩:=ho _ _ _ eq;exact⟨i,j,h1.int,h2.int,hc,q _ G H (.refl gh) (hg i j G)⟩
theorem op_i0 {f:Value→Value→Sem Value}{g:Int→Int→V}(h:OpR X f (rI0 g)):OpR X f (rI (fun _ _=>True) g):=OpR.imp h fun x y H Q ⟨i,j,e1,e2,_,q⟩=>⟨i,j,e1,e2,q⟩
theorem od_lt:OpD X (compareOp .Lt) oLt:=od_ii (op_i0 op_lt) (g':=fun i j =>.bl (decide (i<j))) (fun x y d h=>by cases x<;>cases y<;>simp[oLt] at h<;>exact⟨_,_,rfl,rfl,trivial,h.symm⟩) fun i j G=>rep_bl.mpr rfl
theorem od_ge:OpD X (compareOp .GtE) oGe:=od_ii (op_i0 op_ge) (g':=fun i j =>.bl (decide (j≤i))) (fun x y d h=>by cases x<;>cases y<;>simp[oGe] at h<;>exact⟨_,_,rfl,rfl,trivial,h.symm⟩) fun i j G=>rep_bl.mpr rfl
noncomputable def oSub:D→D→Option D
 | .int i,.int j=>some (.int (i-j))
 | _,_=>none
theorem od_sub:OpD X (binaryOp .Sub) oSub:=od_ii (op_i0 op_sub) (g':=fun i j =>.int (i-j)) (fun x y d h=>by cases x<;>cases y<;>simp[oSub] at h<;>exact⟨_,_,rfl,rfl,trivial,h.symm⟩) fun i j G=>rep_int.mpr rfl
noncomputable def oMod:D→D→Option D
 | .int i,.int j=>if 0<j then some (.int (i%j)) else none
 | _,_=>none
theorem od_mod:OpD X (binaryOp .Mod) oMod:=od_ii op_mod (g':=fun i j =>.int (i%j)) (fun x y d h=>by
 cases x<;>cases y<;>simp only[oMod] at h<;>first|(cases h;done)|(split at h<;>first|(cases h;exact⟨_,_,rfl,rfl,by assumption,rfl⟩)|cases h)) fun i j G=>rep_int.mpr rfl
noncomputable def oFdiv:D→D→Option D
 | .int i,.int j=>if 0<j∧j<2 ^ 64 then some (.int (i/j)) else none
 | _,_=>none
theorem op_fdivB:OpR X (binaryOp .FloorDiv) (rI (fun _ j=>0<j∧j<2 ^ 64) fun i j =>.int (i/j)):=opI fun i j _ _ _ _ _ hc q=>by
 have h1:(0:Int)<j:=hc.1;have h2:j<2 ^ 64:=hc.2;have h3:j.natAbs<2 ^ 64:=by omega
 refine floordiv_int (by omega) (by rw[Int.fdiv_eq_ediv_of_nonneg i (by omega)];exact q) (.inl (PyProof.noPylong_of_log2 ?_))
 have:=(Nat.log2_lt (n:=j.natAbs) (k:=64) (by omega)).mpr h3
 omega
theorem od_fdiv:OpD X (binaryOp .FloorDiv) oFdiv:=od_ii op_fdivB (g':=fun i j =>.int (i/j)) (fun x y d h=>by
 cases x<;>cases y<;>simp only[oFdiv] at h<;>first|(cases h;done)|(split at h<;>first|(cases h;exact⟨_,_,rfl,rfl,by assumption,rfl⟩)|cases h)) fun i j G=>rep_int.mpr rfl
noncomputable def bigE:Nat:=1000000
theorem bigE_le:bigE≤sizeLine:=by rw[sizeLine_eq];decide
noncomputable def oAdd:D→D→Option D
 | .int i,.int j=>some (.int (i+j))
 | .str x,.str y=>if x.length+y.length≤bigE then some (.str (x++y)) else none
 | .lst xs,.lst ys=>if xs.length+ys.length≤bigE then some (.lst (xs++ys)) else none
 | _,_=>none
theorem od_add:OpD X (binaryOp .Add) oAdd:=by
 refine OpR.imp (op_add.or (op_add_str.or op_cat)) fun x y H Q ⟨G,d1,d2,d,gh,h1,h2,eq,q⟩ =>?_
 cases d1<;>cases d2<;>simp only[oAdd] at eq<;>try (cases eq;done)
 ·cases eq;exact .inl ⟨_,_,h1.int,h2.int,q _ G H (.refl gh) (rep_int.mpr rfl)⟩
 ·split at eq
  ·cases eq;rename_i hz;exact .inr (.inl ⟨_,_,h1.str,h2.str,yB hz bigE_le,q _ G H (.refl gh) (rep_str.mpr rfl)⟩)
  ·cases eq
 ·split at eq
  ·cases eq;rename_i hz;obtain⟨a,vs,ea,qa,ra⟩:=h1.lst gh;obtain⟨b,us,eb,qb,rb⟩:=h2.lst gh;refine .inr (.inr ⟨a,b,vs,us,ea,eb,qa,qb,?_,fun p hp=>q _ _ _ (Ext.alloc (p:=p) gh hp) ?_⟩)
   ·rw[← ra.length,← rb.length];exact yB hz bigE_le
   ·exact rep_lst.mpr ⟨p,_,rfl,upd_same,Reps.mono (.alloc (gh.free hp)) _ (ra.append rb)⟩
  ·cases eq
instance:DecidablePred fun p:Int×Int=>CMul p.1 p.2:=fun p=>by unfold CMul;infer_instance
noncomputable def oMul:D→D→Option D
 | .int i,.int j=>if (-(2 ^ 64)<i∧i<2 ^ 64)∨(-(2 ^ 64)<j∧j<2 ^ 64) then some (.int (i*j)) else none
 | .lst xs,.int k=>if (-(2 ^ 63)≤k∧k<2 ^ 63)∧xs.length*k.toNat≤bigE then some (.lst (List.replicate k.toNat xs).flatten) else none
 | _,_=>none
theorem od_mul:OpD X (binaryOp .Mult) oMul:=by
 refine OpR.imp (op_mul.or op_rep) fun x y H Q ⟨G,d1,d2,d,gh,h1,h2,eq,q⟩ =>?_
 cases d1<;>cases d2<;>simp only[oMul] at eq<;>try (cases eq;done)
 ·split at eq
  ·cases eq;rename_i hc;exact .inl ⟨_,_,h1.int,h2.int,hc,q _ G H (.refl gh) (rep_int.mpr rfl)⟩
  ·cases eq
 ·split at eq
  ·cases eq;rename_i hz;obtain⟨a,vs,ea,qa,ra⟩:=h1.lst gh;refine .inr ⟨a,_,vs,ea,h2.int,qa,hz.1.1,hz.1.2,?_,fun p hp=>q _ _ _ (Ext.alloc (p:=p) gh hp) ?_⟩
   ·rw[← ra.length];exact yB hz.2 bigE_le
   ·exact rep_lst.mpr ⟨p,_,rfl,upd_same,Reps.mono (.alloc (gh.free hp)) _ (ra.rep _)⟩
  ·cases eq
noncomputable def e1 (o:D→Option D) (a:DF):DF:=fun ρ=>(a ρ).bind o
theorem e1_some {o:D→Option D}{a:DF}{ρ:DEnv}{d:D}(h:e1 o a ρ=some d):∃ x,a ρ=some x∧o x=some d:=by
 unfold e1 at h;cases ea:a ρ with
 | none=>rw[ea] at h;cases h
 | some x=>rw[ea] at h;exact⟨x,rfl,h⟩
end
end L2
end
noncomputable section
namespace L2
open PySem PySem.Spec PyProof.Rows
inductive DO where
 | nx (ρ:DEnv)|rt (d:D)|ro (ds:List D)|bk (ρ:DEnv)|ct (ρ:DEnv)
 | rm (d:D) (ρ:DEnv)
noncomputable abbrev DG:=DEnv→Option DO
structure Bs where
 g:Hp
 h:Hp
 pin:List (Nat×Addr)
structure SR (K:Frag) (B:Bs) (own:List Nat) (G H:Hp) (σ:St) (ρ:DEnv):Prop where
 gh:Same G H
 g0:Same B.1 G
 h0:Same B.2 H
 fr:∀ b o,G b=some o→B.1 b=some o∨B.2 b=none
 env:∀ (i:Nat) (d:D),i∉own→ρ[i]?=some (some d)→∃ v,σ[i]?=some (some v)∧Rep K G d v
 ownd:∀ (i:Nat) (d:D),i∈own→ρ[i]?=some (some d)→∃ a o,σ[i]?=some (some (.ref a))∧H a=some o∧Cell K G d o∧G a=none∧B.2 a=none
 inj:∀ (i j:Nat) (a:Addr),i∈own→j∈own→(∃ d,ρ[i]?=some (some d))→(∃ d,ρ[j]?=some (some d))→σ[i]?=some (some (.ref a))→σ[j]?=some (some (.ref a))→i=j
 len:σ.length=ρ.length
 pin:∀ (i:Nat) (a:Addr),(i,a)∈B.3→i∈own∧σ[i]?=some (some (.ref a))
noncomputable section
variable {K:Frag}{B:Bs}{own:List Nat}{G H G' H':Hp}{σ:St}{ρ:DEnv}
theorem SR.toExt (S:SR K B own G H σ ρ):Ext B.1 B.2 G H:=⟨S.h0,S.g0,S.gh,S.fr⟩
theorem SR.envR (S:SR K B own G H σ ρ):EnvR K own G H σ ρ:=⟨S.len,fun i d e=>by
 by_cases hi:i∈own
 ·obtain⟨a,o,e2,e3,e4,_⟩:=S.ownd i d hi e;exact⟨_,e2,by rw[if_pos hi];exact .inr ⟨a,o,rfl,e3,e4⟩⟩
 ·obtain⟨v,e1,e2⟩:=S.env i d hi e;exact⟨v,e1,by rw[if_neg hi];exact e2⟩⟩
theorem SR.ext (S:SR K B own G H σ ρ) (E:Ext G H G' H'):SR K B own G' H' σ ρ:=by
 refine⟨E.gh,S.g0.trans E.gg,S.h0.trans E.hh,fun b o e =>?_,fun i d hi e =>?_,fun i d hi e =>?_,S.inj,S.len,S.pin⟩
 ·rcases E.fr b o e with q|q
  ·exact S.fr b o q
  ·exact .inr (S.h0.free q)
 ·obtain⟨v,e1,e2⟩:=S.env i d hi e;exact⟨v,e1,Rep.mono E.gg d e2⟩
 ·obtain⟨a,o,e2,e3,e4,e5,e6⟩:=S.ownd i d hi e;refine⟨a,o,e2,E.hh _ _ e3,e4.mono E.gg,?_,e6⟩;cases q:G' a with
  | none=>rfl
  | some o=>
   rcases E.fr a o q with z|z
   ·rw[e5] at z;cases z
   ·rw[e3] at z;cases z
theorem set_get {α:Type}{l:List (Option α)}{i j:Nat}{x y:α}(h:(l.set i (some x))[j]?=some (some y)):(i=j∧y=x∧i<l.length)∨(i≠j∧l[j]?=some (some y)):=by
 by_cases e:i=j
 ·subst e;by_cases hl:i<l.length
  ·rw[List.getElem?_set_self hl] at h;cases h;exact .inl ⟨rfl,rfl,hl⟩
  ·rw[List.getElem?_eq_none (by simpa using hl)] at h;cases h
 ·rw[zK e] at h;exact .inr ⟨e,h⟩
theorem get_set {α:Type}{l:List (Option α)}{i:Nat}{x:α}(h:i<l.length):(l.set i (some x))[i]?=some (some x):=by rw[List.getElem?_set_self h]
theorem SR.setS {i:Nat}{d:D}{v:V}(S:SR K B own G H σ ρ) (hi:i∉own) (r:Rep K G d v):SR K B own G H (σ.set i (some v)) (ρ.set i (some d)):=by
 have ne:∀ j,j∈own→i≠j:=fun j hj e=>hi (e ▸ hj)
 refine⟨S.gh,S.g0,S.h0,S.fr,fun j c hj e =>?_,fun j c hj e =>?_,fun j k a hj hk dj dk ej ek =>?_,by simp[S.len],fun j a h=>⟨(S.pin j a h).1,by rw[zK (ne j (S.pin j a h).1)];exact(S.pin j a h).2⟩⟩
 ·rcases set_get e with ⟨rfl,rfl,hl⟩|⟨hne,e⟩
  ·exact⟨v,get_set (by rw[S.len];exact hl),r⟩
  ·obtain⟨u,e1,e2⟩:=S.env j c hj e;exact⟨u,by rw[zK hne];exact e1,e2⟩
 ·rw[zK (ne j hj)] at e;obtain⟨a,o,e2,e3⟩:=S.ownd j c hj e;exact⟨a,o,by rw[zK (ne j hj)];exact e2,e3⟩
 ·rw[zK (ne j hj)] at dj ej;rw[zK (ne k hk)] at dk ek;exact S.inj j k a hj hk dj dk ej ek
theorem SR.setC {i:Nat}{d:D}{p:Addr}{o:HO}(S:SR K B own G H σ ρ) (hi:i∈own) (E:Ext G H G' H') (hp:H p=none) (gp:G' p=none) (hv:H' p=some o) (r:Cell K G' d o) (hpin:∀ a,(i,a)∉B.3):SR K B own G' H' (σ.set i (some (.ref p))) (ρ.set i (some d)):=by
 have S':=S.ext E;have nop:∀ j,j∈own→(∃ d,ρ[j]?=some (some d))→σ[j]?=some (some (.ref p))→False:=fun j hj ⟨d,dj⟩ ej=>by obtain⟨a,o,e2,e3,_⟩:=S.ownd j d hj dj;rw[ej] at e2;cases e2;rw[hp] at e3;cases e3
 refine⟨S'.gh,S'.g0,S'.h0,S'.fr,fun j c hj e =>?_,fun j c hj e =>?_,fun j k a hj hk dj dk ej ek =>?_,by simp[S.len],fun j a h=>⟨(S.pin j a h).1,by
  have hij:i≠j:=fun z=>by subst z;exact hpin a h
  rw[zK hij];exact(S.pin j a h).2⟩⟩
 ·have hne:i≠j:=fun e=>hj (e ▸ hi)
  rw[zK hne] at e;obtain⟨u,e1,e2⟩:=S'.env j c hj e;exact⟨u,by rw[zK hne];exact e1,e2⟩
 ·rcases set_get e with ⟨rfl,rfl,hl⟩|⟨hne,e⟩
  ·exact⟨p,o,get_set (by rw[S.len];exact hl),hv,r,gp,S.h0.free hp⟩
  ·obtain⟨a,o,e2,e3⟩:=S'.ownd j c hj e;exact⟨a,o,by rw[zK hne];exact e2,e3⟩
 ·by_cases h1:i=j
  ·by_cases h2:i=k
   ·exact h1.symm.trans h2
   ·subst h1;rw[zK h2] at dk ek;obtain⟨d,dj⟩:=dj;rcases set_get dj with ⟨_,_,hl⟩|⟨z,_⟩
    ·rw[get_set (by rw[S.len];exact hl)] at ej;cases ej
     exact(nop k hk dk ek).elim
    ·exact absurd rfl z
  ·rw[zK h1] at dj ej;by_cases h2:i=k
   ·subst h2;obtain⟨d,dk⟩:=dk;rcases set_get dk with ⟨_,_,hl⟩|⟨z,_⟩
    ·rw[get_set (by rw[S.len];exact hl)] at ek;cases ek
     exact(nop j hj dj ej).elim
    ·exact absurd rfl z
   ·rw[zK h2] at dk ek;exact S.inj j k a hj hk dj dk ej ek
theorem SR.setO {i:Nat}{ds:List D}{p:Addr}{vs:List V}(S:SR K B own G H σ ρ) (hi:i∈own) (E:Ext G H G' H') (hp:H p=none) (gp:G' p=none) (hv:H' p=some (.lst vs)) (r:Reps K G' ds vs) (hpin:∀ a,(i,a)∉B.3):SR K B own G' H' (σ.set i (some (.ref p))) (ρ.set i (some (.lst ds))):=
 S.setC hi E hp gp hv ⟨vs,rfl,r⟩ hpin
theorem SR.mutC {i:Nat}{a:Addr}{d d':D}{o':HO}(S:SR K B own G H σ ρ) (hi:i∈own) (hd:ρ[i]?=some (some d)) (hs:σ[i]?=some (some (.ref a))) (r:Cell K G d' o'):SR K B own G (upd H a o') σ (ρ.set i (some d')):=by
 obtain⟨a',o0,e2,e3,e4,e5,e6⟩:=S.ownd i _ hi hd;rw[hs] at e2;cases e2;refine⟨fun b o e =>?_,S.g0,fun b o e =>?_,S.fr,fun j c hj e =>?_,fun j c hj e =>?_,fun j k b hj hk dj dk ej ek =>?_,by simp[S.len],S.pin⟩
 ·rw[upd_ne (ne_of_none e e5)];exact S.gh _ _ e
 ·rw[upd_ne (ne_of_none e e6)];exact S.h0 _ _ e
 ·have hne:i≠j:=fun e=>hj (e ▸ hi)
  rw[zK hne] at e;exact S.env j c hj e
 ·rcases set_get e with ⟨rfl,rfl,hl⟩|⟨hne,e⟩
  ·exact⟨a,o',hs,upd_same,r,e5,e6⟩
  ·obtain⟨b,w,f2,f3,f4⟩:=S.ownd j c hj e;refine⟨b,w,f2,?_,f4⟩;have:b≠a:=fun z=>hne (S.inj i j a hi hj ⟨_,hd⟩ ⟨_,e⟩ hs (z ▸ f2))
   rw[upd_ne this];exact f3
 ·have un:∀ m:Nat,(∃ d,(ρ.set i (some d'))[m]?=some (some d))→∃ d,ρ[m]?=some (some d):=fun m ⟨d,e⟩=>by
   rcases set_get e with ⟨rfl,_,_⟩|⟨_,e⟩
   ·exact⟨_,hd⟩
   ·exact⟨_,e⟩
  exact S.inj j k b hj hk (un j dj) (un k dk) ej ek
theorem SR.mut {i:Nat}{a:Addr}{ds ds':List D}{vs':List V}(S:SR K B own G H σ ρ) (hi:i∈own) (hd:ρ[i]?=some (some (.lst ds))) (hs:σ[i]?=some (some (.ref a))) (r:Reps K G ds' vs'):SR K B own G (upd H a (.lst vs')) σ (ρ.set i (some (.lst ds'))):=
 S.mutC hi hd hs ⟨vs',rfl,r⟩
theorem SR.freeze {own':List Nat}(S:SR K B own G H σ ρ) (sub:∀ j∈own',j∈own) (i:Nat) (hi:∀ j∈own,j∈own'∨j=i) (hn:i∉own') (hio:i∈own) (hpin:∀ a,(i,a)∉B.3):∃ G',SR K B own' G' H σ ρ:=by
 have pin':∀ (j:Nat) (a:Addr),(j,a)∈B.3→j∈own'∧σ[j]?=some (some (.ref a)):=fun j a h=>⟨by
  rcases hi j (S.pin j a h).1 with z|z
  ·exact z
  ·subst z;exact absurd h (hpin a),(S.pin j a h).2⟩
 by_cases hd:∃ d,ρ[i]?=some (some d)
 ·obtain⟨d,hd⟩:=hd;obtain⟨a,o0,e2,e3,e4,e5,e6⟩:=S.ownd i d hio hd;have mono:Same G (upd G a o0) :=.alloc e5;refine⟨upd G a o0,fun b o e =>?_,S.g0.trans mono,S.h0,fun b o e =>?_,fun j c hj e =>?_,fun j c hj e =>?_,fun j k b hj hk=>S.inj j k b (sub j hj) (sub k hk),S.len,pin'⟩
  ·by_cases hb:b=a
   ·subst hb;rw[upd_same] at e;cases e;exact e3
   ·rw[upd_ne hb] at e;exact S.gh _ _ e
  ·by_cases hb:b=a
   ·subst hb;exact .inr e6
   ·rw[upd_ne hb] at e;exact S.fr _ _ e
  ·by_cases hj':j∈own
   ·rcases hi j hj' with z|z
    ·exact absurd z hj
    ·subst z;rw[hd] at e;cases e;exact⟨_,e2,(e4.mono mono).rep upd_same⟩
   ·obtain⟨u,f1,f2⟩:=S.env j c hj' e;exact⟨u,f1,Rep.mono mono c f2⟩
  ·obtain⟨b,us,f2,f3,f4,f5,f6⟩:=S.ownd j c (sub j hj) e;refine⟨b,us,f2,f3,f4.mono mono,?_,f6⟩;have:b≠a:=fun z=>by have:=S.inj i j a hio (sub j hj) ⟨_,hd⟩ ⟨_,e⟩ e2 (z ▸ f2);exact hn (this ▸ hj)
   rw[upd_ne this];exact f5
 ·refine⟨G,S.gh,S.g0,S.h0,S.fr,fun j c hj e =>?_,fun j c hj e=>S.ownd j c (sub j hj) e,fun j k b hj hk=>S.inj j k b (sub j hj) (sub k hk),S.len,pin'⟩
  by_cases hj':j∈own
  ·rcases hi j hj' with z|z
   ·exact absurd z hj
   ·subst z;exact absurd ⟨c,e⟩ hd
  ·exact S.env j c hj' e
end
noncomputable def DEnd (K:Frag) (B:Bs) (oL own:List Nat) (D':Ends):DO→Prop
 | .nx ρ=>∀ σ G H,SR K B own G H σ ρ→D'.nx σ H
 | .rt d=>∀ v G H,Ext B.1 B.2 G H→Rep K G d v→D'.rt v H
 | .ro ds=>∀ a vs G H,Ext B.1 B.2 G H→B.2 a=none→G a=none→H a=some (.lst vs)→Reps K G ds vs→D'.rt (.ref a) H
 | .bk ρ=>∀ σ G H,SR K B oL G H σ ρ→D'.bk σ H
 | .ct ρ=>∀ σ G H,SR K B oL G H σ ρ→D'.ct σ H
 | .rm d ρ=>∀ v σ G H,(∃ own',SR K B own' G H σ ρ)→Rep K G d v→D'.rt v H
noncomputable def tDS (K:Frag) (B:Bs) (oL own own':List Nat) (g:DG):TS:=fun D' σ H=>∃ G ρ o,SR K B own G H σ ρ∧g ρ=some o∧DEnd K B oL own' D' o
noncomputable section
variable {X:Cx}{B:Bs}{oL own own1 own2:List Nat}{g h:DG}{st:Stmt}{rest:List Stmt}{e:Expr}{pos:Pos}
noncomputable def sNil:DG:=fun ρ=>some (.nx ρ)
theorem dss_nil:PSs X [] (tDS X.K B oL own own sNil):=pss_nil.imp fun D σ H ⟨G,ρ,o,S,eq,k⟩=>by cases eq;exact k σ G H S
noncomputable def sSeq (g h:DG):DG:=fun ρ=>(g ρ).bind fun o=>match o with|.nx ρ'=>h ρ'|o=>some o
theorem seq_of {K:Frag}{D':Ends}{σ:St}{H:Hp}(q:tDS K B oL own own2 (sSeq g h) D' σ H):tDS K B oL own own1 g { D' with nx:=fun σ H=>tDS K B oL own1 own2 h D' σ H } σ H:=by
 obtain⟨G,ρ,o,S,eq,k⟩:=q;unfold sSeq at eq;cases eg:g ρ with
 | none=>rw[eg] at eq;cases eq
 | some o1=>
  rw[eg] at eq;refine⟨G,ρ,o1,S,eg,?_⟩;cases o1 with
  | nx ρ'=>exact fun σ' G' H' S'=>⟨G',ρ',o,S',eq,k⟩
  | rt d=>cases eq;exact k
  | ro d=>cases eq;exact k
  | bk d=>cases eq;exact k
  | ct d=>cases eq;exact k
  | rm d ρ=>cases eq;exact k
theorem dss_cons (h1:PS X st (tDS X.K B oL own own1 g)) (h2:PSs X rest (tDS X.K B oL own1 own2 h)):PSs X (st::rest) (tDS X.K B oL own own2 (sSeq g h)):=(pss_cons h1 h2).imp fun D σ H q=>seq_of q
theorem dss_one (h1:PS X st (tDS X.K B oL own own1 g)):PSs X [st] (tDS X.K B oL own own1 g):=pss_one h1
theorem dss_freeze {sts:List Stmt}(i:Nat) (h1:PSs X sts (tDS X.K B oL own1 own2 g)) (sub:∀ j∈own1,j∈own:=by decide) (hi:∀ j∈own,j∈own1∨j=i:=by decide) (hn:i∉own1:=by decide) (hio:i∈own:=by decide) (hpin:∀ a,(i,a)∉B.3:=by intro a;simp_all):PSs X sts (tDS X.K B oL own own2 g):=
 h1.imp fun D σ H ⟨G,ρ,o,S,eq,k⟩=>by obtain⟨G',S'⟩:=S.freeze sub i hi hn hio hpin;exact⟨G',ρ,o,S',eq,k⟩
noncomputable def sSet (i:Nat) (f:DF):DG:=fun ρ=>(f ρ).map fun d =>.nx (ρ.set i (some d))
theorem ds_set {i:Nat}{x:Str}{f:DF}{pos':Pos}(hN:X.N.Nodup) (hi:X.N[i]?=some x) (hx:Loc X.env.scope x) (he:PE X e (tP X.K own f)) (ho:i∉own:=by decide)
  (hs:swapsWith e (some (.Name x pos')) pos.line X.env=pure false:=by rfl) (hf:X.fn x=true∨X.env.scope.names.lookup x=some .local:=by first|exact .inl rfl|exact .inr rfl|assumption) :
  PS X (.Assign [.Name x pos'] e pos) (tDS X.K B oL own own (sSet i f)):=(ps_set hN hi hx he hs hf).imp fun D σ H ⟨G,ρ,o,S,eq,k⟩=>by
 unfold sSet at eq;cases ef:f ρ with
 | none=>rw[ef] at eq;cases eq
 | some d=>rw[ef] at eq;cases eq;exact⟨G,ρ,d,S.gh,S.envR,ef,fun v G' H' E r=>k _ G' H' ((S.ext E).setS ho r)⟩
noncomputable def sSetO (i:Nat) (f:DL):DG:=fun ρ=>(f ρ).map fun ds =>.nx (ρ.set i (some (.lst ds)))
theorem ds_setO {i:Nat}{x:Str}{f:DL}{pos':Pos}(hN:X.N.Nodup) (hi:X.N[i]?=some x) (hx:Loc X.env.scope x) (he:PE X e (tF X.K own f)) (ho:i∈own:=by decide) (hpin:∀ a,(i,a)∉B.3:=by intro a;simp_all)
  (hs:swapsWith e (some (.Name x pos')) pos.line X.env=pure false:=by rfl) (hf:X.fn x=true∨X.env.scope.names.lookup x=some .local:=by first|exact .inl rfl|exact .inr rfl|assumption) :
  PS X (.Assign [.Name x pos'] e pos) (tDS X.K B oL own own (sSetO i f)):=(ps_set hN hi hx he hs hf).imp fun D σ H ⟨G,ρ,o,S,eq,k⟩=>by
 unfold sSetO at eq;cases ef:f ρ with
 | none=>rw[ef] at eq;cases eq
 | some ds=>rw[ef] at eq;cases eq;exact⟨G,ρ,ds,S.gh,S.envR,ef,fun p vs G' H' E hp gp hv r=>k _ G' H' (S.setO ho E hp gp hv r hpin)⟩
noncomputable def sRet (f:DF):DG:=fun ρ=>(f ρ).map .rt
theorem ds_ret {f:DF}(he:PE X e (tP X.K own f)):PS X (.Return (some e) pos) (tDS X.K B oL own own1 (sRet f)):=(ps_ret he).imp fun D σ H ⟨G,ρ,o,S,eq,k⟩=>by
 unfold sRet at eq;cases ef:f ρ with
 | none=>rw[ef] at eq;cases eq
 | some d=>rw[ef] at eq;cases eq;exact⟨G,ρ,d,S.gh,S.envR,ef,fun v G' H' E r=>k v G' H' (S.toExt.trans E) r⟩
noncomputable def sRetF (f:DL):DG:=fun ρ=>(f ρ).map .ro
theorem ds_retF {f:DL}(he:PE X e (tF X.K own f)):PS X (.Return (some e) pos) (tDS X.K B oL own own1 (sRetF f)):=(ps_ret he).imp fun D σ H ⟨G,ρ,o,S,eq,k⟩=>by
 unfold sRetF at eq;cases ef:f ρ with
 | none=>rw[ef] at eq;cases eq
 | some d=>rw[ef] at eq;cases eq;exact⟨G,ρ,d,S.gh,S.envR,ef,fun p vs G' H' E hp gp hv r=>k p vs G' H' (S.toExt.trans E) (S.h0.free hp) gp hv r⟩
noncomputable def sRetO (i:Nat):DG:=fun ρ=>(eV i ρ).bind fun d=>match d with|.lst ds=>some (.ro ds)|_=>none
theorem ds_retO {i:Nat}{x:Str}{p:Pos}(h:PE X (.Name x p) (tVar i)) (hi:i∈own:=by decide):PS X (.Return (some (.Name x p)) pos) (tDS X.K B oL own own1 (sRetO i)):=(ps_ret h).imp fun D σ H ⟨G,ρ,o,S,eq,k⟩=>by
 unfold sRetO at eq;cases ef:eV i ρ with
 | none=>rw[ef] at eq;cases eq
 | some d=>
  rw[ef] at eq;obtain⟨a,o0,e2,e3,e4,e5,e6⟩:=S.ownd i d hi (eV_some ef);cases d<;>simp only[zA] at eq<;>try (cases eq;done)
  obtain⟨vs,rfl,e4⟩:=e4;cases eq;exact⟨_,e2,k a vs G H S.toExt e6 e5 e3 e4⟩
noncomputable def sIf (f:DT) (g h:DG):DG:=fun ρ=>(f ρ).bind fun b=>if b=true then g ρ else h ρ
theorem ds_if {c:Expr}{a b:List Stmt}{f:DT}(hc:PT X c (tPT X.K own f)) (ha:PSs X a (tDS X.K B oL own own1 g)) (hb:PSs X b (tDS X.K B oL own own1 h)):PS X (.If c a b pos) (tDS X.K B oL own own1 (sIf f g h)):=(ps_if hc ha hb).imp fun D σ H ⟨G,ρ,o,S,eq,k⟩=>by
 unfold sIf at eq;cases ef:f ρ with
 | none=>rw[ef] at eq;cases eq
 | some c=>
  rw[ef] at eq;refine⟨G,ρ,c,S.gh,S.envR,ef,fun G1 H1 E1 =>?_⟩
  cases c with
  | true=>exact iteT ⟨G1,ρ,o,S.ext E1,eq,k⟩
  | false=>exact iteF ⟨G1,ρ,o,S.ext E1,eq,k⟩
noncomputable def lstAt (i:Nat) (ρ:DEnv):Option (List D):=(eV i ρ).bind fun d=>match d with|.lst ds=>some ds|_=>none
theorem lstAt_some {i:Nat}{ρ:DEnv}{ds:List D}(h:lstAt i ρ=some ds):ρ[i]?=some (some (.lst ds)):=by
 unfold lstAt at h;cases ef:eV i ρ with
 | none=>rw[ef] at h;cases h
 | some d=>rw[ef] at h;have:=eV_some ef;cases d<;>first|(cases h;exact this)|cases h
theorem SR.ownL {K:Frag}{G H:Hp}{σ:St}{ρ:DEnv}{i:Nat}{ds:List D}(S:SR K B own G H σ ρ) (hi:i∈own) (h:ρ[i]?=some (some (.lst ds))):∃ a vs,σ[i]?=some (some (.ref a))∧H a=some (.lst vs)∧Reps K G ds vs∧G a=none∧B.2 a=none:=by
 obtain⟨a,o0,e2,e3,⟨vs,rfl,e4⟩,e5⟩:=S.ownd i _ hi h;exact⟨a,vs,e2,e3,e4,e5⟩
noncomputable def sApp (i:Nat) (f:DF):DG:=fun ρ=>(lstAt i ρ).bind fun ds=>(f ρ).bind fun d=>if ds.length<bigE then some (.nx (ρ.set i (some (.lst (ds++[d]))))) else none
theorem ds_app {i:Nat}{x:Str}{p apos cpos:Pos}{f:DF}(h:PE X (.Name x p) (tVar i)) (he:PE X e (tP X.K own f)) (hi:i∈own:=by decide)
  (hbase:attributeBase (.Name x p) "append" X.env (eval (.Name x p) X.env)=eval (.Name x p) X.env:=by rfl)
  (hfew:((backTo cpos (starEach (e::[]) X.env)).all (fun x=> !x.1)&&(backToKw cpos (keywordEach [] X.env)).all (fun x=>x.1.isSome)
   && decide ((e::[]).length+([]:List Keyword).length+(if ([]:List Keyword).isEmpty then 0 else 1)<30))=true:=by rfl)
  (hline:(apos.endLine==cpos.line)=true:=by rfl) (hs:starEach (e::[]) X.env=(false,eval e X.env)::starEach [] X.env:=by rfl) (hplain:(backTo cpos (starEach [] X.env)).any (·.1)=false:=by rfl)
  (hsw:swapsWith (.Call (.Attribute (.Name x p) "append" apos) [e] [] cpos) none pos.line X.env=pure false:=by rfl) :
  PS X (.Expr (.Call (.Attribute (.Name x p) "append" apos) [e] [] cpos) pos) (tDS X.K B oL own own (sApp i f)):=
 (ps_expr (pe_bm plainAttrs_list PySem.F.slot_list_append PySem.F.type_list_append mt_append h (pa_cons he pa_nil hs) hbase hfew hline hs hplain) hsw).imp fun D σ H ⟨G,ρ,o,S,eq,k⟩=>by
  unfold sApp at eq;cases el:lstAt i ρ with
  | none=>rw[el] at eq;cases eq
  | some ds=>
   rw[el] at eq;cases ef:f ρ with
   | none=>simp[ef] at eq
   | some d=>
    simp only[ef,zA] at eq
    split at eq
    ·cases eq;rename_i hz;have hd:=lstAt_some el;obtain⟨a,vs,e2,e3,e4,e5,e6⟩:=S.ownL hi hd;refine⟨_,e2,.inl ⟨rfl,vs,.of e3⟩,G,ρ,d,S.gh,S.envR,ef,fun v G' H' E r =>?_⟩
     have S':=S.ext E;obtain⟨a',vs',f2,f3,f4,_⟩:=S'.ownL hi hd;rw[e2] at f2;cases f2;refine⟨a,vs',v,rfl,rfl,f3,?_,k _ G' _ (S'.mut hi hd e2 (f4.append (.cons r .nil)))⟩;rw[← f4.length];exact zS hz bigE_le
    ·cases eq
theorem pop_of {K:Frag}{j:Nat}{ds:List D}{d:D}{σ:St}{H G:Hp}{ρ:DEnv}{Q:VK}(S:SR K B own G H σ ρ) (hj:j∈own) (hd:ρ[j]?=some (some (.lst ds))) (hl:ds[ds.length-1]?=some d)
  (k:∀ v H',SR K B own G H' σ (ρ.set j (some (.lst ds.dropLast)))→Rep K G d v→Q v H'):tBM0 K "list" rPop (tVar j) σ H Q:=by
 obtain⟨a,vs,e2,e3,e4,e5,e6⟩:=S.ownL hj hd;obtain⟨v,ev,rv⟩:=e4.get hl;rw[e4.length] at ev;exact⟨_,e2,.inl ⟨rfl,vs,.of e3⟩,a,vs,v,rfl,rfl,e3,ev,k v _ (S.mut hj hd e2 e4.dropLast) rv⟩
noncomputable def sItem (j:Nat) (fi fe:DF):DG:=fun ρ=>(fe ρ).bind fun d=>(lstAt j ρ).bind fun ds=>(fi ρ).bind fun k=>match k with|.int k=>(ixN ds.length k).map fun n =>.nx (ρ.set j (some (.lst (ds.set n d))))|_=>none
theorem ds_item {j:Nat}{x:Str}{p spos:Pos}{ei:Expr}{fi fe:DF}(h:PE X (.Name x p) (tVar j)) (hei:PE X ei (tQ X.K own fi)) (he:PE X e (tP X.K own fe)) (hj:j∈own:=by decide)
  (hg:∀ {to ti:TE},PE X (.Name x p) to→PE X ei ti→PG X (.Subscript (.Name x p) ei spos) (gSub to ti rSetL):=by intro to ti h1 h2;exact pg_sub h1 h2 set_list)
  (hs:swapsWithSole [.Subscript (.Name x p) ei spos] e pos.line X.env=pure false:=by rfl) (hw:swappedStores [.Subscript (.Name x p) ei spos] e X.env=pure none:=by rfl) :
  PS X (.Assign [.Subscript (.Name x p) ei spos] e pos) (tDS X.K B oL own own (sItem j fi fe)):=
 (ps_asg he (hg h hei) hs hw).imp fun D σ H ⟨G,ρ,o,S,eq,k⟩=>by
  unfold sItem at eq;cases ef:fe ρ with
  | none=>rw[ef] at eq;cases eq
  | some d=>
   rw[ef] at eq;cases el:lstAt j ρ with
   | none=>simp[el] at eq
   | some ds=>
    cases ei':fi ρ with
    | none=>simp[el,ei'] at eq
    | some kk=>
     simp only[el,ei',zA] at eq;cases kk<;>simp only at eq<;>try (cases eq;done)
     rename_i kk;cases en:ixN ds.length kk with
     | none=>simp[en] at eq
     | some n=>
      simp only[en,zT] at eq;cases eq;have hd:=lstAt_some el;refine⟨G,ρ,d,S.gh,S.envR,ef,fun v G' H' E r =>?_⟩
      have S':=S.ext E;obtain⟨a,vs,e2,e3,e4,e5,e6⟩:=S'.ownL hj hd;refine⟨_,e2,G',ρ,_,S'.gh,S'.envR,ei',fun u G2 H2 E2 r2 =>?_⟩
      have S2:=S'.ext E2;obtain⟨a',vs',f2,f3,f4,_⟩:=S2.ownL hj hd;rw[e2] at f2;cases f2;exact⟨a,vs',kk,n,rfl,r2.int,f3,by rw[← f4.length];exact en,k _ G2 _ (S2.mut hj hd e2 (f4.set n (Rep.mono E2.gg d r)))⟩
end
end L2
end
noncomputable section
namespace L2
open PySem PySem.Spec PyProof.Rows
noncomputable section
variable {X:Cx}{own:List Nat}{a b e:Expr}{fa fb f:DF}{pos:Pos}
theorem IxR.imp {r r':R2}(h:IxR X r) (k:∀ x y H Q,r' x y H Q→r x y H Q):IxR X r':=fun value slice pins s σ H x y v u Q I rx ry q hs=>h value slice pins s σ H x y v u Q I rx ry (k _ _ _ _ q) hs
theorem PO.imp {e:Option Expr}{t t':TO}(h:PO X e t) (k:∀ σ H Q,t' σ H Q→t σ H Q):PO X e t':=fun pins s σ H Q I q=>h pins s σ H Q I (k _ _ _ q)
theorem CallR.imp {c:Value}{r r':List V→Hp→VK→Prop}(h:CallR X c r) (k:∀ xs H Q,r' xs H Q→r xs H Q):CallR X c r':=fun pins s σ H xs us Q I rv q=>h pins s σ H xs us Q I rv (k _ _ _ q)
theorem Reps.atI {K:Frag}{G:Hp}{ds:List D}{vs:List V}{i:Int}{d:D}(r:Reps K G ds vs) (h:atI ds i=some d):∃ v,L2.atI vs i=some v∧Rep K G d v:=by
 unfold L2.atI at h ⊢;rw[← r.length];cases e:ixN ds.length i with
 | none=>rw[e] at h;cases h
 | some j=>rw[e] at h;exact r.get h
theorem atI_map {α β:Type}(g:α→β) (xs:List α) (i:Int):atI (xs.map g) i=(atI xs i).map g:=by
 unfold atI;rw[zH];cases ixN xs.length i with
 | none=>rfl
 | some j=>simp[zM]
noncomputable def oIx:D→D→Option D
 | .lst xs,.int i=>atI xs i
 | .tup xs,.int i=>atI xs i
 | .scr ns,.int i=>(atI ns i).map .int
 | .str x,.int i=>if x.length≤bigE then (atI x.cps.toList i).map fun c =>.str ⟨#[c]⟩ else none
 | _,_=>none
theorem xd_seq:IxR X (rD X.K oIx):=by
 refine IxR.imp ix_seq fun x y H Q ⟨G,d1,d2,d,gh,h1,h2,eq,q⟩ =>?_
 cases d1<;>cases d2<;>simp only[oIx] at eq<;>try (cases eq;done)
 ·split at eq
  ·rename_i z i hz;cases ei:atI z.cps.toList i with
   | none=>rw[ei] at eq;cases eq
   | some c=>rw[ei] at eq;cases eq;exact .inr (.inr ⟨z,i,c,h1.str,h2.int,yB hz bigE_le,ei,q _ G H (.refl gh) (rep_str.mpr rfl)⟩)
  ·cases eq
 ·obtain⟨p,vs,ea,qa,ra⟩:=h1.lst gh;obtain⟨v,ev,rv⟩:=ra.atI eq;exact .inl ⟨p,vs,_,v,ea,h2.int,.of qa,ev,q _ G H (.refl gh) rv⟩
 ·obtain⟨p,vs,ea,qa,ra⟩:=h1.tup gh;obtain⟨v,ev,rv⟩:=ra.atI eq;exact .inr (.inl ⟨p,vs,_,v,ea,h2.int,.of qa,ev,q _ G H (.refl gh) rv⟩)
 ·rename_i ns i;obtain⟨p,ea,qa⟩:=h1.scr gh;cases ei:atI ns i with
  | none=>rw[ei] at eq;cases eq
  | some c=>rw[ei] at eq;cases eq;exact .inl ⟨p,_,_,.int c,ea,h2.int,qa,by rw[atI_map,ei];rfl,q _ G H (.refl gh) (rep_int.mpr rfl)⟩
theorem de_ix (ha:PE X a (tQ X.K own fa)) (hb:PE X b (tQ X.K own fb)) (hs:PlainIx b:=by exact fun _ _=>rfl):PE X (.Subscript a b pos) (tP X.K own (e2 oIx fa fb)):=(pe_ix xd_seq ha hb hs).imp fun σ H Q h=>rd_of h
noncomputable abbrev DP:=DEnv→Option (Option Int)
noncomputable def pN:DP:=fun _=>some none
noncomputable def pS (f:DF):DP:=fun ρ=>(f ρ).bind fun d=>match d with|.int i=>some (some i)|_=>none
theorem pS_some {f:DF}{ρ:DEnv}{o:Option Int}(h:pS f ρ=some o):∃ i,f ρ=some (.int i)∧o=some i:=by
 unfold pS at h;cases e:f ρ with
 | none=>rw[e] at h;cases h
 | some d=>rw[e] at h;cases d<;>first|(cases h;exact⟨_,rfl,rfl⟩)|cases h
noncomputable def tPO (K:Frag) (own:List Nat) (f:DP):TO:=fun σ H Q=>∃ G ρ o,Same G H∧EnvR K own G H σ ρ∧f ρ=some o∧∀ G' H',Ext G H G' H'→Q o H'
theorem dpo_none:PO X none (tPO X.K own pN):=po_none.imp fun σ H Q ⟨G,ρ,o,gh,env,eq,k⟩=>by cases eq;exact k G H (.refl gh)
theorem dpo_some (h:PE X e (tQ X.K own f)):PO X (some e) (tPO X.K own (pS f)):=(po_some h).imp fun σ H Q ⟨G,ρ,o,gh,env,eq,k⟩=>by
 obtain⟨i,ei,rfl⟩:=pS_some eq;exact⟨G,ρ,_,gh,env,ei,fun v G1 H1 E1 r1=>⟨i,r1.int,k G1 H1 E1⟩⟩
noncomputable def cut {α:Type}(xs:List α) (lo hi:Option Int):List α:=(xs.drop (HT.sIx xs.length 0 lo)).take (HT.sIx xs.length xs.length hi-HT.sIx xs.length 0 lo)
theorem Reps.cut {K:Frag}{G:Hp}{ds:List D}{vs:List V}(r:Reps K G ds vs) (lo hi:Option Int):Reps K G (cut ds lo hi) (cutV vs lo hi):=by
 unfold L2.cut cutV;rw[← r.length];exact(r.drop _).take _
noncomputable def fSl (f:DF) (lo hi:DP):DL:=fun ρ=>(f ρ).bind fun d=>(lo ρ).bind fun l=>(hi ρ).bind fun h=>match d with|.lst xs=>some (cut xs l h)|.scr ns=>some ((cut ns l h).map D.int)|_=>none
variable {lo hi:Option Expr}{l h:DP}{p2:Pos}
theorem de_slL (he:PE X e (tQ X.K own f)) (hl:PO X lo (tPO X.K own l)) (hu:PO X hi (tPO X.K own h)):PE X (.Subscript e (.Slice lo hi none p2) pos) (tF X.K own (fSl f l h)):=(pe_slice sl_list he hl hu).imp fun σ H Q ⟨G,ρ,ds,gh,env,eq,k⟩=>by
 unfold fSl at eq;cases ef:f ρ with
 | none=>rw[ef] at eq;cases eq
 | some d=>
  cases el:l ρ with
  | none=>simp[ef,el] at eq
  | some lv=>
   cases eh:h ρ with
   | none=>simp[ef,el,eh] at eq
   | some hv=>
    simp only[ef,el,eh,zA] at eq;refine⟨G,ρ,d,gh,env,ef,fun v G1 H1 E1 r1=>⟨G1,ρ,lv,E1.gh,env.ext E1,el,fun G2 H2 E2=>⟨G2,ρ,hv,E2.gh,(env.ext E1).ext E2,eh,fun G3 H3 E3 =>?_⟩⟩⟩
    have E:=(E1.trans E2).trans E3;have r3:=r1.ext (E2.trans E3);cases d<;>simp only at eq<;>try (cases eq;done)
    ·cases eq;obtain⟨p,vs,ea,qa,ra⟩:=r3.lst E3.gh;exact⟨p,vs,ea,.of qa,fun q hq=>k q _ G3 _ (E.trans (Ext.lay (p:=q) E3.gh hq)) (E.hh.free hq) (E3.gh.free hq) upd_same (ra.cut _ _)⟩
    ·cases eq;rename_i ns;obtain⟨p,ea,qa⟩:=r3.scr E3.gh;refine⟨p,_,ea,qa,fun q hq=>k q _ G3 _ (E.trans (Ext.lay (p:=q) E3.gh hq)) (E.hh.free hq) (E3.gh.free hq) upd_same ?_⟩
     have:cutV (ns.map V.int) lv hv=(cut ns lv hv).map V.int:=by unfold cutV cut;rw[zH,← List.map_drop,← List.map_take]
     rw[this];exact Reps.ints _
theorem sl_str:SlR X (fun x lo hi H Q=>∃ z,x=.str z∧z.length≤sizeLine∧Q (.str (Txt.slice z lo hi)) H):=by
 intro pins s σ H x v vl vu lo hi sl Q I rx hs pl pu ⟨z,ez,hz,q⟩;subst ez;obtain⟨t,rfl⟩:=rx;refine⟨"str",_,F.slot_str_getitem.lookup,typeIs_str _ _ _,?_⟩;have fin:∀ (l u:Option (Int×Tok)),vl=partValue l→vu=partValue u→l.map (·.1)=lo→u.map (·.1)=hi→wpAny (model X.prog X.w) X.A (getItem (.str z t) (.ref sl)) (EP X pins σ Q) X.xe s:=fun l u e1 e2 e3 e4=>by subst e1 e2 e3 e4;exact wpAny_getItem_str_slice (l:=l) (u:=u) (st:=none) hs rfl (post_val_or_str ⟨yB (Txt.slice_le z _ _) hz,fun t' k=>⟨.str _,H,I.tok _,⟨_,rfl⟩,q⟩⟩)
 cases pl with
 | none=>
  cases pu with
  | none=>exact fin none none rfl rfl rfl rfl
  | int j u=>exact fin none (some (j,u)) rfl rfl rfl rfl
 | int i t1=>
  cases pu with
  | none=>exact fin (some (i,t1)) none rfl rfl rfl rfl
  | int j u=>exact fin (some (i,t1)) (some (j,u)) rfl rfl rfl rfl
noncomputable def eSlS (f:DF) (lo hi:DP):DF:=fun ρ=>(f ρ).bind fun d=>(lo ρ).bind fun l=>(hi ρ).bind fun h=>match d with|.str x=>if x.length≤bigE then some (.str (Txt.slice x l h)) else none|_=>none
theorem de_slS (he:PE X e (tQ X.K own f)) (hl:PO X lo (tPO X.K own l)) (hu:PO X hi (tPO X.K own h)):PE X (.Subscript e (.Slice lo hi none p2) pos) (tP X.K own (eSlS f l h)):=(pe_slice sl_str he hl hu).imp fun σ H Q ⟨G,ρ,ds,gh,env,eq,k⟩=>by
 unfold eSlS at eq;cases ef:f ρ with
 | none=>rw[ef] at eq;cases eq
 | some d=>
  cases el:l ρ with
  | none=>simp[ef,el] at eq
  | some lv=>
   cases eh:h ρ with
   | none=>simp[ef,el,eh] at eq
   | some hv=>
    simp only[ef,el,eh,zA] at eq;refine⟨G,ρ,d,gh,env,ef,fun v G1 H1 E1 r1=>⟨G1,ρ,lv,E1.gh,env.ext E1,el,fun G2 H2 E2=>⟨G2,ρ,hv,E2.gh,(env.ext E1).ext E2,eh,fun G3 H3 E3 =>?_⟩⟩⟩
    have E:=(E1.trans E2).trans E3;cases d<;>simp only at eq<;>try (cases eq;done)
    split at eq
    ·cases eq;rename_i hz;exact⟨_,r1.str,yB hz bigE_le,k _ G3 H3 E (rep_str.mpr rfl)⟩
    ·cases eq
noncomputable def eCall (o:List D→Option D) (g:DL):DF:=fun ρ=>(g ρ).bind o
theorem eCall_some {o:List D→Option D}{g:DL}{ρ:DEnv}{d:D}(h:eCall o g ρ=some d):∃ xs,g ρ=some xs∧o xs=some d:=by
 unfold eCall at h;cases ea:g ρ with
 | none=>rw[ea] at h;cases h
 | some x=>rw[ea] at h;exact⟨x,rfl,h⟩
noncomputable def rC (K:Frag) (o:List D→Option D):List V→Hp→VK→Prop:=fun xs H Q=>∃ G ds d,Same G H∧RepsO K G H ds xs∧o ds=some d∧∀ v G' H',Ext G H G' H'→Rep K G' d v→Q v H'
theorem rc_of {K:Frag}{o:List D→Option D}{g:DL}{σ:St}{H:Hp}{Q:VK}(h:tP K own (eCall o g) σ H Q):tCB (rC K o) (tQA K own g) σ H Q:=by
 obtain⟨G,ρ,d,gh,env,eq,k⟩:=h;obtain⟨xs,ex,eo⟩:=eCall_some eq;exact⟨G,ρ,xs,gh,env,ex,fun vs G1 H1 E1 r1=>⟨G1,xs,d,E1.gh,r1,eo,fun v G2 H2 E2 r2=>k v G2 H2 (E1.trans E2) r2⟩⟩
theorem RepsO.one {K:Frag}{G H:Hp}{d:D}{vs:List V}(r:RepsO K G H [d] vs):∃ v,vs=[v]∧RepO K G H d v:=by
 cases r with
 | cons r t=>cases t;exact⟨_,rfl,r⟩
noncomputable def oLen:List D→Option D
 | [.lst xs]=>some (.int xs.length)
 | [.tup xs]=>some (.int xs.length)
 | [.scr xs]=>some (.int xs.length)
 | [.str x]=>if x.length≤bigE then some (.int x.length) else none
 | _=>none
theorem cd_len:CallR X (.builtin "len") (rC X.K oLen):=by
 refine CallR.imp (call_len_seq.or call_len_str) fun vs H Q ⟨G,ds,d,gh,r,eq,q⟩ =>?_
 unfold oLen at eq
 split at eq
 ·cases eq;obtain⟨v,rfl,r1⟩:=r.one;obtain⟨p,us,rfl,qa,ra⟩:=r1.lst gh;refine .inl ⟨p,us,rfl,.inl (.of qa),?_⟩;rw[← ra.length];exact q _ G H (.refl gh) (rep_int.mpr rfl)
 ·cases eq;obtain⟨v,rfl,r1⟩:=r.one;obtain⟨p,us,rfl,qa,ra⟩:=r1.tup gh;refine .inl ⟨p,us,rfl,.inr (.of qa),?_⟩;rw[← ra.length];exact q _ G H (.refl gh) (rep_int.mpr rfl)
 ·cases eq;obtain⟨v,rfl,r1⟩:=r.one;obtain⟨p,rfl,qa⟩:=r1.scr gh;refine .inl ⟨p,_,rfl,.inl qa,?_⟩;rw[zH];exact q _ G H (.refl gh) (rep_int.mpr rfl)
 ·split at eq
  ·cases eq;rename_i hz;obtain⟨v,rfl,r1⟩:=r.one;exact .inr ⟨_,by rw[r1.str],yB hz bigE_le,q _ G H (.refl gh) (rep_int.mpr rfl)⟩
  ·cases eq
 ·cases eq
variable {p:Pos}{x:Str}{es:List Expr}{g:DL}
theorem de_callB {id:String}{o:List D→Option D}(hc:CallR X (.builtin id) (rC X.K o)) (hg:Gl X x) (hm:X.mg x=none) (hv:bootBuiltins x=some (.builtin id)) (ha:PA X (e::es) (tQA X.K own g)) (hn:x ≠ "__name__" :=by decide) (hdb:(x==("__debug__" : Str))=false:=by decide)
  (he:starEach (e::es) X.env=(false,eval e X.env)::starEach es X.env:=by rfl) (hpl:(backTo pos (starEach es X.env)).any (·.1)=false:=by rfl):PE X (.Call (.Name x p) (e::es) [] pos) (tP X.K own (eCall o g)):=
 (pe_callB hc hg hm hv ha hn hdb he hpl).imp fun σ H Q h=>rc_of h
theorem de_len (hg:Gl X "len") (hm:X.mg "len" = none) (h:PE X e (tQ X.K own f)) (hs:starEach (e::[]) X.env=(false,eval e X.env)::starEach [] X.env:=by rfl):PE X (.Call (.Name "len" p) [e] [] pos) (tP X.K own (eCall oLen (aC f aN))):=
 de_callB cd_len hg hm PySem.boot_len (dqa_cons h dqa_nil hs) (by decide) (by decide) hs rfl
noncomputable def isT (T:String):D→Bool
 | .non=>T == "NoneType"
 | .bl _=>T == "bool" || T == "int"
 | .int _=>T == "int"
 | .str _=>T == "str"
 | .lst _=>T == "list"
 | .scr _=>T == "list"
 | .tup _=>T == "tuple"
 | .ins _ _ _=>false
 | .dic _ _=>T == "dict"
noncomputable def kinds:List String:=["bool", "int", "str", "list", "tuple"]
noncomputable def eIs (T:String) (f:DF):DF:=fun ρ=>(f ρ).bind fun d=>match d with|.scr _=>none|.ins _ _ _=>none|.dic _ _=>none|d=>some (.bl (isT T d))
theorem kit_all:∀ T∈kinds,∀ (K:Frag),kitOne K (.type "NoneType") (.type T)=some (isT T .non)∧kitOne K (.type "bool") (.type T)=some (isT T (.bl true))∧kitOne K (.type "int") (.type T)=some (isT T (.int 0)) ∧
  kitOne K (.type "str") (.type T)=some (isT T (.str Str.empty))∧kitOne K (.type "list") (.type T)=some (isT T (.lst []))∧kitOne K (.type "tuple") (.type T)=some (isT T (.tup [])):=by
 intro T hT K;simp only[kinds,zG,List.not_mem_nil,or_false] at hT;rcases hT with rfl|rfl|rfl|rfl|rfl<;>exact⟨by kernel_rfl,by kernel_rfl,by kernel_rfl,by kernel_rfl,by kernel_rfl,by kernel_rfl⟩
theorem cd_isinst (T:String) (hT:T∈kinds):CallR X (.builtin "isinstance") (fun xs H Q=>∃ G d v,Same G H∧xs=[v,.ty T]∧RepO X.K G H d v∧(∀ ns,d ≠ .scr ns)∧(∀ c ks zs,d ≠ .ins c ks zs)∧(∀ ks zs,d ≠ .dic ks zs)∧Q (.bl (isT T d)) H):=by
 intro pins s σ H xs us Q I rv ⟨G,d,v,gh,e,r,hn,hni,hnd,q⟩;subst e;obtain⟨u,c,rfl,ru,rc⟩:=Vals.two rv;cases rc;obtain⟨k1,k2,k3,k4,k5,k6⟩:=kit_all T hT X.K;have fin:∀ tk,EP X pins σ Q (.bool (isT T d)) { s with toks:=tk }:=fun tk=>⟨.bl _,H,I.tok _,rfl,q⟩
 cases d with
 | non=>have:=r.non;subst this;exact isinst_ok I ru (.non) k1 fin
 | bl b=>have:=r.bl;subst this;exact isinst_ok I ru (.bl b) k2 fin
 | int i=>have:=r.int;subst this;exact isinst_ok I ru (.int i) k3 fin
 | str i=>have:=r.str;subst this;exact isinst_ok I ru (.str i) k4 fin
 | lst ds=>obtain⟨a,vs,rfl,qa,_⟩:=r.lst gh;exact isinst_ok I ru (.lst qa) k5 fin
 | tup ds=>obtain⟨a,vs,rfl,qa,_⟩:=r.tup gh;exact isinst_ok I ru (.tup qa) k6 fin
 | scr ns=>exact absurd rfl (hn ns)
 | ins c ks zs=>exact absurd rfl (hni c ks zs)
 | dic ks zs=>exact absurd rfl (hnd ks zs)
theorem de_isinst {T:String}{y:Str}{p':Pos}(hT:T∈kinds) (hg:Gl X "isinstance") (hm:X.mg "isinstance" = none) (hgT:Gl X y) (hmT:X.mg y=none) (hvT:bootBuiltins y=some (.type T)) (h:PE X e (tQ X.K own f)) (hnT:y ≠ "__name__" :=by decide) (hdT:(y==("__debug__" : Str))=false:=by decide)
  (hs:starEach (e::[.Name y p']) X.env=(false,eval e X.env)::starEach [.Name y p'] X.env:=by rfl) (hs2:starEach [.Name y p'] X.env=(false,eval (.Name y p') X.env)::starEach [] X.env:=by rfl) (hpl:(backTo pos (starEach [.Name y p'] X.env)).any (·.1)=false:=by rfl) :
  PE X (.Call (.Name "isinstance" p) [e,.Name y p'] [] pos) (tP X.K own (eIs T f)):=
 (pe_callB (cd_isinst T hT) hg hm PyProof.Rows.boot_isinstance (pa_cons h (pa_cons (pe_bltn (v :=.ty T) hgT hmT hvT rfl hnT hdT) pa_nil hs2) hs) (by decide) (by decide) hs hpl).imp fun σ H Q ⟨G,ρ,d,gh,env,eq,k⟩=>by
  unfold eIs at eq;cases ef:f ρ with
  | none=>rw[ef] at eq;cases eq
  | some c=>
   rw[ef] at eq;have hn:∀ ns,c ≠ .scr ns:=fun ns z=>by subst z;cases eq
   have hni:∀ c1 ks zs,c ≠ .ins c1 ks zs:=fun c1 ks zs z=>by subst z;cases eq
   have hnd:∀ ks zs,c ≠ .dic ks zs:=fun ks zs z=>by subst z;cases eq
   have ed:d=.bl (isT T c):=by cases c<;>first|(cases eq;rfl)|cases eq
   subst ed;exact⟨G,ρ,c,gh,env,ef,fun v G1 H1 E1 r1=>⟨G1,c,v,E1.gh,rfl,r1,hn,hni,hnd,k _ G1 H1 E1 (rep_bl.mpr rfl)⟩⟩
noncomputable def tTru (f:DF):DT:=fun ρ=>(f ρ).bind fun d=>match d with
 | .non=>some false
 | .bl b=>some b
 | .int i=>some (i != 0)
 | .str y=>if y.length≤bigE then some ((y.length:Int) != 0) else none
 | .lst xs=>some (!xs.isEmpty)
 | .tup xs=>some (!xs.isEmpty)
 | .scr xs=>some (!xs.isEmpty)
 | .ins _ _ _=>none
 | .dic _ _=>none
theorem Reps.empty {K:Frag}{G:Hp}{ds:List D}{vs:List V}(r:Reps K G ds vs):ds.isEmpty=vs.isEmpty:=by
 have:=r.length;cases ds<;>cases vs<;>simp at this ⊢
theorem dt_truth (h:PE X e (tQ X.K own f)) (he:∀ whole,isTrue e X.env whole=(do let v ← whole;standAt e.pos;holding [v] (truthy v)):=by intro _;rfl):PT X e (tPT X.K own (tTru f)):=(pt_truth h he).imp fun σ H Q ⟨G,ρ,b,gh,env,eq,k⟩=>by
 unfold tTru at eq;cases ef:f ρ with
 | none=>rw[ef] at eq;cases eq
 | some c=>
  rw[ef] at eq;refine⟨G,ρ,c,gh,env,ef,fun v G1 H1 E1 r1=>⟨b,?_,k G1 H1 E1⟩⟩
  cases c with
  | non=>cases eq;rw[r1.non];rfl
  | bl b=>cases eq;rw[r1.bl];rfl
  | int b=>cases eq;rw[r1.int];rfl
  | str y=>
   rw[r1.str];have eq:(if y.length≤bigE then some ((y.length:Int) != 0) else none)=some b:=eq
   split at eq
   ·cases eq;rename_i hz;exact⟨yB hz bigE_le,rfl⟩
   ·cases eq
  | lst xs=>cases eq;obtain⟨a,vs,rfl,qa,ra⟩:=r1.lst E1.gh;exact .inl ⟨vs,.of qa,by rw[ra.empty]⟩
  | tup xs=>cases eq;obtain⟨a,vs,rfl,qa,ra⟩:=r1.tup E1.gh;exact .inr (.inl ⟨vs,.of qa,by rw[ra.empty]⟩)
  | scr xs=>cases eq;obtain⟨a,rfl,qa⟩:=r1.scr E1.gh;exact .inl ⟨_,qa,by simp⟩
  | ins c ks zs=>cases eq
  | dic ks zs=>cases eq
end
end L2
end
noncomputable section
namespace L2
open PySem PySem.Spec PyProof.Rows
structure ItOk (K:Frag) (G0:Hp) (J:It) (ds:List D):Prop where
 go:∀ i H,Same G0 H→i<ds.length→J.go i H
 stop:∀ i H,Same G0 H→ds.length≤i→J.stop i H
 yld:∀ (i:Nat) (H:Hp) (x:V) (H' G:Hp) (d:D),Same G0 G→Same G H→J.yld i H x H'→ds[i]?=some d→∃ G',Ext G H G' H'∧Rep K G' d x
noncomputable def tPI (K:Frag) (own:List Nat) (f:DL):TI:=fun σ H R=>∃ G ρ ds,Same G H∧EnvR K own G H σ ρ∧f ρ=some ds∧∀ J G' H',Ext G H G' H'→ItOk K G' J ds→R J H'
noncomputable section
variable {X:Cx}{own:List Nat}{tg e:Expr}{f:DF}
theorem PI.imp {iter:Expr}{t t':TI}(h:PI X tg iter t) (k:∀ σ H R,t' σ H R→t σ H R):PI X tg iter t':=fun pins s σ H R I q=>h pins s σ H R I (k _ _ _ q)
noncomputable def iL (f:DF):DL:=fun ρ=>(f ρ).bind fun d=>match d with|.lst xs=>some xs|_=>none
theorem iL_some {f:DF}{ρ:DEnv}{ds:List D}(h:iL f ρ=some ds):f ρ=some (.lst ds):=by
 unfold iL at h;cases e:f ρ with
 | none=>rw[e] at h;cases h
 | some d=>rw[e] at h;cases d<;>first|(cases h;rfl)|cases h
theorem itok_list {K:Frag}{G:Hp}{a:Addr}{vs:List V}{ds:List D}(ha:G a=some (.lst vs)) (r:Reps K G ds vs):ItOk K G (Itl K a) ds:=by
 refine⟨fun i H s hi =>?_,fun i H s hi=>⟨vs,.of (s _ _ ha),by rw[← r.length];exact hi⟩,fun i H x H' G1 d s1 s2 ⟨e,y⟩ hd =>?_⟩
 ·have hi':i<vs.length:=by rw[← r.length];exact hi
  exact⟨vs,vs[i],.of (s _ _ ha),by simp[hi']⟩
 ·subst e;have hx:=y vs (.of (s2 _ _ (s1 _ _ ha)));obtain⟨v,ev,rv⟩:=r.get hd;rw[hx] at ev;cases ev;exact⟨G1,.refl s2,Rep.mono s1 d rv⟩
theorem di_list (h:PE X e (tP X.K own f)):PI X tg e (tPI X.K own (iL f)):=(pi_list h).imp fun σ H R ⟨G,ρ,ds,gh,env,eq,k⟩=>by
 refine⟨G,ρ,_,gh,env,iL_some eq,fun v G1 H1 E1 r1 =>?_⟩
 obtain⟨a,vs,rfl,ga,ra⟩:=rep_lst.mp r1;exact⟨a,rfl,⟨vs,.of (E1.gh _ _ ga)⟩,k _ G1 H1 E1 (itok_list ga ra)⟩
noncomputable def rngD (lo:Int) (n:Nat):List D:=(List.range n).map fun (k:Nat) =>.int (lo+(k:Int))
theorem itok_range {K:Frag}{G:Hp}(lo:Int) (n:Nat):ItOk K G (Itr lo n) (rngD lo n):=by
 have hl:(rngD lo n).length=n:=by simp[rngD]
 refine⟨fun i H s hi=>by rw[hl] at hi;exact hi,fun i H s hi=>by rw[hl] at hi;exact hi,fun i H x H' G1 d s1 s2 ⟨e,y⟩ hd =>?_⟩
 subst e;refine⟨G1,.refl s2,?_⟩;unfold rngD at hd;rw[zM] at hd;cases q:(List.range n)[i]? with
 | none=>rw[q] at hd;cases hd
 | some j=>
  rw[q] at hd;cases hd;have:j=i:=by obtain⟨h1,h2⟩:=zC.mp q;simpa using h2.symm
  subst this;exact rep_int.mpr y
noncomputable def iR1 (f:DF):DL:=fun ρ=>(f ρ).bind fun d=>match d with|.int j=>if -(2 ^ 62)≤j∧j<2 ^ 62 then some (rngD 0 j.toNat) else none|_=>none
theorem di_range1 {p pos:Pos}(hg:Gl X "range") (hm:X.mg "range" = none) (h:PE X e (tQ X.K own f)) (hs:starEach [e] X.env=(false,eval e X.env)::starEach [] X.env:=by rfl) (hs2:starEach [e] X.env=[(false,eval e X.env)]:=by rfl):PI X tg (.Call (.Name "range" p) [e] [] pos) (tPI X.K own (iR1 f)):=
 (pi_range1 hg hm (pa_cons h pa_nil hs) hs2).imp fun σ H R ⟨G,ρ,ds,gh,env,eq,k⟩=>by
  unfold iR1 at eq;cases ef:f ρ with
  | none=>rw[ef] at eq;cases eq
  | some d=>
   rw[ef] at eq;cases d<;>simp only[zA] at eq<;>try (cases eq;done)
   split at eq
   ·cases eq;rename_i j hj;exact⟨G,ρ,_,gh,env,ef,fun v G1 H1 E1 r1=>⟨j,by rw[r1.int],hj.1,hj.2,k _ G1 H1 E1 (itok_range 0 j.toNat)⟩⟩
   ·cases eq
noncomputable def iR2 (f g:DF):DL:=fun ρ=>(f ρ).bind fun d=>(g ρ).bind fun c=>match d,c with|.int i,.int j=>if -(2 ^ 62)≤i∧i<2 ^ 62 ∧ -(2 ^ 62)≤j∧j<2 ^ 62 then some (rngD i (j-i).toNat) else none|_,_=>none
end
noncomputable abbrev DTg:=D→DEnv→Option DEnv
noncomputable def tTG (K:Frag) (B:Bs) (own:List Nat) (τ:DTg):TG:=fun v σ H Q=>∃ G ρ d ρ',SR K B own G H σ ρ∧Rep K G d v∧τ d ρ=some ρ'∧∀ σ' G' H',SR K B own G' H' σ' ρ'→Q σ' H'
noncomputable def tTE (K:Frag) (own:List Nat) (τ:DTg):TG:=fun v σ H Q=>∃ G ρ d ρ',Same G H∧EnvR K own G H σ ρ∧Rep K G d v∧τ d ρ=some ρ'∧∀ σ' G' H',Ext G H G' H'→EnvR K own G' H' σ' ρ'→Q σ' H'
noncomputable section
variable {X:Cx}{B:Bs}{own:List Nat}
theorem PG.imp {tg:Expr}{t t':TG}(h:PG X tg t) (k:∀ v σ H Q,t' v σ H Q→t v σ H Q):PG X tg t':=fun pins s σ H v u Q I r q=>h pins s σ H v u Q I r (k _ _ _ _ q)
noncomputable def gN (i:Nat):DTg:=fun d ρ=>some (ρ.set i (some d))
theorem dg_name {i:Nat}{tg:Expr}(h:PG X tg (gName i)) (hi:i∉own:=by decide):PG X tg (tTG X.K B own (gN i)):=h.imp fun v σ H Q ⟨G,ρ,d,ρ',S,r,eq,k⟩=>by
 cases eq;exact k _ G H (S.setS hi r)
theorem EnvR.set {K:Frag}{G H:Hp}{σ:St}{ρ:DEnv}{i:Nat}{d:D}{v:V}(h:EnvR K own G H σ ρ) (hi:i∉own) (r:Rep K G d v):EnvR K own G H (σ.set i (some v)) (ρ.set i (some d)):=
 ⟨by simp[h.len],fun j c e=>by
  rcases set_get e with ⟨rfl,rfl,hl⟩|⟨hne,e⟩
  ·exact⟨v,get_set (by rw[h.len];exact hl),by rw[if_neg hi];exact r⟩
  ·obtain⟨u,e1,e2⟩:=h.get j c e;exact⟨u,by rw[zK hne];exact e1,e2⟩⟩
end
noncomputable def forD (τ:DTg) (g:DG):List D→DEnv→Option DO
 | [],ρ=>some (.nx ρ)
 | d::ds,ρ=>(τ d ρ).bind fun ρ1=>(g ρ1).bind fun o=>match o with
  | .nx ρ2=>forD τ g ds ρ2
  | .ct ρ2=>forD τ g ds ρ2
  | .bk ρ2=>some (.nx ρ2)
  | .rt d=>some (.rt d)
  | .ro d=>some (.ro d)
  | .rm d ρ=>some (.rm d ρ)
noncomputable def sFor (f:DL) (τ:DTg) (g:DG):DG:=fun ρ=>(f ρ).bind fun ds=>forD τ g ds ρ
noncomputable section
variable {K:Frag}{B:Bs}{own:List Nat}{G H G1 H1:Hp}{σ σ1:St}{ρ ρ1:DEnv}
theorem SR.rebase (S1:SR K B own G1 H1 σ1 ρ1) (S:SR K B own G H σ ρ) (s:Same G1 G):SR K ⟨G1,B.2,B.3⟩ own G H σ ρ:=
 ⟨S.gh,s,S.h0,fun b o e=>by
  rcases S.fr b o e with z|z
  ·exact .inl (S1.g0 b o z)
  ·exact .inr z,S.env,S.ownd,S.inj,S.len,S.pin⟩
theorem SR.unbase (S1:SR K B own G1 H1 σ1 ρ1) (S:SR K ⟨G1,B.2,B.3⟩ own G H σ ρ):SR K B own G H σ ρ:=
 ⟨S.gh,S1.g0.trans S.g0,S.h0,fun b o e=>by
  rcases S.fr b o e with z|z
  ·exact S1.fr b o z
  ·exact .inr z,S.env,S.ownd,S.inj,S.len,S.pin⟩
theorem SR.unbase' {o7:List Nat}(S1:SR K B own G1 H1 σ1 ρ1) (S:SR K ⟨G1,B.2,B.3⟩ o7 G H σ ρ):SR K B o7 G H σ ρ:=
 ⟨S.gh,S1.g0.trans S.g0,S.h0,fun b o e=>by
  rcases S.fr b o e with z|z
  ·exact S1.fr b o z
  ·exact .inr z,S.env,S.ownd,S.inj,S.len,S.pin⟩
theorem Ext.unbase (S1:SR K B own G1 H1 σ1 ρ1) (E:Ext G1 B.2 G H):Ext B.1 B.2 G H:=
 ⟨E.hh,S1.g0.trans E.gg,E.gh,fun b o e=>by
  rcases E.fr b o e with z|z
  ·exact S1.fr b o z
  ·exact .inr z⟩
end
noncomputable section
variable {X:Cx}{B:Bs}{oL own:List Nat}{tg iter:Expr}{f:DL}{τ:DTg}{g:DG}{body:List Stmt}{pos:Pos}
noncomputable def tMI (K:Frag) (B:Bs) (own:List Nat) (f:DEnv→Option (List D×DEnv)):TI:=fun σ H R=>∃ G ρ ds ρ',SR K B own G H σ ρ∧f ρ=some (ds,ρ')∧∀ J G' H',SR K B own G' H' σ ρ'→ItOk K G' J ds→R J H'
noncomputable def sForM (f:DEnv→Option (List D×DEnv)) (τ:DTg) (g:DG):DG:=fun ρ=>(f ρ).bind fun p=>forD τ g p.1 p.2
theorem ds_forM {f:DEnv→Option (List D×DEnv)}(hp:PassesOwn (model X.prog X.w) X.A X.env X.xe) (hc:X.calm=true) (hi:PI X tg iter (tMI X.K B own f)) (hg:∀ C:Bs,C.3=B.3→PG X tg (tTG X.K C own τ)) (hb:∀ C:Bs,C.3=B.3→PSs X body (tDS X.K C own own own g))
  (hs:∀ x,foldedSetIterable iter X.env x=pure x:=by intro _;rfl):PS X (.For tg iter body [] pos) (tDS X.K B oL own own (sForM f τ g)):=by
 intro pins s σ H D' I ⟨G,ρ,o,S,eq,k⟩;unfold sForM at eq;cases ef:f ρ with
 | none=>rw[ef] at eq;cases eq
 | some dρ=>
  obtain⟨ds,ρ0⟩:=dρ;rw[ef] at eq;have eq:forD τ g ds ρ0=some o:=eq;refine wpAny_For (thn (hi pins s σ H (fun J H1=>∃ G1,SR X.K B own G1 H1 σ ρ0∧ItOk X.K G1 J ds) I ⟨G,ρ,ds,ρ0,S,ef,fun J G1 H1 S1 ok=>⟨G1,S1,ok⟩⟩) fun v s1 h1=>thn h1 fun itv s2 h2 =>?_) hs
  obtain⟨it,fp,tn,J,H2,e,I2,T,st2,f2,G1,S1,ok⟩:=h2;subst e;have stat:∀ {H':Hp},(∀ b∈fp,H' b=none)→∀ b∈fp,FpOk X pins H' b:=fun hn b hb=>⟨hn b hb,(f2 b hb).2⟩
  have endN:∀ (ρ':DEnv) (σ':St) (H' G':Hp) (rest:List D),SR X.K ⟨G1,B.2,B.3⟩ own G' H' σ' ρ'→True:=fun _ _ _ _ _ _=>trivial
  refine codeAny_forLoop_any (fun n s'=>∃ i σ' H' G' ρ',Inv X pins σ' H' s'∧tn i s'.heap∧(∀ b∈fp,H' b=none)∧n=ds.length-i∧i≤ds.length∧SR X.K ⟨G1,B.2,B.3⟩ own G' H' σ' ρ'∧forD τ g (ds.drop i) ρ'=some o) ?_ ds.length
   ⟨0,σ,H2,G1,ρ0,I2,st2,fun b hb=>(f2 b hb).1,rfl,Nat.zero_le _,S1.rebase S1 (Same.refl _),eq⟩
  rintro n s3 ⟨i,σ3,H3,G3,ρ3,I3,st3,fr3,rfl,hil,S3,eq3⟩;have sub3:Same G1 H3:=S3.g0.trans S3.gh;by_cases hlt:i<ds.length
  ·have ed:ds.drop i=ds[i]::ds.drop (i+1):=List.drop_eq_getElem_cons hlt;rw[ed] at eq3;unfold forD at eq3;cases et:τ ds[i] ρ3 with
   | none=>rw[et] at eq3;cases eq3
   | some ρ4=>
    rw[et] at eq3;cases eg:g ρ4 with
    | none=>simp[eg] at eq3
    | some o4=>
     simp only[eg,zA] at eq3;refine wpAny_passesOwn hp (thn (T.item X rfl rfl rfl hc i pins s3 σ3 H3 X.xe I3 (stat fr3) st3 (ok.go i H3 sub3 hlt)) fun r s4 ⟨u,hr,h4⟩ =>?_)
     subst hr;refine wpAny_passesOwn hp (thn h4 fun _ s5 ⟨x,H5,I5,r5,y5,st5,fr5⟩ =>?_)
     have I5':=I5.pinned (stat fr5) (T.obj _ _ st5);obtain⟨G5,E5,rep5⟩:=ok.yld i H3 x H5 G3 ds[i] S3.g0 S3.gh y5 (zI hlt);refine wpAny_passesOwn hp (thn (hg ⟨G1,B.2,B.3⟩ rfl _ s5 σ3 H5 x u (fun σ6 H6=>∃ G6,SR X.K ⟨G1,B.2,B.3⟩ own G6 H6 σ6 ρ4) I5' r5 ⟨G5,ρ3,ds[i],ρ4,S3.ext E5,rep5,et,fun σ6 G6 H6 S6=>⟨G6,S6⟩⟩) fun _ s6 ⟨σ6,H6,I6,G6,S6⟩ =>?_)
     have again:∀ {σ7:St}{H7 G7:Hp}{ρ7:DEnv}{s7:Shared},Inv X (pins++pinsAt fp s5.heap) σ7 H7 s7→SR X.K ⟨G1,B.2,B.3⟩ own G7 H7 σ7 ρ7→forD τ g (ds.drop (i+1)) ρ7=some o →
       ∃ m,m<ds.length-i∧∃ i σ' H' G' ρ',Inv X pins σ' H' s7∧tn i s7.heap∧(∀ b∈fp,H' b=none)∧m=ds.length-i∧i≤ds.length∧SR X.K ⟨G1,B.2,B.3⟩ own G' H' σ' ρ'∧forD τ g (ds.drop i) ρ'=some o:=fun {σ7 H7 G7 ρ7 s7} I7 S7 e7=>by
      refine⟨ds.length-(i+1),by omega,i+1,σ7,H7,G7,ρ7,I7.unpinned,T.keep _ _ _ st5 fun b hb o e=>(I7.pin (b,o) (zQ _ (zQ _ (mem_pinsAt hb e)))).1,fun b hb =>?_,rfl,hlt,S7,e7⟩
      obtain⟨o,e,d⟩:=T.obj _ _ st5 b hb;exact(I7.pin (b,o) (zQ _ (zQ _ (mem_pinsAt hb e)))).2.1
     cases o4 with
     | nx ρ5=>
      refine wpAny_passesOwn hp (thn (hb ⟨G1,B.2,B.3⟩ rfl _ s6 σ6 H6 { nx:=fun σ7 H7=>∃ G7,SR X.K ⟨G1,B.2,B.3⟩ own G7 H7 σ7 ρ5,rt:=fun _ _=>False } I6 ⟨G6,ρ4,_,S6,eg,fun σ7 G7 H7 S7=>⟨G7,S7⟩⟩) fun fl s7 q7 =>?_)
      cases fl with
      | next=>obtain⟨σ7,H7,I7,G7,S7⟩:=q7;exact again I7 S7 eq3
      | cont=>obtain⟨_,_,_,z⟩:=q7;exact z.elim
      | brk=>obtain⟨_,_,_,z⟩:=q7;exact z.elim
      | ret v=>obtain⟨_,_,_,_,_,z⟩:=q7;exact z.elim
     | ct ρ5=>
      refine wpAny_passesOwn hp (thn (hb ⟨G1,B.2,B.3⟩ rfl _ s6 σ6 H6 { nx:=fun _ _=>False,ct:=fun σ7 H7=>∃ G7,SR X.K ⟨G1,B.2,B.3⟩ own G7 H7 σ7 ρ5,rt:=fun _ _=>False } I6 ⟨G6,ρ4,_,S6,eg,fun σ7 G7 H7 S7=>⟨G7,S7⟩⟩) fun fl s7 q7 =>?_)
      cases fl with
      | cont=>obtain⟨σ7,H7,I7,G7,S7⟩:=q7;exact again I7 S7 eq3
      | next=>obtain⟨_,_,_,z⟩:=q7;exact z.elim
      | brk=>obtain⟨_,_,_,z⟩:=q7;exact z.elim
      | ret v=>obtain⟨_,_,_,_,_,z⟩:=q7;exact z.elim
     | bk ρ5=>
      refine wpAny_passesOwn hp (thn (hb ⟨G1,B.2,B.3⟩ rfl _ s6 σ6 H6 { nx:=fun _ _=>False,bk:=fun σ7 H7=>∃ G7,SR X.K ⟨G1,B.2,B.3⟩ own G7 H7 σ7 ρ5,rt:=fun _ _=>False } I6 ⟨G6,ρ4,_,S6,eg,fun σ7 G7 H7 S7=>⟨G7,S7⟩⟩) fun fl s7 q7 =>?_)
      cases fl with
      | brk=>obtain⟨σ7,H7,I7,G7,S7⟩:=q7;cases eq3;exact⟨σ7,H7,I7.unpinned,k _ G7 H7 (S1.unbase S7)⟩
      | next=>obtain⟨_,_,_,z⟩:=q7;exact z.elim
      | cont=>obtain⟨_,_,_,z⟩:=q7;exact z.elim
      | ret v=>obtain⟨_,_,_,_,_,z⟩:=q7;exact z.elim
     | rt d=>
      cases eq3;refine wpAny_passesOwn hp (thn (hb ⟨G1,B.2,B.3⟩ rfl _ s6 σ6 H6 { nx:=fun _ _=>False,rt:=D'.rt } I6 ⟨G6,ρ4,_,S6,eg,fun v G7 H7 E7 r7=>k v G7 H7 (Ext.unbase S1 E7) r7⟩) fun fl s7 q7 =>?_)
      cases fl with
      | ret v=>obtain⟨x7,σ7,H7,I7,r7,q7⟩:=q7;exact⟨x7,σ7,H7,I7.unpinned,r7,q7⟩
      | next=>obtain⟨_,_,_,z⟩:=q7;exact z.elim
      | cont=>obtain⟨_,_,_,z⟩:=q7;exact z.elim
      | brk=>obtain⟨_,_,_,z⟩:=q7;exact z.elim
     | ro d=>
      cases eq3;refine wpAny_passesOwn hp (thn (hb ⟨G1,B.2,B.3⟩ rfl _ s6 σ6 H6 { nx:=fun _ _=>False,rt:=D'.rt } I6 ⟨G6,ρ4,_,S6,eg,fun a vs G7 H7 E7 h1 h2 h3 r7=>k a vs G7 H7 (Ext.unbase S1 E7) h1 h2 h3 r7⟩) fun fl s7 q7 =>?_)
      cases fl with
      | ret v=>obtain⟨x7,σ7,H7,I7,r7,q7⟩:=q7;exact⟨x7,σ7,H7,I7.unpinned,r7,q7⟩
      | next=>obtain⟨_,_,_,z⟩:=q7;exact z.elim
      | cont=>obtain⟨_,_,_,z⟩:=q7;exact z.elim
      | brk=>obtain⟨_,_,_,z⟩:=q7;exact z.elim
     | rm d ρ5=>
      cases eq3;refine wpAny_passesOwn hp (thn (hb ⟨G1,B.2,B.3⟩ rfl _ s6 σ6 H6 { nx:=fun _ _=>False,rt:=D'.rt } I6 ⟨G6,ρ4,_,S6,eg,fun v σ7 G7 H7 ⟨o7,S7⟩ r7=>k v σ7 G7 H7 ⟨o7,S1.unbase' S7⟩ r7⟩) fun fl s7 q7 =>?_)
      cases fl with
      | ret v=>obtain⟨x7,σ7,H7,I7,r7,q7⟩:=q7;exact⟨x7,σ7,H7,I7.unpinned,r7,q7⟩
      | next=>obtain⟨_,_,_,z⟩:=q7;exact z.elim
      | cont=>obtain⟨_,_,_,z⟩:=q7;exact z.elim
      | brk=>obtain⟨_,_,_,z⟩:=q7;exact z.elim
  ·have e:i=ds.length:=by omega
   subst e;rw[List.drop_length] at eq3;unfold forD at eq3;cases eq3;refine wpAny_passesOwn hp (thn (T.done X rfl rfl rfl hc _ pins s3 σ3 H3 X.xe I3 (stat fr3) st3 (ok.stop _ H3 sub3 (zL _))) fun r s4 ⟨hr,I4⟩ =>?_)
   subst hr;exact wpAny_execs_nil ⟨σ3,H3,I4,k σ3 G3 H3 (S1.unbase S3)⟩
theorem ds_for (hp:PassesOwn (model X.prog X.w) X.A X.env X.xe) (hc:X.calm=true) (hi:PI X tg iter (tPI X.K own f)) (hg:∀ C:Bs,C.3=B.3→PG X tg (tTG X.K C own τ)) (hb:∀ C:Bs,C.3=B.3→PSs X body (tDS X.K C own own own g))
  (hs:∀ x,foldedSetIterable iter X.env x=pure x:=by intro _;rfl):PS X (.For tg iter body [] pos) (tDS X.K B oL own own (sFor f τ g)):=by
 have e:sFor f τ g=sForM (fun ρ=>(f ρ).map fun ds=>(ds,ρ)) τ g:=funext fun ρ=>by
  show (f ρ).bind _=(Option.map (fun ds=>(ds,ρ)) (f ρ)).bind _
  cases f ρ<;>rfl
 rw[e];refine ds_forM hp hc (hi.imp fun σ H R ⟨G,ρ,ds,ρ',S,eq,k⟩ =>?_) hg hb hs
 have eq:Option.map (fun ds=>(ds,ρ)) (f ρ)=some (ds,ρ'):=eq
 cases ef:f ρ with
 | none=>rw[ef] at eq;cases eq
 | some xs=>rw[ef] at eq;cases eq;exact⟨G,ρ,ds,S.gh,S.envR,ef,fun J G1 H1 E ok=>k J G1 H1 (S.ext E) ok⟩
noncomputable def whileD (f:DT) (g:DG):Nat→DEnv→Option DO
 | 0,_=>none
 | n+1,ρ=>(f ρ).bind fun b=>if b=true then (g ρ).bind fun o=>match o with
   | .nx ρ2=>whileD f g n ρ2
   | .ct ρ2=>whileD f g n ρ2
   | .bk ρ2=>some (.nx ρ2)
   | .rt d=>some (.rt d)
   | .ro d=>some (.ro d)
   | .rm d ρ=>some (.rm d ρ) else some (.nx ρ)
noncomputable def sWhile (n:Nat) (f:DT) (g:DG):DG:=fun ρ=>whileD f g n ρ
theorem ds_while {c:Expr}{f:DT}(n:Nat) (hp:PassesOwn (model X.prog X.w) X.A X.env X.xe) (hc:PT X c (tPT X.K own f)) (hb:PSs X body (tDS X.K B own own own g)):PS X (.While c body [] pos) (tDS X.K B oL own own (sWhile n f g)):=(ps_while hp hc hb).imp fun D' σ H ⟨G,ρ,o,S,eq,k⟩=>by
 refine⟨fun m σ H=>∃ G ρ,SR X.K B own G H σ ρ∧whileD f g m ρ=some o,⟨n,G,ρ,S,eq⟩,?_⟩
 rintro m σ1 H1 ⟨G1,ρ1,S1,eq1⟩;cases m with
 | zero=>cases eq1
 | succ m=>
  unfold whileD at eq1;cases ef:f ρ1 with
  | none=>rw[ef] at eq1;cases eq1
  | some b=>
   rw[ef] at eq1;refine⟨G1,ρ1,b,S1.gh,S1.envR,ef,fun G2 H2 E2 =>?_⟩
   have S2:=S1.ext E2;cases b with
   | false=>cases eq1;exact iteF (k σ1 G2 H2 S2)
   | true=>
    refine iteT ⟨fun σ3 H3=>∃ G3 ρ3,SR X.K B own G3 H3 σ3 ρ3∧whileD f g m ρ3=some o,fun σ3 H3 q=>⟨m,Nat.lt_succ_self m,q⟩,?_⟩
    simp only[zA,if_true] at eq1;cases eg:g ρ1 with
    | none=>rw[eg] at eq1;cases eq1
    | some o1=>
     rw[eg] at eq1;refine⟨G2,ρ1,o1,S2,eg,?_⟩;cases o1 with
     | nx ρ2=>exact fun σ3 G3 H3 S3=>⟨G3,ρ2,S3,eq1⟩
     | ct ρ2=>exact fun σ3 G3 H3 S3=>⟨G3,ρ2,S3,eq1⟩
     | bk ρ2=>cases eq1;exact fun σ3 G3 H3 S3=>k σ3 G3 H3 S3
     | rt d=>cases eq1;exact k
     | ro d=>cases eq1;exact k
     | rm d ρ=>cases eq1;exact k
end
noncomputable def srcρ (src:List (Option Nat)) (ρ:DEnv):DEnv:=src.map fun o=>match o with|some j=>(ρ[j]?).getD none|none=>none
noncomputable def lcD (ρ:DEnv) (τ:DTg) (ft:DT) (fe:DF):List D→Option (List D)
 | []=>some []
 | d::ds=>(τ d ρ).bind fun ρ1=>(ft ρ1).bind fun b=>if b=true then (fe ρ1).bind fun x=>(lcD ρ τ ft fe ds).map (x :: ·) else lcD ρ τ ft fe ds
noncomputable def fLC (f:DL) (src:List (Option Nat)) (τ:DTg) (ft:DT) (fe:DF):DL:=fun ρ=>(f ρ).bind fun ds=>if ds.length≤bigE then lcD (srcρ src ρ) τ ft fe ds else none
noncomputable def tYes:DT:=fun _=>some true
noncomputable def ownSrc (own own':List Nat) (src:List (Option Nat)):Bool:=(List.range src.length).all fun i=>match src[i]? with|some (some j)=>decide (i∈own')==decide (j∈own)|_=>true
theorem ownSrc_get {own own':List Nat}{src:List (Option Nat)}(h:ownSrc own own' src=true){i j:Nat}(e:src[i]?=some (some j)):(i∈own'↔j∈own):=by
 unfold ownSrc at h;rw[List.all_eq_true] at h;have hi:i<src.length:=(zC.mp e).1;have:=h i (by simpa using hi)
 rw[e] at this;simpa using this
theorem EnvR.src {K:Frag}{own own':List Nat}{src:List (Option Nat)}{G H:Hp}{σ:St}{ρ:DEnv}(h:EnvR K own G H σ ρ) (ho:ownSrc own own' src=true):EnvR K own' G H (srcσ src σ) (srcρ src ρ):=by
 refine⟨by simp[srcσ,srcρ],fun i d e =>?_⟩
 unfold srcρ at e;rw[zM] at e;cases es:src[i]? with
 | none=>rw[es] at e;cases e
 | some o=>
  rw[es] at e;cases o with
  | none=>cases e
  | some j=>
   have e:(ρ[j]?).getD none=some d:=by simpa using e
   have ej:ρ[j]?=some (some d):=by
    cases q:ρ[j]? with
    | none=>rw[q] at e;cases e
    | some z=>rw[q] at e;rw[show z=some d from e]
   obtain⟨v,ev,rv⟩:=h.get j d ej;refine⟨v,?_,?_⟩
   ·unfold srcσ;rw[zM,es];simp[ev]
   ·have:=ownSrc_get ho es;by_cases hi:i∈own'
    ·rw[if_pos hi];rw[if_pos (this.mp hi)] at rv;exact rv
    ·rw[if_neg hi];rw[if_neg (fun z=>hi (this.mpr z))] at rv;exact rv
noncomputable section
variable {X:Cx}{own own' oS:List Nat}{N:List Str}{src:List (Option Nat)}{scope:Scope}{tg iter elt:Expr}{ifs:List Expr}{f:DL}{τ:DTg}{ft:DT}{fe:DF}{g:TG}{pos:Pos}
theorem PTs.imp {t t':TT}(h:PTs X ifs t) (k:∀ σ H Q,t' σ H Q→t σ H Q):PTs X ifs t':=fun pins s σ H Q I q=>h pins s σ H Q I (k _ _ _ q)
theorem dts_nil:PTs X [] (tPT X.K own tYes):=pts_nil.imp fun σ H Q ⟨G,ρ,b,gh,env,eq,k⟩=>by cases eq;exact k G H (.refl gh)
theorem lc_of {K:Frag}{σ:St}{H:Hp}{Q:VK}(ho:ownSrc own own' src=true) (hg:∀ v σ H Q,tTE K own' τ v σ H Q→g v σ H Q) (q:tF K own (fLC f src τ ft fe) σ H Q):tLc (tPI K own f) src g (tPT K own' ft) (tP K own' fe) σ H Q:=by
 obtain⟨G,ρ,rs,gh,env,eq,k⟩:=q;unfold fLC at eq;cases ef:f ρ with
 | none=>rw[ef] at eq;cases eq
 | some ds=>
  rw[ef] at eq;have eq:(if ds.length≤bigE then lcD (srcρ src ρ) τ ft fe ds else none)=some rs:=eq
  split at eq
  ·rename_i hz;refine⟨G,ρ,ds,gh,env,ef,fun J G1 H1 E1 ok =>?_⟩
   refine⟨fun i m ys H2=>m=ds.length-i∧i≤ds.length∧ys.length≤i∧∃ G2 xs rest,Ext G1 H1 G2 H2∧Reps K G2 xs ys∧lcD (srcρ src ρ) τ ft fe (ds.drop i)=some rest∧xs++rest=rs,
    ⟨ds.length,rfl,Nat.zero_le _,zL _,G1,[],rs,.refl E1.gh,.nil,eq,rfl⟩,?_⟩
   rintro i m ys H2 ⟨rfl,hil,hyl,G2,xs,rest,E2,rx,er,rfl⟩;have sub:Same G1 H2:=E2.gg.trans E2.gh;by_cases hlt:i<ds.length
   ·refine .inr ⟨ok.go i H2 sub hlt,?_,fun ys' H'=>ys'.length≤i+1∧∃ G3 xs' rest',Ext G1 H1 G3 H'∧Reps K G3 xs' ys'∧lcD (srcρ src ρ) τ ft fe (ds.drop (i+1))=some rest'∧xs'++rest'=xs++rest,
     fun ys' H' z=>⟨ds.length-(i+1),by omega,rfl,hlt,z⟩,fun x H3 y =>?_⟩
    ·have:=bigE_le;omega
    ·obtain⟨G3,E3,rep3⟩:=ok.yld i H2 x H3 G2 ds[i] E2.gg E2.gh y (zI hlt);rw[List.drop_eq_getElem_cons hlt] at er;unfold lcD at er;cases et:τ ds[i] (srcρ src ρ) with
     | none=>rw[et] at er;cases er
     | some ρ4=>
      rw[et] at er;cases eb:ft ρ4 with
      | none=>simp[eb] at er
      | some b=>
       simp only[eb,zA] at er;have E13:=E1.trans (E2.trans E3);refine hg _ _ _ _ ⟨G3,srcρ src ρ,ds[i],ρ4,E3.gh,(env.ext E13).src ho,rep3,et,fun σ4 G4 H4 E4 env4=>⟨G4,ρ4,b,E4.gh,env4,eb,fun G5 H5 E5 =>?_⟩⟩
       have E15:=(E2.trans E3).trans (E4.trans E5);cases b with
       | false=>exact iteF ⟨by omega,G5,xs,rest,E15,Reps.mono ((E3.trans (E4.trans E5)).gg) xs rx,er,rfl⟩
       | true=>
        refine iteT ?_;simp only[if_true] at er;cases ee:fe ρ4 with
        | none=>rw[ee] at er;cases er
        | some x4=>
         rw[ee] at er;cases el:lcD (srcρ src ρ) τ ft fe (ds.drop (i+1)) with
         | none=>simp[el] at er
         | some rest'=>simp only[el,zA,zT] at er;cases er;refine⟨G5,ρ4,x4,E5.gh,env4.ext E5,ee,fun v G6 H6 E6 r6=>⟨by simp;omega,G6,xs++[x4],rest',E15.trans E6,(Reps.mono ((E3.trans ((E4.trans E5).trans E6)).gg) xs rx).append (.cons r6 .nil),rfl,by simp⟩⟩
   ·have e:i=ds.length:=by omega
    subst e;rw[List.drop_length] at er;unfold lcD at er;cases er;refine .inl ⟨ok.stop _ H2 sub (zL _),fun p hp =>?_⟩
    have E12:=E1.trans E2;refine k p ys G2 _ (E12.trans (Ext.lay (p:=p) E2.gh hp)) (E12.hh.free hp) (E2.gh.free hp) upd_same ?_;rw[List.append_nil];exact rx
  ·cases eq
theorem de_lc (S:BlkScope X N src scope) (hc:X.calm=true) (hi:PI X tg iter (tPI X.K own f)) (ag:GAg oS g) (hos:∀ i∈oS,src[i]?=some none) (hg:∀ v σ H Q,tTE X.K own' τ v σ H Q→g v σ H Q)
  (hb:∀ C s H ex,PG (X.blk N scope C s H ex) tg g∧PTs (X.blk N scope C s H ex) ifs (tPT X.K own' ft)∧PE (X.blk N scope C s H ex) elt (tP X.K own' fe)) (ho:ownSrc own own' src=true:=by decide)
  (hs:∀ x,foldedSetIterable iter X.env x=pure x:=by intro _;rfl):PE X (.ListComp elt [⟨tg,iter,ifs,0⟩] scope pos) (tF X.K own (fLC f src τ ft fe)):=
 (pe_lc S hc hi ag hos hb hs).imp fun σ H Q q=>lc_of ho hg q
theorem ds_lcsetO {B:Bs}{oL:List Nat}{i:Nat}{y:Str}{spos py:Pos}(S:BlkScope X N src scope) (hc:X.calm=true) (hN:X.N.Nodup) (hy:X.N[i]?=some y) (hl:X.env.scope.names.lookup y=some .local) (hi:PI X tg iter (tPI X.K own f)) (ag:GAg oS g) (hos:∀ i∈oS,src[i]?=some none)
  (hg:∀ v σ H Q,tTE X.K own' τ v σ H Q→g v σ H Q) (hb:∀ C s H ex,PG (X.blk N scope C s H ex) tg g∧PTs (X.blk N scope C s H ex) ifs (tPT X.K own' ft)∧PE (X.blk N scope C s H ex) elt (tP X.K own' fe)) (ho:ownSrc own own' src=true:=by decide) (hio:i∈own:=by decide) (hpin:∀ a,(i,a)∉B.3:=by intro a;simp_all)
  (hsw:swapsWith (.ListComp elt [⟨tg,iter,ifs,0⟩] scope pos) (some (.Name y py)) spos.line X.env=pure true:=by rfl)
  (hs:∀ x,foldedSetIterable iter X.env x=pure x:=by intro _;rfl):PS X (.Assign [.Name y py] (.ListComp elt [⟨tg,iter,ifs,0⟩] scope pos) spos) (tDS X.K B oL own own (sSetO i (fLC f src τ ft fe))):=
 (ps_lcset S hc hN hy hl hi ag hos hb hsw hs).imp fun D' σ H ⟨G,ρ,o,S,eq,k⟩=>lc_of ho hg (by
  unfold sSetO at eq;cases ef:fLC f src τ ft fe ρ with
  | none=>rw[ef] at eq;cases eq
  | some ds=>rw[ef] at eq;cases eq;exact⟨G,ρ,ds,S.gh,S.envR,ef,fun p vs G' H' E hp gp hv r=>k _ G' H' (S.setO hio E hp gp hv r hpin)⟩)
theorem ds_lcset {B:Bs}{oL:List Nat}{i:Nat}{y:Str}{spos py:Pos}(S:BlkScope X N src scope) (hc:X.calm=true) (hN:X.N.Nodup) (hy:X.N[i]?=some y) (hl:X.env.scope.names.lookup y=some .local) (hi:PI X tg iter (tPI X.K own f)) (ag:GAg oS g) (hos:∀ i∈oS,src[i]?=some none)
  (hg:∀ v σ H Q,tTE X.K own' τ v σ H Q→g v σ H Q) (hb:∀ C s H ex,PG (X.blk N scope C s H ex) tg g∧PTs (X.blk N scope C s H ex) ifs (tPT X.K own' ft)∧PE (X.blk N scope C s H ex) elt (tP X.K own' fe)) (ho:ownSrc own own' src=true:=by decide) (hio:i∉own:=by decide)
  (hsw:swapsWith (.ListComp elt [⟨tg,iter,ifs,0⟩] scope pos) (some (.Name y py)) spos.line X.env=pure true:=by rfl)
  (hs:∀ x,foldedSetIterable iter X.env x=pure x:=by intro _;rfl):PS X (.Assign [.Name y py] (.ListComp elt [⟨tg,iter,ifs,0⟩] scope pos) spos) (tDS X.K B oL own own (sSet i (eF (fLC f src τ ft fe)))):=
 (ps_lcset S hc hN hy hl hi ag hos hb hsw hs).imp fun D' σ H ⟨G,ρ,o,S,eq,k⟩=>lc_of ho hg (by
  unfold sSet eF at eq;cases ef:fLC f src τ ft fe ρ with
  | none=>rw[ef] at eq;cases eq
  | some ds=>
   rw[ef] at eq;cases eq;refine⟨G,ρ,ds,S.gh,S.envR,ef,fun p vs G' H' E hp gp hv r=>k _ (upd G' p (.lst vs)) H' ((S.ext (E.freeze hp gp hv)).setS hio ?_)⟩
   exact rep_lst.mpr ⟨p,vs,rfl,upd_same,Reps.mono (.alloc gp) ds r⟩)
end
end L2
end
noncomputable section
namespace L2
open PySem PySem.Spec PyProof.Rows
noncomputable def spF (K:Frag) (F:List D→Option D):Sp:=fun vs H Q _=>∃ G ds d,Same G H∧Reps K G ds vs∧F ds=some d∧∀ v G' H',Ext G H G' H'→Rep K G' d v→Q v H'
noncomputable def spO (K:Frag) (F:List D→Option (List D)):Sp:=fun vs H Q _=>∃ G ds rs,Same G H∧Reps K G ds vs∧F ds=some rs∧∀ a us G' H',Ext G H G' H'→H a=none→G' a=none→H' a=some (.lst us)→Reps K G' rs us→Q (.ref a) H'
noncomputable def startD (N:Nat) (ds:List D):DEnv:=ds.map some++List.replicate (N-ds.length) none
noncomputable def outD:DO→Option D
 | .rt d=>some d
 | .ro ds=>some (.lst ds)
 | .nx _=>some .non
 | _=>none
noncomputable def outO:DO→Option (List D)
 | .ro ds=>some ds
 | _=>none
noncomputable def runD (n N:Nat) (g:DG) (ds:List D):Option D:=if ds.length=n then (g (startD N ds)).bind outD else none
noncomputable def runO (n N:Nat) (g:DG) (ds:List D):Option (List D):=if ds.length=n then (g (startD N ds)).bind outO else none
theorem start_get {N:Nat}{ds:List D}{i:Nat}{d:D}(h:(startD N ds)[i]?=some (some d)):ds[i]?=some d:=by
 unfold startD at h;by_cases hi:i<ds.length
 ·rw[yD (by simpa using hi),zM] at h
  cases e:ds[i]? with
  | none=>rw[e] at h;cases h
  | some a=>rw[e] at h;cases h;rfl
 ·rw[List.getElem?_append_right (by simpa using hi),List.getElem?_replicate] at h
  split at h<;>cases h
theorem start_SR {K:Frag}{G H:Hp}{own:List Nat}{N:List Str}{ds:List D}{vs:List V}(s:Same G H) (r:Reps K G ds vs) (ho:∀ i∈own,ds.length≤i):SR K ⟨G,H,[]⟩ own G H (start N vs) (startD N.length ds):=by
 refine⟨s,Same.refl _,Same.refl _,fun b o e =>.inl e,fun i d hi e =>?_,fun i d hi e =>?_,fun i j a hi hj di dj =>?_,by simp[start,startD,r.length],fun i a h=>by cases h⟩
 ·obtain⟨v,ev,rv⟩:=r.get (start_get e);refine⟨v,?_,rv⟩;have hi:i<vs.length:=(zC.mp ev).1;unfold start;rw[yD (by simpa using hi),zM,ev];rfl
 ·have:=(zC.mp (start_get e)).1;have:=ho i hi;omega
 ·obtain⟨d,e⟩:=di;have:=(zC.mp (start_get e)).1;have:=ho i hi;omega
noncomputable section
variable {P:Program}{w:World}{K:Frag}{mg:Str→Option Value}{base:Heap}
theorem Fun.okD {x qual:Str}{st:Stmt}{f:Addr}{fd:FuncData}{N ps:List Str}{k:Nat}(F:Fun K x qual st f fd) (S:FnScope N ps (defScope st)) {own own':List Nat}{g:DG}(hown:∀ i∈own,ps.length≤i)
  (hb:∀ (cdv:Value) (A:Around) (outer:List Env) (s:Shared) (H:Hp) (E:XK),Room k (A.deeper (envOfC qual (defScope st) s.heap.objs.size f cdv))→∀ B:Bs,B.3=[] →
   PSs (cxOf CX0 P w K mg base N qual (defScope st) f cdv A outer s H E).nox (defBody st) (tDS K B [] own own' g)):FnOk P w K mg base CX0 (k+1) f fd ps (spF K (runD ps.length N.length g)):=by
 refine F.ok S (fun vs H Q E h =>?_) (fun cdv A outer s H vs Q E hr h =>?_)
 ·obtain⟨G,ds,d,gh,r,eq,_⟩:=h;unfold runD at eq
  split at eq
  ·rw[← r.length];assumption
  ·cases eq
 ·obtain⟨G,ds,d,gh,r,eq,q⟩:=h;unfold runD at eq
  split at eq
  ·rename_i hl;refine⟨_,hb cdv A outer s H E hr ⟨G,H,[]⟩ rfl,?_⟩;cases eg:g (startD N.length ds) with
   | none=>rw[eg] at eq;cases eq
   | some o=>
    rw[eg] at eq;refine⟨G,_,o,start_SR gh r (by rw[hl];exact hown),eg,?_⟩
    cases o with
    | rt d'=>cases eq;exact fun v G' H' E r=>q v G' H' E r
    | ro rs=>cases eq;exact fun a us G' H' E h1 h2 h3 r=>q _ (upd G' a (.lst us)) H' (E.freeze h1 h2 h3) (rep_lst.mpr ⟨a,us,rfl,upd_same,Reps.mono (.alloc h2) rs r⟩)
    | nx ρ=>cases eq;exact fun σ G' H' S=>q _ G' H' S.toExt (rep_non.mpr rfl)
    | bk ρ=>cases eq
    | ct ρ=>cases eq
    | rm d ρ=>cases eq
  ·cases eq
theorem Fun.okO {x qual:Str}{st:Stmt}{f:Addr}{fd:FuncData}{N ps:List Str}{k:Nat}(F:Fun K x qual st f fd) (S:FnScope N ps (defScope st)) {own own':List Nat}{g:DG}(hown:∀ i∈own,ps.length≤i)
  (hb:∀ (cdv:Value) (A:Around) (outer:List Env) (s:Shared) (H:Hp) (E:XK),Room k (A.deeper (envOfC qual (defScope st) s.heap.objs.size f cdv))→∀ B:Bs,B.3=[] →
   PSs (cxOf CX0 P w K mg base N qual (defScope st) f cdv A outer s H E).nox (defBody st) (tDS K B [] own own' g)):FnOk P w K mg base CX0 (k+1) f fd ps (spO K (runO ps.length N.length g)):=by
 refine F.ok S (fun vs H Q E h =>?_) (fun cdv A outer s H vs Q E hr h =>?_)
 ·obtain⟨G,ds,d,gh,r,eq,_⟩:=h;unfold runO at eq
  split at eq
  ·rw[← r.length];assumption
  ·cases eq
 ·obtain⟨G,ds,d,gh,r,eq,q⟩:=h;unfold runO at eq
  split at eq
  ·rename_i hl;refine⟨_,hb cdv A outer s H E hr ⟨G,H,[]⟩ rfl,?_⟩;cases eg:g (startD N.length ds) with
   | none=>rw[eg] at eq;cases eq
   | some o=>
    rw[eg] at eq;refine⟨G,_,o,start_SR gh r (by rw[hl];exact hown),eg,?_⟩
    cases o with
    | ro rs=>cases eq;exact fun a us G' H' E h1 h2 h3 r=>q a us G' H' E h1 h2 h3 r
    | rt d'=>cases eq
    | nx ρ=>cases eq
    | bk ρ=>cases eq
    | ct ρ=>cases eq
    | rm d ρ=>cases eq
  ·cases eq
structure Ok1 (P:Program) (w:World) (K:Frag) (mg:Str→Option Value) (base:Heap) (x:Str) (k:Nat) (sp:Sp):Prop where
 ex:∃ f fd ps,FnOk P w K mg base CX0 k f fd ps sp∧mg x=some (.ref f)∧keepIn K (.ref f)=true∧Binds K fd ps []
theorem Ok1.mono {x:Str}{j k:Nat}{sp:Sp}(h:Ok1 P w K mg base x j sp) (hk:j≤k):Ok1 P w K mg base x k sp:=by
 obtain⟨f,fd,ps,h1,h2⟩:=h.ex;exact⟨f,fd,ps,h1.mono hk,h2⟩
end
noncomputable section
variable {X:Cx}{own:List Nat}{x:Str}{p pos:Pos}{e:Expr}{es:List Expr}{g:DL}{k:Nat}
theorem de_call {F:List D→Option D}(h:Ok1 X.prog X.w X.K X.mg X.base x k (spF X.K F)) (hr:Room k X.A) (hg:Gl X x) (ha:PA X (e::es) (tPA X.K own g)) (hdb:(x==("__debug__" : Str))=false:=by decide)
  (he:starEach (e::es) X.env=(false,eval e X.env)::starEach es X.env:=by rfl) (hpl:(backTo pos (starEach es X.env)).any (·.1)=false:=by rfl):PE X (.Call (.Name x p) (e::es) [] pos) (tP X.K own (eCall F g)):=by
 obtain⟨f,fd,ps,h1,hm,hk,hb⟩:=h.ex;refine(pe_call h1 hr hg hm hk hb .nil pass0 ha hdb he hpl).imp fun σ H Q ⟨G,ρ,d,gh,env,eq,q⟩ =>?_
 obtain⟨xs,ex,eo⟩:=eCall_some eq;exact⟨G,ρ,xs,gh,env,ex,fun vs G1 H1 E1 r1=>by show spF X.K F (vs++[]) H1 Q E0;rw[List.append_nil];exact⟨G1,xs,d,E1.gh,r1,eo,fun v G2 H2 E2 r2=>q v G2 H2 (E1.trans E2) r2⟩⟩
noncomputable def fCall (F:List D→Option (List D)) (g:DL):DL:=fun ρ=>(g ρ).bind F
theorem de_callO {F:List D→Option (List D)}(h:Ok1 X.prog X.w X.K X.mg X.base x k (spO X.K F)) (hr:Room k X.A) (hg:Gl X x) (ha:PA X (e::es) (tPA X.K own g)) (hdb:(x==("__debug__" : Str))=false:=by decide)
  (he:starEach (e::es) X.env=(false,eval e X.env)::starEach es X.env:=by rfl) (hpl:(backTo pos (starEach es X.env)).any (·.1)=false:=by rfl):PE X (.Call (.Name x p) (e::es) [] pos) (tF X.K own (fCall F g)):=by
 obtain⟨f,fd,ps,h1,hm,hk,hb⟩:=h.ex;refine(pe_call h1 hr hg hm hk hb .nil pass0 ha hdb he hpl).imp fun σ H Q ⟨G,ρ,ds,gh,env,eq,q⟩ =>?_
 unfold fCall at eq;cases ex:g ρ with
 | none=>rw[ex] at eq;cases eq
 | some xs=>rw[ex] at eq;exact⟨G,ρ,xs,gh,env,ex,fun vs G1 H1 E1 r1=>by show spO X.K F (vs++[]) H1 Q E0;rw[List.append_nil];exact⟨G1,xs,ds,E1.gh,r1,eq,fun a us G2 H2 E2 h1 h2 h3 r2=>q a us G2 H2 (E1.trans E2) (E1.hh.free h1) h2 h3 r2⟩⟩
noncomputable def scalD:D→Bool
 | .non=>true|.bl _=>true|.int _=>true|.str _=>true|_=>false
theorem scal_rep {K:Frag}{G G':Hp}{d:D}{v:V}(h:scalD d=true) (r:Rep K G d v):Rep K G' d v:=by
 cases d<;>first|(simp[scalD] at h;done)|(simpa only [Rep] using r)
theorem RepsO.all {K:Frag}{G H:Hp}(s:Same G H):∀ {ds:List D}{vs:List V},RepsO K G H ds vs→Reps K H ds vs
 | _,_,.nil =>.nil
 | _,_,.cons r t =>.cons (r.all s) (RepsO.all s t)
end
theorem law_sp {F:List D→Option D}{m:Nat}(hF:∀ ns:List Int,ns.length≤m→F [.scr ns]=some (.bl true)) (K:Frag) (H:Hp) (a:Addr) (ns:List Int) (hl:ns.length≤m) (hO:Only H) (hS:SqL K H a (ns.map V.int)) :
  spF K F [.ref a] H (fun v _=>v=.bl true) fun _ _ _=>False:=
 ⟨H,[.scr ns],.bl true,Same.refl _,.cons (rep_scr.mpr ⟨a,rfl,hS⟩) .nil,hF ns hl,fun v G' H' E r=>rep_bl.mp r⟩
end L2
end
noncomputable section
namespace L2
open PySem PySem.Spec PyProof.Rows
noncomputable section
variable {X:Cx}{own:List Nat}{e:Expr}{f:DF}
noncomputable def enumD (xs:List D):List D:=xs.zipIdx.map fun p =>.tup [.int (p.2:Nat),p.1]
noncomputable def iE (f:DF):DL:=fun ρ=>(iL f ρ).map enumD
noncomputable def Its (x:Str):It:=⟨fun i _=>i<x.cps.size,fun i H v H'=>H'=H∧∃ c,x.cps[i]?=some c∧v=.str ⟨#[c]⟩,fun i _=>x.cps.size≤i⟩
theorem turn_str {P:Program}{w:World}{K:Frag}{tg:Expr}(x:Str) (t:Tok) (it:Addr):Turn P w K tg (Its x) [it] it (fun i h=>h.IsStrIter it "str_ascii_iterator" x t i) where
 mem:=by simp
 obj:=fun i h st b hb=>by
  have e:b=it:=by simpa using hb
  subst e;obtain⟨o,e,c,d⟩:=st;exact⟨o,e,fun v z=>by rw[d] at z;cases z⟩
 keep:=fun i h h' st k=>by obtain⟨o,e,c,d⟩:=st;exact⟨o,k it (by simp) o e,c,d⟩
 item:=by
  intro X hP hw hK hc i pins s σ H E I hf st hg;subst hP hw hK;obtain⟨f0,f1,f2,f3,f4,f5⟩:=hf it (by simp)
  have hg:i<x.cps.size:=hg;refine wpAny_pyNext_ascii_item st (c:=x.cps[i]) (by simp[hg]) fun h' st' sb =>?_
  have I1:Inv X pins σ H { s with heap:=h',toks:=s.toks+1 }:=I.turned (fun b o hb e=>(sb.2 b hb).trans e) f0 f1 f3 f4 f5
  obtain⟨o,e,c,d⟩:=id st';exact⟨_,rfl,go_of (s:={ s with heap:=h',toks:=s.toks+1 }) e c d (by decide) ⟨.str ⟨#[x.cps[i]]⟩,H,I1,⟨_,rfl⟩,⟨rfl,_,by simp[hg],rfl⟩,st',fun b hb=>(hf b hb).1⟩⟩
 done:=by
  intro X hP hw hK hc i pins s σ H E I hf st hg;subst hP hw hK;obtain⟨f0,f1,f2,f3,f4,f5⟩:=hf it (by simp)
  have hg:x.cps.size≤i:=hg;exact wpAny_pyNext_ascii_end (I.ok.hd hc) st (by simp[hg]) fun h' eb=>⟨rfl,I.turned (t':=s.toks) (fun b o hb e=>eb b o hb e) f0 f1 f3 f4 f5⟩
 self:=fun _ _ _ _ _ st h=>wpAny_pyIter_striter_ascii st h
noncomputable def iStrT (tl:TE):TI:=fun σ H R=>tl σ H fun v H1=>∃ x,v=.str x∧x.cps.all (· < 128)=true∧R (Its x) H1
theorem pi_str {tg l:Expr}{tl:TE}(hl:PE X l tl):PI X tg l (iStrT tl):=by
 intro pins s σ H R I h;refine thn (hl pins s σ H _ I h) fun v s1 ⟨x,H1,I1,r1,q1⟩ =>?_
 obtain⟨z,e,ha,q⟩:=q1;subst e;obtain⟨t,rfl⟩:=r1;refine wpAny_pyIter_ascii ha ?_;refine⟨s1.heap.objs.size,[s1.heap.objs.size],_,_,H1,rfl,I1.kept (t':=s1.toks) fun b o e=>zF _ e,turn_str z t _,⟨_,zV _ rfl,rfl,rfl⟩,fun b hb =>?_,q⟩
 have e:b=s1.heap.objs.size:=by simpa using hb
 subst e;exact I1.fpOk (zL _) (I1.hok.fresh (zL _))
noncomputable def signsD (x:Str):List D:=x.cps.toList.map fun c =>.str ⟨#[c]⟩
noncomputable def iS (f:DF):DL:=fun ρ=>(f ρ).bind fun d=>match d with|.str x=>if x.cps.all (· < 128)=true then some (signsD x) else none|_=>none
theorem itok_str {K:Frag}{G:Hp}(x:Str):ItOk K G (Its x) (signsD x):=by
 have hl:(signsD x).length=x.cps.size:=by simp[signsD]
 refine⟨fun i H s hi=>by rw[hl] at hi;exact hi,fun i H s hi=>by rw[hl] at hi;exact hi,fun i H v H' G1 d s1 s2 ⟨e,c,ec,ev⟩ hd =>?_⟩
 subst e ev;refine⟨G1,.refl s2,?_⟩;unfold signsD at hd;rw[zM,Array.getElem?_toList,ec] at hd;cases hd;exact rep_str.mpr rfl
theorem di_str {tg:Expr}(h:PE X e (tP X.K own f)):PI X tg e (tPI X.K own (iS f)):=(pi_str h).imp fun σ H R ⟨G,ρ,ds,gh,env,eq,k⟩=>by
 unfold iS at eq;cases ef:f ρ with
 | none=>rw[ef] at eq;cases eq
 | some d=>
  rw[ef] at eq;cases d<;>simp only[zA] at eq<;>try (cases eq;done)
  split at eq
  ·cases eq;rename_i x hx;exact⟨G,ρ,_,gh,env,ef,fun v G1 H1 E1 r1=>⟨x,rep_str.mp r1,hx,k _ G1 H1 E1 (itok_str x)⟩⟩
  ·cases eq
end
theorem hte_name {K:Frag}{own:List Nat}(i:Nat) (hi:i∉own:=by decide):∀ v σ H Q,tTE K own (gN i) v σ H Q→gName i v σ H Q:=fun v σ H Q ⟨G,ρ,d,ρ',gh,env,r,eq,k⟩=>by
 cases eq;exact k _ G H (.refl gh) (env.set hi r)
noncomputable def blkCheck (outer:Scope) (oN N:List Str) (src:List (Option Nat)) (scope:Scope):Bool:=
 (scope.names.all fun y=>scope.names.lookup y.1==some y.2)&&(scope.names.all fun y=>y.2 != .free||(outer.names.lookup y.1==some .cell||outer.names.lookup y.1==some .free))&&(src.length==N.length) &&
 ((List.range src.length).all fun i=>match src[i]?,N[i]? with|some (some j),some x=>oN[j]? == some x&&scope.names.lookup x==some .free|_,_=>true)
theorem blk_mk {X:Cx}{outer:Scope}{oN N:List Str}{src:List (Option Nat)}{scope:Scope}(hk:scope.kind=.function) (h:blkCheck outer oN N src scope=true) (e1:X.env.scope=outer) (e2:X.N=oN):BlkScope X N src scope:=by
 unfold blkCheck at h;simp only[Bool.and_eq_true,List.all_eq_true,beq_iff_eq,Bool.or_eq_true] at h;obtain⟨⟨⟨h1,h2⟩,h3⟩,h4⟩:=h;refine⟨hk,fun y hy=>h1 y hy,fun y hy hf =>?_,h3,fun i j x hs hN =>?_⟩
 ·rw[e1];rcases h2 y hy with z|z
  ·rw[hf] at z;exact absurd z (by decide)
  ·exact z
 ·have hi:i<src.length:=(zC.mp hs).1;have:=h4 i (by simpa using hi)
  rw[hs,hN] at this;simp only[Bool.and_eq_true,beq_iff_eq] at this;rw[e2];exact this
end L2
end
noncomputable section
namespace L2
open PySem PySem.Spec PyProof.Rows
noncomputable section
variable {prog:Program}{w:World}{A:Around}{s:Shared}{R:Result→Shared→Prop}
variable {I:Addr}{fp wr:List Addr}{G:Array GenState→Array GenState→Prop}{n:Nat}{P:Nat→Value→Prop}{St:Nat→Shared→Prop}
end
noncomputable section
variable {prog:Program}{w:World}{A:Around}{E:Value→Shared→Prop}{s:Shared}
variable {I:Addr}{fp wr:List Addr}{G:Array GenState→Array GenState→Prop}{n:Nat}{P:Nat→Value→Prop}{St:Nat→Shared→Prop}
end
noncomputable section
variable {X:Cx}{own:List Nat}{e:Expr}{f:DF}{p q pos pos':Pos}{tl:TE}
end
end L2
end
noncomputable section
namespace L2
open PySem PySem.Spec PyProof.Rows
noncomputable abbrev DM:=DEnv→Option (D×DEnv)
noncomputable abbrev DMA:=DEnv→Option (List D×DEnv)
noncomputable def tM (K:Frag) (B:Bs) (own:List Nat) (f:DM):TE:=fun σ H Q=>∃ G ρ d ρ',SR K B own G H σ ρ∧f ρ=some (d,ρ')∧∀ v G' H',SR K B own G' H' σ ρ'→Same G G'→Rep K G' d v→Q v H'
noncomputable def tMA (K:Frag) (B:Bs) (own:List Nat) (f:DMA):TA:=fun σ H Q=>∃ G ρ ds ρ',SR K B own G H σ ρ∧f ρ=some (ds,ρ')∧∀ vs G' H',SR K B own G' H' σ ρ'→Same G G'→Reps K G' ds vs→Q vs H'
noncomputable def era (H:Hp) (a:Addr):Hp:=fun b=>if b=a then none else H b
theorem era_self {H:Hp}{a:Addr}:era H a a=none:=by simp[era]
theorem era_ne {H:Hp}{a b:Addr}(h:b≠a):era H a b=H b:=by simp[era,h]
theorem era_sub {H:Hp}{a:Addr}:Same (era H a) H:=fun b o e=>by
 by_cases h:b=a
 ·subst h;rw[era_self] at e;cases e
 ·rw[era_ne h] at e;exact e
noncomputable section
variable {X:Cx}{B:Bs}{own:List Nat}{e:Expr}{es:List Expr}{pos:Pos}
noncomputable def mP (f:DF):DM:=fun ρ=>(f ρ).map fun d=>(d,ρ)
theorem mP_some {f:DF}{ρ ρ':DEnv}{d:D}(h:mP f ρ=some (d,ρ')):f ρ=some d∧ρ'=ρ:=by
 unfold mP at h;cases ef:f ρ with
 | none=>rw[ef] at h;cases h
 | some c=>rw[ef] at h;cases h;exact⟨rfl,rfl⟩
theorem dm_pure {f:DF}(h:PE X e (tP X.K own f)):PE X e (tM X.K B own (mP f)):=h.imp fun σ H Q ⟨G,ρ,d,ρ',S,eq,k⟩=>by
 obtain⟨ef,rfl⟩:=mP_some eq;exact⟨G,ρ',d,S.gh,S.envR,ef,fun v G' H' E r=>k v G' H' (S.ext E) E.gg r⟩
noncomputable def mAN:DMA:=fun ρ=>some ([],ρ)
noncomputable def mAC (f:DM) (g:DMA):DMA:=fun ρ=>(f ρ).bind fun p=>(g p.2).bind fun q=>some (p.1::q.1,q.2)
theorem mAC_some {f:DM}{g:DMA}{ρ ρ':DEnv}{ds:List D}(h:mAC f g ρ=some (ds,ρ')):∃ x ρ1 xs,f ρ=some (x,ρ1)∧g ρ1=some (xs,ρ')∧ds=x::xs:=by
 unfold mAC at h;cases ef:f ρ with
 | none=>rw[ef] at h;cases h
 | some p=>
  obtain⟨x,ρ1⟩:=p;rw[ef] at h;simp only[zA] at h;cases eg:g ρ1 with
  | none=>rw[eg] at h;cases h
  | some q=>obtain⟨xs,ρ2⟩:=q;rw[eg] at h;cases h;exact⟨x,ρ1,xs,rfl,eg,rfl⟩
theorem dma_nil:PA X [] (tMA X.K B own mAN):=pa_nil.imp fun σ H Q ⟨G,ρ,d,ρ',S,eq,k⟩=>by
 cases eq;exact k _ G H S (Same.refl _) .nil
theorem dma_cons {f:DM}{g:DMA}(h:PE X e (tM X.K B own f)) (t:PA X es (tMA X.K B own g)) (hs:starEach (e::es) X.env=(false,eval e X.env)::starEach es X.env:=by rfl):PA X (e::es) (tMA X.K B own (mAC f g)):=
 (pa_cons h t hs).imp fun σ H Q ⟨G,ρ,d,ρ',S,eq,k⟩=>by obtain⟨x,ρ1,xs,ex,exs,rfl⟩:=mAC_some eq;exact⟨G,ρ,x,ρ1,S,ex,fun v G1 H1 S1 s1 r1=>⟨G1,ρ1,xs,ρ',S1,exs,fun vs G2 H2 S2 s2 r2=>k _ G2 H2 S2 (s1.trans s2) (.cons (Rep.mono s2 x r1) r2)⟩⟩
noncomputable def mTup (g:DMA):DM:=fun ρ=>(g ρ).bind fun q=>if q.1.length≤1000 then some (.tup q.1,q.2) else none
theorem dm_tup {x1} {g:DMA}(h:PA X es (tMA X.K B own g)):PE X (.Tuple es x1 pos) (tM X.K B own (mTup g)):=(pe_tup h).imp fun σ H Q ⟨G,ρ,d,ρ',S,eq,k⟩=>by
 unfold mTup at eq;cases eg:g ρ with
 | none=>rw[eg] at eq;cases eq
 | some q=>
  obtain⟨xs,ρ1⟩:=q;rw[eg] at eq;have eq:(if xs.length≤1000 then some (D.tup xs,ρ1) else none)=some (d,ρ'):=eq
  split at eq
  ·cases eq;rename_i hz;refine⟨G,ρ,xs,ρ',S,eg,fun vs G1 H1 S1 s1 r1=>⟨?_,fun p hp =>?_⟩⟩
   ·rw[← r1.length];exact yB hz line1000
   ·have E:=Ext.alloc (p:=p) (o :=.tup vs) S1.gh hp;exact k _ _ _ (S1.ext E) (s1.trans E.gg) (rep_tup.mpr ⟨p,vs,rfl,upd_same,Reps.mono E.gg xs r1⟩)
  ·cases eq
noncomputable def m2 (o:D→D→Option D) (a b:DM):DM:=fun ρ=>(a ρ).bind fun p=>(b p.2).bind fun q=>(o p.1 q.1).map fun d=>(d,q.2)
theorem m2_some {o:D→D→Option D}{a b:DM}{ρ ρ':DEnv}{d:D}(h:m2 o a b ρ=some (d,ρ')):∃ x ρ1 y,a ρ=some (x,ρ1)∧b ρ1=some (y,ρ')∧o x y=some d:=by
 unfold m2 at h;cases ef:a ρ with
 | none=>rw[ef] at h;cases h
 | some p=>
  obtain⟨x,ρ1⟩:=p;rw[ef] at h;simp only[zA] at h;cases eg:b ρ1 with
  | none=>rw[eg] at h;cases h
  | some q=>
   obtain⟨y,ρ2⟩:=q;rw[eg] at h;simp only[zA] at h;cases eo:o x y with
   | none=>rw[eo] at h;cases h
   | some c=>rw[eo] at h;cases h;exact⟨x,ρ1,y,rfl,eg,eo⟩
theorem rm_of {K:Frag}{o:D→D→Option D}{fa fb:DM}{σ:St}{H:Hp}{Q:VK}(h:tM K B own (m2 o fa fb) σ H Q):tOp (rD K o) (tM K B own fa) (tM K B own fb) σ H Q:=by
 obtain⟨G,ρ,d,ρ',S,eq,k⟩:=h;obtain⟨x,ρ1,y,ex,ey,eo⟩:=m2_some eq;exact⟨G,ρ,x,ρ1,S,ex,fun v G1 H1 S1 s1 r1=>⟨G1,ρ1,y,ρ',S1,ey,fun u G2 H2 S2 s2 r2=>⟨G2,x,y,d,S2.gh,.inl (Rep.mono s2 x r1),.inl r2,eo,fun w G3 H3 E3 r3=>k w G3 H3 (S2.ext E3) ((s1.trans s2).trans E3.gg) r3⟩⟩⟩
variable {a b:Expr}{fa fb:DM}
theorem dm_op {op:Operator}{o:D→D→Option D}(ho:OpD X (binaryOp op) o) (ha:PE X a (tM X.K B own fa)) (hb:PE X b (tM X.K B own fb)):PE X (.BinOp a op b pos) (tM X.K B own (m2 o fa fb)):=(pe_op ho ha hb).imp fun σ H Q h=>rm_of h
theorem dm_ix (ha:PE X a (tM X.K B own fa)) (hb:PE X b (tM X.K B own fb)) (hs:PlainIx b:=by exact fun _ _=>rfl):PE X (.Subscript a b pos) (tM X.K B own (m2 oIx fa fb)):=(pe_ix xd_seq ha hb hs).imp fun σ H Q h=>rm_of h
noncomputable def mPop (j:Nat):DM:=fun ρ=>(lstAt j ρ).bind fun ds=>(ds[ds.length-1]?).map fun d=>(d,ρ.set j (some (.lst ds.dropLast)))
theorem dm_pop {j:Nat}{y:Str}{p apos cpos:Pos}(h:PE X (.Name y p) (tVar j)) (hj:j∈own:=by decide)
  (hbase:attributeBase (.Name y p) "pop" X.env (eval (.Name y p) X.env)=eval (.Name y p) X.env:=by rfl) (hline:(apos.endLine==cpos.line)=true:=by rfl) :
  PE X (.Call (.Attribute (.Name y p) "pop" apos) [] [] cpos) (tM X.K B own (mPop j)):=
 (pe_bm0 plainAttrs_list PySem.F.slot_list_pop PySem.F.type_list_pop mt_pop h hbase hline).imp fun σ H Q ⟨G,ρ,d,ρ',S,eq,k⟩=>by
  unfold mPop at eq;cases el:lstAt j ρ with
  | none=>rw[el] at eq;cases eq
  | some ds=>
   rw[el] at eq;cases ed:ds[ds.length-1]? with
   | none=>simp[ed] at eq
   | some c=>simp only[ed,zA,zT] at eq;cases eq;exact pop_of S hj (lstAt_some el) ed fun v H' S' r=>k v G H' S' (Same.refl _) r
noncomputable def spM (K:Frag) (p:Nat) (F:List D→Option (D×List D)):Sp:=fun vs H Q _=>∃ G ds d xs' a ws xs,Same G H∧ds[p]?=some (.lst xs)∧vs[p]?=some (.ref a)∧H a=some (.lst ws)∧Reps K G xs ws∧G a=none ∧
 (∀ (i:Nat) c,i≠p→ds[i]?=some c→∃ v,vs[i]?=some v∧Rep K G c v)∧ds.length=vs.length∧F ds=some (d,xs') ∧
 ∀ v ws' G' H',Ext G (era H a) G' H'→G' a=none→H' a=some (.lst ws')→Reps K G' xs' ws'→Rep K G' d v→Q v H'
noncomputable def outM (p:Nat):DO→Option (D×List D)
 | .rm d ρ=>(lstAt p ρ).map fun xs=>(d,xs)
 | .nx ρ=>(lstAt p ρ).map fun xs=>(.non,xs)
 | _=>none
noncomputable def runM (n N p:Nat) (g:DG) (ds:List D):Option (D×List D):=if ds.length=n then (g (startD N ds)).bind (outM p) else none
theorem SR.calledC {K:Frag}{G H G' H':Hp}{σ:St}{ρ:DEnv}{j:Nat}{a:Addr}{d d':D}{o':HO}(S:SR K B own G H σ ρ) (hj:j∈own) (hd:ρ[j]?=some (some d)) (hs:σ[j]?=some (some (.ref a)))
  (E:Ext G (era H a) G' H') (ga:G' a=none) (ha:H' a=some o') (r:Cell K G' d' o'):SR K B own G' H' σ (ρ.set j (some d')):=by
 obtain⟨a',o0,e2,e3,e4,e5,e6⟩:=S.ownd j _ hj hd;rw[hs] at e2;cases e2;refine⟨E.gh,S.g0.trans E.gg,fun b o e =>?_,fun b o e =>?_,fun i c hi e =>?_,fun i c hi e =>?_,fun i k b hi hk di dk ei ek =>?_,by simp[S.len],S.pin⟩
 ·exact E.hh b o (by rw[era_ne (ne_of_none e e6)];exact S.h0 b o e)
 ·rcases E.fr b o e with z|z
  ·exact S.fr b o z
  ·by_cases hb:b=a
   ·subst hb;exact .inr e6
   ·rw[era_ne hb] at z;exact .inr (S.h0.free z)
 ·have hne:j≠i:=fun z=>hi (z ▸ hj)
  rw[zK hne] at e;obtain⟨v,f1,f2⟩:=S.env i c hi e;exact⟨v,f1,Rep.mono E.gg c f2⟩
 ·rcases set_get e with ⟨rfl,rfl,hl⟩|⟨hne,e⟩
  ·exact⟨a,o',hs,ha,r,ga,e6⟩
  ·obtain⟨b,w,f2,f3,f4,f5,f6⟩:=S.ownd i c hi e;have hb:b≠a:=fun z=>hne (S.inj j i a hj hi ⟨_,hd⟩ ⟨_,e⟩ hs (z ▸ f2))
   have hb':era H a b=some w:=by rw[era_ne hb];exact f3
   refine⟨b,w,f2,E.hh _ _ hb',f4.mono E.gg,?_,f6⟩;cases q:G' b with
   | none=>rfl
   | some o=>
    rcases E.fr b o q with z|z
    ·rw[f5] at z;cases z
    ·rw[hb'] at z;cases z
 ·have un:∀ m:Nat,(∃ d,(ρ.set j (some d'))[m]?=some (some d))→∃ d,ρ[m]?=some (some d):=fun m ⟨d,e⟩=>by
   rcases set_get e with ⟨rfl,_,_⟩|⟨_,e⟩
   ·exact⟨_,hd⟩
   ·exact⟨_,e⟩
  exact S.inj i k b hi hk (un i di) (un k dk) ei ek
theorem SR.called {K:Frag}{G H G' H':Hp}{σ:St}{ρ:DEnv}{j:Nat}{a:Addr}{xs xs':List D}{ws':List V}(S:SR K B own G H σ ρ) (hj:j∈own) (hd:ρ[j]?=some (some (.lst xs))) (hs:σ[j]?=some (some (.ref a)))
  (E:Ext G (era H a) G' H') (ga:G' a=none) (ha:H' a=some (.lst ws')) (r:Reps K G' xs' ws'):SR K B own G' H' σ (ρ.set j (some (.lst xs'))):=
 S.calledC hj hd hs E ga ha ⟨ws',rfl,r⟩
noncomputable def mCall (F:List D→Option (D×List D)) (j:Nat) (g:DL):DM:=fun ρ=>(lstAt j ρ).bind fun xs=>(g ρ).bind fun ds=>(F (.lst xs::ds)).map fun q=>(q.1,ρ.set j (some (.lst q.2)))
theorem dm_call {F:List D→Option (D×List D)}{x y:Str}{k j:Nat}{p p':Pos}{g:DL}(h:Ok1 X.prog X.w X.K X.mg X.base x k (spM X.K 0 F)) (hr:Room k X.A) (hg:Gl X x) (hy:PE X (.Name y p') (tVar j)) (ha:PA X es (tPA X.K own g)) (hj:j∈own:=by decide) (hdb:(x==("__debug__" : Str))=false:=by decide)
  (he:starEach (.Name y p'::es) X.env=(false,eval (.Name y p') X.env)::starEach es X.env:=by rfl) (hpl:(backTo pos (starEach es X.env)).any (·.1)=false:=by rfl):PE X (.Call (.Name x p) (.Name y p'::es) [] pos) (tM X.K B own (mCall F j g)):=by
 obtain⟨f,fd,ps,h1,hm,hk,hb⟩:=h.ex;refine(pe_call h1 hr hg hm hk hb .nil pass0 (pa_cons hy ha he) hdb he hpl).imp fun σ H Q ⟨G,ρ,d,ρ',S,eq,q⟩ =>?_
 unfold mCall at eq;cases el:lstAt j ρ with
 | none=>rw[el] at eq;cases eq
 | some xs=>
  rw[el] at eq;cases eg:g ρ with
  | none=>simp[eg] at eq
  | some ds=>
   simp only[eg,zA] at eq;cases ef:F (.lst xs::ds) with
   | none=>rw[ef] at eq;cases eq
   | some r=>
    obtain⟨d',xs'⟩:=r;rw[ef] at eq;cases eq;have hd:=lstAt_some el;obtain⟨a,vs,e2,e3,e4,e5,e6⟩:=S.ownL hj hd;refine⟨_,e2,G,ρ,ds,S.gh,S.envR,eg,fun us G1 H1 E1 r1 =>?_⟩
    have S1:=S.ext E1;obtain⟨a',vs1,f2,f3,f4,f5,f6⟩:=S1.ownL hj hd;rw[e2] at f2;cases f2;show spM X.K 0 F ((.ref a::us)++[]) H1 Q E0;rw[List.append_nil];refine⟨G1,.lst xs::ds,d',xs',a,vs1,xs,E1.gh,rfl,rfl,f3,f4,f5,fun i c hi ec =>?_,by simp[r1.length],ef,fun v ws' G2 H2 E2 g2 h2 r2 r3 =>?_⟩
    ·cases i with
     | zero=>exact absurd rfl hi
     | succ i=>exact r1.get (i:=i) (by simpa using ec)
    ·exact q v G2 H2 (S1.called hj hd e2 E2 g2 h2 r2) (E1.gg.trans E2.gg) r3
noncomputable def mCallP (F:List D→Option D) (g:DMA):DM:=fun ρ=>(g ρ).bind fun q=>(F q.1).map fun d=>(d,q.2)
theorem dm_callP {F:List D→Option D}{x:Str}{k:Nat}{p:Pos}{g:DMA}(h:Ok1 X.prog X.w X.K X.mg X.base x k (spF X.K F)) (hr:Room k X.A) (hg:Gl X x) (ha:PA X (e::es) (tMA X.K B own g)) (hdb:(x==("__debug__" : Str))=false:=by decide)
  (he:starEach (e::es) X.env=(false,eval e X.env)::starEach es X.env:=by rfl) (hpl:(backTo pos (starEach es X.env)).any (·.1)=false:=by rfl):PE X (.Call (.Name x p) (e::es) [] pos) (tM X.K B own (mCallP F g)):=by
 obtain⟨f,fd,ps,h1,hm,hk,hb⟩:=h.ex;refine(pe_call h1 hr hg hm hk hb .nil pass0 ha hdb he hpl).imp fun σ H Q ⟨G,ρ,d,ρ',S,eq,q⟩ =>?_
 unfold mCallP at eq;cases eg:g ρ with
 | none=>rw[eg] at eq;cases eq
 | some r=>
  obtain⟨xs,ρ1⟩:=r;rw[eg] at eq;simp only[zA] at eq;cases ef:F xs with
  | none=>rw[ef] at eq;cases eq
  | some c=>
   rw[ef] at eq;cases eq;exact⟨G,ρ,xs,ρ',S,eg,fun vs G1 H1 S1 s1 r1=>by show spF X.K F (vs++[]) H1 Q E0;rw[List.append_nil];exact⟨G1,xs,d,S1.gh,r1,ef,fun v G2 H2 E2 r2=>q v G2 H2 (S1.ext E2) (s1.trans E2.gg) r2⟩⟩
end
end L2
end
noncomputable section
namespace L2
open PySem PySem.Spec PyProof.Rows
noncomputable section
variable {X:Cx}{B:Bs}{oL own own1:List Nat}{e:Expr}{pos:Pos}{f:DM}
noncomputable def sSetM (i:Nat) (f:DM):DG:=fun ρ=>(f ρ).map fun q =>.nx (q.2.set i (some q.1))
theorem ds_setM {i:Nat}{x:Str}{pos':Pos}(hN:X.N.Nodup) (hi:X.N[i]?=some x) (hx:Loc X.env.scope x) (he:PE X e (tM X.K B own f)) (ho:i∉own:=by decide)
  (hs:swapsWith e (some (.Name x pos')) pos.line X.env=pure false:=by rfl) (hf:X.fn x=true∨X.env.scope.names.lookup x=some .local:=by first|exact .inl rfl|exact .inr rfl|assumption) :
  PS X (.Assign [.Name x pos'] e pos) (tDS X.K B oL own own (sSetM i f)):=(ps_set hN hi hx he hs hf).imp fun D σ H ⟨G,ρ,o,S,eq,k⟩=>by
 unfold sSetM at eq;cases ef:f ρ with
 | none=>rw[ef] at eq;cases eq
 | some q=>obtain⟨d,ρ1⟩:=q;rw[ef] at eq;cases eq;exact⟨G,ρ,d,ρ1,S,ef,fun v G' H' S' _ r=>k _ G' H' (S'.setS ho r)⟩
noncomputable def sRetM (f:DM):DG:=fun ρ=>(f ρ).map fun q =>.rm q.1 q.2
theorem ds_retM (he:PE X e (tM X.K B own f)):PS X (.Return (some e) pos) (tDS X.K B oL own own1 (sRetM f)):=(ps_ret he).imp fun D σ H ⟨G,ρ,o,S,eq,k⟩=>by
 unfold sRetM at eq;cases ef:f ρ with
 | none=>rw[ef] at eq;cases eq
 | some q=>obtain⟨d,ρ1⟩:=q;rw[ef] at eq;cases eq;exact⟨G,ρ,d,ρ1,S,ef,fun v G' H' S' _ r=>k v σ G' H' ⟨own,S'⟩ r⟩
noncomputable def sRetMO (i:Nat):DG:=fun ρ=>(lstAt i ρ).map fun ds =>.rm (.lst ds) ρ
theorem ds_retMO {i:Nat}{x:Str}{p:Pos}(h:PE X (.Name x p) (tVar i)) (hi:i∈own:=by decide) (hpin:∀ a,(i,a)∉B.3:=by intro a;simp_all):PS X (.Return (some (.Name x p)) pos) (tDS X.K B oL own own1 (sRetMO i)):=(ps_ret h).imp fun D σ H ⟨G,ρ,o,S,eq,k⟩=>by
 unfold sRetMO at eq;cases el:lstAt i ρ with
 | none=>rw[el] at eq;cases eq
 | some ds=>
  rw[el] at eq;cases eq;have hd:=lstAt_some el;obtain⟨a,vs,e2,e3,e4,e5,e6⟩:=S.ownL hi hd;obtain⟨G',S'⟩:=S.freeze (own':=own.filter (· != i)) (fun j hj=>(List.mem_filter.mp hj).1) i (fun j hj=>by
   by_cases hji:j=i
   ·exact .inr hji
   ·exact .inl (List.mem_filter.mpr ⟨hj,by simpa using hji⟩)) (fun z=>by have:=(List.mem_filter.mp z).2;simp at this) hi hpin
  obtain⟨v,f1,f2⟩:=S'.env i _ (fun z=>by have:=(List.mem_filter.mp z).2;simp at this) hd
  exact⟨v,f1,k v σ G' H ⟨_,S'⟩ f2⟩
noncomputable def sAppM (i:Nat) (f:DM):DG:=fun ρ=>(lstAt i ρ).bind fun _=>(f ρ).bind fun q=>(lstAt i q.2).bind fun ds=>if ds.length<bigE then some (.nx (q.2.set i (some (.lst (ds++[q.1]))))) else none
theorem ds_appM {i:Nat}{x:Str}{p apos cpos:Pos}(h:PE X (.Name x p) (tVar i)) (he:PE X e (tM X.K B own f)) (hi:i∈own:=by decide)
  (hbase:attributeBase (.Name x p) "append" X.env (eval (.Name x p) X.env)=eval (.Name x p) X.env:=by rfl)
  (hfew:((backTo cpos (starEach (e::[]) X.env)).all (fun x=> !x.1)&&(backToKw cpos (keywordEach [] X.env)).all (fun x=>x.1.isSome)
   && decide ((e::[]).length+([]:List Keyword).length+(if ([]:List Keyword).isEmpty then 0 else 1)<30))=true:=by rfl)
  (hline:(apos.endLine==cpos.line)=true:=by rfl) (hs:starEach (e::[]) X.env=(false,eval e X.env)::starEach [] X.env:=by rfl) (hplain:(backTo cpos (starEach [] X.env)).any (·.1)=false:=by rfl)
  (hsw:swapsWith (.Call (.Attribute (.Name x p) "append" apos) [e] [] cpos) none pos.line X.env=pure false:=by rfl) :
  PS X (.Expr (.Call (.Attribute (.Name x p) "append" apos) [e] [] cpos) pos) (tDS X.K B oL own own (sAppM i f)):=
 (ps_expr (pe_bm plainAttrs_list PySem.F.slot_list_append PySem.F.type_list_append mt_append h (pa_cons he pa_nil hs) hbase hfew hline hs hplain) hsw).imp fun D σ H ⟨G,ρ,o,S,eq,k⟩=>by
  unfold sAppM at eq;cases el:lstAt i ρ with
  | none=>rw[el] at eq;cases eq
  | some ds0=>
   rw[el] at eq;cases ef:f ρ with
   | none=>simp[ef] at eq
   | some q=>
    obtain⟨d,ρ1⟩:=q;simp only[ef,zA] at eq;cases el1:lstAt i ρ1 with
    | none=>rw[el1] at eq;cases eq
    | some ds=>
     rw[el1] at eq;simp only[zA] at eq
     split at eq
     ·cases eq;rename_i hz;obtain⟨a,vs,e2,e3,e4,e5,e6⟩:=S.ownL hi (lstAt_some el);refine⟨_,e2,.inl ⟨rfl,vs,.of e3⟩,G,ρ,d,ρ1,S,ef,fun v G' H' S' s' r =>?_⟩
      have hd:=lstAt_some el1;obtain⟨a',vs',f2,f3,f4,_⟩:=S'.ownL hi hd;rw[e2] at f2;cases f2;refine⟨a,vs',v,rfl,rfl,f3,?_,k _ G' _ (S'.mut hi hd e2 (f4.append (.cons r .nil)))⟩;rw[← f4.length];exact zS hz bigE_le
     ·cases eq
noncomputable def iRM (f:DM):DMA:=fun ρ=>(f ρ).bind fun q=>match q.1 with|.int j=>if -(2 ^ 62)≤j∧j<2 ^ 62 then some (rngD 0 j.toNat,q.2) else none|_=>none
theorem dim_range1 {tg:Expr}{p:Pos}(hg:Gl X "range") (hm:X.mg "range" = none) (h:PE X e (tM X.K B own f)) (hs:starEach [e] X.env=(false,eval e X.env)::starEach [] X.env:=by rfl) (hs2:starEach [e] X.env=[(false,eval e X.env)]:=by rfl):PI X tg (.Call (.Name "range" p) [e] [] pos) (tMI X.K B own (iRM f)):=
 (pi_range1 hg hm (pa_cons h pa_nil hs) hs2).imp fun σ H R ⟨G,ρ,ds,ρ',S,eq,k⟩=>by
  unfold iRM at eq;cases ef:f ρ with
  | none=>rw[ef] at eq;cases eq
  | some q=>
   obtain⟨d,ρ1⟩:=q;rw[ef] at eq;cases d<;>simp only[zA] at eq<;>try (cases eq;done)
   split at eq
   ·cases eq;rename_i j hj;exact⟨G,ρ,_,_,S,ef,fun v G1 H1 S1 s1 r1=>⟨j,by rw[rep_int.mp r1],hj.1,hj.2,k _ G1 H1 S1 (itok_range 0 j.toNat)⟩⟩
   ·cases eq
end
theorem start_SRM {K:Frag}{G H:Hp}{own:List Nat}{N:List Str}{p:Nat}{ds xs:List D}{vs ws:List V}{a:Addr}(s:Same G H) (hp:p∈own) (hd:ds[p]?=some (.lst xs)) (hv:vs[p]?=some (.ref a)) (ha:H a=some (.lst ws)) (r:Reps K G xs ws) (ga:G a=none)
  (ro:∀ (i:Nat) c,i≠p→ds[i]?=some c→∃ v,vs[i]?=some v∧Rep K G c v) (hl:ds.length=vs.length) (ho:∀ i∈own,i=p∨ds.length≤i):SR K ⟨G,era H a,[(p,a)]⟩ own G H (start N vs) (startD N.length ds):=by
 have getσ:∀ (i:Nat) v,vs[i]?=some v→(start N vs)[i]?=some (some v):=fun i v e=>by have hi:i<vs.length:=(zC.mp e).1;unfold start;rw[yD (by simpa using hi),zM,e];rfl
 have isp:∀ i∈own,(∃ d,(startD N.length ds)[i]?=some (some d))→i=p:=fun i hi ⟨d,e⟩=>by
  have:=(zC.mp (start_get e)).1;rcases ho i hi with z|z
  ·exact z
  ·omega
 refine⟨s,Same.refl _,era_sub,fun b o e =>.inl e,fun i d hi e =>?_,fun i d hi e =>?_,fun i j b hi hj di dj _ _=>(isp i hi di).trans (isp j hj dj).symm,by simp[start,startD,hl],fun i b h =>?_⟩
 ·obtain⟨v,ev,rv⟩:=ro i d (fun z=>hi (z ▸ hp)) (start_get e)
  exact⟨v,getσ i v ev,rv⟩
 ·have z:=isp i hi ⟨d,e⟩;subst z;have e':=start_get e;rw[hd] at e';cases e';exact⟨a,_,getσ _ _ hv,ha,⟨ws,rfl,r⟩,ga,era_self⟩
 ·have z:(i,b)=(p,a):=by simpa using h
  cases z;exact⟨hp,getσ _ _ hv⟩
noncomputable section
variable {P:Program}{w:World}{K:Frag}{mg:Str→Option Value}{base:Heap}
theorem Fun.okM {x qual:Str}{st:Stmt}{f:Addr}{fd:FuncData}{N ps:List Str}{k:Nat}(F:Fun K x qual st f fd) (S:FnScope N ps (defScope st)) (p:Nat) {own own':List Nat}{g:DG}(hp:p∈own) (hown:∀ i∈own,i=p∨ps.length≤i)
  (hb:∀ (cdv:Value) (A:Around) (outer:List Env) (s:Shared) (H:Hp) (E:XK),Room k (A.deeper (envOfC qual (defScope st) s.heap.objs.size f cdv))→∀ (B:Bs) (a:Addr),B.3=[(p,a)] →
   PSs (cxOf CX0 P w K mg base N qual (defScope st) f cdv A outer s H E).nox (defBody st) (tDS K B [] own own' g)):FnOk P w K mg base CX0 (k+1) f fd ps (spM K p (runM ps.length N.length p g)):=by
 refine F.ok S (fun vs H Q E h =>?_) (fun cdv A outer s H vs Q E hr h =>?_)
 ·obtain⟨G,ds,d,xs',a,ws,xs,gh,hd,hv,ha,r,ga,ro,hl,eq,_⟩:=h;unfold runM at eq
  split at eq
  ·rw[← hl];assumption
  ·cases eq
 ·obtain⟨G,ds,d,xs',a,ws,xs,gh,hd,hv,ha,r,ga,ro,hl,eq,q⟩:=h;unfold runM at eq
  split at eq
  ·rename_i hn;refine⟨_,hb cdv A outer s H E hr ⟨G,era H a,[(p,a)]⟩ a rfl,?_⟩;cases eg:g (startD N.length ds) with
   | none=>rw[eg] at eq;cases eq
   | some o=>
    rw[eg] at eq;have fin:∀ {σ:St}{ρ:DEnv}{G' H':Hp}{o':List Nat}{ys:List D},SR K ⟨G,era H a,[(p,a)]⟩ o' G' H' σ ρ→lstAt p ρ=some ys→∃ ws',H' a=some (.lst ws')∧Reps K G' ys ws'∧G' a=none:=fun {σ ρ G' H' o' ys} S' el=>by
     obtain⟨hp',hσ⟩:=S'.pin p a (by simp)
     obtain⟨b,vs',f2,f3,f4,f5,_⟩:=S'.ownL hp' (lstAt_some el);rw[hσ] at f2;cases f2;exact⟨vs',f3,f4,f5⟩
    refine⟨G,_,o,start_SRM gh hp hd hv ha r ga ro hl (by rw[hn];exact hown),eg,?_⟩
    cases o with
    | rm d' ρ=>
     have eq:Option.map (fun xs=>(d',xs)) (lstAt p ρ)=some (d,xs'):=eq
     cases el:lstAt p ρ with
     | none=>rw[el] at eq;cases eq
     | some ys=>rw[el] at eq;cases eq;intro v σ G' H' ⟨o',S'⟩ rv;obtain⟨ws',f3,f4,f5⟩:=fin S' el;exact q v ws' G' H' S'.toExt f5 f3 f4 rv
    | nx ρ=>
     have eq:Option.map (fun xs=>(D.non,xs)) (lstAt p ρ)=some (d,xs'):=eq
     cases el:lstAt p ρ with
     | none=>rw[el] at eq;cases eq
     | some ys=>rw[el] at eq;cases eq;intro σ G' H' S';obtain⟨ws',f3,f4,f5⟩:=fin S' el;exact q _ ws' G' H' S'.toExt f5 f3 f4 (rep_non.mpr rfl)
    | rt d'=>cases eq
    | ro d'=>cases eq
    | bk ρ=>cases eq
    | ct ρ=>cases eq
  ·cases eq
end
end L2
end
noncomputable section
namespace L2
open PySem PySem.Spec PyProof.Rows
noncomputable def lcM (ρ:DEnv) (τ:DTg) (fe:DM) (i0:Nat):List D→List D→Option (List D×List D)
 | [],xs=>some ([],xs)
 | d::ds,xs=>(τ d (ρ.set i0 (some (.lst xs)))).bind fun ρ1=>(fe ρ1).bind fun p=>(lstAt i0 p.2).bind fun xs'=>(lcM ρ τ fe i0 ds xs').map fun q=>(p.1::q.1,q.2)
noncomputable def mLC (f:DL) (src:List (Option Nat)) (τ:DTg) (fe:DM) (i0 j0:Nat):DM:=fun ρ=>(f ρ).bind fun ds=>if ds.length≤bigE then (lstAt j0 ρ).bind fun xs=>(lcM (srcρ src ρ) τ fe i0 ds xs).map fun q=>(.lst q.1,ρ.set j0 (some (.lst q.2))) else none
noncomputable def tMx (K:Frag) (i0:Nat) (fe:DM):TE:=fun σ H Q=>∃ (B:Bs) (a:Addr),B.3=[(i0,a)]∧tM K B [i0] fe σ H Q
theorem dmx {X:Cx}{e:Expr}{i0:Nat}{fe:DM}(h:∀ (B:Bs) (a:Addr),B.3=[(i0,a)]→PE X e (tM X.K B [i0] fe)):PE X e (tMx X.K i0 fe):=fun pins s σ H Q I ⟨B,a,hB,q⟩=>h B a hB pins s σ H Q I q
theorem set_same {α:Type}:∀ {l:List α}{i:Nat}{x:α},l[i]?=some x→l.set i x=l
 | [],i,x,h=>by simp at h
 | y::l,0,x,h=>by simp at h;subst h;rfl
 | y::l,i+1,x,h=>by simp at h;simp[set_same h]
noncomputable section
variable {K:Frag}{B:Bs}{own:List Nat}{src:List (Option Nat)}{G H:Hp}{σ:St}{ρ:DEnv}
theorem srcρ_get {i:Nat}{d:D}(e:(srcρ src ρ)[i]?=some (some d)):∃ j,src[i]?=some (some j)∧ρ[j]?=some (some d):=by
 unfold srcρ at e;rw[zM] at e;cases es:src[i]? with
 | none=>rw[es] at e;cases e
 | some o=>
  rw[es] at e;cases o with
  | none=>cases e
  | some j=>
   have e:(ρ[j]?).getD none=some d:=by simpa using e
   refine⟨j,rfl,?_⟩;cases q:ρ[j]? with
   | none=>rw[q] at e;cases e
   | some z=>rw[q] at e;rw[show z=some d from e]
theorem srcσ_put {i j:Nat}{v:V}(es:src[i]?=some (some j)) (ev:σ[j]?=some (some v)):(srcσ src σ)[i]?=some (some v):=by
 unfold srcσ;rw[zM,es];simp[ev]
theorem SR.inner {i0 j0:Nat}{a:Addr}{xs:List D}(S:SR K B own G H σ (ρ.set j0 (some (.lst xs)))) (ho:ownSrc own [i0] src=true) (h0:src[i0]?=some (some j0)) (hρ:∃ d,ρ[j0]?=some d) (hs:σ[j0]?=some (some (.ref a))) :
  SR K ⟨G,era H a,[(i0,a)]⟩ [i0] G H (srcσ src σ) ((srcρ src ρ).set i0 (some (.lst xs))):=by
 have hj0:j0∈own:=(ownSrc_get ho h0).mp (by simp)
 obtain⟨d0,hρ⟩:=hρ;have hl:j0<ρ.length:=(zC.mp hρ).1;have hd:(ρ.set j0 (some (D.lst xs)))[j0]?=some (some (.lst xs)):=by rw[List.getElem?_set_self hl]
 obtain⟨b,vs,e2,e3,e4,e5,e6⟩:=S.ownL hj0 hd;rw[hs] at e2;cases e2;refine⟨S.gh,Same.refl _,era_sub,fun b o e =>.inl e,fun i d hi e =>?_,fun i d hi e =>?_,fun i j b hi hj _ _ _ _=>by simp at hi hj;rw[hi,hj],by simp[srcσ,srcρ],fun i b h =>?_⟩
 ·rcases set_get e with ⟨rfl,_,_⟩|⟨hne,e⟩
  ·exact absurd (by simp) hi
  ·obtain⟨j,es,ej⟩:=srcρ_get e;have hj:j∉own:=fun z=>hi ((ownSrc_get ho es).mpr z)
   have:j0≠j:=fun z=>hj (z ▸ hj0)
   obtain⟨v,f1,f2⟩:=S.env j d hj (by rw[zK this];exact ej)
   exact⟨v,srcσ_put es f1,f2⟩
 ·have z:i=i0:=by simpa using hi
  subst z;rcases set_get e with ⟨_,rfl,_⟩|⟨hne,_⟩
  ·exact⟨a,_,srcσ_put h0 hs,e3,⟨vs,rfl,e4⟩,e5,era_self⟩
  ·exact absurd rfl hne
 ·have z:(i,b)=(i0,a):=by simpa using h
  cases z;exact⟨by simp,srcσ_put h0 hs⟩
end
noncomputable section
variable {X:Cx}{B:Bs}{own oS:List Nat}{N:List Str}{src:List (Option Nat)}{scope:Scope}{tg iter elt:Expr}{f:DL}{τ:DTg}{fe:DM}{g:TG}{pos:Pos}{i0 j0:Nat}
theorem lcM_of {K:Frag}{σ:St}{H:Hp}{Q:VK}(ho:ownSrc own [i0] src=true) (h0:src[i0]?=some (some j0)) (hg:∀ (B:Bs) v σ H Q,tTG K B [i0] τ v σ H Q→g v σ H Q) (q:tM K B own (mLC f src τ fe i0 j0) σ H Q) :
  tLc (tPI K own f) src g (tPT K [i0] tYes) (tMx K i0 fe) σ H Q:=by
 obtain⟨G,ρ,d,ρ',S,eq,k⟩:=q;have hj0:j0∈own:=(ownSrc_get ho h0).mp (by simp)
 unfold mLC at eq;cases ef:f ρ with
 | none=>rw[ef] at eq;cases eq
 | some ds=>
  rw[ef] at eq;have eq:(if ds.length≤bigE then (lstAt j0 ρ).bind fun xs=>(lcM (srcρ src ρ) τ fe i0 ds xs).map fun q=>(D.lst q.1,ρ.set j0 (some (.lst q.2))) else none)=some (d,ρ'):=eq
  split at eq
  ·rename_i hz;cases el:lstAt j0 ρ with
   | none=>rw[el] at eq;cases eq
   | some xs0=>
    rw[el] at eq;simp only[zA] at eq;cases em:lcM (srcρ src ρ) τ fe i0 ds xs0 with
    | none=>rw[em] at eq;cases eq
    | some q0=>
     obtain⟨rs,xsF⟩:=q0;rw[em] at eq;cases eq;have hd0:=lstAt_some el;obtain⟨a,vs0,e2,_⟩:=S.ownL hj0 hd0;refine⟨G,ρ,ds,S.gh,S.envR,ef,fun J G1 H1 E1 ok =>?_⟩
     have S1:=S.ext E1;rw[← set_same hd0] at S1;refine⟨fun i m ys H2=>m=ds.length-i∧i≤ds.length∧ys.length≤i∧∃ G2 acc xs rest,SR K B own G2 H2 σ (ρ.set j0 (some (.lst xs)))∧Same G1 G2∧Reps K G2 acc ys∧lcM (srcρ src ρ) τ fe i0 (ds.drop i) xs=some (rest,xsF)∧acc++rest=rs,
      ⟨ds.length,rfl,Nat.zero_le _,zL _,G1,[],xs0,rs,S1,Same.refl _,.nil,em,rfl⟩,?_⟩
     rintro i m ys H2 ⟨rfl,hil,hyl,G2,acc,xs,rest,S2,s2,rx,er,rfl⟩;have sub:Same G1 H2:=s2.trans S2.gh;by_cases hlt:i<ds.length
     ·refine .inr ⟨ok.go i H2 sub hlt,?_,fun ys' H'=>ys'.length≤i+1∧∃ G3 acc' xs' rest',SR K B own G3 H' σ (ρ.set j0 (some (.lst xs')))∧Same G1 G3∧Reps K G3 acc' ys'∧lcM (srcρ src ρ) τ fe i0 (ds.drop (i+1)) xs'=some (rest',xsF)∧acc'++rest'=acc++rest,
       fun ys' H' z=>⟨ds.length-(i+1),by omega,rfl,hlt,z⟩,fun x H3 y =>?_⟩
      ·have:=bigE_le;omega
      ·obtain⟨G3,E3,rep3⟩:=ok.yld i H2 x H3 G2 ds[i] s2 S2.gh y (zI hlt);have S3:=S2.ext E3;rw[List.drop_eq_getElem_cons hlt] at er;unfold lcM at er;cases et:τ ds[i] ((srcρ src ρ).set i0 (some (.lst xs))) with
       | none=>rw[et] at er;cases er
       | some ρ4=>
        rw[et] at er;simp only[zA] at er;cases ee:fe ρ4 with
        | none=>rw[ee] at er;cases er
        | some p4=>
         obtain⟨x4,ρ5⟩:=p4;rw[ee] at er;simp only[zA] at er;cases el4:lstAt i0 ρ5 with
         | none=>rw[el4] at er;cases er
         | some xs4=>
          rw[el4] at er;simp only[zA] at er;cases em4:lcM (srcρ src ρ) τ fe i0 (ds.drop (i+1)) xs4 with
          | none=>rw[em4] at er;cases er
          | some q4=>
           obtain⟨rest4,xsE⟩:=q4;rw[em4] at er;cases er;have SI:=S3.inner ho h0 ⟨_,hd0⟩ e2;refine hg ⟨G3,era H3 a,[(i0,a)]⟩ _ _ _ _ ⟨G3,_,ds[i],ρ4,SI,rep3,et,fun σ4 G4 H4 S4=>⟨G4,ρ4,true,S4.gh,S4.envR,rfl,fun G5 H5 E5=>iteT ?_⟩⟩
           refine⟨⟨G3,era H3 a,[(i0,a)]⟩,a,rfl,G5,ρ4,x4,ρ5,S4.ext E5,ee,fun v G6 H6 S6 s6 r6=>⟨by simp;omega,G6,acc++[x4],xs4,rest4,?_,?_,?_,em4,by simp⟩⟩
           ·obtain⟨hp',hσ⟩:=S6.pin i0 a (by simp)
            obtain⟨b,ws,f2,f3,f4,f5,_⟩:=S6.ownL hp' (lstAt_some el4);rw[hσ] at f2;cases f2;have hl:j0<ρ.length:=(zC.mp hd0).1;have:=S3.called (xs':=xs4) hj0 (by rw[List.getElem?_set_self hl]) e2 S6.toExt f5 f3 f4
            rw[List.set_set] at this;exact this
           ·exact s2.trans (E3.gg.trans S6.g0)
           ·exact(Reps.mono (E3.gg.trans S6.g0) acc rx).append (.cons r6 .nil)
     ·have e:i=ds.length:=by omega
      subst e;rw[List.drop_length] at er;unfold lcM at er;cases er;refine .inl ⟨ok.stop _ H2 sub (zL _),fun p hp =>?_⟩
      have EA:=Ext.alloc (p:=p) (o :=.lst ys) S2.gh hp;refine k _ _ _ (S2.ext EA) (E1.gg.trans (s2.trans EA.gg)) ?_;rw[List.append_nil];exact rep_lst.mpr ⟨p,ys,rfl,upd_same,Reps.mono EA.gg acc rx⟩
  ·cases eq
theorem dm_lc (S:BlkScope X N src scope) (hc:X.calm=true) (hi:PI X tg iter (tPI X.K own f)) (ag:GAg oS g) (hos:∀ i∈oS,src[i]?=some none) (hg:∀ (B:Bs) v σ H Q,tTG X.K B [i0] τ v σ H Q→g v σ H Q)
  (hb:∀ C s H ex,PG (X.blk N scope C s H ex) tg g∧PTs (X.blk N scope C s H ex) [] (tPT X.K [i0] tYes)∧PE (X.blk N scope C s H ex) elt (tMx X.K i0 fe)) (h0:src[i0]?=some (some j0):=by rfl) (ho:ownSrc own [i0] src=true:=by decide)
  (hs:∀ x,foldedSetIterable iter X.env x=pure x:=by intro _;rfl):PE X (.ListComp elt [⟨tg,iter,[],0⟩] scope pos) (tM X.K B own (mLC f src τ fe i0 j0)):=
 (pe_lc S hc hi ag hos hb hs).imp fun σ H Q q=>lcM_of ho h0 hg q
theorem htm_name (K:Frag) (i i0:Nat) (hi:i∉[i0]:=by decide):∀ (B:Bs) v σ H Q,tTG K B [i0] (gN i) v σ H Q→gName i v σ H Q:=fun B v σ H Q ⟨G,ρ,d,ρ',S,r,eq,k⟩=>by
 cases eq;exact k _ G H (S.setS hi r)
end
end L2
end
noncomputable section
namespace L2
open PySem PySem.Spec PyProof.Rows
noncomputable section
variable {X:Cx}{own:List Nat}{e:Expr}{pos p:Pos}{g:DF}
noncomputable def eFld (c f:Str) (g:DF):DF:=fun ρ=>(g ρ).bind fun d=>match d with|.ins c' ks ds=>if c'=c then (ks.zip ds).lookup f else none|_=>none
theorem fld_get {K:Frag}{G:Hp}{f:Str}:∀ {ks:List Str}{ds:List D}{vs:List V}{d:D},Reps K G ds vs→(ks.zip ds).lookup f=some d→∃ v,(ks.zip vs).lookup f=some v∧Rep K G d v
 | [],ds,vs,d,r,e=>by simp at e
 | k::ks,[],vs,d,r,e=>by simp at e
 | k::ks,c::ds,vs,d,r,e=>by
  obtain⟨v,t,rfl,rv,rt⟩:=reps_cons.mp r;simp only[List.zip_cons_cons,List.lookup_cons] at e ⊢;cases h:(f==k) with
  | true=>rw[h] at e;cases e;exact⟨v,rfl,rv⟩
  | false=>rw[h] at e;exact fld_get rt e
noncomputable def vOf:D→V
 | .bl b =>.bl b
 | .int i =>.int i
 | .str x =>.str x
 | _ =>.non
theorem vOf_rep {K:Frag}{G:Hp}{d:D}{v:V}(h:scalD d=true) (r:Rep K G d v):v=vOf d∧flatV v=true:=by
 cases d<;>first|(simp[scalD] at h;done)|(simp only[Rep] at r;subst r;exact⟨rfl,rfl⟩)
theorem vOf_reps {K:Frag}{G:Hp}:∀ {ds:List D}{vs:List V},ds.all scalD=true→Reps K G ds vs→vs=ds.map vOf∧vs.all flatV=true
 | [],vs,h,r=>by rw[reps_nil.mp r];exact⟨rfl,rfl⟩
 | d::ds,vs,h,r=>by rw[List.all_cons,Bool.and_eq_true] at h;obtain⟨v,t,rfl,rv,rt⟩:=reps_cons.mp r;obtain⟨e1,f1⟩:=vOf_rep h.1 rv;obtain⟨e2,f2⟩:=vOf_reps h.2 rt;exact⟨by rw[e1,e2];rfl,by rw[List.all_cons,f1,f2];rfl⟩
noncomputable def inD (neg:Bool) (x:D) (ys:List D):Option D:=if (scalD x&&ys.all scalD)=true then some (.bl (if neg then !inV (vOf x) (ys.map vOf) else inV (vOf x) (ys.map vOf))) else none
noncomputable def oIn (neg:Bool):D→D→Option D
 | x,.lst ys=>inD neg x ys
 | x,.tup ys=>inD neg x ys
 | _,_=>none
theorem in_of {K:Frag}{neg:Bool}{x y:V}{H:Hp}{Q:VK}(h:rD K (oIn neg) x y H Q):rIn K neg x y H Q:=by
 obtain⟨G,d1,d2,d,gh,h1,h2,eq,q⟩:=h;have fin:∀ (ys:List D) (vs:List V),inD neg d1 ys=some d→Reps K G ys vs→flatV x=true∧vs.all flatV=true∧d=.bl (if neg then !inV x vs else inV x vs):=fun ys vs e r=>by
  unfold inD at e
  split at e
  ·rename_i hs;rw[Bool.and_eq_true] at hs;have r1:Rep K G d1 x:=by
    rcases h1 with z|⟨a,o,_,_,z⟩
    ·exact z
    ·cases d1<;>first|exact z.elim|simp[scalD] at hs
   obtain⟨e1,f1⟩:=vOf_rep hs.1 r1;obtain⟨e2,f2⟩:=vOf_reps hs.2 r;cases e;exact⟨f1,f2,by rw[e1,e2]⟩
  ·cases e
 cases d2<;>simp only[oIn] at eq<;>try (cases eq;done)
 ·obtain⟨p,vs,rfl,qa,ra⟩:=h2.lst gh;obtain⟨f1,f2,rfl⟩:=fin _ _ eq ra;exact⟨p,vs,rfl,.inl (.of qa),f1,f2,q _ G H (.refl gh) (rep_bl.mpr rfl)⟩
 ·obtain⟨p,vs,rfl,qa,ra⟩:=h2.tup gh;obtain⟨f1,f2,rfl⟩:=fin _ _ eq ra;exact⟨p,vs,rfl,.inr (.of qa),f1,f2,q _ G H (.refl gh) (rep_bl.mpr rfl)⟩
theorem od_in:OpD X (compareOp .In) (oIn false):=OpR.imp op_in_seq fun x y H Q h=>in_of h
variable {f:DF}
end
end L2
end
noncomputable section
namespace L2
open PySem PySem.Spec PyProof.Rows
noncomputable section
variable {X:Cx}{own:List Nat}{e e':Expr}{f f':DF}
end
end L2
end
noncomputable section
namespace L2
open PySem PySem.Spec PyProof.Rows
noncomputable section
variable {X:Cx}{own:List Nat}{tg e e':Expr}{f f':DF}{p pos:Pos}
end
end L2
end
noncomputable section
namespace L2
open PySem PySem.Spec PyProof.Rows
noncomputable section
variable {X:Cx}{own:List Nat}{e o:Expr}{f g:DF}{p pos:Pos}
theorem vals_strs:∀ {ls:List Str}{us:List Value},Vals (ls.map V.str) us→∃ l:List (Str×Tok),us=strValues l∧l.map (·.1)=ls
 | [],us,r=>by cases r;exact⟨[],rfl,rfl⟩
 | x::ls,us,r=>by
  cases r with
  | cons r t=>obtain⟨k,rfl⟩:=r;obtain⟨l,rfl,e⟩:=vals_strs t;exact⟨(x,k)::l,rfl,by simp[e]⟩
noncomputable def joinSz (sep:Str) (ls:List Str):Nat:=ls.foldl (fun a x=>a+x.length+sep.length) 0
noncomputable def rJoin (K:Frag):V→List V→Hp→VK→Prop:=fun x vs H Q=>∃ sep p ls,x=.str sep∧vs=[.ref p]∧SqL K H p (ls.map V.str)∧joinSz sep ls≤bigE∧(Builtin.Str.glued sep ls).length≤bigE∧Q (.str (Builtin.Str.glued sep ls)) H
theorem mt_join:MtR X "str.join" (rJoin X.K):=by
 intro pins s σ H x xs v us Q I rx rv ⟨sep,p,ls,ex,es,hq,h1,h2,q⟩;subst ex es;obtain⟨t,rfl⟩:=rx;obtain⟨u,rfl,ru⟩:=Vals.one rv;cases ru;obtain⟨its,ri,pl,hz⟩:=I.list hq;obtain⟨l,rfl,el⟩:=vals_strs ri;have hfold:Builtin.Str.tooLong ((l.map (·.1)).toArray.foldl (· + ·.length+sep.length) 0)=false:=by
  have:((l.map (·.1)).toArray.foldl (· + ·.length+sep.length) 0)=joinSz sep ls:=by rw[el];simp[joinSz]
  rw[this];unfold Builtin.Str.tooLong;have:=bigE_le;simp;omega
 refine call_meets PySem.F.slot_str_join (typeIs_str _ _ _) PySem.F.entry_str_join (PySem.F.args_str_join_2 _ _) (meets_str_join_list sep t p l hfold) ⟨pl.isList,?_⟩;have big:=yB h2 bigE_le;unfold joinMade
 split
 ·rename_i q0;rw[← el] at q;exact⟨.str q0.1,H,I,⟨q0.2,rfl⟩,q⟩
 ·refine⟨by rw[el];exact big,.str (Builtin.Str.glued sep ls),H,I.kept (t':=s.toks+1) fun b o e=>e,⟨s.toks,by rw[el]⟩,q⟩
noncomputable def isStrD:D→Bool
 | .str _=>true
 | _=>false
noncomputable def strD:D→Str
 | .str x=>x
 | _=>Str.empty
noncomputable def oJoin:D→D→Option D
 | .str sep,.lst ds=>if (ds.all isStrD&&decide (joinSz sep (ds.map strD)≤bigE)&&decide ((Builtin.Str.glued sep (ds.map strD)).length≤bigE))=true then some (.str (Builtin.Str.glued sep (ds.map strD))) else none
 | _,_=>none
theorem reps_strs {K:Frag}{G:Hp}:∀ {ds:List D}{vs:List V},ds.all isStrD=true→Reps K G ds vs→vs=(ds.map strD).map V.str
 | [],vs,h,r=>reps_nil.mp r
 | d::ds,vs,h,r=>by rw[List.all_cons,Bool.and_eq_true] at h;obtain⟨v,t,rfl,rv,rt⟩:=reps_cons.mp r;rw[reps_strs h.2 rt];cases d<;>first|(simp[isStrD] at h;done)|(rw[rep_str.mp rv];rfl)
theorem de_join {apos cpos:Pos}(ho:PE X o (tQ X.K own f)) (he:PE X e (tQ X.K own g)) (hbase:attributeBase o "join" X.env (eval o X.env)=eval o X.env:=by rfl)
  (hfew:((backTo cpos (starEach (e::[]) X.env)).all (fun x=> !x.1)&&(backToKw cpos (keywordEach [] X.env)).all (fun x=>x.1.isSome)
   && decide ((e::[]).length+([]:List Keyword).length+(if ([]:List Keyword).isEmpty then 0 else 1)<30))=true:=by rfl)
  (hline:(apos.endLine==cpos.line)=true:=by rfl) (hs:starEach (e::[]) X.env=(false,eval e X.env)::starEach [] X.env:=by rfl) (hplain:(backTo cpos (starEach [] X.env)).any (·.1)=false:=by rfl) :
  PE X (.Call (.Attribute o "join" apos) [e] [] cpos) (tP X.K own (e2 oJoin f g)):=
 (pe_bm PySem.F.plainAttrs_str PySem.F.slot_str_join PySem.F.type_str_join mt_join ho (pa_cons he pa_nil hs) hbase hfew hline hs hplain).imp fun σ H Q ⟨G,ρ,d,gh,env,eq,k⟩=>by
  obtain⟨x,y,ex,ey,eo⟩:=e2_some eq;refine⟨G,ρ,x,gh,env,ex,fun v G1 H1 E1 r1 =>?_⟩
  unfold oJoin at eo
  split at eo
  ·split at eo
   ·cases eo;rename_i sep ds hb;simp only[Bool.and_eq_true,decide_eq_true_eq] at hb;have:=r1.str;subst this;refine⟨rfl,G1,ρ,_,E1.gh,env.ext E1,ey,fun u G2 H2 E2 r2 =>?_⟩
    obtain⟨a,vs,rfl,qa,ra⟩:=r2.lst E2.gh;have e:=reps_strs hb.1.1 ra;subst e;exact⟨sep,a,_,rfl,rfl,.of qa,hb.1.2,hb.2,k _ G2 H2 (E1.trans E2) (rep_str.mpr rfl)⟩
   ·cases eo
  ·cases eo
end
end L2
end
noncomputable section
namespace L2
open PySem PySem.Spec PyProof.Rows
noncomputable def gN3 (i j l:Nat):DTg:=fun d ρ=>match d with|.tup [a,b,c]=>some (((ρ.set i (some a)).set j (some b)).set l (some c))|_=>none
theorem gN3_some {i j l:Nat}{d:D}{ρ ρ':DEnv}(h:gN3 i j l d ρ=some ρ'):∃ a b c,d=.tup [a,b,c]∧ρ'=((ρ.set i (some a)).set j (some b)).set l (some c):=by
 unfold gN3 at h
 split at h
 ·cases h;exact⟨_,_,_,rfl,rfl⟩
 ·cases h
theorem rep_three {K:Frag}{G:Hp}{a b c:D}{v:V}(r:Rep K G (.tup [a,b,c]) v):∃ p x y z,v=.ref p∧G p=some (.tup [x,y,z])∧Rep K G a x∧Rep K G b y∧Rep K G c z:=by
 obtain⟨p,vs,e,g,rs⟩:=rep_tup.mp r;obtain⟨x,r1,rfl,rx,t⟩:=reps_cons.mp rs;obtain⟨y,r2,rfl,ry,t⟩:=reps_cons.mp t;obtain⟨z,r3,rfl,rz,t⟩:=reps_cons.mp t;rw[reps_nil.mp t] at g;exact⟨p,x,y,z,e,g,rx,ry,rz⟩
noncomputable section
variable {X:Cx}{B:Bs}{own oL:List Nat}
theorem dg_three {i j l:Nat}{tg:Expr}(h:PG X tg (gTup X.K 3 (gCons (gName i) (gCons (gName j) (gCons (gName l) gNil))))) (hi:i∉own:=by decide) (hj:j∉own:=by decide) (hl:l∉own:=by decide):PG X tg (tTG X.K B own (gN3 i j l)):=h.imp fun v σ H Q ⟨G,ρ,d,ρ',S,r,eq,k⟩=>by
 obtain⟨a,b,c,rfl,rfl⟩:=gN3_some eq;obtain⟨p,x,y,z,rfl,g,rx,ry,rz⟩:=rep_three r;exact⟨p,_,rfl,.of (S.gh _ _ g),rfl,x,_,rfl,y,_,rfl,z,_,rfl,rfl,k _ G H (((S.setS hi rx).setS hj ry).setS hl rz)⟩
theorem hte_three {K:Frag}{own:List Nat}(i j l:Nat) (hi:i∉own:=by decide) (hj:j∉own:=by decide) (hl:l∉own:=by decide):∀ v σ H Q,tTE K own (gN3 i j l) v σ H Q→gTup K 3 (gCons (gName i) (gCons (gName j) (gCons (gName l) gNil))) v σ H Q:=fun v σ H Q ⟨G,ρ,d,ρ',gh,env,r,eq,k⟩=>by
 obtain⟨a,b,c,rfl,rfl⟩:=gN3_some eq;obtain⟨p,x,y,z,rfl,g,rx,ry,rz⟩:=rep_three r;exact⟨p,_,rfl,.of (gh _ _ g),rfl,x,_,rfl,y,_,rfl,z,_,rfl,rfl,k _ G H (.refl gh) (((env.set hi rx).set hj ry).set hl rz)⟩
theorem ag_three (K:Frag) (i j l:Nat):GAg [i,j,l] (gTup K 3 (gCons (gName i) (gCons (gName j) (gCons (gName l) gNil)))):=by
 rintro x σ H Q ⟨a,xs,rfl,sq,hl,v,r,rfl,v2,r2,rfl,v3,r3,rfl,rfl,q⟩;refine⟨a,_,rfl,sq,hl,v,_,rfl,v2,_,rfl,v3,_,rfl,rfl,⟨by simp,fun k hk =>?_⟩,q⟩
 have h1:i≠k:=fun e=>hk (by simp[e])
 have h2:j≠k:=fun e=>hk (by simp[e])
 have h3:l≠k:=fun e=>hk (by simp[e])
 rw[zK h3,zK h2,zK h1]
end
end L2
end
noncomputable section
namespace L2
open PySem
end L2
end
noncomputable section
namespace L2
open PySem PyProof.Rows
noncomputable section
variable {prog:Program}{w:World}{A:Around}{E:Value→Shared→Prop}{s:Shared}
end
end L2
end
noncomputable section
namespace L2
open PySem PyProof.Rows PySem.Spec
noncomputable section
variable {prog:Program}{w:World}{A:Around}{R:Result→Shared→Prop}{I:Addr}{fp wr:List Addr}{G:Array GenState→Array GenState→Prop}{P:Nat→Value→Prop}{St:Nat→Shared→Prop}
end
noncomputable section
variable {prog:Program}{w:World}{A:Around}{E:Value→Shared→Prop}{s:Shared}
end
end L2
end
noncomputable section
namespace L2
open PySem PyProof.Rows PySem.Spec
noncomputable section
variable {prog:Program}{w:World}{A:Around}{E:Value→Shared→Prop}{s:Shared}{a:Addr}{o:Obj}{es:Array (Int×Value)}{ep:Nat}{t:SetTable}
end
end L2
end
noncomputable section
namespace L2
open PySem PyProof.Rows PySem.Spec
noncomputable section
variable {prog:Program}{w:World}{A:Around}{E:Value→Shared→Prop}{s:Shared}{I a T:Addr}{es:Array (Int×Value)}{ep:Nat}{t:SetTable}{vs:List Value}{i:Nat}
end
end L2
end
noncomputable section
namespace L2
open PySem PyProof.Rows PySem.Spec
noncomputable section
variable {prog:Program}{w:World}{A:Around}{E:Value→Shared→Prop}{s:Shared}{a:Addr}
end
end L2
end
noncomputable section
namespace L2
open PySem PyProof.Rows PySem.Spec
noncomputable section
variable {prog:Program}{w:World}{A:Around}{E:Value→Shared→Prop}{s:Shared}{a:Addr}
end
end L2
end
noncomputable section
namespace L2
open PySem PySem.Spec PyProof.Rows
noncomputable section
variable {X:Cx}{own:List Nat}{e:Expr}{f:DF}{p q pos pos':Pos}{tl:TE}
end
end L2
end
noncomputable section
namespace L2
open PySem PySem.Spec PyProof.Rows
noncomputable section
variable {X:Cx}{own:List Nat}
variable {a b:Expr}{fa fb:DF}{pos:Pos}
end
noncomputable section
variable {X:Cx}{B:Bs}{own:List Nat}{c a b e:Expr}{pos:Pos}
end
end L2
end
noncomputable section
namespace L2
open PySem
noncomputable section
variable {X:Cx}{own:List Nat}
theorem vP (i:Nat){x:Str}{pos:Pos}(hN:X.N[i]?=some x:=by rfl) (hv:Vis X.env.scope x:=by first|exact Or.inl rfl|exact Or.inr (Or.inl rfl)|exact Or.inr (Or.inr rfl)) (hd:(x==("__debug__" : Str))=false:=by decide)
  (hcd:(x==("__classdict__" : Str))=false:=by decide) (hi:i∉own:=by decide):PE X (.Name x pos) (tP X.K own (eV i)):=dv (pv i hN hv hd hcd) hi
theorem vQ (i:Nat){x:Str}{pos:Pos}(hN:X.N[i]?=some x:=by rfl) (hv:Vis X.env.scope x:=by first|exact Or.inl rfl|exact Or.inr (Or.inl rfl)|exact Or.inr (Or.inr rfl)) (hd:(x==("__debug__" : Str))=false:=by decide)
  (hcd:(x==("__classdict__" : Str))=false:=by decide) (hi:i∉own:=by decide):PE X (.Name x pos) (tQ X.K own (eV i)):=dq (vP i hN hv hd hcd hi)
end
end L2
end
noncomputable section
namespace L2
open PySem PySem.Spec PyProof.Rows
noncomputable section
variable {M:Model}{A:Around}{E:Value→Shared→Prop}{s:Shared}{base:Heap}{env:Env}{outer:List Env}{L e:Addr}{oe:Obj}{vs:Array Value}{a0:Value}
end
end L2
end
noncomputable section
namespace L2
open PySem PySem.Spec PyProof.Rows
noncomputable section
variable {prog:Program}{w:World}{A:Around}{E:Value→Shared→Prop}{h:Heap}{g:Array GenState}{d:Drawn}{t:Nat}{os:OsState}{nm q:Str}{C N:Addr}{bs bm bmB:List Value}{hdct:Bool}{sn:List Str}{sub:List Value}{ab:Bool}{col:Option Bool}{dd:Option Addr}{k0 k1 k2 k3 k5:Option Value}{B Bn newId nid initId inN:String}{bmN:List Value}
end
end L2
end
noncomputable section
namespace L2
open PySem PySem.Spec PyProof.Rows PySem.W
noncomputable section
variable {prog:Program}{w:World}{A:Around}{E:Value→Shared→Prop}{s:Shared}{K:Frag}{C x:Addr}{ox:Obj}{od:Option Obj}{name:Str}{tk:Tok}
end
end L2
end
noncomputable section
namespace L2
open PySem PySem.Spec PyProof.Rows
noncomputable section
variable {prog:Program}{w:World}{A:Around}{E:Value→Shared→Prop}{s:Shared}{K:Frag}{C x:Addr}{name:Str}{v:Value}{vs:Array Value}
end
end L2
end
noncomputable section
namespace L2
open PySem PySem.Spec PyProof.Rows
noncomputable section
variable {M:Model}{A:Around}{E:Value→Shared→Prop}{env:Env}{nm q:Str}{C N:Addr}{bs bm:List Value}{hdct:Bool}{sn:List Str}{sub:List Value}{ab:Bool}{col:Option Bool}{dd:Option Addr}{k0 k1 k2 k3 k5:Option Value}{newId:String}{s:Shared}{x:Sem Value}
end
end L2
end
noncomputable section
namespace L2
open PySem PySem.Spec PyProof.Rows
noncomputable section
variable {X:Cx}{pins:List (Addr×Obj)}{σ:St}{H:Hp}{s:Shared}{A:Around}{E:Value→Shared→Prop}{C a t:Addr}{f:Str}
end
end L2
end
noncomputable section
namespace L2
open PySem PySem.Spec PyProof.Rows
noncomputable section
variable {X:Cx}{o value:Expr}{ta tv te:TE}{f:Str}{pos pos':Pos}
end
end L2
end
noncomputable section
namespace L2
open PySem PySem.Spec PyProof.Rows
noncomputable section
variable {P:Program}{w:World}{K:Frag}{mg:Str→Option Value}{base:Heap}{N:List Str}{qual:Str}{scope:Scope}{f:Addr}{cd:Value}{A:Around}{outer:List Env}{s₀ s:Shared}{H₀ H:Hp}{E:XK}{pins:List (Addr×Obj)}{σ:St}{a C t dx:Addr}
end
end L2
end
noncomputable section
namespace L2
open PySem PySem.Spec PyProof.Rows
noncomputable section
variable {M:Model}{A:Around}{E:Value→Shared→Prop}{s:Shared}{base:Heap}{env:Env}{outer:List Env}{L e T:Addr}{oe oT:Obj}{vs ts:Array Value}{a0:Value}
end
end L2
end
noncomputable section
namespace L2
open PySem PySem.Spec PyProof.Rows
noncomputable section
variable {X:Cx}{pins:List (Addr×Obj)}{σ:St}{H:Hp}{s:Shared}{E:Value→Shared→Prop}{a C dx T L:Addr}{oe oT:Obj}
end
end L2
end
noncomputable section
namespace L2
open PySem PySem.Spec PyProof.Rows
noncomputable section
variable {M:Model}{A:Around}{E:Value→Shared→Prop}{s:Shared}
end
end L2
end
noncomputable section
namespace L2
open PySem PySem.Spec PyProof.Rows
noncomputable abbrev Cx.mark (X:Cx) (e:Value):Cx:={ X with A:=X.A.mark (some e),calm:=false,xe:=fun _ _=>False }
noncomputable section
variable {X:Cx}{pins:List (Addr×Obj)}{σ:St}{H:Hp}{s:Shared}{E:Value→Shared→Prop}{a C dx T L:Addr}{oe oT:Obj}
theorem Cx.Ok.mark {X:Cx}(ok:X.Ok) (e:Value):(X.mark e).Ok:=
 ⟨ok.mod,ok.kind,ok.glob,ok.blt,ok.above,ok.inj,ok.has,ok.cab,fun h=>(nomatch h),ok.frames,ok.stk,ok.exf,ok.bs,ok.bsz,ok.noex,ok.exfs,ok.funs,ok.frf⟩
theorem Inv.mark (I:Inv X pins σ H s) (e:Value):Inv (X.mark e) pins σ H s:=⟨I.ok.mark e,I.os,I.bare,I.base,I.loc,I.cell,I.free,I.freeC,I.pin,I.hok,I.len⟩
end
end L2
end
noncomputable section
namespace L2
open PySem PySem.Spec PyProof.Rows
noncomputable section
variable {X:Cx}{k:Nat}{f C fI L:Addr}{fd:FuncData}{ps:List Str}{sp:Sp}{x g n cn:Str}{p p' pos apos pc hpos tpos:Pos}{e:Expr}{es:List Expr}{t:TA}{ts:TS}{b₀:Stmt}{hb:List Stmt}{hs:List ExceptHandler}{i j:Nat}
end
end L2
end
noncomputable section
namespace L2
open PySem PySem.Spec PyProof.Rows
noncomputable def oIntB:List D→Option D
 | [.bl b]=>some (.int (if b then 1 else 0))
 | _=>none
noncomputable section
variable {X:Cx}{own:List Nat}{e:Expr}{f:DF}{p pos:Pos}
theorem cd_intb:CallR X (.type "int") (rC X.K oIntB):=by
 intro pins s σ H xs us Q I r ⟨G,ds,d,gh,rd,eq,q⟩;unfold oIntB at eq
 split at eq
 ·cases eq;obtain⟨v,rfl,r1⟩:=rd.one;have:=r1.bl;subst this;obtain⟨u,rfl,ru⟩:=vals1 r;rename_i b;obtain rfl:u=Value.bool b:=ru;exact call_int_bool ⟨.int (if b then 1 else 0),H,I.tok _,⟨s.toks,rfl⟩,q _ G H (.refl gh) (rep_int.mpr rfl)⟩
 ·cases eq
theorem de_intb (hg:Gl X "int") (hm:X.mg "int" = none) (h:PE X e (tQ X.K own f)) (hs:starEach (e::[]) X.env=(false,eval e X.env)::starEach [] X.env:=by rfl):PE X (.Call (.Name "int" p) [e] [] pos) (tP X.K own (eCall oIntB (aC f aN))):=
 (pe_callTy cd_intb hg hm PyProof.Rows.boot_int (dqa_cons h dqa_nil hs) (by decide) (by decide) hs rfl).imp fun σ H Q h=>rc_of h
end
end L2
end
noncomputable section
namespace L2
open PySem PySem.Spec PyProof.Rows
noncomputable abbrev ClsA (K:Frag) (c f:Str):Prop:=∀ C,nsIn K mainGlobals c=some (some (.ref C))→Cls K C∧NoAttr K C f
noncomputable def putD (f:Str) (d:D):List Str→List D→List Str×List D
 | k::ks,x::ds=>if k=f then (k::ks,d::ds) else (k::(putD f d ks ds).1,x::(putD f d ks ds).2)
 | _,_=>([f],[d])
theorem putD_ok {K:Frag}{G:Hp}{f:Str}{d:D}{v:V}(rv:Rep K G d v):∀ {ks:List Str}{ds:List D}{vs:List V},ks.length=ds.length→Reps K G ds vs→∃ vs',putF f v (ks.zip vs)=(putD f d ks ds).1.zip vs'∧(putD f d ks ds).1.length=(putD f d ks ds).2.length∧Reps K G (putD f d ks ds).2 vs'
 | [],[],vs,hl,r=>by rw[reps_nil.mp r];exact⟨[v],rfl,rfl,.cons rv .nil⟩
 | [],x::ds,vs,hl,r=>by simp at hl
 | k::ks,[],vs,hl,r=>by simp at hl
 | k::ks,x::ds,vs,hl,r=>by
  obtain⟨u,us,rfl,ru,rs⟩:=reps_cons.mp r;simp only[zP,Nat.add_right_cancel_iff] at hl;unfold putD;rw[List.zip_cons_cons,show putF f v ((k,u)::ks.zip us)=(if k=f then (k,v)::ks.zip us else (k,u)::putF f v (ks.zip us)) from rfl]
  by_cases hk:k=f
  ·rw[if_pos hk,if_pos hk];exact⟨v::us,rfl,by simp[hl],.cons rv rs⟩
  ·rw[if_neg hk,if_neg hk];obtain⟨vs',e,l,q⟩:=putD_ok rv hl rs;exact⟨u::vs',by rw[List.zip_cons_cons,e],by simp[l],.cons ru q⟩
theorem zip_len {α β:Type}{ks:List α}{vs:List β}(h:ks.length=vs.length):(ks.zip vs).length=ks.length:=by simp[h]
theorem look_none {K:Frag}{G:Hp}{f:Str}:∀ {ks:List Str}{vs:List V},f∉ks→(ks.zip vs).lookup f=none
 | [],vs,h=>by simp
 | k::ks,[],h=>by simp
 | k::ks,v::vs,h=>by simp only[zG,not_or] at h;rw[List.zip_cons_cons,List.lookup_cons,beq_eq_false_iff_ne.mpr h.1];exact look_none (K:=K) (G:=G) h.2
noncomputable section
variable {X:Cx}{own:List Nat}{e:Expr}{pos p:Pos}{g:DF}
theorem de_fldQ {c f:Str}(h:PE X e (tQ X.K own g)) (hc:ClsA X.K c f) (hb:attributeBase e f X.env (eval e X.env)=eval e X.env:=by rfl) :
  PE X (.Attribute e f pos) (tP X.K own (eFld c f g)):=(pe_fld h hb).imp fun σ H Q ⟨G,ρ,d,gh,env,eq,k⟩=>by
 unfold eFld at eq;cases ef:g ρ with
 | none=>rw[ef] at eq;cases eq
 | some o=>
  rw[ef] at eq;refine⟨G,ρ,o,gh,env,ef,fun v G1 H1 E1 r1 =>?_⟩
  cases o<;>simp only[zA] at eq<;>try (cases eq;done)
  split at eq
  ·rename_i hcc;subst hcc;obtain⟨a,C,dx,vs,rfl,ha,n,_,rs⟩:=r1.insH E1.gh;obtain⟨u,eu,ru⟩:=fld_get rs eq;exact⟨a,C,dx,_,u,rfl,ha,(hc C n).1,(hc C n).2,eu,k u G1 H1 E1 ru⟩
  ·cases eq
end
noncomputable section
variable {X:Cx}{B:Bs}{oL own own1:List Nat}{e:Expr}{pos pos' p:Pos}
noncomputable def sNever:DG:=fun _=>none
theorem ds_never {st:Stmt}:PS X st (tDS X.K B oL own own1 sNever):=ps_never.imp fun D σ H ⟨G,ρ,o,S,eq,k⟩=>by cases eq
noncomputable def insAt (c:Str) (i:Nat) (ρ:DEnv):Option (List Str×List D):=(eV i ρ).bind fun d=>match d with|.ins c' ks ds=>if c'=c then some (ks,ds) else none|_=>none
theorem insAt_some {c:Str}{i:Nat}{ρ:DEnv}{ks:List Str}{ds:List D}(h:insAt c i ρ=some (ks,ds)):ρ[i]?=some (some (.ins c ks ds)):=by
 unfold insAt at h;cases ef:eV i ρ with
 | none=>rw[ef] at h;cases h
 | some d=>
  rw[ef] at h;have:=eV_some ef;cases d<;>simp only[zA] at h<;>try (cases h;done)
  split at h
  ·rename_i hc;cases h;subst hc;exact this
  ·cases h
theorem SR.ownI {K:Frag}{G H:Hp}{σ:St}{ρ:DEnv}{i:Nat}{c:Str}{ks:List Str}{ds:List D}(S:SR K B own G H σ ρ) (hi:i∈own) (h:ρ[i]?=some (some (.ins c ks ds))) :
  ∃ a C dx vs,σ[i]?=some (some (.ref a))∧H a=some (.ins C dx (ks.zip vs))∧nsIn K mainGlobals c=some (some (.ref C))∧ks.length=ds.length∧Reps K G ds vs∧G a=none∧B.2 a=none:=by
 obtain⟨a,o0,e2,e3,⟨C,dx,vs,rfl,n,l,r⟩,e5⟩:=S.ownd i _ hi h;exact⟨a,C,dx,vs,e2,e3,n,l,r,e5⟩
noncomputable def sFldD (i:Nat) (c f:Str) (fe:DF):DG:=fun ρ=>(fe ρ).bind fun d=>(insAt c i ρ).bind fun q=>if q.1.length<999 then some (.nx (ρ.set i (some (.ins c (putD f d q.1 q.2).1 (putD f d q.1 q.2).2)))) else none
theorem ds_fld {i:Nat}{x c f:Str}{fe:DF}(h:PE X (.Name x p) (tVar i)) (he:PE X e (tP X.K own fe)) (hc:ClsA X.K c f) (hi:i∈own:=by decide) (hs:swapsWith e (some (.Attribute (.Name x p) f pos')) pos.line X.env=pure false:=by rfl) :
  PS X (.Assign [.Attribute (.Name x p) f pos'] e pos) (tDS X.K B oL own own (sFldD i c f fe)):=(ps_fld h he hs).imp fun D σ H ⟨G,ρ,o,S,eq,k⟩=>by
 unfold sFldD at eq;cases ef:fe ρ with
 | none=>rw[ef] at eq;cases eq
 | some d=>
  rw[ef] at eq;cases el:insAt c i ρ with
  | none=>simp[el] at eq
  | some q=>
   obtain⟨ks,ds⟩:=q;simp only[el,zA] at eq
   split at eq
   ·cases eq;rename_i hz;have hd:=insAt_some el;refine⟨G,ρ,d,S.gh,S.envR,ef,fun v G' H' E r =>?_⟩
    have S':=S.ext E;obtain⟨a,C,dx,vs,e2,e3,n,l,e4,e5,e6⟩:=S'.ownI hi hd;obtain⟨vs',ez,lz,rz⟩:=putD_ok (f:=f) r l e4;refine⟨_,e2,a,C,dx,_,rfl,e3,(hc C n).1,(hc C n).2,?_,?_⟩
    ·rw[zip_len (by rw[l,e4.length])];omega
    ·rw[ez];exact k _ G' _ (S'.mutC hi hd e2 ⟨C,dx,vs',rfl,n,lz,rz⟩)
   ·cases eq
noncomputable def sFldAugD (i:Nat) (c f:Str) (op:Int→Int→Int) (fe:DF):DG:=fun ρ=>(fe ρ).bind fun d=>(insAt c i ρ).bind fun q=>match (q.1.zip q.2).lookup f,d with
 | some (.int a),.int b=>if q.1.length<999 then some (.nx (ρ.set i (some (.ins c (putD f (.int (op a b)) q.1 q.2).1 (putD f (.int (op a b)) q.1 q.2).2)))) else none
 | _,_=>none
noncomputable abbrev rOpI (op:Int→Int→Int):V→V→Hp→VK→Prop:=fun x y H Q=>∃ i j,x=.int i∧y=.int j∧Q (.int (op i j)) H
theorem ds_fldaug {i:Nat}{x c f:Str}{op:Int→Int→Int}{o:Operator}{fe:DF}(hop:InOp X o (rOpI op)) (h:PE X (.Name x p) (tVar i)) (he:PE X e (tP X.K own fe)) (hc:ClsA X.K c f) (hi:i∈own:=by decide) :
  PS X (.AugAssign (.Attribute (.Name x p) f pos') o e pos) (tDS X.K B oL own own (sFldAugD i c f op fe)):=(ps_fldaug h he hop).imp fun D σ H ⟨G,ρ,o,S,eq,k⟩=>by
 unfold sFldAugD at eq;cases ef:fe ρ with
 | none=>rw[ef] at eq;cases eq
 | some d=>
  rw[ef] at eq;cases el:insAt c i ρ with
  | none=>simp[el] at eq
  | some q=>
   obtain⟨ks,ds⟩:=q;simp only[el,zA] at eq
   split at eq
   ·rename_i dv db ia ib hla
    split at eq
    ·cases eq;rename_i hz;have hd:=insAt_some el;obtain⟨a,C,dx,vs,e2,e3,n,l,e4,e5,e6⟩:=S.ownI hi hd;obtain⟨u,eu,ru⟩:=fld_get e4 hla;cases rep_int.mp ru;refine⟨_,e2,a,C,dx,_,_,rfl,e3,(hc C n).1,(hc C n).2,eu,G,ρ,_,S.gh,S.envR,ef,fun v G' H' E r =>?_⟩
     cases rep_int.mp r;have S':=S.ext E;obtain⟨a',C',dx',vs',f2,f3,n',l',f4,f5,f6⟩:=S'.ownI hi hd;rw[e2] at f2;cases f2;rw[n] at n';cases n';obtain⟨vs2,ez,lz,rz⟩:=putD_ok (f:=f) (d :=.int (op ia ib)) (rep_int.mpr rfl) l f4;refine⟨_,_,rfl,rfl,dx',_,f3,?_,?_⟩
     ·rw[zip_len (by rw[l,f4.length])];omega
     ·rw[ez];exact k _ G' _ (S'.mutC hi hd e2 ⟨C,dx',vs2,rfl,n,lz,rz⟩)
    ·cases eq
   ·cases eq
noncomputable def sExprM (f:DM):DG:=fun ρ=>(f ρ).map fun q =>.nx q.2
theorem ds_exprM {f:DM}(he:PE X e (tM X.K B own f)) (hs:swapsWith e none pos.line X.env=pure false:=by rfl):PS X (.Expr e pos) (tDS X.K B oL own own (sExprM f)):=(ps_expr he hs).imp fun D σ H ⟨G,ρ,o,S,eq,k⟩=>by
 unfold sExprM at eq;cases ef:f ρ with
 | none=>rw[ef] at eq;cases eq
 | some q=>obtain⟨d,ρ1⟩:=q;rw[ef] at eq;cases eq;exact⟨G,ρ,d,ρ1,S,ef,fun v G' H' S' _ r=>k σ G' H' S'⟩
noncomputable def sSetOM (i:Nat) (g:DMA):DG:=fun ρ=>(g ρ).bind fun q=>if q.1.length≤1000 then some (.nx (q.2.set i (some (.lst q.1)))) else none
theorem ds_setOM {i:Nat}{x:Str}{g:DMA}{es:List Expr}{pos2:Pos}(hN:X.N.Nodup) (hi:X.N[i]?=some x) (hx:Loc X.env.scope x) (he:PA X es (tMA X.K B own g)) (ho:i∈own:=by decide) (hpin:∀ a,(i,a)∉B.3:=by intro a;simp_all)
  (hs:swapsWith (.List es pos2) (some (.Name x pos')) pos.line X.env=pure false:=by rfl) (hf:X.fn x=true∨X.env.scope.names.lookup x=some .local:=by first|exact .inl rfl|exact .inr rfl|assumption) :
  PS X (.Assign [.Name x pos'] (.List es pos2) pos) (tDS X.K B oL own own (sSetOM i g)):=(ps_set hN hi hx (pe_lst he) hs hf).imp fun D σ H ⟨G,ρ,o,S,eq,k⟩=>by
 unfold sSetOM at eq;cases ef:g ρ with
 | none=>rw[ef] at eq;cases eq
 | some q=>
  obtain⟨xs,ρ1⟩:=q;rw[ef] at eq;have eq:(if xs.length≤1000 then some (DO.nx (ρ1.set i (some (.lst xs)))) else none)=some o:=eq
  split at eq
  ·cases eq;rename_i hz;refine⟨G,ρ,xs,ρ1,S,ef,fun vs G' H' S' s' r=>⟨by rw[← r.length];exact yB hz line1000,fun q hq =>?_⟩⟩
   exact k _ G' _ (S'.setO ho (Ext.lay (p:=q) (o :=.lst vs) S'.gh hq) hq (S'.gh.free hq) upd_same r hpin)
  ·cases eq
end
noncomputable def spC (K:Frag) (p:Nat) (F:List D→Option (D×D)):Sp:=fun vs H Q _=>∃ G ds d c' a o c,Same G H∧ds[p]?=some c∧vs[p]?=some (.ref a)∧H a=some o∧Cell K G c o∧G a=none ∧
 (∀ (i:Nat) c,i≠p→ds[i]?=some c→∃ v,vs[i]?=some v∧Rep K G c v)∧ds.length=vs.length∧F ds=some (d,c') ∧
 ∀ v o' G' H',Ext G (era H a) G' H'→G' a=none→H' a=some o'→Cell K G' c' o'→Rep K G' d v→Q v H'
noncomputable def outC (p:Nat):DO→Option (D×D)
 | .rm d ρ=>(eV p ρ).map fun c=>(d,c)
 | .nx ρ=>(eV p ρ).map fun c=>(.non,c)
 | _=>none
noncomputable def runC (n N p:Nat) (g:DG) (ds:List D):Option (D×D):=if ds.length=n then (g (startD N ds)).bind (outC p) else none
theorem start_SRC {K:Frag}{G H:Hp}{own:List Nat}{N:List Str}{p:Nat}{ds:List D}{c:D}{o:HO}{vs:List V}{a:Addr}(s:Same G H) (hp:p∈own) (hd:ds[p]?=some c) (hv:vs[p]?=some (.ref a)) (ha:H a=some o) (r:Cell K G c o) (ga:G a=none)
  (ro:∀ (i:Nat) c,i≠p→ds[i]?=some c→∃ v,vs[i]?=some v∧Rep K G c v) (hl:ds.length=vs.length) (ho:∀ i∈own,i=p∨ds.length≤i):SR K ⟨G,era H a,[(p,a)]⟩ own G H (start N vs) (startD N.length ds):=by
 have getσ:∀ (i:Nat) v,vs[i]?=some v→(start N vs)[i]?=some (some v):=fun i v e=>by have hi:i<vs.length:=(zC.mp e).1;unfold start;rw[yD (by simpa using hi),zM,e];rfl
 have isp:∀ i∈own,(∃ d,(startD N.length ds)[i]?=some (some d))→i=p:=fun i hi ⟨d,e⟩=>by
  have:=(zC.mp (start_get e)).1;rcases ho i hi with z|z
  ·exact z
  ·omega
 refine⟨s,Same.refl _,era_sub,fun b o e =>.inl e,fun i d hi e =>?_,fun i d hi e =>?_,fun i j b hi hj di dj _ _=>(isp i hi di).trans (isp j hj dj).symm,by simp[start,startD,hl],fun i b h =>?_⟩
 ·obtain⟨v,ev,rv⟩:=ro i d (fun z=>hi (z ▸ hp)) (start_get e)
  exact⟨v,getσ i v ev,rv⟩
 ·have z:=isp i hi ⟨d,e⟩;subst z;have e':=start_get e;rw[hd] at e';cases e';exact⟨a,_,getσ _ _ hv,ha,r,ga,era_self⟩
 ·have z:(i,b)=(p,a):=by simpa using h
  cases z;exact⟨hp,getσ _ _ hv⟩
noncomputable section
variable {P:Program}{w:World}{K:Frag}{mg:Str→Option Value}{base:Heap}
theorem Fun.okC {x qual:Str}{st:Stmt}{f:Addr}{fd:FuncData}{N ps:List Str}{k:Nat}(F:Fun K x qual st f fd) (S:FnScope N ps (defScope st)) (p:Nat) {own own':List Nat}{g:DG}(hp:p∈own) (hown:∀ i∈own,i=p∨ps.length≤i)
  (hb:∀ (cdv:Value) (A:Around) (outer:List Env) (s:Shared) (H:Hp) (E:XK),Room k (A.deeper (envOfC qual (defScope st) s.heap.objs.size f cdv))→∀ (B:Bs) (a:Addr),B.3=[(p,a)] →
   PSs (cxOf CX0 P w K mg base N qual (defScope st) f cdv A outer s H E).nox (defBody st) (tDS K B [] own own' g)):FnOk P w K mg base CX0 (k+1) f fd ps (spC K p (runC ps.length N.length p g)):=by
 refine F.ok S (fun vs H Q E h =>?_) (fun cdv A outer s H vs Q E hr h =>?_)
 ·obtain⟨G,ds,d,c',a,o,c,gh,hd,hv,ha,r,ga,ro,hl,eq,_⟩:=h;unfold runC at eq
  split at eq
  ·rw[← hl];assumption
  ·cases eq
 ·obtain⟨G,ds,d,c',a,o,c,gh,hd,hv,ha,r,ga,ro,hl,eq,q⟩:=h;unfold runC at eq
  split at eq
  ·rename_i hn;refine⟨_,hb cdv A outer s H E hr ⟨G,era H a,[(p,a)]⟩ a rfl,?_⟩;cases eg:g (startD N.length ds) with
   | none=>rw[eg] at eq;cases eq
   | some oo=>
    rw[eg] at eq;have fin:∀ {σ:St}{ρ:DEnv}{G' H':Hp}{o':List Nat}{y:D},SR K ⟨G,era H a,[(p,a)]⟩ o' G' H' σ ρ→eV p ρ=some y→∃ ob,H' a=some ob∧Cell K G' y ob∧G' a=none:=fun {σ ρ G' H' o' y} S' el=>by
     obtain⟨hp',hσ⟩:=S'.pin p a (by simp)
     obtain⟨b,ob,f2,f3,f4,f5,_⟩:=S'.ownd p _ hp' (eV_some el);rw[hσ] at f2;cases f2;exact⟨ob,f3,f4,f5⟩
    refine⟨G,_,oo,start_SRC gh hp hd hv ha r ga ro hl (by rw[hn];exact hown),eg,?_⟩
    cases oo with
    | rm d' ρ=>
     have eq:Option.map (fun c=>(d',c)) (eV p ρ)=some (d,c'):=eq
     cases el:eV p ρ with
     | none=>rw[el] at eq;cases eq
     | some y=>rw[el] at eq;cases eq;intro v σ G' H' ⟨o',S'⟩ rv;obtain⟨ob,f3,f4,f5⟩:=fin S' el;exact q v ob G' H' S'.toExt f5 f3 f4 rv
    | nx ρ=>
     have eq:Option.map (fun c=>(D.non,c)) (eV p ρ)=some (d,c'):=eq
     cases el:eV p ρ with
     | none=>rw[el] at eq;cases eq
     | some y=>rw[el] at eq;cases eq;intro σ G' H' S';obtain⟨ob,f3,f4,f5⟩:=fin S' el;exact q _ ob G' H' S'.toExt f5 f3 f4 (rep_non.mpr rfl)
    | rt d'=>cases eq
    | ro d'=>cases eq
    | bk ρ=>cases eq
    | ct ρ=>cases eq
  ·cases eq
structure OkMt (P:Program) (w:World) (K:Frag) (mg:Str→Option Value) (base:Heap) (c m:Str) (k:Nat) (sp:Sp):Prop where
 ex:∃ C f fd ps,nsIn K mainGlobals c=some (some (.ref C))∧Cls K C∧Meth K C m f∧FnOk P w K mg base CX0 k f fd ps sp∧Binds K fd ps []
theorem OkMt.mono {c m:Str}{j k:Nat}{sp:Sp}(h:OkMt P w K mg base c m j sp) (hk:j≤k):OkMt P w K mg base c m k sp:=by
 obtain⟨C,f,fd,ps,h1,h2,h3,h4,h5⟩:=h.ex;exact⟨C,f,fd,ps,h1,h2,h3,h4.mono hk,h5⟩
structure OkMk (P:Program) (w:World) (K:Frag) (mg:Str→Option Value) (base:Heap) (c:Str) (k:Nat) (sp:Sp):Prop where
 ex:∃ C f fd ps,nsIn K mainGlobals c=some (some (.ref C))∧mg c=some (.ref C)∧Mk K C f∧FnOk P w K mg base CX0 k f fd ps sp∧Binds K fd ps []
end
noncomputable section
variable {X:Cx}{B:Bs}{own:List Nat}{e o:Expr}{es:List Expr}{pos p apos:Pos}{pl:Sem Bool}
noncomputable def eMethS (c m:Str) (F:List D→Option D) (fo:DF) (g:DL):DF:=fun ρ=>(fo ρ).bind fun x=>match x with
 | .ins c' ks ds=>if c'=c∧m∉ks then (g ρ).bind fun xs=>(F (.ins c' ks ds::xs)).bind fun d=>if scalD d=true then some d else none else none
 | _=>none
theorem methS_of {c m:Str}{F:List D→Option D}{fo:DF}{g:DL}{C:Addr}{σ:St}{H:Hp}{Q:VK}{t:TA}(n:nsIn X.K mainGlobals c=some (some (.ref C))) (ht:∀ σ H Q,tQA X.K own g σ H Q→t σ H Q)
  (h:tP X.K own (eMethS c m F fo g) σ H Q):tMeth C m (spF X.K F) [] E0 (tQ X.K own fo) t σ H Q:=by
 obtain⟨G,ρ,d,gh,env,eq,q⟩:=h;unfold eMethS at eq;cases ef:fo ρ with
 | none=>rw[ef] at eq;cases eq
 | some x=>
  rw[ef] at eq;cases x<;>simp only[zA] at eq<;>try (cases eq;done)
  rename_i c' ks ds
  split at eq
  ·rename_i hc;obtain⟨rfl,hm⟩:=hc;cases eg:g ρ with
   | none=>simp[eg] at eq
   | some xs=>
    cases eF:F (.ins c' ks ds::xs) with
    | none=>simp[eg,eF] at eq
    | some d'=>
     simp only[eg,eF,zA] at eq
     split at eq
     ·cases eq;rename_i hd;refine⟨G,ρ,_,gh,env,ef,fun v G1 H1 E1 r1 =>?_⟩
      obtain⟨a,C',dx,vs,rfl,ha,n',l,rs⟩:=r1.insH E1.gh;rw[n] at n';cases n';refine⟨a,dx,_,rfl,ha,look_none (K:=X.K) (G:=G1) hm,ht _ _ _ ⟨G1,ρ,xs,E1.gh,env.ext E1,eg,fun us G2 H2 E2 r2 =>?_⟩⟩
      show spF X.K F (.ref a::(us++[])) H2 Q E0;rw[List.append_nil];have ra:RepsO X.K G2 H2 (.ins c' ks ds::xs) (.ref a::us) :=.cons (r1.ext E2) r2;exact⟨H2,_,d,Same.refl _,ra.all E2.gh,eF,fun v G3 H3 E3 r3=>q v G2 H3 ((E1.trans E2).trans ⟨E3.hh,Same.refl _,E2.gh.trans E3.hh,fun b o z =>.inl z⟩) (scal_rep hd r3)⟩
     ·cases eq
  ·cases eq
theorem de_methS0 {c m:Str}{k:Nat}{F:List D→Option D}{fo:DF}(h:OkMt X.prog X.w X.K X.mg X.base c m k (spF X.K F)) (hr:Room k X.A) (ho:PE X o (tQ X.K own fo))
  (ht:eval (.Call (.Attribute o m apos) [] [] pos) X.env=(do
   let ov ← eval o X.env
   standAt apos.atName
   let (f,first) ← holding [ov] (getMethod ov m pl)
   callWith pos f first (backTo pos (starEach [] X.env)) (backToKw pos (keywordEach [] X.env))):=by rfl):PE X (.Call (.Attribute o m apos) [] [] pos) (tP X.K own (eMethS c m F fo aN)):=by
 obtain⟨C,f,fd,ps,n,hc,hm,h1,hb⟩:=h.ex;exact(pe_meth0 (pl:=pl) ho hc hm h1 hr hb .nil pass0 ht).imp fun σ H Q q=>methS_of n (fun σ H Q ⟨G,ρ,ds,gh,env,eq,k⟩=>by cases eq;exact k _ G H (.refl gh) .nil) q
noncomputable def mMeth (c m:Str) (F:List D→Option (D×D)) (j:Nat) (g:DL):DM:=fun ρ=>(insAt c j ρ).bind fun q=>if m∉q.1 then (g ρ).bind fun xs=>(F (.ins c q.1 q.2::xs)).map fun r=>(r.1,ρ.set j (some r.2)) else none
theorem meth_of {c m:Str}{F:List D→Option (D×D)}{j:Nat}{g:DL}{C:Addr}{σ:St}{H:Hp}{Q:VK}{t:TA}(n:nsIn X.K mainGlobals c=some (some (.ref C))) (hj:j∈own) (ht:∀ σ H Q,tPA X.K own g σ H Q→t σ H Q)
  (h:tM X.K B own (mMeth c m F j g) σ H Q):tMeth C m (spC X.K 0 F) [] E0 (tVar j) t σ H Q:=by
 obtain⟨G,ρ,d,ρ',S,eq,q⟩:=h;unfold mMeth at eq;cases el:insAt c j ρ with
 | none=>rw[el] at eq;cases eq
 | some qq=>
  obtain⟨ks,ds⟩:=qq;rw[el] at eq;simp only[zA] at eq
  split at eq
  ·rename_i hm;cases eg:g ρ with
   | none=>simp[eg] at eq
   | some xs=>
    simp only[eg,zA] at eq;cases eF:F (.ins c ks ds::xs) with
    | none=>rw[eF] at eq;cases eq
    | some r=>
     obtain⟨d',c'⟩:=r;rw[eF] at eq;cases eq;have hd:=insAt_some el;obtain⟨a,C',dx,vs,e2,e3,n',l,e4,e5,e6⟩:=S.ownI hj hd;rw[n] at n';cases n';refine⟨_,e2,a,dx,_,rfl,e3,look_none (K:=X.K) (G:=G) hm,ht _ _ _ ⟨G,ρ,xs,S.gh,S.envR,eg,fun us G1 H1 E1 r1 =>?_⟩⟩
     have S1:=S.ext E1;obtain⟨a',o1,f2,f3,f4,f5,f6⟩:=S1.ownd j _ hj hd;rw[e2] at f2;cases f2;show spC X.K 0 F (.ref a::(us++[])) H1 Q E0;rw[List.append_nil];refine⟨G1,.ins c ks ds::xs,d',c',a,o1,.ins c ks ds,E1.gh,rfl,rfl,f3,f4,f5,fun i x hi ec =>?_,by simp[r1.length],eF,fun v o' G2 H2 E2 g2 h2 r2 r3 =>?_⟩
     ·cases i with
      | zero=>exact absurd rfl hi
      | succ i=>exact r1.get (i:=i) (by simpa using ec)
     ·exact q v G2 H2 (S1.calledC hj hd e2 E2 g2 h2 r2) (E1.gg.trans E2.gg) r3
  ·cases eq
theorem dm_meth0 {c m y:Str}{k j:Nat}{F:List D→Option (D×D)}(h:OkMt X.prog X.w X.K X.mg X.base c m k (spC X.K 0 F)) (hr:Room k X.A) (ho:PE X (.Name y p) (tVar j)) (hj:j∈own:=by decide)
  (ht:eval (.Call (.Attribute (.Name y p) m apos) [] [] pos) X.env=(do
   let ov ← eval (.Name y p) X.env
   standAt apos.atName
   let (f,first) ← holding [ov] (getMethod ov m pl)
   callWith pos f first (backTo pos (starEach [] X.env)) (backToKw pos (keywordEach [] X.env))):=by rfl):PE X (.Call (.Attribute (.Name y p) m apos) [] [] pos) (tM X.K B own (mMeth c m F j aN)):=by
 obtain⟨C,f,fd,ps,n,hc,hm,h1,hb⟩:=h.ex;exact(pe_meth0 (pl:=pl) ho hc hm h1 hr hb .nil pass0 ht).imp fun σ H Q q=>meth_of n hj (fun σ H Q ⟨G,ρ,ds,gh,env,eq,k⟩=>by cases eq;exact k _ G H (.refl gh) .nil) q
theorem dm_meth {c m y:Str}{k j:Nat}{F:List D→Option (D×D)}{g:DL}(h:OkMt X.prog X.w X.K X.mg X.base c m k (spC X.K 0 F)) (hr:Room k X.A) (ho:PE X (.Name y p) (tVar j)) (ha:PA X (e::es) (tPA X.K own g)) (hj:j∈own:=by decide)
  (hst:starEach (e::es) X.env=(false,eval e X.env)::starEach es X.env:=by rfl) (hpl:(backTo pos (starEach es X.env)).any (·.1)=false:=by rfl)
  (ht:eval (.Call (.Attribute (.Name y p) m apos) (e::es) [] pos) X.env=(do
   let ov ← eval (.Name y p) X.env
   standAt apos.atName
   let (f,first) ← holding [ov] (getMethod ov m pl)
   callWith pos f first (backTo pos (starEach (e::es) X.env)) (backToKw pos (keywordEach [] X.env))):=by rfl):PE X (.Call (.Attribute (.Name y p) m apos) (e::es) [] pos) (tM X.K B own (mMeth c m F j g)):=by
 obtain⟨C,f,fd,ps,n,hc,hm,h1,hb⟩:=h.ex;exact(pe_meth (pl:=pl) ho hc hm h1 hr hb .nil pass0 ha hst hpl ht).imp fun σ H Q q=>meth_of n hj (fun _ _ _ z=>z) q
noncomputable def tFC (K:Frag) (own:List Nat) (f:DF):TE:=fun σ H Q=>∃ G ρ d,Same G H∧EnvR K own G H σ ρ∧f ρ=some d∧∀ p o G' H',Ext G H G' H'→H p=none→G' p=none→H' p=some o→Cell K G' d o→Q (.ref p) H'
noncomputable def eMake (c:Str) (F:List D→Option (D×D)) (g:DL):DF:=fun ρ=>(g ρ).bind fun xs=>(F (.ins c [] []::xs)).bind fun r=>match r.1 with|.non=>some r.2|_=>none
theorem dc_make {c:Str}{k:Nat}{F:List D→Option (D×D)}{g:DL}(h:OkMk X.prog X.w X.K X.mg X.base c k (spC X.K 0 F)) (hr:Room (k+1) X.A) (hg:Gl X c) (ha:PA X (e::es) (tPA X.K own g)) (hdb:(c==("__debug__" : Str))=false:=by decide)
  (he:starEach (e::es) X.env=(false,eval e X.env)::starEach es X.env:=by rfl) (hpl:(backTo pos (starEach es X.env)).any (·.1)=false:=by rfl):PE X (.Call (.Name c p) (e::es) [] pos) (tFC X.K own (eMake c F g)):=by
 obtain⟨C,f,fd,ps,n,hm,hk,h1,hb⟩:=h.ex;refine(pe_make hk h1 hr hg hm hb .nil pass0 ha hdb he hpl).imp fun σ H Q ⟨G,ρ,d,gh,env,eq,q⟩ =>?_
 unfold eMake at eq;cases eg:g ρ with
 | none=>rw[eg] at eq;cases eq
 | some xs=>
  simp only[eg,zA] at eq;cases eF:F (.ins c [] []::xs) with
  | none=>rw[eF] at eq;cases eq
  | some r=>
   obtain⟨d',c'⟩:=r;rw[eF] at eq;cases d'<;>simp only[zA] at eq<;>try (cases eq;done)
   cases eq;refine⟨G,ρ,xs,gh,env,eg,fun us G1 H1 E1 r1 x dx nx ndx ne =>?_⟩
   show spC X.K 0 F (.ref x::(us++[])) _ _ E0;rw[List.append_nil];have g1x:G1 x=none:=E1.gh.free nx;have s2:Same G1 (upd (upd H1 dx (.own x)) x (.ins C dx [])):=E1.gh.trans ((Same.alloc ndx).trans (.alloc (by rw[upd_ne (Ne.symm ne)];exact nx)))
   refine⟨G1,.ins c [] []::xs,.non,_,x,_,.ins c [] [],s2,rfl,rfl,upd_same,⟨C,dx,[],rfl,n,rfl,.nil⟩,g1x,fun i y hi ec =>?_,by simp[r1.length],eF,fun v o' G2 H2 E2 g2 h2 r2 r3=>⟨rep_non.mp r3,?_⟩⟩
   ·cases i with
    | zero=>exact absurd rfl hi
    | succ i=>exact r1.get (i:=i) (by simpa using ec)
   ·refine q x o' G2 H2 (E1.trans ⟨fun b o e=>E2.hh b o ?_,E2.gg,E2.gh,fun b o e =>?_⟩) (E1.hh.free nx) g2 h2 r2
    ·have hb:b≠x:=ne_of_none e nx;rw[era_ne hb,upd_ne hb,upd_ne (ne_of_none e ndx)];exact e
    ·rcases E2.fr b o e with z|z
     ·exact .inl z
     ·refine .inr ?_;by_cases hb:b=x
      ·subst hb;exact nx
      ·by_cases hb2:b=dx
       ·subst hb2;exact ndx
       ·rw[era_ne hb,upd_ne hb,upd_ne hb2] at z;exact z
theorem ds_setC {oL:List Nat}{i:Nat}{x:Str}{f:DF}{pos':Pos}(hN:X.N.Nodup) (hi:X.N[i]?=some x) (hx:Loc X.env.scope x) (he:PE X e (tFC X.K own f)) (ho:i∈own:=by decide) (hpin:∀ a,(i,a)∉B.3:=by intro a;simp_all)
  (hs:swapsWith e (some (.Name x pos')) pos.line X.env=pure false:=by rfl) (hf:X.fn x=true∨X.env.scope.names.lookup x=some .local:=by first|exact .inl rfl|exact .inr rfl|assumption) :
  PS X (.Assign [.Name x pos'] e pos) (tDS X.K B oL own own (sSet i f)):=(ps_set hN hi hx he hs hf).imp fun D σ H ⟨G,ρ,o,S,eq,k⟩=>by
 unfold sSet at eq;cases ef:f ρ with
 | none=>rw[ef] at eq;cases eq
 | some d=>rw[ef] at eq;cases eq;exact⟨G,ρ,d,S.gh,S.envR,ef,fun p ob G' H' E hp gp hv r=>k _ G' H' (S.setC ho E hp gp hv r hpin)⟩
end
end L2
end
noncomputable section
namespace L2
open PySem PySem.Spec PyProof.Rows
noncomputable section
variable {X:Cx}{own:List Nat}{a b c e:Expr}{pos p:Pos}{fa fb fc f:DF}
noncomputable def tChainD (o o':D→D→Option D) (fa fb fc:DF):DT:=fun ρ=>(fa ρ).bind fun x=>(fb ρ).bind fun y=>(o x y).bind fun z=>match z with
 | .bl true=>(fc ρ).bind fun w=>(o' y w).bind fun d=>match d with|.bl k=>some k|_=>none
 | .bl false=>some false
 | _=>none
theorem dt_chain {op op':CmpOp}{o o':D→D→Option D}(ho:OpD X (compareOp op) o) (ho':OpD X (compareOp op') o') (ha:PE X a (tQ X.K own fa)) (hb:PE X b (tQ X.K own fb)) (hc:PE X c (tQ X.K own fc))
  (hm:lastMarks [op,op'] [b,c]=false:=by with_unfolding_all rfl):PT X (.Compare a [op,op'] [b,c] pos) (tPT X.K own (tChainD o o' fa fb fc)):=
 (pt_chain ho ho' ha hb hc hm).imp fun σ H Q ⟨G,ρ,k,gh,env,eq,q⟩=>by
  unfold tChainD at eq;cases ea:fa ρ with
  | none=>rw[ea] at eq;cases eq
  | some x=>
   cases eb:fb ρ with
   | none=>simp[ea,eb] at eq
   | some y=>
    simp only[ea,eb,zA] at eq;cases eo:o x y with
    | none=>rw[eo] at eq;cases eq
    | some z=>
     rw[eo] at eq;cases z<;>simp only[zA] at eq<;>try (cases eq;done)
     rename_i zb;refine⟨G,ρ,x,gh,env,ea,fun v G1 H1 E1 r1=>⟨G1,ρ,y,E1.gh,env.ext E1,eb,fun u G2 H2 E2 r2=>⟨G2,x,y,.bl zb,E2.gh,r1.ext E2,r2,eo,fun w G3 H3 E3 r3=>⟨zb,rep_bl.mp r3,?_⟩⟩⟩⟩
     have E13:=(E1.trans E2).trans E3;cases zb with
     | false=>cases eq;exact iteF ⟨false,rfl,q G3 H3 E13⟩
     | true=>
      cases ec:fc ρ with
      | none=>simp[ec] at eq
      | some w2=>
       simp only[ec,zA] at eq;cases eo':o' y w2 with
       | none=>rw[eo'] at eq;cases eq
       | some d2=>
        rw[eo'] at eq;cases d2<;>simp only[zA] at eq<;>try (cases eq;done)
        cases eq;exact iteT ⟨G3,ρ,w2,E3.gh,env.ext E13,ec,fun v4 G4 H4 E4 r4=>⟨G4,y,w2,_,E4.gh,(r2.ext E3).ext E4,r4,eo',fun v5 G5 H5 E5 r5=>⟨_,rep_bl.mp r5,q G5 H5 ((E13.trans E4).trans E5)⟩⟩⟩
theorem op_le_str:OpR X (compareOp .LtE) (fun x y H Q=>∃ i j,x=.str i∧y=.str j∧Q (.bl (!decide (j.cps.toList<i.cps.toList))) H):=by
 intro pins s σ H x y v u Q I rx ry h;obtain⟨i,j,rfl,rfl,q⟩:=h;obtain⟨t,rfl⟩:=rx;obtain⟨t',rfl⟩:=ry;exact PySem.P.le_str (fin_bl I q rfl)
noncomputable def oLeS:D→D→Option D
 | .str x,.str y=>some (.bl (!decide (y.cps.toList<x.cps.toList)))
 | _,_=>none
theorem od_leS:OpD X (compareOp .LtE) oLeS:=OpR.imp op_le_str fun x y H Q ⟨G,d1,d2,d,gh,h1,h2,eq,q⟩=>by
 cases d1<;>cases d2<;>simp only[oLeS] at eq<;>try (cases eq;done)
 cases eq;exact⟨_,_,h1.str,h2.str,q _ G H (.refl gh) (rep_bl.mpr rfl)⟩
noncomputable def oOrd:List D→Option D
 | [.str x]=>if x.length=1 then some (.int (x.cps.getD 0 0:Nat)) else none
 | _=>none
theorem cd_ord:CallR X (.builtin "ord") (rC X.K oOrd):=by
 intro pins s σ H xs us Q I rv ⟨G,ds,d,gh,r,eq,q⟩;unfold oOrd at eq
 split at eq
 ·split at eq
  ·cases eq;rename_i hz;obtain⟨v,rfl,r1⟩:=r.one;refine call_ord pins s σ H _ us Q I rv ⟨_,by rw[r1.str],hz,q _ G H (.refl gh) (rep_int.mpr rfl)⟩
  ·cases eq
 ·cases eq
theorem de_ord (hg:Gl X "ord") (hm:X.mg "ord" = none) (h:PE X e (tQ X.K own f)) (hs:starEach (e::[]) X.env=(false,eval e X.env)::starEach [] X.env:=by rfl):PE X (.Call (.Name "ord" p) [e] [] pos) (tP X.K own (eCall oOrd (aC f aN))):=
 de_callB cd_ord hg hm PyProof.Rows.boot_ord (dqa_cons h dqa_nil hs) (by decide) (by decide) hs rfl
theorem de_globI {x:Str}{i:Int}{t:Tok}(hg:Gl X x) (hm:X.mg x=some (.int i t)) (hd:(x==("__debug__" : Str))=false:=by decide):PE X (.Name x pos) (tP X.K own (eK (.int i))):=
 (pe_glob (v :=.int i) hg hm ⟨t,rfl⟩ hd).imp fun σ H Q ⟨G,ρ,d,gh,env,eq,k⟩=>by cases eq;exact k _ G H (.refl gh) (rep_int.mpr rfl)
end
noncomputable def tabK (tab:List (Str×Str)):List (Key×V):=tab.map fun q=>(Sum.inr q.1,V.str q.2)
theorem tab_val (k:Str):∀ tab:List (Str×Str),valV (tabK tab) (Sum.inr k)=(tab.lookup k).map V.str
 | []=>rfl
 | (x,y)::r=>by
  rw[List.lookup_cons];by_cases h:x=k
  ·subst h;rw[show tabK ((x,y)::r)=(Sum.inr x,V.str y)::tabK r from rfl,valV_pos rfl];simp
  ·rw[show tabK ((x,y)::r)=(Sum.inr x,V.str y)::tabK r from rfl,valV_neg (fun z=>h (Sum.inr.inj z)),tab_val k r,beq_eq_false_iff_ne.mpr (Ne.symm h)]
structure Tab (P:Program) (w:World) (K:Frag) (A:Addr) (tab:List (Str×Str)):Prop where
 sys:(A==sysModules)=false
 at_:∃ o es ep vs,K.lookup A=some o∧o.ExactDict∧o.data=.dict es ep∧KeysOf (mixKind P w) es∧Pairs (mixKind P w) es.toList vs∧(vs.map (·.1)).Nodup∧KV (tabK tab) vs
structure TabG (P:Program) (w:World) (K:Frag) (mg:Str→Option Value) (x:Str) (tab:List (Str×Str)):Prop where
 ex:∃ A,mg x=some (.ref A)∧Tab P w K A tab
noncomputable section
variable {X:Cx}{own:List Nat}{a b c e i:Expr}{pos p:Pos}{fa fb fc f:DF}{x:Str}{tab:List (Str×Str)}
theorem Tab.dict {A:Addr}{pins:List (Addr×Obj)}{σ:St}{H:Hp}{s:Shared}(T:Tab X.prog X.w X.K A tab) (I:Inv X pins σ H s):∃ vs,s.heap.DictOf (mixKind X.prog X.w) A vs∧KV (tabK tab) vs:=by
 obtain⟨o,es,ep,vs,h1,h2,h3,h4,h5,h6,h7⟩:=T.at_;exact⟨vs,⟨o,es,ep,I.kIn A o h1,h2,h3,h4,h5,h6⟩,h7⟩
theorem pe_tab {ty:TE}(T:TabG X.prog X.w X.K X.mg x tab) (hg:Gl X x) (hi:PE X i ty) (hd:(x==("__debug__" : Str))=false:=by decide) (hs:NoSl i:=by exact fun _ _=>rfl) :
  PE X (.Subscript (.Name x p) i pos) (fun σ H Q=>ty σ H fun y H1=>∃ k v,y=.str k∧tab.lookup k=some v∧Q (.str v) H1):=by
 obtain⟨A,hm,T⟩:=T.ex;intro pins s σ H Q I h;refine subD_of PySem.F.slot_dict_getitem.lookup hs (thn (pe_glob (v :=.ref A) hg hm rfl hd pins s σ H (fun y H1=>y=.ref A∧ty σ H1 fun y H1=>∃ k v,y=.str k∧tab.lookup k=some v∧Q (.str v) H1) I ⟨rfl,h⟩) fun u s1 ⟨x,H1,I1,rx,ex,q1⟩=>thn (hi pins s1 σ H1 _ I1 q1) fun iv s2 ⟨y,H2,I2,ry,k,v,ey,el,q2⟩ =>?_)
 subst ex;subst ey;obtain rfl:u=Value.ref A:=rx;obtain⟨vs,dd,rel⟩:=T.dict I2;obtain⟨w',hw,rw'⟩:=RelO.some_of (v:=V.str v) (o:=valueAt vs (Sum.inr k)) (by have:=rel.val (Sum.inr k);rw[tab_val,el] at this;exact this)
 exact⟨dd.typeIs,wpAny_getItem_of (kV_is (k:=Sum.inr k) ry) dd.mapOf hw ⟨.str v,H2,I2.tok _,rw',q2⟩⟩
noncomputable def oTab (tab:List (Str×Str)):D→Option D
 | .str k=>(tab.lookup k).map D.str
 | _=>none
theorem de_tab (T:TabG X.prog X.w X.K X.mg x tab) (hg:Gl X x) (hi:PE X i (tQ X.K own f)) (hd:(x==("__debug__" : Str))=false:=by decide) (hs:NoSl i:=by exact fun _ _=>rfl) :
  PE X (.Subscript (.Name x p) i pos) (tP X.K own (e1 (oTab tab) f)):=(pe_tab T hg hi hd hs).imp fun σ H Q ⟨G,ρ,d,gh,env,eq,q⟩=>by
 obtain⟨y,ey,eo⟩:=e1_some eq;cases y<;>simp only[oTab] at eo<;>try (cases eo;done)
 rename_i k;cases el:tab.lookup k with
 | none=>rw[el] at eo;cases eo
 | some v=>rw[el] at eo;cases eo;exact⟨G,ρ,_,gh,env,ey,fun u G1 H1 E1 r1=>⟨k,v,r1.str,el,q _ G1 H1 E1 (rep_str.mpr rfl)⟩⟩
noncomputable def m1 (o:D→Option D) (a:DM):DM:=fun ρ=>(a ρ).bind fun q=>(o q.1).map fun d=>(d,q.2)
theorem dm_tab {B:Bs}{g:DM}(T:TabG X.prog X.w X.K X.mg x tab) (hg:Gl X x) (hi:PE X i (tM X.K B own g)) (hd:(x==("__debug__" : Str))=false:=by decide) (hs:NoSl i:=by exact fun _ _=>rfl) :
  PE X (.Subscript (.Name x p) i pos) (tM X.K B own (m1 (oTab tab) g)):=(pe_tab T hg hi hd hs).imp fun σ H Q ⟨G,ρ,d,ρ',S,eq,q⟩=>by
 unfold m1 at eq;cases eg:g ρ with
 | none=>rw[eg] at eq;cases eq
 | some r=>
  obtain⟨y,ρ1⟩:=r;rw[eg] at eq;simp only[zA] at eq;cases y<;>simp only[oTab] at eq<;>try (cases eq;done)
  rename_i k;cases el:tab.lookup k with
  | none=>rw[el] at eq;cases eq
  | some v=>rw[el] at eq;cases eq;exact⟨G,ρ,_,ρ',S,eg,fun u G1 H1 S1 s1 r1=>⟨k,v,rep_str.mp r1,el,q _ G1 H1 S1 s1 (rep_str.mpr rfl)⟩⟩
noncomputable def oInT (neg:Bool) (tab:List (Str×Str)):D→Option D
 | .str k=>some (.bl (if neg then !(tab.lookup k).isSome else (tab.lookup k).isSome))
 | _=>none
theorem pc_tab {ty:TE}(neg:Bool) (T:TabG X.prog X.w X.K X.mg x tab) (hg:Gl X x) (hi:PE X i ty) (hd:(x==("__debug__" : Str))=false:=by decide) :
  PC X (if neg then .NotIn else .In) i (.Name x p) (fun σ H Q=>ty σ H fun y H1=>∃ k,y=.str k∧Q (.bl (if neg then !(tab.lookup k).isSome else (tab.lookup k).isSome)) H1):=by
 obtain⟨A,hm,T⟩:=T.ex;intro pins s σ H Q I h;refine thn (hi pins s σ H _ I h) fun iv s1 ⟨y,H1,I1,ry,k,ey,q1⟩=>thn (pe_glob (v :=.ref A) hg hm rfl hd pins s1 σ H1 (fun y H2=>y=.ref A∧H2=H1) I1 ⟨rfl,rfl⟩) fun u s2 ⟨x,H2,I2,rx,ex,eH⟩ =>?_
 subst ex;subst ey;subst eH;obtain rfl:u=Value.ref A:=rx;obtain⟨vs,dd,rel⟩:=T.dict I2;have e:(valueAt vs (Sum.inr k)).isSome=(tab.lookup k).isSome:=by rw[← (rel.val (Sum.inr k)).isSome_eq,tab_val,Option.isSome_map]
 cases neg with
 | false=>refine wpAny_in_of (kV_is (k:=Sum.inr k) ry) T.sys dd.mapOf ?_;rw[e];exact⟨.bl _,H2,I2.tok _,rfl,q1⟩
 | true=>refine wpAny_notIn_of (kV_is (k:=Sum.inr k) ry) T.sys dd.mapOf ?_;rw[e];exact⟨.bl _,H2,I2.tok _,rfl,q1⟩
theorem dt_inT (T:TabG X.prog X.w X.K X.mg x tab) (hg:Gl X x) (hi:PE X i (tQ X.K own f)) (hd:(x==("__debug__" : Str))=false:=by decide):PT X (.Compare i [.In] [.Name x p] pos) (tPT X.K own (tB1 (e1 (oInT false tab) f))):=
 (pt_cmp (pc_tab (p:=p) false T hg hi hd) rfl).imp fun σ H Q ⟨G,ρ,d,gh,env,eq,q⟩=>by
  obtain⟨y,ey,eo⟩:=e1_some (tB1_some eq);cases y<;>simp only[oInT] at eo<;>try (cases eo;done)
  cases eo;exact⟨G,ρ,_,gh,env,ey,fun u G1 H1 E1 r1=>⟨_,r1.str,_,rfl,q G1 H1 E1⟩⟩
theorem dt_notInT (T:TabG X.prog X.w X.K X.mg x tab) (hg:Gl X x) (hi:PE X i (tQ X.K own f)) (hd:(x==("__debug__" : Str))=false:=by decide):PT X (.Compare i [.NotIn] [.Name x p] pos) (tPT X.K own (tB1 (e1 (oInT true tab) f))):=
 (pt_cmp (pc_tab (p:=p) true T hg hi hd) rfl).imp fun σ H Q ⟨G,ρ,d,gh,env,eq,q⟩=>by
  obtain⟨y,ey,eo⟩:=e1_some (tB1_some eq);cases y<;>simp only[oInT] at eo<;>try (cases eo;done)
  cases eo;exact⟨G,ρ,_,gh,env,ey,fun u G1 H1 E1 r1=>⟨_,r1.str,_,rfl,q G1 H1 E1⟩⟩
end
noncomputable def PEk (X:Cx) (e:Expr) (t:TE):Prop:=∀ (pins:List (Addr×Obj)) (s:Shared) (σ:St) (H:Hp) (Q:VK),Inv X pins σ H s→t σ H Q→wpAny (model X.prog X.w) X.A (eval e X.env) (fun u s'=>EP X pins σ Q u s'∧0<s'.toks) X.xe s
noncomputable section
variable {X:Cx}{own:List Nat}{a o e:Expr}{pos p:Pos}{ta to:TE}{f fa:DF}
theorem PEk.pe {t:TE}(h:PEk X e t):PE X e t:=fun pins s σ H Q I q=>thn (h pins s σ H Q I q) fun u s' z=>z.1
theorem PEk.imp {e:Expr}{t t':TE}(h:PEk X e t) (k:∀ σ H Q,t' σ H Q→t σ H Q):PEk X e t':=fun pins s σ H Q I q=>h pins s σ H Q I (k _ _ _ q)
theorem pek_ixT {i:Int}{k:Nat}{ip:Pos}(ha:PE X a ta):PEk X (.Subscript a (.Constant (.int i) k ip) pos) (tOp (rIxT X.K) ta (tC (.int i))):=by
 intro pins s σ H Q I h;refine Subscript_ (thn (ha pins s σ H _ I h) fun v s1 ⟨x,H1,I1,rx,q1⟩=>wpAny_Constant_int ?_)
 have I2:=I1.tok (s1.toks+1);obtain⟨pp,xs,j,z,rfl,e2,hq,he,q⟩:=q1;cases e2;cases rx;obtain⟨its,r,pl,hz⟩:=I2.tuple hq;obtain⟨j,h1,h2,h3,h4,h5⟩:=atI_get he;obtain⟨w,ew,rw'⟩:=r.get h2;have hl:=r.length;have hn:=line63;exact subscriptTail_builtinR (x:=w) pl.typeIs PySem.F.slot_tuple_getitem.lookup
  (getItem_tuple (j:=j) (Q:=fun r s'=>r=w∧(EP X pins σ Q r s'∧0<s'.toks)) pl (by omega) (by omega) (by rw[zN,← hl];exact h1) (by simpa using ew) ⟨rfl,⟨z,H1,I2,rw',q⟩,Nat.succ_pos _⟩) rfl
theorem pek_replace {y z:Str}{k1 k2:Nat}{p1 p2 apos cpos:Pos}(ho:PEk X o to) (hyz:(y==z)=false:=by decide) (hz:z.length≤14:=by decide) (hbase:attributeBase o "replace" X.env (eval o X.env)=eval o X.env:=by rfl)
  (hfew:((backTo cpos (starEach [.Constant (.str y) k1 p1,.Constant (.str z) k2 p2] X.env)).all (fun x=> !x.1)&&(backToKw cpos (keywordEach [] X.env)).all (fun x=>x.1.isSome)
   && decide (([.Constant (.str y) k1 p1,.Constant (.str z) k2 p2]:List Expr).length+([]:List Keyword).length+(if ([]:List Keyword).isEmpty then 0 else 1)<30))=true:=by rfl)
  (hline:(apos.endLine==cpos.line)=true:=by rfl) (hs:backTo cpos (starEach [.Constant (.str y) k1 p1,.Constant (.str z) k2 p2] X.env)=[(false,eval (.Constant (.str y) k1 p1) X.env),(false,eval (.Constant (.str z) k2 p2) X.env)]:=by rfl) :
  PEk X (.Call (.Attribute o "replace" apos) [.Constant (.str y) k1 p1,.Constant (.str z) k2 p2] [] cpos) (fun σ H Q=>to σ H fun x H1=>∃ t,x=.str t∧t.length≤1000000∧Q (.str (Txt.replace t y z)) H1):=by
 intro pins s σ H Q I h;refine wpAny_Call_method_late hbase hfew hline rfl (thn (ho pins s σ H _ I h) fun v s1 ⟨⟨x,H1,I1,r1,t,ex,hl,q1⟩,hk⟩ =>?_)
 subst ex;obtain⟨tk,rfl⟩:=r1;refine⟨"str", "str.replace",PySem.F.plainAttrs_str,PySem.F.slot_str_replace,PySem.F.type_str_replace,typeIs_str _ _ _,fun _ e=>(nomatch e),?_⟩
 rw[hs];refine Calls.callWith_builtin rfl (Calls.evalArgs_plain (Calls.spliced_cons (Calls.Constant_str (Calls.spliced_cons (Calls.Constant_str (Calls.spliced_nil ?_))))));have hb:t.length+(t.length+1)*z.length≤16777216:=by have h1:(t.length+1)*z.length≤(t.length+1)*14:=Nat.mul_le_mul_left _ hz;omega
 have hlong:PySem.Builtin.Str.tooLong (t.length+(Builtin.Str.occurrences t y 0 t.length (t.length+1)).length*z.length)=false:=by
  have h1:=StrLaws.occ_length_le t y 0 t.length (t.length+1);have h2:(Builtin.Str.occurrences t y 0 t.length (t.length+1)).length*z.length≤(t.length+1)*z.length:=Nat.mul_le_mul_right _ h1;have e:(2:Nat) ^ 24=16777216:=by decide
  unfold PySem.Builtin.Str.tooLong;rw[sizeLine_eq];exact decide_eq_false (by omega)
 refine call_gives PySem.F.slot_str_replace (typeIs_str _ _ _) PySem.F.entry_str_replace (PySem.F.args_str_replace_3 _ _ _)
  (gives_str_replace t y z tk s1.toks (s1.toks+1) fun _=>⟨by rw[Bool.or_eq_false_iff];exact⟨beq_eq_false_iff_ne.mpr (Nat.pos_iff_ne_zero.mp hk),beq_eq_false_iff_ne.mpr (Nat.succ_ne_zero _)⟩,beq_eq_false_iff_ne.mpr (zR (Nat.lt_succ_self _)),hyz,hlong⟩) ?_
 have q2:∀ (t':Tok) (n:Nat),0<n→(EP X pins σ Q (.str (Txt.replace t y z) t') { s1 with toks:=n }∧0<n):=fun t' n hn=>⟨⟨.str _,H1,I1.tok n,⟨t',rfl⟩,q1⟩,hn⟩
 unfold Txt.replace at q2;cases hc:((Builtin.Str.occurrences t y 0 t.length (t.length+1)).isEmpty||(y.length==0&&z.length==0))
 ·rw[hc] at q2;simp only[Bool.false_eq_true,if_false] at q2 ⊢;exact⟨fits_replaced y hb,q2 _ _ (Nat.succ_pos _)⟩
 ·rw[hc] at q2;simp only[if_true] at q2 ⊢;exact q2 _ _ (by show 0<s1.toks+1+1;omega)
noncomputable def oRepl (y z:Str):D→Option D
 | .str t=>if t.length≤1000000 then some (.str (Txt.replace t y z)) else none
 | _=>none
noncomputable def oIxT:D→D→Option D
 | .tup ds,.int i=>atI ds i
 | _,_=>none
theorem dek_ix {i:Int}{k:Nat}{ip:Pos}(ha:PE X a (tQ X.K own fa)):PEk X (.Subscript a (.Constant (.int i) k ip) pos) (tP X.K own (e2 oIxT fa (eK (.int i)))):=(pek_ixT ha).imp fun σ H Q ⟨G,ρ,d,gh,env,eq,q⟩=>by
 obtain⟨x,y,ex,ey,eo⟩:=e2_some eq;cases ey;cases x<;>simp only[oIxT] at eo<;>try (cases eo;done)
 refine⟨G,ρ,_,gh,env,ex,fun v G1 H1 E1 r1 =>?_⟩
 obtain⟨p,vs,rfl,qa,ra⟩:=r1.tup E1.gh;obtain⟨v,ev,rv⟩:=ra.atI eo;exact⟨p,vs,i,v,rfl,rfl,.of qa,ev,q _ G1 H1 E1 rv⟩
theorem dek_replace {y z:Str}{k1 k2:Nat}{p1 p2 apos cpos:Pos}(ho:PEk X o (tP X.K own f)) (hyz:(y==z)=false:=by decide) (hz:z.length≤14:=by decide) (hbase:attributeBase o "replace" X.env (eval o X.env)=eval o X.env:=by rfl)
  (hfew:((backTo cpos (starEach [.Constant (.str y) k1 p1,.Constant (.str z) k2 p2] X.env)).all (fun x=> !x.1)&&(backToKw cpos (keywordEach [] X.env)).all (fun x=>x.1.isSome)
   && decide (([.Constant (.str y) k1 p1,.Constant (.str z) k2 p2]:List Expr).length+([]:List Keyword).length+(if ([]:List Keyword).isEmpty then 0 else 1)<30))=true:=by rfl)
  (hline:(apos.endLine==cpos.line)=true:=by rfl) (hs:backTo cpos (starEach [.Constant (.str y) k1 p1,.Constant (.str z) k2 p2] X.env)=[(false,eval (.Constant (.str y) k1 p1) X.env),(false,eval (.Constant (.str z) k2 p2) X.env)]:=by rfl) :
  PEk X (.Call (.Attribute o "replace" apos) [.Constant (.str y) k1 p1,.Constant (.str z) k2 p2] [] cpos) (tP X.K own (e1 (oRepl y z) f)):=
 (pek_replace ho hyz hz hbase hfew hline hs).imp fun σ H Q ⟨G,ρ,d,gh,env,eq,q⟩=>by
  obtain⟨x,ex,eo⟩:=e1_some eq;cases x<;>simp only[oRepl] at eo<;>try (cases eo;done)
  split at eo
  ·cases eo;rename_i hz;exact⟨G,ρ,_,gh,env,ex,fun v G1 H1 E1 r1=>⟨_,rep_str.mp r1,hz,q _ G1 H1 E1 (rep_str.mpr rfl)⟩⟩
  ·cases eo
end
end L2
end
noncomputable section
namespace L2
open PySem PySem.Spec PyProof.Rows
noncomputable section
variable {X:Cx}{own:List Nat}{o e f:Expr}{pos p:Pos}
theorem de_dic2 {k1 k2 v1 v2:Str}{j1 j2 j3 j4:Nat}{p1 p2 p3 p4:Pos}(hk:k1≠k2:=by decide) :
  PE X (.Dict [some (.Constant (.str k1) j1 p1),some (.Constant (.str k2) j2 p2)] [.Constant (.str v1) j3 p3,.Constant (.str v2) j4 p4] pos) (tP X.K own (eK (.dic [Sum.inr k1,Sum.inr k2] [.str v1,.str v2]))):=
 (pe_disp (pps_cons pe_str pe_str (pps_cons pe_str pe_str pps_nil)) rfl rfl (by simp) (by simp)).imp fun σ H Q ⟨G,ρ,d,gh,env,eq,k⟩=>by
  cases eq;intro q hq;refine⟨upd_same,[(Sum.inr k1,.str v1),(Sum.inr k2,.str v2)],rfl,by simp,?_⟩
  have e:mergeK [] [((Sum.inr k1:Key),V.str v1),(Sum.inr k2,V.str v2)]=[(Sum.inr k1,.str v1),(Sum.inr k2,.str v2)]:=by
   show putK (putK [] (Sum.inr k1) (V.str v1)) (Sum.inr k2) (V.str v2)=_;rw[putK_new (kvs:=[]) _ rfl,putK_new _ (by rw[List.nil_append,valV_neg (fun z=>hk (Sum.inr.inj z))];rfl)]
   rfl
  rw[e,upd_upd];exact k _ _ _ (Ext.alloc (p:=q) (o :=.dK [(Sum.inr k1,.str v1),(Sum.inr k2,.str v2)]) gh hq) (rep_dic.mpr ⟨q,[.str v1,.str v2],rfl,upd_same,rfl,.cons (rep_str.mpr rfl) (.cons (rep_str.mpr rfl) .nil)⟩)
noncomputable def dLook (ks:List Key) (ds:List D) (k:Key):Option D:=((ks.zip ds).find? fun kv=>decide (kv.1=k)).map (·.2)
theorem dLook_some {K:Frag}{G:Hp}{k:Key}:∀ {ks:List Key}{ds:List D}{vs:List V}{d:D},Reps K G ds vs→dLook ks ds k=some d→∃ v,valV (ks.zip vs) k=some v∧Rep K G d v
 | [],ds,vs,d,r,h=>by simp[dLook] at h
 | x::ks,[],vs,d,r,h=>by simp[dLook] at h
 | x::ks,y::ds,vs,d,r,h=>by
  obtain⟨v,t,rfl,rv,rt⟩:=reps_cons.mp r;by_cases hk:x=k
  ·subst hk;have:y=d:=by simpa [dLook] using h
   subst this;exact⟨v,valV_pos rfl,rv⟩
  ·have h':dLook ks ds k=some d:=by simpa [dLook,hk] using h
   obtain⟨u,e,ru⟩:=dLook_some rt h';exact⟨u,by rw[List.zip_cons_cons,valV_neg hk];exact e,ru⟩
theorem dLook_none {K:Frag}{G:Hp}{k:Key}:∀ {ks:List Key}{ds:List D}{vs:List V},Reps K G ds vs→dLook ks ds k=none→valV (ks.zip vs) k=none
 | [],ds,vs,r,h=>by simp[valV]
 | x::ks,[],vs,r,h=>by rw[reps_nil.mp r];simp[valV]
 | x::ks,y::ds,vs,r,h=>by
  obtain⟨v,t,rfl,rv,rt⟩:=reps_cons.mp r;by_cases hk:x=k
  ·subst hk;simp[dLook] at h
  ·have h':dLook ks ds k=none:=by simpa [dLook,hk] using h
   rw[List.zip_cons_cons,valV_neg hk];exact dLook_none rt h'
noncomputable def keyD:D→Option Key
 | .int i=>some (Sum.inl i)
 | .str x=>some (Sum.inr x)
 | _=>none
theorem keyD_rep {K:Frag}{G H:Hp}{d:D}{k:Key}{v:V}(h:keyD d=some k) (r:RepO K G H d v):v=kV k:=by
 cases d<;>simp only[keyD] at h<;>try (cases h;done)
 ·cases h;exact r.int
 ·cases h;exact r.str
noncomputable def eGet2 (fo fk fx:DF):DF:=fun ρ=>(fo ρ).bind fun d=>(fk ρ).bind fun k=>(fx ρ).bind fun x=>match d with|.dic ks ds=>(keyD k).map fun k=>(dLook ks ds k).getD x|_=>none
theorem de_get2 {fo fk fx:DF}{apos cpos:Pos}(hu:X.A.units+1<cLine) (ho:PE X o (tQ X.K own fo)) (he:PE X e (tQ X.K own fk)) (hf:PE X f (tP X.K own fx)) (m:M2 X o "get" apos e f cpos):PE X (.Call (.Attribute o "get" apos) [e,f] [] cpos) (tP X.K own (eGet2 fo fk fx)):=
 (pe_dget2 hu ho he hf m).imp fun σ H Q ⟨G,ρ,d,gh,env,eq,q⟩=>by
  unfold eGet2 at eq;cases e1':fo ρ with
  | none=>rw[e1'] at eq;cases eq
  | some dd=>
   cases e2':fk ρ with
   | none=>simp[e1',e2'] at eq
   | some kk=>
    cases e3':fx ρ with
    | none=>simp[e1',e2',e3'] at eq
    | some xx=>
     simp only[e1',e2',e3',zA] at eq;cases dd<;>simp only at eq<;>try (cases eq;done)
     rename_i ks ds;cases ek:keyD kk with
     | none=>rw[ek] at eq;cases eq
     | some k=>
      rw[ek] at eq;refine⟨G,ρ,_,gh,env,e1',fun v G1 H1 E1 r1 =>?_⟩
      obtain⟨a,vs,rfl,ha,l,rs⟩:=r1.dicH E1.gh;refine⟨a,rfl,.inl ⟨_,.of ha⟩,G1,ρ,kk,E1.gh,env.ext E1,e2',fun u G2 H2 E2 r2=>⟨G2,ρ,xx,E2.gh,(env.ext E1).ext E2,e3',fun z G3 H3 E3 r3 =>?_⟩⟩
      have hk:u=kV k:=keyD_rep ek r2;have ha3:=E3.hh _ _ (E2.hh _ _ ha);have rs3:=Reps.mono (E2.gg.trans E3.gg) ds rs;refine⟨_,by rw[hk];exact DGet.k ha3,?_⟩
      have E:=(E1.trans E2).trans E3;have eq:some ((dLook ks ds k).getD xx)=some d:=eq;cases el:dLook ks ds k with
      | none=>rw[el] at eq;cases eq;rw[dLook_none rs3 el];exact q _ G3 H3 E r3
      | some dv=>rw[el] at eq;cases eq;obtain⟨w,ew,rw'⟩:=dLook_some rs3 el;rw[ew];exact q _ G3 H3 E rw'
end
end L2
end
noncomputable section
namespace L2
open PySem PySem.Spec PyProof.Rows
noncomputable section
variable {K:Frag}{H0 G H G' H':Hp}
end
end L2
end
noncomputable section
namespace L2
open PySem PySem.Spec PyProof.Rows
noncomputable section
variable {K:Frag}{G H0 H:Hp}{Nn:Addr}{cs:List (Addr×Addr×Addr)}{ns:List Nd}
end
end L2
end
noncomputable section
namespace L2
open PySem PySem.Spec PyProof.Rows
noncomputable section
variable {K:Frag}{G H0 H:Hp}{A C dx n p t R:Addr}{ts:List Addr}{z:Ly}
end
end L2
end
noncomputable section
namespace L2
open PySem PySem.Spec PyProof.Rows
theorem for_inv {τ:DTg}{g:DG}(I:Nat→DEnv→Prop):∀ (ds:List D) (i:Nat) (ρ:DEnv),I i ρ→(∀ j d ρ,ds[j]?=some d→I (i+j) ρ→∃ ρ1 ρ2,τ d ρ=some ρ1∧g ρ1=some (.nx ρ2)∧I (i+j+1) ρ2) →
  ∃ ρ',forD τ g ds ρ=some (.nx ρ')∧I (i+ds.length) ρ'
 | [],i,ρ,h,_=>⟨ρ,rfl,h⟩
 | d::ds,i,ρ,h,st=>by
  obtain⟨ρ1,ρ2,e1,e2,h2⟩:=st 0 d ρ rfl h;obtain⟨ρ',e,h'⟩:=for_inv I ds (i+1) ρ2 h2 fun j d ρ hj hI=>by
   have:=st (j+1) d ρ (by simpa using hj) (by rw[show i+(j+1)=i+1+j by omega];exact hI)
   rw[show i+(j+1)+1=i+1+j+1 by omega] at this
   exact this
  refine⟨ρ',?_,by rw[show i+(d::ds).length=i+1+ds.length by simp;omega];exact h'⟩
  unfold forD;rw[e1];simp only[zA,e2];exact e
theorem for_inv0 {τ:DTg}{g:DG}(I:Nat→DEnv→Prop){ds:List D}{ρ:DEnv}(h0:I 0 ρ) (st:∀ j d ρ,ds[j]?=some d→I j ρ→∃ ρ1 ρ2,τ d ρ=some ρ1∧g ρ1=some (.nx ρ2)∧I (j+1) ρ2):∃ ρ',forD τ g ds ρ=some (.nx ρ')∧I ds.length ρ':=by
 have:=for_inv (τ:=τ) (g:=g) I ds 0 ρ h0 (fun j d ρ hj hI=>by rw[Nat.zero_add] at hI ⊢;exact st j d ρ hj hI)
 rw[Nat.zero_add] at this;exact this
theorem atI_pos {α:Type}{xs:List α}{z:Int}(h0:0≤z) (h1:z<xs.length):∃ v,atI xs z=some v∧v∈xs:=by
 have hz:z.toNat<xs.length:=by omega
 refine⟨xs[z.toNat],?_,List.getElem_mem hz⟩;have e:((z.toNat:Nat):Int)=z:=by omega
 have:=atI_nat (xs:=xs) (j:=z.toNat) (v:=xs[z.toNat]) (by simp[hz])
 rw[e] at this;exact this
theorem atI_int {xs:List Int}{z:Int}(h0:0≤z) (h1:z<xs.length):∃ v,atI (xs.map D.int) z=some (.int v):=by
 obtain⟨v,e,hm⟩:=atI_pos (xs:=xs) h0 h1;exact⟨v,by rw[atI_map,e];rfl⟩
theorem atI_str {xs:List Str}{z:Int}(h0:0≤z) (h1:z<xs.length):∃ v,atI (xs.map D.str) z=some (.str v)∧v∈xs:=by
 obtain⟨v,e,hm⟩:=atI_pos (xs:=xs) h0 h1;exact⟨v,by rw[atI_map,e];rfl,hm⟩
theorem ixN_pos {n:Nat}{z:Int}(h0:0≤z) (h1:z<n):ixN n z=some z.toNat:=by unfold ixN;rw[if_pos h0,if_pos h1]
theorem rngD_get {lo:Int}{n j:Nat}{d:D}(h:(rngD lo n)[j]?=some d):j<n∧d=.int (lo+j):=by
 unfold rngD at h;rw[zM] at h;cases q:(List.range n)[j]? with
 | none=>rw[q] at h;cases h
 | some k=>
  rw[q] at h;cases h;obtain⟨h1,h2⟩:=zC.mp q;have:k=j:=by simpa using h2.symm
  subst this;exact⟨by simpa using h1,rfl⟩
theorem rngD_len (lo:Int) (n:Nat):(rngD lo n).length=n:=by simp[rngD]
theorem lc_all {ρ:DEnv}{τ:DTg}{fe:DF}{h:D→D}:∀ {ds:List D},(∀ d∈ds,∃ ρ1,τ d ρ=some ρ1∧fe ρ1=some (h d))→lcD ρ τ tYes fe ds=some (ds.map h)
 | [],_=>rfl
 | d::ds,hd=>by
  obtain⟨ρ1,e1,e2⟩:=hd d zD;unfold lcD;rw[e1];simp only[tYes,zA,if_true,e2];rw[lc_all fun d h=>hd d (zB _ h)]
  rfl
theorem bigE_eq:bigE=1000000:=rfl
theorem cut_le {α:Type}(xs:List α) (l h:Option Int):(cut xs l h).length≤xs.length:=by
 unfold cut;rw[List.length_take,List.length_drop];omega
end L2
end
noncomputable section
namespace L2
open PySem
end L2
end
noncomputable section
namespace L2
open PySem
theorem sSeq_nx {g h:DG}{ρ ρ':DEnv}(e:g ρ=some (.nx ρ')):sSeq g h ρ=h ρ':=by simp only[sSeq,e,zA]
theorem sIf_f {t:DT}{g h:DG}{ρ:DEnv}(e:t ρ=some false):sIf t g h ρ=h ρ:=by simp[sIf,e]
theorem sIf_t {t:DT}{g h:DG}{ρ:DEnv}(e:t ρ=some true):sIf t g h ρ=g ρ:=by simp[sIf,e]
theorem sSet_eq {i:Nat}{f:DF}{ρ:DEnv}{d:D}(e:f ρ=some d):sSet i f ρ=some (.nx (ρ.set i (some d))):=by simp only[sSet,e,zT]
theorem sRet_eq {f:DF}{ρ:DEnv}{d:D}(e:f ρ=some d):sRet f ρ=some (.rt d):=by simp only[sRet,e,zT]
theorem e2_eq {o:D→D→Option D}{f g:DF}{ρ:DEnv}{x y:D}(e1:f ρ=some x) (e2':g ρ=some y):e2 o f g ρ=o x y:=by simp only[e2,e1,e2',zA]
theorem tB1_eq {f:DF}{ρ:DEnv}{b:Bool}(e:f ρ=some (.bl b)):tB1 f ρ=some b:=by simp only[tB1,e,zA]
theorem fLC_eq {f:DL}{src:List (Option Nat)}{τ:DTg}{ft:DT}{fe:DF}{ρ:DEnv}{ds rs:List D}(e:f ρ=some ds) (hz:ds.length≤bigE) (h:lcD (srcρ src ρ) τ ft fe ds=some rs):fLC f src τ ft fe ρ=some rs:=by simp only[fLC,e,zA,hz,if_true,h]
theorem iR1_eq {f:DF}{ρ:DEnv}{z:Int}(e:f ρ=some (.int z)) (h : -(2 ^ 62)≤z∧z<2 ^ 62):iR1 f ρ=some (rngD 0 z.toNat):=by
 simp only[iR1,e,zA];rw[if_pos h]
theorem small62 {n:Nat}(h:n≤100000) : -(2 ^ 62)≤(n:Int)∧(n:Int)<2 ^ 62:=
 ⟨Int.le_trans (by decide) (Int.natCast_nonneg _),Int.lt_of_le_of_lt (Int.ofNat_le.mpr h) (by decide)⟩
theorem eqSameD {d:D}(h:dOk d 180=true):oEq d d=some (.bl true):=by
 simp only[oEq];rw[if_pos (by rw[h];rfl),deq_refl _ 180 h]
theorem dOk_lst {ds:List D}(h:dOks ds 179=true):dOk (.lst ds) 180=true:=by simp only[dOk];rw[show 180-1=179 by rfl,h];rfl
end L2
end
noncomputable section
namespace L2
open PySem
theorem mulR {i j:Int}(h : -(2 ^ 64)<j∧j<2 ^ 64):oMul (.int i) (.int j)=some (.int (i*j)):=by simp only[oMul];rw[if_pos (.inr h)]
theorem mulL {i j:Int}(h : -(2 ^ 64)<i∧i<2 ^ 64):oMul (.int i) (.int j)=some (.int (i*j)):=by simp only[oMul];rw[if_pos (.inl h)]
theorem modR {i j:Int}(h:0<j):oMod (.int i) (.int j)=some (.int (i%j)):=by simp only[oMod];rw[if_pos h]
theorem fdivR {i j:Int}(h:0<j∧j<2 ^ 64):oFdiv (.int i) (.int j)=some (.int (i/j)):=by simp only[oFdiv];rw[if_pos h]
theorem addI {i j:Int}:oAdd (.int i) (.int j)=some (.int (i+j)):=rfl
theorem subI {i j:Int}:oSub (.int i) (.int j)=some (.int (i-j)):=rfl
theorem eqI {i j:Int}:oEq (.int i) (.int j)=some (.bl (i==j)):=rfl
theorem eqB {i j:Bool}:oEq (.bl i) (.bl j)=some (.bl (i==j)):=rfl
theorem eqS {i j:Str}:oEq (.str i) (.str j)=some (.bl (i==j)):=rfl
theorem neI {i j:Int}:oNe (.int i) (.int j)=some (.bl (!(i==j))):=rfl
theorem neS {i j:Str}:oNe (.str i) (.str j)=some (.bl (!(i==j))):=rfl
theorem ltI {i j:Int}:oLt (.int i) (.int j)=some (.bl (decide (i<j))):=rfl
theorem gtI {i j:Int}:oGt (.int i) (.int j)=some (.bl (decide (j<i))):=rfl
theorem ixL {xs:List D}{i:Int}:oIx (.lst xs) (.int i)=atI xs i:=rfl
theorem ixT {xs:List D}{i:Int}:oIx (.tup xs) (.int i)=atI xs i:=rfl
theorem lenL {xs:List D}:oLen [.lst xs]=some (.int xs.length):=rfl
theorem lenT {xs:List D}:oLen [.tup xs]=some (.int xs.length):=rfl
theorem geI {i j:Int}:oGe (.int i) (.int j)=some (.bl (decide (j≤i))):=rfl
theorem set_map_int (xs:List Int) (n:Nat) (v:Int):(xs.map D.int).set n (.int v)=(xs.set n v).map D.int:=by rw[List.map_set]
end L2
end
noncomputable section
namespace L2
open PySem
noncomputable abbrev sAny:Str:=Str.ofString "any"
noncomputable abbrev sTxt:Str:=Str.ofString "text"
noncomputable abbrev sHas:Str:=Str.ofString "has"
noncomputable abbrev sBoth:Str:=Str.ofString "both"
noncomputable abbrev sOne:Str:=Str.ofString "one"
noncomputable abbrev sInner:Str:=Str.ofString "inner"
noncomputable abbrev sOwn:Str:=Str.ofString "own"
noncomputable abbrev wAny:D :=.tup [.str sAny]
noncomputable abbrev wText (x:Str):D :=.tup [.str sTxt,.str x]
noncomputable abbrev wHas (ss:List D):D :=.tup [.str sHas,.lst ss]
noncomputable abbrev stepD (way nm:Str) (w:D):D :=.tup [.str way,.str nm,w]
end L2
end
noncomputable section
namespace L2
open PySem PySem.Builtin PySem.Builtin.Str
noncomputable def S (l:List Nat):Str:=⟨l.toArray⟩
theorem S_len (l:List Nat):(S l).length=l.length:=by show l.toArray.size=_;simp
theorem S_list (l:List Nat):(S l).cps.toList=l:=by simp[S]
theorem S_app (a b:List Nat):S a++S b=S (a++b):=by
 show (⟨a.toArray++b.toArray⟩:Str)=⟨(a++b).toArray⟩;simp
theorem S_of (x:Str):x=S x.cps.toList:=by cases x;simp[S]
theorem S_inj {a b:List Nat}(h:S a=S b):a=b:=by
 have:=congrArg (fun x:Str=>x.cps.toList) h
 simpa [S] using this
theorem S_eq (a b:List Nat):(S a==S b)=(a==b):=by
 by_cases h:a=b
 ·subst h;simp
 ·rw[beq_eq_false_iff_ne.mpr h,beq_eq_false_iff_ne.mpr fun z=>h (S_inj z)]
theorem sliceN (l:List Nat) (i j:Nat) (hij:i≤j) (hi:i≤l.length):Txt.slice (S l) (some (i:Int)) (some (j:Int))=S ((l.drop i).take (j-i)):=by
 by_cases hj:j≤l.length
 ·have h:=PyProof.Rows.slice_closes (x:=S l) (i:=i) (j:=j) ⟨by omega,by omega,by rw[S_list];omega⟩
  rw[eq_of_beq h,S_list];have e1:((i:Int)).toNat=i:=by omega
  have e2:((j:Int)-(i:Int)).toNat=j-i:=by omega
  rw[e1,e2];rfl
 ·have e:Txt.slice (S l) (some (i:Int)) (some (j:Int))=Txt.slice (S l) (some (i:Int)) (some (l.length:Int)):=by
   unfold Txt.slice strSliceIndices;rw[S_len];have h1:min (j:Int) (l.length:Int)=l.length:=by omega
   have h2:¬ ((j:Int)<0):=by omega
   have h3:¬ ((l.length:Int)<0):=by omega
   simp only[h1,h2,h3,if_false,Int.min_self,show ((1:Int) > 0) from by decide,if_true]
  rw[e];have h:=PyProof.Rows.slice_closes (x:=S l) (i:=i) (j:=l.length) ⟨by omega,by omega,by rw[S_list];omega⟩
  rw[eq_of_beq h,S_list];have e1:((i:Int)).toNat=i:=by omega
  have e2:((l.length:Int)-(i:Int)).toNat=l.length-i:=by omega
  rw[e1,e2];show S _=S _
  congr 1
  rw[List.take_of_length_le (by simp),List.take_of_length_le (by simp;omega)]
theorem slice_mem (x:Str) (l u:Option Int){c:Nat}(h:c∈(Txt.slice x l u).cps.toList):c∈x.cps.toList:=by
 unfold Txt.slice at h
 split at h
 ·exact h
 ·simp only[List.mem_filterMap] at h;obtain⟨i,_,e⟩:=h;rw[← Array.getElem?_toList] at e;exact zX e
noncomputable def joinL (sep:List Nat):List (List Nat)→List Nat
 | []=>[]
 | [x]=>x
 | x::y::r=>x++sep++joinL sep (y::r)
theorem foldl_glue (sep:List Nat):∀ (ls:List (List Nat)) (acc:List Nat),(ls.map S).foldl (fun (a:Array Nat) (p:Str)=>a++(S sep).cps++p.cps) acc.toArray=(acc++(ls.map fun x=>sep++x).flatten).toArray
 | [],acc=>by simp
 | x::ls,acc=>by
  rw[List.map_cons,List.foldl_cons];have:acc.toArray++(S sep).cps++(S x).cps=(acc++sep++x).toArray:=by simp[S]
  rw[this,foldl_glue sep ls];simp
theorem joinL_flat (sep:List Nat):∀ (x:List Nat) (ls:List (List Nat)),joinL sep (x::ls)=x++(ls.map fun y=>sep++y).flatten
 | x,[]=>by simp[joinL]
 | x,y::ls=>by rw[joinL,joinL_flat sep y ls];simp
theorem glued_S (sep:List Nat) (ls:List (List Nat)):glued (S sep) (ls.map S)=S (joinL sep ls):=by
 cases ls with
 | nil=>rfl
 | cons x ls=>unfold glued;rw[List.map_cons,List.drop_succ_cons,List.drop_zero,List.headD_cons];show (⟨(ls.map S).foldl _ x.toArray⟩:Str)=_;rw[foldl_glue,joinL_flat];rfl
theorem joinL_nil_sep:∀ ls:List (List Nat),joinL [] ls=ls.flatten
 | []=>rfl
 | x::ls=>by rw[joinL_flat];simp
noncomputable def sumLen (ls:List (List Nat)):Nat:=(ls.map List.length).sum
theorem joinSz_S (sep:List Nat):∀ (ls:List (List Nat)) (k:Nat),(ls.map S).foldl (fun a x=>a+x.length+(S sep).length) k=k+sumLen ls+ls.length*sep.length
 | [],k=>by simp[sumLen]
 | x::ls,k=>by rw[List.map_cons,List.foldl_cons,joinSz_S sep ls,S_len,S_len];simp[sumLen,Nat.add_mul];omega
theorem joinL_len (sep:List Nat) (ls:List (List Nat)):(joinL sep ls).length≤sumLen ls+ls.length*sep.length:=by
 cases ls with
 | nil=>simp[joinL]
 | cons x ls=>
  rw[joinL_flat,List.length_append];have:∀ ls:List (List Nat),((ls.map fun y=>sep++y).flatten).length=sumLen ls+ls.length*sep.length:=by
   intro ls
   induction ls with
   | nil=>simp[sumLen]
   | cons y ls ih=>simp[sumLen,Nat.add_mul] at ih ⊢;omega
  rw[this];simp[sumLen,Nat.add_mul];omega
theorem joinD {sep:List Nat}{ls:List (List Nat)}(h:sumLen ls+ls.length*sep.length≤bigE):oJoin (.str (S sep)) (.lst (ls.map fun l=>D.str (S l)))=some (.str (S (joinL sep ls))):=by
 have e1:(ls.map fun l=>D.str (S l)).all isStrD=true:=by
  rw[List.all_eq_true];intro x hx;obtain⟨l,_,rfl⟩:=List.mem_map.mp hx
  rfl
 have e2:(ls.map fun l=>D.str (S l)).map strD=ls.map S:=by simp[strD]
 have e3:joinSz (S sep) (ls.map S)≤bigE:=by unfold joinSz;rw[joinSz_S];omega
 have e4:(glued (S sep) (ls.map S)).length≤bigE:=by rw[glued_S,S_len];exact yB (joinL_len sep ls) h
 simp only[oJoin];rw[e2,if_pos (by rw[e1,decide_eq_true e3,decide_eq_true e4];rfl),glued_S]
theorem addSS {a b:List Nat}(h:a.length+b.length≤bigE):oAdd (.str (S a)) (.str (S b))=some (.str (S (a++b))):=by
 simp only[oAdd];rw[S_len,S_len,if_pos h,S_app]
end L2
end
noncomputable section
namespace K15
open PySem L2
noncomputable def top (i:Nat):Stmt:=PySem.Challenge.pw_earlysift_k15_questions_written.main.body.getD i (.Pass ⟨0,0,0,0⟩)
noncomputable abbrev tab_MARKS:List (Str×Str):=[("both", "&"),("one", "+")]
noncomputable abbrev tab_KINDS:List (Str×Str):=[("&", "both"),("+", "one")]
noncomputable def b_draws_1:DG:=
  (sSeq (sSet 7 (e2 oMod (eV 6) (eCall oLen (aC (eV 5) aN))))
    (sSeq (sIf (tB1 (e2 oGe (eV 6) (eV 1)))
    (sApp 4 (e2 oMod (e2 oIx (eV 5) (eV 7)) (eK (.int 2147483587))))
    sNil)
    (sItem 5 (eV 7) (e2 oFdiv (e2 oIx (eV 5) (eV 7)) (eK (.int 2147483587))))))
noncomputable def b_draws_2:DG:=
  (sSeq (sSet 8 (e2 oAdd (e2 oMul (e2 oMul (e2 oAdd (eV 6) (eV 1)) (e2 oAdd (eV 6) (eV 1))) (eK (.int 7919))) (eK (.int 104729))))
   (sSeq (sSet 9 (e2 oMod (e2 oMul (e2 oAdd (e2 oMod (e2 oIx (eV 3) (e2 oMod (eV 6) (eCall oLen (aC (eV 3) aN)))) (eK (.int 2147483647))) (eV 8)) (eK (.int 48271))) (eK (.int 2147483647))))
   (sSeq (sSet 9 (e2 oMod (e2 oAdd (e2 oMul (eV 9) (eV 9)) (e2 oMul (eK (.int 69621)) (eV 6))) (eK (.int 2147483629))))
   (sApp 4 (e2 oMod (e2 oMul (eV 9) (eV 9)) (eK (.int 2147483587)))))))
noncomputable def g_draws:DG:=
  (sSeq (sSet 3 (e2 oAdd (eF (fSl (eV 0) pN (pS (eK (.int 63))))) (eF (eLst (aC (eV 1) aN)))))
  (sSeq (sSetO 4 (eLst aN))
  (sSeq (sIf (tB1 (e2 oEq (e2 oMod (e2 oFdiv (e2 oIx (eV 3) (eK (.int 0))) (eK (.int 50000))) (eK (.int 2))) (eK (.int 1))))
  (sSeq (sSetO 5 (fLC (iL (eV 3)) [none] (gN 0) tYes (e2 oFdiv (eV 0) (eK (.int 100000)))))
   (sSeq (sFor (iR1 (e2 oAdd (eV 1) (eV 2))) (gN 6)
   b_draws_1)
   (sRetO 4)))
  sNil)
  (sSeq (sFor (iR1 (eV 2)) (gN 6)
  b_draws_2)
  (sRetO 4)))))
noncomputable def F_draws:List D→Option (List D):=runO 3 10 g_draws
noncomputable abbrev st_draws:Stmt:=top 13
noncomputable abbrev N_draws:List Str:=["_law_script", "_law_turn", "_law_many", "_law_cells", "_law_found", "_law_left", "_law_k", "_law_at", "_law_place", "_law_number"]
theorem sc_draws:FnScope N_draws ["_law_script", "_law_turn", "_law_many"] (defScope st_draws):=⟨rfl,rfl,rfl,by decide +kernel,rfl,by decide +kernel,by decide +kernel⟩
noncomputable def g_pop:DG:=
  (sSeq (sIf (tB1 (e2 oEq (eV 0) (eF (eLst aN))))
  (sRetM (mP (eK (.int 0))))
  sNil)
  (sRetM (mPop 0)))
noncomputable def F_pop:List D→Option (D×List D):=runM 1 1 0 g_pop
noncomputable abbrev st_pop:Stmt:=top 14
noncomputable abbrev N_pop:List Str:=["_law_draws_here"]
theorem sc_pop:FnScope N_pop ["_law_draws_here"] (defScope st_pop):=⟨rfl,rfl,rfl,by decide +kernel,rfl,by decide +kernel,by decide +kernel⟩
noncomputable def g_name:DG:=
  (sSeq (sSet 2 (eK (.str (Str.ofString "abcdefghijklmnopqrstuvwxyz"))))
  (sSeq (sSet 3 (e2 oJoin (eK (.str (Str.ofString ""))) (eF (fLC (iR1 (e2 oMod (eV 1) (eK (.int 5)))) [none,some 2,some 1] (gN 0) tYes (e2 oIx (eV 1) (e2 oMod (e2 oAdd (e2 oFdiv (eV 2) (eK (.int 150))) (e2 oMul (eV 0) (eV 0))) (eK (.int 26))))))))
  (sSeq (sSet 4 (e2 oMod (e2 oFdiv (eV 1) (eK (.int 5))) (e2 oAdd (eCall oLen (aC (eV 3) aN)) (eK (.int 1)))))
  (sRet (e2 oAdd (e2 oAdd (eSlS (eV 3) pN (pS (eV 4))) (e2 oIx (eV 2) (e2 oMod (e2 oAdd (eV 0) (eV 1)) (eK (.int 26))))) (eSlS (eV 3) (pS (eV 4)) pN))))))
noncomputable def F_name:List D→Option D:=runD 2 5 g_name
noncomputable abbrev st_name:Stmt:=top 16
noncomputable abbrev N_name:List Str:=["_law_k", "_law_draw", "_law_letters", "_law_base", "_law_at"]
theorem sc_name:FnScope N_name ["_law_k", "_law_draw"] (defScope st_name):=⟨rfl,rfl,rfl,by decide +kernel,rfl,by decide +kernel,by decide +kernel⟩
noncomputable def g_names:DG:=
  (sRetF (fLC (iR1 (e2 oAdd (eK (.int 1)) (e2 oMod (e2 oFdiv (eV 0) (eK (.int 7))) (eK (.int 4))))) [none,some 0] (gN 0) tYes (eCall F_name (aC (eV 0) (aC (eV 1) aN)))))
noncomputable def F_names:List D→Option D:=runD 1 1 g_names
noncomputable abbrev st_names:Stmt:=top 17
noncomputable abbrev N_names:List Str:=["_law_draw"]
theorem sc_names:FnScope N_names ["_law_draw"] (defScope st_names):=⟨rfl,rfl,rfl,by decide +kernel,rfl,by decide +kernel,by decide +kernel⟩
noncomputable def g_text:DG:=
  (sSeq (sSet 1 (eF (eLst (aC (eK (.str (Str.ofString ""))) (aC (eK (.str (Str.ofString "x"))) (aC (eK (.str (Str.ofString "any"))) (aC (eK (.str (Str.ofString "\""))) (aC (eK (.str (Str.ofString "\\"))) (aC (eK (.str (Str.ofString "\\q"))) (aC (eK (.str (Str.ofString "a b"))) (aC (eK (.str (Str.ofString "]"))) aN)))))))))))
  (sRet (e2 oIx (eV 1) (e2 oMod (eV 0) (eCall oLen (aC (eV 1) aN))))))
noncomputable def F_text:List D→Option D:=runD 1 2 g_text
noncomputable abbrev st_text:Stmt:=top 18
noncomputable abbrev N_text:List Str:=["_law_number", "_law_some"]
theorem sc_text:FnScope N_text ["_law_number"] (defScope st_text):=⟨rfl,rfl,rfl,by decide +kernel,rfl,by decide +kernel,by decide +kernel⟩
noncomputable section
variable {P:Program}{w:World}{K:Frag}{mg:Str→Option Value}{base:Heap}{f:Addr}{fd:FuncData}
theorem ok_draws (F:Fun K "_law_draws" "_law_draws" st_draws f fd) (z_len:mg "len" = none) (z_range:mg "range" = none):FnOk P w K mg base CX0 1 f fd ["_law_script", "_law_turn", "_law_many"] (spO K F_draws):=
 F.okO (own:=[4,5]) (own':=[4,5]) (g:=g_draws) sc_draws (by decide) fun cdv A outer s H E hr B hB=>
  (dss_cons (ds_set (i:=3) sc_draws.nd rfl (.inl rfl) (de_op od_add (dq (df (de_slL (vQ 0) dpo_none (dpo_some (dq de_int))))) (dq (df (de_lst (da_cons (vP 1) da_nil))))))
  (dss_cons (ds_setO (i:=4) sc_draws.nd rfl (.inl rfl) (de_lst da_nil))
  (dss_cons (ds_if (dt_cmp (od_eq hr) (dq (de_op od_mod (dq (de_op od_fdiv (dq (de_ix (vQ 3) (dq de_int))) (dq de_int))) (dq de_int))) (dq de_int) (nomark _))
  (dss_cons (ds_lcsetO (i:=5) (own':=[]) (N:=[("_law_cell" : Str)]) (src:=[none]) (blk_mk (outer:=defScope st_draws) (oN:=N_draws) rfl (by decide +kernel) rfl rfl) rfl sc_draws.nd rfl rfl (di_list (vP 3)) (ag_name 0) (by decide) (hte_name 0) (fun C s H ex=>⟨pg_name (i:=0) (show ([("_law_cell" : Str)]:List Str).Nodup by decide +kernel) rfl (.inl rfl),dts_nil,(de_op od_fdiv (vQ 0) (dq de_int))⟩))
   (dss_cons (ds_for PassesOwn.never rfl (di_range1 rfl z_range (dq (de_op od_add (vQ 1) (vQ 2)))) (fun B hB=>(dg_name (pg_name (i:=6) sc_draws.nd rfl (.inl rfl)))) (fun B hB=>
   (dss_cons (ds_set (i:=7) sc_draws.nd rfl (.inl rfl) (de_op od_mod (vQ 6) (dq (de_len rfl z_len (dvo (pv 5))))))
    (dss_cons (ds_if (dt_cmp od_ge (vQ 6) (vQ 1) (nomark _))
    (dss_one (ds_app (pv 4) (de_op od_mod (dq (de_ix (dvo (pv 5)) (vQ 7))) (dq de_int))))
    dss_nil)
    (dss_one (ds_item (pv 5) (vQ 7) (de_op od_fdiv (dq (de_ix (dvo (pv 5)) (vQ 7))) (dq de_int))))))))
   (dss_one (ds_retO (pv 4)))))
  dss_nil)
  (dss_cons (ds_for PassesOwn.never rfl (di_range1 rfl z_range (vQ 2)) (fun B hB=>(dg_name (pg_name (i:=6) sc_draws.nd rfl (.inl rfl)))) (fun B hB=>
  (dss_cons (ds_set (i:=8) sc_draws.nd rfl (.inl rfl) (de_op od_add (dq (de_op od_mul (dq (de_op od_mul (dq (de_op od_add (vQ 6) (vQ 1))) (dq (de_op od_add (vQ 6) (vQ 1))))) (dq de_int))) (dq de_int)))
   (dss_cons (ds_set (i:=9) sc_draws.nd rfl (.inl rfl) (de_op od_mod (dq (de_op od_mul (dq (de_op od_add (dq (de_op od_mod (dq (de_ix (vQ 3) (dq (de_op od_mod (vQ 6) (dq (de_len rfl z_len (vQ 3))))))) (dq de_int))) (vQ 8))) (dq de_int))) (dq de_int)))
   (dss_cons (ds_set (i:=9) sc_draws.nd rfl (.inl rfl) (de_op od_mod (dq (de_op od_add (dq (de_op od_mul (vQ 9) (vQ 9))) (dq (de_op od_mul (dq de_int) (vQ 6))))) (dq de_int)))
   (dss_one (ds_app (pv 4) (de_op od_mod (dq (de_op od_mul (vQ 9) (vQ 9))) (dq de_int)))))))))
  (dss_one (ds_retO (pv 4)))))))
theorem ok_pop (F:Fun K "_law_pop" "_law_pop" st_pop f fd):FnOk P w K mg base CX0 1 f fd ["_law_draws_here"] (spM K 0 F_pop):=
 F.okM (own:=[0]) (own':=[0]) (g:=g_pop) sc_pop 0 (by decide) (by decide) fun cdv A outer s H E hr B a hB=>
  (dss_cons (ds_if (dt_cmp (od_eq hr) (dvo (pv 0)) (dq (df (de_lst da_nil))) (nomark _))
  (dss_one (ds_retM (dm_pure de_int)))
  dss_nil)
  (dss_one (ds_retM (dm_pop (pv 0)))))
theorem ok_name (F:Fun K "_law_name" "_law_name" st_name f fd) (z_len:mg "len" = none) (z_range:mg "range" = none):FnOk P w K mg base CX0 1 f fd ["_law_k", "_law_draw"] (spF K F_name):=
 F.okD (own:=[]) (own':=[]) (g:=g_name) sc_name (by decide) fun cdv A outer s H E hr B hB=>
  (dss_cons (ds_set (i:=2) sc_name.nd rfl (.inr rfl) de_str)
  (dss_cons (ds_set (i:=3) sc_name.nd rfl (.inl rfl) (de_join (dq de_str) (dq (df (de_lc (own':=[]) (N:=[("_law_j" : Str),("_law_letters" : Str),("_law_draw" : Str)]) (src:=[none,some 2,some 1]) (blk_mk (outer:=defScope st_name) (oN:=N_name) rfl (by decide +kernel) rfl rfl) rfl (di_range1 rfl z_range (dq (de_op od_mod (vQ 1) (dq de_int)))) (ag_name 0) (by decide) (hte_name 0) (fun C s H ex=>⟨pg_name (i:=0) (show ([("_law_j" : Str),("_law_letters" : Str),("_law_draw" : Str)]:List Str).Nodup by decide +kernel) rfl (.inl rfl),dts_nil,(de_ix (vQ 1) (dq (de_op od_mod (dq (de_op od_add (dq (de_op od_fdiv (vQ 2) (dq de_int))) (dq (de_op od_mul (vQ 0) (vQ 0))))) (dq de_int))))⟩))))))
  (dss_cons (ds_set (i:=4) sc_name.nd rfl (.inl rfl) (de_op od_mod (dq (de_op od_fdiv (vQ 1) (dq de_int))) (dq (de_op od_add (dq (de_len rfl z_len (vQ 3))) (dq de_int)))))
  (dss_one (ds_ret (de_op od_add (dq (de_op od_add (dq (de_slS (vQ 3) dpo_none (dpo_some (vQ 4)))) (dq (de_ix (vQ 2) (dq (de_op od_mod (dq (de_op od_add (vQ 0) (vQ 1))) (dq de_int))))))) (dq (de_slS (vQ 3) (dpo_some (vQ 4)) dpo_none))))))))
theorem ok_names (F:Fun K "_law_names" "_law_names" st_names f fd) (z_range:mg "range" = none) (h_name:Ok1 P w K mg base "_law_name" 1 (spF K F_name)):FnOk P w K mg base CX0 2 f fd ["_law_draw"] (spF K F_names):=
 F.okD (own:=[]) (own':=[]) (g:=g_names) sc_names (by decide) fun cdv A outer s H E hr B hB=>
  (dss_one (ds_retF (de_lc (own':=[]) (N:=[("_law_k" : Str),("_law_draw" : Str)]) (src:=[none,some 0]) (blk_mk (outer:=defScope st_names) (oN:=N_names) rfl (by decide +kernel) rfl rfl) rfl (di_range1 rfl z_range (dq (de_op od_add (dq de_int) (dq (de_op od_mod (dq (de_op od_fdiv (vQ 0) (dq de_int))) (dq de_int)))))) (ag_name 0) (by decide) (hte_name 0) (fun C s H ex=>⟨pg_name (i:=0) (show ([("_law_k" : Str),("_law_draw" : Str)]:List Str).Nodup by decide +kernel) rfl (.inl rfl),dts_nil,(de_call h_name hr rfl (da_cons (vP 0) (da_cons (vP 1) da_nil)))⟩))))
theorem ok_text (F:Fun K "_law_text" "_law_text" st_text f fd) (z_len:mg "len" = none):FnOk P w K mg base CX0 1 f fd ["_law_number"] (spF K F_text):=
 F.okD (own:=[]) (own':=[]) (g:=g_text) sc_text (by decide) fun cdv A outer s H E hr B hB=>
  (dss_cons (ds_set (i:=1) sc_text.nd rfl (.inl rfl) (df (de_lst (da_cons de_str (da_cons de_str (da_cons de_str (da_cons de_str (da_cons de_str (da_cons de_str (da_cons de_str (da_cons de_str da_nil)))))))))))
  (dss_one (ds_ret (de_ix (vQ 1) (dq (de_op od_mod (vQ 0) (dq (de_len rfl z_len (vQ 1)))))))))
end
end K15
end
noncomputable section
namespace K15
open PySem L2
noncomputable def g_wish (F_wish:List D→Option (D×List D)) (F_steps:List D→Option (D×List D)):DG:=
  (sSeq (sSetM 3 (mCall F_pop 0 aN))
  (sSeq (sSet 4 (e2 oMod (eV 3) (eK (.int 8))))
  (sSeq (sIf (tOrD (tB1 (e2 oEq (eV 4) (eK (.int 2)))) (tB1 (e2 oEq (eV 4) (eK (.int 3)))))
  (sRetM (mP (eTup (aC (eK (.str (Str.ofString "text"))) (aC (eCall F_text (aC (e2 oFdiv (eV 3) (eK (.int 8))) aN)) aN)))))
  sNil)
  (sSeq (sIf (tOrD (tB1 (e2 oLt (eV 4) (eK (.int 2)))) (tB1 (e2 oEq (eV 2) (eK (.int 0)))))
  (sRetM (mP (eTup (aC (eK (.str (Str.ofString "any"))) aN))))
  sNil)
  (sSeq (sIf (tB1 (e2 oLt (eV 4) (eK (.int 6))))
  (sRetM (mTup (mAC (mP (eK (.str (Str.ofString "has")))) (mAC (mCall F_steps 0 (aC (eV 1) (aC (e2 oSub (eV 2) (eK (.int 1))) aN))) mAN))))
  sNil)
  (sSeq (sSet 5 (e2 oIx (eF (eLst (aC (eK (.int 2)) (aC (eK (.int 1)) (aC (eK (.int 0)) (aC (eK (.int 3)) aN)))))) (e2 oMod (e2 oFdiv (eV 3) (eK (.int 8))) (eK (.int 4)))))
  (sRetM (mTup (mAC (mP (e2 oIx (eF (eLst (aC (eK (.str (Str.ofString "both"))) (aC (eK (.str (Str.ofString "one"))) aN)))) (e2 oSub (eV 4) (eK (.int 6))))) (mAC (mLC (iR1 (eV 5)) [none,some 0,some 1,some 2] (gN 0) (mCall F_wish 1 (aC (eV 2) (aC (e2 oSub (eV 3) (eK (.int 1))) aN))) 1 0) mAN))))))))))
noncomputable abbrev st_wish:Stmt:=top 19
noncomputable abbrev N_wish:List Str:=["_law_draws_here", "_law_names_here", "_law_deep", "_law_number", "_law_kind", "_law_many"]
theorem sc_wish:FnScope N_wish ["_law_draws_here", "_law_names_here", "_law_deep"] (defScope st_wish):=⟨rfl,rfl,rfl,by decide +kernel,rfl,by decide +kernel,by decide +kernel⟩
noncomputable def b_steps_1 (F_wish:List D→Option (D×List D)) (F_steps:List D→Option (D×List D)):DG:=
  (sSeq (sSetM 5 (mCall F_pop 0 aN))
   (sSeq (sSet 6 (e2 oIx (e2 oAdd (eV 1) (eF (eLst (aC (eK (.str (Str.ofString "*"))) aN)))) (e2 oMod (e2 oFdiv (eV 5) (eK (.int 2))) (e2 oAdd (eCall oLen (aC (eV 1) aN)) (eK (.int 1))))))
   (sAppM 3 (mTup (mAC (mP (e2 oIx (eF (eLst (aC (eK (.str (Str.ofString "inner"))) (aC (eK (.str (Str.ofString "own"))) aN)))) (e2 oMod (eV 5) (eK (.int 2))))) (mAC (mP (eV 6)) (mAC (mCall F_wish 0 (aC (eV 1) (aC (eV 2) aN))) mAN)))))))
noncomputable def g_steps (F_wish:List D→Option (D×List D)) (F_steps:List D→Option (D×List D)):DG:=
  (sSeq (sSetO 3 (eLst aN))
  (sSeq (sForM (iRM (m2 oIx (mP (eF (eLst (aC (eK (.int 1)) (aC (eK (.int 1)) (aC (eK (.int 2)) (aC (eK (.int 3)) aN))))))) (m2 oMod (mCall F_pop 0 aN) (mP (eK (.int 4)))))) (gN 4)
  (b_steps_1 F_wish F_steps))
  (sRetMO 3)))
noncomputable abbrev st_steps:Stmt:=top 20
noncomputable abbrev N_steps:List Str:=["_law_draws_here", "_law_names_here", "_law_deep", "_law_found", "_law_k", "_law_number", "_law_name_here"]
theorem sc_steps:FnScope N_steps ["_law_draws_here", "_law_names_here", "_law_deep"] (defScope st_steps):=⟨rfl,rfl,rfl,by decide +kernel,rfl,by decide +kernel,by decide +kernel⟩
mutual
noncomputable def Fr_wish:Nat→List D→Option (D×List D)
 | 0=>fun _=>none
 | n+1=>runM 3 6 0 (g_wish (Fr_wish n) (Fr_steps n))
noncomputable def Fr_steps:Nat→List D→Option (D×List D)
 | 0=>fun _=>none
 | n+1=>runM 3 7 0 (g_steps (Fr_wish n) (Fr_steps n))
end
noncomputable section
variable {P:Program}{w:World}{K:Frag}{mg:Str→Option Value}{base:Heap}{f:Addr}{fd:FuncData}
theorem ok_wish {n:Nat}(F:Fun K "_law_wish" "_law_wish" st_wish f fd) (z_range:mg "range" = none) (h_pop:Ok1 P w K mg base "_law_pop" (n+1) (spM K 0 F_pop)) (h_text:Ok1 P w K mg base "_law_text" (n+1) (spF K F_text)) (h_steps:Ok1 P w K mg base "_law_steps" (n+1) (spM K 0 (Fr_steps n))) (h_wish:Ok1 P w K mg base "_law_wish" (n+1) (spM K 0 (Fr_wish n))):FnOk P w K mg base CX0 (n+1+1) f fd ["_law_draws_here", "_law_names_here", "_law_deep"] (spM K 0 (Fr_wish (n+1))):=
 F.okM (own:=[0]) (own':=[0]) (g:=(g_wish (Fr_wish n) (Fr_steps n))) sc_wish 0 (by decide) (by decide) fun cdv A outer s H E hr B a hB=>
  (dss_cons (ds_setM (i:=3) sc_wish.nd rfl (.inl rfl) (dm_call h_pop hr rfl (pv 0) da_nil))
  (dss_cons (ds_set (i:=4) sc_wish.nd rfl (.inl rfl) (de_op od_mod (vQ 3) (dq de_int)))
  (dss_cons (ds_if (PW.pt (dw_or (dt_cmp (od_eq hr) (vQ 4) (dq de_int) (nomark _)) (dw_or1 (dt_cmp (od_eq hr) (vQ 4) (dq de_int) (nomark _)))))
  (dss_one (ds_retM (dm_pure (de_tup (da_cons de_str (da_cons (de_call h_text hr rfl (da_cons (de_op od_fdiv (vQ 3) (dq de_int)) da_nil)) da_nil))))))
  dss_nil)
  (dss_cons (ds_if (PW.pt (dw_or (dt_cmp od_lt (vQ 4) (dq de_int) (nomark _)) (dw_or1 (dt_cmp (od_eq hr) (vQ 2) (dq de_int) (nomark _)))))
  (dss_one (ds_retM (dm_pure (de_tup (da_cons de_str da_nil)))))
  dss_nil)
  (dss_cons (ds_if (dt_cmp od_lt (vQ 4) (dq de_int) (nomark _))
  (dss_one (ds_retM (dm_tup (dma_cons (dm_pure de_str) (dma_cons (dm_call h_steps hr rfl (pv 0) (da_cons (vP 1) (da_cons (de_op od_sub (vQ 2) (dq de_int)) da_nil))) dma_nil)))))
  dss_nil)
  (dss_cons (ds_set (i:=5) sc_wish.nd rfl (.inl rfl) (de_ix (dq (df (de_lst (da_cons de_int (da_cons de_int (da_cons de_int (da_cons de_int da_nil))))))) (dq (de_op od_mod (dq (de_op od_fdiv (vQ 3) (dq de_int))) (dq de_int)))))
  (dss_one (ds_retM (dm_tup (dma_cons (dm_pure (de_ix (dq (df (de_lst (da_cons de_str (da_cons de_str da_nil))))) (dq (de_op od_sub (vQ 4) (dq de_int))))) (dma_cons (dm_lc (i0:=1) (j0:=0) (N:=[("_law_k" : Str),("_law_draws_here" : Str),("_law_names_here" : Str),("_law_deep" : Str)]) (src:=[none,some 0,some 1,some 2]) (blk_mk (outer:=defScope st_wish) (oN:=N_wish) rfl (by decide +kernel) rfl rfl) rfl (di_range1 rfl z_range (vQ 5)) (ag_name 0) (by decide) (htm_name _ 0 1) (fun C s H ex=>⟨pg_name (i:=0) (show ([("_law_k" : Str),("_law_draws_here" : Str),("_law_names_here" : Str),("_law_deep" : Str)]:List Str).Nodup by decide +kernel) rfl (Or.inl rfl),dts_nil,dmx fun B a hB=>(dm_call h_wish hr rfl (pv 1) (da_cons (vP 2) (da_cons (de_op od_sub (vQ 3) (dq de_int)) da_nil)))⟩)) dma_nil)))))))))))
theorem ok_steps {n:Nat}(F:Fun K "_law_steps" "_law_steps" st_steps f fd) (z_len:mg "len" = none) (z_range:mg "range" = none) (h_pop:Ok1 P w K mg base "_law_pop" (n+1) (spM K 0 F_pop)) (h_wish:Ok1 P w K mg base "_law_wish" (n+1) (spM K 0 (Fr_wish n))):FnOk P w K mg base CX0 (n+1+1) f fd ["_law_draws_here", "_law_names_here", "_law_deep"] (spM K 0 (Fr_steps (n+1))):=
 F.okM (own:=[0,3]) (own':=[0,3]) (g:=(g_steps (Fr_wish n) (Fr_steps n))) sc_steps 0 (by decide) (by decide) fun cdv A outer s H E hr B a hB=>
  (dss_cons (ds_setO (i:=3) sc_steps.nd rfl (.inl rfl) (de_lst da_nil))
  (dss_cons (ds_forM PassesOwn.never rfl (dim_range1 rfl z_range (dm_ix (dm_pure (df (de_lst (da_cons de_int (da_cons de_int (da_cons de_int (da_cons de_int da_nil))))))) (dm_op od_mod (dm_call h_pop hr rfl (pv 0) da_nil) (dm_pure de_int)))) (fun B hB=>(dg_name (pg_name (i:=4) sc_steps.nd rfl (.inl rfl)))) (fun B hB=>
  (dss_cons (ds_setM (i:=5) sc_steps.nd rfl (.inl rfl) (dm_call h_pop hr rfl (pv 0) da_nil))
   (dss_cons (ds_set (i:=6) sc_steps.nd rfl (.inl rfl) (de_ix (dq (de_op od_add (vQ 1) (dq (df (de_lst (da_cons de_str da_nil)))))) (dq (de_op od_mod (dq (de_op od_fdiv (vQ 5) (dq de_int))) (dq (de_op od_add (dq (de_len rfl z_len (vQ 1))) (dq de_int)))))))
   (dss_one (ds_appM (pv 3) (dm_tup (dma_cons (dm_pure (de_ix (dq (df (de_lst (da_cons de_str (da_cons de_str da_nil))))) (dq (de_op od_mod (vQ 5) (dq de_int))))) (dma_cons (dm_pure (vP 6)) (dma_cons (dm_call h_wish hr rfl (pv 0) (da_cons (vP 1) (da_cons (vP 2) da_nil))) dma_nil))))))))))
  (dss_one (ds_retMO (pv 3)))))
end
end K15
end
noncomputable section
namespace K15
open PySem L2
noncomputable def g_shown (F_shown:List D→Option D) (F_shown_step:List D→Option D) (F_shown_wish:List D→Option D):DG:=
  (sRet (e2 oJoin (eK (.str (Str.ofString ""))) (eF (fLC (iL (eV 0)) [none] (gN 0) tYes (eCall F_shown_step (aC (eV 0) aN))))))
noncomputable abbrev st_shown:Stmt:=top 7
noncomputable abbrev N_shown:List Str:=["question"]
theorem sc_shown:FnScope N_shown ["question"] (defScope st_shown):=⟨rfl,rfl,rfl,by decide +kernel,rfl,by decide +kernel,by decide +kernel⟩
noncomputable def g_shown_step (F_shown:List D→Option D) (F_shown_step:List D→Option D) (F_shown_wish:List D→Option D):DG:=
  (sSeq (sSet 1 (e2 oAdd (eIfE (tB1 (e2 oEq (e2 oIx (eV 0) (eK (.int 0))) (eK (.str (Str.ofString "own"))))) (eK (.str (Str.ofString "/"))) (eK (.str (Str.ofString "//")))) (e2 oIx (eV 0) (eK (.int 1)))))
  (sSeq (sIf (tB1 (e2 oEq (e2 oIx (e2 oIx (eV 0) (eK (.int 2))) (eK (.int 0))) (eK (.str (Str.ofString "any")))))
  (sRet (eV 1))
  sNil)
  (sRet (e2 oAdd (e2 oAdd (e2 oAdd (eV 1) (eK (.str (Str.ofString "[")))) (eCall F_shown_wish (aC (e2 oIx (eV 0) (eK (.int 2))) aN))) (eK (.str (Str.ofString "]")))))))
noncomputable abbrev st_shown_step:Stmt:=top 8
noncomputable abbrev N_shown_step:List Str:=["step", "line"]
theorem sc_shown_step:FnScope N_shown_step ["step"] (defScope st_shown_step):=⟨rfl,rfl,rfl,by decide +kernel,rfl,by decide +kernel,by decide +kernel⟩
noncomputable def g_shown_wish (F_shown:List D→Option D) (F_shown_step:List D→Option D) (F_shown_wish:List D→Option D):DG:=
  (sSeq (sIf (tB1 (e2 oEq (e2 oIx (eV 0) (eK (.int 0))) (eK (.str (Str.ofString "any")))))
  (sRet (eK (.str (Str.ofString "any"))))
  sNil)
  (sSeq (sIf (tB1 (e2 oEq (e2 oIx (eV 0) (eK (.int 0))) (eK (.str (Str.ofString "text")))))
  (sRet (e2 oAdd (e2 oAdd (eK (.str (Str.ofString "\""))) (e1 (oRepl (Str.ofString "\"") (Str.ofString "\\q")) (e1 (oRepl (Str.ofString "\\") (Str.ofString "\\\\")) (e2 oIxT (eV 0) (eK (.int 1)))))) (eK (.str (Str.ofString "\"")))))
  sNil)
  (sSeq (sIf (tB1 (e2 oEq (e2 oIx (eV 0) (eK (.int 0))) (eK (.str (Str.ofString "has")))))
  (sRet (eCall F_shown (aC (e2 oIx (eV 0) (eK (.int 1))) aN)))
  sNil)
  (sSeq (sSet 1 (e1 (oTab tab_MARKS) (e2 oIx (eV 0) (eK (.int 0)))))
  (sSeq (sSet 2 (eF (fLC (iL (e2 oIx (eV 0) (eK (.int 1)))) [none] (gN 0) tYes (eCall F_shown_wish (aC (eV 0) aN)))))
  (sSeq (sIf (tB1 (e2 oEq (eCall oLen (aC (eV 2) aN)) (eK (.int 0))))
  (sRet (e2 oAdd (e2 oAdd (eK (.str (Str.ofString "("))) (eV 1)) (eK (.str (Str.ofString ")")))))
  sNil)
  (sSeq (sIf (tB1 (e2 oEq (eCall oLen (aC (eV 2) aN)) (eK (.int 1))))
  (sRet (e2 oAdd (e2 oAdd (e2 oAdd (e2 oAdd (eK (.str (Str.ofString "("))) (eV 1)) (eK (.str (Str.ofString " ")))) (e2 oIx (eV 2) (eK (.int 0)))) (eK (.str (Str.ofString ")")))))
  sNil)
  (sSeq (sSet 3 (e2 oAdd (e2 oAdd (eK (.str (Str.ofString " "))) (eV 1)) (eK (.str (Str.ofString " ")))))
  (sRet (e2 oAdd (e2 oAdd (eK (.str (Str.ofString "("))) (e2 oJoin (eV 3) (eV 2))) (eK (.str (Str.ofString ")")))))))))))))
noncomputable abbrev st_shown_wish:Stmt:=top 9
noncomputable abbrev N_shown_wish:List Str:=["wish", "mark", "lines", "between"]
theorem sc_shown_wish:FnScope N_shown_wish ["wish"] (defScope st_shown_wish):=⟨rfl,rfl,rfl,by decide +kernel,rfl,by decide +kernel,by decide +kernel⟩
mutual
noncomputable def Fr_shown:Nat→List D→Option D
 | 0=>fun _=>none
 | n+1=>runD 1 1 (g_shown (Fr_shown n) (Fr_shown_step n) (Fr_shown_wish n))
noncomputable def Fr_shown_step:Nat→List D→Option D
 | 0=>fun _=>none
 | n+1=>runD 1 2 (g_shown_step (Fr_shown n) (Fr_shown_step n) (Fr_shown_wish n))
noncomputable def Fr_shown_wish:Nat→List D→Option D
 | 0=>fun _=>none
 | n+1=>runD 1 4 (g_shown_wish (Fr_shown n) (Fr_shown_step n) (Fr_shown_wish n))
end
noncomputable section
variable {P:Program}{w:World}{K:Frag}{mg:Str→Option Value}{base:Heap}{f:Addr}{fd:FuncData}
theorem ok_shown {n:Nat}(F:Fun K "shown" "shown" st_shown f fd) (h_shown_step:Ok1 P w K mg base "shown_step" (n+0) (spF K (Fr_shown_step n))):FnOk P w K mg base CX0 (n+0+1) f fd ["question"] (spF K (Fr_shown (n+1))):=
 F.okD (own:=[]) (own':=[]) (g:=(g_shown (Fr_shown n) (Fr_shown_step n) (Fr_shown_wish n))) sc_shown (by decide) fun cdv A outer s H E hr B hB=>
  (dss_one (ds_ret (de_join (dq de_str) (dq (df (de_lc (own':=[]) (N:=[("step" : Str)]) (src:=[none]) (blk_mk (outer:=defScope st_shown) (oN:=N_shown) rfl (by decide +kernel) rfl rfl) rfl (di_list (vP 0)) (ag_name 0) (by decide) (hte_name 0) (fun C s H ex=>⟨pg_name (i:=0) (show ([("step" : Str)]:List Str).Nodup by decide +kernel) rfl (.inl rfl),dts_nil,(de_call h_shown_step hr rfl (da_cons (vP 0) da_nil))⟩)))))))
theorem ok_shown_step {n:Nat}(F:Fun K "shown_step" "shown_step" st_shown_step f fd) (h_shown_wish:Ok1 P w K mg base "shown_wish" (n+0) (spF K (Fr_shown_wish n))):FnOk P w K mg base CX0 (n+0+1) f fd ["step"] (spF K (Fr_shown_step (n+1))):=
 F.okD (own:=[]) (own':=[]) (g:=(g_shown_step (Fr_shown n) (Fr_shown_step n) (Fr_shown_wish n))) sc_shown_step (by decide) fun cdv A outer s H E hr B hB=>
  (dss_cons (ds_set (i:=1) sc_shown_step.nd rfl (.inl rfl) (de_op od_add (dq (de_if (dt_cmp (od_eq hr) (dq (de_ix (vQ 0) (dq de_int))) (dq de_str) (nomark _)) de_str de_str)) (dq (de_ix (vQ 0) (dq de_int)))))
  (dss_cons (ds_if (dt_cmp (od_eq hr) (dq (de_ix (dq (de_ix (vQ 0) (dq de_int))) (dq de_int))) (dq de_str) (nomark _))
  (dss_one (ds_ret (vP 1)))
  dss_nil)
  (dss_one (ds_ret (de_op od_add (dq (de_op od_add (dq (de_op od_add (vQ 1) (dq de_str))) (dq (de_call h_shown_wish hr rfl (da_cons (de_ix (vQ 0) (dq de_int)) da_nil))))) (dq de_str))))))
theorem ok_shown_wish {n:Nat}(F:Fun K "shown_wish" "shown_wish" st_shown_wish f fd) (z_len:mg "len" = none) (T_MARKS:TabG P w K mg "MARKS" tab_MARKS) (h_shown:Ok1 P w K mg base "shown" (n+0) (spF K (Fr_shown n))) (h_shown_wish:Ok1 P w K mg base "shown_wish" (n+0) (spF K (Fr_shown_wish n))):FnOk P w K mg base CX0 (n+0+1) f fd ["wish"] (spF K (Fr_shown_wish (n+1))):=
 F.okD (own:=[]) (own':=[]) (g:=(g_shown_wish (Fr_shown n) (Fr_shown_step n) (Fr_shown_wish n))) sc_shown_wish (by decide) fun cdv A outer s H E hr B hB=>
  (dss_cons (ds_if (dt_cmp (od_eq hr) (dq (de_ix (vQ 0) (dq de_int))) (dq de_str) (nomark _))
  (dss_one (ds_ret de_str))
  dss_nil)
  (dss_cons (ds_if (dt_cmp (od_eq hr) (dq (de_ix (vQ 0) (dq de_int))) (dq de_str) (nomark _))
  (dss_one (ds_ret (de_op od_add (dq (de_op od_add (dq de_str) (dq (PEk.pe (dek_replace (dek_replace (dek_ix (vQ 0)))))))) (dq de_str))))
  dss_nil)
  (dss_cons (ds_if (dt_cmp (od_eq hr) (dq (de_ix (vQ 0) (dq de_int))) (dq de_str) (nomark _))
  (dss_one (ds_ret (de_call h_shown hr rfl (da_cons (de_ix (vQ 0) (dq de_int)) da_nil))))
  dss_nil)
  (dss_cons (ds_set (i:=1) sc_shown_wish.nd rfl (.inl rfl) (de_tab T_MARKS rfl (dq (de_ix (vQ 0) (dq de_int)))))
  (dss_cons (ds_lcset (i:=2) (own':=[]) (N:=[("other" : Str)]) (src:=[none]) (blk_mk (outer:=defScope st_shown_wish) (oN:=N_shown_wish) rfl (by decide +kernel) rfl rfl) rfl sc_shown_wish.nd rfl rfl (di_list (de_ix (vQ 0) (dq de_int))) (ag_name 0) (by decide) (hte_name 0) (fun C s H ex=>⟨pg_name (i:=0) (show ([("other" : Str)]:List Str).Nodup by decide +kernel) rfl (.inl rfl),dts_nil,(de_call h_shown_wish hr rfl (da_cons (vP 0) da_nil))⟩))
  (dss_cons (ds_if (dt_cmp (od_eq hr) (dq (de_len rfl z_len (vQ 2))) (dq de_int) (nomark _))
  (dss_one (ds_ret (de_op od_add (dq (de_op od_add (dq de_str) (vQ 1))) (dq de_str))))
  dss_nil)
  (dss_cons (ds_if (dt_cmp (od_eq hr) (dq (de_len rfl z_len (vQ 2))) (dq de_int) (nomark _))
  (dss_one (ds_ret (de_op od_add (dq (de_op od_add (dq (de_op od_add (dq (de_op od_add (dq de_str) (vQ 1))) (dq de_str))) (dq (de_ix (vQ 2) (dq de_int))))) (dq de_str))))
  dss_nil)
  (dss_cons (ds_set (i:=3) sc_shown_wish.nd rfl (.inl rfl) (de_op od_add (dq (de_op od_add (dq de_str) (vQ 1))) (dq de_str)))
  (dss_one (ds_ret (de_op od_add (dq (de_op od_add (dq de_str) (dq (de_join (vQ 3) (vQ 2))))) (dq de_str))))))))))))
end
end K15
end
noncomputable section
namespace K15
open PySem L2
noncomputable def g_Reader___init__:DG:=
  (sSeq (sFldD 0 "Reader" "line" (eV 1))
  (sFldD 0 "Reader" "at" (eK (.int 0))))
noncomputable def F_Reader___init__:List D→Option (D×D):=runC 2 2 0 g_Reader___init__
noncomputable abbrev st_Reader___init__:Stmt:=inClass (top 11) 0
noncomputable abbrev N_Reader___init__:List Str:=["self", "line"]
theorem sc_Reader___init__:FnScope N_Reader___init__ ["self", "line"] (defScope st_Reader___init__):=⟨rfl,rfl,rfl,by decide +kernel,rfl,by decide +kernel,by decide +kernel⟩
noncomputable def g_Reader_ahead:DG:=
  (sRet (eSlS (eFld "Reader" "line" (eV 0)) (pS (eFld "Reader" "at" (eV 0))) (pS (e2 oAdd (eFld "Reader" "at" (eV 0)) (eK (.int 1))))))
noncomputable def F_Reader_ahead:List D→Option D:=runD 1 1 g_Reader_ahead
noncomputable abbrev st_Reader_ahead:Stmt:=inClass (top 11) 1
noncomputable abbrev N_Reader_ahead:List Str:=["self"]
theorem sc_Reader_ahead:FnScope N_Reader_ahead ["self"] (defScope st_Reader_ahead):=⟨rfl,rfl,rfl,by decide +kernel,rfl,by decide +kernel,by decide +kernel⟩
noncomputable def b_Reader_pass_over_1:DG:=
  (sSeq (sIf (tB1 (e2 oNe (eMethS "Reader" "ahead" F_Reader_ahead (eV 0) aN) (eV 2)))
   sNever
   sNil)
   (sFldAugD 0 "Reader" "at" (fun i j=>i+j) (eK (.int 1))))
noncomputable def g_Reader_pass_over:DG:=
  (sFor (iS (eV 1)) (gN 2)
  b_Reader_pass_over_1)
noncomputable def F_Reader_pass_over:List D→Option (D×D):=runC 2 3 0 g_Reader_pass_over
noncomputable abbrev st_Reader_pass_over:Stmt:=inClass (top 11) 2
noncomputable abbrev N_Reader_pass_over:List Str:=["self", "signs", "sign"]
theorem sc_Reader_pass_over:FnScope N_Reader_pass_over ["self", "signs"] (defScope st_Reader_pass_over):=⟨rfl,rfl,rfl,by decide +kernel,rfl,by decide +kernel,by decide +kernel⟩
noncomputable def b_Reader_read_name_1:DG:=
  (sFldAugD 0 "Reader" "at" (fun i j=>i+j) (eK (.int 1)))
noncomputable def g_Reader_read_name:DG:=
  (sSeq (sIf (tB1 (e2 oEq (eMethS "Reader" "ahead" F_Reader_ahead (eV 0) aN) (eK (.str (Str.ofString "*")))))
  (sSeq (sExprM (mMeth "Reader" "pass_over" F_Reader_pass_over 0 (aC (eK (.str (Str.ofString "*"))) aN)))
   (sRetM (mP (eK (.str (Str.ofString "*"))))))
  sNil)
  (sSeq (sSet 1 (eFld "Reader" "at" (eV 0)))
  (sSeq (sWhile 1000000 (tChainD oLeS oLeS (eK (.str (Str.ofString "a"))) (eMethS "Reader" "ahead" F_Reader_ahead (eV 0) aN) (eK (.str (Str.ofString "z"))))
  b_Reader_read_name_1)
  (sSeq (sIf (tB1 (e2 oEq (eFld "Reader" "at" (eV 0)) (eV 1)))
  sNever
  sNil)
  (sRetM (mP (eSlS (eFld "Reader" "line" (eV 0)) (pS (eV 1)) (pS (eFld "Reader" "at" (eV 0))))))))))
noncomputable def F_Reader_read_name:List D→Option (D×D):=runC 1 2 0 g_Reader_read_name
noncomputable abbrev st_Reader_read_name:Stmt:=inClass (top 11) 5
noncomputable abbrev N_Reader_read_name:List Str:=["self", "start"]
theorem sc_Reader_read_name:FnScope N_Reader_read_name ["self"] (defScope st_Reader_read_name):=⟨rfl,rfl,rfl,by decide +kernel,rfl,by decide +kernel,by decide +kernel⟩
noncomputable def g_Reader_read_mark:DG:=
  (sSeq (sSet 1 (eMethS "Reader" "ahead" F_Reader_ahead (eV 0) aN))
  (sSeq (sIf (tB1 (e1 (oInT true tab_KINDS) (eV 1)))
  sNever
  sNil)
  (sSeq (sExprM (mMeth "Reader" "pass_over" F_Reader_pass_over 0 (aC (eV 1) aN)))
  (sRetM (mP (eV 1))))))
noncomputable def F_Reader_read_mark:List D→Option (D×D):=runC 1 2 0 g_Reader_read_mark
noncomputable abbrev st_Reader_read_mark:Stmt:=inClass (top 11) 9
noncomputable abbrev N_Reader_read_mark:List Str:=["self", "mark"]
theorem sc_Reader_read_mark:FnScope N_Reader_read_mark ["self"] (defScope st_Reader_read_mark):=⟨rfl,rfl,rfl,by decide +kernel,rfl,by decide +kernel,by decide +kernel⟩
noncomputable def g_Reader_read_text_sign:DG:=
  (sSeq (sSet 1 (eMethS "Reader" "ahead" F_Reader_ahead (eV 0) aN))
  (sSeq (sIf (tOrD (tNotD (tChainD oLeS oLeS (eK (.str (Str.ofString " "))) (eV 1) (eK (.str (Str.ofString "~"))))) (tB1 (e2 oEq (eCall oOrd (aC (eV 1) aN)) (eK (.int 37)))))
  sNever
  sNil)
  (sSeq (sFldAugD 0 "Reader" "at" (fun i j=>i+j) (eK (.int 1)))
  (sSeq (sIf (tB1 (e2 oNe (eV 1) (eK (.str (Str.ofString "\\")))))
  (sRetM (mP (eV 1)))
  sNil)
  (sSeq (sIf (tB1 (e2 oEq (eMethS "Reader" "ahead" F_Reader_ahead (eV 0) aN) (eK (.str (Str.ofString "\\")))))
  (sSeq (sExprM (mMeth "Reader" "pass_over" F_Reader_pass_over 0 (aC (eK (.str (Str.ofString "\\"))) aN)))
   (sRetM (mP (eK (.str (Str.ofString "\\"))))))
  sNil)
  (sSeq (sExprM (mMeth "Reader" "pass_over" F_Reader_pass_over 0 (aC (eK (.str (Str.ofString "q"))) aN)))
  (sRetM (mP (eK (.str (Str.ofString "\"")))))))))))
noncomputable def F_Reader_read_text_sign:List D→Option (D×D):=runC 1 2 0 g_Reader_read_text_sign
noncomputable abbrev st_Reader_read_text_sign:Stmt:=inClass (top 11) 11
noncomputable abbrev N_Reader_read_text_sign:List Str:=["self", "sign"]
theorem sc_Reader_read_text_sign:FnScope N_Reader_read_text_sign ["self"] (defScope st_Reader_read_text_sign):=⟨rfl,rfl,rfl,by decide +kernel,rfl,by decide +kernel,by decide +kernel⟩
noncomputable def b_Reader_read_text_1:DG:=
  (sAppM 1 (mMeth "Reader" "read_text_sign" F_Reader_read_text_sign 0 aN))
noncomputable def g_Reader_read_text:DG:=
  (sSeq (sExprM (mMeth "Reader" "pass_over" F_Reader_pass_over 0 (aC (eK (.str (Str.ofString "\""))) aN)))
  (sSeq (sSetO 1 (eLst aN))
  (sSeq (sWhile 1000000 (tB1 (e2 oNe (eMethS "Reader" "ahead" F_Reader_ahead (eV 0) aN) (eK (.str (Str.ofString "\"")))))
  b_Reader_read_text_1)
  (sSeq (sExprM (mMeth "Reader" "pass_over" F_Reader_pass_over 0 (aC (eK (.str (Str.ofString "\""))) aN)))
  (sRetM (mP (e2 oJoin (eK (.str (Str.ofString ""))) (eV 1))))))))
noncomputable def F_Reader_read_text:List D→Option (D×D):=runC 1 2 0 g_Reader_read_text
noncomputable abbrev st_Reader_read_text:Stmt:=inClass (top 11) 10
noncomputable abbrev N_Reader_read_text:List Str:=["self", "pieces"]
theorem sc_Reader_read_text:FnScope N_Reader_read_text ["self"] (defScope st_Reader_read_text):=⟨rfl,rfl,rfl,by decide +kernel,rfl,by decide +kernel,by decide +kernel⟩
noncomputable section
variable {P:Program}{w:World}{K:Frag}{mg:Str→Option Value}{base:Heap}{f:Addr}{fd:FuncData}
theorem ok_Reader___init__ (F:Fun K "__init__" "Reader.__init__" st_Reader___init__ f fd) (k_Reader_at:∀ C,nsIn K mainGlobals "Reader" = some (some (.ref C))→Cls K C∧NoAttr K C "at") (k_Reader_line:∀ C,nsIn K mainGlobals "Reader" = some (some (.ref C))→Cls K C∧NoAttr K C "line"):FnOk P w K mg base CX0 1 f fd ["self", "line"] (spC K 0 F_Reader___init__):=
 F.okC (own:=[0]) (own':=[0]) (g:=g_Reader___init__) sc_Reader___init__ 0 (by decide) (by decide) fun cdv A outer s H E hr B a hB=>
  (dss_cons (ds_fld (c:= "Reader") (pv 0) (vP 1) k_Reader_line)
  (dss_one (ds_fld (c:= "Reader") (pv 0) de_int k_Reader_at)))
theorem ok_Reader_ahead (F:Fun K "ahead" "Reader.ahead" st_Reader_ahead f fd) (k_Reader_at:∀ C,nsIn K mainGlobals "Reader" = some (some (.ref C))→Cls K C∧NoAttr K C "at") (k_Reader_line:∀ C,nsIn K mainGlobals "Reader" = some (some (.ref C))→Cls K C∧NoAttr K C "line"):FnOk P w K mg base CX0 1 f fd ["self"] (spF K F_Reader_ahead):=
 F.okD (own:=[]) (own':=[]) (g:=g_Reader_ahead) sc_Reader_ahead (by decide) fun cdv A outer s H E hr B hB=>
  (dss_one (ds_ret (de_slS (dq (de_fldQ (c:= "Reader") (vQ 0) k_Reader_line)) (dpo_some (dq (de_fldQ (c:= "Reader") (vQ 0) k_Reader_at))) (dpo_some (dq (de_op od_add (dq (de_fldQ (c:= "Reader") (vQ 0) k_Reader_at)) (dq de_int)))))))
theorem ok_Reader_pass_over (F:Fun K "pass_over" "Reader.pass_over" st_Reader_pass_over f fd) (k_Reader_at:∀ C,nsIn K mainGlobals "Reader" = some (some (.ref C))→Cls K C∧NoAttr K C "at") (h_Reader_ahead:OkMt P w K mg base "Reader" "ahead" 1 (spF K F_Reader_ahead)):FnOk P w K mg base CX0 2 f fd ["self", "signs"] (spC K 0 F_Reader_pass_over):=
 F.okC (own:=[0]) (own':=[0]) (g:=g_Reader_pass_over) sc_Reader_pass_over 0 (by decide) (by decide) fun cdv A outer s H E hr B a hB=>
  (dss_one (ds_for PassesOwn.never rfl (di_str (vP 1)) (fun B hB=>(dg_name (pg_name (i:=2) sc_Reader_pass_over.nd rfl (.inl rfl)))) (fun B hB=>
  (dss_cons (ds_if (dt_cmp (od_ne hr) (dq (de_methS0 h_Reader_ahead hr (dvo (pv 0)))) (vQ 2) (nomark _))
   (dss_one ds_never)
   dss_nil)
   (dss_one (ds_fldaug (c:= "Reader") (op:=(fun i j=>i+j)) in_add (pv 0) de_int k_Reader_at))))))
theorem ok_Reader_read_name (F:Fun K "read_name" "Reader.read_name" st_Reader_read_name f fd) (k_Reader_at:∀ C,nsIn K mainGlobals "Reader" = some (some (.ref C))→Cls K C∧NoAttr K C "at") (k_Reader_line:∀ C,nsIn K mainGlobals "Reader" = some (some (.ref C))→Cls K C∧NoAttr K C "line") (h_Reader_ahead:OkMt P w K mg base "Reader" "ahead" 2 (spF K F_Reader_ahead)) (h_Reader_pass_over:OkMt P w K mg base "Reader" "pass_over" 2 (spC K 0 F_Reader_pass_over)):FnOk P w K mg base CX0 3 f fd ["self"] (spC K 0 F_Reader_read_name):=
 F.okC (own:=[0]) (own':=[0]) (g:=g_Reader_read_name) sc_Reader_read_name 0 (by decide) (by decide) fun cdv A outer s H E hr B a hB=>
  (dss_cons (ds_if (dt_cmp (od_eq hr) (dq (de_methS0 h_Reader_ahead hr (dvo (pv 0)))) (dq de_str) (nomark _))
  (dss_cons (ds_exprM (dm_meth h_Reader_pass_over hr (pv 0) (da_cons de_str da_nil)))
   (dss_one (ds_retM (dm_pure de_str))))
  dss_nil)
  (dss_cons (ds_set (i:=1) sc_Reader_read_name.nd rfl (.inl rfl) (de_fldQ (c:= "Reader") (dvo (pv 0)) k_Reader_at))
  (dss_cons (ds_while 1000000 PassesOwn.never (dt_chain od_leS od_leS (dq de_str) (dq (de_methS0 h_Reader_ahead hr (dvo (pv 0)))) (dq de_str))
  (dss_one (ds_fldaug (c:= "Reader") (op:=(fun i j=>i+j)) in_add (pv 0) de_int k_Reader_at)))
  (dss_cons (ds_if (dt_cmp (od_eq hr) (dq (de_fldQ (c:= "Reader") (dvo (pv 0)) k_Reader_at)) (vQ 1) (nomark _))
  (dss_one ds_never)
  dss_nil)
  (dss_one (ds_retM (dm_pure (de_slS (dq (de_fldQ (c:= "Reader") (dvo (pv 0)) k_Reader_line)) (dpo_some (vQ 1)) (dpo_some (dq (de_fldQ (c:= "Reader") (dvo (pv 0)) k_Reader_at)))))))))))
theorem ok_Reader_read_mark (F:Fun K "read_mark" "Reader.read_mark" st_Reader_read_mark f fd) (T_KINDS:TabG P w K mg "KINDS" tab_KINDS) (h_Reader_ahead:OkMt P w K mg base "Reader" "ahead" 2 (spF K F_Reader_ahead)) (h_Reader_pass_over:OkMt P w K mg base "Reader" "pass_over" 2 (spC K 0 F_Reader_pass_over)):FnOk P w K mg base CX0 3 f fd ["self"] (spC K 0 F_Reader_read_mark):=
 F.okC (own:=[0]) (own':=[0]) (g:=g_Reader_read_mark) sc_Reader_read_mark 0 (by decide) (by decide) fun cdv A outer s H E hr B a hB=>
  (dss_cons (ds_set (i:=1) sc_Reader_read_mark.nd rfl (.inl rfl) (de_methS0 h_Reader_ahead hr (dvo (pv 0))))
  (dss_cons (ds_if (dt_notInT T_KINDS rfl (vQ 1))
  (dss_one ds_never)
  dss_nil)
  (dss_cons (ds_exprM (dm_meth h_Reader_pass_over hr (pv 0) (da_cons (vP 1) da_nil)))
  (dss_one (ds_retM (dm_pure (vP 1)))))))
theorem ok_Reader_read_text_sign (F:Fun K "read_text_sign" "Reader.read_text_sign" st_Reader_read_text_sign f fd) (z_ord:mg "ord" = none) (k_Reader_at:∀ C,nsIn K mainGlobals "Reader" = some (some (.ref C))→Cls K C∧NoAttr K C "at"){t_PERCENT:Tok}(c_PERCENT:mg "PERCENT" = some (.int 37 t_PERCENT)) (h_Reader_ahead:OkMt P w K mg base "Reader" "ahead" 2 (spF K F_Reader_ahead)) (h_Reader_pass_over:OkMt P w K mg base "Reader" "pass_over" 2 (spC K 0 F_Reader_pass_over)):FnOk P w K mg base CX0 3 f fd ["self"] (spC K 0 F_Reader_read_text_sign):=
 F.okC (own:=[0]) (own':=[0]) (g:=g_Reader_read_text_sign) sc_Reader_read_text_sign 0 (by decide) (by decide) fun cdv A outer s H E hr B a hB=>
  (dss_cons (ds_set (i:=1) sc_Reader_read_text_sign.nd rfl (.inl rfl) (de_methS0 h_Reader_ahead hr (dvo (pv 0))))
  (dss_cons (ds_if (PW.pt (dw_or (dt_not (dt_chain od_leS od_leS (dq de_str) (vQ 1) (dq de_str))) (dw_or1 (dt_cmp (od_eq hr) (dq (de_ord rfl z_ord (vQ 1))) (dq (de_globI rfl c_PERCENT)) (nomark _)))))
  (dss_one ds_never)
  dss_nil)
  (dss_cons (ds_fldaug (c:= "Reader") (op:=(fun i j=>i+j)) in_add (pv 0) de_int k_Reader_at)
  (dss_cons (ds_if (dt_cmp (od_ne hr) (vQ 1) (dq de_str) (nomark _))
  (dss_one (ds_retM (dm_pure (vP 1))))
  dss_nil)
  (dss_cons (ds_if (dt_cmp (od_eq hr) (dq (de_methS0 h_Reader_ahead hr (dvo (pv 0)))) (dq de_str) (nomark _))
  (dss_cons (ds_exprM (dm_meth h_Reader_pass_over hr (pv 0) (da_cons de_str da_nil)))
   (dss_one (ds_retM (dm_pure de_str))))
  dss_nil)
  (dss_cons (ds_exprM (dm_meth h_Reader_pass_over hr (pv 0) (da_cons de_str da_nil)))
  (dss_one (ds_retM (dm_pure de_str)))))))))
theorem ok_Reader_read_text (F:Fun K "read_text" "Reader.read_text" st_Reader_read_text f fd) (h_Reader_ahead:OkMt P w K mg base "Reader" "ahead" 3 (spF K F_Reader_ahead)) (h_Reader_pass_over:OkMt P w K mg base "Reader" "pass_over" 3 (spC K 0 F_Reader_pass_over)) (h_Reader_read_text_sign:OkMt P w K mg base "Reader" "read_text_sign" 3 (spC K 0 F_Reader_read_text_sign)):FnOk P w K mg base CX0 4 f fd ["self"] (spC K 0 F_Reader_read_text):=
 F.okC (own:=[0,1]) (own':=[0,1]) (g:=g_Reader_read_text) sc_Reader_read_text 0 (by decide) (by decide) fun cdv A outer s H E hr B a hB=>
  (dss_cons (ds_exprM (dm_meth h_Reader_pass_over hr (pv 0) (da_cons de_str da_nil)))
  (dss_cons (ds_setO (i:=1) sc_Reader_read_text.nd rfl (.inl rfl) (de_lst da_nil))
  (dss_cons (ds_while 1000000 PassesOwn.never (dt_cmp (od_ne hr) (dq (de_methS0 h_Reader_ahead hr (dvo (pv 0)))) (dq de_str) (nomark _))
  (dss_one (ds_appM (pv 1) (dm_meth0 h_Reader_read_text_sign hr (pv 0)))))
  (dss_cons (ds_exprM (dm_meth h_Reader_pass_over hr (pv 0) (da_cons de_str da_nil)))
  (dss_one (ds_retM (dm_pure (de_join (dq de_str) (dvo (pv 1))))))))))
end
end K15
end
noncomputable section
namespace K15
open PySem L2
noncomputable def b_Reader_read_steps_1 (F_Reader_read_steps:List D→Option (D×D)) (F_Reader_read_step:List D→Option (D×D)) (F_Reader_read_wish:List D→Option (D×D)) (F_Reader_read_list:List D→Option (D×D)) (F_Reader_read_short_list:List D→Option (D×D)):DG:=
  (sAppM 1 (mMeth "Reader" "read_step" F_Reader_read_step 0 aN))
noncomputable def g_Reader_read_steps (F_Reader_read_steps:List D→Option (D×D)) (F_Reader_read_step:List D→Option (D×D)) (F_Reader_read_wish:List D→Option (D×D)) (F_Reader_read_list:List D→Option (D×D)) (F_Reader_read_short_list:List D→Option (D×D)):DG:=
  (sSeq (sSetOM 1 (mAC (mMeth "Reader" "read_step" F_Reader_read_step 0 aN) mAN))
  (sSeq (sWhile 1000000 (tB1 (e2 oEq (eMethS "Reader" "ahead" F_Reader_ahead (eV 0) aN) (eK (.str (Str.ofString "/")))))
  (b_Reader_read_steps_1 F_Reader_read_steps F_Reader_read_step F_Reader_read_wish F_Reader_read_list F_Reader_read_short_list))
  (sRetMO 1)))
noncomputable abbrev st_Reader_read_steps:Stmt:=inClass (top 11) 3
noncomputable abbrev N_Reader_read_steps:List Str:=["self", "steps"]
theorem sc_Reader_read_steps:FnScope N_Reader_read_steps ["self"] (defScope st_Reader_read_steps):=⟨rfl,rfl,rfl,by decide +kernel,rfl,by decide +kernel,by decide +kernel⟩
noncomputable def g_Reader_read_step (F_Reader_read_steps:List D→Option (D×D)) (F_Reader_read_step:List D→Option (D×D)) (F_Reader_read_wish:List D→Option (D×D)) (F_Reader_read_list:List D→Option (D×D)) (F_Reader_read_short_list:List D→Option (D×D)):DG:=
  (sSeq (sExprM (mMeth "Reader" "pass_over" F_Reader_pass_over 0 (aC (eK (.str (Str.ofString "/"))) aN)))
  (sSeq (sSet 1 (eK (.str (Str.ofString "own"))))
  (sSeq (sIf (tB1 (e2 oEq (eMethS "Reader" "ahead" F_Reader_ahead (eV 0) aN) (eK (.str (Str.ofString "/")))))
  (sSeq (sExprM (mMeth "Reader" "pass_over" F_Reader_pass_over 0 (aC (eK (.str (Str.ofString "/"))) aN)))
   (sSet 1 (eK (.str (Str.ofString "inner")))))
  sNil)
  (sSeq (sSetM 2 (mMeth "Reader" "read_name" F_Reader_read_name 0 aN))
  (sSeq (sIf (tB1 (e2 oNe (eMethS "Reader" "ahead" F_Reader_ahead (eV 0) aN) (eK (.str (Str.ofString "[")))))
  (sRetM (mP (eTup (aC (eV 1) (aC (eV 2) (aC (eTup (aC (eK (.str (Str.ofString "any"))) aN)) aN))))))
  sNil)
  (sSeq (sExprM (mMeth "Reader" "pass_over" F_Reader_pass_over 0 (aC (eK (.str (Str.ofString "["))) aN)))
  (sSeq (sIf (tB1 (e2 oEq (eMethS "Reader" "ahead" F_Reader_ahead (eV 0) aN) (eK (.str (Str.ofString "a")))))
  sNever
  sNil)
  (sSeq (sSetM 3 (mMeth "Reader" "read_wish" F_Reader_read_wish 0 aN))
  (sSeq (sExprM (mMeth "Reader" "pass_over" F_Reader_pass_over 0 (aC (eK (.str (Str.ofString "]"))) aN)))
  (sRetM (mP (eTup (aC (eV 1) (aC (eV 2) (aC (eV 3) aN)))))))))))))))
noncomputable abbrev st_Reader_read_step:Stmt:=inClass (top 11) 4
noncomputable abbrev N_Reader_read_step:List Str:=["self", "way", "name", "wish"]
theorem sc_Reader_read_step:FnScope N_Reader_read_step ["self"] (defScope st_Reader_read_step):=⟨rfl,rfl,rfl,by decide +kernel,rfl,by decide +kernel,by decide +kernel⟩
noncomputable def g_Reader_read_wish (F_Reader_read_steps:List D→Option (D×D)) (F_Reader_read_step:List D→Option (D×D)) (F_Reader_read_wish:List D→Option (D×D)) (F_Reader_read_list:List D→Option (D×D)) (F_Reader_read_short_list:List D→Option (D×D)):DG:=
  (sSeq (sSet 1 (eMethS "Reader" "ahead" F_Reader_ahead (eV 0) aN))
  (sSeq (sIf (tB1 (e2 oEq (eV 1) (eK (.str (Str.ofString "/")))))
  (sRetM (mTup (mAC (mP (eK (.str (Str.ofString "has")))) (mAC (mMeth "Reader" "read_steps" F_Reader_read_steps 0 aN) mAN))))
  sNil)
  (sSeq (sIf (tB1 (e2 oEq (eV 1) (eK (.str (Str.ofString "(")))))
  (sRetM (mMeth "Reader" "read_list" F_Reader_read_list 0 aN))
  sNil)
  (sSeq (sIf (tB1 (e2 oEq (eV 1) (eK (.str (Str.ofString "\"")))))
  (sRetM (mTup (mAC (mP (eK (.str (Str.ofString "text")))) (mAC (mMeth "Reader" "read_text" F_Reader_read_text 0 aN) mAN))))
  sNil)
  (sSeq (sExprM (mMeth "Reader" "pass_over" F_Reader_pass_over 0 (aC (eK (.str (Str.ofString "any"))) aN)))
  (sRetM (mP (eTup (aC (eK (.str (Str.ofString "any"))) aN)))))))))
noncomputable abbrev st_Reader_read_wish:Stmt:=inClass (top 11) 6
noncomputable abbrev N_Reader_read_wish:List Str:=["self", "sign"]
theorem sc_Reader_read_wish:FnScope N_Reader_read_wish ["self"] (defScope st_Reader_read_wish):=⟨rfl,rfl,rfl,by decide +kernel,rfl,by decide +kernel,by decide +kernel⟩
noncomputable def b_Reader_read_list_1 (F_Reader_read_steps:List D→Option (D×D)) (F_Reader_read_step:List D→Option (D×D)) (F_Reader_read_wish:List D→Option (D×D)) (F_Reader_read_list:List D→Option (D×D)) (F_Reader_read_short_list:List D→Option (D×D)):DG:=
  (sSeq (sExprM (mMeth "Reader" "pass_over" F_Reader_pass_over 0 (aC (e2 oAdd (e2 oAdd (eK (.str (Str.ofString " "))) (eV 2)) (eK (.str (Str.ofString " ")))) aN)))
   (sAppM 1 (mMeth "Reader" "read_wish" F_Reader_read_wish 0 aN)))
noncomputable def g_Reader_read_list (F_Reader_read_steps:List D→Option (D×D)) (F_Reader_read_step:List D→Option (D×D)) (F_Reader_read_wish:List D→Option (D×D)) (F_Reader_read_list:List D→Option (D×D)) (F_Reader_read_short_list:List D→Option (D×D)):DG:=
  (sSeq (sExprM (mMeth "Reader" "pass_over" F_Reader_pass_over 0 (aC (eK (.str (Str.ofString "("))) aN)))
  (sSeq (sIf (tB1 (e1 (oInT false tab_KINDS) (eMethS "Reader" "ahead" F_Reader_ahead (eV 0) aN)))
  (sRetM (mMeth "Reader" "read_short_list" F_Reader_read_short_list 0 aN))
  sNil)
  (sSeq (sSetOM 1 (mAC (mMeth "Reader" "read_wish" F_Reader_read_wish 0 aN) mAN))
  (sSeq (sExprM (mMeth "Reader" "pass_over" F_Reader_pass_over 0 (aC (eK (.str (Str.ofString " "))) aN)))
  (sSeq (sSetM 2 (mMeth "Reader" "read_mark" F_Reader_read_mark 0 aN))
  (sSeq (sExprM (mMeth "Reader" "pass_over" F_Reader_pass_over 0 (aC (eK (.str (Str.ofString " "))) aN)))
  (sSeq (sAppM 1 (mMeth "Reader" "read_wish" F_Reader_read_wish 0 aN))
  (sSeq (sWhile 1000000 (tB1 (e2 oEq (eMethS "Reader" "ahead" F_Reader_ahead (eV 0) aN) (eK (.str (Str.ofString " ")))))
  (b_Reader_read_list_1 F_Reader_read_steps F_Reader_read_step F_Reader_read_wish F_Reader_read_list F_Reader_read_short_list))
  (sSeq (sExprM (mMeth "Reader" "pass_over" F_Reader_pass_over 0 (aC (eK (.str (Str.ofString ")"))) aN)))
  (sRetM (mP (eTup (aC (e1 (oTab tab_KINDS) (eV 2)) (aC (eV 1) aN))))))))))))))
noncomputable abbrev st_Reader_read_list:Stmt:=inClass (top 11) 7
noncomputable abbrev N_Reader_read_list:List Str:=["self", "wishes", "mark"]
theorem sc_Reader_read_list:FnScope N_Reader_read_list ["self"] (defScope st_Reader_read_list):=⟨rfl,rfl,rfl,by decide +kernel,rfl,by decide +kernel,by decide +kernel⟩
noncomputable def g_Reader_read_short_list (F_Reader_read_steps:List D→Option (D×D)) (F_Reader_read_step:List D→Option (D×D)) (F_Reader_read_wish:List D→Option (D×D)) (F_Reader_read_list:List D→Option (D×D)) (F_Reader_read_short_list:List D→Option (D×D)):DG:=
  (sSeq (sSetM 1 (m1 (oTab tab_KINDS) (mMeth "Reader" "read_mark" F_Reader_read_mark 0 aN)))
  (sSeq (sSetO 2 (eLst aN))
  (sSeq (sIf (tB1 (e2 oEq (eMethS "Reader" "ahead" F_Reader_ahead (eV 0) aN) (eK (.str (Str.ofString " ")))))
  (sSeq (sExprM (mMeth "Reader" "pass_over" F_Reader_pass_over 0 (aC (eK (.str (Str.ofString " "))) aN)))
   (sAppM 2 (mMeth "Reader" "read_wish" F_Reader_read_wish 0 aN)))
  sNil)
  (sSeq (sExprM (mMeth "Reader" "pass_over" F_Reader_pass_over 0 (aC (eK (.str (Str.ofString ")"))) aN)))
  (sRetM (mP (eTup (aC (eV 1) (aC (eV 2) aN)))))))))
noncomputable abbrev st_Reader_read_short_list:Stmt:=inClass (top 11) 8
noncomputable abbrev N_Reader_read_short_list:List Str:=["self", "kind", "wishes"]
theorem sc_Reader_read_short_list:FnScope N_Reader_read_short_list ["self"] (defScope st_Reader_read_short_list):=⟨rfl,rfl,rfl,by decide +kernel,rfl,by decide +kernel,by decide +kernel⟩
mutual
noncomputable def Fr_Reader_read_steps:Nat→List D→Option (D×D)
 | 0=>fun _=>none
 | n+1=>runC 1 2 0 (g_Reader_read_steps (Fr_Reader_read_steps n) (Fr_Reader_read_step n) (Fr_Reader_read_wish n) (Fr_Reader_read_list n) (Fr_Reader_read_short_list n))
noncomputable def Fr_Reader_read_step:Nat→List D→Option (D×D)
 | 0=>fun _=>none
 | n+1=>runC 1 4 0 (g_Reader_read_step (Fr_Reader_read_steps n) (Fr_Reader_read_step n) (Fr_Reader_read_wish n) (Fr_Reader_read_list n) (Fr_Reader_read_short_list n))
noncomputable def Fr_Reader_read_wish:Nat→List D→Option (D×D)
 | 0=>fun _=>none
 | n+1=>runC 1 2 0 (g_Reader_read_wish (Fr_Reader_read_steps n) (Fr_Reader_read_step n) (Fr_Reader_read_wish n) (Fr_Reader_read_list n) (Fr_Reader_read_short_list n))
noncomputable def Fr_Reader_read_list:Nat→List D→Option (D×D)
 | 0=>fun _=>none
 | n+1=>runC 1 3 0 (g_Reader_read_list (Fr_Reader_read_steps n) (Fr_Reader_read_step n) (Fr_Reader_read_wish n) (Fr_Reader_read_list n) (Fr_Reader_read_short_list n))
noncomputable def Fr_Reader_read_short_list:Nat→List D→Option (D×D)
 | 0=>fun _=>none
 | n+1=>runC 1 3 0 (g_Reader_read_short_list (Fr_Reader_read_steps n) (Fr_Reader_read_step n) (Fr_Reader_read_wish n) (Fr_Reader_read_list n) (Fr_Reader_read_short_list n))
end
noncomputable section
variable {P:Program}{w:World}{K:Frag}{mg:Str→Option Value}{base:Heap}{f:Addr}{fd:FuncData}
theorem ok_Reader_read_steps {n:Nat}(F:Fun K "read_steps" "Reader.read_steps" st_Reader_read_steps f fd) (h_Reader_ahead:OkMt P w K mg base "Reader" "ahead" (n+4) (spF K F_Reader_ahead)) (h_Reader_read_step:OkMt P w K mg base "Reader" "read_step" (n+4) (spC K 0 (Fr_Reader_read_step n))):FnOk P w K mg base CX0 (n+4+1) f fd ["self"] (spC K 0 (Fr_Reader_read_steps (n+1))):=
 F.okC (own:=[0,1]) (own':=[0,1]) (g:=(g_Reader_read_steps (Fr_Reader_read_steps n) (Fr_Reader_read_step n) (Fr_Reader_read_wish n) (Fr_Reader_read_list n) (Fr_Reader_read_short_list n))) sc_Reader_read_steps 0 (by decide) (by decide) fun cdv A outer s H E hr B a hB=>
  (dss_cons (ds_setOM (i:=1) sc_Reader_read_steps.nd rfl (.inl rfl) (dma_cons (dm_meth0 h_Reader_read_step hr (pv 0)) dma_nil))
  (dss_cons (ds_while 1000000 PassesOwn.never (dt_cmp (od_eq hr) (dq (de_methS0 h_Reader_ahead hr (dvo (pv 0)))) (dq de_str) (nomark _))
  (dss_one (ds_appM (pv 1) (dm_meth0 h_Reader_read_step hr (pv 0)))))
  (dss_one (ds_retMO (pv 1)))))
theorem ok_Reader_read_step {n:Nat}(F:Fun K "read_step" "Reader.read_step" st_Reader_read_step f fd) (h_Reader_ahead:OkMt P w K mg base "Reader" "ahead" (n+4) (spF K F_Reader_ahead)) (h_Reader_pass_over:OkMt P w K mg base "Reader" "pass_over" (n+4) (spC K 0 F_Reader_pass_over)) (h_Reader_read_name:OkMt P w K mg base "Reader" "read_name" (n+4) (spC K 0 F_Reader_read_name)) (h_Reader_read_wish:OkMt P w K mg base "Reader" "read_wish" (n+4) (spC K 0 (Fr_Reader_read_wish n))):FnOk P w K mg base CX0 (n+4+1) f fd ["self"] (spC K 0 (Fr_Reader_read_step (n+1))):=
 F.okC (own:=[0]) (own':=[0]) (g:=(g_Reader_read_step (Fr_Reader_read_steps n) (Fr_Reader_read_step n) (Fr_Reader_read_wish n) (Fr_Reader_read_list n) (Fr_Reader_read_short_list n))) sc_Reader_read_step 0 (by decide) (by decide) fun cdv A outer s H E hr B a hB=>
  (dss_cons (ds_exprM (dm_meth h_Reader_pass_over hr (pv 0) (da_cons de_str da_nil)))
  (dss_cons (ds_set (i:=1) sc_Reader_read_step.nd rfl (.inl rfl) de_str)
  (dss_cons (ds_if (dt_cmp (od_eq hr) (dq (de_methS0 h_Reader_ahead hr (dvo (pv 0)))) (dq de_str) (nomark _))
  (dss_cons (ds_exprM (dm_meth h_Reader_pass_over hr (pv 0) (da_cons de_str da_nil)))
   (dss_one (ds_set (i:=1) sc_Reader_read_step.nd rfl (.inl rfl) de_str)))
  dss_nil)
  (dss_cons (ds_setM (i:=2) sc_Reader_read_step.nd rfl (.inl rfl) (dm_meth0 h_Reader_read_name hr (pv 0)))
  (dss_cons (ds_if (dt_cmp (od_ne hr) (dq (de_methS0 h_Reader_ahead hr (dvo (pv 0)))) (dq de_str) (nomark _))
  (dss_one (ds_retM (dm_pure (de_tup (da_cons (vP 1) (da_cons (vP 2) (da_cons (de_tup (da_cons de_str da_nil)) da_nil)))))))
  dss_nil)
  (dss_cons (ds_exprM (dm_meth h_Reader_pass_over hr (pv 0) (da_cons de_str da_nil)))
  (dss_cons (ds_if (dt_cmp (od_eq hr) (dq (de_methS0 h_Reader_ahead hr (dvo (pv 0)))) (dq de_str) (nomark _))
  (dss_one ds_never)
  dss_nil)
  (dss_cons (ds_setM (i:=3) sc_Reader_read_step.nd rfl (.inl rfl) (dm_meth0 h_Reader_read_wish hr (pv 0)))
  (dss_cons (ds_exprM (dm_meth h_Reader_pass_over hr (pv 0) (da_cons de_str da_nil)))
  (dss_one (ds_retM (dm_pure (de_tup (da_cons (vP 1) (da_cons (vP 2) (da_cons (vP 3) da_nil))))))))))))))))
theorem ok_Reader_read_wish {n:Nat}(F:Fun K "read_wish" "Reader.read_wish" st_Reader_read_wish f fd) (h_Reader_ahead:OkMt P w K mg base "Reader" "ahead" (n+4) (spF K F_Reader_ahead)) (h_Reader_pass_over:OkMt P w K mg base "Reader" "pass_over" (n+4) (spC K 0 F_Reader_pass_over)) (h_Reader_read_text:OkMt P w K mg base "Reader" "read_text" (n+4) (spC K 0 F_Reader_read_text)) (h_Reader_read_steps:OkMt P w K mg base "Reader" "read_steps" (n+4) (spC K 0 (Fr_Reader_read_steps n))) (h_Reader_read_list:OkMt P w K mg base "Reader" "read_list" (n+4) (spC K 0 (Fr_Reader_read_list n))):FnOk P w K mg base CX0 (n+4+1) f fd ["self"] (spC K 0 (Fr_Reader_read_wish (n+1))):=
 F.okC (own:=[0]) (own':=[0]) (g:=(g_Reader_read_wish (Fr_Reader_read_steps n) (Fr_Reader_read_step n) (Fr_Reader_read_wish n) (Fr_Reader_read_list n) (Fr_Reader_read_short_list n))) sc_Reader_read_wish 0 (by decide) (by decide) fun cdv A outer s H E hr B a hB=>
  (dss_cons (ds_set (i:=1) sc_Reader_read_wish.nd rfl (.inl rfl) (de_methS0 h_Reader_ahead hr (dvo (pv 0))))
  (dss_cons (ds_if (dt_cmp (od_eq hr) (vQ 1) (dq de_str) (nomark _))
  (dss_one (ds_retM (dm_tup (dma_cons (dm_pure de_str) (dma_cons (dm_meth0 h_Reader_read_steps hr (pv 0)) dma_nil)))))
  dss_nil)
  (dss_cons (ds_if (dt_cmp (od_eq hr) (vQ 1) (dq de_str) (nomark _))
  (dss_one (ds_retM (dm_meth0 h_Reader_read_list hr (pv 0))))
  dss_nil)
  (dss_cons (ds_if (dt_cmp (od_eq hr) (vQ 1) (dq de_str) (nomark _))
  (dss_one (ds_retM (dm_tup (dma_cons (dm_pure de_str) (dma_cons (dm_meth0 h_Reader_read_text hr (pv 0)) dma_nil)))))
  dss_nil)
  (dss_cons (ds_exprM (dm_meth h_Reader_pass_over hr (pv 0) (da_cons de_str da_nil)))
  (dss_one (ds_retM (dm_pure (de_tup (da_cons de_str da_nil))))))))))
theorem ok_Reader_read_list {n:Nat}(F:Fun K "read_list" "Reader.read_list" st_Reader_read_list f fd) (T_KINDS:TabG P w K mg "KINDS" tab_KINDS) (h_Reader_ahead:OkMt P w K mg base "Reader" "ahead" (n+4) (spF K F_Reader_ahead)) (h_Reader_pass_over:OkMt P w K mg base "Reader" "pass_over" (n+4) (spC K 0 F_Reader_pass_over)) (h_Reader_read_mark:OkMt P w K mg base "Reader" "read_mark" (n+4) (spC K 0 F_Reader_read_mark)) (h_Reader_read_wish:OkMt P w K mg base "Reader" "read_wish" (n+4) (spC K 0 (Fr_Reader_read_wish n))) (h_Reader_read_short_list:OkMt P w K mg base "Reader" "read_short_list" (n+4) (spC K 0 (Fr_Reader_read_short_list n))):FnOk P w K mg base CX0 (n+4+1) f fd ["self"] (spC K 0 (Fr_Reader_read_list (n+1))):=
 F.okC (own:=[0,1]) (own':=[0,1]) (g:=(g_Reader_read_list (Fr_Reader_read_steps n) (Fr_Reader_read_step n) (Fr_Reader_read_wish n) (Fr_Reader_read_list n) (Fr_Reader_read_short_list n))) sc_Reader_read_list 0 (by decide) (by decide) fun cdv A outer s H E hr B a hB=>
  (dss_cons (ds_exprM (dm_meth h_Reader_pass_over hr (pv 0) (da_cons de_str da_nil)))
  (dss_cons (ds_if (dt_inT T_KINDS rfl (dq (de_methS0 h_Reader_ahead hr (dvo (pv 0)))))
  (dss_one (ds_retM (dm_meth0 h_Reader_read_short_list hr (pv 0))))
  dss_nil)
  (dss_cons (ds_setOM (i:=1) sc_Reader_read_list.nd rfl (.inl rfl) (dma_cons (dm_meth0 h_Reader_read_wish hr (pv 0)) dma_nil))
  (dss_cons (ds_exprM (dm_meth h_Reader_pass_over hr (pv 0) (da_cons de_str da_nil)))
  (dss_cons (ds_setM (i:=2) sc_Reader_read_list.nd rfl (.inl rfl) (dm_meth0 h_Reader_read_mark hr (pv 0)))
  (dss_cons (ds_exprM (dm_meth h_Reader_pass_over hr (pv 0) (da_cons de_str da_nil)))
  (dss_cons (ds_appM (pv 1) (dm_meth0 h_Reader_read_wish hr (pv 0)))
  (dss_cons (ds_while 1000000 PassesOwn.never (dt_cmp (od_eq hr) (dq (de_methS0 h_Reader_ahead hr (dvo (pv 0)))) (dq de_str) (nomark _))
  (dss_cons (ds_exprM (dm_meth h_Reader_pass_over hr (pv 0) (da_cons (de_op od_add (dq (de_op od_add (dq de_str) (vQ 2))) (dq de_str)) da_nil)))
   (dss_one (ds_appM (pv 1) (dm_meth0 h_Reader_read_wish hr (pv 0))))))
  (dss_cons (ds_exprM (dm_meth h_Reader_pass_over hr (pv 0) (da_cons de_str da_nil)))
  (dss_freeze (own1:=[0]) 1 (dss_one (ds_retM (dm_pure (de_tup (da_cons (de_tab T_KINDS rfl (vQ 2)) (da_cons (vP 1) da_nil))))))))))))))))
theorem ok_Reader_read_short_list {n:Nat}(F:Fun K "read_short_list" "Reader.read_short_list" st_Reader_read_short_list f fd) (T_KINDS:TabG P w K mg "KINDS" tab_KINDS) (h_Reader_ahead:OkMt P w K mg base "Reader" "ahead" (n+4) (spF K F_Reader_ahead)) (h_Reader_pass_over:OkMt P w K mg base "Reader" "pass_over" (n+4) (spC K 0 F_Reader_pass_over)) (h_Reader_read_mark:OkMt P w K mg base "Reader" "read_mark" (n+4) (spC K 0 F_Reader_read_mark)) (h_Reader_read_wish:OkMt P w K mg base "Reader" "read_wish" (n+4) (spC K 0 (Fr_Reader_read_wish n))):FnOk P w K mg base CX0 (n+4+1) f fd ["self"] (spC K 0 (Fr_Reader_read_short_list (n+1))):=
 F.okC (own:=[0,2]) (own':=[0,2]) (g:=(g_Reader_read_short_list (Fr_Reader_read_steps n) (Fr_Reader_read_step n) (Fr_Reader_read_wish n) (Fr_Reader_read_list n) (Fr_Reader_read_short_list n))) sc_Reader_read_short_list 0 (by decide) (by decide) fun cdv A outer s H E hr B a hB=>
  (dss_cons (ds_setM (i:=1) sc_Reader_read_short_list.nd rfl (.inl rfl) (dm_tab T_KINDS rfl (dm_meth0 h_Reader_read_mark hr (pv 0))))
  (dss_cons (ds_setO (i:=2) sc_Reader_read_short_list.nd rfl (.inl rfl) (de_lst da_nil))
  (dss_cons (ds_if (dt_cmp (od_eq hr) (dq (de_methS0 h_Reader_ahead hr (dvo (pv 0)))) (dq de_str) (nomark _))
  (dss_cons (ds_exprM (dm_meth h_Reader_pass_over hr (pv 0) (da_cons de_str da_nil)))
   (dss_one (ds_appM (pv 2) (dm_meth0 h_Reader_read_wish hr (pv 0)))))
  dss_nil)
  (dss_cons (ds_exprM (dm_meth h_Reader_pass_over hr (pv 0) (da_cons de_str da_nil)))
  (dss_freeze (own1:=[0]) 2 (dss_one (ds_retM (dm_pure (de_tup (da_cons (vP 1) (da_cons (vP 2) da_nil)))))))))))
end
end K15
end
noncomputable section
namespace K15
open PySem L2
noncomputable def F_Reader_read_steps:=Fr_Reader_read_steps 20
noncomputable def g_read:DG:=
  (sSeq (sSet 1 (eMake "Reader" F_Reader___init__ (aC (eV 0) aN)))
  (sSeq (sSetM 2 (mMeth "Reader" "read_steps" F_Reader_read_steps 1 aN))
  (sSeq (sIf (tB1 (e2 oLt (eFld "Reader" "at" (eV 1)) (eCall oLen (aC (eV 0) aN))))
  sNever
  sNil)
  (sRet (eV 2)))))
noncomputable def F_read:List D→Option D:=runD 1 3 g_read
noncomputable abbrev st_read:Stmt:=top 10
noncomputable abbrev N_read:List Str:=["line", "reader", "question"]
theorem sc_read:FnScope N_read ["line"] (defScope st_read):=⟨rfl,rfl,rfl,by decide +kernel,rfl,by decide +kernel,by decide +kernel⟩
noncomputable section
variable {P:Program}{w:World}{K:Frag}{mg:Str→Option Value}{base:Heap}{f:Addr}{fd:FuncData}
theorem ok_read (F:Fun K "read" "read" st_read f fd) (z_len:mg "len" = none) (k_Reader_at:∀ C,nsIn K mainGlobals "Reader" = some (some (.ref C))→Cls K C∧NoAttr K C "at") (h_Reader:OkMk P w K mg base "Reader" 24 (spC K 0 F_Reader___init__)) (h_Reader_read_steps:OkMt P w K mg base "Reader" "read_steps" 25 (spC K 0 F_Reader_read_steps)):FnOk P w K mg base CX0 26 f fd ["line"] (spF K F_read):=
 F.okD (own:=[1]) (own':=[1]) (g:=g_read) sc_read (by decide) fun cdv A outer s H E hr B hB=>
  (dss_cons (ds_setC (i:=1) sc_read.nd rfl (.inl rfl) (dc_make h_Reader hr rfl (da_cons (vP 0) da_nil)))
  (dss_cons (ds_setM (i:=2) sc_read.nd rfl (.inl rfl) (dm_meth0 h_Reader_read_steps hr (pv 1)))
  (dss_cons (ds_if (dt_cmp od_lt (dq (de_fldQ (c:= "Reader") (dvo (pv 1)) k_Reader_at)) (dq (de_len rfl z_len (vQ 0))) (nomark _))
  (dss_one ds_never)
  dss_nil)
  (dss_one (ds_ret (vP 2))))))
end
end K15
end
noncomputable section
namespace K15
open PySem L2
noncomputable def g_copy_wish (F_copy_wish:List D→Option D) (F_copy_steps:List D→Option D):DG:=
  (sSeq (sIf (tB1 (e2 oEq (e2 oIx (eV 0) (eK (.int 0))) (eK (.str (Str.ofString "has")))))
  (sRet (eTup (aC (eK (.str (Str.ofString "has"))) (aC (eCall F_copy_steps (aC (e2 oIx (eV 0) (eK (.int 1))) aN)) aN))))
  sNil)
  (sSeq (sIf (tB1 (e2 (oIn false) (e2 oIx (eV 0) (eK (.int 0))) (eTup (aC (eK (.str (Str.ofString "both"))) (aC (eK (.str (Str.ofString "one"))) aN)))))
  (sRet (eTup (aC (e2 oIx (eV 0) (eK (.int 0))) (aC (eF (fLC (iL (e2 oIx (eV 0) (eK (.int 1)))) [none] (gN 0) tYes (eCall F_copy_wish (aC (eV 0) aN)))) aN))))
  sNil)
  (sRet (eV 0))))
noncomputable abbrev st_copy_wish:Stmt:=top 21
noncomputable abbrev N_copy_wish:List Str:=["_law_wish_here"]
theorem sc_copy_wish:FnScope N_copy_wish ["_law_wish_here"] (defScope st_copy_wish):=⟨rfl,rfl,rfl,by decide +kernel,rfl,by decide +kernel,by decide +kernel⟩
noncomputable def g_copy_steps (F_copy_wish:List D→Option D) (F_copy_steps:List D→Option D):DG:=
  (sRetF (fLC (iL (eV 0)) [none,none,none] (gN3 0 1 2) tYes (eTup (aC (eV 0) (aC (eV 1) (aC (eCall F_copy_wish (aC (eV 2) aN)) aN))))))
noncomputable abbrev st_copy_steps:Stmt:=top 22
noncomputable abbrev N_copy_steps:List Str:=["_law_steps_here"]
theorem sc_copy_steps:FnScope N_copy_steps ["_law_steps_here"] (defScope st_copy_steps):=⟨rfl,rfl,rfl,by decide +kernel,rfl,by decide +kernel,by decide +kernel⟩
noncomputable def g_wish_text (F_wish_text:List D→Option D) (F_line:List D→Option D):DG:=
  (sSeq (sIf (tB1 (e2 oEq (e2 oIx (eV 0) (eK (.int 0))) (eK (.str (Str.ofString "any")))))
  (sRet (eK (.str (Str.ofString "any"))))
  sNil)
  (sSeq (sIf (tB1 (e2 oEq (e2 oIx (eV 0) (eK (.int 0))) (eK (.str (Str.ofString "text")))))
  (sSeq (sSet 1 (eK (.dic [Sum.inr (Str.ofString "\""),Sum.inr (Str.ofString "\\")] [.str (Str.ofString "\\q"),.str (Str.ofString "\\\\")])))
   (sRet (e2 oAdd (e2 oAdd (eK (.str (Str.ofString "\""))) (e2 oJoin (eK (.str (Str.ofString ""))) (eF (fLC (iS (e2 oIx (eV 0) (eK (.int 1)))) [none,some 1] (gN 0) tYes (eGet2 (eV 1) (eV 0) (eV 0)))))) (eK (.str (Str.ofString "\""))))))
  sNil)
  (sSeq (sIf (tB1 (e2 oEq (e2 oIx (eV 0) (eK (.int 0))) (eK (.str (Str.ofString "has")))))
  (sRet (eCall F_line (aC (e2 oIx (eV 0) (eK (.int 1))) aN)))
  sNil)
  (sSeq (sSet 2 (e2 oIx (eF (eLst (aC (eK (.str (Str.ofString "&"))) (aC (eK (.str (Str.ofString "+"))) aN)))) (eCall oIntB (aC (e2 oEq (e2 oIx (eV 0) (eK (.int 0))) (eK (.str (Str.ofString "one")))) aN))))
  (sSeq (sSet 3 (eF (fLC (iL (e2 oIx (eV 0) (eK (.int 1)))) [none] (gN 0) tYes (eCall F_wish_text (aC (eV 0) aN)))))
  (sSeq (sIf (tB1 (e2 oEq (eV 3) (eF (eLst aN))))
  (sRet (e2 oAdd (e2 oAdd (eK (.str (Str.ofString "("))) (eV 2)) (eK (.str (Str.ofString ")")))))
  sNil)
  (sSeq (sIf (tB1 (e2 oEq (eCall oLen (aC (eV 3) aN)) (eK (.int 1))))
  (sRet (e2 oAdd (e2 oAdd (e2 oAdd (e2 oAdd (eK (.str (Str.ofString "("))) (eV 2)) (eK (.str (Str.ofString " ")))) (e2 oIx (eV 3) (eK (.int 0)))) (eK (.str (Str.ofString ")")))))
  sNil)
  (sRet (e2 oAdd (e2 oAdd (eK (.str (Str.ofString "("))) (e2 oJoin (e2 oAdd (e2 oAdd (eK (.str (Str.ofString " "))) (eV 2)) (eK (.str (Str.ofString " ")))) (eV 3))) (eK (.str (Str.ofString ")"))))))))))))
noncomputable abbrev st_wish_text:Stmt:=top 23
noncomputable abbrev N_wish_text:List Str:=["_law_wish_here", "_law_signs", "_law_mark", "_law_some"]
theorem sc_wish_text:FnScope N_wish_text ["_law_wish_here"] (defScope st_wish_text):=⟨rfl,rfl,rfl,by decide +kernel,rfl,by decide +kernel,by decide +kernel⟩
noncomputable def b_line_1 (F_wish_text:List D→Option D) (F_line:List D→Option D):DG:=
  (sSeq (sSet 1 (e2 oAdd (e2 oAdd (eV 1) (e2 oIx (eF (eLst (aC (eK (.str (Str.ofString "/"))) (aC (eK (.str (Str.ofString "//"))) aN)))) (eCall oIntB (aC (e2 oEq (eV 2) (eK (.str (Str.ofString "inner")))) aN)))) (eV 3)))
   (sIf (tB1 (e2 oNe (eV 4) (eTup (aC (eK (.str (Str.ofString "any"))) aN))))
   (sSet 1 (e2 oAdd (e2 oAdd (e2 oAdd (eV 1) (eK (.str (Str.ofString "[")))) (eCall F_wish_text (aC (eV 4) aN))) (eK (.str (Str.ofString "]")))))
   sNil))
noncomputable def g_line (F_wish_text:List D→Option D) (F_line:List D→Option D):DG:=
  (sSeq (sSet 1 (eK (.str (Str.ofString ""))))
  (sSeq (sFor (iL (eV 0)) (gN3 2 3 4)
  (b_line_1 F_wish_text F_line))
  (sRet (eV 1))))
noncomputable abbrev st_line:Stmt:=top 24
noncomputable abbrev N_line:List Str:=["_law_steps_here", "_law_line_here", "_law_way", "_law_name_here", "_law_wish_here"]
theorem sc_line:FnScope N_line ["_law_steps_here"] (defScope st_line):=⟨rfl,rfl,rfl,by decide +kernel,rfl,by decide +kernel,by decide +kernel⟩
noncomputable def b_alike_1 (F_alike:List D→Option D):DG:=
  (sIf (tNotD (tTru (eCall F_alike (aC (e2 oIx (eV 0) (eV 2)) (aC (e2 oIx (eV 1) (eV 2)) aN)))))
   (sRet (eK (.bl false)))
   sNil)
noncomputable def g_alike (F_alike:List D→Option D):DG:=
  (sSeq (sIf (tTru (eIs "str" (eV 1)))
  (sRet (eAnd (eIs "str" (eV 0)) (e2 oEq (eV 0) (eV 1))))
  sNil)
  (sSeq (sIf (tTru (eIs "int" (eV 1)))
  (sRet (eAnd (eIs "int" (eV 0)) (eAnd (eNot (tB1 (eIs "bool" (eV 0)))) (e2 oEq (eV 0) (eV 1)))))
  sNil)
  (sSeq (sIf (tTru (eIs "list" (eV 1)))
  (sIf (tNotD (tTru (eIs "list" (eV 0))))
   (sRet (eK (.bl false)))
   sNil)
  (sIf (tNotD (tTru (eIs "tuple" (eV 0))))
   (sRet (eK (.bl false)))
   sNil))
  (sSeq (sIf (tB1 (e2 oNe (eCall oLen (aC (eV 0) aN)) (eCall oLen (aC (eV 1) aN))))
  (sRet (eK (.bl false)))
  sNil)
  (sSeq (sFor (iR1 (eCall oLen (aC (eV 1) aN))) (gN 2)
  (b_alike_1 F_alike))
  (sRet (eK (.bl true))))))))
noncomputable abbrev st_alike:Stmt:=top 15
noncomputable abbrev N_alike:List Str:=["_law_found", "_law_due", "_law_k"]
theorem sc_alike:FnScope N_alike ["_law_found", "_law_due"] (defScope st_alike):=⟨rfl,rfl,rfl,by decide +kernel,rfl,by decide +kernel,by decide +kernel⟩
mutual
noncomputable def Fr_copy_wish:Nat→List D→Option D
 | 0=>fun _=>none
 | n+1=>runD 1 1 (g_copy_wish (Fr_copy_wish n) (Fr_copy_steps n))
noncomputable def Fr_copy_steps:Nat→List D→Option D
 | 0=>fun _=>none
 | n+1=>runD 1 1 (g_copy_steps (Fr_copy_wish n) (Fr_copy_steps n))
end
mutual
noncomputable def Fr_wish_text:Nat→List D→Option D
 | 0=>fun _=>none
 | n+1=>runD 1 4 (g_wish_text (Fr_wish_text n) (Fr_line n))
noncomputable def Fr_line:Nat→List D→Option D
 | 0=>fun _=>none
 | n+1=>runD 1 5 (g_line (Fr_wish_text n) (Fr_line n))
end
noncomputable def Fr_alike:Nat→List D→Option D
 | 0=>fun _=>none
 | n+1=>runD 2 3 (g_alike (Fr_alike n))
noncomputable section
variable {P:Program}{w:World}{K:Frag}{mg:Str→Option Value}{base:Heap}{f:Addr}{fd:FuncData}
theorem ok_copy_wish {n:Nat}(F:Fun K "_law_copy_wish" "_law_copy_wish" st_copy_wish f fd) (h_copy_steps:Ok1 P w K mg base "_law_copy_steps" (n+0) (spF K (Fr_copy_steps n))) (h_copy_wish:Ok1 P w K mg base "_law_copy_wish" (n+0) (spF K (Fr_copy_wish n))):FnOk P w K mg base CX0 (n+0+1) f fd ["_law_wish_here"] (spF K (Fr_copy_wish (n+1))):=
 F.okD (own:=[]) (own':=[]) (g:=(g_copy_wish (Fr_copy_wish n) (Fr_copy_steps n))) sc_copy_wish (by decide) fun cdv A outer s H E hr B hB=>
  (dss_cons (ds_if (dt_cmp (od_eq hr) (dq (de_ix (vQ 0) (dq de_int))) (dq de_str) (nomark _))
  (dss_one (ds_ret (de_tup (da_cons de_str (da_cons (de_call h_copy_steps hr rfl (da_cons (de_ix (vQ 0) (dq de_int)) da_nil)) da_nil)))))
  dss_nil)
  (dss_cons (ds_if (dt_cmp od_in (dq (de_ix (vQ 0) (dq de_int))) (dq (de_tup (da_cons de_str (da_cons de_str da_nil)))) rfl)
  (dss_one (ds_ret (de_tup (da_cons (de_ix (vQ 0) (dq de_int)) (da_cons (df (de_lc (own':=[]) (N:=[("_law_one" : Str)]) (src:=[none]) (blk_mk (outer:=defScope st_copy_wish) (oN:=N_copy_wish) rfl (by decide +kernel) rfl rfl) rfl (di_list (de_ix (vQ 0) (dq de_int))) (ag_name 0) (by decide) (hte_name 0) (fun C s H ex=>⟨pg_name (i:=0) (show ([("_law_one" : Str)]:List Str).Nodup by decide +kernel) rfl (.inl rfl),dts_nil,(de_call h_copy_wish hr rfl (da_cons (vP 0) da_nil))⟩))) da_nil)))))
  dss_nil)
  (dss_one (ds_ret (vP 0)))))
theorem ok_copy_steps {n:Nat}(F:Fun K "_law_copy_steps" "_law_copy_steps" st_copy_steps f fd) (h_copy_wish:Ok1 P w K mg base "_law_copy_wish" (n+0) (spF K (Fr_copy_wish n))):FnOk P w K mg base CX0 (n+0+1) f fd ["_law_steps_here"] (spF K (Fr_copy_steps (n+1))):=
 F.okD (own:=[]) (own':=[]) (g:=(g_copy_steps (Fr_copy_wish n) (Fr_copy_steps n))) sc_copy_steps (by decide) fun cdv A outer s H E hr B hB=>
  (dss_one (ds_retF (de_lc (own':=[]) (N:=[("_law_way" : Str),("_law_name_here" : Str),("_law_wish_here" : Str)]) (src:=[none,none,none]) (blk_mk (outer:=defScope st_copy_steps) (oN:=N_copy_steps) rfl (by decide +kernel) rfl rfl) rfl (di_list (vP 0)) (ag_three _ 0 1 2) (by decide) (hte_three 0 1 2) (fun C s H ex=>⟨pg_tup rfl (pgs_cons (pg_name (i:=0) (show ([("_law_way" : Str),("_law_name_here" : Str),("_law_wish_here" : Str)]:List Str).Nodup by decide +kernel) rfl (.inl rfl)) (pgs_cons (pg_name (i:=1) (show ([("_law_way" : Str),("_law_name_here" : Str),("_law_wish_here" : Str)]:List Str).Nodup by decide +kernel) rfl (.inl rfl)) (pgs_cons (pg_name (i:=2) (show ([("_law_way" : Str),("_law_name_here" : Str),("_law_wish_here" : Str)]:List Str).Nodup by decide +kernel) rfl (.inl rfl)) pgs_nil))),dts_nil,(de_tup (da_cons (vP 0) (da_cons (vP 1) (da_cons (de_call h_copy_wish hr rfl (da_cons (vP 2) da_nil)) da_nil))))⟩))))
theorem ok_wish_text {n:Nat}(F:Fun K "_law_wish_text" "_law_wish_text" st_wish_text f fd) (z_int:mg "int" = none) (z_len:mg "len" = none) (h_line:Ok1 P w K mg base "_law_line" (n+0) (spF K (Fr_line n))) (h_wish_text:Ok1 P w K mg base "_law_wish_text" (n+0) (spF K (Fr_wish_text n))):FnOk P w K mg base CX0 (n+0+1) f fd ["_law_wish_here"] (spF K (Fr_wish_text (n+1))):=
 F.okD (own:=[]) (own':=[]) (g:=(g_wish_text (Fr_wish_text n) (Fr_line n))) sc_wish_text (by decide) fun cdv A outer s H E hr B hB=>
  (dss_cons (ds_if (dt_cmp (od_eq hr) (dq (de_ix (vQ 0) (dq de_int))) (dq de_str) (nomark _))
  (dss_one (ds_ret de_str))
  dss_nil)
  (dss_cons (ds_if (dt_cmp (od_eq hr) (dq (de_ix (vQ 0) (dq de_int))) (dq de_str) (nomark _))
  (dss_cons (ds_set (i:=1) sc_wish_text.nd rfl (.inr rfl) de_dic2)
   (dss_one (ds_ret (de_op od_add (dq (de_op od_add (dq de_str) (dq (de_join (dq de_str) (dq (df (de_lc (own':=[]) (N:=[("_law_sign" : Str),("_law_signs" : Str)]) (src:=[none,some 1]) (blk_mk (outer:=defScope st_wish_text) (oN:=N_wish_text) rfl (by decide +kernel) rfl rfl) rfl (di_str (de_ix (vQ 0) (dq de_int))) (ag_name 0) (by decide) (hte_name 0) (fun C s H ex=>⟨pg_name (i:=0) (show ([("_law_sign" : Str),("_law_signs" : Str)]:List Str).Nodup by decide +kernel) rfl (.inl rfl),dts_nil,(de_get2 (hu_of hr) (vQ 1) (vQ 0) (vP 0) ⟨rfl,rfl,rfl,rfl⟩)⟩)))))))) (dq de_str)))))
  dss_nil)
  (dss_cons (ds_if (dt_cmp (od_eq hr) (dq (de_ix (vQ 0) (dq de_int))) (dq de_str) (nomark _))
  (dss_one (ds_ret (de_call h_line hr rfl (da_cons (de_ix (vQ 0) (dq de_int)) da_nil))))
  dss_nil)
  (dss_cons (ds_set (i:=2) sc_wish_text.nd rfl (.inl rfl) (de_ix (dq (df (de_lst (da_cons de_str (da_cons de_str da_nil))))) (dq (de_intb rfl z_int (dq (de_cmp (od_eq hr) (dq (de_ix (vQ 0) (dq de_int))) (dq de_str) (nomark _)))))))
  (dss_cons (ds_lcset (i:=3) (own':=[]) (N:=[("_law_one" : Str)]) (src:=[none]) (blk_mk (outer:=defScope st_wish_text) (oN:=N_wish_text) rfl (by decide +kernel) rfl rfl) rfl sc_wish_text.nd rfl rfl (di_list (de_ix (vQ 0) (dq de_int))) (ag_name 0) (by decide) (hte_name 0) (fun C s H ex=>⟨pg_name (i:=0) (show ([("_law_one" : Str)]:List Str).Nodup by decide +kernel) rfl (.inl rfl),dts_nil,(de_call h_wish_text hr rfl (da_cons (vP 0) da_nil))⟩))
  (dss_cons (ds_if (dt_cmp (od_eq hr) (vQ 3) (dq (df (de_lst da_nil))) (nomark _))
  (dss_one (ds_ret (de_op od_add (dq (de_op od_add (dq de_str) (vQ 2))) (dq de_str))))
  dss_nil)
  (dss_cons (ds_if (dt_cmp (od_eq hr) (dq (de_len rfl z_len (vQ 3))) (dq de_int) (nomark _))
  (dss_one (ds_ret (de_op od_add (dq (de_op od_add (dq (de_op od_add (dq (de_op od_add (dq de_str) (vQ 2))) (dq de_str))) (dq (de_ix (vQ 3) (dq de_int))))) (dq de_str))))
  dss_nil)
  (dss_one (ds_ret (de_op od_add (dq (de_op od_add (dq de_str) (dq (de_join (dq (de_op od_add (dq (de_op od_add (dq de_str) (vQ 2))) (dq de_str))) (vQ 3))))) (dq de_str)))))))))))
theorem ok_line {n:Nat}(F:Fun K "_law_line" "_law_line" st_line f fd) (z_int:mg "int" = none) (h_wish_text:Ok1 P w K mg base "_law_wish_text" (n+0) (spF K (Fr_wish_text n))):FnOk P w K mg base CX0 (n+0+1) f fd ["_law_steps_here"] (spF K (Fr_line (n+1))):=
 F.okD (own:=[]) (own':=[]) (g:=(g_line (Fr_wish_text n) (Fr_line n))) sc_line (by decide) fun cdv A outer s H E hr B hB=>
  (dss_cons (ds_set (i:=1) sc_line.nd rfl (.inl rfl) de_str)
  (dss_cons (ds_for PassesOwn.never rfl (di_list (vP 0)) (fun B hB=>(dg_three (pg_tup rfl (pgs_cons (pg_name (i:=2) sc_line.nd rfl (.inl rfl)) (pgs_cons (pg_name (i:=3) sc_line.nd rfl (.inl rfl)) (pgs_cons (pg_name (i:=4) sc_line.nd rfl (.inl rfl)) pgs_nil)))))) (fun B hB=>
  (dss_cons (ds_set (i:=1) sc_line.nd rfl (.inl rfl) (de_op od_add (dq (de_op od_add (vQ 1) (dq (de_ix (dq (df (de_lst (da_cons de_str (da_cons de_str da_nil))))) (dq (de_intb rfl z_int (dq (de_cmp (od_eq hr) (vQ 2) (dq de_str) (nomark _))))))))) (vQ 3)))
   (dss_one (ds_if (dt_cmp (od_ne hr) (vQ 4) (dq (de_tup (da_cons de_str da_nil))) (nomark _))
   (dss_one (ds_set (i:=1) sc_line.nd rfl (.inl rfl) (de_op od_add (dq (de_op od_add (dq (de_op od_add (vQ 1) (dq de_str))) (dq (de_call h_wish_text hr rfl (da_cons (vP 4) da_nil))))) (dq de_str))))
   dss_nil)))))
  (dss_one (ds_ret (vP 1)))))
theorem ok_alike {n:Nat}(F:Fun K "_law_alike" "_law_alike" st_alike f fd) (z_bool:mg "bool" = none) (z_int:mg "int" = none) (z_isinstance:mg "isinstance" = none) (z_len:mg "len" = none) (z_list:mg "list" = none) (z_range:mg "range" = none) (z_str:mg "str" = none) (z_tuple:mg "tuple" = none) (h_alike:Ok1 P w K mg base "_law_alike" (n+0) (spF K (Fr_alike n))):FnOk P w K mg base CX0 (n+0+1) f fd ["_law_found", "_law_due"] (spF K (Fr_alike (n+1))):=
 F.okD (own:=[]) (own':=[]) (g:=(g_alike (Fr_alike n))) sc_alike (by decide) fun cdv A outer s H E hr B hB=>
  (dss_cons (ds_if (dt_truth (dq (de_isinst (T:= "str") (by decide) rfl z_isinstance rfl z_str (by decide +kernel) (vQ 1))))
  (dss_one (ds_ret (de_and (de_isinst (T:= "str") (by decide) rfl z_isinstance rfl z_str (by decide +kernel) (vQ 0)) (de_one (de_cmp (od_eq hr) (vQ 0) (vQ 1) (nomark _))))))
  dss_nil)
  (dss_cons (ds_if (dt_truth (dq (de_isinst (T:= "int") (by decide) rfl z_isinstance rfl z_int (by decide +kernel) (vQ 1))))
  (dss_one (ds_ret (de_and (de_isinst (T:= "int") (by decide) rfl z_isinstance rfl z_int (by decide +kernel) (vQ 0)) (de_and (de_not (de_isinst (T:= "bool") (by decide) rfl z_isinstance rfl z_bool (by decide +kernel) (vQ 0))) (de_one (de_cmp (od_eq hr) (vQ 0) (vQ 1) (nomark _)))))))
  dss_nil)
  (dss_cons (ds_if (dt_truth (dq (de_isinst (T:= "list") (by decide) rfl z_isinstance rfl z_list (by decide +kernel) (vQ 1))))
  (dss_one (ds_if (dt_not (dt_truth (dq (de_isinst (T:= "list") (by decide) rfl z_isinstance rfl z_list (by decide +kernel) (vQ 0)))))
   (dss_one (ds_ret de_bl))
   dss_nil))
  (dss_one (ds_if (dt_not (dt_truth (dq (de_isinst (T:= "tuple") (by decide) rfl z_isinstance rfl z_tuple (by decide +kernel) (vQ 0)))))
   (dss_one (ds_ret de_bl))
   dss_nil)))
  (dss_cons (ds_if (dt_cmp (od_ne hr) (dq (de_len rfl z_len (vQ 0))) (dq (de_len rfl z_len (vQ 1))) (nomark _))
  (dss_one (ds_ret de_bl))
  dss_nil)
  (dss_cons (ds_for PassesOwn.never rfl (di_range1 rfl z_range (dq (de_len rfl z_len (vQ 1)))) (fun B hB=>(dg_name (pg_name (i:=2) sc_alike.nd rfl (.inl rfl)))) (fun B hB=>
  (dss_one (ds_if (dt_not (dt_truth (dq (de_call h_alike hr rfl (da_cons (de_ix (vQ 0) (vQ 2)) (da_cons (de_ix (vQ 1) (vQ 2)) da_nil))))))
   (dss_one (ds_ret de_bl))
   dss_nil))))
  (dss_one (ds_ret de_bl)))))))
end
end K15
end
noncomputable section
namespace K15
open PySem L2
noncomputable def F_wish:=Fr_wish 12
noncomputable def F_steps:=Fr_steps 12
noncomputable def F_copy_wish:=Fr_copy_wish 12
noncomputable def F_copy_steps:=Fr_copy_steps 12
noncomputable def F_wish_text:=Fr_wish_text 12
noncomputable def F_line:=Fr_line 12
noncomputable def F_shown:=Fr_shown 16
noncomputable def F_alike:=Fr_alike 16
end K15
end
noncomputable section
namespace K15
open PySem L2
noncomputable abbrev cR:Str:=Str.ofString "Reader"
noncomputable abbrev kL:Str:=Str.ofString "line"
noncomputable abbrev kA:Str:=Str.ofString "at"
noncomputable abbrev big:Nat:=100000
theorem big_le:big≤bigE:=by rw[bigE_eq];decide
noncomputable def R (pre rest:List Nat):D :=.ins cR [kL,kA] [.str (S (pre++rest)),.int (pre.length:Int)]
theorem kne:(kA==kL)=false:=by decide +kernel
theorem fldL {f:DF}{ρ:DEnv}{pre rest:List Nat}(h:f ρ=some (R pre rest)):eFld cR kL f ρ=some (.str (S (pre++rest))):=by
 unfold eFld;rw[h];show (if cR=cR then ([kL,kA].zip [D.str (S (pre++rest)),.int (pre.length:Int)]).lookup kL else none)=_
 rw[if_pos rfl];simp only[List.zip_cons_cons,List.lookup_cons,beq_self_eq_true]
theorem fldA {f:DF}{ρ:DEnv}{pre rest:List Nat}(h:f ρ=some (R pre rest)):eFld cR kA f ρ=some (.int (pre.length:Int)):=by
 unfold eFld;rw[h];show (if cR=cR then ([kL,kA].zip [D.str (S (pre++rest)),.int (pre.length:Int)]).lookup kA else none)=_
 rw[if_pos rfl];simp only[List.zip_cons_cons,List.lookup_cons,beq_self_eq_true,kne]
theorem ahead_ok {pre rest:List Nat}(hb:pre.length+rest.length≤big):F_Reader_ahead [R pre rest]=some (.str (S (rest.take 1))):=by
 show (sRet _ [some (R pre rest)]).bind outD=_;have e:eSlS (eFld cR kL (eV 0)) (pS (eFld cR kA (eV 0))) (pS (e2 oAdd (eFld cR kA (eV 0)) (eK (.int 1)))) [some (R pre rest)]=some (.str (S (rest.take 1))):=by
  unfold eSlS pS e2;rw[fldL (f:=eV 0) rfl,fldA (f:=eV 0) rfl];simp only[zA,eK,addI];rw[S_len,if_pos (by rw[List.length_append];exact yB hb big_le)]
  have:=sliceN (pre++rest) pre.length (pre.length+1) (by omega) (by simp)
  rw[show ((pre.length+1:Nat):Int)=(pre.length:Int)+1 by omega] at this
  rw[this,List.drop_left]
  congr 4
  omega
 unfold sRet;rw[e];rfl
theorem nahead:Str.ofString "ahead" ∉ [kL,kA]:=by decide +kernel
theorem npass:Str.ofString "pass_over" ∉ [kL,kA]:=by decide +kernel
theorem aheadE {pre rest:List Nat}{ρ:DEnv}(hb:pre.length+rest.length≤big):(eMethS (Str.ofString "Reader") (Str.ofString "ahead") F_Reader_ahead (eV 0) aN) (some (R pre rest)::ρ)=some (.str (S (rest.take 1))):=by
 show (if cR=cR∧Str.ofString "ahead" ∉ [kL,kA] then (aN (some (R pre rest)::ρ)).bind fun xs=>(F_Reader_ahead (R pre rest::xs)).bind fun d=>if scalD d=true then some d else none else none)=_
 rw[if_pos ⟨rfl,nahead⟩];simp only[aN,zA,ahead_ok hb]
 rfl
theorem tk1 (rest:List Nat) (c:Nat):(rest.take 1==[c])=(rest.head? == some c):=by
 cases rest with
 | nil=>rfl
 | cons x r=>simp
theorem tAhEq {pre rest:List Nat}{ρ:DEnv}{c:Nat}(hb:pre.length+rest.length≤big):tB1 (e2 oEq (eMethS (Str.ofString "Reader") (Str.ofString "ahead") F_Reader_ahead (eV 0) aN) (eK (.str (S [c])))) (some (R pre rest)::ρ)=some (rest.head? == some c):=by
 unfold tB1 e2;rw[aheadE hb];simp only[zA,eK,eqS,S_eq,tk1]
theorem tAhNe {pre rest:List Nat}{ρ:DEnv}{c:Nat}(hb:pre.length+rest.length≤big):tB1 (e2 oNe (eMethS (Str.ofString "Reader") (Str.ofString "ahead") F_Reader_ahead (eV 0) aN) (eK (.str (S [c])))) (some (R pre rest)::ρ)=some (!(rest.head? == some c)):=by
 unfold tB1 e2;rw[aheadE hb];simp only[zA,eK,neS,S_eq,tk1]
theorem insR {pre rest:List Nat}{ρ:DEnv}:insAt cR 0 (some (R pre rest)::ρ)=some ([kL,kA],[.str (S (pre++rest)),.int (pre.length:Int)]):=by
 show (if cR=cR then some ([kL,kA],[D.str (S (pre++rest)),D.int (pre.length:Int)]) else none)=_
 exact if_pos rfl
theorem augA {pre rest:List Nat}{c:Nat}{ρ:DEnv}:sFldAugD 0 cR kA (fun i j=>i+j) (eK (.int 1)) (some (R pre (c::rest))::ρ)=some (.nx (some (R (pre++[c]) rest)::ρ)):=by
 have hi:insAt cR 0 (some (R pre (c::rest))::ρ)=some ([kL,kA],[.str (S (pre++c::rest)),.int (pre.length:Int)]):=by exact insR
 unfold sFldAugD;rw[hi];simp only[eK,zA,List.zip_cons_cons,List.lookup_cons,beq_self_eq_true,kne];have hne:¬ kL=kA:=fun z=>by have:=kne;rw[← z] at this;simp at this
 simp only[zP,List.length_nil,putD,hne,if_false,if_true];rw[if_pos (by decide)]
 have e:pre++c::rest=pre++[c]++rest:=by simp
 rw[e];have el:(pre.length:Int)+1=((pre++[c]).length:Int):=by simp
 rw[el]
 rfl
theorem pass_ok:∀ {x pre rest:List Nat},(∀ c∈x,c<128)→pre.length+(x++rest).length≤big→F_Reader_pass_over [R pre (x++rest),.str (S x)]=some (.non,R (pre++x) rest):=by
 intro x pre rest hx hb;have loop:∀ (x pre:List Nat) (y:Str) (v:Option D),pre.length+(x++rest).length≤big→∃ v',forD (gN 2) b_Reader_pass_over_1 (x.map fun c=>D.str (S [c])) [some (R pre (x++rest)),some (.str y),v]=some (.nx [some (R (pre++x) rest),some (.str y),v']):=by
  intro x
  induction x with
  | nil=>intro pre y v _;exact⟨v,by simp[forD]⟩
  | cons c x ih=>
   intro pre y v hb;obtain⟨v',e⟩:=ih (pre++[c]) y (some (.str (S [c]))) (by simp at hb ⊢;omega)
   refine⟨v',?_⟩;rw[List.map_cons,forD];have hb1:b_Reader_pass_over_1 [some (R pre (c::x++rest)),some (.str y),some (.str (S [c]))]=some (.nx [some (R (pre++[c]) (x++rest)),some (.str y),some (.str (S [c]))]):=by
    unfold b_Reader_pass_over_1;have t:tB1 (e2 oNe (eMethS (Str.ofString "Reader") (Str.ofString "ahead") F_Reader_ahead (eV 0) aN) (eV 2)) [some (R pre (c::x++rest)),some (.str y),some (.str (S [c]))]=some false:=by
     unfold tB1 e2;rw[aheadE (by simpa using hb)]
     simp only[zA];show (oNe (.str (S ((c::(x++rest)).take 1))) (.str (S [c]))).bind _=_;simp[neS,S_eq]
    rw[sSeq_nx (ρ':=[some (R pre (c::x++rest)),some (.str y),some (.str (S [c]))]) (by rw[sIf_f t];rfl)]
    exact augA
   show ((some [some (R pre (c::x++rest)),some (.str y),some (.str (S [c]))]:Option DEnv).bind fun ρ1=>(b_Reader_pass_over_1 ρ1).bind _)=_
   simp only[zA,hb1];rw[e];simp
 show (sFor (iS (eV 1)) (gN 2) b_Reader_pass_over_1 [some (R pre (x++rest)),some (.str (S x)),none]).bind (outC 0)=_;have hi:iS (eV 1) [some (R pre (x++rest)),some (.str (S x)),none]=some (x.map fun c=>D.str (S [c])):=by
  show (if (S x).cps.all (· < 128)=true then some (signsD (S x)) else none)=_
  rw[if_pos (by rw[← Array.all_toList,S_list,List.all_eq_true];intro c hc;exact decide_eq_true (hx c hc))]
  simp[signsD,S]
 obtain⟨v',e⟩:=loop x pre (S x) none hb;unfold sFor;rw[hi];simp only[zA];rw[e];rfl
theorem passM {x pre rest:List Nat}{f:DF}{ρ:DEnv}(hx:∀ c∈x,c<128) (hb:pre.length+(x++rest).length≤big) (hf:f (some (R pre (x++rest))::ρ)=some (.str (S x))) :
  mMeth cR (Str.ofString "pass_over") F_Reader_pass_over 0 (aC f aN) (some (R pre (x++rest))::ρ)=some (.non,some (R (pre++x) rest)::ρ):=by
 have hi:insAt cR 0 (some (R pre (x++rest))::ρ)=some ([kL,kA],[.str (S (pre++(x++rest))),.int (pre.length:Int)]):=by exact insR
 unfold mMeth;rw[hi];simp only[zA];rw[if_pos npass];simp only[aC,hf,aN,zA];show (F_Reader_pass_over [R pre (x++rest),.str (S x)]).map _=_;rw[pass_ok hx hb]
 rfl
theorem passS {x pre rest:List Nat}{f:DF}{ρ:DEnv}(hx:∀ c∈x,c<128) (hb:pre.length+(x++rest).length≤big) (hf:f (some (R pre (x++rest))::ρ)=some (.str (S x))) :
  sExprM (mMeth cR (Str.ofString "pass_over") F_Reader_pass_over 0 (aC f aN)) (some (R pre (x++rest))::ρ)=some (.nx (some (R (pre++x) rest)::ρ)):=by
 unfold sExprM;rw[passM hx hb hf];rfl
theorem pass1 {c:Nat}{pre rest:List Nat}{ρ:DEnv}(hc:c<128) (hb:pre.length+(c::rest).length≤big) :
  sExprM (mMeth cR (Str.ofString "pass_over") F_Reader_pass_over 0 (aC (eK (.str (S [c]))) aN)) (some (R pre (c::rest))::ρ)=some (.nx (some (R (pre++[c]) rest)::ρ)):=
 passS (x:=[c]) (by simpa using hc) hb rfl
end K15
end
noncomputable section
namespace K15
open PySem L2
theorem c42:Str.ofString "*" = S [42]:=by decide +kernel
theorem c97:Str.ofString "a" = S [97]:=by decide +kernel
theorem c122:Str.ofString "z" = S [122]:=by decide +kernel
theorem c47:Str.ofString "/" = S [47]:=by decide +kernel
theorem c91:Str.ofString "[" = S [91]:=by decide +kernel
theorem c93:Str.ofString "]" = S [93]:=by decide +kernel
theorem c40:Str.ofString "(" = S [40]:=by decide +kernel
theorem c41:Str.ofString ")" = S [41]:=by decide +kernel
theorem c32:Str.ofString " " = S [32]:=by decide +kernel
theorem c34:Str.ofString "\"" = S [34]:=by decide +kernel
theorem c92:Str.ofString "\\" = S [92]:=by decide +kernel
theorem c113:Str.ofString "q" = S [113]:=by decide +kernel
theorem c126:Str.ofString "~" = S [126]:=by decide +kernel
theorem c0:Str.ofString "" = S []:=by decide +kernel
theorem cany:Str.ofString "any" = S [97,110,121]:=by decide +kernel
theorem leS (a b:Nat):oLeS (.str (S [a])) (.str (S [b]))=some (.bl (decide (a≤b))):=by
 simp only[oLeS,S_list];have e:([b]<[a])↔b<a:=by simp[List.cons_lt_cons_iff]
 rw[decide_eq_decide.mpr e]
 congr 2
 by_cases h:a≤b
 ·rw[decide_eq_true h,decide_eq_false (by omega)];rfl
 ·rw[decide_eq_false h,decide_eq_true (by omega)];rfl
theorem leS0 (a:Nat):oLeS (.str (S [a])) (.str (S []))=some (.bl false):=by
 simp only[oLeS,S_list];rw[decide_eq_true (by exact List.nil_lt_cons _ _)];rfl
noncomputable def inH (lo hi:Nat):List Nat→Bool
 | []=>false
 | c::_=>decide (lo≤c)&&decide (c≤hi)
noncomputable abbrev lowH:=inH 97 122
theorem tLow {pre rest:List Nat}{ρ:DEnv}{lo hi:Nat}(hb:pre.length+rest.length≤big):tChainD oLeS oLeS (eK (.str (S [lo]))) (eMethS (Str.ofString "Reader") (Str.ofString "ahead") F_Reader_ahead (eV 0) aN) (eK (.str (S [hi]))) (some (R pre rest)::ρ)=some (inH lo hi rest):=by
 unfold tChainD;rw[aheadE hb];simp only[eK,zA];cases rest with
 | nil=>simp only[List.take_nil,leS0,zA,inH]
 | cons c r=>
  simp only[List.take_succ_cons,List.take_zero,leS,zA,inH];by_cases h:lo≤c
  ·rw[decide_eq_true h];simp
  ·rw[decide_eq_false h];simp
theorem name_while {post:List Nat}(hp:lowH post=false):∀ (n:Nat) (x pre:List Nat) (v:Option D),(∀ c∈x,97≤c∧c≤122)→x.length<n→pre.length+(x++post).length≤big →
  whileD (tChainD oLeS oLeS (eK (.str (S [97]))) (eMethS (Str.ofString "Reader") (Str.ofString "ahead") F_Reader_ahead (eV 0) aN) (eK (.str (S [122])))) b_Reader_read_name_1 n [some (R pre (x++post)),v]=some (.nx [some (R (pre++x) post),v]):=by
 intro n
 induction n with
 | zero=>intro x pre v _ h;omega
 | succ n ih=>
  intro x pre v hx hn hb;rw[whileD,tLow hb];cases x with
  | nil=>
   rw[List.nil_append,show inH 97 122 post=false from hp]
   simp
  | cons c x=>
   have hc:=hx c zD;show ((some (decide (97≤c)&&decide (c≤122))).bind _)=_;rw[decide_eq_true hc.1,decide_eq_true hc.2];simp only[Bool.and_self,zA,if_true];unfold b_Reader_read_name_1;rw[show ((c::x)++post)=c::(x++post) from rfl,augA]
   simp only[zA];have:=ih x (pre++[c]) v (fun d hd=>hx d (zB _ hd)) (by simp at hn;omega) (by simp at hb ⊢;omega)
   unfold b_Reader_read_name_1 at this;rw[this];simp
theorem name_star {pre post:List Nat}(hb:pre.length+(42::post).length≤big):F_Reader_read_name [R pre (42::post)]=some (.str (S [42]),R (pre++[42]) post):=by
 show (g_Reader_read_name [some (R pre (42::post)),none]).bind (outC 0)=_;unfold g_Reader_read_name;simp only[c42,c97,c122];have e:sIf (tB1 (e2 oEq (eMethS (Str.ofString "Reader") (Str.ofString "ahead") F_Reader_ahead (eV 0) aN) (eK (.str (S [42]))))) (sSeq (sExprM (mMeth cR (Str.ofString "pass_over") F_Reader_pass_over 0 (aC (eK (.str (S [42]))) aN))) (sRetM (mP (eK (.str (S [42])))))) sNil [some (R pre (42::post)),none]=some (.rm (.str (S [42])) [some (R (pre++[42]) post),none]):=by
  rw[sIf_t (by rw[tAhEq hb];simp),sSeq_nx (pass1 (by decide) hb)]
  rfl
 unfold sSeq at e ⊢;rw[e]
 rfl
theorem name_low {pre x post:List Nat}(hx:∀ c∈x,97≤c∧c≤122) (h0:x≠[]) (hp:lowH post=false) (hb:pre.length+(x++post).length≤big):F_Reader_read_name [R pre (x++post)]=some (.str (S x),R (pre++x) post):=by
 show (g_Reader_read_name [some (R pre (x++post)),none]).bind (outC 0)=_;unfold g_Reader_read_name;simp only[c42,c97,c122];have t1:tB1 (e2 oEq (eMethS (Str.ofString "Reader") (Str.ofString "ahead") F_Reader_ahead (eV 0) aN) (eK (.str (S [42])))) [some (R pre (x++post)),none]=some false:=by
  rw[tAhEq hb];cases x with
  | nil=>exact absurd rfl h0
  | cons c x=>have:=(hx c zD).1;simp;omega
 rw[sSeq_nx (ρ':=[some (R pre (x++post)),none]) (by rw[sIf_f t1];rfl)]
 rw[sSeq_nx (ρ':=[some (R pre (x++post)),some (.int (pre.length:Int))]) (by unfold sSet;rw[fldA (f:=eV 0) rfl];rfl)]
 have hxl:x.length<1000000:=by simp at hb;unfold big at hb;omega
 rw[sSeq_nx (ρ':=[some (R (pre++x) post),some (.int (pre.length:Int))]) (show sWhile 1000000 _ _ _=_ from name_while hp 1000000 x pre _ hx hxl hb)]
 have hl:x.length≠0:=fun z=>h0 (List.length_eq_zero_iff.mp z)
 have t2:tB1 (e2 oEq (eFld cR kA (eV 0)) (eV 1)) [some (R (pre++x) post),some (.int (pre.length:Int))]=some false:=by unfold tB1 e2;rw[fldA (f:=eV 0) rfl];show (oEq (.int ((pre++x).length:Int)) (.int (pre.length:Int))).bind _=_;rw[eqI];simp;omega
 rw[sSeq_nx (ρ':=[some (R (pre++x) post),some (.int (pre.length:Int))]) (by rw[sIf_f t2];rfl)]
 have e3:eSlS (eFld cR kL (eV 0)) (pS (eV 1)) (pS (eFld cR kA (eV 0))) [some (R (pre++x) post),some (.int (pre.length:Int))]=some (.str (S x)):=by
  unfold eSlS pS;rw[fldL (f:=eV 0) rfl,fldA (f:=eV 0) rfl];show (if (S (pre++x++post)).length≤bigE then some (D.str (Txt.slice (S (pre++x++post)) (some (pre.length:Int)) (some ((pre++x).length:Int)))) else none)=_
  rw[if_pos (by rw[S_len];exact yB (by simp at hb ⊢;omega) big_le),sliceN _ _ _ (by simp) (by simp)]
  congr 3
  simp
 show ((sRetM (mP (eSlS (eFld cR kL (eV 0)) (pS (eV 1)) (pS (eFld cR kA (eV 0))))) [some (R (pre++x) post),some (.int (pre.length:Int))]).bind (outC 0))=_;unfold sRetM mP;rw[e3]
 rfl
theorem mark_ok {m:Nat}{pre post:List Nat}(hm:m=38∨m=43) (hb:pre.length+(m::post).length≤big):F_Reader_read_mark [R pre (m::post)]=some (.str (S [m]),R (pre++[m]) post):=by
 show (g_Reader_read_mark [some (R pre (m::post)),none]).bind (outC 0)=_;unfold g_Reader_read_mark;rw[sSeq_nx (ρ':=[some (R pre (m::post)),some (.str (S [m]))]) (by unfold sSet;rw[aheadE hb];rfl)]
 have t:tB1 (e1 (oInT true tab_KINDS) (eV 1)) [some (R pre (m::post)),some (.str (S [m]))]=some false:=by
  show ((some (D.bl (!(tab_KINDS.lookup (S [m])).isSome))).bind _)=_;have:(tab_KINDS.lookup (S [m])).isSome=true:=by rcases hm with rfl|rfl<;>decide +kernel
  rw[this];rfl
 rw[sSeq_nx (ρ':=[some (R pre (m::post)),some (.str (S [m]))]) (by rw[sIf_f t];rfl)]
 rw[sSeq_nx (ρ':=[some (R (pre++[m]) post),some (.str (S [m]))]) (show sExprM _ [some (R pre (m::post)),some (.str (S [m]))]=_ from passS (x:=[m]) (f:=eV 1) (by intro c hc;simp at hc;omega) hb rfl)]
 rfl
noncomputable def esc1 (c:Nat):List Nat:=if c=34 then [92,113] else if c=92 then [92,92] else [c]
noncomputable def esc (x:List Nat):List Nat:=(x.map esc1).flatten
noncomputable def signOk (c:Nat):Prop:=32≤c∧c≤126∧c≠37
theorem sign_tests {pre rest:List Nat}{c:Nat}{ρ:DEnv}(hc:signOk c):tOrD (tNotD (tChainD oLeS oLeS (eK (.str (S [32]))) (eV 1) (eK (.str (S [126]))))) (tB1 (e2 oEq (eCall oOrd (aC (eV 1) aN)) (eK (.int 37)))) (some (R pre rest)::some (.str (S [c]))::ρ)=some false:=by
 obtain⟨h1,h2,h3⟩:=hc;have e1:tChainD oLeS oLeS (eK (.str (S [32]))) (eV 1) (eK (.str (S [126]))) (some (R pre rest)::some (.str (S [c]))::ρ)=some true:=by have a1:eV 1 (some (R pre rest)::some (.str (S [c]))::ρ)=some (.str (S [c])):=rfl;unfold tChainD;simp only[a1,eK,zA,leS,decide_eq_true h1,decide_eq_true h2]
 have e2':tB1 (e2 oEq (eCall oOrd (aC (eV 1) aN)) (eK (.int 37))) (some (R pre rest)::some (.str (S [c]))::ρ)=some false:=by
  show (((if (S [c]).length=1 then some (D.int ((S [c]).cps.getD 0 0:Nat)) else none).bind fun x=>oEq x (.int 37)).bind _)=_
  rw[if_pos (by rw[S_len];rfl)]
  show ((oEq (.int (c:Int)) (.int 37)).bind _)=_;rw[eqI];simp;omega
 unfold tOrD tNotD;rw[e1];show (if (!true)=true then some true else _)=_
 simpa using e2'
theorem sign_ok {c:Nat}{pre post:List Nat}(hc:signOk c) (hb:pre.length+(esc1 c++post).length≤big):F_Reader_read_text_sign [R pre (esc1 c++post)]=some (.str (S [c]),R (pre++esc1 c) post):=by
 have main:∀ (d:Nat) (r:List Nat),signOk d→pre.length+(d::r).length≤big→F_Reader_read_text_sign [R pre (d::r)]=(sSeq (sIf (tB1 (e2 oNe (eV 1) (eK (.str (S [92]))))) (sRetM (mP (eV 1))) sNil)
   (sSeq (sIf (tB1 (e2 oEq (eMethS (Str.ofString "Reader") (Str.ofString "ahead") F_Reader_ahead (eV 0) aN) (eK (.str (S [92]))))) (sSeq (sExprM (mMeth cR (Str.ofString "pass_over") F_Reader_pass_over 0 (aC (eK (.str (S [92]))) aN))) (sRetM (mP (eK (.str (S [92])))))) sNil)
    (sSeq (sExprM (mMeth cR (Str.ofString "pass_over") F_Reader_pass_over 0 (aC (eK (.str (S [113]))) aN))) (sRetM (mP (eK (.str (S [34]))))))) [some (R (pre++[d]) r),some (.str (S [d]))]).bind (outC 0):=by
  intro d r hd hb;show (g_Reader_read_text_sign [some (R pre (d::r)),none]).bind (outC 0)=_;unfold g_Reader_read_text_sign;simp only[c32,c126,c92,c113,c34];rw[sSeq_nx (ρ':=[some (R pre (d::r)),some (.str (S [d]))]) (by unfold sSet;rw[aheadE hb];rfl)]
  rw[sSeq_nx (ρ':=[some (R pre (d::r)),some (.str (S [d]))]) (by rw[sIf_f (sign_tests hd)];rfl)]
  rw[sSeq_nx (ρ':=[some (R (pre++[d]) r),some (.str (S [d]))]) augA]
 have ne:∀ (d:Nat) (r p:List Nat),tB1 (e2 oNe (eV 1) (eK (.str (S [92])))) [some (R p r),some (.str (S [d]))]=some (!(d==92)):=fun d r p=>by show ((oNe (.str (S [d])) (.str (S [92]))).bind _)=_;rw[neS,S_eq];simp
 unfold esc1 at hb ⊢;by_cases h34:c=34
 ·subst h34;rw[if_pos rfl] at hb ⊢;show F_Reader_read_text_sign [R pre (92::113::post)]=_;have hb1:(pre++[92]).length+(113::post).length≤big:=by simp at hb ⊢;omega
  rw[main 92 (113::post) ⟨by decide,by decide,by decide⟩ (by simpa using hb)]
  rw[sSeq_nx (ρ':=[some (R (pre++[92]) (113::post)),some (.str (S [92]))]) (by rw[sIf_f (by rw[ne];rfl)];rfl)]
  rw[sSeq_nx (ρ':=[some (R (pre++[92]) (113::post)),some (.str (S [92]))]) (by rw[sIf_f (by rw[tAhEq hb1];rfl)];rfl)]
  rw[sSeq_nx (pass1 (by decide) hb1)]
  show some (D.str (S [34]),R (pre++[92]++[113]) post)=_;simp
 ·rw[if_neg h34] at hb ⊢;by_cases h92:c=92
  ·subst h92;rw[if_pos rfl] at hb ⊢;show F_Reader_read_text_sign [R pre (92::92::post)]=_;have hb1:(pre++[92]).length+(92::post).length≤big:=by simp at hb ⊢;omega
   rw[main 92 (92::post) ⟨by decide,by decide,by decide⟩ (by simpa using hb)]
   rw[sSeq_nx (ρ':=[some (R (pre++[92]) (92::post)),some (.str (S [92]))]) (by rw[sIf_f (by rw[ne];rfl)];rfl)]
   have e:sIf (tB1 (e2 oEq (eMethS (Str.ofString "Reader") (Str.ofString "ahead") F_Reader_ahead (eV 0) aN) (eK (.str (S [92]))))) (sSeq (sExprM (mMeth cR (Str.ofString "pass_over") F_Reader_pass_over 0 (aC (eK (.str (S [92]))) aN))) (sRetM (mP (eK (.str (S [92])))))) sNil [some (R (pre++[92]) (92::post)),some (.str (S [92]))]=some (.rm (.str (S [92])) [some (R (pre++[92]++[92]) post),some (.str (S [92]))]):=by
    rw[sIf_t (by rw[tAhEq hb1];rfl),sSeq_nx (pass1 (by decide) hb1)]
    rfl
   unfold sSeq at e ⊢;rw[e];show some (D.str (S [92]),R (pre++[92]++[92]) post)=_;simp
  ·rw[if_neg h92] at hb ⊢;show F_Reader_read_text_sign [R pre (c::post)]=_;rw[main c post hc (by simpa using hb)]
   have e:sIf (tB1 (e2 oNe (eV 1) (eK (.str (S [92]))))) (sRetM (mP (eV 1))) sNil [some (R (pre++[c]) post),some (.str (S [c]))]=some (.rm (.str (S [c])) [some (R (pre++[c]) post),some (.str (S [c]))]):=by
    rw[sIf_t (by rw[ne];simp[h92])]
    rfl
   unfold sSeq at e ⊢;rw[e]
   rfl
end K15
end
noncomputable section
namespace K15
open PySem L2
noncomputable abbrev Pz (F:List D→Option (D×D)) (pre t post:List Nat) (d:D):Prop:=F [R pre (t++post)]=some (d,R (pre++t) post)
theorem methM {m:Str}{F:List D→Option (D×D)}{pre rest pre' rest':List Nat}{d:D}{ρ:DEnv}(hm:m∉[kL,kA]) (h:F [R pre rest]=some (d,R pre' rest')):mMeth (Str.ofString "Reader") m F 0 aN (some (R pre rest)::ρ)=some (d,some (R pre' rest')::ρ):=by
 unfold mMeth;rw[insR];simp only[zA];rw[if_pos hm];simp only[aN,zA];show (F [R pre rest]).map _=_;rw[h];rfl
theorem n_step:Str.ofString "read_step" ∉ [kL,kA]:=by decide +kernel
theorem n_steps:Str.ofString "read_steps" ∉ [kL,kA]:=by decide +kernel
theorem n_wish:Str.ofString "read_wish" ∉ [kL,kA]:=by decide +kernel
theorem n_list:Str.ofString "read_list" ∉ [kL,kA]:=by decide +kernel
theorem n_short:Str.ofString "read_short_list" ∉ [kL,kA]:=by decide +kernel
theorem n_name:Str.ofString "read_name" ∉ [kL,kA]:=by decide +kernel
theorem n_mark:Str.ofString "read_mark" ∉ [kL,kA]:=by decide +kernel
theorem n_text:Str.ofString "read_text" ∉ [kL,kA]:=by decide +kernel
theorem n_sign:Str.ofString "read_text_sign" ∉ [kL,kA]:=by decide +kernel
theorem appM1 {f:DM}{r r':Option D}{ds:List D}{d:D}{ρ ρ':DEnv}(h:f (r::some (.lst ds)::ρ)=some (d,r'::some (.lst ds)::ρ')) (hl:ds.length<bigE):sAppM 1 f (r::some (.lst ds)::ρ)=some (.nx (r'::some (.lst (ds++[d]))::ρ')):=by
 unfold sAppM;have e1:lstAt 1 (r::some (.lst ds)::ρ)=some ds:=rfl;have e2:lstAt 1 (r'::some (.lst ds)::ρ')=some ds:=rfl;simp only[e1,h,e2,zA];rw[if_pos hl];rfl
theorem text_while {post:List Nat}:∀ (n:Nat) (x pre ps:List Nat),(∀ c∈x,signOk c)→x.length<n→pre.length+(esc x++34::post).length≤big→ps.length+x.length≤big →
  whileD (tB1 (e2 oNe (eMethS (Str.ofString "Reader") (Str.ofString "ahead") F_Reader_ahead (eV 0) aN) (eK (.str (S [34]))))) b_Reader_read_text_1 n [some (R pre (esc x++34::post)),some (.lst (ps.map fun c=>D.str (S [c])))]=some (.nx [some (R (pre++esc x) (34::post)),some (.lst ((ps++x).map fun c=>D.str (S [c])))]):=by
 intro n
 induction n with
 | zero=>intro x pre ps _ h;omega
 | succ n ih=>
  intro x pre ps hx hn hb hps;rw[whileD,tAhNe hb];cases x with
  | nil=>simp[esc]
  | cons c x=>
   have hc:=hx c zD;have ee:esc (c::x)=esc1 c++esc x:=by simp[esc]
   have hh:((esc (c::x)++34::post).head? == some 34)=false:=by
    rw[ee];unfold esc1
    split
    ·rfl
    ·split
     ·rfl
     ·rename_i h1 _;simp;exact h1
   rw[hh];simp only[Bool.not_false,zA,if_true];have hb1:b_Reader_read_text_1 [some (R pre (esc (c::x)++34::post)),some (.lst (ps.map fun c=>D.str (S [c])))]=some (.nx [some (R (pre++esc1 c) (esc x++34::post)),some (.lst ((ps++[c]).map fun c=>D.str (S [c])))]):=by
    unfold b_Reader_read_text_1;rw[ee,List.append_assoc,List.map_append];refine appM1 (methM n_sign (sign_ok hc ?_)) ?_
    ·rw[ee] at hb;simpa using hb
    ·rw[zH];exact zS (by simp at hps;omega) big_le
   rw[hb1];simp only[zA];rw[ih x (pre++esc1 c) (ps++[c]) (fun d hd=>hx d (zB _ hd)) (by simp at hn;omega) (by rw[ee] at hb;simp at hb ⊢;omega) (by simp at hps ⊢;omega)]
   rw[ee];simp
theorem text_parse {pre x post:List Nat}(hx:∀ c∈x,signOk c) (hb:pre.length+(34::esc x++[34]++post).length≤big) (hl:x.length≤1000):Pz F_Reader_read_text pre (34::esc x++[34]) post (.str (S x)):=by
 have e0:34::esc x++[34]++post=34::(esc x++34::post):=by simp
 show F_Reader_read_text [R pre (34::esc x++[34]++post)]=_;rw[e0] at hb ⊢;show (g_Reader_read_text [some (R pre (34::(esc x++34::post))),none]).bind (outC 0)=_;unfold g_Reader_read_text;simp only[c34,c0];rw[sSeq_nx (pass1 (by decide) hb)]
 rw[sSeq_nx (ρ':=[some (R (pre++[34]) (esc x++34::post)),some (.lst [])]) rfl];rw[sSeq_nx (ρ':=[some (R (pre++[34]++esc x) (34::post)),some (.lst (x.map fun c=>D.str (S [c])))]) (show sWhile 1000000 _ _ [some (R (pre++[34]) (esc x++34::post)),some (.lst [])]=_ from text_while 1000000 x (pre++[34]) [] hx (by omega) (by simp at hb ⊢;omega) (by simp only[List.length_nil,big];omega))]
 rw[sSeq_nx (pass1 (by decide) (by simp at hb ⊢;omega))]
 have ej:oJoin (.str (S [])) (.lst (x.map fun c=>D.str (S [c])))=some (.str (S x)):=by
  have:=joinD (sep:=[]) (ls:=x.map fun c=>[c]) (by
   have e:∀ x:List Nat,sumLen (x.map fun c=>[c])=x.length:=fun x=>by
    induction x with
    | nil=>rfl
    | cons c x ih=>simp[sumLen] at ih ⊢;omega
   rw[e,bigE_eq];simp;omega)
  rw[List.map_map,joinL_nil_sep] at this;have ef:∀ x:List Nat,(x.map fun c=>[c]).flatten=x:=fun x=>by
   induction x with
   | nil=>rfl
   | cons c x ih=>simp[ih]
  rw[ef] at this;exact this
 have e1:e2 oJoin (eK (.str (S []))) (eV 1) [some (R (pre++[34]++esc x++[34]) post),some (.lst (x.map fun c=>D.str (S [c])))]=some (.str (S x)):=ej
 unfold sRetM mP;rw[e1];show some (D.str (S x),R (pre++[34]++esc x++[34]) post)=_;simp
noncomputable def NmL (x:List Nat):Prop:=x=[42]∨(x≠[]∧x.length≤10∧∀ c∈x,97≤c∧c≤122)
theorem name_parse {x pre mid:List Nat}(hx:NmL x) (hm:lowH mid=false) (hb:pre.length+(x++mid).length≤big):Pz F_Reader_read_name pre x mid (.str (S x)):=by
 rcases hx with rfl|⟨h0,_,h1⟩
 ·exact name_star hb
 ·exact name_low h1 h0 hm hb
noncomputable def slash (inner:Bool):List Nat:=if inner then [47,47] else [47]
noncomputable def wayS (inner:Bool):Str:=if inner then sInner else sOwn
theorem nm_head {x mid:List Nat}(hx:NmL x):((x++mid).head? == some 47)=false:=by
 rcases hx with rfl|⟨h0,_,h1⟩
 ·rfl
 ·cases x with
  | nil=>exact absurd rfl h0
  | cons c x=>have:=h1 c zD;simp;omega
noncomputable section
variable {Fs Fp Fw Fl Fh:List D→Option (D×D)}
noncomputable abbrev stepTail (Fw : List D → Option (D × D)) : DG :=
    (sSeq (sIf (tB1 (e2 oNe (eMethS (Str.ofString "Reader") (Str.ofString "ahead") F_Reader_ahead (eV 0) aN) (eK (.str (S [91])))))
     (sRetM (mP (eTup (aC (eV 1) (aC (eV 2) (aC (eTup (aC (eK (.str (Str.ofString "any"))) aN)) aN))))))
     sNil)
    (sSeq (sExprM (mMeth (Str.ofString "Reader") (Str.ofString "pass_over") F_Reader_pass_over 0 (aC (eK (.str (S [91]))) aN)))
    (sSeq (sIf (tB1 (e2 oEq (eMethS (Str.ofString "Reader") (Str.ofString "ahead") F_Reader_ahead (eV 0) aN) (eK (.str (S [97])))))
     sNever
     sNil)
    (sSeq (sSetM 3 (mMeth (Str.ofString "Reader") (Str.ofString "read_wish") Fw 0 aN))
    (sSeq (sExprM (mMeth (Str.ofString "Reader") (Str.ofString "pass_over") F_Reader_pass_over 0 (aC (eK (.str (S [93]))) aN)))
    (sRetM (mP (eTup (aC (eV 1) (aC (eV 2) (aC (eV 3) aN))))))))))
)
theorem step_front {pre x mid:List Nat}{inner:Bool}(hx:NmL x) (hm:lowH mid=false) (hb:pre.length+(slash inner++x++mid).length≤big) :
  g_Reader_read_step Fs Fp Fw Fl Fh [some (R pre (slash inner++x++mid)),none,none,none]=stepTail Fw [some (R (pre++slash inner++x) mid),some (.str (wayS inner)),some (.str (S x)),none]:=by
 unfold g_Reader_read_step;simp only[c47,c91,c97,c93];cases inner with
 | false=>
  have e:slash false++x++mid=47::(x++mid):=by simp[slash]
  rw[e] at hb ⊢;rw[sSeq_nx (pass1 (by decide) hb)]
  rw[sSeq_nx (ρ':=[some (R (pre++[47]) (x++mid)),some (.str (Str.ofString "own")),none,none]) rfl];have hb1:(pre++[47]).length+(x++mid).length≤big:=by simp at hb ⊢;omega
  rw[sSeq_nx (ρ':=[some (R (pre++[47]) (x++mid)),some (.str (Str.ofString "own")),none,none]) (by rw[sIf_f (by rw[tAhEq hb1,nm_head hx])];rfl)]
  rw[sSeq_nx (ρ':=[some (R (pre++[47]++x) mid),some (.str (Str.ofString "own")),some (.str (S x)),none]) (by unfold sSetM;rw[methM n_name (name_parse hx hm hb1)];rfl)]
  rfl
 | true=>
  have e:slash true++x++mid=47::47::(x++mid):=by simp[slash]
  rw[e] at hb ⊢;rw[sSeq_nx (pass1 (by decide) hb)]
  rw[sSeq_nx (ρ':=[some (R (pre++[47]) (47::(x++mid))),some (.str (Str.ofString "own")),none,none]) rfl];have hb1:(pre++[47]).length+(47::(x++mid)).length≤big:=by simp at hb ⊢;omega
  have hb2:(pre++[47]++[47]).length+(x++mid).length≤big:=by simp at hb ⊢;omega
  rw[sSeq_nx (ρ':=[some (R (pre++[47]++[47]) (x++mid)),some (.str (Str.ofString "inner")),none,none]) (by rw[sIf_t (by rw[tAhEq hb1];rfl),sSeq_nx (pass1 (by decide) hb1)];rfl)]
  rw[sSeq_nx (ρ':=[some (R (pre++[47]++[47]++x) mid),some (.str (Str.ofString "inner")),some (.str (S x)),none]) (by unfold sSetM;rw[methM n_name (name_parse hx hm hb2)];rfl)]
  have e2:pre++[47]++[47]++x=pre++slash true++x:=by simp[slash]
  rw[e2];rfl
theorem step_any {pre x post:List Nat}{inner:Bool}(hx:NmL x) (hp:lowH post=false) (hq:post.head? ≠ some 91) (hb:pre.length+(slash inner++x++post).length≤big) :
  Pz (runC 1 4 0 (g_Reader_read_step Fs Fp Fw Fl Fh)) pre (slash inner++x) post (stepD (wayS inner) (S x) wAny):=by
 show (g_Reader_read_step Fs Fp Fw Fl Fh [some (R pre (slash inner++x++post)),none,none,none]).bind (outC 0)=_;rw[step_front hx hp hb];have e:sIf (tB1 (e2 oNe (eMethS (Str.ofString "Reader") (Str.ofString "ahead") F_Reader_ahead (eV 0) aN) (eK (.str (S [91]))))) (sRetM (mP (eTup (aC (eV 1) (aC (eV 2) (aC (eTup (aC (eK (.str (Str.ofString "any"))) aN)) aN)))))) sNil [some (R (pre++slash inner++x) post),some (.str (wayS inner)),some (.str (S x)),none]
   = some (.rm (stepD (wayS inner) (S x) wAny) [some (R (pre++slash inner++x) post),some (.str (wayS inner)),some (.str (S x)),none]):=by
  rw[sIf_t (by rw[tAhNe (by simp at hb ⊢;omega)];simp;exact hq)]
  rfl
 unfold stepTail;unfold sSeq at e ⊢;rw[e];show some (stepD (wayS inner) (S x) wAny,R (pre++slash inner++x) post)=_;simp
theorem step_wish {pre x tw post:List Nat}{inner:Bool}{w:D}(hx:NmL x) (h97:tw.head? ≠ some 97) (h0:tw≠[]) (hw:∀ pre:List Nat,pre.length+(tw++93::post).length≤big→Pz Fw pre tw (93::post) w) (hb:pre.length+(slash inner++x++91::tw++[93]++post).length≤big) :
  Pz (runC 1 4 0 (g_Reader_read_step Fs Fp Fw Fl Fh)) pre (slash inner++x++91::tw++[93]) post (stepD (wayS inner) (S x) w):=by
 have e0:slash inner++x++91::tw++[93]++post=slash inner++x++91::(tw++93::post):=by simp
 show (g_Reader_read_step Fs Fp Fw Fl Fh [some (R pre (slash inner++x++91::tw++[93]++post)),none,none,none]).bind (outC 0)=_;rw[e0] at hb ⊢;rw[step_front hx (by rfl) hb]
 have hb1:(pre++slash inner++x).length+(91::(tw++93::post)).length≤big:=by simp at hb ⊢;omega
 have hb2:(pre++slash inner++x++[91]).length+(tw++93::post).length≤big:=by simp at hb ⊢;omega
 have hb3:(pre++slash inner++x++[91]++tw).length+(93::post).length≤big:=by simp at hb ⊢;omega
 unfold stepTail;rw[sSeq_nx (ρ':=[some (R (pre++slash inner++x) (91::(tw++93::post))),some (.str (wayS inner)),some (.str (S x)),none]) (by rw[sIf_f (by rw[tAhNe hb1];rfl)];rfl)]
 rw[sSeq_nx (pass1 (by decide) hb1)]
 have t97:((tw++93::post).head? == some 97)=false:=by
  cases tw with
  | nil=>exact absurd rfl h0
  | cons c tw=>simp at h97 ⊢;exact h97
 rw[sSeq_nx (ρ':=[some (R (pre++slash inner++x++[91]) (tw++93::post)),some (.str (wayS inner)),some (.str (S x)),none]) (by rw[sIf_f (by rw[tAhEq hb2,t97])];rfl)]
 rw[sSeq_nx (ρ':=[some (R (pre++slash inner++x++[91]++tw) (93::post)),some (.str (wayS inner)),some (.str (S x)),some w]) (by unfold sSetM;rw[methM n_wish (hw _ hb2)];rfl)]
 rw[sSeq_nx (pass1 (by decide) hb3)]
 show some (stepD (wayS inner) (S x) w,R (pre++slash inner++x++[91]++tw++[93]) post)=_;simp
end
end K15
end
noncomputable section
namespace K15
open PySem L2
noncomputable def isAnyW:D→Bool
 | .tup [.str _]=>true
 | _=>false
noncomputable def tW0:D→List Nat
 | .tup [.str _,.str x]=>34::esc x.cps.toList++[34]
 | _=>[97,110,121]
noncomputable def tS (f:D→List Nat):D→List Nat
 | .tup [.str wy,.str nm,w]=>slash (wy==sInner)++nm.cps.toList++(if isAnyW w then [] else 91::f w++[93])
 | _=>[]
noncomputable def listT (m:Nat):List (List Nat)→List Nat
 | []=>[40,m,41]
 | [x]=>40::m::32::x++[41]
 | x::y::r=>40::joinL [32,m,32] (x::y::r)++[41]
noncomputable def tW:Nat→D→List Nat
 | 0,d=>tW0 d
 | n+1,d=>match d with
  | .tup [.str k,.lst ds]=>if k=sHas then (ds.map (tS (tW n))).flatten else listT (if k=sOne then 43 else 38) (ds.map (tW n))
  | d=>tW0 d
noncomputable abbrev tSs (n:Nat) (ss:List D):List Nat:=(ss.map (tS (tW n))).flatten
noncomputable def texts8:List (List Nat):=[[],[120],[97,110,121],[34],[92],[92,113],[97,32,98],[93]]
noncomputable abbrev TxL (x:List Nat):Prop:=x∈texts8
noncomputable def kindS (one:Bool):Str:=if one then sOne else sBoth
noncomputable def WqW:Nat→D→Prop
 | 0,d=>d=wAny∨∃ x,TxL x∧d=wText (S x)
 | n+1,d=>d=wAny∨(∃ x,TxL x∧d=wText (S x))∨(∃ ss,d=wHas ss∧1≤ss.length∧ss.length≤3∧∀ s∈ss,∃ inner x w,s=stepD (wayS inner) (S x) w∧NmL x∧WqW n w) ∨
   (∃ one ws,d=.tup [.str (kindS one),.lst ws]∧ws.length≤3∧∀ w∈ws,WqW n w)
noncomputable def WqS (n:Nat) (s:D):Prop:=∃ inner x w,s=stepD (wayS inner) (S x) w∧NmL x∧WqW n w
theorem txt_sign {x:List Nat}(h:TxL x):(∀ c∈x,signOk c)∧x.length≤3:=by
 simp only[TxL,texts8,zG,List.not_mem_nil,or_false] at h;rcases h with rfl|rfl|rfl|rfl|rfl|rfl|rfl|rfl<;>refine⟨fun c hc =>?_,by decide⟩<;>simp at hc<;>(try rcases hc with rfl|rfl|rfl)<;>(try rcases hc with rfl|rfl)<;>(try subst hc)<;>exact⟨by decide,by decide,by decide⟩
theorem way_in (inner:Bool):(wayS inner==sInner)=inner:=by cases inner<;>decide +kernel
theorem has_ne (one:Bool):¬ kindS one=sHas:=by cases one<;>decide +kernel
theorem kind_one (one:Bool):(kindS one=sOne)↔one=true:=by
 cases one
 ·exact⟨fun h=>absurd h (by decide +kernel),fun h=>by cases h⟩
 ·exact⟨fun _=>rfl,fun _=>rfl⟩
noncomputable def markN (one:Bool):Nat:=if one then 43 else 38
theorem tW_any (n:Nat):tW n wAny=[97,110,121]:=by cases n<;>rfl
theorem tW_text (n:Nat) (x:List Nat):tW n (wText (S x))=34::esc x++[34]:=by
 have e:tW0 (wText (S x))=34::esc x++[34]:=by show 34::esc (S x).cps.toList++[34]=_;rw[S_list]
 cases n<;>exact e
theorem tW_has (n:Nat) (ss:List D):tW (n+1) (wHas ss)=tSs n ss:=by
 show (if sHas=sHas then tSs n ss else listT (if sHas=sOne then 43 else 38) (ss.map (tW n)))=_
 rw[if_pos rfl]
theorem tW_lst (n:Nat) (one:Bool) (ws:List D):tW (n+1) (.tup [.str (kindS one),.lst ws])=listT (markN one) (ws.map (tW n)):=by
 show (if kindS one=sHas then _ else listT (if kindS one=sOne then 43 else 38) (ws.map (tW n)))=_
 rw[if_neg (has_ne one)]
 congr 1
 cases one
 ·rw[if_neg (by decide +kernel)];rfl
 ·rw[if_pos (by decide +kernel)];rfl
theorem tS_step (f:D→List Nat) (inner:Bool) (x:List Nat) (w:D):tS f (stepD (wayS inner) (S x) w)=slash inner++x++(if isAnyW w then [] else 91::f w++[93]):=by
 show slash (wayS inner==sInner)++(S x).cps.toList++_=_;rw[way_in,S_list]
theorem tS_head {f:D→List Nat}{inner:Bool}{x:List Nat}{w:D}(r:List Nat):(tS f (stepD (wayS inner) (S x) w)++r).head? = some 47:=by
 rw[tS_step];cases inner<;>rfl
theorem tW_head {n:Nat}{w:D}(h:WqW n w):∃ c r,tW n w=c::r∧((c=97∧w=wAny)∨((c=34∨c=47∨c=40)∧isAnyW w=false)):=by
 cases n with
 | zero=>
  rcases h with rfl|⟨x,_,rfl⟩
  ·exact⟨97,_,rfl,.inl ⟨rfl,rfl⟩⟩
  ·exact⟨34,_,tW_text 0 x,.inr ⟨.inl rfl,rfl⟩⟩
 | succ n=>
  rcases h with rfl|⟨x,_,rfl⟩|⟨ss,rfl,h0,_,hs⟩|⟨one,ws,rfl,_,_⟩
  ·exact⟨97,_,rfl,.inl ⟨rfl,rfl⟩⟩
  ·exact⟨34,_,tW_text _ x,.inr ⟨.inl rfl,rfl⟩⟩
  ·cases ss with
   | nil=>simp at h0
   | cons s ss=>
    obtain⟨inner,x,w,rfl,_⟩:=hs s zD;have:=tS_head (f:=tW n) (inner:=inner) (x:=x) (w:=w) (ss.map (tS (tW n))).flatten;rw[tW_has];show ∃ c r,tS (tW n) _++(ss.map (tS (tW n))).flatten=c::r∧_;cases e:tS (tW n) (stepD (wayS inner) (S x) w)++(ss.map (tS (tW n))).flatten with
    | nil=>rw[e] at this;cases this
    | cons c r=>rw[e] at this;cases this;exact⟨47,r,rfl,.inr ⟨.inr (.inl rfl),rfl⟩⟩
  ·rw[tW_lst];refine⟨40,?_⟩;cases ws.map (tW n) with
   | nil=>exact⟨_,rfl,.inr ⟨.inr (.inr rfl),rfl⟩⟩
   | cons x r=>
    cases r with
    | nil=>exact⟨_,rfl,.inr ⟨.inr (.inr rfl),rfl⟩⟩
    | cons y r=>exact⟨_,rfl,.inr ⟨.inr (.inr rfl),rfl⟩⟩
noncomputable def PostOk (post:List Nat):Prop:=∀ c,post.head? = some c→c=93∨c=32∨c=41
noncomputable def StepPost (post:List Nat):Prop:=∀ c,post.head? = some c→c=93∨c=32∨c=41∨c=47
theorem PostOk.step {post:List Nat}(h:PostOk post):StepPost post:=fun c e=>by rcases h c e with z|z|z<;>simp[z]
theorem StepPost.low {post:List Nat}(h:StepPost post):lowH post=false:=by
 cases post with
 | nil=>rfl
 | cons c r=>show (decide (97≤c)&&decide (c≤122))=false;rcases h c rfl with z|z|z|z<;>subst z<;>rfl
theorem StepPost.br {post:List Nat}(h:StepPost post):post.head? ≠ some 91:=fun e=>by
 rcases h 91 e with z|z|z|z<;>omega
theorem PostOk.ne {post:List Nat}(h:PostOk post):(post.head? == some 47)=false:=by
 cases post with
 | nil=>rfl
 | cons c r=>rcases h c rfl with z|z|z<;>subst z<;>rfl
noncomputable abbrev WParse (F:List D→Option (D×D)) (n:Nat):Prop:=∀ (w:D) (pre post:List Nat),WqW n w→PostOk post→pre.length+(tW n w++post).length≤big→Pz F pre (tW n w) post w
noncomputable abbrev SParse (F:List D→Option (D×D)) (n:Nat):Prop:=∀ (s:D) (pre post:List Nat),WqS n s→StepPost post→pre.length+(tS (tW n) s++post).length≤big→Pz F pre (tS (tW n) s) post s
noncomputable abbrev SsParse (F:List D→Option (D×D)) (n:Nat):Prop:=∀ (ss:List D) (pre post:List Nat),1≤ss.length→ss.length≤3→(∀ s∈ss,WqS n s)→PostOk post→pre.length+(tSs n ss++post).length≤big→Pz F pre (tSs n ss) post (.lst ss)
noncomputable section
variable {Fs Fp Fw Fl Fh:List D→Option (D×D)}{n:Nat}
theorem step_parse (hw:WParse Fw n):SParse (runC 1 4 0 (g_Reader_read_step Fs Fp Fw Fl Fh)) n:=by
 rintro s pre post ⟨inner,x,w,rfl,hx,hww⟩ hp hb;obtain⟨c,r,e,hc⟩:=tW_head hww;rw[tS_step] at hb ⊢;rcases hc with ⟨_,rfl⟩|⟨hc,ha⟩
 ·have e0:(if isAnyW wAny=true then [] else 91::tW n wAny++[93])=([]:List Nat):=rfl
  rw[e0,List.append_nil] at hb ⊢;exact step_any hx hp.low hp.br hb
 ·rw[ha] at hb ⊢;have e1:slash inner++x++(if false=true then [] else 91::tW n w++[93])=slash inner++x++91::tW n w++[93]:=by simp
  rw[e1] at hb ⊢;refine step_wish hx ?_ ?_ (fun pre' hb'=>hw w pre' (93::post) hww (fun c z=>by cases z;exact .inl rfl) hb') hb
  ·rw[e];intro z;cases z;rcases hc with z|z|z<;>omega
  ·rw[e];intro z;cases z
theorem setOM1 {f:DM}{i:Nat}{ρ ρ':DEnv}{d:D}(h:f ρ=some (d,ρ')):sSetOM i (mAC f mAN) ρ=some (.nx (ρ'.set i (some (.lst [d])))):=by
 unfold sSetOM mAC mAN;rw[h];simp
theorem steps_while (hs:SParse Fp n){post:List Nat}(hp:PostOk post):∀ (k:Nat) (ss done:List D) (pre:List Nat),ss.length<k→done.length+ss.length≤100→(∀ s∈ss,WqS n s)→pre.length+(tSs n ss++post).length≤big →
  whileD (tB1 (e2 oEq (eMethS (Str.ofString "Reader") (Str.ofString "ahead") F_Reader_ahead (eV 0) aN) (eK (.str (S [47]))))) (b_Reader_read_steps_1 Fs Fp Fw Fl Fh) k [some (R pre (tSs n ss++post)),some (.lst done)]=some (.nx [some (R (pre++tSs n ss) post),some (.lst (done++ss))]):=by
 intro k
 induction k with
 | zero=>intro ss done pre h;omega
 | succ k ih=>
  intro ss done pre hk hd hss hb;rw[whileD,tAhEq hb];cases ss with
  | nil=>
   rw[show (tSs n []++post)=post from rfl,hp.ne]
   simp[tSs]
  | cons s ss=>
   have e:tSs n (s::ss)++post=tS (tW n) s++(tSs n ss++post):=by simp[tSs]
   have hs1:=hss s zD;have hh:((tSs n (s::ss)++post).head? == some 47)=true:=by obtain⟨inner,x,w,rfl,_⟩:=hs1;rw[e,tS_head];rfl
   rw[hh];simp only[zA,if_true];rw[e] at hb ⊢;have hsp:StepPost (tSs n ss++post):=by
    cases ss with
    | nil=>exact hp.step
    | cons s2 ss=>
     obtain⟨inner,x,w,rfl,_⟩:=hss s2 (by simp)
     intro c hc;have:tSs n (stepD (wayS inner) (S x) w::ss)++post=tS (tW n) (stepD (wayS inner) (S x) w)++(tSs n ss++post):=by simp[tSs]
     rw[this,tS_head] at hc;cases hc;simp
   have hb1:b_Reader_read_steps_1 Fs Fp Fw Fl Fh [some (R pre (tS (tW n) s++(tSs n ss++post))),some (.lst done)]=some (.nx [some (R (pre++tS (tW n) s) (tSs n ss++post)),some (.lst (done++[s]))]):=by unfold b_Reader_read_steps_1;exact appM1 (methM n_step (hs s pre _ hs1 hsp hb)) (by rw[bigE_eq];omega)
   rw[hb1];simp only[zA];rw[ih ss (done++[s]) (pre++tS (tW n) s) (by simp at hk;omega) (by simp at hd ⊢;omega) (fun t ht=>hss t (zB _ ht)) (by simp at hb ⊢;omega)]
   simp[tSs]
theorem steps_parse (hs:SParse Fp n):SsParse (runC 1 2 0 (g_Reader_read_steps Fs Fp Fw Fl Fh)) n:=by
 intro ss pre post h1 h3 hss hp hb;cases ss with
 | nil=>simp at h1
 | cons s ss=>
  have e:tSs n (s::ss)++post=tS (tW n) s++(tSs n ss++post):=by simp[tSs]
  show (g_Reader_read_steps Fs Fp Fw Fl Fh [some (R pre (tSs n (s::ss)++post)),none]).bind (outC 0)=_;rw[e] at hb ⊢;have hsp:StepPost (tSs n ss++post):=by
   cases ss with
   | nil=>exact hp.step
   | cons s2 ss=>
    obtain⟨inner,x,w,rfl,_⟩:=hss s2 (by simp)
    intro c hc;have:tSs n (stepD (wayS inner) (S x) w::ss)++post=tS (tW n) (stepD (wayS inner) (S x) w)++(tSs n ss++post):=by simp[tSs]
    rw[this,tS_head] at hc;cases hc;simp
  unfold g_Reader_read_steps;simp only[c47];rw[sSeq_nx (ρ':=[some (R (pre++tS (tW n) s) (tSs n ss++post)),some (.lst [s])]) (setOM1 (methM n_step (hs s pre _ (hss s zD) hsp hb)))];rw[sSeq_nx (ρ':=[some (R (pre++tS (tW n) s++tSs n ss) post),some (.lst ([s]++ss))]) (show sWhile 1000000 _ _ _=_ from steps_while hs hp 1000000 ss [s] _ (by simp at h3;omega) (by simp at h3 ⊢;omega) (fun t ht=>hss t (zB _ ht)) (by simp at hb ⊢;omega))]
  show some (D.lst ([s]++ss),R (pre++tS (tW n) s++tSs n ss) post)=_;simp[tSs]
end
end K15
end
noncomputable section
namespace K15
open PySem L2
theorem mark_lt (one:Bool):markN one<128:=by cases one<;>decide
theorem mark_is (one:Bool):markN one=38∨markN one=43:=by cases one<;>simp[markN]
theorem tab_mark (one:Bool):oTab tab_KINDS (.str (S [markN one]))=some (.str (kindS one)):=by
 have h:tab_KINDS.lookup (S [markN one])=some (kindS one):=by cases one<;>decide +kernel
 simp only[oTab,h,zT]
theorem in_kinds (one:Bool):(tab_KINDS.lookup (S [markN one])).isSome=true:=by cases one<;>decide +kernel
theorem notin_kinds {c:Nat}(h:c≠38) (h2:c≠43):(tab_KINDS.lookup (S [c])).isSome=false:=by
 have e1:(S [c]==Str.ofString "&")=false:=by rw[show Str.ofString "&" = S [38] by decide +kernel,S_eq];simpa using h
 have e2:(S [c]==Str.ofString "+")=false:=by rw[show Str.ofString "+" = S [43] by decide +kernel,S_eq];simpa using h2
 simp only[tab_KINDS,List.lookup_cons,e1,e2,List.lookup_nil]
 rfl
theorem appM2 {f:DM}{r r':Option D}{ds:List D}{d:D}{v v':Option D}{ρ ρ':DEnv}(h:f (r::v::some (.lst ds)::ρ)=some (d,r'::v'::some (.lst ds)::ρ')) (hl:ds.length<bigE):sAppM 2 f (r::v::some (.lst ds)::ρ)=some (.nx (r'::v'::some (.lst (ds++[d]))::ρ')):=by
 unfold sAppM;have e1:lstAt 2 (r::v::some (.lst ds)::ρ)=some ds:=rfl;have e2:lstAt 2 (r'::v'::some (.lst ds)::ρ')=some ds:=rfl;simp only[e1,h,e2,zA];rw[if_pos hl];rfl
noncomputable abbrev sepT (n m:Nat) (ws:List D):List Nat:=(ws.map fun w=>[32,m,32]++tW n w).flatten
noncomputable section
variable {Fs Fp Fw Fl Fh:List D→Option (D×D)}{n:Nat}
theorem mark_set {one:Bool}{pre rest:List Nat}{ρ:DEnv}(hb:pre.length+(markN one::rest).length≤big) :
  sSetM 1 (m1 (oTab tab_KINDS) (mMeth (Str.ofString "Reader") (Str.ofString "read_mark") F_Reader_read_mark 0 aN)) (some (R pre (markN one::rest))::ρ)=some (.nx ((some (R (pre++[markN one]) rest)::ρ).set 1 (some (.str (kindS one))))):=by
 unfold sSetM m1;rw[methM n_mark (mark_ok (mark_is one) hb)];simp only[zA,tab_mark,zT]
theorem short0 {one:Bool}{pre post:List Nat}(hb:pre.length+(markN one::41::post).length≤big) :
  runC 1 3 0 (g_Reader_read_short_list Fs Fp Fw Fl Fh) [R pre (markN one::41::post)]=some (.tup [.str (kindS one),.lst []],R (pre++[markN one,41]) post):=by
 show (g_Reader_read_short_list Fs Fp Fw Fl Fh [some (R pre (markN one::41::post)),none,none]).bind (outC 0)=_;unfold g_Reader_read_short_list;simp only[c32,c41];have hb1:(pre++[markN one]).length+(41::post).length≤big:=by simp at hb ⊢;omega
 rw[sSeq_nx (mark_set hb)];rw[sSeq_nx (ρ':=[some (R (pre++[markN one]) (41::post)),some (.str (kindS one)),some (.lst [])]) rfl];rw[sSeq_nx (ρ':=[some (R (pre++[markN one]) (41::post)),some (.str (kindS one)),some (.lst [])]) (by rw[sIf_f (by rw[tAhEq hb1];rfl)];rfl)]
 rw[sSeq_nx (pass1 (by decide) hb1)]
 show some (D.tup [.str (kindS one),.lst []],R (pre++[markN one]++[41]) post)=_;simp
theorem short1 (hw:WParse Fw n){one:Bool}{w:D}{pre post:List Nat}(hww:WqW n w) (hb:pre.length+(markN one::32::tW n w++41::post).length≤big) :
  runC 1 3 0 (g_Reader_read_short_list Fs Fp Fw Fl Fh) [R pre (markN one::32::tW n w++41::post)]=some (.tup [.str (kindS one),.lst [w]],R (pre++(markN one::32::tW n w++[41])) post):=by
 show (g_Reader_read_short_list Fs Fp Fw Fl Fh [some (R pre (markN one::32::(tW n w++41::post))),none,none]).bind (outC 0)=_;unfold g_Reader_read_short_list;simp only[c32,c41];have hb0:pre.length+(markN one::32::(tW n w++41::post)).length≤big:=by simpa using hb
 have hb1:(pre++[markN one]).length+(32::(tW n w++41::post)).length≤big:=by simp at hb ⊢;omega
 have hb2:(pre++[markN one]++[32]).length+(tW n w++41::post).length≤big:=by simp at hb ⊢;omega
 have hb3:(pre++[markN one]++[32]++tW n w).length+(41::post).length≤big:=by simp at hb ⊢;omega
 rw[sSeq_nx (mark_set hb0)];rw[sSeq_nx (ρ':=[some (R (pre++[markN one]) (32::(tW n w++41::post))),some (.str (kindS one)),some (.lst [])]) rfl];rw[sSeq_nx (ρ':=[some (R (pre++[markN one]++[32]++tW n w) (41::post)),some (.str (kindS one)),some (.lst ([]++[w]))]) (by
  rw[sIf_t (by rw[tAhEq hb1];rfl),sSeq_nx (pass1 (by decide) hb1)]
  exact appM2 (methM n_wish (hw w _ _ hww (fun c z=>by cases z;simp) hb2)) (by rw[bigE_eq];decide))]
 rw[sSeq_nx (pass1 (by decide) hb3)]
 show some (D.tup [.str (kindS one),.lst ([]++[w])],R (pre++[markN one]++[32]++tW n w++[41]) post)=_;simp
theorem sep_head {m:Nat}{ws:List D}{post:List Nat}:PostOk (sepT n m ws++41::post):=by
 intro c hc;cases ws with
 | nil=>cases hc;simp
 | cons w ws=>cases hc;simp
theorem list_while (hw:WParse Fw n){one:Bool}{post:List Nat}:∀ (k:Nat) (ws done:List D) (pre:List Nat),ws.length<k→done.length+ws.length≤100→(∀ w∈ws,WqW n w)→pre.length+(sepT n (markN one) ws++41::post).length≤big →
  whileD (tB1 (e2 oEq (eMethS (Str.ofString "Reader") (Str.ofString "ahead") F_Reader_ahead (eV 0) aN) (eK (.str (S [32]))))) (b_Reader_read_list_1 Fs Fp Fw Fl Fh) k [some (R pre (sepT n (markN one) ws++41::post)),some (.lst done),some (.str (S [markN one]))]=some (.nx [some (R (pre++sepT n (markN one) ws) (41::post)),some (.lst (done++ws)),some (.str (S [markN one]))]):=by
 intro k
 induction k with
 | zero=>intro ws done pre h;omega
 | succ k ih=>
  intro ws done pre hk hd hws hb;rw[whileD,tAhEq hb];cases ws with
  | nil=>simp[sepT]
  | cons w ws=>
   have e:sepT n (markN one) (w::ws)++41::post=[32,markN one,32]++(tW n w++(sepT n (markN one) ws++41::post)):=by simp[sepT]
   have hh:((sepT n (markN one) (w::ws)++41::post).head? == some 32)=true:=by rw[e];rfl
   rw[hh];simp only[zA,if_true];rw[e] at hb ⊢;have hb2:(pre++[32,markN one,32]).length+(tW n w++(sepT n (markN one) ws++41::post)).length≤big:=by simp at hb ⊢;omega
   have hadd:e2 oAdd (e2 oAdd (eK (.str (S [32]))) (eV 2)) (eK (.str (S [32]))) [some (R pre ([32,markN one,32]++(tW n w++(sepT n (markN one) ws++41::post)))),some (.lst done),some (.str (S [markN one]))]=some (.str (S [32,markN one,32])):=by
    unfold e2;show ((oAdd (.str (S [32])) (.str (S [markN one]))).bind fun x=>oAdd x (.str (S [32])))=_
    rw[addSS (by rw[bigE_eq];simp)]
    simp only[zA];rw[addSS (by rw[bigE_eq];simp)]
    rfl
   have hb1:b_Reader_read_list_1 Fs Fp Fw Fl Fh [some (R pre ([32,markN one,32]++(tW n w++(sepT n (markN one) ws++41::post)))),some (.lst done),some (.str (S [markN one]))]=some (.nx [some (R (pre++[32,markN one,32]++tW n w) (sepT n (markN one) ws++41::post)),some (.lst (done++[w])),some (.str (S [markN one]))]):=by
    unfold b_Reader_read_list_1;simp only[c32];rw[sSeq_nx (passS (x:=[32,markN one,32]) (by intro c hc;simp at hc;rcases hc with rfl|rfl|rfl;decide;exact mark_lt one;decide) hb hadd)]
    exact appM1 (methM n_wish (hw w _ _ (hws w zD) sep_head hb2)) (by rw[bigE_eq];omega)
   rw[hb1];simp only[zA];rw[ih ws (done++[w]) _ (by simp at hk;omega) (by simp at hd ⊢;omega) (fun t ht=>hws t (zB _ ht)) (by simp at hb ⊢;omega)]
   simp[sepT]
theorem list_parse (hw:WParse Fw n) (h0:∀ (one:Bool) (pre post:List Nat),pre.length+(markN one::41::post).length≤big→Fh [R pre (markN one::41::post)]=some (.tup [.str (kindS one),.lst []],R (pre++[markN one,41]) post))
  (h1:∀ (one:Bool) (w:D) (pre post:List Nat),WqW n w→pre.length+(markN one::32::tW n w++41::post).length≤big→Fh [R pre (markN one::32::tW n w++41::post)]=some (.tup [.str (kindS one),.lst [w]],R (pre++(markN one::32::tW n w++[41])) post))
  {one:Bool}{ws:List D}{pre post:List Nat}(h3:ws.length≤3) (hws:∀ w∈ws,WqW n w) (hb:pre.length+(listT (markN one) (ws.map (tW n))++post).length≤big) :
  Pz (runC 1 3 0 (g_Reader_read_list Fs Fp Fw Fl Fh)) pre (listT (markN one) (ws.map (tW n))) post (.tup [.str (kindS one),.lst ws]):=by
 have inK:∀ (m:Nat) (r pre':List Nat) (ρ:DEnv),pre'.length+(m::r).length≤big→tB1 (e1 (oInT false tab_KINDS) (eMethS (Str.ofString "Reader") (Str.ofString "ahead") F_Reader_ahead (eV 0) aN)) (some (R pre' (m::r))::ρ)=some ((tab_KINDS.lookup (S [m])).isSome):=fun m r pre' ρ hb'=>by
  unfold tB1 e1;rw[aheadE hb']
  rfl
 show (g_Reader_read_list Fs Fp Fw Fl Fh [some (R pre (listT (markN one) (ws.map (tW n))++post)),none,none]).bind (outC 0)=_;unfold g_Reader_read_list;simp only[c40,c32,c41]
 match ws,h3,hws,hb with
 | [],_,_,hb=>
  have hb0:pre.length+(40::(markN one::41::post)).length≤big:=by simpa [listT] using hb
  have hb1:(pre++[40]).length+(markN one::41::post).length≤big:=by simp at hb0 ⊢;omega
  show ((sSeq _ _ [some (R pre (40::(markN one::41::post))),none,none]).bind (outC 0))=_;rw[sSeq_nx (pass1 (by decide) hb0)]
  have e:sIf (tB1 (e1 (oInT false tab_KINDS) (eMethS (Str.ofString "Reader") (Str.ofString "ahead") F_Reader_ahead (eV 0) aN))) (sRetM (mMeth (Str.ofString "Reader") (Str.ofString "read_short_list") Fh 0 aN)) sNil [some (R (pre++[40]) (markN one::41::post)),none,none]=some (.rm (.tup [.str (kindS one),.lst []]) [some (R (pre++[40]++[markN one,41]) post),none,none]):=by
   rw[sIf_t (by rw[inK _ _ _ _ hb1,in_kinds])]
   unfold sRetM;rw[methM n_short (h0 one _ _ hb1)]
   rfl
  unfold sSeq at e ⊢;rw[e];show some (D.tup [.str (kindS one),.lst []],R (pre++[40]++[markN one,41]) post)=_;simp[listT]
 | [w],_,hws,hb=>
  have hb0:pre.length+(40::(markN one::32::tW n w++41::post)).length≤big:=by simpa [listT] using hb
  have hb1:(pre++[40]).length+(markN one::32::tW n w++41::post).length≤big:=by simp at hb0 ⊢;omega
  have e0:listT (markN one) ([w].map (tW n))++post=40::(markN one::32::tW n w++41::post):=by simp[listT]
  rw[e0,sSeq_nx (pass1 (by decide) hb0)]
  have e:sIf (tB1 (e1 (oInT false tab_KINDS) (eMethS (Str.ofString "Reader") (Str.ofString "ahead") F_Reader_ahead (eV 0) aN))) (sRetM (mMeth (Str.ofString "Reader") (Str.ofString "read_short_list") Fh 0 aN)) sNil [some (R (pre++[40]) (markN one::32::tW n w++41::post)),none,none]=some (.rm (.tup [.str (kindS one),.lst [w]]) [some (R (pre++[40]++(markN one::32::tW n w++[41])) post),none,none]):=by
   rw[sIf_t (by rw[show markN one::32::tW n w++41::post=markN one::(32::(tW n w++41::post)) from rfl,inK _ _ _ _ (by simp at hb1 ⊢;omega),in_kinds])]
   unfold sRetM;rw[methM n_short (h1 one w _ _ (hws w zD) hb1)]
   rfl
  unfold sSeq at e ⊢;rw[e];show some (D.tup [.str (kindS one),.lst [w]],R (pre++[40]++(markN one::32::tW n w++[41])) post)=_;simp[listT]
 | w::w2::ws,h3,hws,hb=>
  have e0:listT (markN one) ((w::w2::ws).map (tW n))++post=40::(tW n w++32::markN one::32::(tW n w2++(sepT n (markN one) ws++41::post))):=by simp[listT,joinL_flat,sepT,Function.comp_def]
  have eT:listT (markN one) ((w::w2::ws).map (tW n))=40::(tW n w++32::markN one::32::(tW n w2++(sepT n (markN one) ws++[41]))):=by simp[listT,joinL_flat,sepT,Function.comp_def]
  rw[e0] at hb ⊢;have hb1:(pre++[40]).length+(tW n w++32::markN one::32::(tW n w2++(sepT n (markN one) ws++41::post))).length≤big:=by simp at hb ⊢;omega
  have hb2:(pre++[40]++tW n w).length+(32::markN one::32::(tW n w2++(sepT n (markN one) ws++41::post))).length≤big:=by simp at hb ⊢;omega
  have hb3:(pre++[40]++tW n w++[32]).length+(markN one::32::(tW n w2++(sepT n (markN one) ws++41::post))).length≤big:=by simp at hb ⊢;omega
  have hb4:(pre++[40]++tW n w++[32]++[markN one]).length+(32::(tW n w2++(sepT n (markN one) ws++41::post))).length≤big:=by simp at hb ⊢;omega
  have hb5:(pre++[40]++tW n w++[32]++[markN one]++[32]).length+(tW n w2++(sepT n (markN one) ws++41::post)).length≤big:=by simp at hb ⊢;omega
  have hb6:(pre++[40]++tW n w++[32]++[markN one]++[32]++tW n w2).length+(sepT n (markN one) ws++41::post).length≤big:=by simp at hb ⊢;omega
  have hb7:(pre++[40]++tW n w++[32]++[markN one]++[32]++tW n w2++sepT n (markN one) ws).length+(41::post).length≤big:=by simp at hb ⊢;omega
  have hw1:=hws w (by simp)
  have hw2:=hws w2 (by simp)
  rw[sSeq_nx (pass1 (by decide) hb)]
  obtain⟨c,r,ec,hc⟩:=tW_head hw1;have hcn:c≠38∧c≠43:=by rcases hc with ⟨z,_⟩|⟨z|z|z,_⟩<;>omega
  rw[sSeq_nx (ρ':=[some (R (pre++[40]) (tW n w++32::markN one::32::(tW n w2++(sepT n (markN one) ws++41::post)))),none,none]) (by
   rw[sIf_f (by rw[ec] at hb1 ⊢;rw[List.cons_append,inK _ _ _ _ (by simpa using hb1),notin_kinds hcn.1 hcn.2])];rfl)]
  rw[sSeq_nx (ρ':=[some (R (pre++[40]++tW n w) (32::markN one::32::(tW n w2++(sepT n (markN one) ws++41::post)))),some (.lst [w]),none]) (setOM1 (i:=1) (methM n_wish (hw w _ _ hw1 (fun c z=>by cases z;simp) hb1)))]
  rw[sSeq_nx (ρ':=[some (R (pre++[40]++tW n w++[32]) (markN one::32::(tW n w2++(sepT n (markN one) ws++41::post)))),some (.lst [w]),none]) (pass1 (by decide) hb2)]
  rw[sSeq_nx (ρ':=[some (R (pre++[40]++tW n w++[32]++[markN one]) (32::(tW n w2++(sepT n (markN one) ws++41::post)))),some (.lst [w]),some (.str (S [markN one]))]) (by unfold sSetM;rw[methM n_mark (mark_ok (mark_is one) hb3)];rfl)]
  rw[sSeq_nx (pass1 (by decide) hb4)]
  rw[sSeq_nx (appM1 (methM n_wish (hw w2 _ _ hw2 sep_head hb5)) (by rw[bigE_eq];simp))]
  rw[sSeq_nx (ρ':=[some (R (pre++[40]++tW n w++[32]++[markN one]++[32]++tW n w2++sepT n (markN one) ws) (41::post)),some (.lst ([w]++[w2]++ws)),some (.str (S [markN one]))]) (show sWhile 1000000 _ _ _=_ from list_while hw 1000000 ws ([w]++[w2]) _ (by simp at h3;omega) (by simp at h3 ⊢;omega) (fun t ht=>hws t (by simp[ht])) hb6)]
  rw[sSeq_nx (pass1 (by decide) hb7)]
  rw[eT];have e1:eTup (aC (e1 (oTab tab_KINDS) (eV 2)) (aC (eV 1) aN)) [some (R (pre++[40]++tW n w++[32]++[markN one]++[32]++tW n w2++sepT n (markN one) ws++[41]) post),some (.lst ([w]++[w2]++ws)),some (.str (S [markN one]))]=some (.tup [.str (kindS one),.lst (w::w2::ws)]):=by unfold eTup aC e1;show ((Option.bind ((oTab tab_KINDS (.str (S [markN one]))).bind _) _))=_;rw[tab_mark];rfl
  unfold sRetM mP;rw[e1];show some (D.tup [.str (kindS one),.lst (w::w2::ws)],R (pre++[40]++tW n w++[32]++[markN one]++[32]++tW n w2++sepT n (markN one) ws++[41]) post)=_;simp
end
end K15
end
noncomputable section
namespace K15
open PySem L2
noncomputable section
variable {Fs Fp Fw Fl Fh:List D→Option (D×D)}{n:Nat}
theorem wEq {pre rest:List Nat}{c m:Nat}:tB1 (e2 oEq (eV 1) (eK (.str (S [m])))) [some (R pre rest),some (.str (S [c]))]=some (c==m):=by
 show ((oEq (.str (S [c])) (.str (S [m]))).bind _)=_;rw[eqS,S_eq];simp
theorem wish_begin {c : Nat} {pre rest : List Nat} (hb : pre.length + (c :: rest).length ≤ big) : runC 1 2 0 (g_Reader_read_wish Fs Fp Fw Fl Fh) [R pre (c :: rest)] =
    (sSeq (sIf (tB1 (e2 oEq (eV 1) (eK (.str (S [47])))))
     (sRetM (mTup (mAC (mP (eK (.str (Str.ofString "has")))) (mAC (mMeth (Str.ofString "Reader") (Str.ofString "read_steps") Fs 0 aN) mAN))))
     sNil)
    (sSeq (sIf (tB1 (e2 oEq (eV 1) (eK (.str (S [40])))))
     (sRetM (mMeth (Str.ofString "Reader") (Str.ofString "read_list") Fl 0 aN))
     sNil)
    (sSeq (sIf (tB1 (e2 oEq (eV 1) (eK (.str (S [34])))))
     (sRetM (mTup (mAC (mP (eK (.str (Str.ofString "text")))) (mAC (mMeth (Str.ofString "Reader") (Str.ofString "read_text") F_Reader_read_text 0 aN) mAN))))
     sNil)
    (sSeq (sExprM (mMeth (Str.ofString "Reader") (Str.ofString "pass_over") F_Reader_pass_over 0 (aC (eK (.str (Str.ofString "any"))) aN)))
    (sRetM (mP (eTup (aC (eK (.str (Str.ofString "any"))) aN))))))) [some (R pre (c :: rest)), some (.str (S [c]))]).bind (outC 0) := by
  show (g_Reader_read_wish Fs Fp Fw Fl Fh [some (R pre (c :: rest)), none]).bind (outC 0) = _
  unfold g_Reader_read_wish
  simp only [c47, c40, c34]
  rw [sSeq_nx (ρ' := [some (R pre (c :: rest)), some (.str (S [c]))]) (by unfold sSet; rw [aheadE hb]; rfl)]
theorem wish_any {pre post:List Nat}(hb:pre.length+([97,110,121]++post).length≤big):Pz (runC 1 2 0 (g_Reader_read_wish Fs Fp Fw Fl Fh)) pre [97,110,121] post wAny:=by
 have e0:[97,110,121]++post=97::110::121::post:=by simp
 unfold Pz;rw[e0];rw[wish_begin (by simpa using hb)]
 have st:∀ {g h:DG}{m:Nat},(97==m)=false→sSeq (sIf (tB1 (e2 oEq (eV 1) (eK (.str (S [m]))))) g sNil) h [some (R pre (97::110::121::post)),some (.str (S [97]))]=h [some (R pre (97::110::121::post)),some (.str (S [97]))]:=fun {g h m} hm=>by rw[sSeq_nx (ρ':=[some (R pre (97::110::121::post)),some (.str (S [97]))]) (by rw[sIf_f (by rw[wEq,hm])];rfl)]
 rw[st (m:=47) (by decide),st (m:=40) (by decide),st (m:=34) (by decide)]
 rw[sSeq_nx (ρ':=[some (R (pre++[97,110,121]) post),some (.str (S [97]))]) (show sExprM (mMeth cR (Str.ofString "pass_over") F_Reader_pass_over 0 (aC (eK (.str (Str.ofString "any"))) aN)) [some (R pre (97::110::121::post)),some (.str (S [97]))]=_ from passS (x:=[97,110,121]) (f:=eK (.str (Str.ofString "any"))) (by intro c hc;simp at hc;omega) hb (by rw[cany];rfl))]
 rfl
theorem wish_text {x pre post:List Nat}(hx:TxL x) (hb:pre.length+(34::esc x++[34]++post).length≤big):Pz (runC 1 2 0 (g_Reader_read_wish Fs Fp Fw Fl Fh)) pre (34::esc x++[34]) post (wText (S x)):=by
 obtain⟨h1,h2⟩:=txt_sign hx;have hp:=text_parse (pre:=pre) (post:=post) h1 hb (by omega)
 have e0:34::esc x++[34]++post=34::(esc x++[34]++post):=by simp
 unfold Pz;rw[e0] at hb ⊢;rw[wish_begin hb];have st:∀ {g h:DG}{m:Nat},(34==m)=false→sSeq (sIf (tB1 (e2 oEq (eV 1) (eK (.str (S [m]))))) g sNil) h [some (R pre (34::(esc x++[34]++post))),some (.str (S [34]))]=h [some (R pre (34::(esc x++[34]++post))),some (.str (S [34]))]:=fun {g h m} hm=>by rw[sSeq_nx (ρ':=[some (R pre (34::(esc x++[34]++post))),some (.str (S [34]))]) (by rw[sIf_f (by rw[wEq,hm])];rfl)]
 rw[st (m:=47) (by decide),st (m:=40) (by decide)]
 have e:sIf (tB1 (e2 oEq (eV 1) (eK (.str (S [34]))))) (sRetM (mTup (mAC (mP (eK (.str (Str.ofString "text")))) (mAC (mMeth (Str.ofString "Reader") (Str.ofString "read_text") F_Reader_read_text 0 aN) mAN)))) sNil [some (R pre (34::(esc x++[34]++post))),some (.str (S [34]))]
   = some (.rm (wText (S x)) [some (R (pre++(34::esc x++[34])) post),some (.str (S [34]))]):=by
  rw[sIf_t (by rw[wEq];rfl)]
  have hm:=methM (ρ:=[some (.str (S [34]))]) n_text hp;unfold sRetM mTup mAC mP mAN;simp only[eK,zT,zA];rw[show (34::(esc x++[34]++post))=34::esc x++[34]++post from by simp,hm]
  rfl
 unfold sSeq at e ⊢;rw[e]
 rfl
theorem wish_has (hs:SsParse Fs n){ss:List D}{pre post:List Nat}(h1:1≤ss.length) (h3:ss.length≤3) (hss:∀ s∈ss,WqS n s) (hp:PostOk post) (hb:pre.length+(tSs n ss++post).length≤big) :
  Pz (runC 1 2 0 (g_Reader_read_wish Fs Fp Fw Fl Fh)) pre (tSs n ss) post (wHas ss):=by
 have hq:=hs ss pre post h1 h3 hss hp hb;obtain⟨r,er⟩:∃ r,tSs n ss++post=47::r:=by
  cases ss with
  | nil=>simp at h1
  | cons s ss=>
   obtain⟨inner,x,w,rfl,_⟩:=hss s zD;have e:tSs n (stepD (wayS inner) (S x) w::ss)++post=tS (tW n) (stepD (wayS inner) (S x) w)++(tSs n ss++post):=by simp[tSs]
   have:=tS_head (f:=tW n) (inner:=inner) (x:=x) (w:=w) (tSs n ss++post);rw[e];cases e2:tS (tW n) (stepD (wayS inner) (S x) w)++(tSs n ss++post) with
   | nil=>rw[e2] at this;cases this
   | cons c r=>rw[e2] at this;cases this;exact⟨r,rfl⟩
 have hq:Fs [R pre (tSs n ss++post)]=some (.lst ss,R (pre++tSs n ss) post):=hq;show runC 1 2 0 (g_Reader_read_wish Fs Fp Fw Fl Fh) [R pre (tSs n ss++post)]=_;rw[er] at hb hq ⊢;rw[wish_begin hb];have e:sIf (tB1 (e2 oEq (eV 1) (eK (.str (S [47]))))) (sRetM (mTup (mAC (mP (eK (.str (Str.ofString "has")))) (mAC (mMeth (Str.ofString "Reader") (Str.ofString "read_steps") Fs 0 aN) mAN)))) sNil [some (R pre (47::r)),some (.str (S [47]))]
   = some (.rm (wHas ss) [some (R (pre++tSs n ss) post),some (.str (S [47]))]):=by
  rw[sIf_t (by rw[wEq];rfl)]
  have hm:=methM (ρ:=[some (.str (S [47]))]) n_steps hq;unfold sRetM mTup mAC mP mAN;simp only[eK,zT,zA];rw[hm]
  rfl
 unfold sSeq at e ⊢;rw[e]
 rfl
theorem wish_list {T pre post:List Nat}{w:D}(hq:Fl [R pre (40::T++post)]=some (w,R (pre++40::T) post)) (hb:pre.length+(40::T++post).length≤big) :
  Pz (runC 1 2 0 (g_Reader_read_wish Fs Fp Fw Fl Fh)) pre (40::T) post w:=by
 unfold Pz;rw[List.cons_append] at hb hq ⊢;rw[wish_begin hb];rw[sSeq_nx (ρ':=[some (R pre (40::(T++post))),some (.str (S [40]))]) (by rw[sIf_f (by rw[wEq];rfl)];rfl)]
 have e:sIf (tB1 (e2 oEq (eV 1) (eK (.str (S [40]))))) (sRetM (mMeth (Str.ofString "Reader") (Str.ofString "read_list") Fl 0 aN)) sNil [some (R pre (40::(T++post))),some (.str (S [40]))]=some (.rm w [some (R (pre++40::T) post),some (.str (S [40]))]):=by
  rw[sIf_t (by rw[wEq];rfl)]
  unfold sRetM;rw[methM n_list hq]
  rfl
 unfold sSeq at e ⊢;rw[e]
 rfl
end
theorem wish_parse:∀ (n f:Nat),3*n+1≤f→WParse (Fr_Reader_read_wish f) n
 | 0,f,hf=>by
  intro w pre post hw hp hb;cases f with
  | zero=>omega
  | succ f=>
   rw[Fr_Reader_read_wish];rcases hw with rfl|⟨x,hx,rfl⟩
   ·exact wish_any hb
   ·rw[tW_text] at hb ⊢;exact wish_text hx hb
 | n+1,f,hf=>by
  intro w pre post hw hp hb;cases f with
  | zero=>omega
  | succ f=>
   rw[Fr_Reader_read_wish];rcases hw with rfl|⟨x,hx,rfl⟩|⟨ss,rfl,h1,h3,hss⟩|⟨one,ws,rfl,h3,hws⟩
   ·rw[tW_any] at hb ⊢;exact wish_any hb
   ·rw[tW_text] at hb ⊢;exact wish_text hx hb
   ·rw[tW_has] at hb ⊢;refine wish_has ?_ h1 h3 hss hp hb;cases f with
    | zero=>omega
    | succ f=>
     rw[Fr_Reader_read_steps];refine steps_parse ?_;cases f with
     | zero=>omega
     | succ f=>rw[Fr_Reader_read_step];exact step_parse (wish_parse n f (by omega))
   ·rw[tW_lst] at hb ⊢;cases f with
    | zero=>omega
    | succ f=>
     have key:Pz (Fr_Reader_read_list (f+1)) pre (listT (markN one) (ws.map (tW n))) post (.tup [.str (kindS one),.lst ws]):=by
      rw[Fr_Reader_read_list];cases f with
      | zero=>omega
      | succ f=>
       refine list_parse (wish_parse n (f+1) (by omega)) (fun one pre post hb =>?_) (fun one w pre post hww hb =>?_) h3 hws hb
       ·rw[Fr_Reader_read_short_list];exact short0 hb
       ·rw[Fr_Reader_read_short_list];exact short1 (wish_parse n f (by omega)) hww hb
     obtain⟨T,eT⟩:∃ T,listT (markN one) (ws.map (tW n))=40::T:=by
      cases ws.map (tW n) with
      | nil=>exact⟨_,rfl⟩
      | cons x r=>cases r<;>exact⟨_,rfl⟩
     rw[eT] at hb key ⊢;exact wish_list key hb
theorem steps_all (n f:Nat) (hf:3*n+3≤f):SsParse (Fr_Reader_read_steps f) n:=by
 cases f with
 | zero=>omega
 | succ f=>
  rw[Fr_Reader_read_steps];refine steps_parse ?_;cases f with
  | zero=>omega
  | succ f=>rw[Fr_Reader_read_step];exact step_parse (wish_parse n f (by omega))
end K15
end
noncomputable section
namespace K15
open PySem L2
theorem read_ok {n:Nat}{ss:List D}(hn:n≤5) (h1:1≤ss.length) (h3:ss.length≤3) (hss:∀ s∈ss,WqS n s) (hb:(tSs n ss).length≤big):F_read [.str (S (tSs n ss))]=some (.lst ss):=by
 have hi:eMake (Str.ofString "Reader") F_Reader___init__ (aC (eV 0) aN) [some (.str (S (tSs n ss))),none,none]=some (R [] (tSs n ss)):=by
  have e:F_Reader___init__ [.ins cR [] [],.str (S (tSs n ss))]=some (.non,R [] (tSs n ss)):=by
   show (g_Reader___init__ [some (.ins cR [] []),some (.str (S (tSs n ss)))]).bind (outC 0)=_;have i1:insAt cR 0 [some (.ins cR [] []),some (.str (S (tSs n ss)))]=some ([],[]):=by
    show (if cR=cR then some (([]:List Str),([]:List D)) else none)=_
    exact if_pos rfl
   have i2:insAt cR 0 [some (.ins cR [kL] [.str (S (tSs n ss))]),some (.str (S (tSs n ss)))]=some ([kL],[.str (S (tSs n ss))]):=by
    show (if cR=cR then some ([kL],[D.str (S (tSs n ss))]) else none)=_
    exact if_pos rfl
   have hne:¬ kL=kA:=by decide +kernel
   unfold g_Reader___init__;rw[sSeq_nx (ρ':=[some (.ins cR [kL] [.str (S (tSs n ss))]),some (.str (S (tSs n ss)))]) (by
    unfold sFldD;rw[i1]
    rfl)]
   have e2:sFldD 0 (Str.ofString "Reader") (Str.ofString "at") (eK (.int 0)) [some (.ins cR [kL] [.str (S (tSs n ss))]),some (.str (S (tSs n ss)))]=some (.nx [some (R [] (tSs n ss)),some (.str (S (tSs n ss)))]):=by
    unfold sFldD;rw[i2];simp only[eK,zA,putD,hne,if_false]
    rfl
   rw[e2]
   rfl
  have ea:aC (eV 0) aN [some (.str (S (tSs n ss))),none,none]=some [.str (S (tSs n ss))]:=rfl;unfold eMake;rw[ea];simp only[zA];rw[e]
  rfl
 have hq:=steps_all n 20 (by omega) ss [] [] h1 h3 hss (fun c z=>by cases z) (by simpa using hb)
 have hq:F_Reader_read_steps [R [] (tSs n ss)]=some (.lst ss,R (tSs n ss) []):=by have:=hq;unfold Pz at this;rw[List.append_nil,List.nil_append] at this;exact this
 show (g_read [some (.str (S (tSs n ss))),none,none]).bind outD=_;unfold g_read;rw[sSeq_nx (ρ':=[some (.str (S (tSs n ss))),some (R [] (tSs n ss)),none]) (by unfold sSet;rw[hi];rfl)]
 have hm:mMeth (Str.ofString "Reader") (Str.ofString "read_steps") F_Reader_read_steps 1 aN [some (.str (S (tSs n ss))),some (R [] (tSs n ss)),none]=some (.lst ss,[some (.str (S (tSs n ss))),some (R (tSs n ss) []),none]):=by
  have i3:insAt (Str.ofString "Reader") 1 [some (.str (S (tSs n ss))),some (R [] (tSs n ss)),none]=some ([kL,kA],[.str (S ([]++tSs n ss)),.int (([]:List Nat).length:Int)]):=by
   show (if cR=cR then some ([kL,kA],[D.str (S ([]++tSs n ss)),D.int (([]:List Nat).length:Int)]) else none)=_
   exact if_pos rfl
  unfold mMeth;rw[i3];simp only[zA];rw[if_pos n_steps];simp only[aN,zA];show (F_Reader_read_steps [R [] (tSs n ss)]).map _=_;rw[hq]
  rfl
 rw[sSeq_nx (ρ':=[some (.str (S (tSs n ss))),some (R (tSs n ss) []),some (.lst ss)]) (by unfold sSetM;rw[hm];rfl)]
 have t:tB1 (e2 oLt (eFld (Str.ofString "Reader") (Str.ofString "at") (eV 1)) (eCall oLen (aC (eV 0) aN))) [some (.str (S (tSs n ss))),some (R (tSs n ss) []),some (.lst ss)]=some false:=by
  unfold tB1 e2;rw[fldA (f:=eV 1) rfl];have:eCall oLen (aC (eV 0) aN) [some (.str (S (tSs n ss))),some (R (tSs n ss) []),some (.lst ss)]=some (.int ((tSs n ss).length:Int)):=by
   show (if (S (tSs n ss)).length≤bigE then some (D.int ((S (tSs n ss)).length:Int)) else none)=_
   rw[S_len,if_pos (yB hb big_le)]
  rw[this];simp only[zA,ltI];simp
 rw[sSeq_nx (ρ':=[some (.str (S (tSs n ss))),some (R (tSs n ss) []),some (.lst ss)]) (by rw[sIf_f t];rfl)]
 rfl
end K15
end
noncomputable section
set_option maxHeartbeats 1000000
namespace K15
open PySem L2
noncomputable def LB:Nat→Nat
 | 0=>10
 | n+1=>3*(LB n+20)+10
theorem esc_len (x:List Nat):(esc x).length≤2*x.length:=by
 induction x with
 | nil=>simp[esc]
 | cons c x ih=>
  have:(esc1 c).length≤2:=by unfold esc1;split;simp;split<;>simp
  simp[esc] at ih ⊢;omega
theorem sum_len {ls:List (List Nat)}{b:Nat}(h:∀ l∈ls,l.length≤b):sumLen ls≤ls.length*b:=by
 induction ls with
 | nil=>simp[sumLen]
 | cons l ls ih=>
  have h1:=h l zD;have h2:=ih fun x hx=>h x (zB _ hx)
  simp[sumLen,Nat.add_mul] at h2 ⊢;omega
theorem flat_len (ls:List (List Nat)):ls.flatten.length=sumLen ls:=by simp[sumLen,List.length_flatten]
theorem listT_len {m:Nat}{ls:List (List Nat)}:(listT m ls).length≤sumLen ls+ls.length*3+4:=by
 match ls with
 | []=>simp[listT]
 | [x]=>simp[listT,sumLen]
 | x::y::r=>have:=joinL_len [32,m,32] (x::y::r);simp[listT] at this ⊢;omega
theorem nm_len {x:List Nat}(h:NmL x):x.length≤10:=by
 rcases h with rfl|⟨_,h,_⟩
 ·simp
 ·exact h
theorem tS_len {n:Nat}{s:D}{b:Nat}(hw:∀ w,WqW n w→(tW n w).length≤b) (h:WqS n s):(tS (tW n) s).length≤b+14:=by
 obtain⟨inner,x,w,rfl,hx,hww⟩:=h;rw[tS_step];have h1:=nm_len hx;have h2:=hw w hww;have h3:(slash inner).length≤2:=by cases inner<;>simp[slash]
 split<;>simp<;>omega
theorem tW_len:∀ (n:Nat) (w:D),WqW n w→(tW n w).length≤LB n
 | 0,w,h=>by
  rcases h with rfl|⟨x,hx,rfl⟩
  ·rw[tW_any];decide
  ·rw[tW_text];have:=esc_len x;have:=(txt_sign hx).2;simp[LB];omega
 | n+1,w,h=>by
  have hn:10≤LB (n+1):=by simp[LB]
  rcases h with rfl|⟨x,hx,rfl⟩|⟨ss,rfl,_,h3,hss⟩|⟨one,ws,rfl,h3,hws⟩
  ·rw[tW_any];simp;omega
  ·rw[tW_text];have:=esc_len x;have:=(txt_sign hx).2;simp;omega
  ·rw[tW_has];unfold tSs;rw[flat_len];have:=sum_len (ls:=ss.map (tS (tW n))) (b:=LB n+14) fun l hl=>by obtain⟨s,hs,rfl⟩:=List.mem_map.mp hl;exact tS_len (tW_len n) (hss s hs)
   rw[zH] at this;have h4:ss.length*(LB n+14)≤3*(LB n+14):=Nat.mul_le_mul_right _ h3;simp only[LB];omega
  ·rw[tW_lst];have h5:=listT_len (m:=markN one) (ls:=ws.map (tW n));have:=sum_len (ls:=ws.map (tW n)) (b:=LB n) fun l hl=>by obtain⟨s,hs,rfl⟩:=List.mem_map.mp hl;exact tW_len n s (hws s hs)
   rw[zH] at this h5;have h4:ws.length*LB n≤3*LB n:=Nat.mul_le_mul_right _ h3;simp only[LB];omega
theorem tSs_len {n:Nat}{ss:List D}(h3:ss.length≤3) (hss:∀ s∈ss,WqS n s):sumLen (ss.map (tS (tW n)))≤3*(LB n+14):=by
 have:=sum_len (ls:=ss.map (tS (tW n))) (b:=LB n+14) fun l hl=>by obtain⟨s,hs,rfl⟩:=List.mem_map.mp hl;exact tS_len (tW_len n) (hss s hs)
 rw[zH] at this;have h4:ss.length*(LB n+14)≤3*(LB n+14):=Nat.mul_le_mul_right _ h3;omega
theorem LB3 {n:Nat}(h:n≤3):LB n≤1500:=by
 have:n=0∨n=1∨n=2∨n=3:=by omega
 rcases this with rfl|rfl|rfl|rfl<;>decide
theorem kEq2 {a k:Str}{b:D}{ρ:DEnv}:tB1 (e2 oEq (e2 oIx (eV 0) (eK (.int 0))) (eK (.str k))) (some (.tup [.str a,b])::ρ)=some (a==k):=rfl
theorem lcW {F:List D→Option D}{ws:List D}{t:D→List Nat}(h:∀ w∈ws,F [w]=some (.str (S (t w)))) (ρ:DEnv):lcD (none::ρ) (gN 0) tYes (eCall F (aC (eV 0) aN)) ws=some (ws.map fun w=>D.str (S (t w))):=
 lc_all (h:=fun w=>D.str (S (t w))) fun d hd=>⟨_,rfl,h d hd⟩
theorem ne_any_txt:(sTxt==Str.ofString "any")=false:=by decide +kernel
theorem ne_any_has:(sHas==Str.ofString "any")=false:=by decide +kernel
theorem ne_txt_has:(sHas==Str.ofString "text")=false:=by decide +kernel
theorem kd1 (one:Bool):(kindS one==Str.ofString "any")=false:=by cases one<;>decide +kernel
theorem kd2 (one:Bool):(kindS one==Str.ofString "text")=false:=by cases one<;>decide +kernel
theorem kd3 (one:Bool):(kindS one==Str.ofString "has")=false:=by cases one<;>decide +kernel
theorem tab_kind (one:Bool):oTab tab_MARKS (.str (kindS one))=some (.str (S [markN one])):=by
 have h:tab_MARKS.lookup (kindS one)=some (S [markN one]):=by cases one<;>decide +kernel
 simp only[oTab,h,zT]
theorem repl_ok {x:List Nat}(hx:TxL x){a:Str}{ρ:DEnv}:e1 (oRepl (Str.ofString "\"") (Str.ofString "\\q")) (e1 (oRepl (Str.ofString "\\") (Str.ofString "\\\\")) (e2 oIxT (eV 0) (eK (.int 1)))) (some (.tup [.str a,.str (S x)])::ρ)=some (.str (S (esc x))):=by
 have e:e2 oIxT (eV 0) (eK (.int 1)) (some (.tup [.str a,.str (S x)])::ρ)=some (.str (S x)):=rfl;have h3:=(txt_sign hx).2;have key:Txt.replace (Txt.replace (S x) (Str.ofString "\\") (Str.ofString "\\\\")) (Str.ofString "\"") (Str.ofString "\\q")=S (esc x)∧(Txt.replace (S x) (Str.ofString "\\") (Str.ofString "\\\\")).length≤1000000:=by simp only[TxL,texts8,zG,List.not_mem_nil,or_false] at hx;rcases hx with rfl|rfl|rfl|rfl|rfl|rfl|rfl|rfl<;>decide +kernel
 unfold e1;rw[e];simp only[zA,oRepl];rw[if_pos (by rw[S_len];omega)]
 simp only[zA,oRepl];rw[if_pos key.2,key.1]
noncomputable section
variable {Fh Fp Fw:List D→Option D}{n:Nat}
noncomputable abbrev ShW (F:List D→Option D) (n:Nat):Prop:=∀ w,WqW n w→F [w]=some (.str (S (tW n w)))
noncomputable abbrev ShS (F:List D→Option D) (n:Nat):Prop:=∀ s,WqS n s→F [s]=some (.str (S (tS (tW n) s)))
noncomputable abbrev ShQ (F:List D→Option D) (n:Nat):Prop:=∀ ss,ss.length≤3→(∀ s∈ss,WqS n s)→F [.lst ss]=some (.str (S (tSs n ss)))
theorem seq_f {t:DT}{g h:DG}{ρ:DEnv}(e:t ρ=some false):sSeq (sIf t g sNil) h ρ=h ρ:=by
 rw[sSeq_nx (ρ':=ρ) (by rw[sIf_f e];rfl)]
theorem seq_rt {t:DT}{f:DF}{h:DG}{ρ:DEnv}{d:D}(e:t ρ=some true) (ef:f ρ=some d):sSeq (sIf t (sRet f) sNil) h ρ=some (.rt d):=by
 have:sIf t (sRet f) sNil ρ=some (.rt d):=by rw[sIf_t e,sRet_eq ef]
 unfold sSeq;rw[this];rfl
theorem shown_ok (hn:n≤3) (hp:ShS Fp n):ShQ (runD 1 1 (g_shown Fh Fp Fw)) n:=by
 intro ss h3 hss;show (g_shown Fh Fp Fw [some (.lst ss)]).bind outD=_;have e1:fLC (iL (eV 0)) [none] (gN 0) tYes (eCall Fp (aC (eV 0) aN)) [some (.lst ss)]=some (ss.map fun s=>D.str (S (tS (tW n) s))):=
  fLC_eq (ds:=ss) rfl (by rw[bigE_eq];omega) (lcW (fun s hs=>hp s (hss s hs)) [])
 have e2':e2 oJoin (eK (.str (Str.ofString ""))) (eF (fLC (iL (eV 0)) [none] (gN 0) tYes (eCall Fp (aC (eV 0) aN)))) [some (.lst ss)]=some (.str (S (tSs n ss))):=by
  rw[e2_eq (x :=.str (S [])) (y :=.lst (ss.map fun s=>D.str (S (tS (tW n) s)))) (by rw[← c0];rfl) (by unfold eF;rw[e1];rfl)]
  have h:=joinD (sep:=[]) (ls:=ss.map (tS (tW n))) (by have:=tSs_len h3 hss;have:=LB3 hn;rw[bigE_eq];simp;omega)
  rw[List.map_map,joinL_nil_sep] at h;exact h
 unfold g_shown;rw[sRet_eq e2'];rfl
theorem shown_step_ok (hn:n≤3) (hw:ShW Fw n):ShS (runD 1 2 (g_shown_step Fh Fp Fw)) n:=by
 rintro s ⟨inner,x,w,rfl,hx,hww⟩;have hl:=nm_len hx;have hsl:(slash inner).length≤2:=by cases inner<;>simp[slash]
 have hwl:=tW_len n w hww;have hLB:=LB3 hn;have hbig:=bigE_eq;show (g_shown_step Fh Fp Fw [some (stepD (wayS inner) (S x) w),none]).bind outD=_;have e1:e2 oAdd (eIfE (tB1 (e2 oEq (e2 oIx (eV 0) (eK (.int 0))) (eK (.str (Str.ofString "own"))))) (eK (.str (Str.ofString "/"))) (eK (.str (Str.ofString "//")))) (e2 oIx (eV 0) (eK (.int 1))) [some (stepD (wayS inner) (S x) w),none]=some (.str (S (slash inner++x))):=by
  have t:tB1 (e2 oEq (e2 oIx (eV 0) (eK (.int 0))) (eK (.str (Str.ofString "own")))) [some (stepD (wayS inner) (S x) w),none]=some (wayS inner==Str.ofString "own"):=rfl;have e:eIfE (tB1 (e2 oEq (e2 oIx (eV 0) (eK (.int 0))) (eK (.str (Str.ofString "own"))))) (eK (.str (Str.ofString "/"))) (eK (.str (Str.ofString "//"))) [some (stepD (wayS inner) (S x) w),none]=some (.str (S (slash inner))):=by
   unfold eIfE;rw[t];cases inner
   ·rw[show (wayS false==Str.ofString "own")=true by decide +kernel]
    show some (D.str (Str.ofString "/"))=_;rw[c47];rfl
   ·rw[show (wayS true==Str.ofString "own")=false by decide +kernel]
    show some (D.str (Str.ofString "//"))=_;rw[show Str.ofString "//" = S [47,47] by decide +kernel];rfl
  rw[e2_eq e (y :=.str (S x)) rfl,addSS (by omega)]
 unfold g_shown_step;rw[sSeq_nx (ρ':=[some (stepD (wayS inner) (S x) w),some (.str (S (slash inner++x)))]) (by rw[sSet_eq e1];rfl)]
 rw[tS_step];obtain⟨c,r,ec,hc⟩:=tW_head hww;rcases hc with ⟨_,rfl⟩|⟨hc,ha⟩
 ·rw[seq_rt (d :=.str (S (slash inner++x))) rfl rfl];show some (D.str (S (slash inner++x)))=some (D.str (S (slash inner++x++[])));simp
 ·have t:tB1 (e2 oEq (e2 oIx (e2 oIx (eV 0) (eK (.int 2))) (eK (.int 0))) (eK (.str (Str.ofString "any")))) [some (stepD (wayS inner) (S x) w),some (.str (S (slash inner++x)))]=some false:=by
   have hk:∃ k b,w=.tup [.str k,b]∧(k==Str.ofString "any")=false:=by
    cases n with
    | zero=>
     rcases hww with rfl|⟨x,_,rfl⟩
     ·cases ha
     ·exact⟨_,_,rfl,ne_any_txt⟩
    | succ n=>
     rcases hww with rfl|⟨x,_,rfl⟩|⟨ss,rfl,_⟩|⟨one,ws,rfl,_⟩
     ·cases ha
     ·exact⟨_,_,rfl,ne_any_txt⟩
     ·exact⟨_,_,rfl,ne_any_has⟩
     ·exact⟨_,_,rfl,kd1 one⟩
   obtain⟨k,b,rfl,hk⟩:=hk;show some (k==Str.ofString "any")=_;rw[hk]
  rw[seq_f t];have eA:e2 oAdd (eV 1) (eK (.str (Str.ofString "["))) [some (stepD (wayS inner) (S x) w),some (.str (S (slash inner++x)))]=some (.str (S (slash inner++x++[91]))):=by rw[e2_eq (x :=.str (S (slash inner++x))) (y :=.str (S [91])) rfl (by rw[← c91];rfl),addSS (by simp;omega)]
  have eB:eCall Fw (aC (e2 oIx (eV 0) (eK (.int 2))) aN) [some (stepD (wayS inner) (S x) w),some (.str (S (slash inner++x)))]=some (.str (S (tW n w))):=hw w hww;rw[sRet_eq (d :=.str (S (slash inner++x++[91]++tW n w++[93]))) (by rw[e2_eq (x :=.str (S (slash inner++x++[91]++tW n w))) (y :=.str (S [93])) (by rw[e2_eq eA eB,addSS (by simp;omega)]) (by rw[← c93];rfl),addSS (by simp;omega)])]
  show some (D.str (S (slash inner++x++[91]++tW n w++[93])))=_;rw[ha];simp
theorem shown_wish_any:runD 1 4 (g_shown_wish Fh Fp Fw) [wAny]=some (.str (S [97,110,121])):=by
 show (g_shown_wish Fh Fp Fw [some wAny,none,none,none]).bind outD=_;unfold g_shown_wish;rw[seq_rt (d :=.str (S [97,110,121])) rfl (by rw[← cany];rfl)]
 rfl
theorem shown_wish_text {x:List Nat}(hx:TxL x):runD 1 4 (g_shown_wish Fh Fp Fw) [wText (S x)]=some (.str (S (34::esc x++[34]))):=by
 show (g_shown_wish Fh Fp Fw [some (wText (S x)),none,none,none]).bind outD=_;have hl:=esc_len x;have hx3:=(txt_sign hx).2;have hbig:=bigE_eq;unfold g_shown_wish;rw[seq_f (by rw[kEq2,ne_any_txt])]
 rw[seq_rt (d :=.str (S ([34]++esc x++[34]))) rfl (by rw[e2_eq (x :=.str (S ([34]++esc x))) (y :=.str (S [34])) (by rw[e2_eq (x :=.str (S [34])) (y :=.str (S (esc x))) (by rw[← c34];rfl) (repl_ok hx),addSS (by simp;omega)]) (by rw[← c34];rfl),addSS (by simp;omega)])]
 rfl
theorem shown_wish_ok (hn:n+1≤3) (hq:ShQ Fh n) (hw:ShW Fw n):ShW (runD 1 4 (g_shown_wish Fh Fp Fw)) (n+1):=by
 intro w hww;have hbig:=bigE_eq;rcases hww with rfl|⟨x,hx,rfl⟩|⟨ss,rfl,h1,h3,hss⟩|⟨one,ws,rfl,h3,hws⟩
 ·rw[tW_any];exact shown_wish_any
 ·rw[tW_text];exact shown_wish_text hx
 ·rw[tW_has];show (g_shown_wish Fh Fp Fw [some (wHas ss),none,none,none]).bind outD=_;unfold g_shown_wish;rw[seq_f (by rw[kEq2,ne_any_has]),seq_f (by rw[kEq2,ne_txt_has])]
  rw[seq_rt (d :=.str (S (tSs n ss))) (by rw[kEq2];simp) (hq ss h3 hss)]
  rfl
 ·rw[tW_lst];show (g_shown_wish Fh Fp Fw [some (.tup [.str (kindS one),.lst ws]),none,none,none]).bind outD=_;unfold g_shown_wish;rw[seq_f (by rw[kEq2,kd1]),seq_f (by rw[kEq2,kd2]),seq_f (by rw[kEq2,kd3])]
  rw[sSeq_nx (ρ':=[some (.tup [.str (kindS one),.lst ws]),some (.str (S [markN one])),none,none]) (by rw[sSet_eq (show e1 (oTab tab_MARKS) (e2 oIx (eV 0) (eK (.int 0))) [some (.tup [.str (kindS one),.lst ws]),none,none,none]=some (.str (S [markN one])) from tab_kind one)];rfl)]
  have e1':fLC (iL (e2 oIx (eV 0) (eK (.int 1)))) [none] (gN 0) tYes (eCall Fw (aC (eV 0) aN)) [some (.tup [.str (kindS one),.lst ws]),some (.str (S [markN one])),none,none]=some (ws.map fun w=>D.str (S (tW n w))):=
   fLC_eq (ds:=ws) rfl (by omega) (lcW (fun w hw'=>hw w (hws w hw')) [])
  rw[sSeq_nx (ρ':=[some (.tup [.str (kindS one),.lst ws]),some (.str (S [markN one])),some (.lst (ws.map fun w=>D.str (S (tW n w)))),none]) (by rw[sSet_eq (d :=.lst (ws.map fun w=>D.str (S (tW n w)))) (by unfold eF;rw[e1'];rfl)];rfl)]
  have hlen:∀ (k:Int),tB1 (e2 oEq (eCall oLen (aC (eV 2) aN)) (eK (.int k))) [some (.tup [.str (kindS one),.lst ws]),some (.str (S [markN one])),some (.lst (ws.map fun w=>D.str (S (tW n w)))),none]=some ((ws.length:Int)==k):=fun k=>by refine tB1_eq ?_;rw[e2_eq (x :=.int (ws.length:Int)) (y :=.int k) (by show oLen [.lst _]=_;rw[lenL,zH]) rfl,eqI]
  have hlw:∀ w∈ws,(tW n w).length≤1500:=fun w hw'=>yB (tW_len n w (hws w hw')) (LB3 (by omega))
  match ws,h3,hws,hlen,hlw with
  | [],_,_,hlen,_=>
   rw[seq_rt (d :=.str (S ([40]++[markN one]++[41]))) (by rw[hlen];rfl) (by rw[e2_eq (x :=.str (S ([40]++[markN one]))) (y :=.str (S [41])) (by rw[e2_eq (x :=.str (S [40])) (y :=.str (S [markN one])) (by rw[← c40];rfl) rfl,addSS (by simp;omega)]) (by rw[← c41];rfl),addSS (by simp;omega)])]
   rfl
  | [w],_,hws,hlen,hlw=>
   have h1:=hlw w (by simp)
   rw[seq_f (by rw[hlen];rfl)]
   rw[seq_rt (d :=.str (S ([40]++[markN one]++[32]++tW n w++[41]))) (by rw[hlen];rfl) (by
    rw[e2_eq (x :=.str (S ([40]++[markN one]++[32]++tW n w))) (y :=.str (S [41])) (by
     rw[e2_eq (x :=.str (S ([40]++[markN one]++[32]))) (y :=.str (S (tW n w))) (by rw[e2_eq (x :=.str (S ([40]++[markN one]))) (y :=.str (S [32])) (by rw[e2_eq (x :=.str (S [40])) (y :=.str (S [markN one])) (by rw[← c40];rfl) rfl,addSS (by simp;omega)]) (by rw[← c32];rfl),addSS (by simp;omega)]) rfl,addSS (by simp;omega)]) (by rw[← c41];rfl),addSS (by simp;omega)])]
   show some (D.str (S ([40]++[markN one]++[32]++tW n w++[41])))=_;simp[listT]
  | w::w2::ws,h3,hws,hlen,hlw=>
   rw[seq_f (by rw[hlen];simp;omega),seq_f (by rw[hlen];simp;omega)]
   rw[sSeq_nx (ρ':=[some (.tup [.str (kindS one),.lst (w::w2::ws)]),some (.str (S [markN one])),some (.lst ((w::w2::ws).map fun w=>D.str (S (tW n w)))),some (.str (S [32,markN one,32]))]) (by
    rw[sSet_eq (d :=.str (S [32,markN one,32])) (by
     rw[e2_eq (x :=.str (S ([32]++[markN one]))) (y :=.str (S [32])) (by rw[e2_eq (x :=.str (S [32])) (y :=.str (S [markN one])) (by rw[← c32];rfl) rfl,addSS (by simp;omega)]) (by rw[← c32];rfl),addSS (by simp;omega)]
     rfl)]
    rfl)]
   have hs:=sum_len (ls:=(w::w2::ws).map (tW n)) (b:=1500) fun l hl=>by obtain⟨s,hs,rfl⟩:=List.mem_map.mp hl;exact hlw s hs
   rw[zH] at hs;have h4:(w::w2::ws).length*1500≤3*1500:=Nat.mul_le_mul_right _ h3;have hj:=joinD (sep:=[32,markN one,32]) (ls:=(w::w2::ws).map (tW n)) (by rw[zH,hbig];simp only[zP,List.length_nil] at hs h4 h3 ⊢;omega)
   have hjl:=joinL_len [32,markN one,32] ((w::w2::ws).map (tW n));rw[zH] at hjl;have hjb:(joinL [32,markN one,32] ((w::w2::ws).map (tW n))).length≤5000:=by simp only[zP,List.length_nil] at hs h4 h3 hjl;omega
   rw[List.map_map] at hj;rw[sRet_eq (d :=.str (S ([40]++joinL [32,markN one,32] ((w::w2::ws).map (tW n))++[41]))) (by
    rw[e2_eq (x :=.str (S ([40]++joinL [32,markN one,32] ((w::w2::ws).map (tW n))))) (y :=.str (S [41])) (by
     rw[e2_eq (x :=.str (S [40])) (y :=.str (S (joinL [32,markN one,32] ((w::w2::ws).map (tW n))))) (by rw[← c40];rfl) (by
      rw[e2_eq (x :=.str (S [32,markN one,32])) (y :=.lst ((w::w2::ws).map fun w=>D.str (S (tW n w)))) rfl rfl]
      exact hj),addSS (by rw[hbig];simp only[zP,List.length_nil];omega)]) (by rw[← c41];rfl),addSS (by rw[hbig,List.length_append];simp only[zP,List.length_nil];omega)])]
   rfl
theorem shown_wish0:ShW (runD 1 4 (g_shown_wish Fh Fp Fw)) 0:=by
 rintro w (rfl|⟨x,hx,rfl⟩)
 ·rw[tW_any];exact shown_wish_any
 ·rw[tW_text];exact shown_wish_text hx
end
theorem shw_all:∀ (n f:Nat),n≤3→3*n+1≤f→ShW (Fr_shown_wish f) n
 | 0,f,_,hf=>by
  cases f with
  | zero=>omega
  | succ f=>rw[Fr_shown_wish];exact shown_wish0
 | n+1,f,hn,hf=>by
  cases f with
  | zero=>omega
  | succ f=>
   rw[Fr_shown_wish];refine shown_wish_ok hn ?_ (shw_all n f (by omega) (by omega))
   cases f with
   | zero=>omega
   | succ f=>
    rw[Fr_shown];refine shown_ok (by omega) ?_
    cases f with
    | zero=>omega
    | succ f=>rw[Fr_shown_step];exact shown_step_ok (by omega) (shw_all n f (by omega) (by omega))
theorem shown_all {ss:List D}(h3:ss.length≤3) (hss:∀ s∈ss,WqS 3 s):F_shown [.lst ss]=some (.str (S (tSs 3 ss))):=by
 unfold F_shown;rw[Fr_shown];refine shown_ok (by decide) ?_ ss h3 hss
 rw[Fr_shown_step];exact shown_step_ok (by decide) (shw_all 3 14 (by decide) (by decide))
end K15
end
noncomputable section
set_option maxHeartbeats 1000000
namespace K15
open PySem L2
noncomputable def aOk:Nat→D→Prop
 | 0,d=>∃ x,d=.str x
 | n+1,d=>(∃ x,d=.str x)∨∃ ds,(d=.lst ds∨d=.tup ds)∧ds.length≤1000∧∀ e∈ds,aOk n e
theorem aOk.str (n:Nat) (x:Str):aOk n (.str x):=by
 cases n with
 | zero=>exact⟨x,rfl⟩
 | succ n=>exact .inl ⟨x,rfl⟩
theorem aOk.up:∀ {n:Nat}{d:D},aOk n d→aOk (n+1) d
 | 0,d,h =>.inl h
 | n+1,d,h=>by
  rcases h with h|⟨ds,h,hl,hd⟩
  ·exact .inl h
  ·exact .inr ⟨ds,h,hl,fun e he=>(hd e he).up⟩
theorem aOk.le {n m:Nat}{d:D}(h:aOk n d) (hm:n≤m):aOk m d:=by
 induction hm with
 | refl=>exact h
 | step _ ih=>exact ih.up
theorem aOk.tup {n:Nat}{ds:List D}(h:∀ e∈ds,aOk n e) (hl:ds.length≤1000):aOk (n+1) (.tup ds) :=.inr ⟨ds,.inr rfl,hl,h⟩
theorem aOk.lst {n:Nat}{ds:List D}(h:∀ e∈ds,aOk n e) (hl:ds.length≤1000):aOk (n+1) (.lst ds) :=.inr ⟨ds,.inl rfl,hl,h⟩
theorem wq_aOk:∀ (n:Nat) (w:D),WqW n w→aOk (3*n+1) w
 | 0,w,h=>by
  rcases h with rfl|⟨x,_,rfl⟩
  ·exact aOk.tup (n:=0) (by intro e he;simp at he;subst he;exact .str _ _) (by simp)
  ·exact aOk.tup (n:=0) (by intro e he;simp at he;rcases he with rfl|rfl<;>exact .str _ _) (by simp)
 | n+1,w,h=>by
  rcases h with rfl|⟨x,_,rfl⟩|⟨ss,rfl,_,h3,hss⟩|⟨one,ws,rfl,h3,hws⟩
  ·exact aOk.tup (by intro e he;simp at he;subst he;exact .str _ _) (by simp)
  ·exact aOk.tup (by intro e he;simp at he;rcases he with rfl|rfl<;>exact .str _ _) (by simp)
  ·refine aOk.tup (n:=3*n+3) (fun e he =>?_) (by simp)
   simp at he;rcases he with rfl|rfl
   ·exact .str _ _
   ·refine aOk.lst (n:=3*n+2) (fun s hs =>?_) (by omega)
    obtain⟨inner,x,w,rfl,_,hww⟩:=hss s hs;refine aOk.tup (n:=3*n+1) (fun e he =>?_) (by simp)
    simp at he;rcases he with rfl|rfl|rfl
    ·exact .str _ _
    ·exact .str _ _
    ·exact wq_aOk n _ hww
  ·refine aOk.tup (n:=3*n+3) (fun e he =>?_) (by simp)
   simp at he;rcases he with rfl|rfl
   ·exact .str _ _
   ·exact aOk.lst (n:=3*n+2) (fun w hw=>(wq_aOk n w (hws w hw)).le (by omega)) (by omega)
theorem step_aOk {n:Nat}{s:D}(h:WqS n s):aOk (3*n+2) s:=by
 obtain⟨inner,x,w,rfl,_,hww⟩:=h;refine aOk.tup (n:=3*n+1) (fun e he =>?_) (by simp)
 simp at he;rcases he with rfl|rfl|rfl
 ·exact .str _ _
 ·exact .str _ _
 ·exact wq_aOk n _ hww
theorem q_aOk {n:Nat}{ss:List D}(h3:ss.length≤3) (hss:∀ s∈ss,WqS n s):aOk (3*n+3) (.lst ss):=aOk.lst (n:=3*n+2) (fun s hs=>step_aOk (hss s hs)) (by omega)
theorem dOks_of {ds:List D}{m:Nat}(h:∀ e∈ds,dOk e m=true):dOks ds m=true:=by
 induction ds with
 | nil=>rfl
 | cons d ds ih=>simp only[dOks,h d zD,ih fun e he=>h e (zB _ he),Bool.and_self]
theorem aOk.dOk:∀ {n:Nat}{d:D}(m:Nat),aOk n d→n≤m→L2.dOk d m=true
 | 0,d,m,⟨x,e⟩,_=>by subst e;rfl
 | n+1,d,m,h,hm=>by
  rcases h with ⟨x,rfl⟩|⟨ds,hd,_,he⟩
  ·rfl
  ·cases m with
   | zero=>omega
   | succ m=>
    have:=dOks_of (ds:=ds) (m:=m) fun e h=>(he e h).dOk m (by omega)
    rcases hd with rfl|rfl<;>simp[L2.dOk,this]
theorem atN {α:Type}{xs:List α}{i:Nat}{x:α}(h:xs[i]?=some x):atI xs (i:Int)=some x:=by
 have hi:i<xs.length:=(zC.mp h).1;unfold atI;rw[ixN_pos (by omega) (by omega)]
 simpa using h
theorem runD_eq {n N:Nat}{g:DG}{ds:List D}{o:DO}{r:D}(hn:ds.length=n) (e:g (startD N ds)=some o) (ho:outD o=some r):runD n N g ds=some r:=by
 unfold runD;rw[if_pos hn,e];exact ho
theorem sFor_eq {f:DL}{τ:DTg}{g:DG}{ρ ρ':DEnv}{ds:List D}(e:f ρ=some ds) (h:forD τ g ds ρ=some (.nx ρ')):sFor f τ g ρ=some (.nx ρ'):=by
 unfold sFor;rw[e];exact h
theorem tup2_eq {f g:DF}{ρ:DEnv}{x y:D}(h1:f ρ=some x) (h2:g ρ=some y):eTup (aC f (aC g aN)) ρ=some (.tup [x,y]):=by
 have:aC f (aC g aN) ρ=some [x,y]:=by
  show (f ρ).bind (fun x=>((g ρ).bind fun y=>some [y]).bind fun xs=>some (x::xs))=_
  rw[h1,h2];rfl
 unfold eTup;rw[this];rfl
theorem tup3_eq {f g h:DF}{ρ:DEnv}{x y z:D}(h1:f ρ=some x) (h2:g ρ=some y) (h3:h ρ=some z):eTup (aC f (aC g (aC h aN))) ρ=some (.tup [x,y,z]):=by
 have:aC f (aC g (aC h aN)) ρ=some [x,y,z]:=by
  show (f ρ).bind (fun x=>((g ρ).bind fun y=>((h ρ).bind fun z=>some [z]).bind fun xs=>some (y::xs)).bind fun xs=>some (x::xs))=_
  rw[h1,h2,h3];rfl
 unfold eTup;rw[this];rfl
theorem alike_str (f:Nat) (z:Str):Fr_alike (f+1) [.str z,.str z]=some (.bl true):=by
 rw[Fr_alike];unfold g_alike;refine runD_eq (o :=.rt (.bl true)) rfl ?_ rfl;have t2:sIf (tTru (eIs "str" (eV 1))) (sRet (eAnd (eIs "str" (eV 0)) (e2 oEq (eV 0) (eV 1)))) sNil (startD 3 [.str z,.str z])=some (.rt (.bl true)):=by
  rw[sIf_t (by show some (isT "str" (.str z))=_;rfl)]
  refine sRet_eq ?_;have c1:eIs "str" (eV 0) (startD 3 [.str z,.str z])=some (.bl true):=rfl;have c3:e2 oEq (eV 0) (eV 1) (startD 3 [.str z,.str z])=some (.bl true):=by rw[e2_eq (x :=.str z) (y :=.str z) rfl rfl,eqS];simp
  unfold eAnd;rw[tB1_eq c1,zA,if_pos rfl];exact c3
 simp only[sSeq,t2,zA]
theorem alike_seq (f:Nat) (q:D) (ds:List D) (hq:q=.lst ds∨q=.tup ds) (hl:ds.length≤1000) (hd:∀ e∈ds,Fr_alike f [e,e]=some (.bl true)):Fr_alike (f+1) [q,q]=some (.bl true):=by
 rw[Fr_alike];unfold g_alike;refine runD_eq (o :=.rt (.bl true)) rfl ?_ rfl;have st:∀ g:DG,sIf (tTru (eIs "str" (eV 1))) g sNil (startD 3 [q,q])=some (.nx (startD 3 [q,q])):=fun g=>by rw[sIf_f (by rcases hq with rfl|rfl<;>rfl)];rfl
 have si:∀ g:DG,sIf (tTru (eIs "int" (eV 1))) g sNil (startD 3 [q,q])=some (.nx (startD 3 [q,q])):=fun g=>by rw[sIf_f (by rcases hq with rfl|rfl<;>rfl)];rfl
 have sl:∀ g h:DG,sIf (tTru (eIs "list" (eV 1))) (sIf (tNotD (tTru (eIs "list" (eV 0)))) g sNil) (sIf (tNotD (tTru (eIs "tuple" (eV 0)))) h sNil) (startD 3 [q,q])=some (.nx (startD 3 [q,q])):=fun g h=>by
  rcases hq with rfl|rfl
  ·rw[sIf_t (by rfl),sIf_f (by rfl)];rfl
  ·rw[sIf_f (by rfl),sIf_f (by rfl)];rfl
 have elen:oLen [q]=some (.int (ds.length:Int)):=by rcases hq with rfl|rfl;exact lenL;exact lenT
 have sn:∀ g:DG,sIf (tB1 (e2 oNe (eCall oLen (aC (eV 0) aN)) (eCall oLen (aC (eV 1) aN)))) g sNil (startD 3 [q,q])=some (.nx (startD 3 [q,q])):=fun g=>by
  rw[sIf_f (by refine tB1_eq (b:=false) ?_;rw[e2_eq (x :=.int (ds.length:Int)) (y :=.int (ds.length:Int)) elen elen,neI];simp)];rfl
 rw[sSeq_nx (st _),sSeq_nx (si _),sSeq_nx (sl _ _),sSeq_nx (sn _)];obtain⟨ρ',ef,v,rfl⟩:=for_inv0 (τ:=gN 2) (g:=b_alike_1 (Fr_alike f)) (ds:=rngD 0 ds.length) (fun _ ρ=>∃ v:Option D,ρ=[some q,some q,v])
  (ρ:=startD 3 [q,q]) ⟨none,rfl⟩ (by
  rintro j d ρ hd' ⟨v,rfl⟩;obtain⟨hj,rfl⟩:=rngD_get hd';have hz:(0:Int)+(j:Int)=(j:Int):=by omega
  rw[hz];refine⟨_,[some q,some q,some (.int (j:Int))],rfl,?_,_,rfl⟩;unfold b_alike_1;have ea:oIx q (.int (j:Int))=some ds[j]:=by
   rcases hq with rfl|rfl
   ·rw[ixL];exact atN (zI hj)
   ·rw[ixT];exact atN (zI hj)
  have e0:e2 oIx (eV 0) (eV 2) [some q,some q,some (.int (j:Int))]=some ds[j]:=ea;have e1:e2 oIx (eV 1) (eV 2) [some q,some q,some (.int (j:Int))]=some ds[j]:=ea;have e3:tNotD (tTru (eCall (Fr_alike f) (aC (e2 oIx (eV 0) (eV 2)) (aC (e2 oIx (eV 1) (eV 2)) aN)))) [some q,some q,some (.int (j:Int))]=some false:=by unfold tNotD tTru eCall;simp only[aC,aN];rw[e0,e1];show ((Fr_alike f [ds[j],ds[j]]).bind _).map _=_;rw[hd _ (List.getElem_mem hj)];rfl
  exact(sIf_f e3).trans rfl)
 have ei:iR1 (eCall oLen (aC (eV 1) aN)) (startD 3 [q,q])=some (rngD 0 ds.length):=
  (iR1_eq (z:=(ds.length:Int)) elen (small62 (by omega))).trans (by simp)
 rw[sSeq_nx (sFor_eq ei ef)]
 rfl
theorem alike_all:∀ (n f:Nat) (d:D),aOk n d→n+1≤f→Fr_alike f [d,d]=some (.bl true)
 | 0,f,d,⟨x,e⟩,hf=>by
  subst e;cases f with
  | zero=>omega
  | succ f=>exact alike_str f x
 | n+1,f,d,h,hf=>by
  cases f with
  | zero=>omega
  | succ f=>
   rcases h with ⟨x,rfl⟩|⟨ds,hd,hl,he⟩
   ·exact alike_str f x
   ·exact alike_seq f d ds hd hl fun e h=>alike_all n f e (he e h) (by omega)
noncomputable section
variable {Fw Fs:List D→Option D}{n:Nat}
noncomputable abbrev CpW (F:List D→Option D) (n:Nat):Prop:=∀ w,WqW n w→F [w]=some w
noncomputable abbrev CpS (F:List D→Option D) (n:Nat):Prop:=∀ ss,ss.length≤3→(∀ s∈ss,WqS n s)→F [.lst ss]=some (.lst ss)
theorem copy_steps_ok (hw:CpW Fw n):CpS (runD 1 1 (g_copy_steps Fw Fs)) n:=by
 intro ss h3 hss;show (g_copy_steps Fw Fs [some (.lst ss)]).bind outD=_;have e:fLC (iL (eV 0)) [none,none,none] (gN3 0 1 2) tYes (eTup (aC (eV 0) (aC (eV 1) (aC (eCall Fw (aC (eV 2) aN)) aN)))) [some (.lst ss)]=some (ss.map id):=by
  refine fLC_eq (ds:=ss) rfl (by rw[bigE_eq];omega) (lc_all (h:=id) fun s hs =>?_)
  obtain⟨inner,x,w,rfl,_,hww⟩:=hss s hs;refine⟨[some (.str (wayS inner)),some (.str (S x)),some w],rfl,?_⟩;exact tup3_eq rfl rfl (hw w hww)
 unfold g_copy_steps sRetF;rw[e];simp[outD]
theorem t_has {k:Str}{r:D}{ρ:DEnv}:tB1 (e2 oEq (e2 oIx (eV 0) (eK (.int 0))) (eK (.str (Str.ofString "has")))) (some (.tup [.str k,r])::ρ)=some (k==Str.ofString "has"):=rfl
theorem t_in1 {k:Str}{ρ:DEnv}:tB1 (e2 (oIn false) (e2 oIx (eV 0) (eK (.int 0))) (eTup (aC (eK (.str (Str.ofString "both"))) (aC (eK (.str (Str.ofString "one"))) aN)))) (some (.tup [.str k])::ρ)=some (inV (.str k) [.str (Str.ofString "both"),.str (Str.ofString "one")]):=rfl
theorem t_in {k:Str}{r:D}{ρ:DEnv}:tB1 (e2 (oIn false) (e2 oIx (eV 0) (eK (.int 0))) (eTup (aC (eK (.str (Str.ofString "both"))) (aC (eK (.str (Str.ofString "one"))) aN)))) (some (.tup [.str k,r])::ρ)=some (inV (.str k) [.str (Str.ofString "both"),.str (Str.ofString "one")]):=rfl
theorem copy_any:runD 1 1 (g_copy_wish Fw Fs) [wAny]=some wAny:=by
 show (g_copy_wish Fw Fs [some wAny]).bind outD=_;unfold g_copy_wish;rw[sSeq_nx (ρ':=[some wAny]) (by rw[sIf_f (show tB1 (e2 oEq (e2 oIx (eV 0) (eK (.int 0))) (eK (.str (Str.ofString "has")))) [some wAny]=some false from rfl)];rfl)]
 rw[sSeq_nx (ρ':=[some wAny]) (by rw[sIf_f (by rw[t_in1];decide +kernel)];rfl)]
 rfl
theorem copy_text {x:Str}:runD 1 1 (g_copy_wish Fw Fs) [wText x]=some (wText x):=by
 show (g_copy_wish Fw Fs [some (wText x)]).bind outD=_;unfold g_copy_wish;rw[sSeq_nx (ρ':=[some (wText x)]) (by rw[sIf_f (by rw[t_has];decide +kernel)];rfl)]
 rw[sSeq_nx (ρ':=[some (wText x)]) (by rw[sIf_f (by rw[t_in];decide +kernel)];rfl)]
 rfl
theorem copy_wish_ok (hq:CpS Fs n) (hw:CpW Fw n):CpW (runD 1 1 (g_copy_wish Fw Fs)) (n+1):=by
 intro w hww;rcases hww with rfl|⟨x,hx,rfl⟩|⟨ss,rfl,h1,h3,hss⟩|⟨one,ws,rfl,h3,hws⟩
 ·exact copy_any
 ·exact copy_text
 ·show (g_copy_wish Fw Fs [some (wHas ss)]).bind outD=_;unfold g_copy_wish;have e:sIf (tB1 (e2 oEq (e2 oIx (eV 0) (eK (.int 0))) (eK (.str (Str.ofString "has"))))) (sRet (eTup (aC (eK (.str (Str.ofString "has"))) (aC (eCall Fs (aC (e2 oIx (eV 0) (eK (.int 1))) aN)) aN)))) sNil [some (wHas ss)]=some (.rt (wHas ss)):=by
   rw[sIf_t (by rw[t_has];simp)]
   refine sRet_eq ?_;have e1:eCall Fs (aC (e2 oIx (eV 0) (eK (.int 1))) aN) [some (wHas ss)]=some (.lst ss):=hq ss h3 hss;exact tup2_eq rfl e1
  unfold sSeq at e ⊢;rw[e];rfl
 ·show (g_copy_wish Fw Fs [some (.tup [.str (kindS one),.lst ws])]).bind outD=_;unfold g_copy_wish;rw[sSeq_nx (ρ':=[some (.tup [.str (kindS one),.lst ws])]) (by rw[sIf_f (by rw[t_has];cases one<;>decide +kernel)];rfl)]
  have e:sIf (tB1 (e2 (oIn false) (e2 oIx (eV 0) (eK (.int 0))) (eTup (aC (eK (.str (Str.ofString "both"))) (aC (eK (.str (Str.ofString "one"))) aN))))) (sRet (eTup (aC (e2 oIx (eV 0) (eK (.int 0))) (aC (eF (fLC (iL (e2 oIx (eV 0) (eK (.int 1)))) [none] (gN 0) tYes (eCall Fw (aC (eV 0) aN)))) aN)))) sNil [some (.tup [.str (kindS one),.lst ws])]=some (.rt (.tup [.str (kindS one),.lst ws])):=by
   rw[sIf_t (by rw[t_in];cases one<;>decide +kernel)]
   refine sRet_eq ?_;have e1:fLC (iL (e2 oIx (eV 0) (eK (.int 1)))) [none] (gN 0) tYes (eCall Fw (aC (eV 0) aN)) [some (.tup [.str (kindS one),.lst ws])]=some (ws.map id):=
    fLC_eq (ds:=ws) rfl (by rw[bigE_eq];omega) (lc_all (h:=id) fun w hw'=>⟨[some w],rfl,hw w (hws w hw')⟩)
   exact tup2_eq rfl (by unfold eF;rw[e1];simp)
  unfold sSeq at e ⊢;rw[e];rfl
theorem copy_wish0:CpW (runD 1 1 (g_copy_wish Fw Fs)) 0:=by
 rintro w (rfl|⟨x,_,rfl⟩)
 ·exact copy_any
 ·exact copy_text
end
theorem cpw_all:∀ (n f:Nat),2*n+1≤f→CpW (Fr_copy_wish f) n
 | 0,f,hf=>by
  cases f with
  | zero=>omega
  | succ f=>rw[Fr_copy_wish];exact copy_wish0
 | n+1,f,hf=>by
  cases f with
  | zero=>omega
  | succ f=>
   rw[Fr_copy_wish];refine copy_wish_ok ?_ (cpw_all n f (by omega))
   cases f with
   | zero=>omega
   | succ f=>rw[Fr_copy_steps];exact copy_steps_ok (cpw_all n f (by omega))
theorem copy_all {ss:List D}(h3:ss.length≤3) (hss:∀ s∈ss,WqS 3 s):F_copy_steps [.lst ss]=some (.lst ss):=by
 unfold F_copy_steps;rw[Fr_copy_steps];exact copy_steps_ok (cpw_all 3 11 (by decide)) ss h3 hss
end K15
end
noncomputable section
set_option maxHeartbeats 1000000
namespace K15
open PySem L2
noncomputable section
variable {Fw Fl:List D→Option D}{n:Nat}
theorem join_signs {x:List Nat}(hx:TxL x){a:Str}{ρ:DEnv}{d1:Option D} :
  e2 oJoin (eK (.str (Str.ofString ""))) (eF (fLC (iS (e2 oIx (eV 0) (eK (.int 1)))) [none,some 1] (gN 0) tYes (eGet2 (eV 1) (eV 0) (eV 0)))) (some (.tup [.str a,.str (S x)])::some (.dic [Sum.inr (Str.ofString "\""),Sum.inr (Str.ofString "\\")] [.str (Str.ofString "\\q"),.str (Str.ofString "\\\\")])::ρ)=some (.str (S (esc x))):=by
 obtain⟨hs,h3⟩:=txt_sign hx;have hi:iS (e2 oIx (eV 0) (eK (.int 1))) (some (.tup [.str a,.str (S x)])::some (.dic [Sum.inr (Str.ofString "\""),Sum.inr (Str.ofString "\\")] [.str (Str.ofString "\\q"),.str (Str.ofString "\\\\")])::ρ)=some (x.map fun c=>D.str (S [c])):=by
  show (if (S x).cps.all (· < 128)=true then some (signsD (S x)) else none)=_
  rw[if_pos (by rw[← Array.all_toList,S_list,List.all_eq_true];intro c hc;have:=(hs c hc).2.1;exact decide_eq_true (by omega))]
  simp[signsD,S]
 have hl:lcD (srcρ [none,some 1] (some (.tup [.str a,.str (S x)])::some (.dic [Sum.inr (Str.ofString "\""),Sum.inr (Str.ofString "\\")] [.str (Str.ofString "\\q"),.str (Str.ofString "\\\\")])::ρ)) (gN 0) tYes (eGet2 (eV 1) (eV 0) (eV 0)) (x.map fun c=>D.str (S [c]))=some ((x.map fun c=>D.str (S [c])).map fun d=>match d with|.str y =>.str (S (esc y.cps.toList))|d=>d):=by
  refine lc_all fun d hd =>?_
  obtain⟨c,_,rfl⟩:=List.mem_map.mp hd;refine⟨[some (.str (S [c])),some (.dic [Sum.inr (Str.ofString "\""),Sum.inr (Str.ofString "\\")] [.str (Str.ofString "\\q"),.str (Str.ofString "\\\\")])],rfl,?_⟩;show some ((dLook [Sum.inr (Str.ofString "\""),Sum.inr (Str.ofString "\\")] [.str (Str.ofString "\\q"),.str (Str.ofString "\\\\")] (Sum.inr (S [c]))).getD (.str (S [c])))=some (.str (S (esc (S [c]).cps.toList)));rw[S_list,c34,c92,show Str.ofString "\\q" = S [92,113] by decide +kernel,show Str.ofString "\\\\" = S [92,92] by decide +kernel]
  have e:esc [c]=esc1 c:=by simp[esc]
  rw[e];have ni:∀ a b:Nat,(Sum.inr (S [a]):Key)=Sum.inr (S [b])↔a=b:=fun a b=>⟨fun h=>by have:=S_inj (Sum.inr.inj h);simpa using this,fun h=>by rw[h]⟩
  unfold dLook esc1;by_cases h34:c=34
  ·subst h34;simp
  ·by_cases h92:c=92
   ·subst h92;simp[ni]
   ·simp[ni,h34,h92,Ne.symm h34,Ne.symm h92]
 have e1:=fLC_eq (f:=iS (e2 oIx (eV 0) (eK (.int 1)))) hi (by rw[zH,bigE_eq];omega) hl
 rw[e2_eq (x :=.str (S [])) (y :=.lst ((x.map esc1).map fun l=>D.str (S l))) (by rw[← c0];rfl) (by
  unfold eF;rw[e1];simp only[zT,List.map_map]
  congr 2
  apply List.map_congr_left;intro c _;show D.str (S (esc (S [c]).cps.toList))=D.str (S (esc1 c));rw[S_list];simp[esc])]
 have hz:sumLen (x.map esc1)≤x.length*2:=by
  have:=sum_len (ls:=x.map esc1) (b:=2) fun l hl=>by obtain⟨c,_,rfl⟩:=List.mem_map.mp hl;unfold esc1;split;simp;split<;>simp
  rwa [zH] at this
 rw[joinD (by rw[bigE_eq];simp;omega),joinL_nil_sep]
 rfl
theorem lw_any:runD 1 4 (g_wish_text Fw Fl) [wAny]=some (.str (S [97,110,121])):=by
 show (g_wish_text Fw Fl [some wAny,none,none,none]).bind outD=_;unfold g_wish_text;rw[seq_rt (d :=.str (S [97,110,121])) rfl (by rw[← cany];rfl)]
 rfl
theorem lw_text {x:List Nat}(hx:TxL x):runD 1 4 (g_wish_text Fw Fl) [wText (S x)]=some (.str (S (34::esc x++[34]))):=by
 show (g_wish_text Fw Fl [some (wText (S x)),none,none,none]).bind outD=_;have hl:=esc_len x;have hx3:=(txt_sign hx).2;have hbig:=bigE_eq;unfold g_wish_text;rw[seq_f (by rw[kEq2,ne_any_txt])]
 have e:sIf (tB1 (e2 oEq (e2 oIx (eV 0) (eK (.int 0))) (eK (.str (Str.ofString "text"))))) (sSeq (sSet 1 (eK (.dic [Sum.inr (Str.ofString "\""),Sum.inr (Str.ofString "\\")] [.str (Str.ofString "\\q"),.str (Str.ofString "\\\\")])))
   (sRet (e2 oAdd (e2 oAdd (eK (.str (Str.ofString "\""))) (e2 oJoin (eK (.str (Str.ofString ""))) (eF (fLC (iS (e2 oIx (eV 0) (eK (.int 1)))) [none,some 1] (gN 0) tYes (eGet2 (eV 1) (eV 0) (eV 0)))))) (eK (.str (Str.ofString "\"")))))) sNil [some (wText (S x)),none,none,none]=some (.rt (.str (S ([34]++esc x++[34])))):=by
  rw[sIf_t rfl];rw[sSeq_nx (ρ':=[some (wText (S x)),some (.dic [Sum.inr (Str.ofString "\""),Sum.inr (Str.ofString "\\")] [.str (Str.ofString "\\q"),.str (Str.ofString "\\\\")]),none,none]) rfl];refine sRet_eq ?_;rw[e2_eq (x :=.str (S ([34]++esc x))) (y :=.str (S [34])) (by rw[e2_eq (x :=.str (S [34])) (y :=.str (S (esc x))) (by rw[← c34];rfl) (join_signs (d1:=none) hx),addSS (by simp;omega)]) (by rw[← c34];rfl),addSS (by simp;omega)]
 unfold sSeq at e ⊢;rw[e]
 rfl
theorem strs_dOks (l:List Str) (m:Nat):dOks (l.map D.str) m=true:=dOks_of fun e he=>by
 obtain⟨x,_,rfl⟩:=List.mem_map.mp he
 rfl
theorem eqNilS (l:List Str):oEq (.lst (l.map D.str)) (.lst [])=some (.bl l.isEmpty):=by
 unfold oEq;rw[if_pos (by rw[dOk_lst (strs_dOks l 179)];rfl)]
 cases l<;>rfl
noncomputable abbrev LnQ (F:List D→Option D) (n:Nat):Prop:=∀ ss,ss.length≤3→(∀ s∈ss,WqS n s)→F [.lst ss]=some (.str (S (tSs n ss)))
theorem mark_ix (one:Bool){ws:D}{v1 v2 v3:Option D}:e2 oIx (eF (eLst (aC (eK (.str (Str.ofString "&"))) (aC (eK (.str (Str.ofString "+"))) aN)))) (eCall oIntB (aC (e2 oEq (e2 oIx (eV 0) (eK (.int 0))) (eK (.str (Str.ofString "one")))) aN)) [some (.tup [.str (kindS one),ws]),v1,v2,v3]=some (.str (S [markN one])):=by
 have e1:eCall oIntB (aC (e2 oEq (e2 oIx (eV 0) (eK (.int 0))) (eK (.str (Str.ofString "one")))) aN) [some (.tup [.str (kindS one),ws]),v1,v2,v3]=some (.int (if (kindS one==Str.ofString "one")=true then 1 else 0)):=rfl
 cases one
 ·rw[show (kindS false==Str.ofString "one")=false by decide +kernel] at e1
  rw[e2_eq (x :=.lst [.str (Str.ofString "&"),.str (Str.ofString "+")]) rfl e1];show some (D.str (Str.ofString "&"))=_;rw[show Str.ofString "&" = S [38] by decide +kernel];rfl
 ·rw[show (kindS true==Str.ofString "one")=true by decide +kernel] at e1
  rw[e2_eq (x :=.lst [.str (Str.ofString "&"),.str (Str.ofString "+")]) rfl e1];show some (D.str (Str.ofString "+"))=_;rw[show Str.ofString "+" = S [43] by decide +kernel];rfl
theorem lw_ok (hn:n+1≤3) (hq:LnQ Fl n) (hw:ShW Fw n):ShW (runD 1 4 (g_wish_text Fw Fl)) (n+1):=by
 intro w hww;have hbig:=bigE_eq;rcases hww with rfl|⟨x,hx,rfl⟩|⟨ss,rfl,h1,h3,hss⟩|⟨one,ws,rfl,h3,hws⟩
 ·rw[tW_any];exact lw_any
 ·rw[tW_text];exact lw_text hx
 ·rw[tW_has];show (g_wish_text Fw Fl [some (wHas ss),none,none,none]).bind outD=_;unfold g_wish_text;rw[seq_f (by rw[kEq2,ne_any_has]),seq_f (by rw[kEq2,ne_txt_has])]
  rw[seq_rt (d :=.str (S (tSs n ss))) (by rw[kEq2];simp) (hq ss h3 hss)]
  rfl
 ·rw[tW_lst];show (g_wish_text Fw Fl [some (.tup [.str (kindS one),.lst ws]),none,none,none]).bind outD=_;unfold g_wish_text;rw[seq_f (by rw[kEq2,kd1]),seq_f (by rw[kEq2,kd2]),seq_f (by rw[kEq2,kd3])]
  rw[sSeq_nx (ρ':=[some (.tup [.str (kindS one),.lst ws]),none,some (.str (S [markN one])),none]) (by rw[sSet_eq (mark_ix one)];rfl)]
  have e1':fLC (iL (e2 oIx (eV 0) (eK (.int 1)))) [none] (gN 0) tYes (eCall Fw (aC (eV 0) aN)) [some (.tup [.str (kindS one),.lst ws]),none,some (.str (S [markN one])),none]=some (ws.map fun w=>D.str (S (tW n w))):=
   fLC_eq (ds:=ws) rfl (by omega) (lcW (fun w hw'=>hw w (hws w hw')) [])
  rw[sSeq_nx (ρ':=[some (.tup [.str (kindS one),.lst ws]),none,some (.str (S [markN one])),some (.lst (ws.map fun w=>D.str (S (tW n w))))]) (by rw[sSet_eq (d :=.lst (ws.map fun w=>D.str (S (tW n w)))) (by unfold eF;rw[e1'];rfl)];rfl)]
  have hlen:∀ (k:Int),tB1 (e2 oEq (eCall oLen (aC (eV 3) aN)) (eK (.int k))) [some (.tup [.str (kindS one),.lst ws]),none,some (.str (S [markN one])),some (.lst (ws.map fun w=>D.str (S (tW n w))))]=some ((ws.length:Int)==k):=fun k=>by refine tB1_eq ?_;rw[e2_eq (x :=.int (ws.length:Int)) (y :=.int k) (by show oLen [.lst _]=_;rw[lenL,zH]) rfl,eqI]
  have hnil:tB1 (e2 oEq (eV 3) (eF (eLst aN))) [some (.tup [.str (kindS one),.lst ws]),none,some (.str (S [markN one])),some (.lst (ws.map fun w=>D.str (S (tW n w))))]=some ws.isEmpty:=by
   refine tB1_eq ?_;rw[e2_eq (x :=.lst (ws.map fun w=>D.str (S (tW n w)))) (y :=.lst []) rfl rfl]
   have:=eqNilS (ws.map fun w=>S (tW n w))
   rw[List.map_map] at this;rw[show (ws.map fun w=>D.str (S (tW n w)))=ws.map (D.str ∘ fun w=>S (tW n w)) from rfl,this]
   cases ws<;>rfl
  have hlw:∀ w∈ws,(tW n w).length≤1500:=fun w hw'=>yB (tW_len n w (hws w hw')) (LB3 (by omega))
  match ws,h3,hws,hlen,hnil,hlw with
  | [],_,_,hlen,hnil,_=>
   rw[seq_rt (d :=.str (S ([40]++[markN one]++[41]))) (by rw[hnil];rfl) (by rw[e2_eq (x :=.str (S ([40]++[markN one]))) (y :=.str (S [41])) (by rw[e2_eq (x :=.str (S [40])) (y :=.str (S [markN one])) (by rw[← c40];rfl) rfl,addSS (by simp;omega)]) (by rw[← c41];rfl),addSS (by simp;omega)])]
   rfl
  | [w],_,hws,hlen,hnil,hlw=>
   have h1:=hlw w (by simp)
   rw[seq_f (by rw[hnil];rfl)]
   rw[seq_rt (d :=.str (S ([40]++[markN one]++[32]++tW n w++[41]))) (by rw[hlen];rfl) (by
    rw[e2_eq (x :=.str (S ([40]++[markN one]++[32]++tW n w))) (y :=.str (S [41])) (by
     rw[e2_eq (x :=.str (S ([40]++[markN one]++[32]))) (y :=.str (S (tW n w))) (by rw[e2_eq (x :=.str (S ([40]++[markN one]))) (y :=.str (S [32])) (by rw[e2_eq (x :=.str (S [40])) (y :=.str (S [markN one])) (by rw[← c40];rfl) rfl,addSS (by simp;omega)]) (by rw[← c32];rfl),addSS (by simp;omega)]) rfl,addSS (by simp;omega)]) (by rw[← c41];rfl),addSS (by simp;omega)])]
   show some (D.str (S ([40]++[markN one]++[32]++tW n w++[41])))=_;simp[listT]
  | w::w2::ws,h3,hws,hlen,hnil,hlw=>
   rw[seq_f (by rw[hnil];rfl),seq_f (by rw[hlen];simp;omega)]
   have hs:=sum_len (ls:=(w::w2::ws).map (tW n)) (b:=1500) fun l hl=>by obtain⟨s,hs,rfl⟩:=List.mem_map.mp hl;exact hlw s hs
   rw[zH] at hs;have h4:(w::w2::ws).length*1500≤3*1500:=Nat.mul_le_mul_right _ h3;have hj:=joinD (sep:=[32,markN one,32]) (ls:=(w::w2::ws).map (tW n)) (by rw[zH,hbig];simp only[zP,List.length_nil] at hs h4 h3 ⊢;omega)
   have hjl:=joinL_len [32,markN one,32] ((w::w2::ws).map (tW n));rw[zH] at hjl;have hjb:(joinL [32,markN one,32] ((w::w2::ws).map (tW n))).length≤5000:=by simp only[zP,List.length_nil] at hs h4 h3 hjl;omega
   rw[List.map_map] at hj;rw[sRet_eq (d :=.str (S ([40]++joinL [32,markN one,32] ((w::w2::ws).map (tW n))++[41]))) (by
    rw[e2_eq (x :=.str (S ([40]++joinL [32,markN one,32] ((w::w2::ws).map (tW n))))) (y :=.str (S [41])) (by
     rw[e2_eq (x :=.str (S [40])) (y :=.str (S (joinL [32,markN one,32] ((w::w2::ws).map (tW n))))) (by rw[← c40];rfl) (by
      rw[e2_eq (x :=.str (S ([32]++[markN one]++[32]))) (y :=.lst ((w::w2::ws).map fun w=>D.str (S (tW n w)))) (by rw[e2_eq (x :=.str (S ([32]++[markN one]))) (y :=.str (S [32])) (by rw[e2_eq (x :=.str (S [32])) (y :=.str (S [markN one])) (by rw[← c32];rfl) rfl,addSS (by simp;omega)]) (by rw[← c32];rfl),addSS (by simp;omega)]) rfl]
      exact hj),addSS (by rw[hbig];simp only[zP,List.length_nil];omega)]) (by rw[← c41];rfl),addSS (by rw[hbig,List.length_append];simp only[zP,List.length_nil];omega)])]
   rfl
theorem lw0:ShW (runD 1 4 (g_wish_text Fw Fl)) 0:=by
 rintro w (rfl|⟨x,hx,rfl⟩)
 ·rw[tW_any];exact lw_any
 ·rw[tW_text];exact lw_text hx
theorem slash_ix (inner:Bool){v0 v1 v3 v4:Option D}:e2 oIx (eF (eLst (aC (eK (.str (Str.ofString "/"))) (aC (eK (.str (Str.ofString "//"))) aN)))) (eCall oIntB (aC (e2 oEq (eV 2) (eK (.str (Str.ofString "inner")))) aN)) [v0,v1,some (.str (wayS inner)),v3,v4]=some (.str (S (slash inner))):=by
 have e1:eCall oIntB (aC (e2 oEq (eV 2) (eK (.str (Str.ofString "inner")))) aN) [v0,v1,some (.str (wayS inner)),v3,v4]=some (.int (if (wayS inner==Str.ofString "inner")=true then 1 else 0)):=rfl
 cases inner
 ·rw[show (wayS false==Str.ofString "inner")=false by decide +kernel] at e1
  rw[e2_eq (x :=.lst [.str (Str.ofString "/"),.str (Str.ofString "//")]) rfl e1];show some (D.str (Str.ofString "/"))=_;rw[c47];rfl
 ·rw[show (wayS true==Str.ofString "inner")=true by decide +kernel] at e1
  rw[e2_eq (x :=.lst [.str (Str.ofString "/"),.str (Str.ofString "//")]) rfl e1];show some (D.str (Str.ofString "//"))=_;rw[show Str.ofString "//" = S [47,47] by decide +kernel];rfl
theorem line_ok (hn:n≤3) (hw:ShW Fw n):LnQ (runD 1 5 (g_line Fw Fl)) n:=by
 intro ss h3 hss;have hbig:=bigE_eq;have hLB:=LB3 hn;show (g_line Fw Fl [some (.lst ss),none,none,none,none]).bind outD=_;unfold g_line;rw[sSeq_nx (ρ':=[some (.lst ss),some (.str (S [])),none,none,none]) (by rw[sSet_eq (d :=.str (S [])) (by rw[← c0];rfl)];rfl)]
 obtain⟨ρ',ef,t,v2,v3,v4,rfl,et⟩:=for_inv0 (τ:=gN3 2 3 4) (g:=b_line_1 Fw Fl) (ds:=ss) (fun j ρ=>∃ (t:List Nat) (v2 v3 v4:Option D),ρ=[some (.lst ss),some (.str (S t)),v2,v3,v4]∧t=tSs n (ss.take j))
  (ρ:=[some (.lst ss),some (.str (S [])),none,none,none]) ⟨[],none,none,none,rfl,rfl⟩ (by
  rintro j s ρ hs ⟨t,v2,v3,v4,rfl,et⟩;have hj:j<ss.length:=(zC.mp hs).1;have hsm:s∈ss:=zX hs;obtain⟨inner,x,w,rfl,hx,hww⟩:=hss s hsm;have hsl:(slash inner).length≤2:=by cases inner<;>simp[slash]
  have hnl:=nm_len hx;have hwl:=tW_len n w hww;have htl:t.length≤5000:=by
   rw[et];unfold tSs;rw[flat_len];have:=tSs_len (n:=n) (ss:=ss.take j) (by simp;omega) (fun s hs=>hss s (List.mem_of_mem_take hs))
   omega
  have etj:tSs n (ss.take (j+1))=t++tS (tW n) (stepD (wayS inner) (S x) w):=by rw[et,List.take_add_one,hs];simp[tSs]
  refine⟨[some (.lst ss),some (.str (S t)),some (.str (wayS inner)),some (.str (S x)),some w],[some (.lst ss),some (.str (S (t++tS (tW n) (stepD (wayS inner) (S x) w)))),some (.str (wayS inner)),some (.str (S x)),some w],rfl,?_,_,_,_,_,rfl,etj.symm⟩;unfold b_line_1;rw[sSeq_nx (ρ':=[some (.lst ss),some (.str (S (t++slash inner++x))),some (.str (wayS inner)),some (.str (S x)),some w]) (by
   rw[sSet_eq (d :=.str (S (t++slash inner++x))) (by rw[e2_eq (x :=.str (S (t++slash inner))) (y :=.str (S x)) (by rw[e2_eq (x :=.str (S t)) (y :=.str (S (slash inner))) rfl (slash_ix inner),addSS (by omega)]) rfl,addSS (by simp;omega)])]
   rfl)]
  have hdk:dOk w 180=true:=(wq_aOk n w hww).dOk 180 (by omega)
  have tne:tB1 (e2 oNe (eV 4) (eTup (aC (eK (.str (Str.ofString "any"))) aN))) [some (.lst ss),some (.str (S (t++slash inner++x))),some (.str (wayS inner)),some (.str (S x)),some w]=some (!deq w wAny):=by refine tB1_eq ?_;rw[e2_eq (x:=w) (y:=wAny) rfl rfl];unfold oNe;rw[if_pos (by rw[hdk];rfl)]
  rw[tS_step];obtain⟨c,r,ec,hc⟩:=tW_head hww;rcases hc with ⟨_,rfl⟩|⟨hc,ha⟩
  ·rw[sIf_f (by rw[tne];simp[deq,deqs])]
   have e0:(if isAnyW wAny=true then [] else 91::tW n wAny++[93])=([]:List Nat):=rfl
   rw[e0,List.append_nil,← List.append_assoc]
   rfl
  ·have hk:∃ k b,w=.tup [.str k,b]:=by
    cases n with
    | zero=>
     rcases hww with rfl|⟨x,_,rfl⟩
     ·cases ha
     ·exact⟨_,_,rfl⟩
    | succ n=>
     rcases hww with rfl|⟨x,_,rfl⟩|⟨ss,rfl,_⟩|⟨one,ws,rfl,_⟩
     ·cases ha
     ·exact⟨_,_,rfl⟩
     ·exact⟨_,_,rfl⟩
     ·exact⟨_,_,rfl⟩
   have hd:deq w wAny=false:=by obtain⟨k,b,rfl⟩:=hk;simp[deq,deqs]
   rw[sIf_t (by rw[tne,hd];rfl)]
   have eB:eCall Fw (aC (eV 4) aN) [some (.lst ss),some (.str (S (t++slash inner++x))),some (.str (wayS inner)),some (.str (S x)),some w]=some (.str (S (tW n w))):=hw w hww;rw[sSet_eq (d :=.str (S (t++slash inner++x++[91]++tW n w++[93]))) (by
    rw[e2_eq (x :=.str (S (t++slash inner++x++[91]++tW n w))) (y :=.str (S [93])) (by
     rw[e2_eq (x :=.str (S (t++slash inner++x++[91]))) (y :=.str (S (tW n w))) (by rw[e2_eq (x :=.str (S (t++slash inner++x))) (y :=.str (S [91])) rfl (by rw[← c91];rfl),addSS (by simp;omega)]) eB,addSS (by simp;omega)]) (by rw[← c93];rfl),addSS (by simp;omega)])]
   show some (DO.nx [some (.lst ss),some (.str (S (t++slash inner++x++[91]++tW n w++[93]))),some (.str (wayS inner)),some (.str (S x)),some w])=_;rw[ha];simp)
 rw[sSeq_nx (sFor_eq (f:=iL (eV 0)) rfl ef)];rw[List.take_length] at et;subst et
 rfl
end
theorem lw_all:∀ (n f:Nat),n≤3→2*n+1≤f→ShW (Fr_wish_text f) n
 | 0,f,_,hf=>by
  cases f with
  | zero=>omega
  | succ f=>rw[Fr_wish_text];exact lw0
 | n+1,f,hn,hf=>by
  cases f with
  | zero=>omega
  | succ f=>
   rw[Fr_wish_text];refine lw_ok hn ?_ (lw_all n f (by omega) (by omega))
   cases f with
   | zero=>omega
   | succ f=>rw[Fr_line];exact line_ok (by omega) (lw_all n f (by omega) (by omega))
theorem line_all {ss:List D}(h3:ss.length≤3) (hss:∀ s∈ss,WqS 3 s):F_line [.lst ss]=some (.str (S (tSs 3 ss))):=by
 unfold F_line;rw[Fr_line];exact line_ok (by decide) (lw_all 3 11 (by decide) (by decide)) ss h3 hss
end K15
end
noncomputable section
open PySem L2
local macro_rules | `(tactic| walk_at "v") => `(tactic| simp only [runD, runO, startD, sSeq, sSet, sSetO, sRet, sRetF, sRetO, sIf, sNil, sFor, sApp, sItem, lstAt, e2, eV, eK, eF, eLst, eTup, eCall, fCall, aC, aN, tB1, tAndD, tOrD, tNotD, fLC, iL, iE, iR1, iR2, pN, pS, fSl, eSlS, iS, srcρ, tTru, eIs,
  List.length_cons, List.length_nil, List.map_cons, List.map_nil, List.cons_append, List.nil_append, List.replicate, List.getElem?_cons_zero, List.getElem?_cons_succ, List.getElem?_nil, Option.join_some, Option.join_none, Option.bind_some, Option.map_some, Option.getD_some, addI, subI, eqI, eqB, eqS, neI, neS, ltI, gtI, geI, ixL, ixT, lenL, lenT,
  List.set_cons_zero, List.set_cons_succ, if_true, if_false, Bool.false_eq_true, outD, outO, Nat.reduceAdd, Nat.reduceSub, Nat.reduceLeDiff])
noncomputable section
namespace K15
open PySem L2
theorem draws_ok (ns:List Int) (hns:ns.length≤63) (turn many:Int) (t0:0≤turn) (t1:turn≤1000) (m0:0≤many) (m1:many≤1000):∃ xs:List Int,F_draws [.scr ns,.int turn,.int many]=some (xs.map D.int)∧xs.length=many.toNat∧∀ x∈xs,0≤x:=by
 have hcl:(cut ns none (some 63)).length≤63:=yB (cut_le _ _ _) hns;generalize hcs:cut ns none (some 63)++[turn]=cs;have hcs1:1≤cs.length:=by rw[← hcs];simp
 have hcs2:cs.length≤64:=by rw[← hcs];simp;omega
 have e1:oAdd (.lst ((cut ns none (some 63)).map D.int)) (.lst [.int turn])=some (.lst (cs.map D.int)):=by simp only[oAdd];rw[if_pos (by simp[bigE_eq];omega),← hcs];simp
 obtain⟨c0,ec0⟩:=atI_int (xs:=cs) (z:=0) (by decide) (by omega)
 unfold F_draws g_draws;walk_at "v";rw[e1];walk_at "v";rw[ec0];walk_at "v";rw[fdivR ⟨by decide,by decide⟩]
 walk_at "v";rw[modR (by decide)]
 walk_at "v";by_cases hb:(c0/50000%2==1)=true
 ·rw[hb];walk_at "v";have hz:(cs.map D.int).length≤bigE:=by simp[bigE_eq];omega
  rw[if_pos hz];rw[lc_all (h:=fun d=>match d with|.int i =>.int (i/100000)|d=>d) (fun d hd=>by obtain⟨i,_,rfl⟩:=List.mem_map.mp hd;exact⟨_,rfl,by walk_at "v";rw[fdivR ⟨by decide,by decide⟩]⟩)]
  have el:(cs.map D.int).map (fun d=>match d with|.int i =>.int (i/100000)|d=>d)=(cs.map (· / 100000)).map D.int:=by simp
  rw[el];walk_at "v";rw[if_pos (show -(2 ^ 62)≤turn+many∧turn+many<2 ^ 62 from ⟨by omega,by omega⟩)]
  walk_at "v";have hl0:(cs.map (· / 100000)).length=cs.length:=by simp
  have hrl:(rngD 0 (turn+many).toNat).length=(turn+many).toNat:=rngD_len _ _;obtain⟨ρ',ef,⟨fs,ls,v6,v7,rfl,hfs,hls,hpos⟩⟩:=for_inv0 (τ:=gN 6) (g:=b_draws_1) (ds:=rngD 0 (turn+many).toNat) (fun i ρ=>∃ (fs ls:List Int) (v6 v7:Option D),ρ=[some (.scr ns),some (.int turn),some (.int many),some (.lst (cs.map D.int)),some (.lst (fs.map D.int)),some (.lst (ls.map D.int)),v6,v7,none,none]∧fs.length=i-turn.toNat∧ls.length=cs.length∧∀ x∈fs,0≤x)
   (ρ:=[some (.scr ns),some (.int turn),some (.int many),some (.lst (cs.map D.int)),some (.lst []),some (.lst ((cs.map (· / 100000)).map D.int)),none,none,none,none]) ⟨[],cs.map (· / 100000),none,none,rfl,by simp,hl0,fun x h=>by cases h⟩ (by
   rintro j d ρ hd ⟨fs,ls,v6,v7,rfl,hfs,hls,hpos⟩;obtain⟨hj,rfl⟩:=rngD_get hd;have hlp:(0:Int)<(ls.length:Int):=by omega
   have k0:=yC (0+(j:Int)) (show (ls.length:Int)≠0 by omega)
   have k1:=zY (0+(j:Int)) hlp;obtain⟨v,ev⟩:=atI_int (xs:=ls) k0 k1;by_cases hge:turn≤0+(j:Int)
   ·refine⟨_,[some (.scr ns),some (.int turn),some (.int many),some (.lst (cs.map D.int)),some (.lst ((fs++[v%2147483587]).map D.int)),some (.lst ((ls.set ((0+(j:Int))%(ls.length:Int)).toNat (v/2147483587)).map D.int)),some (.int (0+(j:Int))),some (.int ((0+(j:Int))%(ls.length:Int))),none,none],rfl,?_,⟨_,_,_,_,rfl,by simp[hfs];omega,by simp[hls],fun x hx =>?_⟩⟩
    ·unfold b_draws_1;walk_at "v";rw[zH,modR hlp];walk_at "v";rw[decide_eq_true hge];walk_at "v";rw[ev];walk_at "v";rw[modR (by decide)]
     walk_at "v";rw[if_pos (by rw[zH,bigE_eq];omega)]
     walk_at "v";rw[ev];walk_at "v";rw[fdivR ⟨by decide,by decide⟩]
     walk_at "v";rw[zH,ixN_pos k0 k1];walk_at "v";rw[set_map_int];simp
    ·rcases zO.mp hx with h|h
     ·exact hpos x h
     ·rw[yF.mp h];exact yC _ (by decide)
   ·refine⟨_,[some (.scr ns),some (.int turn),some (.int many),some (.lst (cs.map D.int)),some (.lst (fs.map D.int)),some (.lst ((ls.set ((0+(j:Int))%(ls.length:Int)).toNat (v/2147483587)).map D.int)),some (.int (0+(j:Int))),some (.int ((0+(j:Int))%(ls.length:Int))),none,none],rfl,?_,⟨_,_,_,_,rfl,by rw[hfs];omega,by simp[hls],hpos⟩⟩
    unfold b_draws_1;walk_at "v";rw[zH,modR hlp];walk_at "v";rw[decide_eq_false hge];walk_at "v";rw[ev];walk_at "v";rw[fdivR ⟨by decide,by decide⟩]
    walk_at "v";rw[zH,ixN_pos k0 k1];walk_at "v";rw[set_map_int])
  rw[ef];walk_at "v";rw[hrl] at hfs;exact⟨fs,rfl,by rw[hfs];omega,hpos⟩
 ·have hb':(c0/50000%2==1)=false:=by simpa using hb
  rw[hb'];walk_at "v";rw[if_pos (show -(2 ^ 62)≤many∧many<2 ^ 62 from ⟨by omega,by omega⟩)]
  walk_at "v";have hrl:(rngD 0 many.toNat).length=many.toNat:=rngD_len _ _;obtain⟨ρ',ef,⟨fs,v6,v8,v9,rfl,hfs,hpos⟩⟩:=for_inv0 (τ:=gN 6) (g:=b_draws_2) (ds:=rngD 0 many.toNat) (fun i ρ=>∃ (fs:List Int) (v6 v8 v9:Option D),ρ=[some (.scr ns),some (.int turn),some (.int many),some (.lst (cs.map D.int)),some (.lst (fs.map D.int)),none,v6,none,v8,v9]∧fs.length=i∧∀ x∈fs,0≤x)
   (ρ:=[some (.scr ns),some (.int turn),some (.int many),some (.lst (cs.map D.int)),some (.lst []),none,none,none,none,none]) ⟨[],none,none,none,rfl,rfl,fun x h=>by cases h⟩ (by
   rintro j d ρ hd ⟨fs,v6,v8,v9,rfl,hfs,hpos⟩;obtain⟨hj,rfl⟩:=rngD_get hd;have hlp:(0:Int)<(cs.length:Int):=by omega
   have k0:=yC (0+(j:Int)) (show (cs.length:Int)≠0 by omega)
   have k1:=zY (0+(j:Int)) hlp;obtain⟨v,ev⟩:=atI_int (xs:=cs) k0 k1;generalize hpl:(0+(j:Int)+turn)*(0+(j:Int)+turn)*7919+104729=place;generalize hn1:(v%2147483647+place)*48271%2147483647=num1;have n0:0≤num1:=by rw[← hn1];exact yC _ (by decide)
   have n1:num1<2147483647:=by rw[← hn1];exact zY _ (by decide)
   generalize hn2:(num1*num1+69621*(0+(j:Int)))%2147483629=num2;have p0:0≤num2:=by rw[← hn2];exact yC _ (by decide)
   have p1:num2<2147483629:=by rw[← hn2];exact zY _ (by decide)
   refine⟨_,[some (.scr ns),some (.int turn),some (.int many),some (.lst (cs.map D.int)),some (.lst ((fs++[num2*num2%2147483587]).map D.int)),none,some (.int (0+(j:Int))),none,some (.int place),some (.int num2)],rfl,?_,⟨_,_,_,_,rfl,by simp[hfs],fun x hx =>?_⟩⟩
   ·unfold b_draws_2;walk_at "v";rw[mulL ⟨by omega,by omega⟩]
    walk_at "v";rw[mulR ⟨by decide,by decide⟩]
    walk_at "v";rw[hpl,zH,modR hlp];walk_at "v";rw[ev];walk_at "v";rw[modR (by decide)]
    walk_at "v";rw[mulR ⟨by decide,by decide⟩]
    walk_at "v";rw[modR (by decide),hn1]
    walk_at "v";rw[mulL ⟨by omega,by omega⟩]
    walk_at "v";rw[mulL ⟨by decide,by decide⟩]
    walk_at "v";rw[modR (by decide),hn2]
    walk_at "v";rw[mulL ⟨by omega,by omega⟩]
    walk_at "v";rw[modR (by decide)]
    walk_at "v";rw[if_pos (by rw[zH,bigE_eq];omega)]
    simp
   ·rcases zO.mp hx with h|h
    ·exact hpos x h
    ·rw[yF.mp h];exact yC _ (by decide))
  rw[ef];walk_at "v";rw[hrl] at hfs;exact⟨fs,rfl,hfs,hpos⟩
end K15
end
noncomputable section
namespace K15
open PySem L2
theorem ints_dOks (xs:List Int) (n:Nat):dOks (xs.map D.int) n=true:=by
 induction xs with
 | nil=>rfl
 | cons x xs ih=>simp only[List.map_cons,dOks,dOk,ih,Bool.and_self]
theorem eqNilI (xs:List Int):oEq (.lst (xs.map D.int)) (.lst [])=some (.bl xs.isEmpty):=by
 simp only[oEq];rw[if_pos (by rw[dOk_lst (ints_dOks xs 179)];rfl)]
 cases xs<;>rfl
noncomputable def popZ (xs:List Int):Int:=xs.getLastD 0
theorem pop_ok (xs:List Int):F_pop [.lst (xs.map D.int)]=some (.int (popZ xs),xs.dropLast.map D.int):=by
 unfold F_pop g_pop runM;have t:tB1 (e2 oEq (eV 0) (eF (eLst aN))) [some (.lst (xs.map D.int))]=some xs.isEmpty:=by walk_at "v";rw[eqNilI];walk_at "v"
 rw[if_pos (show [D.lst (xs.map D.int)].length=1 from rfl)]
 show (sSeq _ _ [some (.lst (xs.map D.int))]).bind (outM 0)=_;rcases List.eq_nil_or_concat xs with rfl|⟨ys,x,rfl⟩
 ·have e:sIf (tB1 (e2 oEq (eV 0) (eF (eLst aN)))) (sRetM (mP (eK (.int 0)))) sNil [some (.lst (([]:List Int).map D.int))]=some (.rm (.int 0) [some (.lst [])]):=by rw[sIf_t t];rfl
  simp only[sSeq,e,zA]
  rfl
 ·have e:sIf (tB1 (e2 oEq (eV 0) (eF (eLst aN)))) (sRetM (mP (eK (.int 0)))) sNil [some (.lst ((ys.concat x).map D.int))]=some (.nx [some (.lst ((ys.concat x).map D.int))]):=by rw[sIf_f (by rw[t];simp)];rfl
  rw[sSeq_nx e];simp only[sRetM,mPop];walk_at "v";simp[outM,lstAt,eV,popZ]
theorem text_ok (n:Int):∃ x:List Nat,TxL x∧F_text [.int n]=some (.str (S x)):=by
 unfold F_text g_text;walk_at "v";have q0:=yC n (show (8:Int)≠0 by decide)
 have q1:=zY n (show (0:Int)<8 by decide)
 have em:[D.str (Str.ofString ""),D.str (Str.ofString "x"),D.str (Str.ofString "any"),D.str (Str.ofString "\""),D.str (Str.ofString "\\"),D.str (Str.ofString "\\q"),D.str (Str.ofString "a b"),D.str (Str.ofString "]")]=(texts8.map S).map D.str:=by
  have:[Str.ofString "",Str.ofString "x",Str.ofString "any",Str.ofString "\"",Str.ofString "\\",Str.ofString "\\q",Str.ofString "a b",Str.ofString "]"]=texts8.map S:=by decide +kernel
  rw[← this];rfl
 have e8:oMod (.int n) (.int ((8:Nat):Int))=some (.int (n%8)):=modR (by decide)
 rw[em];obtain⟨x,ex,hm⟩:=atI_str (xs:=texts8.map S) q0 (by simpa [texts8] using q1)
 obtain⟨l,hl,rfl⟩:=List.mem_map.mp hm;refine⟨l,hl,?_⟩;show (Option.map DO.rt ((oMod (.int n) (.int ((8:Nat):Int))).bind fun y=>oIx (.lst _) y)).bind outD=_
 rw[e8];simp only[zA,ixL];rw[ex]
 rfl
end K15
end
noncomputable section
namespace K15
open PySem L2
theorem lc_ex {ρ:DEnv}{τ:DTg}{fe:DF}{Pr:D→Prop}:∀ {ds:List D},(∀ d∈ds,∃ ρ1 x,τ d ρ=some ρ1∧fe ρ1=some x∧Pr x)→∃ rs,lcD ρ τ tYes fe ds=some rs∧rs.length=ds.length∧∀ x∈rs,Pr x
 | [],_=>⟨[],rfl,rfl,fun x h=>by cases h⟩
 | d::ds,h=>by
  obtain⟨ρ1,x,e1,e2,px⟩:=h d zD;obtain⟨rs,er,hl,hp⟩:=lc_ex fun d hd=>h d (zB _ hd)
  refine⟨x::rs,?_,by simp[hl],fun y hy =>?_⟩
  ·simp only[lcD,e1,zA,tYes,if_true,e2,er,zT]
  ·rcases zG.mp hy with rfl|hy
   ·exact px
   ·exact hp y hy
theorem lenS {x:Str}(h:x.length≤bigE):oLen [.str x]=some (.int x.length):=by simp[oLen,h]
noncomputable abbrev letters:Str:=Str.ofString "abcdefghijklmnopqrstuvwxyz"
theorem letter (i:Int) (h0:0≤i) (h1:i<26):∃ c,oIx (.str letters) (.int i)=some (.str (S [c]))∧97≤c∧c≤122:=by
 have hl:letters.length≤bigE:=by decide +kernel
 have h26:letters.cps.toList.length=26:=by decide +kernel
 obtain⟨c,ec,hc⟩:=atI_pos (xs:=letters.cps.toList) h0 (by rw[h26];exact h1)
 have hlow:∀ c∈letters.cps.toList,97≤c∧c≤122:=by decide +kernel
 refine⟨c,?_,hlow c hc⟩;simp only[oIx];rw[if_pos hl,ec];rfl
theorem small64 {z:Int}(h0:0≤z) (h1:z≤100000) : -(2 ^ 64)<z∧z<2 ^ 64:=⟨Int.lt_of_lt_of_le (by decide) h0,Int.lt_of_le_of_lt h1 (by decide)⟩
end K15
end
noncomputable section
namespace K15
open PySem L2
theorem name_lc (draw z:Int) (z0:0≤z) (z1:z≤11) (L:Str) (hL:∀ i:Int,0≤i→i<26→∃ c,oIx (.str L) (.int i)=some (.str (S [c]))∧97≤c∧c≤122):∃ c,e2 oIx (eV 1) (e2 oMod (e2 oAdd (e2 oFdiv (eV 2) (eK (.int 150))) (e2 oMul (eV 0) (eV 0))) (eK (.int 26))) [some (.int z),some (.str L),some (.int draw)]=some (.str (S [c]))∧97≤c∧c≤122:=by
 obtain⟨c,ec,hc⟩:=hL ((draw/150+z*z)%26) (yC _ (by decide)) (zY _ (by decide))
 refine⟨c,?_,hc⟩;walk_at "v";rw[fdivR ⟨by decide,by decide⟩]
 walk_at "v";rw[mulL (small64 z0 (by omega))]
 walk_at "v";rw[modR (by decide)]
 walk_at "v";exact ec
noncomputable def gL_name (L:Str):DG:=
  (sSeq (sSet 2 (eK (.str L)))
  (sSeq (sSet 3 (e2 oJoin (eK (.str (Str.ofString ""))) (eF (fLC (iR1 (e2 oMod (eV 1) (eK (.int 5)))) [none,some 2,some 1] (gN 0) tYes (e2 oIx (eV 1) (e2 oMod (e2 oAdd (e2 oFdiv (eV 2) (eK (.int 150))) (e2 oMul (eV 0) (eV 0))) (eK (.int 26))))))))
  (sSeq (sSet 4 (e2 oMod (e2 oFdiv (eV 1) (eK (.int 5))) (e2 oAdd (eCall oLen (aC (eV 3) aN)) (eK (.int 1)))))
  (sRet (e2 oAdd (e2 oAdd (eSlS (eV 3) pN (pS (eV 4))) (e2 oIx (eV 2) (e2 oMod (e2 oAdd (eV 0) (eV 1)) (eK (.int 26))))) (eSlS (eV 3) (pS (eV 4)) pN))))))
theorem gL_eq:g_name=gL_name letters:=rfl
theorem nameL_ok (L:Str) (hL:∀ i:Int,0≤i→i<26→∃ c,oIx (.str L) (.int i)=some (.str (S [c]))∧97≤c∧c≤122) (k draw:Int):∃ x:List Nat,runD 2 5 (gL_name L) [.int k,.int draw]=some (.str (S x))∧NmL x:=by
 have m0:=yC draw (show (5:Int)≠0 by decide)
 have m1:=zY draw (show (0:Int)<5 by decide)
 have e11:oMod (.int draw) (.int 5)=some (.int (draw%5)):=modR (by decide)
 generalize draw%5=md at *
 obtain⟨rs,er,hrl,hrs⟩:=lc_ex (ρ:=[none,some (.str L),some (.int draw)]) (τ:=gN 0) (fe:=e2 oIx (eV 1) (e2 oMod (e2 oAdd (e2 oFdiv (eV 2) (eK (.int 150))) (e2 oMul (eV 0) (eV 0))) (eK (.int 26)))) (Pr:=fun x=>∃ c,x=.str (S [c])∧97≤c∧c≤122) (ds:=rngD 0 md.toNat) fun d hd=>by
  obtain⟨j,hj⟩:=List.mem_iff_getElem?.mp hd;obtain⟨hj,rfl⟩:=rngD_get hj;have a0:(0:Int)≤0+(j:Int):=by omega
  have a1:(0:Int)+(j:Int)≤11:=by omega
  generalize (0:Int)+(j:Int)=z at a0 a1;obtain⟨c,ec,hc⟩:=name_lc draw z a0 a1 L hL;exact⟨_,_,rfl,ec,c,rfl,hc⟩
 rw[rngD_len] at hrl;obtain⟨cs,ers,hcs⟩:∃ cs:List Nat,rs=(cs.map fun c=>[c]).map (fun l=>D.str (S l))∧∀ c∈cs,97≤c∧c≤122:=by
  clear er hrl
  induction rs with
  | nil=>exact⟨[],rfl,fun c h=>by cases h⟩
  | cons d ds ih=>
   obtain⟨c,rfl,hc⟩:=hrs d zD;obtain⟨cs,rfl,h⟩:=ih fun x hx=>hrs x (zB _ hx)
   exact⟨c::cs,rfl,fun x hx=>by rcases zG.mp hx with rfl|hx;exact hc;exact h x hx⟩
 have hcl:cs.length≤4:=by rw[ers] at hrl;simp at hrl;omega
 have hsum:∀ cs:List Nat,sumLen (cs.map fun c=>[c])=cs.length:=fun cs=>by
  induction cs with
  | nil=>rfl
  | cons c cs ih=>simp[sumLen] at ih ⊢;omega
 have hflat:∀ cs:List Nat,(cs.map fun c=>[c]).flatten=cs:=fun cs=>by
  induction cs with
  | nil=>rfl
  | cons c cs ih=>simp[ih]
 have eb:oJoin (.str (Str.ofString "")) (.lst rs)=some (.str (S cs)):=by rw[ers,c0,joinD (by rw[hsum,bigE_eq];simp;omega),joinL_nil_sep,hflat]
 obtain⟨c,ec,hc⟩:=hL ((k+draw)%26) (yC _ (by decide)) (zY _ (by decide))
 have hbb:(S cs).length≤bigE:=by rw[S_len,bigE_eq];omega
 have hlen:oLen [.str (S cs)]=some (.int ((S cs).length:Int)):=lenS hbb;have hl0:(0:Int)≤((S cs).length:Int):=Int.natCast_nonneg _;have hmz:(rngD 0 md.toNat).length≤bigE:=by rw[rngD_len,bigE_eq];omega
 have hr1 : -(2 ^ 62)≤md∧md<2 ^ 62:=⟨Int.le_trans (by decide) m0,Int.lt_trans m1 (by decide)⟩
 unfold gL_name;walk_at "v";rw[e11];walk_at "v";rw[if_pos hr1];walk_at "v";rw[if_pos hmz];rw[er];walk_at "v";rw[eb];walk_at "v";rw[hlen];generalize hbl:((S cs).length:Int)=bl at hl0;rw[fdivR ⟨by decide,by decide⟩]
 walk_at "v";rw[modR (by omega)]
 walk_at "v";generalize draw/5%(bl+1)=at_;have s1:=Txt.slice_le (S cs) none (some at_);have s2:=Txt.slice_le (S cs) (some at_) none;have i1:=fun d=>slice_mem (S cs) none (some at_) (c:=d)
 have i2:=fun d=>slice_mem (S cs) (some at_) none (c:=d)
 generalize hx1:Txt.slice (S cs) none (some at_)=x1 at *
 generalize hx2:Txt.slice (S cs) (some at_) none=x2 at *
 rw[S_of x1,S_of x2];rw[S_of x1,S_len] at s1;rw[S_of x2,S_len] at s2;rw[S_len] at s1 s2;rw[if_pos hbb,modR (by decide)]
 walk_at "v";rw[ec];walk_at "v";rw[addSS (by rw[bigE_eq];simp only[zP,List.length_nil];omega)]
 walk_at "v";rw[if_pos hbb];walk_at "v";rw[addSS (by rw[bigE_eq,List.length_append];simp only[zP,List.length_nil];omega)]
 refine⟨_,rfl,.inr ⟨by simp,?_,fun d hd =>?_⟩⟩
 ·rw[List.length_append,List.length_append];simp only[zP,List.length_nil];omega
 ·rw[S_list] at i1 i2;rcases zO.mp hd with hd|hd
  ·rcases zO.mp hd with hd|hd
   ·exact hcs d (i1 d hd)
   ·rw[yF.mp hd];exact hc
  ·exact hcs d (i2 d hd)
theorem name_ok (k draw:Int):∃ x:List Nat,F_name [.int k,.int draw]=some (.str (S x))∧NmL x:=by
 unfold F_name;rw[gL_eq];exact nameL_ok letters letter k draw
theorem names_ok (draw:Int):∃ nms:List (List Nat),F_names [.int draw]=some (.lst ((nms.map S).map D.str))∧1≤nms.length∧nms.length≤4∧∀ x∈nms,NmL x:=by
 have m0:=yC (draw/7) (show (4:Int)≠0 by decide)
 have m1:=zY (draw/7) (show (0:Int)<4 by decide)
 have e1:oMod (.int (draw/7)) (.int 4)=some (.int (draw/7%4)):=modR (by decide)
 generalize draw/7%4=md at *
 obtain⟨rs,er,hrl,hrs⟩:=lc_ex (ρ:=[none,some (.int draw)]) (τ:=gN 0) (fe:=eCall F_name (aC (eV 0) (aC (eV 1) aN))) (Pr:=fun x=>∃ c,x=.str (S c)∧NmL c) (ds:=rngD 0 (1+md).toNat) fun d hd=>by obtain⟨j,hj⟩:=List.mem_iff_getElem?.mp hd;obtain⟨hj,rfl⟩:=rngD_get hj;generalize (0:Int)+(j:Int)=z;obtain⟨x,ex,hx⟩:=name_ok z draw;refine⟨_,.str (S x),rfl,?_,x,rfl,hx⟩;walk_at "v";exact ex
 rw[rngD_len] at hrl;have hmz:(rngD 0 (1+md).toNat).length≤bigE:=by rw[rngD_len,bigE_eq];omega
 have hr1 : -(2 ^ 62)≤1+md∧1+md<2 ^ 62:=⟨Int.le_trans (by decide) (show 0≤1+md by omega),Int.lt_of_le_of_lt (show 1+md≤4 by omega) (by decide)⟩
 have hm:∃ nms:List (List Nat),rs=(nms.map S).map D.str∧∀ x∈nms,NmL x:=by
  clear er hrl
  induction rs with
  | nil=>exact⟨[],rfl,fun x h=>by cases h⟩
  | cons d ds ih=>
   obtain⟨c,rfl,hc⟩:=hrs d zD;obtain⟨nms,rfl,h⟩:=ih fun x hx=>hrs x (zB _ hx)
   exact⟨c::nms,rfl,fun x hx=>by rcases zG.mp hx with rfl|hx;exact hc;exact h x hx⟩
 obtain⟨nms,rfl,hnm⟩:=hm;refine⟨nms,?_,by simp at hrl;omega,by simp at hrl;omega,hnm⟩
 unfold F_names g_names;walk_at "v";rw[fdivR ⟨by decide,by decide⟩]
 walk_at "v";rw[e1];walk_at "v";rw[if_pos hr1];walk_at "v";rw[if_pos hmz,er]
 rfl
end K15
end
noncomputable section
namespace K15
open PySem L2
local macro_rules | `(tactic| walk_at "m") => `(tactic| simp only [runM, startD, sSeq, sSet, sSetO, sIf, sNil, lstAt, e2, eV, eK, eF, eLst, eTup, eCall, fCall, aC, aN, tB1, tAndD, tOrD, tNotD, iL, iR1, srcρ, sSetM, sRetM, sRetMO, sAppM, sForM, iRM, m2, mP, mAN, mAC, mTup, mCall, mLC, outM,
  List.length_cons, List.length_nil, List.map_cons, List.map_nil, List.cons_append, List.nil_append, List.replicate, List.getElem?_cons_zero, List.getElem?_cons_succ, List.getElem?_nil, Option.join_some, Option.join_none, Option.bind_some, Option.map_some, Option.getD_some, addI, subI, eqI, eqB, eqS, ltI, gtI, geI, ixL, ixT, lenL, lenT,
  List.set_cons_zero, List.set_cons_succ, if_true, if_false, Bool.false_eq_true, Nat.reduceAdd, Nat.reduceSub, Nat.reduceLeDiff])
theorem lcM_ex {ρ:DEnv}{τ:DTg}{fe:DM}{i0:Nat}{Pr:D→Prop}:∀ {ds:List D}(xs:List Int),(∀ d∈ds,∀ xs:List Int,∃ (ρ1:DEnv) (x:D) (ρ2:DEnv) (xs':List Int),τ d (ρ.set i0 (some (.lst (xs.map D.int))))=some ρ1∧fe ρ1=some (x,ρ2)∧lstAt i0 ρ2=some (xs'.map D.int)∧Pr x)→∃ rs xs',lcM ρ τ fe i0 ds (xs.map D.int)=some (rs,List.map D.int xs')∧rs.length=ds.length∧∀ x∈rs,Pr x
 | [],xs,_=>⟨[],xs,rfl,rfl,fun x h=>by cases h⟩
 | d::ds,xs,h=>by
  obtain⟨ρ1,x,ρ2,xs1,e1,e2,e3,px⟩:=h d zD xs;obtain⟨rs,xs',er,hl,hp⟩:=lcM_ex (ds:=ds) xs1 fun d hd=>h d (zB _ hd)
  refine⟨x::rs,xs',?_,by simp[hl],fun y hy =>?_⟩
  ·simp only[lcM,e1,zA,e2,e3,er,zT]
  ·rcases zG.mp hy with rfl|hy
   ·exact px
   ·exact hp y hy
theorem WqW.any (n:Nat):WqW n wAny:=by cases n<;>exact .inl rfl
theorem WqW.text (n:Nat){x:List Nat}(h:TxL x):WqW n (wText (S x)):=by
 cases n with
 | zero=>exact .inr ⟨x,h,rfl⟩
 | succ n=>exact .inr (.inl ⟨x,h,rfl⟩)
noncomputable abbrev qA (xs:List Int) (nms:List (List Nat)) (dp:Int):List D:=[.lst (xs.map D.int),.lst ((nms.map S).map D.str),.int dp]
theorem wish_step (Fw Fs:List D→Option (D×List D)) (n:Nat) (dp:Int) (hdp:dp=n) (nms:List (List Nat))
  (hs:∀ m,n=m+1→∀ xs:List Int,∃ (ss:List D) (xs':List Int),Fs (qA xs nms (dp-1))=some (.lst ss,xs'.map D.int)∧1≤ss.length∧ss.length≤3∧∀ s∈ss,WqS m s)
  (hw:∀ m,n=m+1→∀ xs:List Int,∃ (w:D) (xs':List Int),Fw (qA xs nms (dp-1))=some (w,xs'.map D.int)∧WqW m w)
  (xs:List Int):∃ (w:D) (xs':List Int),runM 3 6 0 (g_wish Fw Fs) (qA xs nms dp)=some (w,xs'.map D.int)∧WqW n w:=by
 have q0:=yC (popZ xs) (show (8:Int)≠0 by decide)
 have q1:=zY (popZ xs) (show (0:Int)<8 by decide)
 have e8:oMod (.int (popZ xs)) (.int 8)=some (.int (popZ xs%8)):=modR (by decide)
 have f8:oFdiv (.int (popZ xs)) (.int 8)=some (.int (popZ xs/8)):=fdivR ⟨by decide,by decide⟩
 have hpop:=pop_ok xs;generalize popZ xs=num at *
 generalize num%8=kd at *
 generalize num/8=nd at *
 unfold g_wish;walk_at "m";rw[hpop];walk_at "m";rw[e8];walk_at "m";by_cases k2:kd=2∨kd=3
 ·have:(if (kd==2)=true then some true else some (kd==3))=some true:=by rcases k2 with rfl|rfl<;>rfl
  rw[this];walk_at "m";rw[f8];walk_at "m";obtain⟨x,hx,ex⟩:=text_ok nd;rw[ex];walk_at "m";exact⟨_,xs.dropLast,rfl,WqW.text _ hx⟩
 ·have:(if (kd==2)=true then some true else some (kd==3))=some false:=by
   have a:(kd==2)=false:=by simp;exact fun z=>k2 (.inl z)
   have b:(kd==3)=false:=by simp;exact fun z=>k2 (.inr z)
   rw[a,b];rfl
  rw[this];walk_at "m";by_cases k1:kd<2∨dp=0
  ·have:(if decide (kd<2)=true then some true else some (dp==0))=some true:=by
    by_cases a:kd<2
    ·rw[decide_eq_true a];rfl
    ·rw[decide_eq_false a];rcases k1 with z|z
     ·exact absurd z a
     ·rw[z];rfl
   rw[this];walk_at "m";exact⟨_,xs.dropLast,rfl,WqW.any _⟩
  ·have:(if decide (kd<2)=true then some true else some (dp==0))=some false:=by
    have a:¬ kd<2:=fun z=>k1 (.inl z)
    have b:(dp==0)=false:=by simp;exact fun z=>k1 (.inr z)
    rw[decide_eq_false a,b];rfl
   rw[this];walk_at "m";obtain⟨m,hm⟩:∃ m,n=m+1:=by
    cases n with
    | zero=>exact absurd (.inr (by rw[hdp];rfl)) k1
    | succ m=>exact⟨m,rfl⟩
   subst hm;by_cases k6:kd<6
   ·rw[decide_eq_true k6];walk_at "m";obtain⟨ss,xs',es,l0,l1,hss⟩:=hs m rfl xs.dropLast;simp only[qA] at es;rw[es];walk_at "m";exact⟨_,xs',rfl,.inr (.inr (.inl ⟨ss,rfl,l0,l1,hss⟩))⟩
   ·rw[decide_eq_false k6];walk_at "m";rw[f8];walk_at "m";rw[modR (by decide)]
    walk_at "m";have r0:=yC nd (show (4:Int)≠0 by decide)
    have r1:=zY nd (show (0:Int)<4 by decide)
    generalize nd%4=md at *
    obtain⟨mn,em,m0,m1⟩:∃ mn:Int,atI [D.int 2,D.int 1,D.int 0,D.int 3] md=some (.int mn)∧0≤mn∧mn≤3:=by
     have:md=0∨md=1∨md=2∨md=3:=by omega
     rcases this with rfl|rfl|rfl|rfl
     ·exact⟨2,rfl,by decide,by decide⟩
     ·exact⟨1,rfl,by decide,by decide⟩
     ·exact⟨0,rfl,by decide,by decide⟩
     ·exact⟨3,rfl,by decide,by decide⟩
    rw[em];walk_at "m";obtain⟨one,ek⟩:∃ one:Bool,atI [D.str (Str.ofString "both"),D.str (Str.ofString "one")] (kd-6)=some (.str (kindS one)):=by
     have:kd=6∨kd=7:=by omega
     rcases this with rfl|rfl
     ·exact⟨false,rfl⟩
     ·exact⟨true,rfl⟩
    rw[ek];walk_at "m";have hr1 : -(2 ^ 62)≤mn∧mn<2 ^ 62:=⟨Int.le_trans (by decide) m0,Int.lt_of_le_of_lt m1 (by decide)⟩
    rw[if_pos hr1];walk_at "m";have hz:(rngD 0 mn.toNat).length≤bigE:=by rw[rngD_len,bigE_eq];omega
    rw[if_pos hz];obtain⟨ws,xs',el,hl,hws⟩:=lcM_ex (ρ:=[none,some (.lst (xs.dropLast.map D.int)),some (.lst ((nms.map S).map D.str)),some (.int dp)]) (τ:=gN 0) (fe:=mCall Fw 1 (aC (eV 2) (aC (e2 oSub (eV 3) (eK (.int 1))) aN))) (i0:=1) (Pr:=WqW m) (ds:=rngD 0 mn.toNat) xs.dropLast fun d _ ys=>by obtain⟨w,ys',ew,hww⟩:=hw m rfl ys;simp only[qA] at ew;refine⟨_,w,[some d,some (.lst (ys'.map D.int)),some (.lst ((nms.map S).map D.str)),some (.int dp)],ys',rfl,?_,rfl,hww⟩;walk_at "m";rw[ew];walk_at "m"
    rw[el];walk_at "m";rw[rngD_len] at hl;exact⟨_,xs',rfl,.inr (.inr (.inr ⟨one,ws,rfl,by omega,hws⟩))⟩
theorem steps_step (Fw Fs:List D→Option (D×List D)) (n:Nat) (dp:Int) (nms:List (List Nat)) (hn:nms.length≤100) (hnm:∀ x∈nms,NmL x)
  (hw:∀ xs:List Int,∃ (w:D) (xs':List Int),Fw (qA xs nms dp)=some (w,xs'.map D.int)∧WqW n w)
  (xs:List Int):∃ (ss:List D) (xs':List Int),runM 3 7 0 (g_steps Fw Fs) (qA xs nms dp)=some (.lst ss,xs'.map D.int)∧1≤ss.length∧ss.length≤3∧∀ s∈ss,WqS n s:=by
 have r0:=yC (popZ xs) (show (4:Int)≠0 by decide)
 have r1:=zY (popZ xs) (show (0:Int)<4 by decide)
 have e4:oMod (.int (popZ xs)) (.int 4)=some (.int (popZ xs%4)):=modR (by decide)
 have hpop:=pop_ok xs;generalize popZ xs=num at *
 generalize num%4=md at *
 obtain⟨mn,em,m0,m1⟩:∃ mn:Int,atI [D.int 1,D.int 1,D.int 2,D.int 3] md=some (.int mn)∧1≤mn∧mn≤3:=by
  have:md=0∨md=1∨md=2∨md=3:=by omega
  rcases this with rfl|rfl|rfl|rfl
  ·exact⟨1,rfl,by decide,by decide⟩
  ·exact⟨1,rfl,by decide,by decide⟩
  ·exact⟨2,rfl,by decide,by decide⟩
  ·exact⟨3,rfl,by decide,by decide⟩
 have hr1 : -(2 ^ 62)≤mn∧mn<2 ^ 62:=⟨Int.le_trans (by decide) m0,Int.lt_of_le_of_lt m1 (by decide)⟩
 unfold g_steps;walk_at "m";rw[hpop];walk_at "m";rw[e4];walk_at "m";rw[em];walk_at "m";rw[if_pos hr1];walk_at "m";have hl0:(0:Int)≤(nms.length:Int):=Int.natCast_nonneg _;obtain⟨ρ',ef,ys,ss,v4,v5,v6,rfl,hl,hss⟩:=for_inv0 (τ:=gN 4) (g:=b_steps_1 Fw Fs) (ds:=rngD 0 mn.toNat) (fun i ρ=>∃ (ys:List Int) (ss:List D) (v4 v5 v6:Option D),ρ=[some (.lst (ys.map D.int)),some (.lst ((nms.map S).map D.str)),some (.int dp),some (.lst ss),v4,v5,v6]∧ss.length=i∧∀ s∈ss,WqS n s)
  (ρ:=[some (.lst (xs.dropLast.map D.int)),some (.lst ((nms.map S).map D.str)),some (.int dp),some (.lst []),none,none,none]) ⟨xs.dropLast,[],none,none,none,rfl,rfl,fun s h=>(by cases h)⟩ (by
  rintro j d ρ hd ⟨ys,ss,v4,v5,v6,rfl,hl,hss⟩;have hj:j<mn.toNat:=by have:=(zC.mp hd).1;rw[rngD_len] at this;exact this
  have hpop:=pop_ok ys;generalize popZ ys=num at *
  obtain⟨w,zs,ew,hww⟩:=hw ys.dropLast;simp only[qA] at ew;have hlen:(((nms.map S).map D.str++[D.str (Str.ofString "*")]).length:Int)=(nms.length:Int)+1:=by simp
  have t0:=yC (num/2) (show (nms.length:Int)+1≠0 by omega)
  have t1:=zY (num/2) (show (0:Int)<(nms.length:Int)+1 by omega)
  obtain⟨nm0,en,hmem⟩:=atI_str (xs:=nms.map S++[Str.ofString "*"]) (z:=num/2%((nms.length:Int)+1)) t0 (by simpa using t1)
  rw[List.map_append] at en;obtain⟨nx,rfl,hnx⟩:∃ x,nm0=S x∧NmL x:=by
   rcases zO.mp hmem with h|h
   ·obtain⟨x,hx,rfl⟩:=List.mem_map.mp h;exact⟨x,rfl,hnm x hx⟩
   ·rw[yF.mp h,c42];exact⟨[42],rfl,.inl rfl⟩
  obtain⟨inner,ey⟩:∃ inner:Bool,atI [D.str (Str.ofString "inner"),D.str (Str.ofString "own")] (num%2)=some (.str (wayS inner)):=by
   have:num%2=0∨num%2=1:=by omega
   rcases this with z|z
   ·rw[z];exact⟨true,rfl⟩
   ·rw[z];exact⟨false,rfl⟩
  refine⟨_,[some (.lst (zs.map D.int)),some (.lst ((nms.map S).map D.str)),some (.int dp),some (.lst (ss++[stepD (wayS inner) (S nx) w])),some d,some (.int num),some (.str (S nx))],rfl,?_,zs,ss++[stepD (wayS inner) (S nx) w],some d,some (.int num),some (.str (S nx)),rfl,by simp[hl],fun s hs =>?_⟩
  ·unfold b_steps_1;walk_at "m";rw[hpop];walk_at "m";rw[fdivR ⟨by decide,by decide⟩]
   walk_at "m";have hadd:oAdd (.lst ((nms.map S).map D.str)) (.lst [.str (Str.ofString "*")])=some (.lst ((nms.map S).map D.str++[.str (Str.ofString "*")])):=by simp only[oAdd];rw[if_pos (by simp[bigE_eq];omega)]
   rw[hadd];walk_at "m";rw[zH,zH];rw[modR (by omega)]
   walk_at "m";rw[show atI ((nms.map S).map D.str++[D.str (Str.ofString "*")]) (num/2%((nms.length:Int)+1))=some (.str (S nx)) from en]
   walk_at "m";rw[modR (by decide)]
   walk_at "m";rw[ey];walk_at "m";rw[ew];walk_at "m";rw[if_pos (by rw[bigE_eq];omega)]
  ·rcases zO.mp hs with hs|hs
   ·exact hss s hs
   ·have:s=stepD (wayS inner) (S nx) w:=by simpa using hs
    exact⟨inner,nx,w,this,hnx,hww⟩)
 rw[ef];walk_at "m";rw[rngD_len] at hl;exact⟨ss,ys,rfl,by omega,by omega,hss⟩
theorem wish_steps_ok (nms:List (List Nat)) (hn:nms.length≤100) (hnm:∀ x∈nms,NmL x):∀ (n:Nat),
  (∀ (fuel:Nat) (xs:List Int),2*n+1≤fuel→∃ (w:D) (xs':List Int),Fr_wish fuel (qA xs nms (n:Int))=some (w,xs'.map D.int)∧WqW n w) ∧
  (∀ (fuel:Nat) (xs:List Int),2*n+2≤fuel→∃ (ss:List D) (xs':List Int),Fr_steps fuel (qA xs nms (n:Int))=some (.lst ss,xs'.map D.int)∧1≤ss.length∧ss.length≤3∧∀ s∈ss,WqS n s):=by
 intro n;have hst:∀ (k:Nat),(∀ (fuel:Nat) (xs:List Int),2*k+1≤fuel→∃ (w:D) (xs':List Int),Fr_wish fuel (qA xs nms (k:Int))=some (w,xs'.map D.int)∧WqW k w)→(∀ (fuel:Nat) (xs:List Int),2*k+2≤fuel→∃ (ss:List D) (xs':List Int),Fr_steps fuel (qA xs nms (k:Int))=some (.lst ss,xs'.map D.int)∧1≤ss.length∧ss.length≤3∧∀ s∈ss,WqS k s):=by
  intro k hk fuel xs hf;cases fuel with
  | zero=>omega
  | succ f=>rw[Fr_steps];exact steps_step (Fr_wish f) (Fr_steps f) k (k:Int) nms hn hnm (fun ys=>hk f ys (by omega)) xs
 induction n with
 | zero=>
  have h1:∀ (fuel:Nat) (xs:List Int),2*0+1≤fuel→∃ (w:D) (xs':List Int),Fr_wish fuel (qA xs nms ((0:Nat):Int))=some (w,xs'.map D.int)∧WqW 0 w:=by
   intro fuel xs hf;cases fuel with
   | zero=>omega
   | succ f=>rw[Fr_wish];exact wish_step (Fr_wish f) (Fr_steps f) 0 _ rfl nms (fun m h=>by cases h) (fun m h=>by cases h) xs
  exact⟨h1,hst 0 h1⟩
 | succ m ih=>
  have h1:∀ (fuel:Nat) (xs:List Int),2*(m+1)+1≤fuel→∃ (w:D) (xs':List Int),Fr_wish fuel (qA xs nms ((m+1:Nat):Int))=some (w,xs'.map D.int)∧WqW (m+1) w:=by
   intro fuel xs hf;cases fuel with
   | zero=>omega
   | succ f=>
    rw[Fr_wish];have e:((m+1:Nat):Int)-1=(m:Int):=by omega
    refine wish_step (Fr_wish f) (Fr_steps f) (m+1) _ rfl nms (fun k h ys =>?_) (fun k h ys =>?_) xs
    ·cases h;rw[e];exact ih.2 f ys (by omega)
    ·cases h;rw[e];exact ih.1 f ys (by omega)
  exact⟨h1,hst (m+1) h1⟩
theorem steps_ok (nms:List (List Nat)) (hn:nms.length≤100) (hnm:∀ x∈nms,NmL x) (xs:List Int):∃ (ss:List D) (xs':List Int),F_steps (qA xs nms 3)=some (.lst ss,xs'.map D.int)∧1≤ss.length∧ss.length≤3∧∀ s∈ss,WqS 3 s:=
 (wish_steps_ok nms hn hnm 3).2 12 xs (by decide)
end K15
end
noncomputable section
set_option maxHeartbeats 1000000
namespace L2
open PySem PySem.Spec PyProof.Rows
noncomputable section
variable {K:Frag}{B:Bs}{own:List Nat}{G G' H H':Hp}{σ:St}{ρ:DEnv}
theorem RepO.monoG (s:Same G G'){d:D}{v:V}(r:RepO K G H d v):RepO K G' H d v:=by
 rcases r with r|⟨a,o,e1,e2,e3⟩
 ·exact .inl (Rep.mono s d r)
 ·exact .inr ⟨a,o,e1,e2,e3.mono s⟩
theorem SR.setN {i:Nat}{v:V}(S:SR K B own G H σ ρ) (hi:i∉own):SR K B own G H (σ.set i (some v)) (ρ.set i none):=by
 have ne:∀ j,j∈own→i≠j:=fun j hj e=>hi (e ▸ hj)
 have un:∀ (j:Nat) (d:D),(ρ.set i none)[j]?=some (some d)→i≠j∧ρ[j]?=some (some d):=fun j d e=>by
  by_cases h:i=j
  ·subst h;by_cases hl:i<ρ.length
   ·rw[List.getElem?_set_self hl] at e;cases e
   ·rw[List.getElem?_eq_none (by simpa using hl)] at e;cases e
  ·rw[zK h] at e;exact⟨h,e⟩
 refine⟨S.gh,S.g0,S.h0,S.fr,fun j c hj e =>?_,fun j c hj e =>?_,fun j k a hj hk dj dk ej ek =>?_,by simp[S.len],fun j a h=>⟨(S.pin j a h).1,by rw[zK (ne j (S.pin j a h).1)];exact(S.pin j a h).2⟩⟩
 ·obtain⟨hne,e⟩:=un j c e;obtain⟨u,e1,e2⟩:=S.env j c hj e;exact⟨u,by rw[zK hne];exact e1,e2⟩
 ·obtain⟨hne,e⟩:=un j c e;obtain⟨a,o,e2,e3⟩:=S.ownd j c hj e;exact⟨a,o,by rw[zK hne];exact e2,e3⟩
 ·rw[zK (ne j hj)] at dj ej;rw[zK (ne k hk)] at dk ek;exact S.inj j k a hj hk dj dk ej ek
theorem SR.heap (S:SR K B own G H σ ρ) (s:Same H H'):SR K B own G H' σ ρ:=S.ext ⟨s,Same.refl _,S.gh.trans s,fun _ _ e =>.inl e⟩
end
noncomputable def over (G1 G:Hp):Hp:=fun b=>match G1 b with|some o=>some o|none=>G b
theorem over_l {G1 G:Hp}:Same G1 (over G1 G):=fun b o e=>by simp[over,e]
theorem over_r {G1 G H:Hp}(s:Same G H) (n:∀ b o,G1 b=some o→H b=none):Same G (over G1 G):=fun b o e=>by
 unfold over;cases q:G1 b with
 | none=>exact e
 | some u=>have:=n b u q;rw[s b o e] at this;cases this
theorem over_h {G1 G H:Hp}(s1:Same G1 H) (s:Same G H):Same (over G1 G) H:=fun b o e=>by
 unfold over at e;cases q:G1 b with
 | none=>rw[q] at e;exact s b o e
 | some u=>rw[q] at e;cases e;exact s1 b _ q
end L2
namespace L2
open PySem
mutual
theorem dOk_up:∀ (d:D){n m:Nat},dOk d n=true→n≤m→dOk d m=true
 | .non,n,m,h,_=>rfl
 | .bl _,n,m,h,_=>rfl
 | .int _,n,m,h,_=>rfl
 | .str _,n,m,h,_=>rfl
 | .lst xs,n,m,h,hm=>by
  simp only[dOk,Bool.and_eq_true] at h ⊢;have hn:n≠0:=by simpa using h.1
  exact⟨by simp;omega,dOks_up' xs h.2 (by omega)⟩
 | .tup xs,n,m,h,hm=>by
  simp only[dOk,Bool.and_eq_true] at h ⊢;have hn:n≠0:=by simpa using h.1
  exact⟨by simp;omega,dOks_up' xs h.2 (by omega)⟩
 | .scr _,n,m,h,_=>by simp[dOk] at h
 | .ins _ _ _,n,m,h,_=>by simp[dOk] at h
 | .dic _ _,n,m,h,_=>by simp[dOk] at h
theorem dOks_up':∀ (ds:List D){n m:Nat},dOks ds n=true→n≤m→dOks ds m=true
 | [],n,m,h,_=>rfl
 | d::ds,n,m,h,hm=>by simp only[dOks,Bool.and_eq_true] at h ⊢;exact⟨dOk_up d h.1 hm,dOks_up' ds h.2 hm⟩
end
theorem dOks_up {ds:List D}{n m:Nat}(h:dOks ds n=true) (hm:n≤m):dOks ds m=true:=dOks_up' ds h hm
end L2
namespace K15
open PySem L2
noncomputable abbrev kHBO:List V:=[.str (Str.ofString "has"),.str (Str.ofString "both"),.str (Str.ofString "one")]
noncomputable def ToldOk (ts:List D):Prop:=ts.length≤1000∧dOk (.lst ts) 180=true∧∀ t∈ts,∃ a b k r,t=.tup [a,b,.tup (.str k::r)]∧(inV (.str k) kHBO=true→∃ ws,r=[.lst ws]∧ws.length≤1000)
noncomputable abbrev fTest:DT:=tOrD (tNotD (tTru (eIs "str" (eV 7)))) (tOrD (tB1 (e2 oNe (eV 7) (eV 4))) (tNotD (tTru (eCall F_alike (aC (eV 8) (aC (eV 3) aN))))))
noncomputable def Good (ρ:DEnv):Prop:=∃ l ts,ρ[4]?=some (some (.str l))∧F_read [.str l]=some (.lst ts)∧fTest (ρ.set 8 (some (.lst ts)))=some false∧ToldOk ts∧ρ.length=12
noncomputable abbrev forget (ρ:DEnv):DEnv:=(((ρ.set 8 none).set 9 none).set 10 none).set 11 none
open Classical in
noncomputable def sTail:DG:=fun ρ=>if Good ρ then some (.nx (forget ρ)) else none
noncomputable abbrev tTail (K:Frag):TS:=
 tSeq (tAsg (tCall (spF K F_read) [] E0 (tCons (tVar 4) tNil)) (gName 8))
 (tSeq (tIfS (tPT K [1] fTest) tNever tNext)
 (tSeq (tFor (iList K (tVar 8)) (gTup K 3 (gCons (gName 9) (gCons (gName 10) (gCons (gName 11) gNil))))
  (tIfS (tTest (tOp (rIn K false) (tOp (rIxT K) (tVar 11) (tC (.int 0))) (tTup (tCons (tC (.str (Str.ofString "has"))) (tCons (tC (.str (Str.ofString "both"))) (tCons (tC (.str (Str.ofString "one"))) tNil))))))
   (tDrop (tBM K "list" rAppend (tOp (rIxT K) (tVar 11) (tC (.int 1))) (tCons (tTup (tCons (tC (.str (Str.ofString "any"))) tNil)) tNil))) tNext))
 (tDrop (tBM K "list" rAppend (tVar 8) (tCons (tTup (tCons (tC (.str (Str.ofString "own"))) (tCons (tC (.str (Str.ofString "a"))) (tCons (tTup (tCons (tC (.str (Str.ofString "any"))) tNil)) tNil)))) tNil)))))
theorem inner_ne {K:Frag}{G:Hp}{ts ws:List D}{a:Addr}{t x y k:D}(hd:dOk (.lst ts) 180=true) (ht:t∈ts) (et:t=.tup [x,y,.tup [k,.lst ws]]) (h1:Rep K G (.lst ts) (.ref a)) (h2:Rep K G (.lst ws) (.ref a)):False:=by
 have d2:dOk (.lst ws) 180=true:=by simp only[dOk] at hd ⊢;rw[Bool.and_eq_true] at hd ⊢;refine⟨rfl,?_⟩;obtain⟨j,hj⟩:=List.mem_iff_getElem?.mp ht;have h3:=dOks_get hd.2 hj;rw[et] at h3;simp only[dOk,dOks,Bool.and_eq_true] at h3;have h4:=h3.2.2.2.1.2.2.1.2;exact dOks_up h4 (by decide)
 have e:=Rep.inj _ _ 180 180 hd d2 h1 h2;have e:ts=ws:=by cases e;rfl
 have s1:sizeOf t<sizeOf ts:=List.sizeOf_lt_of_mem ht;rw[et] at s1;rw[e] at s1;simp at s1;omega
end K15
end
noncomputable section
set_option maxHeartbeats 1000000
namespace L2
open PySem
theorem atI_zero {α:Type}{x:α}{xs:List α}:atI (x::xs) 0=some x:=by
 unfold atI;rw[ixN_pos (by omega) (by simp)]
 simp
theorem SR.getN {K:Frag}{B:Bs}{own:List Nat}{G H:Hp}{σ:St}{ρ:DEnv}{i:Nat}(S:SR K B own G H σ ρ) (hi:i∉own):SR K B own G H σ (ρ.set i none):=by
 have un:∀ (j:Nat) (d:D),(ρ.set i none)[j]?=some (some d)→ρ[j]?=some (some d):=fun j d e=>by
  by_cases h:i=j
  ·subst h;by_cases hl:i<ρ.length
   ·rw[List.getElem?_set_self hl] at e;cases e
   ·rw[List.getElem?_eq_none (by simpa using hl)] at e;cases e
  ·rw[zK h] at e;exact e
 exact⟨S.gh,S.g0,S.h0,S.fr,fun j c hj e=>S.env j c hj (un j c e),fun j c hj e=>S.ownd j c hj (un j c e),fun j k a hj hk ⟨d,dj⟩ ⟨d',dk⟩ ej ek=>S.inj j k a hj hk ⟨d,un j d dj⟩ ⟨d',un k d' dk⟩ ej ek,by simp[S.len],S.pin⟩
end L2
namespace K15
open PySem L2
structure Grown (H G1:Hp) (ta:Addr) (vs:List V) (i:Nat) (H':Hp):Prop where
 old:Same H H'
 tup:∀ b xs,G1 b=some (.tup xs)→H' b=some (.tup xs)
 lst:∀ b xs,G1 b=some (.lst xs)→b≠ta→∃ ys,H' b=some (.lst ys)∧ys.length≤xs.length+i
 top:H' ta=some (.lst vs)
theorem Grown.alloc {H G1:Hp}{ta:Addr}{vs:List V}{i:Nat}{H':Hp}{q:Addr}{o:HO}(g:Grown H G1 ta vs i H') (hq:H' q=none):Grown H G1 ta vs i (upd H' q o):=by
 have keep:∀ b u,H' b=some u→upd H' q o b=some u:=fun b u e=>by rw[upd_ne (ne_of_none e hq)];exact e
 exact⟨fun b u e=>keep b u (g.old b u e),fun b xs e=>keep _ _ (g.tup b xs e),fun b xs e hb=>by obtain⟨ys,h1,h2⟩:=g.lst b xs e hb;exact⟨ys,keep _ _ h1,h2⟩,keep _ _ g.top⟩
theorem Grown.up {H G1:Hp}{ta:Addr}{vs:List V}{i:Nat}{H':Hp}(g:Grown H G1 ta vs i H'):Grown H G1 ta vs (i+1) H':=
 ⟨g.old,g.tup,fun b xs e hb=>by obtain⟨ys,h1,h2⟩:=g.lst b xs e hb;exact⟨ys,h1,by omega⟩,g.top⟩
theorem tail_of {K:Frag}{B:Bs}{D':Ends}{σ:St}{H:Hp}(h:tDS K B [1] [1] [1] sTail D' σ H):tTail K D' σ H:=by
 obtain⟨G,ρ,o,S,eq,k⟩:=h;unfold sTail at eq
 split at eq
 ·cases eq;rename_i hg;obtain⟨l,ts,e4,er,et,⟨hz,hdk,hts⟩,hlr⟩:=hg;have k:∀ σ G H,SR K B [1] G H σ (forget ρ)→D'.nx σ H:=k;have hl:σ.length=12:=by rw[S.len];exact hlr
  obtain⟨v4,f4,r4⟩:=S.env 4 _ (by simp) e4
  cases rep_str.mp r4;refine⟨_,f4,fun _=>none,[.str l],.lst ts,fun b o e=>(nomatch e),.cons (rep_str.mpr rfl) .nil,er,fun v G1 H1 E1 r1 =>?_⟩
  obtain⟨ta,vs,rfl,gta,rvs⟩:=rep_lst.mp r1;have hnew:∀ b o,G1 b=some o→H b=none:=fun b o e=>by
   rcases E1.fr b o e with z|z
   ·cases z
   ·exact z
  have S1:=S.heap E1.hh;have hG:Same G (over G1 G):=over_r S.gh hnew;have s8:(σ.set 8 (some (V.ref ta)))[8]?=some (some (.ref ta)):=List.getElem?_set_self (by rw[hl];decide)
  show tSeq _ _ _ (σ.set 8 (some (.ref ta))) H1;refine⟨over G1 G,ρ.set 8 (some (.lst ts)),false,over_h E1.gh S1.gh,⟨by simp[S.len],fun i d e =>?_⟩,et,fun G3 H3 E3 =>?_⟩
  ·rcases set_get e with ⟨rfl,rfl,_⟩|⟨hne,e⟩
   ·exact⟨_,s8,by rw[if_neg (by simp)];exact Rep.mono over_l _ r1⟩
   ·obtain⟨u,f1,f2⟩:=S1.envR.get i d e;refine⟨u,by rw[zK hne];exact f1,?_⟩
    by_cases hi:i∈[1]
    ·rw[if_pos hi] at f2 ⊢;exact f2.monoG hG
    ·rw[if_neg hi] at f2 ⊢;exact Rep.mono hG d f2
  refine ite2 (fun hn=>nomatch hn) (fun _ =>?_)
  have hG1:Same G1 H3:=over_l.trans (E3.gg.trans E3.gh);have SN:SR K B [1] G H (σ.set 8 (some (.ref ta))) (ρ.set 8 none):=S.setN (by decide)
  have lens:vs.length=ts.length:=rvs.length.symm;have g0:Grown H G1 ta vs 0 H3:=⟨E1.hh.trans E3.hh,fun b xs e=>hG1 _ _ e,fun b xs e _=>⟨xs,hG1 _ _ e,zL _⟩,hG1 _ _ gta⟩
  show tSeq _ _ _ (σ.set 8 (some (.ref ta))) H3;refine⟨_,s8,ta,rfl,⟨vs,.of g0.top⟩,for_list (xs:=vs) (fun i σ' H'=>∃ ρ',SR K B [1] G H σ' ρ'∧forget ρ'=forget ρ∧ρ'.length=12∧σ'[8]?=some (some (.ref ta))∧Grown H G1 ta vs i H') ⟨_,SN,by simp[forget,List.set_set],by simp[hlr],s8,g0⟩ (fun i σ' H' _ ⟨_,_,_,_,_,g⟩ =>.of g.top) ?_ ?_⟩
  ·rintro i x σ' H' hx ⟨ρ',S',hf,hl',s8',g⟩;obtain⟨t,htm,rt⟩:=rvs.getV hx;have htm':=zX htm;obtain⟨da,db,kk,rr,rfl,hkk⟩:=hts t htm';obtain⟨p,us,rfl,gp,rus⟩:=rep_tup.mp rt;obtain⟨x1,us1,rfl,q1,rus⟩:=reps_cons.mp rus;obtain⟨x2,us2,rfl,q2,rus⟩:=reps_cons.mp rus;obtain⟨x3,us3,rfl,q3,rus⟩:=reps_cons.mp rus;cases reps_nil.mp rus;obtain⟨p3,ws,rfl,gp3,rws⟩:=rep_tup.mp q3;obtain⟨y1,ws1,rfl,qk,rws1⟩:=reps_cons.mp rws;cases rep_str.mp qk;have hl2:σ'.length=12:=by rw[S'.len];exact hl'
   refine⟨p,_,rfl,.of (g.tup _ _ gp),rfl,x1,_,rfl,x2,_,rfl,.ref p3,_,rfl,rfl,?_⟩;generalize hσ:((σ'.set 9 (some x1)).set 10 (some x2)).set 11 (some (V.ref p3))=σ2;have s11:σ2[11]?=some (some (.ref p3)):=by rw[← hσ];exact List.getElem?_set_self (by simp[hl2])
   have s82:σ2[8]?=some (some (.ref ta)):=by rw[← hσ,zK (by decide),zK (by decide),zK (by decide)];exact s8'
   have S2:SR K B [1] G H σ2 (((ρ'.set 9 none).set 10 none).set 11 none):=by rw[← hσ];exact((S'.setN (by decide)).setN (by decide)).setN (by decide)
   have hf2:forget (((ρ'.set 9 none).set 10 none).set 11 none)=forget ρ:=by rw[← hf];simp[forget,List.set_set,List.set_comm]
   have nxt:∀ {H5:Hp},Grown H G1 ta vs (i+1) H5→∃ ρ',SR K B [1] G H σ2 ρ'∧forget ρ'=forget ρ∧ρ'.length=12∧σ2[8]?=some (some (.ref ta))∧Grown H G1 ta vs (i+1) H5:=fun g'=>⟨_,S2,hf2,by simp[hl'],s82,g'⟩
   have hp3:=g.tup _ _ gp3;refine⟨_,s11,p3,_,0,.str kk,rfl,rfl,.of hp3,atI_zero,?_⟩;refine⟨by show 3≤sizeLine;rw[sizeLine_eq];decide,fun q hq =>?_⟩
   refine⟨q,kHBO,rfl,.inr (.of upd_same),rfl,rfl,_,rfl,?_⟩;have g1:Grown H G1 ta vs i (upd H' q (.tup kHBO)):=g.alloc hq;refine ite2 (fun hb =>?_) (fun _=>nxt g1.up)
   obtain⟨wl,rfl,hwl⟩:=hkk hb;obtain⟨y2,ws2,rfl,q4,rws2⟩:=reps_cons.mp rws1;cases reps_nil.mp rws2;obtain⟨b,ys0,rfl,gb,rys⟩:=rep_lst.mp q4;have hbt:b≠ta:=fun z=>by subst z;exact inner_ne hdk htm' rfl r1 q4
   obtain⟨ys,hys,hyl⟩:=g1.lst b ys0 gb hbt;refine⟨_,s11,p3,_,1,.ref b,rfl,rfl,.of (g1.tup _ _ gp3),rfl,.inl ⟨rfl,ys,.of hys⟩,?_⟩;refine⟨by show 1≤sizeLine;rw[sizeLine_eq];decide,fun q2 hq2 =>?_⟩
   have g2:=g1.alloc (o :=.tup [.str (Str.ofString "any")]) hq2;have hys2:upd (upd H' q (.tup kHBO)) q2 (.tup [.str (Str.ofString "any")]) b=some (.lst ys):=by rw[upd_ne (ne_of_none hys hq2)];exact hys
   have hlen:ys0.length≤1000:=by rw[← rys.length];exact hwl
   have hi:i<vs.length:=(zC.mp hx).1;refine⟨b,ys,.ref q2,rfl,rfl,hys2,by rw[sizeLine_eq];omega,nxt ⟨fun c o e =>?_,fun c xs e =>?_,fun c xs e hc =>?_,?_⟩⟩
   ·have:c≠b:=fun z=>by rw[z,hnew b _ gb] at e;cases e
    rw[upd_ne this];exact g2.old c o e
   ·have:c≠b:=fun z=>by rw[z,gb] at e;cases e
    rw[upd_ne this];exact g2.tup c xs e
   ·by_cases hcb:c=b
    ·subst hcb;rw[gb] at e;cases e;exact⟨_,upd_same,by simp;omega⟩
    ·obtain⟨zs,h1,h2⟩:=g2.lst c xs e hc;exact⟨zs,by rw[upd_ne hcb];exact h1,by omega⟩
   ·rw[upd_ne (Ne.symm hbt)];exact g2.top
  ·rintro σ' H' ⟨ρ',S',hf,hl',s8',g⟩;refine⟨_,s8',.inl ⟨rfl,vs,.of g.top⟩,?_⟩;refine⟨by show 1≤sizeLine;rw[sizeLine_eq];decide,fun q hq=>⟨by show 3≤sizeLine;rw[sizeLine_eq];decide,fun q2 hq2 =>?_⟩⟩
   have g1:=g.alloc (o :=.tup [.str (Str.ofString "any")]) hq;have g2:=g1.alloc (o :=.tup [.str (Str.ofString "own"),.str (Str.ofString "a"),.ref q]) hq2;refine⟨ta,vs,.ref q2,rfl,rfl,g2.top,by rw[sizeLine_eq];omega,?_⟩
   have hfin:Same H (upd (upd (upd H' q (.tup [.str (Str.ofString "any")])) q2 (.tup [.str (Str.ofString "own"),.str (Str.ofString "a"),.ref q])) ta (.lst (vs++[.ref q2]))):=fun c o e=>by
    have:c≠ta:=fun z=>by rw[z,hnew ta _ gta] at e;cases e
    rw[upd_ne this];exact g2.old c o e
   refine k _ G _ ?_;have S2:SR K B [1] G H σ' (forget ρ'):=by
    have h8:=S'.getN (i:=8) (by decide)
    have h9:=h8.getN (i:=9) (by decide)
    have h10:=h9.getN (i:=10) (by decide)
    exact h10.getN (i:=11) (by decide)
   rw[hf] at S2;exact S2.heap hfin
 ·cases eq
end K15
end
noncomputable section
namespace K15
open PySem L2
noncomputable def b_law_1:DG:=
  (sSeq (sSet 7 (eCall F_shown (aC (eV 5) aN)))
   sTail)
noncomputable def g_law:DG:=
  (sSeq (sSetO 1 (fCall F_draws (aC (eV 0) (aC (eK (.int 2)) (aC (eK (.int 24)) aN)))))
  (sSeq (sSetM 2 (mCallP F_names (mAC (mCall F_pop 1 aN) mAN)))
  (sSeq (sSetM 3 (mCall F_steps 1 (aC (eV 2) (aC (eK (.int 3)) aN))))
  (sSeq (sSet 4 (eCall F_line (aC (eV 3) aN)))
  (sSeq (sSet 5 (eCall F_copy_steps (aC (eV 3) aN)))
  (sSeq (sFor (iR1 (eK (.int 2))) (gN 6)
  b_law_1)
  (sRet (e2 oEq (eV 5) (eV 3)))))))))
noncomputable def F_law:List D→Option D:=runD 1 12 g_law
noncomputable abbrev st_law:Stmt:=top 25
noncomputable abbrev N_law:List Str:=["_law_script", "_law_draws_here", "_law_names_here", "_law_question", "_law_line_here", "_law_handed", "_law_k", "_law_found", "_law_told", "_law_way", "_law_name_here", "_law_wish_here"]
theorem sc_law:FnScope N_law ["_law_script"] (defScope st_law):=⟨rfl,rfl,rfl,by decide +kernel,rfl,by decide +kernel,by decide +kernel⟩
noncomputable section
variable {P:Program}{w:World}{K:Frag}{mg:Str→Option Value}{base:Heap}{f:Addr}{fd:FuncData}
theorem ok_law (F:Fun K "law" "law" st_law f fd) (z_isinstance:mg "isinstance" = none) (z_range:mg "range" = none) (z_str:mg "str" = none) (h_draws:Ok1 P w K mg base "_law_draws" 29 (spO K F_draws)) (h_pop:Ok1 P w K mg base "_law_pop" 29 (spM K 0 F_pop)) (h_names:Ok1 P w K mg base "_law_names" 29 (spF K F_names)) (h_steps:Ok1 P w K mg base "_law_steps" 29 (spM K 0 F_steps)) (h_line:Ok1 P w K mg base "_law_line" 29 (spF K F_line)) (h_copy_steps:Ok1 P w K mg base "_law_copy_steps" 29 (spF K F_copy_steps)) (h_shown:Ok1 P w K mg base "shown" 29 (spF K F_shown)) (h_read:Ok1 P w K mg base "read" 29 (spF K F_read)) (h_alike:Ok1 P w K mg base "_law_alike" 29 (spF K F_alike)):FnOk P w K mg base CX0 30 f fd ["_law_script"] (spF K F_law):=by
 obtain⟨fR,fdR,psR,hR1,hRm,hRk,hRb⟩:=h_read.ex
 exact F.okD (own:=[1]) (own':=[1]) (g:=g_law) sc_law (by decide) fun cdv A outer s H E hr B hB=>
  (dss_cons (ds_setO (i:=1) sc_law.nd rfl (.inl rfl) (de_callO h_draws hr rfl (da_cons (vP 0) (da_cons de_int (da_cons de_int da_nil)))))
  (dss_cons (ds_setM (i:=2) sc_law.nd rfl (.inl rfl) (dm_callP h_names hr rfl (dma_cons (dm_call h_pop hr rfl (pv 1) da_nil) dma_nil)))
  (dss_cons (ds_setM (i:=3) sc_law.nd rfl (.inl rfl) (dm_call h_steps hr rfl (pv 1) (da_cons (vP 2) (da_cons de_int da_nil))))
  (dss_cons (ds_set (i:=4) sc_law.nd rfl (.inl rfl) (de_call h_line hr rfl (da_cons (vP 3) da_nil)))
  (dss_cons (ds_set (i:=5) sc_law.nd rfl (.inl rfl) (de_call h_copy_steps hr rfl (da_cons (vP 3) da_nil)))
  (dss_cons (ds_for PassesOwn.never rfl (di_range1 rfl z_range (dq de_int)) (fun B hB=>(dg_name (pg_name (i:=6) sc_law.nd rfl (.inl rfl)))) (fun B hB=>
  (dss_cons (ds_set (i:=7) sc_law.nd rfl (.inl rfl) (de_call h_shown hr rfl (da_cons (vP 5) da_nil)))
   (by
    refine PSs.imp (t:=tTail K) ?_ fun D' σ H h=>tail_of h
    exact(pss_cons (ps_set (i:=8) sc_law.nd rfl (.inl rfl) (pe_call hR1 hr rfl hRm hRk hRb .nil pass0 (pa_cons (pv 4) pa_nil)))
    (pss_cons (ps_if (PW.pt (dw_or (dt_not (dt_truth (dq (de_isinst (T:= "str") (by decide) rfl z_isinstance rfl z_str (by decide +kernel) (vQ 7))))) (dw_or (dt_cmp (od_ne hr) (vQ 7) (vQ 4) (nomark _)) (dw_or1 (dt_not (dt_truth (dq (de_call h_alike hr rfl (da_cons (vP 8) (da_cons (vP 3) da_nil))))))))))
     (pss_one ps_never) pss_nil)
    (pss_cons (ps_for PassesOwn.never rfl (pi_list (pv 8)) (pg_tup rfl (pgs_cons (pg_name (i:=9) sc_law.nd rfl (.inl rfl)) (pgs_cons (pg_name (i:=10) sc_law.nd rfl (.inl rfl)) (pgs_cons (pg_name (i:=11) sc_law.nd rfl (.inl rfl)) pgs_nil))))
     (pss_one (ps_if (pt_cmpR op_in_seq (pe_ix ix_tup (pv 11) pe_int (fun _ _=>rfl)) (pe_tup (pa_cons pe_str (pa_cons pe_str (pa_cons pe_str pa_nil)))) rfl)
      (pss_one (ps_expr (pe_bm plainAttrs_list PySem.F.slot_list_append PySem.F.type_list_append mt_append (pe_ix ix_tup (pv 11) pe_int (fun _ _=>rfl)) (pa_cons (pe_tup (pa_cons pe_str pa_nil)) pa_nil)))) pss_nil)))
    (pss_one (ps_expr (pe_bm plainAttrs_list PySem.F.slot_list_append PySem.F.type_list_append mt_append (pv 8) (pa_cons (pe_tup (pa_cons pe_str (pa_cons pe_str (pa_cons (pe_tup (pa_cons pe_str pa_nil)) pa_nil)))) pa_nil)))))))))))
  (dss_one (ds_ret (de_cmp (od_eq hr) (vQ 5) (vQ 3) (nomark _))))))))))
end
end K15
end
noncomputable section
set_option maxHeartbeats 1000000
namespace K15
open PySem L2
theorem told_ok {ss:List D}(h3:ss.length≤3) (hss:∀ s∈ss,WqS 3 s):ToldOk ss:=by
 refine⟨by omega,(q_aOk h3 hss).dOk 180 (by decide),fun t ht =>?_⟩
 obtain⟨inner,x,w,rfl,_,hww⟩:=hss t ht;rcases hww with rfl|⟨y,_,rfl⟩|⟨ss',rfl,_,h3',_⟩|⟨one,ws,rfl,h3',_⟩
 ·exact⟨_,_,sAny,[],rfl,fun h=>absurd h (by decide +kernel)⟩
 ·exact⟨_,_,sTxt,[.str (S y)],rfl,fun h=>absurd h (by decide +kernel)⟩
 ·exact⟨_,_,sHas,[.lst ss'],rfl,fun _=>⟨ss',rfl,by omega⟩⟩
 ·exact⟨_,_,kindS one,[.lst ws],rfl,fun _=>⟨ws,rfl,by omega⟩⟩
theorem law_true (ns:List Int) (hns:ns.length≤63):F_law [.scr ns]=some (.bl true):=by
 obtain⟨xs,ed,_⟩:=draws_ok ns hns 2 24 (by decide) (by decide) (by decide) (by decide)
 obtain⟨nms,en,n1,n4,hnm⟩:=names_ok (popZ xs);obtain⟨ss,xs2,eq,s1,s3,hss⟩:=steps_ok nms (by omega) hnm xs.dropLast
 have el:=line_all s3 hss;have ec:=copy_all s3 hss;have eh:=shown_all s3 hss;have hbT:(tSs 3 ss).length≤big:=by
  unfold tSs;rw[flat_len];have:=tSs_len s3 hss;have:LB 3≤1500:=LB3 (by decide)
  unfold big;omega
 have er:=read_ok (n:=3) (by decide) s1 s3 hss hbT
 have ea:F_alike [.lst ss,.lst ss]=some (.bl true):=alike_all 12 16 _ (q_aOk s3 hss) (by decide)
 generalize tSs 3 ss=T at *
 show (g_law [some (.scr ns),none,none,none,none,none,none,none,none,none,none,none]).bind outD=_;unfold g_law;rw[sSeq_nx (ρ':=[some (.scr ns),some (.lst (xs.map D.int)),none,none,none,none,none,none,none,none,none,none]) (by have e:fCall F_draws (aC (eV 0) (aC (eK (.int 2)) (aC (eK (.int 24)) aN))) [some (.scr ns),none,none,none,none,none,none,none,none,none,none,none]=some (xs.map D.int):=ed;unfold sSetO;rw[e];rfl)]
 rw[sSeq_nx (ρ':=[some (.scr ns),some (.lst (xs.dropLast.map D.int)),some (.lst ((nms.map S).map D.str)),none,none,none,none,none,none,none,none,none]) (by
  have e1:mCall F_pop 1 aN [some (.scr ns),some (.lst (xs.map D.int)),none,none,none,none,none,none,none,none,none,none]=some (.int (popZ xs),[some (.scr ns),some (.lst (xs.dropLast.map D.int)),none,none,none,none,none,none,none,none,none,none]):=by unfold mCall;have:lstAt 1 [some (.scr ns),some (.lst (xs.map D.int)),none,none,none,none,none,none,none,none,none,none]=some (xs.map D.int):=rfl;rw[this];simp only[aN,zA];rw[pop_ok];rfl
  unfold sSetM mCallP mAC mAN;rw[e1];simp only[zA];rw[en];rfl)]
 rw[sSeq_nx (ρ':=[some (.scr ns),some (.lst (xs2.map D.int)),some (.lst ((nms.map S).map D.str)),some (.lst ss),none,none,none,none,none,none,none,none]) (by
  have e1:mCall F_steps 1 (aC (eV 2) (aC (eK (.int 3)) aN)) [some (.scr ns),some (.lst (xs.dropLast.map D.int)),some (.lst ((nms.map S).map D.str)),none,none,none,none,none,none,none,none,none]=some (.lst ss,[some (.scr ns),some (.lst (xs2.map D.int)),some (.lst ((nms.map S).map D.str)),none,none,none,none,none,none,none,none,none]):=by unfold mCall;have h1:lstAt 1 [some (.scr ns),some (.lst (xs.dropLast.map D.int)),some (.lst ((nms.map S).map D.str)),none,none,none,none,none,none,none,none,none]=some (xs.dropLast.map D.int):=rfl;have h2:aC (eV 2) (aC (eK (.int 3)) aN) [some (.scr ns),some (.lst (xs.dropLast.map D.int)),some (.lst ((nms.map S).map D.str)),none,none,none,none,none,none,none,none,none]=some [.lst ((nms.map S).map D.str),.int 3]:=rfl;rw[h1,h2];simp only[zA];simp only[qA] at eq;rw[eq];rfl
  unfold sSetM;rw[e1];rfl)]
 rw[sSeq_nx (ρ':=[some (.scr ns),some (.lst (xs2.map D.int)),some (.lst ((nms.map S).map D.str)),some (.lst ss),some (.str (S T)),none,none,none,none,none,none,none]) (by rw[sSet_eq (show eCall F_line (aC (eV 3) aN) [some (.scr ns),some (.lst (xs2.map D.int)),some (.lst ((nms.map S).map D.str)),some (.lst ss),none,none,none,none,none,none,none,none]=some (.str (S T)) from el)];rfl)]
 rw[sSeq_nx (ρ':=[some (.scr ns),some (.lst (xs2.map D.int)),some (.lst ((nms.map S).map D.str)),some (.lst ss),some (.str (S T)),some (.lst ss),none,none,none,none,none,none]) (by rw[sSet_eq (show eCall F_copy_steps (aC (eV 3) aN) [some (.scr ns),some (.lst (xs2.map D.int)),some (.lst ((nms.map S).map D.str)),some (.lst ss),some (.str (S T)),none,none,none,none,none,none,none]=some (.lst ss) from ec)];rfl)]
 obtain⟨ρ',ef,v6,v7,rfl⟩:=for_inv0 (τ:=gN 6) (g:=b_law_1) (ds:=rngD 0 2) (fun _ ρ=>∃ v6 v7:Option D,ρ=[some (.scr ns),some (.lst (xs2.map D.int)),some (.lst ((nms.map S).map D.str)),some (.lst ss),some (.str (S T)),some (.lst ss),v6,v7,none,none,none,none])
  (ρ:=[some (.scr ns),some (.lst (xs2.map D.int)),some (.lst ((nms.map S).map D.str)),some (.lst ss),some (.str (S T)),some (.lst ss),none,none,none,none,none,none]) ⟨none,none,rfl⟩ (by
  rintro j d ρ hd ⟨v6,v7,rfl⟩;refine⟨_,[some (.scr ns),some (.lst (xs2.map D.int)),some (.lst ((nms.map S).map D.str)),some (.lst ss),some (.str (S T)),some (.lst ss),some d,some (.str (S T)),none,none,none,none],rfl,?_,_,_,rfl⟩;unfold b_law_1;show sSeq _ _ [some (.scr ns),some (.lst (xs2.map D.int)),some (.lst ((nms.map S).map D.str)),some (.lst ss),some (.str (S T)),some (.lst ss),some d,v7,none,none,none,none]=_;rw[sSeq_nx (ρ':=[some (.scr ns),some (.lst (xs2.map D.int)),some (.lst ((nms.map S).map D.str)),some (.lst ss),some (.str (S T)),some (.lst ss),some d,some (.str (S T)),none,none,none,none]) (by rw[sSet_eq (show eCall F_shown (aC (eV 5) aN) [some (.scr ns),some (.lst (xs2.map D.int)),some (.lst ((nms.map S).map D.str)),some (.lst ss),some (.str (S T)),some (.lst ss),some d,v7,none,none,none,none]=some (.str (S T)) from eh)];rfl)]
  unfold sTail;rw[if_pos]
  ·rfl
  ·refine⟨S T,ss,rfl,er,?_,told_ok s3 hss,rfl⟩;show fTest [some (.scr ns),some (.lst (xs2.map D.int)),some (.lst ((nms.map S).map D.str)),some (.lst ss),some (.str (S T)),some (.lst ss),some d,some (.str (S T)),some (.lst ss),none,none,none]=_;have t1:tNotD (tTru (eIs "str" (eV 7))) [some (.scr ns),some (.lst (xs2.map D.int)),some (.lst ((nms.map S).map D.str)),some (.lst ss),some (.str (S T)),some (.lst ss),some d,some (.str (S T)),some (.lst ss),none,none,none]=some false:=rfl;have t2:tB1 (e2 oNe (eV 7) (eV 4)) [some (.scr ns),some (.lst (xs2.map D.int)),some (.lst ((nms.map S).map D.str)),some (.lst ss),some (.str (S T)),some (.lst ss),some d,some (.str (S T)),some (.lst ss),none,none,none]=some false:=by refine tB1_eq ?_;rw[e2_eq (x :=.str (S T)) (y :=.str (S T)) rfl rfl,neS];simp
   have t3:tNotD (tTru (eCall F_alike (aC (eV 8) (aC (eV 3) aN)))) [some (.scr ns),some (.lst (xs2.map D.int)),some (.lst ((nms.map S).map D.str)),some (.lst ss),some (.str (S T)),some (.lst ss),some d,some (.str (S T)),some (.lst ss),none,none,none]=some false:=by have e:eCall F_alike (aC (eV 8) (aC (eV 3) aN)) [some (.scr ns),some (.lst (xs2.map D.int)),some (.lst ((nms.map S).map D.str)),some (.lst ss),some (.str (S T)),some (.lst ss),some d,some (.str (S T)),some (.lst ss),none,none,none]=some (.bl true):=ea;unfold tNotD tTru;rw[e];rfl
   unfold fTest tOrD;rw[t1];simp only[zA,Bool.false_eq_true,if_false];rw[t2];simp only[zA,Bool.false_eq_true,if_false];exact t3)
 rw[sSeq_nx (sFor_eq (f:=iR1 (eK (.int 2))) (ds:=rngD 0 2) (iR1_eq (z:=2) rfl ⟨by decide,by decide⟩) ef)]
 have hq:dOk (.lst ss) 180=true:=(q_aOk s3 hss).dOk 180 (by decide)
 rw[sRet_eq (d :=.bl true) (by rw[e2_eq (x :=.lst ss) (y :=.lst ss) rfl rfl];exact eqSameD hq)]
 rfl
end K15
end
end
namespace K15
open PySem L2
theorem us1 {α:Type}{us:List α}(h:us.length=1):∃ a,us=[a]:=List.length_eq_one_iff.mp h
theorem us2 {α:Type}{us:List α}(h:us.length=2):∃ a b,us=[a,b]:=by
 cases us with
 | nil=>cases h
 | cons a us=>obtain⟨b,rfl⟩:=us1 (Nat.succ.inj h);exact⟨a,b,rfl⟩
theorem us3 {α:Type}{us:List α}(h:us.length=3):∃ a b c,us=[a,b,c]:=by
 cases us with
 | nil=>cases h
 | cons a us=>obtain⟨b,c,rfl⟩:=us2 (Nat.succ.inj h);exact⟨a,b,c,rfl⟩
noncomputable abbrev FA (K:Frag) (x:Str) (st:Stmt):Prop:=∃ f fd,nsIn K mainGlobals x=some (some (.ref f))∧Fun K x x st f fd
theorem FA_mk {K:Frag}{x:Str}{st:Stmt}{f:Addr}{od an:Option Addr}{sl:Array (Option Value)}{oc kV dc pm cd ct:Value}(a:nsIn K mainGlobals x=some (some (.ref f))) (l:K.lookup f=some ⟨oc,od,.func (fnOf x x (defArgs st) (defBody st) (defScope st) .none kV dc pm an cd ct),sl⟩) (c:codeIn K cd x=true) (k:keepIn K (.ref f)=true):FA K x st:=⟨f,_,a,fun_mk l c k⟩
noncomputable abbrev MA (K:Frag) (c m qual:Str) (st:Stmt):Prop:=∃ C f fd,nsIn K mainGlobals c=some (some (.ref C))∧findIn K (.ref C) m=some (some (.ref f))∧PySem.W.isFn K (.ref f)=true∧Fun K m qual st f fd
theorem MA_mk {K:Frag}{x:Str}{st:Stmt}{f:Addr}{od an:Option Addr}{sl:Array (Option Value)}{oc kV dc pm cd ct:Value}{c0 qual:Str}{C:Addr}(aC:nsIn K mainGlobals c0=some (some (.ref C))) (a:findIn K (.ref C) x=some (some (.ref f))) (i:PySem.W.isFn K (.ref f)=true) (l:K.lookup f=some ⟨oc,od,.func (fnOf x qual (defArgs st) (defBody st) (defScope st) .none kV dc pm an cd ct),sl⟩) (c:codeIn K cd qual=true) (k:keepIn K (.ref f)=true):MA K c0 x qual st:=⟨C,f,_,aC,a,i,fun_mk l c k⟩
noncomputable abbrev TA (P:Program) (w:World) (K:Frag) (x:Str) (tab:List (Str×Str)):Prop:=∃ A,nsIn K mainGlobals x=some (some (.ref A))∧Tab P w K A tab
theorem TA_mk2 {P:Program}{w:World}{K:Frag}{x k1 k2 v1 v2:Str}{A:Addr}{h1 h2:Int}{t1 t2 t3 t4:Tok}{ep:Nat}(a:nsIn K mainGlobals x=some (some (.ref A))) (l:K.lookup A=some ⟨.type "dict",none,.dict #[⟨h1,.str k1 t1,.str v1 t2⟩,⟨h2,.str k2 t3,.str v2 t4⟩] ep,#[]⟩) (s:(A==sysModules)=false) (e1:h1=hashStr w k1) (e2:h2=hashStr w k2) (ne:k1≠k2):TA P w K x [(k1,v1),(k2,v2)]:=by
 have q1:(mixKind P w).is (Sum.inr k1) (.str k1 t1)=true:=kV_is (k:=Sum.inr k1) ⟨t1,rfl⟩;have q2:(mixKind P w).is (Sum.inr k2) (.str k2 t3)=true:=kV_is (k:=Sum.inr k2) ⟨t3,rfl⟩;refine⟨A,a,s,_,_,_,[(Sum.inr k1,.str v1 t2),(Sum.inr k2,.str v2 t4)],l,⟨rfl,rfl,rfl⟩,rfl,fun e he =>?_,.cons q1 rfl (.cons q2 rfl .nil),?_,.cons ⟨rfl,⟨t2,rfl⟩⟩ (.cons ⟨rfl,⟨t4,rfl⟩⟩ .nil)⟩
 ·simp at he;rcases he with rfl|rfl
  ·exact⟨Sum.inr k1,q1,e1⟩
  ·exact⟨Sum.inr k2,q2,e2⟩
 ·simpa using ne
theorem all_mk {l:PySem.W.OpenLaw}{w:World}{K:Frag}{h:Heap}{mg:Str→Option Value}{fa:Addr}{C_Reader:Addr}
  {fL:Addr}{odL anL:Option Addr}{slL:Array (Option Value)}{ocL kVL dcL pmL cdL ctL:Value}
  {t_PERCENT:Tok}(X:K.In h) (G:h.Ns mainGlobals mg) (hfa:mg "law" = some (.ref fa))
  (aC_Reader:nsIn K mainGlobals "Reader" = some (some (.ref C_Reader)))
  (pg_Reader:plainGet K C_Reader Str.empty=true)
  (hd_Reader:hasDictIn K C_Reader=true)
  (po_Reader:plainOver K C_Reader=true)
  (sa_Reader:findIn K (.ref C_Reader) "__setattr__" = some (some (.builtin "object.__setattr__")))
  (mk_Reader:makesIn K C_Reader=true)
  (kc_Reader:keepIn K (.ref C_Reader)=true)
  (n_line_Reader:findIn K (.ref C_Reader) "line" = some none)
  (n_at_Reader:findIn K (.ref C_Reader) "at" = some none)
  (q_shown:FA K "shown" st_shown)
  (q_shown_step:FA K "shown_step" st_shown_step)
  (q_shown_wish:FA K "shown_wish" st_shown_wish)
  (q_Reader___init__:MA K "Reader" "__init__" "Reader.__init__" st_Reader___init__)
  (q_Reader_ahead:MA K "Reader" "ahead" "Reader.ahead" st_Reader_ahead)
  (q_Reader_pass_over:MA K "Reader" "pass_over" "Reader.pass_over" st_Reader_pass_over)
  (q_Reader_read_name:MA K "Reader" "read_name" "Reader.read_name" st_Reader_read_name)
  (q_Reader_read_mark:MA K "Reader" "read_mark" "Reader.read_mark" st_Reader_read_mark)
  (q_Reader_read_text_sign:MA K "Reader" "read_text_sign" "Reader.read_text_sign" st_Reader_read_text_sign)
  (q_Reader_read_text:MA K "Reader" "read_text" "Reader.read_text" st_Reader_read_text)
  (q_Reader_read_steps:MA K "Reader" "read_steps" "Reader.read_steps" st_Reader_read_steps)
  (q_Reader_read_step:MA K "Reader" "read_step" "Reader.read_step" st_Reader_read_step)
  (q_Reader_read_wish:MA K "Reader" "read_wish" "Reader.read_wish" st_Reader_read_wish)
  (q_Reader_read_list:MA K "Reader" "read_list" "Reader.read_list" st_Reader_read_list)
  (q_Reader_read_short_list:MA K "Reader" "read_short_list" "Reader.read_short_list" st_Reader_read_short_list)
  (q_read:FA K "read" st_read)
  (q_draws:FA K "_law_draws" st_draws)
  (q_pop:FA K "_law_pop" st_pop)
  (q_alike:FA K "_law_alike" st_alike)
  (q_name:FA K "_law_name" st_name)
  (q_names:FA K "_law_names" st_names)
  (q_text:FA K "_law_text" st_text)
  (q_wish:FA K "_law_wish" st_wish)
  (q_steps:FA K "_law_steps" st_steps)
  (q_copy_wish:FA K "_law_copy_wish" st_copy_wish)
  (q_copy_steps:FA K "_law_copy_steps" st_copy_steps)
  (q_wish_text:FA K "_law_wish_text" st_wish_text)
  (q_line:FA K "_law_line" st_line)
  (aL:nsIn K mainGlobals "law" = some (some (.ref fL)))
  (lL:K.lookup fL=some ⟨ocL,odL,.func (fnOf "law" "law" (defArgs st_law) (defBody st_law) (defScope st_law) .none kVL dcL pmL anL cdL ctL),slL⟩)
  (cL:codeIn K cdL "law" = true)
  (kL_:keepIn K (.ref fL)=true)
  (y_bool:nsIn K mainGlobals "bool" = some none)
  (y_int:nsIn K mainGlobals "int" = some none)
  (y_isinstance:nsIn K mainGlobals "isinstance" = some none)
  (y_len:nsIn K mainGlobals "len" = some none)
  (y_list:nsIn K mainGlobals "list" = some none)
  (y_ord:nsIn K mainGlobals "ord" = some none)
  (y_range:nsIn K mainGlobals "range" = some none)
  (y_str:nsIn K mainGlobals "str" = some none)
  (y_tuple:nsIn K mainGlobals "tuple" = some none)
  (cc_PERCENT:nsIn K mainGlobals "PERCENT" = some (some (.int 37 t_PERCENT)))
  (tt_KINDS:TA l.prog w K "KINDS" tab_KINDS)
  (tt_MARKS:TA l.prog w K "MARKS" tab_MARKS) :
  ∃ fd:FuncData,(∀ (s:Shared) (v:Value),BindsTo s fd ⟨[v],[]⟩ [("_law_script",v)])∧∀ base:Heap,K.In base→base.Ns mainGlobals mg→FnOk l.prog w K mg base CX0 30 fa fd ["_law_script"] (spF K F_law):=by
 have e:=hfa.symm.trans (mg_of X G aL);cases e;have z_bool:=mg_none_of X G y_bool;have z_int:=mg_none_of X G y_int;have z_isinstance:=mg_none_of X G y_isinstance;have z_len:=mg_none_of X G y_len;have z_list:=mg_none_of X G y_list;have z_ord:=mg_none_of X G y_ord;have z_range:=mg_none_of X G y_range;have z_str:=mg_none_of X G y_str;have z_tuple:=mg_none_of X G y_tuple;have c_PERCENT:=mg_of X G cc_PERCENT;have T_KINDS:TabG l.prog w K mg "KINDS" tab_KINDS:=by obtain⟨A,a,t⟩:=tt_KINDS;exact⟨A,mg_of X G a,t⟩
 have T_MARKS:TabG l.prog w K mg "MARKS" tab_MARKS:=by obtain⟨A,a,t⟩:=tt_MARKS;exact⟨A,mg_of X G a,t⟩
 have cls_Reader:Cls K C_Reader:=⟨pg_Reader,hd_Reader,po_Reader,sa_Reader⟩;have k_Reader_line:∀ C,nsIn K mainGlobals "Reader" = some (some (.ref C))→Cls K C∧NoAttr K C "line" :=fun C e=>by rw[aC_Reader] at e;cases e;exact⟨cls_Reader,n_line_Reader⟩
 have k_Reader_at:∀ C,nsIn K mainGlobals "Reader" = some (some (.ref C))→Cls K C∧NoAttr K C "at" :=fun C e=>by rw[aC_Reader] at e;cases e;exact⟨cls_Reader,n_at_Reader⟩
 obtain⟨f_shown,d_shown,a_shown,F__shown⟩:=q_shown;have b_shown:=F__shown.binds (ps:=["question"]) fun _ _ _ _ _ _ us hl=>by obtain⟨a,rfl⟩:=us1 hl;rfl
 obtain⟨f_shown_step,d_shown_step,a_shown_step,F__shown_step⟩:=q_shown_step;have b_shown_step:=F__shown_step.binds (ps:=["step"]) fun _ _ _ _ _ _ us hl=>by obtain⟨a,rfl⟩:=us1 hl;rfl
 obtain⟨f_shown_wish,d_shown_wish,a_shown_wish,F__shown_wish⟩:=q_shown_wish;have b_shown_wish:=F__shown_wish.binds (ps:=["wish"]) fun _ _ _ _ _ _ us hl=>by obtain⟨a,rfl⟩:=us1 hl;rfl
 obtain⟨C_,f_Reader___init__,d_Reader___init__,aC_,a_Reader___init__,i_Reader___init__,F__Reader___init__⟩:=q_Reader___init__;rw[aC_Reader] at aC_;cases aC_;have b_Reader___init__:=F__Reader___init__.binds (ps:=["self", "line"]) fun _ _ _ _ _ _ us hl=>by obtain⟨a,b,rfl⟩:=us2 hl;rfl
 obtain⟨C_,f_Reader_ahead,d_Reader_ahead,aC_,a_Reader_ahead,i_Reader_ahead,F__Reader_ahead⟩:=q_Reader_ahead;rw[aC_Reader] at aC_;cases aC_;have b_Reader_ahead:=F__Reader_ahead.binds (ps:=["self"]) fun _ _ _ _ _ _ us hl=>by obtain⟨a,rfl⟩:=us1 hl;rfl
 obtain⟨C_,f_Reader_pass_over,d_Reader_pass_over,aC_,a_Reader_pass_over,i_Reader_pass_over,F__Reader_pass_over⟩:=q_Reader_pass_over;rw[aC_Reader] at aC_;cases aC_;have b_Reader_pass_over:=F__Reader_pass_over.binds (ps:=["self", "signs"]) fun _ _ _ _ _ _ us hl=>by obtain⟨a,b,rfl⟩:=us2 hl;rfl
 obtain⟨C_,f_Reader_read_name,d_Reader_read_name,aC_,a_Reader_read_name,i_Reader_read_name,F__Reader_read_name⟩:=q_Reader_read_name;rw[aC_Reader] at aC_;cases aC_;have b_Reader_read_name:=F__Reader_read_name.binds (ps:=["self"]) fun _ _ _ _ _ _ us hl=>by obtain⟨a,rfl⟩:=us1 hl;rfl
 obtain⟨C_,f_Reader_read_mark,d_Reader_read_mark,aC_,a_Reader_read_mark,i_Reader_read_mark,F__Reader_read_mark⟩:=q_Reader_read_mark;rw[aC_Reader] at aC_;cases aC_;have b_Reader_read_mark:=F__Reader_read_mark.binds (ps:=["self"]) fun _ _ _ _ _ _ us hl=>by obtain⟨a,rfl⟩:=us1 hl;rfl
 obtain⟨C_,f_Reader_read_text_sign,d_Reader_read_text_sign,aC_,a_Reader_read_text_sign,i_Reader_read_text_sign,F__Reader_read_text_sign⟩:=q_Reader_read_text_sign;rw[aC_Reader] at aC_;cases aC_;have b_Reader_read_text_sign:=F__Reader_read_text_sign.binds (ps:=["self"]) fun _ _ _ _ _ _ us hl=>by obtain⟨a,rfl⟩:=us1 hl;rfl
 obtain⟨C_,f_Reader_read_text,d_Reader_read_text,aC_,a_Reader_read_text,i_Reader_read_text,F__Reader_read_text⟩:=q_Reader_read_text;rw[aC_Reader] at aC_;cases aC_;have b_Reader_read_text:=F__Reader_read_text.binds (ps:=["self"]) fun _ _ _ _ _ _ us hl=>by obtain⟨a,rfl⟩:=us1 hl;rfl
 obtain⟨C_,f_Reader_read_steps,d_Reader_read_steps,aC_,a_Reader_read_steps,i_Reader_read_steps,F__Reader_read_steps⟩:=q_Reader_read_steps;rw[aC_Reader] at aC_;cases aC_;have b_Reader_read_steps:=F__Reader_read_steps.binds (ps:=["self"]) fun _ _ _ _ _ _ us hl=>by obtain⟨a,rfl⟩:=us1 hl;rfl
 obtain⟨C_,f_Reader_read_step,d_Reader_read_step,aC_,a_Reader_read_step,i_Reader_read_step,F__Reader_read_step⟩:=q_Reader_read_step;rw[aC_Reader] at aC_;cases aC_;have b_Reader_read_step:=F__Reader_read_step.binds (ps:=["self"]) fun _ _ _ _ _ _ us hl=>by obtain⟨a,rfl⟩:=us1 hl;rfl
 obtain⟨C_,f_Reader_read_wish,d_Reader_read_wish,aC_,a_Reader_read_wish,i_Reader_read_wish,F__Reader_read_wish⟩:=q_Reader_read_wish;rw[aC_Reader] at aC_;cases aC_;have b_Reader_read_wish:=F__Reader_read_wish.binds (ps:=["self"]) fun _ _ _ _ _ _ us hl=>by obtain⟨a,rfl⟩:=us1 hl;rfl
 obtain⟨C_,f_Reader_read_list,d_Reader_read_list,aC_,a_Reader_read_list,i_Reader_read_list,F__Reader_read_list⟩:=q_Reader_read_list;rw[aC_Reader] at aC_;cases aC_;have b_Reader_read_list:=F__Reader_read_list.binds (ps:=["self"]) fun _ _ _ _ _ _ us hl=>by obtain⟨a,rfl⟩:=us1 hl;rfl
 obtain⟨C_,f_Reader_read_short_list,d_Reader_read_short_list,aC_,a_Reader_read_short_list,i_Reader_read_short_list,F__Reader_read_short_list⟩:=q_Reader_read_short_list;rw[aC_Reader] at aC_;cases aC_;have b_Reader_read_short_list:=F__Reader_read_short_list.binds (ps:=["self"]) fun _ _ _ _ _ _ us hl=>by obtain⟨a,rfl⟩:=us1 hl;rfl
 obtain⟨f_read,d_read,a_read,F__read⟩:=q_read;have b_read:=F__read.binds (ps:=["line"]) fun _ _ _ _ _ _ us hl=>by obtain⟨a,rfl⟩:=us1 hl;rfl
 obtain⟨f_draws,d_draws,a_draws,F__draws⟩:=q_draws;have b_draws:=F__draws.binds (ps:=["_law_script", "_law_turn", "_law_many"]) fun _ _ _ _ _ _ us hl=>by obtain⟨a,b,c,rfl⟩:=us3 hl;rfl
 obtain⟨f_pop,d_pop,a_pop,F__pop⟩:=q_pop;have b_pop:=F__pop.binds (ps:=["_law_draws_here"]) fun _ _ _ _ _ _ us hl=>by obtain⟨a,rfl⟩:=us1 hl;rfl
 obtain⟨f_alike,d_alike,a_alike,F__alike⟩:=q_alike;have b_alike:=F__alike.binds (ps:=["_law_found", "_law_due"]) fun _ _ _ _ _ _ us hl=>by obtain⟨a,b,rfl⟩:=us2 hl;rfl
 obtain⟨f_name,d_name,a_name,F__name⟩:=q_name;have b_name:=F__name.binds (ps:=["_law_k", "_law_draw"]) fun _ _ _ _ _ _ us hl=>by obtain⟨a,b,rfl⟩:=us2 hl;rfl
 obtain⟨f_names,d_names,a_names,F__names⟩:=q_names;have b_names:=F__names.binds (ps:=["_law_draw"]) fun _ _ _ _ _ _ us hl=>by obtain⟨a,rfl⟩:=us1 hl;rfl
 obtain⟨f_text,d_text,a_text,F__text⟩:=q_text;have b_text:=F__text.binds (ps:=["_law_number"]) fun _ _ _ _ _ _ us hl=>by obtain⟨a,rfl⟩:=us1 hl;rfl
 obtain⟨f_wish,d_wish,a_wish,F__wish⟩:=q_wish;have b_wish:=F__wish.binds (ps:=["_law_draws_here", "_law_names_here", "_law_deep"]) fun _ _ _ _ _ _ us hl=>by obtain⟨a,b,c,rfl⟩:=us3 hl;rfl
 obtain⟨f_steps,d_steps,a_steps,F__steps⟩:=q_steps;have b_steps:=F__steps.binds (ps:=["_law_draws_here", "_law_names_here", "_law_deep"]) fun _ _ _ _ _ _ us hl=>by obtain⟨a,b,c,rfl⟩:=us3 hl;rfl
 obtain⟨f_copy_wish,d_copy_wish,a_copy_wish,F__copy_wish⟩:=q_copy_wish;have b_copy_wish:=F__copy_wish.binds (ps:=["_law_wish_here"]) fun _ _ _ _ _ _ us hl=>by obtain⟨a,rfl⟩:=us1 hl;rfl
 obtain⟨f_copy_steps,d_copy_steps,a_copy_steps,F__copy_steps⟩:=q_copy_steps;have b_copy_steps:=F__copy_steps.binds (ps:=["_law_steps_here"]) fun _ _ _ _ _ _ us hl=>by obtain⟨a,rfl⟩:=us1 hl;rfl
 obtain⟨f_wish_text,d_wish_text,a_wish_text,F__wish_text⟩:=q_wish_text;have b_wish_text:=F__wish_text.binds (ps:=["_law_wish_here"]) fun _ _ _ _ _ _ us hl=>by obtain⟨a,rfl⟩:=us1 hl;rfl
 obtain⟨f_line,d_line,a_line,F__line⟩:=q_line;have b_line:=F__line.binds (ps:=["_law_steps_here"]) fun _ _ _ _ _ _ us hl=>by obtain⟨a,rfl⟩:=us1 hl;rfl
 have FL:=fun_mk (st:=st_law) lL cL kL_;refine⟨fnOf "law" "law" (defArgs st_law) (defBody st_law) (defScope st_law) .none kVL dcL pmL anL cdL ctL,fun s v =>.of_eq rfl,fun base _ _ =>?_⟩
 have g_shown:∀ n,Ok1 l.prog w K mg base "shown" (n+0) (spF K (Fr_shown n))∧Ok1 l.prog w K mg base "shown_step" (n+0) (spF K (Fr_shown_step n))∧Ok1 l.prog w K mg base "shown_wish" (n+0) (spF K (Fr_shown_wish n)):=fun n=>by
  induction n with
  | zero=>exact⟨⟨f_shown,_,_,⟨fun vs H Q E ⟨G,ds,d,gh,r,eq,_⟩=>(by cases eq),fun A outer s H args us vs Q E hr he hb hv ⟨G,ds,d,gh,r,eq,_⟩=>(by cases eq)⟩,mg_of X G a_shown,F__shown.kp,b_shown⟩,⟨f_shown_step,_,_,⟨fun vs H Q E ⟨G,ds,d,gh,r,eq,_⟩=>(by cases eq),fun A outer s H args us vs Q E hr he hb hv ⟨G,ds,d,gh,r,eq,_⟩=>(by cases eq)⟩,mg_of X G a_shown_step,F__shown_step.kp,b_shown_step⟩,⟨f_shown_wish,_,_,⟨fun vs H Q E ⟨G,ds,d,gh,r,eq,_⟩=>(by cases eq),fun A outer s H args us vs Q E hr he hb hv ⟨G,ds,d,gh,r,eq,_⟩=>(by cases eq)⟩,mg_of X G a_shown_wish,F__shown_wish.kp,b_shown_wish⟩⟩
  | succ n ih=>obtain⟨h_shown,h_shown_step,h_shown_wish⟩:=ih;exact⟨⟨f_shown,_,_,(ok_shown F__shown h_shown_step).mono (by omega),mg_of X G a_shown,F__shown.kp,b_shown⟩,⟨f_shown_step,_,_,(ok_shown_step F__shown_step h_shown_wish).mono (by omega),mg_of X G a_shown_step,F__shown_step.kp,b_shown_step⟩,⟨f_shown_wish,_,_,(ok_shown_wish F__shown_wish z_len T_MARKS h_shown h_shown_wish).mono (by omega),mg_of X G a_shown_wish,F__shown_wish.kp,b_shown_wish⟩⟩
 have h_shown:Ok1 l.prog w K mg base "shown" 16 (spF K F_shown):=(g_shown 16).1.mono (by decide)
 have h_Reader___init__:OkMt l.prog w K mg base "Reader" "__init__" 1 (spC K 0 F_Reader___init__):=⟨C_Reader,f_Reader___init__,_,_,aC_Reader,cls_Reader,⟨a_Reader___init__,i_Reader___init__,F__Reader___init__.kp⟩,ok_Reader___init__ F__Reader___init__ k_Reader_at k_Reader_line,b_Reader___init__⟩;have h_Reader_ahead:OkMt l.prog w K mg base "Reader" "ahead" 1 (spF K F_Reader_ahead):=⟨C_Reader,f_Reader_ahead,_,_,aC_Reader,cls_Reader,⟨a_Reader_ahead,i_Reader_ahead,F__Reader_ahead.kp⟩,ok_Reader_ahead F__Reader_ahead k_Reader_at k_Reader_line,b_Reader_ahead⟩;have h_Reader_pass_over:OkMt l.prog w K mg base "Reader" "pass_over" 2 (spC K 0 F_Reader_pass_over):=⟨C_Reader,f_Reader_pass_over,_,_,aC_Reader,cls_Reader,⟨a_Reader_pass_over,i_Reader_pass_over,F__Reader_pass_over.kp⟩,ok_Reader_pass_over F__Reader_pass_over k_Reader_at (h_Reader_ahead.mono (by decide)),b_Reader_pass_over⟩
 have h_Reader_read_name:OkMt l.prog w K mg base "Reader" "read_name" 3 (spC K 0 F_Reader_read_name):=⟨C_Reader,f_Reader_read_name,_,_,aC_Reader,cls_Reader,⟨a_Reader_read_name,i_Reader_read_name,F__Reader_read_name.kp⟩,ok_Reader_read_name F__Reader_read_name k_Reader_at k_Reader_line (h_Reader_ahead.mono (by decide)) (h_Reader_pass_over.mono (by decide)),b_Reader_read_name⟩
 have h_Reader_read_mark:OkMt l.prog w K mg base "Reader" "read_mark" 3 (spC K 0 F_Reader_read_mark):=⟨C_Reader,f_Reader_read_mark,_,_,aC_Reader,cls_Reader,⟨a_Reader_read_mark,i_Reader_read_mark,F__Reader_read_mark.kp⟩,ok_Reader_read_mark F__Reader_read_mark T_KINDS (h_Reader_ahead.mono (by decide)) (h_Reader_pass_over.mono (by decide)),b_Reader_read_mark⟩
 have h_Reader_read_text_sign:OkMt l.prog w K mg base "Reader" "read_text_sign" 3 (spC K 0 F_Reader_read_text_sign):=⟨C_Reader,f_Reader_read_text_sign,_,_,aC_Reader,cls_Reader,⟨a_Reader_read_text_sign,i_Reader_read_text_sign,F__Reader_read_text_sign.kp⟩,ok_Reader_read_text_sign F__Reader_read_text_sign z_ord k_Reader_at c_PERCENT (h_Reader_ahead.mono (by decide)) (h_Reader_pass_over.mono (by decide)),b_Reader_read_text_sign⟩
 have h_Reader_read_text:OkMt l.prog w K mg base "Reader" "read_text" 4 (spC K 0 F_Reader_read_text):=⟨C_Reader,f_Reader_read_text,_,_,aC_Reader,cls_Reader,⟨a_Reader_read_text,i_Reader_read_text,F__Reader_read_text.kp⟩,ok_Reader_read_text F__Reader_read_text (h_Reader_ahead.mono (by decide)) (h_Reader_pass_over.mono (by decide)) (h_Reader_read_text_sign.mono (by decide)),b_Reader_read_text⟩
 have g_Reader_read_steps:∀ n,OkMt l.prog w K mg base "Reader" "read_steps" (n+4) (spC K 0 (Fr_Reader_read_steps n))∧OkMt l.prog w K mg base "Reader" "read_step" (n+4) (spC K 0 (Fr_Reader_read_step n))∧OkMt l.prog w K mg base "Reader" "read_wish" (n+4) (spC K 0 (Fr_Reader_read_wish n))∧OkMt l.prog w K mg base "Reader" "read_list" (n+4) (spC K 0 (Fr_Reader_read_list n))∧OkMt l.prog w K mg base "Reader" "read_short_list" (n+4) (spC K 0 (Fr_Reader_read_short_list n)):=fun n=>by
  induction n with
  | zero=>exact⟨⟨C_Reader,f_Reader_read_steps,_,_,aC_Reader,cls_Reader,⟨a_Reader_read_steps,i_Reader_read_steps,F__Reader_read_steps.kp⟩,⟨fun vs H Q E ⟨G,ds,d,c',a,o,c,_,_,_,_,_,_,_,_,eq,_⟩=>(by cases eq),fun A outer s H args us vs Q E hr he hb hv ⟨G,ds,d,c',a,o,c,_,_,_,_,_,_,_,_,eq,_⟩=>(by cases eq)⟩,b_Reader_read_steps⟩,⟨C_Reader,f_Reader_read_step,_,_,aC_Reader,cls_Reader,⟨a_Reader_read_step,i_Reader_read_step,F__Reader_read_step.kp⟩,⟨fun vs H Q E ⟨G,ds,d,c',a,o,c,_,_,_,_,_,_,_,_,eq,_⟩=>(by cases eq),fun A outer s H args us vs Q E hr he hb hv ⟨G,ds,d,c',a,o,c,_,_,_,_,_,_,_,_,eq,_⟩=>(by cases eq)⟩,b_Reader_read_step⟩,⟨C_Reader,f_Reader_read_wish,_,_,aC_Reader,cls_Reader,⟨a_Reader_read_wish,i_Reader_read_wish,F__Reader_read_wish.kp⟩,⟨fun vs H Q E ⟨G,ds,d,c',a,o,c,_,_,_,_,_,_,_,_,eq,_⟩=>(by cases eq),fun A outer s H args us vs Q E hr he hb hv ⟨G,ds,d,c',a,o,c,_,_,_,_,_,_,_,_,eq,_⟩=>(by cases eq)⟩,b_Reader_read_wish⟩,⟨C_Reader,f_Reader_read_list,_,_,aC_Reader,cls_Reader,⟨a_Reader_read_list,i_Reader_read_list,F__Reader_read_list.kp⟩,⟨fun vs H Q E ⟨G,ds,d,c',a,o,c,_,_,_,_,_,_,_,_,eq,_⟩=>(by cases eq),fun A outer s H args us vs Q E hr he hb hv ⟨G,ds,d,c',a,o,c,_,_,_,_,_,_,_,_,eq,_⟩=>(by cases eq)⟩,b_Reader_read_list⟩,⟨C_Reader,f_Reader_read_short_list,_,_,aC_Reader,cls_Reader,⟨a_Reader_read_short_list,i_Reader_read_short_list,F__Reader_read_short_list.kp⟩,⟨fun vs H Q E ⟨G,ds,d,c',a,o,c,_,_,_,_,_,_,_,_,eq,_⟩=>(by cases eq),fun A outer s H args us vs Q E hr he hb hv ⟨G,ds,d,c',a,o,c,_,_,_,_,_,_,_,_,eq,_⟩=>(by cases eq)⟩,b_Reader_read_short_list⟩⟩
  | succ n ih=>obtain⟨h_Reader_read_steps,h_Reader_read_step,h_Reader_read_wish,h_Reader_read_list,h_Reader_read_short_list⟩:=ih;exact⟨⟨C_Reader,f_Reader_read_steps,_,_,aC_Reader,cls_Reader,⟨a_Reader_read_steps,i_Reader_read_steps,F__Reader_read_steps.kp⟩,(ok_Reader_read_steps F__Reader_read_steps (h_Reader_ahead.mono (by omega)) h_Reader_read_step).mono (by omega),b_Reader_read_steps⟩,⟨C_Reader,f_Reader_read_step,_,_,aC_Reader,cls_Reader,⟨a_Reader_read_step,i_Reader_read_step,F__Reader_read_step.kp⟩,(ok_Reader_read_step F__Reader_read_step (h_Reader_ahead.mono (by omega)) (h_Reader_pass_over.mono (by omega)) (h_Reader_read_name.mono (by omega)) h_Reader_read_wish).mono (by omega),b_Reader_read_step⟩,⟨C_Reader,f_Reader_read_wish,_,_,aC_Reader,cls_Reader,⟨a_Reader_read_wish,i_Reader_read_wish,F__Reader_read_wish.kp⟩,(ok_Reader_read_wish F__Reader_read_wish (h_Reader_ahead.mono (by omega)) (h_Reader_pass_over.mono (by omega)) (h_Reader_read_text.mono (by omega)) h_Reader_read_steps h_Reader_read_list).mono (by omega),b_Reader_read_wish⟩,⟨C_Reader,f_Reader_read_list,_,_,aC_Reader,cls_Reader,⟨a_Reader_read_list,i_Reader_read_list,F__Reader_read_list.kp⟩,(ok_Reader_read_list F__Reader_read_list T_KINDS (h_Reader_ahead.mono (by omega)) (h_Reader_pass_over.mono (by omega)) (h_Reader_read_mark.mono (by omega)) h_Reader_read_wish h_Reader_read_short_list).mono (by omega),b_Reader_read_list⟩,⟨C_Reader,f_Reader_read_short_list,_,_,aC_Reader,cls_Reader,⟨a_Reader_read_short_list,i_Reader_read_short_list,F__Reader_read_short_list.kp⟩,(ok_Reader_read_short_list F__Reader_read_short_list T_KINDS (h_Reader_ahead.mono (by omega)) (h_Reader_pass_over.mono (by omega)) (h_Reader_read_mark.mono (by omega)) h_Reader_read_wish).mono (by omega),b_Reader_read_short_list⟩⟩
 have h_Reader_read_steps:OkMt l.prog w K mg base "Reader" "read_steps" 24 (spC K 0 F_Reader_read_steps):=(g_Reader_read_steps 20).1.mono (by decide)
 have h_read:Ok1 l.prog w K mg base "read" 26 (spF K F_read):=⟨f_read,_,_,ok_read F__read z_len k_Reader_at ⟨C_Reader,f_Reader___init__,_,_,aC_Reader,mg_of X G aC_Reader,⟨mk_Reader,a_Reader___init__,i_Reader___init__,kc_Reader⟩,((ok_Reader___init__ F__Reader___init__ k_Reader_at k_Reader_line).mono (by decide)),b_Reader___init__⟩ (h_Reader_read_steps.mono (by decide)),mg_of X G a_read,F__read.kp,b_read⟩
 have h_draws:Ok1 l.prog w K mg base "_law_draws" 1 (spO K F_draws):=⟨f_draws,_,_,ok_draws F__draws z_len z_range,mg_of X G a_draws,F__draws.kp,b_draws⟩;have h_pop:Ok1 l.prog w K mg base "_law_pop" 1 (spM K 0 F_pop):=⟨f_pop,_,_,ok_pop F__pop ,mg_of X G a_pop,F__pop.kp,b_pop⟩;have g_alike:∀ n,Ok1 l.prog w K mg base "_law_alike" (n+0) (spF K (Fr_alike n)):=fun n=>by
  induction n with
  | zero=>exact⟨f_alike,_,_,⟨fun vs H Q E ⟨G,ds,d,gh,r,eq,_⟩=>(by cases eq),fun A outer s H args us vs Q E hr he hb hv ⟨G,ds,d,gh,r,eq,_⟩=>(by cases eq)⟩,mg_of X G a_alike,F__alike.kp,b_alike⟩
  | succ n ih=>have h_alike:=ih;exact⟨f_alike,_,_,(ok_alike F__alike z_bool z_int z_isinstance z_len z_list z_range z_str z_tuple h_alike).mono (by omega),mg_of X G a_alike,F__alike.kp,b_alike⟩
 have h_alike:Ok1 l.prog w K mg base "_law_alike" 16 (spF K F_alike):=(g_alike 16).mono (by decide)
 have h_name:Ok1 l.prog w K mg base "_law_name" 1 (spF K F_name):=⟨f_name,_,_,ok_name F__name z_len z_range,mg_of X G a_name,F__name.kp,b_name⟩;have h_names:Ok1 l.prog w K mg base "_law_names" 2 (spF K F_names):=⟨f_names,_,_,ok_names F__names z_range (h_name.mono (by decide)),mg_of X G a_names,F__names.kp,b_names⟩
 have h_text:Ok1 l.prog w K mg base "_law_text" 1 (spF K F_text):=⟨f_text,_,_,ok_text F__text z_len,mg_of X G a_text,F__text.kp,b_text⟩;have g_wish:∀ n,Ok1 l.prog w K mg base "_law_wish" (n+1) (spM K 0 (Fr_wish n))∧Ok1 l.prog w K mg base "_law_steps" (n+1) (spM K 0 (Fr_steps n)):=fun n=>by
  induction n with
  | zero=>exact⟨⟨f_wish,_,_,⟨fun vs H Q E ⟨G,ds,d,xs',a,ws,xs,_,_,_,_,_,_,_,_,eq,_⟩=>(by cases eq),fun A outer s H args us vs Q E hr he hb hv ⟨G,ds,d,xs',a,ws,xs,_,_,_,_,_,_,_,_,eq,_⟩=>(by cases eq)⟩,mg_of X G a_wish,F__wish.kp,b_wish⟩,⟨f_steps,_,_,⟨fun vs H Q E ⟨G,ds,d,xs',a,ws,xs,_,_,_,_,_,_,_,_,eq,_⟩=>(by cases eq),fun A outer s H args us vs Q E hr he hb hv ⟨G,ds,d,xs',a,ws,xs,_,_,_,_,_,_,_,_,eq,_⟩=>(by cases eq)⟩,mg_of X G a_steps,F__steps.kp,b_steps⟩⟩
  | succ n ih=>obtain⟨h_wish,h_steps⟩:=ih;exact⟨⟨f_wish,_,_,(ok_wish F__wish z_range (h_pop.mono (by omega)) (h_text.mono (by omega)) h_steps h_wish).mono (by omega),mg_of X G a_wish,F__wish.kp,b_wish⟩,⟨f_steps,_,_,(ok_steps F__steps z_len z_range (h_pop.mono (by omega)) h_wish).mono (by omega),mg_of X G a_steps,F__steps.kp,b_steps⟩⟩
 have h_wish:Ok1 l.prog w K mg base "_law_wish" 13 (spM K 0 F_wish):=(g_wish 12).1.mono (by decide)
 have h_steps:Ok1 l.prog w K mg base "_law_steps" 13 (spM K 0 F_steps):=(g_wish 12).2.mono (by decide)
 have g_copy_wish:∀ n,Ok1 l.prog w K mg base "_law_copy_wish" (n+0) (spF K (Fr_copy_wish n))∧Ok1 l.prog w K mg base "_law_copy_steps" (n+0) (spF K (Fr_copy_steps n)):=fun n=>by
  induction n with
  | zero=>exact⟨⟨f_copy_wish,_,_,⟨fun vs H Q E ⟨G,ds,d,gh,r,eq,_⟩=>(by cases eq),fun A outer s H args us vs Q E hr he hb hv ⟨G,ds,d,gh,r,eq,_⟩=>(by cases eq)⟩,mg_of X G a_copy_wish,F__copy_wish.kp,b_copy_wish⟩,⟨f_copy_steps,_,_,⟨fun vs H Q E ⟨G,ds,d,gh,r,eq,_⟩=>(by cases eq),fun A outer s H args us vs Q E hr he hb hv ⟨G,ds,d,gh,r,eq,_⟩=>(by cases eq)⟩,mg_of X G a_copy_steps,F__copy_steps.kp,b_copy_steps⟩⟩
  | succ n ih=>obtain⟨h_copy_wish,h_copy_steps⟩:=ih;exact⟨⟨f_copy_wish,_,_,(ok_copy_wish F__copy_wish h_copy_steps h_copy_wish).mono (by omega),mg_of X G a_copy_wish,F__copy_wish.kp,b_copy_wish⟩,⟨f_copy_steps,_,_,(ok_copy_steps F__copy_steps h_copy_wish).mono (by omega),mg_of X G a_copy_steps,F__copy_steps.kp,b_copy_steps⟩⟩
 have h_copy_wish:Ok1 l.prog w K mg base "_law_copy_wish" 12 (spF K F_copy_wish):=(g_copy_wish 12).1.mono (by decide)
 have h_copy_steps:Ok1 l.prog w K mg base "_law_copy_steps" 12 (spF K F_copy_steps):=(g_copy_wish 12).2.mono (by decide)
 have g_wish_text:∀ n,Ok1 l.prog w K mg base "_law_wish_text" (n+0) (spF K (Fr_wish_text n))∧Ok1 l.prog w K mg base "_law_line" (n+0) (spF K (Fr_line n)):=fun n=>by
  induction n with
  | zero=>exact⟨⟨f_wish_text,_,_,⟨fun vs H Q E ⟨G,ds,d,gh,r,eq,_⟩=>(by cases eq),fun A outer s H args us vs Q E hr he hb hv ⟨G,ds,d,gh,r,eq,_⟩=>(by cases eq)⟩,mg_of X G a_wish_text,F__wish_text.kp,b_wish_text⟩,⟨f_line,_,_,⟨fun vs H Q E ⟨G,ds,d,gh,r,eq,_⟩=>(by cases eq),fun A outer s H args us vs Q E hr he hb hv ⟨G,ds,d,gh,r,eq,_⟩=>(by cases eq)⟩,mg_of X G a_line,F__line.kp,b_line⟩⟩
  | succ n ih=>obtain⟨h_wish_text,h_line⟩:=ih;exact⟨⟨f_wish_text,_,_,(ok_wish_text F__wish_text z_int z_len h_line h_wish_text).mono (by omega),mg_of X G a_wish_text,F__wish_text.kp,b_wish_text⟩,⟨f_line,_,_,(ok_line F__line z_int h_wish_text).mono (by omega),mg_of X G a_line,F__line.kp,b_line⟩⟩
 have h_wish_text:Ok1 l.prog w K mg base "_law_wish_text" 12 (spF K F_wish_text):=(g_wish_text 12).1.mono (by decide)
 have h_line:Ok1 l.prog w K mg base "_law_line" 12 (spF K F_line):=(g_wish_text 12).2.mono (by decide)
 exact ok_law FL z_isinstance z_range z_str (h_draws.mono (by decide)) (h_pop.mono (by decide)) (h_names.mono (by decide)) (h_steps.mono (by decide)) (h_line.mono (by decide)) (h_copy_steps.mono (by decide)) (h_shown.mono (by decide)) (h_read.mono (by decide)) (h_alike.mono (by decide))
theorem walk {l:PySem.W.OpenLaw}{q:Program}{loose:List Str}{XP:(Str→Option Value)→Heap→Prop}{YP:World→Heap→Prop}{d:DefRec}{K:Params→Frag}(hn:l.most=some 63) (hdf:d.params.defaults=[])
  (hY:∀ (w:World) (h:Heap),YP w h→(K w.params).In h)
  (F:∀ (w:World) (mg:Str→Option Value) (fa:Addr) (h:Heap),(K w.params).In h→h.Ns mainGlobals mg→mg d.name=some (.ref fa) →
   ∃ fd:FuncData,(∀ (s:Shared) (u:Value),BindsTo s fd ⟨[u],[]⟩ [("_law_script",u)])∧∀ base:Heap,(K w.params).In base→base.Ns mainGlobals mg→FnOk l.prog w (K w.params) mg base CX0 30 fa fd ["_law_script"] (spF (K w.params) F_law)) :
  PySem.W.WalkO q loose XP YP l.row.toRowW d [] (fun f vs=>PySem.call f vs):=
 L2.walk_ofK (n:=63) (k:=30) (x:= "_law_script") (CX:=CX0) (sp:=fun K=>spF K F_law) hn (by decide) hdf ⟨rfl,by decide,by decide⟩ hY F (fun K H a ns hl hO hS=>law_sp law_true K H a ns hl hO hS) fun _ _ _ _ z=>z
end K15
open PySem PySem.W PyProof.Rows
local macro_rules | `(tactic| walk_at "fa") => `(tactic| exact K15.FA_mk (by k_is) (by k_is) (by k_is) (by k_is))
local macro_rules | `(tactic| walk_at "ma") => `(tactic| exact K15.MA_mk (by k_is) (by k_is) (by k_is) (by k_is) (by k_is) (by k_is))
local macro_rules | `(tactic| walk_at "ta") => `(tactic| exact K15.TA_mk2 (by k_is) (by k_is) (by decide) rfl rfl (by decide +kernel))
set_option maxRecDepth 100000 in
set_option maxHeartbeats 0 in
theorem PySem.Challenge.cw_earlysift_k15_questions_written_holds : PySem.Challenge.rw_earlysift_k15_questions_written.Holds := by
  w_on; o_law; k_head; (case hw => w_witness2)
  k_fill
  refine K15.walk (l := PySem.Challenge.rw_earlysift_k15_questions_written) rfl rfl (fun w h Y => PySem.W.kIn_of Y) ?F
  case F =>
    intro w mg fa h KX G hmg
    refine' K15.all_mk KX G hmg ?aC_Reader ?pg_Reader ?hd_Reader ?po_Reader ?sa_Reader ?mk_Reader ?kc_Reader ?n_line_Reader ?n_at_Reader ?q_shown ?q_shown_step ?q_shown_wish ?q_Reader___init__ ?q_Reader_ahead ?q_Reader_pass_over ?q_Reader_read_name ?q_Reader_read_mark ?q_Reader_read_text_sign ?q_Reader_read_text ?q_Reader_read_steps ?q_Reader_read_step ?q_Reader_read_wish ?q_Reader_read_list ?q_Reader_read_short_list ?q_read ?q_draws ?q_pop ?q_alike ?q_name ?q_names ?q_text ?q_wish ?q_steps ?q_copy_wish ?q_copy_steps ?q_wish_text ?q_line ?aL ?lL ?cL ?kL_ ?y_bool ?y_int ?y_isinstance ?y_len ?y_list ?y_ord ?y_range ?y_str ?y_tuple ?cc_PERCENT ?tt_KINDS ?tt_MARKS
    (case aC_Reader => k_is); (case pg_Reader => k_is); (case hd_Reader => k_is); (case po_Reader => k_is); (case sa_Reader => k_is); (case mk_Reader => k_is); (case kc_Reader => k_is); (case n_line_Reader => k_is)
    (case n_at_Reader => k_is); (case q_shown => walk_at "fa"); (case q_shown_step => walk_at "fa"); (case q_shown_wish => walk_at "fa"); (case q_Reader___init__ => walk_at "ma"); (case q_Reader_ahead => walk_at "ma"); (case q_Reader_pass_over => walk_at "ma"); (case q_Reader_read_name => walk_at "ma")
    (case q_Reader_read_mark => walk_at "ma"); (case q_Reader_read_text_sign => walk_at "ma"); (case q_Reader_read_text => walk_at "ma"); (case q_Reader_read_steps => walk_at "ma"); (case q_Reader_read_step => walk_at "ma"); (case q_Reader_read_wish => walk_at "ma"); (case q_Reader_read_list => walk_at "ma"); (case q_Reader_read_short_list => walk_at "ma")
    (case q_read => walk_at "fa"); (case q_draws => walk_at "fa"); (case q_pop => walk_at "fa"); (case q_alike => walk_at "fa"); (case q_name => walk_at "fa"); (case q_names => walk_at "fa"); (case q_text => walk_at "fa"); (case q_wish => walk_at "fa")
    (case q_steps => walk_at "fa"); (case q_copy_wish => walk_at "fa"); (case q_copy_steps => walk_at "fa"); (case q_wish_text => walk_at "fa"); (case q_line => walk_at "fa"); (case aL => k_is); (case lL => k_is); (case cL => k_is)
    (case kL_ => k_is); (case y_bool => k_is); (case y_int => k_is); (case y_isinstance => k_is); (case y_len => k_is); (case y_list => k_is); (case y_ord => k_is); (case y_range => k_is)
    (case y_str => k_is); (case y_tuple => k_is); (case cc_PERCENT => k_is); (case tt_KINDS => walk_at "ta"); (case tt_MARKS => walk_at "ta")
