import PyProof.Rows.All
import Wide.All
import OpenK.AllK
import Wide.FinOn
import Lean
import PyProof.EqAt
import PyProof.EqKinds
import PyProof.TupleCall
import PyProof.NeKinds
import PyProof.StrCalls6
import PyProof.FString5
import PyProof.Rows.StrClose
import PySem.Challenge.RW_earlysift_k16_lines_looked_at
set_option maxRecDepth 100000
set_option maxHeartbeats 4000000
open PySem.W (Frag mg_of nsIn mg_none_of findIn kia_one fnOf emptyDict keepIn instObj kitOne codeIn plainGet hasDictIn plainOver takerIn makesIn methodObj lookIn)
open PySem.F (plainAttrs_list)
abbrev zA:=@Option.bind_some
abbrev zB:=@List.mem_cons_of_mem
abbrev zC:=@List.getElem?_eq_some_iff
abbrev zD:=@List.mem_cons_self
abbrev zE:=@PySem.wpAny_bind
abbrev zF:=@PySem.Heap.get?_push_of_some
abbrev zG:=@List.mem_cons
abbrev zH:=@List.length_map
abbrev zI:=@List.getElem?_eq_getElem
abbrev zJ:=@PySem.Heap.lt_size
abbrev zK:=@List.getElem?_set_ne
abbrev zL:=@Nat.le_refl
abbrev zM:=@List.getElem?_map
abbrev zN:=@List.size_toArray
abbrev zO:=@List.mem_append
abbrev zP:=@List.length_cons
abbrev zQ:=@List.mem_append_right
abbrev zR:=@Nat.ne_of_lt
abbrev zS:=@Nat.lt_of_lt_of_le
abbrev zT:=@Option.map_some
abbrev zU:=@List.mem_append_left
abbrev zV:=@PySem.Heap.get?_push_size
abbrev zW:=@PySem.wpAny_pure
abbrev zX:=@Int.emod_lt_of_pos
abbrev zY:=@Bool.false_ne_true
abbrev zZ:=@Option.some.inj
abbrev yA:=@Nat.le_trans
abbrev yB:=@Int.emod_nonneg
abbrev yC:=@List.getElem?_append_left
abbrev yD:=@Nat.lt_irrefl
abbrev yE:=@List.mem_singleton
set_option Elab.async false
set_option linter.all false
noncomputable section
namespace L2
open PySem PySem.Spec PyProof.Rows
noncomputable abbrev Key:=Sum Int Str
noncomputable def pO:Key->Value->Bool
 | .inl k,v=>Value.isInt k v
 | .inr x,v=>Value.isStrOf x v
noncomputable def ql6 (w:World):Key->Int
 | .inl k=>hashInt k
 | .inr x=>hashStr w x
theorem c7:∀ {k:Key}{v:Value},pO k v=true->(∃ i t,k=Sum.inl i/\v=Value.int i t)∨(∃ x t,k=Sum.inr x/\v=Value.str x t)
 | .inl i,v,h=>by obtain⟨t,e⟩:=Value.isInt_shape (k:=i) (v:=v) h;exact .inl ⟨i,t,rfl,e⟩
 | .inr x,v,h=>by obtain⟨t,e⟩:=Value.isStrOf_shape (x:=x) (v:=v) h;exact .inr ⟨x,t,rfl,e⟩
theorem qek (i:Int) (t:Tok):pO (.inl i) (.int i t)=true:=by simp[pO,Value.isInt]
theorem qej (x:Str) (t:Tok):pO (.inr x) (.str x t)=true:=by simp[pO,Value.isStrOf]
theorem qjC (a b:Int):decide ((Sum.inl a:Key)=Sum.inl b)=(a==b):=by
 by_cases e:a=b
 ·subst e;simp
 ·have h:¬ (Sum.inl a:Key)=Sum.inl b:=fun q=>e (Sum.inl.inj q)
  rw[decide_eq_false h];exact(beq_eq_false_iff_ne.mpr e).symm
theorem qjz (a b:Str):decide ((Sum.inr a:Key)=Sum.inr b)=decide (a=b):=by
 by_cases e:a=b
 ·subst e;simp
 ·have h:¬ (Sum.inr a:Key)=Sum.inr b:=fun q=>e (Sum.inr.inj q)
  rw[decide_eq_false h,decide_eq_false e]
theorem qjB (a:Int) (b:Str):decide ((Sum.inl a:Key)=Sum.inr b)=false:=decide_eq_false (fun q=>nomatch q)
theorem qjA (a:Str) (b:Int):decide ((Sum.inr a:Key)=Sum.inl b)=false:=decide_eq_false (fun q=>nomatch q)
noncomputable def bW (prog:Program) (w:World):PySem.KeyKind prog w Key where
 is:=pO
 hash:=ql6 w
 inj:=fun v a b ha hb=>by
  rcases c7 ha with ⟨i,t,rfl,rfl⟩|⟨x,t,rfl,rfl⟩
  ·rcases c7 hb with ⟨j,u,rfl,e⟩|⟨y,u,rfl,e⟩
   ·injection e with e1 _;rw[e1]
   ·exact nomatch e
  ·rcases c7 hb with ⟨j,u,rfl,e⟩|⟨y,u,rfl,e⟩
   ·exact nomatch e
   ·injection e with e1 _;rw[e1]
 byValue:=fun k v h=>by
  rcases c7 h with ⟨i,t,rfl,rfl⟩|⟨x,t,rfl,rfl⟩<;>rfl
 pyHash:=fun hv h=>by
  rcases c7 hv with ⟨i,t,rfl,rfl⟩|⟨x,t,rfl,rfl⟩
  ·exact wpAny_pyHash_int h
  ·exact wpAny_pyHash_str h
 eqBool:=fun hu hv h=>by
  rcases c7 hu with ⟨i,t,rfl,rfl⟩|⟨x,t,rfl,rfl⟩
  ·rcases c7 hv with ⟨j,u,rfl,rfl⟩|⟨y,u,rfl,rfl⟩
   ·rw[qjC] at h;exact wpAny_eqBool_int h
   ·rw[qjB] at h;exact SeqAt.EqAt.int_str i t y u _ _ _ _ h
  ·rcases c7 hv with ⟨j,u,rfl,rfl⟩|⟨y,u,rfl,rfl⟩
   ·rw[qjA] at h;exact SeqAt.EqAt.str_int x t j u _ _ _ _ h
   ·rw[qjz] at h;exact wpAny_eqBool_str h
 «strs» :=fun k x t v h=>by
  rcases c7 h with ⟨i,u,rfl,e⟩|⟨y,u,rfl,e⟩
  ·exact nomatch e
  ·injection e with e1 _
   subst e1
   cases v<;>rfl
theorem qbH (prog:Program) (w:World) (i:Int) (t:Tok):(bW prog w).is (.inl i) (.int i t)=true:=qek i t
theorem qbG (prog:Program) (w:World) (x:Str) (t:Tok):(bW prog w).is (.inr x) (.str x t)=true:=qej x t
inductive V where
 | non|bl (b:Bool)|int (i:Int)|str (x:Str)|byt (b:Array UInt8)|flt (b:UInt64)|ref (a:Addr)|ty (n:String)
 deriving DecidableEq
noncomputable def bx:V->Value->Prop
 | .non,u=>u=Value.none
 | .bl b,u=>u=Value.bool b
 | .int i,u=>∃ t,u=Value.int i t
 | .str x,u=>∃ t,u=Value.str x t
 | .byt b,u=>∃ t,u=Value.bytes b t
 | .flt b,u=>∃ t,u=Value.float b t
 | .ref a,u=>u=Value.ref a
 | .ty n,u=>u=Value.type n
noncomputable abbrev bd:List V->List Value->Prop:=Paired bx
theorem bd.length {xs:List V}{us:List Value}(r:bd xs us):xs.length=us.length:=Paired.length r
theorem bd.get:∀ {xs:List V}{us:List Value}{i:Nat}{x:V},bd xs us->xs[i]?=some x->∃ u,us[i]?=some u/\bx x u
 | _,_,_,_,.nil,e=>by simp at e
 | _,_,0,_,.cons r _,e=>by simp at e;subst e;exact⟨_,rfl,r⟩
 | _,_,i+1,x,.cons _ t,e=>by
  obtain⟨u,h1,h2⟩:=bd.get (i:=i) (x:=x) t (by simpa using e)
  exact⟨u,by simpa using h1,h2⟩
theorem bd.set {x:V}{u:Value}(r:bx x u):∀ {xs:List V}{us:List Value}(i:Nat),bd xs us->bd (xs.set i x) (us.set i u)
 | _,_,_,.nil =>.nil
 | _,_,0,.cons _ t =>.cons r t
 | _,_,i+1,.cons q t =>.cons q (bd.set r i t)
theorem bd.append:∀ {xs ys:List V}{us ws:List Value},bd xs us->bd ys ws->bd (xs++ys) (us++ws)
 | _,_,_,_,.nil,s=>s
 | _,_,_,_,.cons r t,s =>.cons r (bd.append t s)
theorem bd.take:∀ {xs:List V}{us:List Value}(n:Nat),bd xs us->bd (xs.take n) (us.take n)
 | _,_,0,_ =>.nil
 | _,_,_+1,.nil =>.nil
 | _,_,n+1,.cons r t =>.cons r (bd.take n t)
theorem bd.drop:∀ {xs:List V}{us:List Value}(n:Nat),bd xs us->bd (xs.drop n) (us.drop n)
 | _,_,0,r=>r
 | _,_,_+1,.nil =>.nil
 | _,_,n+1,.cons _ t=>bd.drop n t
noncomputable def jf:Option V->Option Value->Prop
 | some v,some u=>bx v u
 | none,none=>True
 | _,_=>False
noncomputable def KV {κ:Type}:List (κ×V)->List (κ×Value)->Prop:=Paired fun (p:κ×V) (q:κ×Value)=>p.1=q.1/\bx p.2 q.2
noncomputable def kV:Key->V
 | .inl i =>.int i
 | .inr x =>.str x
inductive HO where
 | lst (xs:List V)
 | tup (xs:List V)
 | dK (kvs:List (Key×V))|dT (kvs:List (List Key×V))
 | set (S:Int->Bool) (n:Nat)
 | ins (C dx:Addr) (fs:List (Str×V))
 | own (x:Addr)
 | xd (fs:List (Str×V))
 | met (f x:Addr)
 | rng (lo hi:Int)
 | frz (o:Obj) (u:HO)
 | tbl (ps:Array Value)
 | ext (φ:Heap->Prop)
noncomputable abbrev Hp:=Addr->Option HO
noncomputable def upd (H:Hp) (a:Addr) (o:HO):Hp:=fun b=>if b=a then some o else H b
theorem aB {H:Hp}{a:Addr}{o:HO}:upd H a o a=some o:=by unfold upd;rw[if_pos rfl]
theorem aJ {H:Hp}{a b:Addr}{o:HO}(h:b≠a):upd H a o b=H b:=by unfold upd;rw[if_neg h]
theorem qc8 {H:Hp}{a:Addr}{o u:HO}:upd (upd H a o) a u=upd H a u:=by
 funext b;unfold upd;split<;>rfl
theorem ba {H:Hp}{a b:Addr}{o:HO}(h:H a=some o) (h':H b=none):a≠b:=by
 intro e;subst e;rw[h] at h';cases h'
noncomputable section
variable (P:Program) (w:World)
noncomputable def dg (H:Hp) (h:Heap) (a:Addr):HO->Prop
 | .lst xs=>xs.length<=sizeLine/\∃ (its:List Value) (n:Nat),bd xs its/\h.get? a=some { cls :=.type "list",data :=.seq its.toArray n }
 | .tup xs=>xs.length<=sizeLine/\∃ its:List Value,bd xs its/\IsTup h a its.toArray
 | .dK kvs=>kvs.length<=sizeLine/\(a==sysModules)=false/\∃ vs,KV kvs vs/\h.DictOf (bW P w) a vs
 | .dT kvs=>kvs.length<=sizeLine/\(a==sysModules)=false/\∃ xs:List (List Key×Addr×Value),
   Paired (fun (p:List Key×V) (q:List Key×Addr×Value)=>p.1=q.1/\H q.2.1=some (.tup (p.1.map kV))/\bx p.2 q.2.2) kvs xs /\
   ∃ o es ep,h.get? a=some o/\o.ExactDict/\o.data=.dict es ep/\es.toList=xs.map (entryOfKey (tupleKind (bW P w)))/\(xs.map (·.1)).Nodup
 | .set S n=>h.SetOf (intKind P w) a S n
 | .ins C dx fs=>H dx=some (.own a)/\fs.length<=1000/\dx≠a/\h.get? a=some (instObj C dx) /\
   ∃ mA,h.Ns1 dx mA/\(∀ f,jf (fs.lookup f) (mA f))/\PySem.Within mA (fs.map (·.1))
 | .own _=>∃ o,h.get? a=some o
 | .xd fs=>∃ mA,h.Ns1 a mA/\∀ f,jf (fs.lookup f) (mA f)
 | .rng lo hi=>∃ t u v,h.get? a=some { cls :=.type "range",data :=.fields #[.int lo t,.int hi u,.int 1 v] }
 | .frz o u=>h.get? a=some o/\dg H h a u
 | .tbl ps=>h.get? a=some { cls :=.none,data :=.fields ps }
 | .met f x=>h.get? a=some (methodObj (.ref f) (.ref x))
 | .ext φ=>φ h/\(∃ o,h.get? a=some o)/\∀ h1 h2:Heap,φ h1->(∀ o,h1.get? a=some o->h2.get? a=some o)->φ h2
noncomputable def HOk (H:Hp) (h:Heap):Prop:=∀ a o,H a=some o->dg P w H h a o
end
noncomputable section
variable {P:Program}{w:World}{H H':Hp}{h h':Heap}{a:Addr}{o:HO}
theorem dg.lt (x:dg P w H h a o):a<h.objs.size:=by
 cases o with
 | lst xs=>obtain⟨_,_,_,_,e⟩:=x;exact zJ e
 | tup xs=>obtain⟨_,_,_,p⟩:=x;exact p.lt
 | dK kvs=>obtain⟨_,_,_,_,o,_,_,e,_⟩:=x;exact zJ e
 | dT kvs=>obtain⟨_,_,_,_,o,_,_,e,_⟩:=x;exact zJ e
 | set S n=>obtain⟨o,_,_,_,e,_⟩:=x;exact zJ e
 | ins C dx fs=>obtain⟨_,_,_,e,_⟩:=x;exact zJ e
 | own y=>obtain⟨_,e⟩:=x;exact zJ e
 | xd fs=>obtain⟨_,⟨_,_,_,e,_⟩,_⟩:=x;exact zJ e
 | rng lo hi=>obtain⟨_,_,_,e⟩:=x;exact zJ e
 | frz ob u=>obtain⟨e,_⟩:=x;exact zJ e
 | tbl ps=>exact zJ (show h.get? a=some _ from x)
 | met f y=>exact zJ (show h.get? a=some _ from x)
 | ext φ=>obtain⟨_,⟨_,e⟩,_⟩:=x;exact zJ e
theorem Paired.mapP {α β:Type}{F G:α->β->Prop}:∀ {l₁:List α}{l₂:List β},Paired F l₁ l₂->(∀ a b,F a b->G a b)->Paired G l₁ l₂
 | _,_,.nil,_ =>.nil
 | _,_,.cons r t,f =>.cons (f _ _ r) (Paired.mapP t f)
theorem dg.stay (x:dg P w H h a o) (k:∀ b u,(b=a∨H b=some (.own a))->h.get? b=some u->h'.get? b=some u)
  (ho:∀ b,H b=some (.own a)->H' b=some (.own a)) (ht:∀ b xs,H b=some (.tup xs)->H' b=some (.tup xs)):dg P w H' h' a o:=by
 induction o with
 | lst xs=>obtain⟨z,its,n,r,e⟩:=x;exact⟨z,its,n,r,k _ _ (.inl rfl) e⟩
 | tup xs=>obtain⟨z,its,r,ob,e,c⟩:=x;exact⟨z,its,r,ob,k _ _ (.inl rfl) e,c⟩
 | dK kvs=>obtain⟨z,y,vs,r,ob,es,ep,e,c⟩:=x;exact⟨z,y,vs,r,ob,es,ep,k _ _ (.inl rfl) e,c⟩
 | dT kvs=>obtain⟨z,y,xs,r,ob,es,ep,e,c⟩:=x;exact⟨z,y,xs,Paired.mapP r fun p q z=>⟨z.1,ht _ _ z.2.1,z.2.2⟩,ob,es,ep,k _ _ (.inl rfl) e,c⟩
 | set S n=>obtain⟨ob,es,ep,t,e,c⟩:=x;exact⟨ob,es,ep,t,k _ _ (.inl rfl) e,c⟩
 | ins C dx fs=>obtain⟨d,z,ne,e,mA,⟨od,es,ep,e2,c⟩,r⟩:=x;exact⟨ho _ d,z,ne,k _ _ (.inl rfl) e,mA,⟨od,es,ep,k _ _ (.inr d) e2,c⟩,r⟩
 | own y=>obtain⟨ob,e⟩:=x;exact⟨ob,k _ _ (.inl rfl) e⟩
 | xd fs=>obtain⟨mA,⟨od,es,ep,e,c⟩,r⟩:=x;exact⟨mA,⟨od,es,ep,k _ _ (.inl rfl) e,c⟩,r⟩
 | rng lo hi=>obtain⟨t,u,v,e⟩:=x;exact⟨t,u,v,k _ _ (.inl rfl) e⟩
 | frz ob u ih=>obtain⟨e,q⟩:=x;exact⟨k _ _ (.inl rfl) e,ih q⟩
 | tbl ps=>have e:h.get? a=some { cls :=.none,data :=.fields ps }:=x;show h'.get? a=some { cls :=.none,data :=.fields ps };exact k a _ (.inl rfl) e
 | met f y=>have e:h.get? a=some (methodObj (.ref f) (.ref y)):=x;show h'.get? a=some (methodObj (.ref f) (.ref y));exact k a _ (.inl rfl) e
 | ext φ=>obtain⟨p,⟨o,e⟩,st⟩:=x;exact⟨st _ _ p fun o q=>k _ _ (.inl rfl) q,⟨o,k _ _ (.inl rfl) e⟩,st⟩
theorem HOk.lt (x:HOk P w H h) (e:H a=some o):a<h.objs.size:=(x a o e).lt
theorem HOk.fresh (x:HOk P w H h) (e:h.objs.size<=a):H a=none:=by
 cases q:H a with
 | none=>rfl
 | some u=>exact absurd (zS (x.lt q) e) (yD _)
theorem HOk.kept (x:HOk P w H h) (k:∀ b u,h.get? b=some u->h'.get? b=some u):HOk P w H h':=fun a o e=>
 (x a o e).stay (fun b u _ q=>k b u q) (fun _ q=>q) fun _ _ q=>q
theorem HOk.laid (x:HOk P w H h) (k:∀ b u,h.get? b=some u->h'.get? b=some u) (hp:h.objs.size<=a) (new:dg P w (upd H a o) h' a o):HOk P w (upd H a o) h':=fun b u e=>by
 have hn:=x.fresh hp;by_cases hb:b=a
 ·subst hb;rw[aB] at e;cases e;exact new
 ·rw[aJ hb] at e;exact(x b u e).stay (fun c v _ q=>k c v q) (fun c q=>by rw[aJ (ba q hn)];exact q) fun c xs q=>by rw[aJ (ba q hn)];exact q
end
noncomputable def Rd (H:Hp) (a:Addr) (u:HO):Prop:=H a=some u∨∃ o,H a=some (.frz o u)
theorem Rd.of {H:Hp}{a:Addr}{u:HO}(h:H a=some u):Rd H a u :=.inl h
theorem Rd.ok {P:Program}{w:World}{H:Hp}{h:Heap}{a:Addr}{u:HO}(r:Rd H a u) (x:HOk P w H h):dg P w H h a u:=by
 rcases r with r|⟨o,r⟩
 ·exact x a u r
 ·obtain⟨_,q⟩:=x a _ r;exact q
noncomputable def Mut:Option HO->Prop
 | some (.lst _)=>True
 | some (.dK _)=>True
 | some (.dT _)=>True
 | some (.set _ _)=>True
 | some (.ins _ _ _)=>True
 | some (.ext _)=>True
 | _=>False
noncomputable section
variable {P:Program}{w:World}{H:Hp}{h h':Heap}{x e:Addr}{o':HO}
theorem HOk.write (ok:HOk P w H h) (mu:Mut (H x)) (he:e=x∨H e=some (.own x)) (k:∀ b u,b≠e->h.get? b=some u->h'.get? b=some u) (heo:∃ u,h'.get? e=some u)
  (new:dg P w (upd H x o') h' x o'):HOk P w (upd H x o') h':=fun b u q=>by
 have nown:∀ c y,H c=some (.own y)->c≠x:=fun c y r z=>by subst z;rw[r] at mu;exact mu
 have ntup:∀ c xs,H c=some (.tup xs)->c≠x:=fun c xs r z=>by subst z;rw[r] at mu;exact mu
 by_cases hb:b=x
 ·subst hb;rw[aB] at q;cases q;exact new
 ·rw[aJ hb] at q;by_cases hbe:b=e
  ·have q':H b=some (.own x):=by
    rcases he with z|z
    ·exact absurd (hbe.trans z) hb
    ·rw[hbe];exact z
   rw[q] at q';cases q';obtain⟨v,hv⟩:=heo;exact⟨v,by rw[hbe];exact hv⟩
  ·refine(ok b u q).stay (fun c v hc r=>k c v ?_ r) (fun c r=>by rw[aJ (nown c b r)];exact r) fun c xs r=>by rw[aJ (ntup c xs r)];exact r
   rcases hc with rfl|hc
   ·exact hbe
   ·rintro rfl;rcases he with z|z
    ·exact nown c b hc z
    ·rw[hc] at z;cases z;exact hb rfl
end
structure Un (fs ex:List Addr) (H H':Hp) (h h':Heap):Prop where
 keep:∀ b o,h.get? b=some o->H b=none->b∉fs->b∉ex->h'.get? b=some o
 slot:∀ b o,h.get? b=some o->H b=none->b∈fs->b∉ex->∃ sl,h'.get? b=some { o with slots:=sl }
 free:∀ b o,h.get? b=some o->H b=none->b∉ex->H' b=none
 there:∀ b o,h.get? b=some o->b∉ex->∃ o',h'.get? b=some o'
 tups:∀ b xs,H b=some (.tup xs)->H' b=some (.tup xs)
 frzs:∀ b o u,H b=some (.frz o u)->H' b=some (.frz o u)
 tbls:∀ b ps,H b=some (.tbl ps)->∃ more,H' b=some (.tbl (ps++more))
noncomputable section
variable {fs fs' ex ex':List Addr}{H H1 H2:Hp}{h h1 h2 h':Heap}{a x e:Addr}{o:HO}
theorem Un.any (u:Un fs ex H H1 h h1){b:Addr}{ob:Obj}(q:h.get? b=some ob) (n:H b=none) (hx:b∉ex):∃ sl,h1.get? b=some { ob with slots:=sl }:=by
 by_cases hb:b∈fs
 ·exact u.slot b ob q n hb hx
 ·exact⟨ob.slots,u.keep b ob q n hb hx⟩
theorem Un.kept (k:∀ b u,h.get? b=some u->h'.get? b=some u):Un fs ex H H h h':=
 ⟨fun b ob q _ _ _=>k b ob q,fun b ob q _ _ _=>⟨ob.slots,k b ob q⟩,fun _ _ _ n _=>n,fun b ob q _=>⟨ob,k b ob q⟩,fun _ _ q=>q,fun _ _ _ q=>q,fun _ ps q=>⟨#[],by rw[q];simp⟩⟩
theorem Un.refl:Un fs ex H H h h:=Un.kept fun _ _ q=>q
theorem Un.laid (k:∀ b u,h.get? b=some u->h'.get? b=some u) (hp:h.objs.size<=a) (hn:H a=none):Un fs ex H (upd H a o) h h' where
 keep:=fun b u q _ _ _=>k b u q
 slot:=fun b u q _ _ _=>⟨u.slots,k b u q⟩
 free:=fun b u q n _=>by rw[aJ (zR (zS (zJ q) hp))];exact n
 there:=fun b u q _=>⟨u,k b u q⟩
 tups:=fun b xs q=>by rw[aJ (ba q hn)];exact q
 frzs:=fun b u xs q=>by rw[aJ (ba q hn)];exact q
 tbls:=fun b ps q=>⟨#[],by rw[aJ (ba q hn),q];simp⟩
theorem Un.write (mu:Mut (H x)) (he:e=x∨H e=some (.own x)) (k:∀ b u,b≠e->h.get? b=some u->h'.get? b=some u) (heo:∃ u,h'.get? e=some u):Un fs ex H (upd H x o) h h':=by
 have hx:∀ b,H b=none->b≠x:=fun b n z=>by subst z;rw[n] at mu;exact mu
 have hb:∀ b,H b=none->b≠e:=fun b n z=>by
  subst z;rcases he with r|r
  ·exact hx b n r
  ·rw[n] at r;cases r
 have hm:∀ b u,H b=some u->¬ Mut (some u)->b≠x:=fun b u q nm z=>by subst z;rw[q] at mu;exact nm mu
 refine⟨fun b u q n _ _=>k b u (hb b n) q,fun b u q n _ _=>⟨u.slots,k b u (hb b n) q⟩,fun b u q n _=>by rw[aJ (hx b n)];exact n,fun b u q _ =>?_,
  fun b xs q=>by rw[aJ (hm b _ q fun z=>z)];exact q,fun b u xs q=>by rw[aJ (hm b _ q fun z=>z)];exact q,fun b ps q=>⟨#[],by rw[aJ (hm b _ q fun z=>z),q];simp⟩⟩
 by_cases hbe:b=e
 ·subst hbe;exact heo
 ·exact⟨u,k b u hbe q⟩
end
noncomputable def trk (h:Heap) (H:Hp):List Addr:=(List.range h.objs.size).filter fun a=>(H a).isSome
noncomputable def qaL (h:Heap) (H:Hp):Heap:=PySem.W.hideAll h (trk h H)
theorem qeo (h:Heap) (H:Hp):(qaL h H).objs.size=h.objs.size:=PySem.W.hideAll_size _ _
theorem qf6 {h:Heap}{H:Hp}{b:Addr}{o:Obj}(e:h.get? b=some o) (n:H b=none):(qaL h H).get? b=some o:=
 PySem.W.hideAll_get _ e fun hm=>by have q:(H b).isSome=true:=(List.mem_filter.mp hm).2;rw[n] at q;simp at q
theorem qhB {h:Heap}{H:Hp}{b:Addr}{o:Obj}(e:(qaL h H).get? b=some o):h.get? b=some o/\H b=none:=by
 have e':h.get? b=some o:=PySem.W.of_hideAll (trk h H) e;refine⟨e',?_⟩;cases q:H b with
 | none=>rfl
 | some x=>
  have hm:b∈trk h H:=List.mem_filter.mpr ⟨List.mem_range.mpr (zJ e'),by simp[q]⟩
  have z:(qaL h H).get? b=none:=PySem.W.hideAll_none (trk h H) hm;rw[z] at e;cases e
noncomputable def qij (g h:Heap) (L:Addr):List (Addr×Obj):=(List.range h.objs.size).filterMap fun a=>if a=L∨(g.get? a).isSome=true then none else (h.get? a).map fun o=>(a,o)
noncomputable def cm (g h:Heap) (L d:Addr):List (Addr×Obj):=(qij g h L).filter fun p=>decide (p.1≠d)
structure Mod (K:Frag) (mg:Str->Option Value) (base:Heap):Prop where
 kin:K.In base
 glob:base.Ns mainGlobals mg
 blt:∃ mb,base.Ns builtinsNs mb/\∀ x:Str,x ≠ "__name__" ->mb x=bootBuiltins x
 nolimit:base.NoLimit
structure Cx where
 prog:Program
 w:World
 K:Frag
 mg:Str->Option Value
 base:Heap
 A:Around
 N:List Str
 s₀:Shared
 H₀:Hp
 env:Env
 outer:List Env
 stack:List Env
 ex:List Addr
 fn:Str->Bool
 calm:Bool
 pn:List (Addr×Obj)
 xe:Value->Shared->Prop
noncomputable def frs (l:List Env):List Addr:=l.filterMap (·.frame)
noncomputable abbrev Cx.fs (X:Cx):List Addr:=frs X.outer
noncomputable def Vis (sc:Scope) (x:Str):Prop:=sc.names.lookup x=some .local∨sc.names.lookup x=some .cell∨sc.names.lookup x=some .free
noncomputable def Loc (sc:Scope) (x:Str):Prop:=sc.names.lookup x=some .local∨sc.names.lookup x=some .cell
noncomputable def qmh (env:Env) (h:Heap) (m:Str->Option Value) (x:Str) (u:Value):Prop:=
 (env.kindOf x=some .local/\m x=some u)∨((env.kindOf x=some .cell∨env.kindOf x=some .free)/\∃ c,env.cells.lookup x=some c/\h.IsCell c (some u))
structure Cx.Ok (X:Cx):Prop where
 mod:Mod X.K X.mg X.base
 kind:X.env.scope.kind=.function
 glob:X.env.globals=mainGlobals
 blt:X.env.builtins=builtinsNs
 above:X.s₀.heap.objs.size<=X.env.locals
 inj:∀ x y c,X.env.cells.lookup x=some c->X.env.cells.lookup y=some c->x=y
 has:∀ x,(X.env.kindOf x=some .cell∨X.env.kindOf x=some .free)->∃ c,X.env.cells.lookup x=some c
 cab:∀ x c,X.fn x=true->X.env.cells.lookup x=some c->X.s₀.heap.objs.size<=c
 hd:X.calm=true->X.A.handled=none
 frames:X.A.frames=some X.stack
 stk:X.stack=X.outer∨(X.stack=X.env::X.outer/\X.env.frame=some X.env.locals)
 exf:∀ b∈X.ex,b≠X.env.locals/\∀ x c,X.env.cells.lookup x=some c->c≠b
 bs:∀ b o,X.base.get? b=some o->X.s₀.heap.get? b=some o/\X.H₀ b=none
 bsz:X.base.objs.size<=X.s₀.heap.objs.size
 noex:∀ b o,X.base.get? b=some o->b∉X.ex
 exfs:∀ b∈X.ex,b∉X.fs
 funs:X.s₀.heap.FunFrames X.base X.outer
 frf:∀ b∈X.fs,X.H₀ b=none
structure Inv (X:Cx) (pins:List (Addr×Obj)) (σ:List (Option V)) (H:Hp) (s:Shared):Prop where
 ok:X.Ok
 os:s.os=X.s₀.os
 bare:AllBare s.gens
 base:Un X.fs X.ex X.H₀ H X.s₀.heap s.heap
 loc:∃ m,s.heap.Ns X.env.locals m/\∀ (i:Nat) (x:Str) (v:V),X.N[i]?=some x->σ[i]?=some (some v)->Vis X.env.scope x->∃ u,bx v u/\qmh X.env s.heap m x u
 cell:∀ x c,X.env.cells.lookup x=some c->∃ v,s.heap.IsCell c v
 free:H X.env.locals=none
 freeC:∀ x c,X.env.cells.lookup x=some c->H c=none
 pin:∀ p∈X.pn++pins,s.heap.get? p.1=some p.2/\H p.1=none/\p.1≠X.env.locals/\p.1∉X.fs/\∀ v,p.2.data ≠ .cell v
 hok:HOk X.prog X.w H s.heap
 len:σ.length=X.N.length
noncomputable section
variable {X:Cx}{pins:List (Addr×Obj)}{σ:List (Option V)}{H H':Hp}{s:Shared}{h':Heap}
theorem Cx.Ok.nofr (ok:X.Ok){b:Addr}{o:Obj}(e:X.base.get? b=some o):b∉X.fs:=fun hb=>by
 have:=(ok.funs.mem hb).1;rw[e] at this;cases this
theorem Inv.bs (I:Inv X pins σ H s):∀ b o,X.base.get? b=some o->s.heap.get? b=some o/\H b=none:=fun b o e=>
 ⟨I.base.keep b o (I.ok.bs b o e).1 (I.ok.bs b o e).2 (I.ok.nofr e) (I.ok.noex b o e),I.base.free b o (I.ok.bs b o e).1 (I.ok.bs b o e).2 (I.ok.noex b o e)⟩
theorem Inv.bk (I:Inv X pins σ H s):∀ b o,X.base.get? b=some o->s.heap.get? b=some o:=fun b o e=>(I.bs b o e).1
theorem Inv.mod (I:Inv X pins σ H s):Mod X.K X.mg X.base:=I.ok.mod
theorem Inv.kIn (I:Inv X pins σ H s):X.K.In s.heap:=I.ok.mod.kin.keeps I.bk
theorem Inv.nolimit (I:Inv X pins σ H s):s.heap.NoLimit:=I.ok.mod.nolimit.keeps I.bk
theorem Inv.fr (I:Inv X pins σ H s):∃ m,Fr X.base X.env.locals s.heap m:=
 let ⟨m,hn,_⟩:=I.loc
 ⟨m,hn,I.bk,yA I.ok.bsz I.ok.above⟩
theorem Inv.lt (I:Inv X pins σ H s):X.env.locals<s.heap.objs.size:=let ⟨_,hn,_⟩:=I.loc;hn.lt
theorem Inv.sz (I:Inv X pins σ H s):X.s₀.heap.objs.size<=s.heap.objs.size:=yA I.ok.above (Nat.le_of_lt I.lt)
theorem Inv.nofs (I:Inv X pins σ H s){a:Addr}(h:s.heap.objs.size<=a):a∉X.fs:=fun hb=>by
 obtain⟨_,o,ho,_⟩:=I.ok.funs.mem hb;exact absurd (zS (zJ ho) (yA I.sz h)) (yD _)
theorem Inv.cne (I:Inv X pins σ H s):∀ x c,X.env.cells.lookup x=some c->c≠X.env.locals:=fun x c e z=>by
 obtain⟨v,o,ho,hd⟩:=I.cell x c e;obtain⟨m,⟨o',es,ep,ho',hd',_⟩,_⟩:=I.loc;rw[z,ho'] at ho;cases ho;rw[hd'] at hd;cases hd
theorem Inv.funs (I:Inv X pins σ H s):s.heap.FunFrames X.base X.outer:=by
 have all:∀ (l:List Env),(∀ b∈frs l,b∈X.fs)->X.s₀.heap.FunFrames X.base l->s.heap.FunFrames X.base l:=by
  intro l
  induction l with
  | nil=>intro _ _;trivial
  | cons env r ih=>
   intro hs hl;obtain⟨hk,⟨L,o,hf,hn,ho,hd⟩,hr⟩:=hl;have hL:L∈X.fs:=hs L (by unfold frs;rw[List.filterMap_cons,hf];exact zD)
   obtain⟨sl,e⟩:=I.base.slot L o ho (I.ok.frf L hL) hL fun z=>I.ok.exfs L z hL
   exact⟨hk,⟨L,_,hf,hn,e,hd⟩,ih (fun b hb=>hs b (by unfold frs;rw[List.filterMap_cons,hf];exact zB _ hb)) hr⟩
 exact all X.outer (fun _ hb=>hb) I.ok.funs
theorem Inv.stack (I:Inv X pins σ H s):s.heap.FunFrames X.base X.stack:=by
 rcases I.ok.stk with e|⟨e,hf⟩
 ·rw[e];exact I.funs
 ·rw[e];obtain⟨m,hn,_⟩:=I.loc;refine .cons (by rw[I.ok.kind];decide) hf hn ?_ I.funs
  exact Heap.get?_none_of_le (yA I.ok.bsz I.ok.above)
theorem Inv.stkSub (I:Inv X pins σ H s):∀ b∈frs X.stack,b∈X.env.locals::X.fs:=fun b hb=>by
 rcases I.ok.stk with e|⟨e,hf⟩
 ·rw[e] at hb;exact zB _ hb
 ·rw[e] at hb;unfold frs at hb;rw[List.filterMap_cons,hf] at hb;exact hb
theorem Inv.stkFree (I:Inv X pins σ H s):∀ b∈frs X.stack,H b=none:=fun b hb=>by
 rcases zG.mp (I.stkSub b hb) with e|hb
 ·rw[e];exact I.free
 ·obtain⟨_,o,ho,_⟩:=I.ok.funs.mem hb;exact I.base.free b o ho (I.ok.frf b hb) fun z=>I.ok.exfs b z hb
theorem Inv.step {g':Array GenState}{t':Nat}{d':Drawn}{ch:List Addr}(I:Inv X pins σ H s)
  (hch:∀ b∈ch,(b∈X.ex∨X.s₀.heap.objs.size<=b)/\b≠X.env.locals/\(∀ x c,X.env.cells.lookup x=some c->c≠b)/\∀ p∈X.pn++pins,p.1≠b)
  (keep:∀ b o,b≠X.env.locals->b∉X.fs->b∉ch->s.heap.get? b=some o->H b=none->h'.get? b=some o)
  (slot:∀ b o,b≠X.env.locals->b∈X.fs->b∉ch->s.heap.get? b=some o->H b=none->∃ sl,h'.get? b=some { o with slots:=sl }) (free:∀ b o,b∉ch->s.heap.get? b=some o->H b=none->H' b=none)
  (there:∀ b o,b∉ch->s.heap.get? b=some o->∃ o',h'.get? b=some o')
  (tups:∀ b xs,H b=some (.tup xs)->H' b=some (.tup xs)) (frzs:∀ b o u,H b=some (.frz o u)->H' b=some (.frz o u)) (tbls:∀ b ps,H b=some (.tbl ps)->∃ more,H' b=some (.tbl (ps++more)))
  (ns:∀ m,s.heap.Ns X.env.locals m->h'.Ns X.env.locals m) (hok:HOk X.prog X.w H' h') (hg:AllBare g') :
  Inv X pins σ H' { s with heap:=h',gens:=g',drawn:=d',toks:=t' }:=by
 have neL:∀ b o,X.s₀.heap.get? b=some o->b≠X.env.locals:=fun b o e=>zR (zS (zJ e) I.ok.above)
 have neC:∀ b o,X.s₀.heap.get? b=some o->b∉X.ex->b∉ch:=fun b o e hx hb=>by
  rcases(hch b hb).1 with z|z
  ·exact hx z
  ·exact absurd (zS (zJ e) z) (yD _)
 have cellK:∀ x c,X.env.cells.lookup x=some c->∀ v,s.heap.IsCell c v->h'.IsCell c v:=fun x c e v ⟨o,ho,hd⟩=>by
  have nch:c∉ch:=fun z=>(hch c z).2.2.1 x c e rfl
  by_cases hc:c∈X.fs
  ·obtain⟨sl,q⟩:=slot c o (I.cne x c e) hc nch ho (I.freeC x c e);exact⟨_,q,hd⟩
  ·exact⟨o,keep c o (I.cne x c e) hc nch ho (I.freeC x c e),hd⟩
 refine⟨I.ok,I.os,hg,⟨fun b o e n hb hx =>?_,fun b o e n hb hx =>?_,fun b o e n hx =>?_,fun b o e hx =>?_,fun b xs e=>tups b xs (I.base.tups b xs e),fun b o xs e=>frzs b o xs (I.base.frzs b o xs e),fun b ps e =>?_⟩,?_,fun x c e =>?_,?_,fun x c e =>?_,fun p hp =>?_,hok,I.len⟩
 ·exact keep b o (neL b o e) hb (neC b o e hx) (I.base.keep b o e n hb hx) (I.base.free b o e n hx)
 ·obtain⟨sl,e1⟩:=I.base.slot b o e n hb hx;obtain⟨sl',e2⟩:=slot b _ (neL b o e) hb (neC b o e hx) e1 (I.base.free b o e n hx);exact⟨sl',e2⟩
 ·obtain⟨o',e1⟩:=I.base.there b o e hx;exact free b o' (neC b o e hx) e1 (I.base.free b o e n hx)
 ·obtain⟨o',e1⟩:=I.base.there b o e hx;exact there b o' (neC b o e hx) e1
 ·obtain⟨m1,e1⟩:=I.base.tbls b ps e;obtain⟨m2,e2⟩:=tbls b _ e1;exact⟨m1++m2,by rw[e2,Array.append_assoc]⟩
 ·obtain⟨m,hn,hl⟩:=I.loc;refine⟨m,ns m hn,fun i x v e1 e2 e3 =>?_⟩
  obtain⟨u,r,l⟩:=hl i x v e1 e2 e3;refine⟨u,r,?_⟩;rcases l with l|⟨k,c,e,z⟩
  ·exact .inl l
  ·exact .inr ⟨k,c,e,cellK x c e _ z⟩
 ·obtain⟨v,z⟩:=I.cell x c e;exact⟨v,cellK x c e v z⟩
 ·obtain⟨m,⟨o,_,_,ho,_⟩,_⟩:=I.loc;exact free _ o (fun z=>(hch _ z).2.1 rfl) ho I.free
 ·obtain⟨v,o,ho,hd⟩:=I.cell x c e;exact free c o (fun z=>(hch c z).2.2.1 x c e rfl) ho (I.freeC x c e)
 ·obtain⟨e,n,ne,nf,d⟩:=I.pin p hp;have nch:p.1∉ch:=fun z=>(hch p.1 z).2.2.2 p hp rfl
  exact⟨keep p.1 p.2 ne nf nch e n,free p.1 p.2 nch e n,ne,nf,d⟩
theorem Inv.un {t':Nat}(I:Inv X pins σ H s) (u:Un X.fs [] H H' s.heap h') (hok:HOk X.prog X.w H' h'):Inv X pins σ H' { s with heap:=h',toks:=t' }:=by
 obtain⟨m,⟨o,es,ep,ho,r⟩,_⟩:=id I.loc;obtain⟨sl,hL⟩:=u.any ho I.free (by simp)
 exact I.step (g':=s.gens) (d':=s.drawn) (ch:=[]) (fun _ z=>nomatch z) (fun b o _ hb _ e n=>u.keep b o e n hb (by simp)) (fun b o _ hb _ e n=>u.slot b o e n hb (by simp)) (fun b o _ e n=>u.free b o e n (by simp)) (fun b o _ e=>u.there b o e (by simp)) u.tups u.frzs u.tbls (fun m' hm=>by obtain⟨o',es',ep',ho',r'⟩:=hm;rw[ho] at ho';cases ho';exact⟨_,es',ep',hL,r'⟩) hok I.bare
theorem Inv.call {g':Array GenState}{t':Nat}{d':Drawn}{ch:List Addr}(I:Inv X pins σ H s) (u:Un (frs X.stack) ch H H' s.heap h') (hok:HOk X.prog X.w H' h') (hg:AllBare g')
  (hch:∀ b∈ch,(b∈X.ex∨X.s₀.heap.objs.size<=b)/\b≠X.env.locals/\(∀ x c,X.env.cells.lookup x=some c->c≠b)/\∀ p∈X.pn++pins,p.1≠b) :
  Inv X pins σ H' { s with heap:=h',gens:=g',drawn:=d',toks:=t' }:=by
 obtain⟨m,⟨o,es,ep,ho,r⟩,_⟩:=id I.loc;obtain⟨sl,hL⟩:=u.any ho I.free fun z=>(hch _ z).2.1 rfl
 exact I.step (ch:=ch) hch (fun b o hL hb hc e n=>u.keep b o e n (fun z=>(zG.mp (I.stkSub b z)).elim hL hb) hc) (fun b o _ _ hc e n=>u.any e n hc) (fun b o hc e n=>u.free b o e n hc) (fun b o hc e=>u.there b o e hc) u.tups u.frzs u.tbls (fun m' hm=>by obtain⟨o',es',ep',ho',r'⟩:=hm;rw[ho] at ho';cases ho';exact⟨_,es',ep',hL,r'⟩) hok hg
theorem Inv.turned {t':Nat}{it:Addr}(I:Inv X pins σ H s) (k:∀ b o,b≠it->s.heap.get? b=some o->h'.get? b=some o) (hn:H it=none) (hL:it≠X.env.locals)
  (h1:it∈X.ex∨X.s₀.heap.objs.size<=it) (h2:∀ x c,X.env.cells.lookup x=some c->c≠it) (h3:∀ p∈X.pn++pins,p.1≠it):Inv X pins σ H { s with heap:=h',toks:=t' }:=by
 have nit:∀ b u,H b=some u->b≠it:=fun b u e z=>by rw[z,hn] at e;cases e
 refine I.step (g':=s.gens) (d':=s.drawn) (ch:=[it]) (fun b hb =>?_) (fun b o _ _ hc e _=>k b o (fun z=>hc (by simp[z])) e) (fun b o _ _ hc e _=>⟨o.slots,k b o (fun z=>hc (by simp[z])) e⟩) (fun _ _ _ _ n=>n)
  (fun b o hc e=>⟨o,k b o (fun z=>hc (by simp[z])) e⟩) (fun _ _ e=>e) (fun _ _ _ e=>e) (fun b ps e=>⟨#[],by rw[e];simp⟩) (fun m hm =>?_) (fun b u e =>?_) I.bare
 ·have e:b=it:=by simpa using hb
  subst e;exact⟨h1,hL,h2,h3⟩
 ·obtain⟨o,es,ep,ho,r⟩:=hm;exact⟨o,es,ep,k _ o (Ne.symm hL) ho,r⟩
 ·refine(I.hok b u e).stay (fun c v hc q=>k c v ?_ q) (fun _ q=>q) fun _ _ q=>q
  rcases hc with z|z
  ·rw[z];exact nit b u e
  ·exact nit c _ z
theorem Inv.tok (I:Inv X pins σ H s) (t:Nat):Inv X pins σ H { s with toks:=t }:=I.un (h':=s.heap) (t':=t) Un.refl I.hok
theorem Inv.kept {t':Nat}(I:Inv X pins σ H s) (k:∀ b u,s.heap.get? b=some u->h'.get? b=some u):Inv X pins σ H { s with heap:=h',toks:=t' }:=I.un (Un.kept k) (I.hok.kept k)
theorem Inv.laid {a:Addr}{o:HO}{t':Nat}(I:Inv X pins σ H s) (k:∀ b u,s.heap.get? b=some u->h'.get? b=some u) (hp:s.heap.objs.size<=a) (new:dg X.prog X.w (upd H a o) h' a o) :
  Inv X pins σ (upd H a o) { s with heap:=h',toks:=t' }:=I.un (Un.laid k hp (I.hok.fresh hp)) (I.hok.laid k hp new)
theorem Inv.write {x e:Addr}{o:HO}{t':Nat}(I:Inv X pins σ H s) (mu:Mut (H x)) (he:e=x∨H e=some (.own x)) (k:∀ b u,b≠e->s.heap.get? b=some u->h'.get? b=some u) (heo:∃ u,h'.get? e=some u)
  (new:dg X.prog X.w (upd H x o) h' x o):Inv X pins σ (upd H x o) { s with heap:=h',toks:=t' }:=I.un (Un.write mu he k heo) (I.hok.write mu he k heo new)
theorem Inv.weak {σ':List (Option V)}(I:Inv X pins σ H s) (hl:σ'.length=σ.length) (w:∀ (i:Nat) v,σ'[i]?=some (some v)->σ[i]?=some (some v)):Inv X pins σ' H s:=
 ⟨I.ok,I.os,I.bare,I.base,let ⟨m,hn,hl'⟩:=I.loc;⟨m,hn,fun i x v e1 e2 e3=>hl' i x v e1 (w i v e2) e3⟩,I.cell,I.free,I.freeC,I.pin,I.hok,hl.trans I.len⟩
theorem Inv.pins_of {pins':List (Addr×Obj)}(I:Inv X pins σ H s) (h:∀ p∈pins',s.heap.get? p.1=some p.2/\H p.1=none/\p.1≠X.env.locals/\p.1∉X.fs/\∀ v,p.2.data ≠ .cell v):Inv X pins' σ H s:=
 ⟨I.ok,I.os,I.bare,I.base,I.loc,I.cell,I.free,I.freeC,fun p hp=>(zO.mp hp).elim (fun z=>I.pin p (zU _ z)) (h p),I.hok,I.len⟩
theorem ow {N:List Str}(hN:N.Nodup){i j:Nat}{x:Str}(a:N[i]?=some x) (b:N[j]?=some x):i=j:=by
 obtain⟨h1,e1⟩:=zC.mp a;obtain⟨h2,e2⟩:=zC.mp b;exact(List.getElem_inj hN).mp (e1.trans e2.symm)
theorem pB {M:Model}{A:Around}{E:Value->Shared->Prop}{i:Nat}{x:Str}{v:V}{u:Value}{Q:Unit->Shared->Prop}(I:Inv X pins σ H s) (hN:X.N.Nodup) (hi:X.N[i]?=some x) (hx:Loc X.env.scope x) (r:bx v u)
  (h:∀ s',Inv X pins (σ.set i (some v)) H s'->(∃ a,Heap.SameBut a s.heap s'.heap/\(a=X.env.locals∨X.env.cells.lookup x=some a))->Q () s') (hf:X.fn x=true∨X.env.scope.names.lookup x=some .local:=by first|exact .inl rfl|exact .inr rfl|assumption):wpAny M A (storeName X.env x u) Q E s:=by
 obtain⟨m,hn,hl⟩:=id I.loc;have hcls:(X.env.scope.kind == .class||(X.env.scope.kind == .module&&X.env.locals != X.env.globals))=false:=by rw[I.ok.kind];rfl
 have hiσ:i<σ.length:=by rw[I.len];exact(zC.mp hi).1
 have cne:=I.cne;have tracked:∀ {a:Addr}{h':Heap},(∃ o,s.heap.get? a=some o/\H a=none)->Heap.SameBut a s.heap h'->HOk X.prog X.w H h':=fun {a h'} ha hs b ob e=>by
  obtain⟨_,_,hfree⟩:=ha;refine(I.hok b ob e).stay (fun c w' hc q=>(hs.2 c ?_).trans q) (fun _ q=>q) fun _ _ q=>q
  rintro rfl;rcases hc with rfl|hc
  ·rw[hfree] at e;cases e
  ·rw[hfree] at hc;cases hc
 rcases hx with hk|hk
 ·refine wpAny_storeName_local hk hn (fun h' hn' hs =>?_) hcls
  obtain⟨oL,_,_,hoL,_⟩:=id hn;refine h _ ⟨I.ok,I.os,I.bare,⟨fun b o e n hb hx =>?_,fun b o e n hb hx =>?_,I.base.free,fun b o e hx =>?_,I.base.tups,I.base.frzs,I.base.tbls⟩,⟨_,hn',fun j y v' e1 e2 e3 =>?_⟩,fun y c e =>?_,I.free,I.freeC,fun p hp =>?_,tracked ⟨oL,hoL,I.free⟩ hs,by simpa using I.len⟩ ⟨_,hs,.inl rfl⟩
  ·exact(hs.2 b (zR (zS (zJ e) I.ok.above))).trans (I.base.keep b o e n hb hx)
  ·obtain⟨sl,e1⟩:=I.base.slot b o e n hb hx;exact⟨sl,(hs.2 b (zR (zS (zJ e) I.ok.above))).trans e1⟩
  ·obtain⟨o',e1⟩:=I.base.there b o e hx;exact⟨o',(hs.2 b (zR (zS (zJ e) I.ok.above))).trans e1⟩
  ·by_cases hj:j=i
   ·subst hj;rw[hi] at e1;cases e1;rw[List.getElem?_set_self hiσ] at e2;cases e2;exact⟨u,r,.inl ⟨hk,by simp⟩⟩
   ·rw[zK (Ne.symm hj)] at e2;obtain⟨u',r',q⟩:=hl j y v' e1 e2 e3;refine⟨u',r',?_⟩;rcases q with ⟨k,e⟩|⟨k,c,e,z⟩
    ·refine .inl ⟨k,?_⟩;have:y≠x:=fun e=>hj (ow hN e1 (e ▸ hi))
     simp[this,e]
    ·exact .inr ⟨k,c,e,z.sameBut hs (cne y c e)⟩
  ·obtain⟨w',z⟩:=I.cell y c e;exact⟨w',z.sameBut hs (cne y c e)⟩
  ·obtain⟨e,n,ne,nf,d⟩:=I.pin p hp;exact⟨(hs.2 p.1 ne).trans e,n,ne,nf,d⟩
 ·have hfn:X.fn x=true:=by
   rcases hf with z|z
   ·exact z
   ·rw[z] at hk;cases hk
  obtain⟨c,hc⟩:=I.ok.has x (.inl hk);obtain⟨w',z⟩:=I.cell x c hc;refine wpAny_storeName_cell I.ok.kind hk hc z (fun h' hc' hs =>?_)
  obtain⟨oc,hoc,hocd⟩:=id z;refine h { s with heap:=h' } ⟨I.ok,I.os,I.bare,⟨fun b o e n hb hx =>?_,fun b o e n hb hx =>?_,I.base.free,fun b o e hx =>?_,I.base.tups,I.base.frzs,I.base.tbls⟩,⟨m,hn.sameBut hs (Ne.symm (cne x c hc)),fun j y v' e1 e2 e3 =>?_⟩,fun y c' e =>?_,I.free,I.freeC,fun p hp =>?_,tracked ⟨oc,hoc,I.freeC x c hc⟩ hs,by simpa using I.len⟩ ⟨c,hs,.inr hc⟩
  ·exact(hs.2 b (zR (zS (zJ e) (I.ok.cab x c hfn hc)))).trans (I.base.keep b o e n hb hx)
  ·obtain⟨sl,e1⟩:=I.base.slot b o e n hb hx;exact⟨sl,(hs.2 b (zR (zS (zJ e) (I.ok.cab x c hfn hc)))).trans e1⟩
  ·obtain⟨o',e1⟩:=I.base.there b o e hx;exact⟨o',(hs.2 b (zR (zS (zJ e) (I.ok.cab x c hfn hc)))).trans e1⟩
  ·by_cases hj:j=i
   ·subst hj;rw[hi] at e1;cases e1;rw[List.getElem?_set_self hiσ] at e2;cases e2;exact⟨u,r,.inr ⟨.inl hk,c,hc,hc'⟩⟩
   ·rw[zK (Ne.symm hj)] at e2;obtain⟨u',r',q⟩:=hl j y v' e1 e2 e3;refine⟨u',r',?_⟩;rcases q with q|⟨k,c',e,z'⟩
    ·exact .inl q
    ·refine .inr ⟨k,c',e,z'.sameBut hs ?_⟩;rintro rfl;exact hj (ow hN e1 (I.ok.inj _ _ _ e hc ▸ hi))
  ·by_cases hcc:c'=c
   ·subst hcc;exact⟨_,hc'⟩
   ·obtain⟨w2,z2⟩:=I.cell y c' e;exact⟨w2,z2.sameBut hs hcc⟩
  ·obtain⟨e,n,ne,nf,d⟩:=I.pin p hp;refine⟨(hs.2 p.1 ?_).trans e,n,ne,nf,d⟩;intro q;rw[q,hoc] at e;have q':oc=p.2:=zZ e;exact d w' (by rw[<- q'];exact hocd)
theorem nW {M:Model}{A:Around}{E:Value->Shared->Prop}{i:Nat}{x:Str}{v:V}{u:Value}{Q:Unit->Shared->Prop}(I:Inv X pins σ H s) (hN:X.N.Nodup) (hi:X.N[i]?=some x) (hx:Loc X.env.scope x) (r:bx v u)
  (h:∀ s',Inv X pins (σ.set i (some v)) H s'->Q () s') (hf:X.fn x=true∨X.env.scope.names.lookup x=some .local:=by first|exact .inl rfl|exact .inr rfl|assumption):wpAny M A (storeName X.env x u) Q E s:=
 pB I hN hi hx r (fun s' I' _=>h s' I') hf
theorem Inv.call' {s':Shared}{ch:List Addr}(I:Inv X pins σ H s) (ho:s'.os=s.os) (u:Un (frs X.stack) ch H H' s.heap s'.heap) (hok:HOk X.prog X.w H' s'.heap) (hg:AllBare s'.gens)
  (hch:∀ b∈ch,(b∈X.ex∨X.s₀.heap.objs.size<=b)/\b≠X.env.locals/\(∀ x c,X.env.cells.lookup x=some c->c≠b)/\∀ p∈X.pn++pins,p.1≠b):Inv X pins σ H' s':=by
 obtain⟨h',g',d',t',o'⟩:=s';have e:o'=s.os:=ho;subst e;exact I.call (g':=g') (t':=t') (d':=d') u hok hg hch
end
noncomputable abbrev XK:=Value->Option Addr->Hp->Prop
noncomputable abbrev St:=List (Option V)
noncomputable abbrev VK:=V->Hp->Prop
noncomputable abbrev TE:=St->Hp->VK->Prop
noncomputable abbrev TT:=St->Hp->(Bool->Hp->Prop)->Prop
noncomputable abbrev TA:=St->Hp->(List V->Hp->Prop)->Prop
structure qc4 where
 nx:St->Hp->Prop
 rt:VK
 bk:St->Hp->Prop:=fun _ _=>False
 ct:St->Hp->Prop:=fun _ _=>False
noncomputable abbrev TS:=qc4->St->Hp->Prop
noncomputable def EP (X:Cx) (pins:List (Addr×Obj)) (σ:St) (Q:VK) (u:Value) (s':Shared):Prop:=∃ v H',Inv X pins σ H' s'/\bx v u/\Q v H'
noncomputable def TP (X:Cx) (pins:List (Addr×Obj)) (σ:St) (Q:Bool->Hp->Prop) (b:Bool) (s':Shared):Prop:=∃ H',Inv X pins σ H' s'/\Q b H'
noncomputable def AP (X:Cx) (pins:List (Addr×Obj)) (σ:St) (Q:List V->Hp->Prop) (us:List Value) (s':Shared):Prop:=∃ vs H',Inv X pins σ H' s'/\bd vs us/\Q vs H'
noncomputable def SP (X:Cx) (pins:List (Addr×Obj)) (D:qc4) (f:Flow) (s':Shared):Prop:=
 match f with
 | .next=>∃ σ' H',Inv X pins σ' H' s'/\D.nx σ' H'
 | .brk=>∃ σ' H',Inv X pins σ' H' s'/\D.bk σ' H'
 | .cont=>∃ σ' H',Inv X pins σ' H' s'/\D.ct σ' H'
 | .ret u=>∃ v σ' H',Inv X pins σ' H' s'/\bx v u/\D.rt v H'
noncomputable def PE (X:Cx) (e:Expr) (t:TE):Prop:=
 ∀ (pins:List (Addr×Obj)) (s:Shared) (σ:St) (H:Hp) (Q:VK),Inv X pins σ H s->t σ H Q->wpAny (model X.prog X.w) X.A (eval e X.env) (EP X pins σ Q) X.xe s
noncomputable def PT (X:Cx) (e:Expr) (t:TT):Prop:=
 ∀ (pins:List (Addr×Obj)) (s:Shared) (σ:St) (H:Hp) (Q:Bool->Hp->Prop),Inv X pins σ H s->t σ H Q->wpAny (model X.prog X.w) X.A (isTrue e X.env (eval e X.env)) (TP X pins σ Q) X.xe s
noncomputable def PW (X:Cx) (e:Expr) (t:TT):Prop:=
 ∀ (whole:Sem Value) (pins:List (Addr×Obj)) (s:Shared) (σ:St) (H:Hp) (Q:Bool->Hp->Prop),Inv X pins σ H s->t σ H Q->wpAny (model X.prog X.w) X.A (isTrue e X.env whole) (TP X pins σ Q) X.xe s
theorem PW.pt {X:Cx}{e:Expr}{t:TT}(h:PW X e t):PT X e t:=h _
noncomputable def PA (X:Cx) (es:List Expr) (t:TA):Prop:=
 ∀ (pos:Pos) (pins:List (Addr×Obj)) (s:Shared) (σ:St) (H:Hp) (Q:List V->Hp->Prop),Inv X pins σ H s->t σ H Q->wpAny (model X.prog X.w) X.A (spliced (backTo pos (starEach es X.env))) (AP X pins σ Q) X.xe s
noncomputable def PS (X:Cx) (st:Stmt) (t:TS):Prop:=
 ∀ (pins:List (Addr×Obj)) (s:Shared) (σ:St) (H:Hp) (D:qc4),Inv X pins σ H s->t D σ H->wpAny (model X.prog X.w) X.A (exec st X.env) (SP X pins D) X.xe s
noncomputable def PSs (X:Cx) (st:List Stmt) (t:TS):Prop:=
 ∀ (pins:List (Addr×Obj)) (s:Shared) (σ:St) (H:Hp) (D:qc4),Inv X pins σ H s->t D σ H->wpAny (model X.prog X.w) X.A (execs st X.env) (SP X pins D) X.xe s
theorem thn {α:Type}{t:Sem α}{Q Q':α->Shared->Prop}{M:Model}{A:Around}{E:Value->Shared->Prop}{s:Shared}(h:wpAny M A t Q E s) (hQ:∀ a s,Q a s->Q' a s):wpAny M A t Q' E s:=wpAny_mono h hQ fun _ _ x=>x
noncomputable section
variable {X:Cx}
theorem bin {a b:Expr}{ta tb:TE}(ha:PE X a ta) (hb:PE X b tb){pins:List (Addr×Obj)}{s:Shared}{σ:St}{H:Hp}{R:V->V->Hp->Prop}(I:Inv X pins σ H s) (h:ta σ H fun x H1=>tb σ H1 fun y H2=>R x y H2)
  {α:Type}{Q:α->Shared->Prop}{f:Value->Value->Sem α}
  (hf:∀ v u s2 x y H2,Inv X pins σ H2 s2->bx x v->bx y u->R x y H2->wpAny (model X.prog X.w) X.A (f v u) Q X.xe s2) :
  wpAny (model X.prog X.w) X.A (eval a X.env) (fun v s₁=>wpAny (model X.prog X.w) X.A (eval b X.env) (fun u s₂=>wpAny (model X.prog X.w) X.A (f v u) Q X.xe s₂) X.xe s₁) X.xe s:=by
 refine thn (ha pins s σ H _ I h) fun v s1 ⟨x,H1,I1,r1,q1⟩ =>?_
 refine thn (hb pins s1 σ H1 _ I1 q1) fun u s2 ⟨y,H2,I2,r2,q2⟩ =>?_
 exact hf v u s2 x y H2 I2 r1 r2 q2
noncomputable def i4 (i:Nat):TE:=fun σ H Q=>∃ v,σ[i]?=some (some v)/\Q v H
noncomputable def tC (v:V):TE:=fun _ H Q=>Q v H
theorem qi5 {i:Nat}{x:Str}{pos:Pos}(hN:X.N[i]?=some x) (hv:Vis X.env.scope x) (hd:(x==("__debug__" : Str))=false:=by decide) (hcd:(x==("__classdict__" : Str))=false:=by decide):PE X (.Name x pos) (i4 i):=by
 intro pins s σ H Q I h;obtain⟨v,e,h⟩:=h;obtain⟨m,hn,hl⟩:=I.loc;obtain⟨u,r,l⟩:=hl i x v hN e hv;have fin:EP X pins σ Q u s:=⟨v,H,I,r,h⟩;rcases l with ⟨hk,hm⟩|⟨hk,c,hc,hcell⟩
 ·exact wpAny_Name (wpAny_loadName_local I.ok.kind hk hn hm fin) hd
 ·rcases hk with hk|hk
  ·exact wpAny_Name (wpAny_loadName_cell I.ok.kind hk hc hcell fin) hd
  ·exact wpAny_Name (wpAny_loadName_free I.ok.kind hk hc hcell fin hcd) hd
theorem qi8 {i j pos}:PE X (.Constant (.int i) j pos) (tC (.int i)):=fun _ _ _ H _ I h=>wpAny_Constant_int ⟨.int i,H,I.tok _,⟨_,rfl⟩,h⟩
theorem qkM {b j pos}:PE X (.Constant (.bool b) j pos) (tC (.bl b)):=fun _ _ _ H _ I h=>Constant_bool ⟨.bl b,H,I,rfl,h⟩
theorem qcr {j pos}:PE X (.Constant .none j pos) (tC .non):=fun _ _ _ H _ I h=>Constant_none ⟨.non,H,I,rfl,h⟩
theorem mD {x j pos}:PE X (.Constant (.str x) j pos) (tC (.str x)):=fun _ _ _ H _ I h=>Calls.Constant_str ⟨.str x,H,I.tok _,⟨_,rfl⟩,h⟩
noncomputable def Gl (X:Cx) (x:Str):Prop:=X.env.kindOf x=some .globalImplicit
theorem kq {E:Value->Shared->Prop}{pins:List (Addr×Obj)}{s:Shared}{σ:St}{H:Hp}{x:Str}{u:Value}{pos:Pos}{Q:Value->Shared->Prop}(I:Inv X pins σ H s) (hg:Gl X x) (hm:X.mg x=some u) (h:Q u s)
  (hd:(x==("__debug__" : Str))=false:=by decide):wpAny (model X.prog X.w) X.A (eval (.Name x pos) X.env) Q E s:=
 Calls.Name_function_global I.ok.kind hg (Calls.loadGlobal_global (by rw[I.ok.glob];exact I.mod.glob.keeps I.bk) hm h) hd
theorem qaG {E:Value->Shared->Prop}{pins:List (Addr×Obj)}{s:Shared}{σ:St}{H:Hp}{x:Str}{u:Value}{pos:Pos}{Q:Value->Shared->Prop}(I:Inv X pins σ H s) (hg:Gl X x) (hm:X.mg x=none) (hv:bootBuiltins x=some u) (h:Q u s)
  (hn:x ≠ "__name__" :=by decide) (hd:(x==("__debug__" : Str))=false:=by decide):wpAny (model X.prog X.w) X.A (eval (.Name x pos) X.env) Q E s:=by
 obtain⟨mb,h1,h2⟩:=I.mod.blt;exact Calls.Name_function_global I.ok.kind hg (Calls.loadGlobal_builtin (by rw[I.ok.glob];exact I.mod.glob.keeps I.bk) hm (by rw[I.ok.blt];exact h1.keeps I.bk) ((h2 x hn).trans hv) h) hd
theorem iz {x:Str}{v:V}{u:Value}{pos:Pos}(hg:Gl X x) (hm:X.mg x=some u) (r:bx v u) (hd:(x==("__debug__" : Str))=false:=by decide):PE X (.Name x pos) (tC v):=
 fun _ _ _ H _ I h=>kq I hg hm ⟨v,H,I,r,h⟩ hd
theorem qdp {x:Str}{v:V}{u:Value}{pos:Pos}(hg:Gl X x) (hm:X.mg x=none) (hv:bootBuiltins x=some u) (r:bx v u) (hn:x ≠ "__name__" :=by decide) (hd:(x==("__debug__" : Str))=false:=by decide):PE X (.Name x pos) (tC v):=
 fun _ _ _ H _ I h=>qaG I hg hm hv ⟨v,H,I,r,h⟩ hn hd
variable {a b:Expr}{ta tb:TE}{pos:Pos}
noncomputable def PC (X:Cx) (op:CmpOp) (a b:Expr) (t:TE):Prop:=
 ∀ (pins:List (Addr×Obj)) (s:Shared) (σ:St) (H:Hp) (Q:VK),Inv X pins σ H s->t σ H Q ->
  wpAny (model X.prog X.w) X.A (eval a X.env) (fun v s₁=>wpAny (model X.prog X.w) X.A (eval b X.env) (fun u s₂=>wpAny (model X.prog X.w) X.A (compareOp op v u) (EP X pins σ Q) X.xe s₂) X.xe s₁) X.xe s
theorem qfC (b:Expr){op:CmpOp}(h:op ≠ .In) (h2:op ≠ .NotIn):behindInMarks op b=false:=by
 have e1:(op==CmpOp.In)=false:=by cases op<;>first|rfl|exact absurd rfl h
 have e2:(op==CmpOp.NotIn)=false:=by cases op<;>first|rfl|exact absurd rfl h2
 cases b<;>simp[behindInMarks,e1,e2]
noncomputable def tB (t:TE):TT:=fun σ H Q=>t σ H fun x H1=>∃ c,x=.bl c/\Q c H1
theorem qfh {op:CmpOp}{t:TE}(h:PC X op a b t) (h1:behindInMarks op b=false:=by first|exact qfC _ (by decide) (by decide)|rfl):PT X (.Compare a [op] [b] pos) (tB t):=by
 intro pins s σ H Q I hw;refine wpAny_isTrue_Compare1 (thn (h pins s σ H _ I hw) fun v s1 h1=>thn h1 fun u s2 h2=>thn h2 fun c s3 ⟨x,H1,I1,r1,q1⟩ =>?_) h1
 obtain⟨d,rfl,q⟩:=q1;cases r1;exact wpAny_truthy_bool ⟨H1,I1,q⟩
theorem mB {e:Expr}{t:TE}(h:PE X e t) (he:∀ whole,isTrue e X.env whole=(do let v <- whole;standAt e.pos;holding [v] (truthy v)):=by intro _;rfl):PT X e (tB t):=by
 intro pins s σ H Q I hw;refine isTrue_plain (thn (h pins s σ H _ I hw) fun v s1 ⟨x,H1,I1,r1,q1⟩ =>?_) (he _)
 obtain⟨d,rfl,q⟩:=q1;cases r1;exact wpAny_truthy_bool ⟨H1,I1,q⟩
variable {tA tB':TT}{cm:List Expr}
noncomputable def qlK (t u:TT):TT:=fun σ H Q=>t σ H fun c H1=>if c=true then u σ H1 Q else Q false H1
noncomputable def tOr (t u:TT):TT:=fun σ H Q=>t σ H fun c H1=>if c=true then Q true H1 else u σ H1 Q
noncomputable def qlD (t:TT):TT:=fun σ H Q=>t σ H fun c H1=>Q (!c) H1
theorem qdl (ha:PT X a tA):PW X (.BoolOp .And [a] pos) tA:=by
 intro wh pins s σ H Q I h;refine isTrue_and (thn (ha pins s σ H Q I h) fun c s1 e =>?_)
 cases c with
 | true=>exact isTrue_and_nil e
 | false=>exact e
theorem qiY (ha:PT X a tA):PW X (.BoolOp .Or [a] pos) tA:=by
 intro wh pins s σ H Q I h;refine isTrue_or (thn (ha pins s σ H Q I h) fun c s1 e =>?_)
 cases c with
 | false=>exact isTrue_or_nil e
 | true=>exact e
theorem qfe (ha:PT X a tA) (hb:PW X (.BoolOp .And (b::cm) pos) tB'):PW X (.BoolOp .And (a::b::cm) pos) (qlK tA tB'):=by
 intro wh pins s σ H Q I h;refine isTrue_and (thn (ha pins s σ H _ I h) fun c s1 ⟨H1,I1,q1⟩ =>?_)
 cases c with
 | true=>exact hb wh pins s1 σ H1 Q I1 q1
 | false=>exact⟨H1,I1,q1⟩
theorem qkL (ha:PT X a tA) (hb:PW X (.BoolOp .Or (b::cm) pos) tB'):PW X (.BoolOp .Or (a::b::cm) pos) (tOr tA tB'):=by
 intro wh pins s σ H Q I h;refine isTrue_or (thn (ha pins s σ H _ I h) fun c s1 ⟨H1,I1,q1⟩ =>?_)
 cases c with
 | true=>exact⟨H1,I1,q1⟩
 | false=>exact hb wh pins s1 σ H1 Q I1 q1
theorem qfg (ha:PT X a tA):PT X (.UnaryOp .Not a pos) (qlD tA):=by
 intro pins s σ H Q I h;exact isTrue_not (ha pins s σ H (fun c H1=>Q (!c) H1) I h)
noncomputable def qkv (ta tb:TE):TE:=fun σ H Q=>ta σ H fun x H1=>∃ c,x=.bl c/\if c=true then tb σ H1 Q else Q (.bl false) H1
noncomputable def qkn (ta:TE):TE:=fun σ H Q=>ta σ H fun x H1=>∃ c,x=.bl c/\Q (.bl (!c)) H1
theorem qi6 {op} {t:TE}(h:PE X a t):PE X (.BoolOp op [a] pos) t:=fun pins s σ H Q I hw=>BoolOp_one (h pins s σ H Q I hw)
theorem qjb (ha:PE X a ta) (hb:PE X (.BoolOp .And (b::cm) pos) tb):PE X (.BoolOp .And (a::b::cm) pos) (qkv ta tb):=by
 intro pins s σ H Q I h;refine BoolOp_and (thn (ha pins s σ H _ I h) fun v s1 ⟨x,H1,I1,r1,q1⟩ =>?_)
 obtain⟨c,rfl,q1⟩:=q1;cases r1;refine wpAny_truthy_bool ?_;cases c with
 | true=>exact hb pins s1 σ H1 Q I1 q1
 | false=>exact⟨.bl false,H1,I1,rfl,q1⟩
theorem qi7 (ha:PE X a ta):PE X (.UnaryOp .Not a pos) (qkn ta):=by
 intro pins s σ H Q I h;refine UnaryOp_ (thn (ha pins s σ H _ I h) fun v s1 ⟨x,H1,I1,r1,q1⟩ =>?_)
 obtain⟨c,rfl,q1⟩:=q1;cases r1;exact not_of (wpAny_truthy_bool ⟨.bl (!c),H1,I1,rfl,q1⟩)
end
noncomputable def SqL (K:Frag) (H:Hp) (a:Addr) (xs:List V):Prop:=
 Rd H a (.lst xs) ∨
  ∃ (o:Obj) (its:Array Value) (n:Nat),K.lookup a=some o/\o.cls=.type "list" /\o.dict=none/\o.data=.seq its n/\its.size<=sizeLine/\bd xs its.toList
noncomputable def SqT (K:Frag) (H:Hp) (a:Addr) (xs:List V):Prop:=
 Rd H a (.tup xs) ∨
  ∃ (o:Obj) (its:Array Value) (n:Nat),K.lookup a=some o/\o.cls=.type "tuple" /\o.data=.seq its n/\its.size<=sizeLine/\bd xs its.toList
noncomputable def qme:Value->Option V
 | .none=>some .non
 | .bool b=>some (.bl b)
 | .int i _=>some (.int i)
 | .str x _=>some (.str x)
 | .bytes b _=>some (.byt b)
 | .float b _=>some (.flt b)
 | .ref a=>some (.ref a)
 | .type n=>some (.ty n)
 | _=>none
theorem bx.abs {x:V}{u:Value}(r:bx x u):qme u=some x:=by
 cases x with
 | non=>cases r;rfl
 | bl _=>cases r;rfl
 | int _=>obtain⟨t,rfl⟩:=r;rfl
 | str _=>obtain⟨t,rfl⟩:=r;rfl
 | byt _=>obtain⟨t,rfl⟩:=r;rfl
 | flt _=>obtain⟨t,rfl⟩:=r;rfl
 | ref _=>cases r;rfl
 | ty _=>cases r;rfl
theorem bx.inj {x y:V}{u:Value}(r:bx x u) (q:bx y u):x=y:=zZ (r.abs.symm.trans q.abs)
theorem bd.inj:∀ {xs ys:List V}{us:List Value},bd xs us->bd ys us->xs=ys
 | _,_,_,.nil,.nil=>rfl
 | _,_,_,.cons r t,.cons r' t'=>by rw[r.inj r',bd.inj t t']
noncomputable section
variable {X:Cx}{pins:List (Addr×Obj)}{σ:St}{H:Hp}{s:Shared}{a:Addr}{xs ys:List V}
theorem SqL.of {K:Frag}(h:H a=some (.lst xs)):SqL K H a xs :=.inl (.inl h)
theorem SqT.of {K:Frag}(h:H a=some (.tup xs)):SqT K H a xs :=.inl (.inl h)
theorem Inv.list (I:Inv X pins σ H s) (h:SqL X.K H a xs):∃ its:List Value,bd xs its/\PlainL s.heap a its.toArray/\xs.length<=sizeLine:=by
 rcases h with h|⟨o,its,n,hk,hc,hd,hs,hz,r⟩
 ·obtain⟨z,its,n,r,e⟩:=h.ok I.hok;exact⟨its,r,⟨_,n,e,rfl,rfl,rfl⟩,z⟩
 ·refine⟨its.toList,r,⟨o,n,I.kIn a o hk,hc,hd,by simpa using hs⟩,?_⟩
  have e:=r.length;simp only[Array.length_toList] at e;omega
theorem Inv.tuple (I:Inv X pins σ H s) (h:SqT X.K H a xs):∃ its:List Value,bd xs its/\IsTup s.heap a its.toArray/\xs.length<=sizeLine:=by
 rcases h with h|⟨o,its,n,hk,hc,hs,hz,r⟩
 ·obtain⟨z,its,r,p⟩:=h.ok I.hok;exact⟨its,r,p,z⟩
 ·refine⟨its.toList,r,⟨o,I.kIn a o hk,hc,n,by simpa using hs⟩,?_⟩
  have e:=r.length;simp only[Array.length_toList] at e;omega
theorem Inv.list_inj (I:Inv X pins σ H s) (h:SqL X.K H a xs) (h':SqL X.K H a ys):xs=ys:=by
 obtain⟨its,r,⟨o,n,e,_,_,d⟩,_⟩:=I.list h;obtain⟨its',r',⟨o',n',e',_,_,d'⟩,_⟩:=I.list h';rw[e] at e';cases e';rw[d] at d';injection d' with d1 _;have:its=its':=by simpa using congrArg Array.toList d1
 subst this;exact r.inj r'
end
noncomputable abbrev Cx.wish (X:Cx) (E:Value->Shared->Prop):Cx:={ X with xe:=E }
noncomputable abbrev Cx.nox (X:Cx):Cx:=X.wish fun _ _=>False
theorem Cx.Ok.wish {X:Cx}(ok:X.Ok) (E:Value->Shared->Prop):(X.wish E).Ok:=
 ⟨ok.mod,ok.kind,ok.glob,ok.blt,ok.above,ok.inj,ok.has,ok.cab,ok.hd,ok.frames,ok.stk,ok.exf,ok.bs,ok.bsz,ok.noex,ok.exfs,ok.funs,ok.frf⟩
theorem Cx.Ok.unwish {X:Cx}{E:Value->Shared->Prop}(ok:(X.wish E).Ok):X.Ok:=
 ⟨ok.mod,ok.kind,ok.glob,ok.blt,ok.above,ok.inj,ok.has,ok.cab,ok.hd,ok.frames,ok.stk,ok.exf,ok.bs,ok.bsz,ok.noex,ok.exfs,ok.funs,ok.frf⟩
noncomputable section
variable {X:Cx}{pins:List (Addr×Obj)}{σ:St}{H:Hp}{s:Shared}{E:Value->Shared->Prop}
theorem Inv.wish (I:Inv X pins σ H s) (E:Value->Shared->Prop):Inv (X.wish E) pins σ H s:=⟨I.ok.wish E,I.os,I.bare,I.base,I.loc,I.cell,I.free,I.freeC,I.pin,I.hok,I.len⟩
theorem Inv.unwish (I:Inv (X.wish E) pins σ H s):Inv X pins σ H s:=⟨I.ok.unwish,I.os,I.bare,I.base,I.loc,I.cell,I.free,I.freeC,I.pin,I.hok,I.len⟩
theorem SP.unwish {D:qc4}{f:Flow}{s':Shared}(h:SP (X.wish E) pins D f s'):SP X pins D f s':=by
 cases f with
 | next=>obtain⟨σ',H',I,q⟩:=h;exact⟨σ',H',I.unwish,q⟩
 | brk=>obtain⟨σ',H',I,q⟩:=h;exact⟨σ',H',I.unwish,q⟩
 | cont=>obtain⟨σ',H',I,q⟩:=h;exact⟨σ',H',I.unwish,q⟩
 | ret u=>obtain⟨v,σ',H',I,r,q⟩:=h;exact⟨v,σ',H',I.unwish,r,q⟩
theorem PSs.nox {st:List Stmt}{t:TS}(h:PSs X.nox st t):PSs X st t:=fun pins s σ H D I hw=>
 wpAny_mono (h pins s σ H D (I.wish _) hw) (fun _ _ q=>q.unwish) fun _ _ z=>False.elim z
end
noncomputable section
variable {X:Cx}{st:Stmt}{cm:List Stmt}{t u:TS}{e:Expr}{te:TE}{pos:Pos}
noncomputable def qko:TS:=fun D σ H=>D.nx σ H
noncomputable def qlB (t u:TS):TS:=fun D σ H=>t { D with nx:=u D } σ H
theorem jm:PSs X [] qko:=fun _ _ σ H _ I h=>wpAny_execs_nil ⟨σ,H,I,h⟩
theorem fD (h1:PS X st t) (h2:PSs X cm u):PSs X (st::cm) (qlB t u):=by
 intro pins s σ H D I h;refine wpAny_execs_cons (thn (h1 pins s σ H { D with nx:=u D } I h) fun f s1 q =>?_)
 cases f with
 | next=>obtain⟨σ',H',I',q⟩:=q;exact h2 pins s1 σ' H' D I' q
 | ret v=>exact q
 | brk=>exact q
 | cont=>exact q
theorem fW (h1:PS X st t):PSs X [st] t:=by
 intro pins s σ H D I h;refine wpAny_execs_cons (thn (h1 pins s σ H D I h) fun f s1 q =>?_)
 cases f with
 | next=>exact wpAny_execs_nil q
 | ret v=>exact q
 | brk=>exact q
 | cont=>exact q
theorem Inv.quiet {pins:List (Addr×Obj)}{σ:St}{H:Hp}{s:Shared}(I:Inv X pins σ H s):interactive X.env=false:=by simp[interactive,I.ok.kind]
noncomputable def qkr (te:TE):TS:=fun D σ H=>te σ H fun _ H1=>D.nx σ H1
theorem nI (he:PE X e te) (hs:swapsWith e none pos.line X.env=pure false:=by rfl):PS X (.Expr e pos) (qkr te):=by
 intro pins s σ H D I h;exact wpAny_Expr_any (thn (he pins s σ H _ I h) fun v s1 ⟨x,H1,I1,r1,q1⟩=>⟨σ,H1,I1,q1⟩) I.quiet hs
noncomputable def qlC (te:TE):TS:=fun D σ H=>te σ H D.rt
theorem jV (he:PE X e te):PS X (.Return (some e) pos) (qlC te):=by
 intro pins s σ H D I h;exact wpAny_Return_some (thn (he pins s σ H _ I h) fun v s1 ⟨x,H1,I1,r1,q1⟩=>⟨x,σ,H1,I1,r1,q1⟩)
noncomputable def qlI (c:TT) (t u:TS):TS:=fun D σ H=>c σ H fun b H1=>if b=true then t D σ H1 else u D σ H1
theorem ol {c:Expr}{a b:List Stmt}{tc:TT}(hc:PT X c tc) (ha:PSs X a t) (hb:PSs X b u):PS X (.If c a b pos) (qlI tc t u):=by
 intro pins s σ H D I h;refine wpAny_If (thn (hc pins s σ H _ I h) fun d s1 ⟨H1,I1,q1⟩ =>?_)
 cases d with
 | true=>exact ha pins s1 σ H1 D I1 q1
 | false=>exact hb pins s1 σ H1 D I1 q1
noncomputable def qiM:TS:=fun _ _ _=>False
theorem jW:PS X st qiM:=fun _ _ _ _ _ _ h=>h.elim
end
noncomputable abbrev TG:=V->St->Hp->(St->Hp->Prop)->Prop
noncomputable abbrev TGs:=List V->St->Hp->(St->Hp->Prop)->Prop
noncomputable def PG (X:Cx) (target:Expr) (t:TG):Prop:=
 ∀ (pins:List (Addr×Obj)) (s:Shared) (σ:St) (H:Hp) (v:V) (u:Value) (Q:St->Hp->Prop),Inv X pins σ H s->bx v u->t v σ H Q ->
  wpAny (model X.prog X.w) X.A (assign target X.env u) (fun _ s'=>∃ σ' H',Inv X pins σ' H' s'/\Q σ' H') X.xe s
noncomputable def PGs (X:Cx) (ts:List Expr) (t:TGs):Prop:=
 ∀ (pins:List (Addr×Obj)) (s:Shared) (σ:St) (H:Hp) (vs:List V) (us:List Value) (Q:St->Hp->Prop),Inv X pins σ H s->bd vs us->t vs σ H Q ->
  wpAny (model X.prog X.w) X.A (assignInOrder ((assignEach ts X.env).map (·.2)) us) (fun _ s'=>∃ σ' H',Inv X pins σ' H' s'/\Q σ' H') X.xe s
noncomputable abbrev qj9:=V->V->V->Hp->(Hp->Prop)->Prop
noncomputable def qlq (X:Cx) (t:qj9):Prop:=
 ∀ (pins:List (Addr×Obj)) (s:Shared) (σ:St) (H:Hp) (o i v:V) (ov iv u:Value) (Q:Hp->Prop),Inv X pins σ H s->bx o ov->bx i iv->bx v u->t o i v H Q ->
  wpAny (model X.prog X.w) X.A (setItem ov iv u) (fun _ s'=>∃ H',Inv X pins σ H' s'/\Q H') X.xe s
noncomputable section
variable {X:Cx}{pos:Pos}
noncomputable def jE (i:Nat):TG:=fun v σ H Q=>Q (σ.set i (some v)) H
theorem bi {i:Nat}{x:Str}(hN:X.N.Nodup) (hi:X.N[i]?=some x) (hx:Loc X.env.scope x) (hf:X.fn x=true∨X.env.scope.names.lookup x=some .local:=by first|exact .inl rfl|exact .inr rfl|assumption):PG X (.Name x pos) (jE i):=by
 intro pins s σ H v u Q I r h;exact wpAny_assign_Name (nW I hN hi hx r (fun s' I'=>⟨_,H,I',h⟩) hf)
noncomputable def qjJ:TGs:=fun vs σ H Q=>vs=[]/\Q σ H
noncomputable def pR (t:TG) (u:TGs):TGs:=fun vs σ H Q=>∃ v r,vs=v::r/\t v σ H fun σ' H'=>u r σ' H' Q
theorem iy:PGs X [] qjJ:=by
 intro pins s σ H vs us Q I r h;obtain⟨e,h⟩:=h;subst e;cases r;exact assignInOrder_nil ⟨σ,H,I,h⟩
theorem cw {e:Expr}{es:List Expr}{t:TG}{u:TGs}(h1:PG X e t) (h2:PGs X es u)
  (hs:(assignEach (e::es) X.env).map (·.2)=assign e X.env::(assignEach es X.env).map (·.2):=by rfl):PGs X (e::es) (pR t u):=by
 intro pins s σ H vs us Q I r h;obtain⟨v,vr,e1,h⟩:=h;subst e1;cases r with
 | cons r rr=>
  rw[hs];refine assignInOrder_cons (thn (h1 pins s σ H _ _ _ I r h) fun _ s1 ⟨σ1,H1,I1,q1⟩ =>?_)
  exact h2 pins s1 σ1 H1 _ _ Q I1 rr q1
noncomputable def qjI (K:Frag) (n:Nat) (t:TGs):TG:=fun v σ H Q=>∃ a xs,v=.ref a/\SqT K H a xs/\xs.length=n/\t xs σ H Q
theorem jX {es:List Expr}{k:Nat}{t:TGs}{n:Nat}(hc:X.calm=true) (h:PGs X es t)
  (hn:(assignEach es X.env).length=n:=by rfl) (hst:(assignEach es X.env).findIdx? (·.1)=none:=by rfl):PG X (.Tuple es k pos) (qjI X.K n t):=by
 intro pins s σ H v u Q I r hw;obtain⟨a,xs,e1,hq,hl,hw⟩:=hw;subst e1;cases r;obtain⟨its,rv,ht,hz⟩:=I.tuple hq;refine assign_Tuple_tuple (I.ok.hd hc) ht (by simp[hn,<- hl,rv.length]) hst fun h' hx =>?_
 have I1:Inv X pins σ H { s with heap:=h' }:=I.kept (t':=s.toks) fun b o e=>hx b o (zR (zJ e)) e
 exact h pins _ σ H xs _ Q I1 (by simpa using rv) hw
noncomputable def qk9 (to ti:TE) (t:qj9):TG:=fun v σ H Q=>to σ H fun o H1=>ti σ H1 fun i H2=>t o i v H2 fun H3=>Q σ H3
theorem qi4 {o i:Expr}{to ti:TE}{t:qj9}(ho:PE X o to) (hi:PE X i ti) (hs:qlq X t)
  (ha:∀ v,assign (.Subscript o i pos) X.env v=(do
   let ov <- holding [v] (eval o X.env)
   let iv <- holding [v,ov] (eval i X.env)
   standAt pos
   holding [v,ov,iv] (setItem ov iv v)
   release [v,ov,iv] []):=by intro _;rfl):PG X (.Subscript o i pos) (qk9 to ti t):=by
 intro pins s σ H v u Q I r h;rw[ha];refine zE (wpAny_holding (thn (ho pins s σ H _ I h) fun ov s1 ⟨x,H1,I1,r1,q1⟩ =>?_))
 refine zE (wpAny_holding (thn (hi pins s1 σ H1 _ I1 q1) fun iv s2 ⟨y,H2,I2,r2,q2⟩ =>?_))
 refine zE (wpAny_standAt (zE (wpAny_holding (thn (hs pins s2 σ H2 x y v ov iv u _ I2 r1 r2 r q2) fun _ s3 ⟨H3,I3,q3⟩ =>?_))))
 exact wpAny_release ⟨σ,H3,I3,q3⟩
noncomputable def qiP (te:TE) (g:TG):TS:=fun D σ H=>te σ H fun x H1=>g x σ H1 D.nx
theorem qfl {tg e:Expr}{te:TE}{g:TG}(he:PE X e te) (hg:PG X tg g) (hs:swapsWithSole [tg] e pos.line X.env=pure false:=by rfl) (hw:swappedStores [tg] e X.env=pure none:=by rfl)
  (h1:(assignEach [tg] X.env).map (·.2)=[assign tg X.env]:=by rfl):PS X (.Assign [tg] e pos) (qiP te g):=by
 intro pins s σ H D I h;refine wpAny_Assign_stores (thn (he pins s σ H _ I h) fun v s1 ⟨x,H1,I1,r1,q1⟩ =>?_) hs hw
 rw[h1];exact thn (hg pins s1 σ H1 x v _ I1 r1 q1) fun _ s2 q=>q
theorem iM {i:Nat}{x:Str}{e:Expr}{te:TE}{pos':Pos}(hN:X.N.Nodup) (hi:X.N[i]?=some x) (hx:Loc X.env.scope x) (he:PE X e te) (hs:swapsWith e (some (.Name x pos')) pos.line X.env=pure false:=by rfl) (hf:X.fn x=true∨X.env.scope.names.lookup x=some .local:=by first|exact .inl rfl|exact .inr rfl|assumption) :
  PS X (.Assign [.Name x pos'] e pos) (qiP te (jE i)):=by
 intro pins s σ H D I h;refine wpAny_Assign_Name (thn (he pins s σ H _ I h) fun v s1 ⟨y,H1,I1,r1,q1⟩ =>?_) hs
 exact nW I1 hN hi hx r1 (fun s2 I2=>⟨_,H1,I2,q1⟩) hf
end
noncomputable section
variable {X:Cx}{pos:Pos}
noncomputable def qiL (c:TT) (tb:TS):TS:=fun D σ H=>∃ W:Nat->St->Hp->Prop,(∃ m,W m σ H)/\∀ m σ H,W m σ H ->
 c σ H fun b H1=>if b=true then ∃ N:St->Hp->Prop,(∀ σ' H',N σ' H'->∃ m',m'<m/\W m' σ' H')/\tb { D with nx:=N,ct:=N,bk:=D.nx } σ H1 else D.nx σ H1
theorem qfj {c:Expr}{body:List Stmt}{tc:TT}{tb:TS}(hp:PassesOwn (model X.prog X.w) X.A X.env X.xe) (hc:PT X c tc) (hb:PSs X body tb):PS X (.While c body [] pos) (qiL tc tb):=by
 intro pins s σ H D I h;obtain⟨W,⟨m0,w0⟩,turn⟩:=h;refine wpAny_While (codeAny_whileLoop (fun n s'=>∃ σ' H',Inv X pins σ' H' s'/\W n σ' H') ?_ m0 ⟨σ,H,I,w0⟩)
 rintro n s1 ⟨σ1,H1,I1,w1⟩;refine wpAny_passesOwn hp (thn (hc pins s1 σ1 H1 _ I1 (turn n σ1 H1 w1)) fun b s2 ⟨H2,I2,q2⟩ =>?_)
 cases b with
 | true=>
  obtain⟨N,hN,q2⟩:=q2;rw[if_pos rfl];refine wpAny_passesOwn hp (thn (hb pins s2 σ1 H2 _ I2 q2) fun f s3 q3 =>?_)
  cases f with
  | next=>obtain⟨σ3,H3,I3,n3⟩:=q3;obtain⟨m',hm,w3⟩:=hN σ3 H3 n3;exact⟨m',hm,σ3,H3,I3,w3⟩
  | cont=>obtain⟨σ3,H3,I3,n3⟩:=q3;obtain⟨m',hm,w3⟩:=hN σ3 H3 n3;exact⟨m',hm,σ3,H3,I3,w3⟩
  | brk=>exact q3
  | ret v=>exact q3
 | false=>rw[if_neg zY];exact wpAny_execs_nil ⟨σ1,H2,I2,q2⟩
end
structure It where
 go:Nat->Hp->Prop
 yld:Nat->Hp->V->Hp->Prop
 stop:Nat->Hp->Prop
noncomputable def qb6 (X:Cx) (pins:List (Addr×Obj)) (H:Hp) (b:Addr):Prop:=
 H b=none/\b≠X.env.locals/\b∉X.fs/\(b∈X.ex∨X.s₀.heap.objs.size<=b)/\(∀ x c,X.env.cells.lookup x=some c->c≠b)/\∀ p∈X.pn++pins,p.1≠b
theorem Inv.fpOk {X:Cx}{pins:List (Addr×Obj)}{σ:St}{H H':Hp}{s:Shared}{b:Addr}(I:Inv X pins σ H s) (hb:s.heap.objs.size<=b) (hn:H' b=none):qb6 X pins H' b:=by
 refine⟨hn,Nat.ne_of_gt (zS I.lt hb),I.nofs hb,.inr (yA I.sz hb),fun x c e z =>?_,fun p hp z =>?_⟩
 ·obtain⟨v,q⟩:=I.cell x c e;exact absurd (zS q.lt (by rw[z];exact hb)) (yD _)
 ·exact absurd (zS (zJ (I.pin p hp).1) (by rw[z];exact hb)) (yD _)
structure qik (P:Program) (w:World) (K:Frag) (tg:Expr) (J:It) (fp:List Addr) (it:Addr) (tn:Nat->Heap->Prop):Prop where
 mem:it∈fp
 obj:∀ i h,tn i h->∀ b∈fp,∃ o,h.get? b=some o/\∀ v,o.data ≠ .cell v
 keep:∀ i h h',tn i h->(∀ b∈fp,∀ o,h.get? b=some o->h'.get? b=some o)->tn i h'
 item:∀ (X:Cx),X.prog=P->X.w=w->X.K=K->X.calm=true->∀ (i:Nat) (pins:List (Addr×Obj)) (s:Shared) (σ:St) (H:Hp) (E:Value->Shared->Prop),Inv X pins σ H s->(∀ b∈fp,qb6 X pins H b)->tn i s.heap->J.go i H ->
  wpAny (model P w) X.A (pyNext (.ref it)) (fun r s1=>∃ u,r=some u /\
   wpAny (model P w) X.A (letOwnedTupleGo tg (.ref it) u) (fun _ s2=>∃ x H',Inv X pins σ H' s2/\bx x u/\J.yld i H x H'/\tn (i+1) s2.heap/\∀ b∈fp,H' b=none) E s1) E s
 done:∀ (X:Cx),X.prog=P->X.w=w->X.K=K->X.calm=true->∀ (i:Nat) (pins:List (Addr×Obj)) (s:Shared) (σ:St) (H:Hp) (E:Value->Shared->Prop),Inv X pins σ H s->(∀ b∈fp,qb6 X pins H b)->tn i s.heap->J.stop i H ->
  wpAny (model P w) X.A (pyNext (.ref it)) (fun r s1=>r=none/\Inv X pins σ H s1) E s
 self:∀ (A:Around) (i:Nat) (s:Shared) (Q:Value->Shared->Prop) (E:Value->Shared->Prop),tn i s.heap->Q (.ref it) s->wpAny (model P w) A (pyIter (.ref it)) Q E s
noncomputable abbrev TI:=St->Hp->(It->Hp->Prop)->Prop
noncomputable def PIE (X:Cx) (pins:List (Addr×Obj)) (σ:St) (tg:Expr) (R:It->Hp->Prop) (itv:Value) (s2:Shared):Prop:=
 ∃ (it:Addr) (fp:List Addr) (tn:Nat->Heap->Prop) (J:It) (H':Hp),itv=.ref it/\Inv X pins σ H' s2/\qik X.prog X.w X.K tg J fp it tn/\tn 0 s2.heap/\(∀ b∈fp,qb6 X pins H' b)/\R J H'
noncomputable def PI (X:Cx) (tg iter:Expr) (wi:TI):Prop:=
 ∀ (pins:List (Addr×Obj)) (s:Shared) (σ:St) (H:Hp) (R:It->Hp->Prop),Inv X pins σ H s->wi σ H R ->
  wpAny (model X.prog X.w) X.A (eval iter X.env) (fun v s1=>wpAny (model X.prog X.w) X.A (pyIter v) (PIE X pins σ tg R) X.xe s1) X.xe s
theorem qf7 {M : Model} {A : Around} {E : Value -> Shared -> Prop} {s : Shared} {tg : Expr} {it : Addr} {u : Value} {o : Obj} {n : String} {vs : Array Value} {Q : Unit -> Shared -> Prop} (ho : s.heap.get? it = some o) (hc : o.cls = .type n) (hd : o.data = .fields vs)
    (hn : ["enumerate", "zip", "dict_itemiterator", "dict_reverseitemiterator", "odict_iterator", "itertools.zip_longest", "itertools.pairwise"].contains n = false) (hQ : Q () s) : wpAny M A (letOwnedTupleGo tg (.ref it) u) Q E s := by
  unfold letOwnedTupleGo
  cases tg <;> first
    | exact wpAny_pure hQ
    | (cases u <;> first
        | exact wpAny_pure hQ
        | (refine wpAny_bind (wpAny_load ho ?_)
           rw [hc, hd]
           show wpAny M A (if (["enumerate", "zip", "dict_itemiterator", "dict_reverseitemiterator", "odict_iterator", "itertools.zip_longest", "itertools.pairwise"].contains n && vs[0]? == some (rawInt _)) = true then _ else _) Q E s
           rw [if_neg (by intro h; rw [hn, Bool.false_and] at h; cases h)]
           exact wpAny_pure hQ))
noncomputable def Itl (K:Frag) (a:Addr):It:=
 ⟨fun i H=>∃ xs x,SqL K H a xs/\xs[i]?=some x,fun i H x H'=>H'=H/\∀ xs,SqL K H a xs->xs[i]?=some x,fun i H=>∃ xs,SqL K H a xs/\xs.length<=i⟩
noncomputable def Itr (lo:Int) (n:Nat):It:=⟨fun i _=>i<n,fun i H x H'=>H'=H/\x=.int (lo+i),fun i _=>n<=i⟩
theorem qdV {P:Program}{w:World}{K:Frag}{tg:Expr}(a it:Addr):qik P w K tg (Itl K a) [it] it (fun i h=>h.IsListIter it a i) where
 mem:=by simp
 obj:=fun i h st b hb=>by
  have e:b=it:=by simpa using hb
  subst e;obtain⟨o,e,c,d⟩:=st;exact⟨o,e,fun v z=>by rw[d] at z;cases z⟩
 keep:=fun i h h' st k=>st.at fun o e=>k it (by simp) o e
 item:=by
  intro X hP hw hK hc i pins s σ H E I hf st hg;subst hP hw hK;obtain⟨xs,x,hq,hx⟩:=hg;obtain⟨its,rv,p,hz⟩:=I.list hq;obtain⟨u,hu,ru⟩:=rv.get hx;obtain⟨f0,f1,f2,f3,f4,f5⟩:=hf it (by simp)
  refine wpAny_pyNext_list_item st p.isList (x:=u) (by simpa using hu) fun h' st' sb =>?_
  have I1:Inv X pins σ H { s with heap:=h' }:=I.turned (t':=s.toks) (fun b o hb e=>(sb.2 b hb).trans e) f0 f1 f3 f4 f5
  obtain⟨o,e,c,d⟩:=id st';exact⟨u,rfl,qf7 (s:={ s with heap:=h' }) e c d (by decide) ⟨x,H,I1,ru,⟨rfl,fun ys hy=>by rw[I.list_inj hy hq];exact hx⟩,st',fun b hb=>(hf b hb).1⟩⟩
 done:=by
  intro X hP hw hK hc i pins s σ H E I hf st hg;subst hP hw hK;obtain⟨xs,hq,hx⟩:=hg;obtain⟨its,rv,p,hz⟩:=I.list hq;obtain⟨f0,f1,f2,f3,f4,f5⟩:=hf it (by simp)
  have hl:=rv.length;exact wpAny_pyNext_list_end (I.ok.hd hc) st p.isList (by simp;omega) fun h' eb=>⟨rfl,I.turned (t':=s.toks) (fun b o hb e=>eb b o hb e) f0 f1 f3 f4 f5⟩
 self:=fun _ _ _ _ _ st h=>wpAny_pyIter_listiter st h
theorem qcc {P:Program}{w:World}{K:Frag}{tg:Expr}(it:Addr) (lo:Int) (n:Nat):qik P w K tg (Itr lo n) [it] it (fun i h=>IsRangeIter h it (lo+(i:Nat)*1) ((n:Int)-(i:Nat)) 1) where
 mem:=by simp
 obj:=fun i h st b hb=>by
  have e:b=it:=by simpa using hb
  subst e;exact⟨_,st,fun v z=>by have z':Data.fields _=Data.cell v:=z;cases z'⟩
 keep:=fun i h h' st k=>k it (by simp) _ st
 item:=by
  intro X hP hw hK hc i pins s σ H E I hf st hg;subst hP hw hK;obtain⟨f0,f1,f2,f3,f4,f5⟩:=hf it (by simp)
  have W:=Walks.range (prog:=X.prog) (w:=X.w) (I.ok.hd hc) it lo 1 n;refine W.item i s _ _ hg st fun v h' tk hv st' kk =>?_
  obtain⟨t,rfl⟩:=hv;have I1:Inv X pins σ H { s with heap:=h',toks:=tk }:=I.turned (fun b o hb e=>kk b o (by simpa using hb) e) f0 f1 f3 f4 f5
  refine⟨_,rfl,qf7 (s:={ s with heap:=h',toks:=tk }) (n:= "range_iterator") st' rfl rfl (by decide) ⟨.int (lo+i),H,I1,⟨t,?_⟩,⟨rfl,rfl⟩,st',fun b hb=>(hf b hb).1⟩⟩
  rw[Int.mul_one]
 done:=by
  intro X hP hw hK hc i pins s σ H E I hf st hg;subst hP hw hK;obtain⟨f0,f1,f2,f3,f4,f5⟩:=hf it (by simp)
  exact wpAny_pyNext_range_end (I.ok.hd hc) st (by have:n<=i:=hg;omega) fun h' eb=>⟨rfl,I.turned (t':=s.toks) (fun b o hb e=>eb b o hb e) f0 f1 f3 f4 f5⟩
 self:=fun _ _ _ _ _ st h=>wpAny_pyIter_rangeiter st h
noncomputable section
variable {X:Cx}{tg:Expr}
noncomputable def qk7 (K:Frag) (tl:TE):TI:=fun σ H R=>tl σ H fun x H1=>∃ a,x=.ref a/\(∃ xs,SqL K H1 a xs)/\R (Itl K a) H1
theorem qhj {l:Expr}{tl:TE}(hl:PE X l tl):PI X tg l (qk7 X.K tl):=by
 intro pins s σ H R I h;refine thn (hl pins s σ H _ I h) fun v s1 ⟨x,H1,I1,r1,q1⟩ =>?_
 obtain⟨a,e,⟨xs,hq⟩,q⟩:=q1;subst e;cases r1;obtain⟨its,rv,p,hz⟩:=I1.list hq;refine wpAny_pyIter_list p.isList ?_;refine⟨s1.heap.objs.size,[s1.heap.objs.size],_,_,H1,rfl,I1.kept (t':=s1.toks) fun b o e=>zF _ e,qdV a _,⟨_,zV _ rfl,rfl,rfl⟩,fun b hb =>?_,q⟩
 have e:b=s1.heap.objs.size:=by simpa using hb
 subst e;exact I1.fpOk (zL _) (I1.hok.fresh (zL _))
theorem qfd {pins:List (Addr×Obj)}{σ:St}{H:Hp}{s:Shared}{R:It->Hp->Prop}{E:Value->Shared->Prop}{lo hi:Int}{t u v:Tok}{tk:Nat}(I:Inv X pins σ H s) (h1 : -(2 ^ 62)<=lo) (h2:lo<2 ^ 62) (h3 : -(2 ^ 62)<=hi) (h4:hi<2 ^ 62)
  (q:R (Itr lo (hi-lo).toNat) H):wpAny (model X.prog X.w) X.A (pyIter (.ref s.heap.objs.size)) (PIE X pins σ tg R) E { s with heap:=s.heap.push { cls :=.type "range",data :=.fields #[.int lo t,.int hi u,.int 1 v] },toks:=tk }:=by
 refine wpAny_pyIter_range (IsRange.new ..) (small_one h1 h2 h3 h4) ?_;have I1:Inv X pins σ H { s with heap:=s.heap.push { cls :=.type "range",data :=.fields #[.int lo t,.int hi u,.int 1 v] },toks:=tk }:=I.kept fun b o e=>zF _ e
 refine⟨(s.heap.push { cls :=.type "range",data :=.fields #[.int lo t,.int hi u,.int 1 v] }).objs.size,[(s.heap.push { cls :=.type "range",data :=.fields #[.int lo t,.int hi u,.int 1 v] }).objs.size],_,_,H,rfl,
  I1.kept (t':=tk) fun b o e=>zF _ e,qcc _ lo (hi-lo).toNat,?_,fun b hb =>?_,q⟩
 ·have e1:lo+((0:Nat):Int)*1=lo:=by simp
  have e2:(((hi-lo).toNat:Nat):Int)-((0:Nat):Int)=Builtin.Range.rangeSize lo hi 1:=by rw[rangeSize_one];split<;>omega
  show IsRangeIter _ _ (lo+((0:Nat):Int)*1) ((((hi-lo).toNat:Nat):Int)-((0:Nat):Int)) 1;rw[e1,e2];exact zV _ rfl
 ·have e:b=(s.heap.push { cls :=.type "range",data :=.fields #[.int lo t,.int hi u,.int 1 v] }).objs.size:=by simpa using hb
  subst e;exact I1.fpOk (zL _) (I1.hok.fresh (zL _))
noncomputable def qk6 (ta:TA):TI:=fun σ H R=>ta σ H fun vs H1=>∃ j:Int,vs=[.int j] /\ -(2 ^ 62)<=j/\j<2 ^ 62/\R (Itr 0 j.toNat) H1
theorem pH {a:Expr}{ta:TA}{p pos:Pos}(hg:Gl X "range") (hm:X.mg "range" = none) (ha:PA X [a] ta) (hs:starEach [a] X.env=[(false,eval a X.env)]:=by rfl):PI X tg (.Call (.Name "range" p) [a] [] pos) (qk6 ta):=by
 intro pins s σ H R I h;refine Call_ (qaG I hg hm boot_range (PyProof.Rows.callWith_type1 (thn (ha pos pins s σ H _ I h) fun us s1 ⟨vs,H1,I1,r1,q1⟩ =>?_) hs rfl))
 obtain⟨j,e,q1,q2,q⟩:=q1;subst e;cases r1 with
 | cons r rr=>cases rr;obtain⟨t,rfl⟩:=r;exact call_range_1 (qfd I1 (by omega) (by omega) q1 q2 (by simpa using q))
noncomputable def mC (fp:List Addr) (h:Heap):List (Addr×Obj):=fp.filterMap fun b=>(h.get? b).map fun o=>(b,o)
theorem ik {fp:List Addr}{h:Heap}{b:Addr}{o:Obj}(hb:b∈fp) (e:h.get? b=some o):(b,o)∈mC fp h:=List.mem_filterMap.mpr ⟨b,hb,by rw[e];rfl⟩
theorem pI {fp:List Addr}{h:Heap}{p:Addr×Obj}(hp:p∈mC fp h):p.1∈fp/\h.get? p.1=some p.2:=by
 obtain⟨b,hb,e⟩:=List.mem_filterMap.mp hp;cases q:h.get? b with
 | none=>rw[q] at e;cases e
 | some o=>rw[q] at e;have e':(b,o)=p:=zZ e;subst e';exact⟨hb,q⟩
theorem Inv.pinned {pins:List (Addr×Obj)}{σ:St}{H:Hp}{s:Shared}{fp:List Addr}(I:Inv X pins σ H s) (hf:∀ b∈fp,qb6 X pins H b) (ho:∀ b∈fp,∃ o,s.heap.get? b=some o/\∀ v,o.data ≠ .cell v):Inv X (pins++mC fp s.heap) σ H s:=
 I.pins_of fun p hp=>(zO.mp hp).elim (fun z=>I.pin p (zQ _ z)) fun z=>by obtain⟨hb,e⟩:=pI z;obtain⟨f0,f1,f2,_⟩:=hf p.1 hb;obtain⟨o,e',d⟩:=ho p.1 hb;rw[e] at e';cases e';exact⟨e,f0,f1,f2,d⟩
theorem Inv.unpinned {pins pl:List (Addr×Obj)}{σ:St}{H:Hp}{s:Shared}(I:Inv X (pins++pl) σ H s):Inv X pins σ H s:=I.pins_of fun p hp=>I.pin p (zQ _ (zU _ hp))
end
noncomputable abbrev R2:=V->V->Hp->VK->Prop
noncomputable def OpR (X:Cx) (f:Value->Value->Sem Value) (r:R2):Prop:=
 ∀ (pins:List (Addr×Obj)) (s:Shared) (σ:St) (H:Hp) (x y:V) (v u:Value) (Q:VK),Inv X pins σ H s->bx x v->bx y u->r x y H Q ->
  wpAny (model X.prog X.w) X.A (f v u) (EP X pins σ Q) X.xe s
noncomputable def f9 (X:Cx) (f:Value) (r:List V->Hp->VK->Prop):Prop:=
 ∀ (pins:List (Addr×Obj)) (s:Shared) (σ:St) (H:Hp) (xs:List V) (us:List Value) (Q:VK),Inv X pins σ H s->bd xs us->r xs H Q ->
  wpAny (model X.prog X.w) X.A (call f us) (EP X pins σ Q) X.xe s
noncomputable def qmg (X:Cx) (r:V->Hp->(Bool->Hp->Prop)->Prop):Prop:=
 ∀ (pins:List (Addr×Obj)) (s:Shared) (σ:St) (H:Hp) (x:V) (v:Value) (Q:Bool->Hp->Prop),Inv X pins σ H s->bx x v->r x H Q ->
  wpAny (model X.prog X.w) X.A (truthy v) (TP X pins σ Q) X.xe s
noncomputable def tOp (r:R2) (ta tb:TE):TE:=fun σ H Q=>ta σ H fun x H1=>tb σ H1 fun y H2=>r x y H2 Q
noncomputable def rI (C:Int->Int->Prop) (g:Int->Int->V):R2:=fun x y H Q=>∃ i j,x=.int i/\y=.int j/\C i j/\Q (g i j) H
noncomputable def rI0 (g:Int->Int->V):R2:=fun x y H Q=>∃ i j,x=.int i/\y=.int j/\Q (g i j) H
noncomputable section
variable {X:Cx}{a b c:Expr}{ta tb tc:TE}{pos:Pos}
theorem qj2 (ha:PE X a ta) (hb:PE X b tb){pins:List (Addr×Obj)}{s:Shared}{σ:St}{H:Hp}{R:V->V->Hp->Prop}(I:Inv X pins σ H s)
  (h:ta σ H fun x H1=>tb σ H1 fun y H2=>R x y H2){Q:Value->Shared->Prop}{f:Value->Value->Sem Value}
  (hf:∀ v u s2 x y H2,Inv X pins σ H2 s2->bx x v->bx y u->R x y H2->wpAny (model X.prog X.w) X.A (f v u) Q X.xe s2) :
  wpAny (model X.prog X.w) X.A (eval a X.env) (fun v s₁=>wpAny (model X.prog X.w) X.A (eval b X.env) (fun u s₂=>wpAny (model X.prog X.w) X.A (f v u) Q X.xe s₂) X.xe s₁) X.xe s:=by
 refine thn (ha pins s σ H _ I h) fun v s1 ⟨x,H1,I1,r1,q1⟩ =>?_
 refine thn (hb pins s1 σ H1 _ I1 q1) fun u s2 ⟨y,H2,I2,r2,q2⟩ =>?_
 exact hf v u s2 x y H2 I2 r1 r2 q2
theorem qfo {op:Operator}{r:R2}(ho:OpR X (binaryOp op) r) (ha:PE X a ta) (hb:PE X b tb):PE X (.BinOp a op b pos) (tOp r ta tb):=by
 intro pins s σ H Q I h;exact wpAny_BinOp (qj2 ha hb I h fun v u s2 x y H2 I2 rx ry q=>ho pins s2 σ H2 x y v u Q I2 rx ry q)
theorem opI {f:Value->Value->Sem Value}{C:Int->Int->Prop}{g:Int->Int->Int}
  (rule:∀ (i j:Int) (t u:Tok) (s:Shared) (Q:Value->Shared->Prop) (E:Value->Shared->Prop),C i j->Q (.int (g i j) s.toks) { s with toks:=s.toks+1 }->wpAny (model X.prog X.w) X.A (f (.int i t) (.int j u)) Q E s) :
  OpR X f (rI C fun i j =>.int (g i j)):=by
 intro pins s σ H x y v u Q I rx ry h;obtain⟨i,j,rfl,rfl,hc,q⟩:=h;obtain⟨t,rfl⟩:=rx;obtain⟨t',rfl⟩:=ry;exact rule i j t t' s _ _ hc ⟨.int (g i j),H,I.tok _,⟨_,rfl⟩,q⟩
theorem qkQ {f:Value->Value->Sem Value}{g:Int->Int->Int}
  (rule:∀ (i j:Int) (t u:Tok) (s:Shared) (Q:Value->Shared->Prop) (E:Value->Shared->Prop),Q (.int (g i j) s.toks) { s with toks:=s.toks+1 }->wpAny (model X.prog X.w) X.A (f (.int i t) (.int j u)) Q E s) :
  OpR X f (rI0 fun i j =>.int (g i j)):=by
 intro pins s σ H x y v u Q I rx ry h;obtain⟨i,j,rfl,rfl,q⟩:=h;obtain⟨t,rfl⟩:=rx;obtain⟨t',rfl⟩:=ry;exact rule i j t t' s _ _ ⟨.int (g i j),H,I.tok _,⟨_,rfl⟩,q⟩
theorem qkR {f:Value->Value->Sem Value}{g:Int->Int->Bool}
  (rule:∀ (i j:Int) (t u:Tok) (s:Shared) (Q:Value->Shared->Prop) (E:Value->Shared->Prop),Q (.bool (g i j)) s->wpAny (model X.prog X.w) X.A (f (.int i t) (.int j u)) Q E s) :
  OpR X f (rI0 fun i j =>.bl (g i j)):=by
 intro pins s σ H x y v u Q I rx ry h;obtain⟨i,j,rfl,rfl,q⟩:=h;obtain⟨t,rfl⟩:=rx;obtain⟨t',rfl⟩:=ry;exact rule i j t t' s _ _ ⟨.bl (g i j),H,I,rfl,q⟩
noncomputable def qgD (i j:Int):Prop:=(-(2 ^ 64)<i/\i<2 ^ 64)∨(-(2 ^ 64)<j/\j<2 ^ 64)
theorem qgD.ok {i j:Int}(h:qgD i j):IntMulOk i j:=by
 rcases h with ⟨h1,h2⟩|⟨h1,h2⟩
 ·exact .of_left (intBits_le_64 h1 h2)
 ·exact .of_right (intBits_le_64 h1 h2)
theorem qjh:OpR X (binaryOp .Add) (rI0 fun i j =>.int (i+j)):=qkQ fun _ _ _ _ _ _ _ q=>add_int q
theorem qjc:OpR X (binaryOp .Sub) (rI0 fun i j =>.int (i-j)):=qkQ fun _ _ _ _ _ _ _ q=>sub_int q
theorem qje:OpR X (binaryOp .Mult) (rI qgD fun i j =>.int (i*j)):=opI fun _ _ _ _ _ _ _ hc q=>mul_int q hc.ok
theorem qjf:OpR X (binaryOp .Mod) (rI (fun _ j=>0<j) fun i j =>.int (i%j)):=opI fun i j _ _ _ _ _ hc q=>by
 have h1:(0:Int)<j:=hc;exact mod_int' (by omega) (by rw[Int.fmod_eq_emod_of_nonneg i (by omega)];exact q)
end
noncomputable section
variable {X:Cx}{a b c:Expr}{ta tb tc:TE}{pos:Pos}
theorem qaR {pins:List (Addr×Obj)}{σ:St}{H:Hp}{s:Shared}{Q:VK}{k k':Bool}(I:Inv X pins σ H s) (q:Q (.bl k) H) (e:k=k'):EP X pins σ Q (.bool k') s:=by
 subst e;exact⟨.bl k,H,I,rfl,q⟩
theorem qkO:OpR X (compareOp .Lt) (rI0 fun i j =>.bl (decide (i<j))):=qkR fun _ _ _ _ _ _ _ q=>lt_int q
theorem qkP:OpR X (compareOp .GtE) (rI0 fun i j =>.bl (decide (j<=i))):=qkR fun _ _ _ _ _ _ _ q=>ge_int q
theorem qec:OpR X (compareOp .In) (fun x y H Q=>∃ i j,x=.str i/\y=.str j/\Q (.bl (!(Builtin.Str.occurrences j i 0 j.length 1).isEmpty)) H):=by
 intro pins s σ H x y v u Q I rx ry h;obtain⟨i,j,rfl,rfl,q⟩:=h;obtain⟨t,rfl⟩:=rx;obtain⟨t',rfl⟩:=ry;exact in_str (qaR I q rfl)
theorem qjg:OpR X (compareOp .Is) (fun x y H Q=>y=.non/\Q (.bl (decide (x=.non))) H):=by
 intro pins s σ H x y v u Q I rx ry h;obtain⟨rfl,q⟩:=h;cases ry;refine is_none_gen (qaR I q ?_);cases x<;>first
  | (cases rx;rfl)
  | (obtain⟨t,rfl⟩:=rx;rfl)
theorem qht:OpR X (compareOp .IsNot) (fun x y H Q=>y=.non/\Q (.bl (!decide (x=.non))) H):=by
 intro pins s σ H x y v u Q I rx ry h;obtain⟨rfl,q⟩:=h;cases ry;refine isnot_none_gen (qaR I q ?_);cases x<;>first
  | (cases rx;rfl)
  | (obtain⟨t,rfl⟩:=rx;rfl)
theorem OpR.or {f:Value->Value->Sem Value}{r r':R2}(h:OpR X f r) (h':OpR X f r'):OpR X f (fun x y H Q=>r x y H Q∨r' x y H Q):=by
 intro pins s σ H x y v u Q I rx ry q;rcases q with q|q
 ·exact h pins s σ H x y v u Q I rx ry q
 ·exact h' pins s σ H x y v u Q I rx ry q
theorem az (b:Expr){op:CmpOp}(h:op ≠ .In:=by decide) (h2:op ≠ .NotIn:=by decide):behindInMarks op b=false:=by
 have e1:(op==CmpOp.In)=false:=by cases op<;>first|rfl|exact absurd rfl h
 have e2:(op==CmpOp.NotIn)=false:=by cases op<;>first|rfl|exact absurd rfl h2
 cases b<;>simp[behindInMarks,e1,e2]
theorem qho {op:CmpOp}{r:R2}(ho:OpR X (compareOp op) r) (ha:PE X a ta) (hb:PE X b tb) (hm:behindInMarks op b=false):PE X (.Compare a [op] [b] pos) (tOp r ta tb):=by
 intro pins s σ H Q I h;exact wpAny_Compare1 (qj2 ha hb I h fun v u s2 x y H2 I2 rx ry q=>ho pins s2 σ H2 x y v u Q I2 rx ry q) hm
noncomputable def qip (t:TE):TT:=fun σ H Q=>t σ H fun x H'=>∃ k,x=.bl k/\Q k H'
theorem qdm {op:CmpOp}{r:R2}(ho:OpR X (compareOp op) r) (ha:PE X a ta) (hb:PE X b tb) (hm:behindInMarks op b=false):PT X (.Compare a [op] [b] pos) (qip (tOp r ta tb)):=by
 intro pins s σ H Q I h;refine wpAny_isTrue_Compare1 (thn (ha pins s σ H _ I h) fun v s1 ⟨x,H1,I1,r1,q1⟩=>thn (hb pins s1 σ H1 _ I1 q1) fun u s2 ⟨y,H2,I2,r2,q2⟩=>thn (ho pins s2 σ H2 x y v u _ I2 r1 r2 q2) fun c s3 ⟨z,H3,I3,r3,k,e,q3⟩ =>?_) hm
 subst e;cases r3;exact wpAny_truthy_bool ⟨H3,I3,q3⟩
noncomputable def nU (r r':R2) (ta tb tc:TE):TE:=fun σ H Q=>ta σ H fun x H1=>tb σ H1 fun y H2=>r x y H2 fun z H3=>∃ k,z=.bl k /\
 (if k=true then tc σ H3 fun w' H4=>r' y w' H4 Q else Q (.bl false) H3)
theorem qfi {op op':CmpOp}{r r':R2}(ho:OpR X (compareOp op) r) (ho':OpR X (compareOp op') r') (ha:PE X a ta) (hb:PE X b tb) (hc:PE X c tc)
  (hm:lastMarks [op,op'] [b,c]=false:=by with_unfolding_all rfl):PT X (.Compare a [op,op'] [b,c] pos) (qip (nU r r' ta tb tc)):=by
 intro pins s σ H Q I h;refine isTrue_chain (thn (ha pins s σ H _ I h) fun v s1 ⟨x,H1,I1,r1,q1⟩=>test_link (thn (hb pins s1 σ H1 _ I1 q1) fun u s2 ⟨y,H2,I2,r2,q2⟩=>thn (ho pins s2 σ H2 x y v u _ I2 r1 r2 q2) fun d s3 ⟨z,H3,I3,r3,k,e,q3⟩ =>?_)) hm
 subst e;cases r3;refine wpAny_truthy_bool ?_;cases k with
 | false=>obtain⟨k',e',q'⟩:=q3;cases e';exact ite_ff ⟨H3,I3,q'⟩
 | true=>
  refine ite_tt (test_last (thn (hc pins s3 σ H3 _ I3 q3) fun w' s4 ⟨z',H4,I4,r4,q4⟩=>thn (ho' pins s4 σ H4 y z' u w' _ I4 r2 r4 q4) fun d' s5 ⟨z2,H5,I5,r5,k2,e2,q5⟩ =>?_))
  subst e2;cases r5;exact wpAny_truthy_bool ⟨H5,I5,q5⟩
noncomputable def qlo (K:Frag) (x:V) (H:Hp) (k:Bool):Prop:=
 match x with
 | .non=>k=false
 | .bl b=>k=b
 | .int i=>k=(i != 0)
 | .str y=>y.length<=sizeLine/\k=((y.length:Int) != 0)
 | .byt y=>y.size<=sizeLine/\k=((y.size:Int) != 0)
 | .ref p=>(∃ xs,SqL K H p xs/\k = !xs.isEmpty)∨(∃ xs,SqT K H p xs/\k = !xs.isEmpty)∨∃ kvs,H p=some (.dK kvs)/\k = !kvs.isEmpty
 | _=>False
theorem qcR {κ:Type}{kvs:List (κ×V)}{vs:List (κ×Value)}(r:KV kvs vs):(!vs.isEmpty) = !kvs.isEmpty:=by
 cases r<;>rfl
theorem oF {xs:List V}{its:List Value}(r:bd xs its):(!its.toArray.isEmpty) = !xs.isEmpty:=by
 cases r<;>simp
theorem lg:(sizeLine:Nat)<2 ^ 63:=by rw[sizeLine_eq];decide
theorem qiJ:qmg X (fun x H Q=>∃ k,qlo X.K x H k/\Q k H):=by
 intro pins s σ H x v Q I rx h;obtain⟨k,e,q⟩:=h;have hl:=lg;have hs:sizeLine=16777216:=sizeLine_eq;cases x with
 | non=>cases rx;have e':k=false:=e;subst e';exact truthy_none ⟨H,I,q⟩
 | bl b=>cases rx;have e':k=b:=e;subst e';exact wpAny_truthy_bool ⟨H,I,q⟩
 | int i=>obtain⟨t,rfl⟩:=rx;have e':k=(i != 0):=e;subst e';exact PySem.P.truthy_int ⟨H,I,q⟩
 | str y=>obtain⟨t,rfl⟩:=rx;obtain⟨hy,e'⟩:y.length<=sizeLine/\k=((y.length:Int) != 0):=e;subst e';exact PySem.P.truthy_str (by omega) ⟨H,I.tok _,q⟩
 | byt y=>obtain⟨t,rfl⟩:=rx;obtain⟨hy,e'⟩:y.size<=sizeLine/\k=((y.size:Int) != 0):=e;subst e';exact PySem.W.truthy_bytes (by omega) ⟨H,I.tok _,q⟩
 | ref p=>
  cases rx;have e':(∃ xs,SqL X.K H p xs/\k = !xs.isEmpty)∨(∃ xs,SqT X.K H p xs/\k = !xs.isEmpty)∨∃ kvs,H p=some (.dK kvs)/\k = !kvs.isEmpty:=e;rcases e' with ⟨xs,hx,e'⟩|⟨xs,hx,e'⟩|⟨kvs,hx,e'⟩
  ·subst e';obtain⟨its,r,pl,hz⟩:=I.list hx;have hlen:=r.length;exact wpAny_truthy_list pl.isList (by simp only[zN];omega) ⟨H,I.tok _,by rw[oF r];exact q⟩
  ·subst e';obtain⟨its,r,pl,hz⟩:=I.tuple hx;have hlen:=r.length;exact truthy_tuple pl (by simp only[zN];omega) ⟨H,I.tok _,by rw[oF r];exact q⟩
  ·subst e';obtain⟨hz,hS,vs,r,m⟩:kvs.length<=sizeLine/\(p==sysModules)=false/\∃ vs,KV kvs vs/\s.heap.DictOf (bW X.prog X.w) p vs:=I.hok p _ hx;have hlen:kvs.length=vs.length:=Paired.length r;exact wpAny_truthy_dict hS m (by omega) ⟨H,I.tok _,by rw[qcR r];exact q⟩
 | _=>exact(show False from e).elim
theorem qff (ha:PE X a ta) (he:∀ whole,isTrue a X.env whole=(do let v <- whole;standAt a.pos;holding [v] (truthy v))) :
  PT X a (fun σ H Q=>ta σ H fun x H'=>∃ k,qlo X.K x H' k/\Q k H'):=by
 intro pins s σ H Q I h;exact isTrue_plain (thn (ha pins s σ H _ I h) fun v s1 ⟨x,H1,I1,r1,q1⟩=>qiJ pins s1 σ H1 x v Q I1 r1 q1) (he _)
theorem qcs:OpR X (binaryOp .Add) (fun x y H Q=>∃ i j,x=.str i/\y=.str j/\i.length+j.length<=sizeLine/\Q (.str (i++j)) H):=by
 intro pins s σ H x y v u Q I rx ry h;obtain⟨i,j,rfl,rfl,hz,q⟩:=h;obtain⟨t,rfl⟩:=rx;obtain⟨t',rfl⟩:=ry;exact add_str (fun t' tk=>⟨.str (i++j),H,I.tok _,⟨_,rfl⟩,q⟩) hz
theorem qbg {x:V}{us:List Value}(r:bd [x] us):∃ u,us=[u]/\bx x u:=by
 cases r with
 | cons r1 r2=>cases r2;exact⟨_,rfl,r1⟩
theorem qgp:f9 X (.builtin "ord") (fun xs H Q=>∃ x,xs=[.str x]/\x.length=1/\Q (.int (x.cps.getD 0 0:Nat)) H):=by
 intro pins s σ H xs us Q I r h;obtain⟨x,rfl,hz,q⟩:=h;obtain⟨u,rfl,t,rfl⟩:=qbg r;exact ord_of_one hz ⟨.int _,H,I.tok _,⟨_,rfl⟩,q⟩
end
structure qc1 (h:Heap) (x dx C:Addr) (mA:Str->Option Value):Prop where
 obj:h.get? x=some (instObj C dx)
 ns:h.Ns1 dx mA
 ne:dx≠x
theorem pL {h:Heap}{dx:Addr}{mA:Str->Option Value}(n:h.Ns1 dx mA):∃ od,h.get? dx=some od/\∀ name,lookIn name od=some (mA name):=by
 obtain⟨o,es,ep,ho,hd,hk,_,hm⟩:=n;refine⟨o,ho,fun name =>?_⟩
 have e:=hm name;unfold nsFind findBy at e;rw[<- Array.find?_toList] at e;unfold lookIn;rw[hd];dsimp only
 split
 ·rename_i y q;rw[q] at e;exact congrArg some e
 ·rename_i q;rw[q] at e;have a:es.toList.any (·.refKey)=false:=by rw[List.any_eq_false];intro y hy;obtain⟨z,t,hkey⟩:=hk y (Array.mem_toList_iff.mp hy);simp[DictEntry.refKey,hkey]
  have a':¬ es.toList.any (·.refKey)=true:=by rw[a];exact zY
  rw[if_neg a'];exact congrArg some e
theorem qc1.look {h:Heap}{x dx C:Addr}{mA:Str->Option Value}(I:qc1 h x dx C mA):∃ od,PySem.W.InstAt h x (instObj C dx) C (some od)/\∀ name,lookIn name od=some (mA name):=
 let ⟨od,ho,hl⟩:=pL I.ns
 ⟨od,⟨I.obj,rfl,rfl,ho⟩,hl⟩
noncomputable section
variable {prog:Program}{w:World}{A:Around}{E:Value->Shared->Prop}{s:Shared}{K:Frag}{x dx C f:Addr}{mA:Str->Option Value}{name:Str}{v:Value}
theorem qh0 {expr:Bool}{Q:Value->Shared->Prop}(X:K.In s.heap) (I:qc1 s.heap x dx C mA) (hg:plainGet K C name=true) (hh:hasDictIn K C=true)
  (ha:findIn K (.ref C) name=some none) (hv:mA name=some v) (hv':PySem.W.handedIn v=true) (h:Q v { s with toks:=s.toks+1 }) :
  wpAny (model prog w) A (getAttr (.ref x) name expr) Q E s:=by
 obtain⟨od,J,hl⟩:=I.look;exact PySem.W.get_value X J (PySem.W.plainGet_of hg).1 (PySem.W.findObj_own hh ha rfl (by rw[hl,hv])) hv' h
theorem qf8 {pl:Sem Bool}{Q:Value×List Value->Shared->Prop}(X:K.In s.heap) (I:qc1 s.heap x dx C mA) (hg:plainGet K C name=true)
  (hf:findIn K (.ref C) name=some (some (.ref f))) (ht:PySem.W.isFn K (.ref f)=true) (hv:mA name=none) (h:Q (.ref f,[.ref x]) s) :
  wpAny (model prog w) A (getMethod (.ref x) name pl) Q E s:=by
 obtain⟨od,J,hl⟩:=I.look;exact PySem.W.method_fn X J (PySem.W.plainGet_of hg).1 (PySem.W.plainGet_of hg).2 hf (beq_iff_eq.mp ht) (by show (lookIn name od).map (·.isSome)=some false;rw[hl,hv];rfl) h
theorem qg4 {ns:List Str}{Q:Unit->Shared->Prop}(X:K.In s.heap) (I:qc1 s.heap x dx C mA)
  (hs:findIn K (.ref C) "__setattr__" = some (some (.builtin "object.__setattr__"))) (hp:plainOver K C=true) (ht:takerIn K C name=some none) (hh:hasDictIn K C=true)
  (hw:PySem.Within mA ns) (hsz:ns.length<=sizeLine)
  (h:∀ h',qc1 h' x dx C (fun y=>if y=name then some v else mA y)->Heap.SameBut dx s.heap h'->Q () { s with heap:=h',toks:=s.toks+2 }) :
  wpAny (model prog w) A (setAttr (.ref x) name v) Q E s:=by
 obtain⟨od,J,hl⟩:=I.look;refine PySem.W.set_plain X J hs (PySem.W.osa_open (s:={ s with toks:=s.toks+1 }) (r:=none) X J hp ht fun b =>?_)
 obtain⟨cd,hc,hd'⟩:=PySem.W.any_some hh;have hx:s.heap.get? x=some ⟨.ref C,some dx,.plain,#[]⟩:=I.obj;refine zE (zW (zE (zE (wpAny_loadPart hx (zE (PySem.W.Looks.here (s:={ s with toks:=s.toks+1 }) (PySem.W.looks_clsIn X hc) ?_))))));rw[hd'];refine zW (a:=some dx) (zE (zW (zE ?_)));refine wpAny_nsSet1 (s:={ s with toks:=s.toks+1 }) I.ns fun h' hn2 hs2 =>?_
 obtain⟨oD,esD,epD,hoD,hdD,hcD⟩:=hn2.count (PySem.Within.cons name v hw);refine zE (wpAny_lookBehind hoD (by rw[hdD];exact pastItsLine_dict (yA hcD (by rw[zP];omega))) ?_)
 exact zW (h _ ⟨(hs2.2 _ (Ne.symm I.ne)).trans I.obj,hn2,I.ne⟩ hs2)
theorem qfM {R:Result->Shared->Prop}{vs:List Value}{kw:List (Str×Value)}(X:K.In s.heap) (hm:makesIn K C=true)
  (hi:findIn K (.ref C) "__init__" = some (some (.ref f))) (hf:PySem.W.typeIn K (.ref f)=some (.type "function"))
  (h:codeAny (model prog w) (A.under (.builtin "type.__call__" ⟨.ref C::vs,kw⟩)) (.call (.ref f) ⟨.ref (s.heap.objs.size+1)::vs,kw⟩) (PySem.W.InitBack (s.heap.objs.size+1) R)
   { s with heap:=(s.heap.push emptyDict).push (instObj C s.heap.objs.size) }) :
  codeAny (model prog w) A (.call (.ref C) ⟨vs,kw⟩) R s:=by
 obtain⟨hh,g,d,t,os⟩:=s;exact PySem.W.make_core (PySem.W.makes_of X hm) (PySem.W.looks_findIn X hi) (fun self=>PySem.W.bind_fn X self hf) (.inl rfl) h
end
noncomputable def i6 (f:Str) (v:V):List (Str×V)->List (Str×V)
 | []=>[(f,v)]
 | (g,x)::r=>if g=f then (g,v)::r else (g,x)::i6 f v r
theorem m7 (f g:Str) (v:V):∀ fs:List (Str×V),(i6 f v fs).lookup g=if g=f then some v else fs.lookup g
 | []=>by
  show List.lookup g [(f,v)]=_;by_cases h:g=f
  ·have hb:(g==f)=true:=beq_iff_eq.mpr h;simp only[List.lookup,hb,if_pos h]
  ·have hb:(g==f)=false:=beq_eq_false_iff_ne.mpr h;simp only[List.lookup,hb,if_neg h]
 | (k,x)::r=>by
  have ih:=m7 f g v r;rw[show i6 f v ((k,x)::r)=(if k=f then (k,v)::r else (k,x)::i6 f v r) from rfl]
  by_cases hk:k=f
  ·rw[if_pos hk];by_cases h:g=k
   ·have hb:(g==k)=true:=beq_iff_eq.mpr h;simp only[List.lookup,hb,if_pos (h.trans hk)]
   ·have hb:(g==k)=false:=beq_eq_false_iff_ne.mpr h;simp only[List.lookup,hb,if_neg (fun e:g=f=>h (e.trans hk.symm))]
  ·rw[if_neg hk];by_cases h:g=k
   ·have hb:(g==k)=true:=beq_iff_eq.mpr h;simp only[List.lookup,hb,if_neg (fun e:g=f=>hk (h.symm.trans e))]
   ·have hb:(g==k)=false:=beq_eq_false_iff_ne.mpr h;simp only[List.lookup,hb];exact ih
theorem mK (f:Str) (v:V):∀ fs:List (Str×V),f∈(i6 f v fs).map (·.1)/\∀ g,g∈fs.map (·.1)->g∈(i6 f v fs).map (·.1)
 | []=>⟨by simp[i6],fun g h=>by simp at h⟩
 | (k,x)::r=>by
  obtain⟨i1,i2⟩:=mK f v r;rw[show i6 f v ((k,x)::r)=(if k=f then (k,v)::r else (k,x)::i6 f v r) from rfl]
  by_cases hk:k=f
  ·rw[if_pos hk];subst hk;exact⟨by simp,fun g h=>by simpa using h⟩
  ·rw[if_neg hk];refine⟨?_,fun g h =>?_⟩
   ·rw[List.map_cons];exact zB _ i1
   ·rw[List.map_cons] at h ⊢;rcases zG.mp h with e|e
    ·exact zG.mpr (.inl e)
    ·exact zB _ (i2 g e)
theorem m8 (f:Str) (v:V):∀ fs:List (Str×V),(i6 f v fs).length<=fs.length+1
 | []=>by simp[i6]
 | (k,x)::r=>by
  have ih:=m8 f v r;rw[show i6 f v ((k,x)::r)=(if k=f then (k,v)::r else (k,x)::i6 f v r) from rfl]
  by_cases hk:k=f
  ·rw[if_pos hk,zP,zP];omega
  ·rw[if_neg hk,zP,zP];omega
theorem jf.some_of {v:V}{o:Option Value}(r:jf (some v) o):∃ u,o=some u/\bx v u:=by
 cases o with
 | none=>exact(show False from r).elim
 | some u=>exact⟨u,rfl,r⟩
theorem jf.none_of {o:Option Value}(r:jf none o):o=none:=by
 cases o with
 | none=>rfl
 | some u=>exact(show False from r).elim
theorem pQ {v:V}{u:Value}(r:bx v u):PySem.W.handedIn u=true:=by
 cases v with
 | non=>cases (show u=Value.none from r);rfl
 | bl b=>cases (show u=Value.bool b from r);rfl
 | int i=>obtain⟨t,e⟩:=(show ∃ t,u=Value.int i t from r);cases e;rfl
 | str x=>obtain⟨t,e⟩:=(show ∃ t,u=Value.str x t from r);cases e;rfl
 | byt b=>obtain⟨t,e⟩:=(show ∃ t,u=Value.bytes b t from r);cases e;rfl
 | flt b=>obtain⟨t,e⟩:=(show ∃ t,u=Value.float b t from r);cases e;rfl
 | ref a=>cases (show u=Value.ref a from r);rfl
 | ty n=>cases (show u=Value.type n from r);rfl
noncomputable section
variable {P:Program}{w:World}{H H':Hp}{h h':Heap}{a C dx:Addr}{fs fs':List (Str×V)}
theorem nK (hok:HOk P w H h) (e:H a=some (.ins C dx fs)):∃ mA,qc1 h a dx C mA/\(∀ f,jf (fs.lookup f) (mA f))/\PySem.Within mA (fs.map (·.1))/\fs.length<=1000/\H dx=some (.own a):=by
 obtain⟨d,z,ne,ob,mA,n,r,q⟩:=(show dg P w H h a (.ins C dx fs) from hok a _ e)
 exact⟨mA,⟨ob,n,ne⟩,r,q,z,d⟩
end
structure Cls (K:Frag) (C:Addr):Prop where
 pg:plainGet K C Str.empty=true
 hd:hasDictIn K C=true
 po:plainOver K C=true
 sa:findIn K (.ref C) "__setattr__" = some (some (.builtin "object.__setattr__"))
theorem Cls.get {K:Frag}{C:Addr}(c:Cls K C) (f:Str):plainGet K C f=true:=c.pg
noncomputable def de (K:Frag) (C:Addr) (f:Str):Prop:=findIn K (.ref C) f=some none
theorem de.taker {K:Frag}{C:Addr}{f:Str}(n:de K C f):takerIn K C f=some none:=by
 unfold takerIn;rw[show findIn K (.ref C) f=some none from n]
 rfl
structure qeA (K:Frag) (C:Addr) (m:Str) (f:Addr):Prop where
 at_:findIn K (.ref C) m=some (some (.ref f))
 fn:PySem.W.isFn K (.ref f)=true
 kp:keepIn K (.ref f)=true
noncomputable section
variable {X:Cx}{pins:List (Addr×Obj)}{σ:St}{H:Hp}{s:Shared}{a C dx:Addr}{fs:List (Str×V)}{f:Str}{v:V}{A:Around}{E:Value->Shared->Prop}
theorem oG {b:Bool}{Q:Value->Shared->Prop}(I:Inv X pins σ H s) (e:H a=some (.ins C dx fs)) (c:Cls X.K C) (n:de X.K C f) (l:fs.lookup f=some v)
  (h:∀ u s',Inv X pins σ H s'->bx v u->Q u s'):wpAny (model X.prog X.w) A (getAttr (.ref a) f b) Q E s:=by
 obtain⟨mA,O,r,_,_,_⟩:=nK I.hok e;obtain⟨u,hu,ru⟩:=jf.some_of (v:=v) (o:=mA f) (by rw[<- l];exact r f)
 exact qh0 I.kIn O (c.get f) c.hd n hu (pQ ru) (h u _ (I.tok _) ru)
theorem li {m:Str}{g:Addr}{pl:Sem Bool}{Q:Value×List Value->Shared->Prop}(I:Inv X pins σ H s) (e:H a=some (.ins C dx fs)) (c:Cls X.K C) (k:qeA X.K C m g) (l:fs.lookup m=none)
  (h:Q (.ref g,[.ref a]) s):wpAny (model X.prog X.w) A (getMethod (.ref a) m pl) Q E s:=by
 obtain⟨mA,O,r,_,_,_⟩:=nK I.hok e;have hn:mA m=none:=jf.none_of (by rw[<- l];exact r m)
 exact qf8 I.kIn O (c.get m) k.at_ k.fn hn h
theorem n9 {y:V}{u:Value}{Q:Unit->Shared->Prop}(I:Inv X pins σ H s) (e:H a=some (.ins C dx fs)) (c:Cls X.K C) (n:de X.K C f) (hl:fs.length<1000) (ry:bx y u)
  (h:∀ s',Inv X pins σ (upd H a (.ins C dx (i6 f y fs))) s'->Q () s'):wpAny (model X.prog X.w) A (setAttr (.ref a) f u) Q E s:=by
 obtain⟨mA,O,r,wi,_,ho⟩:=nK I.hok e;have hz:(fs.map (·.1)).length<=sizeLine:=by rw[zH,sizeLine_eq];omega
 refine qg4 I.kIn O c.sa c.po n.taker c.hd wi hz fun h' O' sb=>h _ ?_
 have hd:∃ o,h'.get? dx=some o:=let ⟨o,_,_,e',_⟩:=O'.ns;⟨o,e'⟩;refine I.write (x:=a) (e:=dx) (by rw[e];exact True.intro) (.inr ho) (fun b q hb z=>(sb.2 b hb).trans z) hd ?_
 refine⟨by rw[aJ O.ne];exact ho,?_,O.ne,O'.obj,_,O'.ns,fun g =>?_,fun g hg =>?_⟩
 ·have:=m8 f y fs;omega
 ·show jf ((i6 f y fs).lookup g) (if g=f then some u else mA g)
  rw[m7];by_cases q:g=f
  ·rw[if_pos q,if_pos q];exact ry
  ·rw[if_neg q,if_neg q];exact r g
 ·by_cases q:g=f
  ·rw[q];exact(mK f y fs).1
  ·refine(mK f y fs).2 g (wi g fun z=>hg ?_)
   show (if g=f then some u else mA g)=none
   rw[if_neg q];exact z
theorem Inv.made (I:Inv X pins σ H s):Inv X pins σ (upd (upd H s.heap.objs.size (.own (s.heap.objs.size+1))) (s.heap.objs.size+1) (.ins C s.heap.objs.size []))
  { s with heap:=(s.heap.push emptyDict).push (instObj C s.heap.objs.size) }:=by
 have e1:(s.heap.push emptyDict).get? s.heap.objs.size=some emptyDict:=zV s.heap rfl;have e2:((s.heap.push emptyDict).push (instObj C s.heap.objs.size)).get? (s.heap.objs.size+1)=some (instObj C s.heap.objs.size):=by
  have:=zV (s.heap.push emptyDict) (o:=instObj C s.heap.objs.size) rfl
  rwa [Heap.size_push] at this
 have e3:(s.heap.push emptyDict).Ns s.heap.objs.size (fun _=>none):=⟨emptyDict,#[],_,e1,rfl,(fun e he=>absurd he (by simp)),fun _=>rfl⟩
 have I1:=I.laid (a:=s.heap.objs.size) (o :=.own (s.heap.objs.size+1)) (h':=s.heap.push emptyDict) (t':=s.toks) (fun b u q=>zF _ q) (zL _) ⟨_,e1⟩
 refine I1.laid (a:=s.heap.objs.size+1) (o :=.ins C s.heap.objs.size []) (t':=s.toks) (fun b u q=>zF _ q) (Nat.le_of_eq (Heap.size_push _ _)) ?_
 have ne:s.heap.objs.size≠s.heap.objs.size+1:=zR (Nat.lt_succ_self _);refine⟨by rw[aJ ne,aB],Nat.zero_le _,ne,e2,fun _=>none,(Heap.Ns1.of_empty e3).at fun o q=>zF _ q,fun _=>True.intro,fun y hy=>absurd rfl hy⟩
theorem qdN {prog:Program}{w:World}{env:Env}{e:Expr}{f:Str}{pos:Pos}{s:Shared}{Q:Value->Shared->Prop}(hb:attributeBase e f env (eval e env)=eval e env)
  (h:wpAny (model prog w) A (eval e env) (fun o s₁=>wpAny (model prog w) A (getAttr o f true) Q E s₁) E s):wpAny (model prog w) A (eval (.Attribute e f pos) env) Q E s:=
 Attribute_any_ h (by rw[arm_eval_Attribute,hb])
end
noncomputable def qlJ (K:Frag) (ta:TE) (f:Str):TE:=fun σ H Q=>ta σ H fun x H1=>∃ a C dx fs v,x=.ref a/\H1 a=some (.ins C dx fs)/\Cls K C/\de K C f/\fs.lookup f=some v/\Q v H1
noncomputable def qlM (K:Frag) (ta tv:TE) (f:Str):TS:=fun D σ H=>tv σ H fun y H1=>ta σ H1 fun x H2=>∃ a C dx fs,x=.ref a/\H2 a=some (.ins C dx fs)/\Cls K C/\de K C f/\fs.length<1000 /\
 D.nx σ (upd H2 a (.ins C dx (i6 f y fs)))
noncomputable def qkg (X:Cx) (op:Operator) (rd:V->V->Hp->VK->Prop):Prop:=
 ∀ (pins:List (Addr×Obj)) (s:Shared) (σ:St) (H:Hp) (x y:V) (u v:Value) (Q:VK),Inv X pins σ H s->bx x u->bx y v->rd x y H Q->wpAny (model X.prog X.w) X.A (inplaceOp op u v) (EP X pins σ Q) X.xe s
noncomputable def qg5 (K:Frag) (ta tv:TE) (rd:V->V->Hp->VK->Prop) (f:Str):TS:=fun D σ H=>ta σ H fun x H1=>∃ a C dx fs v,x=.ref a/\H1 a=some (.ins C dx fs)/\Cls K C/\de K C f/\fs.lookup f=some v /\
 tv σ H1 fun y H2=>rd v y H2 fun z H3=>∃ dx' fs',H3 a=some (.ins C dx' fs')/\fs'.length<1000/\D.nx σ (upd H3 a (.ins C dx' (i6 f z fs')))
noncomputable section
variable {X:Cx}{o e value:Expr}{f:Str}{pos pos' tpos:Pos}{ta tv:TE}
theorem qi9 (he:PE X e ta) (hb:attributeBase e f X.env (eval e X.env)=eval e X.env):PE X (.Attribute e f pos) (qlJ X.K ta f):=by
 intro pins s σ H Q I h;refine qdN hb (thn (he pins s σ H _ I h) fun u s1 ⟨x,H1,I1,rx,a,C,dx,fs,v,ex,ea,c,n,l,q⟩ =>?_)
 subst ex;obtain rfl:u=Value.ref a:=rx;exact oG I1 ea c n l fun u' s2 I2 ru=>⟨v,H1,I2,ru,q⟩
theorem qiZ (ha:PE X o ta) (hv:PE X value tv) (hs:swapsWith value (some (.Attribute o f pos')) pos.line X.env=pure false):PS X (.Assign [.Attribute o f pos'] value pos) (qlM X.K ta tv f):=by
 intro pins s σ H D I h;refine plainObj_wpAny_Assign_Attribute (thn (hv pins s σ H _ I h) fun u s1 ⟨y,H1,I1,ry,q⟩=>thn (ha pins s1 σ H1 _ I1 q) fun ov s2 ⟨x,H2,I2,rx,a,C,dx,fs,ex,ea,c,n,l,q2⟩ =>?_) hs
 subst ex;obtain rfl:ov=Value.ref a:=rx;exact n9 I2 ea c n l ry fun s3 I3=>⟨σ,_,I3,q2⟩
theorem qd8 {op:Operator}{rd:V->V->Hp->VK->Prop}(ha:PE X o ta) (hv:PE X value tv) (hop:qkg X op rd):PS X (.AugAssign (.Attribute o f tpos) op value pos) (qg5 X.K ta tv rd f):=by
 intro pins s σ H D I h;refine wpAny_AugAssign_AttributeAny (thn (ha pins s σ H _ I h) fun ov s1 ⟨x,H1,I1,rx,a,C,dx,fs,v,ex,ea,c,n,l,q⟩ =>?_)
 subst ex;obtain rfl:ov=Value.ref a:=rx;refine oG I1 ea c n l fun u s2 I2 ru=>thn (hv pins s2 σ H1 _ I2 q) fun w3 s3 ⟨y,H2,I3,ry,q3⟩=>thn (hop pins s3 σ H2 v y u w3 _ I3 ru ry q3) fun w4 s4 ⟨z,H3,I4,rz,dx',fs',ea',l',q4⟩ =>?_
 exact n9 I4 ea' c n l' rz fun s5 I5=>⟨σ,_,I5,q4⟩
noncomputable def qlS:V->V->Hp->VK->Prop:=fun x y H Q=>∃ i j,x=.int i/\y=.int j/\Q (.int (i+j)) H
theorem qcS:qkg X .Add qlS:=by
 rintro pins s σ H x y u v Q I rx ry ⟨i,j,rfl,rfl,q⟩;obtain⟨t,rfl⟩:=(show ∃ t,u=Value.int i t from rx)
 obtain⟨t',rfl⟩:=(show ∃ t',v=Value.int j t' from ry)
 exact PyProof.Rows.iadd_int ⟨.int (i+j),H,I.tok _,⟨_,rfl⟩,q⟩
theorem qiy {pl:Sem Bool}{m:Str}{apos:Pos}{args:List Expr}{pins:List (Addr×Obj)}{s:Shared}{σ:St}{H:Hp}{Q:Value->Shared->Prop}{te:TE}(he:PE X e te) (I:Inv X pins σ H s)
  (h:te σ H fun x H1=>∃ a C dx fs g,x=.ref a/\H1 a=some (.ins C dx fs)/\Cls X.K C/\qeA X.K C m g/\fs.lookup m=none /\
   ∀ s1,Inv X pins σ H1 s1->wpAny (model X.prog X.w) X.A (callWith pos (.ref g) [.ref a] (backTo pos (starEach args X.env)) (backToKw pos (keywordEach [] X.env))) Q X.xe s1)
  (ht:eval (.Call (.Attribute e m apos) args [] pos) X.env=(do
   let ov <- eval e X.env
   standAt apos.atName
   let (f,first) <- holding [ov] (getMethod ov m pl)
   callWith pos f first (backTo pos (starEach args X.env)) (backToKw pos (keywordEach [] X.env)))) :
  wpAny (model X.prog X.w) X.A (eval (.Call (.Attribute e m apos) args [] pos) X.env) Q X.xe s:=by
 refine PySem.W.methodCall_KW (pl:=pl) (thn (he pins s σ H _ I h) fun u s1 ⟨x,H1,I1,rx,a,C,dx,fs,g,ex,ea,c,k,l,q⟩ =>?_) ht
 subst ex;obtain rfl:u=Value.ref a:=rx;exact li I1 ea c k l (q s1 I1)
end
noncomputable section
variable {X:Cx}{pins:List (Addr×Obj)}{σ:St}{H:Hp}{s:Shared}{A:Around}{E:Value->Shared->Prop}{Q:Value->Shared->Prop}{c:Value}{b:Bool}
inductive nv (K:Frag) (H:Hp):V->Value->Prop where
 | non:nv K H .non (.type "NoneType")
 | bl (x:Bool):nv K H (.bl x) (.type "bool")
 | int (i:Int):nv K H (.int i) (.type "int")
 | str (x:Str):nv K H (.str x) (.type "str")
 | flt (x:UInt64):nv K H (.flt x) (.type "float")
 | lst {a:Addr}{xs:List V}(e:H a=some (.lst xs)):nv K H (.ref a) (.type "list")
 | frz {a:Addr}{o:Obj}{xs:List V}(e:H a=some (.frz o (.lst xs))):nv K H (.ref a) (.type "list")
 | tup {a:Addr}{xs:List V}(e:H a=some (.tup xs)):nv K H (.ref a) (.type "tuple")
 | dK {a:Addr}{kvs:List (Key×V)}(e:H a=some (.dK kvs)):nv K H (.ref a) (.type "dict")
 | dT {a:Addr}{kvs:List (List Key×V)}(e:H a=some (.dT kvs)):nv K H (.ref a) (.type "dict")
 | ins {a C dx:Addr}{fs:List (Str×V)}(e:H a=some (.ins C dx fs)) (cl:Cls K C) (ha:findIn K (.ref C) "__class__" = some (some (.builtin "object.__class__")))
   (hn:PySem.W.specialIn K (.builtin "object.__class__") "__get__" = some (some (.builtin "getset_descriptor.__get__"))) (htk:PySem.W.takesIn K (.builtin "object.__class__")=some true)
   (hm:PySem.W.mroIn K C (.type "object")=some true):nv K H (.ref a) (.ref C)
theorem gk {x:V}{u t:Value}(I:Inv X pins σ H s) (rx:bx x u) (ty:nv X.K H x t) (e:kitOne X.K t c=some b) (h:∀ tk,Q (.bool b) { s with toks:=tk }) :
  wpAny (model X.prog X.w) A (call (.builtin "isinstance") [u,c]) Q E s:=by
 cases ty with
 | non=>cases (show u=Value.none from rx);exact kia_one PySem.W.kitx_none I.kIn True.intro e (fun z=>nomatch z) h
 | bl y=>cases (show u=Value.bool y from rx);exact kia_one PySem.W.kitx_bool I.kIn True.intro e (fun z=>nomatch z) h
 | int i=>obtain⟨t,q⟩:=(show ∃ t,u=Value.int i t from rx);cases q;exact kia_one PySem.W.kitx_int I.kIn True.intro e (fun z=>nomatch z) h
 | str y=>obtain⟨t,q⟩:=(show ∃ t,u=Value.str y t from rx);cases q;exact kia_one PySem.W.kitx_str I.kIn True.intro e (fun z=>nomatch z) h
 | flt y=>obtain⟨t,q⟩:=(show ∃ t,u=Value.float y t from rx);cases q;exact kia_one PySem.W.kitx_float I.kIn True.intro e (fun z=>nomatch z) h
 | @lst a xs ea=>
  cases (show u=Value.ref a from rx)
  obtain⟨_,_,n,_,h1⟩:=(show dg X.prog X.w H s.heap a (.lst xs) from I.hok a _ ea)
  exact kia_one PySem.W.kitx_list I.kIn ⟨_,h1,rfl⟩ e (fun z=>nomatch z) h
 | @frz a ob xs ea=>
  cases (show u=Value.ref a from rx)
  obtain⟨_,_,_,n,_,h1⟩:=(show dg X.prog X.w H s.heap a (.frz ob (.lst xs)) from I.hok a _ ea)
  exact kia_one PySem.W.kitx_list I.kIn ⟨_,h1,rfl⟩ e (fun z=>nomatch z) h
 | @tup a xs ea=>
  cases (show u=Value.ref a from rx)
  obtain⟨_,_,_,p⟩:=(show dg X.prog X.w H s.heap a (.tup xs) from I.hok a _ ea)
  obtain⟨o,h1,h2,_⟩:=p;exact kia_one PySem.W.kitx_tuple I.kIn ⟨o,h1,h2⟩ e (fun z=>nomatch z) h
 | @dK a kvs ea=>
  cases (show u=Value.ref a from rx)
  obtain⟨_,_,vs,_,p⟩:=(show dg X.prog X.w H s.heap a (.dK kvs) from I.hok a _ ea)
  obtain⟨o,es,ep,h1,h2,_⟩:=p;exact kia_one PySem.W.kitx_dict I.kIn ⟨o,h1,h2.1⟩ e (fun z=>nomatch z) h
 | @dT a kvs ea=>
  cases (show u=Value.ref a from rx)
  obtain⟨_,_,xs,_,o,es,ep,h1,h2,_⟩:=(show dg X.prog X.w H s.heap a (.dT kvs) from I.hok a _ ea)
  exact kia_one PySem.W.kitx_dict I.kIn ⟨o,h1,h2.1⟩ e (fun z=>nomatch z) h
 | @ins a C dx fs ea cl ha hn htk hm=>
  cases (show u=Value.ref a from rx)
  obtain⟨mA,O,_⟩:=nK I.hok ea;obtain⟨od,J,_⟩:=O.look;exact kia_one (PySem.W.kitx_own (cl.get _) cl.hd ha hn htk hm) I.kIn J e (fun z=>nomatch z) h
end
structure cJ (k:Nat) (A:Around):Prop where
 hd:A.handled=none
 dp:A.depth+3*k+5<recursionLimit
 un:A.units+16*k+200<cLine
theorem cJ.mono {j k:Nat}{A:Around}(r:cJ k A) (h:j<=k):cJ j A:=⟨r.hd,by have:=r.dp;omega,by have:=r.un;omega⟩
theorem cJ.deeper {k:Nat}{A:Around}(r:cJ (k+1) A) (env:Env):cJ k (A.deeper env):=
 ⟨r.hd,by have:=r.dp;show A.depth+1+3*k+5<_;omega,by have:=r.un;show A.units+3+16*k+200<_;omega⟩
theorem cJ.in1 {k:Nat}{A:Around}(r:cJ (k+1) A):cJ k A.in1:=
 ⟨r.hd,by have:=r.dp;show A.depth+3*k+5<_;omega,by have:=r.un;show A.units+1+16*k+200<_;omega⟩
theorem qcI {A:Around}{C:Addr}{us:List Value}{kw:List (Str×Value)}:(A.under (.builtin "type.__call__" ⟨.ref C::us,kw⟩)).depth=A.depth+1:=by
 first|rfl|simp[Around.under,Code.weight,Code.isCreation,Code.isGuard,Code.isCaller,Code.frames,Code.isFrame,guardIds]
theorem qcH {A:Around}{C:Addr}{us:List Value}{kw:List (Str×Value)}:(A.under (.builtin "type.__call__" ⟨.ref C::us,kw⟩)).units=A.units+1:=by
 first|rfl|simp[Around.under,Code.cUnits,Code.frames,Code.isFrame]
theorem cJ.make {k:Nat}{A:Around}(r:cJ (k+1) A) (C:Addr) (us:List Value) (kw:List (Str×Value)):cJ k (A.under (.builtin "type.__call__" ⟨.ref C::us,kw⟩)):=
 ⟨r.hd,by have:=r.dp;rw[qcI];omega,by have:=r.un;rw[qcH];omega⟩
theorem cJ.depth {k:Nat}{A:Around}(r:cJ k A):A.depth<recursionLimit:=by have:=r.dp;omega
theorem cJ.units {k:Nat}{A:Around}(r:cJ k A):A.units+64<cLine:=by have:=r.un;omega
noncomputable def qeP:TA:=fun _ H Q=>Q [] H
noncomputable def nS (ta:TE) (tr:TA):TA:=fun σ H Q=>ta σ H fun x H1=>tr σ H1 fun xs H2=>Q (x::xs) H2
noncomputable section
variable {X:Cx}{e:Expr}{es:List Expr}{te:TE}{t:TA}{pos:Pos}
theorem eD:PA X [] qeP:=fun _ _ _ _ H Q I h=>Calls.spliced_nil ⟨[],H,I,.nil,h⟩
theorem cz (ha:PE X e te) (hr:PA X es t) (hs:starEach (e::es) X.env=(false,eval e X.env)::starEach es X.env:=by rfl):PA X (e::es) (nS te t):=by
 intro pos pins s σ H Q I h;rw[hs];show wpAny _ _ (spliced ((false,eval e X.env)::backTo pos (starEach es X.env))) _ _ s;refine Calls.spliced_cons (thn (ha pins s σ H _ I h) fun u s1 ⟨x,H1,I1,r1,q1⟩ =>?_)
 exact thn (hr pos pins s1 σ H1 _ I1 q1) fun us s2 ⟨xs,H2,I2,r2,q2⟩=>⟨x::xs,H2,I2,.cons r1 r2,q2⟩
noncomputable def qlA (t:TA):TE:=fun σ H Q=>t σ H fun xs H1=>xs.length<=sizeLine/\∀ p,H1 p=none->Q (.ref p) (upd H1 p (.tup xs))
noncomputable def qlF (t:TA):TE:=fun σ H Q=>t σ H fun xs H1=>xs.length<=sizeLine/\∀ p,H1 p=none->Q (.ref p) (upd H1 p (.lst xs))
theorem qcq {x1} (h:PA X es t):PE X (.Tuple es x1 pos) (qlA t):=by
 intro pins s σ H Q I hq;refine wpAny_Tuple_spliced (thn (h pos pins s σ H _ I hq) fun us s1 ⟨xs,H1,I1,r,z,q⟩=>⟨by rw[<- r.length];exact z,?_⟩)
 have hf:H1 s1.heap.objs.size=none:=I1.hok.fresh (zL _);refine⟨.ref s1.heap.objs.size,upd H1 s1.heap.objs.size (.tup xs),I1.laid (t':=s1.toks) (fun b u e=>zF _ e) (zL _) ?_,rfl,q _ hf⟩
 exact⟨z,us,r,⟨_,zV _ rfl,rfl,_,rfl⟩⟩
theorem qav (h:PA X es t):PE X (.List es pos) (qlF t):=by
 intro pins s σ H Q I hq;refine wpAny_List_spliced (thn (h pos pins s σ H _ I hq) fun us s1 ⟨xs,H1,I1,r,z,q⟩=>⟨by rw[<- r.length];exact z,?_⟩)
 have hf:H1 s1.heap.objs.size=none:=I1.hok.fresh (zL _);refine⟨.ref s1.heap.objs.size,upd H1 s1.heap.objs.size (.lst xs),I1.laid (t':=s1.toks) (fun b u e=>zF _ e) (zL _) ?_,rfl,q _ hf⟩
 exact⟨z,us,0,r,zV _ rfl⟩
end
noncomputable abbrev Sp:=List V->Hp->VK->XK->Prop
noncomputable abbrev CXT:=List Env->Hp->Shared->XK->Value->Shared->Prop
structure pq (P:Program) (w:World) (K:Frag) (mg:Str->Option Value) (base:Heap) (A:Around) (outer:List Env) (s:Shared) (H:Hp):Prop where
 frames:A.frames=some outer
 mod:Mod K mg base
 bs:∀ b o,base.get? b=some o->s.heap.get? b=some o/\H b=none
 bsz:base.objs.size<=s.heap.objs.size
 funs:s.heap.FunFrames base outer
 frf:∀ b∈frs outer,H b=none
 hok:HOk P w H s.heap
 bare:AllBare s.gens
noncomputable def CE (outer:List Env) (P:Program) (w:World) (H:Hp) (s:Shared) (Q:VK) (u:Value) (s':Shared):Prop:=
 ∃ v H',s'.os=s.os/\AllBare s'.gens/\Un (frs outer) [] H H' s.heap s'.heap/\HOk P w H' s'.heap/\bx v u/\Q v H'
noncomputable def CR (CX:CXT) (outer:List Env) (P:Program) (w:World) (H:Hp) (s:Shared) (Q:VK) (E:XK) (r:Result) (s':Shared):Prop:=
 match r with
 | .ok (.ret u)=>CE outer P w H s Q u s'
 | .ok _=>False
 | .error e=>CX outer H s E e s'
structure bD (P:Program) (w:World) (K:Frag) (mg:Str->Option Value) (base:Heap) (CX:CXT) (k:Nat) (f:Addr) (fd:FuncData) (ps:List Str) (sp:Sp):Prop where
 len:∀ vs H Q E,sp vs H Q E->vs.length=ps.length
 run:∀ (A:Around) (outer:List Env) (s:Shared) (H:Hp) (args:Args) (us:List Value) (vs:List V) (Q:VK) (E:XK),cJ k A->pq P w K mg base A outer s H->BindsTo s fd args (ps.zip us)->bd vs us->sp vs H Q E ->
  codeAny (model P w) A (.call (.ref f) args) (CR CX outer P w H s Q E) s
theorem bD.mono {P:Program}{w:World}{K:Frag}{mg:Str->Option Value}{base:Heap}{CX:CXT}{j k:Nat}{f:Addr}{fd:FuncData}{ps:List Str}{sp:Sp}(F:bD P w K mg base CX j f fd ps sp) (h:j<=k) :
  bD P w K mg base CX k f fd ps sp:=⟨F.len,fun A outer s H args us vs Q E hr=>F.run A outer s H args us vs Q E (hr.mono h)⟩
theorem pq.make {P:Program}{w:World}{K:Frag}{mg:Str->Option Value}{base:Heap}{A:Around}{outer:List Env}{s:Shared}{H:Hp}(e:pq P w K mg base A outer s H) (C:Addr) (us:List Value) (kw:List (Str×Value)) :
  pq P w K mg base (A.under (.builtin "type.__call__" ⟨.ref C::us,kw⟩)) outer s H:=⟨by first|exact e.frames|(simpa [Around.under,Code.envs,Code.isFrame,pushEnvs] using e.frames),e.mod,e.bs,e.bsz,e.funs,e.frf,e.hok,e.bare⟩
theorem pq.in1 {P:Program}{w:World}{K:Frag}{mg:Str->Option Value}{base:Heap}{A:Around}{outer:List Env}{s:Shared}{H:Hp}(e:pq P w K mg base A outer s H) :
  pq P w K mg base A.in1 outer s H:=⟨e.frames,e.mod,e.bs,e.bsz,e.funs,e.frf,e.hok,e.bare⟩
noncomputable section
variable {X:Cx}{pins:List (Addr×Obj)}{σ:St}{H:Hp}{s s':Shared}
theorem Inv.env0 (I:Inv X pins σ H s):pq X.prog X.w X.K X.mg X.base X.A X.stack s H:=
 ⟨I.ok.frames,I.ok.mod,I.bs,yA I.ok.bsz I.sz,I.stack,I.stkFree,I.hok,I.bare⟩
theorem Inv.after {Q:VK}{u:Value}(I:Inv X pins σ H s) (h:CE X.stack X.prog X.w H s Q u s'):EP X pins σ Q u s':=by
 obtain⟨v,H',os,bare,un,hok,r,q⟩:=h;obtain⟨hh,g,d,t,os'⟩:=s';obtain rfl:os'=s.os:=os;exact⟨v,H',I.call (h':=hh) (g':=g) (d':=d) (t':=t) (ch:=[]) un hok bare (fun b z=>absurd z (by simp)),r,q⟩
end
noncomputable def qkt (sp:Sp) (dvs:List V) (E:XK) (t:TA):TE:=fun σ H Q=>t σ H fun vs H1=>sp (vs++dvs) H1 Q E
noncomputable def qdb (C:Addr) (m:Str) (sp:Sp) (dvs:List V) (E:XK) (ta:TE) (t:TA):TE:=fun σ H Q=>ta σ H fun x H1=>∃ a dx fs,x=.ref a/\H1 a=some (.ins C dx fs)/\fs.lookup m=none /\
 t σ H1 fun vs H2=>sp (x::(vs++dvs)) H2 Q E
noncomputable def qkp (C:Addr) (sp:Sp) (dvs:List V) (E:XK) (t:TA):TE:=fun σ H Q=>t σ H fun vs H1=>∀ x dx,H1 x=none->H1 dx=none->dx≠x ->
 sp (.ref x::(vs++dvs)) (upd (upd H1 dx (.own x)) x (.ins C dx [])) (fun v H2=>v=.non/\Q (.ref x) H2) E
noncomputable def gb (K:Frag) (fd:FuncData) (ps:List Str) (ds:List Value):Prop:=
 ∀ (s:Shared) (us:List Value),K.In s.heap->(us++ds).length=ps.length->BindsTo s fd ⟨us,[]⟩ (ps.zip (us++ds))
theorem gb.all {K:Frag}{fd:FuncData}{ps:List Str}(h:∀ us:List Value,us.length=ps.length->bindArgs fd ⟨us,[]⟩=pure (ps.zip us)):gb K fd ps []:=fun s us _ hl=>by
 rw[List.append_nil] at hl ⊢;exact .of_eq (h us hl)
noncomputable def ki (CX:CXT) (X:Cx) (E:XK):Prop:=∀ (pins:List (Addr×Obj)) (σ:St) (H:Hp) (s:Shared) (e:Value) (s':Shared),Inv X pins σ H s->CX X.stack H s E e s'->X.xe e s'
noncomputable section
variable {X:Cx}{CX:CXT}{k:Nat}{f C:Addr}{fd:FuncData}{ps:List Str}{sp:Sp}{dvs:List V}{ds:List Value}{E:XK}{x m:Str}{p pos apos:Pos}{e o:Expr}{es:List Expr}{ta:TE}{t:TA}
theorem qcn {pins:List (Addr×Obj)}{σ:St}{H:Hp}{s:Shared}{Q:VK}{us:List Value}{vs:List V}(F:bD X.prog X.w X.K X.mg X.base CX k f fd ps sp) (hr:cJ k X.A) (hb:gb X.K fd ps ds) (hd:bd dvs ds) (hx:ki CX X E)
  (I:Inv X pins σ H s) (r:bd vs us) (h:sp (vs++dvs) H Q E):wpAny (model X.prog X.w) X.A (call (.ref f) us) (EP X pins σ Q) X.xe s:=by
 have r2:bd (vs++dvs) (us++ds):=r.append hd;have hl:(us++ds).length=ps.length:=by rw[<- r2.length];exact F.len _ _ _ _ h
 refine wpAny_call (codeAny_mono (F.run X.A X.stack s H ⟨us,[]⟩ (us++ds) (vs++dvs) Q E hr I.env0 (hb s us I.kIn hl) r2 h) fun r s' hq =>?_)
 cases r with
 | error e=>exact hx pins σ H s e s' I hq
 | ok fl=>
  cases fl with
  | ret u=>exact I.after hq
  | next=>exact False.elim hq
  | brk=>exact False.elim hq
  | cont=>exact False.elim hq
theorem lS (F:bD X.prog X.w X.K X.mg X.base CX k f fd ps sp) (hr:cJ k X.A) (hg:Gl X x) (hm:X.mg x=some (.ref f)) (hk:keepIn X.K (.ref f)=true) (hb:gb X.K fd ps ds) (hd:bd dvs ds) (hx:ki CX X E)
  (ha:PA X (e::es) t) (hdb:(x==("__debug__" : Str))=false:=by decide) (he:starEach (e::es) X.env=(false,eval e X.env)::starEach es X.env:=by rfl) (hpl:(backTo pos (starEach es X.env)).any (·.1)=false:=by rfl) :
  PE X (.Call (.Name x p) (e::es) [] pos) (qkt sp dvs E t):=by
 intro pins s σ H Q I h;refine wpAny_Call_Name_kw (kq I hg hm ?_ hdb);refine PySem.W.callWith_K (h₀:=X.base) I.ok.mod.kin hk (thn (ha pos pins s σ H _ I h) fun us s1 ⟨vs,H1,I1,r,q⟩=>⟨I1.kIn,?_⟩) he hpl
 exact qcn F hr hb hd hx I1 r q
theorem qhl {pl:Sem Bool}(he:PE X o ta) (c:Cls X.K C) (hm:qeA X.K C m f) (F:bD X.prog X.w X.K X.mg X.base CX k f fd ps sp) (hr:cJ k X.A) (hb:gb X.K fd ps ds) (hd:bd dvs ds) (hx:ki CX X E) (ha:PA X (e::es) t)
  (hst:starEach (e::es) X.env=(false,eval e X.env)::starEach es X.env:=by rfl) (hpl:(backTo pos (starEach es X.env)).any (·.1)=false:=by rfl)
  (ht:eval (.Call (.Attribute o m apos) (e::es) [] pos) X.env=(do
   let ov <- eval o X.env
   standAt apos.atName
   let (f,first) <- holding [ov] (getMethod ov m pl)
   callWith pos f first (backTo pos (starEach (e::es) X.env)) (backToKw pos (keywordEach [] X.env))):=by rfl) :
  PE X (.Call (.Attribute o m apos) (e::es) [] pos) (qdb C m sp dvs E ta t):=by
 intro pins s σ H Q I h;refine PySem.W.methodCall_KW (pl:=pl) (thn (he pins s σ H _ I h) fun u s1 ⟨x,H1,I1,rx,a,dx,fs,ex,ea,l,q⟩ =>?_) ht
 subst ex;obtain rfl:u=Value.ref a:=rx;refine li I1 ea c hm l ?_;refine PySem.W.callWith_K (first:=[.ref a]) (h₀:=X.base) I.ok.mod.kin hm.kp (thn (ha pos pins s1 σ H1 _ I1 q) fun us s2 ⟨vs,H2,I2,r,q2⟩=>⟨I2.kIn,?_⟩) hst hpl
 exact qcn (us :=.ref a::us) (vs :=.ref a::vs) F hr hb hd hx I2 (.cons rfl r) q2
theorem qbx {pl:Sem Bool}(he:PE X o ta) (c:Cls X.K C) (hm:qeA X.K C m f) (F:bD X.prog X.w X.K X.mg X.base CX k f fd ps sp) (hr:cJ k X.A) (hb:gb X.K fd ps ds) (hd:bd dvs ds) (hx:ki CX X E)
  (ht:eval (.Call (.Attribute o m apos) [] [] pos) X.env=(do
   let ov <- eval o X.env
   standAt apos.atName
   let (f,first) <- holding [ov] (getMethod ov m pl)
   callWith pos f first (backTo pos (starEach [] X.env)) (backToKw pos (keywordEach [] X.env))):=by rfl) :
  PE X (.Call (.Attribute o m apos) [] [] pos) (qdb C m sp dvs E ta qeP):=by
 intro pins s σ H Q I h;refine PySem.W.methodCall_KW (pl:=pl) (thn (he pins s σ H _ I h) fun u s1 ⟨x,H1,I1,rx,a,dx,fs,ex,ea,l,q⟩ =>?_) ht
 subst ex;obtain rfl:u=Value.ref a:=rx;refine li I1 ea c hm l ?_;exact PySem.W.callWith_K0 (first:=[.ref a]) I1.kIn hm.kp (qcn (us:=[.ref a]) (vs:=[.ref a]) F hr hb hd hx I1 (.cons rfl .nil) q)
structure Mk (K:Frag) (C f:Addr):Prop where
 makes:makesIn K C=true
 init:findIn K (.ref C) "__init__" = some (some (.ref f))
 fn:PySem.W.isFn K (.ref f)=true
 kp:keepIn K (.ref C)=true
theorem qfb {pins:List (Addr×Obj)}{σ:St}{H:Hp}{s:Shared}{Q:VK}{us:List Value}{vs:List V}(M:Mk X.K C f) (F:bD X.prog X.w X.K X.mg X.base CX k f fd ps sp) (hr:cJ (k+1) X.A) (hb:gb X.K fd ps ds) (hd:bd dvs ds)
  (hx:ki CX X E) (I:Inv X pins σ H s) (r:bd vs us)
  (h:∀ x dx,H x=none->H dx=none->dx≠x->sp (.ref x::(vs++dvs)) (upd (upd H dx (.own x)) x (.ins C dx [])) (fun v H2=>v=.non/\Q (.ref x) H2) E) :
  wpAny (model X.prog X.w) X.A (call (.ref C) us) (EP X pins σ Q) X.xe s:=by
 have hq:=h (s.heap.objs.size+1) s.heap.objs.size (I.hok.fresh (Nat.le_succ _)) (I.hok.fresh (zL _)) (zR (Nat.lt_succ_self _));have I2:=Inv.made (C:=C) I;have r2:bd (V.ref (s.heap.objs.size+1)::(vs++dvs)) (Value.ref (s.heap.objs.size+1)::(us++ds)) :=.cons rfl (r.append hd);have hl:(Value.ref (s.heap.objs.size+1)::us++ds).length=ps.length:=by have e:=r2.length;rw[F.len _ _ _ _ hq] at e;exact e.symm
 refine wpAny_call (qfM (f:=f) I.kIn M.makes M.init (beq_iff_eq.mp M.fn) (codeAny_mono (F.run _ X.stack _ _ ⟨Value.ref (s.heap.objs.size+1)::us,[]⟩ (Value.ref (s.heap.objs.size+1)::(us++ds)) _ _ E (hr.make C us [])
  (I2.env0.make C us []) (hb _ (Value.ref (s.heap.objs.size+1)::us) I2.kIn hl) r2 hq) fun r s' hq' =>?_))
 cases r with
 | error e=>exact hx pins σ _ _ e s' I2 hq'
 | ok fl=>
  cases fl with
  | ret u=>obtain⟨v,H',I3,rv,ev,q3⟩:=I2.after hq';subst ev;exact⟨rv,⟨V.ref (s.heap.objs.size+1),H',I3,rfl,q3⟩⟩
  | next=>exact False.elim hq'
  | brk=>exact False.elim hq'
  | cont=>exact False.elim hq'
theorem qhm (M:Mk X.K C f) (F:bD X.prog X.w X.K X.mg X.base CX k f fd ps sp) (hr:cJ (k+1) X.A) (hg:Gl X x) (hm:X.mg x=some (.ref C)) (hb:gb X.K fd ps ds) (hd:bd dvs ds) (hx:ki CX X E)
  (ha:PA X (e::es) t) (hdb:(x==("__debug__" : Str))=false:=by decide) (he:starEach (e::es) X.env=(false,eval e X.env)::starEach es X.env:=by rfl) (hpl:(backTo pos (starEach es X.env)).any (·.1)=false:=by rfl) :
  PE X (.Call (.Name x p) (e::es) [] pos) (qkp C sp dvs E t):=by
 intro pins s σ H Q I h;refine wpAny_Call_Name_kw (kq I hg hm ?_ hdb);refine PySem.W.callWith_K (h₀:=X.base) I.ok.mod.kin M.kp (thn (ha pos pins s σ H _ I h) fun us s1 ⟨vs,H1,I1,r,q⟩=>⟨I1.kIn,?_⟩) he hpl
 exact qfb M F hr hb hd hx I1 r q
end
noncomputable section
variable {X:Cx}{CX:CXT}{k:Nat}{f C:Addr}{fd:FuncData}{ps ks:List Str}{sp:Sp}{E:XK}{x m:Str}{p pos apos kpos:Pos}{e o:Expr}{es:List Expr}{kws:List Keyword}{te ta:TE}{t tk:TA}{nm:Option Str}
variable {g:List Value->List Value->List Value}{gV:List V->List V->List V}
end
structure aR (N P:List Str) (sc:Scope):Prop where
 kind:sc.kind=.function
 co:sc.isCoroutine=false
 gen:sc.isGenerator=false
 nd:N.Nodup
 pre:N.take P.length=P
 par:∀ x∈P,sc.names.lookup x=some .local∨sc.names.lookup x=some .cell
 nofree:∀ y∈sc.names,y.2 ≠ .free
theorem pV {kindOf:Str->Option NameKind}{x:Str}:∀ {binds:List (Str×Value)}{m:Str->Option Value},(∀ v,(x,v)∉binds)->bindL kindOf binds m x=m x
 | [],_,_=>rfl
 | (n,v)::r,m,h=>by
  unfold bindL;rw[pV fun w hw=>h w (zB _ hw)]
  split
  ·have:x≠n:=by rintro rfl;exact h v zD
   simp[this]
  ·rfl
theorem pX {kindOf:Str->Option NameKind}{x:Str}:∀ {binds:List (Str×Value)}{m:Str->Option Value},(∀ v,(x,v)∉binds)->bindC kindOf binds m x=m x
 | [],_,_=>rfl
 | (n,v)::r,m,h=>by
  unfold bindC;rw[pX fun w hw=>h w (zB _ hw)]
  split
  ·rfl
  ·have:x≠n:=by rintro rfl;exact h v zD
   simp[this]
theorem pW {kindOf:Str->Option NameKind}{x:Str}{v:Value}:∀ {P:List Str}{vs:List Value}{i:Nat}{m:Str->Option Value},P.Nodup->P[i]?=some x->vs[i]?=some v->kindOf x=some .local ->
  bindL kindOf (P.zip vs) m x=some v
 | [],_,_,_,_,h,_,_=>by simp at h
 | _::_,[],_,_,_,_,h,_=>by simp at h
 | p::P,w::vs,0,m,nd,h1,h2,hk=>by
  simp at h1 h2;subst h1;subst h2;show bindL kindOf ((p,w)::P.zip vs) m p=_;unfold bindL;rw[pV fun v hv=>(List.nodup_cons.mp nd).1 (List.of_mem_zip hv).1,if_pos hk]
  simp
 | p::P,w::vs,i+1,m,nd,h1,h2,hk=>by show bindL kindOf ((p,w)::P.zip vs) m x=_;unfold bindL;exact pW (i:=i) (List.nodup_cons.mp nd).2 (by simpa using h1) (by simpa using h2) hk
theorem pY {kindOf:Str->Option NameKind}{x:Str}{v:Value}:∀ {P:List Str}{vs:List Value}{i:Nat}{m:Str->Option Value},P.Nodup->P[i]?=some x->vs[i]?=some v->kindOf x≠some .local ->
  bindC kindOf (P.zip vs) m x=some v
 | [],_,_,_,_,h,_,_=>by simp at h
 | _::_,[],_,_,_,_,h,_=>by simp at h
 | p::P,w::vs,0,m,nd,h1,h2,hk=>by
  simp at h1 h2;subst h1;subst h2;show bindC kindOf ((p,w)::P.zip vs) m p=_;unfold bindC;rw[pX fun v hv=>(List.nodup_cons.mp nd).1 (List.of_mem_zip hv).1,if_neg hk]
  simp
 | p::P,w::vs,i+1,m,nd,h1,h2,hk=>by show bindC kindOf ((p,w)::P.zip vs) m x=_;unfold bindC;exact pY (i:=i) (List.nodup_cons.mp nd).2 (by simpa using h1) (by simpa using h2) hk
noncomputable def fT (N:List Str) (vs:List V):St:=vs.map some++List.replicate (N.length-vs.length) none
noncomputable def jy (CX:CXT) (P:Program) (w:World) (K:Frag) (mg:Str->Option Value) (base:Heap) (N:List Str) (qual:Str) (scope:Scope) (f:Addr) (cd:Value) (A:Around) (outer:List Env) (s:Shared) (H:Hp) (E:XK):Cx where
 prog:=P
 w:=w
 K:=K
 mg:=mg
 base:=base
 A:=A.deeper (envOfC qual scope s.heap.objs.size f cd)
 N:=N
 s₀:=s
 H₀:=H
 env:=envOfC qual scope s.heap.objs.size f cd
 outer:=outer
 stack:=envOfC qual scope s.heap.objs.size f cd::outer
 ex:=[]
 calm:=true
 fn:=fun _=>true
 pn:=[]
 xe:=fun e s'=>wpAny (model P w) (A.deeper (envOfC qual scope s.heap.objs.size f cd)) (leaving (envOfC qual scope s.heap.objs.size f cd) e) (fun _ s''=>CX outer H s E e s'') (fun e' s''=>CX outer H s E e' s'') s'
theorem oX {sc:Scope}{n:Nat}{x:Str}(h:sc.names.lookup x=some .cell):∃ c,(cellsFrom n sc.names []).lookup x=some c:=by
 have q:=PySem.W.cellsFrom_some sc.names n [] (.inl h);exact Option.isSome_iff_exists.mp q
theorem qem {CX:CXT}{P:Program}{w:World}{K:Frag}{mg:Str->Option Value}{base:Heap}{N ps:List Str}{qual:Str}{scope:Scope}{f:Addr}{cd:Value}{A:Around}{outer:List Env}{s s1:Shared}{H:Hp}{E:XK}{us:List Value}{vs:List V}
  (S:aR N ps scope) (hd:A.handled=none) (e0:pq P w K mg base A outer s H) (hl:vs.length=ps.length) (r:bd vs us)
  (x:InCallC s s.heap.objs.size (bindL (envOfC qual scope s.heap.objs.size f cd).kindOf (ps.zip us) fun _=>none) (cellsFrom (s.heap.objs.size+1) scope.names []) (bindC (envOfC qual scope s.heap.objs.size f cd).kindOf (ps.zip us) fun _=>none) s1) :
  Inv (jy CX P w K mg base N qual scope f cd A outer s H E) [] (fT N vs) H s1:=by
 have hpl:ps.length<=N.length:=by have:=congrArg List.length S.pre;rw[List.length_take] at this;omega
 obtain⟨h1,tk,rfl,hk⟩:=x.done;have noA:∀ b:Addr,b∉(jy CX P w K mg base N qual scope f cd A outer s H E).ex:=fun b z=>absurd (show b∈([]:List Addr) from z) (by simp)
 refine⟨⟨e0.mod,S.kind,rfl,rfl,zL _,fun y z c h1 h2 =>?_,fun y hy =>?_,fun y c _ h =>?_,fun _=>hd,Around.frames_deeper e0.frames,.inr ⟨rfl,rfl⟩,fun b z=>absurd z (noA b),e0.bs,e0.bsz,fun b _ _=>noA b,fun b z=>absurd z (noA b),e0.funs,e0.frf⟩,
  rfl,e0.bare,Un.kept hk,⟨_,x.toInCall.ns,fun i y v h1 h2 h3 =>?_⟩,fun y c h=>⟨_,x.cell y c h⟩,e0.hok.fresh (zL _),fun y c h =>?_,fun p hp=>absurd (show p∈([]:List (Addr×Obj)) from hp) (by simp),e0.hok.kept hk,?_⟩
 ·exact name_of_addr x.apart (PySem.mem_of_lookup h1) (PySem.mem_of_lookup h2)
 ·have hy:scope.names.lookup y=some .cell∨scope.names.lookup y=some .free:=hy;rcases hy with hy|hy
  ·exact oX hy
  ·exact absurd rfl (S.nofree _ (PySem.mem_of_lookup hy))
 ·exact Nat.le_of_lt (x.above y c (PySem.mem_of_lookup h))
 ·have hi:i<vs.length:=by
   unfold fT at h2;by_cases hi:i<vs.length
   ·exact hi
   ·rw[List.getElem?_append_right (by simpa using hi)] at h2
    rw[List.getElem?_replicate] at h2
    split at h2<;>cases h2
  have ha:vs[i]?=some v:=by
   unfold fT at h2;rw[yC (by simpa using hi),zM] at h2
   cases e:vs[i]? with
   | none=>rw[e] at h2;cases h2
   | some a=>rw[e] at h2;cases h2;rfl
  obtain⟨u,hu,rv⟩:=r.get ha;have hp:ps[i]?=some y:=by rw[<- S.pre,List.getElem?_take_of_lt (by omega)];exact h1
  have ndP:ps.Nodup:=by rw[<- S.pre];exact S.nd.sublist (List.take_sublist _ _)
  refine⟨u,rv,?_⟩;rcases S.par y (List.mem_of_getElem? hp) with k|k
  ·exact .inl ⟨k,pW ndP hp hu k⟩
  ·obtain⟨c,e⟩:=oX (n:=s.heap.objs.size+1) k;refine .inr ⟨.inl k,c,e,?_⟩;have q:=x.cell y c e;rw[pY ndP hp hu (by show scope.names.lookup y≠_;rw[k];decide)] at q
   exact q
 ·exact e0.hok.fresh (Nat.le_of_lt (x.above y c (PySem.mem_of_lookup h)))
 ·unfold fT;show _=N.length;rw[List.length_append,zH,List.length_replicate];omega
theorem qgb {CX:CXT}{P:Program}{w:World}{K:Frag}{mg:Str->Option Value}{base:Heap}{k:Nat}{f:Addr}{name qual:Str}{params:Arguments}{body:List Stmt}{scope:Scope}{dV kV doc pm cdv ct oc:Value}{an od:Option Addr}
  {osl:Array (Option Value)}{N ps:List Str}{sp:Sp}(lk:K.lookup f=some ⟨oc,od,.func (fnOf name qual params body scope dV kV doc pm an cdv ct),osl⟩) (hcd:codeIn K cdv qual=true) (S:aR N ps scope)
  (len:∀ vs H Q E,sp vs H Q E->vs.length=ps.length)
  (hbody:∀ (A:Around) (outer:List Env) (s:Shared) (H:Hp) (vs:List V) (Q:VK) (E:XK),cJ k (A.deeper (envOfC qual scope s.heap.objs.size f cdv))->sp vs H Q E ->
   ∃ t,PSs (jy CX P w K mg base N qual scope f cdv A outer s H E) body t/\t { nx:=fun _ H'=>Q .non H',rt:=Q } (fT N vs) H) :
  bD P w K mg base CX (k+1) f (fnOf name qual params body scope dV kV doc pm an cdv ct) ps sp:=by
 refine⟨len,fun A outer s H args us vs Q E hr e0 hb r hsp =>?_⟩
 have hl:=len _ _ _ _ hsp;have KX:K.In s.heap:=e0.mod.kin.keeps fun b o e=>(e0.bs b o e).1
 have lim:s.heap.NoLimit:=e0.mod.nolimit.keeps fun b o e=>(e0.bs b o e).1
 have hkind:∀ y∈ps.zip us,scope.names.lookup y.1=some .local∨(scope.names.lookup y.1=some .cell/\((cellsFrom (s.heap.objs.size+1) scope.names []).lookup y.1).isSome=true):=fun ⟨n,v⟩ hy=>by
  rcases S.par n (List.of_mem_zip hy).1 with q|q
  ·exact .inl q
  ·exact .inr ⟨q,PySem.W.cellsFrom_some _ _ _ (.inl q)⟩
 refine codeAny_call_function hr.depth (KX _ _ lk) rfl S.co S.gen rfl (PySem.W.codeRec_of KX hcd) (hb _ _ _ _ ?_);refine wpAny_newFunctionEnv_cells S.kind hkind fun env he s1 x =>?_
 subst he;refine⟨lim.keeps x.toInCall.keep,codeAny_func ?_⟩;obtain⟨t,ht,hq⟩:=hbody A outer s H vs Q E (hr.deeper _) hsp;have I:Inv (jy CX P w K mg base N qual scope f cdv A outer s H E) [] (fT N vs) H s1:=qem S hr.hd e0 hl r x;refine wpAny_mono (ht [] s1 (fT N vs) H _ I hq) (fun fl s' hs =>?_) fun e s' hs=>hs
 have fin:∀ {σ':St}{H':Hp}{v:V}{u:Value},Inv (jy CX P w K mg base N qual scope f cdv A outer s H E) [] σ' H' s'->bx v u->Q v H'->CE outer P w H s Q u s':=
  fun {σ' H' v u} J rv q=>⟨v,H',J.os,J.bare,J.base,J.hok,rv,q⟩
 cases fl with
 | ret u=>obtain⟨v,σ',H',J,rv,q⟩:=hs;exact fin J rv q
 | next=>obtain⟨σ',H',J,q⟩:=hs;exact fin (v:=V.non) (u:=Value.none) J rfl q
 | brk=>obtain⟨_,_,_,q⟩:=hs;exact False.elim q
 | cont=>obtain⟨_,_,_,q⟩:=hs;exact False.elim q
noncomputable section
variable {X:Cx}{x:Str}{p pos:Pos}{e:Expr}{es:List Expr}{t:TA}{id T:String}{r:List V->Hp->VK->Prop}
noncomputable def tCB (r:List V->Hp->VK->Prop) (t:TA):TE:=fun σ H Q=>t σ H fun vs H1=>r vs H1 Q
theorem on (hc:f9 X (.builtin id) r) (hg:Gl X x) (hm:X.mg x=none) (hv:bootBuiltins x=some (.builtin id)) (ha:PA X (e::es) t) (hn:x ≠ "__name__" :=by decide) (hdb:(x==("__debug__" : Str))=false:=by decide)
  (he:starEach (e::es) X.env=(false,eval e X.env)::starEach es X.env:=by rfl) (hpl:(backTo pos (starEach es X.env)).any (·.1)=false:=by rfl):PE X (.Call (.Name x p) (e::es) [] pos) (tCB r t):=by
 intro pins s σ H Q I h;refine wpAny_Call_Name_kw (qaG I hg hm hv ?_ hn hdb);exact PyProof.Rows.callWith_builtin1 (thn (ha pos pins s σ H _ I h) fun us s1 ⟨vs,H1,I1,r1,q1⟩=>hc pins s1 σ H1 vs us Q I1 r1 q1) he hpl
theorem qea (hc:f9 X (.type T) r) (hg:Gl X x) (hm:X.mg x=none) (hv:bootBuiltins x=some (.type T)) (ha:PA X (e::es) t) (hn:x ≠ "__name__" :=by decide) (hdb:(x==("__debug__" : Str))=false:=by decide)
  (he:starEach (e::es) X.env=(false,eval e X.env)::starEach es X.env:=by rfl) (hpl:(backTo pos (starEach es X.env)).any (·.1)=false:=by rfl):PE X (.Call (.Name x p) (e::es) [] pos) (tCB r t):=by
 intro pins s σ H Q I h;refine wpAny_Call_Name_kw (qaG I hg hm hv ?_ hn hdb);exact PyProof.Rows.callWith_type1 (thn (ha pos pins s σ H _ I h) fun us s1 ⟨vs,H1,I1,r1,q1⟩=>hc pins s1 σ H1 vs us Q I1 r1 q1) he hpl
end
end L2
namespace HT
open PySem PyProof.Rows
noncomputable section
open PySem.SeqAt
open PySem.AutoSeq1 (wpAny_loadPart')
open PySem.MeetsSeq PySem.MeetsSeq2 PySem.MeetsSeq3
end
noncomputable section
variable {prog:Program}{w:World}{A:Around}{E:Value->Shared->Prop}{s:Shared}
noncomputable def sIx (n d:Nat):Option Int->Nat
 | none=>d
 | some v=>if v<0 then (v+(n:Int)).toNat else min v.toNat n
end
end HT
namespace L2
open PySem PySem.Spec PyProof.Rows
noncomputable abbrev TO:=St->Hp->(Option Int->Hp->Prop)->Prop
noncomputable def PO (X:Cx) (e:Option Expr) (t:TO):Prop:=
 ∀ (pins:List (Addr×Obj)) (s:Shared) (σ:St) (H:Hp) (Q:Option Int->Hp->Prop),Inv X pins σ H s->t σ H Q ->
  wpAny (model X.prog X.w) X.A (evalPart e X.env) (fun u s'=>∃ o H',Inv X pins σ H' s'/\IsPart u o/\Q o H') X.xe s
noncomputable def qgS:TO:=fun _ H Q=>Q none H
noncomputable def qkm (t:TE):TO:=fun σ H Q=>t σ H fun x H1=>∃ i,x=.int i/\Q (some i) H1
noncomputable section
variable {X:Cx}{e:Expr}{te:TE}{lo hi:Option Expr}{tl th:TO}{pos p2:Pos}
theorem qhi:PO X none qgS:=by
 intro pins s σ H Q I h;rw[evalPart_none];exact zW ⟨none,H,I,.none,h⟩
theorem qhh (h:PE X e te):PO X (some e) (qkm te):=by
 intro pins s σ H Q I hw;rw[evalPart_some];refine thn (h pins s σ H _ I hw) fun u s1 ⟨x,H1,I1,r1,q1⟩ =>?_
 obtain⟨i,rfl,q⟩:=q1;obtain⟨t,rfl⟩:=r1;exact⟨some i,H1,I1,.int i t,q⟩
noncomputable def SlR (X:Cx) (r:V->Option Int->Option Int->Hp->VK->Prop):Prop:=
 ∀ (pins:List (Addr×Obj)) (s:Shared) (σ:St) (H:Hp) (x:V) (v vl vu:Value) (lo hi:Option Int) (sl:Addr) (Q:VK),Inv X pins σ H s->bx x v->s.heap.IsSliceOf sl vl vu .none->IsPart vl lo->IsPart vu hi->r x lo hi H Q ->
  ∃ T id,typeLookup (.type T) "__getitem__" = pure (some (.builtin id))/\s.TypeIs v T/\wpAny (model X.prog X.w) X.A (getItem v (.ref sl)) (EP X pins σ Q) X.xe s
noncomputable def tSl (r:V->Option Int->Option Int->Hp->VK->Prop) (te:TE) (tl th:TO):TE:=fun σ H Q=>te σ H fun x H1=>tl σ H1 fun l H2=>th σ H2 fun u H3=>r x l u H3 Q
theorem om {r:V->Option Int->Option Int->Hp->VK->Prop}(hr:SlR X r) (he:PE X e te) (hl:PO X lo tl) (hu:PO X hi th):PE X (.Subscript e (.Slice lo hi none p2) pos) (tSl r te tl th):=by
 intro pins s σ H Q I h;refine Subscript_ (thn (he pins s σ H _ I h) fun v s1 ⟨x,H1,I1,r1,q1⟩ =>?_)
 refine wpAny_Slice (thn (hl pins s1 σ H1 _ I1 q1) fun vl s2 ⟨l,H2,I2,pl,q2⟩=>thn (hu pins s2 σ H2 _ I2 q2) fun vu s3 ⟨u,H3,I3,pu,q3⟩ =>?_)
 rw[evalPart_none];refine zW ?_;have I4:Inv X pins σ H3 { s3 with heap:=s3.heap.push { cls :=.type "slice",data :=.fields #[vl,vu,.none] } }:=I3.kept (t':=s3.toks) fun b ob q=>zF _ q
 obtain⟨T,id,hT,ht,hg⟩:=hr pins { s3 with heap:=s3.heap.push { cls :=.type "slice",data :=.fields #[vl,vu,.none] } } σ H3 x v vl vu l u s3.heap.objs.size Q I4 r1 (Heap.IsSliceOf.new ..) pl pu q3;show wpAny (model X.prog X.w) X.A (subscriptTail e (.Slice lo hi none p2) v (.ref s3.heap.objs.size)) (EP X pins σ Q) X.xe { s3 with heap:=s3.heap.push { cls :=.type "slice",data :=.fields #[vl,vu,.none] } };exact tail_any (ops:=[.ref s3.heap.objs.size,v]) ht hT hg (by with_unfolding_all rfl)
noncomputable def qb0 (xs:List V) (lo hi:Option Int):List V:=(xs.drop (HT.sIx xs.length 0 lo)).take (HT.sIx xs.length xs.length hi-HT.sIx xs.length 0 lo)
theorem qbZ (xs:List V) (lo hi:Option Int):(qb0 xs lo hi).length<=xs.length:=by
 unfold qb0;rw[List.length_take,List.length_drop];omega
end
noncomputable def ixN (n:Nat) (i:Int):Option Nat:=if 0<=i then (if i<n then some i.toNat else none) else if -(n:Int)<=i then some (i+n).toNat else none
noncomputable def atI {α:Type}(xs:List α) (i:Int):Option α:=(ixN xs.length i).bind fun j=>xs[j]?
theorem qdC {n:Nat}{i:Int}{j:Nat}(h:ixN n i=some j):seqIndex? i n=some j/\j<n /\ -(n:Int)<=i/\i<n:=by
 unfold ixN at h;by_cases h0:0<=i
 ·rw[if_pos h0] at h;by_cases h1:i<n
  ·rw[if_pos h1] at h;have e:i.toNat=j:=zZ h;exact⟨by rw[seqIndex_of h0 h1,e],by omega,by omega,h1⟩
  ·rw[if_neg h1] at h;cases h
 ·rw[if_neg h0] at h;by_cases h1 : -(n:Int)<=i
  ·rw[if_pos h1] at h;have e:(i+n).toNat=j:=zZ h;exact⟨by rw[seqIndex_neg (by omega) h1,e],by omega,h1,by omega⟩
  ·rw[if_neg h1] at h;cases h
theorem qa5 {α:Type}{xs:List α}{i:Int}{v:α}(h:atI xs i=some v):∃ j,seqIndex? i xs.length=some j/\xs[j]?=some v/\j<xs.length /\ -(xs.length:Int)<=i/\i<xs.length:=by
 unfold atI at h;cases e:ixN xs.length i with
 | none=>rw[e] at h;cases h
 | some j=>rw[e] at h;obtain⟨h1,h2,h3,h4⟩:=qdC e;exact⟨j,h1,h,h2,h3,h4⟩
theorem qii {α:Type}{xs:List α}{j:Nat}{v:α}(h:xs[j]?=some v):atI xs (j:Int)=some v:=by
 have hj:j<xs.length:=(zC.mp h).1;have e:ixN xs.length (j:Int)=some j:=by unfold ixN;rw[if_pos (by omega),if_pos (by omega)];simp
 unfold atI;rw[e];exact h
noncomputable def qa9 (b:Expr):Prop:=∀ o i,subscripted b false o i=operate [o,i] (getItem o i)
noncomputable def IxR (X:Cx) (r:R2):Prop:=
 ∀ (value slice:Expr) (pins:List (Addr×Obj)) (s:Shared) (σ:St) (H:Hp) (x y:V) (v u:Value) (Q:VK),Inv X pins σ H s->bx x v->bx y u->r x y H Q ->
  subscripted slice false v u=operate [v,u] (getItem v u)->wpAny (model X.prog X.w) X.A (subscriptTail value slice v u) (EP X pins σ Q) X.xe s
noncomputable def MtR (X:Cx) (id:String) (r:V->List V->Hp->VK->Prop):Prop:=
 ∀ (pins:List (Addr×Obj)) (s:Shared) (σ:St) (H:Hp) (x:V) (xs:List V) (v:Value) (us:List Value) (Q:VK),Inv X pins σ H s->bx x v->bd xs us->r x xs H Q ->
  wpAny (model X.prog X.w) X.A (call (.builtin id) (v::us)) (EP X pins σ Q) X.xe s
noncomputable section
variable {X:Cx}{a b:Expr}{ta tb:TE}{pos:Pos}
theorem IxR.or {r r':R2}(h:IxR X r) (h':IxR X r'):IxR X (fun x y H Q=>r x y H Q∨r' x y H Q):=by
 intro value slice pins s σ H x y v u Q I rx ry q hs;rcases q with q|q
 ·exact h value slice pins s σ H x y v u Q I rx ry q hs
 ·exact h' value slice pins s σ H x y v u Q I rx ry q hs
theorem qiv {r:R2}(hr:IxR X r) (ha:PE X a ta) (hb:PE X b tb) (hs:qa9 b):PE X (.Subscript a b pos) (tOp r ta tb):=by
 intro pins s σ H Q I h;exact Subscript_ (qj2 ha hb I h fun v u s2 x y H2 I2 rx ry q=>hr a b pins s2 σ H2 x y v u Q I2 rx ry q (hs _ _))
noncomputable def qkK (K:Frag):R2:=fun x y H Q=>∃ p xs i v,x=.ref p/\y=.int i/\SqL K H p xs/\atI xs i=some v/\Q v H
noncomputable def qkI (K:Frag):R2:=fun x y H Q=>∃ p xs i v,x=.ref p/\y=.int i/\SqT K H p xs/\atI xs i=some v/\Q v H
noncomputable def qkJ:R2:=fun x y H Q=>∃ z i c,x=.str z/\y=.int i/\z.length<=sizeLine/\atI z.cps.toList i=some c/\Q (.str ⟨#[c]⟩) H
theorem qhV:IxR X (qkK X.K):=by
 intro value slice pins s σ H x y v u Q I rx ry h hs;obtain⟨p,xs,i,z,rfl,rfl,hq,he,q⟩:=h;cases rx;obtain⟨t,rfl⟩:=ry;obtain⟨its,r,pl,hz⟩:=I.list hq;obtain⟨j,h1,h2,h3,h4,h5⟩:=qa5 he;obtain⟨w,ew,rw'⟩:=r.get h2;have hl:=r.length;have hn:=lg;have fin:EP X pins σ Q w s:=⟨z,H,I,rw',q⟩;by_cases h0:0<=i
 ·have hj:i.toNat=j:=by rw[seqIndex_of h0 h5] at h1;exact zZ h1
  exact item_listR pl.isList h0 (by omega) (by rw[hj];simpa using ew) fin hs
 ·have hj:(i+(its.toArray.size:Int)).toNat=j:=by
   rw[seqIndex_neg (by omega) h4] at h1
   rw[zN,<- hl];exact zZ h1
  exact subscriptTail_builtinR (x:=w) pl.isList.typeIs slot_list_getitem.lookup
   (wpAny_getItem_list_neg (Q:=fun r s'=>r=w/\EP X pins σ Q r s') pl.isList (by omega) (by rw[zN]<;>omega) (by omega) (by rw[hj];simpa using ew) ⟨rfl,fin⟩) hs
theorem qjD:IxR X (qkI X.K):=by
 intro value slice pins s σ H x y v u Q I rx ry h hs;obtain⟨p,xs,i,z,rfl,rfl,hq,he,q⟩:=h;cases rx;obtain⟨t,rfl⟩:=ry;obtain⟨its,r,pl,hz⟩:=I.tuple hq;obtain⟨j,h1,h2,h3,h4,h5⟩:=qa5 he;obtain⟨w,ew,rw'⟩:=r.get h2;have hl:=r.length;have hn:=lg;have fin:EP X pins σ Q w s:=⟨z,H,I,rw',q⟩;exact subscriptTail_builtinR (x:=w) pl.typeIs slot_tuple_getitem.lookup
  (getItem_tuple (j:=j) (Q:=fun r s'=>r=w/\EP X pins σ Q r s') pl (by omega) (by omega) (by rw[zN,<- hl];exact h1) (by simpa using ew) ⟨rfl,fin⟩) hs
theorem qjE:IxR X qkJ:=by
 intro value slice pins s σ H x y v u Q I rx ry h hs;obtain⟨z,i,c,rfl,rfl,hz,he,q⟩:=h;obtain⟨t,rfl⟩:=rx;obtain⟨t',rfl⟩:=ry;obtain⟨j,h1,h2,h3,h4,h5⟩:=qa5 he;have hl:z.cps.toList.length=z.length:=by simp[Str.length]
 rw[hl] at h1 h4 h5;have hn:=lg;exact tail_any (typeIs_str s z t) slot_str_getitem.lookup (getItem_str (c:=c) (by
  have e1:decide (i < -(2 ^ 63:Int))=false:=decide_eq_false (by omega)
  have e2:decide (i ≥ 2 ^ 63)=false:=decide_eq_false (by omega)
  rw[e1,e2,Bool.or_false]) (by rw[h1];simpa using h2) ⟨.str ⟨#[c]⟩,H,I.tok _,⟨_,rfl⟩,q⟩) hs
noncomputable def rIx (K:Frag):R2:=fun x y H Q=>qkK K x y H Q∨qkI K x y H Q∨qkJ x y H Q
theorem qjF:IxR X (rIx X.K):=qhV.or (qjD.or qjE)
theorem qcG (its:List Value) (n j:Nat) (u:Value):Obj.mapSeq (·.setIfInBounds j u) { cls :=.type "list",data :=.seq its.toArray n }={ cls :=.type "list",data :=.seq (its.set j u).toArray n }:=by
 simp[Obj.mapSeq]
theorem Inv.lst {pins:List (Addr×Obj)}{σ:St}{H:Hp}{s:Shared}{p:Addr}{xs:List V}(I:Inv X pins σ H s) (h:H p=some (.lst xs)) :
  ∃ (its:List Value) (n:Nat),bd xs its/\s.heap.get? p=some { cls :=.type "list",data :=.seq its.toArray n }/\xs.length<=sizeLine:=by
 obtain⟨z,its,n,r,e⟩:=I.hok p _ h;exact⟨its,n,r,e,z⟩
theorem Inv.lstUpd {pins:List (Addr×Obj)}{σ:St}{H:Hp}{s:Shared}{p:Addr}{xs ys:List V}{its its':List Value}{n n':Nat}{f:Obj->Obj}(I:Inv X pins σ H s) (h:H p=some (.lst xs))
  (ho:s.heap.get? p=some { cls :=.type "list",data :=.seq its.toArray n }) (hf:f { cls :=.type "list",data :=.seq its.toArray n }={ cls :=.type "list",data :=.seq its'.toArray n' }) (r:bd ys its') (hz:ys.length<=sizeLine) (t:Nat) :
  Inv X pins σ (upd H p (.lst ys)) { s with heap:=s.heap.update p f,toks:=t }:=by
 have e:(s.heap.update p f).get? p=some { cls :=.type "list",data :=.seq its'.toArray n' }:=by rw[Heap.get?_update_self f ho (by rw[hf]<;>rfl),hf]
 refine I.write (x:=p) (e:=p) (by rw[h];trivial) (.inl rfl) (fun b u hb q=>(Heap.get?_update_other _ _ (Ne.symm hb)).trans q) ⟨_,e⟩ ?_
 exact⟨hz,its',n',r,e⟩
noncomputable def qit:V->V->V->Hp->(Hp->Prop)->Prop:=fun o i v H Q=>∃ p xs k j,o=.ref p/\i=.int k/\H p=some (.lst xs)/\ixN xs.length k=some j/\Q (upd H p (.lst (xs.set j v)))
theorem qe6:qlq X qit:=by
 intro pins s σ H o i v ov iv u Q I ro ri rv h;obtain⟨p,xs,k,j,rfl,rfl,hp,hj,q⟩:=h;cases ro;obtain⟨t,rfl⟩:=ri;obtain⟨its,n,r,ho,hz⟩:=I.lst hp;obtain⟨h1,h2,h3,h4⟩:=qdC hj;have hl:=r.length;have hn:=lg;have I':Inv X pins σ (upd H p (.lst (xs.set j v))) { s with heap:=s.heap.update p (Obj.mapSeq (·.setIfInBounds j u)) }:=
  I.lstUpd hp ho (qcG its n j u) (r.set rv j) (by rw[List.length_set];exact hz) s.toks
 by_cases h0:0<=k
 ·have hk:k.toNat=j:=by rw[seqIndex_of h0 h4] at h1;exact zZ h1
  exact PySem.W.ki_setAt ho h0 (by omega) (by rw[zN,<- hl];exact h4) (by rw[hk];exact⟨_,I',q⟩)
 ·have hk:(k+(its.toArray.size:Int)).toNat=j:=by
   rw[seqIndex_neg (by omega) h3] at h1
   rw[zN,<- hl];exact zZ h1
  exact PySem.W.ki_setBack ho (by omega) (by rw[zN,<- hl];exact h3) (by omega) (by rw[hk];exact⟨_,I',q⟩)
theorem qal (lo hi:Option Int) (n:Nat):(sliceBounds lo hi none n).1=((HT.sIx n 0 lo:Nat):Int)/\(sliceBounds lo hi none n).2.1=((HT.sIx n n hi:Nat):Int)/\(sliceBounds lo hi none n).2.2=1:=by
 refine⟨?_,?_,rfl⟩
 ·cases lo with
  | none=>simp[sliceBounds,HT.sIx]
  | some i=>
   simp only[sliceBounds,HT.sIx,Option.getD_none,show (1:Int) > 0 by decide,if_true]
   by_cases h:i<0
   ·simp only[h,if_true]<;>omega
   ·simp only[h,if_false]<;>omega
 ·cases hi with
  | none=>simp[sliceBounds,HT.sIx]
  | some i=>
   simp only[sliceBounds,HT.sIx,Option.getD_none,show (1:Int) > 0 by decide,if_true]
   by_cases h:i<0
   ·simp only[h,if_true]<;>omega
   ·simp only[h,if_false]<;>omega
theorem pb (its:List Value) (lo hi:Option Int):slicePick its.toArray lo hi none=((its.drop (HT.sIx its.length 0 lo)).take (HT.sIx its.length its.length hi-HT.sIx its.length 0 lo)).toArray:=by
 obtain⟨h1,h2,h3⟩:=qal lo hi its.toArray.size;unfold slicePick;rw[h1,h2,h3];simp only[sliceRange_one,pick_run,zN]<;>rfl
noncomputable def qlO (K:Frag):V->Option Int->Option Int->Hp->VK->Prop:=fun x lo hi H Q=>∃ a xs,x=.ref a/\SqL K H a xs/\∀ p,H p=none->Q (.ref p) (upd H p (.lst (qb0 xs lo hi)))
theorem qg0:SlR X (qlO X.K):=by
 intro pins s σ H x v vl vu lo hi sl Q I rx hs pl pu h;obtain⟨a,xs,rfl,hx,q⟩:=h;cases rx;obtain⟨its,r,ht,hz⟩:=I.list hx;have hlen:=r.length;refine⟨"list",_,slot_list_getitem.lookup,ht.isList.typeIs,?_⟩;refine wpAny_getItem_list_slice ht.isList hs pl pu .none (by simp) ?_ (by rw[zN]<;>omega)
 rw[pb,<- hlen];refine⟨.ref s.heap.objs.size,_,I.laid (t':=s.toks) (o :=.lst (qb0 xs lo hi)) (fun b ob q=>zF _ q) (zL _) ?_,rfl,q _ (I.hok.fresh (zL _))⟩
 exact⟨yA (qbZ xs lo hi) hz,_,0,(r.drop (HT.sIx xs.length 0 lo)).take (HT.sIx xs.length xs.length hi-HT.sIx xs.length 0 lo),zV _ rfl⟩
noncomputable def jF:V->Bool
 | .non=>true
 | .bl _=>true
 | .int _=>true
 | .str _=>true
 | _=>false
noncomputable def eqV:V->V->Bool
 | .non,.non=>true
 | .bl a,.bl b=>a==b
 | .bl a,.int b=>(if a then 1 else 0)==b
 | .int a,.bl b=>a==(if b then 1 else 0)
 | .int a,.int b=>a==b
 | .str a,.str b=>a==b
 | _,_=>false
theorem qjM {A:Around}{s:Shared}{y x:V}{u v:Value}(ry:bx y u) (rx:bx x v) (fy:jF y=true) (fx:jF x=true):SeqAt.EqAt A s u v (eqV y x):=by
 cases y with
 | non=>
  cases ry;cases x with
  | non=>cases rx;exact SeqAt.EqAt.same _
  | bl b=>cases rx;exact SeqAt.EqAt.none_bool b
  | int b=>obtain⟨t,rfl⟩:=rx;exact SeqAt.EqAt.none_int b t
  | str b=>obtain⟨t,rfl⟩:=rx;exact SeqAt.EqAt.none_str b t
  | _=>exact absurd (show false=true from fx) zY
 | bl a=>
  cases ry;cases x with
  | non=>cases rx;exact SeqAt.EqAt.bool_none a
  | bl b=>cases rx;exact SeqAt.EqAt.bool_bool a b
  | int b=>obtain⟨t,rfl⟩:=rx;exact SeqAt.EqAt.bool_int a b t
  | str b=>obtain⟨t,rfl⟩:=rx;exact SeqAt.EqAt.bool_str a b t
  | _=>exact absurd (show false=true from fx) zY
 | int a=>
  obtain⟨t',rfl⟩:=ry;cases x with
  | non=>cases rx;exact SeqAt.EqAt.int_none a t'
  | bl b=>cases rx;exact SeqAt.EqAt.int_bool a t' b
  | int b=>obtain⟨t,rfl⟩:=rx;exact SeqAt.EqAt.int_int a t' b t
  | str b=>obtain⟨t,rfl⟩:=rx;exact SeqAt.EqAt.int_str a t' b t
  | _=>exact absurd (show false=true from fx) zY
 | str a=>
  obtain⟨t',rfl⟩:=ry;cases x with
  | non=>cases rx;exact SeqAt.EqAt.str_none a t'
  | bl b=>cases rx;exact SeqAt.EqAt.str_bool a t' b
  | int b=>obtain⟨t,rfl⟩:=rx;exact SeqAt.EqAt.str_int a t' b t
  | str b=>obtain⟨t,rfl⟩:=rx;exact SeqAt.EqAt.str_str a t' b t
  | _=>exact absurd (show false=true from fx) zY
 | _=>exact absurd (show false=true from fy) zY
noncomputable def eqU (x:V) (u:Value):Bool:=match u with
 | .none=>eqV .non x
 | .bool b=>eqV (.bl b) x
 | .int i _=>eqV (.int i) x
 | .str z _=>eqV (.str z) x
 | _=>false
theorem qge {x y:V}{u:Value}(r:bx y u) (f:jF y=true):eqU x u=eqV y x:=by
 cases y with
 | non=>cases r;rfl
 | bl b=>cases r;rfl
 | int i=>obtain⟨t,rfl⟩:=r;rfl
 | str z=>obtain⟨t,rfl⟩:=r;rfl
 | _=>exact absurd (show false=true from f) zY
theorem mm {x:V}:∀ {xs:List V}{us:List Value},bd xs us->xs.all jF=true->us.any (eqU x)=xs.any fun y=>eqV y x
 | _,_,.nil,_=>rfl
 | y::xs,u::us,.cons r t,f=>by rw[List.all_cons,Bool.and_eq_true] at f;rw[List.any_cons,List.any_cons,qge r f.1,mm t f.2]
theorem j6 {A:Around}{s:Shared}{x:V}{v:Value}(rx:bx x v) (fx:jF x=true):∀ {xs:List V}{us:List Value},bd xs us->xs.all jF=true->∀ u∈us,SeqAt.EqAt A s u v (eqU x u)
 | _,_,.nil,_=>fun u hu=>by cases hu
 | y::xs,u::us,.cons r t,f=>fun u' hu=>by
  rw[List.all_cons,Bool.and_eq_true] at f;rcases zG.mp hu with rfl|hu
  ·rw[qge r f.1];exact qjM r rx f.1 fx
  ·exact j6 rx fx t f.2 u' hu
noncomputable def inV (x:V) (xs:List V):Bool:=xs.any fun y=>eqV y x
noncomputable def rIn (K:Frag) (neg:Bool):R2:=fun x y H Q=>∃ p xs,y=.ref p/\(SqL K H p xs∨SqT K H p xs)/\jF x=true/\xs.all jF=true/\Q (.bl (if neg then !inV x xs else inV x xs)) H
theorem qed:OpR X (compareOp .In) (rIn X.K false):=by
 intro pins s σ H x y v u Q I rx ry h;obtain⟨p,xs,rfl,hq,fx,fs,q⟩:=h;cases ry;rcases hq with hq|hq
 ·obtain⟨its,r,pl,hz⟩:=I.list hq;refine SeqAt.in_listAt (eqU x) pl.isList (fun w hw=>j6 rx fx r fs w (by simpa using hw)) ⟨.bl _,H,I,rfl,?_⟩
  rw[show its.toArray.any (eqU x)=its.any (eqU x) by simp,mm r fs]
  exact q
 ·obtain⟨its,r,pl,hz⟩:=I.tuple hq;refine SeqAt.in_tupleAt (eqU x) pl (fun w hw=>j6 rx fx r fs w (by simpa using hw)) ⟨.bl _,H,I,rfl,?_⟩
  rw[show its.toArray.any (eqU x)=its.any (eqU x) by simp,mm r fs]
  exact q
theorem qaw:OpR X (compareOp .NotIn) (rIn X.K true):=by
 intro pins s σ H x y v u Q I rx ry h;obtain⟨p,xs,rfl,hq,fx,fs,q⟩:=h;cases ry;rcases hq with hq|hq
 ·obtain⟨its,r,pl,hz⟩:=I.list hq;refine SeqAt.notIn_listAt (eqU x) pl.isList (fun w hw=>j6 rx fx r fs w (by simpa using hw)) ⟨.bl _,H,I,rfl,?_⟩
  rw[show its.toArray.any (eqU x)=its.any (eqU x) by simp,mm r fs]
  exact q
 ·obtain⟨its,r,pl,hz⟩:=I.tuple hq;refine SeqAt.notIn_tupleAt (eqU x) pl (fun w hw=>j6 rx fx r fs w (by simpa using hw)) ⟨.bl _,H,I,rfl,?_⟩
  rw[show its.toArray.any (eqU x)=its.any (eqU x) by simp,mm r fs]
  exact q
theorem qa1:f9 X (.builtin "len") (fun xs H Q=>∃ p ys,xs=[.ref p]/\(SqL X.K H p ys∨SqT X.K H p ys)/\Q (.int ys.length) H):=by
 intro pins s σ H xs us Q I r h;obtain⟨p,ys,rfl,hq,q⟩:=h;obtain⟨u,rfl,rx⟩:=qbg r;cases rx;have hn:=lg;rcases hq with hq|hq
 ·obtain⟨its,r',pl,hz⟩:=I.list hq;have hlen:=r'.length;exact Calls.call_len_list pl.isList (by simp only[zN]<;>omega) ⟨.int ys.length,H,I.tok _,⟨s.toks+1,by rw[zN,hlen]⟩,q⟩
 ·obtain⟨its,r',pl,hz⟩:=I.tuple hq;have hlen:=r'.length;exact len_tuple pl (by simp only[zN]<;>omega) ⟨.int ys.length,H,I.tok _,⟨s.toks+1,by rw[zN,hlen]⟩,q⟩
theorem qa0:f9 X (.builtin "len") (fun xs H Q=>∃ z,xs=[.str z]/\z.length<=sizeLine/\Q (.int z.length) H):=by
 intro pins s σ H xs us Q I r h;obtain⟨z,rfl,hz,q⟩:=h;obtain⟨u,rfl,t,rfl⟩:=qbg r;have hn:=lg;exact len_str (by omega) ⟨.int z.length,H,I.tok _,⟨_,rfl⟩,q⟩
theorem f9.or {f:Value}{r r':List V->Hp->VK->Prop}(h:f9 X f r) (h':f9 X f r'):f9 X f (fun xs H Q=>r xs H Q∨r' xs H Q):=by
 intro pins s σ H xs us Q I rs q;rcases q with q|q
 ·exact h pins s σ H xs us Q I rs q
 ·exact h' pins s σ H xs us Q I rs q
noncomputable def tyV (K:Frag) (T:String) (x:V) (H:Hp):Prop:=match x with
 | .str _=>T = "str"
 | .int _=>T = "int"
 | .ref p=>(T = "list" /\ ∃ xs,SqL K H p xs)∨(T = "tuple" /\ ∃ o,K.lookup p=some o/\o.cls=.type "tuple" /\o.dict=none) ∨
   (T = "dict" /\((∃ kvs,H p=some (.dK kvs))∨∃ kvs,H p=some (.dT kvs)))∨(T = "set" /\ ∃ S n,H p=some (.set S n))
 | _=>False
theorem qeK {pins:List (Addr×Obj)}{σ:St}{H:Hp}{s:Shared}{T:String}{x:V}{v:Value}(I:Inv X pins σ H s) (r:bx x v) (ty:tyV X.K T x H) :
  s.TypeIs v T/\∀ a,v=.ref a->∃ ob,s.heap.get? a=some ob/\ob.dict=none:=by
 cases x with
 | str z=>
  obtain⟨t,rfl⟩:=r;cases (show T = "str" from ty)
  exact⟨typeIs_str s z t,fun _ e=>nomatch e⟩
 | int i=>
  obtain⟨t,rfl⟩:=r;cases (show T = "int" from ty)
  exact⟨typeIs_int s i t,fun _ e=>nomatch e⟩
 | ref p=>
  cases r;rcases ty with ⟨rfl,xs,hq⟩|⟨rfl,o,hk,hc,hd⟩|⟨rfl,hk⟩|⟨rfl,S,n,hk⟩
  ·obtain⟨its,_,pl,_⟩:=I.list hq;refine⟨pl.isList.typeIs,fun a e =>?_⟩
   cases e;obtain⟨o,n,e,c,hd,_⟩:=pl;exact⟨o,e,hd⟩
  ·refine⟨⟨o,I.kIn p o hk,hc⟩,fun a e =>?_⟩
   cases e;exact⟨o,I.kIn _ o hk,hd⟩
  ·have z:∃ o,s.heap.get? p=some o/\o.ExactDict:=by
    rcases hk with ⟨kvs,hk⟩|⟨kvs,hk⟩
    ·obtain⟨_,_,_,_,o,_,_,e,ex,_⟩:=I.hok p _ hk;exact⟨o,e,ex⟩
    ·obtain⟨_,_,_,_,o,_,_,e,ex,_⟩:=I.hok p _ hk;exact⟨o,e,ex⟩
   obtain⟨o,e,ex⟩:=z;refine⟨⟨o,e,ex.1⟩,fun a e2 =>?_⟩
   cases e2;exact⟨o,e,ex.2.1⟩
  ·obtain⟨o,_,_,_,e,ex,_⟩:=I.hok p _ hk;refine⟨⟨o,e,ex.1⟩,fun a e2 =>?_⟩
   cases e2;exact⟨o,e,ex.2.1⟩
 | _=>exact False.elim ty
noncomputable def qku (K:Frag) (T:String) (r:V->List V->Hp->VK->Prop) (to:TE):TE:=fun σ H Q=>to σ H fun x H1=>tyV K T x H1/\r x [] H1 Q
noncomputable def tBM (K:Frag) (T:String) (r:V->List V->Hp->VK->Prop) (to:TE) (t:TA):TE:=fun σ H Q=>to σ H fun x H1=>tyV K T x H1/\t σ H1 fun xs H2=>r x xs H2 Q
variable {o e:Expr}{es:List Expr}{to:TE}{t:TA}{name:Str}{apos cpos:Pos}{T id:String}{r:V->List V->Hp->VK->Prop}
theorem qja (pa:PlainAttrs T) (slot:Slot T name id) (hty:typeOf (.builtin id)=pure (.type "method_descriptor")) (hm:MtR X id r) (ho:PE X o to)
  (hbase:attributeBase o name X.env (eval o X.env)=eval o X.env:=by rfl) (hline:(apos.endLine==cpos.line)=true:=by rfl):PE X (.Call (.Attribute o name apos) [] [] cpos) (qku X.K T r to):=by
 intro pins s σ H Q I h;refine wpAny_Call_method0_late hbase hline (thn (ho pins s σ H _ I h) fun v s1 ⟨x,H1,I1,r1,ty,q1⟩ =>?_)
 obtain⟨h1,h2⟩:=qeK I1 r1 ty;exact⟨T,id,pa,slot,hty,h1,h2,Calls.callWith_builtin rfl (PySem.evalArgs_none (hm pins s1 σ H1 x [] v [] Q I1 r1 .nil q1))⟩
theorem qdo (pa:PlainAttrs T) (slot:Slot T name id) (hty:typeOf (.builtin id)=pure (.type "method_descriptor")) (hm:MtR X id r) (ho:PE X o to) (ha:PA X (e::es) t)
  (hbase:attributeBase o name X.env (eval o X.env)=eval o X.env:=by rfl)
  (hfew:((backTo cpos (starEach (e::es) X.env)).all (fun x=> !x.1)&&(backToKw cpos (keywordEach [] X.env)).all (fun x=>x.1.isSome)
   && decide ((e::es).length+([]:List Keyword).length+(if ([]:List Keyword).isEmpty then 0 else 1)<30))=true:=by rfl)
  (hline:(apos.endLine==cpos.line)=true:=by rfl) (hs:starEach (e::es) X.env=(false,eval e X.env)::starEach es X.env:=by rfl) (hplain:(backTo cpos (starEach es X.env)).any (·.1)=false:=by rfl) :
  PE X (.Call (.Attribute o name apos) (e::es) [] cpos) (tBM X.K T r to t):=by
 intro pins s σ H Q I h;refine wpAny_Call_method_late hbase hfew hline rfl (thn (ho pins s σ H _ I h) fun v s1 ⟨x,H1,I1,r1,ty,q1⟩ =>?_)
 obtain⟨h1,h2⟩:=qeK I1 r1 ty;refine⟨T,id,pa,slot,hty,h1,h2,?_⟩;have hA:=ha cpos pins s1 σ H1 _ I1 q1;rw[hs] at hA ⊢;refine Calls.callWith_builtin (by show (false||(backTo cpos (starEach es X.env)).any (·.1))=false;rw[hplain]<;>rfl) (Calls.evalArgs_plain ?_)
 exact thn hA fun us s2 ⟨vs,H2,I2,r2,q2⟩=>hm pins s2 σ H2 x vs v us Q I2 r1 r2 q2
end
noncomputable def MtM (X:Cx) (id:String) (r:V->List V->Hp->VK->Prop):Prop:=
 ∀ (pins:List (Addr×Obj)) (s:Shared) (σ:St) (H:Hp) (x:V) (xs:List V) (v:Value) (us:List Value) (Q:VK),Inv X pins σ H s->bx x v->bd xs us->r x xs H Q ->
  wpAny (model X.prog X.w) X.A (call (.builtin id) (v::us)) (EP X pins σ Q) X.xe s
theorem bd.one:∀ {x:V}{us:List Value},bd [x] us->∃ u,us=[u]/\bx x u
 | _,_,.cons r .nil=>⟨_,rfl,r⟩
theorem bd.two:∀ {x y:V}{us:List Value},bd [x,y] us->∃ u v,us=[u,v]/\bx x u/\bx y v
 | _,_,_,.cons r (.cons q .nil)=>⟨_,_,rfl,r,q⟩
theorem bd.zero:∀ {us:List Value},bd [] us->us=[]
 | _,.nil=>rfl
theorem bd.dropLast {xs:List V}{us:List Value}(h:bd xs us):bd xs.dropLast us.dropLast:=by
 induction h with
 | nil=>exact .nil
 | cons r t ih=>
  cases t with
  | nil=>exact .nil
  | cons q t'=>exact .cons r ih
theorem bd.rep {xs:List V}{us:List Value}(h:bd xs us):∀ k:Nat,bd (List.replicate k xs).flatten (List.replicate k us).flatten
 | 0 =>.nil
 | k+1=>by rw[List.replicate_succ,List.replicate_succ,List.flatten_cons,List.flatten_cons];exact bd.append h (bd.rep h k)
theorem qcW {α:Type}(l:List α):l.eraseIdx (l.length-1)=l.dropLast:=by
 induction l with
 | nil=>rfl
 | cons a r ih=>
  cases r with
  | nil=>rfl
  | cons b r=>
   have e:(a::b::r).length-1=((b::r).length-1)+1:=by have h1:(a::b::r).length=r.length+2:=rfl;have h2:(b::r).length=r.length+1:=rfl;omega
   rw[e,List.eraseIdx_cons_succ,ih]
   all_goals rfl
theorem pT (its:List Value):∀ (k:Nat) (acc:List Value),
  List.foldl (fun x1 x2=>x1++x2) acc.toArray (List.replicate k its.toArray)=(acc++(List.replicate k its).flatten).toArray
 | 0,acc=>by simp
 | k+1,acc=>by
  have e:acc.toArray++its.toArray=(acc++its).toArray:=by simp
  have e2:(acc++its)++(List.replicate k its).flatten=acc++(List.replicate (k+1) its).flatten:=by rw[List.replicate_succ,List.flatten_cons,List.append_assoc]
  rw[<- e2,<- pT its k (acc++its),<- e,List.replicate_succ,List.foldl_cons]
noncomputable section
variable {X:Cx}{pins:List (Addr×Obj)}{σ:St}{H:Hp}{s:Shared}{l b:Addr}{xs ys zs:List V}
theorem Inv.lset {its its':List Value}{n:Nat}{f:Array Value->Array Value}{t':Nat}(I:Inv X pins σ H s) (hH:H l=some (.lst xs))
  (e:s.heap.get? l=some { cls :=.type "list",data :=.seq its.toArray n }) (hf:f its.toArray=its'.toArray) (hv:bd ys its') (hz:ys.length<=sizeLine) :
  Inv X pins σ (upd H l (.lst ys)) { s with heap:=s.heap.update l (Obj.mapSeq f),toks:=t' }:=by
 have q:=PySem.IsL.update e f;rw[hf] at q;refine I.write (x:=l) (e:=l) (by rw[hH];exact trivial) (.inl rfl) (fun b' u hb hu=>(Heap.get?_update_other s.heap (Obj.mapSeq f) (Ne.symm hb)).trans hu) ⟨_,q⟩ ?_
 exact⟨hz,its',_,hv,q⟩
theorem Inv.lnew {its:List Value}{t':Nat}(I:Inv X pins σ H s) (hv:bd ys its) (hz:ys.length<=sizeLine) :
  Inv X pins σ (upd H s.heap.objs.size (.lst ys)) { s with heap:=s.heap.push { cls :=.type "list",data :=.seq its.toArray },toks:=t' }:=
 I.laid (fun _ _ q=>zF _ q) (zL _) ⟨hz,its,0,hv,zV _ rfl⟩
theorem Inv.fresh (I:Inv X pins σ H s):H s.heap.objs.size=none:=I.hok.fresh (zL _)
theorem Inv.lstM (I:Inv X pins σ H s) (hH:H l=some (.lst xs)):xs.length<=sizeLine/\∃ (its:List Value) (n:Nat),bd xs its/\xs.length=its.length/\s.heap.get? l=some { cls :=.type "list",data :=.seq its.toArray n }:=by
 obtain⟨z,its,n,r,e⟩:=I.hok l _ hH;exact⟨z,its,n,r,r.length,e⟩
theorem qbE {n:Nat}(h:n<=sizeLine):Builtin.List.listTooLong n=false:=by
 unfold Builtin.List.listTooLong;exact decide_eq_false (by omega)
end
noncomputable section
variable {X:Cx}
noncomputable def qhc:V->List V->Hp->VK->Prop:=fun x vs H Q=>∃ l xs y,x=.ref l/\vs=[y]/\H l=some (.lst xs)/\xs.length<sizeLine/\Q .non (upd H l (.lst (xs++[y])))
theorem ko:MtM X "list.append" qhc:=by
 intro pins s σ H x vs v us Q I rx rv h;obtain⟨l,xs,y,rfl,rfl,hH,hz,q⟩:=h;cases rx;obtain⟨u,rfl,ru⟩:=rv.one;obtain⟨z,its,n,r,hl,e⟩:=I.lstM hH;refine call_meets F.slot_list_append ⟨_,e,rfl⟩ F.entry_list_append (F.args_list_append_2 _ _) (PySem.list_append l its.toArray n u (by rw[zN];omega)) ⟨e,?_⟩
 refine⟨.non,_,I.lset (its':=its++[u]) hH e (by simp) (r.append (.cons ru .nil)) ?_,rfl,q⟩
 rw[List.length_append,List.length_singleton];omega
noncomputable def qhb:V->List V->Hp->VK->Prop:=fun x vs H Q=>∃ l b xs zs,x=.ref l/\vs=[.ref b]/\H l=some (.lst xs)/\H b=some (.lst zs)/\xs.length+zs.length<=sizeLine/\Q .non (upd H l (.lst (xs++zs)))
theorem qki:MtM X "list.extend" qhb:=by
 intro pins s σ H x vs v us Q I rx rv h;obtain⟨l,b,xs,zs,rfl,rfl,hH,hB,hz,q⟩:=h;cases rx;obtain⟨u,rfl,ru⟩:=rv.one;cases ru;obtain⟨z,its,n,r,hl,e⟩:=I.lstM hH;obtain⟨z2,its2,n2,r2,hl2,e2⟩:=I.lstM hB;have hsz:its.toArray.size+its2.toArray.size<=sizeLine:=by rw[zN,zN];omega
 have hlong:¬ (!its.toArray.isEmpty&&Builtin.List.listTooLong (its.toArray.size+its2.toArray.size))=true:=by rw[qbE hsz,Bool.and_false];exact zY
 refine call_meets F.slot_list_extend ⟨_,e,rfl⟩ F.entry_list_extend (F.args_list_extend_2 _ _)
  (AutoSeq1.list_extend_list_list_0 l its.toArray n b its2.toArray n2 hlong (by rw[zN];omega) (by omega)) ⟨e,e2,?_⟩
 refine⟨.non,_,I.lset (its':=its++its2) hH e (by simp) (r.append r2) ?_,rfl,q⟩
 rw[List.length_append];omega
noncomputable def qkG:V->List V->Hp->VK->Prop:=fun x vs H Q=>∃ l xs y,x=.ref l/\vs=[]/\H l=some (.lst xs)/\xs[xs.length-1]?=some y/\Q y (upd H l (.lst xs.dropLast))
theorem qjt:MtM X "list.pop" qkG:=by
 intro pins s σ H x vs v us Q I rx rv h;obtain⟨l,xs,y,rfl,rfl,hH,hy,q⟩:=h;cases rx;have hus:=rv.zero;subst hus;obtain⟨z,its,n,r,hl,e⟩:=I.lstM hH;obtain⟨u,hu,ru⟩:=r.get hy;have hy':its.toArray[its.toArray.size-1]?=some u:=by show its.toArray[its.length-1]?=some u;rw[<- Array.getElem?_toList,<- hl];exact hu
 refine call_meets F.slot_list_pop ⟨_,e,rfl⟩ F.entry_list_pop (F.args_list_pop_1 _) (MeetsSeq.list_pop_last l its.toArray n u hy' (by rw[zN];omega)) ⟨e,?_⟩
 refine⟨y,_,I.lset (its':=its.dropLast) hH e ?_ r.dropLast ?_,ru,q⟩
 ·show its.toArray.eraseIdxIfInBounds (its.toArray.size-1)=its.dropLast.toArray;rw[zN,List.eraseIdxIfInBounds_toArray,qcW]
 ·rw[List.length_dropLast];omega
noncomputable def qlR:R2:=fun x y H Q=>∃ l b xs zs,x=.ref l/\y=.ref b/\H l=some (.lst xs)/\H b=some (.lst zs)/\xs.length+zs.length<=sizeLine/\∀ p,H p=none->Q (.ref p) (upd H p (.lst (xs++zs)))
theorem qfu:OpR X (binaryOp .Add) qlR:=by
 intro pins s σ H x y v u Q I rx ry h;obtain⟨l,b,xs,zs,rfl,rfl,hH,hB,hz,q⟩:=h;cases rx;cases ry;obtain⟨z,its,n,r,hl,e⟩:=I.lstM hH;obtain⟨z2,its2,n2,r2,hl2,e2⟩:=I.lstM hB;refine PySem.P.add_list e e2 ?_ (by rw[zN,zN];omega)
 have ea:its.toArray++its2.toArray=(its++its2).toArray:=by simp
 rw[ea];exact⟨.ref _,_,I.lnew (t':=s.toks) (r.append r2) (by rw[List.length_append];omega),rfl,q _ I.fresh⟩
noncomputable def qlP:R2:=fun x y H Q=>∃ l k xs,x=.ref l/\y=.int k/\H l=some (.lst xs) /\ -(2 ^ 63)<=k/\k<2 ^ 63/\xs.length*k.toNat<=sizeLine /\
 ∀ p,H p=none->Q (.ref p) (upd H p (.lst (List.replicate k.toNat xs).flatten))
theorem qhR {α:Type}(xs:List α) (k:Nat):(List.replicate k xs).flatten.length=k*xs.length:=by
 induction k with
 | zero=>simp
 | succ k ih=>rw[List.replicate_succ,List.flatten_cons,List.length_append,ih,Nat.succ_mul,Nat.add_comm]
theorem qjd:OpR X (binaryOp .Mult) qlP:=by
 intro pins s σ H x y v u Q I rx ry h;obtain⟨l,k,xs,rfl,rfl,hH,h1,h2,hz,q⟩:=h;cases rx;obtain⟨t,rfl⟩:=ry;obtain⟨z,its,n,r,hl,e⟩:=I.lstM hH;have hlen:its.toArray.size*k.toNat<=sizeLine:=by rw[zN,<- hl];exact hz
 have hcap:¬ its.toArray.size*k.toNat > (2 ^ 63-1)/8:=by
  have:(sizeLine:Nat)<=(2 ^ 63-1)/8:=by decide
  omega
 have hfit:¬ (!Builtin.List.listFitsIndex k)=true:=by rw[fitsIndex_both h1 h2];exact zY
 have hlong:¬ Builtin.List.listTooLong (its.toArray.size*k.toNat)=true:=by rw[qbE hlen];exact zY
 have hnew:List.foldl (fun x1 x2=>x1++x2) #[] (List.replicate (if its.toArray.isEmpty=true then 0 else k.toNat) its.toArray)=(List.replicate k.toNat its).flatten.toArray:=by
  have f0:∀ m:Nat,List.foldl (fun x1 x2=>x1++x2) #[] (List.replicate m its.toArray)=(List.replicate m its).flatten.toArray:=fun m=>by have:=pT its m [];rw[List.nil_append] at this;exact this
  rw[f0];cases its with
  | nil=>simp
  | cons a r'=>rw[if_neg (by simp)]
 refine wpAny_binaryOp_repeat_ref (T:= "list") (U:= "int") (by decide) ⟨_,e,rfl⟩ (fun s'=>typeIs_int s' k t) noFill_list_mul F.fills_int_mul F.slot_int_rmul repeat_list F.slot_int_index.lookup
  (call_meets F.slot_int_rmul (typeIs_int s k t) F.entry_int_rmul (F.args_int_rmul_2 _ _) (int___rmul___int_list k t l its.toArray n)
   ⟨e,rfl,⟨_,e,rfl⟩,call_meets F.slot_list_mul ⟨_,e,rfl⟩ F.entry_list_mul (F.args_list_mul_2 _ _) (AutoListH.list___mul___list_int_3 l its.toArray n k t hfit hcap hlong) ⟨e,?_⟩⟩)
 rw[hnew];exact⟨.ref _,_,I.lnew (t':=s.toks) (r.rep k.toNat) (by rw[qhR,Nat.mul_comm];exact hz),rfl,q _ I.fresh⟩
end
noncomputable section
variable {prog:Program}{w:World}{A:Around}{E:Value->Shared->Prop}{s:Shared}
set_option maxRecDepth 100000 in
end
noncomputable section
variable {X:Cx}
end
end L2
namespace Att
open PySem PySem.W PySem.Calls PyProof.Rows
theorem nt {P:Params}{h:Heap}:∀ (ns:List Int) (vs:List Value),WellAll P h vs (ns.map WData.int)->IntsAre vs ns:=by
 intro ns
 induction ns with
 | nil=>intro vs w;rw[List.map_nil] at w;cases w;exact .nil
 | cons n ns ih=>
  intro vs w;rw[List.map_cons] at w;cases w with
  | cons a b=>cases a;exact .cons _ _ (ih _ b)
theorem qd4 {l:OpenLaw}{n:Nat}(hn:l.most=some n){P:Params}{h:Heap}{args:List WData}{vals:List Value}
  (hpre:l.row.toRowW.claim.pre args=true) (hwl:WellAll P h vals args) :
  ∃ a vs ns,vals=[Value.ref a]/\args=[WData.list (ns.map WData.int)]/\h.get? a=some { cls :=.type "list",data :=.seq vs.toArray }/\IntsAre vs ns/\ns.length<=n:=by
 have hsh:WShape.hasAll [] args [.list .int]=true:=(pre_splitW hpre).1;have hc:l.pre.holds [] { args:=args }=true:=(pre_splitW hpre).2;obtain⟨d,r,rfl,h1,h2⟩:=hasAllW_cons hsh;obtain rfl:=hasAllW_nil h2;obtain⟨xs,rfl,h3⟩:=hasW_list h1;obtain⟨ns,rfl⟩:=items_int h3;have hlen:ns.length<=n:=by
  unfold OpenLaw.pre at hc;have h4:(WTm.not (.lt (.lit (.int (n:Int))) (.len (.arg 0)))).holds [] { args:=[.list (ns.map .int)] }=true:=by have h4:=(holds_andW hc).1;rw[hn] at h4;exact h4
  have h5:=condW_of h4 (w_not (w_lt w_lit (w_len_list (w_arg rfl))));rw[zH] at h5;refine Nat.le_of_not_lt fun q =>?_
  have q':(n:Int)<((ns.length:Nat):Int):=by omega
  first
   | (rw[decide_eq_true q'] at h5;exact absurd h5 (by decide))
   | (simp at h5;omega)
 cases hwl with
 | cons w1 w2=>
  cases w2;cases w1 with
  | list ho hall=>exact⟨_,_,ns,rfl,rfl,ho,nt ns _ hall,hlen⟩
theorem qd9 (l:OpenLaw) (args:List WData):l.row.toRowW.claim.post args (.bool true) args=true:=
 postW_of (r:=l.row.toRowW) (X:=(true==true))
  (show WShape.has [] (.bool true) .bool=true by first|rfl|decide|simp[WShape.has,WShape.arms,WShape.armsAll])
  (show (WTm.eq .res (.lit (.bool true))).value [] { args:=args,res:=some (.bool true),after:=args }=some (.bool (true==true)) from w_eq_bool (w_res rfl) w_lit) rfl
theorem attach_call {l:OpenLaw}{n:Nat}{q:Program}{loose:List Str}{XP:(Str->Option Value)->Heap->Prop}{YP:World->Heap->Prop}{d:DefRec}
  (hn:l.most=some n) (hdf:d.params.defaults=[])
  (call:∀ (w:World) (s₀ s₁:Shared) (mg mb:Str->Option Value) (fa:Addr) (o:Obj) (pm cd doc:Value) (a:Addr) (vs:List Value) (ns:List Int),
   Ground q loose [] XP w s₀ mg mb s₁.heap->YP w s₁.heap ->
   s₁.heap.get? fa=some o->o.data=.func (docDef d.name d.params d.body d.scope pm cd doc)->s₁.heap.CodeRec cd d.name->mg d.name=some (.ref fa) ->
   s₁.heap.get? a=some { cls :=.type "list",data :=.seq vs.toArray }->IntsAre vs ns->ns.length<=n->s₁.gens=#[] ->
   codeAny (model l.prog w) callerA (.call (.ref fa) ⟨[.ref a],[]⟩) (fun r s'=>r=.ok (.ret (.bool true))/\OldK s₁.heap s'.heap/\s'.os=s₁.os/\AllBare s'.gens) s₁) :
  WalkO q loose XP YP l.row.toRowW d [] (fun f vs=>PySem.call f vs):=by
 intro w s₀ s₁ mg mb G Y fa o pm cd doc dV kV ho hd hcd hD hmg hg args vals as hpre hlay hrd hwl hlo;obtain rfl:dV=.none:=Dflts.none hD hdf;obtain rfl:kV=.none:=Dflts.noKw hD;obtain⟨a,vs,ns,rfl,rfl,hobj,hints,hlen⟩:=qd4 hn hpre hwl;refine enter_call (codeAny_mono (call w s₀ s₁ mg mb fa o pm cd doc a vs ns G Y ho (fd_plain hd) hcd hmg hobj hints hlen hg) fun r s' hq =>?_)
 obtain⟨rfl,h2,h3,h4⟩:=hq;exact⟨.inl ⟨.bool true,.bool true,[],rfl,fun _=>rfl,.bool true,qd9 l _,fun _=>⟨List.Pairwise.nil,fun _ hm=>(nomatch hm)⟩⟩,h2,h3,h4⟩
noncomputable section
variable {prog:Program}{w:World}{A:Around}{E:Value->Shared->Prop}{s:Shared}{K:Frag}
end
end Att
namespace L2
open PySem PySem.Spec PyProof.Rows
theorem pz:∀ {vs:List Value}{ns:List Int},IntsAre vs ns->bd (ns.map V.int) vs
 | _,_,.nil =>.nil
 | _,_,.cons n t h =>.cons ⟨t,rfl⟩ (pz h)
noncomputable def qgy (H:Hp):Prop:=∀ b,H b=none∨∃ o xs,H b=some (.frz o (.lst xs))
theorem qfX {P:Program}{w:World}{K:Frag}{mg mb:Str->Option Value}{CX:CXT}{k:Nat}{fa a:Addr}{fd:FuncData}{x:Str}{sp:Sp}{s₁:Shared}{vs:List Value}{ns:List Int}
  (KX:K.In s₁.heap) (hns:s₁.heap.Ns mainGlobals mg) (hb:s₁.heap.Ns builtinsNs mb) (hbb:∀ x:Str,x ≠ "__name__" ->mb x=bootBuiltins x) (hlim:s₁.heap.NoLimit) (hg:s₁.gens=#[])
  (ha:s₁.heap.get? a=some { cls :=.type "list",data :=.seq vs.toArray }) (hi:IntsAre vs ns) (hl:ns.length<=sizeLine) (hr:cJ k callerA)
  (F:∀ base:Heap,K.In base->base.Ns mainGlobals mg->bD P w K mg base CX k fa fd [x] sp) (hbind:∀ (s:Shared) (u:Value),BindsTo s fd ⟨[u],[]⟩ [(x,u)])
  (hsp:∀ H:Hp,qgy H->SqL K H a (ns.map V.int)->sp [.ref a] H (fun v _=>v=.bl true) fun _ _ _=>False)
  (hCX:∀ H e s',CX [] H s₁ (fun _ _ _=>False) e s'->False) :
  codeAny (model P w) callerA (.call (.ref fa) ⟨[.ref a],[]⟩) (fun r s'=>r=.ok (.ret (.bool true))/\OldK s₁.heap s'.heap/\s'.os=s₁.os/\AllBare s'.gens) s₁:=by
 have rv:=pz hi;have lenV:=hi.length;have core:∀ H:Hp,qgy H->SqL K H a (ns.map V.int)->HOk P w H s₁.heap->(∀ b,H b≠none->b=a)->(H a≠none->K.lookup a=none) ->
   codeAny (model P w) callerA (.call (.ref fa) ⟨[.ref a],[]⟩) (fun r s'=>r=.ok (.ret (.bool true))/\OldK s₁.heap s'.heap/\s'.os=s₁.os/\AllBare s'.gens) s₁:=by
  intro H hO hS hok hA hK;have base_of:∀ {b:Addr}{o:Obj},s₁.heap.get? b=some o->H b=none->(qaL s₁.heap H).get? b=some o:=fun e n=>qf6 e n
  have noA:∀ {b:Addr}{o:Obj}{es:Array DictEntry}{ep:Nat},s₁.heap.get? b=some o->o.data=.dict es ep->H b=none:=fun {b o es ep} e d=>by
   cases q:H b with
   | none=>rfl
   | some u=>
    have e':b=a:=hA b (by rw[q];simp)
    subst e';rw[ha] at e;cases e;have d':Data.seq vs.toArray _=Data.dict es ep:=d;cases d'
  have nsK:∀ {b:Addr}{m:Str->Option Value},s₁.heap.Ns b m->(qaL s₁.heap H).Ns b m:=fun {b m} ⟨o,es,ep,e,d,r⟩=>⟨o,es,ep,base_of e (noA e d),d,r⟩
  have hKb:K.In (qaL s₁.heap H):=fun b o e=>base_of (KX b o e) (by
   cases q:H b with
   | none=>rfl
   | some u=>
    have e':b=a:=hA b (by rw[q];simp)
    subst e';rw[hK (by rw[q];simp)] at e;cases e)
  have hM:Mod K mg (qaL s₁.heap H):=⟨hKb,nsK hns,⟨mb,nsK hb,hbb⟩,let ⟨mc,h1,h2⟩:=hlim;⟨mc,nsK h1,h2⟩⟩;have e0:pq P w K mg (qaL s₁.heap H) callerA [] s₁ H:=⟨rfl,hM,fun b o e=>qhB e,Nat.le_of_eq (qeo _ _),trivial,fun b hb=>absurd (show b∈([]:List Addr) from hb) (by simp),hok,.of_eq hg⟩
  refine codeAny_mono ((F _ hKb (nsK hns)).run callerA [] s₁ H ⟨[.ref a],[]⟩ [.ref a] [.ref a] _ _ hr e0 (hbind s₁ (.ref a)) (.cons rfl .nil) (hsp H hO hS)) fun r s' h =>?_
  cases r with
  | error e=>exact(hCX H e s' h).elim
  | ok fl=>
   cases fl with
   | next=>exact False.elim h
   | brk=>exact False.elim h
   | cont=>exact False.elim h
   | ret u=>
    obtain⟨v,H',os,bare,un,hok',r',q⟩:=h;have q':v=.bl true:=q;subst q';obtain rfl:u=Value.bool true:=r';refine⟨rfl,OldK.of_keep fun b o e =>?_,os,bare⟩
    cases q:H b with
    | none=>exact un.keep b o e q (by intro z;exact absurd (show b∈([]:List Addr) from z) (by simp)) (by simp)
    | some u=>
     rcases hO b with z|⟨ob,xs,z⟩
     ·rw[q] at z;cases z
     ·have z2:=un.frzs b ob _ z;obtain⟨e1,_⟩:=hok b _ z;obtain⟨e2,_⟩:=hok' b _ z2;rw[e] at e1;cases e1;exact e2
 cases hk:K.lookup a with
 | some o=>have e:=KX a o hk;rw[ha] at e;cases e;refine core (fun _=>none) (fun _ =>.inl rfl) (.inr ⟨_,vs.toArray,_,hk,rfl,rfl,rfl,by rw[zN,lenV];exact hl,by simpa using rv⟩) (fun b u z=>by have z':(none:Option HO)=some u:=z;cases z') (fun b z=>absurd rfl z) fun z=>absurd rfl z
 | none=>
  refine core (fun b=>if b=a then some (.frz { cls :=.type "list",data :=.seq vs.toArray } (.lst (ns.map V.int))) else none) (fun b =>?_) (.inl (.inr ⟨{ cls :=.type "list",data :=.seq vs.toArray },if_pos rfl⟩)) (fun b u z =>?_) (fun b z =>?_) fun _=>hk
  ·by_cases hb:b=a
   ·exact .inr ⟨_,_,if_pos hb⟩
   ·exact .inl (if_neg hb)
  ·by_cases hb:b=a
   ·have z':=(if_pos hb).symm.trans z;cases z';subst hb;exact⟨ha,by rw[zH];exact hl,vs,_,rv,ha⟩
   ·have z':=(if_neg hb).symm.trans z;cases z'
  ·by_cases hb:b=a
   ·exact hb
   ·exact absurd (if_neg hb) z
theorem qgL {l:PySem.W.OpenLaw}{n k:Nat}{q:Program}{loose:List Str}{XP:(Str->Option Value)->Heap->Prop}{YP:World->Heap->Prop}{d:DefRec}{K:Params->Frag}{CX:World->CXT}{sp:World->Sp}{x:Str}
  (hn:l.most=some n) (hn2:n<=sizeLine) (hdf:d.params.defaults=[]) (hr:cJ k callerA)
  (hY:∀ (w:World) (h:Heap),YP w h->(K w.params).In h)
  (F:∀ (w:World) (mg:Str->Option Value) (fa:Addr) (h:Heap),(K w.params).In h->h.Ns mainGlobals mg->mg d.name=some (.ref fa) ->
   ∃ fd:FuncData,(∀ (s:Shared) (u:Value),BindsTo s fd ⟨[u],[]⟩ [(x,u)]) /\
    ∀ base:Heap,(K w.params).In base->base.Ns mainGlobals mg->bD l.prog w (K w.params) mg base (CX w) k fa fd [x] (sp w))
  (hsp:∀ (w:World) (H:Hp) (a:Addr) (ns:List Int),ns.length<=n->qgy H->SqL (K w.params) H a (ns.map V.int)->sp w [.ref a] H (fun v _=>v=.bl true) fun _ _ _=>False)
  (hCX:∀ (w:World) (H:Hp) (s:Shared) (e:Value) (s':Shared),CX w [] H s (fun _ _ _=>False) e s'->False) :
  PySem.W.WalkO q loose XP YP l.row.toRowW d [] (fun f vs=>PySem.call f vs):=by
 refine Att.attach_call hn hdf fun w s₀ s₁ mg mb fa o pm cd doc a vs ns G Y ho hd hcd hmg hobj hints hlen hg =>?_
 have KX:=hY w _ Y;obtain⟨fd,hb,hF⟩:=F w mg fa _ KX G.T.g hmg;exact qfX KX G.T.g G.T.b G.T.builtins G.T.nolimit hg hobj hints (yA hlen hn2) hr hF hb (fun H hO hS=>hsp w H a ns hlen hO hS) fun H e s'=>hCX w H s₁ e s'
theorem qeJ {l:PySem.W.OpenLaw}{n k:Nat}{q:Program}{loose:List Str}{XP:(Str->Option Value)->Heap->Prop}{YP:World->Heap->Prop}{d:DefRec}{K:Params->Frag}{CX:CXT}{sp:Frag->Sp}{x:Str}
  (hn:l.most=some n) (hn2:n<=sizeLine) (hdf:d.params.defaults=[]) (hr:cJ k callerA)
  (hY:∀ (w:World) (h:Heap),YP w h->(K w.params).In h)
  (F:∀ (w:World) (mg:Str->Option Value) (fa:Addr) (h:Heap),(K w.params).In h->h.Ns mainGlobals mg->mg d.name=some (.ref fa) ->
   ∃ fd:FuncData,(∀ (s:Shared) (u:Value),BindsTo s fd ⟨[u],[]⟩ [(x,u)]) /\
    ∀ base:Heap,(K w.params).In base->base.Ns mainGlobals mg->bD l.prog w (K w.params) mg base CX k fa fd [x] (sp (K w.params)))
  (hsp:∀ (K:Frag) (H:Hp) (a:Addr) (ns:List Int),ns.length<=n->qgy H->SqL K H a (ns.map V.int)->sp K [.ref a] H (fun v _=>v=.bl true) fun _ _ _=>False)
  (hCX:∀ (H:Hp) (s:Shared) (e:Value) (s':Shared),CX [] H s (fun _ _ _=>False) e s'->False) :
  PySem.W.WalkO q loose XP YP l.row.toRowW d [] (fun f vs=>PySem.call f vs):=
 qgL (K:=K) (CX:=fun _=>CX) (sp:=fun w=>sp (K w.params)) hn hn2 hdf hr hY F (fun w H a ns h1 h2 h3=>hsp (K w.params) H a ns h1 h2 h3) fun _ H s e s'=>hCX H s e s'
noncomputable def eQ (s:Stmt) (j:Nat):Stmt:=match s with
 | .ClassDef _ _ _ body _ _ _ _ _ _ _=>body.getD j (.Pass ⟨0,0,0,0⟩)
 | _ =>.Pass ⟨0,0,0,0⟩
noncomputable def gS (s:Stmt):Arguments:=match s with
 | .FunctionDef _ a _ _ _ _ _ _ _ _=>a
 | _=>{ posonlyargs:=[],args:=[],vararg:=none,kwonlyargs:=[],kw_defaults:=[],kwarg:=none,defaults:=[] }
noncomputable def cI (s:Stmt):List Stmt:=match s with
 | .FunctionDef _ _ b _ _ _ _ _ _ _=>b
 | _=>[]
noncomputable def am (s:Stmt):Scope:=match s with
 | .FunctionDef _ _ _ _ _ _ sc _ _ _=>sc
 | _=>{ kind :=.function,names:=[],isGenerator:=false,isCoroutine:=false }
noncomputable abbrev CX0:CXT:=fun _ _ _ _ _ _=>False
noncomputable abbrev E0:XK:=fun _ _ _=>False
theorem oq {X:Cx}:ki CX0 X E0:=fun _ _ _ _ _ _ _ h=>h.elim
structure Fun (K:Frag) (x qual:Str) (st:Stmt) (f:Addr) (fd:FuncData):Prop where
 ex:∃ (oc:Value) (od:Option Addr) (kV doc pm:Value) (an:Option Addr) (cdv ct:Value) (osl:Array (Option Value)),
  fd=fnOf x qual (gS st) (cI st) (am st) .none kV doc pm an cdv ct/\K.lookup f=some ⟨oc,od,.func fd,osl⟩/\codeIn K cdv qual=true
 kp:keepIn K (.ref f)=true
noncomputable section
variable {P:Program}{w:World}{K:Frag}{mg:Str->Option Value}{base:Heap}
theorem Fun.ok {x qual:Str}{st:Stmt}{f:Addr}{fd:FuncData}{N ps:List Str}{k:Nat}{sp:Sp}(F:Fun K x qual st f fd) (S:aR N ps (am st)) (len:∀ vs H Q E,sp vs H Q E->vs.length=ps.length)
  (hbody:∀ (cdv:Value) (A:Around) (outer:List Env) (s:Shared) (H:Hp) (vs:List V) (Q:VK) (E:XK),cJ k (A.deeper (envOfC qual (am st) s.heap.objs.size f cdv))->sp vs H Q E ->
   ∃ t,PSs (jy CX0 P w K mg base N qual (am st) f cdv A outer s H E).nox (cI st) t/\t { nx:=fun _ H'=>Q .non H',rt:=Q } (fT N vs) H):bD P w K mg base CX0 (k+1) f fd ps sp:=by
 obtain⟨oc,od,kV,doc,pm,an,cdv,ct,osl,rfl,lk,hcd⟩:=F.ex;refine qgb lk hcd S len fun A outer s H vs Q E hr hsp =>?_
 obtain⟨t,h,q⟩:=hbody cdv A outer s H vs Q E hr hsp;exact⟨t,h.nox,q⟩
theorem Fun.binds {x qual:Str}{st:Stmt}{f:Addr}{fd:FuncData}{ps:List Str}(F:Fun K x qual st f fd)
  (h:∀ (kV doc pm:Value) (an:Option Addr) (cdv ct:Value) (us:List Value),us.length=ps.length->bindArgs (fnOf x qual (gS st) (cI st) (am st) .none kV doc pm an cdv ct) ⟨us,[]⟩=pure (ps.zip us)):gb K fd ps []:=by
 obtain⟨oc,od,kV,doc,pm,an,cdv,ct,osl,rfl,lk,hcd⟩:=F.ex;exact .all (h kV doc pm an cdv ct)
theorem qaP {x qual:Str}{st:Stmt}{f:Addr}{oc:Value}{od an:Option Addr}{osl:Array (Option Value)}{kV doc pm cdv ct:Value}(l:K.lookup f=some ⟨oc,od,.func (fnOf x qual (gS st) (cI st) (am st) .none kV doc pm an cdv ct),osl⟩)
  (c:codeIn K cdv qual=true) (k:keepIn K (.ref f)=true):Fun K x qual st f (fnOf x qual (gS st) (cI st) (am st) .none kV doc pm an cdv ct):=⟨⟨oc,od,kV,doc,pm,an,cdv,ct,osl,rfl,l,c⟩,k⟩
end
theorem qk8 {A:Around}{k:Nat}(hr:cJ k A):A.units+1<cLine:=Nat.lt_of_le_of_lt (Nat.add_le_add_left (by decide:1<=64) _) hr.units
theorem qd2 {n:Nat}(h:n<=1000):n<sizeLine:=Nat.lt_of_le_of_lt h (by decide)
noncomputable section
variable {X:Cx}
theorem pv (i:Nat){x:Str}{pos:Pos}(hN:X.N[i]?=some x:=by rfl) (hv:Vis X.env.scope x:=by first|exact Or.inl rfl|exact Or.inr (Or.inl rfl)|exact Or.inr (Or.inr rfl)) (hd:(x==("__debug__" : Str))=false:=by decide)
  (hcd:(x==("__classdict__" : Str))=false:=by decide):PE X (.Name x pos) (i4 i):=qi5 hN hv hd hcd
end
theorem jr {A B:Prop}(h:B):if false=true then A else B:=by
 rw[if_neg zY];exact h
theorem pi {A B:Prop}(h:A):if true=true then A else B:=by
 rw[if_pos rfl];exact h
noncomputable def aZ (H H':Hp):Prop:=∀ b o,H b=some o->H' b=some o
theorem aZ.refl (H:Hp):aZ H H:=fun _ _ h=>h
theorem aZ.trans {H H1 H2:Hp}(a:aZ H H1) (b:aZ H1 H2):aZ H H2:=fun c o h=>b c o (a c o h)
theorem aZ.free {H H':Hp}(e:aZ H H'){l:Addr}(h:H' l=Option.none):H l=Option.none:=by
 cases q:H l with
 | none=>rfl
 | some o=>rw[e l o q] at h;cases h
theorem aZ.seq {K:Frag}{H H':Hp}{a:Addr}{xs:List V}(e:aZ H H') (h:SqL K H a xs):SqL K H' a xs:=by
 rcases h with (h|⟨o,h⟩)|h
 ·exact .inl (.inl (e _ _ h))
 ·exact .inl (.inr ⟨o,e _ _ h⟩)
 ·exact .inr h
end L2
end
noncomputable section
namespace L2
open PySem PySem.Spec PyProof.Rows
noncomputable section
variable {P:Program}{w:World}{H:Hp}{h:Heap}{a:Addr}{o:HO}
theorem HOk.track (x:HOk P w H h) (hn:H a=none) (new:dg P w (upd H a o) h a o):HOk P w (upd H a o) h:=fun b u e=>by
 by_cases hb:b=a
 ·subst hb;rw[aB] at e;cases e;exact new
 ·rw[aJ hb] at e;exact(x b u e).stay (fun c v _ q=>q) (fun c q=>by rw[aJ (ba q hn)];exact q) fun c xs q=>by rw[aJ (ba q hn)];exact q
theorem HOk.untrack {xs:List V}(x:HOk P w (upd H a (.lst xs)) h) (hn:H a=none):HOk P w H h:=fun b u e=>by
 have hb:b≠a:=ba e hn;have k:∀ c v,upd H a (.lst xs) c=some v->v ≠ .lst xs->H c=some v:=fun c v q ne=>by
  by_cases hc:c=a
  ·subst hc;rw[aB] at q;cases q;exact absurd rfl ne
  ·rwa [aJ hc] at q
 exact(x b u (by rw[aJ hb];exact e)).stay (fun c v _ q=>q) (fun c q=>k c _ q (by intro z;cases z)) fun c ys q=>k c _ q (by intro z;cases z)
end
noncomputable def lW (its:List Value) (n:Nat):Obj:={ cls :=.type "list",data :=.seq its.toArray n }
noncomputable section
variable {X:Cx}{pins:List (Addr×Obj)}{σ:St}{H:Hp}{s:Shared}{D:Addr}{ys:List V}{its:List Value}{n:Nat}
theorem Inv.track (I:Inv X (pins++[(D,lW its n)]) σ H s) (r:bd ys its) (hz:ys.length<=sizeLine) (hD:X.s₀.heap.objs.size<=D) (hp:∀ p∈X.pn++pins,p.1≠D):Inv X pins σ (upd H D (.lst ys)) s:=by
 obtain⟨e,hn,hL,hF,_⟩:=I.pin (D,lW its n) (by simp)
 have old:∀ b o,X.s₀.heap.get? b=some o->b≠D:=fun b o q z=>by have q':=zJ q;subst z;exact yD _ (zS q' hD)
 refine⟨I.ok,I.os,I.bare,⟨I.base.keep,I.base.slot,fun b o q m x =>?_,I.base.there,fun b xs q =>?_,fun b o u q =>?_,fun b ps q =>?_⟩,I.loc,I.cell,?_,fun x c q =>?_,fun p q =>?_,I.hok.track hn ⟨hz,its,n,r,e⟩,I.len⟩
 ·rw[aJ (old b o q)];exact I.base.free b o q m x
 ·have:=I.base.tups b xs q;rw[aJ (ba this hn)];exact this
 ·have:=I.base.frzs b o u q;rw[aJ (ba this hn)];exact this
 ·obtain⟨more,this⟩:=I.base.tbls b ps q;exact⟨more,by rw[aJ (ba this hn)];exact this⟩
 ·rw[aJ (Ne.symm hL)];exact I.free
 ·have nc:c≠D:=fun z=>by obtain⟨v,ob,h1,h2⟩:=I.cell x c q;rw[z,e] at h1;cases h1;cases h2
  rw[aJ nc];exact I.freeC x c q
 ·obtain⟨a1,a2,a3⟩:=I.pin p (by rw[<- List.append_assoc];exact zU _ q)
  exact⟨a1,by rw[aJ (hp p q)];exact a2,a3⟩
theorem Inv.untrack (I:Inv X pins σ (upd H D (.lst ys)) s) (hn:H D=none) (hL:D≠X.env.locals) (hF:D∉X.fs):∃ its n,bd ys its/\ys.length<=sizeLine/\Inv X (pins++[(D,lW its n)]) σ H s:=by
 obtain⟨hz,its,n,r,e⟩:=I.hok D _ aB;have k:∀ c v,upd H D (.lst ys) c=some v->v ≠ .lst ys->H c=some v:=fun c v q ne=>by
  by_cases hc:c=D
  ·subst hc;rw[aB] at q;cases q;exact absurd rfl ne
  ·rwa [aJ hc] at q
 have k0:∀ c,upd H D (.lst ys) c=none->H c=none:=fun c q=>by
  by_cases hc:c=D
  ·subst hc;exact hn
  ·rwa [aJ hc] at q
 refine⟨its,n,r,hz,I.ok,I.os,I.bare,⟨I.base.keep,I.base.slot,fun b o q m x=>k0 _ (I.base.free b o q m x),I.base.there,fun b xs q=>k _ _ (I.base.tups b xs q) (by intro z;cases z),fun b o u q=>k _ _ (I.base.frzs b o u q) (by intro z;cases z),fun b ps q =>?_⟩,I.loc,I.cell,k0 _ I.free,fun x c q=>k0 _ (I.freeC x c q),fun p q =>?_,I.hok.untrack hn,I.len⟩
 ·obtain⟨more,this⟩:=I.base.tbls b ps q;exact⟨more,k _ _ this (by intro z;cases z)⟩
 ·rw[<- List.append_assoc] at q;rcases zO.mp q with q|q
  ·obtain⟨a1,a2,a3⟩:=I.pin p q;exact⟨a1,k0 _ a2,a3⟩
  ·have:p=(D,lW its n):=by simpa using q
   subst this;exact⟨e,hn,hL,hF,fun v z=>by cases z⟩
end
theorem dO:∀ (names:List (Str×NameKind)) (n:Nat) (acc:List (Str×Addr)),cellsFrom n names acc=cellsFrom n names []++acc
 | [],n,acc=>rfl
 | (x,k)::r,n,acc=>by
  unfold cellsFrom
  split
  ·rw[dO r (n+1) ((x,n)::acc),dO r (n+1) [(x,n)],List.append_assoc];rfl
  ·exact dO r n acc
theorem f7:∀ (names:List (Str×NameKind)) (n:Nat) (acc:List (Str×Addr)) (x:Str) (c:Addr),(x,c)∈cellsFrom n names acc->(x,c)∈acc∨(x,NameKind.cell)∈names
 | [],n,acc,x,c,h =>.inl h
 | (y,k)::r,n,acc,x,c,h=>by
  unfold cellsFrom at h
  split at h
  ·rename_i hk;rcases f7 r _ _ x c h with q|q
   ·rcases zG.mp q with e|q
    ·cases e;have:k=.cell:=by simpa using hk
     subst this;exact .inr (by simp)
    ·exact .inl q
   ·exact .inr (zB _ q)
  ·rcases f7 r _ _ x c h with q|q
   ·exact .inl q
   ·exact .inr (zB _ q)
noncomputable def gd (cells:List (Str×Addr)):List (Str×NameKind)->List (Str×Addr)->List (Str×Addr)
 | [],acc=>acc
 | (x,k)::r,acc=>if k == .free then gd cells r ((x,(cells.lookup x).getD 0)::acc) else gd cells r acc
theorem kc {env:Env}(f:Str×NameKind->List (Str×Addr)->Sem (ForInStep (List (Str×Addr))))
  (hf:∀ name kind cs,f (name,kind) cs=if kind == .free then (do let a <- cellOf env name;pure (.yield ((name,a)::cs))) else pure (.yield cs)) :
  ∀ (names:List (Str×NameKind)) (acc:List (Str×Addr)),(∀ y∈names,y.2=.free->∃ c,env.cells.lookup y.1=some c)->(forIn names acc f:Sem _)=pure (gd env.cells names acc)
 | [],acc,_=>by rw[List.forIn_nil];rfl
 | (x,k)::r,acc,h=>by
  rw[List.forIn_cons,hf];unfold gd;cases hk:k==NameKind.free with
  | false=>simp only[Bool.false_eq_true,if_false];exact kc f hf r acc fun y hy=>h y (zB _ hy)
  | true=>
   obtain⟨c,e⟩:=h (x,k) zD (by simpa using hk)
   have e:env.cells.lookup x=some c:=e;have e2:cellOf env x=pure c:=by unfold cellOf;rw[e]
   simp only[if_true];rw[e2,e];exact kc f hf r _ fun y hy=>h y (zB _ hy)
theorem pk {scope:Scope}{env:Env}(h:∀ y∈scope.names,y.2=.free->∃ c,env.cells.lookup y.1=some c):closureFor scope env=pure (gd env.cells scope.names []):=by
 simp only[closureFor];rw[kc (env:=env) _ (fun name kind cs=>by cases kind==NameKind.free<;>rfl) scope.names [] h]
 rfl
theorem mS {cells:List (Str×Addr)}:∀ {names:List (Str×NameKind)}{acc:List (Str×Addr)}{x:Str}{c:Addr},(x,c)∈gd cells names acc->(x,c)∈acc∨((x,NameKind.free)∈names/\c=(cells.lookup x).getD 0)
 | [],acc,x,c,h =>.inl h
 | (y,k)::r,acc,x,c,h=>by
  unfold gd at h
  split at h
  ·rename_i hk;rcases mS h with q|q
   ·rcases zG.mp q with e|q
    ·cases e;have:k=.free:=by simpa using hk
     subst this;exact .inr ⟨by simp,rfl⟩
    ·exact .inl q
   ·exact .inr ⟨zB _ q.1,q.2⟩
  ·rcases mS h with q|q
   ·exact .inl q
   ·exact .inr ⟨zB _ q.1,q.2⟩
theorem lw {cells:List (Str×Addr)}:∀ {names:List (Str×NameKind)}{acc:List (Str×Addr)}{x:Str},(∃ c,(x,c)∈acc)->∃ c,(x,c)∈gd cells names acc
 | [],acc,x,h=>h
 | (y,k)::r,acc,x,⟨c,h⟩=>by
  unfold gd
  split
  ·exact lw ⟨c,zB _ h⟩
  ·exact lw ⟨c,h⟩
theorem mT {cells:List (Str×Addr)}:∀ {names:List (Str×NameKind)}{acc:List (Str×Addr)}{x:Str},(x,NameKind.free)∈names->∃ c,(x,c)∈gd cells names acc
 | (y,k)::r,acc,x,h=>by
  unfold gd;rcases zG.mp h with e|h
  ·cases e;exact lw ⟨_,zD⟩
  ·split
   ·exact mT h
   ·exact mT h
theorem kS {α:Type}:∀ {l:List (Str×α)}{x:Str}{c:α},(x,c)∈l->∃ d,l.lookup x=some d
 | (y,v)::r,x,c,h=>by
  rw[List.lookup_cons];cases hb:x==y with
  | true=>exact⟨v,rfl⟩
  | false=>
   rcases zG.mp h with e|h
   ·cases e;simp at hb
   ·exact kS h
theorem jp {α:Type}:∀ {l r:List (Str×α)}{x:Str},(l++r).lookup x=(l.lookup x).or (r.lookup x)
 | [],r,x=>by simp
 | (y,v)::l,r,x=>by
  rw[List.cons_append,List.lookup_cons,List.lookup_cons];cases hb:x==y with
  | true=>rfl
  | false=>exact jp
theorem j7 {env:Env}:∀ {names:List (Str×NameKind)}{x:Str},(names.map fun (n,k)=>if (k==NameKind.free&&env.scope.kind == .function&&env.kindOf n==some .cell) then (n,NameKind.cell) else (n,k)).lookup x =
  (names.lookup x).map fun k=>if (k==NameKind.free&&env.scope.kind == .function&&env.kindOf x==some .cell) then NameKind.cell else k
 | [],_=>rfl
 | (n,k)::r,x=>by
  have ih :=@j7 env r x;show List.lookup x ((if (k==NameKind.free&&env.scope.kind == .function&&env.kindOf n==some .cell)=true then (n,NameKind.cell) else (n,k))::_)=_
  cases hx:x==n with
  | true=>
   have e:x=n:=by simpa using hx
   subst e;by_cases hc:(k==NameKind.free&&env.scope.kind == .function&&env.kindOf x==some .cell)=true
   ·rw[if_pos hc];simp only[List.lookup_cons,hx,zT,if_pos hc]
   ·rw[if_neg hc];simp only[List.lookup_cons,hx,zT,if_neg hc]
  | false=>
   by_cases hc:(k==NameKind.free&&env.scope.kind == .function&&env.kindOf n==some .cell)=true
   ·rw[if_pos hc];simp only[List.lookup_cons,hx];exact ih
   ·rw[if_neg hc];simp only[List.lookup_cons,hx];exact ih
end L2
end
noncomputable section
namespace L2
open PySem PySem.Spec PyProof.Rows
theorem i7 {a b:Nat}(h:a<b):a<b:=h
theorem qkY {a b:Nat}(h:a<=b):a<=b:=h
theorem oy {a b:Nat}(h:a=b):a=b:=h
noncomputable abbrev gD (X:Cx) (scope:Scope) (C:Addr):Env:=
 { scope:=relabel scope X.env,locals:=C,globals:=X.env.globals,cells:=cellsFrom (C+1) scope.names (gd X.env.cells scope.names []),qual:=X.env.qual,func:=none,code:=X.env.code,frame:=X.env.frame,builtins:=X.env.builtins }
noncomputable def Cx.blk (X:Cx) (N:List Str) (scope:Scope) (C:Addr) (s:Shared) (H:Hp) (ex:List Addr):Cx:=
 { X with N:=N,s₀:=s,H₀:=H,env:=gD X scope C,outer:=X.stack,stack:=X.stack,ex:=ex,fn:=fun x=>scope.names.lookup x==some .cell,pn:=[],xe:=fun _ _=>False }
noncomputable def iJ (src:List (Option Nat)) (σ:St):St:=src.map fun o=>match o with|some j=>(σ[j]?).getD none|none=>none
structure dC (X:Cx) (N:List Str) (src:List (Option Nat)) (scope:Scope):Prop where
 kind:scope.kind=.function
 uniq:∀ y∈scope.names,scope.names.lookup y.1=some y.2
 free:∀ y∈scope.names,y.2=.free->X.env.scope.names.lookup y.1=some .cell∨X.env.scope.names.lookup y.1=some .free
 len:src.length=N.length
 from_:∀ (i j:Nat) (x:Str),src[i]?=some (some j)->N[i]?=some x->X.N[j]?=some x/\scope.names.lookup x=some .free
noncomputable section
variable {X:Cx}{pins:List (Addr×Obj)}{σ:St}{H:Hp}{s s2:Shared}{N:List Str}{src:List (Option Nat)}{scope:Scope}
theorem qcB {E:Value->Shared->Prop}{M:Model}{A:Around}{cl:List (Str×Addr)}{Q:Env->Shared->Prop}
  (hQ:∀ h',(∀ b o,s.heap.get? b=some o->h'.get? b=some o)->h'.Ns s.heap.objs.size (fun _=>none)->CellsOk h' (s.heap.objs.size+1) (cellsFrom (s.heap.objs.size+1) scope.names []) ->
   Q { scope:=scope,locals:=s.heap.objs.size,globals:=X.env.globals,cells:=cellsFrom (s.heap.objs.size+1) scope.names cl,qual:=X.env.qual,func:=none,code:=X.env.code,frame:=X.env.frame,builtins:=X.env.builtins } { s with heap:=h' }) :
  wpAny M A (newFunctionEnv scope X.env.globals cl [] X.env.qual none .none (some X.env)) Q E s:=by
 simp only[newFunctionEnv,Option.isSome_some,if_true];refine zE (wpAny_alloc ?_);refine zE (wpAny_layCells _ (fun name kind cells=>by cases hkc:kind==NameKind.cell<;>simp[hkc]) _ _ _ _ ?_)
 have ok:=cellsFrom_ok scope.names (s.heap.push { cls :=.type "dict",data :=.dict #[] }) (s.heap.objs.size+1) [] ⟨fun _ _ hm=>(nomatch hm),List.Pairwise.nil⟩ (by rw[Heap.size_push];exact zL _)
 rw[Heap.size_push] at ok;rw[show ({ s with heap:=s.heap.push { cls :=.type "dict",data :=.dict #[] } }:Shared).heap.objs.size=s.heap.objs.size+1 from Heap.size_push ..]
 rw[List.forIn_nil];exact zE (zW (zW (hQ _ (fun b o e=>pushCells_keeps _ _ b o (zF _ e)) ((Heap.Ns.new s.heap (.type "dict")).keeps (pushCells_keeps _ _)) ok)))
theorem gA (S:dC X N src scope) (ok:X.Ok){C:Addr}{x:Str}{c:Addr}(h:(gD X scope C).cells.lookup x=some c) :
  (scope.names.lookup x=some .cell/\(x,c)∈cellsFrom (C+1) scope.names [])∨(scope.names.lookup x=some .free/\X.env.cells.lookup x=some c):=by
 have h:(cellsFrom (C+1) scope.names (gd X.env.cells scope.names [])).lookup x=some c:=h;rw[dO,jp] at h;cases e:(cellsFrom (C+1) scope.names []).lookup x with
 | some d=>
  rw[e] at h;have:d=c:=by simpa using h
  subst this;have q:=PySem.mem_of_lookup e;rcases f7 _ _ _ _ _ q with z|z
  ·simp at z
  ·exact .inl ⟨S.uniq _ z,q⟩
 | none=>
  rw[e] at h;have h:(gd X.env.cells scope.names []).lookup x=some c:=by simpa using h
  rcases mS (PySem.mem_of_lookup h) with z|⟨z,zc⟩
  ·simp at z
  ·obtain⟨d,hd⟩:=ok.has x (S.free _ z rfl);rw[hd] at zc;exact .inr ⟨S.uniq _ z,by rw[hd,zc];rfl⟩
theorem qig (S:dC X N src scope){C:Addr}{x:Str}(h:scope.names.lookup x=some .cell):∃ c,(gD X scope C).cells.lookup x=some c:=by
 obtain⟨c,e⟩:=oX (sc:=scope) (n:=C+1) h;refine⟨c,?_⟩;show (cellsFrom (C+1) scope.names (gd X.env.cells scope.names [])).lookup x=some c;rw[dO,jp,e];rfl
theorem qb2 (S:dC X N src scope) (ok:X.Ok){C:Addr}{x:Str}(h:scope.names.lookup x=some .free):∃ c,(gD X scope C).cells.lookup x=some c/\X.env.cells.lookup x=some c:=by
 have hm:=PySem.mem_of_lookup h;obtain⟨d,hd⟩:=mT (cells:=X.env.cells) (acc:=[]) hm;obtain⟨c,hc⟩:=kS hd;have e:(gD X scope C).cells.lookup x=some c:=by
  show (cellsFrom (C+1) scope.names (gd X.env.cells scope.names [])).lookup x=some c;rw[dO,jp];cases e:(cellsFrom (C+1) scope.names []).lookup x with
  | none=>simpa using hc
  | some d=>
   rcases f7 _ _ _ _ _ (PySem.mem_of_lookup e) with z|z
   ·simp at z
   ·have:=S.uniq _ z;rw[h] at this;cases this
 rcases gA S ok e with ⟨z,_⟩|⟨_,z⟩
 ·rw[h] at z;cases z
 ·exact⟨c,e,z⟩
theorem qb1 (x:Str){C:Addr}:(gD X scope C).kindOf x=(scope.names.lookup x).map fun k=>if (k==NameKind.free&&X.env.scope.kind == .function&&X.env.kindOf x==some .cell) then NameKind.cell else k:=by
 show (relabel scope X.env).names.lookup x=_;exact j7
theorem qbo {i:Nat}{v:V}(h:(iJ src σ)[i]?=some (some v)):∃ j,src[i]?=some (some j)/\σ[j]?=some (some v):=by
 unfold iJ at h;rw[zM] at h;cases e:src[i]? with
 | none=>rw[e] at h;cases h
 | some o=>
  rw[e] at h;cases o with
  | none=>cases h
  | some j=>
   refine⟨j,rfl,?_⟩;have h:(σ[j]?).getD none=some v:=by simpa using h
   cases q:σ[j]? with
   | none=>rw[q] at h;cases h
   | some z=>rw[q] at h;rw[show z=some v from h]
theorem qet {ex:List Addr}{h':Heap}{D C:Nat}{o:Obj}(S:dC X N src scope) (I:Inv X pins σ H s2) (hf:∀ b∈ex,qb6 X pins H b) (hob:∀ b∈ex,∃ o,s2.heap.get? b=some o)
  (hD:D=s2.heap.objs.size) (hC:C=s2.heap.objs.size+1) (hk:∀ b o,s2.heap.get? b=some o->h'.get? b=some o) (hDo:h'.get? D=some o) (hdo:∀ v,o.data ≠ .cell v)
  (hns:h'.Ns C (fun _=>none)) (hcs:CellsOk h' (C+1) (cellsFrom (C+1) scope.names [])) :
  Inv (X.blk N scope C s2 H ex) (X.pn++pins++[(D,o)]) (iJ src σ) H { s2 with heap:=h' }:=by
 have lt:∀ {b:Nat}{o:Obj},s2.heap.get? b=some o->b<s2.heap.objs.size:=fun e=>zJ e
 have fr:∀ a:Nat,s2.heap.objs.size<=a->H a=none:=fun a h=>I.hok.fresh h
 have cold:∀ (x:Str) (c:Nat),X.env.cells.lookup x=some c->c<s2.heap.objs.size:=fun x c e=>by obtain⟨v,z⟩:=I.cell x c e;exact z.lt
 have own:∀ {x:Str}{c:Nat},(x,c)∈cellsFrom (C+1) scope.names []->C+1<=c:=fun q=>(hcs.empty _ _ q).2
 refine⟨⟨I.mod,S.kind,I.ok.glob,I.ok.blt,?_,?_,?_,?_,I.ok.hd,I.ok.frames,.inl rfl,?_,I.bs,?_,?_,?_,I.stack,I.stkFree⟩,rfl,I.bare,Un.kept hk,⟨_,hns,?_⟩,?_,?_,?_,?_,I.hok.kept hk,?_⟩
 ·show s2.heap.objs.size<=C;omega
 ·intro x y c h1 h2;rcases gA S I.ok h1 with ⟨_,a⟩|⟨_,a⟩<;>rcases gA S I.ok h2 with ⟨_,b⟩|⟨_,b⟩
  ·exact name_of_addr hcs.apart a b
  ·have:C+1<=(c:Nat):=own a;have:=i7 (cold _ _ b);omega
  ·have:C+1<=(c:Nat):=own b;have:=i7 (cold _ _ a);omega
  ·exact I.ok.inj x y c a b
 ·intro x hx;have hx:(gD X scope C).kindOf x=some .cell∨(gD X scope C).kindOf x=some .free:=hx;rw[qb1] at hx;cases e:scope.names.lookup x with
  | none=>rw[e] at hx;rcases hx with z|z<;>cases z
  | some k=>
   cases k with
   | cell=>exact qig S e
   | free=>obtain⟨c,q,_⟩:=qb2 S I.ok e;exact⟨c,q⟩
   | _=>rw[e] at hx;exfalso;revert hx;simp
 ·intro x c hx h1;have hx:scope.names.lookup x=some .cell:=by have:(scope.names.lookup x==some .cell)=true:=hx;simpa using this
  show s2.heap.objs.size<=c;rcases gA S I.ok h1 with ⟨_,a⟩|⟨z,_⟩
  ·have:C+1<=(c:Nat):=own a;show s2.heap.objs.size<=(c:Nat);omega
  ·rw[hx] at z;cases z
 ·intro b hb;obtain⟨ob,e⟩:=hob b hb;have l:=i7 (lt e);refine⟨fun z =>?_,fun x c h1 z =>?_⟩
  ·have z:=oy (a:=b) (b:=C) z;omega
  ·subst z;rcases gA S I.ok h1 with ⟨_,a⟩|⟨_,a⟩
   ·have:C+1<=(c:Nat):=own a;omega
   ·exact(hf c hb).2.2.2.2.1 x c a rfl
 ·show X.base.objs.size<=s2.heap.objs.size;have:=I.ok.bsz;have:=I.sz;omega
 ·intro b ob e hb;rcases(hf b hb).2.2.2.1 with z|z
  ·exact I.ok.noex b ob e z
  ·have e:X.base.get? b=some ob:=e;have a:=i7 (zJ e);have:=I.ok.bsz;have z:X.s₀.heap.objs.size<=(b:Nat):=z;omega
 ·intro b hb;intro z;have z:b∈frs X.stack:=z;have:=I.stkSub b z;rcases zG.mp this with q|q
  ·exact(hf b hb).2.1 q
  ·exact(hf b hb).2.2.1 q
 ·intro i x v h1 h2 h3;obtain⟨j,e1,e2⟩:=qbo h2;obtain⟨e3,e4⟩:=S.from_ i j x e1 h1;obtain⟨m,hm,hl⟩:=I.loc;have kx:=S.free _ (PySem.mem_of_lookup e4) rfl;have vis:Vis X.env.scope x :=.inr kx;obtain⟨u,r,lk⟩:=hl j x v e3 e2 vis;refine⟨u,r,?_⟩;rcases lk with ⟨z,_⟩|⟨_,c,ec,cc⟩
  ·exfalso;have z:X.env.scope.names.lookup x=some .local:=z;rw[z] at kx;rcases kx with q|q<;>cases q
  ·obtain⟨c',q1,q2⟩:=qb2 (C:=C) S I.ok e4;rw[ec] at q2;cases q2;refine .inr ⟨?_,c,q1,cc.keeps hk⟩;show (gD X scope C).kindOf x=some .cell∨(gD X scope C).kindOf x=some .free;rw[qb1,e4,zT]
   split
   ·exact .inl rfl
   ·exact .inr rfl
 ·intro x c h1;rcases gA S I.ok h1 with ⟨_,a⟩|⟨_,a⟩
  ·exact⟨none,(hcs.empty _ _ a).1⟩
  ·obtain⟨v,z⟩:=I.cell x c a;exact⟨v,z.keeps hk⟩
 ·exact fr C (by omega)
 ·intro x c h1;rcases gA S I.ok h1 with ⟨_,a⟩|⟨_,a⟩
  ·have:C+1<=(c:Nat):=own a;exact fr c (by omega)
  ·exact I.freeC x c a
 ·intro p hp;have hp:p∈X.pn++pins++[(D,o)]:=by simpa [Cx.blk] using hp
  rcases zO.mp hp with q|q
  ·obtain⟨a1,a2,a3,a4,a5⟩:=I.pin p q;refine⟨hk _ _ a1,a2,fun z =>?_,fun z =>?_,a5⟩
   ·have z:=oy (a:=p.1) (b:=C) z;have q:=i7 (lt a1);omega
   ·have z:p.1∈frs X.stack:=z;rcases zG.mp (I.stkSub _ z) with q|q
    ·exact a3 q
    ·exact a4 q
  ·have:p=(D,o):=by simpa using q
   subst this;refine⟨hDo,fr D (by omega),fun z =>?_,fun z =>?_,hdo⟩
   ·have z:D=C:=z;omega
   ·have z:D∈frs X.stack:=z;rcases zG.mp (I.stkSub _ z) with q|q
    ·have l:=i7 I.lt;have q:=oy (a:=D) (b:=X.env.locals) q;omega
    ·exact I.nofs (show s2.heap.objs.size<=D by omega) q
 ·show (iJ src σ).length=N.length;unfold iJ;rw[zH];exact S.len
end
end L2
end
noncomputable section
namespace L2
open PySem PySem.Spec PyProof.Rows
noncomputable section
variable {prog:Program}{w:World}{A:Around}{R:Result->Shared->Prop}{s:Shared}
theorem qaZ {elt target iter:Expr}{ifs:List Expr}{scope:Scope}{pos:Pos}{it acc:Value}{env:Env}(I:Nat->Shared->Prop)
  (turn:∀ n s,I n s->wpAny (model prog w) A (pyNext it) (fun r s₁=>match r with
   | none=>R (.ok .next) s₁
   | some v=>wpAny (model prog w) A (letOwnedTupleGo target it v) (fun _ s₁'=>wpAny (model prog w) A (assign target env v) (fun _ s₂=>
     wpAny (model prog w) A (forIn ifs true fun c r=>if r=true then do let ok <- isTrue c env (eval c env);pure (ForInStep.yield ok) else pure (ForInStep.yield r)) (fun ok s₃=>
      if ok=true then wpAny (model prog w) A (eval elt env) (fun x s₄=>wpAny (model prog w) A (call (.builtin "list.append") [acc,x]) (fun _ s₅=>∃ m,m<n/\I m s₅) (fun _ _=>False) s₄) (fun _ _=>False) s₃
      else ∃ m,m<n/\I m s₃) (fun _ _=>False) s₂) (fun _ _=>False) s₁') (fun _ _=>False) s₁) (fun _ _=>False) s)
  (n:Nat) (h:I n s) :
  codeAny (model prog w) A (.compLoop (.ListComp elt [⟨target,iter,ifs,0⟩] scope pos) 0 it acc env) R s:=by
 refine codeAny_loop rfl I (fun n s hI =>?_) n h
 show wpAny _ A ((compTurn (.ListComp elt [⟨target,iter,ifs,0⟩] scope pos) 0 it acc env).onRaise (fun x=>do noteFrame x env;theTreesLotGoes x)) _ _ s
 refine wpAny_noted ?_;rw[compTurn_list];refine zE (wpAny_standAt (zE (wpAny_mono (turn n s hI) (fun r s₁ h₁ =>?_) fun _ _ h'=>h'.elim)))
 cases r with
 | none=>exact zW h₁
 | some v=>
  refine zE (wpAny_mono h₁ (fun _ s₁' h₁'=>zE (wpAny_mono h₁' (fun _ s₂ h₂=>zE (wpAny_mono h₂ (fun ok s₃ h₃ =>?_) fun _ _ h'=>h'.elim)) fun _ _ h'=>h'.elim)) fun _ _ h'=>h'.elim)
  cases ok with
  | false=>exact zW ⟨rfl,h₃⟩
  | true=>exact zE (zE (wpAny_mono h₃ (fun x s₄ h₄=>zE (wpAny_mono h₄ (fun _ s₅ h₅=>zW (zW ⟨rfl,h₅⟩)) fun _ _ h'=>h'.elim)) fun _ _ h'=>h'.elim))
end
noncomputable def GAg (own:List Nat) (g:TG):Prop:=∀ x σ H (Q:St->Hp->Prop),g x σ H Q->g x σ H fun σ2 H2=>(σ2.length=σ.length/\∀ i,i∉own->σ2[i]?=σ[i]?)/\Q σ2 H2
theorem jA (i:Nat):GAg [i] (jE i):=fun x σ H Q h=>⟨⟨by simp,fun j hj=>by
 have:i≠j:=fun e=>hj (by simp[e])
 rw[zK this]⟩,h⟩
noncomputable def PTs (X:Cx) (ifs:List Expr) (t:TT):Prop:=
 ∀ (pins:List (Addr×Obj)) (s:Shared) (σ:St) (H:Hp) (Q:Bool->Hp->Prop),Inv X pins σ H s->t σ H Q ->
  wpAny (model X.prog X.w) X.A (forIn ifs true fun c r=>if r=true then do let ok <- isTrue c X.env (eval c X.env);pure (ForInStep.yield ok) else pure (ForInStep.yield r)) (TP X pins σ Q) X.xe s
noncomputable def qkl:TT:=fun _ H Q=>Q true H
noncomputable section
variable {X:Cx}{c:Expr}{t:TT}
theorem qhd:PTs X [] qkl:=fun pins s σ H Q I h=>wpAny_tests_nil ⟨H,I,h⟩
end
noncomputable def tLc (wi:TI) (src:List (Option Nat)) (g:TG) (tt:TT) (te:TE):TE:=fun σ H Q=>wi σ H fun J H1=>∃ W:Nat->Nat->List V->Hp->Prop,(∃ m,W 0 m [] H1)/\∀ i m ys H,W i m ys H ->
 (J.stop i H/\∀ D,H D=none->Q (.ref D) (upd H D (.lst ys))) ∨
 (J.go i H/\ys.length<sizeLine/\∃ Nx:List V->Hp->Prop,(∀ ys' H',Nx ys' H'->∃ m',m'<m/\W (i+1) m' ys' H')/\∀ x H',J.yld i H x H' ->
  g x (iJ src σ) H' fun σ2 H2=>tt σ2 H2 fun b H3=>if b=true then te σ2 H3 fun v H4=>Nx (ys++[v]) H4 else Nx ys H3)
noncomputable section
variable {X:Cx}{N:List Str}{src:List (Option Nat)}{scope:Scope}{tg iter elt:Expr}{ifs:List Expr}{wi:TI}{g:TG}{tt:TT}{te:TE}{pos:Pos}{own:List Nat}
theorem pU {σ:St}{H:Hp}{s:Shared}{pins:List (Addr×Obj)}{Q:VK}{RR:Value->Addr->Result->Shared->Prop}(S:dC X N src scope) (hc:X.calm=true) (hi:PI X tg iter wi)
  (ag:GAg own g) (ho:∀ i∈own,src[i]?=some none)
  (hb:∀ C s H ex,PG (X.blk N scope C s H ex) tg g/\PTs (X.blk N scope C s H ex) ifs tt/\PE (X.blk N scope C s H ex) elt te)
  (I:Inv X pins σ H s) (h:tLc wi src g tt te σ H Q)
  (hRR:∀ (D C:Addr) (s':Shared) (H':Hp),Inv X pins σ H' s'->(∃ m,s'.heap.Ns C m)->H' C=none->C≠X.env.locals->(C∈X.ex∨X.s₀.heap.objs.size<=C)->(∀ x c,X.env.cells.lookup x=some c->c≠C)->(∀ p∈X.pn++pins,p.1≠C) ->
   Q (.ref D) H'->RR (.ref D) C (.ok .next) s') :
  wpAny (model X.prog X.w) X.A (eval iter X.env) (fun x s₁=>wpAny (model X.prog X.w) X.A (pyIter x) (fun it s₂=>wpAny (model X.prog X.w) X.A (newList []) (fun acc s₃=>
   wpAny (model X.prog X.w) X.A (newFunctionEnv scope X.env.globals (gd X.env.cells scope.names []) [] X.env.qual none .none (some X.env)) (fun cenv s₄=>
    codeAny (model X.prog X.w) X.A (.compStart (.ListComp elt [⟨tg,iter,ifs,0⟩] scope pos) 0 it acc { cenv with scope:=relabel scope X.env }) (RR acc cenv.locals) s₄) X.xe s₃) X.xe s₂) X.xe s₁) X.xe s:=by
 refine thn (hi pins s σ H _ I h) fun v s1 h1=>thn h1 fun itv s2 h2 =>?_
 obtain⟨it,fp,tn,J,H2,e,I2,T,st2,f2,W,⟨m0,w0⟩,turn⟩:=h2;subst e;refine wpAny_newObj_type ?_;generalize hs3:s2.heap.push { cls :=.type "list",dict:=none,data :=.seq ([]:List Value).toArray }=h3;have sz3:h3.objs.size=s2.heap.objs.size+1:=by rw[<- hs3,Heap.size_push]
 have k3:∀ b o,s2.heap.get? b=some o->h3.get? b=some o:=fun b o e=>hs3 ▸ zF _ e
 have d3:h3.get? s2.heap.objs.size=some (lW [] 0):=hs3 ▸ zV _ rfl;refine qcB (X:=X) (s:={ s2 with heap:=h3 }) fun h4 k4 ns4 cs4 =>?_
 rw[show ({ s2 with heap:=h3 }:Shared).heap.objs.size=s2.heap.objs.size+1 from sz3] at ns4 cs4 ⊢
 have k4':∀ b o,s2.heap.get? b=some o->h4.get? b=some o:=fun b o e=>k4 b o (k3 b o e)
 have fob:∀ b∈fp,∃ o,s2.heap.get? b=some o:=fun b hb=>by obtain⟨o,e,_⟩:=T.obj _ _ st2 b hb;exact⟨o,e⟩
 have I4:=qet (ex:=fp) (h':=h4) (D:=s2.heap.objs.size) (C:=s2.heap.objs.size+1) (o:=lW [] 0) S I2 f2 fob rfl rfl k4' (k4 _ _ d3) (fun v z=>by cases z) ns4 cs4
 have I4:Inv (X.blk N scope (s2.heap.objs.size+1) s2 H2 fp) (X.pn++pins++[(s2.heap.objs.size,lW [] 0)]) (iJ src σ) H2 { s2 with heap:=h4 }:=I4;generalize hX:X.blk N scope (s2.heap.objs.size+1) s2 H2 fp=X' at I4;obtain⟨pg,pt,pe⟩:=hb (s2.heap.objs.size+1) s2 H2 fp;rw[hX] at pg pt pe;have eprog:X'.prog=X.prog:=by rw[<- hX];rfl
 have ew:X'.w=X.w:=by rw[<- hX];rfl
 have eK:X'.K=X.K:=by rw[<- hX];rfl
 have eA:X'.A=X.A:=by rw[<- hX];rfl
 have ecalm:X'.calm=true:=by rw[<- hX];exact hc
 have exe:X'.xe=fun _ _=>False:=by rw[<- hX];rfl
 have eenv:X'.env=gD X scope (s2.heap.objs.size+1):=by rw[<- hX];rfl
 have epn:X'.pn=[]:=by rw[<- hX];rfl
 have es0:X'.s₀=s2:=by rw[<- hX];rfl
 have eH0:X'.H₀=H2:=by rw[<- hX];rfl
 have eex:X'.ex=fp:=by rw[<- hX];rfl
 have efs:X'.fs=frs X.stack:=by rw[<- hX];rfl
 have hCl:X'.env.locals=s2.heap.objs.size+1:=by rw[eenv]
 have hDC:s2.heap.objs.size≠X'.env.locals:=by rw[hCl];exact zR (Nat.lt_succ_self _)
 have hDF:s2.heap.objs.size∉X'.fs:=by
  rw[efs];intro z;rcases zG.mp (I2.stkSub _ z) with q|q
  ·exact absurd (oy q) (Nat.ne_of_gt (i7 I2.lt))
  ·exact I2.nofs (zL _) q
 have hpD:∀ p∈X'.pn++(X.pn++pins),p.1≠s2.heap.objs.size:=fun p hp=>by rw[epn,List.nil_append] at hp;exact zR (i7 (zJ (I2.pin p hp).1))
 have fpD:∀ b∈fp,b≠s2.heap.objs.size:=fun b hb=>by obtain⟨o,e⟩:=fob b hb;exact zR (i7 (zJ e))
 have stat:∀ {P':List (Addr×Obj)}{H':Hp},(∀ p∈P',p∈X.pn++pins∨p.1=s2.heap.objs.size)->(∀ b∈fp,H' b=none)->∀ b∈fp,qb6 X' P' H' b:=fun {P' H'} hP hn b hb=>by
  obtain⟨a1,a2,a3,a4,a5,a6⟩:=f2 b hb;obtain⟨o,e⟩:=fob b hb;have l:=i7 (zJ e);refine⟨hn b hb,?_,?_,.inl (by rw[eex];exact hb),fun x c q z =>?_,fun p hp z =>?_⟩
  ·rw[hCl];exact zR (Nat.lt_succ_of_lt l)
  ·rw[efs];intro z;rcases zG.mp (I2.stkSub b z) with q|q
   ·exact a2 q
   ·exact a3 q
  ·subst z;rw[eenv] at q;rcases gA S I2.ok q with ⟨_,r⟩|⟨_,r⟩
   ·have:=qkY (cs4.empty _ _ r).2;omega
   ·exact a5 x c r rfl
  ·rw[epn,List.nil_append] at hp;rcases hP p hp with q|q
   ·exact a6 p q z
   ·exact fpD b hb (z.symm.trans q)
 have loop:codeAny (model X.prog X.w) X.A (.compLoop (.ListComp elt [⟨tg,iter,ifs,0⟩] scope pos) 0 (.ref it) (.ref s2.heap.objs.size) (gD X scope (s2.heap.objs.size+1))) (RR (.ref s2.heap.objs.size) (s2.heap.objs.size+1)) { s2 with heap:=h4 }:=by
  refine qaZ (fun n s'=>∃ i ys its nn H',Inv X' (X.pn++pins++[(s2.heap.objs.size,lW its nn)]) (iJ src σ) H' s'/\bd ys its/\ys.length<=sizeLine/\tn i s'.heap/\(∀ b∈fp,H' b=none)/\W i n ys H') ?_ m0
   ⟨0,[],[],0,H2,I4,.nil,Nat.zero_le _,T.keep _ _ _ st2 (fun b _ o e=>k4' b o e),fun b hb=>(f2 b hb).1,w0⟩
  rintro n s5 ⟨i,ys,its,nn,H5,I5,r5,z5,st5,fr5,w5⟩;have pok:∀ p∈X.pn++pins++[(s2.heap.objs.size,lW its nn)],p∈X.pn++pins∨p.1=s2.heap.objs.size:=fun p hp=>by
   rcases zO.mp hp with q|q
   ·exact .inl q
   ·exact .inr (by rw[show p=(s2.heap.objs.size,lW its nn) by simpa using q])
  rcases turn i n ys H5 w5 with ⟨stop,qn⟩|⟨go,lt5,Nx,hN,step⟩
  ·have d:=T.done X' eprog ew eK ecalm i _ s5 (iJ src σ) H5 (fun _ _=>False) I5 (stat pok fr5) st5 stop
   rw[eA] at d;refine thn d fun r s6 hr6 =>?_
   obtain⟨hr,I6⟩:=hr6;subst hr;have I6':Inv X' (X.pn++pins) (iJ src σ) (upd H5 s2.heap.objs.size (.lst ys)) s6:=I6.track r5 z5 (by rw[es0];exact zL _) hpD
   have hD5:H5 s2.heap.objs.size=none:=(I6.pin (s2.heap.objs.size,lW its nn) (by simp)).2.1
   have Un6:=I6'.base;rw[efs,eex,eH0,es0] at Un6;have os6:=I6'.os;rw[es0] at os6;have hok6:=I6'.hok;rw[eprog,ew] at hok6;have J6:Inv X pins σ (upd H5 s2.heap.objs.size (.lst ys)) s6:=I2.call' os6 Un6 hok6 I6'.bare fun b hb=>⟨(f2 b hb).2.2.2.1,(f2 b hb).2.1,(f2 b hb).2.2.2.2.1,(f2 b hb).2.2.2.2.2⟩
   obtain⟨m,hm,_⟩:=I6'.loc;rw[hCl] at hm;have fC:=I6'.free;rw[hCl] at fC;refine hRR _ _ s6 _ J6 ⟨m,hm⟩ fC ?_ (.inr ?_) ?_ ?_ (qn _ hD5)
   ·exact fun z=>absurd (oy z) (Nat.ne_of_gt (Nat.lt_succ_of_lt (i7 I2.lt)))
   ·exact Nat.le_succ_of_le I2.sz
   ·intro x c q z;obtain⟨v,cc⟩:=I2.cell x c q;have:=i7 cc.lt;have z:=oy z;omega
   ·intro p hp z;have:=i7 (zJ (I2.pin p hp).1);have z:=oy z;omega
  ·have d:=T.item X' eprog ew eK ecalm i _ s5 (iJ src σ) H5 (fun _ _=>False) I5 (stat pok fr5) st5 go
   rw[eA] at d;refine thn d fun r s6 hr6 =>?_
   obtain⟨u,hr,h6⟩:=hr6;subst hr;refine thn h6 fun _ s7 h7 =>?_
   obtain⟨x,H7,I7,r7,y7,st7,fr7⟩:=h7;have I7':=I7.pinned (stat pok fr7) (T.obj _ _ st7);have g7:=pg _ s7 (iJ src σ) H7 x u _ I7' r7 (ag _ _ _ _ (step x H7 y7));rw[eA,exe,eprog,ew,eenv] at g7;refine thn g7 fun _ s8 h8 =>?_
   obtain⟨σ8,H8,I8,⟨l8,a8⟩,q8⟩:=h8;have t8:=pt _ s8 σ8 H8 _ I8 q8;rw[eA,exe,eprog,ew,eenv] at t8;refine thn t8 fun ok s9 h9 =>?_
   obtain⟨H9,I9,q9⟩:=h9;have weak:∀ {P':List (Addr×Obj)}{H':Hp}{s':Shared},Inv X' P' σ8 H' s'->Inv X' P' (iJ src σ) H' s':=fun J=>J.weak l8.symm fun j v hj=>by
    obtain⟨k,e1,_⟩:=qbo hj;have:j∉own:=fun z=>by have:=ho j z;rw[e1] at this;cases this
    rw[a8 j this];exact hj
   cases ok with
   | false=>
    have q9:Nx ys H9:=q9;obtain⟨m',hm',w9⟩:=hN _ _ q9;refine⟨m',hm',i+1,ys,its,nn,H9,(weak I9).unpinned,r5,z5,T.keep _ _ _ st7 fun b hb o e=>(I9.pin (b,o) (zQ _ (zQ _ (ik hb e)))).1,fun b hb =>?_,w9⟩
    obtain⟨o,e,d⟩:=T.obj _ _ st7 b hb;exact(I9.pin (b,o) (zQ _ (zQ _ (ik hb e)))).2.1
   | true=>
    have q9:te σ8 H9 fun v H4=>Nx (ys++[v]) H4:=q9
    have e9:=pe _ s9 σ8 H9 _ I9 q9;rw[eA,exe,eprog,ew,eenv] at e9;refine thn e9 fun xv s10 h10 =>?_
    obtain⟨y,H10,I10,r10,q10⟩:=h10;have J10:Inv X' (X.pn++pins++mC fp s7.heap++[(s2.heap.objs.size,lW its nn)]) σ8 H10 s10:=I10.pins_of fun p hp=>by
     refine I10.pin p ?_;rw[epn,List.nil_append];rcases zO.mp hp with q|q
     ·rcases zO.mp q with q|q
      ·exact zU _ (zU _ q)
      ·exact zQ _ q
     ·exact zU _ (zQ _ q)
    have nD:∀ p∈X'.pn++(X.pn++pins++mC fp s7.heap),p.1≠s2.heap.objs.size:=fun p hp=>by
     rw[epn,List.nil_append] at hp;rcases zO.mp hp with q|q
     ·exact hpD p (by rw[epn,List.nil_append];exact q)
     ·exact fpD _ (pI q).1
    have hD10:H10 s2.heap.objs.size=none:=(J10.pin (s2.heap.objs.size,lW its nn) (by simp)).2.1
    have T10:=J10.track r5 z5 (by rw[es0];exact zL _) nD
    have ap:=ko (X:=X') _ s10 σ8 _ (.ref s2.heap.objs.size) [y] (.ref s2.heap.objs.size) [xv] (fun v H'=>v=.non/\H'=upd (upd H10 s2.heap.objs.size (.lst ys)) s2.heap.objs.size (.lst (ys++[y]))) T10 rfl (.cons r10 .nil) ⟨_,ys,y,rfl,rfl,aB,lt5,rfl,rfl⟩
    rw[eA,exe,eprog,ew] at ap;refine thn ap fun _ s11 h11 =>?_
    obtain⟨v11,H11,I11,_,_,e11⟩:=h11;subst e11;rw[qc8] at I11;obtain⟨its',nn',r11,z11,I12⟩:=I11.untrack hD10 hDC hDF;obtain⟨m',hm',w11⟩:=hN _ _ q10;have I13:Inv X' (X.pn++pins++[(s2.heap.objs.size,lW its' nn')]) (iJ src σ) H10 s11:=(weak I12).pins_of fun p hp=>by
     refine I12.pin p ?_;rw[epn,List.nil_append];rcases zO.mp hp with q|q
     ·exact zU _ (zU _ q)
     ·exact zQ _ q
    have pinI:∀ b∈fp,∀ o,s7.heap.get? b=some o->s11.heap.get? b=some o/\H10 b=none:=fun b hb o e=>by
     have:=I12.pin (b,o) (by rw[epn,List.nil_append];exact zU _ (zQ _ (ik hb e)))
     exact⟨this.1,this.2.1⟩
    refine⟨m',hm',i+1,ys++[y],its',nn',H10,I13,r11,z11,T.keep _ _ _ st7 fun b hb o e=>(pinI b hb o e).1,fun b hb =>?_,w11⟩
    obtain⟨o,e,d⟩:=T.obj _ _ st7 b hb;exact(pinI b hb o e).2
 have st4:tn 0 h4:=T.keep _ _ _ st2 fun b _ o e=>k4' b o e
 exact codeAny_compStart_list loop (T.self _ 0 _ _ _ st4 loop)
end
end L2
end
noncomputable section
namespace L2
open PySem PySem.Spec PyProof.Rows
noncomputable section
variable {X:Cx}{N:List Str}{src:List (Option Nat)}{scope:Scope}{tg iter elt:Expr}{ifs:List Expr}{wi:TI}{g:TG}{tt:TT}{te:TE}{pos:Pos}{own:List Nat}
theorem qb3 {pins:List (Addr×Obj)}{σ:St}{H:Hp}{s:Shared}(S:dC X N src scope) (I:Inv X pins σ H s):closureFor scope X.env=pure (gd X.env.cells scope.names []):=
 pk fun y hy hk=>I.ok.has y.1 (S.free y hy hk)
theorem qiu (S:dC X N src scope) (hc:X.calm=true) (hi:PI X tg iter wi) (ag:GAg own g) (ho:∀ i∈own,src[i]?=some none)
  (hb:∀ C s H ex,PG (X.blk N scope C s H ex) tg g/\PTs (X.blk N scope C s H ex) ifs tt/\PE (X.blk N scope C s H ex) elt te)
  (hs:∀ x,foldedSetIterable iter X.env x=pure x:=by intro _;rfl):PE X (.ListComp elt [⟨tg,iter,ifs,0⟩] scope pos) (tLc wi src g tt te):=by
 intro pins s σ H Q I h;rw[eval_ListComp];refine wpAny_comprehension_free (use:=none) rfl hs (qb3 S I) S.kind (fun x hx hl=>by rw[S.uniq x hx,hl]) ?_
 refine pU (RR:=fun acc C=>compPost (model X.prog X.w) X.A X.xe none (EP X pins σ Q) acc C) S hc hi ag ho hb I h ?_
 intro D C s' H' J hm hn hL h1 h2 h3 q;obtain⟨m,hm⟩:=hm;exact⟨m,hm,fun h' hs'=>⟨.ref D,H',J.turned (h':=h') (t':=s'.toks) (fun b o hb e=>hs'.extBut b o hb e) hn hL h1 h2 h3,rfl,q⟩⟩
theorem qbv {i:Nat}{y:Str}{spos py:Pos}(S:dC X N src scope) (hc:X.calm=true) (hN:X.N.Nodup) (hy:X.N[i]?=some y) (hl:X.env.scope.names.lookup y=some .local) (hi:PI X tg iter wi) (ag:GAg own g) (ho:∀ i∈own,src[i]?=some none)
  (hb:∀ C s H ex,PG (X.blk N scope C s H ex) tg g/\PTs (X.blk N scope C s H ex) ifs tt/\PE (X.blk N scope C s H ex) elt te)
  (hsw:swapsWith (.ListComp elt [⟨tg,iter,ifs,0⟩] scope pos) (some (.Name y py)) spos.line X.env=pure true)
  (hs:∀ x,foldedSetIterable iter X.env x=pure x:=by intro _;rfl) :
  PS X (.Assign [.Name y py] (.ListComp elt [⟨tg,iter,ifs,0⟩] scope pos) spos) (qiP (tLc wi src g tt te) (jE i)):=by
 intro pins s σ H D I h;have h:tLc wi src g tt te σ H fun v H1=>D.nx (σ.set i (some v)) H1:=h
 rw[exec_Assign_Name_used _ _ _ _ hsw];refine zE (wpAny_standAt (zE ?_));show wpAny _ X.A (do let _ <- comprehension (.ListComp elt [⟨tg,iter,ifs,0⟩] scope pos) scope X.env _ (newList []) false (eval iter X.env) (some (assign (.Name y py) X.env))) _ _ s;refine zE (wpAny_mono (wpAny_comprehension_free (use:=some (assign (.Name y py) X.env)) (Q:=fun _ s'=>SP X pins D .next s') rfl hs (qb3 S I) S.kind (fun x hx hl=>by rw[S.uniq x hx,hl])
  (pU (RR:=fun acc C=>compPost (model X.prog X.w) X.A X.xe (some (assign (.Name y py) X.env)) (fun _ s'=>SP X pins D .next s') acc C) S hc hi ag ho hb I h ?_))
  (fun _ s' hq=>zW (zW hq)) fun _ _ e=>e)
 intro d C s' H' J hm hn hL h1 h2 h3 q;obtain⟨m,hm⟩:=hm;refine wpAny_assign_Name (pB J hN hy (.inl hl) (v :=.ref d) rfl (fun s'' J' hs'' =>?_) (.inr hl))
 obtain⟨a,sb,ha⟩:=hs'';have hCa:C≠a:=by
  rcases ha with z|z
  ·rw[z];exact hL
  ·exact fun e=>h2 _ _ z e.symm
 exact⟨m,hm.sameBut sb hCa,fun h' hs'=>⟨_,H',J'.turned (h':=h') (t':=s''.toks) (fun b o hb e=>hs'.extBut b o hb e) hn hL h1 h2 h3,q⟩⟩
end
end L2
end
noncomputable section
namespace L2
open PySem PySem.Spec PyProof.Rows
noncomputable section
variable {κ:Type} [DecidableEq κ]
noncomputable def jH (kvs:List (κ×V)) (k:κ):Option V:=(kvs.find? fun kv=>decide (kv.1=k)).map (·.2)
noncomputable def la (kvs:List (κ×V)) (k:κ) (v:V):List (κ×V):=
 if (kvs.any fun kv=>decide (kv.1=k))=true then kvs.map (fun kv=>if kv.1=k then (kv.1,v) else kv) else kvs++[(k,v)]
theorem jL {p:κ×V}{r:List (κ×V)}{k:κ}(e:p.1=k):jH (p::r) k=some p.2:=by simp[jH,List.find?_cons,e]
theorem hU {p:κ×V}{r:List (κ×V)}{k:κ}(e:¬ p.1=k):jH (p::r) k=jH r k:=by simp[jH,List.find?_cons,e]
theorem qbh (k:κ):∀ kvs:List (κ×V),(kvs.any fun kv=>decide (kv.1=k))=(jH kvs k).isSome
 | []=>rfl
 | p::r=>by
  rw[List.any_cons];by_cases e:p.1=k
  ·simp only[jL e,decide_eq_true e,Bool.true_or,Option.isSome_some]
  ·rw[hU e,decide_eq_false e,Bool.false_or];exact qbh k r
theorem qbL (kvs:List (κ×V)) (k:κ) (v:V):(la kvs k v).length<=kvs.length+1:=by
 unfold la
 split
 ·rw[zH];omega
 ·rw[List.length_append,zP,List.length_nil];omega
theorem qbu {kvs:List (κ×V)}{k:κ}(v:V) (h:jH kvs k=none):la kvs k v=kvs++[(k,v)]:=by
 unfold la;rw[qbh,h];exact if_neg (by decide)
theorem jf.isSome_eq {o:Option V}{u:Option Value}(r:jf o u):o.isSome=u.isSome:=by
 cases o with
 | none=>cases u with
  | none=>rfl
  | some _=>exact(show False from r).elim
 | some _=>cases u with
  | none=>exact(show False from r).elim
  | some _=>rfl
theorem jf.getD {o:Option V}{u:Option Value}{d:V}{d':Value}(r:jf o u) (rd:bx d d'):bx (o.getD d) (u.getD d'):=by
 cases o with
 | none=>cases u with
  | none=>exact rd
  | some _=>exact(show False from r).elim
 | some _=>cases u with
  | none=>exact(show False from r).elim
  | some _=>exact r
theorem KV.val {kvs:List (κ×V)}{vs:List (κ×Value)}(r:KV kvs vs) (k:κ):jf (jH kvs k) (valueAt vs k):=by
 unfold KV at r
 induction r with
 | nil=>exact True.intro
 | @cons p q ps qs h t ih=>
  obtain⟨h1,h2⟩:=h;by_cases e:p.1=k
  ·have e':q.1=k:=h1.symm.trans e;have b:valueAt (q::qs) k=some q.2:=by simp[valueAt,List.find?_cons,e']
   rw[jL e,b];exact h2
  ·have e':¬ q.1=k:=fun z=>e (h1.trans z)
   have b:valueAt (q::qs) k=valueAt qs k:=by simp[valueAt,List.find?_cons,e']
   rw[hU e,b];exact ih
theorem KV.any {kvs:List (κ×V)}{vs:List (κ×Value)}(r:KV kvs vs) (k:κ):(kvs.any fun kv=>decide (kv.1=k))=vs.any fun kv=>decide (kv.1=k):=by
 unfold KV at r
 induction r with
 | nil=>rfl
 | cons h t ih=>rw[List.any_cons,List.any_cons,ih,h.1]
theorem KV.repl {kvs:List (κ×V)}{vs:List (κ×Value)}(r:KV kvs vs) (k:κ){y:V}{u:Value}(ry:bx y u) :
  KV (kvs.map fun kv=>if kv.1=k then (kv.1,y) else kv) (vs.map fun kv=>if kv.1=k then (kv.1,u) else kv):=by
 unfold KV at r ⊢
 induction r with
 | nil=>exact .nil
 | @cons p q ps qs h t ih=>
  rw[List.map_cons,List.map_cons];refine .cons ?_ ih;obtain⟨h1,h2⟩:=h;by_cases e:p.1=k
  ·rw[if_pos e,if_pos (h1.symm.trans e)];exact⟨h1,ry⟩
  ·rw[if_neg e,if_neg (fun z=>e (h1.trans z))];exact⟨h1,h2⟩
theorem KV.put {kvs:List (κ×V)}{vs:List (κ×Value)}(r:KV kvs vs) (k:κ){y:V}{u:Value}(ry:bx y u):KV (la kvs k y) (stored vs k u):=by
 unfold la stored;rw[r.any k];by_cases e:(vs.any fun kv=>decide (kv.1=k))=true
 ·rw[if_pos e,if_pos e];exact r.repl k ry
 ·rw[if_neg e,if_neg e];exact Paired.snoc r ⟨rfl,ry⟩
theorem KV.keys {kvs:List (κ×V)}{vs:List (κ×Value)}(r:KV kvs vs):kvs.map (·.1)=vs.map (·.1):=by
 unfold KV at r
 induction r with
 | nil=>rfl
 | cons h t ih=>rw[List.map_cons,List.map_cons,ih,h.1]
end
theorem m9 {P:Program}{w:World}{k:Key}{u:Value}(r:bx (kV k) u):(bW P w).is k u=true:=by
 cases k with
 | inl i=>obtain⟨t,e⟩:=(show ∃ t,u=Value.int i t from r);subst e;exact qbH P w i t
 | inr x=>obtain⟨t,e⟩:=(show ∃ t,u=Value.str x t from r);subst e;exact qbG P w x t
theorem pP {P:Program}{w:World}:∀ {ks:List Key}{us:List Value},bd (ks.map kV) us->ItemsAre (bW P w) ks us
 | [],_,r=>by rw[List.map_nil] at r;cases r;exact .nil
 | k::ks,_,r=>by
  rw[List.map_cons] at r;cases r with
  | cons h t=>exact .cons (m9 h) (pP t)
noncomputable abbrev KT (H:Hp):List (List Key×V)->List (List Key×Addr×Value)->Prop:=Paired fun p q=>p.1=q.1/\H q.2.1=some (.tup (p.1.map kV))/\bx p.2 q.2.2
theorem KT.val {H:Hp}{kvs:List (List Key×V)}{xs:List (List Key×Addr×Value)}(r:KT H kvs xs) (k:List Key):jf (jH kvs k) ((atKey xs k).map (·.2)):=by
 induction r with
 | nil=>exact True.intro
 | @cons p q ps qs h t ih=>
  obtain⟨h1,_,h2⟩:=h;by_cases e:p.1=k
  ·have e':q.1=k:=h1.symm.trans e;have b:atKey (q::qs) k=some q.2:=by simp[atKey,List.find?_cons,e']
   rw[jL e,b];exact h2
  ·have e':¬ q.1=k:=fun z=>e (h1.trans z)
   have b:atKey (q::qs) k=atKey qs k:=by simp[atKey,List.find?_cons,e']
   rw[hU e,b];exact ih
theorem KT.keeps {H H':Hp}{kvs:List (List Key×V)}{xs:List (List Key×Addr×Value)}(r:KT H kvs xs) (ht:∀ b ys,H b=some (.tup ys)->H' b=some (.tup ys)):KT H' kvs xs:=
 Paired.mapP r fun _ _ z=>⟨z.1,ht _ _ z.2.1,z.2.2⟩
noncomputable section
variable {P:Program}{w:World}{H:Hp}{h:Heap}{a:Addr}
theorem qfc {u:HO}(ok:HOk P w H h) (e:Rd H a u):dg P w H h a u:=e.ok ok
theorem qgi {kvs:List (Key×V)}(ok:HOk P w H h) (e:Rd H a (.dK kvs)):kvs.length<=sizeLine/\(a==sysModules)=false/\∃ vs,KV kvs vs/\h.DictOf (bW P w) a vs:=
 show dg P w H h a (.dK kvs) from qfc ok e
theorem qlh {kvs:List (Key×V)}(ok:HOk P w H h) (e:H a=some (.dK kvs)):kvs.length<=sizeLine/\(a==sysModules)=false/\∃ vs,KV kvs vs/\h.DictOf (bW P w) a vs:=qgi ok (.inl e)
theorem qfZ {ks:List Key}(ok:HOk P w H h) (e:H a=some (.tup (ks.map kV))):(tupleKind (bW P w)).is h ks a:=by
 obtain⟨_,its,r,o,h1,h2,n,h3⟩:=(show dg P w H h a (.tup (ks.map kV)) from ok a _ e)
 exact⟨o,its.toArray,n,h1,h2,h3,by simpa using pP r⟩
theorem qiD {kvs:List (List Key×V)}(ok:HOk P w H h) (e:Rd H a (.dT kvs)):kvs.length<=sizeLine/\(a==sysModules)=false /\
  ∃ xs,KT H kvs xs/\h.DictOfH (tupleKind (bW P w)) a xs:=by
 obtain⟨z,y,xs,r,o,es,ep,h1,h2,h3,h4,h5⟩:=(show dg P w H h a (.dT kvs) from qfc ok e)
 refine⟨z,y,xs,r,o,es,ep,h1,h2,h3,h4,fun x hx =>?_,h5⟩
 have all:∀ {l:List (List Key×V)}{m:List (List Key×Addr×Value)},KT H l m->∀ x∈m,(tupleKind (bW P w)).is h x.1 x.2.1:=by
  intro l m q
  induction q with
  | nil=>intro x hx;exact nomatch hx
  | @cons p q ps qs hq t ih=>
   intro x hx;rcases zG.mp hx with e|hx
   ·subst e;exact qfZ ok (by rw[<- hq.1];exact hq.2.1)
   ·exact ih x hx
 exact all r x hx
end
noncomputable def qc5 (H:Hp) (a:Addr) (y:V) (r:Option V):Prop:=
 (∃ kvs k,Rd H a (.dK kvs)/\y=kV k/\r=jH kvs k)∨∃ kvs k b,Rd H a (.dT kvs)/\y=.ref b/\H b=some (.tup (k.map kV))/\r=jH kvs k
noncomputable def qly (H:Hp) (a:Addr) (y v:V) (H':Hp):Prop:=
 (∃ kvs k,H a=some (.dK kvs)/\y=kV k/\kvs.length<sizeLine/\H'=upd H a (.dK (la kvs k v))) ∨
 ∃ kvs k b,H a=some (.dT kvs)/\y=.ref b/\H b=some (.tup (k.map kV))/\kvs.length<sizeLine/\H'=upd H a (.dT (la kvs k v))
theorem qc5.k {H:Hp}{a:Addr}{kvs:List (Key×V)}{k:Key}(e:H a=some (.dK kvs)):qc5 H a (kV k) (jH kvs k) :=.inl ⟨kvs,k,.inl e,rfl,rfl⟩
theorem qc5.t {H:Hp}{a b:Addr}{kvs:List (List Key×V)}{k:List Key}(e:H a=some (.dT kvs)) (eb:H b=some (.tup (k.map kV))):qc5 H a (.ref b) (jH kvs k) :=.inr ⟨kvs,k,b,.inl e,rfl,eb,rfl⟩
theorem qly.t {H:Hp}{a b:Addr}{kvs:List (List Key×V)}{k:List Key}{v:V}(e:H a=some (.dT kvs)) (eb:H b=some (.tup (k.map kV))) (hl:kvs.length<sizeLine) :
  qly H a (.ref b) v (upd H a (.dT (la kvs k v))) :=.inr ⟨kvs,k,b,e,rfl,eb,hl,rfl⟩
noncomputable section
variable {X:Cx}{pins:List (Addr×Obj)}{σ:St}{H:Hp}{s:Shared}{a:Addr}{y v:V}{u r:Value}{o:Option V}{A:Around}{E:Value->Shared->Prop}
theorem Inv.big (I:Inv X pins σ H s):sysModules<s.heap.objs.size:=by
 have h:mainGlobals<s.heap.objs.size:=(I.mod.glob.keeps I.bk).lt;exact Nat.lt_trans (by decide) h
theorem qid {h':Heap}{t':Nat}{ob:HO}(I:Inv X pins σ H s) (mu:Mut (H a)) (hs:Heap.SameBut a s.heap h') (he:∃ q,h'.get? a=some q) (new:dg X.prog X.w (upd H a ob) h' a ob) :
  Inv X pins σ (upd H a ob) { s with heap:=h',toks:=t' }:=
 I.write (x:=a) (e:=a) mu (.inl rfl) (fun b q hb z=>(hs.2 b hb).trans z) he new
theorem qjS {P:Program}{w:World}{H':Hp}{h':Heap}{kvs:List (Key×V)}{vs:List (Key×Value)}(z:kvs.length<=sizeLine) (hd:(a==sysModules)=false) (rel:KV kvs vs) (dd:h'.DictOf (bW P w) a vs) :
  dg P w H' h' a (.dK kvs):=⟨z,hd,vs,rel,dd⟩
end
noncomputable section
variable {X:Cx}{pins:List (Addr×Obj)}{σ:St}{H:Hp}{s:Shared}{a:Addr}{kvs:List (Key×V)}{k:Key}{u:Value}{A:Around}{E:Value->Shared->Prop}
end
noncomputable def qil (i:Expr):Prop:=∀ ov iv,subscripted i false ov iv=operate [ov,iv] (getItem ov iv)
theorem qgU {prog:Program}{w:World}{A:Around}{E:Value->Shared->Prop}{s:Shared}{env:Env}{value slice:Expr}{pos:Pos}{T id:String}{Q:Value->Shared->Prop}
  (hl:typeLookup (.type T) "__getitem__" = pure (some (.builtin id))) (hs:qil slice)
  (h:wpAny (model prog w) A (eval value env) (fun o s₁=>wpAny (model prog w) A (eval slice env) (fun i s₂=>s₂.TypeIs o T/\wpAny (model prog w) A (getItem o i) Q E s₂) E s₁) E s) :
  wpAny (model prog w) A (eval (.Subscript value slice pos) env) Q E s:=by
 refine Subscript_ (wpAny_mono h (fun o s₁ h₁=>wpAny_mono h₁ (fun i s₂ h₂ =>?_) fun _ _ x=>x) fun _ _ x=>x)
 obtain⟨hT,h₂⟩:=h₂;unfold subscriptTail;refine zE ?_;rw[getitemInPython_of_ne hT.not_modules];refine zE (wpAny_specialOf hT hl ?_);have fin:wpAny (model prog w) A (subscripted slice false o i) (fun r s₃=>wpAny (model prog w) A (letTemporaryGo value o r >>= fun _=>pure r) Q E s₃) E s₂:=by rw[hs o i];exact wpAny_operating (wpAny_mono h₂ (fun r s₃ h₃=>zE (wpAny_letTemporaryGo (zW h₃))) fun _ _ x=>x)
 first
  | exact zW (zE fin)
  | exact zE (zW (zE fin))
  | exact zE fin
noncomputable section
variable {X:Cx}{o i e value:Expr}{pos pos' tpos:Pos}{td ty tv:TE}
end
theorem qgj {P:Program}{w:World}{H:Hp}(h:Heap) (hb:sysModules<h.objs.size):dg P w H (h.push { cls :=.type "dict",data :=.dict #[] }) h.objs.size (.dK []):=
 ⟨Nat.zero_le _,beq_eq_false_iff_ne.mpr (Ne.symm (zR hb)),[],.nil,Heap.DictOf.new h⟩
noncomputable section
variable {X:Cx}{pos:Pos}
end
noncomputable def qcg:List (TE×TE)->St->Hp->(List (V×V)->Hp->Prop)->Prop
 | [],_,H,Q=>Q [] H
 | (tk,tv)::r,σ,H,Q=>tk σ H fun x H1=>tv σ H1 fun y H2=>qcg r σ H2 fun ps H3=>Q ((x,y)::ps) H3
noncomputable abbrev VV:List (V×V)->List (Value×Value)->Prop:=Paired fun p q=>bx p.1 q.1/\bx p.2 q.2
noncomputable def PPs (X:Cx) (pos:Pos) (keys:List (Option Expr)) (values:List Expr) (trs:List (TE×TE)):Prop:=
 ∀ (pins:List (Addr×Obj)) (s:Shared) (σ:St) (H:Hp) (Q:List (V×V)->Hp->Prop),Inv X pins σ H s->qcg trs σ H Q ->
  wpAny (model X.prog X.w) X.A (evalPairs (pairTrees keys values X.env pos)) (fun vs s'=>∃ ps H',Inv X pins σ H' s'/\VV ps vs/\Q ps H') X.xe s
theorem qhg {X:Cx}{pos:Pos}:PPs X pos [] [] []:=fun pins s σ H Q I h=>pairTrees_nil_walk ⟨[],H,I,.nil,h⟩
theorem qbw {X:Cx}{pos:Pos}{k v:Expr}{ks:List (Option Expr)}{vs:List Expr}{tk tv:TE}{trs:List (TE×TE)}(hk:PE X k tk) (hv:PE X v tv) (hr:PPs X pos ks vs trs) :
  PPs X pos (some k::ks) (v::vs) ((tk,tv)::trs):=fun pins s σ H Q I h=>
 pairTrees_cons_walk (thn (hk pins s σ H _ I h) fun u s1 ⟨x,H1,I1,rx,q1⟩=>thn (hv pins s1 σ H1 _ I1 q1) fun w2 s2 ⟨y,H2,I2,ry,q2⟩=>thn (hr pins s2 σ H2 _ I2 q2) fun ws s3 ⟨ps,H3,I3,rel,q3⟩=>⟨(x,y)::ps,H3,I3,.cons ⟨rx,ry⟩ rel,q3⟩)
noncomputable def mF (kvs more:List (Key×V)):List (Key×V):=more.foldl (fun acc kv=>la acc kv.1 kv.2) kvs
theorem KV.merge:∀ {more:List (Key×V)}{rs:List (Key×Value)}{kvs:List (Key×V)}{vs:List (Key×Value)},KV more rs->KV kvs vs->KV (mF kvs more) (merged vs rs):=by
 intro more rs kvs vs r;unfold KV at r
 induction r generalizing kvs vs with
 | nil=>intro q;exact q
 | @cons p q ps qs h t ih=>
  intro r0;have e:KV (la kvs p.1 p.2) (stored vs q.1 q.2):=by have:=r0.put p.1 h.2;rw[<- h.1];exact this
  exact ih e
theorem kT:∀ (more kvs:List (Key×V)),(mF kvs more).length<=kvs.length+more.length
 | [],kvs=>by show kvs.length<=kvs.length+0;omega
 | p::r,kvs=>by have h1:=kT r (la kvs p.1 p.2);have h2:=qbL kvs p.1 p.2;show (mF (la kvs p.1 p.2) r).length<=_;rw[zP];omega
theorem oY {P:Program}{w:World}:∀ {kvs:List (Key×V)}{ws:List (Value×Value)},VV (kvs.map fun kv=>(kV kv.1,kv.2)) ws->∃ rs,Carries (bW P w) ws rs/\KV kvs rs
 | [],_,r=>by rw[List.map_nil] at r;cases r;exact⟨[],True.intro,.nil⟩
 | p::kvs,_,r=>by
  rw[List.map_cons] at r;cases r with
  | @cons a b as bs h t=>obtain⟨rs,c,q⟩:=oY (P:=P) (w:=w) t;obtain⟨b1,b2⟩:=b;exact⟨(p.1,b2)::rs,⟨m9 h.1,rfl,c⟩,.cons ⟨rfl,h.2⟩ q⟩
noncomputable def qks (trs:List (TE×TE)):TE:=fun σ H Q=>∀ p,H p=none->qcg trs σ (upd H p (.dK [])) fun ps H2=>H2 p=some (.dK [])/\∃ kvs:List (Key×V),ps=kvs.map (fun kv=>(kV kv.1,kv.2))/\kvs.length<=15/\Q (.ref p) (upd H2 p (.dK (mF [] kvs)))
theorem qhn {X:Cx}{pos:Pos}{keys:List (Option Expr)}{values:List Expr}{trs:List (TE×TE)}(h:PPs X pos keys values trs) (hall:keys.all (·.isSome)=true) (hl:keys.length=values.length) (h0:keys≠[])
  (h15:keys.length<=15):PE X (.Dict keys values pos) (qks trs):=by
 intro pins s σ H Q I q;have hn:=I.hok.fresh (zL s.heap.objs.size);have I1:=I.laid (a:=s.heap.objs.size) (o :=.dK []) (h':=s.heap.push { cls :=.type "dict",data :=.dict #[] }) (t':=s.toks) (fun _ _ q=>zF _ q) (zL _) (qgj s.heap I.big)
 refine wpAny_Dict_walk (knd:=bW X.prog X.w) hall hl h0 h15 (thn (h pins _ σ _ _ I1 (q _ hn)) fun ws s2 ⟨ps,H2,I2,rel,e,kvs,ep,lk,q2⟩ =>?_)
 subst ep;obtain⟨rs,c,rk⟩:=oY (P:=X.prog) (w:=X.w) rel;obtain⟨z,hd,vs0,r0,dd⟩:=qlh I2.hok e;cases r0;refine⟨rs,c,dd,fun h' dd' hs=>⟨.ref s.heap.objs.size,_,?_,rfl,q2⟩⟩
 have hz:(mF [] kvs).length<=sizeLine:=by have h1:=kT kvs [];rw[List.length_nil] at h1;rw[sizeLine_eq];omega
 have he:∃ q,h'.get? s.heap.objs.size=some q:=let ⟨q,_,_,hq,_⟩:=dd';⟨q,hq⟩;exact qid I2 (by rw[e];exact True.intro) hs he (qjS hz hd (rk.merge .nil) dd')
structure M2 (X:Cx) (o:Expr) (m:Str) (apos:Pos) (e f:Expr) (cpos:Pos):Prop where
 base:attributeBase o m X.env (eval o X.env)=eval o X.env
 few:((backTo cpos (starEach [e,f] X.env)).all (fun x=> !x.1)&&(backToKw cpos (keywordEach [] X.env)).all (fun x=>x.1.isSome)
  && decide (([e,f]:List Expr).length+([]:List Keyword).length+(if ([]:List Keyword).isEmpty then 0 else 1)<30))=true
 line:(apos.endLine==cpos.line)=true
 trees:backTo cpos (starEach [e,f] X.env)=[(false,eval e X.env),(false,eval f X.env)]
noncomputable def IsD (H:Hp) (a:Addr):Prop:=(∃ kvs,Rd H a (.dK kvs))∨∃ kvs,Rd H a (.dT kvs)
theorem qjG {X:Cx}{pins:List (Addr×Obj)}{σ:St}{H:Hp}{s:Shared}{a:Addr}(I:Inv X pins σ H s) (d:IsD H a) :
  s.TypeIs (.ref a) "dict" /\(∀ b,Value.ref a=.ref b->∃ ob,s.heap.get? b=some ob/\ob.dict=none)/\(a==sysModules)=false:=by
 rcases d with ⟨kvs,e⟩|⟨kvs,e⟩
 ·obtain⟨_,hd,vs,_,dd⟩:=qgi I.hok e;refine⟨dd.typeIs,fun b q =>?_,hd⟩
  cases q;obtain⟨ob,_,_,h1,h2,_⟩:=dd;exact⟨ob,h1,h2.2.1⟩
 ·obtain⟨_,hd,xs,_,dd⟩:=qiD I.hok e;refine⟨dd.typeIs,fun b q =>?_,hd⟩
  cases q;obtain⟨ob,_,_,h1,h2,_⟩:=dd;exact⟨ob,h1,h2.2.1⟩
noncomputable section
variable {X:Cx}{pins:List (Addr×Obj)}{σ:St}{H:Hp}{s:Shared}{a:Addr}{y d:V}{u r:Value}{o:Option V}{A:Around}{E:Value->Shared->Prop}
theorem qjX {Q:Value->Shared->Prop}(hu:A.units+1<cLine) (I:Inv X pins σ H s) (g:qc5 H a y o) (ry:bx y u) (rd:bx d r) (h:∀ w' s',Inv X pins σ H s'->bx (o.getD d) w'->Q w' s') :
  wpAny (model X.prog X.w) A (call (.builtin "dict.get") [.ref a,u,r]) Q E s:=by
 rcases g with ⟨kvs,k,e,ey,l⟩|⟨kvs,k,b,e,ey,eb,l⟩
 ·subst ey;obtain⟨z,hd,vs,rel,dd⟩:=qgi I.hok e;refine call_meetsIn PySem.F.slot_dict_get dd.typeIs PySem.F.entry_dict_get (PySem.F.args_dict_get_3 _ _ _) (meets_dict_get_default (bW X.prog X.w) a (m9 ry) hd r) ⟨_,dd.mapOf,h _ _ (I.tok _) ?_⟩;rw[l];exact(rel.val k).getD rd
 ·subst ey;cases (show u=Value.ref b from ry)
  obtain⟨z,hd,xs,rel,dd⟩:=qiD I.hok e;refine call_meetsIn PySem.F.slot_dict_get dd.typeIs PySem.F.entry_dict_get (PySem.F.args_dict_get_3 _ _ _) (meetsH_dict_get_default (tupleKind (bW X.prog X.w)) a b hd r) ⟨tupleKind_room_in1 hu,k,xs,qfZ I.hok eb,dd,h _ _ (I.tok _) ?_⟩;rw[l];exact(rel.val k).getD rd
end
noncomputable def qiO (td ty tx:TE):TE:=fun σ H Q=>td σ H fun x H1=>∃ a,x=.ref a/\IsD H1 a/\ty σ H1 fun y H2=>tx σ H2 fun z H3=>∃ o,qc5 H3 a y o/\Q (o.getD z) H3
noncomputable section
variable {X:Cx}{o e f:Expr}{apos cpos:Pos}{td ty tx:TE}
theorem qfp (hu:X.A.units+1<cLine) (ho:PE X o td) (he:PE X e ty) (hf:PE X f tx) (m:M2 X o "get" apos e f cpos):PE X (.Call (.Attribute o "get" apos) [e,f] [] cpos) (qiO td ty tx):=by
 intro pins s σ H Q I h;refine wpAny_Call_method m.base m.few m.line PySem.F.plainAttrs_dict PySem.F.slot_dict_get PySem.F.type_dict_get (thn (ho pins s σ H _ I h) fun u s1 ⟨x,H1,I1,rx,a,ex,d,q1⟩ =>?_)
 subst ex;obtain rfl:u=Value.ref a:=rx;obtain⟨t1,t2,_⟩:=qjG I1 d;refine⟨t1,t2,?_⟩;rw[m.trees];refine Calls.callWith_builtin rfl (Calls.evalArgs_plain (Calls.spliced_cons (thn (he pins s1 σ H1 _ I1 q1) fun iv s2 ⟨y,H2,I2,ry,q2⟩=>Calls.spliced_cons (thn (hf pins s2 σ H2 _ I2 q2) fun fv s3 ⟨z,H3,I3,rz,ov,g,q3⟩=>Calls.spliced_nil ?_))))
 exact qjX hu I3 g ry rz fun w' s4 I4 rw'=>⟨_,H3,I4,rw',q3⟩
end
noncomputable section
variable {X:Cx}{pins:List (Addr×Obj)}{σ:St}{H:Hp}{s:Shared}{a:Addr}{kvs:List (Key×V)}{A:Around}{E:Value->Shared->Prop}
end
noncomputable section
variable {X:Cx}{pins:List (Addr×Obj)}{σ:St}{H:Hp}{s:Shared}{a:Addr}{y:V}{u:Value}{A:Around}{E:Value->Shared->Prop}
end
end L2
end
noncomputable section
namespace L2
open PySem PySem.Spec PyProof.Rows
inductive D where
 | non|bl (b:Bool)|int (i:Int)|str (x:Str)|lst (xs:List D)|tup (xs:List D)|scr (ns:List Int)
 | ins (c:Str) (ks:List Str) (ds:List D)
 | dic (ks:List Key) (ds:List D)
mutual
noncomputable def Rep (K:Frag) (G:Hp):D->V->Prop
 | .non,v=>v=.non
 | .bl b,v=>v=.bl b
 | .int i,v=>v=.int i
 | .str x,v=>v=.str x
 | .lst ds,v=>∃ a vs,v=.ref a/\G a=some (.lst vs)/\aI K G ds vs
 | .tup ds,v=>∃ a vs,v=.ref a/\G a=some (.tup vs)/\aI K G ds vs
 | .scr ns,v=>∃ a,v=.ref a/\SqL K G a (ns.map V.int)
 | .ins c ks ds,v=>∃ a C dx vs,v=.ref a/\nsIn K mainGlobals c=some (some (.ref C))/\G a=some (.ins C dx (ks.zip vs))/\ks.length=ds.length/\aI K G ds vs
 | .dic ks ds,v=>∃ a vs,v=.ref a/\G a=some (.dK (ks.zip vs))/\ks.length=ds.length/\aI K G ds vs
noncomputable def aI (K:Frag) (G:Hp):List D->List V->Prop
 | [],vs=>vs=[]
 | d::ds,vs=>∃ v r,vs=v::r/\Rep K G d v/\aI K G ds r
end
mutual
theorem Rep.mono {K:Frag}{G G':Hp}(s:aZ G G'):∀ (d:D){v:V},Rep K G d v->Rep K G' d v
 | .non,v,h=>by simpa only [Rep] using h
 | .bl _,v,h=>by simpa only [Rep] using h
 | .int _,v,h=>by simpa only [Rep] using h
 | .str _,v,h=>by simpa only [Rep] using h
 | .lst ds,v,h=>by simp only[Rep] at h ⊢;obtain⟨a,vs,e,q,r⟩:=h;exact⟨a,vs,e,s _ _ q,aI.mono s ds r⟩
 | .tup ds,v,h=>by simp only[Rep] at h ⊢;obtain⟨a,vs,e,q,r⟩:=h;exact⟨a,vs,e,s _ _ q,aI.mono s ds r⟩
 | .scr ns,v,h=>by simp only[Rep] at h ⊢;obtain⟨a,e,q⟩:=h;exact⟨a,e,s.seq q⟩
 | .ins c ks ds,v,h=>by simp only[Rep] at h ⊢;obtain⟨a,C,dx,vs,e,n,q,l,r⟩:=h;exact⟨a,C,dx,vs,e,n,s _ _ q,l,aI.mono s ds r⟩
 | .dic ks ds,v,h=>by simp only[Rep] at h ⊢;obtain⟨a,vs,e,q,l,r⟩:=h;exact⟨a,vs,e,s _ _ q,l,aI.mono s ds r⟩
theorem aI.mono {K:Frag}{G G':Hp}(s:aZ G G'):∀ (ds:List D){vs:List V},aI K G ds vs->aI K G' ds vs
 | [],vs,h=>by simpa only [aI] using h
 | d::ds,vs,h=>by simp only[aI] at h ⊢;obtain⟨v,r,e,q,t⟩:=h;exact⟨v,r,e,Rep.mono s d q,aI.mono s ds t⟩
end
noncomputable section
variable {K:Frag}{G:Hp}
theorem dr {v:V}:Rep K G .non v↔v=.non:=by simp only[Rep]
theorem bz {b:Bool}{v:V}:Rep K G (.bl b) v↔v=.bl b:=by simp only[Rep]
theorem bh {i:Int}{v:V}:Rep K G (.int i) v↔v=.int i:=by simp only[Rep]
theorem bG {x:Str}{v:V}:Rep K G (.str x) v↔v=.str x:=by simp only[Rep]
theorem cp {ds:List D}{v:V}:Rep K G (.lst ds) v↔∃ a vs,v=.ref a/\G a=some (.lst vs)/\aI K G ds vs:=by simp only[Rep]
theorem dm {ds:List D}{v:V}:Rep K G (.tup ds) v↔∃ a vs,v=.ref a/\G a=some (.tup vs)/\aI K G ds vs:=by simp only[Rep]
theorem qdj {ns:List Int}{v:V}:Rep K G (.scr ns) v↔∃ a,v=.ref a/\SqL K G a (ns.map V.int):=by simp only[Rep]
theorem qas {c:Str}{ks:List Str}{ds:List D}{v:V}:Rep K G (.ins c ks ds) v↔∃ a C dx vs,v=.ref a/\nsIn K mainGlobals c=some (some (.ref C))/\G a=some (.ins C dx (ks.zip vs))/\ks.length=ds.length/\aI K G ds vs:=by simp only[Rep]
theorem nH {ks:List Key}{ds:List D}{v:V}:Rep K G (.dic ks ds) v↔∃ a vs,v=.ref a/\G a=some (.dK (ks.zip vs))/\ks.length=ds.length/\aI K G ds vs:=by simp only[Rep]
theorem c6 {vs:List V}:aI K G [] vs↔vs=[]:=by simp only[aI]
theorem be {d:D}{ds:List D}{vs:List V}:aI K G (d::ds) vs↔∃ v r,vs=v::r/\Rep K G d v/\aI K G ds r:=by simp only[aI]
theorem aI.cons {d:D}{ds:List D}{v:V}{vs:List V}(h:Rep K G d v) (t:aI K G ds vs):aI K G (d::ds) (v::vs):=be.mpr ⟨v,vs,rfl,h,t⟩
theorem aI.nil:aI K G [] []:=c6.mpr rfl
theorem aI.length:∀ {ds:List D}{vs:List V},aI K G ds vs->ds.length=vs.length
 | [],vs,h=>by rw[c6.mp h];rfl
 | d::ds,vs,h=>by obtain⟨v,r,rfl,_,t⟩:=be.mp h;simp[aI.length t]
theorem aI.get:∀ {ds:List D}{vs:List V}{i:Nat}{d:D},aI K G ds vs->ds[i]?=some d->∃ v,vs[i]?=some v/\Rep K G d v
 | [],vs,i,d,h,e=>by simp at e
 | c::ds,vs,0,d,h,e=>by obtain⟨v,r,rfl,q,t⟩:=be.mp h;simp at e;subst e;exact⟨v,rfl,q⟩
 | c::ds,vs,i+1,d,h,e=>by
  obtain⟨v,r,rfl,q,t⟩:=be.mp h;obtain⟨u,h1,h2⟩:=aI.get (i:=i) t (by simpa using e)
  exact⟨u,by simpa using h1,h2⟩
theorem aI.append:∀ {ds es:List D}{vs us:List V},aI K G ds vs->aI K G es us->aI K G (ds++es) (vs++us)
 | [],es,vs,us,h,k=>by rw[c6.mp h];exact k
 | d::ds,es,vs,us,h,k=>by obtain⟨v,r,rfl,q,t⟩:=be.mp h;exact .cons q (aI.append t k)
theorem aI.take:∀ {ds:List D}{vs:List V}(n:Nat),aI K G ds vs->aI K G (ds.take n) (vs.take n)
 | [],vs,n,h=>by rw[c6.mp h];simp;exact .nil
 | d::ds,vs,0,h=>by simp;exact .nil
 | d::ds,vs,n+1,h=>by obtain⟨v,r,rfl,q,t⟩:=be.mp h;exact .cons q (aI.take n t)
theorem aI.drop:∀ {ds:List D}{vs:List V}(n:Nat),aI K G ds vs->aI K G (ds.drop n) (vs.drop n)
 | [],vs,n,h=>by rw[c6.mp h];simp;exact .nil
 | d::ds,vs,0,h=>by simpa using h
 | d::ds,vs,n+1,h=>by obtain⟨v,r,rfl,q,t⟩:=be.mp h;exact aI.drop n t
theorem aI.set:∀ {ds:List D}{vs:List V}{d:D}{v:V}(n:Nat),aI K G ds vs->Rep K G d v->aI K G (ds.set n d) (vs.set n v)
 | [],vs,d,v,n,h,q=>by rw[c6.mp h];simp;exact .nil
 | c::ds,vs,d,v,0,h,q=>by obtain⟨u,r,rfl,_,t⟩:=be.mp h;exact .cons q t
 | c::ds,vs,d,v,n+1,h,q=>by obtain⟨u,r,rfl,p,t⟩:=be.mp h;exact .cons p (aI.set n t q)
theorem aI.dropLast {ds:List D}{vs:List V}(h:aI K G ds vs):aI K G ds.dropLast vs.dropLast:=by
 rw[List.dropLast_eq_take,List.dropLast_eq_take,h.length];exact h.take _
theorem aI.rep {ds:List D}{vs:List V}(h:aI K G ds vs):∀ k:Nat,aI K G (List.replicate k ds).flatten (List.replicate k vs).flatten
 | 0 =>.nil
 | k+1=>by rw[List.replicate_succ,List.replicate_succ,List.flatten_cons,List.flatten_cons];exact h.append (aI.rep h k)
theorem aI.ints:∀ (ns:List Int),aI K G (ns.map D.int) (ns.map V.int)
 | [] =>.nil
 | n::ns =>.cons (bh.mpr rfl) (aI.ints ns)
end
structure Ext (G H G' H':Hp):Prop where
 hh:aZ H H'
 gg:aZ G G'
 gh:aZ G' H'
 fr:∀ b o,G' b=some o->G b=some o∨H b=none
theorem Ext.refl {G H:Hp}(s:aZ G H):Ext G H G H:=⟨aZ.refl _,aZ.refl _,s,fun _ _ e =>.inl e⟩
theorem Ext.trans {G H G1 H1 G2 H2:Hp}(a:Ext G H G1 H1) (b:Ext G1 H1 G2 H2):Ext G H G2 H2:=
 ⟨a.hh.trans b.hh,a.gg.trans b.gg,b.gh,fun c o e=>by
  rcases b.fr c o e with q|q
  ·exact a.fr c o q
  ·exact .inr (a.hh.free q)⟩
theorem aZ.alloc {H:Hp}{p:Addr}{o:HO}(h:H p=none):aZ H (upd H p o):=fun b u e=>by rw[aJ (ba e h)];exact e
theorem aZ.both {G H:Hp}{p:Addr}{o:HO}(s:aZ G H):aZ (upd G p o) (upd H p o):=fun b u e=>by
 by_cases hb:b=p
 ·subst hb;rw[aB] at e ⊢;exact e
 ·rw[aJ hb] at e ⊢;exact s _ _ e
theorem Ext.alloc {G H:Hp}{p:Addr}{o:HO}(s:aZ G H) (h:H p=none):Ext G H (upd G p o) (upd H p o):=
 ⟨.alloc h,.alloc (s.free h),s.both,fun b u e=>by
  by_cases hb:b=p
  ·subst hb;exact .inr h
  ·rw[aJ hb] at e;exact .inl e⟩
theorem Ext.lay {G H:Hp}{p:Addr}{o:HO}(s:aZ G H) (h:H p=none):Ext G H G (upd H p o):=
 ⟨.alloc h,aZ.refl _,s.trans (.alloc h),fun _ _ e =>.inl e⟩
theorem Ext.freeze {G H G' H':Hp}{p:Addr}{o:HO}(E:Ext G H G' H') (h:H p=none) (g:G' p=none) (e:H' p=some o):Ext G H (upd G' p o) H':=
 ⟨E.hh,E.gg.trans (.alloc g),fun b u q=>by
  by_cases hb:b=p
  ·subst hb;rw[aB] at q;cases q;exact e
  ·rw[aJ hb] at q;exact E.gh _ _ q,fun b u q=>by
  by_cases hb:b=p
  ·subst hb;exact .inr h
  ·rw[aJ hb] at q;exact E.fr _ _ q⟩
noncomputable def jK (K:Frag) (G:Hp):D->HO->Prop
 | .lst ds,o=>∃ vs,o=.lst vs/\aI K G ds vs
 | .ins c ks ds,o=>∃ C dx vs,o=.ins C dx (ks.zip vs)/\nsIn K mainGlobals c=some (some (.ref C))/\ks.length=ds.length/\aI K G ds vs
 | .dic ks ds,o=>∃ vs,o=.dK (ks.zip vs)/\ks.length=ds.length/\aI K G ds vs
 | _,_=>False
noncomputable section
variable {K:Frag}{G G':Hp}
theorem jK.mono (s:aZ G G'){d:D}{o:HO}(h:jK K G d o):jK K G' d o:=by
 cases d with
 | lst ds=>obtain⟨vs,e,r⟩:=h;exact⟨vs,e,aI.mono s ds r⟩
 | ins c ks ds=>obtain⟨C,dx,vs,e,n,l,r⟩:=h;exact⟨C,dx,vs,e,n,l,aI.mono s ds r⟩
 | dic ks ds=>obtain⟨vs,e,l,r⟩:=h;exact⟨vs,e,l,aI.mono s ds r⟩
 | _=>exact h.elim
theorem jK.rep {d:D}{o:HO}{a:Addr}(h:jK K G d o) (e:G a=some o):Rep K G d (.ref a):=by
 cases d with
 | lst ds=>obtain⟨vs,rfl,r⟩:=h;exact cp.mpr ⟨a,vs,rfl,e,r⟩
 | ins c ks ds=>obtain⟨C,dx,vs,rfl,n,l,r⟩:=h;exact qas.mpr ⟨a,C,dx,vs,rfl,n,e,l,r⟩
 | dic ks ds=>obtain⟨vs,rfl,l,r⟩:=h;exact nH.mpr ⟨a,vs,rfl,e,l,r⟩
 | _=>exact h.elim
end
noncomputable def eN (K:Frag) (G H:Hp) (d:D) (v:V):Prop:=Rep K G d v∨∃ a o,v=.ref a/\H a=some o/\jK K G d o
noncomputable section
variable {K:Frag}{G H G' H':Hp}
theorem eN.ext {d:D}{v:V}(r:eN K G H d v) (E:Ext G H G' H'):eN K G' H' d v:=by
 rcases r with r|⟨a,o,e1,e2,e3⟩
 ·exact .inl (Rep.mono E.gg d r)
 ·exact .inr ⟨a,o,e1,E.hh _ _ e2,e3.mono E.gg⟩
theorem eN.non {v:V}(r:eN K G H .non v):v=.non:=by
 rcases r with r|⟨a,o,_,_,e⟩
 ·exact dr.mp r
 ·exact e.elim
theorem eN.bl {b:Bool}{v:V}(r:eN K G H (.bl b) v):v=.bl b:=by
 rcases r with r|⟨a,o,_,_,e⟩
 ·exact bz.mp r
 ·exact e.elim
theorem eN.int {i:Int}{v:V}(r:eN K G H (.int i) v):v=.int i:=by
 rcases r with r|⟨a,o,_,_,e⟩
 ·exact bh.mp r
 ·exact e.elim
theorem eN.str {x:Str}{v:V}(r:eN K G H (.str x) v):v=.str x:=by
 rcases r with r|⟨a,o,_,_,e⟩
 ·exact bG.mp r
 ·exact e.elim
theorem eN.lst {ds:List D}{v:V}(s:aZ G H) (r:eN K G H (.lst ds) v):∃ a vs,v=.ref a/\H a=some (.lst vs)/\aI K G ds vs:=by
 rcases r with r|⟨a,o,e1,e2,vs,rfl,e4⟩
 ·obtain⟨a,vs,e,q,t⟩:=cp.mp r;exact⟨a,vs,e,s _ _ q,t⟩
 ·exact⟨a,vs,e1,e2,e4⟩
theorem eN.tup {ds:List D}{v:V}(s:aZ G H) (r:eN K G H (.tup ds) v):∃ a vs,v=.ref a/\H a=some (.tup vs)/\aI K G ds vs:=by
 rcases r with r|⟨a,o,_,_,e⟩
 ·obtain⟨a,vs,e,q,t⟩:=dm.mp r;exact⟨a,vs,e,s _ _ q,t⟩
 ·exact e.elim
theorem eN.scr {ns:List Int}{v:V}(s:aZ G H) (r:eN K G H (.scr ns) v):∃ a,v=.ref a/\SqL K H a (ns.map V.int):=by
 rcases r with r|⟨a,o,_,_,e⟩
 ·obtain⟨a,e,q⟩:=qdj.mp r;exact⟨a,e,s.seq q⟩
 ·exact e.elim
theorem eN.insH {c:Str}{ks:List Str}{ds:List D}{v:V}(s:aZ G H) (r:eN K G H (.ins c ks ds) v):∃ a C dx vs,v=.ref a/\H a=some (.ins C dx (ks.zip vs))/\nsIn K mainGlobals c=some (some (.ref C))/\ks.length=ds.length/\aI K G ds vs:=by
 rcases r with r|⟨a,o,e1,e2,C,dx,vs,rfl,n,l,e4⟩
 ·obtain⟨a,C,dx,vs,e,n,q,l,t⟩:=qas.mp r;exact⟨a,C,dx,vs,e,s _ _ q,n,l,t⟩
 ·exact⟨a,C,dx,vs,e1,e2,n,l,e4⟩
theorem eN.dicH {ks:List Key}{ds:List D}{v:V}(s:aZ G H) (r:eN K G H (.dic ks ds) v):∃ a vs,v=.ref a/\H a=some (.dK (ks.zip vs))/\ks.length=ds.length/\aI K G ds vs:=by
 rcases r with r|⟨a,o,e1,e2,vs,rfl,l,e4⟩
 ·obtain⟨a,vs,e,q,l,t⟩:=nH.mp r;exact⟨a,vs,e,s _ _ q,l,t⟩
 ·exact⟨a,vs,e1,e2,l,e4⟩
theorem eN.ins {c:Str}{ks:List Str}{ds:List D}{v:V}(r:eN K G H (.ins c ks ds) v):∃ a,v=.ref a:=by
 rcases r with r|⟨a,o,e1,_⟩
 ·obtain⟨a,C,dx,vs,e,_⟩:=qas.mp r;exact⟨a,e⟩
 ·exact⟨a,e1⟩
theorem eN.dic {ks:List Key}{ds:List D}{v:V}(r:eN K G H (.dic ks ds) v):∃ a,v=.ref a:=by
 rcases r with r|⟨a,o,e1,_⟩
 ·obtain⟨a,vs,e,_⟩:=nH.mp r;exact⟨a,e⟩
 ·exact⟨a,e1⟩
theorem eN.all {d:D}{v:V}(s:aZ G H) (r:eN K G H d v):Rep K H d v:=by
 rcases r with r|⟨a,o,e1,e2,e3⟩
 ·exact Rep.mono s d r
 ·subst e1;exact(e3.mono s).rep e2
end
noncomputable abbrev aA:=List (Option D)
noncomputable abbrev DF:=aA->Option D
noncomputable abbrev DT:=aA->Option Bool
noncomputable abbrev DL:=aA->Option (List D)
structure i3 (K:Frag) (own:List Nat) (G H:Hp) (σ:St) (ρ:aA):Prop where
 len:σ.length=ρ.length
 get:∀ (i:Nat) (d:D),ρ[i]?=some (some d)->∃ v,σ[i]?=some (some v)/\(if i∈own then eN K G H d v else Rep K G d v)
theorem i3.ext {K:Frag}{own:List Nat}{G H G' H':Hp}{σ:St}{ρ:aA}(h:i3 K own G H σ ρ) (E:Ext G H G' H'):i3 K own G' H' σ ρ:=⟨h.len,fun i d e=>by
 obtain⟨v,q,r⟩:=h.get i d e;refine⟨v,q,?_⟩;by_cases hi:i∈own
 ·rw[if_pos hi] at r ⊢;exact r.ext E
 ·rw[if_neg hi] at r ⊢;exact Rep.mono E.gg d r⟩
noncomputable def tP (K:Frag) (own:List Nat) (f:DF):TE:=fun σ H Q=>∃ G ρ d,aZ G H/\i3 K own G H σ ρ/\f ρ=some d/\∀ v G' H',Ext G H G' H'->Rep K G' d v->Q v H'
noncomputable def tQ (K:Frag) (own:List Nat) (f:DF):TE:=fun σ H Q=>∃ G ρ d,aZ G H/\i3 K own G H σ ρ/\f ρ=some d/\∀ v G' H',Ext G H G' H'->eN K G' H' d v->Q v H'
noncomputable def tF (K:Frag) (own:List Nat) (f:DL):TE:=fun σ H Q=>∃ G ρ ds,aZ G H/\i3 K own G H σ ρ/\f ρ=some ds/\∀ p vs G' H',Ext G H G' H'->H p=none->G' p=none->H' p=some (.lst vs)->aI K G' ds vs->Q (.ref p) H'
noncomputable def tPT (K:Frag) (own:List Nat) (f:DT):TT:=fun σ H Q=>∃ G ρ b,aZ G H/\i3 K own G H σ ρ/\f ρ=some b/\∀ G' H',Ext G H G' H'->Q b H'
noncomputable def tPA (K:Frag) (own:List Nat) (f:DL):TA:=fun σ H Q=>∃ G ρ ds,aZ G H/\i3 K own G H σ ρ/\f ρ=some ds/\∀ vs G' H',Ext G H G' H'->aI K G' ds vs->Q vs H'
noncomputable def nj (K:Frag) (G H:Hp):List D->List V->Prop:=Paired (eN K G H)
noncomputable def tQA (K:Frag) (own:List Nat) (f:DL):TA:=fun σ H Q=>∃ G ρ ds,aZ G H/\i3 K own G H σ ρ/\f ρ=some ds/\∀ vs G' H',Ext G H G' H'->nj K G' H' ds vs->Q vs H'
noncomputable section
variable {X:Cx}
theorem PE.imp {e:Expr}{t t':TE}(h:PE X e t) (k:∀ σ H Q,t' σ H Q->t σ H Q):PE X e t':=fun pins s σ H Q I q=>h pins s σ H Q I (k _ _ _ q)
theorem PT.imp {e:Expr}{t t':TT}(h:PT X e t) (k:∀ σ H Q,t' σ H Q->t σ H Q):PT X e t':=fun pins s σ H Q I q=>h pins s σ H Q I (k _ _ _ q)
theorem PW.imp {e:Expr}{t t':TT}(h:PW X e t) (k:∀ σ H Q,t' σ H Q->t σ H Q):PW X e t':=fun w pins s σ H Q I q=>h w pins s σ H Q I (k _ _ _ q)
theorem PA.imp {e:List Expr}{t t':TA}(h:PA X e t) (k:∀ σ H Q,t' σ H Q->t σ H Q):PA X e t':=fun pos pins s σ H Q I q=>h pos pins s σ H Q I (k _ _ _ q)
theorem PS.imp {e:Stmt}{t t':TS}(h:PS X e t) (k:∀ D σ H,t' D σ H->t D σ H):PS X e t':=fun pins s σ H D I q=>h pins s σ H D I (k _ _ _ q)
theorem PSs.imp {e:List Stmt}{t t':TS}(h:PSs X e t) (k:∀ D σ H,t' D σ H->t D σ H):PSs X e t':=fun pins s σ H D I q=>h pins s σ H D I (k _ _ _ q)
theorem OpR.imp {f:Value->Value->Sem Value}{r r':R2}(h:OpR X f r) (k:∀ x y H Q,r' x y H Q->r x y H Q):OpR X f r':=fun pins s σ H x y v u Q I rx ry q=>h pins s σ H x y v u Q I rx ry (k _ _ _ _ q)
variable {own:List Nat}{e:Expr}
theorem dq {f:DF}(h:PE X e (tP X.K own f)):PE X e (tQ X.K own f):=h.imp fun σ H Q ⟨G,ρ,d,gh,env,eq,k⟩=>⟨G,ρ,d,gh,env,eq,fun v G' H' E r=>k v G' H' E (.inl r)⟩
noncomputable def eF (f:DL):DF:=fun ρ=>(f ρ).map D.lst
theorem df {f:DL}(h:PE X e (tF X.K own f)):PE X e (tP X.K own (eF f)):=h.imp fun σ H Q ⟨G,ρ,d,gh,env,eq,k⟩=>by
 cases hf:f ρ with
 | none=>simp[eF,hf] at eq
 | some ds=>
  have:d=.lst ds:=by simpa [eF,hf] using eq.symm
  subst this;refine⟨G,ρ,ds,gh,env,hf,fun p vs G' H' E hp gp hv r=>k _ (upd G' p (.lst vs)) H' (E.freeze hp gp hv) ?_⟩
  exact cp.mpr ⟨p,vs,rfl,aB,aI.mono (.alloc gp) ds r⟩
noncomputable def eV (i:Nat):DF:=fun ρ=>(ρ[i]?).join
noncomputable def eK (d:D):DF:=fun _=>some d
theorem iD {i:Nat}{ρ:aA}{d:D}(h:eV i ρ=some d):ρ[i]?=some (some d):=by
 unfold eV at h;cases e:ρ[i]? with
 | none=>rw[e] at h;cases h
 | some o=>rw[e] at h;cases o with
  | none=>cases h
  | some c=>rw[show c=d from zZ h]
theorem dv {i:Nat}{x:Str}{pos:Pos}(h:PE X (.Name x pos) (i4 i)) (hi:i∉own:=by decide):PE X (.Name x pos) (tP X.K own (eV i)):=h.imp fun σ H Q ⟨G,ρ,d,gh,env,eq,k⟩=>by
 obtain⟨v,q,r⟩:=env.get i d (iD eq);rw[if_neg hi] at r;exact⟨v,q,k v G H (.refl gh) r⟩
theorem dvo {i:Nat}{x:Str}{pos:Pos}(h:PE X (.Name x pos) (i4 i)) (hi:i∈own:=by decide):PE X (.Name x pos) (tQ X.K own (eV i)):=h.imp fun σ H Q ⟨G,ρ,d,gh,env,eq,k⟩=>by
 obtain⟨v,q,r⟩:=env.get i d (iD eq);rw[if_pos hi] at r;exact⟨v,q,k v G H (.refl gh) r⟩
theorem ah {i j pos}:PE X (.Constant (.int i) j pos) (tP X.K own (eK (.int i))):=qi8.imp fun σ H Q ⟨G,ρ,d,gh,env,eq,k⟩=>by
 cases eq;exact k _ G H (.refl gh) (bh.mpr rfl)
theorem qbY {b j pos}:PE X (.Constant (.bool b) j pos) (tP X.K own (eK (.bl b))):=qkM.imp fun σ H Q ⟨G,ρ,d,gh,env,eq,k⟩=>by
 cases eq;exact k _ G H (.refl gh) (bz.mpr rfl)
theorem cZ {j pos}:PE X (.Constant .none j pos) (tP X.K own (eK .non)):=qcr.imp fun σ H Q ⟨G,ρ,d,gh,env,eq,k⟩=>by
 cases eq;exact k _ G H (.refl gh) (dr.mpr rfl)
theorem ai {x j pos}:PE X (.Constant (.str x) j pos) (tP X.K own (eK (.str x))):=mD.imp fun σ H Q ⟨G,ρ,d,gh,env,eq,k⟩=>by
 cases eq;exact k _ G H (.refl gh) (bG.mpr rfl)
noncomputable def aN:DL:=fun _=>some []
noncomputable def aC (f:DF) (g:DL):DL:=fun ρ=>(f ρ).bind fun x=>(g ρ).bind fun xs=>some (x::xs)
theorem qdP {f:DF}{g:DL}{ρ:aA}{ds:List D}(h:aC f g ρ=some ds):∃ x xs,f ρ=some x/\g ρ=some xs/\ds=x::xs:=by
 unfold aC at h;cases ef:f ρ with
 | none=>rw[ef] at h;cases h
 | some x=>
  rw[ef] at h;cases eg:g ρ with
  | none=>rw[eg] at h;cases h
  | some xs=>rw[eg] at h;exact⟨x,xs,rfl,rfl,(zZ h).symm⟩
variable {es:List Expr}
theorem ak:PA X [] (tPA X.K own aN):=eD.imp fun σ H Q ⟨G,ρ,d,gh,env,eq,k⟩=>by
 cases eq;exact k _ G H (.refl gh) .nil
theorem ac {f:DF}{g:DL}(h:PE X e (tP X.K own f)) (t:PA X es (tPA X.K own g)) (hs:starEach (e::es) X.env=(false,eval e X.env)::starEach es X.env:=by rfl):PA X (e::es) (tPA X.K own (aC f g)):=
 (cz h t hs).imp fun σ H Q ⟨G,ρ,d,gh,env,eq,k⟩=>by obtain⟨x,xs,ex,exs,rfl⟩:=qdP eq;refine⟨G,ρ,x,gh,env,ex,fun v G1 H1 E1 r1=>⟨G1,ρ,xs,E1.gh,env.ext E1,exs,fun vs G2 H2 E2 r2=>k _ G2 H2 (E1.trans E2) (.cons (Rep.mono E2.gg x r1) r2)⟩⟩
theorem qaX:PA X [] (tQA X.K own aN):=eD.imp fun σ H Q ⟨G,ρ,d,gh,env,eq,k⟩=>by
 cases eq;exact k _ G H (.refl gh) .nil
theorem oQ {f:DF}{g:DL}(h:PE X e (tQ X.K own f)) (t:PA X es (tQA X.K own g)) (hs:starEach (e::es) X.env=(false,eval e X.env)::starEach es X.env:=by rfl):PA X (e::es) (tQA X.K own (aC f g)):=
 (cz h t hs).imp fun σ H Q ⟨G,ρ,d,gh,env,eq,k⟩=>by obtain⟨x,xs,ex,exs,rfl⟩:=qdP eq;refine⟨G,ρ,x,gh,env,ex,fun v G1 H1 E1 r1=>⟨G1,ρ,xs,E1.gh,env.ext E1,exs,fun vs G2 H2 E2 r2=>k _ G2 H2 (E1.trans E2) (.cons (r1.ext E2) r2)⟩⟩
noncomputable def bA (g:DL):DF:=fun ρ=>(g ρ).bind fun xs=>if xs.length<=1000 then some (.tup xs) else none
theorem j8:1000<=sizeLine:=by rw[sizeLine_eq];decide
theorem bg {x1 pos} {g:DL}(h:PA X es (tPA X.K own g)):PE X (.Tuple es x1 pos) (tP X.K own (bA g)):=(qcq h).imp fun σ H Q ⟨G,ρ,d,gh,env,eq,k⟩=>by
 unfold bA at eq;cases eg:g ρ with
 | none=>rw[eg] at eq;cases eq
 | some xs=>
  rw[eg] at eq;have eq:(if xs.length<=1000 then some (D.tup xs) else none)=some d:=eq
  split at eq
  ·cases eq;rename_i hz;refine⟨G,ρ,xs,gh,env,eg,fun vs G1 H1 E1 r1=>⟨?_,fun p hp=>k _ _ _ (E1.trans (Ext.alloc (p:=p) (o :=.tup vs) E1.gh hp)) ?_⟩⟩
   ·rw[<- r1.length];exact yA hz j8
   ·exact dm.mpr ⟨p,vs,rfl,aB,aI.mono (.alloc (E1.gh.free hp)) xs r1⟩
  ·cases eq
noncomputable def bj (g:DL):DL:=fun ρ=>(g ρ).bind fun xs=>if xs.length<=1000 then some xs else none
theorem bQ {pos} {g:DL}(h:PA X es (tPA X.K own g)):PE X (.List es pos) (tF X.K own (bj g)):=(qav h).imp fun σ H Q ⟨G,ρ,ds,gh,env,eq,k⟩=>by
 unfold bj at eq;cases eg:g ρ with
 | none=>rw[eg] at eq;cases eq
 | some xs=>
  rw[eg] at eq;have eq:(if xs.length<=1000 then some xs else none)=some ds:=eq
  split at eq
  ·cases eq;rename_i hz;refine⟨G,ρ,ds,gh,env,eg,fun vs G1 H1 E1 r1=>⟨?_,fun p hp=>k p vs G1 _ (E1.trans (Ext.lay (p:=p) (o :=.lst vs) E1.gh hp)) (E1.hh.free hp) (E1.gh.free hp) aB r1⟩⟩
   rw[<- r1.length];exact yA hz j8
  ·cases eq
noncomputable def e2 (o:D->D->Option D) (a b:DF):DF:=fun ρ=>(a ρ).bind fun x=>(b ρ).bind fun y=>o x y
theorem qdH {o:D->D->Option D}{a b:DF}{ρ:aA}{d:D}(h:e2 o a b ρ=some d):∃ x y,a ρ=some x/\b ρ=some y/\o x y=some d:=by
 unfold e2 at h;cases ea:a ρ with
 | none=>rw[ea] at h;cases h
 | some x=>
  rw[ea] at h;cases eb:b ρ with
  | none=>rw[eb] at h;cases h
  | some y=>rw[eb] at h;exact⟨x,y,rfl,rfl,h⟩
noncomputable def rD (K:Frag) (o:D->D->Option D):R2:=fun x y H Q=>∃ G d1 d2 d,aZ G H/\eN K G H d1 x/\eN K G H d2 y/\o d1 d2=some d/\∀ v G' H',Ext G H G' H'->Rep K G' d v->Q v H'
noncomputable def OpD (X:Cx) (f:Value->Value->Sem Value) (o:D->D->Option D):Prop:=OpR X f (rD X.K o)
theorem qdk {K:Frag}{own:List Nat}{o:D->D->Option D}{fa fb:DF}{σ:St}{H:Hp}{Q:VK}(h:tP K own (e2 o fa fb) σ H Q):tOp (rD K o) (tQ K own fa) (tQ K own fb) σ H Q:=by
 obtain⟨G,ρ,d,gh,env,eq,k⟩:=h;obtain⟨x,y,ex,ey,eo⟩:=qdH eq;exact⟨G,ρ,x,gh,env,ex,fun v G1 H1 E1 r1=>⟨G1,ρ,y,E1.gh,env.ext E1,ey,fun u G2 H2 E2 r2=>⟨G2,x,y,d,E2.gh,r1.ext E2,r2,eo,fun w G3 H3 E3 r3=>k w G3 H3 ((E1.trans E2).trans E3) r3⟩⟩⟩
variable {a b:Expr}{fa fb:DF}{pos:Pos}
theorem ao {op:Operator}{o:D->D->Option D}(ho:OpD X (binaryOp op) o) (ha:PE X a (tQ X.K own fa)) (hb:PE X b (tQ X.K own fb)):PE X (.BinOp a op b pos) (tP X.K own (e2 o fa fb)):=(qfo ho ha hb).imp fun σ H Q h=>qdk h
theorem iW {op:CmpOp}{o:D->D->Option D}(ho:OpD X (compareOp op) o) (ha:PE X a (tQ X.K own fa)) (hb:PE X b (tQ X.K own fb)) (hm:behindInMarks op b=false):PE X (.Compare a [op] [b] pos) (tP X.K own (e2 o fa fb)):=(qho ho ha hb hm).imp fun σ H Q h=>qdk h
noncomputable def tB1 (f:DF):DT:=fun ρ=>(f ρ).bind fun d=>match d with|.bl b=>some b|_=>none
theorem jO {f:DF}{ρ:aA}{b:Bool}(h:tB1 f ρ=some b):f ρ=some (.bl b):=by
 unfold tB1 at h;cases e:f ρ with
 | none=>rw[e] at h;cases h
 | some d=>
  rw[e] at h;cases d with
  | bl c=>rw[show c=b from zZ h]
  | _=>cases h
theorem aE {op:CmpOp}{o:D->D->Option D}(ho:OpD X (compareOp op) o) (ha:PE X a (tQ X.K own fa)) (hb:PE X b (tQ X.K own fb)) (hm:behindInMarks op b=false):PT X (.Compare a [op] [b] pos) (tPT X.K own (tB1 (e2 o fa fb))):=
 (qdm ho ha hb hm).imp fun σ H Q ⟨G,ρ,d,gh,env,eq,k⟩=>qdk (own:=own) (fa:=fa) (fb:=fb) ⟨G,ρ,.bl d,gh,env,jO eq,fun v G' H' E r=>⟨d,bz.mp r,k G' H' E⟩⟩
noncomputable def nV (f g:DT):DT:=fun ρ=>(f ρ).bind fun c=>if c=true then g ρ else some false
noncomputable def dh (f g:DT):DT:=fun ρ=>(f ρ).bind fun c=>if c=true then some true else g ρ
noncomputable def hV (f:DT):DT:=fun ρ=>(f ρ).map fun c=> !c
variable {f g:DT}{cm:List Expr}
theorem qh3 (ha:PT X a (tPT X.K own f)):PW X (.BoolOp .And [a] pos) (tPT X.K own f):=qdl ha
theorem kb (ha:PT X a (tPT X.K own f)):PW X (.BoolOp .Or [a] pos) (tPT X.K own f):=qiY ha
theorem qjO (ha : PT X a (tPT X.K own f)) (hb : PW X (.BoolOp .And (b :: cm) pos) (tPT X.K own g)) : PW X (.BoolOp .And (a :: b :: cm) pos) (tPT X.K own (nV f g)) := (qfe ha hb).imp fun σ H Q ⟨G, ρ, d, gh, env, eq, k⟩ => by
  unfold nV at eq
  cases ef : f ρ with
  | none => rw [ef] at eq; cases eq
  | some c =>
    rw [ef] at eq
    refine ⟨G, ρ, c, gh, env, ef, fun G1 H1 E1 => ?_⟩
    cases c with
    | true => exact pi ⟨G1, ρ, d, E1.gh, env.ext E1, eq, fun G2 H2 E2 => k G2 H2 (E1.trans E2)⟩
    | false => have : d = false := (Option.some.inj (show some false = some d from eq)).symm
               subst this; exact jr (k G1 H1 E1)
theorem ng (ha : PT X a (tPT X.K own f)) (hb : PW X (.BoolOp .Or (b :: cm) pos) (tPT X.K own g)) : PW X (.BoolOp .Or (a :: b :: cm) pos) (tPT X.K own (dh f g)) := (qkL ha hb).imp fun σ H Q ⟨G, ρ, d, gh, env, eq, k⟩ => by
  unfold dh at eq
  cases ef : f ρ with
  | none => rw [ef] at eq; cases eq
  | some c =>
    rw [ef] at eq
    refine ⟨G, ρ, c, gh, env, ef, fun G1 H1 E1 => ?_⟩
    cases c with
    | false => exact jr ⟨G1, ρ, d, E1.gh, env.ext E1, eq, fun G2 H2 E2 => k G2 H2 (E1.trans E2)⟩
    | true => have : d = true := (Option.some.inj (show some true = some d from eq)).symm
              subst this; exact pi (k G1 H1 E1)
theorem qaW (ha:PT X a (tPT X.K own f)):PT X (.UnaryOp .Not a pos) (tPT X.K own (hV f)):=(qfg ha).imp fun σ H Q ⟨G,ρ,d,gh,env,eq,k⟩=>by
 unfold hV at eq;cases ef:f ρ with
 | none=>rw[ef] at eq;cases eq
 | some c=>
  rw[ef] at eq;have:d = !c:=(zZ (show some (!c)=some d from eq)).symm
  subst this;exact⟨G,ρ,c,gh,env,ef,fun G1 H1 E1=>k G1 H1 E1⟩
noncomputable def pj (f g:DF):DF:=fun ρ=>(tB1 f ρ).bind fun c=>if c=true then g ρ else some (.bl false)
noncomputable def qjN (f:DT):DF:=fun ρ=>(f ρ).map fun c =>.bl (!c)
theorem qcZ {op} (h:PE X a (tP X.K own fa)):PE X (.BoolOp op [a] pos) (tP X.K own fa):=qi6 h
theorem qaY (ha : PE X a (tP X.K own fa)) (hb : PE X (.BoolOp .And (b :: cm) pos) (tP X.K own fb)) : PE X (.BoolOp .And (a :: b :: cm) pos) (tP X.K own (pj fa fb)) := (qjb ha hb).imp fun σ H Q ⟨G, ρ, d, gh, env, eq, k⟩ => by
  unfold pj at eq
  cases ef : tB1 fa ρ with
  | none => rw [ef] at eq; cases eq
  | some c =>
    rw [ef] at eq
    refine ⟨G, ρ, _, gh, env, jO ef, fun v G1 H1 E1 r1 => ⟨c, bz.mp r1, ?_⟩⟩
    cases c with
    | true => exact pi ⟨G1, ρ, d, E1.gh, env.ext E1, eq, fun v G2 H2 E2 r2 => k v G2 H2 (E1.trans E2) r2⟩
    | false => have : d = .bl false := (Option.some.inj (show some (D.bl false) = some d from eq)).symm
               subst this; exact jr (k _ G1 H1 E1 (bz.mpr rfl))
theorem qjW (ha:PE X a (tP X.K own fa)):PE X (.UnaryOp .Not a pos) (tP X.K own (qjN (tB1 fa))):=(qi7 ha).imp fun σ H Q ⟨G,ρ,d,gh,env,eq,k⟩=>by
 unfold qjN at eq;cases ef:tB1 fa ρ with
 | none=>rw[ef] at eq;cases eq
 | some c=>
  rw[ef] at eq;have:d=.bl (!c):=(zZ (show some (D.bl (!c))=some d from eq)).symm
  subst this;exact⟨G,ρ,_,gh,env,jO ef,fun v G1 H1 E1 r1=>⟨c,bz.mp r1,k _ G1 H1 E1 (bz.mpr rfl)⟩⟩
end
end L2
end
noncomputable section
namespace L2
open PySem PySem.Spec PyProof.Rows
mutual
noncomputable def deq:D->D->Bool
 | .non,.non=>true
 | .bl a,.bl b=>a==b
 | .bl a,.int b=>(if a then 1 else 0)==b
 | .int a,.bl b=>a==(if b then 1 else 0)
 | .int a,.int b=>a==b
 | .str a,.str b=>a==b
 | .lst xs,.lst ys=>iV xs ys
 | .tup xs,.tup ys=>iV xs ys
 | _,_=>false
noncomputable def iV:List D->List D->Bool
 | [],[]=>true
 | x::xs,y::ys=>deq x y&&iV xs ys
 | _,_=>false
end
mutual
noncomputable def dOk:D->Nat->Bool
 | .lst xs,n=>n != 0&&iX xs (n-1)
 | .tup xs,n=>n != 0&&iX xs (n-1)
 | .scr _,_=>false
 | .ins _ _ _,_=>false
 | .dic _ _,_=>false
 | .non,_=>true
 | .bl _,_=>true
 | .int _,_=>true
 | .str _,_=>true
noncomputable def iX:List D->Nat->Bool
 | [],_=>true
 | x::xs,n=>dOk x n&&iX xs n
end
theorem oU:∀ {xs:List D}{n i:Nat}{d:D},iX xs n=true->xs[i]?=some d->dOk d n=true
 | [],n,i,d,h,e=>by simp at e
 | x::xs,n,0,d,h,e=>by simp only[iX,Bool.and_eq_true] at h;simp at e;subst e;exact h.1
 | x::xs,n,i+1,d,h,e=>by simp only[iX,Bool.and_eq_true] at h;exact oU (i:=i) h.2 (by simpa using e)
theorem mi:∀ (xs ys:List D),iV xs ys=((List.range (min xs.length ys.length)).all (fun j=>deq (xs.getD j .non) (ys.getD j .non))&&(xs.length==ys.length))
 | [],[]=>by simp[iV]
 | [],y::ys=>by simp[iV]
 | x::xs,[]=>by simp[iV]
 | x::xs,y::ys=>by
  have e:min (x::xs).length (y::ys).length=min xs.length ys.length+1:=by simp[Nat.add_min_add_right]
  rw[e,List.range_succ_eq_map,List.all_cons,List.all_map];simp only[iV,mi xs ys,Function.comp_def,List.getD_cons_zero,List.getD_cons_succ,zP];rw[Bool.and_assoc]
  congr 2
  simp
mutual
theorem qgn:∀ (d:D) (n:Nat),dOk d n=true->deq d d=true
 | .non,n,h=>by simp[deq]
 | .bl b,n,h=>by simp[deq]
 | .int b,n,h=>by simp[deq]
 | .str b,n,h=>by simp[deq]
 | .lst xs,n,h=>by simp only[dOk,Bool.and_eq_true] at h;simp only[deq];exact jb xs _ h.2
 | .tup xs,n,h=>by simp only[dOk,Bool.and_eq_true] at h;simp only[deq];exact jb xs _ h.2
 | .scr xs,n,h=>by simp[dOk] at h
 | .ins _ _ _,n,h=>by simp[dOk] at h
 | .dic _ _,n,h=>by simp[dOk] at h
theorem jb:∀ (d:List D) (n:Nat),iX d n=true->iV d d=true
 | [],n,h=>by simp[iV]
 | x::xs,n,h=>by simp only[iX,Bool.and_eq_true] at h;simp only[iV,qgn x n h.1,jb xs n h.2,Bool.and_self]
end
noncomputable section
variable {K:Frag}{H:Hp}
mutual
theorem Rep.inj:∀ (d1 d2:D) (n m:Nat){v:V},dOk d1 n=true->dOk d2 m=true->Rep K H d1 v->Rep K H d2 v->d1=d2
 | .non,d2,n,m,v,o1,o2,h1,h2=>by have e:=dr.mp h1;subst e;cases d2<;>simp[Rep,dOk] at h2 o2 ⊢
 | .bl b,d2,n,m,v,o1,o2,h1,h2=>by have e:=bz.mp h1;subst e;cases d2<;>simp[Rep,dOk] at h2 o2 ⊢<;>exact h2
 | .int b,d2,n,m,v,o1,o2,h1,h2=>by have e:=bh.mp h1;subst e;cases d2<;>simp[Rep,dOk] at h2 o2 ⊢<;>exact h2
 | .str b,d2,n,m,v,o1,o2,h1,h2=>by have e:=bG.mp h1;subst e;cases d2<;>simp[Rep,dOk] at h2 o2 ⊢<;>exact h2
 | .lst xs,d2,n,m,v,o1,o2,h1,h2=>by
  obtain⟨a,vs,rfl,ha,r⟩:=cp.mp h1;cases d2 with
  | lst ys=>obtain⟨b,us,e,hb,q⟩:=cp.mp h2;cases e;rw[ha] at hb;cases hb;simp only[dOk,Bool.and_eq_true] at o1 o2;rw[aI.inj xs ys _ _ o1.2 o2.2 r q]
  | tup ys=>obtain⟨b,us,e,hb,q⟩:=dm.mp h2;cases e;rw[ha] at hb;cases hb
  | scr ys=>simp[dOk] at o2
  | ins c ks zs=>simp[dOk] at o2
  | dic ks zs=>simp[dOk] at o2
  | _=>simp[Rep] at h2
 | .tup xs,d2,n,m,v,o1,o2,h1,h2=>by
  obtain⟨a,vs,rfl,ha,r⟩:=dm.mp h1;cases d2 with
  | tup ys=>obtain⟨b,us,e,hb,q⟩:=dm.mp h2;cases e;rw[ha] at hb;cases hb;simp only[dOk,Bool.and_eq_true] at o1 o2;rw[aI.inj xs ys _ _ o1.2 o2.2 r q]
  | lst ys=>obtain⟨b,us,e,hb,q⟩:=cp.mp h2;cases e;rw[ha] at hb;cases hb
  | scr ys=>simp[dOk] at o2
  | ins c ks zs=>simp[dOk] at o2
  | dic ks zs=>simp[dOk] at o2
  | _=>simp[Rep] at h2
 | .scr xs,d2,n,m,v,o1,o2,h1,h2=>by simp[dOk] at o1
 | .ins _ _ _,d2,n,m,v,o1,o2,h1,h2=>by simp[dOk] at o1
 | .dic _ _,d2,n,m,v,o1,o2,h1,h2=>by simp[dOk] at o1
theorem aI.inj:∀ (xs ys:List D) (n m:Nat){vs:List V},iX xs n=true->iX ys m=true->aI K H xs vs->aI K H ys vs->xs=ys
 | [],ys,n,m,vs,o1,o2,h1,h2=>by
  rw[c6.mp h1] at h2;cases ys with
  | nil=>rfl
  | cons y ys=>obtain⟨_,_,e,_⟩:=be.mp h2;cases e
 | x::xs,ys,n,m,vs,o1,o2,h1,h2=>by
  obtain⟨v,r,rfl,q,t⟩:=be.mp h1;cases ys with
  | nil=>have:=c6.mp h2;cases this
  | cons y ys=>obtain⟨v',r',e,q',t'⟩:=be.mp h2;cases e;simp only[iX,Bool.and_eq_true] at o1 o2;rw[Rep.inj x y _ _ o1.1 o2.1 q q',aI.inj xs ys _ _ o1.2 o2.2 t t']
end
end
noncomputable section
variable {P:Program}{w:World}{K:Frag}{H:Hp}{s:Shared}
theorem qcA (hok:HOk P w H s.heap){a:Addr}{vs:List V}(e:H a=some (.lst vs)):∃ its:List Value,bd vs its/\s.heap.IsList a its.toArray:=by
 obtain⟨z,its,n,r,q⟩:=hok a _ e;exact⟨its,r,_,q,rfl,n,rfl⟩
theorem qcz (hok:HOk P w H s.heap){a:Addr}{vs:List V}(e:H a=some (.tup vs)):∃ its:List Value,bd vs its/\s.heap.IsTuple a its.toArray:=by
 obtain⟨z,its,r,q⟩:=hok a _ e;exact⟨its,r,q⟩
open SeqAt
structure o6 (A:Around) (s:Shared) (u1 u2:Value) (b:Bool):Prop where
 rc:RcAt A s u1 u2 b
 ne:RcNeAt A s u1 u2 (!b)
 eq:EqAt A s u1 u2 b
theorem l7 (hok:HOk P w H s.heap){A:Around}(hu:A.units<cLine){d1 d2:D}{m:Nat}{v1 v2:V}{u1 u2:Value}(o1:dOk d1 0=true) (o2:dOk d2 m=true) (h1:Rep K H d1 v1) (h2:Rep K H d2 v2) (r1:bx v1 u1) (r2:bx v2 u2) :
  o6 A s u1 u2 (deq d1 d2):=by
 cases d1 with
 | lst xs=>simp[dOk] at o1
 | tup xs=>simp[dOk] at o1
 | scr xs=>simp[dOk] at o1
 | ins c ks zs=>simp[dOk] at o1
 | dic ks zs=>simp[dOk] at o1
 | non=>
  have e:=dr.mp h1;subst e;cases r1;cases d2 with
  | non=>have e:=dr.mp h2;subst e;cases r2;exact⟨.none_none,.none_none,.same _⟩
  | bl b=>have e:=bz.mp h2;subst e;cases r2;exact⟨.none_bool b,.none_bool b,.none_bool b⟩
  | int b=>have e:=bh.mp h2;subst e;obtain⟨t,rfl⟩:=r2;exact⟨.none_int b t,.none_int b t,.none_int b t⟩
  | str b=>have e:=bG.mp h2;subst e;obtain⟨t,rfl⟩:=r2;exact⟨.none_str b t,.none_str b t,.none_str b t⟩
  | lst ys=>obtain⟨a,vs,rfl,q,_⟩:=cp.mp h2;cases r2;obtain⟨its,_,l⟩:=qcA hok q;exact⟨.none_list l hu,.none_list l hu,.none_list l hu⟩
  | tup ys=>obtain⟨a,vs,rfl,q,_⟩:=dm.mp h2;cases r2;obtain⟨its,_,l⟩:=qcz hok q;exact⟨.none_tuple l hu,.none_tuple l hu,.none_tuple l hu⟩
  | scr ys=>simp[dOk] at o2
  | ins c ks zs=>simp[dOk] at o2
  | dic ks zs=>simp[dOk] at o2
 | bl c=>
  have e:=bz.mp h1;subst e;cases r1;cases d2 with
  | non=>have e:=dr.mp h2;subst e;cases r2;exact⟨.bool_none c,.bool_none c,.bool_none c⟩
  | bl b=>have e:=bz.mp h2;subst e;cases r2;exact⟨.bool_bool c b,.bool_bool c b,.bool_bool c b⟩
  | int b=>have e:=bh.mp h2;subst e;obtain⟨t,rfl⟩:=r2;exact⟨.bool_int c b t,.bool_int c b t,.bool_int c b t⟩
  | str b=>have e:=bG.mp h2;subst e;obtain⟨t,rfl⟩:=r2;exact⟨.bool_str c b t,.bool_str c b t,.bool_str c b t⟩
  | lst ys=>obtain⟨a,vs,rfl,q,_⟩:=cp.mp h2;cases r2;obtain⟨its,_,l⟩:=qcA hok q;exact⟨.bool_list c l hu,.bool_list c l hu,.bool_list c l hu⟩
  | tup ys=>obtain⟨a,vs,rfl,q,_⟩:=dm.mp h2;cases r2;obtain⟨its,_,l⟩:=qcz hok q;exact⟨.bool_tuple c l hu,.bool_tuple c l hu,.bool_tuple c l hu⟩
  | scr ys=>simp[dOk] at o2
  | ins c ks zs=>simp[dOk] at o2
  | dic ks zs=>simp[dOk] at o2
 | int c=>
  have e:=bh.mp h1;subst e;obtain⟨t',rfl⟩:=r1;cases d2 with
  | non=>have e:=dr.mp h2;subst e;cases r2;exact⟨.int_none c t',.int_none c t',.int_none c t'⟩
  | bl b=>have e:=bz.mp h2;subst e;cases r2;exact⟨.int_bool c t' b,.int_bool c t' b,.int_bool c t' b⟩
  | int b=>have e:=bh.mp h2;subst e;obtain⟨t,rfl⟩:=r2;exact⟨.int_int c t' b t,.int_int c t' b t,.int_int c t' b t⟩
  | str b=>have e:=bG.mp h2;subst e;obtain⟨t,rfl⟩:=r2;exact⟨.int_str c t' b t,.int_str c t' b t,.int_str c t' b t⟩
  | lst ys=>obtain⟨a,vs,rfl,q,_⟩:=cp.mp h2;cases r2;obtain⟨its,_,l⟩:=qcA hok q;exact⟨.int_list c t' l hu,.int_list c t' l hu,.int_list c t' l hu⟩
  | tup ys=>obtain⟨a,vs,rfl,q,_⟩:=dm.mp h2;cases r2;obtain⟨its,_,l⟩:=qcz hok q;exact⟨.int_tuple c t' l hu,.int_tuple c t' l hu,.int_tuple c t' l hu⟩
  | scr ys=>simp[dOk] at o2
  | ins c ks zs=>simp[dOk] at o2
  | dic ks zs=>simp[dOk] at o2
 | str c=>
  have e:=bG.mp h1;subst e;obtain⟨t',rfl⟩:=r1;cases d2 with
  | non=>have e:=dr.mp h2;subst e;cases r2;exact⟨.str_none c t',.str_none c t',.str_none c t'⟩
  | bl b=>have e:=bz.mp h2;subst e;cases r2;exact⟨.str_bool c t' b,.str_bool c t' b,.str_bool c t' b⟩
  | int b=>have e:=bh.mp h2;subst e;obtain⟨t,rfl⟩:=r2;exact⟨.str_int c t' b t,.str_int c t' b t,.str_int c t' b t⟩
  | str b=>have e:=bG.mp h2;subst e;obtain⟨t,rfl⟩:=r2;exact⟨.str_str c t' b t,.str_str c t' b t,.str_str c t' b t⟩
  | lst ys=>obtain⟨a,vs,rfl,q,_⟩:=cp.mp h2;cases r2;obtain⟨its,_,l⟩:=qcA hok q;exact⟨.str_list c t' l hu,.str_list c t' l hu,.str_list c t' l hu⟩
  | tup ys=>obtain⟨a,vs,rfl,q,_⟩:=dm.mp h2;cases r2;obtain⟨its,_,l⟩:=qcz hok q;exact⟨.str_tuple c t' l hu,.str_tuple c t' l hu,.str_tuple c t' l hu⟩
  | scr ys=>simp[dOk] at o2
  | ins c ks zs=>simp[dOk] at o2
  | dic ks zs=>simp[dOk] at o2
theorem o6.refs {A:Around}{l b:Addr}{k:Bool}(rc:RcAt A s (.ref l) (.ref b) k) (ne:RcNeAt A s (.ref l) (.ref b) (!k)) (h:l=b->k=true):o6 A s (.ref l) (.ref b) k:=by
 refine⟨rc,ne,?_⟩;by_cases e:l=b
 ·subst e;rw[h rfl];exact .same _
 ·exact .of_refs e rc
theorem qgm {xs ys:List D}(h:xs.length≠ys.length):iV xs ys=false:=by
 rw[mi];have:(xs.length==ys.length)=false:=by simpa using h
 rw[this,Bool.and_false]
theorem qbP {A:Around}{n m:Nat}{xs ys:List D}{vs us:List V}{its its2:List Value}(ih:∀ (d1 d2:D) (v1 v2:V) (u1 u2:Value),dOk d1 n=true->dOk d2 m=true->Rep K H d1 v1->Rep K H d2 v2->bx v1 u1->bx v2 u2->o6 A s u1 u2 (deq d1 d2))
  (o1:iX xs n=true) (o2:iX ys m=true) (r:aI K H xs vs) (q:aI K H ys us) (rv:bd vs its) (ru:bd us its2) (j:Nat) (h1:j<its.toArray.size) (h2:j<its2.toArray.size) :
  EqAt A s its.toArray[j] its2.toArray[j] (deq (xs.getD j .non) (ys.getD j .non)):=by
 have l1:xs.length=its.length:=r.length.trans rv.length;have l2:ys.length=its2.length:=q.length.trans ru.length;have h1':j<its.length:=by simpa using h1
 have h2':j<its2.length:=by simpa using h2
 have g1:xs[j]?=some (xs.getD j .non):=by rw[List.getD_eq_getElem?_getD,zI (by omega)];rfl
 have g2:ys[j]?=some (ys.getD j .non):=by rw[List.getD_eq_getElem?_getD,zI (by omega)];rfl
 obtain⟨v,e1,p1⟩:=r.get g1;obtain⟨u,e2,p2⟩:=q.get g2;obtain⟨w1,f1,t1⟩:=rv.get e1;obtain⟨w2,f2,t2⟩:=ru.get e2;have k1:its.toArray[j]=w1:=by
  have:its[j]?=some its.toArray[j]:=by simp[h1']
  rw[f1] at this;exact(zZ this).symm
 have k2:its2.toArray[j]=w2:=by
  have:its2[j]?=some its2.toArray[j]:=by simp[h2']
  rw[f2] at this;exact(zZ this).symm
 rw[k1,k2];exact(ih _ _ _ _ _ _ (oU o1 g1) (oU o2 g2) p1 p2 t1 t2).eq
theorem qgd (hok:HOk P w H s.heap):∀ (n:Nat){A:Around}(_:A.units+n<cLine) (d1 d2:D) (m:Nat) (v1 v2:V) (u1 u2:Value),dOk d1 n=true->dOk d2 m=true->Rep K H d1 v1->Rep K H d2 v2->bx v1 u1->bx v2 u2 ->
  o6 A s u1 u2 (deq d1 d2):=by
 intro n
 induction n with
 | zero=>intro A hu d1 d2 m v1 v2 u1 u2 o1 o2 h1 h2 r1 r2;exact l7 hok (by omega) o1 o2 h1 h2 r1 r2
 | succ n ih=>
  intro A hu d1 d2 m v1 v2 u1 u2 o1 o2 h1 h2 r1 r2;have hu0:A.units<cLine:=by omega
  have ih':=fun (m':Nat)=>fun (d1 d2:D) (v1 v2:V) (u1 u2:Value)=>ih (A:=A.in1) (by show A.units+1+n<cLine;omega) d1 d2 m' v1 v2 u1 u2
  cases d1 with
  | lst xs=>
   obtain⟨a,vs,rfl,qa,ra⟩:=cp.mp h1;cases r1;obtain⟨its,rv,l⟩:=qcA hok qa;cases d2 with
   | lst ys=>
    obtain⟨b,us,rfl,qb,rb⟩:=cp.mp h2;cases r2;obtain⟨its2,ru,l2⟩:=qcA hok qb;have p1:=o1;have p2:=o2;simp only[dOk,Bool.and_eq_true,Nat.add_sub_cancel] at p1 p2;have len1:its.toArray.size=xs.length:=by rw[zN];exact(ra.length.trans rv.length).symm
    have len2:its2.toArray.size=ys.length:=by rw[zN];exact(rb.length.trans ru.length).symm
    have same:a=b->iV xs ys=true:=fun e=>by subst e;rw[qa] at qb;cases qb;rw[<- aI.inj xs ys _ _ p1.2 p2.2 ra rb];exact jb xs _ p1.2
    show o6 A s _ _ (iV xs ys);by_cases hl:xs.length=ys.length
    ·have E:iV xs ys=(List.range its.toArray.size).all (fun j=>deq (xs.getD j .non) (ys.getD j .non)):=by rw[mi,<- hl,Nat.min_self,len1];simp
     have it:=qbP (ih' _) p1.2 p2.2 ra rb rv ru;exact .refs (by rw[E];exact .lists l l2 (by omega) hu0 it) (by rw[E];exact .lists l l2 (by omega) hu0 it) same
    ·have E:=qgm hl;have hne:(its.toArray.size != its2.toArray.size)=true:=by rw[len1,len2];simpa using hl
     refine .refs ?_ ?_ same
     ·rw[E];exact .lists_lengths l l2 hne hu0
     ·rw[E];exact .lists_lengths l l2 hne hu0
   | tup ys=>obtain⟨b,us,rfl,qb,rb⟩:=dm.mp h2;cases r2;obtain⟨its2,ru,l2⟩:=qcz hok qb;exact⟨.list_tuple l l2 hu0,.list_tuple l l2 hu0,.list_tuple l l2 hu0⟩
   | non=>have e:=dr.mp h2;subst e;cases r2;exact⟨.list_none l hu0,.list_none l hu0,.list_none l hu0⟩
   | bl b=>have e:=bz.mp h2;subst e;cases r2;exact⟨.list_bool b l hu0,.list_bool b l hu0,.list_bool b l hu0⟩
   | int b=>have e:=bh.mp h2;subst e;obtain⟨t,rfl⟩:=r2;exact⟨.list_int b t l hu0,.list_int b t l hu0,.list_int b t l hu0⟩
   | str b=>have e:=bG.mp h2;subst e;obtain⟨t,rfl⟩:=r2;exact⟨.list_str b t l hu0,.list_str b t l hu0,.list_str b t l hu0⟩
   | scr ys=>simp[dOk] at o2
   | ins c ks zs=>simp[dOk] at o2
   | dic ks zs=>simp[dOk] at o2
  | tup xs=>
   obtain⟨a,vs,rfl,qa,ra⟩:=dm.mp h1;cases r1;obtain⟨its,rv,l⟩:=qcz hok qa;cases d2 with
   | tup ys=>
    obtain⟨b,us,rfl,qb,rb⟩:=dm.mp h2;cases r2;obtain⟨its2,ru,l2⟩:=qcz hok qb;have p1:=o1;have p2:=o2;simp only[dOk,Bool.and_eq_true,Nat.add_sub_cancel] at p1 p2;have len1:its.toArray.size=xs.length:=by rw[zN];exact(ra.length.trans rv.length).symm
    have len2:its2.toArray.size=ys.length:=by rw[zN];exact(rb.length.trans ru.length).symm
    have same:a=b->iV xs ys=true:=fun e=>by subst e;rw[qa] at qb;cases qb;rw[<- aI.inj xs ys _ _ p1.2 p2.2 ra rb];exact jb xs _ p1.2
    show o6 A s _ _ (iV xs ys);have E:iV xs ys=((List.range (min its.toArray.size its2.toArray.size)).all (fun j=>deq (xs.getD j .non) (ys.getD j .non))&&its.toArray.size==its2.toArray.size):=by rw[mi,len1,len2]
    have it:=qbP (ih' _) p1.2 p2.2 ra rb rv ru;exact .refs (by rw[E];exact .tuples l l2 hu0 it) (by rw[E];exact .tuples l l2 hu0 it) same
   | lst ys=>obtain⟨b,us,rfl,qb,rb⟩:=cp.mp h2;cases r2;obtain⟨its2,ru,l2⟩:=qcA hok qb;exact⟨.tuple_list l l2 hu0,.tuple_list l l2 hu0,.tuple_list l l2 hu0⟩
   | non=>have e:=dr.mp h2;subst e;cases r2;exact⟨.tuple_none l hu0,.tuple_none l hu0,.tuple_none l hu0⟩
   | bl b=>have e:=bz.mp h2;subst e;cases r2;exact⟨.tuple_bool b l hu0,.tuple_bool b l hu0,.tuple_bool b l hu0⟩
   | int b=>have e:=bh.mp h2;subst e;obtain⟨t,rfl⟩:=r2;exact⟨.tuple_int b t l hu0,.tuple_int b t l hu0,.tuple_int b t l hu0⟩
   | str b=>have e:=bG.mp h2;subst e;obtain⟨t,rfl⟩:=r2;exact⟨.tuple_str b t l hu0,.tuple_str b t l hu0,.tuple_str b t l hu0⟩
   | scr ys=>simp[dOk] at o2
   | ins c ks zs=>simp[dOk] at o2
   | dic ks zs=>simp[dOk] at o2
  | scr xs=>simp[dOk] at o1
  | ins c ks zs=>simp[dOk] at o1
  | dic ks zs=>simp[dOk] at o1
  | non=>exact l7 hok hu0 rfl o2 h1 h2 r1 r2
  | bl b=>exact l7 hok hu0 rfl o2 h1 h2 r1 r2
  | int b=>exact l7 hok hu0 rfl o2 h1 h2 r1 r2
  | str b=>exact l7 hok hu0 rfl o2 h1 h2 r1 r2
end
noncomputable def oEq (x y:D):Option D:=if (dOk x 180&&dOk y 180)=true then some (.bl (deq x y)) else none
noncomputable def oNe (x y:D):Option D:=if (dOk x 180&&dOk y 180)=true then some (.bl (!deq x y)) else none
noncomputable section
variable {X:Cx}
theorem bp {k:Nat}(hr:cJ k X.A):OpD X (compareOp .Eq) oEq:=by
 intro pins s σ H x y v u Q I rx ry ⟨G,d1,d2,d,gh,h1,h2,eq,q⟩;unfold oEq at eq
 split at eq
 ·rename_i hc;rw[Bool.and_eq_true] at hc;cases eq;have hu:=hr.un;exact(qgd (K:=X.K) I.hok 180 (A:=X.A) (by omega) d1 d2 180 x y v u hc.1 hc.2 (h1.all gh) (h2.all gh) rx ry).rc _ _ _ _ ⟨.bl _,H,I,rfl,q _ G H (.refl gh) (bz.mpr rfl)⟩
 ·cases eq
theorem iA {k:Nat}(hr:cJ k X.A):OpD X (compareOp .NotEq) oNe:=by
 intro pins s σ H x y v u Q I rx ry ⟨G,d1,d2,d,gh,h1,h2,eq,q⟩;unfold oNe at eq
 split at eq
 ·rename_i hc;rw[Bool.and_eq_true] at hc;cases eq;have hu:=hr.un;exact(qgd (K:=X.K) I.hok 180 (A:=X.A) (by omega) d1 d2 180 x y v u hc.1 hc.2 (h1.all gh) (h2.all gh) rx ry).ne _ _ _ _ ⟨.bl _,H,I,rfl,q _ G H (.refl gh) (bz.mpr rfl)⟩
 ·cases eq
noncomputable def oLt:D->D->Option D
 | .int i,.int j=>some (.bl (decide (i<j)))
 | _,_=>none
noncomputable def oGt:D->D->Option D
 | .int i,.int j=>some (.bl (decide (j<i)))
 | _,_=>none
noncomputable def oGe:D->D->Option D
 | .int i,.int j=>some (.bl (decide (j<=i)))
 | _,_=>none
theorem qbD {f:Value->Value->Sem Value}{C:Int->Int->Prop}{o:D->D->Option D}{g:Int->Int->V}{g':Int->Int->D}(h:OpR X f (rI C g)) (ho:∀ x y d,o x y=some d->∃ i j,x=.int i/\y=.int j/\C i j/\d=g' i j) (hg:∀ i j G,Rep X.K G (g' i j) (g i j)):OpD X f o:=
 OpR.imp h fun x y H Q ⟨G,d1,d2,d,gh,h1,h2,eq,q⟩=>by obtain⟨i,j,rfl,rfl,hc,rfl⟩:=ho _ _ _ eq;exact⟨i,j,h1.int,h2.int,hc,q _ G H (.refl gh) (hg i j G)⟩
theorem qfs {f:Value->Value->Sem Value}{g:Int->Int->V}(h:OpR X f (rI0 g)):OpR X f (rI (fun _ _=>True) g):=OpR.imp h fun x y H Q ⟨i,j,e1,e2,_,q⟩=>⟨i,j,e1,e2,q⟩
theorem qdq:OpD X (compareOp .Lt) oLt:=qbD (qfs qkO) (g':=fun i j =>.bl (decide (i<j))) (fun x y d h=>by cases x<;>cases y<;>simp[oLt] at h<;>exact⟨_,_,rfl,rfl,trivial,h.symm⟩) fun i j G=>bz.mpr rfl
theorem qkU:OpD X (compareOp .GtE) oGe:=qbD (qfs qkP) (g':=fun i j =>.bl (decide (j<=i))) (fun x y d h=>by cases x<;>cases y<;>simp[oGe] at h<;>exact⟨_,_,rfl,rfl,trivial,h.symm⟩) fun i j G=>bz.mpr rfl
noncomputable def ph:D->D->Option D
 | .int i,.int j=>some (.int (i-j))
 | _,_=>none
theorem qcy:OpD X (binaryOp .Sub) ph:=qbD (qfs qjc) (g':=fun i j =>.int (i-j)) (fun x y d h=>by cases x<;>cases y<;>simp[ph] at h<;>exact⟨_,_,rfl,rfl,trivial,h.symm⟩) fun i j G=>bh.mpr rfl
noncomputable def br:D->D->Option D
 | .int i,.int j=>if 0<j then some (.int (i%j)) else none
 | _,_=>none
theorem cb:OpD X (binaryOp .Mod) br:=qbD qjf (g':=fun i j =>.int (i%j)) (fun x y d h=>by
 cases x<;>cases y<;>simp only[br] at h<;>first|(cases h;done)|(split at h<;>first|(cases h;exact⟨_,_,rfl,rfl,by assumption,rfl⟩)|cases h)) fun i j G=>bh.mpr rfl
noncomputable def cM:D->D->Option D
 | .int i,.int j=>if 0<j/\j<2 ^ 64 then some (.int (i/j)) else none
 | _,_=>none
theorem qft:OpR X (binaryOp .FloorDiv) (rI (fun _ j=>0<j/\j<2 ^ 64) fun i j =>.int (i/j)):=opI fun i j _ _ _ _ _ hc q=>by
 have h1:(0:Int)<j:=hc.1;have h2:j<2 ^ 64:=hc.2;have h3:j.natAbs<2 ^ 64:=by omega
 refine floordiv_int (by omega) (by rw[Int.fdiv_eq_ediv_of_nonneg i (by omega)];exact q) (.inl (PyProof.noPylong_of_log2 ?_))
 have:=(Nat.log2_lt (n:=j.natAbs) (k:=64) (by omega)).mpr h3
 omega
theorem gq:OpD X (binaryOp .FloorDiv) cM:=qbD qft (g':=fun i j =>.int (i/j)) (fun x y d h=>by
 cases x<;>cases y<;>simp only[cM] at h<;>first|(cases h;done)|(split at h<;>first|(cases h;exact⟨_,_,rfl,rfl,by assumption,rfl⟩)|cases h)) fun i j G=>bh.mpr rfl
noncomputable def cH:Nat:=1000000
theorem dL:cH<=sizeLine:=by rw[sizeLine_eq];decide
noncomputable def aj:D->D->Option D
 | .int i,.int j=>some (.int (i+j))
 | .str x,.str y=>if x.length+y.length<=cH then some (.str (x++y)) else none
 | .lst xs,.lst ys=>if xs.length+ys.length<=cH then some (.lst (xs++ys)) else none
 | _,_=>none
theorem ar:OpD X (binaryOp .Add) aj:=by
 refine OpR.imp (qjh.or (qcs.or qfu)) fun x y H Q ⟨G,d1,d2,d,gh,h1,h2,eq,q⟩ =>?_
 cases d1<;>cases d2<;>simp only[aj] at eq<;>try (cases eq;done)
 ·cases eq;exact .inl ⟨_,_,h1.int,h2.int,q _ G H (.refl gh) (bh.mpr rfl)⟩
 ·split at eq
  ·cases eq;rename_i hz;exact .inr (.inl ⟨_,_,h1.str,h2.str,yA hz dL,q _ G H (.refl gh) (bG.mpr rfl)⟩)
  ·cases eq
 ·split at eq
  ·cases eq;rename_i hz;obtain⟨a,vs,ea,qa,ra⟩:=h1.lst gh;obtain⟨b,us,eb,qb,rb⟩:=h2.lst gh;refine .inr (.inr ⟨a,b,vs,us,ea,eb,qa,qb,?_,fun p hp=>q _ _ _ (Ext.alloc (p:=p) gh hp) ?_⟩)
   ·rw[<- ra.length,<- rb.length];exact yA hz dL
   ·exact cp.mpr ⟨p,_,rfl,aB,aI.mono (.alloc (gh.free hp)) _ (ra.append rb)⟩
  ·cases eq
instance:DecidablePred fun p:Int×Int=>qgD p.1 p.2:=fun p=>by unfold qgD;infer_instance
noncomputable def ij:D->D->Option D
 | .int i,.int j=>if (-(2 ^ 64)<i/\i<2 ^ 64)∨(-(2 ^ 64)<j/\j<2 ^ 64) then some (.int (i*j)) else none
 | .lst xs,.int k=>if (-(2 ^ 63)<=k/\k<2 ^ 63)/\xs.length*k.toNat<=cH then some (.lst (List.replicate k.toNat xs).flatten) else none
 | _,_=>none
theorem lc:OpD X (binaryOp .Mult) ij:=by
 refine OpR.imp (qje.or qjd) fun x y H Q ⟨G,d1,d2,d,gh,h1,h2,eq,q⟩ =>?_
 cases d1<;>cases d2<;>simp only[ij] at eq<;>try (cases eq;done)
 ·split at eq
  ·cases eq;rename_i hc;exact .inl ⟨_,_,h1.int,h2.int,hc,q _ G H (.refl gh) (bh.mpr rfl)⟩
  ·cases eq
 ·split at eq
  ·cases eq;rename_i hz;obtain⟨a,vs,ea,qa,ra⟩:=h1.lst gh;refine .inr ⟨a,_,vs,ea,h2.int,qa,hz.1.1,hz.1.2,?_,fun p hp=>q _ _ _ (Ext.alloc (p:=p) gh hp) ?_⟩
   ·rw[<- ra.length];exact yA hz.2 dL
   ·exact cp.mpr ⟨p,_,rfl,aB,aI.mono (.alloc (gh.free hp)) _ (ra.rep _)⟩
  ·cases eq
noncomputable def e1 (o:D->Option D) (a:DF):DF:=fun ρ=>(a ρ).bind o
theorem qaV {o:D->Option D}{a:DF}{ρ:aA}{d:D}(h:e1 o a ρ=some d):∃ x,a ρ=some x/\o x=some d:=by
 unfold e1 at h;cases ea:a ρ with
 | none=>rw[ea] at h;cases h
 | some x=>rw[ea] at h;exact⟨x,rfl,h⟩
end
end L2
end
noncomputable section
namespace L2
open PySem PySem.Spec PyProof.Rows
inductive DO where
 | nx (ρ:aA)|rt (d:D)|ro (ds:List D)|bk (ρ:aA)|ct (ρ:aA)
 | rm (d:D) (ρ:aA)
 | ex (c:Str) (n:Int)
noncomputable abbrev DG:=aA->Option DO
structure Bs where
 g:Hp
 h:Hp
 pin:List (Nat×Addr)
 fly:Str->Int->Prop
structure SR (K:Frag) (B:Bs) (own:List Nat) (G H:Hp) (σ:St) (ρ:aA):Prop where
 gh:aZ G H
 g0:aZ B.1 G
 h0:aZ B.2 H
 fr:∀ b o,G b=some o->B.1 b=some o∨B.2 b=none
 env:∀ (i:Nat) (d:D),i∉own->ρ[i]?=some (some d)->∃ v,σ[i]?=some (some v)/\Rep K G d v
 ownd:∀ (i:Nat) (d:D),i∈own->ρ[i]?=some (some d)->∃ a o,σ[i]?=some (some (.ref a))/\H a=some o/\jK K G d o/\G a=none/\B.2 a=none
 inj:∀ (i j:Nat) (a:Addr),i∈own->j∈own->(∃ d,ρ[i]?=some (some d))->(∃ d,ρ[j]?=some (some d))->σ[i]?=some (some (.ref a))->σ[j]?=some (some (.ref a))->i=j
 len:σ.length=ρ.length
 pin:∀ (i:Nat) (a:Addr),(i,a)∈B.3->i∈own/\σ[i]?=some (some (.ref a))
noncomputable section
variable {K:Frag}{B:Bs}{own:List Nat}{G H G' H':Hp}{σ:St}{ρ:aA}
theorem SR.toExt (S:SR K B own G H σ ρ):Ext B.1 B.2 G H:=⟨S.h0,S.g0,S.gh,S.fr⟩
theorem SR.envR (S:SR K B own G H σ ρ):i3 K own G H σ ρ:=⟨S.len,fun i d e=>by
 by_cases hi:i∈own
 ·obtain⟨a,o,e2,e3,e4,_⟩:=S.ownd i d hi e;exact⟨_,e2,by rw[if_pos hi];exact .inr ⟨a,o,rfl,e3,e4⟩⟩
 ·obtain⟨v,e1,e2⟩:=S.env i d hi e;exact⟨v,e1,by rw[if_neg hi];exact e2⟩⟩
theorem SR.ext (S:SR K B own G H σ ρ) (E:Ext G H G' H'):SR K B own G' H' σ ρ:=by
 refine⟨E.gh,S.g0.trans E.gg,S.h0.trans E.hh,fun b o e =>?_,fun i d hi e =>?_,fun i d hi e =>?_,S.inj,S.len,S.pin⟩
 ·rcases E.fr b o e with q|q
  ·exact S.fr b o q
  ·exact .inr (S.h0.free q)
 ·obtain⟨v,e1,e2⟩:=S.env i d hi e;exact⟨v,e1,Rep.mono E.gg d e2⟩
 ·obtain⟨a,o,e2,e3,e4,e5,e6⟩:=S.ownd i d hi e;refine⟨a,o,e2,E.hh _ _ e3,e4.mono E.gg,?_,e6⟩;cases q:G' a with
  | none=>rfl
  | some o=>
   rcases E.fr a o q with z|z
   ·rw[e5] at z;cases z
   ·rw[e3] at z;cases z
theorem fV {α:Type}{l:List (Option α)}{i j:Nat}{x y:α}(h:(l.set i (some x))[j]?=some (some y)):(i=j/\y=x/\i<l.length)∨(i≠j/\l[j]?=some (some y)):=by
 by_cases e:i=j
 ·subst e;by_cases hl:i<l.length
  ·rw[List.getElem?_set_self hl] at h;cases h;exact .inl ⟨rfl,rfl,hl⟩
  ·rw[List.getElem?_eq_none (by simpa using hl)] at h;cases h
 ·rw[zK e] at h;exact .inr ⟨e,h⟩
theorem lX {α:Type}{l:List (Option α)}{i:Nat}{x:α}(h:i<l.length):(l.set i (some x))[i]?=some (some x):=by rw[List.getElem?_set_self h]
theorem SR.setS {i:Nat}{d:D}{v:V}(S:SR K B own G H σ ρ) (hi:i∉own) (r:Rep K G d v):SR K B own G H (σ.set i (some v)) (ρ.set i (some d)):=by
 have ne:∀ j,j∈own->i≠j:=fun j hj e=>hi (e ▸ hj)
 refine⟨S.gh,S.g0,S.h0,S.fr,fun j c hj e =>?_,fun j c hj e =>?_,fun j k a hj hk dj dk ej ek =>?_,by simp[S.len],fun j a h=>⟨(S.pin j a h).1,by rw[zK (ne j (S.pin j a h).1)];exact(S.pin j a h).2⟩⟩
 ·rcases fV e with ⟨rfl,rfl,hl⟩|⟨hne,e⟩
  ·exact⟨v,lX (by rw[S.len];exact hl),r⟩
  ·obtain⟨u,e1,e2⟩:=S.env j c hj e;exact⟨u,by rw[zK hne];exact e1,e2⟩
 ·rw[zK (ne j hj)] at e;obtain⟨a,o,e2,e3⟩:=S.ownd j c hj e;exact⟨a,o,by rw[zK (ne j hj)];exact e2,e3⟩
 ·rw[zK (ne j hj)] at dj ej;rw[zK (ne k hk)] at dk ek;exact S.inj j k a hj hk dj dk ej ek
theorem SR.setC {i:Nat}{d:D}{p:Addr}{o:HO}(S:SR K B own G H σ ρ) (hi:i∈own) (E:Ext G H G' H') (hp:H p=none) (gp:G' p=none) (hv:H' p=some o) (r:jK K G' d o) (hpin:∀ a,(i,a)∉B.3):SR K B own G' H' (σ.set i (some (.ref p))) (ρ.set i (some d)):=by
 have S':=S.ext E;have nop:∀ j,j∈own->(∃ d,ρ[j]?=some (some d))->σ[j]?=some (some (.ref p))->False:=fun j hj ⟨d,dj⟩ ej=>by obtain⟨a,o,e2,e3,_⟩:=S.ownd j d hj dj;rw[ej] at e2;cases e2;rw[hp] at e3;cases e3
 refine⟨S'.gh,S'.g0,S'.h0,S'.fr,fun j c hj e =>?_,fun j c hj e =>?_,fun j k a hj hk dj dk ej ek =>?_,by simp[S.len],fun j a h=>⟨(S.pin j a h).1,by
  have hij:i≠j:=fun z=>by subst z;exact hpin a h
  rw[zK hij];exact(S.pin j a h).2⟩⟩
 ·have hne:i≠j:=fun e=>hj (e ▸ hi)
  rw[zK hne] at e;obtain⟨u,e1,e2⟩:=S'.env j c hj e;exact⟨u,by rw[zK hne];exact e1,e2⟩
 ·rcases fV e with ⟨rfl,rfl,hl⟩|⟨hne,e⟩
  ·exact⟨p,o,lX (by rw[S.len];exact hl),hv,r,gp,S.h0.free hp⟩
  ·obtain⟨a,o,e2,e3⟩:=S'.ownd j c hj e;exact⟨a,o,by rw[zK hne];exact e2,e3⟩
 ·by_cases h1:i=j
  ·by_cases h2:i=k
   ·exact h1.symm.trans h2
   ·subst h1;rw[zK h2] at dk ek;obtain⟨d,dj⟩:=dj;rcases fV dj with ⟨_,_,hl⟩|⟨z,_⟩
    ·rw[lX (by rw[S.len];exact hl)] at ej;cases ej
     exact(nop k hk dk ek).elim
    ·exact absurd rfl z
  ·rw[zK h1] at dj ej;by_cases h2:i=k
   ·subst h2;obtain⟨d,dk⟩:=dk;rcases fV dk with ⟨_,_,hl⟩|⟨z,_⟩
    ·rw[lX (by rw[S.len];exact hl)] at ek;cases ek
     exact(nop j hj dj ej).elim
    ·exact absurd rfl z
   ·rw[zK h2] at dk ek;exact S.inj j k a hj hk dj dk ej ek
theorem SR.setO {i:Nat}{ds:List D}{p:Addr}{vs:List V}(S:SR K B own G H σ ρ) (hi:i∈own) (E:Ext G H G' H') (hp:H p=none) (gp:G' p=none) (hv:H' p=some (.lst vs)) (r:aI K G' ds vs) (hpin:∀ a,(i,a)∉B.3):SR K B own G' H' (σ.set i (some (.ref p))) (ρ.set i (some (.lst ds))):=
 S.setC hi E hp gp hv ⟨vs,rfl,r⟩ hpin
theorem SR.mutC {i:Nat}{a:Addr}{d d':D}{o':HO}(S:SR K B own G H σ ρ) (hi:i∈own) (hd:ρ[i]?=some (some d)) (hs:σ[i]?=some (some (.ref a))) (r:jK K G d' o'):SR K B own G (upd H a o') σ (ρ.set i (some d')):=by
 obtain⟨a',o0,e2,e3,e4,e5,e6⟩:=S.ownd i _ hi hd;rw[hs] at e2;cases e2;refine⟨fun b o e =>?_,S.g0,fun b o e =>?_,S.fr,fun j c hj e =>?_,fun j c hj e =>?_,fun j k b hj hk dj dk ej ek =>?_,by simp[S.len],S.pin⟩
 ·rw[aJ (ba e e5)];exact S.gh _ _ e
 ·rw[aJ (ba e e6)];exact S.h0 _ _ e
 ·have hne:i≠j:=fun e=>hj (e ▸ hi)
  rw[zK hne] at e;exact S.env j c hj e
 ·rcases fV e with ⟨rfl,rfl,hl⟩|⟨hne,e⟩
  ·exact⟨a,o',hs,aB,r,e5,e6⟩
  ·obtain⟨b,w,f2,f3,f4⟩:=S.ownd j c hj e;refine⟨b,w,f2,?_,f4⟩;have:b≠a:=fun z=>hne (S.inj i j a hi hj ⟨_,hd⟩ ⟨_,e⟩ hs (z ▸ f2))
   rw[aJ this];exact f3
 ·have un:∀ m:Nat,(∃ d,(ρ.set i (some d'))[m]?=some (some d))->∃ d,ρ[m]?=some (some d):=fun m ⟨d,e⟩=>by
   rcases fV e with ⟨rfl,_,_⟩|⟨_,e⟩
   ·exact⟨_,hd⟩
   ·exact⟨_,e⟩
  exact S.inj j k b hj hk (un j dj) (un k dk) ej ek
theorem SR.mut {i:Nat}{a:Addr}{ds ds':List D}{vs':List V}(S:SR K B own G H σ ρ) (hi:i∈own) (hd:ρ[i]?=some (some (.lst ds))) (hs:σ[i]?=some (some (.ref a))) (r:aI K G ds' vs'):SR K B own G (upd H a (.lst vs')) σ (ρ.set i (some (.lst ds'))):=
 S.mutC hi hd hs ⟨vs',rfl,r⟩
theorem SR.freeze {own':List Nat}(S:SR K B own G H σ ρ) (sub:∀ j∈own',j∈own) (i:Nat) (hi:∀ j∈own,j∈own'∨j=i) (hn:i∉own') (hio:i∈own) (hpin:∀ a,(i,a)∉B.3):∃ G',SR K B own' G' H σ ρ:=by
 have pin':∀ (j:Nat) (a:Addr),(j,a)∈B.3->j∈own'/\σ[j]?=some (some (.ref a)):=fun j a h=>⟨by
  rcases hi j (S.pin j a h).1 with z|z
  ·exact z
  ·subst z;exact absurd h (hpin a),(S.pin j a h).2⟩
 by_cases hd:∃ d,ρ[i]?=some (some d)
 ·obtain⟨d,hd⟩:=hd;obtain⟨a,o0,e2,e3,e4,e5,e6⟩:=S.ownd i d hio hd;have mono:aZ G (upd G a o0) :=.alloc e5;refine⟨upd G a o0,fun b o e =>?_,S.g0.trans mono,S.h0,fun b o e =>?_,fun j c hj e =>?_,fun j c hj e =>?_,fun j k b hj hk=>S.inj j k b (sub j hj) (sub k hk),S.len,pin'⟩
  ·by_cases hb:b=a
   ·subst hb;rw[aB] at e;cases e;exact e3
   ·rw[aJ hb] at e;exact S.gh _ _ e
  ·by_cases hb:b=a
   ·subst hb;exact .inr e6
   ·rw[aJ hb] at e;exact S.fr _ _ e
  ·by_cases hj':j∈own
   ·rcases hi j hj' with z|z
    ·exact absurd z hj
    ·subst z;rw[hd] at e;cases e;exact⟨_,e2,(e4.mono mono).rep aB⟩
   ·obtain⟨u,f1,f2⟩:=S.env j c hj' e;exact⟨u,f1,Rep.mono mono c f2⟩
  ·obtain⟨b,us,f2,f3,f4,f5,f6⟩:=S.ownd j c (sub j hj) e;refine⟨b,us,f2,f3,f4.mono mono,?_,f6⟩;have:b≠a:=fun z=>by have:=S.inj i j a hio (sub j hj) ⟨_,hd⟩ ⟨_,e⟩ e2 (z ▸ f2);exact hn (this ▸ hj)
   rw[aJ this];exact f5
 ·refine⟨G,S.gh,S.g0,S.h0,S.fr,fun j c hj e =>?_,fun j c hj e=>S.ownd j c (sub j hj) e,fun j k b hj hk=>S.inj j k b (sub j hj) (sub k hk),S.len,pin'⟩
  by_cases hj':j∈own
  ·rcases hi j hj' with z|z
   ·exact absurd z hj
   ·subst z;exact absurd ⟨c,e⟩ hd
  ·exact S.env j c hj' e
end
noncomputable def qmk (K:Frag) (B:Bs) (oL own:List Nat) (D':qc4):DO->Prop
 | .nx ρ=>∀ σ G H,SR K B own G H σ ρ->D'.nx σ H
 | .rt d=>∀ v G H,Ext B.1 B.2 G H->Rep K G d v->D'.rt v H
 | .ro ds=>∀ a vs G H,Ext B.1 B.2 G H->B.2 a=none->G a=none->H a=some (.lst vs)->aI K G ds vs->D'.rt (.ref a) H
 | .bk ρ=>∀ σ G H,SR K B oL G H σ ρ->D'.bk σ H
 | .ct ρ=>∀ σ G H,SR K B oL G H σ ρ->D'.ct σ H
 | .rm d ρ=>∀ v σ G H,(∃ own',SR K B own' G H σ ρ)->Rep K G d v->D'.rt v H
 | .ex c n=>B.fly c n
noncomputable def tDS (K:Frag) (B:Bs) (oL own own':List Nat) (g:DG):TS:=fun D' σ H=>∃ G ρ o,SR K B own G H σ ρ/\g ρ=some o/\qmk K B oL own' D' o
noncomputable section
variable {X:Cx}{B:Bs}{oL own own1 own2:List Nat}{g h:DG}{st:Stmt}{cm:List Stmt}{e:Expr}{pos:Pos}
noncomputable def aV:DG:=fun ρ=>some (.nx ρ)
theorem ay:PSs X [] (tDS X.K B oL own own aV):=jm.imp fun D σ H ⟨G,ρ,o,S,eq,k⟩=>by cases eq;exact k σ G H S
noncomputable def ad (g h:DG):DG:=fun ρ=>(g ρ).bind fun o=>match o with|.nx ρ'=>h ρ'|o=>some o
theorem qiV {K:Frag}{D':qc4}{σ:St}{H:Hp}(q:tDS K B oL own own2 (ad g h) D' σ H):tDS K B oL own own1 g { D' with nx:=fun σ H=>tDS K B oL own1 own2 h D' σ H } σ H:=by
 obtain⟨G,ρ,o,S,eq,k⟩:=q;unfold ad at eq;cases eg:g ρ with
 | none=>rw[eg] at eq;cases eq
 | some o1=>
  rw[eg] at eq;refine⟨G,ρ,o1,S,eg,?_⟩;cases o1 with
  | nx ρ'=>exact fun σ' G' H' S'=>⟨G',ρ',o,S',eq,k⟩
  | rt d=>cases eq;exact k
  | ro d=>cases eq;exact k
  | bk d=>cases eq;exact k
  | ct d=>cases eq;exact k
  | rm d ρ=>cases eq;exact k
  | ex c n=>cases eq;exact k
theorem aa (h1:PS X st (tDS X.K B oL own own1 g)) (h2:PSs X cm (tDS X.K B oL own1 own2 h)):PSs X (st::cm) (tDS X.K B oL own own2 (ad g h)):=(fD h1 h2).imp fun D σ H q=>qiV q
theorem af (h1:PS X st (tDS X.K B oL own own1 g)):PSs X [st] (tDS X.K B oL own own1 g):=fW h1
theorem jv {sts:List Stmt}(i:Nat) (h1:PSs X sts (tDS X.K B oL own1 own2 g)) (sub:∀ j∈own1,j∈own:=by decide) (hi:∀ j∈own,j∈own1∨j=i:=by decide) (hn:i∉own1:=by decide) (hio:i∈own:=by decide) (hpin:∀ a,(i,a)∉B.3:=by intro a;simp_all):PSs X sts (tDS X.K B oL own own2 g):=
 h1.imp fun D σ H ⟨G,ρ,o,S,eq,k⟩=>by obtain⟨G',S'⟩:=S.freeze sub i hi hn hio hpin;exact⟨G',ρ,o,S',eq,k⟩
noncomputable def aF (i:Nat) (f:DF):DG:=fun ρ=>(f ρ).map fun d =>.nx (ρ.set i (some d))
theorem aQ {i:Nat}{x:Str}{f:DF}{pos':Pos}(hN:X.N.Nodup) (hi:X.N[i]?=some x) (hx:Loc X.env.scope x) (he:PE X e (tP X.K own f)) (ho:i∉own:=by decide)
  (hs:swapsWith e (some (.Name x pos')) pos.line X.env=pure false:=by rfl) (hf:X.fn x=true∨X.env.scope.names.lookup x=some .local:=by first|exact .inl rfl|exact .inr rfl|assumption) :
  PS X (.Assign [.Name x pos'] e pos) (tDS X.K B oL own own (aF i f)):=(iM hN hi hx he hs hf).imp fun D σ H ⟨G,ρ,o,S,eq,k⟩=>by
 unfold aF at eq;cases ef:f ρ with
 | none=>rw[ef] at eq;cases eq
 | some d=>rw[ef] at eq;cases eq;exact⟨G,ρ,d,S.gh,S.envR,ef,fun v G' H' E r=>k _ G' H' ((S.ext E).setS ho r)⟩
noncomputable def gc (i:Nat) (f:DL):DG:=fun ρ=>(f ρ).map fun ds =>.nx (ρ.set i (some (.lst ds)))
theorem jw {i:Nat}{x:Str}{f:DL}{pos':Pos}(hN:X.N.Nodup) (hi:X.N[i]?=some x) (hx:Loc X.env.scope x) (he:PE X e (tF X.K own f)) (ho:i∈own:=by decide) (hpin:∀ a,(i,a)∉B.3:=by intro a;simp_all)
  (hs:swapsWith e (some (.Name x pos')) pos.line X.env=pure false:=by rfl) (hf:X.fn x=true∨X.env.scope.names.lookup x=some .local:=by first|exact .inl rfl|exact .inr rfl|assumption) :
  PS X (.Assign [.Name x pos'] e pos) (tDS X.K B oL own own (gc i f)):=(iM hN hi hx he hs hf).imp fun D σ H ⟨G,ρ,o,S,eq,k⟩=>by
 unfold gc at eq;cases ef:f ρ with
 | none=>rw[ef] at eq;cases eq
 | some ds=>rw[ef] at eq;cases eq;exact⟨G,ρ,ds,S.gh,S.envR,ef,fun p vs G' H' E hp gp hv r=>k _ G' H' (S.setO ho E hp gp hv r hpin)⟩
noncomputable def bc (f:DF):DG:=fun ρ=>(f ρ).map .rt
theorem aU {f:DF}(he:PE X e (tP X.K own f)):PS X (.Return (some e) pos) (tDS X.K B oL own own1 (bc f)):=(jV he).imp fun D σ H ⟨G,ρ,o,S,eq,k⟩=>by
 unfold bc at eq;cases ef:f ρ with
 | none=>rw[ef] at eq;cases eq
 | some d=>rw[ef] at eq;cases eq;exact⟨G,ρ,d,S.gh,S.envR,ef,fun v G' H' E r=>k v G' H' (S.toExt.trans E) r⟩
noncomputable def qbr (f:DL):DG:=fun ρ=>(f ρ).map .ro
theorem qh5 {f:DL}(he:PE X e (tF X.K own f)):PS X (.Return (some e) pos) (tDS X.K B oL own own1 (qbr f)):=(jV he).imp fun D σ H ⟨G,ρ,o,S,eq,k⟩=>by
 unfold qbr at eq;cases ef:f ρ with
 | none=>rw[ef] at eq;cases eq
 | some d=>rw[ef] at eq;cases eq;exact⟨G,ρ,d,S.gh,S.envR,ef,fun p vs G' H' E hp gp hv r=>k p vs G' H' (S.toExt.trans E) (S.h0.free hp) gp hv r⟩
noncomputable def oa (i:Nat):DG:=fun ρ=>(eV i ρ).bind fun d=>match d with|.lst ds=>some (.ro ds)|_=>none
theorem qdI {i:Nat}{x:Str}{p:Pos}(h:PE X (.Name x p) (i4 i)) (hi:i∈own:=by decide):PS X (.Return (some (.Name x p)) pos) (tDS X.K B oL own own1 (oa i)):=(jV h).imp fun D σ H ⟨G,ρ,o,S,eq,k⟩=>by
 unfold oa at eq;cases ef:eV i ρ with
 | none=>rw[ef] at eq;cases eq
 | some d=>
  rw[ef] at eq;obtain⟨a,o0,e2,e3,e4,e5,e6⟩:=S.ownd i d hi (iD ef);cases d<;>simp only[zA] at eq<;>try (cases eq;done)
  obtain⟨vs,rfl,e4⟩:=e4;cases eq;exact⟨_,e2,k a vs G H S.toExt e6 e5 e3 e4⟩
noncomputable def sIf (f:DT) (g h:DG):DG:=fun ρ=>(f ρ).bind fun b=>if b=true then g ρ else h ρ
theorem aY {c:Expr}{a b:List Stmt}{f:DT}(hc:PT X c (tPT X.K own f)) (ha:PSs X a (tDS X.K B oL own own1 g)) (hb:PSs X b (tDS X.K B oL own own1 h)):PS X (.If c a b pos) (tDS X.K B oL own own1 (sIf f g h)):=(ol hc ha hb).imp fun D σ H ⟨G,ρ,o,S,eq,k⟩=>by
 unfold sIf at eq;cases ef:f ρ with
 | none=>rw[ef] at eq;cases eq
 | some c=>
  rw[ef] at eq;refine⟨G,ρ,c,S.gh,S.envR,ef,fun G1 H1 E1 =>?_⟩
  cases c with
  | true=>exact pi ⟨G1,ρ,o,S.ext E1,eq,k⟩
  | false=>exact jr ⟨G1,ρ,o,S.ext E1,eq,k⟩
noncomputable def bH (i:Nat) (ρ:aA):Option (List D):=(eV i ρ).bind fun d=>match d with|.lst ds=>some ds|_=>none
theorem cD {i:Nat}{ρ:aA}{ds:List D}(h:bH i ρ=some ds):ρ[i]?=some (some (.lst ds)):=by
 unfold bH at h;cases ef:eV i ρ with
 | none=>rw[ef] at h;cases h
 | some d=>rw[ef] at h;have:=iD ef;cases d<;>first|(cases h;exact this)|cases h
theorem SR.ownL {K:Frag}{G H:Hp}{σ:St}{ρ:aA}{i:Nat}{ds:List D}(S:SR K B own G H σ ρ) (hi:i∈own) (h:ρ[i]?=some (some (.lst ds))):∃ a vs,σ[i]?=some (some (.ref a))/\H a=some (.lst vs)/\aI K G ds vs/\G a=none/\B.2 a=none:=by
 obtain⟨a,o0,e2,e3,⟨vs,rfl,e4⟩,e5⟩:=S.ownd i _ hi h;exact⟨a,vs,e2,e3,e4,e5⟩
noncomputable def my (i:Nat) (f:DF):DG:=fun ρ=>(bH i ρ).bind fun ds=>(f ρ).bind fun d=>if ds.length<cH then some (.nx (ρ.set i (some (.lst (ds++[d]))))) else none
theorem mR {i:Nat}{x:Str}{p apos cpos:Pos}{f:DF}(h:PE X (.Name x p) (i4 i)) (he:PE X e (tP X.K own f)) (hi:i∈own:=by decide)
  (hbase:attributeBase (.Name x p) "append" X.env (eval (.Name x p) X.env)=eval (.Name x p) X.env:=by rfl)
  (hfew:((backTo cpos (starEach (e::[]) X.env)).all (fun x=> !x.1)&&(backToKw cpos (keywordEach [] X.env)).all (fun x=>x.1.isSome)
   && decide ((e::[]).length+([]:List Keyword).length+(if ([]:List Keyword).isEmpty then 0 else 1)<30))=true:=by rfl)
  (hline:(apos.endLine==cpos.line)=true:=by rfl) (hs:starEach (e::[]) X.env=(false,eval e X.env)::starEach [] X.env:=by rfl) (hplain:(backTo cpos (starEach [] X.env)).any (·.1)=false:=by rfl)
  (hsw:swapsWith (.Call (.Attribute (.Name x p) "append" apos) [e] [] cpos) none pos.line X.env=pure false:=by rfl) :
  PS X (.Expr (.Call (.Attribute (.Name x p) "append" apos) [e] [] cpos) pos) (tDS X.K B oL own own (my i f)):=
 (nI (qdo plainAttrs_list PySem.F.slot_list_append PySem.F.type_list_append ko h (cz he eD hs) hbase hfew hline hs hplain) hsw).imp fun D σ H ⟨G,ρ,o,S,eq,k⟩=>by
  unfold my at eq;cases el:bH i ρ with
  | none=>rw[el] at eq;cases eq
  | some ds=>
   rw[el] at eq;cases ef:f ρ with
   | none=>simp[ef] at eq
   | some d=>
    simp only[ef,zA] at eq
    split at eq
    ·cases eq;rename_i hz;have hd:=cD el;obtain⟨a,vs,e2,e3,e4,e5,e6⟩:=S.ownL hi hd;refine⟨_,e2,.inl ⟨rfl,vs,.of e3⟩,G,ρ,d,S.gh,S.envR,ef,fun v G' H' E r =>?_⟩
     have S':=S.ext E;obtain⟨a',vs',f2,f3,f4,_⟩:=S'.ownL hi hd;rw[e2] at f2;cases f2;refine⟨a,vs',v,rfl,rfl,f3,?_,k _ G' _ (S'.mut hi hd e2 (f4.append (.cons r .nil)))⟩;rw[<- f4.length];exact zS hz dL
    ·cases eq
theorem qi1 {K:Frag}{j:Nat}{ds:List D}{d:D}{σ:St}{H G:Hp}{ρ:aA}{Q:VK}(S:SR K B own G H σ ρ) (hj:j∈own) (hd:ρ[j]?=some (some (.lst ds))) (hl:ds[ds.length-1]?=some d)
  (k:∀ v H',SR K B own G H' σ (ρ.set j (some (.lst ds.dropLast)))->Rep K G d v->Q v H'):qku K "list" qkG (i4 j) σ H Q:=by
 obtain⟨a,vs,e2,e3,e4,e5,e6⟩:=S.ownL hj hd;obtain⟨v,ev,rv⟩:=e4.get hl;rw[e4.length] at ev;exact⟨_,e2,.inl ⟨rfl,vs,.of e3⟩,a,vs,v,rfl,rfl,e3,ev,k v _ (S.mut hj hd e2 e4.dropLast) rv⟩
noncomputable def qbs (j:Nat) (fi fe:DF):DG:=fun ρ=>(fe ρ).bind fun d=>(bH j ρ).bind fun ds=>(fi ρ).bind fun k=>match k with|.int k=>(ixN ds.length k).map fun n =>.nx (ρ.set j (some (.lst (ds.set n d))))|_=>none
theorem qh6 {j:Nat}{x:Str}{p spos:Pos}{ei:Expr}{fi fe:DF}(h:PE X (.Name x p) (i4 j)) (hei:PE X ei (tQ X.K own fi)) (he:PE X e (tP X.K own fe)) (hj:j∈own:=by decide)
  (hg:∀ {to ti:TE},PE X (.Name x p) to->PE X ei ti->PG X (.Subscript (.Name x p) ei spos) (qk9 to ti qit):=by intro to ti h1 h2;exact qi4 h1 h2 qe6)
  (hs:swapsWithSole [.Subscript (.Name x p) ei spos] e pos.line X.env=pure false:=by rfl) (hw:swappedStores [.Subscript (.Name x p) ei spos] e X.env=pure none:=by rfl) :
  PS X (.Assign [.Subscript (.Name x p) ei spos] e pos) (tDS X.K B oL own own (qbs j fi fe)):=
 (qfl he (hg h hei) hs hw).imp fun D σ H ⟨G,ρ,o,S,eq,k⟩=>by
  unfold qbs at eq;cases ef:fe ρ with
  | none=>rw[ef] at eq;cases eq
  | some d=>
   rw[ef] at eq;cases el:bH j ρ with
   | none=>simp[el] at eq
   | some ds=>
    cases ei':fi ρ with
    | none=>simp[el,ei'] at eq
    | some kk=>
     simp only[el,ei',zA] at eq;cases kk<;>simp only at eq<;>try (cases eq;done)
     rename_i kk;cases en:ixN ds.length kk with
     | none=>simp[en] at eq
     | some n=>
      simp only[en,zT] at eq;cases eq;have hd:=cD el;refine⟨G,ρ,d,S.gh,S.envR,ef,fun v G' H' E r =>?_⟩
      have S':=S.ext E;obtain⟨a,vs,e2,e3,e4,e5,e6⟩:=S'.ownL hj hd;refine⟨_,e2,G',ρ,_,S'.gh,S'.envR,ei',fun u G2 H2 E2 r2 =>?_⟩
      have S2:=S'.ext E2;obtain⟨a',vs',f2,f3,f4,_⟩:=S2.ownL hj hd;rw[e2] at f2;cases f2;exact⟨a,vs',kk,n,rfl,r2.int,f3,by rw[<- f4.length];exact en,k _ G2 _ (S2.mut hj hd e2 (f4.set n (Rep.mono E2.gg d r)))⟩
end
end L2
end
noncomputable section
namespace L2
open PySem PySem.Spec PyProof.Rows
noncomputable section
variable {X:Cx}{own:List Nat}{a b e:Expr}{fa fb f:DF}{pos:Pos}
theorem IxR.imp {r r':R2}(h:IxR X r) (k:∀ x y H Q,r' x y H Q->r x y H Q):IxR X r':=fun value slice pins s σ H x y v u Q I rx ry q hs=>h value slice pins s σ H x y v u Q I rx ry (k _ _ _ _ q) hs
theorem PO.imp {e:Option Expr}{t t':TO}(h:PO X e t) (k:∀ σ H Q,t' σ H Q->t σ H Q):PO X e t':=fun pins s σ H Q I q=>h pins s σ H Q I (k _ _ _ q)
theorem f9.imp {c:Value}{r r':List V->Hp->VK->Prop}(h:f9 X c r) (k:∀ xs H Q,r' xs H Q->r xs H Q):f9 X c r':=fun pins s σ H xs us Q I rv q=>h pins s σ H xs us Q I rv (k _ _ _ q)
theorem aI.atI {K:Frag}{G:Hp}{ds:List D}{vs:List V}{i:Int}{d:D}(r:aI K G ds vs) (h:atI ds i=some d):∃ v,L2.atI vs i=some v/\Rep K G d v:=by
 unfold L2.atI at h ⊢;rw[<- r.length];cases e:ixN ds.length i with
 | none=>rw[e] at h;cases h
 | some j=>rw[e] at h;exact r.get h
theorem nO {α β:Type}(g:α->β) (xs:List α) (i:Int):atI (xs.map g) i=(atI xs i).map g:=by
 unfold atI;rw[zH];cases ixN xs.length i with
 | none=>rfl
 | some j=>simp[zM]
noncomputable def oIx:D->D->Option D
 | .lst xs,.int i=>atI xs i
 | .tup xs,.int i=>atI xs i
 | .scr ns,.int i=>(atI ns i).map .int
 | .str x,.int i=>if x.length<=cH then (atI x.cps.toList i).map fun c =>.str ⟨#[c]⟩ else none
 | _,_=>none
theorem qeF:IxR X (rD X.K oIx):=by
 refine IxR.imp qjF fun x y H Q ⟨G,d1,d2,d,gh,h1,h2,eq,q⟩ =>?_
 cases d1<;>cases d2<;>simp only[oIx] at eq<;>try (cases eq;done)
 ·split at eq
  ·rename_i z i hz;cases ei:atI z.cps.toList i with
   | none=>rw[ei] at eq;cases eq
   | some c=>rw[ei] at eq;cases eq;exact .inr (.inr ⟨z,i,c,h1.str,h2.int,yA hz dL,ei,q _ G H (.refl gh) (bG.mpr rfl)⟩)
  ·cases eq
 ·obtain⟨p,vs,ea,qa,ra⟩:=h1.lst gh;obtain⟨v,ev,rv⟩:=ra.atI eq;exact .inl ⟨p,vs,_,v,ea,h2.int,.of qa,ev,q _ G H (.refl gh) rv⟩
 ·obtain⟨p,vs,ea,qa,ra⟩:=h1.tup gh;obtain⟨v,ev,rv⟩:=ra.atI eq;exact .inr (.inl ⟨p,vs,_,v,ea,h2.int,.of qa,ev,q _ G H (.refl gh) rv⟩)
 ·rename_i ns i;obtain⟨p,ea,qa⟩:=h1.scr gh;cases ei:atI ns i with
  | none=>rw[ei] at eq;cases eq
  | some c=>rw[ei] at eq;cases eq;exact .inl ⟨p,_,_,.int c,ea,h2.int,qa,by rw[nO,ei];rfl,q _ G H (.refl gh) (bh.mpr rfl)⟩
theorem bU (ha:PE X a (tQ X.K own fa)) (hb:PE X b (tQ X.K own fb)) (hs:qa9 b:=by exact fun _ _=>rfl):PE X (.Subscript a b pos) (tP X.K own (e2 oIx fa fb)):=(qiv qeF ha hb hs).imp fun σ H Q h=>qdk h
noncomputable abbrev DP:=aA->Option (Option Int)
noncomputable def pN:DP:=fun _=>some none
noncomputable def pS (f:DF):DP:=fun ρ=>(f ρ).bind fun d=>match d with|.int i=>some (some i)|_=>none
theorem qhq {f:DF}{ρ:aA}{o:Option Int}(h:pS f ρ=some o):∃ i,f ρ=some (.int i)/\o=some i:=by
 unfold pS at h;cases e:f ρ with
 | none=>rw[e] at h;cases h
 | some d=>rw[e] at h;cases d<;>first|(cases h;exact⟨_,rfl,rfl⟩)|cases h
noncomputable def tPO (K:Frag) (own:List Nat) (f:DP):TO:=fun σ H Q=>∃ G ρ o,aZ G H/\i3 K own G H σ ρ/\f ρ=some o/\∀ G' H',Ext G H G' H'->Q o H'
theorem dA:PO X none (tPO X.K own pN):=qhi.imp fun σ H Q ⟨G,ρ,o,gh,env,eq,k⟩=>by cases eq;exact k G H (.refl gh)
theorem au (h:PE X e (tQ X.K own f)):PO X (some e) (tPO X.K own (pS f)):=(qhh h).imp fun σ H Q ⟨G,ρ,o,gh,env,eq,k⟩=>by
 obtain⟨i,ei,rfl⟩:=qhq eq;exact⟨G,ρ,_,gh,env,ei,fun v G1 H1 E1 r1=>⟨i,r1.int,k G1 H1 E1⟩⟩
noncomputable def cut {α:Type}(xs:List α) (lo hi:Option Int):List α:=(xs.drop (HT.sIx xs.length 0 lo)).take (HT.sIx xs.length xs.length hi-HT.sIx xs.length 0 lo)
theorem aI.cut {K:Frag}{G:Hp}{ds:List D}{vs:List V}(r:aI K G ds vs) (lo hi:Option Int):aI K G (cut ds lo hi) (qb0 vs lo hi):=by
 unfold L2.cut qb0;rw[<- r.length];exact(r.drop _).take _
noncomputable def fSl (f:DF) (lo hi:DP):DL:=fun ρ=>(f ρ).bind fun d=>(lo ρ).bind fun l=>(hi ρ).bind fun h=>match d with|.lst xs=>some (cut xs l h)|.scr ns=>some ((cut ns l h).map D.int)|_=>none
variable {lo hi:Option Expr}{l h:DP}{p2:Pos}
theorem qjU (he:PE X e (tQ X.K own f)) (hl:PO X lo (tPO X.K own l)) (hu:PO X hi (tPO X.K own h)):PE X (.Subscript e (.Slice lo hi none p2) pos) (tF X.K own (fSl f l h)):=(om qg0 he hl hu).imp fun σ H Q ⟨G,ρ,ds,gh,env,eq,k⟩=>by
 unfold fSl at eq;cases ef:f ρ with
 | none=>rw[ef] at eq;cases eq
 | some d=>
  cases el:l ρ with
  | none=>simp[ef,el] at eq
  | some lv=>
   cases eh:h ρ with
   | none=>simp[ef,el,eh] at eq
   | some hv=>
    simp only[ef,el,eh,zA] at eq;refine⟨G,ρ,d,gh,env,ef,fun v G1 H1 E1 r1=>⟨G1,ρ,lv,E1.gh,env.ext E1,el,fun G2 H2 E2=>⟨G2,ρ,hv,E2.gh,(env.ext E1).ext E2,eh,fun G3 H3 E3 =>?_⟩⟩⟩
    have E:=(E1.trans E2).trans E3;have r3:=r1.ext (E2.trans E3);cases d<;>simp only at eq<;>try (cases eq;done)
    ·cases eq;obtain⟨p,vs,ea,qa,ra⟩:=r3.lst E3.gh;exact⟨p,vs,ea,.of qa,fun q hq=>k q _ G3 _ (E.trans (Ext.lay (p:=q) E3.gh hq)) (E.hh.free hq) (E3.gh.free hq) aB (ra.cut _ _)⟩
    ·cases eq;rename_i ns;obtain⟨p,ea,qa⟩:=r3.scr E3.gh;refine⟨p,_,ea,qa,fun q hq=>k q _ G3 _ (E.trans (Ext.lay (p:=q) E3.gh hq)) (E.hh.free hq) (E3.gh.free hq) aB ?_⟩
     have:qb0 (ns.map V.int) lv hv=(cut ns lv hv).map V.int:=by unfold qb0 cut;rw[zH,<- List.map_drop,<- List.map_take]
     rw[this];exact aI.ints _
theorem qe1:SlR X (fun x lo hi H Q=>∃ z,x=.str z/\z.length<=sizeLine/\Q (.str (Txt.slice z lo hi)) H):=by
 intro pins s σ H x v vl vu lo hi sl Q I rx hs pl pu ⟨z,ez,hz,q⟩;subst ez;obtain⟨t,rfl⟩:=rx;refine⟨"str",_,F.slot_str_getitem.lookup,typeIs_str _ _ _,?_⟩;have fin:∀ (l u:Option (Int×Tok)),vl=partValue l->vu=partValue u->l.map (·.1)=lo->u.map (·.1)=hi->wpAny (model X.prog X.w) X.A (getItem (.str z t) (.ref sl)) (EP X pins σ Q) X.xe s:=fun l u e1 e2 e3 e4=>by subst e1 e2 e3 e4;exact wpAny_getItem_str_slice (l:=l) (u:=u) (st:=none) hs rfl (post_val_or_str ⟨yA (Txt.slice_le z _ _) hz,fun t' k=>⟨.str _,H,I.tok _,⟨_,rfl⟩,q⟩⟩)
 cases pl with
 | none=>
  cases pu with
  | none=>exact fin none none rfl rfl rfl rfl
  | int j u=>exact fin none (some (j,u)) rfl rfl rfl rfl
 | int i t1=>
  cases pu with
  | none=>exact fin (some (i,t1)) none rfl rfl rfl rfl
  | int j u=>exact fin (some (i,t1)) (some (j,u)) rfl rfl rfl rfl
noncomputable def aW (f:DF) (lo hi:DP):DF:=fun ρ=>(f ρ).bind fun d=>(lo ρ).bind fun l=>(hi ρ).bind fun h=>match d with|.str x=>if x.length<=cH then some (.str (Txt.slice x l h)) else none|_=>none
theorem bt (he:PE X e (tQ X.K own f)) (hl:PO X lo (tPO X.K own l)) (hu:PO X hi (tPO X.K own h)):PE X (.Subscript e (.Slice lo hi none p2) pos) (tP X.K own (aW f l h)):=(om qe1 he hl hu).imp fun σ H Q ⟨G,ρ,ds,gh,env,eq,k⟩=>by
 unfold aW at eq;cases ef:f ρ with
 | none=>rw[ef] at eq;cases eq
 | some d=>
  cases el:l ρ with
  | none=>simp[ef,el] at eq
  | some lv=>
   cases eh:h ρ with
   | none=>simp[ef,el,eh] at eq
   | some hv=>
    simp only[ef,el,eh,zA] at eq;refine⟨G,ρ,d,gh,env,ef,fun v G1 H1 E1 r1=>⟨G1,ρ,lv,E1.gh,env.ext E1,el,fun G2 H2 E2=>⟨G2,ρ,hv,E2.gh,(env.ext E1).ext E2,eh,fun G3 H3 E3 =>?_⟩⟩⟩
    have E:=(E1.trans E2).trans E3;cases d<;>simp only at eq<;>try (cases eq;done)
    split at eq
    ·cases eq;rename_i hz;exact⟨_,r1.str,yA hz dL,k _ G3 H3 E (bG.mpr rfl)⟩
    ·cases eq
noncomputable def al (o:List D->Option D) (g:DL):DF:=fun ρ=>(g ρ).bind o
theorem oP {o:List D->Option D}{g:DL}{ρ:aA}{d:D}(h:al o g ρ=some d):∃ xs,g ρ=some xs/\o xs=some d:=by
 unfold al at h;cases ea:g ρ with
 | none=>rw[ea] at h;cases h
 | some x=>rw[ea] at h;exact⟨x,rfl,h⟩
noncomputable def rC (K:Frag) (o:List D->Option D):List V->Hp->VK->Prop:=fun xs H Q=>∃ G ds d,aZ G H/\nj K G H ds xs/\o ds=some d/\∀ v G' H',Ext G H G' H'->Rep K G' d v->Q v H'
theorem qis {K:Frag}{o:List D->Option D}{g:DL}{σ:St}{H:Hp}{Q:VK}(h:tP K own (al o g) σ H Q):tCB (rC K o) (tQA K own g) σ H Q:=by
 obtain⟨G,ρ,d,gh,env,eq,k⟩:=h;obtain⟨xs,ex,eo⟩:=oP eq;exact⟨G,ρ,xs,gh,env,ex,fun vs G1 H1 E1 r1=>⟨G1,xs,d,E1.gh,r1,eo,fun v G2 H2 E2 r2=>k v G2 H2 (E1.trans E2) r2⟩⟩
theorem nj.one {K:Frag}{G H:Hp}{d:D}{vs:List V}(r:nj K G H [d] vs):∃ v,vs=[v]/\eN K G H d v:=by
 cases r with
 | cons r t=>cases t;exact⟨_,rfl,r⟩
noncomputable def bF:List D->Option D
 | [.lst xs]=>some (.int xs.length)
 | [.tup xs]=>some (.int xs.length)
 | [.scr xs]=>some (.int xs.length)
 | [.str x]=>if x.length<=cH then some (.int x.length) else none
 | _=>none
theorem qj0:f9 X (.builtin "len") (rC X.K bF):=by
 refine f9.imp (qa1.or qa0) fun vs H Q ⟨G,ds,d,gh,r,eq,q⟩ =>?_
 unfold bF at eq
 split at eq
 ·cases eq;obtain⟨v,rfl,r1⟩:=r.one;obtain⟨p,us,rfl,qa,ra⟩:=r1.lst gh;refine .inl ⟨p,us,rfl,.inl (.of qa),?_⟩;rw[<- ra.length];exact q _ G H (.refl gh) (bh.mpr rfl)
 ·cases eq;obtain⟨v,rfl,r1⟩:=r.one;obtain⟨p,us,rfl,qa,ra⟩:=r1.tup gh;refine .inl ⟨p,us,rfl,.inr (.of qa),?_⟩;rw[<- ra.length];exact q _ G H (.refl gh) (bh.mpr rfl)
 ·cases eq;obtain⟨v,rfl,r1⟩:=r.one;obtain⟨p,rfl,qa⟩:=r1.scr gh;refine .inl ⟨p,_,rfl,.inl qa,?_⟩;rw[zH];exact q _ G H (.refl gh) (bh.mpr rfl)
 ·split at eq
  ·cases eq;rename_i hz;obtain⟨v,rfl,r1⟩:=r.one;exact .inr ⟨_,by rw[r1.str],yA hz dL,q _ G H (.refl gh) (bh.mpr rfl)⟩
  ·cases eq
 ·cases eq
variable {p:Pos}{x:Str}{es:List Expr}{g:DL}
theorem qbX {id:String}{o:List D->Option D}(hc:f9 X (.builtin id) (rC X.K o)) (hg:Gl X x) (hm:X.mg x=none) (hv:bootBuiltins x=some (.builtin id)) (ha:PA X (e::es) (tQA X.K own g)) (hn:x ≠ "__name__" :=by decide) (hdb:(x==("__debug__" : Str))=false:=by decide)
  (he:starEach (e::es) X.env=(false,eval e X.env)::starEach es X.env:=by rfl) (hpl:(backTo pos (starEach es X.env)).any (·.1)=false:=by rfl):PE X (.Call (.Name x p) (e::es) [] pos) (tP X.K own (al o g)):=
 (on hc hg hm hv ha hn hdb he hpl).imp fun σ H Q h=>qis h
theorem fj (hg:Gl X "len") (hm:X.mg "len" = none) (h:PE X e (tQ X.K own f)) (hs:starEach (e::[]) X.env=(false,eval e X.env)::starEach [] X.env:=by rfl):PE X (.Call (.Name "len" p) [e] [] pos) (tP X.K own (al bF (aC f aN))):=
 qbX qj0 hg hm PySem.boot_len (oQ h qaX hs) (by decide) (by decide) hs rfl
noncomputable def isT (T:String):D->Bool
 | .non=>T == "NoneType"
 | .bl _=>T == "bool" || T == "int"
 | .int _=>T == "int"
 | .str _=>T == "str"
 | .lst _=>T == "list"
 | .scr _=>T == "list"
 | .tup _=>T == "tuple"
 | .ins _ _ _=>false
 | .dic _ _=>T == "dict"
noncomputable def qdA:List String:=["bool", "int", "str", "list", "tuple"]
noncomputable def eIs (T:String) (f:DF):DF:=fun ρ=>(f ρ).bind fun d=>match d with|.scr _=>none|.ins _ _ _=>none|.dic _ _=>none|d=>some (.bl (isT T d))
theorem qhT:∀ T∈qdA,∀ (K:Frag),kitOne K (.type "NoneType") (.type T)=some (isT T .non)/\kitOne K (.type "bool") (.type T)=some (isT T (.bl true))/\kitOne K (.type "int") (.type T)=some (isT T (.int 0)) /\
  kitOne K (.type "str") (.type T)=some (isT T (.str Str.empty))/\kitOne K (.type "list") (.type T)=some (isT T (.lst []))/\kitOne K (.type "tuple") (.type T)=some (isT T (.tup [])):=by
 intro T hT K;simp only[qdA,zG,List.not_mem_nil,or_false] at hT;rcases hT with rfl|rfl|rfl|rfl|rfl<;>exact⟨by kernel_rfl,by kernel_rfl,by kernel_rfl,by kernel_rfl,by kernel_rfl,by kernel_rfl⟩
theorem qes (T:String) (hT:T∈qdA):f9 X (.builtin "isinstance") (fun xs H Q=>∃ G d v,aZ G H/\xs=[v,.ty T]/\eN X.K G H d v/\(∀ ns,d ≠ .scr ns)/\(∀ c ks zs,d ≠ .ins c ks zs)/\(∀ ks zs,d ≠ .dic ks zs)/\Q (.bl (isT T d)) H):=by
 intro pins s σ H xs us Q I rv ⟨G,d,v,gh,e,r,hn,hni,hnd,q⟩;subst e;obtain⟨u,c,rfl,ru,rc⟩:=bd.two rv;cases rc;obtain⟨k1,k2,k3,k4,k5,k6⟩:=qhT T hT X.K;have fin:∀ tk,EP X pins σ Q (.bool (isT T d)) { s with toks:=tk }:=fun tk=>⟨.bl _,H,I.tok _,rfl,q⟩
 cases d with
 | non=>have:=r.non;subst this;exact gk I ru (.non) k1 fin
 | bl b=>have:=r.bl;subst this;exact gk I ru (.bl b) k2 fin
 | int i=>have:=r.int;subst this;exact gk I ru (.int i) k3 fin
 | str i=>have:=r.str;subst this;exact gk I ru (.str i) k4 fin
 | lst ds=>obtain⟨a,vs,rfl,qa,_⟩:=r.lst gh;exact gk I ru (.lst qa) k5 fin
 | tup ds=>obtain⟨a,vs,rfl,qa,_⟩:=r.tup gh;exact gk I ru (.tup qa) k6 fin
 | scr ns=>exact absurd rfl (hn ns)
 | ins c ks zs=>exact absurd rfl (hni c ks zs)
 | dic ks zs=>exact absurd rfl (hnd ks zs)
theorem fN {T:String}{y:Str}{p':Pos}(hT:T∈qdA) (hg:Gl X "isinstance") (hm:X.mg "isinstance" = none) (hgT:Gl X y) (hmT:X.mg y=none) (hvT:bootBuiltins y=some (.type T)) (h:PE X e (tQ X.K own f)) (hnT:y ≠ "__name__" :=by decide) (hdT:(y==("__debug__" : Str))=false:=by decide)
  (hs:starEach (e::[.Name y p']) X.env=(false,eval e X.env)::starEach [.Name y p'] X.env:=by rfl) (hs2:starEach [.Name y p'] X.env=(false,eval (.Name y p') X.env)::starEach [] X.env:=by rfl) (hpl:(backTo pos (starEach [.Name y p'] X.env)).any (·.1)=false:=by rfl) :
  PE X (.Call (.Name "isinstance" p) [e,.Name y p'] [] pos) (tP X.K own (eIs T f)):=
 (on (qes T hT) hg hm PyProof.Rows.boot_isinstance (cz h (cz (qdp (v :=.ty T) hgT hmT hvT rfl hnT hdT) eD hs2) hs) (by decide) (by decide) hs hpl).imp fun σ H Q ⟨G,ρ,d,gh,env,eq,k⟩=>by
  unfold eIs at eq;cases ef:f ρ with
  | none=>rw[ef] at eq;cases eq
  | some c=>
   rw[ef] at eq;have hn:∀ ns,c ≠ .scr ns:=fun ns z=>by subst z;cases eq
   have hni:∀ c1 ks zs,c ≠ .ins c1 ks zs:=fun c1 ks zs z=>by subst z;cases eq
   have hnd:∀ ks zs,c ≠ .dic ks zs:=fun ks zs z=>by subst z;cases eq
   have ed:d=.bl (isT T c):=by cases c<;>first|(cases eq;rfl)|cases eq
   subst ed;exact⟨G,ρ,c,gh,env,ef,fun v G1 H1 E1 r1=>⟨G1,c,v,E1.gh,rfl,r1,hn,hni,hnd,k _ G1 H1 E1 (bz.mpr rfl)⟩⟩
noncomputable def jo:D->D->Option D
 | .non,.non=>some (.bl true)
 | _,.non=>some (.bl false)
 | _,_=>none
theorem ld:OpD X (compareOp .Is) jo:=OpR.imp qjg fun x y H Q ⟨G,d1,d2,d,gh,h1,h2,eq,q⟩=>by
 cases d2<;>simp only[jo] at eq<;>try (cases d1<;>cases eq;done)
 refine⟨h2.non,?_⟩;cases d1 with
 | non=>cases eq;rw[h1.non];exact q _ G H (.refl gh) (bz.mpr rfl)
 | bl b=>cases eq;rw[h1.bl];exact q _ G H (.refl gh) (bz.mpr (by simp))
 | int b=>cases eq;rw[h1.int];exact q _ G H (.refl gh) (bz.mpr (by simp))
 | str b=>cases eq;rw[h1.str];exact q _ G H (.refl gh) (bz.mpr (by simp))
 | lst b=>cases eq;obtain⟨a,vs,rfl,_⟩:=h1.lst gh;exact q _ G H (.refl gh) (bz.mpr (by simp))
 | tup b=>cases eq;obtain⟨a,vs,rfl,_⟩:=h1.tup gh;exact q _ G H (.refl gh) (bz.mpr (by simp))
 | scr b=>cases eq;obtain⟨a,rfl,_⟩:=h1.scr gh;exact q _ G H (.refl gh) (bz.mpr (by simp))
 | ins c ks zs=>cases eq;obtain⟨a,rfl⟩:=h1.ins;exact q _ G H (.refl gh) (bz.mpr (by simp))
 | dic ks zs=>cases eq;obtain⟨a,rfl⟩:=h1.dic;exact q _ G H (.refl gh) (bz.mpr (by simp))
noncomputable def jN (f:DF):DT:=fun ρ=>(f ρ).bind fun d=>match d with
 | .non=>some false
 | .bl b=>some b
 | .int i=>some (i != 0)
 | .str y=>if y.length<=cH then some ((y.length:Int) != 0) else none
 | .lst xs=>some (!xs.isEmpty)
 | .tup xs=>some (!xs.isEmpty)
 | .scr xs=>some (!xs.isEmpty)
 | .ins _ _ _=>none
 | .dic _ _=>none
theorem aI.empty {K:Frag}{G:Hp}{ds:List D}{vs:List V}(r:aI K G ds vs):ds.isEmpty=vs.isEmpty:=by
 have:=r.length;cases ds<;>cases vs<;>simp at this ⊢
theorem i9 (h:PE X e (tQ X.K own f)) (he:∀ whole,isTrue e X.env whole=(do let v <- whole;standAt e.pos;holding [v] (truthy v)):=by intro _;rfl):PT X e (tPT X.K own (jN f)):=(qff h he).imp fun σ H Q ⟨G,ρ,b,gh,env,eq,k⟩=>by
 unfold jN at eq;cases ef:f ρ with
 | none=>rw[ef] at eq;cases eq
 | some c=>
  rw[ef] at eq;refine⟨G,ρ,c,gh,env,ef,fun v G1 H1 E1 r1=>⟨b,?_,k G1 H1 E1⟩⟩
  cases c with
  | non=>cases eq;rw[r1.non];rfl
  | bl b=>cases eq;rw[r1.bl];rfl
  | int b=>cases eq;rw[r1.int];rfl
  | str y=>
   rw[r1.str];have eq:(if y.length<=cH then some ((y.length:Int) != 0) else none)=some b:=eq
   split at eq
   ·cases eq;rename_i hz;exact⟨yA hz dL,rfl⟩
   ·cases eq
  | lst xs=>cases eq;obtain⟨a,vs,rfl,qa,ra⟩:=r1.lst E1.gh;exact .inl ⟨vs,.of qa,by rw[ra.empty]⟩
  | tup xs=>cases eq;obtain⟨a,vs,rfl,qa,ra⟩:=r1.tup E1.gh;exact .inr (.inl ⟨vs,.of qa,by rw[ra.empty]⟩)
  | scr xs=>cases eq;obtain⟨a,rfl,qa⟩:=r1.scr E1.gh;exact .inl ⟨_,qa,by simp⟩
  | ins c ks zs=>cases eq
  | dic ks zs=>cases eq
end
end L2
end
noncomputable section
namespace L2
open PySem PySem.Spec PyProof.Rows
structure qeB (K:Frag) (G0:Hp) (J:It) (ds:List D):Prop where
 go:∀ i H,aZ G0 H->i<ds.length->J.go i H
 stop:∀ i H,aZ G0 H->ds.length<=i->J.stop i H
 yld:∀ (i:Nat) (H:Hp) (x:V) (H' G:Hp) (d:D),aZ G0 G->aZ G H->J.yld i H x H'->ds[i]?=some d->∃ G',Ext G H G' H'/\Rep K G' d x
noncomputable def tPI (K:Frag) (own:List Nat) (f:DL):TI:=fun σ H R=>∃ G ρ ds,aZ G H/\i3 K own G H σ ρ/\f ρ=some ds/\∀ J G' H',Ext G H G' H'->qeB K G' J ds->R J H'
noncomputable section
variable {X:Cx}{own:List Nat}{tg e:Expr}{f:DF}
theorem PI.imp {iter:Expr}{t t':TI}(h:PI X tg iter t) (k:∀ σ H R,t' σ H R->t σ H R):PI X tg iter t':=fun pins s σ H R I q=>h pins s σ H R I (k _ _ _ q)
noncomputable def iL (f:DF):DL:=fun ρ=>(f ρ).bind fun d=>match d with|.lst xs=>some xs|_=>none
theorem qhY {f:DF}{ρ:aA}{ds:List D}(h:iL f ρ=some ds):f ρ=some (.lst ds):=by
 unfold iL at h;cases e:f ρ with
 | none=>rw[e] at h;cases h
 | some d=>rw[e] at h;cases d<;>first|(cases h;rfl)|cases h
theorem qel {K:Frag}{G:Hp}{a:Addr}{vs:List V}{ds:List D}(ha:G a=some (.lst vs)) (r:aI K G ds vs):qeB K G (Itl K a) ds:=by
 refine⟨fun i H s hi =>?_,fun i H s hi=>⟨vs,.of (s _ _ ha),by rw[<- r.length];exact hi⟩,fun i H x H' G1 d s1 s2 ⟨e,y⟩ hd =>?_⟩
 ·have hi':i<vs.length:=by rw[<- r.length];exact hi
  exact⟨vs,vs[i],.of (s _ _ ha),by simp[hi']⟩
 ·subst e;have hx:=y vs (.of (s2 _ _ (s1 _ _ ha)));obtain⟨v,ev,rv⟩:=r.get hd;rw[hx] at ev;cases ev;exact⟨G1,.refl s2,Rep.mono s1 d rv⟩
theorem mh (h:PE X e (tP X.K own f)):PI X tg e (tPI X.K own (iL f)):=(qhj h).imp fun σ H R ⟨G,ρ,ds,gh,env,eq,k⟩=>by
 refine⟨G,ρ,_,gh,env,qhY eq,fun v G1 H1 E1 r1 =>?_⟩
 obtain⟨a,vs,rfl,ga,ra⟩:=cp.mp r1;exact⟨a,rfl,⟨vs,.of (E1.gh _ _ ga)⟩,k _ G1 H1 E1 (qel ga ra)⟩
noncomputable def gi (lo:Int) (n:Nat):List D:=(List.range n).map fun (k:Nat) =>.int (lo+(k:Int))
theorem oE {K:Frag}{G:Hp}(lo:Int) (n:Nat):qeB K G (Itr lo n) (gi lo n):=by
 have hl:(gi lo n).length=n:=by simp[gi]
 refine⟨fun i H s hi=>by rw[hl] at hi;exact hi,fun i H s hi=>by rw[hl] at hi;exact hi,fun i H x H' G1 d s1 s2 ⟨e,y⟩ hd =>?_⟩
 subst e;refine⟨G1,.refl s2,?_⟩;unfold gi at hd;rw[zM] at hd;cases q:(List.range n)[i]? with
 | none=>rw[q] at hd;cases hd
 | some j=>
  rw[q] at hd;cases hd;have:j=i:=by obtain⟨h1,h2⟩:=zC.mp q;simpa using h2.symm
  subst this;exact bh.mpr y
noncomputable def iR1 (f:DF):DL:=fun ρ=>(f ρ).bind fun d=>match d with|.int j=>if -(2 ^ 62)<=j/\j<2 ^ 62 then some (gi 0 j.toNat) else none|_=>none
theorem gm {p pos:Pos}(hg:Gl X "range") (hm:X.mg "range" = none) (h:PE X e (tQ X.K own f)) (hs:starEach [e] X.env=(false,eval e X.env)::starEach [] X.env:=by rfl) (hs2:starEach [e] X.env=[(false,eval e X.env)]:=by rfl):PI X tg (.Call (.Name "range" p) [e] [] pos) (tPI X.K own (iR1 f)):=
 (pH hg hm (cz h eD hs) hs2).imp fun σ H R ⟨G,ρ,ds,gh,env,eq,k⟩=>by
  unfold iR1 at eq;cases ef:f ρ with
  | none=>rw[ef] at eq;cases eq
  | some d=>
   rw[ef] at eq;cases d<;>simp only[zA] at eq<;>try (cases eq;done)
   split at eq
   ·cases eq;rename_i j hj;exact⟨G,ρ,_,gh,env,ef,fun v G1 H1 E1 r1=>⟨j,by rw[r1.int],hj.1,hj.2,k _ G1 H1 E1 (oE 0 j.toNat)⟩⟩
   ·cases eq
noncomputable def iR2 (f g:DF):DL:=fun ρ=>(f ρ).bind fun d=>(g ρ).bind fun c=>match d,c with|.int i,.int j=>if -(2 ^ 62)<=i/\i<2 ^ 62 /\ -(2 ^ 62)<=j/\j<2 ^ 62 then some (gi i (j-i).toNat) else none|_,_=>none
end
noncomputable abbrev DTg:=D->aA->Option aA
noncomputable def tTG (K:Frag) (B:Bs) (own:List Nat) (τ:DTg):TG:=fun v σ H Q=>∃ G ρ d ρ',SR K B own G H σ ρ/\Rep K G d v/\τ d ρ=some ρ'/\∀ σ' G' H',SR K B own G' H' σ' ρ'->Q σ' H'
noncomputable def tTE (K:Frag) (own:List Nat) (τ:DTg):TG:=fun v σ H Q=>∃ G ρ d ρ',aZ G H/\i3 K own G H σ ρ/\Rep K G d v/\τ d ρ=some ρ'/\∀ σ' G' H',Ext G H G' H'->i3 K own G' H' σ' ρ'->Q σ' H'
noncomputable section
variable {X:Cx}{B:Bs}{own:List Nat}
theorem PG.imp {tg:Expr}{t t':TG}(h:PG X tg t) (k:∀ v σ H Q,t' v σ H Q->t v σ H Q):PG X tg t':=fun pins s σ H v u Q I r q=>h pins s σ H v u Q I r (k _ _ _ _ q)
noncomputable def gN (i:Nat):DTg:=fun d ρ=>some (ρ.set i (some d))
theorem jx {i:Nat}{tg:Expr}(h:PG X tg (jE i)) (hi:i∉own:=by decide):PG X tg (tTG X.K B own (gN i)):=h.imp fun v σ H Q ⟨G,ρ,d,ρ',S,r,eq,k⟩=>by
 cases eq;exact k _ G H (S.setS hi r)
theorem i3.set {K:Frag}{G H:Hp}{σ:St}{ρ:aA}{i:Nat}{d:D}{v:V}(h:i3 K own G H σ ρ) (hi:i∉own) (r:Rep K G d v):i3 K own G H (σ.set i (some v)) (ρ.set i (some d)):=
 ⟨by simp[h.len],fun j c e=>by
  rcases fV e with ⟨rfl,rfl,hl⟩|⟨hne,e⟩
  ·exact⟨v,lX (by rw[h.len];exact hl),by rw[if_neg hi];exact r⟩
  ·obtain⟨u,e1,e2⟩:=h.get j c e;exact⟨u,by rw[zK hne];exact e1,e2⟩⟩
noncomputable def gN2 (i j:Nat):DTg:=fun d ρ=>match d with|.tup [a,b]=>some ((ρ.set i (some a)).set j (some b))|_=>none
theorem qga {i j:Nat}{d:D}{ρ ρ':aA}(h:gN2 i j d ρ=some ρ'):∃ a b,d=.tup [a,b]/\ρ'=(ρ.set i (some a)).set j (some b):=by
 unfold gN2 at h
 split at h
 ·cases h;exact⟨_,_,rfl,rfl⟩
 ·cases h
theorem qg8 {K:Frag}{G:Hp}{a b:D}{v:V}(r:Rep K G (.tup [a,b]) v):∃ p x y,v=.ref p/\G p=some (.tup [x,y])/\Rep K G a x/\Rep K G b y:=by
 obtain⟨p,vs,e,g,rs⟩:=dm.mp r;obtain⟨x,r1,rfl,rx,t⟩:=be.mp rs;obtain⟨y,r2,rfl,ry,t⟩:=be.mp t;rw[c6.mp t] at g;exact⟨p,x,y,e,g,rx,ry⟩
theorem lu {i j:Nat}{tg:Expr}(h:PG X tg (qjI X.K 2 (pR (jE i) (pR (jE j) qjJ)))) (hi:i∉own:=by decide) (hj:j∉own:=by decide):PG X tg (tTG X.K B own (gN2 i j)):=h.imp fun v σ H Q ⟨G,ρ,d,ρ',S,r,eq,k⟩=>by
 obtain⟨a,b,rfl,rfl⟩:=qga eq;obtain⟨p,x,y,rfl,g,rx,ry⟩:=qg8 r;exact⟨p,_,rfl,.of (S.gh _ _ g),rfl,x,_,rfl,y,_,rfl,rfl,k _ G H ((S.setS hi rx).setS hj ry)⟩
end
noncomputable def iT (τ:DTg) (g:DG):List D->aA->Option DO
 | [],ρ=>some (.nx ρ)
 | d::ds,ρ=>(τ d ρ).bind fun ρ1=>(g ρ1).bind fun o=>match o with
  | .nx ρ2=>iT τ g ds ρ2
  | .ct ρ2=>iT τ g ds ρ2
  | .bk ρ2=>some (.nx ρ2)
  | .rt d=>some (.rt d)
  | .ro d=>some (.ro d)
  | .rm d ρ=>some (.rm d ρ)
  | .ex c n=>some (.ex c n)
noncomputable def gx (f:DL) (τ:DTg) (g:DG):DG:=fun ρ=>(f ρ).bind fun ds=>iT τ g ds ρ
noncomputable section
variable {K:Frag}{B:Bs}{own:List Nat}{G H G1 H1:Hp}{σ σ1:St}{ρ ρ1:aA}
theorem SR.rebase (S1:SR K B own G1 H1 σ1 ρ1) (S:SR K B own G H σ ρ) (s:aZ G1 G):SR K ⟨G1,B.2,B.3,B.4⟩ own G H σ ρ:=
 ⟨S.gh,s,S.h0,fun b o e=>by
  rcases S.fr b o e with z|z
  ·exact .inl (S1.g0 b o z)
  ·exact .inr z,S.env,S.ownd,S.inj,S.len,S.pin⟩
theorem SR.unbase (S1:SR K B own G1 H1 σ1 ρ1) (S:SR K ⟨G1,B.2,B.3,B.4⟩ own G H σ ρ):SR K B own G H σ ρ:=
 ⟨S.gh,S1.g0.trans S.g0,S.h0,fun b o e=>by
  rcases S.fr b o e with z|z
  ·exact S1.fr b o z
  ·exact .inr z,S.env,S.ownd,S.inj,S.len,S.pin⟩
theorem SR.unbase' {o7:List Nat}(S1:SR K B own G1 H1 σ1 ρ1) (S:SR K ⟨G1,B.2,B.3,B.4⟩ o7 G H σ ρ):SR K B o7 G H σ ρ:=
 ⟨S.gh,S1.g0.trans S.g0,S.h0,fun b o e=>by
  rcases S.fr b o e with z|z
  ·exact S1.fr b o z
  ·exact .inr z,S.env,S.ownd,S.inj,S.len,S.pin⟩
theorem Ext.unbase (S1:SR K B own G1 H1 σ1 ρ1) (E:Ext G1 B.2 G H):Ext B.1 B.2 G H:=
 ⟨E.hh,S1.g0.trans E.gg,E.gh,fun b o e=>by
  rcases E.fr b o e with z|z
  ·exact S1.fr b o z
  ·exact .inr z⟩
end
noncomputable section
variable {X:Cx}{B:Bs}{oL own:List Nat}{tg iter:Expr}{f:DL}{τ:DTg}{g:DG}{body:List Stmt}{pos:Pos}
noncomputable def tMI (K:Frag) (B:Bs) (own:List Nat) (f:aA->Option (List D×aA)):TI:=fun σ H R=>∃ G ρ ds ρ',SR K B own G H σ ρ/\f ρ=some (ds,ρ')/\∀ J G' H',SR K B own G' H' σ ρ'->qeB K G' J ds->R J H'
noncomputable def og (f:aA->Option (List D×aA)) (τ:DTg) (g:DG):DG:=fun ρ=>(f ρ).bind fun p=>iT τ g p.1 p.2
theorem qbU {f:aA->Option (List D×aA)}(hp:PassesOwn (model X.prog X.w) X.A X.env X.xe) (hc:X.calm=true) (hi:PI X tg iter (tMI X.K B own f)) (hg:∀ C:Bs,C.3=B.3->PG X tg (tTG X.K C own τ)) (hb:∀ C:Bs,C.3=B.3->C.2=B.2/\C.4=B.4->PSs X body (tDS X.K C own own own g))
  (hs:∀ x,foldedSetIterable iter X.env x=pure x:=by intro _;rfl):PS X (.For tg iter body [] pos) (tDS X.K B oL own own (og f τ g)):=by
 intro pins s σ H D' I ⟨G,ρ,o,S,eq,k⟩;unfold og at eq;cases ef:f ρ with
 | none=>rw[ef] at eq;cases eq
 | some dρ=>
  obtain⟨ds,ρ0⟩:=dρ;rw[ef] at eq;have eq:iT τ g ds ρ0=some o:=eq;refine wpAny_For (thn (hi pins s σ H (fun J H1=>∃ G1,SR X.K B own G1 H1 σ ρ0/\qeB X.K G1 J ds) I ⟨G,ρ,ds,ρ0,S,ef,fun J G1 H1 S1 ok=>⟨G1,S1,ok⟩⟩) fun v s1 h1=>thn h1 fun itv s2 h2 =>?_) hs
  obtain⟨it,fp,tn,J,H2,e,I2,T,st2,f2,G1,S1,ok⟩:=h2;subst e;have stat:∀ {H':Hp},(∀ b∈fp,H' b=none)->∀ b∈fp,qb6 X pins H' b:=fun hn b hb=>⟨hn b hb,(f2 b hb).2⟩
  have endN:∀ (ρ':aA) (σ':St) (H' G':Hp) (cm:List D),SR X.K ⟨G1,B.2,B.3,B.4⟩ own G' H' σ' ρ'->True:=fun _ _ _ _ _ _=>trivial
  refine codeAny_forLoop_any (fun n s'=>∃ i σ' H' G' ρ',Inv X pins σ' H' s'/\tn i s'.heap/\(∀ b∈fp,H' b=none)/\n=ds.length-i/\i<=ds.length/\SR X.K ⟨G1,B.2,B.3,B.4⟩ own G' H' σ' ρ'/\iT τ g (ds.drop i) ρ'=some o) ?_ ds.length
   ⟨0,σ,H2,G1,ρ0,I2,st2,fun b hb=>(f2 b hb).1,rfl,Nat.zero_le _,S1.rebase S1 (aZ.refl _),eq⟩
  rintro n s3 ⟨i,σ3,H3,G3,ρ3,I3,st3,fr3,rfl,hil,S3,eq3⟩;have sub3:aZ G1 H3:=S3.g0.trans S3.gh;by_cases hlt:i<ds.length
  ·have ed:ds.drop i=ds[i]::ds.drop (i+1):=List.drop_eq_getElem_cons hlt;rw[ed] at eq3;unfold iT at eq3;cases et:τ ds[i] ρ3 with
   | none=>rw[et] at eq3;cases eq3
   | some ρ4=>
    rw[et] at eq3;cases eg:g ρ4 with
    | none=>simp[eg] at eq3
    | some o4=>
     simp only[eg,zA] at eq3;refine wpAny_passesOwn hp (thn (T.item X rfl rfl rfl hc i pins s3 σ3 H3 X.xe I3 (stat fr3) st3 (ok.go i H3 sub3 hlt)) fun r s4 ⟨u,hr,h4⟩ =>?_)
     subst hr;refine wpAny_passesOwn hp (thn h4 fun _ s5 ⟨x,H5,I5,r5,y5,st5,fr5⟩ =>?_)
     have I5':=I5.pinned (stat fr5) (T.obj _ _ st5);obtain⟨G5,E5,rep5⟩:=ok.yld i H3 x H5 G3 ds[i] S3.g0 S3.gh y5 (zI hlt);refine wpAny_passesOwn hp (thn (hg ⟨G1,B.2,B.3,B.4⟩ rfl _ s5 σ3 H5 x u (fun σ6 H6=>∃ G6,SR X.K ⟨G1,B.2,B.3,B.4⟩ own G6 H6 σ6 ρ4) I5' r5 ⟨G5,ρ3,ds[i],ρ4,S3.ext E5,rep5,et,fun σ6 G6 H6 S6=>⟨G6,S6⟩⟩) fun _ s6 ⟨σ6,H6,I6,G6,S6⟩ =>?_)
     have again:∀ {σ7:St}{H7 G7:Hp}{ρ7:aA}{s7:Shared},Inv X (pins++mC fp s5.heap) σ7 H7 s7->SR X.K ⟨G1,B.2,B.3,B.4⟩ own G7 H7 σ7 ρ7->iT τ g (ds.drop (i+1)) ρ7=some o ->
       ∃ m,m<ds.length-i/\∃ i σ' H' G' ρ',Inv X pins σ' H' s7/\tn i s7.heap/\(∀ b∈fp,H' b=none)/\m=ds.length-i/\i<=ds.length/\SR X.K ⟨G1,B.2,B.3,B.4⟩ own G' H' σ' ρ'/\iT τ g (ds.drop i) ρ'=some o:=fun {σ7 H7 G7 ρ7 s7} I7 S7 e7=>by
      refine⟨ds.length-(i+1),by omega,i+1,σ7,H7,G7,ρ7,I7.unpinned,T.keep _ _ _ st5 fun b hb o e=>(I7.pin (b,o) (zQ _ (zQ _ (ik hb e)))).1,fun b hb =>?_,rfl,hlt,S7,e7⟩
      obtain⟨o,e,d⟩:=T.obj _ _ st5 b hb;exact(I7.pin (b,o) (zQ _ (zQ _ (ik hb e)))).2.1
     cases o4 with
     | nx ρ5=>
      refine wpAny_passesOwn hp (thn (hb ⟨G1,B.2,B.3,B.4⟩ rfl ⟨rfl,rfl⟩ _ s6 σ6 H6 { nx:=fun σ7 H7=>∃ G7,SR X.K ⟨G1,B.2,B.3,B.4⟩ own G7 H7 σ7 ρ5,rt:=fun _ _=>False } I6 ⟨G6,ρ4,_,S6,eg,fun σ7 G7 H7 S7=>⟨G7,S7⟩⟩) fun fl s7 q7 =>?_)
      cases fl with
      | next=>obtain⟨σ7,H7,I7,G7,S7⟩:=q7;exact again I7 S7 eq3
      | cont=>obtain⟨_,_,_,z⟩:=q7;exact z.elim
      | brk=>obtain⟨_,_,_,z⟩:=q7;exact z.elim
      | ret v=>obtain⟨_,_,_,_,_,z⟩:=q7;exact z.elim
     | ct ρ5=>
      refine wpAny_passesOwn hp (thn (hb ⟨G1,B.2,B.3,B.4⟩ rfl ⟨rfl,rfl⟩ _ s6 σ6 H6 { nx:=fun _ _=>False,ct:=fun σ7 H7=>∃ G7,SR X.K ⟨G1,B.2,B.3,B.4⟩ own G7 H7 σ7 ρ5,rt:=fun _ _=>False } I6 ⟨G6,ρ4,_,S6,eg,fun σ7 G7 H7 S7=>⟨G7,S7⟩⟩) fun fl s7 q7 =>?_)
      cases fl with
      | cont=>obtain⟨σ7,H7,I7,G7,S7⟩:=q7;exact again I7 S7 eq3
      | next=>obtain⟨_,_,_,z⟩:=q7;exact z.elim
      | brk=>obtain⟨_,_,_,z⟩:=q7;exact z.elim
      | ret v=>obtain⟨_,_,_,_,_,z⟩:=q7;exact z.elim
     | bk ρ5=>
      refine wpAny_passesOwn hp (thn (hb ⟨G1,B.2,B.3,B.4⟩ rfl ⟨rfl,rfl⟩ _ s6 σ6 H6 { nx:=fun _ _=>False,bk:=fun σ7 H7=>∃ G7,SR X.K ⟨G1,B.2,B.3,B.4⟩ own G7 H7 σ7 ρ5,rt:=fun _ _=>False } I6 ⟨G6,ρ4,_,S6,eg,fun σ7 G7 H7 S7=>⟨G7,S7⟩⟩) fun fl s7 q7 =>?_)
      cases fl with
      | brk=>obtain⟨σ7,H7,I7,G7,S7⟩:=q7;cases eq3;exact⟨σ7,H7,I7.unpinned,k _ G7 H7 (S1.unbase S7)⟩
      | next=>obtain⟨_,_,_,z⟩:=q7;exact z.elim
      | cont=>obtain⟨_,_,_,z⟩:=q7;exact z.elim
      | ret v=>obtain⟨_,_,_,_,_,z⟩:=q7;exact z.elim
     | rt d=>
      cases eq3;refine wpAny_passesOwn hp (thn (hb ⟨G1,B.2,B.3,B.4⟩ rfl ⟨rfl,rfl⟩ _ s6 σ6 H6 { nx:=fun _ _=>False,rt:=D'.rt } I6 ⟨G6,ρ4,_,S6,eg,fun v G7 H7 E7 r7=>k v G7 H7 (Ext.unbase S1 E7) r7⟩) fun fl s7 q7 =>?_)
      cases fl with
      | ret v=>obtain⟨x7,σ7,H7,I7,r7,q7⟩:=q7;exact⟨x7,σ7,H7,I7.unpinned,r7,q7⟩
      | next=>obtain⟨_,_,_,z⟩:=q7;exact z.elim
      | cont=>obtain⟨_,_,_,z⟩:=q7;exact z.elim
      | brk=>obtain⟨_,_,_,z⟩:=q7;exact z.elim
     | ro d=>
      cases eq3;refine wpAny_passesOwn hp (thn (hb ⟨G1,B.2,B.3,B.4⟩ rfl ⟨rfl,rfl⟩ _ s6 σ6 H6 { nx:=fun _ _=>False,rt:=D'.rt } I6 ⟨G6,ρ4,_,S6,eg,fun a vs G7 H7 E7 h1 h2 h3 r7=>k a vs G7 H7 (Ext.unbase S1 E7) h1 h2 h3 r7⟩) fun fl s7 q7 =>?_)
      cases fl with
      | ret v=>obtain⟨x7,σ7,H7,I7,r7,q7⟩:=q7;exact⟨x7,σ7,H7,I7.unpinned,r7,q7⟩
      | next=>obtain⟨_,_,_,z⟩:=q7;exact z.elim
      | cont=>obtain⟨_,_,_,z⟩:=q7;exact z.elim
      | brk=>obtain⟨_,_,_,z⟩:=q7;exact z.elim
     | rm d ρ5=>
      cases eq3;refine wpAny_passesOwn hp (thn (hb ⟨G1,B.2,B.3,B.4⟩ rfl ⟨rfl,rfl⟩ _ s6 σ6 H6 { nx:=fun _ _=>False,rt:=D'.rt } I6 ⟨G6,ρ4,_,S6,eg,fun v σ7 G7 H7 ⟨o7,S7⟩ r7=>k v σ7 G7 H7 ⟨o7,S1.unbase' S7⟩ r7⟩) fun fl s7 q7 =>?_)
      cases fl with
      | ret v=>obtain⟨x7,σ7,H7,I7,r7,q7⟩:=q7;exact⟨x7,σ7,H7,I7.unpinned,r7,q7⟩
      | next=>obtain⟨_,_,_,z⟩:=q7;exact z.elim
      | cont=>obtain⟨_,_,_,z⟩:=q7;exact z.elim
      | brk=>obtain⟨_,_,_,z⟩:=q7;exact z.elim
     | ex c n=>
      cases eq3;refine wpAny_passesOwn hp (thn (hb ⟨G1,B.2,B.3,B.4⟩ rfl ⟨rfl,rfl⟩ _ s6 σ6 H6 { nx:=fun _ _=>False,rt:=fun _ _=>False } I6 ⟨G6,ρ4,_,S6,eg,k⟩) fun fl s7 q7 =>?_)
      cases fl with
      | ret v=>obtain⟨_,_,_,_,_,z⟩:=q7;exact z.elim
      | next=>obtain⟨_,_,_,z⟩:=q7;exact z.elim
      | cont=>obtain⟨_,_,_,z⟩:=q7;exact z.elim
      | brk=>obtain⟨_,_,_,z⟩:=q7;exact z.elim
  ·have e:i=ds.length:=by omega
   subst e;rw[List.drop_length] at eq3;unfold iT at eq3;cases eq3;refine wpAny_passesOwn hp (thn (T.done X rfl rfl rfl hc _ pins s3 σ3 H3 X.xe I3 (stat fr3) st3 (ok.stop _ H3 sub3 (zL _))) fun r s4 ⟨hr,I4⟩ =>?_)
   subst hr;exact wpAny_execs_nil ⟨σ3,H3,I4,k σ3 G3 H3 (S1.unbase S3)⟩
theorem qdJ (hp:PassesOwn (model X.prog X.w) X.A X.env X.xe) (hc:X.calm=true) (hi:PI X tg iter (tPI X.K own f)) (hg:∀ C:Bs,C.3=B.3->PG X tg (tTG X.K C own τ)) (hb:∀ C:Bs,C.3=B.3->C.2=B.2/\C.4=B.4->PSs X body (tDS X.K C own own own g))
  (hs:∀ x,foldedSetIterable iter X.env x=pure x:=by intro _;rfl):PS X (.For tg iter body [] pos) (tDS X.K B oL own own (gx f τ g)):=by
 have e:gx f τ g=og (fun ρ=>(f ρ).map fun ds=>(ds,ρ)) τ g:=funext fun ρ=>by
  show (f ρ).bind _=(Option.map (fun ds=>(ds,ρ)) (f ρ)).bind _
  cases f ρ<;>rfl
 rw[e];refine qbU hp hc (hi.imp fun σ H R ⟨G,ρ,ds,ρ',S,eq,k⟩ =>?_) hg hb hs
 have eq:Option.map (fun ds=>(ds,ρ)) (f ρ)=some (ds,ρ'):=eq
 cases ef:f ρ with
 | none=>rw[ef] at eq;cases eq
 | some xs=>rw[ef] at eq;cases eq;exact⟨G,ρ,ds,S.gh,S.envR,ef,fun J G1 H1 E ok=>k J G1 H1 (S.ext E) ok⟩
theorem qh7 {f:aA->Option (List D×aA)}(hp:PassesOwn (model X.prog X.w) X.A X.env X.xe) (hc:X.calm=true) (hi:PI X tg iter (tMI X.K B own f)) (hg:∀ C:Bs,C.3=B.3->PG X tg (tTG X.K C own τ)) (hb:∀ C:Bs,C.3=B.3->PSs X body (tDS X.K C own own own g))
  (hs:∀ x,foldedSetIterable iter X.env x=pure x:=by intro _;rfl):PS X (.For tg iter body [] pos) (tDS X.K B oL own own (og f τ g)):=qbU hp hc hi hg (fun C h _=>hb C h) hs
theorem mO (hp:PassesOwn (model X.prog X.w) X.A X.env X.xe) (hc:X.calm=true) (hi:PI X tg iter (tPI X.K own f)) (hg:∀ C:Bs,C.3=B.3->PG X tg (tTG X.K C own τ)) (hb:∀ C:Bs,C.3=B.3->PSs X body (tDS X.K C own own own g))
  (hs:∀ x,foldedSetIterable iter X.env x=pure x:=by intro _;rfl):PS X (.For tg iter body [] pos) (tDS X.K B oL own own (gx f τ g)):=qdJ hp hc hi hg (fun C h _=>hb C h) hs
noncomputable def b0 (f:DT) (g:DG):Nat->aA->Option DO
 | 0,_=>none
 | n+1,ρ=>(f ρ).bind fun b=>if b=true then (g ρ).bind fun o=>match o with
   | .nx ρ2=>b0 f g n ρ2
   | .ct ρ2=>b0 f g n ρ2
   | .bk ρ2=>some (.nx ρ2)
   | .rt d=>some (.rt d)
   | .ro d=>some (.ro d)
   | .rm d ρ=>some (.rm d ρ)
   | .ex c n=>some (.ex c n) else some (.nx ρ)
noncomputable def dP (n:Nat) (f:DT) (g:DG):DG:=fun ρ=>b0 f g n ρ
theorem gz {c:Expr}{f:DT}(n:Nat) (hp:PassesOwn (model X.prog X.w) X.A X.env X.xe) (hc:PT X c (tPT X.K own f)) (hb:PSs X body (tDS X.K B own own own g)):PS X (.While c body [] pos) (tDS X.K B oL own own (dP n f g)):=(qfj hp hc hb).imp fun D' σ H ⟨G,ρ,o,S,eq,k⟩=>by
 refine⟨fun m σ H=>∃ G ρ,SR X.K B own G H σ ρ/\b0 f g m ρ=some o,⟨n,G,ρ,S,eq⟩,?_⟩
 rintro m σ1 H1 ⟨G1,ρ1,S1,eq1⟩;cases m with
 | zero=>cases eq1
 | succ m=>
  unfold b0 at eq1;cases ef:f ρ1 with
  | none=>rw[ef] at eq1;cases eq1
  | some b=>
   rw[ef] at eq1;refine⟨G1,ρ1,b,S1.gh,S1.envR,ef,fun G2 H2 E2 =>?_⟩
   have S2:=S1.ext E2;cases b with
   | false=>cases eq1;exact jr (k σ1 G2 H2 S2)
   | true=>
    refine pi ⟨fun σ3 H3=>∃ G3 ρ3,SR X.K B own G3 H3 σ3 ρ3/\b0 f g m ρ3=some o,fun σ3 H3 q=>⟨m,Nat.lt_succ_self m,q⟩,?_⟩
    simp only[zA,if_true] at eq1;cases eg:g ρ1 with
    | none=>rw[eg] at eq1;cases eq1
    | some o1=>
     rw[eg] at eq1;refine⟨G2,ρ1,o1,S2,eg,?_⟩;cases o1 with
     | nx ρ2=>exact fun σ3 G3 H3 S3=>⟨G3,ρ2,S3,eq1⟩
     | ct ρ2=>exact fun σ3 G3 H3 S3=>⟨G3,ρ2,S3,eq1⟩
     | bk ρ2=>cases eq1;exact fun σ3 G3 H3 S3=>k σ3 G3 H3 S3
     | rt d=>cases eq1;exact k
     | ro d=>cases eq1;exact k
     | rm d ρ=>cases eq1;exact k
     | ex c n=>cases eq1;exact k
end
noncomputable def gv (src:List (Option Nat)) (ρ:aA):aA:=src.map fun o=>match o with|some j=>(ρ[j]?).getD none|none=>none
noncomputable def lcD (ρ:aA) (τ:DTg) (ft:DT) (fe:DF):List D->Option (List D)
 | []=>some []
 | d::ds=>(τ d ρ).bind fun ρ1=>(ft ρ1).bind fun b=>if b=true then (fe ρ1).bind fun x=>(lcD ρ τ ft fe ds).map (x :: ·) else lcD ρ τ ft fe ds
noncomputable def fLC (f:DL) (src:List (Option Nat)) (τ:DTg) (ft:DT) (fe:DF):DL:=fun ρ=>(f ρ).bind fun ds=>if ds.length<=cH then lcD (gv src ρ) τ ft fe ds else none
noncomputable def gf:DT:=fun _=>some true
noncomputable def iN (own own':List Nat) (src:List (Option Nat)):Bool:=(List.range src.length).all fun i=>match src[i]? with|some (some j)=>decide (i∈own')==decide (j∈own)|_=>true
theorem jn {own own':List Nat}{src:List (Option Nat)}(h:iN own own' src=true){i j:Nat}(e:src[i]?=some (some j)):(i∈own'↔j∈own):=by
 unfold iN at h;rw[List.all_eq_true] at h;have hi:i<src.length:=(zC.mp e).1;have:=h i (by simpa using hi)
 rw[e] at this;simpa using this
theorem i3.src {K:Frag}{own own':List Nat}{src:List (Option Nat)}{G H:Hp}{σ:St}{ρ:aA}(h:i3 K own G H σ ρ) (ho:iN own own' src=true):i3 K own' G H (iJ src σ) (gv src ρ):=by
 refine⟨by simp[iJ,gv],fun i d e =>?_⟩
 unfold gv at e;rw[zM] at e;cases es:src[i]? with
 | none=>rw[es] at e;cases e
 | some o=>
  rw[es] at e;cases o with
  | none=>cases e
  | some j=>
   have e:(ρ[j]?).getD none=some d:=by simpa using e
   have ej:ρ[j]?=some (some d):=by
    cases q:ρ[j]? with
    | none=>rw[q] at e;cases e
    | some z=>rw[q] at e;rw[show z=some d from e]
   obtain⟨v,ev,rv⟩:=h.get j d ej;refine⟨v,?_,?_⟩
   ·unfold iJ;rw[zM,es];simp[ev]
   ·have:=jn ho es;by_cases hi:i∈own'
    ·rw[if_pos hi];rw[if_pos (this.mp hi)] at rv;exact rv
    ·rw[if_neg hi];rw[if_neg (fun z=>hi (this.mpr z))] at rv;exact rv
noncomputable section
variable {X:Cx}{own own' oS:List Nat}{N:List Str}{src:List (Option Nat)}{scope:Scope}{tg iter elt:Expr}{ifs:List Expr}{f:DL}{τ:DTg}{ft:DT}{fe:DF}{g:TG}{pos:Pos}
theorem PTs.imp {t t':TT}(h:PTs X ifs t) (k:∀ σ H Q,t' σ H Q->t σ H Q):PTs X ifs t':=fun pins s σ H Q I q=>h pins s σ H Q I (k _ _ _ q)
theorem ju:PTs X [] (tPT X.K own gf):=qhd.imp fun σ H Q ⟨G,ρ,b,gh,env,eq,k⟩=>by cases eq;exact k G H (.refl gh)
theorem qfU {K:Frag}{σ:St}{H:Hp}{Q:VK}(ho:iN own own' src=true) (hg:∀ v σ H Q,tTE K own' τ v σ H Q->g v σ H Q) (q:tF K own (fLC f src τ ft fe) σ H Q):tLc (tPI K own f) src g (tPT K own' ft) (tP K own' fe) σ H Q:=by
 obtain⟨G,ρ,rs,gh,env,eq,k⟩:=q;unfold fLC at eq;cases ef:f ρ with
 | none=>rw[ef] at eq;cases eq
 | some ds=>
  rw[ef] at eq;have eq:(if ds.length<=cH then lcD (gv src ρ) τ ft fe ds else none)=some rs:=eq
  split at eq
  ·rename_i hz;refine⟨G,ρ,ds,gh,env,ef,fun J G1 H1 E1 ok =>?_⟩
   refine⟨fun i m ys H2=>m=ds.length-i/\i<=ds.length/\ys.length<=i/\∃ G2 xs cm,Ext G1 H1 G2 H2/\aI K G2 xs ys/\lcD (gv src ρ) τ ft fe (ds.drop i)=some cm/\xs++cm=rs,
    ⟨ds.length,rfl,Nat.zero_le _,zL _,G1,[],rs,.refl E1.gh,.nil,eq,rfl⟩,?_⟩
   rintro i m ys H2 ⟨rfl,hil,hyl,G2,xs,cm,E2,rx,er,rfl⟩;have sub:aZ G1 H2:=E2.gg.trans E2.gh;by_cases hlt:i<ds.length
   ·refine .inr ⟨ok.go i H2 sub hlt,?_,fun ys' H'=>ys'.length<=i+1/\∃ G3 xs' rest',Ext G1 H1 G3 H'/\aI K G3 xs' ys'/\lcD (gv src ρ) τ ft fe (ds.drop (i+1))=some rest'/\xs'++rest'=xs++cm,
     fun ys' H' z=>⟨ds.length-(i+1),by omega,rfl,hlt,z⟩,fun x H3 y =>?_⟩
    ·have:=dL;omega
    ·obtain⟨G3,E3,rep3⟩:=ok.yld i H2 x H3 G2 ds[i] E2.gg E2.gh y (zI hlt);rw[List.drop_eq_getElem_cons hlt] at er;unfold lcD at er;cases et:τ ds[i] (gv src ρ) with
     | none=>rw[et] at er;cases er
     | some ρ4=>
      rw[et] at er;cases eb:ft ρ4 with
      | none=>simp[eb] at er
      | some b=>
       simp only[eb,zA] at er;have E13:=E1.trans (E2.trans E3);refine hg _ _ _ _ ⟨G3,gv src ρ,ds[i],ρ4,E3.gh,(env.ext E13).src ho,rep3,et,fun σ4 G4 H4 E4 env4=>⟨G4,ρ4,b,E4.gh,env4,eb,fun G5 H5 E5 =>?_⟩⟩
       have E15:=(E2.trans E3).trans (E4.trans E5);cases b with
       | false=>exact jr ⟨by omega,G5,xs,cm,E15,aI.mono ((E3.trans (E4.trans E5)).gg) xs rx,er,rfl⟩
       | true=>
        refine pi ?_;simp only[if_true] at er;cases ee:fe ρ4 with
        | none=>rw[ee] at er;cases er
        | some x4=>
         rw[ee] at er;cases el:lcD (gv src ρ) τ ft fe (ds.drop (i+1)) with
         | none=>simp[el] at er
         | some rest'=>simp only[el,zA,zT] at er;cases er;refine⟨G5,ρ4,x4,E5.gh,env4.ext E5,ee,fun v G6 H6 E6 r6=>⟨by simp;omega,G6,xs++[x4],rest',E15.trans E6,(aI.mono ((E3.trans ((E4.trans E5).trans E6)).gg) xs rx).append (.cons r6 .nil),rfl,by simp⟩⟩
   ·have e:i=ds.length:=by omega
    subst e;rw[List.drop_length] at er;unfold lcD at er;cases er;refine .inl ⟨ok.stop _ H2 sub (zL _),fun p hp =>?_⟩
    have E12:=E1.trans E2;refine k p ys G2 _ (E12.trans (Ext.lay (p:=p) E2.gh hp)) (E12.hh.free hp) (E2.gh.free hp) aB ?_;rw[List.append_nil];exact rx
  ·cases eq
theorem qdL (S:dC X N src scope) (hc:X.calm=true) (hi:PI X tg iter (tPI X.K own f)) (ag:GAg oS g) (hos:∀ i∈oS,src[i]?=some none) (hg:∀ v σ H Q,tTE X.K own' τ v σ H Q->g v σ H Q)
  (hb:∀ C s H ex,PG (X.blk N scope C s H ex) tg g/\PTs (X.blk N scope C s H ex) ifs (tPT X.K own' ft)/\PE (X.blk N scope C s H ex) elt (tP X.K own' fe)) (ho:iN own own' src=true:=by decide)
  (hs:∀ x,foldedSetIterable iter X.env x=pure x:=by intro _;rfl):PE X (.ListComp elt [⟨tg,iter,ifs,0⟩] scope pos) (tF X.K own (fLC f src τ ft fe)):=
 (qiu S hc hi ag hos hb hs).imp fun σ H Q q=>qfU ho hg q
theorem qer {B:Bs}{oL:List Nat}{i:Nat}{y:Str}{spos py:Pos}(S:dC X N src scope) (hc:X.calm=true) (hN:X.N.Nodup) (hy:X.N[i]?=some y) (hl:X.env.scope.names.lookup y=some .local) (hi:PI X tg iter (tPI X.K own f)) (ag:GAg oS g) (hos:∀ i∈oS,src[i]?=some none)
  (hg:∀ v σ H Q,tTE X.K own' τ v σ H Q->g v σ H Q) (hb:∀ C s H ex,PG (X.blk N scope C s H ex) tg g/\PTs (X.blk N scope C s H ex) ifs (tPT X.K own' ft)/\PE (X.blk N scope C s H ex) elt (tP X.K own' fe)) (ho:iN own own' src=true:=by decide) (hio:i∈own:=by decide) (hpin:∀ a,(i,a)∉B.3:=by intro a;simp_all)
  (hsw:swapsWith (.ListComp elt [⟨tg,iter,ifs,0⟩] scope pos) (some (.Name y py)) spos.line X.env=pure true:=by rfl)
  (hs:∀ x,foldedSetIterable iter X.env x=pure x:=by intro _;rfl):PS X (.Assign [.Name y py] (.ListComp elt [⟨tg,iter,ifs,0⟩] scope pos) spos) (tDS X.K B oL own own (gc i (fLC f src τ ft fe))):=
 (qbv S hc hN hy hl hi ag hos hb hsw hs).imp fun D' σ H ⟨G,ρ,o,S,eq,k⟩=>qfU ho hg (by
  unfold gc at eq;cases ef:fLC f src τ ft fe ρ with
  | none=>rw[ef] at eq;cases eq
  | some ds=>rw[ef] at eq;cases eq;exact⟨G,ρ,ds,S.gh,S.envR,ef,fun p vs G' H' E hp gp hv r=>k _ G' H' (S.setO hio E hp gp hv r hpin)⟩)
theorem qgf {B:Bs}{oL:List Nat}{i:Nat}{y:Str}{spos py:Pos}(S:dC X N src scope) (hc:X.calm=true) (hN:X.N.Nodup) (hy:X.N[i]?=some y) (hl:X.env.scope.names.lookup y=some .local) (hi:PI X tg iter (tPI X.K own f)) (ag:GAg oS g) (hos:∀ i∈oS,src[i]?=some none)
  (hg:∀ v σ H Q,tTE X.K own' τ v σ H Q->g v σ H Q) (hb:∀ C s H ex,PG (X.blk N scope C s H ex) tg g/\PTs (X.blk N scope C s H ex) ifs (tPT X.K own' ft)/\PE (X.blk N scope C s H ex) elt (tP X.K own' fe)) (ho:iN own own' src=true:=by decide) (hio:i∉own:=by decide)
  (hsw:swapsWith (.ListComp elt [⟨tg,iter,ifs,0⟩] scope pos) (some (.Name y py)) spos.line X.env=pure true:=by rfl)
  (hs:∀ x,foldedSetIterable iter X.env x=pure x:=by intro _;rfl):PS X (.Assign [.Name y py] (.ListComp elt [⟨tg,iter,ifs,0⟩] scope pos) spos) (tDS X.K B oL own own (aF i (eF (fLC f src τ ft fe)))):=
 (qbv S hc hN hy hl hi ag hos hb hsw hs).imp fun D' σ H ⟨G,ρ,o,S,eq,k⟩=>qfU ho hg (by
  unfold aF eF at eq;cases ef:fLC f src τ ft fe ρ with
  | none=>rw[ef] at eq;cases eq
  | some ds=>
   rw[ef] at eq;cases eq;refine⟨G,ρ,ds,S.gh,S.envR,ef,fun p vs G' H' E hp gp hv r=>k _ (upd G' p (.lst vs)) H' ((S.ext (E.freeze hp gp hv)).setS hio ?_)⟩
   exact cp.mpr ⟨p,vs,rfl,aB,aI.mono (.alloc gp) ds r⟩)
end
end L2
end
noncomputable section
namespace L2
open PySem PySem.Spec PyProof.Rows
noncomputable def spF (K:Frag) (F:List D->Option D):Sp:=fun vs H Q _=>∃ G ds d,aZ G H/\aI K G ds vs/\F ds=some d/\∀ v G' H',Ext G H G' H'->Rep K G' d v->Q v H'
noncomputable def spO (K:Frag) (F:List D->Option (List D)):Sp:=fun vs H Q _=>∃ G ds rs,aZ G H/\aI K G ds vs/\F ds=some rs/\∀ a us G' H',Ext G H G' H'->H a=none->G' a=none->H' a=some (.lst us)->aI K G' rs us->Q (.ref a) H'
noncomputable def bq (N:Nat) (ds:List D):aA:=ds.map some++List.replicate (N-ds.length) none
noncomputable def iO:DO->Option D
 | .rt d=>some d
 | .ro ds=>some (.lst ds)
 | .nx _=>some .non
 | _=>none
noncomputable def qkN:DO->Option (List D)
 | .ro ds=>some ds
 | _=>none
noncomputable def du (n N:Nat) (g:DG) (ds:List D):Option D:=if ds.length=n then (g (bq N ds)).bind iO else none
noncomputable def qd6 (n N:Nat) (g:DG) (ds:List D):Option (List D):=if ds.length=n then (g (bq N ds)).bind qkN else none
theorem eO {N:Nat}{ds:List D}{i:Nat}{d:D}(h:(bq N ds)[i]?=some (some d)):ds[i]?=some d:=by
 unfold bq at h;by_cases hi:i<ds.length
 ·rw[yC (by simpa using hi),zM] at h
  cases e:ds[i]? with
  | none=>rw[e] at h;cases h
  | some a=>rw[e] at h;cases h;rfl
 ·rw[List.getElem?_append_right (by simpa using hi),List.getElem?_replicate] at h
  split at h<;>cases h
theorem nX {fl:Str->Int->Prop}{K:Frag}{G H:Hp}{own:List Nat}{N:List Str}{ds:List D}{vs:List V}(s:aZ G H) (r:aI K G ds vs) (ho:∀ i∈own,ds.length<=i):SR K ⟨G,H,[],fl⟩ own G H (fT N vs) (bq N.length ds):=by
 refine⟨s,aZ.refl _,aZ.refl _,fun b o e =>.inl e,fun i d hi e =>?_,fun i d hi e =>?_,fun i j a hi hj di dj =>?_,by simp[fT,bq,r.length],fun i a h=>by cases h⟩
 ·obtain⟨v,ev,rv⟩:=r.get (eO e);refine⟨v,?_,rv⟩;have hi:i<vs.length:=(zC.mp ev).1;unfold fT;rw[yC (by simpa using hi),zM,ev];rfl
 ·have:=(zC.mp (eO e)).1;have:=ho i hi;omega
 ·obtain⟨d,e⟩:=di;have:=(zC.mp (eO e)).1;have:=ho i hi;omega
noncomputable section
variable {P:Program}{w:World}{K:Frag}{mg:Str->Option Value}{base:Heap}
theorem Fun.okD {x qual:Str}{st:Stmt}{f:Addr}{fd:FuncData}{N ps:List Str}{k:Nat}(F:Fun K x qual st f fd) (S:aR N ps (am st)) {own own':List Nat}{g:DG}(hown:∀ i∈own,ps.length<=i)
  (hb:∀ (cdv:Value) (A:Around) (outer:List Env) (s:Shared) (H:Hp) (E:XK),cJ k (A.deeper (envOfC qual (am st) s.heap.objs.size f cdv))->∀ B:Bs,B.3=[] ->
   PSs (jy CX0 P w K mg base N qual (am st) f cdv A outer s H E).nox (cI st) (tDS K B [] own own' g)):bD P w K mg base CX0 (k+1) f fd ps (spF K (du ps.length N.length g)):=by
 refine F.ok S (fun vs H Q E h =>?_) (fun cdv A outer s H vs Q E hr h =>?_)
 ·obtain⟨G,ds,d,gh,r,eq,_⟩:=h;unfold du at eq
  split at eq
  ·rw[<- r.length];assumption
  ·cases eq
 ·obtain⟨G,ds,d,gh,r,eq,q⟩:=h;unfold du at eq
  split at eq
  ·rename_i hl;refine⟨_,hb cdv A outer s H E hr ⟨G,H,[],fun _ _=>False⟩ rfl,?_⟩
   cases eg:g (bq N.length ds) with
   | none=>rw[eg] at eq;cases eq
   | some o=>
    rw[eg] at eq;refine⟨G,_,o,nX gh r (by rw[hl];exact hown),eg,?_⟩
    cases o with
    | rt d'=>cases eq;exact fun v G' H' E r=>q v G' H' E r
    | ro rs=>cases eq;exact fun a us G' H' E h1 h2 h3 r=>q _ (upd G' a (.lst us)) H' (E.freeze h1 h2 h3) (cp.mpr ⟨a,us,rfl,aB,aI.mono (.alloc h2) rs r⟩)
    | nx ρ=>cases eq;exact fun σ G' H' S=>q _ G' H' S.toExt (dr.mpr rfl)
    | bk ρ=>cases eq
    | ct ρ=>cases eq
    | rm d ρ=>cases eq
    | ex c n=>cases eq
  ·cases eq
theorem Fun.okO {x qual:Str}{st:Stmt}{f:Addr}{fd:FuncData}{N ps:List Str}{k:Nat}(F:Fun K x qual st f fd) (S:aR N ps (am st)) {own own':List Nat}{g:DG}(hown:∀ i∈own,ps.length<=i)
  (hb:∀ (cdv:Value) (A:Around) (outer:List Env) (s:Shared) (H:Hp) (E:XK),cJ k (A.deeper (envOfC qual (am st) s.heap.objs.size f cdv))->∀ B:Bs,B.3=[] ->
   PSs (jy CX0 P w K mg base N qual (am st) f cdv A outer s H E).nox (cI st) (tDS K B [] own own' g)):bD P w K mg base CX0 (k+1) f fd ps (spO K (qd6 ps.length N.length g)):=by
 refine F.ok S (fun vs H Q E h =>?_) (fun cdv A outer s H vs Q E hr h =>?_)
 ·obtain⟨G,ds,d,gh,r,eq,_⟩:=h;unfold qd6 at eq
  split at eq
  ·rw[<- r.length];assumption
  ·cases eq
 ·obtain⟨G,ds,d,gh,r,eq,q⟩:=h;unfold qd6 at eq
  split at eq
  ·rename_i hl;refine⟨_,hb cdv A outer s H E hr ⟨G,H,[],fun _ _=>False⟩ rfl,?_⟩
   cases eg:g (bq N.length ds) with
   | none=>rw[eg] at eq;cases eq
   | some o=>
    rw[eg] at eq;refine⟨G,_,o,nX gh r (by rw[hl];exact hown),eg,?_⟩
    cases o with
    | ro rs=>cases eq;exact fun a us G' H' E h1 h2 h3 r=>q a us G' H' E h1 h2 h3 r
    | rt d'=>cases eq
    | nx ρ=>cases eq
    | bk ρ=>cases eq
    | ct ρ=>cases eq
    | rm d ρ=>cases eq
    | ex c n=>cases eq
  ·cases eq
structure Ok1 (P:Program) (w:World) (K:Frag) (mg:Str->Option Value) (base:Heap) (x:Str) (k:Nat) (sp:Sp):Prop where
 ex:∃ f fd ps,bD P w K mg base CX0 k f fd ps sp/\mg x=some (.ref f)/\keepIn K (.ref f)=true/\gb K fd ps []
theorem Ok1.mono {x:Str}{j k:Nat}{sp:Sp}(h:Ok1 P w K mg base x j sp) (hk:j<=k):Ok1 P w K mg base x k sp:=by
 obtain⟨f,fd,ps,h1,h2⟩:=h.ex;exact⟨f,fd,ps,h1.mono hk,h2⟩
end
noncomputable section
variable {X:Cx}{own:List Nat}{x:Str}{p pos:Pos}{e:Expr}{es:List Expr}{g:DL}{k:Nat}
theorem cq {F:List D->Option D}(h:Ok1 X.prog X.w X.K X.mg X.base x k (spF X.K F)) (hr:cJ k X.A) (hg:Gl X x) (ha:PA X (e::es) (tPA X.K own g)) (hdb:(x==("__debug__" : Str))=false:=by decide)
  (he:starEach (e::es) X.env=(false,eval e X.env)::starEach es X.env:=by rfl) (hpl:(backTo pos (starEach es X.env)).any (·.1)=false:=by rfl):PE X (.Call (.Name x p) (e::es) [] pos) (tP X.K own (al F g)):=by
 obtain⟨f,fd,ps,h1,hm,hk,hb⟩:=h.ex;refine(lS h1 hr hg hm hk hb .nil oq ha hdb he hpl).imp fun σ H Q ⟨G,ρ,d,gh,env,eq,q⟩ =>?_
 obtain⟨xs,ex,eo⟩:=oP eq;exact⟨G,ρ,xs,gh,env,ex,fun vs G1 H1 E1 r1=>by show spF X.K F (vs++[]) H1 Q E0;rw[List.append_nil];exact⟨G1,xs,d,E1.gh,r1,eo,fun v G2 H2 E2 r2=>q v G2 H2 (E1.trans E2) r2⟩⟩
noncomputable def nb (F:List D->Option (List D)) (g:DL):DL:=fun ρ=>(g ρ).bind F
theorem qbW {F:List D->Option (List D)}(h:Ok1 X.prog X.w X.K X.mg X.base x k (spO X.K F)) (hr:cJ k X.A) (hg:Gl X x) (ha:PA X (e::es) (tPA X.K own g)) (hdb:(x==("__debug__" : Str))=false:=by decide)
  (he:starEach (e::es) X.env=(false,eval e X.env)::starEach es X.env:=by rfl) (hpl:(backTo pos (starEach es X.env)).any (·.1)=false:=by rfl):PE X (.Call (.Name x p) (e::es) [] pos) (tF X.K own (nb F g)):=by
 obtain⟨f,fd,ps,h1,hm,hk,hb⟩:=h.ex;refine(lS h1 hr hg hm hk hb .nil oq ha hdb he hpl).imp fun σ H Q ⟨G,ρ,ds,gh,env,eq,q⟩ =>?_
 unfold nb at eq;cases ex:g ρ with
 | none=>rw[ex] at eq;cases eq
 | some xs=>rw[ex] at eq;exact⟨G,ρ,xs,gh,env,ex,fun vs G1 H1 E1 r1=>by show spO X.K F (vs++[]) H1 Q E0;rw[List.append_nil];exact⟨G1,xs,ds,E1.gh,r1,eq,fun a us G2 H2 E2 h1 h2 h3 r2=>q a us G2 H2 (E1.trans E2) (E1.hh.free h1) h2 h3 r2⟩⟩
noncomputable def kQ:D->Bool
 | .non=>true|.bl _=>true|.int _=>true|.str _=>true|_=>false
theorem qe7 {K:Frag}{G G':Hp}{d:D}{v:V}(h:kQ d=true) (r:Rep K G d v):Rep K G' d v:=by
 cases d<;>first|(simp[kQ] at h;done)|(simpa only [Rep] using r)
theorem nj.all {K:Frag}{G H:Hp}(s:aZ G H):∀ {ds:List D}{vs:List V},nj K G H ds vs->aI K H ds vs
 | _,_,.nil =>.nil
 | _,_,.cons r t =>.cons (r.all s) (nj.all s t)
end
theorem qjy {F:List D->Option D}{m:Nat}(hF:∀ ns:List Int,ns.length<=m->F [.scr ns]=some (.bl true)) (K:Frag) (H:Hp) (a:Addr) (ns:List Int) (hl:ns.length<=m) (hO:qgy H) (hS:SqL K H a (ns.map V.int)) :
  spF K F [.ref a] H (fun v _=>v=.bl true) fun _ _ _=>False:=
 ⟨H,[.scr ns],.bl true,aZ.refl _,.cons (qdj.mpr ⟨a,rfl,hS⟩) .nil,hF ns hl,fun v G' H' E r=>bz.mp r⟩
end L2
end
noncomputable section
namespace L2
open PySem PySem.Spec PyProof.Rows
noncomputable section
variable {X:Cx}{own:List Nat}{e:Expr}{f:DF}
noncomputable def qld (xs:List D):List D:=xs.zipIdx.map fun p =>.tup [.int (p.2:Nat),p.1]
noncomputable def iE (f:DF):DL:=fun ρ=>(iL f ρ).map qld
noncomputable def Its (x:Str):It:=⟨fun i _=>i<x.cps.size,fun i H v H'=>H'=H/\∃ c,x.cps[i]?=some c/\v=.str ⟨#[c]⟩,fun i _=>x.cps.size<=i⟩
theorem qeL {P:Program}{w:World}{K:Frag}{tg:Expr}(x:Str) (t:Tok) (it:Addr):qik P w K tg (Its x) [it] it (fun i h=>h.IsStrIter it "str_ascii_iterator" x t i) where
 mem:=by simp
 obj:=fun i h st b hb=>by
  have e:b=it:=by simpa using hb
  subst e;obtain⟨o,e,c,d⟩:=st;exact⟨o,e,fun v z=>by rw[d] at z;cases z⟩
 keep:=fun i h h' st k=>by obtain⟨o,e,c,d⟩:=st;exact⟨o,k it (by simp) o e,c,d⟩
 item:=by
  intro X hP hw hK hc i pins s σ H E I hf st hg;subst hP hw hK;obtain⟨f0,f1,f2,f3,f4,f5⟩:=hf it (by simp)
  have hg:i<x.cps.size:=hg;refine wpAny_pyNext_ascii_item st (c:=x.cps[i]) (by simp[hg]) fun h' st' sb =>?_
  have I1:Inv X pins σ H { s with heap:=h',toks:=s.toks+1 }:=I.turned (fun b o hb e=>(sb.2 b hb).trans e) f0 f1 f3 f4 f5
  obtain⟨o,e,c,d⟩:=id st';exact⟨_,rfl,qf7 (s:={ s with heap:=h',toks:=s.toks+1 }) e c d (by decide) ⟨.str ⟨#[x.cps[i]]⟩,H,I1,⟨_,rfl⟩,⟨rfl,_,by simp[hg],rfl⟩,st',fun b hb=>(hf b hb).1⟩⟩
 done:=by
  intro X hP hw hK hc i pins s σ H E I hf st hg;subst hP hw hK;obtain⟨f0,f1,f2,f3,f4,f5⟩:=hf it (by simp)
  have hg:x.cps.size<=i:=hg;exact wpAny_pyNext_ascii_end (I.ok.hd hc) st (by simp[hg]) fun h' eb=>⟨rfl,I.turned (t':=s.toks) (fun b o hb e=>eb b o hb e) f0 f1 f3 f4 f5⟩
 self:=fun _ _ _ _ _ st h=>wpAny_pyIter_striter_ascii st h
noncomputable def qk5 (tl:TE):TI:=fun σ H R=>tl σ H fun v H1=>∃ x,v=.str x/\x.cps.all (· < 128)=true/\R (Its x) H1
theorem qi3 {tg l:Expr}{tl:TE}(hl:PE X l tl):PI X tg l (qk5 tl):=by
 intro pins s σ H R I h;refine thn (hl pins s σ H _ I h) fun v s1 ⟨x,H1,I1,r1,q1⟩ =>?_
 obtain⟨z,e,ha,q⟩:=q1;subst e;obtain⟨t,rfl⟩:=r1;refine wpAny_pyIter_ascii ha ?_;refine⟨s1.heap.objs.size,[s1.heap.objs.size],_,_,H1,rfl,I1.kept (t':=s1.toks) fun b o e=>zF _ e,qeL z t _,⟨_,zV _ rfl,rfl,rfl⟩,fun b hb =>?_,q⟩
 have e:b=s1.heap.objs.size:=by simpa using hb
 subst e;exact I1.fpOk (zL _) (I1.hok.fresh (zL _))
noncomputable def jj (x:Str):List D:=x.cps.toList.map fun c =>.str ⟨#[c]⟩
noncomputable def iS (f:DF):DL:=fun ρ=>(f ρ).bind fun d=>match d with|.str x=>if x.cps.all (· < 128)=true then some (jj x) else none|_=>none
theorem qf3 {K:Frag}{G:Hp}(x:Str):qeB K G (Its x) (jj x):=by
 have hl:(jj x).length=x.cps.size:=by simp[jj]
 refine⟨fun i H s hi=>by rw[hl] at hi;exact hi,fun i H s hi=>by rw[hl] at hi;exact hi,fun i H v H' G1 d s1 s2 ⟨e,c,ec,ev⟩ hd =>?_⟩
 subst e ev;refine⟨G1,.refl s2,?_⟩;unfold jj at hd;rw[zM,Array.getElem?_toList,ec] at hd;cases hd;exact bG.mpr rfl
theorem qgk {tg:Expr}(h:PE X e (tP X.K own f)):PI X tg e (tPI X.K own (iS f)):=(qi3 h).imp fun σ H R ⟨G,ρ,ds,gh,env,eq,k⟩=>by
 unfold iS at eq;cases ef:f ρ with
 | none=>rw[ef] at eq;cases eq
 | some d=>
  rw[ef] at eq;cases d<;>simp only[zA] at eq<;>try (cases eq;done)
  split at eq
  ·cases eq;rename_i x hx;exact⟨G,ρ,_,gh,env,ef,fun v G1 H1 E1 r1=>⟨x,bG.mp r1,hx,k _ G1 H1 E1 (qf3 x)⟩⟩
  ·cases eq
end
theorem i8 {K:Frag}{own:List Nat}(i:Nat) (hi:i∉own:=by decide):∀ v σ H Q,tTE K own (gN i) v σ H Q->jE i v σ H Q:=fun v σ H Q ⟨G,ρ,d,ρ',gh,env,r,eq,k⟩=>by
 cases eq;exact k _ G H (.refl gh) (env.set hi r)
noncomputable def qb4 (outer:Scope) (oN N:List Str) (src:List (Option Nat)) (scope:Scope):Bool:=
 (scope.names.all fun y=>scope.names.lookup y.1==some y.2)&&(scope.names.all fun y=>y.2 != .free||(outer.names.lookup y.1==some .cell||outer.names.lookup y.1==some .free))&&(src.length==N.length) &&
 ((List.range src.length).all fun i=>match src[i]?,N[i]? with|some (some j),some x=>oN[j]? == some x&&scope.names.lookup x==some .free|_,_=>true)
theorem lA {X:Cx}{outer:Scope}{oN N:List Str}{src:List (Option Nat)}{scope:Scope}(hk:scope.kind=.function) (h:qb4 outer oN N src scope=true) (e1:X.env.scope=outer) (e2:X.N=oN):dC X N src scope:=by
 unfold qb4 at h;simp only[Bool.and_eq_true,List.all_eq_true,beq_iff_eq,Bool.or_eq_true] at h;obtain⟨⟨⟨h1,h2⟩,h3⟩,h4⟩:=h;refine⟨hk,fun y hy=>h1 y hy,fun y hy hf =>?_,h3,fun i j x hs hN =>?_⟩
 ·rw[e1];rcases h2 y hy with z|z
  ·rw[hf] at z;exact absurd z (by decide)
  ·exact z
 ·have hi:i<src.length:=(zC.mp hs).1;have:=h4 i (by simpa using hi)
  rw[hs,hN] at this;simp only[Bool.and_eq_true,beq_iff_eq] at this;rw[e2];exact this
end L2
end
noncomputable section
namespace L2
open PySem PySem.Spec PyProof.Rows
noncomputable section
variable {prog:Program}{w:World}{A:Around}{s:Shared}{R:Result->Shared->Prop}
variable {I:Addr}{fp wr:List Addr}{G:Array GenState->Array GenState->Prop}{n:Nat}{P:Nat->Value->Prop}{St:Nat->Shared->Prop}
end
noncomputable section
variable {prog:Program}{w:World}{A:Around}{E:Value->Shared->Prop}{s:Shared}
variable {I:Addr}{fp wr:List Addr}{G:Array GenState->Array GenState->Prop}{n:Nat}{P:Nat->Value->Prop}{St:Nat->Shared->Prop}
end
noncomputable section
variable {X:Cx}{own:List Nat}{e:Expr}{f:DF}{p q pos pos':Pos}{tl:TE}
end
end L2
end
noncomputable section
namespace L2
open PySem PySem.Spec PyProof.Rows
noncomputable abbrev DM:=aA->Option (D×aA)
noncomputable abbrev DMA:=aA->Option (List D×aA)
noncomputable def tM (K:Frag) (B:Bs) (own:List Nat) (f:DM):TE:=fun σ H Q=>∃ G ρ d ρ',SR K B own G H σ ρ/\f ρ=some (d,ρ')/\∀ v G' H',SR K B own G' H' σ ρ'->aZ G G'->Rep K G' d v->Q v H'
noncomputable def tMA (K:Frag) (B:Bs) (own:List Nat) (f:DMA):TA:=fun σ H Q=>∃ G ρ ds ρ',SR K B own G H σ ρ/\f ρ=some (ds,ρ')/\∀ vs G' H',SR K B own G' H' σ ρ'->aZ G G'->aI K G' ds vs->Q vs H'
noncomputable def era (H:Hp) (a:Addr):Hp:=fun b=>if b=a then none else H b
theorem l4 {H:Hp}{a:Addr}:era H a a=none:=by simp[era]
theorem lq {H:Hp}{a b:Addr}(h:b≠a):era H a b=H b:=by simp[era,h]
theorem qaU {H:Hp}{a:Addr}:aZ (era H a) H:=fun b o e=>by
 by_cases h:b=a
 ·subst h;rw[l4] at e;cases e
 ·rw[lq h] at e;exact e
noncomputable section
variable {X:Cx}{B:Bs}{own:List Nat}{e:Expr}{es:List Expr}{pos:Pos}
noncomputable def mP (f:DF):DM:=fun ρ=>(f ρ).map fun d=>(d,ρ)
theorem qhL {f:DF}{ρ ρ':aA}{d:D}(h:mP f ρ=some (d,ρ')):f ρ=some d/\ρ'=ρ:=by
 unfold mP at h;cases ef:f ρ with
 | none=>rw[ef] at h;cases h
 | some c=>rw[ef] at h;cases h;exact⟨rfl,rfl⟩
theorem bP {f:DF}(h:PE X e (tP X.K own f)):PE X e (tM X.K B own (mP f)):=h.imp fun σ H Q ⟨G,ρ,d,ρ',S,eq,k⟩=>by
 obtain⟨ef,rfl⟩:=qhL eq;exact⟨G,ρ',d,S.gh,S.envR,ef,fun v G' H' E r=>k v G' H' (S.ext E) E.gg r⟩
noncomputable def mAN:DMA:=fun ρ=>some ([],ρ)
noncomputable def mAC (f:DM) (g:DMA):DMA:=fun ρ=>(f ρ).bind fun p=>(g p.2).bind fun q=>some (p.1::q.1,q.2)
theorem qfO {f:DM}{g:DMA}{ρ ρ':aA}{ds:List D}(h:mAC f g ρ=some (ds,ρ')):∃ x ρ1 xs,f ρ=some (x,ρ1)/\g ρ1=some (xs,ρ')/\ds=x::xs:=by
 unfold mAC at h;cases ef:f ρ with
 | none=>rw[ef] at h;cases h
 | some p=>
  obtain⟨x,ρ1⟩:=p;rw[ef] at h;simp only[zA] at h;cases eg:g ρ1 with
  | none=>rw[eg] at h;cases h
  | some q=>obtain⟨xs,ρ2⟩:=q;rw[eg] at h;cases h;exact⟨x,ρ1,xs,rfl,eg,rfl⟩
theorem kz:PA X [] (tMA X.K B own mAN):=eD.imp fun σ H Q ⟨G,ρ,d,ρ',S,eq,k⟩=>by
 cases eq;exact k _ G H S (aZ.refl _) .nil
theorem eL {f:DM}{g:DMA}(h:PE X e (tM X.K B own f)) (t:PA X es (tMA X.K B own g)) (hs:starEach (e::es) X.env=(false,eval e X.env)::starEach es X.env:=by rfl):PA X (e::es) (tMA X.K B own (mAC f g)):=
 (cz h t hs).imp fun σ H Q ⟨G,ρ,d,ρ',S,eq,k⟩=>by obtain⟨x,ρ1,xs,ex,exs,rfl⟩:=qfO eq;exact⟨G,ρ,x,ρ1,S,ex,fun v G1 H1 S1 s1 r1=>⟨G1,ρ1,xs,ρ',S1,exs,fun vs G2 H2 S2 s2 r2=>k _ G2 H2 S2 (s1.trans s2) (.cons (Rep.mono s2 x r1) r2)⟩⟩
noncomputable def qaD (g:DMA):DM:=fun ρ=>(g ρ).bind fun q=>if q.1.length<=1000 then some (.tup q.1,q.2) else none
theorem qcX {x1} {g:DMA}(h:PA X es (tMA X.K B own g)):PE X (.Tuple es x1 pos) (tM X.K B own (qaD g)):=(qcq h).imp fun σ H Q ⟨G,ρ,d,ρ',S,eq,k⟩=>by
 unfold qaD at eq;cases eg:g ρ with
 | none=>rw[eg] at eq;cases eq
 | some q=>
  obtain⟨xs,ρ1⟩:=q;rw[eg] at eq;have eq:(if xs.length<=1000 then some (D.tup xs,ρ1) else none)=some (d,ρ'):=eq
  split at eq
  ·cases eq;rename_i hz;refine⟨G,ρ,xs,ρ',S,eg,fun vs G1 H1 S1 s1 r1=>⟨?_,fun p hp =>?_⟩⟩
   ·rw[<- r1.length];exact yA hz j8
   ·have E:=Ext.alloc (p:=p) (o :=.tup vs) S1.gh hp;exact k _ _ _ (S1.ext E) (s1.trans E.gg) (dm.mpr ⟨p,vs,rfl,aB,aI.mono E.gg xs r1⟩)
  ·cases eq
noncomputable def m2 (o:D->D->Option D) (a b:DM):DM:=fun ρ=>(a ρ).bind fun p=>(b p.2).bind fun q=>(o p.1 q.1).map fun d=>(d,q.2)
theorem qhM {o:D->D->Option D}{a b:DM}{ρ ρ':aA}{d:D}(h:m2 o a b ρ=some (d,ρ')):∃ x ρ1 y,a ρ=some (x,ρ1)/\b ρ1=some (y,ρ')/\o x y=some d:=by
 unfold m2 at h;cases ef:a ρ with
 | none=>rw[ef] at h;cases h
 | some p=>
  obtain⟨x,ρ1⟩:=p;rw[ef] at h;simp only[zA] at h;cases eg:b ρ1 with
  | none=>rw[eg] at h;cases h
  | some q=>
   obtain⟨y,ρ2⟩:=q;rw[eg] at h;simp only[zA] at h;cases eo:o x y with
   | none=>rw[eo] at h;cases h
   | some c=>rw[eo] at h;cases h;exact⟨x,ρ1,y,rfl,eg,eo⟩
theorem qir {K:Frag}{o:D->D->Option D}{fa fb:DM}{σ:St}{H:Hp}{Q:VK}(h:tM K B own (m2 o fa fb) σ H Q):tOp (rD K o) (tM K B own fa) (tM K B own fb) σ H Q:=by
 obtain⟨G,ρ,d,ρ',S,eq,k⟩:=h;obtain⟨x,ρ1,y,ex,ey,eo⟩:=qhM eq;exact⟨G,ρ,x,ρ1,S,ex,fun v G1 H1 S1 s1 r1=>⟨G1,ρ1,y,ρ',S1,ey,fun u G2 H2 S2 s2 r2=>⟨G2,x,y,d,S2.gh,.inl (Rep.mono s2 x r1),.inl r2,eo,fun w G3 H3 E3 r3=>k w G3 H3 (S2.ext E3) ((s1.trans s2).trans E3.gg) r3⟩⟩⟩
variable {a b:Expr}{fa fb:DM}
theorem qle {op:Operator}{o:D->D->Option D}(ho:OpD X (binaryOp op) o) (ha:PE X a (tM X.K B own fa)) (hb:PE X b (tM X.K B own fb)):PE X (.BinOp a op b pos) (tM X.K B own (m2 o fa fb)):=(qfo ho ha hb).imp fun σ H Q h=>qir h
theorem qlg (ha:PE X a (tM X.K B own fa)) (hb:PE X b (tM X.K B own fb)) (hs:qa9 b:=by exact fun _ _=>rfl):PE X (.Subscript a b pos) (tM X.K B own (m2 oIx fa fb)):=(qiv qeF ha hb hs).imp fun σ H Q h=>qir h
noncomputable def qfN (j:Nat):DM:=fun ρ=>(bH j ρ).bind fun ds=>(ds[ds.length-1]?).map fun d=>(d,ρ.set j (some (.lst ds.dropLast)))
theorem qjR {j:Nat}{y:Str}{p apos cpos:Pos}(h:PE X (.Name y p) (i4 j)) (hj:j∈own:=by decide)
  (hbase:attributeBase (.Name y p) "pop" X.env (eval (.Name y p) X.env)=eval (.Name y p) X.env:=by rfl) (hline:(apos.endLine==cpos.line)=true:=by rfl) :
  PE X (.Call (.Attribute (.Name y p) "pop" apos) [] [] cpos) (tM X.K B own (qfN j)):=
 (qja plainAttrs_list PySem.F.slot_list_pop PySem.F.type_list_pop qjt h hbase hline).imp fun σ H Q ⟨G,ρ,d,ρ',S,eq,k⟩=>by
  unfold qfN at eq;cases el:bH j ρ with
  | none=>rw[el] at eq;cases eq
  | some ds=>
   rw[el] at eq;cases ed:ds[ds.length-1]? with
   | none=>simp[ed] at eq
   | some c=>simp only[ed,zA,zT] at eq;cases eq;exact qi1 S hj (cD el) ed fun v H' S' r=>k v G H' S' (aZ.refl _) r
noncomputable def spM (K:Frag) (p:Nat) (F:List D->Option (D×List D)):Sp:=fun vs H Q _=>∃ G ds d xs' a ws xs,aZ G H/\ds[p]?=some (.lst xs)/\vs[p]?=some (.ref a)/\H a=some (.lst ws)/\aI K G xs ws/\G a=none /\
 (∀ (i:Nat) c,i≠p->ds[i]?=some c->∃ v,vs[i]?=some v/\Rep K G c v)/\ds.length=vs.length/\F ds=some (d,xs') /\
 ∀ v ws' G' H',Ext G (era H a) G' H'->G' a=none->H' a=some (.lst ws')->aI K G' xs' ws'->Rep K G' d v->Q v H'
noncomputable def qhr (p:Nat):DO->Option (D×List D)
 | .rm d ρ=>(bH p ρ).map fun xs=>(d,xs)
 | .nx ρ=>(bH p ρ).map fun xs=>(.non,xs)
 | _=>none
noncomputable def mz (n N p:Nat) (g:DG) (ds:List D):Option (D×List D):=if ds.length=n then (g (bq N ds)).bind (qhr p) else none
theorem SR.calledC {K:Frag}{G H G' H':Hp}{σ:St}{ρ:aA}{j:Nat}{a:Addr}{d d':D}{o':HO}(S:SR K B own G H σ ρ) (hj:j∈own) (hd:ρ[j]?=some (some d)) (hs:σ[j]?=some (some (.ref a)))
  (E:Ext G (era H a) G' H') (ga:G' a=none) (ha:H' a=some o') (r:jK K G' d' o'):SR K B own G' H' σ (ρ.set j (some d')):=by
 obtain⟨a',o0,e2,e3,e4,e5,e6⟩:=S.ownd j _ hj hd;rw[hs] at e2;cases e2;refine⟨E.gh,S.g0.trans E.gg,fun b o e =>?_,fun b o e =>?_,fun i c hi e =>?_,fun i c hi e =>?_,fun i k b hi hk di dk ei ek =>?_,by simp[S.len],S.pin⟩
 ·exact E.hh b o (by rw[lq (ba e e6)];exact S.h0 b o e)
 ·rcases E.fr b o e with z|z
  ·exact S.fr b o z
  ·by_cases hb:b=a
   ·subst hb;exact .inr e6
   ·rw[lq hb] at z;exact .inr (S.h0.free z)
 ·have hne:j≠i:=fun z=>hi (z ▸ hj)
  rw[zK hne] at e;obtain⟨v,f1,f2⟩:=S.env i c hi e;exact⟨v,f1,Rep.mono E.gg c f2⟩
 ·rcases fV e with ⟨rfl,rfl,hl⟩|⟨hne,e⟩
  ·exact⟨a,o',hs,ha,r,ga,e6⟩
  ·obtain⟨b,w,f2,f3,f4,f5,f6⟩:=S.ownd i c hi e;have hb:b≠a:=fun z=>hne (S.inj j i a hj hi ⟨_,hd⟩ ⟨_,e⟩ hs (z ▸ f2))
   have hb':era H a b=some w:=by rw[lq hb];exact f3
   refine⟨b,w,f2,E.hh _ _ hb',f4.mono E.gg,?_,f6⟩;cases q:G' b with
   | none=>rfl
   | some o=>
    rcases E.fr b o q with z|z
    ·rw[f5] at z;cases z
    ·rw[hb'] at z;cases z
 ·have un:∀ m:Nat,(∃ d,(ρ.set j (some d'))[m]?=some (some d))->∃ d,ρ[m]?=some (some d):=fun m ⟨d,e⟩=>by
   rcases fV e with ⟨rfl,_,_⟩|⟨_,e⟩
   ·exact⟨_,hd⟩
   ·exact⟨_,e⟩
  exact S.inj i k b hi hk (un i di) (un k dk) ei ek
theorem SR.called {K:Frag}{G H G' H':Hp}{σ:St}{ρ:aA}{j:Nat}{a:Addr}{xs xs':List D}{ws':List V}(S:SR K B own G H σ ρ) (hj:j∈own) (hd:ρ[j]?=some (some (.lst xs))) (hs:σ[j]?=some (some (.ref a)))
  (E:Ext G (era H a) G' H') (ga:G' a=none) (ha:H' a=some (.lst ws')) (r:aI K G' xs' ws'):SR K B own G' H' σ (ρ.set j (some (.lst xs'))):=
 S.calledC hj hd hs E ga ha ⟨ws',rfl,r⟩
noncomputable def dE (F:List D->Option (D×List D)) (j:Nat) (g:DL):DM:=fun ρ=>(bH j ρ).bind fun xs=>(g ρ).bind fun ds=>(F (.lst xs::ds)).map fun q=>(q.1,ρ.set j (some (.lst q.2)))
theorem iF {F:List D->Option (D×List D)}{x y:Str}{k j:Nat}{p p':Pos}{g:DL}(h:Ok1 X.prog X.w X.K X.mg X.base x k (spM X.K 0 F)) (hr:cJ k X.A) (hg:Gl X x) (hy:PE X (.Name y p') (i4 j)) (ha:PA X es (tPA X.K own g)) (hj:j∈own:=by decide) (hdb:(x==("__debug__" : Str))=false:=by decide)
  (he:starEach (.Name y p'::es) X.env=(false,eval (.Name y p') X.env)::starEach es X.env:=by rfl) (hpl:(backTo pos (starEach es X.env)).any (·.1)=false:=by rfl):PE X (.Call (.Name x p) (.Name y p'::es) [] pos) (tM X.K B own (dE F j g)):=by
 obtain⟨f,fd,ps,h1,hm,hk,hb⟩:=h.ex;refine(lS h1 hr hg hm hk hb .nil oq (cz hy ha he) hdb he hpl).imp fun σ H Q ⟨G,ρ,d,ρ',S,eq,q⟩ =>?_
 unfold dE at eq;cases el:bH j ρ with
 | none=>rw[el] at eq;cases eq
 | some xs=>
  rw[el] at eq;cases eg:g ρ with
  | none=>simp[eg] at eq
  | some ds=>
   simp only[eg,zA] at eq;cases ef:F (.lst xs::ds) with
   | none=>rw[ef] at eq;cases eq
   | some r=>
    obtain⟨d',xs'⟩:=r;rw[ef] at eq;cases eq;have hd:=cD el;obtain⟨a,vs,e2,e3,e4,e5,e6⟩:=S.ownL hj hd;refine⟨_,e2,G,ρ,ds,S.gh,S.envR,eg,fun us G1 H1 E1 r1 =>?_⟩
    have S1:=S.ext E1;obtain⟨a',vs1,f2,f3,f4,f5,f6⟩:=S1.ownL hj hd;rw[e2] at f2;cases f2;show spM X.K 0 F ((.ref a::us)++[]) H1 Q E0;rw[List.append_nil];refine⟨G1,.lst xs::ds,d',xs',a,vs1,xs,E1.gh,rfl,rfl,f3,f4,f5,fun i c hi ec =>?_,by simp[r1.length],ef,fun v ws' G2 H2 E2 g2 h2 r2 r3 =>?_⟩
    ·cases i with
     | zero=>exact absurd rfl hi
     | succ i=>exact r1.get (i:=i) (by simpa using ec)
    ·exact q v G2 H2 (S1.called hj hd e2 E2 g2 h2 r2) (E1.gg.trans E2.gg) r3
noncomputable def fY (F:List D->Option D) (g:DMA):DM:=fun ρ=>(g ρ).bind fun q=>(F q.1).map fun d=>(d,q.2)
theorem oR {F:List D->Option D}{x:Str}{k:Nat}{p:Pos}{g:DMA}(h:Ok1 X.prog X.w X.K X.mg X.base x k (spF X.K F)) (hr:cJ k X.A) (hg:Gl X x) (ha:PA X (e::es) (tMA X.K B own g)) (hdb:(x==("__debug__" : Str))=false:=by decide)
  (he:starEach (e::es) X.env=(false,eval e X.env)::starEach es X.env:=by rfl) (hpl:(backTo pos (starEach es X.env)).any (·.1)=false:=by rfl):PE X (.Call (.Name x p) (e::es) [] pos) (tM X.K B own (fY F g)):=by
 obtain⟨f,fd,ps,h1,hm,hk,hb⟩:=h.ex;refine(lS h1 hr hg hm hk hb .nil oq ha hdb he hpl).imp fun σ H Q ⟨G,ρ,d,ρ',S,eq,q⟩ =>?_
 unfold fY at eq;cases eg:g ρ with
 | none=>rw[eg] at eq;cases eq
 | some r=>
  obtain⟨xs,ρ1⟩:=r;rw[eg] at eq;simp only[zA] at eq;cases ef:F xs with
  | none=>rw[ef] at eq;cases eq
  | some c=>
   rw[ef] at eq;cases eq;exact⟨G,ρ,xs,ρ',S,eg,fun vs G1 H1 S1 s1 r1=>by show spF X.K F (vs++[]) H1 Q E0;rw[List.append_nil];exact⟨G1,xs,d,S1.gh,r1,ef,fun v G2 H2 E2 r2=>q v G2 H2 (S1.ext E2) (s1.trans E2.gg) r2⟩⟩
end
end L2
end
noncomputable section
namespace L2
open PySem PySem.Spec PyProof.Rows
noncomputable section
variable {X:Cx}{B:Bs}{oL own own1:List Nat}{e:Expr}{pos:Pos}{f:DM}
noncomputable def jT (i:Nat) (f:DM):DG:=fun ρ=>(f ρ).map fun q =>.nx (q.2.set i (some q.1))
theorem nM {i:Nat}{x:Str}{pos':Pos}(hN:X.N.Nodup) (hi:X.N[i]?=some x) (hx:Loc X.env.scope x) (he:PE X e (tM X.K B own f)) (ho:i∉own:=by decide)
  (hs:swapsWith e (some (.Name x pos')) pos.line X.env=pure false:=by rfl) (hf:X.fn x=true∨X.env.scope.names.lookup x=some .local:=by first|exact .inl rfl|exact .inr rfl|assumption) :
  PS X (.Assign [.Name x pos'] e pos) (tDS X.K B oL own own (jT i f)):=(iM hN hi hx he hs hf).imp fun D σ H ⟨G,ρ,o,S,eq,k⟩=>by
 unfold jT at eq;cases ef:f ρ with
 | none=>rw[ef] at eq;cases eq
 | some q=>obtain⟨d,ρ1⟩:=q;rw[ef] at eq;cases eq;exact⟨G,ρ,d,ρ1,S,ef,fun v G' H' S' _ r=>k _ G' H' (S'.setS ho r)⟩
noncomputable def ck (f:DM):DG:=fun ρ=>(f ρ).map fun q =>.rm q.1 q.2
theorem cU (he:PE X e (tM X.K B own f)):PS X (.Return (some e) pos) (tDS X.K B oL own own1 (ck f)):=(jV he).imp fun D σ H ⟨G,ρ,o,S,eq,k⟩=>by
 unfold ck at eq;cases ef:f ρ with
 | none=>rw[ef] at eq;cases eq
 | some q=>obtain⟨d,ρ1⟩:=q;rw[ef] at eq;cases eq;exact⟨G,ρ,d,ρ1,S,ef,fun v G' H' S' _ r=>k v σ G' H' ⟨own,S'⟩ r⟩
noncomputable def mx (i:Nat):DG:=fun ρ=>(bH i ρ).map fun ds =>.rm (.lst ds) ρ
theorem qbT {i:Nat}{x:Str}{p:Pos}(h:PE X (.Name x p) (i4 i)) (hi:i∈own:=by decide) (hpin:∀ a,(i,a)∉B.3:=by intro a;simp_all):PS X (.Return (some (.Name x p)) pos) (tDS X.K B oL own own1 (mx i)):=(jV h).imp fun D σ H ⟨G,ρ,o,S,eq,k⟩=>by
 unfold mx at eq;cases el:bH i ρ with
 | none=>rw[el] at eq;cases eq
 | some ds=>
  rw[el] at eq;cases eq;have hd:=cD el;obtain⟨a,vs,e2,e3,e4,e5,e6⟩:=S.ownL hi hd;obtain⟨G',S'⟩:=S.freeze (own':=own.filter (· != i)) (fun j hj=>(List.mem_filter.mp hj).1) i (fun j hj=>by
   by_cases hji:j=i
   ·exact .inr hji
   ·exact .inl (List.mem_filter.mpr ⟨hj,by simpa using hji⟩)) (fun z=>by have:=(List.mem_filter.mp z).2;simp at this) hi hpin
  obtain⟨v,f1,f2⟩:=S'.env i _ (fun z=>by have:=(List.mem_filter.mp z).2;simp at this) hd
  exact⟨v,f1,k v σ G' H ⟨_,S'⟩ f2⟩
noncomputable def qbt (i:Nat) (f:DM):DG:=fun ρ=>(bH i ρ).bind fun _=>(f ρ).bind fun q=>(bH i q.2).bind fun ds=>if ds.length<cH then some (.nx (q.2.set i (some (.lst (ds++[q.1]))))) else none
theorem qh8 {i:Nat}{x:Str}{p apos cpos:Pos}(h:PE X (.Name x p) (i4 i)) (he:PE X e (tM X.K B own f)) (hi:i∈own:=by decide)
  (hbase:attributeBase (.Name x p) "append" X.env (eval (.Name x p) X.env)=eval (.Name x p) X.env:=by rfl)
  (hfew:((backTo cpos (starEach (e::[]) X.env)).all (fun x=> !x.1)&&(backToKw cpos (keywordEach [] X.env)).all (fun x=>x.1.isSome)
   && decide ((e::[]).length+([]:List Keyword).length+(if ([]:List Keyword).isEmpty then 0 else 1)<30))=true:=by rfl)
  (hline:(apos.endLine==cpos.line)=true:=by rfl) (hs:starEach (e::[]) X.env=(false,eval e X.env)::starEach [] X.env:=by rfl) (hplain:(backTo cpos (starEach [] X.env)).any (·.1)=false:=by rfl)
  (hsw:swapsWith (.Call (.Attribute (.Name x p) "append" apos) [e] [] cpos) none pos.line X.env=pure false:=by rfl) :
  PS X (.Expr (.Call (.Attribute (.Name x p) "append" apos) [e] [] cpos) pos) (tDS X.K B oL own own (qbt i f)):=
 (nI (qdo plainAttrs_list PySem.F.slot_list_append PySem.F.type_list_append ko h (cz he eD hs) hbase hfew hline hs hplain) hsw).imp fun D σ H ⟨G,ρ,o,S,eq,k⟩=>by
  unfold qbt at eq;cases el:bH i ρ with
  | none=>rw[el] at eq;cases eq
  | some ds0=>
   rw[el] at eq;cases ef:f ρ with
   | none=>simp[ef] at eq
   | some q=>
    obtain⟨d,ρ1⟩:=q;simp only[ef,zA] at eq;cases el1:bH i ρ1 with
    | none=>rw[el1] at eq;cases eq
    | some ds=>
     rw[el1] at eq;simp only[zA] at eq
     split at eq
     ·cases eq;rename_i hz;obtain⟨a,vs,e2,e3,e4,e5,e6⟩:=S.ownL hi (cD el);refine⟨_,e2,.inl ⟨rfl,vs,.of e3⟩,G,ρ,d,ρ1,S,ef,fun v G' H' S' s' r =>?_⟩
      have hd:=cD el1;obtain⟨a',vs',f2,f3,f4,_⟩:=S'.ownL hi hd;rw[e2] at f2;cases f2;refine⟨a,vs',v,rfl,rfl,f3,?_,k _ G' _ (S'.mut hi hd e2 (f4.append (.cons r .nil)))⟩;rw[<- f4.length];exact zS hz dL
     ·cases eq
noncomputable def iRM (f:DM):DMA:=fun ρ=>(f ρ).bind fun q=>match q.1 with|.int j=>if -(2 ^ 62)<=j/\j<2 ^ 62 then some (gi 0 j.toNat,q.2) else none|_=>none
theorem qcY {tg:Expr}{p:Pos}(hg:Gl X "range") (hm:X.mg "range" = none) (h:PE X e (tM X.K B own f)) (hs:starEach [e] X.env=(false,eval e X.env)::starEach [] X.env:=by rfl) (hs2:starEach [e] X.env=[(false,eval e X.env)]:=by rfl):PI X tg (.Call (.Name "range" p) [e] [] pos) (tMI X.K B own (iRM f)):=
 (pH hg hm (cz h eD hs) hs2).imp fun σ H R ⟨G,ρ,ds,ρ',S,eq,k⟩=>by
  unfold iRM at eq;cases ef:f ρ with
  | none=>rw[ef] at eq;cases eq
  | some q=>
   obtain⟨d,ρ1⟩:=q;rw[ef] at eq;cases d<;>simp only[zA] at eq<;>try (cases eq;done)
   split at eq
   ·cases eq;rename_i j hj;exact⟨G,ρ,_,_,S,ef,fun v G1 H1 S1 s1 r1=>⟨j,by rw[bh.mp r1],hj.1,hj.2,k _ G1 H1 S1 (oE 0 j.toNat)⟩⟩
   ·cases eq
end
theorem qd0 {fl:Str->Int->Prop}{K:Frag}{G H:Hp}{own:List Nat}{N:List Str}{p:Nat}{ds xs:List D}{vs ws:List V}{a:Addr}(s:aZ G H) (hp:p∈own) (hd:ds[p]?=some (.lst xs)) (hv:vs[p]?=some (.ref a)) (ha:H a=some (.lst ws)) (r:aI K G xs ws) (ga:G a=none)
  (ro:∀ (i:Nat) c,i≠p->ds[i]?=some c->∃ v,vs[i]?=some v/\Rep K G c v) (hl:ds.length=vs.length) (ho:∀ i∈own,i=p∨ds.length<=i):SR K ⟨G,era H a,[(p,a)],fl⟩ own G H (fT N vs) (bq N.length ds):=by
 have getσ:∀ (i:Nat) v,vs[i]?=some v->(fT N vs)[i]?=some (some v):=fun i v e=>by have hi:i<vs.length:=(zC.mp e).1;unfold fT;rw[yC (by simpa using hi),zM,e];rfl
 have isp:∀ i∈own,(∃ d,(bq N.length ds)[i]?=some (some d))->i=p:=fun i hi ⟨d,e⟩=>by
  have:=(zC.mp (eO e)).1;rcases ho i hi with z|z
  ·exact z
  ·omega
 refine⟨s,aZ.refl _,qaU,fun b o e =>.inl e,fun i d hi e =>?_,fun i d hi e =>?_,fun i j b hi hj di dj _ _=>(isp i hi di).trans (isp j hj dj).symm,by simp[fT,bq,hl],fun i b h =>?_⟩
 ·obtain⟨v,ev,rv⟩:=ro i d (fun z=>hi (z ▸ hp)) (eO e)
  exact⟨v,getσ i v ev,rv⟩
 ·have z:=isp i hi ⟨d,e⟩;subst z;have e':=eO e;rw[hd] at e';cases e';exact⟨a,_,getσ _ _ hv,ha,⟨ws,rfl,r⟩,ga,l4⟩
 ·have z:(i,b)=(p,a):=by simpa using h
  cases z;exact⟨hp,getσ _ _ hv⟩
noncomputable section
variable {P:Program}{w:World}{K:Frag}{mg:Str->Option Value}{base:Heap}
theorem Fun.okM {x qual:Str}{st:Stmt}{f:Addr}{fd:FuncData}{N ps:List Str}{k:Nat}(F:Fun K x qual st f fd) (S:aR N ps (am st)) (p:Nat) {own own':List Nat}{g:DG}(hp:p∈own) (hown:∀ i∈own,i=p∨ps.length<=i)
  (hb:∀ (cdv:Value) (A:Around) (outer:List Env) (s:Shared) (H:Hp) (E:XK),cJ k (A.deeper (envOfC qual (am st) s.heap.objs.size f cdv))->∀ (B:Bs) (a:Addr),B.3=[(p,a)] ->
   PSs (jy CX0 P w K mg base N qual (am st) f cdv A outer s H E).nox (cI st) (tDS K B [] own own' g)):bD P w K mg base CX0 (k+1) f fd ps (spM K p (mz ps.length N.length p g)):=by
 refine F.ok S (fun vs H Q E h =>?_) (fun cdv A outer s H vs Q E hr h =>?_)
 ·obtain⟨G,ds,d,xs',a,ws,xs,gh,hd,hv,ha,r,ga,ro,hl,eq,_⟩:=h;unfold mz at eq
  split at eq
  ·rw[<- hl];assumption
  ·cases eq
 ·obtain⟨G,ds,d,xs',a,ws,xs,gh,hd,hv,ha,r,ga,ro,hl,eq,q⟩:=h;unfold mz at eq
  split at eq
  ·rename_i hn;refine⟨_,hb cdv A outer s H E hr ⟨G,era H a,[(p,a)],fun _ _=>False⟩ a rfl,?_⟩
   cases eg:g (bq N.length ds) with
   | none=>rw[eg] at eq;cases eq
   | some o=>
    rw[eg] at eq;have fin:∀ {σ:St}{ρ:aA}{G' H':Hp}{o':List Nat}{ys:List D},SR K ⟨G,era H a,[(p,a)],fun _ _=>False⟩ o' G' H' σ ρ->bH p ρ=some ys->∃ ws',H' a=some (.lst ws')/\aI K G' ys ws'/\G' a=none:=fun {σ ρ G' H' o' ys} S' el=>by
     obtain⟨hp',hσ⟩:=S'.pin p a (by simp)
     obtain⟨b,vs',f2,f3,f4,f5,_⟩:=S'.ownL hp' (cD el);rw[hσ] at f2;cases f2;exact⟨vs',f3,f4,f5⟩
    refine⟨G,_,o,qd0 gh hp hd hv ha r ga ro hl (by rw[hn];exact hown),eg,?_⟩
    cases o with
    | rm d' ρ=>
     have eq:Option.map (fun xs=>(d',xs)) (bH p ρ)=some (d,xs'):=eq
     cases el:bH p ρ with
     | none=>rw[el] at eq;cases eq
     | some ys=>rw[el] at eq;cases eq;intro v σ G' H' ⟨o',S'⟩ rv;obtain⟨ws',f3,f4,f5⟩:=fin S' el;exact q v ws' G' H' S'.toExt f5 f3 f4 rv
    | nx ρ=>
     have eq:Option.map (fun xs=>(D.non,xs)) (bH p ρ)=some (d,xs'):=eq
     cases el:bH p ρ with
     | none=>rw[el] at eq;cases eq
     | some ys=>rw[el] at eq;cases eq;intro σ G' H' S';obtain⟨ws',f3,f4,f5⟩:=fin S' el;exact q _ ws' G' H' S'.toExt f5 f3 f4 (dr.mpr rfl)
    | rt d'=>cases eq
    | ro d'=>cases eq
    | bk ρ=>cases eq
    | ct ρ=>cases eq
    | ex c n=>cases eq
  ·cases eq
end
end L2
end
noncomputable section
namespace L2
open PySem PySem.Spec PyProof.Rows
noncomputable def lcM (ρ:aA) (τ:DTg) (fe:DM) (i0:Nat):List D->List D->Option (List D×List D)
 | [],xs=>some ([],xs)
 | d::ds,xs=>(τ d (ρ.set i0 (some (.lst xs)))).bind fun ρ1=>(fe ρ1).bind fun p=>(bH i0 p.2).bind fun xs'=>(lcM ρ τ fe i0 ds xs').map fun q=>(p.1::q.1,q.2)
noncomputable def mLC (f:DL) (src:List (Option Nat)) (τ:DTg) (fe:DM) (i0 j0:Nat):DM:=fun ρ=>(f ρ).bind fun ds=>if ds.length<=cH then (bH j0 ρ).bind fun xs=>(lcM (gv src ρ) τ fe i0 ds xs).map fun q=>(.lst q.1,ρ.set j0 (some (.lst q.2))) else none
noncomputable def tMx (K:Frag) (i0:Nat) (fe:DM):TE:=fun σ H Q=>∃ (B:Bs) (a:Addr),B.3=[(i0,a)]/\tM K B [i0] fe σ H Q
theorem dmx {X:Cx}{e:Expr}{i0:Nat}{fe:DM}(h:∀ (B:Bs) (a:Addr),B.3=[(i0,a)]->PE X e (tM X.K B [i0] fe)):PE X e (tMx X.K i0 fe):=fun pins s σ H Q I ⟨B,a,hB,q⟩=>h B a hB pins s σ H Q I q
theorem qbp {α:Type}:∀ {l:List α}{i:Nat}{x:α},l[i]?=some x->l.set i x=l
 | [],i,x,h=>by simp at h
 | y::l,0,x,h=>by simp at h;subst h;rfl
 | y::l,i+1,x,h=>by simp at h;simp[qbp h]
noncomputable section
variable {K:Frag}{B:Bs}{own:List Nat}{src:List (Option Nat)}{G H:Hp}{σ:St}{ρ:aA}
theorem qeX {i:Nat}{d:D}(e:(gv src ρ)[i]?=some (some d)):∃ j,src[i]?=some (some j)/\ρ[j]?=some (some d):=by
 unfold gv at e;rw[zM] at e;cases es:src[i]? with
 | none=>rw[es] at e;cases e
 | some o=>
  rw[es] at e;cases o with
  | none=>cases e
  | some j=>
   have e:(ρ[j]?).getD none=some d:=by simpa using e
   refine⟨j,rfl,?_⟩;cases q:ρ[j]? with
   | none=>rw[q] at e;cases e
   | some z=>rw[q] at e;rw[show z=some d from e]
theorem n7 {i j:Nat}{v:V}(es:src[i]?=some (some j)) (ev:σ[j]?=some (some v)):(iJ src σ)[i]?=some (some v):=by
 unfold iJ;rw[zM,es];simp[ev]
theorem SR.inner {fl:Str->Int->Prop}{i0 j0:Nat}{a:Addr}{xs:List D}(S:SR K B own G H σ (ρ.set j0 (some (.lst xs)))) (ho:iN own [i0] src=true) (h0:src[i0]?=some (some j0)) (hρ:∃ d,ρ[j0]?=some d) (hs:σ[j0]?=some (some (.ref a))) :
  SR K ⟨G,era H a,[(i0,a)],fl⟩ [i0] G H (iJ src σ) ((gv src ρ).set i0 (some (.lst xs))):=by
 have hj0:j0∈own:=(jn ho h0).mp (by simp)
 obtain⟨d0,hρ⟩:=hρ;have hl:j0<ρ.length:=(zC.mp hρ).1;have hd:(ρ.set j0 (some (D.lst xs)))[j0]?=some (some (.lst xs)):=by rw[List.getElem?_set_self hl]
 obtain⟨b,vs,e2,e3,e4,e5,e6⟩:=S.ownL hj0 hd;rw[hs] at e2;cases e2;refine⟨S.gh,aZ.refl _,qaU,fun b o e =>.inl e,fun i d hi e =>?_,fun i d hi e =>?_,fun i j b hi hj _ _ _ _=>by simp at hi hj;rw[hi,hj],by simp[iJ,gv],fun i b h =>?_⟩
 ·rcases fV e with ⟨rfl,_,_⟩|⟨hne,e⟩
  ·exact absurd (by simp) hi
  ·obtain⟨j,es,ej⟩:=qeX e;have hj:j∉own:=fun z=>hi ((jn ho es).mpr z)
   have:j0≠j:=fun z=>hj (z ▸ hj0)
   obtain⟨v,f1,f2⟩:=S.env j d hj (by rw[zK this];exact ej)
   exact⟨v,n7 es f1,f2⟩
 ·have z:i=i0:=by simpa using hi
  subst z;rcases fV e with ⟨_,rfl,_⟩|⟨hne,_⟩
  ·exact⟨a,_,n7 h0 hs,e3,⟨vs,rfl,e4⟩,e5,l4⟩
  ·exact absurd rfl hne
 ·have z:(i,b)=(i0,a):=by simpa using h
  cases z;exact⟨by simp,n7 h0 hs⟩
end
noncomputable section
variable {X:Cx}{B:Bs}{own oS:List Nat}{N:List Str}{src:List (Option Nat)}{scope:Scope}{tg iter elt:Expr}{f:DL}{τ:DTg}{fe:DM}{g:TG}{pos:Pos}{i0 j0:Nat}
theorem qjx {K:Frag}{σ:St}{H:Hp}{Q:VK}(ho:iN own [i0] src=true) (h0:src[i0]?=some (some j0)) (hg:∀ (B:Bs) v σ H Q,tTG K B [i0] τ v σ H Q->g v σ H Q) (q:tM K B own (mLC f src τ fe i0 j0) σ H Q) :
  tLc (tPI K own f) src g (tPT K [i0] gf) (tMx K i0 fe) σ H Q:=by
 obtain⟨G,ρ,d,ρ',S,eq,k⟩:=q;have hj0:j0∈own:=(jn ho h0).mp (by simp)
 unfold mLC at eq;cases ef:f ρ with
 | none=>rw[ef] at eq;cases eq
 | some ds=>
  rw[ef] at eq;have eq:(if ds.length<=cH then (bH j0 ρ).bind fun xs=>(lcM (gv src ρ) τ fe i0 ds xs).map fun q=>(D.lst q.1,ρ.set j0 (some (.lst q.2))) else none)=some (d,ρ'):=eq
  split at eq
  ·rename_i hz;cases el:bH j0 ρ with
   | none=>rw[el] at eq;cases eq
   | some xs0=>
    rw[el] at eq;simp only[zA] at eq;cases em:lcM (gv src ρ) τ fe i0 ds xs0 with
    | none=>rw[em] at eq;cases eq
    | some q0=>
     obtain⟨rs,xsF⟩:=q0;rw[em] at eq;cases eq;have hd0:=cD el;obtain⟨a,vs0,e2,_⟩:=S.ownL hj0 hd0;refine⟨G,ρ,ds,S.gh,S.envR,ef,fun J G1 H1 E1 ok =>?_⟩
     have S1:=S.ext E1;rw[<- qbp hd0] at S1;refine⟨fun i m ys H2=>m=ds.length-i/\i<=ds.length/\ys.length<=i/\∃ G2 acc xs cm,SR K B own G2 H2 σ (ρ.set j0 (some (.lst xs)))/\aZ G1 G2/\aI K G2 acc ys/\lcM (gv src ρ) τ fe i0 (ds.drop i) xs=some (cm,xsF)/\acc++cm=rs,
      ⟨ds.length,rfl,Nat.zero_le _,zL _,G1,[],xs0,rs,S1,aZ.refl _,.nil,em,rfl⟩,?_⟩
     rintro i m ys H2 ⟨rfl,hil,hyl,G2,acc,xs,cm,S2,s2,rx,er,rfl⟩;have sub:aZ G1 H2:=s2.trans S2.gh;by_cases hlt:i<ds.length
     ·refine .inr ⟨ok.go i H2 sub hlt,?_,fun ys' H'=>ys'.length<=i+1/\∃ G3 acc' xs' rest',SR K B own G3 H' σ (ρ.set j0 (some (.lst xs')))/\aZ G1 G3/\aI K G3 acc' ys'/\lcM (gv src ρ) τ fe i0 (ds.drop (i+1)) xs'=some (rest',xsF)/\acc'++rest'=acc++cm,
       fun ys' H' z=>⟨ds.length-(i+1),by omega,rfl,hlt,z⟩,fun x H3 y =>?_⟩
      ·have:=dL;omega
      ·obtain⟨G3,E3,rep3⟩:=ok.yld i H2 x H3 G2 ds[i] s2 S2.gh y (zI hlt);have S3:=S2.ext E3;rw[List.drop_eq_getElem_cons hlt] at er;unfold lcM at er;cases et:τ ds[i] ((gv src ρ).set i0 (some (.lst xs))) with
       | none=>rw[et] at er;cases er
       | some ρ4=>
        rw[et] at er;simp only[zA] at er;cases ee:fe ρ4 with
        | none=>rw[ee] at er;cases er
        | some p4=>
         obtain⟨x4,ρ5⟩:=p4;rw[ee] at er;simp only[zA] at er;cases el4:bH i0 ρ5 with
         | none=>rw[el4] at er;cases er
         | some xs4=>
          rw[el4] at er;simp only[zA] at er;cases em4:lcM (gv src ρ) τ fe i0 (ds.drop (i+1)) xs4 with
          | none=>rw[em4] at er;cases er
          | some q4=>
           obtain⟨rest4,xsE⟩:=q4;rw[em4] at er;cases er;have SI:=S3.inner (fl:=fun _ _=>False) ho h0 ⟨_,hd0⟩ e2
           refine hg ⟨G3,era H3 a,[(i0,a)],fun _ _=>False⟩ _ _ _ _ ⟨G3,_,ds[i],ρ4,SI,rep3,et,fun σ4 G4 H4 S4=>⟨G4,ρ4,true,S4.gh,S4.envR,rfl,fun G5 H5 E5=>pi ?_⟩⟩
           refine⟨⟨G3,era H3 a,[(i0,a)],fun _ _=>False⟩,a,rfl,G5,ρ4,x4,ρ5,S4.ext E5,ee,fun v G6 H6 S6 s6 r6=>⟨by simp;omega,G6,acc++[x4],xs4,rest4,?_,?_,?_,em4,by simp⟩⟩
           ·obtain⟨hp',hσ⟩:=S6.pin i0 a (by simp)
            obtain⟨b,ws,f2,f3,f4,f5,_⟩:=S6.ownL hp' (cD el4);rw[hσ] at f2;cases f2;have hl:j0<ρ.length:=(zC.mp hd0).1;have:=S3.called (xs':=xs4) hj0 (by rw[List.getElem?_set_self hl]) e2 S6.toExt f5 f3 f4
            rw[List.set_set] at this;exact this
           ·exact s2.trans (E3.gg.trans S6.g0)
           ·exact(aI.mono (E3.gg.trans S6.g0) acc rx).append (.cons r6 .nil)
     ·have e:i=ds.length:=by omega
      subst e;rw[List.drop_length] at er;unfold lcM at er;cases er;refine .inl ⟨ok.stop _ H2 sub (zL _),fun p hp =>?_⟩
      have EA:=Ext.alloc (p:=p) (o :=.lst ys) S2.gh hp;refine k _ _ _ (S2.ext EA) (E1.gg.trans (s2.trans EA.gg)) ?_;rw[List.append_nil];exact cp.mpr ⟨p,ys,rfl,aB,aI.mono EA.gg acc rx⟩
  ·cases eq
theorem qlf (S:dC X N src scope) (hc:X.calm=true) (hi:PI X tg iter (tPI X.K own f)) (ag:GAg oS g) (hos:∀ i∈oS,src[i]?=some none) (hg:∀ (B:Bs) v σ H Q,tTG X.K B [i0] τ v σ H Q->g v σ H Q)
  (hb:∀ C s H ex,PG (X.blk N scope C s H ex) tg g/\PTs (X.blk N scope C s H ex) [] (tPT X.K [i0] gf)/\PE (X.blk N scope C s H ex) elt (tMx X.K i0 fe)) (h0:src[i0]?=some (some j0):=by rfl) (ho:iN own [i0] src=true:=by decide)
  (hs:∀ x,foldedSetIterable iter X.env x=pure x:=by intro _;rfl):PE X (.ListComp elt [⟨tg,iter,[],0⟩] scope pos) (tM X.K B own (mLC f src τ fe i0 j0)):=
 (qiu S hc hi ag hos hb hs).imp fun σ H Q q=>qjx ho h0 hg q
theorem qf5 (K:Frag) (i i0:Nat) (hi:i∉[i0]:=by decide):∀ (B:Bs) v σ H Q,tTG K B [i0] (gN i) v σ H Q->jE i v σ H Q:=fun B v σ H Q ⟨G,ρ,d,ρ',S,r,eq,k⟩=>by
 cases eq;exact k _ G H (S.setS hi r)
end
end L2
end
noncomputable section
namespace L2
open PySem PySem.Spec PyProof.Rows
noncomputable section
variable {X:Cx}{own:List Nat}{e:Expr}{pos p:Pos}{g:DF}
noncomputable def fF (c f:Str) (g:DF):DF:=fun ρ=>(g ρ).bind fun d=>match d with|.ins c' ks ds=>if c'=c then (ks.zip ds).lookup f else none|_=>none
theorem qaQ {K:Frag}{G:Hp}{f:Str}:∀ {ks:List Str}{ds:List D}{vs:List V}{d:D},aI K G ds vs->(ks.zip ds).lookup f=some d->∃ v,(ks.zip vs).lookup f=some v/\Rep K G d v
 | [],ds,vs,d,r,e=>by simp at e
 | k::ks,[],vs,d,r,e=>by simp at e
 | k::ks,c::ds,vs,d,r,e=>by
  obtain⟨v,t,rfl,rv,rt⟩:=be.mp r;simp only[List.zip_cons_cons,List.lookup_cons] at e ⊢;cases h:(f==k) with
  | true=>rw[h] at e;cases e;exact⟨v,rfl,rv⟩
  | false=>rw[h] at e;exact qaQ rt e
noncomputable def vOf:D->V
 | .bl b =>.bl b
 | .int i =>.int i
 | .str x =>.str x
 | _ =>.non
theorem qc7 {K:Frag}{G:Hp}{d:D}{v:V}(h:kQ d=true) (r:Rep K G d v):v=vOf d/\jF v=true:=by
 cases d<;>first|(simp[kQ] at h;done)|(simp only[Rep] at r;subst r;exact⟨rfl,rfl⟩)
theorem qbi {K:Frag}{G:Hp}:∀ {ds:List D}{vs:List V},ds.all kQ=true->aI K G ds vs->vs=ds.map vOf/\vs.all jF=true
 | [],vs,h,r=>by rw[c6.mp r];exact⟨rfl,rfl⟩
 | d::ds,vs,h,r=>by rw[List.all_cons,Bool.and_eq_true] at h;obtain⟨v,t,rfl,rv,rt⟩:=be.mp r;obtain⟨e1,f1⟩:=qc7 h.1 rv;obtain⟨e2,f2⟩:=qbi h.2 rt;exact⟨by rw[e1,e2];rfl,by rw[List.all_cons,f1,f2];rfl⟩
noncomputable def inD (neg:Bool) (x:D) (ys:List D):Option D:=if (kQ x&&ys.all kQ)=true then some (.bl (if neg then !inV (vOf x) (ys.map vOf) else inV (vOf x) (ys.map vOf))) else none
noncomputable def oIn (neg:Bool):D->D->Option D
 | x,.lst ys=>inD neg x ys
 | x,.tup ys=>inD neg x ys
 | _,_=>none
theorem qiC {K:Frag}{neg:Bool}{x y:V}{H:Hp}{Q:VK}(h:rD K (oIn neg) x y H Q):rIn K neg x y H Q:=by
 obtain⟨G,d1,d2,d,gh,h1,h2,eq,q⟩:=h;have fin:∀ (ys:List D) (vs:List V),inD neg d1 ys=some d->aI K G ys vs->jF x=true/\vs.all jF=true/\d=.bl (if neg then !inV x vs else inV x vs):=fun ys vs e r=>by
  unfold inD at e
  split at e
  ·rename_i hs;rw[Bool.and_eq_true] at hs;have r1:Rep K G d1 x:=by
    rcases h1 with z|⟨a,o,_,_,z⟩
    ·exact z
    ·cases d1<;>first|exact z.elim|simp[kQ] at hs
   obtain⟨e1,f1⟩:=qc7 hs.1 r1;obtain⟨e2,f2⟩:=qbi hs.2 r;cases e;exact⟨f1,f2,by rw[e1,e2]⟩
  ·cases e
 cases d2<;>simp only[oIn] at eq<;>try (cases eq;done)
 ·obtain⟨p,vs,rfl,qa,ra⟩:=h2.lst gh;obtain⟨f1,f2,rfl⟩:=fin _ _ eq ra;exact⟨p,vs,rfl,.inl (.of qa),f1,f2,q _ G H (.refl gh) (bz.mpr rfl)⟩
 ·obtain⟨p,vs,rfl,qa,ra⟩:=h2.tup gh;obtain⟨f1,f2,rfl⟩:=fin _ _ eq ra;exact⟨p,vs,rfl,.inr (.of qa),f1,f2,q _ G H (.refl gh) (bz.mpr rfl)⟩
theorem qkT:OpD X (compareOp .In) (oIn false):=OpR.imp qed fun x y H Q h=>qiC h
theorem ou:OpD X (compareOp .NotIn) (oIn true):=OpR.imp qaw fun x y H Q h=>qiC h
variable {f:DF}
end
end L2
end
noncomputable section
namespace L2
open PySem PySem.Spec PyProof.Rows
noncomputable section
variable {X:Cx}{own:List Nat}{e e':Expr}{f f':DF}
end
end L2
end
noncomputable section
namespace L2
open PySem PySem.Spec PyProof.Rows
noncomputable section
variable {X:Cx}{own:List Nat}{tg e e':Expr}{f f':DF}{p pos:Pos}
end
end L2
end
noncomputable section
namespace L2
open PySem PySem.Spec PyProof.Rows
noncomputable section
variable {X:Cx}{own:List Nat}{e o:Expr}{f g:DF}{p pos:Pos}
theorem pw:∀ {ls:List Str}{us:List Value},bd (ls.map V.str) us->∃ l:List (Str×Tok),us=strValues l/\l.map (·.1)=ls
 | [],us,r=>by cases r;exact⟨[],rfl,rfl⟩
 | x::ls,us,r=>by
  cases r with
  | cons r t=>obtain⟨k,rfl⟩:=r;obtain⟨l,rfl,e⟩:=pw t;exact⟨(x,k)::l,rfl,by simp[e]⟩
noncomputable def mL (sep:Str) (ls:List Str):Nat:=ls.foldl (fun a x=>a+x.length+sep.length) 0
noncomputable def qkH (K:Frag):V->List V->Hp->VK->Prop:=fun x vs H Q=>∃ sep p ls,x=.str sep/\vs=[.ref p]/\SqL K H p (ls.map V.str)/\mL sep ls<=cH/\(Builtin.Str.glued sep ls).length<=cH/\Q (.str (Builtin.Str.glued sep ls)) H
theorem qhH:MtR X "str.join" (qkH X.K):=by
 intro pins s σ H x xs v us Q I rx rv ⟨sep,p,ls,ex,es,hq,h1,h2,q⟩;subst ex es;obtain⟨t,rfl⟩:=rx;obtain⟨u,rfl,ru⟩:=bd.one rv;cases ru;obtain⟨its,ri,pl,hz⟩:=I.list hq;obtain⟨l,rfl,el⟩:=pw ri;have hfold:Builtin.Str.tooLong ((l.map (·.1)).toArray.foldl (· + ·.length+sep.length) 0)=false:=by
  have:((l.map (·.1)).toArray.foldl (· + ·.length+sep.length) 0)=mL sep ls:=by rw[el];simp[mL]
  rw[this];unfold Builtin.Str.tooLong;have:=dL;simp;omega
 refine call_meets PySem.F.slot_str_join (typeIs_str _ _ _) PySem.F.entry_str_join (PySem.F.args_str_join_2 _ _) (meets_str_join_list sep t p l hfold) ⟨pl.isList,?_⟩;have big:=yA h2 dL;unfold joinMade
 split
 ·rename_i q0;rw[<- el] at q;exact⟨.str q0.1,H,I,⟨q0.2,rfl⟩,q⟩
 ·refine⟨by rw[el];exact big,.str (Builtin.Str.glued sep ls),H,I.kept (t':=s.toks+1) fun b o e=>e,⟨s.toks,by rw[el]⟩,q⟩
noncomputable def qaJ:D->Bool
 | .str _=>true
 | _=>false
noncomputable def qdY:D->Str
 | .str x=>x
 | _=>Str.empty
noncomputable def fX:D->D->Option D
 | .str sep,.lst ds=>if (ds.all qaJ&&decide (mL sep (ds.map qdY)<=cH)&&decide ((Builtin.Str.glued sep (ds.map qdY)).length<=cH))=true then some (.str (Builtin.Str.glued sep (ds.map qdY))) else none
 | _,_=>none
theorem pG {K:Frag}{G:Hp}:∀ {ds:List D}{vs:List V},ds.all qaJ=true->aI K G ds vs->vs=(ds.map qdY).map V.str
 | [],vs,h,r=>c6.mp r
 | d::ds,vs,h,r=>by rw[List.all_cons,Bool.and_eq_true] at h;obtain⟨v,t,rfl,rv,rt⟩:=be.mp r;rw[pG h.2 rt];cases d<;>first|(simp[qaJ] at h;done)|(rw[bG.mp rv];rfl)
theorem mj {apos cpos:Pos}(ho:PE X o (tQ X.K own f)) (he:PE X e (tQ X.K own g)) (hbase:attributeBase o "join" X.env (eval o X.env)=eval o X.env:=by rfl)
  (hfew:((backTo cpos (starEach (e::[]) X.env)).all (fun x=> !x.1)&&(backToKw cpos (keywordEach [] X.env)).all (fun x=>x.1.isSome)
   && decide ((e::[]).length+([]:List Keyword).length+(if ([]:List Keyword).isEmpty then 0 else 1)<30))=true:=by rfl)
  (hline:(apos.endLine==cpos.line)=true:=by rfl) (hs:starEach (e::[]) X.env=(false,eval e X.env)::starEach [] X.env:=by rfl) (hplain:(backTo cpos (starEach [] X.env)).any (·.1)=false:=by rfl) :
  PE X (.Call (.Attribute o "join" apos) [e] [] cpos) (tP X.K own (e2 fX f g)):=
 (qdo PySem.F.plainAttrs_str PySem.F.slot_str_join PySem.F.type_str_join qhH ho (cz he eD hs) hbase hfew hline hs hplain).imp fun σ H Q ⟨G,ρ,d,gh,env,eq,k⟩=>by
  obtain⟨x,y,ex,ey,eo⟩:=qdH eq;refine⟨G,ρ,x,gh,env,ex,fun v G1 H1 E1 r1 =>?_⟩
  unfold fX at eo
  split at eo
  ·split at eo
   ·cases eo;rename_i sep ds hb;simp only[Bool.and_eq_true,decide_eq_true_eq] at hb;have:=r1.str;subst this;refine⟨rfl,G1,ρ,_,E1.gh,env.ext E1,ey,fun u G2 H2 E2 r2 =>?_⟩
    obtain⟨a,vs,rfl,qa,ra⟩:=r2.lst E2.gh;have e:=pG hb.1.1 ra;subst e;exact⟨sep,a,_,rfl,rfl,.of qa,hb.1.2,hb.2,k _ G2 H2 (E1.trans E2) (bG.mpr rfl)⟩
   ·cases eo
  ·cases eo
end
end L2
end
noncomputable section
namespace L2
open PySem PySem.Spec PyProof.Rows
noncomputable def gN3 (i j l:Nat):DTg:=fun d ρ=>match d with|.tup [a,b,c]=>some (((ρ.set i (some a)).set j (some b)).set l (some c))|_=>none
theorem qf9 {i j l:Nat}{d:D}{ρ ρ':aA}(h:gN3 i j l d ρ=some ρ'):∃ a b c,d=.tup [a,b,c]/\ρ'=((ρ.set i (some a)).set j (some b)).set l (some c):=by
 unfold gN3 at h
 split at h
 ·cases h;exact⟨_,_,_,rfl,rfl⟩
 ·cases h
theorem qd7 {K:Frag}{G:Hp}{a b c:D}{v:V}(r:Rep K G (.tup [a,b,c]) v):∃ p x y z,v=.ref p/\G p=some (.tup [x,y,z])/\Rep K G a x/\Rep K G b y/\Rep K G c z:=by
 obtain⟨p,vs,e,g,rs⟩:=dm.mp r;obtain⟨x,r1,rfl,rx,t⟩:=be.mp rs;obtain⟨y,r2,rfl,ry,t⟩:=be.mp t;obtain⟨z,r3,rfl,rz,t⟩:=be.mp t;rw[c6.mp t] at g;exact⟨p,x,y,z,e,g,rx,ry,rz⟩
noncomputable section
variable {X:Cx}{B:Bs}{own oL:List Nat}
theorem qgl {i j l:Nat}{tg:Expr}(h:PG X tg (qjI X.K 3 (pR (jE i) (pR (jE j) (pR (jE l) qjJ))))) (hi:i∉own:=by decide) (hj:j∉own:=by decide) (hl:l∉own:=by decide):PG X tg (tTG X.K B own (gN3 i j l)):=h.imp fun v σ H Q ⟨G,ρ,d,ρ',S,r,eq,k⟩=>by
 obtain⟨a,b,c,rfl,rfl⟩:=qf9 eq;obtain⟨p,x,y,z,rfl,g,rx,ry,rz⟩:=qd7 r;exact⟨p,_,rfl,.of (S.gh _ _ g),rfl,x,_,rfl,y,_,rfl,z,_,rfl,rfl,k _ G H (((S.setS hi rx).setS hj ry).setS hl rz)⟩
noncomputable def gQ (τ:DTg) (f:DF):DG:=fun ρ=>(f ρ).bind fun d=>(τ d ρ).map .nx
theorem lr {tg e:Expr}{pos:Pos}{f:DF}{τ:DTg}(he:PE X e (tP X.K own f)) (hg:PG X tg (tTG X.K B own τ)) (hs:swapsWithSole [tg] e pos.line X.env=pure false:=by rfl) (hw:swappedStores [tg] e X.env=pure none:=by rfl)
  (h1:(assignEach [tg] X.env).map (·.2)=[assign tg X.env]:=by rfl):PS X (.Assign [tg] e pos) (tDS X.K B oL own own (gQ τ f)):=(qfl he hg hs hw h1).imp fun D σ H ⟨G,ρ,o,S,eq,k⟩=>by
 unfold gQ at eq;cases ef:f ρ with
 | none=>rw[ef] at eq;cases eq
 | some d=>
  rw[ef] at eq;have eq:(τ d ρ).map DO.nx=some o:=eq;cases et:τ d ρ with
  | none=>rw[et] at eq;cases eq
  | some ρ'=>rw[et] at eq;cases eq;exact⟨G,ρ,d,S.gh,S.envR,ef,fun v G' H' E r=>⟨G',ρ,d,ρ',S.ext E,r,et,fun σ2 G2 H2 S2=>k _ G2 H2 S2⟩⟩
end
end L2
end
noncomputable section
namespace L2
open PySem
end L2
end
noncomputable section
namespace L2
open PySem PyProof.Rows
noncomputable section
variable {prog:Program}{w:World}{A:Around}{E:Value->Shared->Prop}{s:Shared}
end
end L2
end
noncomputable section
namespace L2
open PySem PyProof.Rows PySem.Spec
noncomputable section
variable {prog:Program}{w:World}{A:Around}{R:Result->Shared->Prop}{I:Addr}{fp wr:List Addr}{G:Array GenState->Array GenState->Prop}{P:Nat->Value->Prop}{St:Nat->Shared->Prop}
end
noncomputable section
variable {prog:Program}{w:World}{A:Around}{E:Value->Shared->Prop}{s:Shared}
end
end L2
end
noncomputable section
namespace L2
open PySem PyProof.Rows PySem.Spec
noncomputable section
variable {prog:Program}{w:World}{A:Around}{E:Value->Shared->Prop}{s:Shared}{a:Addr}{o:Obj}{es:Array (Int×Value)}{ep:Nat}{t:SetTable}
end
end L2
end
noncomputable section
namespace L2
open PySem PyProof.Rows PySem.Spec
noncomputable section
variable {prog:Program}{w:World}{A:Around}{E:Value->Shared->Prop}{s:Shared}{I a T:Addr}{es:Array (Int×Value)}{ep:Nat}{t:SetTable}{vs:List Value}{i:Nat}
end
end L2
end
noncomputable section
namespace L2
open PySem PyProof.Rows PySem.Spec
noncomputable section
variable {prog:Program}{w:World}{A:Around}{E:Value->Shared->Prop}{s:Shared}{a:Addr}
end
end L2
end
noncomputable section
namespace L2
open PySem PyProof.Rows PySem.Spec
noncomputable section
variable {prog:Program}{w:World}{A:Around}{E:Value->Shared->Prop}{s:Shared}{a:Addr}
end
end L2
end
noncomputable section
namespace L2
open PySem PySem.Spec PyProof.Rows
noncomputable section
variable {X:Cx}{own:List Nat}{e:Expr}{f:DF}{p q pos pos':Pos}{tl:TE}
end
end L2
end
noncomputable section
namespace L2
open PySem PySem.Spec PyProof.Rows
noncomputable section
variable {X:Cx}{own:List Nat}
variable {a b:Expr}{fa fb:DF}{pos:Pos}
end
noncomputable section
variable {X:Cx}{B:Bs}{own:List Nat}{c a b e:Expr}{pos:Pos}
end
end L2
end
noncomputable section
namespace L2
open PySem
noncomputable section
variable {X:Cx}{own:List Nat}
theorem vP (i:Nat){x:Str}{pos:Pos}(hN:X.N[i]?=some x:=by rfl) (hv:Vis X.env.scope x:=by first|exact Or.inl rfl|exact Or.inr (Or.inl rfl)|exact Or.inr (Or.inr rfl)) (hd:(x==("__debug__" : Str))=false:=by decide)
  (hcd:(x==("__classdict__" : Str))=false:=by decide) (hi:i∉own:=by decide):PE X (.Name x pos) (tP X.K own (eV i)):=dv (pv i hN hv hd hcd) hi
theorem vQ (i:Nat){x:Str}{pos:Pos}(hN:X.N[i]?=some x:=by rfl) (hv:Vis X.env.scope x:=by first|exact Or.inl rfl|exact Or.inr (Or.inl rfl)|exact Or.inr (Or.inr rfl)) (hd:(x==("__debug__" : Str))=false:=by decide)
  (hcd:(x==("__classdict__" : Str))=false:=by decide) (hi:i∉own:=by decide):PE X (.Name x pos) (tQ X.K own (eV i)):=dq (vP i hN hv hd hcd hi)
end
end L2
end
noncomputable section
namespace L2
open PySem PySem.Spec PyProof.Rows
noncomputable def qlx (h:Heap) (e:Addr) (cls:Value) (dd:Option Addr) (a0 fl:Value) (T:Addr):Prop:=
 ∃ oe vs oT ts,h.get? e=some oe/\oe.cls=cls/\oe.dict=dd/\oe.data=.fields vs/\vs[0]?=some a0/\vs[1]?=some (.ref T)/\T≠e/\h.get? T=some oT/\oT.data=.fields ts/\ts[3]?=some fl
structure qgB (fs:List Addr) (e:Addr) (h h':Heap):Prop where
 keep:∀ b o,b≠e->b∉fs->h.get? b=some o->h'.get? b=some o
 slot:∀ b o,b≠e->b∈fs->h.get? b=some o->∃ sl,h'.get? b=some { o with slots:=sl }
theorem Obj.dict_mapFields (o:Obj) (f:Array Value->Array Value):(Obj.mapFields f o).dict=o.dict:=by
 obtain⟨c,d,dt,s⟩:=o;cases dt<;>rfl
noncomputable section
variable {M:Model}{A:Around}{E:Value->Shared->Prop}{s:Shared}{base:Heap}{env:Env}{outer:List Env}{L e:Addr}{oe:Obj}{vs:Array Value}{a0:Value}
theorem qbd {Q:Unit->Shared->Prop}(hfr:A.frames=some (env::outer)) (hl:s.heap.FunFrames base (env::outer)) (hf:env.frame=some L) (he:s.heap.get? e=some oe) (hd:oe.data=.fields vs) (h1:vs[1]?=some .none) (h0:vs[0]?=some a0)
  (h:∀ h' T,qgB (frs (env::outer)) e s.heap h'->qlx h' e oe.cls oe.dict a0 .none T->T=s.heap.objs.size->Q () { s with heap:=h' }):wpAny M A (leaving env (.ref e)) Q E s:=by
 have hene:e∉frs (env::outer):=fun hm=>by obtain⟨_,o,ho,hnf⟩:=hl.mem hm;rw[he] at ho;cases ho;exact hnf vs hd
 have hsz:1<vs.size:=(Array.getElem?_eq_some_iff.mp h1).1;unfold leaving;refine zE ?_;unfold noteFrame;rw[hf];refine zE (wpAny_field he hd h1 ?_);rw[if_neg (by decide)]
 refine zE (wpAny_frameOf_fun hfr hl hf fun h₁ hs₁ =>?_)
 refine zE (wpAny_entryPlaceOf fun pl hpl =>?_)
 refine zE ?_;unfold EntryCells.newEntry;refine wpAny_newObj_type ?_ (IsPlace.sizeOk5 hpl _ _ _ _ _);have he₁:h₁.get? e=some oe:=(hs₁.2.1 e hene).trans he;have he₂:=zF { cls:=Value.type "traceback",data:=Data.fields ([Value.none,Value.ref L,Value.none,rawInt ↑L,Value.none]++if pl.isEmpty=true then List.replicate 6 Value.none else pl).toArray } he₁
 refine wpAny_setField he₂ hd hsz ?_;have hTe:h₁.objs.size≠e:=Nat.ne_of_gt (zJ he₁);have hd₃:=Obj.data_mapFields hd fun x=>x.setIfInBounds 1 (Value.ref h₁.objs.size)
 have he₃:=Heap.get?_update_self (Obj.mapFields fun x=>x.setIfInBounds 1 (Value.ref h₁.objs.size)) he₂ (Obj.isFreed_of_fields hd₃)
 have hT₃:=(Heap.get?_update_other (h₁.push { cls:=Value.type "traceback",data:=Data.fields ([Value.none,Value.ref L,Value.none,rawInt ↑L,Value.none]++if pl.isEmpty=true then List.replicate 6 Value.none else pl).toArray }) (Obj.mapFields fun x=>x.setIfInBounds 1 (Value.ref h₁.objs.size)) (Ne.symm hTe)).trans (zV h₁ rfl)
 have g1:(vs.setIfInBounds 1 (Value.ref h₁.objs.size))[1]?=some (Value.ref h₁.objs.size):=by simp[hsz]
 have g0:(vs.setIfInBounds 1 (Value.ref h₁.objs.size))[0]?=some a0:=by rw[Array.getElem?_setIfInBounds_ne (by decide)];exact h0
 unfold setFlight;refine zE (wpAny_field he₃ hd₃ g1 ?_);rw[if_pos (by simp)]
 have hsz3:3<([Value.none,Value.ref L,Value.none,rawInt ↑L,Value.none]++if pl.isEmpty=true then List.replicate 6 Value.none else pl).toArray.size:=by simp
 refine wpAny_setField hT₃ rfl hsz3 ?_;have hfree:s.heap.get? h₁.objs.size=none:=by
  rw[hs₁.1];cases q:s.heap.get? s.heap.objs.size with
  | none=>rfl
  | some o=>exact absurd (zJ q) (yD _)
 have hkeep:∀ b o,b≠e->b≠h₁.objs.size->h₁.get? b=some o->((Heap.update (h₁.push { cls:=Value.type "traceback",data:=Data.fields ([Value.none,Value.ref L,Value.none,rawInt ↑L,Value.none]++if pl.isEmpty=true then List.replicate 6 Value.none else pl).toArray }) e (Obj.mapFields fun x=>x.setIfInBounds 1 (Value.ref h₁.objs.size))).update h₁.objs.size (Obj.mapFields fun x=>x.setIfInBounds 3 (Option.elim none Value.none fun f=>rawInt ↑f))).get? b=some o:=fun b o hbe hbT hb=>by rw[Heap.get?_update_other _ _ (Ne.symm hbT),Heap.get?_update_other _ _ (Ne.symm hbe)];exact zF _ hb
 refine h _ h₁.objs.size ⟨fun b o hbe hbf hb =>?_,fun b o hbe hbf hb =>?_⟩ ?_ hs₁.1
 ·refine hkeep b o hbe ?_ ((hs₁.2.1 b hbf).trans hb);intro z;rw[z,hfree] at hb;cases hb
 ·obtain⟨sl,hsl⟩:=hs₁.2.2 b o hb;refine⟨sl,hkeep b _ hbe ?_ hsl⟩;intro z;rw[z,hfree] at hb;cases hb
 ·have hdT:=Obj.data_mapFields (o:={ cls:=Value.type "traceback",data:=Data.fields ([Value.none,Value.ref L,Value.none,rawInt ↑L,Value.none]++if pl.isEmpty=true then List.replicate 6 Value.none else pl).toArray }) rfl fun x=>x.setIfInBounds 3 (Option.elim none Value.none fun f=>rawInt ↑f)
  refine⟨_,_,_,_,(Heap.get?_update_other _ _ hTe).trans he₃,Obj.cls_mapFields _ _,Obj.dict_mapFields _ _,hd₃,g0,g1,hTe,Heap.get?_update_self _ hT₃ (Obj.isFreed_of_fields hdT),hdT,?_⟩;simp
end
end L2
end
noncomputable section
namespace L2
open PySem PySem.Spec PyProof.Rows
noncomputable section
variable {prog:Program}{w:World}{A:Around}{E:Value->Shared->Prop}{h:Heap}{g:Array GenState}{d:Drawn}{t:Nat}{os:OsState}{nm q:Str}{C N:Addr}{bs bm bmB:List Value}{hdct:Bool}{sn:List Str}{sub:List Value}{ab:Bool}{col:Option Bool}{dd:Option Addr}{k0 k1 k2 k3 k5:Option Value}{B Bn newId nid initId inN:String}{bmN:List Value}
noncomputable abbrev iU (h:Heap) (C:Addr) (cm:List Value):Heap:=(h.push { cls:=Value.type "tuple",data:=Data.seq cm.toArray }).push { cls:=Value.ref C,data:=Data.fields #[Value.ref h.objs.size,Value.none,Value.none,Value.none,Value.bool false,Value.none] }
theorem qdU (Fn:ExcBaseFacts Bn newId inN bmN) (hBn:bmB.contains (Value.type Bn)=true) (F:ExcBaseFacts B nid initId bmB) (T:OwnTail h bmB bm){mN:Str->Option Value}{cm:List Value}{Q:PySem.Fin->Shared->Prop}{f:Addr}
  (hC:h.get? C=some (excClassObj nm q C N bs bm hdct sn sub ab col dd k0 k1 k2 k3 k5 newId)) (hn:h.Ns N mN) (hni:mN (Str.ofString "__init__")=some (.ref f)) (hrest:cm.length<=sizeLine)
  (hf:∀ (s:Shared) (P:Value->Shared->Prop),s.heap=iU h C cm->P (.type "function") s->wpAny (model prog w) A (typeOf (.ref f)) P E s)
  (hq:wpAny (model prog w) A (call (.ref f) (.ref (h.objs.size+1)::cm)) (fun r s'=>r=.none/\Q (Fin.done (Flow.ret (Value.ref (h.objs.size+1)))) s') E { heap:=iU h C cm,gens:=g,drawn:=d,toks:=t,os:=os }) :
  wpAny (model prog w) A (Builtin.«type.__call__» { pos:=Value.ref C::cm }) Q E { heap:=h,gens:=g,drawn:=d,toks:=t,os:=os }:=by
 unfold Builtin.«type.__call__»;refine wpAny_ite_false rfl ?_;refine zE ?_;refine zE (M:=model prog w) ?_;refine zE (M:=model prog w) ?_;refine wpAny_load' hC ?_;refine zW (zW ?_);refine wpAny_ite_false rfl ?_;refine zE (wpAny_madeBy_exc hC ?_);refine zE (zW ?_);refine zE (wpAny_holding (wpAny_call (codeAny_call_builtin_code (Code.quiet_builtin { pos:=Value.ref C::cm } Fn.quiet) (wpAny_check_new_subU Fn hBn T hC (codeAny_exc_new_subU Fn hBn F T hC ?_ hrest)))));have hC₁:=zF { cls:=Value.ref C,data:=Data.fields #[Value.ref h.objs.size,Value.none,Value.none,Value.none,Value.bool false,Value.none] } (zF { cls:=Value.type "tuple",data:=Data.seq cm.toArray } hC);have hn₁:(iU h C cm).Ns N mN:=by obtain⟨o,es,ep,e,r⟩:=hn;exact⟨o,es,ep,zF _ (zF _ e),r⟩
 have hget:(iU h C cm).get? (h.objs.size+1)=some { cls:=Value.ref C,data:=Data.fields #[Value.ref h.objs.size,Value.none,Value.none,Value.none,Value.bool false,Value.none] }:=Heap.get?_push_at (by simp[Heap.size_push]) rfl
 have T₁:OwnTail (iU h C cm) bmB bm:=T.keeps fun b o e=>zF _ (zF _ e)
 have hcC:(Value.ref C::bm).contains (Value.ref C)=true:=by simp
 show wpAny (model prog w) A (isInstance (.ref (h.objs.size+1)) (.ref C) >>= _) Q E { heap:=iU h C cm,gens:=g,drawn:=d,toks:=t,os:=os };refine zE ?_;refine zE (M:=model prog w) ?_;refine zE (M:=model prog w) ?_;refine wpAny_loadPart_at hget ?_;refine zW ?_;refine wpAny_isSubtype_exc hC₁ ?_;rw[hcC];refine wpAny_ite_false rfl ?_;refine zE (wpAny_holding ?_);unfold callSpecial?;refine zE ?_;unfold specialOf;refine zE (M:=model prog w) ?_;refine zE (M:=model prog w) ?_;refine wpAny_loadPart_at hget ?_;refine zW ?_;refine wpAny_typeLookup_tail hC₁ hn₁ T₁ F.mroIs F.init.lookup ?_;rw[hni];refine wpAny_holding ?_;refine zE ?_;unfold bindSpecial;refine zE (hf _ _ rfl ?_);rw[if_pos (by decide)]
 refine zW ?_;refine zE ?_;refine wpAny_mono hq (fun r s' hr =>?_) (fun _ _ z=>z)
 obtain⟨rfl,hr⟩:=hr;refine zW ?_;refine wpAny_ite_false rfl ?_;exact zW hr
theorem qbe (Fn:ExcBaseFacts Bn newId inN bmN) (hBn:bmB.contains (Value.type Bn)=true) (F:ExcBaseFacts B nid initId bmB) (T:OwnTail h bmB bm){mN:Str->Option Value}{cm:List Value}{Q:Value->Shared->Prop}{f:Addr}
  (hC:h.get? C=some (excClassObj nm q C N bs bm hdct sn sub ab col dd k0 k1 k2 k3 k5 newId)) (hn:h.Ns N mN) (hni:mN (Str.ofString "__init__")=some (.ref f)) (hrest:cm.length<=sizeLine)
  (hf:∀ (A:Around) (E:Value->Shared->Prop) (s:Shared) (P:Value->Shared->Prop),s.heap=iU h C cm->P (.type "function") s->wpAny (model prog w) A (typeOf (.ref f)) P E s)
  (hq:wpAny (model prog w) (A.under (.builtin "type.__call__" ⟨.ref C::cm,[]⟩)) (call (.ref f) (.ref (h.objs.size+1)::cm)) (fun r s'=>r=.none/\Q (Value.ref (h.objs.size+1)) s') E { heap:=iU h C cm,gens:=g,drawn:=d,toks:=t,os:=os }) :
  wpAny (model prog w) A (call (.ref C) cm) Q E { heap:=h,gens:=g,drawn:=d,toks:=t,os:=os }:=by
 have hT:({ heap:=h,gens:=g,drawn:=d,toks:=t,os:=os }:Shared).TypeIs (Value.ref C) "type" :=⟨_,hC,rfl⟩;refine wpAny_call (codeAny_of_tree ?_);refine zE (M:=model prog w) (wpAny_load' hC ?_);refine zE (M:=model prog w) (wpAny_specialOf hT tc_lookup ?_);refine zE (M:=model prog w) (wpAny_of_eq (tc_bind (Value.ref C)) ?_);refine zE (M:=model prog w) ?_;refine zW (wpAny_ite_true rfl (zW ⟨rfl,?_⟩));refine codeAny_call_builtin_at (args:=⟨Value.ref C::cm,[]⟩) (Code.quiet_builtin _ (by decide +kernel)) entry_typeCall (wpAny_check_type_call_sub hC ?_)
 exact qdU Fn hBn F T hC hn hni hrest (fun s P e q=>hf _ _ s P e q) hq
end
end L2
end
noncomputable section
namespace L2
open PySem PySem.Spec PyProof.Rows PySem.W
noncomputable section
variable {prog:Program}{w:World}{A:Around}{E:Value->Shared->Prop}{s:Shared}{K:Frag}{C x:Addr}{ox:Obj}{od:Option Obj}{name:Str}{tk:Tok}
structure XGa (K:Frag) (C:Addr):Prop where
 ga:findIn K (.ref C) "__getattribute__" = some (some (.builtin "BaseException.__getattribute__"))
 gt:findIn K (.ref C) "__getattr__" = some none
 mb:mroIn K C (.type "BaseException")=some true
theorem qeE {fill expr:Bool}{Q:Value->Shared->Prop}(X:K.In s.heap) (I:InstAt s.heap x ox C od) (g:XGa K C)
  (h:∀ R:Result->Shared->Prop,(∀ v s',wpAny (model prog w) A (handedOut v) Q E s'->R (.ok (.ret v)) s')->wpAny (model prog w) A.in1 (Builtin.«object.__getattribute__» ⟨[.ref x,.str name tk],[]⟩)
   (fun fin s'=>match fin with|.done f=>R (.ok f) s'|.again c'=>c'.quiet=true/\codeAny (model prog w) A c' R s') (fun e s'=>R (.error e) s') s) :
  wpAny (model prog w) A (getAttrBy (.ref x) (.str name tk) fill expr) Q E s:=by
 obtain⟨hh,gg,d,t,os⟩:=s;have L0:=I.type (M:=model prog w);have L1:=looks_findIn (M:=model prog w) X g.ga;have L2:=looks_findIn (M:=model prog w) X g.gt;have f3:=PySem.F.attr_ValueError.ga.bind (.ref x);have hx0:(expr&&onTheHeap (Value.builtin "BaseException.__getattribute__"))=false:=by cases expr<;>rfl
 have hx2:(Value.builtin "BaseException.__getattribute__" == Value.builtin "object.__getattribute__")=false:=by decide +kernel
 have hx1:(onTheHeap (Value.ref C)&&Value.builtin "BaseException.__getattribute__" == Value.builtin "object.__getattribute__")=false:=by rw[hx2];rfl
 have hk:builtinKind "BaseException.__getattribute__" = some .slot:=by decide +kernel
 have hsplit:splitId "BaseException.__getattribute__" = some ("BaseException", "__getattribute__"):=by decide +kernel
 have sub:Looks (model prog w) hh (isInstance (.ref x) (.type "BaseException")) true:=L0.andThen (looks_mroIn X g.mb);unfold getAttrBy;refine wpAny_holding (zE (L0.at (zE (L1.at ?_))));dsimp only;rw[if_neg (by rw[hx1];decide)]
 unfold getAttrByItsOwn hookBefore;refine zE ?_;rw[if_pos (show onTheHeap (Value.ref C)=true from rfl)]
 refine L2.at (zE (wpAny_attempt (wpAny_holding ?_)));unfold callGetattribute;rw[if_neg (by rw[hx0];decide)]
 unfold boundAndCalled;rw[f3];have key:codeAny (model prog w) A (.call (.builtin "BaseException.__getattribute__") ⟨[.ref x,.str name tk],[]⟩) (fun r s'=>match r with|.ok (.ret v)=>wpAny (model prog w) A (handedOut v) Q E s'|_=>False) ⟨hh,gg,d,t,os⟩:=
  codeAny_call_builtin PySem.F.attr_ValueError.ga.plain PySem.F.entry_bexc_ga (@check_slot (model prog w) _ _ ⟨hh,gg,d,t,os⟩ "BaseException.__getattribute__" "BaseException" "__getattribute__" (.ref x) [.str name tk] [] _ hk hsplit sub (PySem.F.args_bexc_ga (.ref x) (.str name tk)) (h (fun r s'=>match r with|.ok (.ret v)=>wpAny (model prog w) A (handedOut v) Q E s'|_=>False) fun v s' z=>z))
 refine zE (zW (wpAny_call (codeAny_mono key fun r s' z =>?_)))
 rcases r with e|(v|_|_|_)
 ·exact False.elim z
 ·exact False.elim z
 ·exact False.elim z
 ·exact False.elim z
 ·exact z
theorem qeC {expr:Bool}{v:Value}{Q:Value->Shared->Prop}(X:K.In s.heap) (I:InstAt s.heap x ox C od) (g:XGa K C) (hf:findObj K C od name=some (.value v)) (hh:handedIn v=true) (h:Q v { s with toks:=s.toks+1 }) :
  wpAny (model prog w) A (getAttr (.ref x) name expr) Q E s:=by
 unfold getAttr;refine zE (wpAny_mkText (qeE (s:={ s with toks:=s.toks+1 }) X I g fun R hR =>?_))
 obtain⟨hh',gg,d,t,os⟩:=s;have L0:=I.type (M:=model prog w);have L1:=looks_find (M:=model prog w) X I hf;unfold Builtin.«object.__getattribute__»;refine zE (zW ?_);refine zE (zW (zE (L0.at (zE (L1.at ?_)))));refine zW (hR v _ ?_);rw[handedOut_of hh];exact zW h
theorem qeD {Q:Option Value->Shared->Prop}(X:K.In s.heap) (I:InstAt s.heap x ox C od) (g:XGa K C) (hf:findObj K C od "__class__" = some (.bind (.builtin "getset_descriptor.__get__") (.builtin "object.__class__"))) (hm:mroIn K C (.type "object")=some true) (h:Q (some (.ref C)) { s with toks:=s.toks+1 }) :
  wpAny (model prog w) A (getAttr? (.ref x) "__class__") Q E s:=by
 unfold getAttr? getAttrBy?;refine zE (wpAny_mkText (zE (wpAny_attempt (qeE (s:={ s with toks:=s.toks+1 }) X I g fun R hR =>?_))))
 obtain⟨hh',gg,d,t,os⟩:=s;have L0:=I.type (M:=model prog w);have L1:=looks_find (M:=model prog w) X I hf;unfold Builtin.«object.__getattribute__»;refine zE (zW ?_);refine zE (zW (zE (L0.at (zE (L1.at ?_)))));show wpAny _ _ (holding _ (call _ _) >>= ret) _ _ _;refine zE (wpAny_holding (wpAny_call (class_get (ox:=ox) (od:=od) (s:=⟨hh',gg,d,t+1,os⟩) X I hm ?_)));refine zW (hR _ _ ?_);rw[handedOut_of rfl];exact zW (zW h)
theorem qfY {od:Obj}(g:XGa K C) (hdct:hasDictIn K C=true) (ha:findIn K (.ref C) "__class__" = some (some (.builtin "object.__class__"))) (hn:specialIn K (.builtin "object.__class__") "__get__" = some (some (.builtin "getset_descriptor.__get__"))) (htk:takesIn K (.builtin "object.__class__")=some true) (hm:mroIn K C (.type "object")=some true) :
  KitX K (.ref x) (.ref C) (fun h=>InstAt h x ox C (some od)) where
 ty:=fun _ _ _ I=>I.type
 it:=fun _ _ X _=>by
  obtain⟨cdD,hcD,_⟩:=any_some hdct;unfold clsIn at hcD
  split at hcD
  ·rename_i c' d' cd' sl' ho;intro A' Q' E' s' k q;unfold isType loadHead;exact zE (wpAny_loadPart (k _ _ (X _ _ ho)) (zW q))
  ·cases hcD
 ne:=fun h tp dd its n sl X htp=>by
  obtain⟨cdD,hcD,_⟩:=any_some hdct;refine Bool.eq_false_iff.mpr fun q =>?_
  have e:C=tp:=Value.ref.inj (beq_iff_eq.mp q);subst e;unfold clsIn at hcD
  split at hcD
  ·rename_i c' d' cd' sl' ho;have z:=(X _ _ ho).symm.trans htp;cases z
  ·cases hcD
 ca:=fun X I k=>qeD X I g (findObj_data (by obtain⟨cd,hc,_⟩:=any_some hdct;rw[hc];rfl) ha hn htk) hm k
end
end L2
end
noncomputable section
namespace L2
open PySem PySem.Spec PyProof.Rows
noncomputable section
variable {prog:Program}{w:World}{A:Around}{E:Value->Shared->Prop}{s:Shared}{K:Frag}{C x:Addr}{name:Str}{v:Value}{vs:Array Value}
noncomputable def nJ:List Value->Bool
 | .ref _::r=>nJ r
 | l=>l==[.type "ValueError",.type "Exception",.type "BaseException",.type "object"]
theorem oi (self:Value):∀ {l:List Value},nJ l=true->refuseLoop self "__setattr__" l=pure ()
 | .ref c::r,e=>by rw[refuseLoop_ref];exact oi self e
 | [],e=>by cases e
 | .type n::r,e=>by have e:(Value.type n::r==_)=true:=e;rw[beq_iff_eq.mp e];exact PySem.F.store_ValueError.passes self
 | .none::r,e=>by cases e
 | .bool b::r,e=>by cases e
 | .int i t::r,e=>by cases e
 | .float i t::r,e=>by cases e
 | .str i t::r,e=>by cases e
 | .bytes i t::r,e=>by cases e
 | .builtin i::r,e=>by cases e
 | .ellipsis::r,e=>by cases e
 | .notImplemented::r,e=>by cases e
theorem qdG:∀ {l:List Value},nJ l=true->l.contains (.type "object")=true
 | .ref c::r,e=>by rw[List.contains_cons,qdG (l:=r) e,Bool.or_true]
 | [],e=>by cases e
 | .type n::r,e=>by have e:(Value.type n::r==_)=true:=e;rw[beq_iff_eq.mp e];decide
 | .none::r,e=>by cases e
 | .bool b::r,e=>by cases e
 | .int i t::r,e=>by cases e
 | .float i t::r,e=>by cases e
 | .str i t::r,e=>by cases e
 | .bytes i t::r,e=>by cases e
 | .builtin i::r,e=>by cases e
 | .ellipsis::r,e=>by cases e
 | .notImplemented::r,e=>by cases e
noncomputable def nL (K:Frag) (C:Addr):Bool:=(PySem.W.clsIn K C).any fun cd=>nJ cd.mro
theorem qhs {R:Result->Shared->Prop}{ox:Obj}{od:Option Obj}{tk:Tok}{r:Option Value}(X:K.In s.heap) (I:PySem.W.InstAt s.heap x ox C od) (hp:nL K C=true) (ht:takerIn K C name=some r)
  (h:∀ b,wpAny (model prog w) A.in1 (match r with|some a=>Builtin.ObjectAttr.setByDescriptor a (.ref x) v|none=>Builtin.ObjectAttr.storeInOwnDict (.ref x) (.ref C) (.str name tk) name v b)
   (fun fin s'=>match fin with|.done f=>R (.ok f) s'|.again c'=>c'.quiet=true/\codeAny (model prog w) A c' R s') (fun e s'=>R (.error e) s') s) :
  codeAny (model prog w) A (.call (.builtin "object.__setattr__") ⟨[.ref x,.str name tk,v],[]⟩) R s:=by
 have SF:=PySem.F.store_object;obtain⟨cd,hc,ho⟩:=PySem.W.any_some hp;have ne:cd.mro.isEmpty=false:=by cases q:cd.mro with|nil=>rw[q] at ho;cases ho|cons _ _=>rfl
 have sub:PySem.W.Looks (model prog w) s.heap (isInstance (.ref x) (.type "object")) true:=I.type.andThen (PySem.W.looks_mroIn X (by unfold PySem.W.mroIn;rw[hc,zA,if_neg (by rw[ne];decide),qdG ho]))
 refine codeAny_call_builtin SF.slot.plain SF.entry (@PySem.W.check_slot (model prog w) _ _ s "object.__setattr__" "object" "__setattr__" (.ref x) [.str name tk,v] [] _ SF.kind SF.split sub (SF.args (.ref x) (.str name tk) v) ?_);obtain⟨attr,ha,hr⟩:=Option.bind_eq_some_iff.mp ht;have hm:PySem.W.Looks (model prog w) s.heap (mroOf (.ref C)) cd.mro:=(PySem.W.looks_clsIn X hc).andThen .now;have L3:PySem.W.Looks (model prog w) s.heap (Builtin.ObjectAttr.storeTaker? attr) r:=by
  cases attr with
  | none=>cases hr;exact .now
  | some a=>obtain⟨b,hb,rfl⟩:=Option.map_eq_some_iff.mp hr;refine(PySem.W.looks_takesIn X hb).andThen ?_;cases b<;>exact .now
 rw[PySem.W.osa_eq,refuse_eq];refine zE (zE (I.type.here (zE (hm.here ?_))));rw[oi _ ho];refine zW (zE (I.type.here (zE ((PySem.W.looks_findIn X ha).here (zE (L3.here ?_))))));exact h _
theorem qh1 {Q:Unit->Shared->Prop}(X:K.In s.heap) (hx:s.heap.get? x=some ⟨.ref C,none,.fields vs,#[]⟩)
  (hs:findIn K (.ref C) "__setattr__" = some (some (.builtin "object.__setattr__"))) (hp:nL K C=true) (ht:takerIn K C name=some none) (hh:hasDictIn K C=true)
  (h:∀ h',h'.get? x=some ⟨.ref C,some s.heap.objs.size,.fields vs,#[]⟩->h'.Ns1 s.heap.objs.size (fun y=>if y=name then some v else none)->(∀ b o,b≠x->s.heap.get? b=some o->h'.get? b=some o)->Q () { s with heap:=h',toks:=s.toks+2 }) :
  wpAny (model prog w) A (setAttr (.ref x) name v) Q E s:=by
 have J:PySem.W.InstAt s.heap x ⟨.ref C,none,.fields vs,#[]⟩ C none:=⟨hx,rfl,rfl,trivial⟩;refine PySem.W.set_plain X J hs (qhs (s:={ s with toks:=s.toks+1 }) (r:=none) X J hp ht fun b =>?_)
 obtain⟨cd,hc,hd'⟩:=PySem.W.any_some hh;refine zE (zW (zE ?_));refine zE (M:=model prog w) ?_;refine wpAny_loadPart hx ?_;refine zE (PySem.W.Looks.here (s:={ s with toks:=s.toks+1 }) (PySem.W.looks_clsIn X hc) ?_);rw[hd'];refine wpAny_ite_false rfl ?_;refine wpAny_ite_false rfl ?_;refine zE (wpAny_alloc ?_);have hx1:(s.heap.push { cls:=Value.type "dict",data:=Data.dict #[] }).get? x=some ⟨.ref C,none,.fields vs,#[]⟩:=zF _ hx;refine zE (wpAny_update hx1 ?_);refine zW (a:=some s.heap.objs.size) (zE (zW (zE ?_)));have hxd:s.heap.objs.size≠x:=Nat.ne_of_gt (zJ hx);have hx2:=Heap.get?_update_self (fun o:Obj=>{ cls:=o.cls,dict:=some s.heap.objs.size,data:=o.data,slots:=o.slots }) hx1 rfl
 have hd2:((s.heap.push { cls:=Value.type "dict",data:=Data.dict #[] }).update x fun o=>{ cls:=o.cls,dict:=some s.heap.objs.size,data:=o.data,slots:=o.slots }).get? s.heap.objs.size=some { cls:=Value.type "dict",data:=Data.dict #[] }:=
  (Heap.get?_update_other _ _ (Ne.symm hxd)).trans (zV s.heap rfl)
 have hns:((s.heap.push { cls:=Value.type "dict",data:=Data.dict #[] }).update x fun o=>{ cls:=o.cls,dict:=some s.heap.objs.size,data:=o.data,slots:=o.slots }).Ns1 s.heap.objs.size (fun _=>none):=
  Heap.Ns1.of_empty ⟨_,#[],_,hd2,rfl,(fun e he=>absurd he (by simp)),fun _=>rfl⟩
 refine wpAny_nsSet1 (s:={ s with heap:=(s.heap.push { cls:=Value.type "dict",data:=Data.dict #[] }).update x fun o=>{ cls:=o.cls,dict:=some s.heap.objs.size,data:=o.data,slots:=o.slots },toks:=s.toks+1 }) hns fun h' hn2 hs2 =>?_
 have hw:PySem.Within (fun _:Str=>(none:Option Value)) []:=fun y hy=>absurd rfl hy
 obtain⟨oD,esD,epD,hoD,hdD,hcD⟩:=hn2.count (PySem.Within.cons name v hw);refine zE (wpAny_lookBehind hoD (by rw[hdD];exact pastItsLine_dict (yA hcD (by rw[zP];exact Nat.le_add_left _ _))) ?_)
 refine zW (h h' ((hs2.2 _ (Ne.symm hxd)).trans hx2) hn2 fun b o hb e =>?_)
 have hbd:b≠s.heap.objs.size:=zR (zJ e);refine(hs2.2 b hbd).trans ?_;refine(Heap.get?_update_other _ _ (Ne.symm hb)).trans ?_;exact zF _ e
end
end L2
end
noncomputable section
namespace L2
open PySem PySem.Spec PyProof.Rows
noncomputable section
variable {M:Model}{A:Around}{E:Value->Shared->Prop}{env:Env}{nm q:Str}{C N:Addr}{bs bm:List Value}{hdct:Bool}{sn:List Str}{sub:List Value}{ab:Bool}{col:Option Bool}{dd:Option Addr}{k0 k1 k2 k3 k5:Option Value}{newId:String}{s:Shared}{x:Sem Value}
theorem qaa {Q:Flow->Shared->Prop}(hbase:bm.contains (Value.type "BaseException")=true) (hh:A.handled=none)
  (h:wpAny M A x (fun v s₁=>∃ e oe vs,v=.ref e/\s₁.heap.get? C=some (excClassObj nm q C N bs bm hdct sn sub ab col dd k0 k1 k2 k3 k5 newId)/\s₁.heap.get? e=some oe/\oe.cls=.ref C/\oe.data=.fields vs/\vs[1]?=some .none/\E (.ref e) s₁) E s) :
  wpAny M A (raiseStmt env (some x) none) Q E s:=by
 unfold raiseStmt;refine zE (wpAny_mono h (fun v s₁ ⟨e,oe,vs,ev,hC,he,hc,hd,h1,hE⟩ =>?_) fun _ _ z=>z)
 subst ev;obtain⟨hp,g,d,tk,os⟩:=s₁;have hcB:(Value.ref C::bm).contains (Value.type "BaseException")=true:=by rw[List.contains_cons,hbase];simp
 have hcls:∀ c,oe.data≠Data.cls c:=fun c z=>by rw[hd] at z;cases z
 refine zE (zW (zE (wpAny_holding ?_)));unfold excFromValue;refine zE ?_;unfold isExcClass;refine zE (M:=M) ?_;unfold isType;refine zE (M:=M) ?_;refine wpAny_loadPart_at he ?_;refine zW ?_;rw[hd];refine wpAny_ite_false rfl (zW (wpAny_ite_false rfl ?_));refine zE ?_;unfold isInstance typeOf;refine zE (M:=M) ?_;refine zE (M:=M) ?_;refine wpAny_loadPart_at he ?_;refine zW ?_;rw[hc];refine wpAny_isSubtype_exc hC ?_;rw[hcB];refine wpAny_ite_true rfl (zW ?_);refine zE (M:=M) ?_;refine zE (M:=M) ?_;refine wpAny_loadPart_at he ?_;refine zW ?_;rw[hd];refine wpAny_ite_false rfl ?_;refine zE ?_;unfold raisedInstance typeOf;refine zE (M:=M) ?_;refine zE (M:=M) ?_;refine wpAny_loadPart_at he ?_;refine zW ?_;rw[hc];refine zE (M:=M) ?_;refine zE (M:=M) ?_;refine wpAny_loadPart_at hC ?_;refine zW ?_;refine wpAny_ite_true rfl (zW ?_);refine zE ?_;unfold setFlight;refine zE (wpAny_field he hd h1 ?_);rw[if_neg (by decide)]
 refine zW ?_;exact wpAny_raiseNew_none hh hE
end
end L2
end
noncomputable section
namespace L2
open PySem PySem.Spec PyProof.Rows
noncomputable def bZ (a:Addr) (o:Obj):HO :=.ext fun h=>h.get? a=some o
theorem bZ.ok {P:Program}{w:World}{H:Hp}{h:Heap}{a:Addr}{o:Obj}(e:h.get? a=some o):dg P w H h a (bZ a o):=
 ⟨e,⟨o,e⟩,fun _ _ p k=>k o p⟩
theorem bZ.get {P:Program}{w:World}{H:Hp}{h:Heap}{a:Addr}{o:Obj}(hok:HOk P w H h) (e:H a=some (bZ a o)):h.get? a=some o:=(hok a _ e).1
noncomputable abbrev qbb (C t:Addr):Obj:={ cls:=Value.ref C,data:=Data.fields #[Value.ref t,Value.none,Value.none,Value.none,Value.bool false,Value.none] }
noncomputable abbrev xAt (C t dx:Addr):Obj:={ cls:=Value.ref C,dict:=some dx,data:=Data.fields #[Value.ref t,Value.none,Value.none,Value.none,Value.bool false,Value.none] }
structure qj8 (K:Frag) (C:Addr) (f:Str):Prop where
 sa:findIn K (.ref C) "__setattr__" = some (some (.builtin "object.__setattr__"))
 po:nL K C=true
 tk:takerIn K C f=some none
 hd:hasDictIn K C=true
noncomputable section
variable {X:Cx}{pins:List (Addr×Obj)}{σ:St}{H:Hp}{s:Shared}{A:Around}{E:Value->Shared->Prop}{C a t:Addr}{f:Str}
theorem qgF {y:V}{u:Value}{Q:Unit->Shared->Prop}(I:Inv X pins σ H s) (e:H a=some (bZ a (qbb C t))) (c:qj8 X.K C f) (ry:bx y u)
  (h:∀ dx s',H dx=none->dx≠a->Inv X pins σ (upd (upd H dx (.xd [(f,y)])) a (bZ a (xAt C t dx))) s'->Q () s'):wpAny (model X.prog X.w) A (setAttr (.ref a) f u) Q E s:=by
 have hx:=bZ.get I.hok e;refine qh1 I.kIn hx c.sa c.po c.tk c.hd fun h' hx' hns hk =>?_
 have hf:=I.hok.fresh (zL s.heap.objs.size);have hne:s.heap.objs.size≠a:=Nat.ne_of_gt (zJ hx);obtain⟨oD,es,ep,hoD,hdD,hs1,hs2,hs3⟩:=id hns;have hfr:oD.isFreed=false:=by obtain⟨c1,d1,dt,sl⟩:=oD;have:dt=Data.dict es ep:=hdD;subst this;rfl
 have e1:(s.heap.push oD).get? s.heap.objs.size=some oD:=zV s.heap hfr;have hlook:∀ g,jf ([(f,y)].lookup g) (if g=f then some u else none):=fun g=>by
  by_cases q:g=f
  ·rw[if_pos q,q];simp[List.lookup];exact ry
  ·rw[if_neg q];have:(g==f)=false:=by simp[q]
   simp[List.lookup,this];exact True.intro
 have I1:=I.laid (a:=s.heap.objs.size) (o :=.xd [(f,y)]) (h':=s.heap.push oD) (t':=s.toks+2) (fun b v q=>zF _ q) (zL _) ⟨_,⟨oD,es,ep,e1,hdD,hs1,hs2,hs3⟩,hlook⟩
 have ea:upd H s.heap.objs.size (.xd [(f,y)]) a=some (bZ a (qbb C t)):=by rw[aJ (Ne.symm hne)];exact e
 refine h s.heap.objs.size _ hf hne (I1.write (h':=h') (t':=s.toks+2) (x:=a) (e:=a) (by rw[ea];exact True.intro) (.inl rfl) (fun b v hb q =>?_) ⟨_,hx'⟩ (bZ.ok hx'))
 by_cases hbd:b=s.heap.objs.size
 ·subst hbd;have q:(s.heap.push oD).get? s.heap.objs.size=some v:=q;rw[e1] at q;cases q;exact hoD
 ·have q:(s.heap.push oD).get? b=some v:=q;rw[Heap.get?_push_ne _ _ _ hbd] at q;exact hk b v hb q
end
end L2
end
noncomputable section
namespace L2
open PySem PySem.Spec PyProof.Rows
noncomputable section
variable {X:Cx}{o value:Expr}{ta tv te:TE}{f:Str}{pos pos':Pos}
noncomputable def qkC (K:Frag) (ta tv:TE) (f:Str):TS:=fun D σ H=>tv σ H fun y H1=>ta σ H1 fun x H2=>∃ a C t,x=.ref a/\H2 a=some (bZ a (qbb C t))/\qj8 K C f/\∀ dx,H2 dx=none->dx≠a->D.nx σ (upd (upd H2 dx (.xd [(f,y)])) a (bZ a (xAt C t dx)))
theorem qhe (ha:PE X o ta) (hv:PE X value tv) (hs:swapsWith value (some (.Attribute o f pos')) pos.line X.env=pure false):PS X (.Assign [.Attribute o f pos'] value pos) (qkC X.K ta tv f):=by
 intro pins s σ H D I h;refine plainObj_wpAny_Assign_Attribute (thn (hv pins s σ H _ I h) fun u s1 ⟨y,H1,I1,ry,q⟩=>thn (ha pins s1 σ H1 _ I1 q) fun ov s2 ⟨x,H2,I2,rx,a,C,t,ex,ea,c,q2⟩ =>?_) hs
 subst ex;obtain rfl:ov=Value.ref a:=rx;exact qgF I2 ea c ry fun dx s3 hd hn I3=>⟨σ,_,I3,q2 dx hd hn⟩
noncomputable def nB (C:Addr) (f:Str):Sp:=fun vs H Q _=>∃ a t v,vs=[.ref a,v]/\H a=some (bZ a (qbb C t))/\∀ dx,H dx=none->dx≠a->Q .non (upd (upd H dx (.xd [(f,v)])) a (bZ a (xAt C t dx)))
structure XMk (K:Frag) (C fI:Addr):Prop where
 cl:∃ (nm q:Str) (N:Addr) (bs bm bmB:List Value) (sn:List Str) (sub:List Value) (ab:Bool) (col:Option Bool) (dd:Option Addr) (k0 k1 k2 k3 k5:Option Value) (B Bn newId nid initId inN:String) (bmN:List Value) (mN:Str->Option Value),
  ExcBaseFacts Bn newId inN bmN/\bmB.contains (Value.type Bn)=true/\ExcBaseFacts B nid initId bmB/\bm.contains (Value.type "BaseException")=true /\
  K.lookup C=some (excClassObj nm q C N bs bm true sn sub ab col dd k0 k1 k2 k3 k5 newId)/\(∀ h:Heap,K.In h->OwnTail h bmB bm/\h.Ns N mN)/\mN (Str.ofString "__init__")=some (.ref fI)
 fn:PySem.W.typeIn K (.ref fI)=some (.type "function")
 kp:keepIn K (.ref C)=true
theorem qdT {K:Frag}{h:Heap}(X:K.In h){a:Addr}{o:Obj}(e:K.lookup a=some o):h.get? a=some o:=X a o e
theorem qd5 {k:Nat}{C fI:Addr}{fd:FuncData}{pins:List (Addr×Obj)}{σ:St}{H:Hp}{s:Shared}{Q:VK}{u:Value}{v:V}(M:XMk X.K C fI) (F:bD X.prog X.w X.K X.mg X.base CX0 k fI fd ["self",f] (nB C f)) (hr:cJ (k+1) X.A) (hb:gb X.K fd ["self",f] [])
  (I:Inv X pins σ H s) (r:bx v u) (h:∀ a t dx,H a=none->H dx=none->dx≠a->Q (.ref a) (upd (upd (upd H a (bZ a (qbb C t))) dx (.xd [(f,v)])) a (bZ a (xAt C t dx)))) :
  wpAny (model X.prog X.w) X.A (call (.ref C) [u]) (EP X pins σ Q) X.xe s:=by
 obtain⟨nm,q,N,bs,bm,bmB,sn,sub,ab,col,dd,k0,k1,k2,k3,k5,B,Bn,newId,nid,initId,inN,bmN,mN,Fn,hBn,FB,hbm,lk,hT,hni⟩:=M.cl;have hC:=qdT I.kIn lk;obtain⟨T,hn⟩:=hT _ I.kIn;have I1:=I.kept (h':=s.heap.push { cls:=Value.type "tuple",data:=Data.seq [u].toArray }) (t':=s.toks) fun b o e=>zF _ e
 have hget:(iU s.heap C [u]).get? (s.heap.objs.size+1)=some (qbb C s.heap.objs.size):=Heap.get?_push_at (by simp[Heap.size_push]) rfl
 have I2:=I1.laid (a:=s.heap.objs.size+1) (o:=bZ (s.heap.objs.size+1) (qbb C s.heap.objs.size)) (h':=iU s.heap C [u]) (t':=s.toks) (fun b o e=>zF _ e) (Nat.le_of_eq (Heap.size_push _ _)) (bZ.ok hget)
 have kin2:=I2.kIn;have env2:=I2.env0;obtain⟨hh,g,d,tk,os⟩:=s;refine qbe Fn hBn FB T hC hn hni (show [u].length<=sizeLine from Nat.le_of_lt (qd2 (n:=1) (by decide))) (fun A' E' s1 P' e p =>?_) ?_
 ·have:X.K.In s1.heap:=by rw[e];exact kin2
  exact PySem.W.Looks.here (PySem.W.looks_typeIn this M.fn) p
 ·refine wpAny_call (codeAny_mono (F.run _ X.stack _ _ ⟨[Value.ref (hh.objs.size+1),u],[]⟩ [Value.ref (hh.objs.size+1),u] [V.ref (hh.objs.size+1),v] (fun w H2=>w=.non/\Q (.ref (hh.objs.size+1)) H2) E0 (hr.make C [u] []) (env2.make C [u] []) (hb _ [Value.ref (hh.objs.size+1),u] kin2 rfl) (.cons rfl (.cons r .nil)) ⟨hh.objs.size+1,hh.objs.size,v,rfl,aB,fun dx hd hn=>⟨rfl,?_⟩⟩) fun r s' hq' =>?_)
  ·have hd0:H dx=none:=by rw[aJ hn] at hd;exact hd
   exact h _ _ dx (I.hok.fresh (Nat.le_succ _)) hd0 hn
  ·cases r with
   | error e=>exact False.elim hq'
   | ok fl=>
    cases fl with
    | ret u'=>obtain⟨v',H',I3,rv,ev,q3⟩:=I2.after hq';subst ev;exact⟨rv,⟨V.ref (hh.objs.size+1),H',I3,rfl,q3⟩⟩
    | next=>exact False.elim hq'
    | brk=>exact False.elim hq'
    | cont=>exact False.elim hq'
noncomputable def qiK (C:Addr) (f:Str) (t:TA):TE:=fun σ H Q=>t σ H fun vs H1=>∃ v,vs=[v]/\∀ a t dx,H1 a=none->H1 dx=none->dx≠a->Q (.ref a) (upd (upd (upd H1 a (bZ a (qbb C t))) dx (.xd [(f,v)])) a (bZ a (xAt C t dx)))
theorem qfm {k:Nat}{C fI:Addr}{fd:FuncData}{x:Str}{p:Pos}{e:Expr}{t:TA}(M:XMk X.K C fI) (F:bD X.prog X.w X.K X.mg X.base CX0 k fI fd ["self",f] (nB C f)) (hr:cJ (k+1) X.A) (hg:Gl X x) (hm:X.mg x=some (.ref C)) (hb:gb X.K fd ["self",f] [])
  (ha:PA X [e] t) (hdb:(x==("__debug__" : Str))=false:=by decide) (he:starEach [e] X.env=(false,eval e X.env)::starEach [] X.env:=by rfl) (hpl:(backTo pos (starEach [] X.env)).any (·.1)=false:=by rfl) :
  PE X (.Call (.Name x p) [e] [] pos) (qiK C f t):=by
 intro pins s σ H Q I h;refine wpAny_Call_Name_kw (kq I hg hm ?_ hdb);refine PySem.W.callWith_K (h₀:=X.base) I.ok.mod.kin M.kp (thn (ha pos pins s σ H _ I h) fun us s1 ⟨vs,H1,I1,r,v,ev,q⟩=>⟨I1.kIn,?_⟩) he hpl
 subst ev;obtain⟨u,rfl,rv⟩:=qbg r;exact qd5 M F hr hb I1 rv q
noncomputable def qiX (X:Cx) (C:Addr) (te:TE):TS:=fun _ σ H=>te σ H fun v H1=>∃ a t dx,v=.ref a/\H1 a=some (bZ a (xAt C t dx))/\∀ pins s',Inv X pins σ H1 s'->X.xe (.ref a) s'
theorem qfk {C fI:Addr}{e:Expr}(M:XMk X.K C fI) (hc:X.calm=true) (he:PE X e te):PS X (.Raise (some e) none pos) (qiX X C te):=by
 intro pins s σ H D I h;obtain⟨nm,q,N,bs,bm,bmB,sn,sub,ab,col,dd,k0,k1,k2,k3,k5,B,Bn,newId,nid,initId,inN,bmN,mN,Fn,hBn,FB,hbm,lk,hT,hni⟩:=M.cl;rw[arm_exec_Raise];refine zE (wpAny_standAt ?_);refine qaa (C:=C) (nm:=nm) (q:=q) (N:=N) (bs:=bs) (hdct:=true) (sn:=sn) (sub:=sub) (ab:=ab) (col:=col) (dd:=dd) (k0:=k0) (k1:=k1) (k2:=k2) (k3:=k3) (k5:=k5) (newId:=newId) hbm (I.ok.hd hc) ?_;refine zE (thn (he pins s σ H _ I h) fun u s1 ⟨v,H1,I1,rv,a,t,dx,ev,ea,w⟩ =>?_)
 subst ev;obtain rfl:u=Value.ref a:=rv;refine zE (wpAny_standAt (zW ?_));exact⟨a,_,_,rfl,qdT I1.kIn lk,bZ.get I1.hok ea,rfl,rfl,rfl,w pins s1 I1⟩
end
end L2
end
noncomputable section
namespace L2
open PySem PySem.Spec PyProof.Rows
structure XT (H:Hp) (a C dx T:Addr) (oe oT:Obj):Prop where
 ea:H a=some (bZ a oe)
 cls:oe.cls=.ref C
 dict:oe.dict=some dx
 fl:∃ vs,oe.data=.fields vs/\vs[1]?=some (.ref T)/\∃ a0,vs[0]?=some a0
 ne:T≠a
 eT:H T=some (bZ T oT)
 tr:∃ ts,oT.data=.fields ts/\ts[3]?=some .none
noncomputable section
variable {P:Program}{w:World}{K:Frag}{mg:Str->Option Value}{base:Heap}{N:List Str}{qual:Str}{scope:Scope}{f:Addr}{cd:Value}{A:Around}{outer:List Env}{s₀ s:Shared}{H₀ H:Hp}{E:XK}{pins:List (Addr×Obj)}{σ:St}{a C t dx:Addr}
end
end L2
end
noncomputable section
namespace L2
open PySem PySem.Spec PyProof.Rows
noncomputable section
variable {M:Model}{A:Around}{E:Value->Shared->Prop}{s:Shared}{base:Heap}{env:Env}{outer:List Env}{L e T:Addr}{oe oT:Obj}{vs ts:Array Value}{a0:Value}
theorem qeH {Q:Unit->Shared->Prop}(hfr:A.frames=some (env::outer)) (hl:s.heap.FunFrames base (env::outer)) (hf:env.frame=some L) (he:s.heap.get? e=some oe) (hd:oe.data=.fields vs) (h1:vs[1]?=some (.ref T)) (h0:vs[0]?=some a0)
  (hT:s.heap.get? T=some oT) (hdT:oT.data=.fields ts) (h3:ts[3]?=some .none) (hne:T≠e)
  (h:∀ h' T',qgB (frs (env::outer)) e s.heap h'->qlx h' e oe.cls oe.dict a0 .none T'->T'=s.heap.objs.size->Q () { s with heap:=h' }) :
  wpAny M A (noteFrame (.ref e) env) (fun _ s2=>wpAny M A (setFlight (.ref e) none) Q E s2) E s:=by
 have hene:e∉frs (env::outer):=fun hm=>by obtain⟨_,o,ho,hnf⟩:=hl.mem hm;rw[he] at ho;cases ho;exact hnf vs hd
 have hTne:T∉frs (env::outer):=fun hm=>by obtain⟨_,o,ho,hnf⟩:=hl.mem hm;rw[hT] at ho;cases ho;exact hnf ts hdT
 have hsz:1<vs.size:=(Array.getElem?_eq_some_iff.mp h1).1;have hszT:3<ts.size:=(Array.getElem?_eq_some_iff.mp h3).1;have hid:Obj.mapFields (fun x=>x.setIfInBounds 3 Value.none) oT=oT:=by
  obtain⟨c,d,dt,sl⟩:=oT;have:dt=.fields ts:=hdT;subst this;show (⟨c,d,.fields (ts.setIfInBounds 3 Value.none),sl⟩:Obj)=_
  congr 2
  apply Array.ext
  ·simp
  ·intro i h1 h2;by_cases hi:3=i
   ·subst hi;rw[Array.getElem_setIfInBounds_self];have:=Array.getElem?_eq_getElem h2;rw[h3] at this;injection this
   ·rw[Array.getElem_setIfInBounds_ne _ hi]
 have same:∀ b o,s.heap.get? b=some o->(s.heap.update T (Obj.mapFields fun x=>x.setIfInBounds 3 Value.none)).get? b=some o:=fun b o hb=>by
  by_cases hbT:b=T
  ·subst hbT;rw[hT] at hb;cases hb;have hh:=Heap.get?_update_self (Obj.mapFields fun x=>x.setIfInBounds 3 Value.none) hT (by rw[hid];exact Obj.isFreed_of_fields hdT)
   rw[hid] at hh;exact hh
  ·rw[Heap.get?_update_other _ _ (Ne.symm hbT)];exact hb
 have he2:=same e oe he;have hl2:(s.heap.update T (Obj.mapFields fun x=>x.setIfInBounds 3 Value.none)).FunFrames base (env::outer):=Heap.FunFrames.of_keeps (fun b o hb _=>⟨o,same b o hb,rfl⟩) hl
 unfold noteFrame;rw[hf];refine zE (wpAny_field he hd h1 ?_);rw[if_pos (by simp)]
 refine zE (wpAny_field hT hdT h3 ?_);rw[if_neg (by simp[rawInt])]
 refine zE (wpAny_setField hT hdT hszT ?_);refine zE (wpAny_frameOf_fun hfr hl2 hf fun h₁ hs₁ =>?_)
 refine zE (wpAny_entryPlaceOf fun pl hpl =>?_)
 refine zE ?_;unfold EntryCells.newEntry;refine wpAny_newObj_type ?_ (IsPlace.sizeOk5 hpl _ _ _ _ _);have he₁:h₁.get? e=some oe:=(hs₁.2.1 e hene).trans he2;have he₂:=zF { cls:=Value.type "traceback",data:=Data.fields ([Value.ref T,Value.ref L,Value.none,rawInt ↑L,Value.none]++if pl.isEmpty=true then List.replicate 6 Value.none else pl).toArray } he₁
 refine wpAny_setField he₂ hd hsz ?_;have hTe:h₁.objs.size≠e:=Nat.ne_of_gt (zJ he₁);have hd₃:=Obj.data_mapFields hd fun x=>x.setIfInBounds 1 (Value.ref h₁.objs.size)
 have he₃:=Heap.get?_update_self (Obj.mapFields fun x=>x.setIfInBounds 1 (Value.ref h₁.objs.size)) he₂ (Obj.isFreed_of_fields hd₃)
 have hT₃:=(Heap.get?_update_other (h₁.push { cls:=Value.type "traceback",data:=Data.fields ([Value.ref T,Value.ref L,Value.none,rawInt ↑L,Value.none]++if pl.isEmpty=true then List.replicate 6 Value.none else pl).toArray }) (Obj.mapFields fun x=>x.setIfInBounds 1 (Value.ref h₁.objs.size)) (Ne.symm hTe)).trans (zV h₁ rfl)
 have g1:(vs.setIfInBounds 1 (Value.ref h₁.objs.size))[1]?=some (Value.ref h₁.objs.size):=by simp[hsz]
 have g0:(vs.setIfInBounds 1 (Value.ref h₁.objs.size))[0]?=some a0:=by rw[Array.getElem?_setIfInBounds_ne (by decide)];exact h0
 unfold setFlight;refine zE (wpAny_field he₃ hd₃ g1 ?_);rw[if_pos (by simp)]
 have hsz3:3<([Value.ref T,Value.ref L,Value.none,rawInt ↑L,Value.none]++if pl.isEmpty=true then List.replicate 6 Value.none else pl).toArray.size:=by simp
 refine wpAny_setField hT₃ rfl hsz3 ?_;have hsz1:h₁.objs.size=s.heap.objs.size:=hs₁.1.trans (Heap.size_update _ _ _);have hfree:s.heap.get? h₁.objs.size=none:=by
  rw[hsz1];cases q:s.heap.get? s.heap.objs.size with
  | none=>rfl
  | some o=>exact absurd (zJ q) (yD _)
 have hkeep:∀ b o,b≠e->b≠h₁.objs.size->h₁.get? b=some o->((Heap.update (h₁.push { cls:=Value.type "traceback",data:=Data.fields ([Value.ref T,Value.ref L,Value.none,rawInt ↑L,Value.none]++if pl.isEmpty=true then List.replicate 6 Value.none else pl).toArray }) e (Obj.mapFields fun x=>x.setIfInBounds 1 (Value.ref h₁.objs.size))).update h₁.objs.size (Obj.mapFields fun x=>x.setIfInBounds 3 (Option.elim none Value.none fun f=>rawInt ↑f))).get? b=some o:=fun b o hbe hbT hb=>by rw[Heap.get?_update_other _ _ (Ne.symm hbT),Heap.get?_update_other _ _ (Ne.symm hbe)];exact zF _ hb
 refine h _ h₁.objs.size ⟨fun b o hbe hbf hb =>?_,fun b o hbe hbf hb =>?_⟩ ?_ hsz1
 ·refine hkeep b o hbe ?_ ((hs₁.2.1 b hbf).trans (same b o hb));intro z;rw[z,hfree] at hb;cases hb
 ·obtain⟨sl,hsl⟩:=hs₁.2.2 b o (same b o hb);refine⟨sl,hkeep b _ hbe ?_ hsl⟩;intro z;rw[z,hfree] at hb;cases hb
 ·have hdT:=Obj.data_mapFields (o:={ cls:=Value.type "traceback",data:=Data.fields ([Value.ref T,Value.ref L,Value.none,rawInt ↑L,Value.none]++if pl.isEmpty=true then List.replicate 6 Value.none else pl).toArray }) rfl fun x=>x.setIfInBounds 3 (Option.elim none Value.none fun f=>rawInt ↑f)
  refine⟨_,_,_,_,(Heap.get?_update_other _ _ hTe).trans he₃,Obj.cls_mapFields _ _,Obj.dict_mapFields _ _,hd₃,g0,g1,hTe,Heap.get?_update_self _ hT₃ (Obj.isFreed_of_fields hdT),hdT,?_⟩;simp
end
end L2
end
noncomputable section
namespace L2
open PySem PySem.Spec PyProof.Rows
theorem qdy {P:Program}{w:World}{H:Hp}{h h':Heap}{fs:List Addr}{a T:Addr}{o oe oT:Obj}(hok:HOk P w H h) (hfree:∀ b∈fs,H b=none) (ea:H a=some (bZ a o)) (lx:qgB fs a h h') (ga:h'.get? a=some oe) (gT:h'.get? T=some oT) (eT:T=h.objs.size) :
  Un fs [] H (upd (upd H T (bZ T oT)) a (bZ a oe)) h h'/\HOk P w (upd (upd H T (bZ T oT)) a (bZ a oe)) h':=by
 have hTf:H T=none:=hok.fresh (Nat.le_of_eq eT.symm);have notA:∀ b,H b=none->b≠a:=fun b hb z=>by rw[z,ea] at hb;cases hb
 have oldT:∀ b o,h.get? b=some o->b≠T:=fun b o e z=>by have:=zJ e;rw[z,eT] at this;exact yD _ this
 have same:∀ b u,b≠a->H b=some u->upd (upd H T (bZ T oT)) a (bZ a oe) b=some u:=fun b u hb e=>by rw[aJ hb,aJ (ba e hTf)];exact e
 have keepT:∀ c v,c≠a->H c≠none->h.get? c=some v->h'.get? c=some v:=fun c v hc hn e=>lx.keep c v hc (fun hm=>hn (hfree c hm)) e
 refine⟨⟨fun b o e n hb hx'=>lx.keep b o (notA b n) hb e,fun b o e n hb hx'=>lx.slot b o (notA b n) hb e,fun b o e n hx' =>?_,fun b o e hx' =>?_,fun b xs e=>same b _ (fun z=>by rw[z,ea] at e;cases e) e,fun b o u e=>same b _ (fun z=>by rw[z,ea] at e;cases e) e,fun b ps e=>⟨#[],by rw[same b _ (fun z=>by rw[z,ea] at e;cases e) e];simp⟩⟩,fun b u e =>?_⟩
 ·rw[aJ (notA b n),aJ (oldT b o e)];exact n
 ·by_cases hba:b=a
  ·exact⟨oe,by rw[hba];exact ga⟩
  ·by_cases hm:b∈fs
   ·obtain⟨sl,h4⟩:=lx.slot b o hba hm e;exact⟨_,h4⟩
   ·exact⟨o,lx.keep b o hba hm e⟩
 ·by_cases hba:b=a
  ·subst hba;rw[aB] at e;cases e;exact bZ.ok ga
  ·rw[aJ hba] at e;by_cases hbT:b=T
   ·subst hbT;rw[aB] at e;cases e;exact bZ.ok gT
   ·rw[aJ hbT] at e;refine(hok b u e).stay (fun c v hc q =>?_) (fun c r =>?_) fun c xs r =>?_
    ·rcases hc with rfl|hc
     ·exact keepT c v hba (by rw[e];simp) q
     ·exact keepT c v (fun z=>by rw[z,ea] at hc;cases hc) (by rw[hc];simp) q
    ·exact same c _ (fun z=>by rw[z,ea] at r;cases r) r
    ·exact same c _ (fun z=>by rw[z,ea] at r;cases r) r
noncomputable section
variable {X:Cx}{pins:List (Addr×Obj)}{σ:St}{H:Hp}{s:Shared}{E:Value->Shared->Prop}{a C dx T L:Addr}{oe oT:Obj}
theorem qdz {Q:Unit->Shared->Prop}(hst:X.stack=X.env::X.outer) (hf:X.env.frame=some L) (I:Inv X pins σ H s) (x:XT H a C dx T oe oT)
  (h:∀ s' H' T' oe' oT',Inv X pins σ H' s'->XT H' a C dx T' oe' oT'->(∀ b o,b≠a->H b=some o->H' b=some o)->Q () s') :
  wpAny (model X.prog X.w) X.A (noteFrame (.ref a) X.env) (fun _ s2=>wpAny (model X.prog X.w) X.A (setFlight (.ref a) none) Q E s2) E s:=by
 obtain⟨vs,hd,h1,a0,h0⟩:=x.fl;obtain⟨ts,hdT,h3⟩:=x.tr;have hfrs:=I.ok.frames;rw[hst] at hfrs;have hfun:=I.stack;rw[hst] at hfun;refine qeH (base:=X.base) hfrs hfun hf (bZ.get I.hok x.ea) hd h1 h0 (bZ.get I.hok x.eT) hdT h3 x.ne fun h' T' lx ext eT =>?_
 obtain⟨oe',vs',oT',ts',g1,g2,g3,g4,g5,g6,g7,g8,g9,g10⟩:=ext;rw[<- hst] at lx;obtain⟨un,hok⟩:=qdy I.hok I.stkFree x.ea lx g1 g8 eT;have hTf:H T'=none:=I.hok.fresh (Nat.le_of_eq eT.symm);refine h _ (upd (upd H T' (bZ T' oT')) a (bZ a oe')) T' oe' oT' (I.call' (s':={ s with heap:=h' }) (ch:=[]) rfl un hok I.bare (fun b z=>absurd z (by simp))) ⟨aB,g2.trans x.cls,g3.trans x.dict,⟨vs',g4,g6,_,g5⟩,g7,by rw[aJ g7,aB],⟨ts',g9,g10⟩⟩ fun b o hb e =>?_
 rw[aJ hb,aJ (ba e hTf)];exact e
end
end L2
end
noncomputable section
namespace L2
open PySem PySem.Spec PyProof.Rows
theorem qcU {α:Type}{p:α->Bool}{l:List α}{i:Nat}(h:∀ x,l[i]?=some x->p x=false):(l.eraseIdx i).find? p=l.find? p:=by
 by_cases hi:i<l.length
 ·have e:l=l.take i++l[i]::l.drop (i+1):=by rw[<- List.drop_eq_getElem_cons hi,List.take_append_drop]
  have hp:p l[i]=false:=h _ (zI hi);rw[List.eraseIdx_eq_take_drop_succ]
  conv=>rhs;rw[e]
  rw[List.find?_append,List.find?_append,List.find?_cons,hp]
 ·rw[List.eraseIdx_of_length_le (by omega)]
theorem qaA {es:Array DictEntry}{n x:Str}{i:Nat}(hk:StrKeys es) (e:es.findIdx? (fun y=>y.key.isStr n)=some i) (hx:x≠n):nsFind (es.eraseIdxIfInBounds i) x=nsFind es x:=by
 obtain⟨hi,hp,_⟩:=Array.findIdx?_eq_some_iff_getElem.mp e;have ee:es.eraseIdxIfInBounds i=es.eraseIdx i hi:=by unfold Array.eraseIdxIfInBounds;rw[dif_pos hi]
 have:(es.eraseIdx i hi).find? (fun y=>y.key.isStr x)=es.find? (fun y=>y.key.isStr x):=by
  rw[<- Array.find?_toList,<- Array.find?_toList,Array.toList_eraseIdx];refine qcU fun y hy =>?_
  rw[Array.getElem?_toList,Array.getElem?_eq_getElem hi] at hy;cases hy;obtain⟨m,t,hm⟩:=hk es[i] (Array.getElem_mem hi);rw[hm] at hp ⊢;have hp:(m==n)=true:=hp;show (m==x)=false;have hm:m=n:=by simpa using hp
  rw[hm];simpa using Ne.symm hx
 rw[ee];show Option.map _ _=Option.map _ _;rw[this]
theorem o9 {es:Array DictEntry}{i:Nat}(hk:StrKeys es):StrKeys (es.eraseIdxIfInBounds i):=fun e he=>by
 refine hk e ?_;unfold Array.eraseIdxIfInBounds at he
 split at he
 ·exact Array.mem_of_mem_eraseIdx he
 ·exact he
noncomputable section
variable {M:Model}{A:Around}{E:Value->Shared->Prop}{s:Shared}
theorem qeG {a:Addr}{m:Str->Option Value}{name:Str}{Q:Bool->Shared->Prop}(hn:s.heap.Ns a m) (hv:∃ v,m name=some v)
  (hQ:∀ h' m',h'.Ns a m'->(∀ x,x≠name->m' x=m x)->Heap.SameBut a s.heap h'->Q true { s with heap:=h' }):wpAny M A (nsDel a name) Q E s:=by
 obtain⟨o,es,ep,ho,hd,hk,hm⟩:=id hn;obtain⟨v,hv⟩:=hv;have hfi:∃ i,es.findIdx? (fun y=>y.key.isStr name)=some i:=by
  cases q:es.findIdx? (fun y=>y.key.isStr name) with
  | some i=>exact⟨i,rfl⟩
  | none=>
   exfalso;have h1:=hm name;rw[hv] at h1;have h1:Option.map _ (es.find? (fun y=>y.key.isStr name))=some v:=h1
   have:es.find? (fun y=>y.key.isStr name)=none:=by rw[Array.find?_eq_none];intro x hx hh;have:=Array.findIdx?_eq_none_iff.mp q x hx;rw[this] at hh;cases hh
   rw[this] at h1;cases h1
 obtain⟨i,hi⟩:=hfi;obtain⟨hil,hip,_⟩:=Array.findIdx?_eq_some_iff_getElem.mp hi;have hhas:nsHas name o=pure true:=by
  rw[nsHas_eq];unfold nsHasByArray;rw[hd];show (if (es.any fun y=>y.key.isStr name)=true then _ else _)=_
  rw[if_pos (Array.any_eq_true.mpr ⟨i,hil,hip⟩)]
 unfold nsDel;refine zE (wpAny_loadPart ho ?_);rw[hhas];refine zE (zW ?_);rw[if_pos rfl];refine zE (wpAny_updatePart ho (zW ?_));obtain⟨c,d,dt,sl⟩:=o;have:dt=.dict es ep:=hd;subst this;have hdrop:Obj.dropName name { cls:=c,dict:=d,data:=Data.dict es ep,slots:=sl }={ cls:=c,dict:=d,data:=Data.dict (es.eraseIdxIfInBounds i) (ep+1),slots:=sl }:=by rw[Obj.dropName_eq,Obj.dropNameByArray.eq_1,hi]
 have hget:=Heap.get?_update_self (Obj.dropName name) ho (by rw[hdrop];rfl)
 rw[hdrop] at hget;refine hQ _ (nsFind (es.eraseIdxIfInBounds i)) ⟨_,_,_,hget,rfl,o9 hk,fun _=>rfl⟩ (fun x hx=>by rw[qaA hk hi hx];exact hm x) ⟨Heap.size_update _ _ _,fun b hb=>Heap.get?_update_other _ _ (Ne.symm hb)⟩
theorem qbc {env:Env}{n:Str}{pos:Pos}{m:Str->Option Value}{Q:Unit->Shared->Prop}(hl:env.kindOf n=some .local) (hn:s.heap.Ns env.locals m)
  (hp:(env.scope.kind == .class||env.scope.kind == .module&&env.locals != env.globals)=false)
  (h:∀ h' m',h'.Ns env.locals m'->(∀ x,x≠n->m' x=m x)->Heap.SameBut env.locals s.heap h'->Q () { s with heap:=h',toks:=s.toks+1 }) :
  wpAny M A (do bindName env n Value.none;unbindBehindTheSuite env n pos) Q E s:=by
 refine zE (wpAny_bindName (wpAny_storeName_local hl hn (fun h₁ hn₁ hs₁ =>?_) hp))
 unfold unbindBehindTheSuite;refine wpAny_onRaise ?_;unfold unbindName;refine zE (wpAny_point (zE ?_));unfold deleteName;simp only[hl];rw[if_neg (by rw[hp];decide)]
 refine zE (qeG hn₁ ⟨_,if_pos rfl⟩ fun h₂ m₂ hn₂ he hs₂ =>?_)
 rw[if_neg (by decide)]
 refine zW (wpAny_point (h h₂ m₂ hn₂ (fun x hx =>?_) (Heap.SameBut.trans hs₁ hs₂)))
 rw[he x hx,if_neg hx]
end
end L2
end
noncomputable section
namespace L2
open PySem PySem.Spec PyProof.Rows
structure mW (o:Obj) (C dx:Addr):Prop where
 cls:o.cls=.ref C
 dict:o.dict=some dx
 no:PySem.W.notCls o=true
noncomputable abbrev Cx.mark (X:Cx) (e:Value):Cx:={ X with A:=X.A.mark (some e),calm:=false,xe:=fun _ _=>False }
noncomputable section
variable {X:Cx}{pins:List (Addr×Obj)}{σ:St}{H:Hp}{s:Shared}{E:Value->Shared->Prop}{a C dx T L:Addr}{oe oT:Obj}
theorem Cx.Ok.mark {X:Cx}(ok:X.Ok) (e:Value):(X.mark e).Ok:=
 ⟨ok.mod,ok.kind,ok.glob,ok.blt,ok.above,ok.inj,ok.has,ok.cab,fun h=>(nomatch h),ok.frames,ok.stk,ok.exf,ok.bs,ok.bsz,ok.noex,ok.exfs,ok.funs,ok.frf⟩
theorem Inv.mark (I:Inv X pins σ H s) (e:Value):Inv (X.mark e) pins σ H s:=⟨I.ok.mark e,I.os,I.bare,I.base,I.loc,I.cell,I.free,I.freeC,I.pin,I.hok,I.len⟩
theorem Inv.unmark {e:Value}(ok:X.Ok) (I:Inv (X.mark e) pins σ H s):Inv X pins σ H s:=⟨ok,I.os,I.bare,I.base,I.loc,I.cell,I.free,I.freeC,I.pin,I.hok,I.len⟩
theorem qhZ {M:Model}{A:Around}{i:Nat}{x:Str}{pos:Pos}{Q:Unit->Shared->Prop}(I:Inv X pins σ H s) (hN:X.N.Nodup) (hi:X.N[i]?=some x) (hk:X.env.scope.names.lookup x=some .local)
  (h:∀ s',Inv X pins (σ.set i none) H s'->Q () s'):wpAny M A (do bindName X.env x Value.none;unbindBehindTheSuite X.env x pos) Q E s:=by
 obtain⟨m,hn,hl⟩:=id I.loc;have hcls:(X.env.scope.kind == .class||(X.env.scope.kind == .module&&X.env.locals != X.env.globals))=false:=by rw[I.ok.kind];rfl
 have hiσ:i<σ.length:=by rw[I.len];exact(zC.mp hi).1
 have cne:=I.cne;have tracked:∀ {a:Addr}{h':Heap},(∃ o,s.heap.get? a=some o/\H a=none)->Heap.SameBut a s.heap h'->HOk X.prog X.w H h':=fun {a h'} ha hs b ob e=>by
  obtain⟨_,_,hfree⟩:=ha;refine(I.hok b ob e).stay (fun c w' hc q=>(hs.2 c ?_).trans q) (fun _ q=>q) fun _ _ q=>q
  rintro rfl;rcases hc with rfl|hc
  ·rw[hfree] at e;cases e
  ·rw[hfree] at hc;cases hc
 refine qbc hk hn hcls (fun h' m' hn' hm hs =>?_)
 obtain⟨oL,_,_,hoL,_⟩:=id hn;refine h _ ⟨I.ok,I.os,I.bare,⟨fun b o e n hb hx =>?_,fun b o e n hb hx =>?_,I.base.free,fun b o e hx =>?_,I.base.tups,I.base.frzs,I.base.tbls⟩,⟨_,hn',fun j y v' e1 e2 e3 =>?_⟩,fun y c e =>?_,I.free,I.freeC,fun p hp =>?_,tracked ⟨oL,hoL,I.free⟩ hs,by simpa using I.len⟩
 ·exact(hs.2 b (zR (zS (zJ e) I.ok.above))).trans (I.base.keep b o e n hb hx)
 ·obtain⟨sl,e1⟩:=I.base.slot b o e n hb hx;exact⟨sl,(hs.2 b (zR (zS (zJ e) I.ok.above))).trans e1⟩
 ·obtain⟨o',e1⟩:=I.base.there b o e hx;exact⟨o',(hs.2 b (zR (zS (zJ e) I.ok.above))).trans e1⟩
 ·by_cases hj:j=i
  ·subst hj;rw[List.getElem?_set_self hiσ] at e2;cases e2
  ·rw[zK (Ne.symm hj)] at e2;obtain⟨u',r',q⟩:=hl j y v' e1 e2 e3;refine⟨u',r',?_⟩;rcases q with ⟨k,e⟩|⟨k,c,e,z⟩
   ·refine .inl ⟨k,?_⟩;have:y≠x:=fun e=>hj (ow hN e1 (e ▸ hi))
    rw[hm y this];exact e
   ·exact .inr ⟨k,c,e,z.sameBut hs (cne y c e)⟩
 ·obtain⟨w',z⟩:=I.cell y c e;exact⟨w',z.sameBut hs (cne y c e)⟩
 ·obtain⟨e,n,ne,nf,d⟩:=I.pin p hp;exact⟨(hs.2 p.1 ne).trans e,n,ne,nf,d⟩
theorem qep {M:Model}{A:Around}{Q:Unit->Shared->Prop}(I:Inv X pins σ H s) (x:XT H a C dx T oe oT) (h:∀ s',Inv X pins σ H s'->Q () s'):wpAny M A (setFlight (.ref a) none) Q E s:=by
 obtain⟨vs,hd,h1,a0,h0⟩:=x.fl;obtain⟨ts,hdT,h3⟩:=x.tr;have he:=bZ.get I.hok x.ea;have hT:=bZ.get I.hok x.eT;have hszT:3<ts.size:=(Array.getElem?_eq_some_iff.mp h3).1;have hid:Obj.mapFields (fun x=>x.setIfInBounds 3 Value.none) oT=oT:=by
  obtain⟨c,d,dt,sl⟩:=oT;have:dt=.fields ts:=hdT;subst this;show (⟨c,d,.fields (ts.setIfInBounds 3 Value.none),sl⟩:Obj)=_
  congr 2
  apply Array.ext
  ·simp
  ·intro i h1 h2;by_cases hi:3=i
   ·subst hi;rw[Array.getElem_setIfInBounds_self];have:=Array.getElem?_eq_getElem h2;rw[h3] at this;injection this
   ·rw[Array.getElem_setIfInBounds_ne _ hi]
 unfold setFlight;refine zE (wpAny_field he hd h1 ?_);rw[if_pos (by simp)]
 refine wpAny_setField hT hdT hszT ?_;refine h _ (I.kept (t':=s.toks) fun b o hb =>?_)
 by_cases hbT:b=T
 ·subst hbT;rw[hT] at hb;cases hb;have hh:=Heap.get?_update_self (Obj.mapFields fun x=>x.setIfInBounds 3 Value.none) hT (by rw[hid];exact Obj.isFreed_of_fields hdT)
  rw[hid] at hh;exact hh
 ·rw[Heap.get?_update_other _ _ (Ne.symm hbT)];exact hb
theorem XT.stand (x:XT H a C dx T oe oT):mW oe C dx:=⟨x.cls,x.dict,by
 obtain⟨vs,hd,_⟩:=x.fl;unfold PySem.W.notCls;rw[hd]⟩
theorem qio {fs:List (Str×V)}(I:Inv X pins σ H s) (ea:H a=some (bZ a oe)) (st:mW oe C dx) (ed:H dx=some (.xd fs)):∃ (od:Obj) (mA:Str->Option Value),PySem.W.InstAt s.heap a oe C (some od)/\(∀ name,lookIn name od=some (mA name))/\∀ f,jf (fs.lookup f) (mA f):=by
 obtain⟨mA,n1,r⟩:=(show dg X.prog X.w H s.heap dx (.xd fs) from I.hok dx _ ed)
 obtain⟨od,ho,hl⟩:=pL n1;exact⟨od,mA,⟨bZ.get I.hok ea,st.cls,st.no,by rw[st.dict];exact ho⟩,hl,r⟩
structure qlk (K:Frag) (C:Addr) (f:Str):Prop where
 pg:XGa K C
 hd:hasDictIn K C=true
 na:findIn K (.ref C) f=some none
noncomputable def qkk (K:Frag) (ta:TE) (f:Str):TE:=fun σ H Q=>ta σ H fun x H1=>∃ a C dx oe fs v,x=.ref a/\H1 a=some (bZ a oe)/\mW oe C dx/\H1 dx=some (.xd fs)/\qlk K C f/\fs.lookup f=some v/\Q v H1
theorem qhk {e:Expr}{ta:TE}{f:Str}{pos:Pos}(he:PE X e ta) (hb:attributeBase e f X.env (eval e X.env)=eval e X.env):PE X (.Attribute e f pos) (qkk X.K ta f):=by
 intro pins s σ H Q I h;refine qdN hb (thn (he pins s σ H _ I h) fun u s1 ⟨x,H1,I1,rx,a,C,dx,oe,fs,v,ex,ea,st,ed,g,l,q⟩ =>?_)
 subst ex;obtain rfl:u=Value.ref a:=rx;obtain⟨od,mA,J,hl,r⟩:=qio I1 ea st ed;obtain⟨u,hu,ru⟩:=jf.some_of (v:=v) (o:=mA f) (by rw[<- l];exact r f)
 exact qeC I1.kIn J g.pg (PySem.W.findObj_own g.hd g.na rfl (by rw[hl,hu])) (pQ ru) ⟨v,H1,I1.tok _,ru,q⟩
structure XIs (K:Frag) (C:Addr):Prop where
 pg:XGa K C
 hd:hasDictIn K C=true
 ha:findIn K (.ref C) "__class__" = some (some (.builtin "object.__class__"))
 hn:PySem.W.specialIn K (.builtin "object.__class__") "__get__" = some (some (.builtin "getset_descriptor.__get__"))
 htk:PySem.W.takesIn K (.builtin "object.__class__")=some true
 hm:PySem.W.mroIn K C (.type "object")=some true
theorem qiG {M:World}{A:Around}{Q:Value->Shared->Prop}{fs:List (Str×V)}{c:Value}{b:Bool}(I:Inv X pins σ H s) (ea:H a=some (bZ a oe)) (st:mW oe C dx) (ed:H dx=some (.xd fs)) (xi:XIs X.K C) (e:kitOne X.K (.ref C) c=some b) (h:∀ s',Inv X pins σ H s'->Q (.bool b) s') :
  wpAny (model X.prog X.w) A (call (.builtin "isinstance") [.ref a,c]) Q E s:=by
 obtain⟨od,mA,J,hl,r⟩:=qio I ea st ed;exact kia_one (qfY xi.pg xi.hd xi.ha xi.hn xi.htk xi.hm) I.kIn J e (fun z=>nomatch z) (fun tk=>h _ (I.tok _))
end
end L2
end
noncomputable section
namespace L2
open PySem PySem.Spec PyProof.Rows
noncomputable section
variable {X:Cx}{k:Nat}{f C fI L:Addr}{fd:FuncData}{ps:List Str}{sp:Sp}{x g n cn:Str}{p p' pos apos pc hpos tpos:Pos}{e:Expr}{es:List Expr}{t:TA}{ts:TS}{b₀:Stmt}{hb:List Stmt}{hs:List ExceptHandler}{i j:Nat}
end
end L2
end
noncomputable section
namespace L2
open PySem PySem.Spec PyProof.Rows
noncomputable def dD:List D->Option D
 | [.bl b]=>some (.int (if b then 1 else 0))
 | _=>none
noncomputable section
variable {X:Cx}{own:List Nat}{e:Expr}{f:DF}{p pos:Pos}
theorem qie:f9 X (.type "int") (rC X.K dD):=by
 intro pins s σ H xs us Q I r ⟨G,ds,d,gh,rd,eq,q⟩;unfold dD at eq
 split at eq
 ·cases eq;obtain⟨v,rfl,r1⟩:=rd.one;have:=r1.bl;subst this;obtain⟨u,rfl,ru⟩:=qbg r;rename_i b;obtain rfl:u=Value.bool b:=ru;exact call_int_bool ⟨.int (if b then 1 else 0),H,I.tok _,⟨s.toks,rfl⟩,q _ G H (.refl gh) (bh.mpr rfl)⟩
 ·cases eq
theorem kB (hg:Gl X "int") (hm:X.mg "int" = none) (h:PE X e (tQ X.K own f)) (hs:starEach (e::[]) X.env=(false,eval e X.env)::starEach [] X.env:=by rfl):PE X (.Call (.Name "int" p) [e] [] pos) (tP X.K own (al dD (aC f aN))):=
 (qea qie hg hm PyProof.Rows.boot_int (oQ h qaX hs) (by decide) (by decide) hs rfl).imp fun σ H Q h=>qis h
end
end L2
end
noncomputable section
namespace L2
open PySem PySem.Spec PyProof.Rows
noncomputable abbrev qkh (K:Frag) (c f:Str):Prop:=∀ C,nsIn K mainGlobals c=some (some (.ref C))->Cls K C/\de K C f
noncomputable def nq (f:Str) (d:D):List Str->List D->List Str×List D
 | k::ks,x::ds=>if k=f then (k::ks,d::ds) else (k::(nq f d ks ds).1,x::(nq f d ks ds).2)
 | _,_=>([f],[d])
theorem qat {K:Frag}{G:Hp}{f:Str}{d:D}{v:V}(rv:Rep K G d v):∀ {ks:List Str}{ds:List D}{vs:List V},ks.length=ds.length->aI K G ds vs->∃ vs',i6 f v (ks.zip vs)=(nq f d ks ds).1.zip vs'/\(nq f d ks ds).1.length=(nq f d ks ds).2.length/\aI K G (nq f d ks ds).2 vs'
 | [],[],vs,hl,r=>by rw[c6.mp r];exact⟨[v],rfl,rfl,.cons rv .nil⟩
 | [],x::ds,vs,hl,r=>by simp at hl
 | k::ks,[],vs,hl,r=>by simp at hl
 | k::ks,x::ds,vs,hl,r=>by
  obtain⟨u,us,rfl,ru,rs⟩:=be.mp r;simp only[zP,Nat.add_right_cancel_iff] at hl;unfold nq;rw[List.zip_cons_cons,show i6 f v ((k,u)::ks.zip us)=(if k=f then (k,v)::ks.zip us else (k,u)::i6 f v (ks.zip us)) from rfl]
  by_cases hk:k=f
  ·rw[if_pos hk,if_pos hk];exact⟨v::us,rfl,by simp[hl],.cons rv rs⟩
  ·rw[if_neg hk,if_neg hk];obtain⟨vs',e,l,q⟩:=qat rv hl rs;exact⟨u::vs',by rw[List.zip_cons_cons,e],by simp[l],.cons ru q⟩
theorem qc6 {α β:Type}{ks:List α}{vs:List β}(h:ks.length=vs.length):(ks.zip vs).length=ks.length:=by simp[h]
theorem mJ {K:Frag}{G:Hp}{f:Str}:∀ {ks:List Str}{vs:List V},f∉ks->(ks.zip vs).lookup f=none
 | [],vs,h=>by simp
 | k::ks,[],h=>by simp
 | k::ks,v::vs,h=>by simp only[zG,not_or] at h;rw[List.zip_cons_cons,List.lookup_cons,beq_eq_false_iff_ne.mpr h.1];exact mJ (K:=K) (G:=G) h.2
noncomputable section
variable {X:Cx}{own:List Nat}{e:Expr}{pos p:Pos}{g:DF}
theorem dX {c f:Str}(h:PE X e (tQ X.K own g)) (hc:qkh X.K c f) (hb:attributeBase e f X.env (eval e X.env)=eval e X.env:=by rfl) :
  PE X (.Attribute e f pos) (tP X.K own (fF c f g)):=(qi9 h hb).imp fun σ H Q ⟨G,ρ,d,gh,env,eq,k⟩=>by
 unfold fF at eq;cases ef:g ρ with
 | none=>rw[ef] at eq;cases eq
 | some o=>
  rw[ef] at eq;refine⟨G,ρ,o,gh,env,ef,fun v G1 H1 E1 r1 =>?_⟩
  cases o<;>simp only[zA] at eq<;>try (cases eq;done)
  split at eq
  ·rename_i hcc;subst hcc;obtain⟨a,C,dx,vs,rfl,ha,n,_,rs⟩:=r1.insH E1.gh;obtain⟨u,eu,ru⟩:=qaQ rs eq;exact⟨a,C,dx,_,u,rfl,ha,(hc C n).1,(hc C n).2,eu,k u G1 H1 E1 ru⟩
  ·cases eq
end
noncomputable section
variable {X:Cx}{B:Bs}{oL own own1:List Nat}{e:Expr}{pos pos' p:Pos}
noncomputable def kU (c:Str) (i:Nat) (ρ:aA):Option (List Str×List D):=(eV i ρ).bind fun d=>match d with|.ins c' ks ds=>if c'=c then some (ks,ds) else none|_=>none
theorem lh {c:Str}{i:Nat}{ρ:aA}{ks:List Str}{ds:List D}(h:kU c i ρ=some (ks,ds)):ρ[i]?=some (some (.ins c ks ds)):=by
 unfold kU at h;cases ef:eV i ρ with
 | none=>rw[ef] at h;cases h
 | some d=>
  rw[ef] at h;have:=iD ef;cases d<;>simp only[zA] at h<;>try (cases h;done)
  split at h
  ·rename_i hc;cases h;subst hc;exact this
  ·cases h
theorem SR.ownI {K:Frag}{G H:Hp}{σ:St}{ρ:aA}{i:Nat}{c:Str}{ks:List Str}{ds:List D}(S:SR K B own G H σ ρ) (hi:i∈own) (h:ρ[i]?=some (some (.ins c ks ds))) :
  ∃ a C dx vs,σ[i]?=some (some (.ref a))/\H a=some (.ins C dx (ks.zip vs))/\nsIn K mainGlobals c=some (some (.ref C))/\ks.length=ds.length/\aI K G ds vs/\G a=none/\B.2 a=none:=by
 obtain⟨a,o0,e2,e3,⟨C,dx,vs,rfl,n,l,r⟩,e5⟩:=S.ownd i _ hi h;exact⟨a,C,dx,vs,e2,e3,n,l,r,e5⟩
noncomputable def qdh (i:Nat) (c f:Str) (fe:DF):DG:=fun ρ=>(fe ρ).bind fun d=>(kU c i ρ).bind fun q=>if q.1.length<999 then some (.nx (ρ.set i (some (.ins c (nq f d q.1 q.2).1 (nq f d q.1 q.2).2)))) else none
theorem qgg {i:Nat}{x c f:Str}{fe:DF}(h:PE X (.Name x p) (i4 i)) (he:PE X e (tP X.K own fe)) (hc:qkh X.K c f) (hi:i∈own:=by decide) (hs:swapsWith e (some (.Attribute (.Name x p) f pos')) pos.line X.env=pure false:=by rfl) :
  PS X (.Assign [.Attribute (.Name x p) f pos'] e pos) (tDS X.K B oL own own (qdh i c f fe)):=(qiZ h he hs).imp fun D σ H ⟨G,ρ,o,S,eq,k⟩=>by
 unfold qdh at eq;cases ef:fe ρ with
 | none=>rw[ef] at eq;cases eq
 | some d=>
  rw[ef] at eq;cases el:kU c i ρ with
  | none=>simp[el] at eq
  | some q=>
   obtain⟨ks,ds⟩:=q;simp only[el,zA] at eq
   split at eq
   ·cases eq;rename_i hz;have hd:=lh el;refine⟨G,ρ,d,S.gh,S.envR,ef,fun v G' H' E r =>?_⟩
    have S':=S.ext E;obtain⟨a,C,dx,vs,e2,e3,n,l,e4,e5,e6⟩:=S'.ownI hi hd;obtain⟨vs',ez,lz,rz⟩:=qat (f:=f) r l e4;refine⟨_,e2,a,C,dx,_,rfl,e3,(hc C n).1,(hc C n).2,?_,?_⟩
    ·rw[qc6 (by rw[l,e4.length])];omega
    ·rw[ez];exact k _ G' _ (S'.mutC hi hd e2 ⟨C,dx,vs',rfl,n,lz,rz⟩)
   ·cases eq
noncomputable def ie (i:Nat) (c f:Str) (op:Int->Int->Int) (fe:DF):DG:=fun ρ=>(fe ρ).bind fun d=>(kU c i ρ).bind fun q=>match (q.1.zip q.2).lookup f,d with
 | some (.int a),.int b=>if q.1.length<999 then some (.nx (ρ.set i (some (.ins c (nq f (.int (op a b)) q.1 q.2).1 (nq f (.int (op a b)) q.1 q.2).2)))) else none
 | _,_=>none
noncomputable abbrev qlQ (op:Int->Int->Int):V->V->Hp->VK->Prop:=fun x y H Q=>∃ i j,x=.int i/\y=.int j/\Q (.int (op i j)) H
theorem mQ {i:Nat}{x c f:Str}{op:Int->Int->Int}{o:Operator}{fe:DF}(hop:qkg X o (qlQ op)) (h:PE X (.Name x p) (i4 i)) (he:PE X e (tP X.K own fe)) (hc:qkh X.K c f) (hi:i∈own:=by decide) :
  PS X (.AugAssign (.Attribute (.Name x p) f pos') o e pos) (tDS X.K B oL own own (ie i c f op fe)):=(qd8 h he hop).imp fun D σ H ⟨G,ρ,o,S,eq,k⟩=>by
 unfold ie at eq;cases ef:fe ρ with
 | none=>rw[ef] at eq;cases eq
 | some d=>
  rw[ef] at eq;cases el:kU c i ρ with
  | none=>simp[el] at eq
  | some q=>
   obtain⟨ks,ds⟩:=q;simp only[el,zA] at eq
   split at eq
   ·rename_i dv db ia ib hla
    split at eq
    ·cases eq;rename_i hz;have hd:=lh el;obtain⟨a,C,dx,vs,e2,e3,n,l,e4,e5,e6⟩:=S.ownI hi hd;obtain⟨u,eu,ru⟩:=qaQ e4 hla;cases bh.mp ru;refine⟨_,e2,a,C,dx,_,_,rfl,e3,(hc C n).1,(hc C n).2,eu,G,ρ,_,S.gh,S.envR,ef,fun v G' H' E r =>?_⟩
     cases bh.mp r;have S':=S.ext E;obtain⟨a',C',dx',vs',f2,f3,n',l',f4,f5,f6⟩:=S'.ownI hi hd;rw[e2] at f2;cases f2;rw[n] at n';cases n';obtain⟨vs2,ez,lz,rz⟩:=qat (f:=f) (d :=.int (op ia ib)) (bh.mpr rfl) l f4;refine⟨_,_,rfl,rfl,dx',_,f3,?_,?_⟩
     ·rw[qc6 (by rw[l,f4.length])];omega
     ·rw[ez];exact k _ G' _ (S'.mutC hi hd e2 ⟨C,dx',vs2,rfl,n,lz,rz⟩)
    ·cases eq
   ·cases eq
end
noncomputable def spC (K:Frag) (p:Nat) (F:List D->Option (D×D)):Sp:=fun vs H Q _=>∃ G ds d c' a o c,aZ G H/\ds[p]?=some c/\vs[p]?=some (.ref a)/\H a=some o/\jK K G c o/\G a=none /\
 (∀ (i:Nat) c,i≠p->ds[i]?=some c->∃ v,vs[i]?=some v/\Rep K G c v)/\ds.length=vs.length/\F ds=some (d,c') /\
 ∀ v o' G' H',Ext G (era H a) G' H'->G' a=none->H' a=some o'->jK K G' c' o'->Rep K G' d v->Q v H'
noncomputable def qlT (p:Nat):DO->Option (D×D)
 | .rm d ρ=>(eV p ρ).map fun c=>(d,c)
 | .nx ρ=>(eV p ρ).map fun c=>(.non,c)
 | _=>none
noncomputable def qg6 (n N p:Nat) (g:DG) (ds:List D):Option (D×D):=if ds.length=n then (g (bq N ds)).bind (qlT p) else none
theorem pC {fl:Str->Int->Prop}{K:Frag}{G H:Hp}{own:List Nat}{N:List Str}{p:Nat}{ds:List D}{c:D}{o:HO}{vs:List V}{a:Addr}(s:aZ G H) (hp:p∈own) (hd:ds[p]?=some c) (hv:vs[p]?=some (.ref a)) (ha:H a=some o) (r:jK K G c o) (ga:G a=none)
  (ro:∀ (i:Nat) c,i≠p->ds[i]?=some c->∃ v,vs[i]?=some v/\Rep K G c v) (hl:ds.length=vs.length) (ho:∀ i∈own,i=p∨ds.length<=i):SR K ⟨G,era H a,[(p,a)],fl⟩ own G H (fT N vs) (bq N.length ds):=by
 have getσ:∀ (i:Nat) v,vs[i]?=some v->(fT N vs)[i]?=some (some v):=fun i v e=>by have hi:i<vs.length:=(zC.mp e).1;unfold fT;rw[yC (by simpa using hi),zM,e];rfl
 have isp:∀ i∈own,(∃ d,(bq N.length ds)[i]?=some (some d))->i=p:=fun i hi ⟨d,e⟩=>by
  have:=(zC.mp (eO e)).1;rcases ho i hi with z|z
  ·exact z
  ·omega
 refine⟨s,aZ.refl _,qaU,fun b o e =>.inl e,fun i d hi e =>?_,fun i d hi e =>?_,fun i j b hi hj di dj _ _=>(isp i hi di).trans (isp j hj dj).symm,by simp[fT,bq,hl],fun i b h =>?_⟩
 ·obtain⟨v,ev,rv⟩:=ro i d (fun z=>hi (z ▸ hp)) (eO e)
  exact⟨v,getσ i v ev,rv⟩
 ·have z:=isp i hi ⟨d,e⟩;subst z;have e':=eO e;rw[hd] at e';cases e';exact⟨a,_,getσ _ _ hv,ha,r,ga,l4⟩
 ·have z:(i,b)=(p,a):=by simpa using h
  cases z;exact⟨hp,getσ _ _ hv⟩
noncomputable section
variable {P:Program}{w:World}{K:Frag}{mg:Str->Option Value}{base:Heap}
theorem Fun.okC {x qual:Str}{st:Stmt}{f:Addr}{fd:FuncData}{N ps:List Str}{k:Nat}(F:Fun K x qual st f fd) (S:aR N ps (am st)) (p:Nat) {own own':List Nat}{g:DG}(hp:p∈own) (hown:∀ i∈own,i=p∨ps.length<=i)
  (hb:∀ (cdv:Value) (A:Around) (outer:List Env) (s:Shared) (H:Hp) (E:XK),cJ k (A.deeper (envOfC qual (am st) s.heap.objs.size f cdv))->∀ (B:Bs) (a:Addr),B.3=[(p,a)] ->
   PSs (jy CX0 P w K mg base N qual (am st) f cdv A outer s H E).nox (cI st) (tDS K B [] own own' g)):bD P w K mg base CX0 (k+1) f fd ps (spC K p (qg6 ps.length N.length p g)):=by
 refine F.ok S (fun vs H Q E h =>?_) (fun cdv A outer s H vs Q E hr h =>?_)
 ·obtain⟨G,ds,d,c',a,o,c,gh,hd,hv,ha,r,ga,ro,hl,eq,_⟩:=h;unfold qg6 at eq
  split at eq
  ·rw[<- hl];assumption
  ·cases eq
 ·obtain⟨G,ds,d,c',a,o,c,gh,hd,hv,ha,r,ga,ro,hl,eq,q⟩:=h;unfold qg6 at eq
  split at eq
  ·rename_i hn;refine⟨_,hb cdv A outer s H E hr ⟨G,era H a,[(p,a)],fun _ _=>False⟩ a rfl,?_⟩
   cases eg:g (bq N.length ds) with
   | none=>rw[eg] at eq;cases eq
   | some oo=>
    rw[eg] at eq;have fin:∀ {σ:St}{ρ:aA}{G' H':Hp}{o':List Nat}{y:D},SR K ⟨G,era H a,[(p,a)],fun _ _=>False⟩ o' G' H' σ ρ->eV p ρ=some y->∃ ob,H' a=some ob/\jK K G' y ob/\G' a=none:=fun {σ ρ G' H' o' y} S' el=>by
     obtain⟨hp',hσ⟩:=S'.pin p a (by simp)
     obtain⟨b,ob,f2,f3,f4,f5,_⟩:=S'.ownd p _ hp' (iD el);rw[hσ] at f2;cases f2;exact⟨ob,f3,f4,f5⟩
    refine⟨G,_,oo,pC gh hp hd hv ha r ga ro hl (by rw[hn];exact hown),eg,?_⟩
    cases oo with
    | rm d' ρ=>
     have eq:Option.map (fun c=>(d',c)) (eV p ρ)=some (d,c'):=eq
     cases el:eV p ρ with
     | none=>rw[el] at eq;cases eq
     | some y=>rw[el] at eq;cases eq;intro v σ G' H' ⟨o',S'⟩ rv;obtain⟨ob,f3,f4,f5⟩:=fin S' el;exact q v ob G' H' S'.toExt f5 f3 f4 rv
    | nx ρ=>
     have eq:Option.map (fun c=>(D.non,c)) (eV p ρ)=some (d,c'):=eq
     cases el:eV p ρ with
     | none=>rw[el] at eq;cases eq
     | some y=>rw[el] at eq;cases eq;intro σ G' H' S';obtain⟨ob,f3,f4,f5⟩:=fin S' el;exact q _ ob G' H' S'.toExt f5 f3 f4 (dr.mpr rfl)
    | rt d'=>cases eq
    | ro d'=>cases eq
    | bk ρ=>cases eq
    | ct ρ=>cases eq
    | ex c n=>cases eq
  ·cases eq
structure kO (P:Program) (w:World) (K:Frag) (mg:Str->Option Value) (base:Heap) (c m:Str) (k:Nat) (sp:Sp):Prop where
 ex:∃ C f fd ps,nsIn K mainGlobals c=some (some (.ref C))/\Cls K C/\qeA K C m f/\bD P w K mg base CX0 k f fd ps sp/\gb K fd ps []
theorem kO.mono {c m:Str}{j k:Nat}{sp:Sp}(h:kO P w K mg base c m j sp) (hk:j<=k):kO P w K mg base c m k sp:=by
 obtain⟨C,f,fd,ps,h1,h2,h3,h4,h5⟩:=h.ex;exact⟨C,f,fd,ps,h1,h2,h3,h4.mono hk,h5⟩
structure qlr (P:Program) (w:World) (K:Frag) (mg:Str->Option Value) (base:Heap) (c:Str) (k:Nat) (sp:Sp):Prop where
 ex:∃ C f fd ps,nsIn K mainGlobals c=some (some (.ref C))/\mg c=some (.ref C)/\Mk K C f/\bD P w K mg base CX0 k f fd ps sp/\gb K fd ps []
end
noncomputable section
variable {X:Cx}{B:Bs}{own:List Nat}{e o:Expr}{es:List Expr}{pos p apos:Pos}{pl:Sem Bool}
noncomputable def cQ (c m:Str) (F:List D->Option D) (fo:DF) (g:DL):DF:=fun ρ=>(fo ρ).bind fun x=>match x with
 | .ins c' ks ds=>if c'=c/\m∉ks then (g ρ).bind fun xs=>(F (.ins c' ks ds::xs)).bind fun d=>if kQ d=true then some d else none else none
 | _=>none
theorem qfL {c m:Str}{F:List D->Option D}{fo:DF}{g:DL}{C:Addr}{σ:St}{H:Hp}{Q:VK}{t:TA}(n:nsIn X.K mainGlobals c=some (some (.ref C))) (ht:∀ σ H Q,tQA X.K own g σ H Q->t σ H Q)
  (h:tP X.K own (cQ c m F fo g) σ H Q):qdb C m (spF X.K F) [] E0 (tQ X.K own fo) t σ H Q:=by
 obtain⟨G,ρ,d,gh,env,eq,q⟩:=h;unfold cQ at eq;cases ef:fo ρ with
 | none=>rw[ef] at eq;cases eq
 | some x=>
  rw[ef] at eq;cases x<;>simp only[zA] at eq<;>try (cases eq;done)
  rename_i c' ks ds
  split at eq
  ·rename_i hc;obtain⟨rfl,hm⟩:=hc;cases eg:g ρ with
   | none=>simp[eg] at eq
   | some xs=>
    cases eF:F (.ins c' ks ds::xs) with
    | none=>simp[eg,eF] at eq
    | some d'=>
     simp only[eg,eF,zA] at eq
     split at eq
     ·cases eq;rename_i hd;refine⟨G,ρ,_,gh,env,ef,fun v G1 H1 E1 r1 =>?_⟩
      obtain⟨a,C',dx,vs,rfl,ha,n',l,rs⟩:=r1.insH E1.gh;rw[n] at n';cases n';refine⟨a,dx,_,rfl,ha,mJ (K:=X.K) (G:=G1) hm,ht _ _ _ ⟨G1,ρ,xs,E1.gh,env.ext E1,eg,fun us G2 H2 E2 r2 =>?_⟩⟩
      show spF X.K F (.ref a::(us++[])) H2 Q E0;rw[List.append_nil];have ra:nj X.K G2 H2 (.ins c' ks ds::xs) (.ref a::us) :=.cons (r1.ext E2) r2;exact⟨H2,_,d,aZ.refl _,ra.all E2.gh,eF,fun v G3 H3 E3 r3=>q v G2 H3 ((E1.trans E2).trans ⟨E3.hh,aZ.refl _,E2.gh.trans E3.hh,fun b o z =>.inl z⟩) (qe7 hd r3)⟩
     ·cases eq
  ·cases eq
theorem ci {c m:Str}{k:Nat}{F:List D->Option D}{fo:DF}(h:kO X.prog X.w X.K X.mg X.base c m k (spF X.K F)) (hr:cJ k X.A) (ho:PE X o (tQ X.K own fo))
  (ht:eval (.Call (.Attribute o m apos) [] [] pos) X.env=(do
   let ov <- eval o X.env
   standAt apos.atName
   let (f,first) <- holding [ov] (getMethod ov m pl)
   callWith pos f first (backTo pos (starEach [] X.env)) (backToKw pos (keywordEach [] X.env))):=by rfl):PE X (.Call (.Attribute o m apos) [] [] pos) (tP X.K own (cQ c m F fo aN)):=by
 obtain⟨C,f,fd,ps,n,hc,hm,h1,hb⟩:=h.ex;exact(qbx (pl:=pl) ho hc hm h1 hr hb .nil oq ht).imp fun σ H Q q=>qfL n (fun σ H Q ⟨G,ρ,ds,gh,env,eq,k⟩=>by cases eq;exact k _ G H (.refl gh) .nil) q
noncomputable def tFC (K:Frag) (own:List Nat) (f:DF):TE:=fun σ H Q=>∃ G ρ d,aZ G H/\i3 K own G H σ ρ/\f ρ=some d/\∀ p o G' H',Ext G H G' H'->H p=none->G' p=none->H' p=some o->jK K G' d o->Q (.ref p) H'
noncomputable def qbQ (c:Str) (F:List D->Option (D×D)) (g:DL):DF:=fun ρ=>(g ρ).bind fun xs=>(F (.ins c [] []::xs)).bind fun r=>match r.1 with|.non=>some r.2|_=>none
theorem qic {c:Str}{k:Nat}{F:List D->Option (D×D)}{g:DL}(h:qlr X.prog X.w X.K X.mg X.base c k (spC X.K 0 F)) (hr:cJ (k+1) X.A) (hg:Gl X c) (ha:PA X (e::es) (tPA X.K own g)) (hdb:(c==("__debug__" : Str))=false:=by decide)
  (he:starEach (e::es) X.env=(false,eval e X.env)::starEach es X.env:=by rfl) (hpl:(backTo pos (starEach es X.env)).any (·.1)=false:=by rfl):PE X (.Call (.Name c p) (e::es) [] pos) (tFC X.K own (qbQ c F g)):=by
 obtain⟨C,f,fd,ps,n,hm,hk,h1,hb⟩:=h.ex;refine(qhm hk h1 hr hg hm hb .nil oq ha hdb he hpl).imp fun σ H Q ⟨G,ρ,d,gh,env,eq,q⟩ =>?_
 unfold qbQ at eq;cases eg:g ρ with
 | none=>rw[eg] at eq;cases eq
 | some xs=>
  simp only[eg,zA] at eq;cases eF:F (.ins c [] []::xs) with
  | none=>rw[eF] at eq;cases eq
  | some r=>
   obtain⟨d',c'⟩:=r;rw[eF] at eq;cases d'<;>simp only[zA] at eq<;>try (cases eq;done)
   cases eq;refine⟨G,ρ,xs,gh,env,eg,fun us G1 H1 E1 r1 x dx nx ndx ne =>?_⟩
   show spC X.K 0 F (.ref x::(us++[])) _ _ E0;rw[List.append_nil];have g1x:G1 x=none:=E1.gh.free nx;have s2:aZ G1 (upd (upd H1 dx (.own x)) x (.ins C dx [])):=E1.gh.trans ((aZ.alloc ndx).trans (.alloc (by rw[aJ (Ne.symm ne)];exact nx)))
   refine⟨G1,.ins c [] []::xs,.non,_,x,_,.ins c [] [],s2,rfl,rfl,aB,⟨C,dx,[],rfl,n,rfl,.nil⟩,g1x,fun i y hi ec =>?_,by simp[r1.length],eF,fun v o' G2 H2 E2 g2 h2 r2 r3=>⟨dr.mp r3,?_⟩⟩
   ·cases i with
    | zero=>exact absurd rfl hi
    | succ i=>exact r1.get (i:=i) (by simpa using ec)
   ·refine q x o' G2 H2 (E1.trans ⟨fun b o e=>E2.hh b o ?_,E2.gg,E2.gh,fun b o e =>?_⟩) (E1.hh.free nx) g2 h2 r2
    ·have hb:b≠x:=ba e nx;rw[lq hb,aJ hb,aJ (ba e ndx)];exact e
    ·rcases E2.fr b o e with z|z
     ·exact .inl z
     ·refine .inr ?_;by_cases hb:b=x
      ·subst hb;exact nx
      ·by_cases hb2:b=dx
       ·subst hb2;exact ndx
       ·rw[lq hb,aJ hb,aJ hb2] at z;exact z
theorem qh4 {oL:List Nat}{i:Nat}{x:Str}{f:DF}{pos':Pos}(hN:X.N.Nodup) (hi:X.N[i]?=some x) (hx:Loc X.env.scope x) (he:PE X e (tFC X.K own f)) (ho:i∈own:=by decide) (hpin:∀ a,(i,a)∉B.3:=by intro a;simp_all)
  (hs:swapsWith e (some (.Name x pos')) pos.line X.env=pure false:=by rfl) (hf:X.fn x=true∨X.env.scope.names.lookup x=some .local:=by first|exact .inl rfl|exact .inr rfl|assumption) :
  PS X (.Assign [.Name x pos'] e pos) (tDS X.K B oL own own (aF i f)):=(iM hN hi hx he hs hf).imp fun D σ H ⟨G,ρ,o,S,eq,k⟩=>by
 unfold aF at eq;cases ef:f ρ with
 | none=>rw[ef] at eq;cases eq
 | some d=>rw[ef] at eq;cases eq;exact⟨G,ρ,d,S.gh,S.envR,ef,fun p ob G' H' E hp gp hv r=>k _ G' H' (S.setC ho E hp gp hv r hpin)⟩
end
end L2
end
noncomputable section
namespace L2
open PySem PySem.Spec PyProof.Rows
noncomputable section
variable {X:Cx}{own:List Nat}{a b c e:Expr}{pos p:Pos}{fa fb fc f:DF}
noncomputable def iw (o o':D->D->Option D) (fa fb fc:DF):DT:=fun ρ=>(fa ρ).bind fun x=>(fb ρ).bind fun y=>(o x y).bind fun z=>match z with
 | .bl true=>(fc ρ).bind fun w=>(o' y w).bind fun d=>match d with|.bl k=>some k|_=>none
 | .bl false=>some false
 | _=>none
theorem qbR {op op':CmpOp}{o o':D->D->Option D}(ho:OpD X (compareOp op) o) (ho':OpD X (compareOp op') o') (ha:PE X a (tQ X.K own fa)) (hb:PE X b (tQ X.K own fb)) (hc:PE X c (tQ X.K own fc))
  (hm:lastMarks [op,op'] [b,c]=false:=by with_unfolding_all rfl):PT X (.Compare a [op,op'] [b,c] pos) (tPT X.K own (iw o o' fa fb fc)):=
 (qfi ho ho' ha hb hc hm).imp fun σ H Q ⟨G,ρ,k,gh,env,eq,q⟩=>by
  unfold iw at eq;cases ea:fa ρ with
  | none=>rw[ea] at eq;cases eq
  | some x=>
   cases eb:fb ρ with
   | none=>simp[ea,eb] at eq
   | some y=>
    simp only[ea,eb,zA] at eq;cases eo:o x y with
    | none=>rw[eo] at eq;cases eq
    | some z=>
     rw[eo] at eq;cases z<;>simp only[zA] at eq<;>try (cases eq;done)
     rename_i zb;refine⟨G,ρ,x,gh,env,ea,fun v G1 H1 E1 r1=>⟨G1,ρ,y,E1.gh,env.ext E1,eb,fun u G2 H2 E2 r2=>⟨G2,x,y,.bl zb,E2.gh,r1.ext E2,r2,eo,fun w G3 H3 E3 r3=>⟨zb,bz.mp r3,?_⟩⟩⟩⟩
     have E13:=(E1.trans E2).trans E3;cases zb with
     | false=>cases eq;exact jr ⟨false,rfl,q G3 H3 E13⟩
     | true=>
      cases ec:fc ρ with
      | none=>simp[ec] at eq
      | some w2=>
       simp only[ec,zA] at eq;cases eo':o' y w2 with
       | none=>rw[eo'] at eq;cases eq
       | some d2=>
        rw[eo'] at eq;cases d2<;>simp only[zA] at eq<;>try (cases eq;done)
        cases eq;exact pi ⟨G3,ρ,w2,E3.gh,env.ext E13,ec,fun v4 G4 H4 E4 r4=>⟨G4,y,w2,_,E4.gh,(r2.ext E3).ext E4,r4,eo',fun v5 G5 H5 E5 r5=>⟨_,bz.mp r5,q G5 H5 ((E13.trans E4).trans E5)⟩⟩⟩
theorem qeb:OpR X (compareOp .LtE) (fun x y H Q=>∃ i j,x=.str i/\y=.str j/\Q (.bl (!decide (j.cps.toList<i.cps.toList))) H):=by
 intro pins s σ H x y v u Q I rx ry h;obtain⟨i,j,rfl,rfl,q⟩:=h;obtain⟨t,rfl⟩:=rx;obtain⟨t',rfl⟩:=ry;exact PySem.P.le_str (qaR I q rfl)
noncomputable def kK:D->D->Option D
 | .str x,.str y=>some (.bl (!decide (y.cps.toList<x.cps.toList)))
 | _,_=>none
theorem qay:OpD X (compareOp .LtE) kK:=OpR.imp qeb fun x y H Q ⟨G,d1,d2,d,gh,h1,h2,eq,q⟩=>by
 cases d1<;>cases d2<;>simp only[kK] at eq<;>try (cases eq;done)
 cases eq;exact⟨_,_,h1.str,h2.str,q _ G H (.refl gh) (bz.mpr rfl)⟩
noncomputable def qee:List D->Option D
 | [.str x]=>if x.length=1 then some (.int (x.cps.getD 0 0:Nat)) else none
 | _=>none
theorem qjZ:f9 X (.builtin "ord") (rC X.K qee):=by
 intro pins s σ H xs us Q I rv ⟨G,ds,d,gh,r,eq,q⟩;unfold qee at eq
 split at eq
 ·split at eq
  ·cases eq;rename_i hz;obtain⟨v,rfl,r1⟩:=r.one;refine qgp pins s σ H _ us Q I rv ⟨_,by rw[r1.str],hz,q _ G H (.refl gh) (bh.mpr rfl)⟩
  ·cases eq
 ·cases eq
theorem qjV (hg:Gl X "ord") (hm:X.mg "ord" = none) (h:PE X e (tQ X.K own f)) (hs:starEach (e::[]) X.env=(false,eval e X.env)::starEach [] X.env:=by rfl):PE X (.Call (.Name "ord" p) [e] [] pos) (tP X.K own (al qee (aC f aN))):=
 qbX qjZ hg hm PyProof.Rows.boot_ord (oQ h qaX hs) (by decide) (by decide) hs rfl
theorem qgo {x:Str}{i:Int}{t:Tok}(hg:Gl X x) (hm:X.mg x=some (.int i t)) (hd:(x==("__debug__" : Str))=false:=by decide):PE X (.Name x pos) (tP X.K own (eK (.int i))):=
 (iz (v :=.int i) hg hm ⟨t,rfl⟩ hd).imp fun σ H Q ⟨G,ρ,d,gh,env,eq,k⟩=>by cases eq;exact k _ G H (.refl gh) (bh.mpr rfl)
end
noncomputable def qce (tab:List (Str×Str)):List (Key×V):=tab.map fun q=>(Sum.inr q.1,V.str q.2)
theorem qad (k:Str):∀ tab:List (Str×Str),jH (qce tab) (Sum.inr k)=(tab.lookup k).map V.str
 | []=>rfl
 | (x,y)::r=>by
  rw[List.lookup_cons];by_cases h:x=k
  ·subst h;rw[show qce ((x,y)::r)=(Sum.inr x,V.str y)::qce r from rfl,jL rfl];simp
  ·rw[show qce ((x,y)::r)=(Sum.inr x,V.str y)::qce r from rfl,hU (fun z=>h (Sum.inr.inj z)),qad k r,beq_eq_false_iff_ne.mpr (Ne.symm h)]
structure Tab (P:Program) (w:World) (K:Frag) (A:Addr) (tab:List (Str×Str)):Prop where
 sys:(A==sysModules)=false
 at_:∃ o es ep vs,K.lookup A=some o/\o.ExactDict/\o.data=.dict es ep/\KeysOf (bW P w) es/\Pairs (bW P w) es.toList vs/\(vs.map (·.1)).Nodup/\KV (qce tab) vs
structure pp (P:Program) (w:World) (K:Frag) (mg:Str->Option Value) (x:Str) (tab:List (Str×Str)):Prop where
 ex:∃ A,mg x=some (.ref A)/\Tab P w K A tab
noncomputable section
variable {X:Cx}{own:List Nat}{a b c e i:Expr}{pos p:Pos}{fa fb fc f:DF}{x:Str}{tab:List (Str×Str)}
theorem Tab.dict {A:Addr}{pins:List (Addr×Obj)}{σ:St}{H:Hp}{s:Shared}(T:Tab X.prog X.w X.K A tab) (I:Inv X pins σ H s):∃ vs,s.heap.DictOf (bW X.prog X.w) A vs/\KV (qce tab) vs:=by
 obtain⟨o,es,ep,vs,h1,h2,h3,h4,h5,h6,h7⟩:=T.at_;exact⟨vs,⟨o,es,ep,I.kIn A o h1,h2,h3,h4,h5,h6⟩,h7⟩
theorem qfn {ty:TE}(T:pp X.prog X.w X.K X.mg x tab) (hg:Gl X x) (hi:PE X i ty) (hd:(x==("__debug__" : Str))=false:=by decide) (hs:qil i:=by exact fun _ _=>rfl) :
  PE X (.Subscript (.Name x p) i pos) (fun σ H Q=>ty σ H fun y H1=>∃ k v,y=.str k/\tab.lookup k=some v/\Q (.str v) H1):=by
 obtain⟨A,hm,T⟩:=T.ex;intro pins s σ H Q I h;refine qgU PySem.F.slot_dict_getitem.lookup hs (thn (iz (v :=.ref A) hg hm rfl hd pins s σ H (fun y H1=>y=.ref A/\ty σ H1 fun y H1=>∃ k v,y=.str k/\tab.lookup k=some v/\Q (.str v) H1) I ⟨rfl,h⟩) fun u s1 ⟨x,H1,I1,rx,ex,q1⟩=>thn (hi pins s1 σ H1 _ I1 q1) fun iv s2 ⟨y,H2,I2,ry,k,v,ey,el,q2⟩ =>?_)
 subst ex;subst ey;obtain rfl:u=Value.ref A:=rx;obtain⟨vs,dd,rel⟩:=T.dict I2;obtain⟨w',hw,rw'⟩:=jf.some_of (v:=V.str v) (o:=valueAt vs (Sum.inr k)) (by have:=rel.val (Sum.inr k);rw[qad,el] at this;exact this)
 exact⟨dd.typeIs,wpAny_getItem_of (m9 (k:=Sum.inr k) ry) dd.mapOf hw ⟨.str v,H2,I2.tok _,rw',q2⟩⟩
noncomputable def pf (tab:List (Str×Str)):D->Option D
 | .str k=>(tab.lookup k).map D.str
 | _=>none
theorem qjT (T:pp X.prog X.w X.K X.mg x tab) (hg:Gl X x) (hi:PE X i (tQ X.K own f)) (hd:(x==("__debug__" : Str))=false:=by decide) (hs:qil i:=by exact fun _ _=>rfl) :
  PE X (.Subscript (.Name x p) i pos) (tP X.K own (e1 (pf tab) f)):=(qfn T hg hi hd hs).imp fun σ H Q ⟨G,ρ,d,gh,env,eq,q⟩=>by
 obtain⟨y,ey,eo⟩:=qaV eq;cases y<;>simp only[pf] at eo<;>try (cases eo;done)
 rename_i k;cases el:tab.lookup k with
 | none=>rw[el] at eo;cases eo
 | some v=>rw[el] at eo;cases eo;exact⟨G,ρ,_,gh,env,ey,fun u G1 H1 E1 r1=>⟨k,v,r1.str,el,q _ G1 H1 E1 (bG.mpr rfl)⟩⟩
noncomputable def m1 (o:D->Option D) (a:DM):DM:=fun ρ=>(a ρ).bind fun q=>(o q.1).map fun d=>(d,q.2)
noncomputable def qaz (neg:Bool) (tab:List (Str×Str)):D->Option D
 | .str k=>some (.bl (if neg then !(tab.lookup k).isSome else (tab.lookup k).isSome))
 | _=>none
theorem qfq {ty:TE}(neg:Bool) (T:pp X.prog X.w X.K X.mg x tab) (hg:Gl X x) (hi:PE X i ty) (hd:(x==("__debug__" : Str))=false:=by decide) :
  PC X (if neg then .NotIn else .In) i (.Name x p) (fun σ H Q=>ty σ H fun y H1=>∃ k,y=.str k/\Q (.bl (if neg then !(tab.lookup k).isSome else (tab.lookup k).isSome)) H1):=by
 obtain⟨A,hm,T⟩:=T.ex;intro pins s σ H Q I h;refine thn (hi pins s σ H _ I h) fun iv s1 ⟨y,H1,I1,ry,k,ey,q1⟩=>thn (iz (v :=.ref A) hg hm rfl hd pins s1 σ H1 (fun y H2=>y=.ref A/\H2=H1) I1 ⟨rfl,rfl⟩) fun u s2 ⟨x,H2,I2,rx,ex,eH⟩ =>?_
 subst ex;subst ey;subst eH;obtain rfl:u=Value.ref A:=rx;obtain⟨vs,dd,rel⟩:=T.dict I2;have e:(valueAt vs (Sum.inr k)).isSome=(tab.lookup k).isSome:=by rw[<- (rel.val (Sum.inr k)).isSome_eq,qad,Option.isSome_map]
 cases neg with
 | false=>refine wpAny_in_of (m9 (k:=Sum.inr k) ry) T.sys dd.mapOf ?_;rw[e];exact⟨.bl _,H2,I2.tok _,rfl,q1⟩
 | true=>refine wpAny_notIn_of (m9 (k:=Sum.inr k) ry) T.sys dd.mapOf ?_;rw[e];exact⟨.bl _,H2,I2.tok _,rfl,q1⟩
theorem qjP (T:pp X.prog X.w X.K X.mg x tab) (hg:Gl X x) (hi:PE X i (tQ X.K own f)) (hd:(x==("__debug__" : Str))=false:=by decide):PT X (.Compare i [.In] [.Name x p] pos) (tPT X.K own (tB1 (e1 (qaz false tab) f))):=
 (qfh (qfq (p:=p) false T hg hi hd) rfl).imp fun σ H Q ⟨G,ρ,d,gh,env,eq,q⟩=>by
  obtain⟨y,ey,eo⟩:=qaV (jO eq);cases y<;>simp only[qaz] at eo<;>try (cases eo;done)
  cases eo;exact⟨G,ρ,_,gh,env,ey,fun u G1 H1 E1 r1=>⟨_,r1.str,_,rfl,q G1 H1 E1⟩⟩
theorem qeq (T:pp X.prog X.w X.K X.mg x tab) (hg:Gl X x) (hi:PE X i (tQ X.K own f)) (hd:(x==("__debug__" : Str))=false:=by decide):PT X (.Compare i [.NotIn] [.Name x p] pos) (tPT X.K own (tB1 (e1 (qaz true tab) f))):=
 (qfh (qfq (p:=p) true T hg hi hd) rfl).imp fun σ H Q ⟨G,ρ,d,gh,env,eq,q⟩=>by
  obtain⟨y,ey,eo⟩:=qaV (jO eq);cases y<;>simp only[qaz] at eo<;>try (cases eo;done)
  cases eo;exact⟨G,ρ,_,gh,env,ey,fun u G1 H1 E1 r1=>⟨_,r1.str,_,rfl,q G1 H1 E1⟩⟩
end
noncomputable def PEk (X:Cx) (e:Expr) (t:TE):Prop:=∀ (pins:List (Addr×Obj)) (s:Shared) (σ:St) (H:Hp) (Q:VK),Inv X pins σ H s->t σ H Q->wpAny (model X.prog X.w) X.A (eval e X.env) (fun u s'=>EP X pins σ Q u s'/\0<s'.toks) X.xe s
noncomputable section
variable {X:Cx}{own:List Nat}{a o e:Expr}{pos p:Pos}{ta to:TE}{f fa:DF}
theorem PEk.pe {t:TE}(h:PEk X e t):PE X e t:=fun pins s σ H Q I q=>thn (h pins s σ H Q I q) fun u s' z=>z.1
end
end L2
end
noncomputable section
namespace L2
open PySem PySem.Spec PyProof.Rows
noncomputable section
variable {X:Cx}{own:List Nat}{o e f:Expr}{pos p:Pos}
theorem qib {k1 k2 v1 v2:Str}{j1 j2 j3 j4:Nat}{p1 p2 p3 p4:Pos}(hk:k1≠k2:=by decide) :
  PE X (.Dict [some (.Constant (.str k1) j1 p1),some (.Constant (.str k2) j2 p2)] [.Constant (.str v1) j3 p3,.Constant (.str v2) j4 p4] pos) (tP X.K own (eK (.dic [Sum.inr k1,Sum.inr k2] [.str v1,.str v2]))):=
 (qhn (qbw mD mD (qbw mD mD qhg)) rfl rfl (by simp) (by simp)).imp fun σ H Q ⟨G,ρ,d,gh,env,eq,k⟩=>by
  cases eq;intro q hq;refine⟨aB,[(Sum.inr k1,.str v1),(Sum.inr k2,.str v2)],rfl,by simp,?_⟩
  have e:mF [] [((Sum.inr k1:Key),V.str v1),(Sum.inr k2,V.str v2)]=[(Sum.inr k1,.str v1),(Sum.inr k2,.str v2)]:=by
   show la (la [] (Sum.inr k1) (V.str v1)) (Sum.inr k2) (V.str v2)=_;rw[qbu (kvs:=[]) _ rfl,qbu _ (by rw[List.nil_append,hU (fun z=>hk (Sum.inr.inj z))];rfl)]
   rfl
  rw[e,qc8];exact k _ _ _ (Ext.alloc (p:=q) (o :=.dK [(Sum.inr k1,.str v1),(Sum.inr k2,.str v2)]) gh hq) (nH.mpr ⟨q,[.str v1,.str v2],rfl,aB,rfl,.cons (bG.mpr rfl) (.cons (bG.mpr rfl) .nil)⟩)
noncomputable def ip (ks:List Key) (ds:List D) (k:Key):Option D:=((ks.zip ds).find? fun kv=>decide (kv.1=k)).map (·.2)
theorem oV {K:Frag}{G:Hp}{k:Key}:∀ {ks:List Key}{ds:List D}{vs:List V}{d:D},aI K G ds vs->ip ks ds k=some d->∃ v,jH (ks.zip vs) k=some v/\Rep K G d v
 | [],ds,vs,d,r,h=>by simp[ip] at h
 | x::ks,[],vs,d,r,h=>by simp[ip] at h
 | x::ks,y::ds,vs,d,r,h=>by
  obtain⟨v,t,rfl,rv,rt⟩:=be.mp r;by_cases hk:x=k
  ·subst hk;have:y=d:=by simpa [ip] using h
   subst this;exact⟨v,jL rfl,rv⟩
  ·have h':ip ks ds k=some d:=by simpa [ip,hk] using h
   obtain⟨u,e,ru⟩:=oV rt h';exact⟨u,by rw[List.zip_cons_cons,hU hk];exact e,ru⟩
theorem oW {K:Frag}{G:Hp}{k:Key}:∀ {ks:List Key}{ds:List D}{vs:List V},aI K G ds vs->ip ks ds k=none->jH (ks.zip vs) k=none
 | [],ds,vs,r,h=>by simp[jH]
 | x::ks,[],vs,r,h=>by rw[c6.mp r];simp[jH]
 | x::ks,y::ds,vs,r,h=>by
  obtain⟨v,t,rfl,rv,rt⟩:=be.mp r;by_cases hk:x=k
  ·subst hk;simp[ip] at h
  ·have h':ip ks ds k=none:=by simpa [ip,hk] using h
   rw[List.zip_cons_cons,hU hk];exact oW rt h'
noncomputable def qhU:D->Option Key
 | .int i=>some (Sum.inl i)
 | .str x=>some (Sum.inr x)
 | _=>none
theorem qf0 {K:Frag}{G H:Hp}{d:D}{k:Key}{v:V}(h:qhU d=some k) (r:eN K G H d v):v=kV k:=by
 cases d<;>simp only[qhU] at h<;>try (cases h;done)
 ·cases h;exact r.int
 ·cases h;exact r.str
noncomputable def oO (fo fk fx:DF):DF:=fun ρ=>(fo ρ).bind fun d=>(fk ρ).bind fun k=>(fx ρ).bind fun x=>match d with|.dic ks ds=>(qhU k).map fun k=>(ip ks ds k).getD x|_=>none
theorem qia {fo fk fx:DF}{apos cpos:Pos}(hu:X.A.units+1<cLine) (ho:PE X o (tQ X.K own fo)) (he:PE X e (tQ X.K own fk)) (hf:PE X f (tP X.K own fx)) (m:M2 X o "get" apos e f cpos):PE X (.Call (.Attribute o "get" apos) [e,f] [] cpos) (tP X.K own (oO fo fk fx)):=
 (qfp hu ho he hf m).imp fun σ H Q ⟨G,ρ,d,gh,env,eq,q⟩=>by
  unfold oO at eq;cases e1':fo ρ with
  | none=>rw[e1'] at eq;cases eq
  | some dd=>
   cases e2':fk ρ with
   | none=>simp[e1',e2'] at eq
   | some kk=>
    cases e3':fx ρ with
    | none=>simp[e1',e2',e3'] at eq
    | some xx=>
     simp only[e1',e2',e3',zA] at eq;cases dd<;>simp only at eq<;>try (cases eq;done)
     rename_i ks ds;cases ek:qhU kk with
     | none=>rw[ek] at eq;cases eq
     | some k=>
      rw[ek] at eq;refine⟨G,ρ,_,gh,env,e1',fun v G1 H1 E1 r1 =>?_⟩
      obtain⟨a,vs,rfl,ha,l,rs⟩:=r1.dicH E1.gh;refine⟨a,rfl,.inl ⟨_,.of ha⟩,G1,ρ,kk,E1.gh,env.ext E1,e2',fun u G2 H2 E2 r2=>⟨G2,ρ,xx,E2.gh,(env.ext E1).ext E2,e3',fun z G3 H3 E3 r3 =>?_⟩⟩
      have hk:u=kV k:=qf0 ek r2;have ha3:=E3.hh _ _ (E2.hh _ _ ha);have rs3:=aI.mono (E2.gg.trans E3.gg) ds rs;refine⟨_,by rw[hk];exact qc5.k ha3,?_⟩
      have E:=(E1.trans E2).trans E3;have eq:some ((ip ks ds k).getD xx)=some d:=eq;cases el:ip ks ds k with
      | none=>rw[el] at eq;cases eq;rw[oW rs3 el];exact q _ G3 H3 E r3
      | some dv=>rw[el] at eq;cases eq;obtain⟨w,ew,rw'⟩:=oV rs3 el;rw[ew];exact q _ G3 H3 E rw'
end
end L2
end
noncomputable section
namespace L2
open PySem PySem.Spec PyProof.Rows
noncomputable def XIn (H:Hp) (a C dx:Addr):Prop:=(∃ t,H a=some (bZ a (xAt C t dx)))∨∃ T oe oT,XT H a C dx T oe oT
noncomputable def CX2 (P:Program) (w:World):CXT:=fun outer H s E e s'=>∃ a C dx T oe oT H',e=.ref a/\s'.os=s.os/\AllBare s'.gens/\Un (frs outer) [] H H' s.heap s'.heap/\HOk P w H' s'.heap/\XT H' a C dx T oe oT/\E (.ref a) (some dx) H'
noncomputable section
variable {P:Program}{w:World}{K:Frag}{mg:Str->Option Value}{base:Heap}{N:List Str}{qual:Str}{scope:Scope}{f:Addr}{cd:Value}{A:Around}{outer:List Env}{s₀ s:Shared}{H₀ H:Hp}{E:XK}{pins:List (Addr×Obj)}{σ:St}{a C dx:Addr}
theorem qfT (I:Inv (jy (CX2 P w) P w K mg base N qual scope f cd A outer s₀ H₀ E) pins σ H s) (x:XIn H a C dx)
  (hE:∀ H' oe,(∀ b o,b≠a->H b=some o->H' b=some o)->H' a=some (bZ a oe)->oe.cls=.ref C->E (.ref a) (some dx) H'):(jy (CX2 P w) P w K mg base N qual scope f cd A outer s₀ H₀ E).xe (.ref a) s:=by
 rcases x with ⟨t,ea⟩|⟨T,oe,oT,x⟩
 ·have hx:=bZ.get I.hok ea;refine qbd (M:=model P w) (base:=base) I.ok.frames I.stack rfl hx rfl rfl rfl fun h' T lx ext eT =>?_
  obtain⟨oe',vs',oT',ts',g1,g2,g3,g4,g5,g6,g7,g8,g9,g10⟩:=ext;obtain⟨un,hok⟩:=qdy I.hok I.stkFree ea lx g1 g8 eT;have hTf:H T=none:=I.hok.fresh (Nat.le_of_eq eT.symm);have J:=I.call' (s':={ s with heap:=h' }) (ch:=[]) rfl un hok I.bare (fun b z=>absurd z (by simp))
  refine⟨a,C,dx,T,oe',oT',_,rfl,J.os,J.bare,J.base,J.hok,⟨aB,g2,g3,⟨vs',g4,g6,_,g5⟩,g7,by rw[aJ g7,aB],⟨ts',g9,g10⟩⟩,hE _ oe' (fun b o hb e =>?_) aB g2⟩
  rw[aJ hb,aJ (ba e hTf)];exact e
 ·exact zE (qdz (X:=jy (CX2 P w) P w K mg base N qual scope f cd A outer s₀ H₀ E) rfl rfl I x fun s' H' T' oe' oT' J x' same=>⟨a,C,dx,T',oe',oT',H',rfl,J.os,J.bare,J.base,J.hok,x',hE H' oe' same x'.ea x'.cls⟩)
end
noncomputable section
variable {X:Cx}{pins:List (Addr×Obj)}{σ:St}{H:Hp}{s:Shared}
theorem Inv.caught2 {E':XK}{e:Value}{s':Shared}(I:Inv X pins σ H s) (c:CX2 X.prog X.w X.stack H s E' e s'):∃ a C dx T oe oT H',e=.ref a/\Inv X pins σ H' s'/\XT H' a C dx T oe oT/\E' (.ref a) (some dx) H':=by
 obtain⟨a,C,dx,T,oe,oT,H',rfl,os,bare,un,hok,x,q⟩:=c;exact⟨a,C,dx,T,oe,oT,H',rfl,I.call' os un hok bare (fun b z=>absurd z (by simp)),x,q⟩
end
structure XF (K:Frag) (hb:Hp) (c:Str) (n:Int) (H:Hp) (a dx:Addr):Prop where
 cl:∃ C oe,nsIn K mainGlobals c=some (some (.ref C))/\H a=some (bZ a oe)/\oe.cls=.ref C
 dx:H dx=some (.xd [("at",.int n)])
 same:aZ hb H
 fr:hb a=none
theorem XF.step {K:Frag}{hb:Hp}{c:Str}{n:Int}{H H':Hp}{a dx:Addr}{oe:Obj}{C:Addr}(x:XF K hb c n H a dx) (hc:nsIn K mainGlobals c=some (some (.ref C))) (h1:∀ b o,b≠a->H b=some o->H' b=some o) (h2:H' a=some (bZ a oe)) (h3:oe.cls=.ref C):XF K hb c n H' a dx:=by
 obtain⟨C',oe',n',e1,e2⟩:=x.cl;refine⟨⟨C,oe,hc,h2,h3⟩,h1 _ _ (fun z =>?_) x.dx,fun b o e=>h1 b o (fun z =>?_) (x.same b o e),x.fr⟩
 ·have:=x.dx;rw[z,e1] at this;cases this
 ·rw[z,x.fr] at e;cases e
structure Fl (X:Cx) (B:Bs) (c:Str) (n:Int) (H:Hp) (a dx:Addr):Prop where
 xf:XF X.K B.2 c n H a dx
 pin:∀ i b,(i,b)∈B.3->b≠a
 xin:∃ C,nsIn X.K mainGlobals c=some (some (.ref C))/\XIn H a C dx
noncomputable def jG (X:Cx) (B:Bs):Prop:=∀ c n,B.4 c n->∀ pins σ H s a dx,Inv X pins σ H s->Fl X B c n H a dx->X.xe (.ref a) s
theorem jG.to {X:Cx}{B C:Bs}(h:jG X B) (h3:C.3=B.3) (h2:C.2=B.2/\C.4=B.4):jG X C:=fun c n hf pins σ H s a dx I f=>
 h c n (h2.2 ▸ hf) pins σ H s a dx I ⟨h2.1 ▸ f.xf,fun i b hb=>f.pin i b (h3 ▸ hb),f.xin⟩
end L2
end
noncomputable section
namespace L2
open PySem PySem.Spec PyProof.Rows
inductive Xo (α:Type) where
 | ok (a:α)|er (c:Str) (n:Int)
noncomputable abbrev DMX:=aA->Option (Xo (D×aA))
noncomputable abbrev qba:=aA->Option (Xo (List D×aA))
structure OkX (P:Program) (w:World) (K:Frag) (mg:Str->Option Value) (base:Heap) (c:Str) (k:Nat):Prop where
 ex:∃ C fI fdI,nsIn K mainGlobals c=some (some (.ref C))/\mg c=some (.ref C)/\XMk K C fI/\bD P w K mg base CX0 k fI fdI ["self", "at"] (nB C "at")/\gb K fdI ["self", "at"] []
noncomputable section
variable {X:Cx}{B:Bs}{oL own own1:List Nat}{e:Expr}{es:List Expr}{pos pos' p apos:Pos}
noncomputable def dG (c:Str) (j:Nat) (f:DF):DG:=fun ρ=>(f ρ).bind fun d=>match d,eV j ρ with|.int n,some _=>some (.ex c n)|_,_=>none
theorem qi2 {K:Frag}{G H:Hp}{σ:St}{ρ:aA}{j:Nat}{d:D}{a:Addr}(S:SR K B own G H σ ρ) (hd:eV j ρ=some d) (ha:H a=none) (hp:∀ i b,(i,b)∈B.3->i=j):∀ i b,(i,b)∈B.3->b≠a:=fun i b h z=>by
 have:=hp i b h;subst this;obtain⟨hi,hs⟩:=S.pin _ b h;obtain⟨a',o,e1,e2,_⟩:=S.ownd _ d hi (iD hd);rw[hs] at e1;cases e1;rw[z,ha] at e2;cases e2
theorem ja {c:Str}{k j:Nat}{f:DF}(hx:OkX X.prog X.w X.K X.mg X.base c k) (hr:cJ (k+1) X.A) (hfl:jG X B) (hg:Gl X c) (he:PE X e (tP X.K own f)) (hp:∀ i b,(i,b)∈B.3->i=j:=by intro i b;simp_all) (hc:X.calm=true:=by rfl)
  (hdb:(c==("__debug__" : Str))=false:=by decide) (hst:starEach [e] X.env=(false,eval e X.env)::starEach [] X.env:=by rfl) (hpl:(backTo pos (starEach [] X.env)).any (·.1)=false:=by rfl) :
  PS X (.Raise (some (.Call (.Name c p) [e] [] pos)) none pos') (tDS X.K B oL own own1 (dG c j f)):=by
 obtain⟨C,fI,fdI,hn,hm,M,F,hb⟩:=hx.ex;refine(qfk M hc (qfm M F hr hg hm hb (cz he eD hst) hdb hst hpl)).imp fun D σ H ⟨G,ρ,o,S,eq,k⟩ =>?_
 unfold dG at eq;cases ef:f ρ with
 | none=>rw[ef] at eq;cases eq
 | some d=>
  rw[ef] at eq;simp only[zA] at eq
  split at eq
  ·rename_i n dj edj;cases eq;refine⟨G,ρ,.int n,S.gh,S.envR,ef,fun v G' H' E r =>?_⟩
   have S':=S.ext E;cases bh.mp r;refine⟨.int n,rfl,fun a t dx ha hdx hne=>⟨a,t,dx,rfl,aB,fun pins s' I =>?_⟩⟩
   refine hfl c n k pins σ _ s' a dx I ⟨⟨⟨C,_,hn,aB,rfl⟩,by rw[aJ hne,aB],fun b o e =>?_,S'.h0.free ha⟩,qi2 S' edj ha hp,C,hn,.inl ⟨t,aB⟩⟩
   have e':=S'.h0 b o e;have h1:b≠a:=ba e' ha;rw[aJ h1,aJ (ba e' hdx),aJ h1];exact e'
  ·cases eq
noncomputable def qmf (K:Frag) (B:Bs) (own:List Nat) (σ:St) (G:Hp) (Q:VK):Xo (D×aA)->Prop
 | .ok q=>∀ v G' H',SR K B own G' H' σ q.2->aZ G G'->Rep K G' q.1 v->Q v H'
 | .er c n=>B.4 c n
noncomputable def tMX (K:Frag) (B:Bs) (own:List Nat) (f:DMX):TE:=fun σ H Q=>∃ G ρ o,SR K B own G H σ ρ/\f ρ=some o/\qmf K B own σ G Q o
noncomputable def qll (K:Frag) (B:Bs) (own:List Nat) (σ:St) (G:Hp) (Q:List V->Hp->Prop):Xo (List D×aA)->Prop
 | .ok q=>∀ vs G' H',SR K B own G' H' σ q.2->aZ G G'->aI K G' q.1 vs->Q vs H'
 | .er c n=>B.4 c n
noncomputable def qeQ (K:Frag) (B:Bs) (own:List Nat) (f:qba):TA:=fun σ H Q=>∃ G ρ o,SR K B own G H σ ρ/\f ρ=some o/\qll K B own σ G Q o
noncomputable def mxL (f:DM):DMX:=fun ρ=>(f ρ).map .ok
theorem qgh {f:DM}(h:PE X e (tM X.K B own f)):PE X e (tMX X.K B own (mxL f)):=h.imp fun σ H Q ⟨G,ρ,o,S,eq,k⟩=>by
 have eq:(f ρ).map Xo.ok=some o:=eq;cases ef:f ρ with
 | none=>rw[ef] at eq;cases eq
 | some q=>rw[ef] at eq;cases eq;exact⟨G,ρ,q.1,q.2,S,ef,k⟩
noncomputable def mxN:qba:=fun ρ=>some (.ok ([],ρ))
noncomputable def mxC (f:DMX) (g:qba):qba:=fun ρ=>(f ρ).bind fun r=>match r with
 | .ok p=>(g p.2).map fun r2=>match r2 with|.ok q =>.ok (p.1::q.1,q.2)|.er c n =>.er c n
 | .er c n=>some (.er c n)
theorem mf:PA X [] (qeQ X.K B own mxN):=eD.imp fun σ H Q ⟨G,ρ,o,S,eq,k⟩=>by
 cases eq;exact k _ G H S (aZ.refl _) .nil
theorem hG {f:DMX}{g:qba}(h:PE X e (tMX X.K B own f)) (t:PA X es (qeQ X.K B own g)) (hs:starEach (e::es) X.env=(false,eval e X.env)::starEach es X.env:=by rfl):PA X (e::es) (qeQ X.K B own (mxC f g)):=
 (cz h t hs).imp fun σ H Q ⟨G,ρ,o,S,eq,k⟩=>by
  unfold mxC at eq;cases ef:f ρ with
  | none=>rw[ef] at eq;cases eq
  | some r=>
   rw[ef] at eq;refine⟨G,ρ,r,S,ef,?_⟩;cases r with
   | er c n=>cases eq;exact k
   | ok p=>
    intro v G1 H1 S1 s1 r1;simp only[zA] at eq;cases eg:g p.2 with
    | none=>rw[eg] at eq;cases eq
    | some r2=>
     rw[eg] at eq;refine⟨G1,p.2,r2,S1,eg,?_⟩;cases r2 with
     | er c n=>cases eq;exact k
     | ok q=>cases eq;exact fun vs G2 H2 S2 s2 r2=>k _ G2 H2 S2 (s1.trans s2) (.cons (Rep.mono s2 p.1 r1) r2)
noncomputable def pJ (g:qba):DMX:=fun ρ=>(g ρ).bind fun r=>match r with
 | .ok q=>if q.1.length<=1000 then some (.ok (.tup q.1,q.2)) else none
 | .er c n=>some (.er c n)
theorem qdK {x1} {g:qba}(h:PA X es (qeQ X.K B own g)):PE X (.Tuple es x1 pos) (tMX X.K B own (pJ g)):=(qcq h).imp fun σ H Q ⟨G,ρ,o,S,eq,k⟩=>by
 unfold pJ at eq;cases eg:g ρ with
 | none=>rw[eg] at eq;cases eq
 | some r=>
  rw[eg] at eq;refine⟨G,ρ,r,S,eg,?_⟩;cases r with
  | er c n=>cases eq;exact k
  | ok q=>
   have eq:(if q.1.length<=1000 then some (Xo.ok (D.tup q.1,q.2)) else none)=some o:=eq
   split at eq
   ·cases eq;rename_i hz;refine fun vs G1 H1 S1 s1 r1=>⟨?_,fun p hp =>?_⟩
    ·rw[<- r1.length];exact yA hz j8
    ·have E:=Ext.alloc (p:=p) (o :=.tup vs) S1.gh hp;exact k _ _ _ (S1.ext E) (s1.trans E.gg) (dm.mpr ⟨p,vs,rfl,aB,aI.mono E.gg q.1 r1⟩)
   ·cases eq
noncomputable def mx1 (o:D->Option D) (a:DMX):DMX:=fun ρ=>(a ρ).bind fun r=>match r with
 | .ok q=>(o q.1).map fun d =>.ok (d,q.2)
 | .er c n=>some (.er c n)
theorem qh9 {x:Str}{i:Expr}{tab:List (Str×Str)}{g:DMX}(T:pp X.prog X.w X.K X.mg x tab) (hg:Gl X x) (hi:PE X i (tMX X.K B own g)) (hd:(x==("__debug__" : Str))=false:=by decide) (hs:qil i:=by exact fun _ _=>rfl) :
  PE X (.Subscript (.Name x p) i pos) (tMX X.K B own (mx1 (pf tab) g)):=(qfn T hg hi hd hs).imp fun σ H Q ⟨G,ρ,o,S,eq,q⟩=>by
 unfold mx1 at eq;cases eg:g ρ with
 | none=>rw[eg] at eq;cases eq
 | some r=>
  rw[eg] at eq;refine⟨G,ρ,r,S,eg,?_⟩;cases r with
  | er c n=>cases eq;exact q
  | ok qq=>
   obtain⟨y,ρ1⟩:=qq;simp only[zA] at eq;cases y<;>simp only[pf] at eq<;>try (cases eq;done)
   rename_i k;cases el:tab.lookup k with
   | none=>rw[el] at eq;cases eq
   | some v=>rw[el] at eq;cases eq;exact fun u G1 H1 S1 s1 r1=>⟨k,v,bG.mp r1,el,q _ G1 H1 S1 s1 (bG.mpr rfl)⟩
noncomputable def bT (f:DMX):DG:=fun ρ=>(f ρ).map fun r=>match r with|.ok q =>.nx q.2|.er c n =>.ex c n
theorem bX {f:DMX}(he:PE X e (tMX X.K B own f)) (hs:swapsWith e none pos.line X.env=pure false:=by rfl):PS X (.Expr e pos) (tDS X.K B oL own own (bT f)):=(nI he hs).imp fun D σ H ⟨G,ρ,o,S,eq,k⟩=>by
 unfold bT at eq;cases ef:f ρ with
 | none=>rw[ef] at eq;cases eq
 | some r=>
  rw[ef] at eq;refine⟨G,ρ,r,S,ef,?_⟩;cases r with
  | er c n=>cases eq;exact k
  | ok q=>cases eq;exact fun v G' H' S' _ r=>k σ G' H' S'
noncomputable def ic (i:Nat) (f:DMX):DG:=fun ρ=>(f ρ).map fun r=>match r with|.ok q =>.nx (q.2.set i (some q.1))|.er c n =>.ex c n
theorem l9 {i:Nat}{x:Str}{f:DMX}(hN:X.N.Nodup) (hi:X.N[i]?=some x) (hx:Loc X.env.scope x) (he:PE X e (tMX X.K B own f)) (ho:i∉own:=by decide)
  (hs:swapsWith e (some (.Name x pos')) pos.line X.env=pure false:=by rfl) (hf:X.fn x=true∨X.env.scope.names.lookup x=some .local:=by first|exact .inl rfl|exact .inr rfl|assumption) :
  PS X (.Assign [.Name x pos'] e pos) (tDS X.K B oL own own (ic i f)):=(iM hN hi hx he hs hf).imp fun D σ H ⟨G,ρ,o,S,eq,k⟩=>by
 unfold ic at eq;cases ef:f ρ with
 | none=>rw[ef] at eq;cases eq
 | some r=>
  rw[ef] at eq;refine⟨G,ρ,r,S,ef,?_⟩;cases r with
  | er c n=>cases eq;exact k
  | ok q=>cases eq;exact fun v G' H' S' _ r=>k _ G' H' (S'.setS ho r)
noncomputable def kR (f:DMX):DG:=fun ρ=>(f ρ).map fun r=>match r with|.ok q =>.rm q.1 q.2|.er c n =>.ex c n
theorem nN {f:DMX}(he:PE X e (tMX X.K B own f)):PS X (.Return (some e) pos) (tDS X.K B oL own own1 (kR f)):=(jV he).imp fun D σ H ⟨G,ρ,o,S,eq,k⟩=>by
 unfold kR at eq;cases ef:f ρ with
 | none=>rw[ef] at eq;cases eq
 | some r=>
  rw[ef] at eq;refine⟨G,ρ,r,S,ef,?_⟩;cases r with
  | er c n=>cases eq;exact k
  | ok q=>cases eq;exact fun v G' H' S' _ r=>k v σ G' H' ⟨own,S'⟩ r
noncomputable def lR (i:Nat) (f:DMX):DG:=fun ρ=>(bH i ρ).bind fun _=>(f ρ).bind fun r=>match r with
 | .ok q=>(bH i q.2).bind fun ds=>if ds.length<cH then some (.nx (q.2.set i (some (.lst (ds++[q.1]))))) else none
 | .er c n=>some (.ex c n)
theorem me {i:Nat}{x:Str}{cpos:Pos}{f:DMX}(h:PE X (.Name x p) (i4 i)) (he:PE X e (tMX X.K B own f)) (hi:i∈own:=by decide)
  (hbase:attributeBase (.Name x p) "append" X.env (eval (.Name x p) X.env)=eval (.Name x p) X.env:=by rfl)
  (hfew:((backTo cpos (starEach (e::[]) X.env)).all (fun x=> !x.1)&&(backToKw cpos (keywordEach [] X.env)).all (fun x=>x.1.isSome)
   && decide ((e::[]).length+([]:List Keyword).length+(if ([]:List Keyword).isEmpty then 0 else 1)<30))=true:=by rfl)
  (hline:(apos.endLine==cpos.line)=true:=by rfl) (hs:starEach (e::[]) X.env=(false,eval e X.env)::starEach [] X.env:=by rfl) (hplain:(backTo cpos (starEach [] X.env)).any (·.1)=false:=by rfl)
  (hsw:swapsWith (.Call (.Attribute (.Name x p) "append" apos) [e] [] cpos) none pos.line X.env=pure false:=by rfl) :
  PS X (.Expr (.Call (.Attribute (.Name x p) "append" apos) [e] [] cpos) pos) (tDS X.K B oL own own (lR i f)):=
 (nI (qdo plainAttrs_list PySem.F.slot_list_append PySem.F.type_list_append ko h (cz he eD hs) hbase hfew hline hs hplain) hsw).imp fun D σ H ⟨G,ρ,o,S,eq,k⟩=>by
  unfold lR at eq;cases el:bH i ρ with
  | none=>rw[el] at eq;cases eq
  | some ds0=>
   rw[el] at eq;have hd0:=cD el;obtain⟨a,vs,e2,e3,e4,e5,e6⟩:=S.ownL hi hd0;cases ef:f ρ with
   | none=>simp[ef] at eq
   | some r=>
    simp only[ef,zA] at eq;refine⟨_,e2,.inl ⟨rfl,vs,.of e3⟩,G,ρ,r,S,ef,?_⟩;cases r with
    | er c n=>cases eq;exact k
    | ok q=>
     obtain⟨d,ρ1⟩:=q;simp only at eq;cases el1:bH i ρ1 with
     | none=>rw[el1] at eq;cases eq
     | some ds=>
      rw[el1] at eq;simp only[zA] at eq
      split at eq
      ·cases eq;rename_i hz;refine fun v G' H' S' s' r =>?_
       have hd:=cD el1;obtain⟨a',vs',f2,f3,f4,_⟩:=S'.ownL hi hd;rw[e2] at f2;cases f2;refine⟨a,vs',v,rfl,rfl,f3,?_,k _ G' _ (S'.mut hi hd e2 (f4.append (.cons r .nil)))⟩;rw[<- f4.length];exact zS hz dL
      ·cases eq
noncomputable def mw (i:Nat) (g:qba):DG:=fun ρ=>(g ρ).bind fun r=>match r with
 | .ok q=>if q.1.length<=1000 then some (.nx (q.2.set i (some (.lst q.1)))) else none
 | .er c n=>some (.ex c n)
theorem qbS {i:Nat}{x:Str}{g:qba}{es:List Expr}{pos2:Pos}(hN:X.N.Nodup) (hi:X.N[i]?=some x) (hx:Loc X.env.scope x) (he:PA X es (qeQ X.K B own g)) (ho:i∈own:=by decide) (hpin:∀ a,(i,a)∉B.3:=by intro a;simp_all)
  (hs:swapsWith (.List es pos2) (some (.Name x pos')) pos.line X.env=pure false:=by rfl) (hf:X.fn x=true∨X.env.scope.names.lookup x=some .local:=by first|exact .inl rfl|exact .inr rfl|assumption) :
  PS X (.Assign [.Name x pos'] (.List es pos2) pos) (tDS X.K B oL own own (mw i g)):=(iM hN hi hx (qav he) hs hf).imp fun D σ H ⟨G,ρ,o,S,eq,k⟩=>by
 unfold mw at eq;cases ef:g ρ with
 | none=>rw[ef] at eq;cases eq
 | some r=>
  rw[ef] at eq;refine⟨G,ρ,r,S,ef,?_⟩;cases r with
  | er c n=>cases eq;exact k
  | ok q=>
   have eq:(if q.1.length<=1000 then some (DO.nx (q.2.set i (some (.lst q.1)))) else none)=some o:=eq
   split at eq
   ·cases eq;rename_i hz;refine fun vs G' H' S' s' r=>⟨by rw[<- r.length];exact yA hz j8,fun q hq =>?_⟩
    exact k _ G' _ (S'.setO ho (Ext.lay (p:=q) (o :=.lst vs) S'.gh hq) hq (S'.gh.free hq) aB r hpin)
   ·cases eq
end
end L2
end
noncomputable section
namespace L2
open PySem PySem.Spec PyProof.Rows
noncomputable def qml (K:Frag) (G H:Hp) (a:Addr) (Q:VK) (E:XK):Xo (D×D)->Prop
 | .ok q=>∀ v o' G' H',Ext G (era H a) G' H'->G' a=none->H' a=some o'->jK K G' q.2 o'->Rep K G' q.1 v->Q v H'
 | .er c n=>∀ x dx H',XF K (era H a) c n H' x dx->x≠a->E (.ref x) (some dx) H'
noncomputable def cP (K:Frag) (p:Nat) (F:List D->Option (Xo (D×D))):Sp:=fun vs H Q E=>∃ G ds r a o c,aZ G H/\ds[p]?=some c/\vs[p]?=some (.ref a)/\H a=some o/\jK K G c o/\G a=none /\
 (∀ (i:Nat) c,i≠p->ds[i]?=some c->∃ v,vs[i]?=some v/\Rep K G c v)/\ds.length=vs.length/\F ds=some r/\qml K G H a Q E r
noncomputable def qfr (p:Nat):DO->Option (Xo (D×D))
 | .rm d ρ=>(eV p ρ).map fun c =>.ok (d,c)
 | .nx ρ=>(eV p ρ).map fun c =>.ok (.non,c)
 | .ex c n=>some (.er c n)
 | _=>none
noncomputable def eC (n N p:Nat) (g:DG) (ds:List D):Option (Xo (D×D)):=if ds.length=n then (g (bq N ds)).bind (qfr p) else none
noncomputable def qmi (K:Frag) (G H:Hp) (Q:VK) (E:XK):Xo D->Prop
 | .ok d=>∀ v G' H',Ext G H G' H'->Rep K G' d v->Q v H'
 | .er c n=>∀ x dx H',XF K H c n H' x dx->E (.ref x) (some dx) H'
noncomputable def qd1 (K:Frag) (F:List D->Option (Xo D)):Sp:=fun vs H Q E=>∃ G ds r,aZ G H/\aI K G ds vs/\F ds=some r/\qmi K G H Q E r
noncomputable def qix:DO->Option (Xo D)
 | .rt d=>some (.ok d)
 | .ro ds=>some (.ok (.lst ds))
 | .nx _=>some (.ok .non)
 | .rm d _=>some (.ok d)
 | .ex c n=>some (.er c n)
 | _=>none
noncomputable def pF (n N:Nat) (g:DG) (ds:List D):Option (Xo D):=if ds.length=n then (g (bq N ds)).bind qix else none
noncomputable section
variable {P:Program}{w:World}{K:Frag}{mg:Str->Option Value}{base:Heap}
theorem Fun.okCX {x qual:Str}{st:Stmt}{f:Addr}{fd:FuncData}{N ps:List Str}{k:Nat}(F:Fun K x qual st f fd) (S:aR N ps (am st)) (p:Nat) {own own':List Nat}{g:DG}(hp:p∈own) (hown:∀ i∈own,i=p∨ps.length<=i)
  (hb:∀ (cdv:Value) (A:Around) (outer:List Env) (s:Shared) (H:Hp) (E:XK),cJ k (A.deeper (envOfC qual (am st) s.heap.objs.size f cdv))->∀ (B:Bs) (a:Addr),B.3=[(p,a)]->jG (jy (CX2 P w) P w K mg base N qual (am st) f cdv A outer s H E) B ->
   PSs (jy (CX2 P w) P w K mg base N qual (am st) f cdv A outer s H E) (cI st) (tDS K B [] own own' g)):bD P w K mg base (CX2 P w) (k+1) f fd ps (cP K p (eC ps.length N.length p g)):=by
 obtain⟨oc,od,kV,doc,pm,an,cdv,ct,osl,rfl,lk,hcd⟩:=F.ex;refine qgb lk hcd S (fun vs H Q E h =>?_) (fun A outer s H vs Q E hr h =>?_)
 ·obtain⟨G,ds,r,a,o,c,gh,hd,hv,ha,rc,ga,ro,hl,eq,_⟩:=h;unfold eC at eq
  split at eq
  ·rw[<- hl];assumption
  ·cases eq
 ·obtain⟨G,ds,r,a,o,c,gh,hd,hv,ha,rc,ga,ro,hl,eq,q⟩:=h;unfold eC at eq
  split at eq
  ·rename_i hn;have hfl:jG (jy (CX2 P w) P w K mg base N qual (am st) f cdv A outer s H E) ⟨G,era H a,[(p,a)],fun c n=>∀ x dx H',XF K (era H a) c n H' x dx->x≠a->E (.ref x) (some dx) H'⟩:=fun c n hf pins σ H1 s1 x dx I fl=>by obtain⟨C,hC,xi⟩:=fl.xin;exact qfT I xi fun H' oe h1 h2 h3=>hf x dx H' (fl.xf.step hC h1 h2 h3) fun z=>fl.pin p a (by simp) z.symm
   refine⟨_,hb cdv A outer s H E hr ⟨G,era H a,[(p,a)],_⟩ a rfl hfl,?_⟩;cases eg:g (bq N.length ds) with
   | none=>rw[eg] at eq;cases eq
   | some oo=>
    rw[eg] at eq;have fin:∀ {σ:St}{ρ:aA}{G' H':Hp}{o':List Nat}{y:D}{fl},SR K ⟨G,era H a,[(p,a)],fl⟩ o' G' H' σ ρ->eV p ρ=some y->∃ ob,H' a=some ob/\jK K G' y ob/\G' a=none:=fun {σ ρ G' H' o' y fl} S' el=>by
     obtain⟨hp',hσ⟩:=S'.pin p a (by simp)
     obtain⟨b,ob,f2,f3,f4,f5,_⟩:=S'.ownd p _ hp' (iD el);rw[hσ] at f2;cases f2;exact⟨ob,f3,f4,f5⟩
    refine⟨G,_,oo,pC gh hp hd hv ha rc ga ro hl (by rw[hn];exact hown),eg,?_⟩
    cases oo with
    | rm d' ρ=>
     have eq:Option.map (fun c=>Xo.ok (d',c)) (eV p ρ)=some r:=eq
     cases el:eV p ρ with
     | none=>rw[el] at eq;cases eq
     | some y=>rw[el] at eq;cases eq;intro v σ G' H' ⟨o',S'⟩ rv;obtain⟨ob,f3,f4,f5⟩:=fin S' el;exact q v ob G' H' S'.toExt f5 f3 f4 rv
    | nx ρ=>
     have eq:Option.map (fun c=>Xo.ok (D.non,c)) (eV p ρ)=some r:=eq
     cases el:eV p ρ with
     | none=>rw[el] at eq;cases eq
     | some y=>rw[el] at eq;cases eq;intro σ G' H' S';obtain⟨ob,f3,f4,f5⟩:=fin S' el;exact q _ ob G' H' S'.toExt f5 f3 f4 (dr.mpr rfl)
    | ex c n=>cases eq;exact q
    | rt d'=>cases eq
    | ro d'=>cases eq
    | bk ρ=>cases eq
    | ct ρ=>cases eq
  ·cases eq
theorem Fun.okFX {x qual:Str}{st:Stmt}{f:Addr}{fd:FuncData}{N ps:List Str}{k:Nat}(F:Fun K x qual st f fd) (S:aR N ps (am st)) {own own':List Nat}{g:DG}(hown:∀ i∈own,ps.length<=i)
  (hb:∀ (cdv:Value) (A:Around) (outer:List Env) (s:Shared) (H:Hp) (E:XK),cJ k (A.deeper (envOfC qual (am st) s.heap.objs.size f cdv))->∀ (B:Bs),B.3=[]->jG (jy (CX2 P w) P w K mg base N qual (am st) f cdv A outer s H E) B ->
   PSs (jy (CX2 P w) P w K mg base N qual (am st) f cdv A outer s H E) (cI st) (tDS K B [] own own' g)):bD P w K mg base (CX2 P w) (k+1) f fd ps (qd1 K (pF ps.length N.length g)):=by
 obtain⟨oc,od,kV,doc,pm,an,cdv,ct,osl,rfl,lk,hcd⟩:=F.ex;refine qgb lk hcd S (fun vs H Q E h =>?_) (fun A outer s H vs Q E hr h =>?_)
 ·obtain⟨G,ds,r,gh,rr,eq,_⟩:=h;unfold pF at eq
  split at eq
  ·rw[<- rr.length];assumption
  ·cases eq
 ·obtain⟨G,ds,r,gh,rr,eq,q⟩:=h;unfold pF at eq
  split at eq
  ·rename_i hl;have hfl:jG (jy (CX2 P w) P w K mg base N qual (am st) f cdv A outer s H E) ⟨G,H,[],fun c n=>∀ x dx H',XF K H c n H' x dx->E (.ref x) (some dx) H'⟩:=fun c n hf pins σ H1 s1 x dx I fl=>by obtain⟨C,hC,xi⟩:=fl.xin;exact qfT I xi fun H' oe h1 h2 h3=>hf x dx H' (fl.xf.step hC h1 h2 h3)
   refine⟨_,hb cdv A outer s H E hr ⟨G,H,[],_⟩ rfl hfl,?_⟩;cases eg:g (bq N.length ds) with
   | none=>rw[eg] at eq;cases eq
   | some o=>
    rw[eg] at eq;refine⟨G,_,o,nX gh rr (by rw[hl];exact hown),eg,?_⟩
    cases o with
    | rt d'=>cases eq;exact fun v G' H' E r=>q v G' H' E r
    | ro rs=>cases eq;exact fun a us G' H' E h1 h2 h3 r=>q _ (upd G' a (.lst us)) H' (E.freeze h1 h2 h3) (cp.mpr ⟨a,us,rfl,aB,aI.mono (.alloc h2) rs r⟩)
    | nx ρ=>cases eq;exact fun σ G' H' S=>q _ G' H' S.toExt (dr.mpr rfl)
    | rm d ρ=>cases eq;exact fun v σ G' H' ⟨o',S'⟩ rv=>q v G' H' S'.toExt rv
    | ex c n=>cases eq;exact q
    | bk ρ=>cases eq
    | ct ρ=>cases eq
  ·cases eq
structure dR (P:Program) (w:World) (K:Frag) (mg:Str->Option Value) (base:Heap) (c m:Str) (k:Nat) (sp:Sp):Prop where
 ex:∃ C f fd ps,nsIn K mainGlobals c=some (some (.ref C))/\Cls K C/\qeA K C m f/\bD P w K mg base (CX2 P w) k f fd ps sp/\gb K fd ps []
theorem dR.mono {c m:Str}{j k:Nat}{sp:Sp}(h:dR P w K mg base c m j sp) (hk:j<=k):dR P w K mg base c m k sp:=by
 obtain⟨C,f,fd,ps,h1,h2,h3,h4,h5⟩:=h.ex;exact⟨C,f,fd,ps,h1,h2,h3,h4.mono hk,h5⟩
noncomputable def ot (F:List D->Option (Xo D)) (ds:List D):Option D:=(F ds).bind fun r=>match r with|.ok d=>some d|_=>none
theorem bD.noX {k:Nat}{f:Addr}{fd:FuncData}{ps:List Str}{F:List D->Option (Xo D)}(h:bD P w K mg base (CX2 P w) k f fd ps (qd1 K F)):bD P w K mg base CX0 k f fd ps (spF K (ot F)):=by
 have to:∀ vs H Q,(∀ E,spF K (ot F) vs H Q E->qd1 K F vs H Q E0):=fun vs H Q E ⟨G,ds,d,gh,r,eq,q⟩=>by
  unfold ot at eq;cases ef:F ds with
  | none=>rw[ef] at eq;cases eq
  | some x=>
   rw[ef] at eq;cases x with
   | ok d'=>cases eq;exact⟨G,ds,.ok d,gh,r,ef,q⟩
   | er c n=>cases eq
 refine⟨fun vs H Q E z=>h.len vs H Q E0 (to _ _ _ _ z),fun A outer s H args us vs Q E hr he hb hv hs =>?_⟩
 refine codeAny_mono (h.run A outer s H args us vs Q E0 hr he hb hv (to _ _ _ _ hs)) fun r s' z =>?_
 cases r with
 | error e=>obtain⟨_,_,_,_,_,_,_,_,_,_,_,_,_,z⟩:=z;exact z.elim
 | ok fl=>
  cases fl with
  | ret u=>exact z
  | next=>exact z
  | brk=>exact z
  | cont=>exact z
end
noncomputable section
variable {X:Cx}{B:Bs}{own:List Nat}{e o:Expr}{es:List Expr}{pos p apos:Pos}{pl:Sem Bool}
noncomputable def EX (K:Frag) (B:Bs):XK:=fun av dxo H=>∃ a dx c n,av=.ref a/\dxo=some dx/\XF K B.2 c n H a dx/\(∀ i b,(i,b)∈B.3->b≠a)/\B.4 c n
theorem qiw (hfl:jG X B):ki (CX2 X.prog X.w) X (EX X.K B):=fun pins σ H s e s' I c=>by
 obtain⟨a,C,dx,T,oe,oT,H',rfl,J,xt,a',dx',c,n,ea,ed,xf,hp,hb⟩:=I.caught2 c;cases ea;cases ed;obtain⟨C',oe',hn,e1,e2⟩:=xf.cl;have q1:=bZ.get J.hok xt.ea;have q2:=bZ.get J.hok e1;rw[q1] at q2;cases q2;have:C=C':=by have:=xt.cls.symm.trans e2;cases this;rfl
 subst this;exact hfl c n hb pins σ H' s' a dx J ⟨xf,hp,C,hn,.inr ⟨T,oe,oT,xt⟩⟩
noncomputable def aT (c m:Str) (F:List D->Option (Xo (D×D))) (j:Nat) (g:DL):DMX:=fun ρ=>(kU c j ρ).bind fun q=>if m∉q.1 then (g ρ).bind fun xs=>(F (.ins c q.1 q.2::xs)).map fun r=>match r with|.ok r =>.ok (r.1,ρ.set j (some r.2))|.er c n =>.er c n else none
theorem qbI {c m:Str}{F:List D->Option (Xo (D×D))}{j:Nat}{g:DL}{C:Addr}{σ:St}{H:Hp}{Q:VK}{t:TA}(n:nsIn X.K mainGlobals c=some (some (.ref C))) (hj:j∈own) (hpj:∀ i b,(i,b)∈B.3->i=j) (ht:∀ σ H Q,tPA X.K own g σ H Q->t σ H Q)
  (h:tMX X.K B own (aT c m F j g) σ H Q):qdb C m (cP X.K 0 F) [] (EX X.K B) (i4 j) t σ H Q:=by
 obtain⟨G,ρ,o,S,eq,q⟩:=h;unfold aT at eq;cases el:kU c j ρ with
 | none=>rw[el] at eq;cases eq
 | some qq=>
  obtain⟨ks,ds⟩:=qq;rw[el] at eq;simp only[zA] at eq
  split at eq
  ·rename_i hm;cases eg:g ρ with
   | none=>simp[eg] at eq
   | some xs=>
    simp only[eg,zA] at eq;cases eF:F (.ins c ks ds::xs) with
    | none=>rw[eF] at eq;cases eq
    | some r=>
     rw[eF] at eq;have hd:=lh el;obtain⟨a,C',dx,vs,e2,e3,n',l,e4,e5,e6⟩:=S.ownI hj hd;rw[n] at n';cases n';refine⟨_,e2,a,dx,_,rfl,e3,mJ (K:=X.K) (G:=G) hm,ht _ _ _ ⟨G,ρ,xs,S.gh,S.envR,eg,fun us G1 H1 E1 r1 =>?_⟩⟩
     have S1:=S.ext E1;obtain⟨a',o1,f2,f3,f4,f5,f6⟩:=S1.ownd j _ hj hd;rw[e2] at f2;cases f2;show cP X.K 0 F (.ref a::(us++[])) H1 Q (EX X.K B);rw[List.append_nil];refine⟨G1,.ins c ks ds::xs,r,a,o1,.ins c ks ds,E1.gh,rfl,rfl,f3,f4,f5,fun i x hi ec =>?_,by simp[r1.length],eF,?_⟩
     ·cases i with
      | zero=>exact absurd rfl hi
      | succ i=>exact r1.get (i:=i) (by simpa using ec)
     ·cases r with
      | ok r=>cases eq;exact fun v o' G2 H2 E2 g2 h2 r2 r3=>q v G2 H2 (S1.calledC hj hd e2 E2 g2 h2 r2) (E1.gg.trans E2.gg) r3
      | er c2 n2=>
       cases eq;intro x dx2 H' xf hx;have up:∀ b o,B.2 b=some o->era H1 a b=some o:=fun b o z=>by
        have:b≠a:=fun zz=>by rw[zz,f6] at z;cases z
        rw[lq this];exact S1.h0 b o z
       refine⟨x,dx2,c2,n2,rfl,rfl,⟨xf.cl,xf.dx,fun b o z=>xf.same b o (up b o z),?_⟩,fun i b hb =>?_,q⟩
       ·cases z:B.2 x with
        | none=>rfl
        | some o=>have:=up x o z;rw[xf.fr] at this;cases this
       ·have:=hpj i b hb;subst this;have:=(S1.pin _ b hb).2;rw[e2] at this;cases this;exact fun z=>hx z.symm
  ·cases eq
theorem bV {c m y:Str}{k j:Nat}{F:List D->Option (Xo (D×D))}(h:dR X.prog X.w X.K X.mg X.base c m k (cP X.K 0 F)) (hr:cJ k X.A) (hfl:jG X B) (ho:PE X (.Name y p) (i4 j)) (hj:j∈own:=by decide) (hpj:∀ i b,(i,b)∈B.3->i=j:=by intro i b;simp_all)
  (ht:eval (.Call (.Attribute (.Name y p) m apos) [] [] pos) X.env=(do
   let ov <- eval (.Name y p) X.env
   standAt apos.atName
   let (f,first) <- holding [ov] (getMethod ov m pl)
   callWith pos f first (backTo pos (starEach [] X.env)) (backToKw pos (keywordEach [] X.env))):=by rfl):PE X (.Call (.Attribute (.Name y p) m apos) [] [] pos) (tMX X.K B own (aT c m F j aN)):=by
 obtain⟨C,f,fd,ps,n,hc,hm,h1,hb⟩:=h.ex;exact(qbx (pl:=pl) ho hc hm h1 hr hb .nil (qiw hfl) ht).imp fun σ H Q q=>qbI n hj hpj (fun σ H Q ⟨G,ρ,ds,gh,env,eq,k⟩=>by cases eq;exact k _ G H (.refl gh) .nil) q
theorem bY {c m y:Str}{k j:Nat}{F:List D->Option (Xo (D×D))}{g:DL}(h:dR X.prog X.w X.K X.mg X.base c m k (cP X.K 0 F)) (hr:cJ k X.A) (hfl:jG X B) (ho:PE X (.Name y p) (i4 j)) (ha:PA X (e::es) (tPA X.K own g)) (hj:j∈own:=by decide) (hpj:∀ i b,(i,b)∈B.3->i=j:=by intro i b;simp_all)
  (hst:starEach (e::es) X.env=(false,eval e X.env)::starEach es X.env:=by rfl) (hpl:(backTo pos (starEach es X.env)).any (·.1)=false:=by rfl)
  (ht:eval (.Call (.Attribute (.Name y p) m apos) (e::es) [] pos) X.env=(do
   let ov <- eval (.Name y p) X.env
   standAt apos.atName
   let (f,first) <- holding [ov] (getMethod ov m pl)
   callWith pos f first (backTo pos (starEach (e::es) X.env)) (backToKw pos (keywordEach [] X.env))):=by rfl):PE X (.Call (.Attribute (.Name y p) m apos) (e::es) [] pos) (tMX X.K B own (aT c m F j g)):=by
 obtain⟨C,f,fd,ps,n,hc,hm,h1,hb⟩:=h.ex;exact(qhl (pl:=pl) ho hc hm h1 hr hb .nil (qiw hfl) ha hst hpl ht).imp fun σ H Q q=>qbI n hj hpj (fun _ _ _ z=>z) q
end
end L2
end
noncomputable section
namespace L2
open PySem PySem.Spec PyProof.Rows
noncomputable def qfB:D->D->Option D
 | .str i,.str j=>some (.bl (!(Builtin.Str.occurrences j i 0 j.length 1).isEmpty))
 | _,_=>none
theorem qjn {X:Cx}:OpD X (compareOp .In) qfB:=qec.imp fun x y H Q ⟨G,d1,d2,d,gh,r1,r2,eq,k⟩=>by
 cases d1<;>cases d2<;>simp only[qfB] at eq<;>try (cases eq;done)
 cases eq;exact⟨_,_,r1.str,r2.str,k _ G H (.refl gh) (bz.mpr rfl)⟩
end L2
end
noncomputable section
namespace L2
open PySem PySem.Spec PyProof.Rows
noncomputable section
variable {X:Cx}{B:Bs}{own:List Nat}{e:Expr}{lo hi:Option Expr}{pos p2:Pos}
noncomputable def qcJ (f:DM) (lo hi:DP):DM:=fun ρ=>(f ρ).bind fun q=>(lo q.2).bind fun l=>(hi q.2).bind fun h=>match q.1 with|.str x=>if x.length<=cH then some (.str (Txt.slice x l h),q.2) else none|_=>none
theorem qjQ {f:DM}{l h:DP}(he:PE X e (tM X.K B own f)) (hl:PO X lo (tPO X.K own l)) (hu:PO X hi (tPO X.K own h)):PE X (.Subscript e (.Slice lo hi none p2) pos) (tM X.K B own (qcJ f l h)):=(om qe1 he hl hu).imp fun σ H Q ⟨G,ρ,d,ρ',S,eq,k⟩=>by
 unfold qcJ at eq;cases ef:f ρ with
 | none=>rw[ef] at eq;cases eq
 | some q=>
  obtain⟨d1,ρ1⟩:=q;cases el:l ρ1 with
  | none=>simp[ef,el] at eq
  | some lv=>
   cases eh:h ρ1 with
   | none=>simp[ef,el,eh] at eq
   | some hv=>
    simp only[ef,el,eh,zA] at eq;refine⟨G,ρ,d1,ρ1,S,ef,fun v G1 H1 S1 s1 r1=>⟨G1,ρ1,lv,S1.gh,S1.envR,el,fun G2 H2 E2=>⟨G2,ρ1,hv,E2.gh,S1.envR.ext E2,eh,fun G3 H3 E3 =>?_⟩⟩⟩
    cases d1<;>simp only at eq<;>try (cases eq;done)
    split at eq
    ·cases eq;rename_i hz;exact⟨_,bG.mp r1,yA hz dL,k _ G3 H3 (S1.ext (E2.trans E3)) (s1.trans (E2.trans E3).gg) (bG.mpr rfl)⟩
    ·cases eq
end
open PySem.W in
noncomputable def qaS (K:Frag) (C fI:Addr):Bool:=match K.lookup C with
 | some ⟨.type "type",_,.cls cd,sl⟩=>(match cd.mro,sl.toList with
  | .ref C'::bm,[_,_,_,_,some (.builtin n),_]=>C'==C&&n == "ValueError.__new__" && !cd.hasDel&&cd.hasDict&&tailIn K [.type "ValueError",.type "Exception",.type "BaseException",.type "object"] bm&&bm.contains (.type "BaseException")&&nsOkIn K cd.ns&&nsIn K cd.ns "__init__" == some (some (.ref fI))
  | _,_=>false)
 | _=>false
theorem qkV {K:Frag}{N:Addr}{x:Str}{v:Value}(e:PySem.W.nsOkIn K N=true) (q:nsIn K N x=some (some v)):∃ mN:Str->Option Value,(∀ h:Heap,K.In h->h.Ns N mN)/\mN x=some v:=by
 unfold PySem.W.nsOkIn at e
 split at e
 ·rename_i c d es n sl ho;refine⟨nsFind es,fun h X=>⟨_,es,n,X _ _ ho,rfl,fun en hen =>?_,fun _=>rfl⟩,?_⟩
  ·have:=Array.all_eq_true'.mp e en hen
   split at this
   ·rename_i s t hk;exact⟨s,t,hk⟩
   ·cases this
  ·unfold nsIn at q;rw[ho] at q;simp only at q
   split at q
   ·rename_i en he;cases q;unfold nsFind findBy;rw[<- Array.find?_toList];rw[he];rfl
   ·split at q<;>cases q
 ·cases e
theorem qiF {K:Frag}{C fI:Addr}(q:qaS K C fI=true) (fn:PySem.W.typeIn K (.ref fI)=some (.type "function")) (kp:keepIn K (.ref C)=true):XMk K C fI:=by
 refine⟨?_,fn,kp⟩;unfold qaS at q
 split at q
 ·rename_i dd cd sl ho
  split at q
  ·rename_i C' bm k0 k1 k2 k3 n k5 hm hs;simp only[Bool.and_eq_true,beq_iff_eq,Bool.not_eq_true'] at q;obtain⟨⟨⟨⟨⟨⟨⟨rfl,rfl⟩,hdel⟩,hdct⟩,ht⟩,hbm⟩,hok⟩,hni⟩:=q;obtain⟨nm,bs,mro,ns,qn,hd,sn,sub,ab,col,del⟩:=cd;dsimp only at hm hdel hok hni hdct;subst hm hdel hdct;have hsl:sl=#[k0,k1,k2,k3,some (.builtin "ValueError.__new__"),k5]:=by obtain⟨l⟩:=sl;simp only at hs;rw[hs]
   subst hsl;obtain⟨mN,h1,h2⟩:=qkV hok hni;exact⟨nm,qn,ns,bs,bm,_,sn,sub,ab,col,dd,k0,k1,k2,k3,k5,_,_,_,_,_,_,_,mN,PySem.F.excBase_ValueError,by decide,PySem.F.excBase_ValueError,hbm,ho,fun h X=>⟨PySem.W.tail_of_in X ht,h1 h X⟩,h2⟩
  ·cases q
 ·cases q
structure qgC (K:Frag) (C:Addr) (bm:List Value):Prop where
 ex:∃ (nm q:Str) (N:Addr) (bs:List Value) (hd:Bool) (sn:List Str) (sub:List Value) (ab:Bool) (col:Option Bool) (dd:Option Addr) (k0 k1 k2 k3 k5:Option Value) (newId:String),K.lookup C=some (excClassObj nm q C N bs bm hd sn sub ab col dd k0 k1 k2 k3 k5 newId)
structure qj7 (K:Frag) (C S:Addr):Prop where
 ex:∃ bC bS,qgC K C bC/\qgC K S bS/\bC.contains (.ref S)=true/\bS.contains (.type "BaseException")=true
open PySem.W in
noncomputable def pK (K:Frag) (C:Addr):Option (List Value):=match K.lookup C with
 | some ⟨.type "type",_,.cls cd,sl⟩=>(match cd.mro,sl.toList with
  | .ref C'::bm,[_,_,_,_,some (.builtin _),_]=>if (C'==C && !cd.hasDel)=true then some bm else none
  | _,_=>none)
 | _=>none
theorem qfK {K:Frag}{C:Addr}{bm:List Value}(q:pK K C=some bm):qgC K C bm:=by
 unfold pK at q
 split at q
 ·rename_i dd cd sl ho
  split at q
  ·rename_i C' bm' k0 k1 k2 k3 n k5 hm hs
   split at q
   ·rename_i hc;cases q;simp only[Bool.and_eq_true,beq_iff_eq,Bool.not_eq_true'] at hc;obtain⟨rfl,hdel⟩:=hc;obtain⟨nm,bs,mro,ns,qn,hd,sn,sub,ab,col,del⟩:=cd;dsimp only at hm hdel;subst hm hdel;have hsl:sl=#[k0,k1,k2,k3,some (.builtin n),k5]:=by obtain⟨l⟩:=sl;simp only at hs;rw[hs]
    subst hsl;exact⟨nm,qn,ns,bs,hd,sn,sub,ab,col,dd,k0,k1,k2,k3,k5,n,ho⟩
   ·cases q
  ·cases q
 ·cases q
noncomputable def qeR (K:Frag) (C S:Addr):Bool:=(pK K C).any (fun b=>b.contains (.ref S))&&(pK K S).any fun b=>b.contains (.type "BaseException")
theorem qgE {K:Frag}{C S:Addr}(q:qeR K C S=true):qj7 K C S:=by
 unfold qeR at q;rw[Bool.and_eq_true] at q;obtain⟨q1,q2⟩:=q;cases e1:pK K C with
 | none=>rw[e1] at q1;cases q1
 | some b1=>
  cases e2:pK K S with
  | none=>rw[e2] at q2;cases q2
  | some b2=>rw[e1] at q1;rw[e2] at q2;exact⟨b1,b2,qfK e1,qfK e2,q1,q2⟩
noncomputable section
variable {M:Model}{A:Around}{E:Value->Shared->Prop}
theorem qbJ {nm q:Str}{C N:Addr}{bs bm:List Value}{hdct:Bool}{sn:List Str}{sub:List Value}{ab:Bool}{col:Option Bool}{dd:Option Addr}{k0 k1 k2 k3 k5:Option Value}{newId:String}
  {nm' q':Str}{S N':Addr}{bs' bm':List Value}{hdct':Bool}{sn':List Str}{sub':List Value}{ab':Bool}{col':Option Bool}{dd':Option Addr}{k0' k1' k2' k3' k5':Option Value}{newId':String}{h:Heap}{g:Array GenState}{d:Drawn}{t:Nat}{os:OsState}{e:Addr}{oe:Obj}{Q:Bool->Shared->Prop}
  (hC:h.get? C=some (excClassObj nm q C N bs bm hdct sn sub ab col dd k0 k1 k2 k3 k5 newId)) (hS:h.get? S=some (excClassObj nm' q' S N' bs' bm' hdct' sn' sub' ab' col' dd' k0' k1' k2' k3' k5' newId')) (he:h.get? e=some oe) (hcls:oe.cls=.ref C) (hbase:bm'.contains (.type "BaseException")=true) (hsup:bm.contains (.ref S)=true)
  (hq:Q true ⟨h,g,d,t,os⟩):wpAny M A (excMatches (.ref e) (.ref S)) Q E ⟨h,g,d,t,os⟩:=by
 have hcB:(Value.ref S::bm').contains (.type "BaseException")=true:=by rw[List.contains_cons,hbase,Bool.or_true]
 have hcC:(Value.ref C::bm).contains (.ref S)=true:=by rw[List.contains_cons,hsup,Bool.or_true]
 have f:=tc_notTuple;unfold excMatches
 repeat (first|(with_reducible refine wpAny_loadPart_at he ?_;rw[hcls])|with_reducible refine wpAny_loadPart_at hS ?_|(with_reducible refine wpAny_isSubtype_exc hS ?_;rw[hcB])|(with_reducible refine wpAny_isSubtype_exc hC ?_;rw[hcC])|wp_step)
 exact hq
end
noncomputable section
variable {X:Cx}{k:Nat}{f S L:Addr}{fd:FuncData}{ps:List Str}{sp:Sp}{g n cn:Str}{p p' pos apos pc hpos tpos:Pos}{e:Expr}{es:List Expr}{t:TA}{ts:TS}{b₀:Stmt}{hb:List Stmt}{hs:List ExceptHandler}{j:Nat}
noncomputable def qkE (K:Frag) (S:Addr) (sp:Sp) (j:Nat) (t:TA) (ts:TS):TS:=fun D σ H=>t σ H fun vs H1=>sp vs H1 (fun v H2=>D.nx σ H2) fun av dxo H2=>∃ a dx C,av=.ref a/\dxo=some dx/\qj7 K C S/\(∃ oe,H2 a=some (bZ a oe)/\oe.cls=.ref C) /\
 ∀ oe0 oe H3,H2 a=some (bZ a oe0)->(∀ b o,b≠a->H2 b=some o->H3 b=some o)->H3 a=some (bZ a oe)->mW oe C dx->ts { nx:=fun σ' H4=>D.nx (σ'.set j none) H4,rt:=fun _ _=>False } (σ.set j (some (.ref a))) H3
theorem qhf (F:bD X.prog X.w X.K X.mg X.base (CX2 X.prog X.w) k f fd ps sp) (hr:cJ k X.A) (hg:Gl X g) (hm:X.mg g=some (.ref f)) (hk:keepIn X.K (.ref f)=true) (hbi:gb X.K fd ps [])
  (ha:PA X.nox (e::es) t) (hN:X.N.Nodup) (hj:X.N[j]?=some n) (hn:X.env.scope.names.lookup n=some .local) (hgC:Gl X cn) (hmC:X.mg cn=some (.ref S))
  (hst:X.stack=X.env::X.outer) (hf:X.env.frame=some L) (hsu:∀ a,PSs (X.mark (.ref a)) (b₀::hb) ts)
  (hdb:(g==("__debug__" : Str))=false:=by decide) (hdC:(cn==("__debug__" : Str))=false:=by decide) (he:starEach (e::es) X.env=(false,eval e X.env)::starEach es X.env:=by rfl) (hpl:(backTo pos (starEach es X.env)).any (·.1)=false:=by rfl)
  (hsw:swapsWith (.Call (.Name g p) (e::es) [] pos) none apos.line X.env=pure false:=by rfl) :
  PS X (.Try [.Expr (.Call (.Name g p) (e::es) [] pos) apos] (.ExceptHandler (some (.Name cn pc)) (some n) (b₀::hb) hpos::hs) [] [] tpos) (qkE X.K S sp j t ts):=by
 intro pins s σ H D I h;refine wpAny_Try_except (wpAny_execs_cons (wpAny_Expr_any ?_ I.quiet hsw));refine wpAny_Call_Name_kw (kq I hg hm ?_ hdb);refine PySem.W.callWith_K (h₀:=X.base) I.ok.mod.kin hk (wpAny_mono (ha pos pins s σ H _ (I.wish _) h) (fun us s1 ⟨vs,H1,I1',r,q⟩=>⟨I1'.kIn,?_⟩) fun _ _ z=>False.elim z) he hpl
 have I1:Inv X pins σ H1 s1:=I1'.unwish;have hl:(us++[]).length=ps.length:=by rw[List.append_nil,<- r.length];exact F.len _ _ _ _ q
 have hbd:=hbi s1 us I1.kIn hl;rw[List.append_nil] at hbd;refine wpAny_call (codeAny_mono (F.run X.A X.stack s1 H1 ⟨us,[]⟩ us vs _ _ hr I1.env0 hbd r q) fun r s' hq =>?_)
 cases r with
 | ok fl=>
  cases fl with
  | ret u=>obtain⟨v,H2,I2,rv,q2⟩:=I1.after hq;exact wpAny_execs_nil (wpAny_execs_nil ⟨_,H2,I2,q2⟩)
  | next=>exact False.elim hq
  | brk=>exact False.elim hq
  | cont=>exact False.elim hq
 | error ev=>
  dsimp only [CR] at hq;obtain⟨a,C',dx,T,oe,oT,H2,rfl,I2,xt,a2,dx',C,ec,ed,xs,⟨oe2,hoe2,hcl2⟩,q2⟩:=I1.caught2 hq;cases ec;cases ed;have qa:=bZ.get I2.hok xt.ea;have qb:=bZ.get I2.hok hoe2;rw[qa] at qb;cases qb;have:C'=C:=by have:=xt.cls.symm.trans hcl2;cases this;rfl
  subst this;refine qdz hst hf I2 xt fun s3 H3 T3 oe3 oT3 I3 xt3 same =>?_
  obtain⟨bC,bS,⟨nm,q',N,bs,hd,sn,sub,ab,col,dd,k0,k1,k2,k3,k5,newId,lk⟩,⟨nm2,q2',N2,bs2,hd2,sn2,sub2,ab2,col2,dd2,l0,l1,l2,l3,l5,newId2,lk2⟩,hsup,hbm⟩:=xs.ex;refine wpAny_handleBy_cons ?_ (fun z=>nomatch z)
  have IM:=I3.mark (.ref a);refine codeAny_handlers_test (kq IM hgC hmC ?_ hdC);obtain⟨h3,g3,d3,t3,os3⟩:=s3;refine qbJ (qdT I3.kIn lk) (qdT I3.kIn lk2) (bZ.get I3.hok xt3.ea) xt3.cls hbm hsup ?_;show codeAny _ _ _ _ _;refine codeAny_handlers_suite_as (qep I3 xt3 fun s4 I4 =>?_)
  refine nW I4 hN hj (.inl hn) (show bx (.ref a) _ from rfl) (fun s5 I5 =>?_) (.inr hn)
  refine wpAny_mono (hsu a pins s5 _ _ _ (I5.mark (.ref a)) (q2 oe oe3 H3 xt.ea same xt3.ea xt3.stand)) (fun fl s6 sp6 =>?_) fun _ _ z=>False.elim z
  cases fl with
  | next=>obtain⟨σ',H6,I6,q6⟩:=sp6;exact qhZ (I6.unmark I.ok) hN hj hn fun s7 I7=>⟨_,_,I7,q6⟩
  | brk=>obtain⟨_,_,_,z⟩:=sp6;exact False.elim z
  | cont=>obtain⟨_,_,_,z⟩:=sp6;exact False.elim z
  | ret u=>obtain⟨_,_,_,_,_,z⟩:=sp6;exact False.elim z
end
end L2
end
noncomputable section
namespace L2
open PySem PySem.Spec PyProof.Rows
structure XSt (H:Hp) (a C:Addr) (n:Int):Prop where
 ex:∃ dx oe,H a=some (bZ a oe)/\mW oe C dx/\H dx=some (.xd [("at",.int n)])
theorem XSt.same {H H':Hp}{a C:Addr}{n:Int}(x:XSt H a C n) (s:aZ H H'):XSt H' a C n:=by
 obtain⟨dx,oe,h1,h2,h3⟩:=x.ex;exact⟨dx,oe,s _ _ h1,h2,s _ _ h3⟩
noncomputable def IsZ (K:Frag) (C:Addr) (H:Hp) (v:V) (c:Value) (b:Bool):Prop:=(v=.non/\kitOne K (.type "NoneType") c=some b)∨∃ a n,v=.ref a/\XSt H a C n/\kitOne K (.ref C) c=some b
noncomputable def qha (K:Frag) (C:Addr):List V->Hp->VK->Prop:=fun xs H Q=>∃ v vc c b,xs=[v,vc]/\(∀ u,bx vc u->u=c)/\IsZ K C H v c b/\Q (.bl b) H
noncomputable section
variable {X:Cx}{p pos p':Pos}{x y:Str}{C:Addr}{ta tc:TE}{e:Expr}
theorem qj1 (xi:XIs X.K C):f9 X (.builtin "isinstance") (qha X.K C):=by
 intro pins s σ H xs us Q I r ⟨v,vc,c,b,e,hc,hz,q⟩;subst e;cases r with
 | cons r1 r=>
  cases r with
  | cons r2 r=>
   cases r;rename_i u1 u2;obtain rfl:=hc _ r2;rcases hz with ⟨rfl,k⟩|⟨a,n,rfl,st,k⟩
   ·exact gk I r1 .non k fun tk=>⟨.bl b,H,I.tok _,rfl,q⟩
   ·obtain⟨dx,oe,h1,h2,h3⟩:=st.ex;obtain rfl:u1=Value.ref a:=r1;exact qiG (M:=X.w) I h1 h2 h3 xi k fun s' I'=>⟨.bl b,H,I',rfl,q⟩
theorem mE {v:V}(xi:XIs X.K C) (hg:Gl X "isinstance") (hm:X.mg "isinstance" = none) (he:PE X e ta) (hc:PE X (.Name y p') (tC v))
  (hs:starEach (e::[.Name y p']) X.env=(false,eval e X.env)::starEach [.Name y p'] X.env:=by rfl) (hs2:starEach (.Name y p'::[]) X.env=(false,eval (.Name y p') X.env)::starEach [] X.env:=by rfl) (hpl:(backTo pos (starEach [.Name y p'] X.env)).any (·.1)=false:=by rfl) :
  PE X (.Call (.Name "isinstance" p) [e,.Name y p'] [] pos) (tCB (qha X.K C) (nS ta (nS (tC v) qeP))):=
 on (qj1 xi) hg hm PyProof.Rows.boot_isinstance (cz he (cz hc eD hs2) hs) (by decide) (by decide) hs hpl
theorem iR {K:Frag}{σ:St}{H:Hp}{Q:VK}{v:V}{c:Addr}{b:Bool}{i:Nat}(e:σ[i]?=some (some v)) (x:IsZ K C H v (.ref c) b) (q:Q (.bl b) H):tCB (qha K C) (nS (i4 i) (nS (tC (.ref c)) qeP)) σ H Q:=
 ⟨_,e,v,.ref c,.ref c,b,rfl,fun u r=>r,x,q⟩
theorem qhW {K:Frag}{σ:St}{H:Hp}{Q:VK}{v:V}{T:String}{b:Bool}{i:Nat}(e:σ[i]?=some (some v)) (x:IsZ K C H v (.type T) b) (q:Q (.bl b) H):tCB (qha K C) (nS (i4 i) (nS (tC (.ty T)) qeP)) σ H Q:=
 ⟨_,e,v,.ty T,.type T,b,rfl,fun u r=>r,x,q⟩
end
noncomputable def qbl (e:Expr):Option Str:=match e with
 | .Constant c _ _=>(match c with|.str x=>some x|_=>none)
 | _=>none
theorem qch {e:Expr}{x:Str}(h:qbl e=some x):∃ k p,e=.Constant (.str x) k p:=by
 unfold qbl at h
 split at h
 ·split at h
  ·cases h;exact⟨_,_,rfl⟩
  ·cases h
 ·cases h
noncomputable def ji:List Expr->Option (List Str)
 | []=>some []
 | e::es=>(qbl e).bind fun x=>(ji es).map (x :: ·)
noncomputable def aS (ss:List Str):DL:=fun _=>some (ss.map D.str)
theorem kC {X:Cx}{own:List Nat}:∀ {es:List Expr}{ss:List Str},ji es=some ss->PA X es (tPA X.K own (aS ss))
 | [],ss,h=>by have h:some []=some ss:=h;cases h;exact ak.imp fun _ _ _ z=>z
 | e::es,ss,h=>by
  have h2:((qbl e).bind fun x=>(ji es).map (x :: ·))=some ss:=h
  clear h;cases he:qbl e with
  | none=>rw[he] at h2;cases h2
  | some x=>
   rw[he] at h2;obtain⟨k,p,rfl⟩:=qch he;cases hs:ji es with
   | none=>rw[hs] at h2;cases h2
   | some ss'=>rw[hs] at h2;have h3:some (x::ss')=some ss:=h2;cases h3;exact(ac (f:=eK (.str x)) ai (kC hs) rfl).imp fun _ _ _ z=>z
end L2
end
noncomputable section
namespace L2
open PySem PySem.Spec PyProof.Rows
noncomputable section
variable {K:Frag}{H0 G H G' H':Hp}
end
end L2
end
noncomputable section
namespace L2
open PySem PySem.Spec PyProof.Rows
noncomputable section
variable {K:Frag}{G H0 H:Hp}{Nn:Addr}{cs:List (Addr×Addr×Addr)}{ns:List Nd}
end
end L2
end
noncomputable section
namespace L2
open PySem PySem.Spec PyProof.Rows
noncomputable section
variable {K:Frag}{G H0 H:Hp}{A C dx n p t R:Addr}{ts:List Addr}{z:Ly}
end
end L2
end
noncomputable section
namespace L2
open PySem PySem.Spec PyProof.Rows
theorem qdF {τ:DTg}{g:DG}(I:Nat->aA->Prop):∀ (ds:List D) (i:Nat) (ρ:aA),I i ρ->(∀ j d ρ,ds[j]?=some d->I (i+j) ρ->∃ ρ1 ρ2,τ d ρ=some ρ1/\g ρ1=some (.nx ρ2)/\I (i+j+1) ρ2) ->
  ∃ ρ',iT τ g ds ρ=some (.nx ρ')/\I (i+ds.length) ρ'
 | [],i,ρ,h,_=>⟨ρ,rfl,h⟩
 | d::ds,i,ρ,h,st=>by
  obtain⟨ρ1,ρ2,e1,e2,h2⟩:=st 0 d ρ rfl h;obtain⟨ρ',e,h'⟩:=qdF I ds (i+1) ρ2 h2 fun j d ρ hj hI=>by
   have:=st (j+1) d ρ (by simpa using hj) (by rw[show i+(j+1)=i+1+j by omega];exact hI)
   rw[show i+(j+1)+1=i+1+j+1 by omega] at this
   exact this
  refine⟨ρ',?_,by rw[show i+(d::ds).length=i+1+ds.length by simp;omega];exact h'⟩
  unfold iT;rw[e1];simp only[zA,e2];exact e
theorem ka {τ:DTg}{g:DG}(I:Nat->aA->Prop){ds:List D}{ρ:aA}(h0:I 0 ρ) (st:∀ j d ρ,ds[j]?=some d->I j ρ->∃ ρ1 ρ2,τ d ρ=some ρ1/\g ρ1=some (.nx ρ2)/\I (j+1) ρ2):∃ ρ',iT τ g ds ρ=some (.nx ρ')/\I ds.length ρ':=by
 have:=qdF (τ:=τ) (g:=g) I ds 0 ρ h0 (fun j d ρ hj hI=>by rw[Nat.zero_add] at hI ⊢;exact st j d ρ hj hI)
 rw[Nat.zero_add] at this;exact this
theorem qa3 {α:Type}{xs:List α}{z:Int}(h0:0<=z) (h1:z<xs.length):∃ v,atI xs z=some v/\v∈xs:=by
 have hz:z.toNat<xs.length:=by omega
 refine⟨xs[z.toNat],?_,List.getElem_mem hz⟩;have e:((z.toNat:Nat):Int)=z:=by omega
 have:=qii (xs:=xs) (j:=z.toNat) (v:=xs[z.toNat]) (by simp[hz])
 rw[e] at this;exact this
theorem qa4 {xs:List Int}{z:Int}(h0:0<=z) (h1:z<xs.length):∃ v,atI (xs.map D.int) z=some (.int v):=by
 obtain⟨v,e,hm⟩:=qa3 (xs:=xs) h0 h1;exact⟨v,by rw[nO,e];rfl⟩
theorem qa2 {xs:List Str}{z:Int}(h0:0<=z) (h1:z<xs.length):∃ v,atI (xs.map D.str) z=some (.str v)/\v∈xs:=by
 obtain⟨v,e,hm⟩:=qa3 (xs:=xs) h0 h1;exact⟨v,by rw[nO,e];rfl,hm⟩
theorem qaI {n:Nat}{z:Int}(h0:0<=z) (h1:z<n):ixN n z=some z.toNat:=by unfold ixN;rw[if_pos h0,if_pos h1]
theorem i5 {lo:Int}{n j:Nat}{d:D}(h:(gi lo n)[j]?=some d):j<n/\d=.int (lo+j):=by
 unfold gi at h;rw[zM] at h;cases q:(List.range n)[j]? with
 | none=>rw[q] at h;cases h
 | some k=>
  rw[q] at h;cases h;obtain⟨h1,h2⟩:=zC.mp q;have:k=j:=by simpa using h2.symm
  subst this;exact⟨by simpa using h1,rfl⟩
theorem dM (lo:Int) (n:Nat):(gi lo n).length=n:=by simp[gi]
theorem qaH {ρ:aA}{τ:DTg}{fe:DF}{h:D->D}:∀ {ds:List D},(∀ d∈ds,∃ ρ1,τ d ρ=some ρ1/\fe ρ1=some (h d))->lcD ρ τ gf fe ds=some (ds.map h)
 | [],_=>rfl
 | d::ds,hd=>by
  obtain⟨ρ1,e1,e2⟩:=hd d zD;unfold lcD;rw[e1];simp only[gf,zA,if_true,e2];rw[qaH fun d h=>hd d (zB _ h)]
  rfl
theorem bf:cH=1000000:=rfl
theorem qjY {α:Type}(xs:List α) (l h:Option Int):(cut xs l h).length<=xs.length:=by
 unfold cut;rw[List.length_take,List.length_drop];omega
end L2
end
noncomputable section
namespace L2
open PySem
end L2
end
noncomputable section
namespace L2
open PySem
theorem aH {g h:DG}{ρ ρ':aA}(e:g ρ=some (.nx ρ')):ad g h ρ=h ρ':=by simp only[ad,e,zA]
theorem dU {t:DT}{g h:DG}{ρ:aA}(e:t ρ=some false):sIf t g h ρ=h ρ:=by simp[sIf,e]
theorem fB {t:DT}{g h:DG}{ρ:aA}(e:t ρ=some true):sIf t g h ρ=g ρ:=by simp[sIf,e]
theorem lQ {i:Nat}{f:DF}{ρ:aA}{d:D}(e:f ρ=some d):aF i f ρ=some (.nx (ρ.set i (some d))):=by simp only[aF,e,zT]
theorem cy {f:DF}{ρ:aA}{d:D}(e:f ρ=some d):bc f ρ=some (.rt d):=by simp only[bc,e,zT]
theorem aP {o:D->D->Option D}{f g:DF}{ρ:aA}{x y:D}(e1:f ρ=some x) (e2':g ρ=some y):e2 o f g ρ=o x y:=by simp only[e2,e1,e2',zA]
theorem ms {f:DF}{ρ:aA}{b:Bool}(e:f ρ=some (.bl b)):tB1 f ρ=some b:=by simp only[tB1,e,zA]
theorem qcV {f:DL}{src:List (Option Nat)}{τ:DTg}{ft:DT}{fe:DF}{ρ:aA}{ds rs:List D}(e:f ρ=some ds) (hz:ds.length<=cH) (h:lcD (gv src ρ) τ ft fe ds=some rs):fLC f src τ ft fe ρ=some rs:=by simp only[fLC,e,zA,hz,if_true,h]
theorem qf4 {f:DF}{ρ:aA}{z:Int}(e:f ρ=some (.int z)) (h : -(2 ^ 62)<=z/\z<2 ^ 62):iR1 f ρ=some (gi 0 z.toNat):=by
 simp only[iR1,e,zA];rw[if_pos h]
theorem qdd {n:Nat}(h:n<=100000) : -(2 ^ 62)<=(n:Int)/\(n:Int)<2 ^ 62:=
 ⟨Int.le_trans (by decide) (Int.natCast_nonneg _),Int.lt_of_le_of_lt (Int.ofNat_le.mpr h) (by decide)⟩
theorem qdM {ds:List D}(h:iX ds 179=true):dOk (.lst ds) 180=true:=by simp only[dOk];rw[show 180-1=179 by rfl,h];rfl
end L2
end
noncomputable section
namespace L2
open PySem
theorem qkZ {i j:Int}(h : -(2 ^ 64)<j/\j<2 ^ 64):ij (.int i) (.int j)=some (.int (i*j)):=by simp only[ij];rw[if_pos (.inr h)]
theorem qfJ {i j:Int}(h : -(2 ^ 64)<i/\i<2 ^ 64):ij (.int i) (.int j)=some (.int (i*j)):=by simp only[ij];rw[if_pos (.inl h)]
theorem gj {i j:Int}(h:0<j):br (.int i) (.int j)=some (.int (i%j)):=by simp only[br];rw[if_pos h]
theorem kW {i j:Int}(h:0<j/\j<2 ^ 64):cM (.int i) (.int j)=some (.int (i/j)):=by simp only[cM];rw[if_pos h]
theorem lC {i j:Int}:aj (.int i) (.int j)=some (.int (i+j)):=rfl
theorem qkw {i j:Int}:ph (.int i) (.int j)=some (.int (i-j)):=rfl
theorem eqI {i j:Int}:oEq (.int i) (.int j)=some (.bl (i==j)):=rfl
theorem eqB {i j:Bool}:oEq (.bl i) (.bl j)=some (.bl (i==j)):=rfl
theorem eqS {i j:Str}:oEq (.str i) (.str j)=some (.bl (i==j)):=rfl
theorem neI {i j:Int}:oNe (.int i) (.int j)=some (.bl (!(i==j))):=rfl
theorem neS {i j:Str}:oNe (.str i) (.str j)=some (.bl (!(i==j))):=rfl
theorem ltI {i j:Int}:oLt (.int i) (.int j)=some (.bl (decide (i<j))):=rfl
theorem gtI {i j:Int}:oGt (.int i) (.int j)=some (.bl (decide (j<i))):=rfl
theorem ixL {xs:List D}{i:Int}:oIx (.lst xs) (.int i)=atI xs i:=rfl
theorem ixT {xs:List D}{i:Int}:oIx (.tup xs) (.int i)=atI xs i:=rfl
theorem qhS {xs:List D}:bF [.lst xs]=some (.int xs.length):=rfl
theorem qjw {xs:List D}:bF [.tup xs]=some (.int xs.length):=rfl
theorem geI {i j:Int}:oGe (.int i) (.int j)=some (.bl (decide (j<=i))):=rfl
theorem mY (xs:List Int) (n:Nat) (v:Int):(xs.map D.int).set n (.int v)=(xs.set n v).map D.int:=by rw[List.map_set]
end L2
end
noncomputable section
namespace L2
open PySem
noncomputable abbrev qlN:Str:=Str.ofString "any"
noncomputable abbrev qkD:Str:=Str.ofString "text"
noncomputable abbrev qaq:Str:=Str.ofString "has"
noncomputable abbrev qkF:Str:=Str.ofString "both"
noncomputable abbrev qfa:Str:=Str.ofString "one"
noncomputable abbrev qap:Str:=Str.ofString "inner"
noncomputable abbrev qlL:Str:=Str.ofString "own"
noncomputable abbrev nl:D :=.tup [.str qlN]
noncomputable abbrev lK (x:Str):D :=.tup [.str qkD,.str x]
noncomputable abbrev qiI (ss:List D):D :=.tup [.str qaq,.lst ss]
noncomputable abbrev jP (way nm:Str) (w:D):D :=.tup [.str way,.str nm,w]
end L2
end
noncomputable section
namespace L2
open PySem PySem.Builtin PySem.Builtin.Str
noncomputable def S (l:List Nat):Str:=⟨l.toArray⟩
theorem dB (l:List Nat):(S l).length=l.length:=by show l.toArray.size=_;simp
theorem fm (l:List Nat):(S l).cps.toList=l:=by simp[S]
theorem qlp (a b:List Nat):S a++S b=S (a++b):=by
 show (⟨a.toArray++b.toArray⟩:Str)=⟨(a++b).toArray⟩;simp
theorem qgw (x:Str):x=S x.cps.toList:=by cases x;simp[S]
theorem qgx {a b:List Nat}(h:S a=S b):a=b:=by
 have:=congrArg (fun x:Str=>x.cps.toList) h
 simpa [S] using this
theorem kN (a b:List Nat):(S a==S b)=(a==b):=by
 by_cases h:a=b
 ·subst h;simp
 ·rw[beq_eq_false_iff_ne.mpr h,beq_eq_false_iff_ne.mpr fun z=>h (qgx z)]
theorem n8 (l:List Nat) (i j:Nat) (hij:i<=j) (hi:i<=l.length):Txt.slice (S l) (some (i:Int)) (some (j:Int))=S ((l.drop i).take (j-i)):=by
 by_cases hj:j<=l.length
 ·have h:=PyProof.Rows.slice_closes (x:=S l) (i:=i) (j:=j) ⟨by omega,by omega,by rw[fm];omega⟩
  rw[eq_of_beq h,fm];have e1:((i:Int)).toNat=i:=by omega
  have e2:((j:Int)-(i:Int)).toNat=j-i:=by omega
  rw[e1,e2];rfl
 ·have e:Txt.slice (S l) (some (i:Int)) (some (j:Int))=Txt.slice (S l) (some (i:Int)) (some (l.length:Int)):=by
   unfold Txt.slice strSliceIndices;rw[dB];have h1:min (j:Int) (l.length:Int)=l.length:=by omega
   have h2:¬ ((j:Int)<0):=by omega
   have h3:¬ ((l.length:Int)<0):=by omega
   simp only[h1,h2,h3,if_false,Int.min_self,show ((1:Int) > 0) from by decide,if_true]
  rw[e];have h:=PyProof.Rows.slice_closes (x:=S l) (i:=i) (j:=l.length) ⟨by omega,by omega,by rw[fm];omega⟩
  rw[eq_of_beq h,fm];have e1:((i:Int)).toNat=i:=by omega
  have e2:((l.length:Int)-(i:Int)).toNat=l.length-i:=by omega
  rw[e1,e2];show S _=S _
  congr 1
  rw[List.take_of_length_le (by simp),List.take_of_length_le (by simp;omega)]
theorem pD (x:Str) (l u:Option Int){c:Nat}(h:c∈(Txt.slice x l u).cps.toList):c∈x.cps.toList:=by
 unfold Txt.slice at h
 split at h
 ·exact h
 ·simp only[List.mem_filterMap] at h;obtain⟨i,_,e⟩:=h;rw[<- Array.getElem?_toList] at e;exact List.mem_of_getElem? e
noncomputable def gy (sep:List Nat):List (List Nat)->List Nat
 | []=>[]
 | [x]=>x
 | x::y::r=>x++sep++gy sep (y::r)
theorem oJ (sep:List Nat):∀ (ls:List (List Nat)) (acc:List Nat),(ls.map S).foldl (fun (a:Array Nat) (p:Str)=>a++(S sep).cps++p.cps) acc.toArray=(acc++(ls.map fun x=>sep++x).flatten).toArray
 | [],acc=>by simp
 | x::ls,acc=>by
  rw[List.map_cons,List.foldl_cons];have:acc.toArray++(S sep).cps++(S x).cps=(acc++sep++x).toArray:=by simp[S]
  rw[this,oJ sep ls];simp
theorem im (sep:List Nat):∀ (x:List Nat) (ls:List (List Nat)),gy sep (x::ls)=x++(ls.map fun y=>sep++y).flatten
 | x,[]=>by simp[gy]
 | x,y::ls=>by rw[gy,im sep y ls];simp
theorem qdD (sep:List Nat) (ls:List (List Nat)):glued (S sep) (ls.map S)=S (gy sep ls):=by
 cases ls with
 | nil=>rfl
 | cons x ls=>unfold glued;rw[List.map_cons,List.drop_succ_cons,List.drop_zero,List.headD_cons];show (⟨(ls.map S).foldl _ x.toArray⟩:Str)=_;rw[oJ,im];rfl
theorem iQ:∀ ls:List (List Nat),gy [] ls=ls.flatten
 | []=>rfl
 | x::ls=>by rw[im];simp
noncomputable def cW (ls:List (List Nat)):Nat:=(ls.map List.length).sum
theorem qbM (sep:List Nat):∀ (ls:List (List Nat)) (k:Nat),(ls.map S).foldl (fun a x=>a+x.length+(S sep).length) k=k+cW ls+ls.length*sep.length
 | [],k=>by simp[cW]
 | x::ls,k=>by rw[List.map_cons,List.foldl_cons,qbM sep ls,dB,dB];simp[cW,Nat.add_mul];omega
theorem mM (sep:List Nat) (ls:List (List Nat)):(gy sep ls).length<=cW ls+ls.length*sep.length:=by
 cases ls with
 | nil=>simp[gy]
 | cons x ls=>
  rw[im,List.length_append];have:∀ ls:List (List Nat),((ls.map fun y=>sep++y).flatten).length=cW ls+ls.length*sep.length:=by
   intro ls
   induction ls with
   | nil=>simp[cW]
   | cons y ls ih=>simp[cW,Nat.add_mul] at ih ⊢;omega
  rw[this];simp[cW,Nat.add_mul];omega
theorem qdB {sep:List Nat}{ls:List (List Nat)}(h:cW ls+ls.length*sep.length<=cH):fX (.str (S sep)) (.lst (ls.map fun l=>D.str (S l)))=some (.str (S (gy sep ls))):=by
 have e1:(ls.map fun l=>D.str (S l)).all qaJ=true:=by
  rw[List.all_eq_true];intro x hx;obtain⟨l,_,rfl⟩:=List.mem_map.mp hx
  rfl
 have e2:(ls.map fun l=>D.str (S l)).map qdY=ls.map S:=by simp[qdY]
 have e3:mL (S sep) (ls.map S)<=cH:=by unfold mL;rw[qbM];omega
 have e4:(glued (S sep) (ls.map S)).length<=cH:=by rw[qdD,dB];exact yA (mM sep ls) h
 simp only[fX];rw[e2,if_pos (by rw[e1,decide_eq_true e3,decide_eq_true e4];rfl),qdD]
theorem cN {a b:List Nat}(h:a.length+b.length<=cH):aj (.str (S a)) (.str (S b))=some (.str (S (a++b))):=by
 simp only[aj];rw[dB,dB,if_pos h,qlp]
end L2
end
noncomputable section
namespace K15
open PySem L2
noncomputable def hJ:DG:=
  (ad (aF 7 (e2 br (eV 6) (al bF (aC (eV 5) aN))))
    (ad (sIf (tB1 (e2 oGe (eV 6) (eV 1)))
    (my 4 (e2 br (e2 oIx (eV 5) (eV 7)) (eK (.int 2147483587))))
    aV)
    (qbs 5 (eV 7) (e2 cM (e2 oIx (eV 5) (eV 7)) (eK (.int 2147483587))))))
noncomputable def jd:DG:=
  (ad (aF 8 (e2 aj (e2 ij (e2 ij (e2 aj (eV 6) (eV 1)) (e2 aj (eV 6) (eV 1))) (eK (.int 7919))) (eK (.int 104729))))
   (ad (aF 9 (e2 br (e2 ij (e2 aj (e2 br (e2 oIx (eV 3) (e2 br (eV 6) (al bF (aC (eV 3) aN)))) (eK (.int 2147483647))) (eV 8)) (eK (.int 48271))) (eK (.int 2147483647))))
   (ad (aF 9 (e2 br (e2 aj (e2 ij (eV 9) (eV 9)) (e2 ij (eK (.int 69621)) (eV 6))) (eK (.int 2147483629))))
   (my 4 (e2 br (e2 ij (eV 9) (eV 9)) (eK (.int 2147483587)))))))
noncomputable def lZ:DG:=
  (ad (aF 3 (e2 aj (eF (fSl (eV 0) pN (pS (eK (.int 63))))) (eF (bj (aC (eV 1) aN)))))
  (ad (gc 4 (bj aN))
  (ad (sIf (tB1 (e2 oEq (e2 br (e2 cM (e2 oIx (eV 3) (eK (.int 0))) (eK (.int 50000))) (eK (.int 2))) (eK (.int 1))))
  (ad (gc 5 (fLC (iL (eV 3)) [none] (gN 0) gf (e2 cM (eV 0) (eK (.int 100000)))))
   (ad (gx (iR1 (e2 aj (eV 1) (eV 2))) (gN 6)
   hJ)
   (oa 4)))
  aV)
  (ad (gx (iR1 (eV 2)) (gN 6)
  jd)
  (oa 4)))))
noncomputable def gs:List D->Option (List D):=qd6 3 10 lZ
noncomputable def qbN:DG:=
  (ad (sIf (tB1 (e2 oEq (eV 0) (eF (bj aN))))
  (ck (mP (eK (.int 0))))
  aV)
  (ck (qfN 0)))
noncomputable def ge:List D->Option (D×List D):=mz 1 1 0 qbN
noncomputable def oI:DG:=
  (ad (aF 2 (eK (.str (Str.ofString "abcdefghijklmnopqrstuvwxyz"))))
  (ad (aF 3 (e2 fX (eK (.str (Str.ofString ""))) (eF (fLC (iR1 (e2 br (eV 1) (eK (.int 5)))) [none,some 2,some 1] (gN 0) gf (e2 oIx (eV 1) (e2 br (e2 aj (e2 cM (eV 2) (eK (.int 150))) (e2 ij (eV 0) (eV 0))) (eK (.int 26))))))))
  (ad (aF 4 (e2 br (e2 cM (eV 1) (eK (.int 5))) (e2 aj (al bF (aC (eV 3) aN)) (eK (.int 1)))))
  (bc (e2 aj (e2 aj (aW (eV 3) pN (pS (eV 4))) (e2 oIx (eV 2) (e2 br (e2 aj (eV 0) (eV 1)) (eK (.int 26))))) (aW (eV 3) (pS (eV 4)) pN))))))
noncomputable def jB:List D->Option D:=du 2 5 oI
noncomputable def lY:DG:=
  (qbr (fLC (iR1 (e2 aj (eK (.int 1)) (e2 br (e2 cM (eV 0) (eK (.int 7))) (eK (.int 4))))) [none,some 0] (gN 0) gf (al jB (aC (eV 0) (aC (eV 1) aN)))))
noncomputable def iH:List D->Option D:=du 1 1 lY
noncomputable def oH:DG:=
  (ad (aF 1 (eF (bj (aC (eK (.str (Str.ofString ""))) (aC (eK (.str (Str.ofString "x"))) (aC (eK (.str (Str.ofString "any"))) (aC (eK (.str (Str.ofString "\""))) (aC (eK (.str (Str.ofString "\\"))) (aC (eK (.str (Str.ofString "\\q"))) (aC (eK (.str (Str.ofString "a b"))) (aC (eK (.str (Str.ofString "]"))) aN)))))))))))
  (bc (e2 oIx (eV 1) (e2 br (eV 0) (al bF (aC (eV 1) aN))))))
noncomputable def kl:List D->Option D:=du 1 2 oH
noncomputable section
variable {P:Program}{w:World}{K:Frag}{mg:Str->Option Value}{base:Heap}{f:Addr}{fd:FuncData}
end
end K15
end
noncomputable section
namespace K15
open PySem L2
noncomputable def js (gn:List D->Option (D×List D)) (cK:List D->Option (D×List D)):DG:=
  (ad (jT 3 (dE ge 0 aN))
  (ad (aF 4 (e2 br (eV 3) (eK (.int 8))))
  (ad (sIf (dh (tB1 (e2 oEq (eV 4) (eK (.int 2)))) (tB1 (e2 oEq (eV 4) (eK (.int 3)))))
  (ck (mP (bA (aC (eK (.str (Str.ofString "text"))) (aC (al kl (aC (e2 cM (eV 3) (eK (.int 8))) aN)) aN)))))
  aV)
  (ad (sIf (dh (tB1 (e2 oLt (eV 4) (eK (.int 2)))) (tB1 (e2 oEq (eV 2) (eK (.int 0)))))
  (ck (mP (bA (aC (eK (.str (Str.ofString "any"))) aN))))
  aV)
  (ad (sIf (tB1 (e2 oLt (eV 4) (eK (.int 6))))
  (ck (qaD (mAC (mP (eK (.str (Str.ofString "has")))) (mAC (dE cK 0 (aC (eV 1) (aC (e2 ph (eV 2) (eK (.int 1))) aN))) mAN))))
  aV)
  (ad (aF 5 (e2 oIx (eF (bj (aC (eK (.int 2)) (aC (eK (.int 1)) (aC (eK (.int 0)) (aC (eK (.int 3)) aN)))))) (e2 br (e2 cM (eV 3) (eK (.int 8))) (eK (.int 4)))))
  (ck (qaD (mAC (mP (e2 oIx (eF (bj (aC (eK (.str (Str.ofString "both"))) (aC (eK (.str (Str.ofString "one"))) aN)))) (e2 ph (eV 4) (eK (.int 6))))) (mAC (mLC (iR1 (eV 5)) [none,some 0,some 1,some 2] (gN 0) (dE gn 1 (aC (eV 2) (aC (e2 ph (eV 3) (eK (.int 1))) aN))) 1 0) mAN))))))))))
noncomputable def jc (gn:List D->Option (D×List D)) (cK:List D->Option (D×List D)):DG:=
  (ad (jT 5 (dE ge 0 aN))
   (ad (aF 6 (e2 oIx (e2 aj (eV 1) (eF (bj (aC (eK (.str (Str.ofString "*"))) aN)))) (e2 br (e2 cM (eV 5) (eK (.int 2))) (e2 aj (al bF (aC (eV 1) aN)) (eK (.int 1))))))
   (qbt 3 (qaD (mAC (mP (e2 oIx (eF (bj (aC (eK (.str (Str.ofString "inner"))) (aC (eK (.str (Str.ofString "own"))) aN)))) (e2 br (eV 5) (eK (.int 2))))) (mAC (mP (eV 6)) (mAC (dE gn 0 (aC (eV 1) (aC (eV 2) aN))) mAN)))))))
noncomputable def ku (gn:List D->Option (D×List D)) (cK:List D->Option (D×List D)):DG:=
  (ad (gc 3 (bj aN))
  (ad (og (iRM (m2 oIx (mP (eF (bj (aC (eK (.int 1)) (aC (eK (.int 1)) (aC (eK (.int 2)) (aC (eK (.int 3)) aN))))))) (m2 br (dE ge 0 aN) (mP (eK (.int 4)))))) (gN 4)
  (jc gn cK))
  (mx 3)))
mutual
noncomputable def cu:Nat->List D->Option (D×List D)
 | 0=>fun _=>none
 | n+1=>mz 3 6 0 (js (cu n) (cx n))
noncomputable def cx:Nat->List D->Option (D×List D)
 | 0=>fun _=>none
 | n+1=>mz 3 7 0 (ku (cu n) (cx n))
end
noncomputable section
variable {P:Program}{w:World}{K:Frag}{mg:Str->Option Value}{base:Heap}{f:Addr}{fd:FuncData}
end
end K15
end
noncomputable section
namespace K15
open PySem L2
end K15
end
noncomputable section
namespace K15
open PySem L2
noncomputable section
variable {P:Program}{w:World}{K:Frag}{mg:Str->Option Value}{base:Heap}{f:Addr}{fd:FuncData}
end
end K15
end
noncomputable section
namespace K15
open PySem L2
end K15
end
noncomputable section
namespace K15
open PySem L2
noncomputable def bb (bM:List D->Option D) (dS:List D->Option D):DG:=
  (ad (sIf (tB1 (e2 oEq (e2 oIx (eV 0) (eK (.int 0))) (eK (.str (Str.ofString "any")))))
  (bc (eK (.str (Str.ofString "any"))))
  aV)
  (ad (sIf (tB1 (e2 oEq (e2 oIx (eV 0) (eK (.int 0))) (eK (.str (Str.ofString "text")))))
  (ad (aF 1 (eK (.dic [Sum.inr (Str.ofString "\""),Sum.inr (Str.ofString "\\")] [.str (Str.ofString "\\q"),.str (Str.ofString "\\\\")])))
   (bc (e2 aj (e2 aj (eK (.str (Str.ofString "\""))) (e2 fX (eK (.str (Str.ofString ""))) (eF (fLC (iS (e2 oIx (eV 0) (eK (.int 1)))) [none,some 1] (gN 0) gf (oO (eV 1) (eV 0) (eV 0)))))) (eK (.str (Str.ofString "\""))))))
  aV)
  (ad (sIf (tB1 (e2 oEq (e2 oIx (eV 0) (eK (.int 0))) (eK (.str (Str.ofString "has")))))
  (bc (al dS (aC (e2 oIx (eV 0) (eK (.int 1))) aN)))
  aV)
  (ad (aF 2 (e2 oIx (eF (bj (aC (eK (.str (Str.ofString "&"))) (aC (eK (.str (Str.ofString "+"))) aN)))) (al dD (aC (e2 oEq (e2 oIx (eV 0) (eK (.int 0))) (eK (.str (Str.ofString "one")))) aN))))
  (ad (aF 3 (eF (fLC (iL (e2 oIx (eV 0) (eK (.int 1)))) [none] (gN 0) gf (al bM (aC (eV 0) aN)))))
  (ad (sIf (tB1 (e2 oEq (eV 3) (eF (bj aN))))
  (bc (e2 aj (e2 aj (eK (.str (Str.ofString "("))) (eV 2)) (eK (.str (Str.ofString ")")))))
  aV)
  (ad (sIf (tB1 (e2 oEq (al bF (aC (eV 3) aN)) (eK (.int 1))))
  (bc (e2 aj (e2 aj (e2 aj (e2 aj (eK (.str (Str.ofString "("))) (eV 2)) (eK (.str (Str.ofString " ")))) (e2 oIx (eV 3) (eK (.int 0)))) (eK (.str (Str.ofString ")")))))
  aV)
  (bc (e2 aj (e2 aj (eK (.str (Str.ofString "("))) (e2 fX (e2 aj (e2 aj (eK (.str (Str.ofString " "))) (eV 2)) (eK (.str (Str.ofString " ")))) (eV 3))) (eK (.str (Str.ofString ")"))))))))))))
noncomputable def kf (bM:List D->Option D) (dS:List D->Option D):DG:=
  (ad (aF 1 (e2 aj (e2 aj (eV 1) (e2 oIx (eF (bj (aC (eK (.str (Str.ofString "/"))) (aC (eK (.str (Str.ofString "//"))) aN)))) (al dD (aC (e2 oEq (eV 2) (eK (.str (Str.ofString "inner")))) aN)))) (eV 3)))
   (sIf (tB1 (e2 oNe (eV 4) (bA (aC (eK (.str (Str.ofString "any"))) aN))))
   (aF 1 (e2 aj (e2 aj (e2 aj (eV 1) (eK (.str (Str.ofString "[")))) (al bM (aC (eV 4) aN))) (eK (.str (Str.ofString "]")))))
   aV))
noncomputable def lm (bM:List D->Option D) (dS:List D->Option D):DG:=
  (ad (aF 1 (eK (.str (Str.ofString ""))))
  (ad (gx (iL (eV 0)) (gN3 2 3 4)
  (kf bM dS))
  (bc (eV 1))))
mutual
noncomputable def bn:Nat->List D->Option D
 | 0=>fun _=>none
 | n+1=>du 1 4 (bb (bn n) (dY n))
noncomputable def dY:Nat->List D->Option D
 | 0=>fun _=>none
 | n+1=>du 1 5 (lm (bn n) (dY n))
end
noncomputable section
variable {P:Program}{w:World}{K:Frag}{mg:Str->Option Value}{base:Heap}{f:Addr}{fd:FuncData}
end
end K15
end
noncomputable section
namespace K15
open PySem L2
end K15
end
noncomputable section
namespace K15
open PySem L2
end K15
end
noncomputable section
namespace K15
open PySem L2
theorem c42:Str.ofString "*" = S [42]:=by decide +kernel
theorem c47:Str.ofString "/" = S [47]:=by decide +kernel
theorem c91:Str.ofString "[" = S [91]:=by decide +kernel
theorem c93:Str.ofString "]" = S [93]:=by decide +kernel
theorem c40:Str.ofString "(" = S [40]:=by decide +kernel
theorem c41:Str.ofString ")" = S [41]:=by decide +kernel
theorem c32:Str.ofString " " = S [32]:=by decide +kernel
theorem c34:Str.ofString "\"" = S [34]:=by decide +kernel
theorem c92:Str.ofString "\\" = S [92]:=by decide +kernel
theorem c0:Str.ofString "" = S []:=by decide +kernel
theorem qif:Str.ofString "any" = S [97,110,121]:=by decide +kernel
noncomputable def oM (c:Nat):List Nat:=if c=34 then [92,113] else if c=92 then [92,92] else [c]
noncomputable def esc (x:List Nat):List Nat:=(x.map oM).flatten
noncomputable def qiT (c:Nat):Prop:=32<=c/\c<=126/\c≠37
end K15
end
noncomputable section
namespace K15
open PySem L2
noncomputable def NmL (x:List Nat):Prop:=x=[42]∨(x≠[]/\x.length<=10/\∀ c∈x,97<=c/\c<=122)
noncomputable def fu (inner:Bool):List Nat:=if inner then [47,47] else [47]
noncomputable def gB (inner:Bool):Str:=if inner then qap else qlL
noncomputable section
variable {Fs Fp Fw Fl Fh:List D->Option (D×D)}
end
end K15
end
noncomputable section
namespace K15
open PySem L2
noncomputable def qaK:D->Bool
 | .tup [.str _]=>true
 | _=>false
noncomputable def tW0:D->List Nat
 | .tup [.str _,.str x]=>34::esc x.cps.toList++[34]
 | _=>[97,110,121]
noncomputable def tS (f:D->List Nat):D->List Nat
 | .tup [.str wy,.str nm,w]=>fu (wy==qap)++nm.cps.toList++(if qaK w then [] else 91::f w++[93])
 | _=>[]
noncomputable def jD (m:Nat):List (List Nat)->List Nat
 | []=>[40,m,41]
 | [x]=>40::m::32::x++[41]
 | x::y::r=>40::gy [32,m,32] (x::y::r)++[41]
noncomputable def tW:Nat->D->List Nat
 | 0,d=>tW0 d
 | n+1,d=>match d with
  | .tup [.str k,.lst ds]=>if k=qaq then (ds.map (tS (tW n))).flatten else jD (if k=qfa then 43 else 38) (ds.map (tW n))
  | d=>tW0 d
noncomputable abbrev tSs (n:Nat) (ss:List D):List Nat:=(ss.map (tS (tW n))).flatten
noncomputable def mq:List (List Nat):=[[],[120],[97,110,121],[34],[92],[92,113],[97,32,98],[93]]
noncomputable abbrev TxL (x:List Nat):Prop:=x∈mq
noncomputable def fE (one:Bool):Str:=if one then qfa else qkF
noncomputable def WqW:Nat->D->Prop
 | 0,d=>d=nl∨∃ x,TxL x/\d=lK (S x)
 | n+1,d=>d=nl∨(∃ x,TxL x/\d=lK (S x))∨(∃ ss,d=qiI ss/\1<=ss.length/\ss.length<=3/\∀ s∈ss,∃ inner x w,s=jP (gB inner) (S x) w/\NmL x/\WqW n w) ∨
   (∃ one ws,d=.tup [.str (fE one),.lst ws]/\ws.length<=3/\∀ w∈ws,WqW n w)
noncomputable def WqS (n:Nat) (s:D):Prop:=∃ inner x w,s=jP (gB inner) (S x) w/\NmL x/\WqW n w
theorem jM {x:List Nat}(h:TxL x):(∀ c∈x,qiT c)/\x.length<=3:=by
 simp only[TxL,mq,zG,List.not_mem_nil,or_false] at h;rcases h with rfl|rfl|rfl|rfl|rfl|rfl|rfl|rfl<;>refine⟨fun c hc =>?_,by decide⟩<;>simp at hc<;>(try rcases hc with rfl|rfl|rfl)<;>(try rcases hc with rfl|rfl)<;>(try subst hc)<;>exact⟨by decide,by decide,by decide⟩
theorem qiH (inner:Bool):(gB inner==qap)=inner:=by cases inner<;>decide +kernel
theorem qjH (one:Bool):¬ fE one=qaq:=by cases one<;>decide +kernel
theorem qk1 (one:Bool):(fE one=qfa)↔one=true:=by
 cases one
 ·exact⟨fun h=>absurd h (by decide +kernel),fun h=>by cases h⟩
 ·exact⟨fun _=>rfl,fun _=>rfl⟩
noncomputable def dz (one:Bool):Nat:=if one then 43 else 38
theorem mr (n:Nat):tW n nl=[97,110,121]:=by cases n<;>rfl
theorem iu (n:Nat) (x:List Nat):tW n (lK (S x))=34::esc x++[34]:=by
 have e:tW0 (lK (S x))=34::esc x++[34]:=by show 34::esc (S x).cps.toList++[34]=_;rw[fm]
 cases n<;>exact e
theorem qaf (n:Nat) (ss:List D):tW (n+1) (qiI ss)=tSs n ss:=by
 show (if qaq=qaq then tSs n ss else jD (if qaq=qfa then 43 else 38) (ss.map (tW n)))=_
 rw[if_pos rfl]
theorem qae (n:Nat) (one:Bool) (ws:List D):tW (n+1) (.tup [.str (fE one),.lst ws])=jD (dz one) (ws.map (tW n)):=by
 show (if fE one=qaq then _ else jD (if fE one=qfa then 43 else 38) (ws.map (tW n)))=_
 rw[if_neg (qjH one)]
 congr 1
 cases one
 ·rw[if_neg (by decide +kernel)];rfl
 ·rw[if_pos (by decide +kernel)];rfl
theorem nw (f:D->List Nat) (inner:Bool) (x:List Nat) (w:D):tS f (jP (gB inner) (S x) w)=fu inner++x++(if qaK w then [] else 91::f w++[93]):=by
 show fu (gB inner==qap)++(S x).cps.toList++_=_;rw[qiH,fm]
theorem qgR {f:D->List Nat}{inner:Bool}{x:List Nat}{w:D}(r:List Nat):(tS f (jP (gB inner) (S x) w)++r).head? = some 47:=by
 rw[nw];cases inner<;>rfl
theorem qgP {n:Nat}{w:D}(h:WqW n w):∃ c r,tW n w=c::r/\((c=97/\w=nl)∨((c=34∨c=47∨c=40)/\qaK w=false)):=by
 cases n with
 | zero=>
  rcases h with rfl|⟨x,_,rfl⟩
  ·exact⟨97,_,rfl,.inl ⟨rfl,rfl⟩⟩
  ·exact⟨34,_,iu 0 x,.inr ⟨.inl rfl,rfl⟩⟩
 | succ n=>
  rcases h with rfl|⟨x,_,rfl⟩|⟨ss,rfl,h0,_,hs⟩|⟨one,ws,rfl,_,_⟩
  ·exact⟨97,_,rfl,.inl ⟨rfl,rfl⟩⟩
  ·exact⟨34,_,iu _ x,.inr ⟨.inl rfl,rfl⟩⟩
  ·cases ss with
   | nil=>simp at h0
   | cons s ss=>
    obtain⟨inner,x,w,rfl,_⟩:=hs s zD;have:=qgR (f:=tW n) (inner:=inner) (x:=x) (w:=w) (ss.map (tS (tW n))).flatten;rw[qaf];show ∃ c r,tS (tW n) _++(ss.map (tS (tW n))).flatten=c::r/\_;cases e:tS (tW n) (jP (gB inner) (S x) w)++(ss.map (tS (tW n))).flatten with
    | nil=>rw[e] at this;cases this
    | cons c r=>rw[e] at this;cases this;exact⟨47,r,rfl,.inr ⟨.inr (.inl rfl),rfl⟩⟩
  ·rw[qae];refine⟨40,?_⟩;cases ws.map (tW n) with
   | nil=>exact⟨_,rfl,.inr ⟨.inr (.inr rfl),rfl⟩⟩
   | cons x r=>
    cases r with
    | nil=>exact⟨_,rfl,.inr ⟨.inr (.inr rfl),rfl⟩⟩
    | cons y r=>exact⟨_,rfl,.inr ⟨.inr (.inr rfl),rfl⟩⟩
noncomputable section
variable {Fs Fp Fw Fl Fh:List D->Option (D×D)}{n:Nat}
end
end K15
end
noncomputable section
namespace K15
open PySem L2
noncomputable section
variable {Fs Fp Fw Fl Fh:List D->Option (D×D)}{n:Nat}
end
end K15
end
noncomputable section
namespace K15
open PySem L2
noncomputable section
variable {Fs Fp Fw Fl Fh:List D->Option (D×D)}{n:Nat}
end
end K15
end
noncomputable section
namespace K15
open PySem L2
end K15
end
noncomputable section
set_option maxHeartbeats 1000000
namespace K15
open PySem L2
noncomputable def LB:Nat->Nat
 | 0=>10
 | n+1=>3*(LB n+20)+10
theorem qaT (x:List Nat):(esc x).length<=2*x.length:=by
 induction x with
 | nil=>simp[esc]
 | cons c x ih=>
  have:(oM c).length<=2:=by unfold oM;split;simp;split<;>simp
  simp[esc] at ih ⊢;omega
theorem lM {ls:List (List Nat)}{b:Nat}(h:∀ l∈ls,l.length<=b):cW ls<=ls.length*b:=by
 induction ls with
 | nil=>simp[cW]
 | cons l ls ih=>
  have h1:=h l zD;have h2:=ih fun x hx=>h x (zB _ hx)
  simp[cW,Nat.add_mul] at h2 ⊢;omega
theorem oK (ls:List (List Nat)):ls.flatten.length=cW ls:=by simp[cW,List.length_flatten]
theorem qeh {m:Nat}{ls:List (List Nat)}:(jD m ls).length<=cW ls+ls.length*3+4:=by
 match ls with
 | []=>simp[jD]
 | [x]=>simp[jD,cW]
 | x::y::r=>have:=mM [32,m,32] (x::y::r);simp[jD] at this ⊢;omega
theorem qfD {x:List Nat}(h:NmL x):x.length<=10:=by
 rcases h with rfl|⟨_,h,_⟩
 ·simp
 ·exact h
theorem qeO {n:Nat}{s:D}{b:Nat}(hw:∀ w,WqW n w->(tW n w).length<=b) (h:WqS n s):(tS (tW n) s).length<=b+14:=by
 obtain⟨inner,x,w,rfl,hx,hww⟩:=h;rw[nw];have h1:=qfD hx;have h2:=hw w hww;have h3:(fu inner).length<=2:=by cases inner<;>simp[fu]
 split<;>simp<;>omega
theorem nQ:∀ (n:Nat) (w:D),WqW n w->(tW n w).length<=LB n
 | 0,w,h=>by
  rcases h with rfl|⟨x,hx,rfl⟩
  ·rw[mr];decide
  ·rw[iu];have:=qaT x;have:=(jM hx).2;simp[LB];omega
 | n+1,w,h=>by
  have hn:10<=LB (n+1):=by simp[LB]
  rcases h with rfl|⟨x,hx,rfl⟩|⟨ss,rfl,_,h3,hss⟩|⟨one,ws,rfl,h3,hws⟩
  ·rw[mr];simp;omega
  ·rw[iu];have:=qaT x;have:=(jM hx).2;simp;omega
  ·rw[qaf];unfold tSs;rw[oK];have:=lM (ls:=ss.map (tS (tW n))) (b:=LB n+14) fun l hl=>by obtain⟨s,hs,rfl⟩:=List.mem_map.mp hl;exact qeO (nQ n) (hss s hs)
   rw[zH] at this;have h4:ss.length*(LB n+14)<=3*(LB n+14):=Nat.mul_le_mul_right _ h3;simp only[LB];omega
  ·rw[qae];have h5:=qeh (m:=dz one) (ls:=ws.map (tW n));have:=lM (ls:=ws.map (tW n)) (b:=LB n) fun l hl=>by obtain⟨s,hs,rfl⟩:=List.mem_map.mp hl;exact nQ n s (hws s hs)
   rw[zH] at this h5;have h4:ws.length*LB n<=3*LB n:=Nat.mul_le_mul_right _ h3;simp only[LB];omega
theorem qda {n:Nat}{ss:List D}(h3:ss.length<=3) (hss:∀ s∈ss,WqS n s):cW (ss.map (tS (tW n)))<=3*(LB n+14):=by
 have:=lM (ls:=ss.map (tS (tW n))) (b:=LB n+14) fun l hl=>by obtain⟨s,hs,rfl⟩:=List.mem_map.mp hl;exact qeO (nQ n) (hss s hs)
 rw[zH] at this;have h4:ss.length*(LB n+14)<=3*(LB n+14):=Nat.mul_le_mul_right _ h3;omega
theorem LB3 {n:Nat}(h:n<=3):LB n<=1500:=by
 have:n=0∨n=1∨n=2∨n=3:=by omega
 rcases this with rfl|rfl|rfl|rfl<;>decide
theorem qcP {a k:Str}{b:D}{ρ:aA}:tB1 (e2 oEq (e2 oIx (eV 0) (eK (.int 0))) (eK (.str k))) (some (.tup [.str a,b])::ρ)=some (a==k):=rfl
theorem lcW {F:List D->Option D}{ws:List D}{t:D->List Nat}(h:∀ w∈ws,F [w]=some (.str (S (t w)))) (ρ:aA):lcD (none::ρ) (gN 0) gf (al F (aC (eV 0) aN)) ws=some (ws.map fun w=>D.str (S (t w))):=
 qaH (h:=fun w=>D.str (S (t w))) fun d hd=>⟨_,rfl,h d hd⟩
theorem qcD:(qkD==Str.ofString "any")=false:=by decide +kernel
theorem qcE:(qaq==Str.ofString "any")=false:=by decide +kernel
theorem qcC:(qaq==Str.ofString "text")=false:=by decide +kernel
theorem kd1 (one:Bool):(fE one==Str.ofString "any")=false:=by cases one<;>decide +kernel
theorem kd2 (one:Bool):(fE one==Str.ofString "text")=false:=by cases one<;>decide +kernel
theorem kd3 (one:Bool):(fE one==Str.ofString "has")=false:=by cases one<;>decide +kernel
noncomputable section
variable {Fh Fp Fw:List D->Option D}{n:Nat}
noncomputable abbrev ShW (F:List D->Option D) (n:Nat):Prop:=∀ w,WqW n w->F [w]=some (.str (S (tW n w)))
theorem lP {t:DT}{g h:DG}{ρ:aA}(e:t ρ=some false):ad (sIf t g aV) h ρ=h ρ:=by
 rw[aH (ρ':=ρ) (by rw[dU e];rfl)]
theorem qam {t:DT}{f:DF}{h:DG}{ρ:aA}{d:D}(e:t ρ=some true) (ef:f ρ=some d):ad (sIf t (bc f) aV) h ρ=some (.rt d):=by
 have:sIf t (bc f) aV ρ=some (.rt d):=by rw[fB e,cy ef]
 unfold ad;rw[this];rfl
end
end K15
end
noncomputable section
set_option maxHeartbeats 1000000
namespace K15
open PySem L2
noncomputable def aOk:Nat->D->Prop
 | 0,d=>∃ x,d=.str x
 | n+1,d=>(∃ x,d=.str x)∨∃ ds,(d=.lst ds∨d=.tup ds)/\ds.length<=1000/\∀ e∈ds,aOk n e
theorem aOk.str (n:Nat) (x:Str):aOk n (.str x):=by
 cases n with
 | zero=>exact⟨x,rfl⟩
 | succ n=>exact .inl ⟨x,rfl⟩
theorem aOk.up:∀ {n:Nat}{d:D},aOk n d->aOk (n+1) d
 | 0,d,h =>.inl h
 | n+1,d,h=>by
  rcases h with h|⟨ds,h,hl,hd⟩
  ·exact .inl h
  ·exact .inr ⟨ds,h,hl,fun e he=>(hd e he).up⟩
theorem aOk.le {n m:Nat}{d:D}(h:aOk n d) (hm:n<=m):aOk m d:=by
 induction hm with
 | refl=>exact h
 | step _ ih=>exact ih.up
theorem aOk.tup {n:Nat}{ds:List D}(h:∀ e∈ds,aOk n e) (hl:ds.length<=1000):aOk (n+1) (.tup ds) :=.inr ⟨ds,.inr rfl,hl,h⟩
theorem aOk.lst {n:Nat}{ds:List D}(h:∀ e∈ds,aOk n e) (hl:ds.length<=1000):aOk (n+1) (.lst ds) :=.inr ⟨ds,.inl rfl,hl,h⟩
theorem qb9:∀ (n:Nat) (w:D),WqW n w->aOk (3*n+1) w
 | 0,w,h=>by
  rcases h with rfl|⟨x,_,rfl⟩
  ·exact aOk.tup (n:=0) (by intro e he;simp at he;subst he;exact .str _ _) (by simp)
  ·exact aOk.tup (n:=0) (by intro e he;simp at he;rcases he with rfl|rfl<;>exact .str _ _) (by simp)
 | n+1,w,h=>by
  rcases h with rfl|⟨x,_,rfl⟩|⟨ss,rfl,_,h3,hss⟩|⟨one,ws,rfl,h3,hws⟩
  ·exact aOk.tup (by intro e he;simp at he;subst he;exact .str _ _) (by simp)
  ·exact aOk.tup (by intro e he;simp at he;rcases he with rfl|rfl<;>exact .str _ _) (by simp)
  ·refine aOk.tup (n:=3*n+3) (fun e he =>?_) (by simp)
   simp at he;rcases he with rfl|rfl
   ·exact .str _ _
   ·refine aOk.lst (n:=3*n+2) (fun s hs =>?_) (by omega)
    obtain⟨inner,x,w,rfl,_,hww⟩:=hss s hs;refine aOk.tup (n:=3*n+1) (fun e he =>?_) (by simp)
    simp at he;rcases he with rfl|rfl|rfl
    ·exact .str _ _
    ·exact .str _ _
    ·exact qb9 n _ hww
  ·refine aOk.tup (n:=3*n+3) (fun e he =>?_) (by simp)
   simp at he;rcases he with rfl|rfl
   ·exact .str _ _
   ·exact aOk.lst (n:=3*n+2) (fun w hw=>(qb9 n w (hws w hw)).le (by omega)) (by omega)
theorem ml {ds:List D}{m:Nat}(h:∀ e∈ds,dOk e m=true):iX ds m=true:=by
 induction ds with
 | nil=>rfl
 | cons d ds ih=>simp only[iX,h d zD,ih fun e he=>h e (zB _ he),Bool.and_self]
theorem aOk.dOk:∀ {n:Nat}{d:D}(m:Nat),aOk n d->n<=m->L2.dOk d m=true
 | 0,d,m,⟨x,e⟩,_=>by subst e;rfl
 | n+1,d,m,h,hm=>by
  rcases h with ⟨x,rfl⟩|⟨ds,hd,_,he⟩
  ·rfl
  ·cases m with
   | zero=>omega
   | succ m=>
    have:=ml (ds:=ds) (m:=m) fun e h=>(he e h).dOk m (by omega)
    rcases hd with rfl|rfl<;>simp[L2.dOk,this]
theorem qar {f:DL}{τ:DTg}{g:DG}{ρ ρ':aA}{ds:List D}(e:f ρ=some ds) (h:iT τ g ds ρ=some (.nx ρ')):gx f τ g ρ=some (.nx ρ'):=by
 unfold gx;rw[e];exact h
noncomputable section
variable {Fw Fs:List D->Option D}{n:Nat}
end
end K15
end
noncomputable section
set_option maxHeartbeats 1000000
namespace K15
open PySem L2
noncomputable section
variable {Fw Fl:List D->Option D}{n:Nat}
theorem qcQ {x:List Nat}(hx:TxL x){a:Str}{ρ:aA}{d1:Option D} :
  e2 fX (eK (.str (Str.ofString ""))) (eF (fLC (iS (e2 oIx (eV 0) (eK (.int 1)))) [none,some 1] (gN 0) gf (oO (eV 1) (eV 0) (eV 0)))) (some (.tup [.str a,.str (S x)])::some (.dic [Sum.inr (Str.ofString "\""),Sum.inr (Str.ofString "\\")] [.str (Str.ofString "\\q"),.str (Str.ofString "\\\\")])::ρ)=some (.str (S (esc x))):=by
 obtain⟨hs,h3⟩:=jM hx;have hi:iS (e2 oIx (eV 0) (eK (.int 1))) (some (.tup [.str a,.str (S x)])::some (.dic [Sum.inr (Str.ofString "\""),Sum.inr (Str.ofString "\\")] [.str (Str.ofString "\\q"),.str (Str.ofString "\\\\")])::ρ)=some (x.map fun c=>D.str (S [c])):=by
  show (if (S x).cps.all (· < 128)=true then some (jj (S x)) else none)=_
  rw[if_pos (by rw[<- Array.all_toList,fm,List.all_eq_true];intro c hc;have:=(hs c hc).2.1;exact decide_eq_true (by omega))]
  simp[jj,S]
 have hl:lcD (gv [none,some 1] (some (.tup [.str a,.str (S x)])::some (.dic [Sum.inr (Str.ofString "\""),Sum.inr (Str.ofString "\\")] [.str (Str.ofString "\\q"),.str (Str.ofString "\\\\")])::ρ)) (gN 0) gf (oO (eV 1) (eV 0) (eV 0)) (x.map fun c=>D.str (S [c]))=some ((x.map fun c=>D.str (S [c])).map fun d=>match d with|.str y =>.str (S (esc y.cps.toList))|d=>d):=by
  refine qaH fun d hd =>?_
  obtain⟨c,_,rfl⟩:=List.mem_map.mp hd;refine⟨[some (.str (S [c])),some (.dic [Sum.inr (Str.ofString "\""),Sum.inr (Str.ofString "\\")] [.str (Str.ofString "\\q"),.str (Str.ofString "\\\\")])],rfl,?_⟩;show some ((ip [Sum.inr (Str.ofString "\""),Sum.inr (Str.ofString "\\")] [.str (Str.ofString "\\q"),.str (Str.ofString "\\\\")] (Sum.inr (S [c]))).getD (.str (S [c])))=some (.str (S (esc (S [c]).cps.toList)));rw[fm,c34,c92,show Str.ofString "\\q" = S [92,113] by decide +kernel,show Str.ofString "\\\\" = S [92,92] by decide +kernel]
  have e:esc [c]=oM c:=by simp[esc]
  rw[e];have ni:∀ a b:Nat,(Sum.inr (S [a]):Key)=Sum.inr (S [b])↔a=b:=fun a b=>⟨fun h=>by have:=qgx (Sum.inr.inj h);simpa using this,fun h=>by rw[h]⟩
  unfold ip oM;by_cases h34:c=34
  ·subst h34;simp
  ·by_cases h92:c=92
   ·subst h92;simp[ni]
   ·simp[ni,h34,h92,Ne.symm h34,Ne.symm h92]
 have e1:=qcV (f:=iS (e2 oIx (eV 0) (eK (.int 1)))) hi (by rw[zH,bf];omega) hl
 rw[aP (x :=.str (S [])) (y :=.lst ((x.map oM).map fun l=>D.str (S l))) (by rw[<- c0];rfl) (by
  unfold eF;rw[e1];simp only[zT,List.map_map]
  congr 2
  apply List.map_congr_left;intro c _;show D.str (S (esc (S [c]).cps.toList))=D.str (S (oM c));rw[fm];simp[esc])]
 have hz:cW (x.map oM)<=x.length*2:=by
  have:=lM (ls:=x.map oM) (b:=2) fun l hl=>by obtain⟨c,_,rfl⟩:=List.mem_map.mp hl;unfold oM;split;simp;split<;>simp
  rwa [zH] at this
 rw[qdB (by rw[bf];simp;omega),iQ]
 rfl
theorem qfQ:du 1 4 (bb Fw Fl) [nl]=some (.str (S [97,110,121])):=by
 show (bb Fw Fl [some nl,none,none,none]).bind iO=_;unfold bb;rw[qam (d :=.str (S [97,110,121])) rfl (by rw[<- qif];rfl)]
 rfl
theorem qdv {x:List Nat}(hx:TxL x):du 1 4 (bb Fw Fl) [lK (S x)]=some (.str (S (34::esc x++[34]))):=by
 show (bb Fw Fl [some (lK (S x)),none,none,none]).bind iO=_;have hl:=qaT x;have hx3:=(jM hx).2;have hbig:=bf;unfold bb;rw[lP (by rw[qcP,qcD])]
 have e:sIf (tB1 (e2 oEq (e2 oIx (eV 0) (eK (.int 0))) (eK (.str (Str.ofString "text"))))) (ad (aF 1 (eK (.dic [Sum.inr (Str.ofString "\""),Sum.inr (Str.ofString "\\")] [.str (Str.ofString "\\q"),.str (Str.ofString "\\\\")])))
   (bc (e2 aj (e2 aj (eK (.str (Str.ofString "\""))) (e2 fX (eK (.str (Str.ofString ""))) (eF (fLC (iS (e2 oIx (eV 0) (eK (.int 1)))) [none,some 1] (gN 0) gf (oO (eV 1) (eV 0) (eV 0)))))) (eK (.str (Str.ofString "\"")))))) aV [some (lK (S x)),none,none,none]=some (.rt (.str (S ([34]++esc x++[34])))):=by
  rw[fB rfl];rw[aH (ρ':=[some (lK (S x)),some (.dic [Sum.inr (Str.ofString "\""),Sum.inr (Str.ofString "\\")] [.str (Str.ofString "\\q"),.str (Str.ofString "\\\\")]),none,none]) rfl];refine cy ?_;rw[aP (x :=.str (S ([34]++esc x))) (y :=.str (S [34])) (by rw[aP (x :=.str (S [34])) (y :=.str (S (esc x))) (by rw[<- c34];rfl) (qcQ (d1:=none) hx),cN (by simp;omega)]) (by rw[<- c34];rfl),cN (by simp;omega)]
 unfold ad at e ⊢;rw[e]
 rfl
theorem qdX (l:List Str) (m:Nat):iX (l.map D.str) m=true:=ml fun e he=>by
 obtain⟨x,_,rfl⟩:=List.mem_map.mp he
 rfl
theorem qjK (l:List Str):oEq (.lst (l.map D.str)) (.lst [])=some (.bl l.isEmpty):=by
 unfold oEq;rw[if_pos (by rw[qdM (qdX l 179)];rfl)]
 cases l<;>rfl
noncomputable abbrev LnQ (F:List D->Option D) (n:Nat):Prop:=∀ ss,ss.length<=3->(∀ s∈ss,WqS n s)->F [.lst ss]=some (.str (S (tSs n ss)))
theorem qhK (one:Bool){ws:D}{v1 v2 v3:Option D}:e2 oIx (eF (bj (aC (eK (.str (Str.ofString "&"))) (aC (eK (.str (Str.ofString "+"))) aN)))) (al dD (aC (e2 oEq (e2 oIx (eV 0) (eK (.int 0))) (eK (.str (Str.ofString "one")))) aN)) [some (.tup [.str (fE one),ws]),v1,v2,v3]=some (.str (S [dz one])):=by
 have e1:al dD (aC (e2 oEq (e2 oIx (eV 0) (eK (.int 0))) (eK (.str (Str.ofString "one")))) aN) [some (.tup [.str (fE one),ws]),v1,v2,v3]=some (.int (if (fE one==Str.ofString "one")=true then 1 else 0)):=rfl
 cases one
 ·rw[show (fE false==Str.ofString "one")=false by decide +kernel] at e1
  rw[aP (x :=.lst [.str (Str.ofString "&"),.str (Str.ofString "+")]) rfl e1];show some (D.str (Str.ofString "&"))=_;rw[show Str.ofString "&" = S [38] by decide +kernel];rfl
 ·rw[show (fE true==Str.ofString "one")=true by decide +kernel] at e1
  rw[aP (x :=.lst [.str (Str.ofString "&"),.str (Str.ofString "+")]) rfl e1];show some (D.str (Str.ofString "+"))=_;rw[show Str.ofString "+" = S [43] by decide +kernel];rfl
theorem qk0 (hn:n+1<=3) (hq:LnQ Fl n) (hw:ShW Fw n):ShW (du 1 4 (bb Fw Fl)) (n+1):=by
 intro w hww;have hbig:=bf;rcases hww with rfl|⟨x,hx,rfl⟩|⟨ss,rfl,h1,h3,hss⟩|⟨one,ws,rfl,h3,hws⟩
 ·rw[mr];exact qfQ
 ·rw[iu];exact qdv hx
 ·rw[qaf];show (bb Fw Fl [some (qiI ss),none,none,none]).bind iO=_;unfold bb;rw[lP (by rw[qcP,qcE]),lP (by rw[qcP,qcC])]
  rw[qam (d :=.str (S (tSs n ss))) (by rw[qcP];simp) (hq ss h3 hss)]
  rfl
 ·rw[qae];show (bb Fw Fl [some (.tup [.str (fE one),.lst ws]),none,none,none]).bind iO=_;unfold bb;rw[lP (by rw[qcP,kd1]),lP (by rw[qcP,kd2]),lP (by rw[qcP,kd3])]
  rw[aH (ρ':=[some (.tup [.str (fE one),.lst ws]),none,some (.str (S [dz one])),none]) (by rw[lQ (qhK one)];rfl)]
  have e1':fLC (iL (e2 oIx (eV 0) (eK (.int 1)))) [none] (gN 0) gf (al Fw (aC (eV 0) aN)) [some (.tup [.str (fE one),.lst ws]),none,some (.str (S [dz one])),none]=some (ws.map fun w=>D.str (S (tW n w))):=
   qcV (ds:=ws) rfl (by omega) (lcW (fun w hw'=>hw w (hws w hw')) [])
  rw[aH (ρ':=[some (.tup [.str (fE one),.lst ws]),none,some (.str (S [dz one])),some (.lst (ws.map fun w=>D.str (S (tW n w))))]) (by rw[lQ (d :=.lst (ws.map fun w=>D.str (S (tW n w)))) (by unfold eF;rw[e1'];rfl)];rfl)]
  have hlen:∀ (k:Int),tB1 (e2 oEq (al bF (aC (eV 3) aN)) (eK (.int k))) [some (.tup [.str (fE one),.lst ws]),none,some (.str (S [dz one])),some (.lst (ws.map fun w=>D.str (S (tW n w))))]=some ((ws.length:Int)==k):=fun k=>by refine ms ?_;rw[aP (x :=.int (ws.length:Int)) (y :=.int k) (by show bF [.lst _]=_;rw[qhS,zH]) rfl,eqI]
  have hnil:tB1 (e2 oEq (eV 3) (eF (bj aN))) [some (.tup [.str (fE one),.lst ws]),none,some (.str (S [dz one])),some (.lst (ws.map fun w=>D.str (S (tW n w))))]=some ws.isEmpty:=by
   refine ms ?_;rw[aP (x :=.lst (ws.map fun w=>D.str (S (tW n w)))) (y :=.lst []) rfl rfl]
   have:=qjK (ws.map fun w=>S (tW n w))
   rw[List.map_map] at this;rw[show (ws.map fun w=>D.str (S (tW n w)))=ws.map (D.str ∘ fun w=>S (tW n w)) from rfl,this]
   cases ws<;>rfl
  have hlw:∀ w∈ws,(tW n w).length<=1500:=fun w hw'=>yA (nQ n w (hws w hw')) (LB3 (by omega))
  match ws,h3,hws,hlen,hnil,hlw with
  | [],_,_,hlen,hnil,_=>
   rw[qam (d :=.str (S ([40]++[dz one]++[41]))) (by rw[hnil];rfl) (by rw[aP (x :=.str (S ([40]++[dz one]))) (y :=.str (S [41])) (by rw[aP (x :=.str (S [40])) (y :=.str (S [dz one])) (by rw[<- c40];rfl) rfl,cN (by simp;omega)]) (by rw[<- c41];rfl),cN (by simp;omega)])]
   rfl
  | [w],_,hws,hlen,hnil,hlw=>
   have h1:=hlw w (by simp)
   rw[lP (by rw[hnil];rfl)]
   rw[qam (d :=.str (S ([40]++[dz one]++[32]++tW n w++[41]))) (by rw[hlen];rfl) (by
    rw[aP (x :=.str (S ([40]++[dz one]++[32]++tW n w))) (y :=.str (S [41])) (by
     rw[aP (x :=.str (S ([40]++[dz one]++[32]))) (y :=.str (S (tW n w))) (by rw[aP (x :=.str (S ([40]++[dz one]))) (y :=.str (S [32])) (by rw[aP (x :=.str (S [40])) (y :=.str (S [dz one])) (by rw[<- c40];rfl) rfl,cN (by simp;omega)]) (by rw[<- c32];rfl),cN (by simp;omega)]) rfl,cN (by simp;omega)]) (by rw[<- c41];rfl),cN (by simp;omega)])]
   show some (D.str (S ([40]++[dz one]++[32]++tW n w++[41])))=_;simp[jD]
  | w::w2::ws,h3,hws,hlen,hnil,hlw=>
   rw[lP (by rw[hnil];rfl),lP (by rw[hlen];simp;omega)]
   have hs:=lM (ls:=(w::w2::ws).map (tW n)) (b:=1500) fun l hl=>by obtain⟨s,hs,rfl⟩:=List.mem_map.mp hl;exact hlw s hs
   rw[zH] at hs;have h4:(w::w2::ws).length*1500<=3*1500:=Nat.mul_le_mul_right _ h3;have hj:=qdB (sep:=[32,dz one,32]) (ls:=(w::w2::ws).map (tW n)) (by rw[zH,hbig];simp only[zP,List.length_nil] at hs h4 h3 ⊢;omega)
   have hjl:=mM [32,dz one,32] ((w::w2::ws).map (tW n));rw[zH] at hjl;have hjb:(gy [32,dz one,32] ((w::w2::ws).map (tW n))).length<=5000:=by simp only[zP,List.length_nil] at hs h4 h3 hjl;omega
   rw[List.map_map] at hj;rw[cy (d :=.str (S ([40]++gy [32,dz one,32] ((w::w2::ws).map (tW n))++[41]))) (by
    rw[aP (x :=.str (S ([40]++gy [32,dz one,32] ((w::w2::ws).map (tW n))))) (y :=.str (S [41])) (by
     rw[aP (x :=.str (S [40])) (y :=.str (S (gy [32,dz one,32] ((w::w2::ws).map (tW n))))) (by rw[<- c40];rfl) (by
      rw[aP (x :=.str (S ([32]++[dz one]++[32]))) (y :=.lst ((w::w2::ws).map fun w=>D.str (S (tW n w)))) (by rw[aP (x :=.str (S ([32]++[dz one]))) (y :=.str (S [32])) (by rw[aP (x :=.str (S [32])) (y :=.str (S [dz one])) (by rw[<- c32];rfl) rfl,cN (by simp;omega)]) (by rw[<- c32];rfl),cN (by simp;omega)]) rfl]
      exact hj),cN (by rw[hbig];simp only[zP,List.length_nil];omega)]) (by rw[<- c41];rfl),cN (by rw[hbig,List.length_append];simp only[zP,List.length_nil];omega)])]
   rfl
theorem lw0:ShW (du 1 4 (bb Fw Fl)) 0:=by
 rintro w (rfl|⟨x,hx,rfl⟩)
 ·rw[mr];exact qfQ
 ·rw[iu];exact qdv hx
theorem qe0 (inner:Bool){v0 v1 v3 v4:Option D}:e2 oIx (eF (bj (aC (eK (.str (Str.ofString "/"))) (aC (eK (.str (Str.ofString "//"))) aN)))) (al dD (aC (e2 oEq (eV 2) (eK (.str (Str.ofString "inner")))) aN)) [v0,v1,some (.str (gB inner)),v3,v4]=some (.str (S (fu inner))):=by
 have e1:al dD (aC (e2 oEq (eV 2) (eK (.str (Str.ofString "inner")))) aN) [v0,v1,some (.str (gB inner)),v3,v4]=some (.int (if (gB inner==Str.ofString "inner")=true then 1 else 0)):=rfl
 cases inner
 ·rw[show (gB false==Str.ofString "inner")=false by decide +kernel] at e1
  rw[aP (x :=.lst [.str (Str.ofString "/"),.str (Str.ofString "//")]) rfl e1];show some (D.str (Str.ofString "/"))=_;rw[c47];rfl
 ·rw[show (gB true==Str.ofString "inner")=true by decide +kernel] at e1
  rw[aP (x :=.lst [.str (Str.ofString "/"),.str (Str.ofString "//")]) rfl e1];show some (D.str (Str.ofString "//"))=_;rw[show Str.ofString "//" = S [47,47] by decide +kernel];rfl
theorem qdx (hn:n<=3) (hw:ShW Fw n):LnQ (du 1 5 (lm Fw Fl)) n:=by
 intro ss h3 hss;have hbig:=bf;have hLB:=LB3 hn;show (lm Fw Fl [some (.lst ss),none,none,none,none]).bind iO=_;unfold lm;rw[aH (ρ':=[some (.lst ss),some (.str (S [])),none,none,none]) (by rw[lQ (d :=.str (S [])) (by rw[<- c0];rfl)];rfl)]
 obtain⟨ρ',ef,t,v2,v3,v4,rfl,et⟩:=ka (τ:=gN3 2 3 4) (g:=kf Fw Fl) (ds:=ss) (fun j ρ=>∃ (t:List Nat) (v2 v3 v4:Option D),ρ=[some (.lst ss),some (.str (S t)),v2,v3,v4]/\t=tSs n (ss.take j))
  (ρ:=[some (.lst ss),some (.str (S [])),none,none,none]) ⟨[],none,none,none,rfl,rfl⟩ (by
  rintro j s ρ hs ⟨t,v2,v3,v4,rfl,et⟩;have hj:j<ss.length:=(zC.mp hs).1;have hsm:s∈ss:=List.mem_of_getElem? hs;obtain⟨inner,x,w,rfl,hx,hww⟩:=hss s hsm;have hsl:(fu inner).length<=2:=by cases inner<;>simp[fu]
  have hnl:=qfD hx;have hwl:=nQ n w hww;have htl:t.length<=5000:=by
   rw[et];unfold tSs;rw[oK];have:=qda (n:=n) (ss:=ss.take j) (by simp;omega) (fun s hs=>hss s (List.mem_of_mem_take hs))
   omega
  have etj:tSs n (ss.take (j+1))=t++tS (tW n) (jP (gB inner) (S x) w):=by rw[et,List.take_add_one,hs];simp[tSs]
  refine⟨[some (.lst ss),some (.str (S t)),some (.str (gB inner)),some (.str (S x)),some w],[some (.lst ss),some (.str (S (t++tS (tW n) (jP (gB inner) (S x) w)))),some (.str (gB inner)),some (.str (S x)),some w],rfl,?_,_,_,_,_,rfl,etj.symm⟩;unfold kf;rw[aH (ρ':=[some (.lst ss),some (.str (S (t++fu inner++x))),some (.str (gB inner)),some (.str (S x)),some w]) (by
   rw[lQ (d :=.str (S (t++fu inner++x))) (by rw[aP (x :=.str (S (t++fu inner))) (y :=.str (S x)) (by rw[aP (x :=.str (S t)) (y :=.str (S (fu inner))) rfl (qe0 inner),cN (by omega)]) rfl,cN (by simp;omega)])]
   rfl)]
  have hdk:dOk w 180=true:=(qb9 n w hww).dOk 180 (by omega)
  have tne:tB1 (e2 oNe (eV 4) (bA (aC (eK (.str (Str.ofString "any"))) aN))) [some (.lst ss),some (.str (S (t++fu inner++x))),some (.str (gB inner)),some (.str (S x)),some w]=some (!deq w nl):=by refine ms ?_;rw[aP (x:=w) (y:=nl) rfl rfl];unfold oNe;rw[if_pos (by rw[hdk];rfl)]
  rw[nw];obtain⟨c,r,ec,hc⟩:=qgP hww;rcases hc with ⟨_,rfl⟩|⟨hc,ha⟩
  ·rw[dU (by rw[tne];simp[deq,iV])]
   have e0:(if qaK nl=true then [] else 91::tW n nl++[93])=([]:List Nat):=rfl
   rw[e0,List.append_nil,<- List.append_assoc]
   rfl
  ·have hk:∃ k b,w=.tup [.str k,b]:=by
    cases n with
    | zero=>
     rcases hww with rfl|⟨x,_,rfl⟩
     ·cases ha
     ·exact⟨_,_,rfl⟩
    | succ n=>
     rcases hww with rfl|⟨x,_,rfl⟩|⟨ss,rfl,_⟩|⟨one,ws,rfl,_⟩
     ·cases ha
     ·exact⟨_,_,rfl⟩
     ·exact⟨_,_,rfl⟩
     ·exact⟨_,_,rfl⟩
   have hd:deq w nl=false:=by obtain⟨k,b,rfl⟩:=hk;simp[deq,iV]
   rw[fB (by rw[tne,hd];rfl)]
   have eB:al Fw (aC (eV 4) aN) [some (.lst ss),some (.str (S (t++fu inner++x))),some (.str (gB inner)),some (.str (S x)),some w]=some (.str (S (tW n w))):=hw w hww;rw[lQ (d :=.str (S (t++fu inner++x++[91]++tW n w++[93]))) (by
    rw[aP (x :=.str (S (t++fu inner++x++[91]++tW n w))) (y :=.str (S [93])) (by
     rw[aP (x :=.str (S (t++fu inner++x++[91]))) (y :=.str (S (tW n w))) (by rw[aP (x :=.str (S (t++fu inner++x))) (y :=.str (S [91])) rfl (by rw[<- c91];rfl),cN (by simp;omega)]) eB,cN (by simp;omega)]) (by rw[<- c93];rfl),cN (by simp;omega)])]
   show some (DO.nx [some (.lst ss),some (.str (S (t++fu inner++x++[91]++tW n w++[93]))),some (.str (gB inner)),some (.str (S x)),some w])=_;rw[ha];simp)
 rw[aH (qar (f:=iL (eV 0)) rfl ef)];rw[List.take_length] at et;subst et
 rfl
end
theorem qcK:∀ (n f:Nat),n<=3->2*n+1<=f->ShW (bn f) n
 | 0,f,_,hf=>by
  cases f with
  | zero=>omega
  | succ f=>rw[bn];exact lw0
 | n+1,f,hn,hf=>by
  cases f with
  | zero=>omega
  | succ f=>
   rw[bn];refine qk0 hn ?_ (qcK n f (by omega) (by omega))
   cases f with
   | zero=>omega
   | succ f=>rw[dY];exact qdx (by omega) (qcK n f (by omega) (by omega))
end K15
end
noncomputable section
open PySem L2
local macro_rules | `(tactic| walk_at "v") => `(tactic| simp only [du, qd6, bq, ad, aF, gc, bc, qbr, oa, sIf, aV, gx, my, qbs, bH, e2, eV, eK, eF, bj, bA, al, nb, aC, aN, tB1, nV, dh, hV, fLC, iL, iE, iR1, iR2, pN, pS, fSl, aW, iS, gv, jN, eIs,
  List.length_cons, List.length_nil, List.map_cons, List.map_nil, List.cons_append, List.nil_append, List.replicate, List.getElem?_cons_zero, List.getElem?_cons_succ, List.getElem?_nil, Option.join_some, Option.join_none, Option.bind_some, Option.map_some, Option.getD_some, lC, qkw, eqI, eqB, eqS, neI, neS, ltI, gtI, geI, ixL, ixT, qhS, qjw,
  List.set_cons_zero, List.set_cons_succ, if_true, if_false, Bool.false_eq_true, iO, qkN, Nat.reduceAdd, Nat.reduceSub, Nat.reduceLeDiff])
noncomputable section
namespace K15
open PySem L2
theorem qbV (ns:List Int) (hns:ns.length<=63) (turn many:Int) (t0:0<=turn) (t1:turn<=1000) (m0:0<=many) (m1:many<=1000):∃ xs:List Int,gs [.scr ns,.int turn,.int many]=some (xs.map D.int)/\xs.length=many.toNat/\∀ x∈xs,0<=x:=by
 have hcl:(cut ns none (some 63)).length<=63:=yA (qjY _ _ _) hns;generalize hcs:cut ns none (some 63)++[turn]=cs;have hcs1:1<=cs.length:=by rw[<- hcs];simp
 have hcs2:cs.length<=64:=by rw[<- hcs];simp;omega
 have e1:aj (.lst ((cut ns none (some 63)).map D.int)) (.lst [.int turn])=some (.lst (cs.map D.int)):=by simp only[aj];rw[if_pos (by simp[bf];omega),<- hcs];simp
 obtain⟨c0,ec0⟩:=qa4 (xs:=cs) (z:=0) (by decide) (by omega)
 unfold gs lZ;walk_at "v";rw[e1];walk_at "v";rw[ec0];walk_at "v";rw[kW ⟨by decide,by decide⟩]
 walk_at "v";rw[gj (by decide)]
 walk_at "v";by_cases hb:(c0/50000%2==1)=true
 ·rw[hb];walk_at "v";have hz:(cs.map D.int).length<=cH:=by simp[bf];omega
  rw[if_pos hz];rw[qaH (h:=fun d=>match d with|.int i =>.int (i/100000)|d=>d) (fun d hd=>by obtain⟨i,_,rfl⟩:=List.mem_map.mp hd;exact⟨_,rfl,by walk_at "v";rw[kW ⟨by decide,by decide⟩]⟩)]
  have el:(cs.map D.int).map (fun d=>match d with|.int i =>.int (i/100000)|d=>d)=(cs.map (· / 100000)).map D.int:=by simp
  rw[el];walk_at "v";rw[if_pos (show -(2 ^ 62)<=turn+many/\turn+many<2 ^ 62 from ⟨by omega,by omega⟩)]
  walk_at "v";have hl0:(cs.map (· / 100000)).length=cs.length:=by simp
  have hrl:(gi 0 (turn+many).toNat).length=(turn+many).toNat:=dM _ _;obtain⟨ρ',ef,⟨fs,ls,v6,v7,rfl,hfs,hls,hpos⟩⟩:=ka (τ:=gN 6) (g:=hJ) (ds:=gi 0 (turn+many).toNat) (fun i ρ=>∃ (fs ls:List Int) (v6 v7:Option D),ρ=[some (.scr ns),some (.int turn),some (.int many),some (.lst (cs.map D.int)),some (.lst (fs.map D.int)),some (.lst (ls.map D.int)),v6,v7,none,none]/\fs.length=i-turn.toNat/\ls.length=cs.length/\∀ x∈fs,0<=x)
   (ρ:=[some (.scr ns),some (.int turn),some (.int many),some (.lst (cs.map D.int)),some (.lst []),some (.lst ((cs.map (· / 100000)).map D.int)),none,none,none,none]) ⟨[],cs.map (· / 100000),none,none,rfl,by simp,hl0,fun x h=>by cases h⟩ (by
   rintro j d ρ hd ⟨fs,ls,v6,v7,rfl,hfs,hls,hpos⟩;obtain⟨hj,rfl⟩:=i5 hd;have hlp:(0:Int)<(ls.length:Int):=by omega
   have k0:=yB (0+(j:Int)) (show (ls.length:Int)≠0 by omega)
   have k1:=zX (0+(j:Int)) hlp;obtain⟨v,ev⟩:=qa4 (xs:=ls) k0 k1;by_cases hge:turn<=0+(j:Int)
   ·refine⟨_,[some (.scr ns),some (.int turn),some (.int many),some (.lst (cs.map D.int)),some (.lst ((fs++[v%2147483587]).map D.int)),some (.lst ((ls.set ((0+(j:Int))%(ls.length:Int)).toNat (v/2147483587)).map D.int)),some (.int (0+(j:Int))),some (.int ((0+(j:Int))%(ls.length:Int))),none,none],rfl,?_,⟨_,_,_,_,rfl,by simp[hfs];omega,by simp[hls],fun x hx =>?_⟩⟩
    ·unfold hJ;walk_at "v";rw[zH,gj hlp];walk_at "v";rw[decide_eq_true hge];walk_at "v";rw[ev];walk_at "v";rw[gj (by decide)]
     walk_at "v";rw[if_pos (by rw[zH,bf];omega)]
     walk_at "v";rw[ev];walk_at "v";rw[kW ⟨by decide,by decide⟩]
     walk_at "v";rw[zH,qaI k0 k1];walk_at "v";rw[mY];simp
    ·rcases zO.mp hx with h|h
     ·exact hpos x h
     ·rw[yE.mp h];exact yB _ (by decide)
   ·refine⟨_,[some (.scr ns),some (.int turn),some (.int many),some (.lst (cs.map D.int)),some (.lst (fs.map D.int)),some (.lst ((ls.set ((0+(j:Int))%(ls.length:Int)).toNat (v/2147483587)).map D.int)),some (.int (0+(j:Int))),some (.int ((0+(j:Int))%(ls.length:Int))),none,none],rfl,?_,⟨_,_,_,_,rfl,by rw[hfs];omega,by simp[hls],hpos⟩⟩
    unfold hJ;walk_at "v";rw[zH,gj hlp];walk_at "v";rw[decide_eq_false hge];walk_at "v";rw[ev];walk_at "v";rw[kW ⟨by decide,by decide⟩]
    walk_at "v";rw[zH,qaI k0 k1];walk_at "v";rw[mY])
  rw[ef];walk_at "v";rw[hrl] at hfs;exact⟨fs,rfl,by rw[hfs];omega,hpos⟩
 ·have hb':(c0/50000%2==1)=false:=by simpa using hb
  rw[hb'];walk_at "v";rw[if_pos (show -(2 ^ 62)<=many/\many<2 ^ 62 from ⟨by omega,by omega⟩)]
  walk_at "v";have hrl:(gi 0 many.toNat).length=many.toNat:=dM _ _;obtain⟨ρ',ef,⟨fs,v6,v8,v9,rfl,hfs,hpos⟩⟩:=ka (τ:=gN 6) (g:=jd) (ds:=gi 0 many.toNat) (fun i ρ=>∃ (fs:List Int) (v6 v8 v9:Option D),ρ=[some (.scr ns),some (.int turn),some (.int many),some (.lst (cs.map D.int)),some (.lst (fs.map D.int)),none,v6,none,v8,v9]/\fs.length=i/\∀ x∈fs,0<=x)
   (ρ:=[some (.scr ns),some (.int turn),some (.int many),some (.lst (cs.map D.int)),some (.lst []),none,none,none,none,none]) ⟨[],none,none,none,rfl,rfl,fun x h=>by cases h⟩ (by
   rintro j d ρ hd ⟨fs,v6,v8,v9,rfl,hfs,hpos⟩;obtain⟨hj,rfl⟩:=i5 hd;have hlp:(0:Int)<(cs.length:Int):=by omega
   have k0:=yB (0+(j:Int)) (show (cs.length:Int)≠0 by omega)
   have k1:=zX (0+(j:Int)) hlp;obtain⟨v,ev⟩:=qa4 (xs:=cs) k0 k1;generalize hpl:(0+(j:Int)+turn)*(0+(j:Int)+turn)*7919+104729=place;generalize hn1:(v%2147483647+place)*48271%2147483647=num1;have n0:0<=num1:=by rw[<- hn1];exact yB _ (by decide)
   have n1:num1<2147483647:=by rw[<- hn1];exact zX _ (by decide)
   generalize hn2:(num1*num1+69621*(0+(j:Int)))%2147483629=num2;have p0:0<=num2:=by rw[<- hn2];exact yB _ (by decide)
   have p1:num2<2147483629:=by rw[<- hn2];exact zX _ (by decide)
   refine⟨_,[some (.scr ns),some (.int turn),some (.int many),some (.lst (cs.map D.int)),some (.lst ((fs++[num2*num2%2147483587]).map D.int)),none,some (.int (0+(j:Int))),none,some (.int place),some (.int num2)],rfl,?_,⟨_,_,_,_,rfl,by simp[hfs],fun x hx =>?_⟩⟩
   ·unfold jd;walk_at "v";rw[qfJ ⟨by omega,by omega⟩]
    walk_at "v";rw[qkZ ⟨by decide,by decide⟩]
    walk_at "v";rw[hpl,zH,gj hlp];walk_at "v";rw[ev];walk_at "v";rw[gj (by decide)]
    walk_at "v";rw[qkZ ⟨by decide,by decide⟩]
    walk_at "v";rw[gj (by decide),hn1]
    walk_at "v";rw[qfJ ⟨by omega,by omega⟩]
    walk_at "v";rw[qfJ ⟨by decide,by decide⟩]
    walk_at "v";rw[gj (by decide),hn2]
    walk_at "v";rw[qfJ ⟨by omega,by omega⟩]
    walk_at "v";rw[gj (by decide)]
    walk_at "v";rw[if_pos (by rw[zH,bf];omega)]
    simp
   ·rcases zO.mp hx with h|h
    ·exact hpos x h
    ·rw[yE.mp h];exact yB _ (by decide))
  rw[ef];walk_at "v";rw[hrl] at hfs;exact⟨fs,rfl,hfs,hpos⟩
end K15
end
noncomputable section
namespace K15
open PySem L2
theorem qen (xs:List Int) (n:Nat):iX (xs.map D.int) n=true:=by
 induction xs with
 | nil=>rfl
 | cons x xs ih=>simp only[List.map_cons,iX,dOk,ih,Bool.and_self]
theorem qjL (xs:List Int):oEq (.lst (xs.map D.int)) (.lst [])=some (.bl xs.isEmpty):=by
 simp only[oEq];rw[if_pos (by rw[qdM (qen xs 179)];rfl)]
 cases xs<;>rfl
noncomputable def jI (xs:List Int):Int:=xs.getLastD 0
theorem qau (xs:List Int):ge [.lst (xs.map D.int)]=some (.int (jI xs),xs.dropLast.map D.int):=by
 unfold ge qbN mz;have t:tB1 (e2 oEq (eV 0) (eF (bj aN))) [some (.lst (xs.map D.int))]=some xs.isEmpty:=by walk_at "v";rw[qjL];walk_at "v"
 rw[if_pos (show [D.lst (xs.map D.int)].length=1 from rfl)]
 show (ad _ _ [some (.lst (xs.map D.int))]).bind (qhr 0)=_;rcases List.eq_nil_or_concat xs with rfl|⟨ys,x,rfl⟩
 ·have e:sIf (tB1 (e2 oEq (eV 0) (eF (bj aN)))) (ck (mP (eK (.int 0)))) aV [some (.lst (([]:List Int).map D.int))]=some (.rm (.int 0) [some (.lst [])]):=by rw[fB t];rfl
  simp only[ad,e,zA]
  rfl
 ·have e:sIf (tB1 (e2 oEq (eV 0) (eF (bj aN)))) (ck (mP (eK (.int 0)))) aV [some (.lst ((ys.concat x).map D.int))]=some (.nx [some (.lst ((ys.concat x).map D.int))]):=by rw[dU (by rw[t];simp)];rfl
  rw[aH e];simp only[ck,qfN];walk_at "v";simp[qhr,bH,eV,jI]
theorem qac (n:Int):∃ x:List Nat,TxL x/\kl [.int n]=some (.str (S x)):=by
 unfold kl oH;walk_at "v";have q0:=yB n (show (8:Int)≠0 by decide)
 have q1:=zX n (show (0:Int)<8 by decide)
 have em:[D.str (Str.ofString ""),D.str (Str.ofString "x"),D.str (Str.ofString "any"),D.str (Str.ofString "\""),D.str (Str.ofString "\\"),D.str (Str.ofString "\\q"),D.str (Str.ofString "a b"),D.str (Str.ofString "]")]=(mq.map S).map D.str:=by
  have:[Str.ofString "",Str.ofString "x",Str.ofString "any",Str.ofString "\"",Str.ofString "\\",Str.ofString "\\q",Str.ofString "a b",Str.ofString "]"]=mq.map S:=by decide +kernel
  rw[<- this];rfl
 have e8:br (.int n) (.int ((8:Nat):Int))=some (.int (n%8)):=gj (by decide)
 rw[em];obtain⟨x,ex,hm⟩:=qa2 (xs:=mq.map S) q0 (by simpa [mq] using q1)
 obtain⟨l,hl,rfl⟩:=List.mem_map.mp hm;refine⟨l,hl,?_⟩;show (Option.map DO.rt ((br (.int n) (.int ((8:Nat):Int))).bind fun y=>oIx (.lst _) y)).bind iO=_
 rw[e8];simp only[zA,ixL];rw[ex]
 rfl
end K15
end
noncomputable section
namespace K15
open PySem L2
theorem pM {ρ:aA}{τ:DTg}{fe:DF}{Pr:D->Prop}:∀ {ds:List D},(∀ d∈ds,∃ ρ1 x,τ d ρ=some ρ1/\fe ρ1=some x/\Pr x)->∃ rs,lcD ρ τ gf fe ds=some rs/\rs.length=ds.length/\∀ x∈rs,Pr x
 | [],_=>⟨[],rfl,rfl,fun x h=>by cases h⟩
 | d::ds,h=>by
  obtain⟨ρ1,x,e1,e2,px⟩:=h d zD;obtain⟨rs,er,hl,hp⟩:=pM fun d hd=>h d (zB _ hd)
  refine⟨x::rs,?_,by simp[hl],fun y hy =>?_⟩
  ·simp only[lcD,e1,zA,gf,if_true,e2,er,zT]
  ·rcases zG.mp hy with rfl|hy
   ·exact px
   ·exact hp y hy
theorem qei {x:Str}(h:x.length<=cH):bF [.str x]=some (.int x.length):=by simp[bF,h]
noncomputable abbrev jq:Str:=Str.ofString "abcdefghijklmnopqrstuvwxyz"
theorem qjv (i:Int) (h0:0<=i) (h1:i<26):∃ c,oIx (.str jq) (.int i)=some (.str (S [c]))/\97<=c/\c<=122:=by
 have hl:jq.length<=cH:=by decide +kernel
 have h26:jq.cps.toList.length=26:=by decide +kernel
 obtain⟨c,ec,hc⟩:=qa3 (xs:=jq.cps.toList) h0 (by rw[h26];exact h1)
 have hlow:∀ c∈jq.cps.toList,97<=c/\c<=122:=by decide +kernel
 refine⟨c,?_,hlow c hc⟩;simp only[oIx];rw[if_pos hl,ec];rfl
theorem qgZ {z:Int}(h0:0<=z) (h1:z<=100000) : -(2 ^ 64)<z/\z<2 ^ 64:=⟨Int.lt_of_lt_of_le (by decide) h0,Int.lt_of_le_of_lt h1 (by decide)⟩
end K15
end
noncomputable section
namespace K15
open PySem L2
theorem qhD (draw z:Int) (z0:0<=z) (z1:z<=11) (L:Str) (hL:∀ i:Int,0<=i->i<26->∃ c,oIx (.str L) (.int i)=some (.str (S [c]))/\97<=c/\c<=122):∃ c,e2 oIx (eV 1) (e2 br (e2 aj (e2 cM (eV 2) (eK (.int 150))) (e2 ij (eV 0) (eV 0))) (eK (.int 26))) [some (.int z),some (.str L),some (.int draw)]=some (.str (S [c]))/\97<=c/\c<=122:=by
 obtain⟨c,ec,hc⟩:=hL ((draw/150+z*z)%26) (yB _ (by decide)) (zX _ (by decide))
 refine⟨c,?_,hc⟩;walk_at "v";rw[kW ⟨by decide,by decide⟩]
 walk_at "v";rw[qfJ (qgZ z0 (by omega))]
 walk_at "v";rw[gj (by decide)]
 walk_at "v";exact ec
noncomputable def qaO (L:Str):DG:=
  (ad (aF 2 (eK (.str L)))
  (ad (aF 3 (e2 fX (eK (.str (Str.ofString ""))) (eF (fLC (iR1 (e2 br (eV 1) (eK (.int 5)))) [none,some 2,some 1] (gN 0) gf (e2 oIx (eV 1) (e2 br (e2 aj (e2 cM (eV 2) (eK (.int 150))) (e2 ij (eV 0) (eV 0))) (eK (.int 26))))))))
  (ad (aF 4 (e2 br (e2 cM (eV 1) (eK (.int 5))) (e2 aj (al bF (aC (eV 3) aN)) (eK (.int 1)))))
  (bc (e2 aj (e2 aj (aW (eV 3) pN (pS (eV 4))) (e2 oIx (eV 2) (e2 br (e2 aj (eV 0) (eV 1)) (eK (.int 26))))) (aW (eV 3) (pS (eV 4)) pN))))))
theorem qla:oI=qaO jq:=rfl
theorem qfG (L:Str) (hL:∀ i:Int,0<=i->i<26->∃ c,oIx (.str L) (.int i)=some (.str (S [c]))/\97<=c/\c<=122) (k draw:Int):∃ x:List Nat,du 2 5 (qaO L) [.int k,.int draw]=some (.str (S x))/\NmL x:=by
 have m0:=yB draw (show (5:Int)≠0 by decide)
 have m1:=zX draw (show (0:Int)<5 by decide)
 have e11:br (.int draw) (.int 5)=some (.int (draw%5)):=gj (by decide)
 generalize draw%5=md at *
 obtain⟨rs,er,hrl,hrs⟩:=pM (ρ:=[none,some (.str L),some (.int draw)]) (τ:=gN 0) (fe:=e2 oIx (eV 1) (e2 br (e2 aj (e2 cM (eV 2) (eK (.int 150))) (e2 ij (eV 0) (eV 0))) (eK (.int 26)))) (Pr:=fun x=>∃ c,x=.str (S [c])/\97<=c/\c<=122) (ds:=gi 0 md.toNat) fun d hd=>by
  obtain⟨j,hj⟩:=List.mem_iff_getElem?.mp hd;obtain⟨hj,rfl⟩:=i5 hj;have a0:(0:Int)<=0+(j:Int):=by omega
  have a1:(0:Int)+(j:Int)<=11:=by omega
  generalize (0:Int)+(j:Int)=z at a0 a1;obtain⟨c,ec,hc⟩:=qhD draw z a0 a1 L hL;exact⟨_,_,rfl,ec,c,rfl,hc⟩
 rw[dM] at hrl;obtain⟨cs,ers,hcs⟩:∃ cs:List Nat,rs=(cs.map fun c=>[c]).map (fun l=>D.str (S l))/\∀ c∈cs,97<=c/\c<=122:=by
  clear er hrl
  induction rs with
  | nil=>exact⟨[],rfl,fun c h=>by cases h⟩
  | cons d ds ih=>
   obtain⟨c,rfl,hc⟩:=hrs d zD;obtain⟨cs,rfl,h⟩:=ih fun x hx=>hrs x (zB _ hx)
   exact⟨c::cs,rfl,fun x hx=>by rcases zG.mp hx with rfl|hx;exact hc;exact h x hx⟩
 have hcl:cs.length<=4:=by rw[ers] at hrl;simp at hrl;omega
 have hsum:∀ cs:List Nat,cW (cs.map fun c=>[c])=cs.length:=fun cs=>by
  induction cs with
  | nil=>rfl
  | cons c cs ih=>simp[cW] at ih ⊢;omega
 have hflat:∀ cs:List Nat,(cs.map fun c=>[c]).flatten=cs:=fun cs=>by
  induction cs with
  | nil=>rfl
  | cons c cs ih=>simp[ih]
 have eb:fX (.str (Str.ofString "")) (.lst rs)=some (.str (S cs)):=by rw[ers,c0,qdB (by rw[hsum,bf];simp;omega),iQ,hflat]
 obtain⟨c,ec,hc⟩:=hL ((k+draw)%26) (yB _ (by decide)) (zX _ (by decide))
 have hbb:(S cs).length<=cH:=by rw[dB,bf];omega
 have hlen:bF [.str (S cs)]=some (.int ((S cs).length:Int)):=qei hbb;have hl0:(0:Int)<=((S cs).length:Int):=Int.natCast_nonneg _;have hmz:(gi 0 md.toNat).length<=cH:=by rw[dM,bf];omega
 have hr1 : -(2 ^ 62)<=md/\md<2 ^ 62:=⟨Int.le_trans (by decide) m0,Int.lt_trans m1 (by decide)⟩
 unfold qaO;walk_at "v";rw[e11];walk_at "v";rw[if_pos hr1];walk_at "v";rw[if_pos hmz];rw[er];walk_at "v";rw[eb];walk_at "v";rw[hlen];generalize hbl:((S cs).length:Int)=bl at hl0;rw[kW ⟨by decide,by decide⟩]
 walk_at "v";rw[gj (by omega)]
 walk_at "v";generalize draw/5%(bl+1)=at_;have s1:=Txt.slice_le (S cs) none (some at_);have s2:=Txt.slice_le (S cs) (some at_) none;have i1:=fun d=>pD (S cs) none (some at_) (c:=d)
 have i2:=fun d=>pD (S cs) (some at_) none (c:=d)
 generalize hx1:Txt.slice (S cs) none (some at_)=x1 at *
 generalize hx2:Txt.slice (S cs) (some at_) none=x2 at *
 rw[qgw x1,qgw x2];rw[qgw x1,dB] at s1;rw[qgw x2,dB] at s2;rw[dB] at s1 s2;rw[if_pos hbb,gj (by decide)]
 walk_at "v";rw[ec];walk_at "v";rw[cN (by rw[bf];simp only[zP,List.length_nil];omega)]
 walk_at "v";rw[if_pos hbb];walk_at "v";rw[cN (by rw[bf,List.length_append];simp only[zP,List.length_nil];omega)]
 refine⟨_,rfl,.inr ⟨by simp,?_,fun d hd =>?_⟩⟩
 ·rw[List.length_append,List.length_append];simp only[zP,List.length_nil];omega
 ·rw[fm] at i1 i2;rcases zO.mp hd with hd|hd
  ·rcases zO.mp hd with hd|hd
   ·exact hcs d (i1 d hd)
   ·rw[yE.mp hd];exact hc
  ·exact hcs d (i2 d hd)
theorem qaB (k draw:Int):∃ x:List Nat,jB [.int k,.int draw]=some (.str (S x))/\NmL x:=by
 unfold jB;rw[qla];exact qfG jq qjv k draw
theorem qfE (draw:Int):∃ nms:List (List Nat),iH [.int draw]=some (.lst ((nms.map S).map D.str))/\1<=nms.length/\nms.length<=4/\∀ x∈nms,NmL x:=by
 have m0:=yB (draw/7) (show (4:Int)≠0 by decide)
 have m1:=zX (draw/7) (show (0:Int)<4 by decide)
 have e1:br (.int (draw/7)) (.int 4)=some (.int (draw/7%4)):=gj (by decide)
 generalize draw/7%4=md at *
 obtain⟨rs,er,hrl,hrs⟩:=pM (ρ:=[none,some (.int draw)]) (τ:=gN 0) (fe:=al jB (aC (eV 0) (aC (eV 1) aN))) (Pr:=fun x=>∃ c,x=.str (S c)/\NmL c) (ds:=gi 0 (1+md).toNat) fun d hd=>by obtain⟨j,hj⟩:=List.mem_iff_getElem?.mp hd;obtain⟨hj,rfl⟩:=i5 hj;generalize (0:Int)+(j:Int)=z;obtain⟨x,ex,hx⟩:=qaB z draw;refine⟨_,.str (S x),rfl,?_,x,rfl,hx⟩;walk_at "v";exact ex
 rw[dM] at hrl;have hmz:(gi 0 (1+md).toNat).length<=cH:=by rw[dM,bf];omega
 have hr1 : -(2 ^ 62)<=1+md/\1+md<2 ^ 62:=⟨Int.le_trans (by decide) (show 0<=1+md by omega),Int.lt_of_le_of_lt (show 1+md<=4 by omega) (by decide)⟩
 have hm:∃ nms:List (List Nat),rs=(nms.map S).map D.str/\∀ x∈nms,NmL x:=by
  clear er hrl
  induction rs with
  | nil=>exact⟨[],rfl,fun x h=>by cases h⟩
  | cons d ds ih=>
   obtain⟨c,rfl,hc⟩:=hrs d zD;obtain⟨nms,rfl,h⟩:=ih fun x hx=>hrs x (zB _ hx)
   exact⟨c::nms,rfl,fun x hx=>by rcases zG.mp hx with rfl|hx;exact hc;exact h x hx⟩
 obtain⟨nms,rfl,hnm⟩:=hm;refine⟨nms,?_,by simp at hrl;omega,by simp at hrl;omega,hnm⟩
 unfold iH lY;walk_at "v";rw[kW ⟨by decide,by decide⟩]
 walk_at "v";rw[e1];walk_at "v";rw[if_pos hr1];walk_at "v";rw[if_pos hmz,er]
 rfl
end K15
end
noncomputable section
namespace K15
open PySem L2
local macro_rules | `(tactic| walk_at "m") => `(tactic| simp only [mz, bq, ad, aF, gc, sIf, aV, bH, e2, eV, eK, eF, bj, bA, al, nb, aC, aN, tB1, nV, dh, hV, iL, iR1, gv, jT, ck, mx, qbt, og, iRM, m2, mP, mAN, mAC, qaD, dE, mLC, qhr,
  List.length_cons, List.length_nil, List.map_cons, List.map_nil, List.cons_append, List.nil_append, List.replicate, List.getElem?_cons_zero, List.getElem?_cons_succ, List.getElem?_nil, Option.join_some, Option.join_none, Option.bind_some, Option.map_some, Option.getD_some, lC, qkw, eqI, eqB, eqS, ltI, gtI, geI, ixL, ixT, qhS, qjw,
  List.set_cons_zero, List.set_cons_succ, if_true, if_false, Bool.false_eq_true, Nat.reduceAdd, Nat.reduceSub, Nat.reduceLeDiff])
theorem qfV {ρ:aA}{τ:DTg}{fe:DM}{i0:Nat}{Pr:D->Prop}:∀ {ds:List D}(xs:List Int),(∀ d∈ds,∀ xs:List Int,∃ (ρ1:aA) (x:D) (ρ2:aA) (xs':List Int),τ d (ρ.set i0 (some (.lst (xs.map D.int))))=some ρ1/\fe ρ1=some (x,ρ2)/\bH i0 ρ2=some (xs'.map D.int)/\Pr x)->∃ rs xs',lcM ρ τ fe i0 ds (xs.map D.int)=some (rs,List.map D.int xs')/\rs.length=ds.length/\∀ x∈rs,Pr x
 | [],xs,_=>⟨[],xs,rfl,rfl,fun x h=>by cases h⟩
 | d::ds,xs,h=>by
  obtain⟨ρ1,x,ρ2,xs1,e1,e2,e3,px⟩:=h d zD xs;obtain⟨rs,xs',er,hl,hp⟩:=qfV (ds:=ds) xs1 fun d hd=>h d (zB _ hd)
  refine⟨x::rs,xs',?_,by simp[hl],fun y hy =>?_⟩
  ·simp only[lcM,e1,zA,e2,e3,er,zT]
  ·rcases zG.mp hy with rfl|hy
   ·exact px
   ·exact hp y hy
theorem WqW.any (n:Nat):WqW n nl:=by cases n<;>exact .inl rfl
theorem WqW.text (n:Nat){x:List Nat}(h:TxL x):WqW n (lK (S x)):=by
 cases n with
 | zero=>exact .inr ⟨x,h,rfl⟩
 | succ n=>exact .inr (.inl ⟨x,h,rfl⟩)
noncomputable abbrev qA (xs:List Int) (nms:List (List Nat)) (dp:Int):List D:=[.lst (xs.map D.int),.lst ((nms.map S).map D.str),.int dp]
theorem pr (Fw Fs:List D->Option (D×List D)) (n:Nat) (dp:Int) (hdp:dp=n) (nms:List (List Nat))
  (hs:∀ m,n=m+1->∀ xs:List Int,∃ (ss:List D) (xs':List Int),Fs (qA xs nms (dp-1))=some (.lst ss,xs'.map D.int)/\1<=ss.length/\ss.length<=3/\∀ s∈ss,WqS m s)
  (hw:∀ m,n=m+1->∀ xs:List Int,∃ (w:D) (xs':List Int),Fw (qA xs nms (dp-1))=some (w,xs'.map D.int)/\WqW m w)
  (xs:List Int):∃ (w:D) (xs':List Int),mz 3 6 0 (js Fw Fs) (qA xs nms dp)=some (w,xs'.map D.int)/\WqW n w:=by
 have q0:=yB (jI xs) (show (8:Int)≠0 by decide)
 have q1:=zX (jI xs) (show (0:Int)<8 by decide)
 have e8:br (.int (jI xs)) (.int 8)=some (.int (jI xs%8)):=gj (by decide)
 have f8:cM (.int (jI xs)) (.int 8)=some (.int (jI xs/8)):=kW ⟨by decide,by decide⟩
 have hpop:=qau xs;generalize jI xs=num at *
 generalize num%8=kd at *
 generalize num/8=nd at *
 unfold js;walk_at "m";rw[hpop];walk_at "m";rw[e8];walk_at "m";by_cases k2:kd=2∨kd=3
 ·have:(if (kd==2)=true then some true else some (kd==3))=some true:=by rcases k2 with rfl|rfl<;>rfl
  rw[this];walk_at "m";rw[f8];walk_at "m";obtain⟨x,hx,ex⟩:=qac nd;rw[ex];walk_at "m";exact⟨_,xs.dropLast,rfl,WqW.text _ hx⟩
 ·have:(if (kd==2)=true then some true else some (kd==3))=some false:=by
   have a:(kd==2)=false:=by simp;exact fun z=>k2 (.inl z)
   have b:(kd==3)=false:=by simp;exact fun z=>k2 (.inr z)
   rw[a,b];rfl
  rw[this];walk_at "m";by_cases k1:kd<2∨dp=0
  ·have:(if decide (kd<2)=true then some true else some (dp==0))=some true:=by
    by_cases a:kd<2
    ·rw[decide_eq_true a];rfl
    ·rw[decide_eq_false a];rcases k1 with z|z
     ·exact absurd z a
     ·rw[z];rfl
   rw[this];walk_at "m";exact⟨_,xs.dropLast,rfl,WqW.any _⟩
  ·have:(if decide (kd<2)=true then some true else some (dp==0))=some false:=by
    have a:¬ kd<2:=fun z=>k1 (.inl z)
    have b:(dp==0)=false:=by simp;exact fun z=>k1 (.inr z)
    rw[decide_eq_false a,b];rfl
   rw[this];walk_at "m";obtain⟨m,hm⟩:∃ m,n=m+1:=by
    cases n with
    | zero=>exact absurd (.inr (by rw[hdp];rfl)) k1
    | succ m=>exact⟨m,rfl⟩
   subst hm;by_cases k6:kd<6
   ·rw[decide_eq_true k6];walk_at "m";obtain⟨ss,xs',es,l0,l1,hss⟩:=hs m rfl xs.dropLast;simp only[qA] at es;rw[es];walk_at "m";exact⟨_,xs',rfl,.inr (.inr (.inl ⟨ss,rfl,l0,l1,hss⟩))⟩
   ·rw[decide_eq_false k6];walk_at "m";rw[f8];walk_at "m";rw[gj (by decide)]
    walk_at "m";have r0:=yB nd (show (4:Int)≠0 by decide)
    have r1:=zX nd (show (0:Int)<4 by decide)
    generalize nd%4=md at *
    obtain⟨mn,em,m0,m1⟩:∃ mn:Int,atI [D.int 2,D.int 1,D.int 0,D.int 3] md=some (.int mn)/\0<=mn/\mn<=3:=by
     have:md=0∨md=1∨md=2∨md=3:=by omega
     rcases this with rfl|rfl|rfl|rfl
     ·exact⟨2,rfl,by decide,by decide⟩
     ·exact⟨1,rfl,by decide,by decide⟩
     ·exact⟨0,rfl,by decide,by decide⟩
     ·exact⟨3,rfl,by decide,by decide⟩
    rw[em];walk_at "m";obtain⟨one,ek⟩:∃ one:Bool,atI [D.str (Str.ofString "both"),D.str (Str.ofString "one")] (kd-6)=some (.str (fE one)):=by
     have:kd=6∨kd=7:=by omega
     rcases this with rfl|rfl
     ·exact⟨false,rfl⟩
     ·exact⟨true,rfl⟩
    rw[ek];walk_at "m";have hr1 : -(2 ^ 62)<=mn/\mn<2 ^ 62:=⟨Int.le_trans (by decide) m0,Int.lt_of_le_of_lt m1 (by decide)⟩
    rw[if_pos hr1];walk_at "m";have hz:(gi 0 mn.toNat).length<=cH:=by rw[dM,bf];omega
    rw[if_pos hz];obtain⟨ws,xs',el,hl,hws⟩:=qfV (ρ:=[none,some (.lst (xs.dropLast.map D.int)),some (.lst ((nms.map S).map D.str)),some (.int dp)]) (τ:=gN 0) (fe:=dE Fw 1 (aC (eV 2) (aC (e2 ph (eV 3) (eK (.int 1))) aN))) (i0:=1) (Pr:=WqW m) (ds:=gi 0 mn.toNat) xs.dropLast fun d _ ys=>by obtain⟨w,ys',ew,hww⟩:=hw m rfl ys;simp only[qA] at ew;refine⟨_,w,[some d,some (.lst (ys'.map D.int)),some (.lst ((nms.map S).map D.str)),some (.int dp)],ys',rfl,?_,rfl,hww⟩;walk_at "m";rw[ew];walk_at "m"
    rw[el];walk_at "m";rw[dM] at hl;exact⟨_,xs',rfl,.inr (.inr (.inr ⟨one,ws,rfl,by omega,hws⟩))⟩
theorem qci (Fw Fs:List D->Option (D×List D)) (n:Nat) (dp:Int) (nms:List (List Nat)) (hn:nms.length<=100) (hnm:∀ x∈nms,NmL x)
  (hw:∀ xs:List Int,∃ (w:D) (xs':List Int),Fw (qA xs nms dp)=some (w,xs'.map D.int)/\WqW n w)
  (xs:List Int):∃ (ss:List D) (xs':List Int),mz 3 7 0 (ku Fw Fs) (qA xs nms dp)=some (.lst ss,xs'.map D.int)/\1<=ss.length/\ss.length<=3/\∀ s∈ss,WqS n s:=by
 have r0:=yB (jI xs) (show (4:Int)≠0 by decide)
 have r1:=zX (jI xs) (show (0:Int)<4 by decide)
 have e4:br (.int (jI xs)) (.int 4)=some (.int (jI xs%4)):=gj (by decide)
 have hpop:=qau xs;generalize jI xs=num at *
 generalize num%4=md at *
 obtain⟨mn,em,m0,m1⟩:∃ mn:Int,atI [D.int 1,D.int 1,D.int 2,D.int 3] md=some (.int mn)/\1<=mn/\mn<=3:=by
  have:md=0∨md=1∨md=2∨md=3:=by omega
  rcases this with rfl|rfl|rfl|rfl
  ·exact⟨1,rfl,by decide,by decide⟩
  ·exact⟨1,rfl,by decide,by decide⟩
  ·exact⟨2,rfl,by decide,by decide⟩
  ·exact⟨3,rfl,by decide,by decide⟩
 have hr1 : -(2 ^ 62)<=mn/\mn<2 ^ 62:=⟨Int.le_trans (by decide) m0,Int.lt_of_le_of_lt m1 (by decide)⟩
 unfold ku;walk_at "m";rw[hpop];walk_at "m";rw[e4];walk_at "m";rw[em];walk_at "m";rw[if_pos hr1];walk_at "m";have hl0:(0:Int)<=(nms.length:Int):=Int.natCast_nonneg _;obtain⟨ρ',ef,ys,ss,v4,v5,v6,rfl,hl,hss⟩:=ka (τ:=gN 4) (g:=jc Fw Fs) (ds:=gi 0 mn.toNat) (fun i ρ=>∃ (ys:List Int) (ss:List D) (v4 v5 v6:Option D),ρ=[some (.lst (ys.map D.int)),some (.lst ((nms.map S).map D.str)),some (.int dp),some (.lst ss),v4,v5,v6]/\ss.length=i/\∀ s∈ss,WqS n s)
  (ρ:=[some (.lst (xs.dropLast.map D.int)),some (.lst ((nms.map S).map D.str)),some (.int dp),some (.lst []),none,none,none]) ⟨xs.dropLast,[],none,none,none,rfl,rfl,fun s h=>(by cases h)⟩ (by
  rintro j d ρ hd ⟨ys,ss,v4,v5,v6,rfl,hl,hss⟩;have hj:j<mn.toNat:=by have:=(zC.mp hd).1;rw[dM] at this;exact this
  have hpop:=qau ys;generalize jI ys=num at *
  obtain⟨w,zs,ew,hww⟩:=hw ys.dropLast;simp only[qA] at ew;have hlen:(((nms.map S).map D.str++[D.str (Str.ofString "*")]).length:Int)=(nms.length:Int)+1:=by simp
  have t0:=yB (num/2) (show (nms.length:Int)+1≠0 by omega)
  have t1:=zX (num/2) (show (0:Int)<(nms.length:Int)+1 by omega)
  obtain⟨nm0,en,hmem⟩:=qa2 (xs:=nms.map S++[Str.ofString "*"]) (z:=num/2%((nms.length:Int)+1)) t0 (by simpa using t1)
  rw[List.map_append] at en;obtain⟨nx,rfl,hnx⟩:∃ x,nm0=S x/\NmL x:=by
   rcases zO.mp hmem with h|h
   ·obtain⟨x,hx,rfl⟩:=List.mem_map.mp h;exact⟨x,rfl,hnm x hx⟩
   ·rw[yE.mp h,c42];exact⟨[42],rfl,.inl rfl⟩
  obtain⟨inner,ey⟩:∃ inner:Bool,atI [D.str (Str.ofString "inner"),D.str (Str.ofString "own")] (num%2)=some (.str (gB inner)):=by
   have:num%2=0∨num%2=1:=by omega
   rcases this with z|z
   ·rw[z];exact⟨true,rfl⟩
   ·rw[z];exact⟨false,rfl⟩
  refine⟨_,[some (.lst (zs.map D.int)),some (.lst ((nms.map S).map D.str)),some (.int dp),some (.lst (ss++[jP (gB inner) (S nx) w])),some d,some (.int num),some (.str (S nx))],rfl,?_,zs,ss++[jP (gB inner) (S nx) w],some d,some (.int num),some (.str (S nx)),rfl,by simp[hl],fun s hs =>?_⟩
  ·unfold jc;walk_at "m";rw[hpop];walk_at "m";rw[kW ⟨by decide,by decide⟩]
   walk_at "m";have hadd:aj (.lst ((nms.map S).map D.str)) (.lst [.str (Str.ofString "*")])=some (.lst ((nms.map S).map D.str++[.str (Str.ofString "*")])):=by simp only[aj];rw[if_pos (by simp[bf];omega)]
   rw[hadd];walk_at "m";rw[zH,zH];rw[gj (by omega)]
   walk_at "m";rw[show atI ((nms.map S).map D.str++[D.str (Str.ofString "*")]) (num/2%((nms.length:Int)+1))=some (.str (S nx)) from en]
   walk_at "m";rw[gj (by decide)]
   walk_at "m";rw[ey];walk_at "m";rw[ew];walk_at "m";rw[if_pos (by rw[bf];omega)]
  ·rcases zO.mp hs with hs|hs
   ·exact hss s hs
   ·have:s=jP (gB inner) (S nx) w:=by simpa using hs
    exact⟨inner,nx,w,this,hnx,hww⟩)
 rw[ef];walk_at "m";rw[dM] at hl;exact⟨ss,ys,rfl,by omega,by omega,hss⟩
theorem o8 (nms:List (List Nat)) (hn:nms.length<=100) (hnm:∀ x∈nms,NmL x):∀ (n:Nat),
  (∀ (fuel:Nat) (xs:List Int),2*n+1<=fuel->∃ (w:D) (xs':List Int),cu fuel (qA xs nms (n:Int))=some (w,xs'.map D.int)/\WqW n w) /\
  (∀ (fuel:Nat) (xs:List Int),2*n+2<=fuel->∃ (ss:List D) (xs':List Int),cx fuel (qA xs nms (n:Int))=some (.lst ss,xs'.map D.int)/\1<=ss.length/\ss.length<=3/\∀ s∈ss,WqS n s):=by
 intro n;have hst:∀ (k:Nat),(∀ (fuel:Nat) (xs:List Int),2*k+1<=fuel->∃ (w:D) (xs':List Int),cu fuel (qA xs nms (k:Int))=some (w,xs'.map D.int)/\WqW k w)->(∀ (fuel:Nat) (xs:List Int),2*k+2<=fuel->∃ (ss:List D) (xs':List Int),cx fuel (qA xs nms (k:Int))=some (.lst ss,xs'.map D.int)/\1<=ss.length/\ss.length<=3/\∀ s∈ss,WqS k s):=by
  intro k hk fuel xs hf;cases fuel with
  | zero=>omega
  | succ f=>rw[cx];exact qci (cu f) (cx f) k (k:Int) nms hn hnm (fun ys=>hk f ys (by omega)) xs
 induction n with
 | zero=>
  have h1:∀ (fuel:Nat) (xs:List Int),2*0+1<=fuel->∃ (w:D) (xs':List Int),cu fuel (qA xs nms ((0:Nat):Int))=some (w,xs'.map D.int)/\WqW 0 w:=by
   intro fuel xs hf;cases fuel with
   | zero=>omega
   | succ f=>rw[cu];exact pr (cu f) (cx f) 0 _ rfl nms (fun m h=>by cases h) (fun m h=>by cases h) xs
  exact⟨h1,hst 0 h1⟩
 | succ m ih=>
  have h1:∀ (fuel:Nat) (xs:List Int),2*(m+1)+1<=fuel->∃ (w:D) (xs':List Int),cu fuel (qA xs nms ((m+1:Nat):Int))=some (w,xs'.map D.int)/\WqW (m+1) w:=by
   intro fuel xs hf;cases fuel with
   | zero=>omega
   | succ f=>
    rw[cu];have e:((m+1:Nat):Int)-1=(m:Int):=by omega
    refine pr (cu f) (cx f) (m+1) _ rfl nms (fun k h ys =>?_) (fun k h ys =>?_) xs
    ·cases h;rw[e];exact ih.2 f ys (by omega)
    ·cases h;rw[e];exact ih.1 f ys (by omega)
  exact⟨h1,hst (m+1) h1⟩
end K15
end
noncomputable section
namespace K16
open PySem L2
noncomputable def top (i:Nat):Stmt:=PySem.Challenge.pw_earlysift_k16_lines_looked_at.main.body.getD i (.Pass ⟨0,0,0,0⟩)
noncomputable abbrev bu:List (Str×Str):=[("&", "both"),("+", "one")]
noncomputable def hJ:DG:=
  (ad (aF 7 (e2 br (eV 6) (al bF (aC (eV 5) aN))))
    (ad (sIf (tB1 (e2 oGe (eV 6) (eV 1)))
    (my 4 (e2 br (e2 oIx (eV 5) (eV 7)) (eK (.int 2147483587))))
    aV)
    (qbs 5 (eV 7) (e2 cM (e2 oIx (eV 5) (eV 7)) (eK (.int 2147483587))))))
noncomputable def jd:DG:=
  (ad (aF 8 (e2 aj (e2 ij (e2 ij (e2 aj (eV 6) (eV 1)) (e2 aj (eV 6) (eV 1))) (eK (.int 7919))) (eK (.int 104729))))
   (ad (aF 9 (e2 br (e2 ij (e2 aj (e2 br (e2 oIx (eV 3) (e2 br (eV 6) (al bF (aC (eV 3) aN)))) (eK (.int 2147483647))) (eV 8)) (eK (.int 48271))) (eK (.int 2147483647))))
   (ad (aF 9 (e2 br (e2 aj (e2 ij (eV 9) (eV 9)) (e2 ij (eK (.int 69621)) (eV 6))) (eK (.int 2147483629))))
   (my 4 (e2 br (e2 ij (eV 9) (eV 9)) (eK (.int 2147483587)))))))
noncomputable def lZ:DG:=
  (ad (aF 3 (e2 aj (eF (fSl (eV 0) pN (pS (eK (.int 63))))) (eF (bj (aC (eV 1) aN)))))
  (ad (gc 4 (bj aN))
  (ad (sIf (tB1 (e2 oEq (e2 br (e2 cM (e2 oIx (eV 3) (eK (.int 0))) (eK (.int 50000))) (eK (.int 2))) (eK (.int 1))))
  (ad (gc 5 (fLC (iL (eV 3)) [none] (gN 0) gf (e2 cM (eV 0) (eK (.int 100000)))))
   (ad (gx (iR1 (e2 aj (eV 1) (eV 2))) (gN 6)
   hJ)
   (oa 4)))
  aV)
  (ad (gx (iR1 (eV 2)) (gN 6)
  jd)
  (oa 4)))))
noncomputable def gs:List D->Option (List D):=qd6 3 10 lZ
noncomputable abbrev lO:Stmt:=top 13
noncomputable abbrev qdR:List Str:=["_law_script", "_law_turn", "_law_many", "_law_cells", "_law_found", "_law_left", "_law_k", "_law_at", "_law_place", "_law_number"]
theorem fz:aR qdR ["_law_script", "_law_turn", "_law_many"] (am lO):=⟨rfl,rfl,rfl,by decide +kernel,rfl,by decide +kernel,by decide +kernel⟩
noncomputable def qbN:DG:=
  (ad (sIf (tB1 (e2 oEq (eV 0) (eF (bj aN))))
  (ck (mP (eK (.int 0))))
  aV)
  (ck (qfN 0)))
noncomputable def ge:List D->Option (D×List D):=mz 1 1 0 qbN
noncomputable abbrev qck:Stmt:=top 14
noncomputable abbrev qls:List Str:=["_law_draws_here"]
theorem qiW:aR qls ["_law_draws_here"] (am qck):=⟨rfl,rfl,rfl,by decide +kernel,rfl,by decide +kernel,by decide +kernel⟩
noncomputable def oI:DG:=
  (ad (aF 2 (eK (.str (Str.ofString "abcdefghijklmnopqrstuvwxyz"))))
  (ad (aF 3 (e2 fX (eK (.str (Str.ofString ""))) (eF (fLC (iR1 (e2 br (eV 1) (eK (.int 5)))) [none,some 2,some 1] (gN 0) gf (e2 oIx (eV 1) (e2 br (e2 aj (e2 cM (eV 2) (eK (.int 150))) (e2 ij (eV 0) (eV 0))) (eK (.int 26))))))))
  (ad (aF 4 (e2 br (e2 cM (eV 1) (eK (.int 5))) (e2 aj (al bF (aC (eV 3) aN)) (eK (.int 1)))))
  (bc (e2 aj (e2 aj (aW (eV 3) pN (pS (eV 4))) (e2 oIx (eV 2) (e2 br (e2 aj (eV 0) (eV 1)) (eK (.int 26))))) (aW (eV 3) (pS (eV 4)) pN))))))
noncomputable def jB:List D->Option D:=du 2 5 oI
noncomputable abbrev nA:Stmt:=top 16
noncomputable abbrev qgA:List Str:=["_law_k", "_law_draw", "_law_letters", "_law_base", "_law_at"]
theorem nF:aR qgA ["_law_k", "_law_draw"] (am nA):=⟨rfl,rfl,rfl,by decide +kernel,rfl,by decide +kernel,by decide +kernel⟩
noncomputable def lY:DG:=
  (qbr (fLC (iR1 (e2 aj (eK (.int 1)) (e2 br (e2 cM (eV 0) (eK (.int 7))) (eK (.int 4))))) [none,some 0] (gN 0) gf (al jB (aC (eV 0) (aC (eV 1) aN)))))
noncomputable def iH:List D->Option D:=du 1 1 lY
noncomputable abbrev lN:Stmt:=top 17
noncomputable abbrev qdQ:List Str:=["_law_draw"]
theorem qe9:aR qdQ ["_law_draw"] (am lN):=⟨rfl,rfl,rfl,by decide +kernel,rfl,by decide +kernel,by decide +kernel⟩
noncomputable def oH:DG:=
  (ad (aF 1 (eF (bj (aC (eK (.str (Str.ofString ""))) (aC (eK (.str (Str.ofString "x"))) (aC (eK (.str (Str.ofString "any"))) (aC (eK (.str (Str.ofString "\""))) (aC (eK (.str (Str.ofString "\\"))) (aC (eK (.str (Str.ofString "\\q"))) (aC (eK (.str (Str.ofString "a b"))) (aC (eK (.str (Str.ofString "]"))) aN)))))))))))
  (bc (e2 oIx (eV 1) (e2 br (eV 0) (al bF (aC (eV 1) aN))))))
noncomputable def kl:List D->Option D:=du 1 2 oH
noncomputable abbrev qag:Stmt:=top 18
noncomputable abbrev qkb:List Str:=["_law_number", "_law_some"]
theorem qdg:aR qkb ["_law_number"] (am qag):=⟨rfl,rfl,rfl,by decide +kernel,rfl,by decide +kernel,by decide +kernel⟩
noncomputable section
variable {P:Program}{w:World}{K:Frag}{mg:Str->Option Value}{base:Heap}{f:Addr}{fd:FuncData}
theorem qfy (F:Fun K "_law_draws" "_law_draws" lO f fd) (z_len:mg "len" = none) (z_range:mg "range" = none):bD P w K mg base CX0 1 f fd ["_law_script", "_law_turn", "_law_many"] (spO K gs):=
 F.okO (own:=[4,5]) (own':=[4,5]) (g:=lZ) fz (by decide) fun cdv A outer s H E hr B hB=>
  (aa (aQ (i:=3) fz.nd rfl (.inl rfl) (ao ar (dq (df (qjU (vQ 0) dA (au (dq ah))))) (dq (df (bQ (ac (vP 1) ak))))))
  (aa (jw (i:=4) fz.nd rfl (.inl rfl) (bQ ak))
  (aa (aY (aE (bp hr) (dq (ao cb (dq (ao gq (dq (bU (vQ 3) (dq ah))) (dq ah))) (dq ah))) (dq ah) (az _))
  (aa (qer (i:=5) (own':=[]) (N:=[("_law_cell" : Str)]) (src:=[none]) (lA (outer:=am lO) (oN:=qdR) rfl (by decide +kernel) rfl rfl) rfl fz.nd rfl rfl (mh (vP 3)) (jA 0) (by decide) (i8 0) (fun C s H ex=>⟨bi (i:=0) (show ([("_law_cell" : Str)]:List Str).Nodup by decide +kernel) rfl (.inl rfl),ju,(ao gq (vQ 0) (dq ah))⟩))
   (aa (mO PassesOwn.never rfl (gm rfl z_range (dq (ao ar (vQ 1) (vQ 2)))) (fun B hB=>(jx (bi (i:=6) fz.nd rfl (.inl rfl)))) (fun B hB=>
   (aa (aQ (i:=7) fz.nd rfl (.inl rfl) (ao cb (vQ 6) (dq (fj rfl z_len (dvo (pv 5))))))
    (aa (aY (aE qkU (vQ 6) (vQ 1) (az _))
    (af (mR (pv 4) (ao cb (dq (bU (dvo (pv 5)) (vQ 7))) (dq ah))))
    ay)
    (af (qh6 (pv 5) (vQ 7) (ao gq (dq (bU (dvo (pv 5)) (vQ 7))) (dq ah))))))))
   (af (qdI (pv 4)))))
  ay)
  (aa (mO PassesOwn.never rfl (gm rfl z_range (vQ 2)) (fun B hB=>(jx (bi (i:=6) fz.nd rfl (.inl rfl)))) (fun B hB=>
  (aa (aQ (i:=8) fz.nd rfl (.inl rfl) (ao ar (dq (ao lc (dq (ao lc (dq (ao ar (vQ 6) (vQ 1))) (dq (ao ar (vQ 6) (vQ 1))))) (dq ah))) (dq ah)))
   (aa (aQ (i:=9) fz.nd rfl (.inl rfl) (ao cb (dq (ao lc (dq (ao ar (dq (ao cb (dq (bU (vQ 3) (dq (ao cb (vQ 6) (dq (fj rfl z_len (vQ 3))))))) (dq ah))) (vQ 8))) (dq ah))) (dq ah)))
   (aa (aQ (i:=9) fz.nd rfl (.inl rfl) (ao cb (dq (ao ar (dq (ao lc (vQ 9) (vQ 9))) (dq (ao lc (dq ah) (vQ 6))))) (dq ah)))
   (af (mR (pv 4) (ao cb (dq (ao lc (vQ 9) (vQ 9))) (dq ah)))))))))
  (af (qdI (pv 4)))))))
theorem qji (F:Fun K "_law_pop" "_law_pop" qck f fd):bD P w K mg base CX0 1 f fd ["_law_draws_here"] (spM K 0 ge):=
 F.okM (own:=[0]) (own':=[0]) (g:=qbN) qiW 0 (by decide) (by decide) fun cdv A outer s H E hr B a hB=>
  (aa (aY (aE (bp hr) (dvo (pv 0)) (dq (df (bQ ak))) (az _))
  (af (cU (bP ah)))
  ay)
  (af (cU (qjR (pv 0)))))
theorem qhx (F:Fun K "_law_name" "_law_name" nA f fd) (z_len:mg "len" = none) (z_range:mg "range" = none):bD P w K mg base CX0 1 f fd ["_law_k", "_law_draw"] (spF K jB):=
 F.okD (own:=[]) (own':=[]) (g:=oI) nF (by decide) fun cdv A outer s H E hr B hB=>
  (aa (aQ (i:=2) nF.nd rfl (.inr rfl) ai)
  (aa (aQ (i:=3) nF.nd rfl (.inl rfl) (mj (dq ai) (dq (df (qdL (own':=[]) (N:=[("_law_j" : Str),("_law_letters" : Str),("_law_draw" : Str)]) (src:=[none,some 2,some 1]) (lA (outer:=am nA) (oN:=qgA) rfl (by decide +kernel) rfl rfl) rfl (gm rfl z_range (dq (ao cb (vQ 1) (dq ah)))) (jA 0) (by decide) (i8 0) (fun C s H ex=>⟨bi (i:=0) (show ([("_law_j" : Str),("_law_letters" : Str),("_law_draw" : Str)]:List Str).Nodup by decide +kernel) rfl (.inl rfl),ju,(bU (vQ 1) (dq (ao cb (dq (ao ar (dq (ao gq (vQ 2) (dq ah))) (dq (ao lc (vQ 0) (vQ 0))))) (dq ah))))⟩))))))
  (aa (aQ (i:=4) nF.nd rfl (.inl rfl) (ao cb (dq (ao gq (vQ 1) (dq ah))) (dq (ao ar (dq (fj rfl z_len (vQ 3))) (dq ah)))))
  (af (aU (ao ar (dq (ao ar (dq (bt (vQ 3) dA (au (vQ 4)))) (dq (bU (vQ 2) (dq (ao cb (dq (ao ar (vQ 0) (vQ 1))) (dq ah))))))) (dq (bt (vQ 3) (au (vQ 4)) dA))))))))
theorem qfx (F:Fun K "_law_names" "_law_names" lN f fd) (z_range:mg "range" = none) (h_name:Ok1 P w K mg base "_law_name" 1 (spF K jB)):bD P w K mg base CX0 2 f fd ["_law_draw"] (spF K iH):=
 F.okD (own:=[]) (own':=[]) (g:=lY) qe9 (by decide) fun cdv A outer s H E hr B hB=>
  (af (qh5 (qdL (own':=[]) (N:=[("_law_k" : Str),("_law_draw" : Str)]) (src:=[none,some 0]) (lA (outer:=am lN) (oN:=qdQ) rfl (by decide +kernel) rfl rfl) rfl (gm rfl z_range (dq (ao ar (dq ah) (dq (ao cb (dq (ao gq (vQ 0) (dq ah))) (dq ah)))))) (jA 0) (by decide) (i8 0) (fun C s H ex=>⟨bi (i:=0) (show ([("_law_k" : Str),("_law_draw" : Str)]:List Str).Nodup by decide +kernel) rfl (.inl rfl),ju,(cq h_name hr rfl (ac (vP 0) (ac (vP 1) ak)))⟩))))
theorem qhv (F:Fun K "_law_text" "_law_text" qag f fd) (z_len:mg "len" = none):bD P w K mg base CX0 1 f fd ["_law_number"] (spF K kl):=
 F.okD (own:=[]) (own':=[]) (g:=oH) qdg (by decide) fun cdv A outer s H E hr B hB=>
  (aa (aQ (i:=1) qdg.nd rfl (.inl rfl) (df (bQ (ac ai (ac ai (ac ai (ac ai (ac ai (ac ai (ac ai (ac ai ak)))))))))))
  (af (aU (bU (vQ 1) (dq (ao cb (vQ 0) (dq (fj rfl z_len (vQ 1)))))))))
end
end K16
end
noncomputable section
namespace K16
open PySem L2
noncomputable def js (gn:List D->Option (D×List D)) (cK:List D->Option (D×List D)):DG:=
  (ad (jT 3 (dE ge 0 aN))
  (ad (aF 4 (e2 br (eV 3) (eK (.int 8))))
  (ad (sIf (dh (tB1 (e2 oEq (eV 4) (eK (.int 2)))) (tB1 (e2 oEq (eV 4) (eK (.int 3)))))
  (ck (mP (bA (aC (eK (.str (Str.ofString "text"))) (aC (al kl (aC (e2 cM (eV 3) (eK (.int 8))) aN)) aN)))))
  aV)
  (ad (sIf (dh (tB1 (e2 oLt (eV 4) (eK (.int 2)))) (tB1 (e2 oEq (eV 2) (eK (.int 0)))))
  (ck (mP (bA (aC (eK (.str (Str.ofString "any"))) aN))))
  aV)
  (ad (sIf (tB1 (e2 oLt (eV 4) (eK (.int 6))))
  (ck (qaD (mAC (mP (eK (.str (Str.ofString "has")))) (mAC (dE cK 0 (aC (eV 1) (aC (e2 ph (eV 2) (eK (.int 1))) aN))) mAN))))
  aV)
  (ad (aF 5 (e2 oIx (eF (bj (aC (eK (.int 2)) (aC (eK (.int 1)) (aC (eK (.int 0)) (aC (eK (.int 3)) aN)))))) (e2 br (e2 cM (eV 3) (eK (.int 8))) (eK (.int 4)))))
  (ck (qaD (mAC (mP (e2 oIx (eF (bj (aC (eK (.str (Str.ofString "both"))) (aC (eK (.str (Str.ofString "one"))) aN)))) (e2 ph (eV 4) (eK (.int 6))))) (mAC (mLC (iR1 (eV 5)) [none,some 0,some 1,some 2] (gN 0) (dE gn 1 (aC (eV 2) (aC (e2 ph (eV 3) (eK (.int 1))) aN))) 1 0) mAN))))))))))
noncomputable abbrev nz:Stmt:=top 19
noncomputable abbrev qgz:List Str:=["_law_draws_here", "_law_names_here", "_law_deep", "_law_number", "_law_kind_here", "_law_many"]
theorem nE:aR qgz ["_law_draws_here", "_law_names_here", "_law_deep"] (am nz):=⟨rfl,rfl,rfl,by decide +kernel,rfl,by decide +kernel,by decide +kernel⟩
noncomputable def jc (gn:List D->Option (D×List D)) (cK:List D->Option (D×List D)):DG:=
  (ad (jT 5 (dE ge 0 aN))
   (ad (aF 6 (e2 oIx (e2 aj (eV 1) (eF (bj (aC (eK (.str (Str.ofString "*"))) aN)))) (e2 br (e2 cM (eV 5) (eK (.int 2))) (e2 aj (al bF (aC (eV 1) aN)) (eK (.int 1))))))
   (qbt 3 (qaD (mAC (mP (e2 oIx (eF (bj (aC (eK (.str (Str.ofString "inner"))) (aC (eK (.str (Str.ofString "own"))) aN)))) (e2 br (eV 5) (eK (.int 2))))) (mAC (mP (eV 6)) (mAC (dE gn 0 (aC (eV 1) (aC (eV 2) aN))) mAN)))))))
noncomputable def ku (gn:List D->Option (D×List D)) (cK:List D->Option (D×List D)):DG:=
  (ad (gc 3 (bj aN))
  (ad (og (iRM (m2 oIx (mP (eF (bj (aC (eK (.int 1)) (aC (eK (.int 1)) (aC (eK (.int 2)) (aC (eK (.int 3)) aN))))))) (m2 br (dE ge 0 aN) (mP (eK (.int 4)))))) (gN 4)
  (jc gn cK))
  (mx 3)))
noncomputable abbrev nZ:Stmt:=top 20
noncomputable abbrev qim:List Str:=["_law_draws_here", "_law_names_here", "_law_deep", "_law_found", "_law_k", "_law_number", "_law_name_here"]
theorem jS:aR qim ["_law_draws_here", "_law_names_here", "_law_deep"] (am nZ):=⟨rfl,rfl,rfl,by decide +kernel,rfl,by decide +kernel,by decide +kernel⟩
mutual
noncomputable def cu:Nat->List D->Option (D×List D)
 | 0=>fun _=>none
 | n+1=>mz 3 6 0 (js (cu n) (cx n))
noncomputable def cx:Nat->List D->Option (D×List D)
 | 0=>fun _=>none
 | n+1=>mz 3 7 0 (ku (cu n) (cx n))
end
noncomputable section
variable {P:Program}{w:World}{K:Frag}{mg:Str->Option Value}{base:Heap}{f:Addr}{fd:FuncData}
theorem qhu {n:Nat}(F:Fun K "_law_wish" "_law_wish" nz f fd) (z_range:mg "range" = none) (h_pop:Ok1 P w K mg base "_law_pop" (n+1) (spM K 0 ge)) (h_text:Ok1 P w K mg base "_law_text" (n+1) (spF K kl)) (h_steps:Ok1 P w K mg base "_law_steps" (n+1) (spM K 0 (cx n))) (h_wish:Ok1 P w K mg base "_law_wish" (n+1) (spM K 0 (cu n))):bD P w K mg base CX0 (n+1+1) f fd ["_law_draws_here", "_law_names_here", "_law_deep"] (spM K 0 (cu (n+1))):=
 F.okM (own:=[0]) (own':=[0]) (g:=(js (cu n) (cx n))) nE 0 (by decide) (by decide) fun cdv A outer s H E hr B a hB=>
  (aa (nM (i:=3) nE.nd rfl (.inl rfl) (iF h_pop hr rfl (pv 0) ak))
  (aa (aQ (i:=4) nE.nd rfl (.inl rfl) (ao cb (vQ 3) (dq ah)))
  (aa (aY (PW.pt (ng (aE (bp hr) (vQ 4) (dq ah) (az _)) (kb (aE (bp hr) (vQ 4) (dq ah) (az _)))))
  (af (cU (bP (bg (ac ai (ac (cq h_text hr rfl (ac (ao gq (vQ 3) (dq ah)) ak)) ak))))))
  ay)
  (aa (aY (PW.pt (ng (aE qdq (vQ 4) (dq ah) (az _)) (kb (aE (bp hr) (vQ 2) (dq ah) (az _)))))
  (af (cU (bP (bg (ac ai ak)))))
  ay)
  (aa (aY (aE qdq (vQ 4) (dq ah) (az _))
  (af (cU (qcX (eL (bP ai) (eL (iF h_steps hr rfl (pv 0) (ac (vP 1) (ac (ao qcy (vQ 2) (dq ah)) ak))) kz)))))
  ay)
  (aa (aQ (i:=5) nE.nd rfl (.inl rfl) (bU (dq (df (bQ (ac ah (ac ah (ac ah (ac ah ak))))))) (dq (ao cb (dq (ao gq (vQ 3) (dq ah))) (dq ah)))))
  (af (cU (qcX (eL (bP (bU (dq (df (bQ (ac ai (ac ai ak))))) (dq (ao qcy (vQ 4) (dq ah))))) (eL (qlf (i0:=1) (j0:=0) (N:=[("_law_k" : Str),("_law_draws_here" : Str),("_law_names_here" : Str),("_law_deep" : Str)]) (src:=[none,some 0,some 1,some 2]) (lA (outer:=am nz) (oN:=qgz) rfl (by decide +kernel) rfl rfl) rfl (gm rfl z_range (vQ 5)) (jA 0) (by decide) (qf5 _ 0 1) (fun C s H ex=>⟨bi (i:=0) (show ([("_law_k" : Str),("_law_draws_here" : Str),("_law_names_here" : Str),("_law_deep" : Str)]:List Str).Nodup by decide +kernel) rfl (Or.inl rfl),ju,dmx fun B a hB=>(iF h_wish hr rfl (pv 1) (ac (vP 2) (ac (ao qcy (vQ 3) (dq ah)) ak)))⟩)) kz)))))))))))
theorem qfw {n:Nat}(F:Fun K "_law_steps" "_law_steps" nZ f fd) (z_len:mg "len" = none) (z_range:mg "range" = none) (h_pop:Ok1 P w K mg base "_law_pop" (n+1) (spM K 0 ge)) (h_wish:Ok1 P w K mg base "_law_wish" (n+1) (spM K 0 (cu n))):bD P w K mg base CX0 (n+1+1) f fd ["_law_draws_here", "_law_names_here", "_law_deep"] (spM K 0 (cx (n+1))):=
 F.okM (own:=[0,3]) (own':=[0,3]) (g:=(ku (cu n) (cx n))) jS 0 (by decide) (by decide) fun cdv A outer s H E hr B a hB=>
  (aa (jw (i:=3) jS.nd rfl (.inl rfl) (bQ ak))
  (aa (qh7 PassesOwn.never rfl (qcY rfl z_range (qlg (bP (df (bQ (ac ah (ac ah (ac ah (ac ah ak))))))) (qle cb (iF h_pop hr rfl (pv 0) ak) (bP ah)))) (fun B hB=>(jx (bi (i:=4) jS.nd rfl (.inl rfl)))) (fun B hB=>
  (aa (nM (i:=5) jS.nd rfl (.inl rfl) (iF h_pop hr rfl (pv 0) ak))
   (aa (aQ (i:=6) jS.nd rfl (.inl rfl) (bU (dq (ao ar (vQ 1) (dq (df (bQ (ac ai ak)))))) (dq (ao cb (dq (ao gq (vQ 5) (dq ah))) (dq (ao ar (dq (fj rfl z_len (vQ 1))) (dq ah)))))))
   (af (qh8 (pv 3) (qcX (eL (bP (bU (dq (df (bQ (ac ai (ac ai ak))))) (dq (ao cb (vQ 5) (dq ah))))) (eL (bP (vP 6)) (eL (iF h_wish hr rfl (pv 0) (ac (vP 1) (ac (vP 2) ak))) kz))))))))))
  (af (qbT (pv 3)))))
end
end K16
end
noncomputable section
namespace K16
open PySem L2
noncomputable def iC:DG:=
  (ad (qdh 0 "Reader" "line" (eV 1))
  (qdh 0 "Reader" "at" (eK (.int 0))))
noncomputable def cC:List D->Option (D×D):=qg6 2 2 0 iC
noncomputable abbrev fH:Stmt:=eQ (top 11) 0
noncomputable abbrev mo:List Str:=["self", "line"]
theorem k9:aR mo ["self", "line"] (am fH):=⟨rfl,rfl,rfl,by decide +kernel,rfl,by decide +kernel,by decide +kernel⟩
noncomputable def j9:DG:=
  (bc (aW (fF "Reader" "line" (eV 0)) (pS (fF "Reader" "at" (eV 0))) (pS (e2 aj (fF "Reader" "at" (eV 0)) (eK (.int 1))))))
noncomputable def aq:List D->Option D:=du 1 1 j9
noncomputable abbrev gC:Stmt:=eQ (top 11) 1
noncomputable abbrev oZ:List Str:=["self"]
theorem np:aR oZ ["self"] (am gC):=⟨rfl,rfl,rfl,by decide +kernel,rfl,by decide +kernel,by decide +kernel⟩
noncomputable def bJ:DG:=
  (ad (sIf (tB1 (e2 oNe (cQ "Reader" "ahead" aq (eV 0) aN) (eV 2)))
   (dG "NoText" 0 (fF "Reader" "at" (eV 0)))
   aV)
   (ie 0 "Reader" "at" (fun i j=>i+j) (eK (.int 1))))
noncomputable def io:DG:=
  (gx (iS (eV 1)) (gN 2)
  bJ)
noncomputable def ae:List D->Option (Xo (D×D)):=eC 2 3 0 io
noncomputable abbrev ff:Stmt:=eQ (top 11) 2
noncomputable abbrev lJ:List Str:=["self", "signs", "sign"]
theorem gK:aR lJ ["self", "signs"] (am ff):=⟨rfl,rfl,rfl,by decide +kernel,rfl,by decide +kernel,by decide +kernel⟩
noncomputable def c9:DG:=
  (ie 0 "Reader" "at" (fun i j=>i+j) (eK (.int 1)))
noncomputable def dI:DG:=
  (ad (sIf (tB1 (e2 oEq (cQ "Reader" "ahead" aq (eV 0) aN) (eK (.str (Str.ofString "*")))))
  (ad (bT (aT "Reader" "pass_over" ae 0 (aC (eK (.str (Str.ofString "*"))) aN)))
   (ck (mP (eK (.str (Str.ofString "*"))))))
  aV)
  (ad (aF 1 (fF "Reader" "at" (eV 0)))
  (ad (dP 1000000 (iw kK kK (eK (.str (Str.ofString "a"))) (cQ "Reader" "ahead" aq (eV 0) aN) (eK (.str (Str.ofString "z"))))
  c9)
  (ad (sIf (tB1 (e2 oEq (fF "Reader" "at" (eV 0)) (eV 1)))
  (dG "NoText" 0 (fF "Reader" "at" (eV 0)))
  aV)
  (ck (mP (aW (fF "Reader" "line" (eV 0)) (pS (eV 1)) (pS (fF "Reader" "at" (eV 0))))))))))
noncomputable def cj:List D->Option (Xo (D×D)):=eC 1 2 0 dI
noncomputable abbrev eX:Stmt:=eQ (top 11) 5
noncomputable abbrev lG:List Str:=["self", "start"]
theorem gI:aR lG ["self"] (am eX):=⟨rfl,rfl,rfl,by decide +kernel,rfl,by decide +kernel,by decide +kernel⟩
noncomputable def dJ:DG:=
  (ad (aF 1 (cQ "Reader" "ahead" aq (eV 0) aN))
  (ad (sIf (tB1 (e1 (qaz true bu) (eV 1)))
  (dG "NoText" 0 (fF "Reader" "at" (eV 0)))
  aV)
  (ad (bT (aT "Reader" "pass_over" ae 0 (aC (eV 1) aN)))
  (ck (mP (eV 1))))))
noncomputable def bE:List D->Option (Xo (D×D)):=eC 1 2 0 dJ
noncomputable abbrev eY:Stmt:=eQ (top 11) 9
noncomputable abbrev lH:List Str:=["self", "mark"]
theorem gJ:aR lH ["self"] (am eY):=⟨rfl,rfl,rfl,by decide +kernel,rfl,by decide +kernel,by decide +kernel⟩
noncomputable def cA:DG:=
  (ad (aF 1 (cQ "Reader" "ahead" aq (eV 0) aN))
  (ad (sIf (dh (hV (iw kK kK (eK (.str (Str.ofString " "))) (eV 1) (eK (.str (Str.ofString "~"))))) (tB1 (e2 oEq (al qee (aC (eV 1) aN)) (eK (.int 37)))))
  (dG "NoText" 0 (fF "Reader" "at" (eV 0)))
  aV)
  (ad (ie 0 "Reader" "at" (fun i j=>i+j) (eK (.int 1)))
  (ad (sIf (tB1 (e2 oNe (eV 1) (eK (.str (Str.ofString "\\")))))
  (ck (mP (eV 1)))
  aV)
  (ad (sIf (tB1 (e2 oEq (cQ "Reader" "ahead" aq (eV 0) aN) (eK (.str (Str.ofString "\\")))))
  (ad (bT (aT "Reader" "pass_over" ae 0 (aC (eK (.str (Str.ofString "\\"))) aN)))
   (ck (mP (eK (.str (Str.ofString "\\"))))))
  aV)
  (ad (bT (aT "Reader" "pass_over" ae 0 (aC (eK (.str (Str.ofString "q"))) aN)))
  (ck (mP (eK (.str (Str.ofString "\"")))))))))))
noncomputable def bO:List D->Option (Xo (D×D)):=eC 1 2 0 cA
noncomputable abbrev da:Stmt:=eQ (top 11) 11
noncomputable abbrev jg:List Str:=["self", "sign"]
theorem fA:aR jg ["self"] (am da):=⟨rfl,rfl,rfl,by decide +kernel,rfl,by decide +kernel,by decide +kernel⟩
noncomputable def kg:DG:=
  (lR 1 (aT "Reader" "read_text_sign" bO 0 aN))
noncomputable def dH:DG:=
  (ad (bT (aT "Reader" "pass_over" ae 0 (aC (eK (.str (Str.ofString "\""))) aN)))
  (ad (gc 1 (bj aN))
  (ad (dP 1000000 (tB1 (e2 oNe (cQ "Reader" "ahead" aq (eV 0) aN) (eK (.str (Str.ofString "\"")))))
  kg)
  (ad (bT (aT "Reader" "pass_over" ae 0 (aC (eK (.str (Str.ofString "\""))) aN)))
  (ck (mP (e2 fX (eK (.str (Str.ofString ""))) (eV 1))))))))
noncomputable def cT:List D->Option (Xo (D×D)):=eC 1 2 0 dH
noncomputable abbrev eU:Stmt:=eQ (top 11) 10
noncomputable abbrev lE:List Str:=["self", "pieces"]
theorem gH:aR lE ["self"] (am eU):=⟨rfl,rfl,rfl,by decide +kernel,rfl,by decide +kernel,by decide +kernel⟩
noncomputable section
variable {P:Program}{w:World}{K:Frag}{mg:Str->Option Value}{base:Heap}{f:Addr}{fd:FuncData}
theorem ii (F:Fun K "__init__" "Reader.__init__" fH f fd) (k_Reader_at:∀ C,nsIn K mainGlobals "Reader" = some (some (.ref C))->Cls K C/\de K C "at") (k_Reader_line:∀ C,nsIn K mainGlobals "Reader" = some (some (.ref C))->Cls K C/\de K C "line"):bD P w K mg base CX0 1 f fd ["self", "line"] (spC K 0 cC):=
 F.okC (own:=[0]) (own':=[0]) (g:=iC) k9 0 (by decide) (by decide) fun cdv A outer s H E hr B a hB=>
  (aa (qgg (c:= "Reader") (pv 0) (vP 1) k_Reader_line)
  (af (qgg (c:= "Reader") (pv 0) ah k_Reader_at)))
theorem nr (F:Fun K "ahead" "Reader.ahead" gC f fd) (k_Reader_at:∀ C,nsIn K mainGlobals "Reader" = some (some (.ref C))->Cls K C/\de K C "at") (k_Reader_line:∀ C,nsIn K mainGlobals "Reader" = some (some (.ref C))->Cls K C/\de K C "line"):bD P w K mg base CX0 1 f fd ["self"] (spF K aq):=
 F.okD (own:=[]) (own':=[]) (g:=j9) np (by decide) fun cdv A outer s H E hr B hB=>
  (af (aU (bt (dq (dX (c:= "Reader") (vQ 0) k_Reader_line)) (au (dq (dX (c:= "Reader") (vQ 0) k_Reader_at))) (au (dq (ao ar (dq (dX (c:= "Reader") (vQ 0) k_Reader_at)) (dq ah)))))))
theorem kJ (F:Fun K "pass_over" "Reader.pass_over" ff f fd) (k_Reader_at:∀ C,nsIn K mainGlobals "Reader" = some (some (.ref C))->Cls K C/\de K C "at") (x_NoText:OkX P w K mg base "NoText" 1) (h_Reader_ahead:kO P w K mg base "Reader" "ahead" 2 (spF K aq)):bD P w K mg base (CX2 P w) 3 f fd ["self", "signs"] (cP K 0 ae):=
 F.okCX (own:=[0]) (own':=[0]) (g:=io) gK 0 (by decide) (by decide) fun cdv A outer s H E hr B a hB hfl=>
  (af (qdJ PassesOwn.leaving rfl (qgk (vP 1)) (fun B hB=>(jx (bi (i:=2) gK.nd rfl (.inl rfl)))) (fun B hB hC=>have hfl:=jG.to hfl hB hC
  (aa (aY (aE (iA hr) (dq (ci h_Reader_ahead hr (dvo (pv 0)))) (vQ 2) (az _))
   (af (ja (j:=0) x_NoText (hr.mono (by omega)) hfl rfl (dX (c:= "Reader") (dvo (pv 0)) k_Reader_at)))
   ay)
   (af (mQ (c:= "Reader") (op:=(fun i j=>i+j)) qcS (pv 0) ah k_Reader_at))))))
theorem kG (F:Fun K "read_name" "Reader.read_name" eX f fd) (k_Reader_at:∀ C,nsIn K mainGlobals "Reader" = some (some (.ref C))->Cls K C/\de K C "at") (k_Reader_line:∀ C,nsIn K mainGlobals "Reader" = some (some (.ref C))->Cls K C/\de K C "line") (x_NoText:OkX P w K mg base "NoText" 1) (h_Reader_ahead:kO P w K mg base "Reader" "ahead" 3 (spF K aq)) (h_Reader_pass_over:dR P w K mg base "Reader" "pass_over" 3 (cP K 0 ae)):bD P w K mg base (CX2 P w) 4 f fd ["self"] (cP K 0 cj):=
 F.okCX (own:=[0]) (own':=[0]) (g:=dI) gI 0 (by decide) (by decide) fun cdv A outer s H E hr B a hB hfl=>
  (aa (aY (aE (bp hr) (dq (ci h_Reader_ahead hr (dvo (pv 0)))) (dq ai) (az _))
  (aa (bX (bY h_Reader_pass_over hr hfl (pv 0) (ac ai ak)))
   (af (cU (bP ai))))
  ay)
  (aa (aQ (i:=1) gI.nd rfl (.inl rfl) (dX (c:= "Reader") (dvo (pv 0)) k_Reader_at))
  (aa (gz 1000000 PassesOwn.leaving (qbR qay qay (dq ai) (dq (ci h_Reader_ahead hr (dvo (pv 0)))) (dq ai))
  (af (mQ (c:= "Reader") (op:=(fun i j=>i+j)) qcS (pv 0) ah k_Reader_at)))
  (aa (aY (aE (bp hr) (dq (dX (c:= "Reader") (dvo (pv 0)) k_Reader_at)) (vQ 1) (az _))
  (af (ja (j:=0) x_NoText (hr.mono (by omega)) hfl rfl (dX (c:= "Reader") (dvo (pv 0)) k_Reader_at)))
  ay)
  (af (cU (bP (bt (dq (dX (c:= "Reader") (dvo (pv 0)) k_Reader_line)) (au (vQ 1)) (au (dq (dX (c:= "Reader") (dvo (pv 0)) k_Reader_at)))))))))))
theorem kH (F:Fun K "read_mark" "Reader.read_mark" eY f fd) (k_Reader_at:∀ C,nsIn K mainGlobals "Reader" = some (some (.ref C))->Cls K C/\de K C "at") (T_KINDS:pp P w K mg "KINDS" bu) (x_NoText:OkX P w K mg base "NoText" 1) (h_Reader_ahead:kO P w K mg base "Reader" "ahead" 3 (spF K aq)) (h_Reader_pass_over:dR P w K mg base "Reader" "pass_over" 3 (cP K 0 ae)):bD P w K mg base (CX2 P w) 4 f fd ["self"] (cP K 0 bE):=
 F.okCX (own:=[0]) (own':=[0]) (g:=dJ) gJ 0 (by decide) (by decide) fun cdv A outer s H E hr B a hB hfl=>
  (aa (aQ (i:=1) gJ.nd rfl (.inl rfl) (ci h_Reader_ahead hr (dvo (pv 0))))
  (aa (aY (qeq T_KINDS rfl (vQ 1))
  (af (ja (j:=0) x_NoText (hr.mono (by omega)) hfl rfl (dX (c:= "Reader") (dvo (pv 0)) k_Reader_at)))
  ay)
  (aa (bX (bY h_Reader_pass_over hr hfl (pv 0) (ac (vP 1) ak)))
  (af (cU (bP (vP 1)))))))
theorem iP (F:Fun K "read_text_sign" "Reader.read_text_sign" da f fd) (z_ord:mg "ord" = none) (k_Reader_at:∀ C,nsIn K mainGlobals "Reader" = some (some (.ref C))->Cls K C/\de K C "at"){t_PERCENT:Tok}(c_PERCENT:mg "PERCENT" = some (.int 37 t_PERCENT)) (x_NoText:OkX P w K mg base "NoText" 1) (h_Reader_ahead:kO P w K mg base "Reader" "ahead" 3 (spF K aq)) (h_Reader_pass_over:dR P w K mg base "Reader" "pass_over" 3 (cP K 0 ae)):bD P w K mg base (CX2 P w) 4 f fd ["self"] (cP K 0 bO):=
 F.okCX (own:=[0]) (own':=[0]) (g:=cA) fA 0 (by decide) (by decide) fun cdv A outer s H E hr B a hB hfl=>
  (aa (aQ (i:=1) fA.nd rfl (.inl rfl) (ci h_Reader_ahead hr (dvo (pv 0))))
  (aa (aY (PW.pt (ng (qaW (qbR qay qay (dq ai) (vQ 1) (dq ai))) (kb (aE (bp hr) (dq (qjV rfl z_ord (vQ 1))) (dq (qgo rfl c_PERCENT)) (az _)))))
  (af (ja (j:=0) x_NoText (hr.mono (by omega)) hfl rfl (dX (c:= "Reader") (dvo (pv 0)) k_Reader_at)))
  ay)
  (aa (mQ (c:= "Reader") (op:=(fun i j=>i+j)) qcS (pv 0) ah k_Reader_at)
  (aa (aY (aE (iA hr) (vQ 1) (dq ai) (az _))
  (af (cU (bP (vP 1))))
  ay)
  (aa (aY (aE (bp hr) (dq (ci h_Reader_ahead hr (dvo (pv 0)))) (dq ai) (az _))
  (aa (bX (bY h_Reader_pass_over hr hfl (pv 0) (ac ai ak)))
   (af (cU (bP ai))))
  ay)
  (aa (bX (bY h_Reader_pass_over hr hfl (pv 0) (ac ai ak)))
  (af (cU (bP ai)))))))))
theorem kE (F:Fun K "read_text" "Reader.read_text" eU f fd) (h_Reader_ahead:kO P w K mg base "Reader" "ahead" 4 (spF K aq)) (h_Reader_pass_over:dR P w K mg base "Reader" "pass_over" 4 (cP K 0 ae)) (h_Reader_read_text_sign:dR P w K mg base "Reader" "read_text_sign" 4 (cP K 0 bO)):bD P w K mg base (CX2 P w) 5 f fd ["self"] (cP K 0 cT):=
 F.okCX (own:=[0,1]) (own':=[0,1]) (g:=dH) gH 0 (by decide) (by decide) fun cdv A outer s H E hr B a hB hfl=>
  (aa (bX (bY h_Reader_pass_over hr hfl (pv 0) (ac ai ak)))
  (aa (jw (i:=1) gH.nd rfl (.inl rfl) (bQ ak))
  (aa (gz 1000000 PassesOwn.leaving (aE (iA hr) (dq (ci h_Reader_ahead hr (dvo (pv 0)))) (dq ai) (az _))
  (af (me (pv 1) (bV h_Reader_read_text_sign hr hfl (pv 0)))))
  (aa (bX (bY h_Reader_pass_over hr hfl (pv 0) (ac ai ak)))
  (af (cU (bP (mj (dq ai) (dvo (pv 1))))))))))
end
end K16
end
noncomputable section
namespace K16
open PySem L2
noncomputable def jJ (aO:List D->Option (Xo (D×D))) (F_Reader_read_step:List D->Option (Xo (D×D))) (F_Reader_read_wish:List D->Option (Xo (D×D))) (F_Reader_read_list:List D->Option (Xo (D×D))) (F_Reader_read_short_list:List D->Option (Xo (D×D))):DG:=
  (lR 1 (aT "Reader" "read_step" F_Reader_read_step 0 aN))
noncomputable def bw (aO:List D->Option (Xo (D×D))) (F_Reader_read_step:List D->Option (Xo (D×D))) (F_Reader_read_wish:List D->Option (Xo (D×D))) (F_Reader_read_list:List D->Option (Xo (D×D))) (F_Reader_read_short_list:List D->Option (Xo (D×D))):DG:=
  (ad (mw 1 (mxC (aT "Reader" "read_step" F_Reader_read_step 0 aN) mxN))
  (ad (dP 1000000 (tB1 (e2 oEq (cQ "Reader" "ahead" aq (eV 0) aN) (eK (.str (Str.ofString "/")))))
  (jJ aO F_Reader_read_step F_Reader_read_wish F_Reader_read_list F_Reader_read_short_list))
  (mx 1)))
noncomputable abbrev d7:Stmt:=eQ (top 11) 3
noncomputable abbrev kP:List Str:=["self", "steps"]
theorem gw:aR kP ["self"] (am d7):=⟨rfl,rfl,rfl,by decide +kernel,rfl,by decide +kernel,by decide +kernel⟩
noncomputable def cf (aO:List D->Option (Xo (D×D))) (F_Reader_read_step:List D->Option (Xo (D×D))) (F_Reader_read_wish:List D->Option (Xo (D×D))) (F_Reader_read_list:List D->Option (Xo (D×D))) (F_Reader_read_short_list:List D->Option (Xo (D×D))):DG:=
  (ad (bT (aT "Reader" "pass_over" ae 0 (aC (eK (.str (Str.ofString "/"))) aN)))
  (ad (aF 1 (eK (.str (Str.ofString "own"))))
  (ad (sIf (tB1 (e2 oEq (cQ "Reader" "ahead" aq (eV 0) aN) (eK (.str (Str.ofString "/")))))
  (ad (bT (aT "Reader" "pass_over" ae 0 (aC (eK (.str (Str.ofString "/"))) aN)))
   (aF 1 (eK (.str (Str.ofString "inner")))))
  aV)
  (ad (ic 2 (aT "Reader" "read_name" cj 0 aN))
  (ad (sIf (tB1 (e2 oNe (cQ "Reader" "ahead" aq (eV 0) aN) (eK (.str (Str.ofString "[")))))
  (ck (mP (bA (aC (eV 1) (aC (eV 2) (aC (bA (aC (eK (.str (Str.ofString "any"))) aN)) aN))))))
  aV)
  (ad (bT (aT "Reader" "pass_over" ae 0 (aC (eK (.str (Str.ofString "["))) aN)))
  (ad (sIf (tB1 (e2 oEq (cQ "Reader" "ahead" aq (eV 0) aN) (eK (.str (Str.ofString "a")))))
  (dG "NoText" 0 (fF "Reader" "at" (eV 0)))
  aV)
  (ad (ic 3 (aT "Reader" "read_wish" F_Reader_read_wish 0 aN))
  (ad (bT (aT "Reader" "pass_over" ae 0 (aC (eK (.str (Str.ofString "]"))) aN)))
  (ck (mP (bA (aC (eV 1) (aC (eV 2) (aC (eV 3) aN)))))))))))))))
noncomputable abbrev eW:Stmt:=eQ (top 11) 4
noncomputable abbrev lF:List Str:=["self", "way", "name", "wish"]
theorem cG:aR lF ["self"] (am eW):=⟨rfl,rfl,rfl,by decide +kernel,rfl,by decide +kernel,by decide +kernel⟩
noncomputable def ce (aO:List D->Option (Xo (D×D))) (F_Reader_read_step:List D->Option (Xo (D×D))) (F_Reader_read_wish:List D->Option (Xo (D×D))) (F_Reader_read_list:List D->Option (Xo (D×D))) (F_Reader_read_short_list:List D->Option (Xo (D×D))):DG:=
  (ad (aF 1 (cQ "Reader" "ahead" aq (eV 0) aN))
  (ad (sIf (tB1 (e2 oEq (eV 1) (eK (.str (Str.ofString "/")))))
  (kR (pJ (mxC (mxL (mP (eK (.str (Str.ofString "has"))))) (mxC (aT "Reader" "read_steps" aO 0 aN) mxN))))
  aV)
  (ad (sIf (tB1 (e2 oEq (eV 1) (eK (.str (Str.ofString "(")))))
  (kR (aT "Reader" "read_list" F_Reader_read_list 0 aN))
  aV)
  (ad (sIf (tB1 (e2 oEq (eV 1) (eK (.str (Str.ofString "\"")))))
  (kR (pJ (mxC (mxL (mP (eK (.str (Str.ofString "text"))))) (mxC (aT "Reader" "read_text" cT 0 aN) mxN))))
  aV)
  (ad (bT (aT "Reader" "pass_over" ae 0 (aC (eK (.str (Str.ofString "any"))) aN)))
  (ck (mP (bA (aC (eK (.str (Str.ofString "any"))) aN)))))))))
noncomputable abbrev eS:Stmt:=eQ (top 11) 6
noncomputable abbrev lD:List Str:=["self", "sign"]
theorem gG:aR lD ["self"] (am eS):=⟨rfl,rfl,rfl,by decide +kernel,rfl,by decide +kernel,by decide +kernel⟩
noncomputable def eM (aO:List D->Option (Xo (D×D))) (F_Reader_read_step:List D->Option (Xo (D×D))) (F_Reader_read_wish:List D->Option (Xo (D×D))) (F_Reader_read_list:List D->Option (Xo (D×D))) (F_Reader_read_short_list:List D->Option (Xo (D×D))):DG:=
  (ad (bT (aT "Reader" "pass_over" ae 0 (aC (e2 aj (e2 aj (eK (.str (Str.ofString " "))) (eV 2)) (eK (.str (Str.ofString " ")))) aN)))
   (lR 1 (aT "Reader" "read_wish" F_Reader_read_wish 0 aN)))
noncomputable def cg (aO:List D->Option (Xo (D×D))) (F_Reader_read_step:List D->Option (Xo (D×D))) (F_Reader_read_wish:List D->Option (Xo (D×D))) (F_Reader_read_list:List D->Option (Xo (D×D))) (F_Reader_read_short_list:List D->Option (Xo (D×D))):DG:=
  (ad (bT (aT "Reader" "pass_over" ae 0 (aC (eK (.str (Str.ofString "("))) aN)))
  (ad (sIf (tB1 (e1 (qaz false bu) (cQ "Reader" "ahead" aq (eV 0) aN)))
  (kR (aT "Reader" "read_short_list" F_Reader_read_short_list 0 aN))
  aV)
  (ad (mw 1 (mxC (aT "Reader" "read_wish" F_Reader_read_wish 0 aN) mxN))
  (ad (bT (aT "Reader" "pass_over" ae 0 (aC (eK (.str (Str.ofString " "))) aN)))
  (ad (ic 2 (aT "Reader" "read_mark" bE 0 aN))
  (ad (bT (aT "Reader" "pass_over" ae 0 (aC (eK (.str (Str.ofString " "))) aN)))
  (ad (lR 1 (aT "Reader" "read_wish" F_Reader_read_wish 0 aN))
  (ad (dP 1000000 (tB1 (e2 oEq (cQ "Reader" "ahead" aq (eV 0) aN) (eK (.str (Str.ofString " ")))))
  (eM aO F_Reader_read_step F_Reader_read_wish F_Reader_read_list F_Reader_read_short_list))
  (ad (bT (aT "Reader" "pass_over" ae 0 (aC (eK (.str (Str.ofString ")"))) aN)))
  (ck (mP (bA (aC (e1 (pf bu) (eV 2)) (aC (eV 1) aN))))))))))))))
noncomputable abbrev eZ:Stmt:=eQ (top 11) 7
noncomputable abbrev lI:List Str:=["self", "wishes", "mark"]
theorem fg:aR lI ["self"] (am eZ):=⟨rfl,rfl,rfl,by decide +kernel,rfl,by decide +kernel,by decide +kernel⟩
noncomputable def bv (aO:List D->Option (Xo (D×D))) (F_Reader_read_step:List D->Option (Xo (D×D))) (F_Reader_read_wish:List D->Option (Xo (D×D))) (F_Reader_read_list:List D->Option (Xo (D×D))) (F_Reader_read_short_list:List D->Option (Xo (D×D))):DG:=
  (ad (ic 1 (mx1 (pf bu) (aT "Reader" "read_mark" bE 0 aN)))
  (ad (gc 2 (bj aN))
  (ad (sIf (tB1 (e2 oEq (cQ "Reader" "ahead" aq (eV 0) aN) (eK (.str (Str.ofString " ")))))
  (ad (bT (aT "Reader" "pass_over" ae 0 (aC (eK (.str (Str.ofString " "))) aN)))
   (lR 2 (aT "Reader" "read_wish" F_Reader_read_wish 0 aN)))
  aV)
  (ad (bT (aT "Reader" "pass_over" ae 0 (aC (eK (.str (Str.ofString ")"))) aN)))
  (ck (mP (bA (aC (eV 1) (aC (eV 2) aN)))))))))
noncomputable abbrev cX:Stmt:=eQ (top 11) 8
noncomputable abbrev iY:List Str:=["self", "kind", "wishes"]
theorem cY:aR iY ["self"] (am cX):=⟨rfl,rfl,rfl,by decide +kernel,rfl,by decide +kernel,by decide +kernel⟩
mutual
noncomputable def aD:Nat->List D->Option (Xo (D×D))
 | 0=>fun _=>none
 | n+1=>eC 1 2 0 (bw (aD n) (aK n) (aG n) (aM n) (aw n))
noncomputable def aK:Nat->List D->Option (Xo (D×D))
 | 0=>fun _=>none
 | n+1=>eC 1 4 0 (cf (aD n) (aK n) (aG n) (aM n) (aw n))
noncomputable def aG:Nat->List D->Option (Xo (D×D))
 | 0=>fun _=>none
 | n+1=>eC 1 2 0 (ce (aD n) (aK n) (aG n) (aM n) (aw n))
noncomputable def aM:Nat->List D->Option (Xo (D×D))
 | 0=>fun _=>none
 | n+1=>eC 1 3 0 (cg (aD n) (aK n) (aG n) (aM n) (aw n))
noncomputable def aw:Nat->List D->Option (Xo (D×D))
 | 0=>fun _=>none
 | n+1=>eC 1 3 0 (bv (aD n) (aK n) (aG n) (aM n) (aw n))
end
noncomputable section
variable {P:Program}{w:World}{K:Frag}{mg:Str->Option Value}{base:Heap}{f:Addr}{fd:FuncData}
theorem jY {n:Nat}(F:Fun K "read_steps" "Reader.read_steps" d7 f fd) (h_Reader_ahead:kO P w K mg base "Reader" "ahead" (n+5) (spF K aq)) (h_Reader_read_step:dR P w K mg base "Reader" "read_step" (n+5) (cP K 0 (aK n))):bD P w K mg base (CX2 P w) (n+5+1) f fd ["self"] (cP K 0 (aD (n+1))):=
 F.okCX (own:=[0,1]) (own':=[0,1]) (g:=(bw (aD n) (aK n) (aG n) (aM n) (aw n))) gw 0 (by decide) (by decide) fun cdv A outer s H E hr B a hB hfl=>
  (aa (qbS (i:=1) gw.nd rfl (.inl rfl) (hG (bV h_Reader_read_step hr hfl (pv 0)) mf))
  (aa (gz 1000000 PassesOwn.leaving (aE (bp hr) (dq (ci h_Reader_ahead hr (dvo (pv 0)))) (dq ai) (az _))
  (af (me (pv 1) (bV h_Reader_read_step hr hfl (pv 0)))))
  (af (qbT (pv 1)))))
theorem kF {n:Nat}(F:Fun K "read_step" "Reader.read_step" eW f fd) (k_Reader_at:∀ C,nsIn K mainGlobals "Reader" = some (some (.ref C))->Cls K C/\de K C "at") (x_NoText:OkX P w K mg base "NoText" 1) (h_Reader_ahead:kO P w K mg base "Reader" "ahead" (n+5) (spF K aq)) (h_Reader_pass_over:dR P w K mg base "Reader" "pass_over" (n+5) (cP K 0 ae)) (h_Reader_read_name:dR P w K mg base "Reader" "read_name" (n+5) (cP K 0 cj)) (h_Reader_read_wish:dR P w K mg base "Reader" "read_wish" (n+5) (cP K 0 (aG n))):bD P w K mg base (CX2 P w) (n+5+1) f fd ["self"] (cP K 0 (aK (n+1))):=
 F.okCX (own:=[0]) (own':=[0]) (g:=(cf (aD n) (aK n) (aG n) (aM n) (aw n))) cG 0 (by decide) (by decide) fun cdv A outer s H E hr B a hB hfl=>
  (aa (bX (bY h_Reader_pass_over hr hfl (pv 0) (ac ai ak)))
  (aa (aQ (i:=1) cG.nd rfl (.inl rfl) ai)
  (aa (aY (aE (bp hr) (dq (ci h_Reader_ahead hr (dvo (pv 0)))) (dq ai) (az _))
  (aa (bX (bY h_Reader_pass_over hr hfl (pv 0) (ac ai ak)))
   (af (aQ (i:=1) cG.nd rfl (.inl rfl) ai)))
  ay)
  (aa (l9 (i:=2) cG.nd rfl (.inl rfl) (bV h_Reader_read_name hr hfl (pv 0)))
  (aa (aY (aE (iA hr) (dq (ci h_Reader_ahead hr (dvo (pv 0)))) (dq ai) (az _))
  (af (cU (bP (bg (ac (vP 1) (ac (vP 2) (ac (bg (ac ai ak)) ak)))))))
  ay)
  (aa (bX (bY h_Reader_pass_over hr hfl (pv 0) (ac ai ak)))
  (aa (aY (aE (bp hr) (dq (ci h_Reader_ahead hr (dvo (pv 0)))) (dq ai) (az _))
  (af (ja (j:=0) x_NoText (hr.mono (by omega)) hfl rfl (dX (c:= "Reader") (dvo (pv 0)) k_Reader_at)))
  ay)
  (aa (l9 (i:=3) cG.nd rfl (.inl rfl) (bV h_Reader_read_wish hr hfl (pv 0)))
  (aa (bX (bY h_Reader_pass_over hr hfl (pv 0) (ac ai ak)))
  (af (cU (bP (bg (ac (vP 1) (ac (vP 2) (ac (vP 3) ak))))))))))))))))
theorem kD {n:Nat}(F:Fun K "read_wish" "Reader.read_wish" eS f fd) (h_Reader_ahead:kO P w K mg base "Reader" "ahead" (n+5) (spF K aq)) (h_Reader_pass_over:dR P w K mg base "Reader" "pass_over" (n+5) (cP K 0 ae)) (h_Reader_read_text:dR P w K mg base "Reader" "read_text" (n+5) (cP K 0 cT)) (h_Reader_read_steps:dR P w K mg base "Reader" "read_steps" (n+5) (cP K 0 (aD n))) (h_Reader_read_list:dR P w K mg base "Reader" "read_list" (n+5) (cP K 0 (aM n))):bD P w K mg base (CX2 P w) (n+5+1) f fd ["self"] (cP K 0 (aG (n+1))):=
 F.okCX (own:=[0]) (own':=[0]) (g:=(ce (aD n) (aK n) (aG n) (aM n) (aw n))) gG 0 (by decide) (by decide) fun cdv A outer s H E hr B a hB hfl=>
  (aa (aQ (i:=1) gG.nd rfl (.inl rfl) (ci h_Reader_ahead hr (dvo (pv 0))))
  (aa (aY (aE (bp hr) (vQ 1) (dq ai) (az _))
  (af (nN (qdK (hG (qgh (bP ai)) (hG (bV h_Reader_read_steps hr hfl (pv 0)) mf)))))
  ay)
  (aa (aY (aE (bp hr) (vQ 1) (dq ai) (az _))
  (af (nN (bV h_Reader_read_list hr hfl (pv 0))))
  ay)
  (aa (aY (aE (bp hr) (vQ 1) (dq ai) (az _))
  (af (nN (qdK (hG (qgh (bP ai)) (hG (bV h_Reader_read_text hr hfl (pv 0)) mf)))))
  ay)
  (aa (bX (bY h_Reader_pass_over hr hfl (pv 0) (ac ai ak)))
  (af (cU (bP (bg (ac ai ak))))))))))
theorem kI {n:Nat}(F:Fun K "read_list" "Reader.read_list" eZ f fd) (T_KINDS:pp P w K mg "KINDS" bu) (h_Reader_ahead:kO P w K mg base "Reader" "ahead" (n+5) (spF K aq)) (h_Reader_pass_over:dR P w K mg base "Reader" "pass_over" (n+5) (cP K 0 ae)) (h_Reader_read_mark:dR P w K mg base "Reader" "read_mark" (n+5) (cP K 0 bE)) (h_Reader_read_wish:dR P w K mg base "Reader" "read_wish" (n+5) (cP K 0 (aG n))) (h_Reader_read_short_list:dR P w K mg base "Reader" "read_short_list" (n+5) (cP K 0 (aw n))):bD P w K mg base (CX2 P w) (n+5+1) f fd ["self"] (cP K 0 (aM (n+1))):=
 F.okCX (own:=[0,1]) (own':=[0,1]) (g:=(cg (aD n) (aK n) (aG n) (aM n) (aw n))) fg 0 (by decide) (by decide) fun cdv A outer s H E hr B a hB hfl=>
  (aa (bX (bY h_Reader_pass_over hr hfl (pv 0) (ac ai ak)))
  (aa (aY (qjP T_KINDS rfl (dq (ci h_Reader_ahead hr (dvo (pv 0)))))
  (af (nN (bV h_Reader_read_short_list hr hfl (pv 0))))
  ay)
  (aa (qbS (i:=1) fg.nd rfl (.inl rfl) (hG (bV h_Reader_read_wish hr hfl (pv 0)) mf))
  (aa (bX (bY h_Reader_pass_over hr hfl (pv 0) (ac ai ak)))
  (aa (l9 (i:=2) fg.nd rfl (.inl rfl) (bV h_Reader_read_mark hr hfl (pv 0)))
  (aa (bX (bY h_Reader_pass_over hr hfl (pv 0) (ac ai ak)))
  (aa (me (pv 1) (bV h_Reader_read_wish hr hfl (pv 0)))
  (aa (gz 1000000 PassesOwn.leaving (aE (bp hr) (dq (ci h_Reader_ahead hr (dvo (pv 0)))) (dq ai) (az _))
  (aa (bX (bY h_Reader_pass_over hr hfl (pv 0) (ac (ao ar (dq (ao ar (dq ai) (vQ 2))) (dq ai)) ak)))
   (af (me (pv 1) (bV h_Reader_read_wish hr hfl (pv 0))))))
  (aa (bX (bY h_Reader_pass_over hr hfl (pv 0) (ac ai ak)))
  (jv (own1:=[0]) 1 (af (cU (bP (bg (ac (qjT T_KINDS rfl (vQ 2)) (ac (vP 1) ak))))))))))))))))
theorem iq {n:Nat}(F:Fun K "read_short_list" "Reader.read_short_list" cX f fd) (T_KINDS:pp P w K mg "KINDS" bu) (h_Reader_ahead:kO P w K mg base "Reader" "ahead" (n+5) (spF K aq)) (h_Reader_pass_over:dR P w K mg base "Reader" "pass_over" (n+5) (cP K 0 ae)) (h_Reader_read_mark:dR P w K mg base "Reader" "read_mark" (n+5) (cP K 0 bE)) (h_Reader_read_wish:dR P w K mg base "Reader" "read_wish" (n+5) (cP K 0 (aG n))):bD P w K mg base (CX2 P w) (n+5+1) f fd ["self"] (cP K 0 (aw (n+1))):=
 F.okCX (own:=[0,2]) (own':=[0,2]) (g:=(bv (aD n) (aK n) (aG n) (aM n) (aw n))) cY 0 (by decide) (by decide) fun cdv A outer s H E hr B a hB hfl=>
  (aa (l9 (i:=1) cY.nd rfl (.inl rfl) (qh9 T_KINDS rfl (bV h_Reader_read_mark hr hfl (pv 0))))
  (aa (jw (i:=2) cY.nd rfl (.inl rfl) (bQ ak))
  (aa (aY (aE (bp hr) (dq (ci h_Reader_ahead hr (dvo (pv 0)))) (dq ai) (az _))
  (aa (bX (bY h_Reader_pass_over hr hfl (pv 0) (ac ai ak)))
   (af (me (pv 2) (bV h_Reader_read_wish hr hfl (pv 0)))))
  ay)
  (aa (bX (bY h_Reader_pass_over hr hfl (pv 0) (ac ai ak)))
  (jv (own1:=[0]) 2 (af (cU (bP (bg (ac (vP 1) (ac (vP 2) ak)))))))))))
end
end K16
end
noncomputable section
namespace K16
open PySem L2
noncomputable def aO:=aD 190
noncomputable def qaM:DG:=
  (ad (aF 1 (qbQ "Reader" cC (aC (eV 0) aN)))
  (ad (ic 2 (aT "Reader" "read_steps" aO 1 aN))
  (ad (sIf (tB1 (e2 oLt (fF "Reader" "at" (eV 1)) (al bF (aC (eV 0) aN))))
  (dG "NoText" 1 (fF "Reader" "at" (eV 1)))
  aV)
  (bc (eV 2)))))
noncomputable def fq:List D->Option (Xo D):=pF 1 3 qaM
noncomputable abbrev qah:Stmt:=top 10
noncomputable abbrev qkc:List Str:=["line", "reader", "question"]
theorem qan:aR qkc ["line"] (am qah):=⟨rfl,rfl,rfl,by decide +kernel,rfl,by decide +kernel,by decide +kernel⟩
noncomputable section
variable {P:Program}{w:World}{K:Frag}{mg:Str->Option Value}{base:Heap}{f:Addr}{fd:FuncData}
theorem qhw (F:Fun K "read" "read" qah f fd) (z_len:mg "len" = none) (k_Reader_at:∀ C,nsIn K mainGlobals "Reader" = some (some (.ref C))->Cls K C/\de K C "at") (x_NoText:OkX P w K mg base "NoText" 1) (h_Reader:qlr P w K mg base "Reader" 198 (spC K 0 cC)) (h_Reader_read_steps:dR P w K mg base "Reader" "read_steps" 199 (cP K 0 aO)):bD P w K mg base (CX2 P w) 200 f fd ["line"] (qd1 K fq):=
 F.okFX (own:=[1]) (own':=[1]) (g:=qaM) qan (by decide) fun cdv A outer s H E hr B hB hfl=>
  (aa (qh4 (i:=1) qan.nd rfl (.inl rfl) (qic h_Reader hr rfl (ac (vP 0) ak)))
  (aa (l9 (i:=2) qan.nd rfl (.inl rfl) (bV h_Reader_read_steps hr hfl (pv 1)))
  (aa (aY (aE qdq (dq (dX (c:= "Reader") (dvo (pv 1)) k_Reader_at)) (dq (fj rfl z_len (vQ 0))) (az _))
  (af (ja (j:=1) x_NoText (hr.mono (by omega)) hfl rfl (dX (c:= "Reader") (dvo (pv 1)) k_Reader_at)))
  ay)
  (af (aU (vP 2))))))
end
end K16
end
noncomputable section
namespace K16
open PySem L2
noncomputable def bb (bM:List D->Option D) (dS:List D->Option D):DG:=
  (ad (sIf (tB1 (e2 oEq (e2 oIx (eV 0) (eK (.int 0))) (eK (.str (Str.ofString "any")))))
  (bc (eK (.str (Str.ofString "any"))))
  aV)
  (ad (sIf (tB1 (e2 oEq (e2 oIx (eV 0) (eK (.int 0))) (eK (.str (Str.ofString "text")))))
  (ad (aF 1 (eK (.dic [Sum.inr (Str.ofString "\""),Sum.inr (Str.ofString "\\")] [.str (Str.ofString "\\q"),.str (Str.ofString "\\\\")])))
   (bc (e2 aj (e2 aj (eK (.str (Str.ofString "\""))) (e2 fX (eK (.str (Str.ofString ""))) (eF (fLC (iS (e2 oIx (eV 0) (eK (.int 1)))) [none,some 1] (gN 0) gf (oO (eV 1) (eV 0) (eV 0)))))) (eK (.str (Str.ofString "\""))))))
  aV)
  (ad (sIf (tB1 (e2 oEq (e2 oIx (eV 0) (eK (.int 0))) (eK (.str (Str.ofString "has")))))
  (bc (al dS (aC (e2 oIx (eV 0) (eK (.int 1))) aN)))
  aV)
  (ad (aF 2 (e2 oIx (eF (bj (aC (eK (.str (Str.ofString "&"))) (aC (eK (.str (Str.ofString "+"))) aN)))) (al dD (aC (e2 oEq (e2 oIx (eV 0) (eK (.int 0))) (eK (.str (Str.ofString "one")))) aN))))
  (ad (aF 3 (eF (fLC (iL (e2 oIx (eV 0) (eK (.int 1)))) [none] (gN 0) gf (al bM (aC (eV 0) aN)))))
  (ad (sIf (tB1 (e2 oEq (eV 3) (eF (bj aN))))
  (bc (e2 aj (e2 aj (eK (.str (Str.ofString "("))) (eV 2)) (eK (.str (Str.ofString ")")))))
  aV)
  (ad (sIf (tB1 (e2 oEq (al bF (aC (eV 3) aN)) (eK (.int 1))))
  (bc (e2 aj (e2 aj (e2 aj (e2 aj (eK (.str (Str.ofString "("))) (eV 2)) (eK (.str (Str.ofString " ")))) (e2 oIx (eV 3) (eK (.int 0)))) (eK (.str (Str.ofString ")")))))
  aV)
  (bc (e2 aj (e2 aj (eK (.str (Str.ofString "("))) (e2 fX (e2 aj (e2 aj (eK (.str (Str.ofString " "))) (eV 2)) (eK (.str (Str.ofString " ")))) (eV 3))) (eK (.str (Str.ofString ")"))))))))))))
noncomputable abbrev fU:Stmt:=top 21
noncomputable abbrev kj:List Str:=["_law_wish_here", "_law_signs", "_law_mark", "_law_some"]
theorem gP:aR kj ["_law_wish_here"] (am fU):=⟨rfl,rfl,rfl,by decide +kernel,rfl,by decide +kernel,by decide +kernel⟩
noncomputable def kf (bM:List D->Option D) (dS:List D->Option D):DG:=
  (ad (aF 1 (e2 aj (e2 aj (eV 1) (e2 oIx (eF (bj (aC (eK (.str (Str.ofString "/"))) (aC (eK (.str (Str.ofString "//"))) aN)))) (al dD (aC (e2 oEq (eV 2) (eK (.str (Str.ofString "inner")))) aN)))) (eV 3)))
   (sIf (tB1 (e2 oNe (eV 4) (bA (aC (eK (.str (Str.ofString "any"))) aN))))
   (aF 1 (e2 aj (e2 aj (e2 aj (eV 1) (eK (.str (Str.ofString "[")))) (al bM (aC (eV 4) aN))) (eK (.str (Str.ofString "]")))))
   aV))
noncomputable def lm (bM:List D->Option D) (dS:List D->Option D):DG:=
  (ad (aF 1 (eK (.str (Str.ofString ""))))
  (ad (gx (iL (eV 0)) (gN3 2 3 4)
  (kf bM dS))
  (bc (eV 1))))
noncomputable abbrev qai:Stmt:=top 22
noncomputable abbrev qkd:List Str:=["_law_steps_here", "_law_line_here", "_law_way", "_law_name_here", "_law_wish_here"]
theorem jl:aR qkd ["_law_steps_here"] (am qai):=⟨rfl,rfl,rfl,by decide +kernel,rfl,by decide +kernel,by decide +kernel⟩
noncomputable def mV (gu:List D->Option D):DG:=
  (sIf (hV (jN (al gu (aC (e2 oIx (eV 0) (eV 2)) (aC (e2 oIx (eV 1) (eV 2)) aN)))))
   (bc (eK (.bl false)))
   aV)
noncomputable def ky (gu:List D->Option D):DG:=
  (ad (sIf (jN (eIs "str" (eV 1)))
  (bc (pj (eIs "str" (eV 0)) (e2 oEq (eV 0) (eV 1))))
  aV)
  (ad (sIf (jN (eIs "int" (eV 1)))
  (bc (pj (eIs "int" (eV 0)) (pj (qjN (tB1 (eIs "bool" (eV 0)))) (e2 oEq (eV 0) (eV 1)))))
  aV)
  (ad (sIf (jN (eIs "list" (eV 1)))
  (sIf (hV (jN (eIs "list" (eV 0))))
   (bc (eK (.bl false)))
   aV)
  (sIf (hV (jN (eIs "tuple" (eV 0))))
   (bc (eK (.bl false)))
   aV))
  (ad (sIf (tB1 (e2 oNe (al bF (aC (eV 0) aN)) (al bF (aC (eV 1) aN))))
  (bc (eK (.bl false)))
  aV)
  (ad (gx (iR1 (al bF (aC (eV 1) aN))) (gN 2)
  (mV gu))
  (bc (eK (.bl true))))))))
noncomputable abbrev n6:Stmt:=top 15
noncomputable abbrev qin:List Str:=["_law_found", "_law_due", "_law_k"]
theorem qbq:aR qin ["_law_found", "_law_due"] (am n6):=⟨rfl,rfl,rfl,by decide +kernel,rfl,by decide +kernel,by decide +kernel⟩
mutual
noncomputable def bn:Nat->List D->Option D
 | 0=>fun _=>none
 | n+1=>du 1 4 (bb (bn n) (dY n))
noncomputable def dY:Nat->List D->Option D
 | 0=>fun _=>none
 | n+1=>du 1 5 (lm (bn n) (dY n))
end
noncomputable def cS:Nat->List D->Option D
 | 0=>fun _=>none
 | n+1=>du 2 3 (ky (cS n))
noncomputable section
variable {P:Program}{w:World}{K:Frag}{mg:Str->Option Value}{base:Heap}{f:Addr}{fd:FuncData}
theorem qax {n:Nat}(F:Fun K "_law_wish_text" "_law_wish_text" fU f fd) (z_int:mg "int" = none) (z_len:mg "len" = none) (h_line:Ok1 P w K mg base "_law_line" (n+0) (spF K (dY n))) (h_wish_text:Ok1 P w K mg base "_law_wish_text" (n+0) (spF K (bn n))):bD P w K mg base CX0 (n+0+1) f fd ["_law_wish_here"] (spF K (bn (n+1))):=
 F.okD (own:=[]) (own':=[]) (g:=(bb (bn n) (dY n))) gP (by decide) fun cdv A outer s H E hr B hB=>
  (aa (aY (aE (bp hr) (dq (bU (vQ 0) (dq ah))) (dq ai) (az _))
  (af (aU ai))
  ay)
  (aa (aY (aE (bp hr) (dq (bU (vQ 0) (dq ah))) (dq ai) (az _))
  (aa (aQ (i:=1) gP.nd rfl (.inr rfl) qib)
   (af (aU (ao ar (dq (ao ar (dq ai) (dq (mj (dq ai) (dq (df (qdL (own':=[]) (N:=[("_law_sign" : Str),("_law_signs" : Str)]) (src:=[none,some 1]) (lA (outer:=am fU) (oN:=kj) rfl (by decide +kernel) rfl rfl) rfl (qgk (bU (vQ 0) (dq ah))) (jA 0) (by decide) (i8 0) (fun C s H ex=>⟨bi (i:=0) (show ([("_law_sign" : Str),("_law_signs" : Str)]:List Str).Nodup by decide +kernel) rfl (.inl rfl),ju,(qia (qk8 hr) (vQ 1) (vQ 0) (vP 0) ⟨rfl,rfl,rfl,rfl⟩)⟩)))))))) (dq ai)))))
  ay)
  (aa (aY (aE (bp hr) (dq (bU (vQ 0) (dq ah))) (dq ai) (az _))
  (af (aU (cq h_line hr rfl (ac (bU (vQ 0) (dq ah)) ak))))
  ay)
  (aa (aQ (i:=2) gP.nd rfl (.inl rfl) (bU (dq (df (bQ (ac ai (ac ai ak))))) (dq (kB rfl z_int (dq (iW (bp hr) (dq (bU (vQ 0) (dq ah))) (dq ai) (az _)))))))
  (aa (qgf (i:=3) (own':=[]) (N:=[("_law_one" : Str)]) (src:=[none]) (lA (outer:=am fU) (oN:=kj) rfl (by decide +kernel) rfl rfl) rfl gP.nd rfl rfl (mh (bU (vQ 0) (dq ah))) (jA 0) (by decide) (i8 0) (fun C s H ex=>⟨bi (i:=0) (show ([("_law_one" : Str)]:List Str).Nodup by decide +kernel) rfl (.inl rfl),ju,(cq h_wish_text hr rfl (ac (vP 0) ak))⟩))
  (aa (aY (aE (bp hr) (vQ 3) (dq (df (bQ ak))) (az _))
  (af (aU (ao ar (dq (ao ar (dq ai) (vQ 2))) (dq ai))))
  ay)
  (aa (aY (aE (bp hr) (dq (fj rfl z_len (vQ 3))) (dq ah) (az _))
  (af (aU (ao ar (dq (ao ar (dq (ao ar (dq (ao ar (dq ai) (vQ 2))) (dq ai))) (dq (bU (vQ 3) (dq ah))))) (dq ai))))
  ay)
  (af (aU (ao ar (dq (ao ar (dq ai) (dq (mj (dq (ao ar (dq (ao ar (dq ai) (vQ 2))) (dq ai))) (vQ 3))))) (dq ai)))))))))))
theorem qhy {n:Nat}(F:Fun K "_law_line" "_law_line" qai f fd) (z_int:mg "int" = none) (h_wish_text:Ok1 P w K mg base "_law_wish_text" (n+0) (spF K (bn n))):bD P w K mg base CX0 (n+0+1) f fd ["_law_steps_here"] (spF K (dY (n+1))):=
 F.okD (own:=[]) (own':=[]) (g:=(lm (bn n) (dY n))) jl (by decide) fun cdv A outer s H E hr B hB=>
  (aa (aQ (i:=1) jl.nd rfl (.inl rfl) ai)
  (aa (mO PassesOwn.never rfl (mh (vP 0)) (fun B hB=>(qgl (jX rfl (cw (bi (i:=2) jl.nd rfl (.inl rfl)) (cw (bi (i:=3) jl.nd rfl (.inl rfl)) (cw (bi (i:=4) jl.nd rfl (.inl rfl)) iy)))))) (fun B hB=>
  (aa (aQ (i:=1) jl.nd rfl (.inl rfl) (ao ar (dq (ao ar (vQ 1) (dq (bU (dq (df (bQ (ac ai (ac ai ak))))) (dq (kB rfl z_int (dq (iW (bp hr) (vQ 2) (dq ai) (az _))))))))) (vQ 3)))
   (af (aY (aE (iA hr) (vQ 4) (dq (bg (ac ai ak))) (az _))
   (af (aQ (i:=1) jl.nd rfl (.inl rfl) (ao ar (dq (ao ar (dq (ao ar (vQ 1) (dq ai))) (dq (cq h_wish_text hr rfl (ac (vP 4) ak))))) (dq ai))))
   ay)))))
  (af (aU (vP 1)))))
theorem qfz {n:Nat}(F:Fun K "_law_alike" "_law_alike" n6 f fd) (z_bool:mg "bool" = none) (z_int:mg "int" = none) (z_isinstance:mg "isinstance" = none) (z_len:mg "len" = none) (z_list:mg "list" = none) (z_range:mg "range" = none) (z_str:mg "str" = none) (z_tuple:mg "tuple" = none) (h_alike:Ok1 P w K mg base "_law_alike" (n+0) (spF K (cS n))):bD P w K mg base CX0 (n+0+1) f fd ["_law_found", "_law_due"] (spF K (cS (n+1))):=
 F.okD (own:=[]) (own':=[]) (g:=(ky (cS n))) qbq (by decide) fun cdv A outer s H E hr B hB=>
  (aa (aY (i9 (dq (fN (T:= "str") (by decide) rfl z_isinstance rfl z_str (by decide +kernel) (vQ 1))))
  (af (aU (qaY (fN (T:= "str") (by decide) rfl z_isinstance rfl z_str (by decide +kernel) (vQ 0)) (qcZ (iW (bp hr) (vQ 0) (vQ 1) (az _))))))
  ay)
  (aa (aY (i9 (dq (fN (T:= "int") (by decide) rfl z_isinstance rfl z_int (by decide +kernel) (vQ 1))))
  (af (aU (qaY (fN (T:= "int") (by decide) rfl z_isinstance rfl z_int (by decide +kernel) (vQ 0)) (qaY (qjW (fN (T:= "bool") (by decide) rfl z_isinstance rfl z_bool (by decide +kernel) (vQ 0))) (qcZ (iW (bp hr) (vQ 0) (vQ 1) (az _)))))))
  ay)
  (aa (aY (i9 (dq (fN (T:= "list") (by decide) rfl z_isinstance rfl z_list (by decide +kernel) (vQ 1))))
  (af (aY (qaW (i9 (dq (fN (T:= "list") (by decide) rfl z_isinstance rfl z_list (by decide +kernel) (vQ 0)))))
   (af (aU qbY))
   ay))
  (af (aY (qaW (i9 (dq (fN (T:= "tuple") (by decide) rfl z_isinstance rfl z_tuple (by decide +kernel) (vQ 0)))))
   (af (aU qbY))
   ay)))
  (aa (aY (aE (iA hr) (dq (fj rfl z_len (vQ 0))) (dq (fj rfl z_len (vQ 1))) (az _))
  (af (aU qbY))
  ay)
  (aa (mO PassesOwn.never rfl (gm rfl z_range (dq (fj rfl z_len (vQ 1)))) (fun B hB=>(jx (bi (i:=2) qbq.nd rfl (.inl rfl)))) (fun B hB=>
  (af (aY (qaW (i9 (dq (cq h_alike hr rfl (ac (bU (vQ 0) (vQ 2)) (ac (bU (vQ 1) (vQ 2)) ak))))))
   (af (aU qbY))
   ay))))
  (af (aU qbY)))))))
end
end K16
end
noncomputable section
namespace K16
open PySem L2
noncomputable def fO:DG:=
  (ad (aF 3 (aW (eV 0) (pS (eV 1)) (pS (e2 aj (eV 1) (eK (.int 1))))))
   (ad (sIf (tB1 (e2 oEq (eV 3) (eK (.str (Str.ofString "")))))
   (bc (bA (aC (eK .non) (aC (eV 1) aN))))
   aV)
   (ad (aF 1 (e2 aj (eV 1) (eK (.int 1))))
   (ad (sIf (tB1 (e2 oEq (eV 3) (eK (.str (Str.ofString "\\")))))
   (ad (sIf (tB1 (e2 (oIn true) (aW (eV 0) (pS (eV 1)) (pS (e2 aj (eV 1) (eK (.int 1))))) (bA (aC (eK (.str (Str.ofString "q"))) (aC (eK (.str (Str.ofString "\\"))) aN)))))
    (bc (bA (aC (eK .non) (aC (eV 1) aN))))
    aV)
    (ad (aF 3 (e2 oIx (eF (bj (aC (eK (.str (Str.ofString "\""))) (aC (eK (.str (Str.ofString "\\"))) aN)))) (al dD (aC (e2 oEq (e2 oIx (eV 0) (eV 1)) (eK (.str (Str.ofString "\\")))) aN))))
    (aF 1 (e2 aj (eV 1) (eK (.int 1))))))
   aV)
   (aF 2 (e2 aj (eV 2) (eV 3)))))))
noncomputable def kt:DG:=
  (ad (aF 2 (eK (.str (Str.ofString ""))))
  (ad (aF 1 (e2 aj (eV 1) (eK (.int 1))))
  (ad (dP 1000000 (tB1 (e2 oNe (aW (eV 0) (pS (eV 1)) (pS (e2 aj (eV 1) (eK (.int 1))))) (eK (.str (Str.ofString "\"")))))
  fO)
  (bc (bA (aC (bA (aC (eK (.str (Str.ofString "text"))) (aC (eV 2) aN))) (aC (e2 aj (eV 1) (eK (.int 1))) aN)))))))
noncomputable def jh:List D->Option D:=du 2 4 kt
noncomputable abbrev kY:Stmt:=top 24
noncomputable abbrev qew:List Str:=["_law_line_here", "_law_at", "_law_found", "_law_sign"]
theorem d9:aR qew ["_law_line_here", "_law_at"] (am kY):=⟨rfl,rfl,rfl,by decide +kernel,rfl,by decide +kernel,by decide +kernel⟩
noncomputable def gU:DG:=
  (aF 1 (e2 aj (eV 1) (eK (.int 1))))
noncomputable def jt:DG:=
  (ad (sIf (tB1 (e2 oEq (aW (eV 0) (pS (eV 1)) (pS (e2 aj (eV 1) (eK (.int 1))))) (eK (.str (Str.ofString "*")))))
  (bc (e2 aj (eV 1) (eK (.int 1))))
  aV)
  (ad (dP 1000000 (nV (tB1 (e2 oNe (aW (eV 0) (pS (eV 1)) (pS (e2 aj (eV 1) (eK (.int 1))))) (eK (.str (Str.ofString ""))))) (tB1 (e2 qfB (e2 oIx (eV 0) (eV 1)) (eK (.str (Str.ofString "abcdefghijklmnopqrstuvwxyz"))))))
  gU)
  (bc (eV 1))))
noncomputable def fM:List D->Option D:=du 2 2 jt
noncomputable abbrev jR:Stmt:=top 27
noncomputable abbrev qc3:List Str:=["_law_line_here", "_law_at"]
theorem mZ:aR qc3 ["_law_line_here", "_law_at"] (am jR):=⟨rfl,rfl,rfl,by decide +kernel,rfl,by decide +kernel,by decide +kernel⟩
noncomputable section
variable {P:Program}{w:World}{K:Frag}{mg:Str->Option Value}{base:Heap}{f:Addr}{fd:FuncData}
theorem qcu (F:Fun K "_law_text_in" "_law_text_in" kY f fd) (z_int:mg "int" = none):bD P w K mg base CX0 1 f fd ["_law_line_here", "_law_at"] (spF K jh):=
 F.okD (own:=[]) (own':=[]) (g:=kt) d9 (by decide) fun cdv A outer s H E hr B hB=>
  (aa (aQ (i:=2) d9.nd rfl (.inl rfl) ai)
  (aa (aQ (i:=1) d9.nd rfl (.inl rfl) (ao ar (vQ 1) (dq ah)))
  (aa (gz 1000000 PassesOwn.never (aE (iA hr) (dq (bt (vQ 0) (au (vQ 1)) (au (dq (ao ar (vQ 1) (dq ah)))))) (dq ai) (az _))
  (aa (aQ (i:=3) d9.nd rfl (.inl rfl) (bt (vQ 0) (au (vQ 1)) (au (dq (ao ar (vQ 1) (dq ah))))))
   (aa (aY (aE (bp hr) (vQ 3) (dq ai) (az _))
   (af (aU (bg (ac cZ (ac (vP 1) ak)))))
   ay)
   (aa (aQ (i:=1) d9.nd rfl (.inl rfl) (ao ar (vQ 1) (dq ah)))
   (aa (aY (aE (bp hr) (vQ 3) (dq ai) (az _))
   (aa (aY (aE ou (dq (bt (vQ 0) (au (vQ 1)) (au (dq (ao ar (vQ 1) (dq ah)))))) (dq (bg (ac ai (ac ai ak)))) rfl)
    (af (aU (bg (ac cZ (ac (vP 1) ak)))))
    ay)
    (aa (aQ (i:=3) d9.nd rfl (.inl rfl) (bU (dq (df (bQ (ac ai (ac ai ak))))) (dq (kB rfl z_int (dq (iW (bp hr) (dq (bU (vQ 0) (vQ 1))) (dq ai) (az _)))))))
    (af (aQ (i:=1) d9.nd rfl (.inl rfl) (ao ar (vQ 1) (dq ah))))))
   ay)
   (af (aQ (i:=2) d9.nd rfl (.inl rfl) (ao ar (vQ 2) (vQ 3)))))))))
  (af (aU (bg (ac (bg (ac ai (ac (vP 2) ak))) (ac (ao ar (vQ 1) (dq ah)) ak))))))))
theorem qbC (F:Fun K "_law_name_end" "_law_name_end" jR f fd):bD P w K mg base CX0 1 f fd ["_law_line_here", "_law_at"] (spF K fM):=
 F.okD (own:=[]) (own':=[]) (g:=jt) mZ (by decide) fun cdv A outer s H E hr B hB=>
  (aa (aY (aE (bp hr) (dq (bt (vQ 0) (au (vQ 1)) (au (dq (ao ar (vQ 1) (dq ah)))))) (dq ai) (az _))
  (af (aU (ao ar (vQ 1) (dq ah))))
  ay)
  (aa (gz 1000000 PassesOwn.never (PW.pt (qjO (aE (iA hr) (dq (bt (vQ 0) (au (vQ 1)) (au (dq (ao ar (vQ 1) (dq ah)))))) (dq ai) (az _)) (qh3 (aE qjn (dq (bU (vQ 0) (vQ 1))) (dq ai) rfl))))
  (af (aQ (i:=1) mZ.nd rfl (.inl rfl) (ao ar (vQ 1) (dq ah)))))
  (af (aU (vP 1)))))
end
end K16
end
noncomputable section
namespace K16
open PySem L2
noncomputable def ke (bo:List D->Option D) (F_step_in:List D->Option D) (F_wish_in:List D->Option D) (F_list_in:List D->Option D):DG:=
  (ad (sIf (tB1 (e2 oNe (aW (eV 0) (pS (eV 1)) (pS (e2 aj (eV 1) (eK (.int 1))))) (eV 5)))
     (bc (bA (aC (eK .non) (aC (eV 1) aN))))
     aV)
     (aF 1 (e2 aj (eV 1) (eK (.int 1)))))
noncomputable def c8 (bo:List D->Option D) (F_step_in:List D->Option D) (F_wish_in:List D->Option D) (F_list_in:List D->Option D):DG:=
  (ad (gx (iL (eF (bj (aC (eK (.str (Str.ofString " "))) (aC (eV 3) (aC (eK (.str (Str.ofString " "))) aN)))))) (gN 5)
    (ke bo F_step_in F_wish_in F_list_in))
    (ad (gQ (gN2 4 1) (al F_wish_in (aC (eV 0) (aC (eV 1) aN))))
    (ad (sIf (tB1 (e2 jo (eV 4) (eK .non)))
    (bc (bA (aC (eK .non) (aC (eV 1) aN))))
    aV)
    (my 2 (eV 4)))))
noncomputable def gY (bo:List D->Option D) (F_step_in:List D->Option D) (F_wish_in:List D->Option D) (F_list_in:List D->Option D):DG:=
  (ad (gc 2 (bj aN))
  (ad (aF 3 (aW (eV 0) (pS (e2 aj (eV 1) (eK (.int 1)))) (pS (e2 aj (eV 1) (eK (.int 2))))))
  (ad (sIf (tB1 (e2 (oIn false) (eV 3) (bA (aC (eK (.str (Str.ofString "&"))) (aC (eK (.str (Str.ofString "+"))) aN)))))
  (ad (aF 1 (e2 aj (eV 1) (eK (.int 2))))
   (sIf (tB1 (e2 oEq (aW (eV 0) (pS (eV 1)) (pS (e2 aj (eV 1) (eK (.int 1))))) (eK (.str (Str.ofString " ")))))
   (ad (gQ (gN2 4 1) (al F_wish_in (aC (eV 0) (aC (e2 aj (eV 1) (eK (.int 1))) aN))))
    (ad (sIf (tB1 (e2 jo (eV 4) (eK .non)))
    (bc (bA (aC (eK .non) (aC (eV 1) aN))))
    aV)
    (my 2 (eV 4))))
   aV))
  (ad (gQ (gN2 4 1) (al F_wish_in (aC (eV 0) (aC (e2 aj (eV 1) (eK (.int 1))) aN))))
   (ad (aF 3 (aW (eV 0) (pS (e2 aj (eV 1) (eK (.int 1)))) (pS (e2 aj (eV 1) (eK (.int 2))))))
   (ad (sIf (dh (tB1 (e2 jo (eV 4) (eK .non))) (tB1 (e2 oNe (aW (eV 0) (pS (eV 1)) (pS (e2 aj (eV 1) (eK (.int 1))))) (eK (.str (Str.ofString " "))))))
   (bc (bA (aC (eK .non) (aC (eV 1) aN))))
   aV)
   (ad (sIf (tB1 (e2 (oIn true) (eV 3) (bA (aC (eK (.str (Str.ofString "&"))) (aC (eK (.str (Str.ofString "+"))) aN)))))
   (bc (bA (aC (eK .non) (aC (e2 aj (eV 1) (eK (.int 1))) aN))))
   aV)
   (ad (my 2 (eV 4))
   (dP 1000000 (dh (tB1 (e2 oEq (al bF (aC (eV 2) aN)) (eK (.int 1)))) (tB1 (e2 oEq (aW (eV 0) (pS (eV 1)) (pS (e2 aj (eV 1) (eK (.int 1))))) (eK (.str (Str.ofString " "))))))
   (c8 bo F_step_in F_wish_in F_list_in))))))))
  (ad (sIf (tB1 (e2 oNe (aW (eV 0) (pS (eV 1)) (pS (e2 aj (eV 1) (eK (.int 1))))) (eK (.str (Str.ofString ")")))))
  (bc (bA (aC (eK .non) (aC (eV 1) aN))))
  aV)
  (bc (bA (aC (bA (aC (e2 oIx (eF (bj (aC (eK (.str (Str.ofString "both"))) (aC (eK (.str (Str.ofString "one"))) aN)))) (al dD (aC (e2 oEq (eV 3) (eK (.str (Str.ofString "+")))) aN))) (aC (eV 2) aN))) (aC (e2 aj (eV 1) (eK (.int 1))) aN))))))))
noncomputable abbrev k8:Stmt:=top 25
noncomputable abbrev qez:List Str:=["_law_line_here", "_law_at", "_law_found", "_law_mark", "_law_one", "_law_sign"]
theorem b9:aR qez ["_law_line_here", "_law_at"] (am k8):=⟨rfl,rfl,rfl,by decide +kernel,rfl,by decide +kernel,by decide +kernel⟩
noncomputable def qb5 (bo:List D->Option D) (F_step_in:List D->Option D) (F_wish_in:List D->Option D) (F_list_in:List D->Option D):DG:=
  (ad (sIf (tB1 (e2 oNe (aW (eV 0) (pS (eV 1)) (pS (e2 aj (eV 1) (eK (.int 1))))) (eV 3)))
   (bc (bA (aC (eK .non) (aC (eV 1) aN))))
   aV)
   (aF 1 (e2 aj (eV 1) (eK (.int 1)))))
noncomputable def gW (bo:List D->Option D) (F_step_in:List D->Option D) (F_wish_in:List D->Option D) (F_list_in:List D->Option D):DG:=
  (ad (sIf (tB1 (e2 oEq (aW (eV 0) (pS (eV 1)) (pS (e2 aj (eV 1) (eK (.int 1))))) (eK (.str (Str.ofString "\"")))))
  (bc (al jh (aC (eV 0) (aC (eV 1) aN))))
  aV)
  (ad (sIf (tB1 (e2 oEq (aW (eV 0) (pS (eV 1)) (pS (e2 aj (eV 1) (eK (.int 1))))) (eK (.str (Str.ofString "(")))))
  (bc (al F_list_in (aC (eV 0) (aC (eV 1) aN))))
  aV)
  (ad (sIf (tB1 (e2 oEq (aW (eV 0) (pS (eV 1)) (pS (e2 aj (eV 1) (eK (.int 1))))) (eK (.str (Str.ofString "/")))))
  (ad (gQ (gN2 2 1) (al bo (aC (eV 0) (aC (eV 1) aN))))
   (ad (sIf (tB1 (e2 jo (eV 2) (eK .non)))
   (bc (bA (aC (eK .non) (aC (eV 1) aN))))
   aV)
   (bc (bA (aC (bA (aC (eK (.str (Str.ofString "has"))) (aC (eV 2) aN))) (aC (eV 1) aN))))))
  aV)
  (ad (gx (iL (eF (bj (aC (eK (.str (Str.ofString "a"))) (aC (eK (.str (Str.ofString "n"))) (aC (eK (.str (Str.ofString "y"))) aN)))))) (gN 3)
  (qb5 bo F_step_in F_wish_in F_list_in))
  (bc (bA (aC (bA (aC (eK (.str (Str.ofString "any"))) aN)) (aC (eV 1) aN))))))))
noncomputable abbrev kX:Stmt:=top 26
noncomputable abbrev qev:List Str:=["_law_line_here", "_law_at", "_law_steps_here", "_law_sign"]
theorem hZ:aR qev ["_law_line_here", "_law_at"] (am kX):=⟨rfl,rfl,rfl,by decide +kernel,rfl,by decide +kernel,by decide +kernel⟩
noncomputable def gX (bo:List D->Option D) (F_step_in:List D->Option D) (F_wish_in:List D->Option D) (F_list_in:List D->Option D):DG:=
  (ad (sIf (tB1 (e2 oNe (aW (eV 0) (pS (eV 1)) (pS (e2 aj (eV 1) (eK (.int 1))))) (eK (.str (Str.ofString "/")))))
  (bc (bA (aC (eK .non) (aC (eV 1) aN))))
  aV)
  (ad (aF 2 (e2 oIx (eF (bj (aC (eK (.str (Str.ofString "own"))) (aC (eK (.str (Str.ofString "inner"))) aN)))) (al dD (aC (e2 oEq (aW (eV 0) (pS (e2 aj (eV 1) (eK (.int 1)))) (pS (e2 aj (eV 1) (eK (.int 2))))) (eK (.str (Str.ofString "/")))) aN))))
  (ad (aF 1 (e2 aj (e2 aj (eV 1) (eK (.int 1))) (al dD (aC (e2 oEq (eV 2) (eK (.str (Str.ofString "inner")))) aN))))
  (ad (aF 3 (al fM (aC (eV 0) (aC (eV 1) aN))))
  (ad (sIf (tB1 (e2 oEq (eV 3) (eV 1)))
  (bc (bA (aC (eK .non) (aC (eV 1) aN))))
  aV)
  (ad (aF 4 (aW (eV 0) (pS (eV 1)) (pS (eV 3))))
  (ad (aF 5 (bA (aC (eK (.str (Str.ofString "any"))) aN)))
  (ad (sIf (tB1 (e2 oEq (aW (eV 0) (pS (eV 3)) (pS (e2 aj (eV 3) (eK (.int 1))))) (eK (.str (Str.ofString "[")))))
  (ad (sIf (tB1 (e2 (oIn true) (aW (eV 0) (pS (e2 aj (eV 3) (eK (.int 1)))) (pS (e2 aj (eV 3) (eK (.int 2))))) (bA (aC (eK (.str (Str.ofString "\""))) (aC (eK (.str (Str.ofString "/"))) (aC (eK (.str (Str.ofString "("))) aN))))))
   (bc (bA (aC (eK .non) (aC (e2 aj (eV 3) (eK (.int 1))) aN))))
   aV)
   (ad (gQ (gN2 5 3) (al F_wish_in (aC (eV 0) (aC (e2 aj (eV 3) (eK (.int 1))) aN))))
   (ad (sIf (dh (tB1 (e2 jo (eV 5) (eK .non))) (tB1 (e2 oNe (aW (eV 0) (pS (eV 3)) (pS (e2 aj (eV 3) (eK (.int 1))))) (eK (.str (Str.ofString "]"))))))
   (bc (bA (aC (eK .non) (aC (eV 3) aN))))
   aV)
   (aF 3 (e2 aj (eV 3) (eK (.int 1)))))))
  aV)
  (bc (bA (aC (bA (aC (eV 2) (aC (eV 4) (aC (eV 5) aN)))) (aC (eV 3) aN))))))))))))
noncomputable abbrev kZ:Stmt:=top 28
noncomputable abbrev qex:List Str:=["_law_line_here", "_law_at", "_law_way", "_law_end", "_law_name_here", "_law_wish_here"]
theorem dF:aR qex ["_law_line_here", "_law_at"] (am kZ):=⟨rfl,rfl,rfl,by decide +kernel,rfl,by decide +kernel,by decide +kernel⟩
noncomputable def cr (bo:List D->Option D) (F_step_in:List D->Option D) (F_wish_in:List D->Option D) (F_list_in:List D->Option D):DG:=
  (ad (gQ (gN2 3 1) (al F_step_in (aC (eV 0) (aC (eV 1) aN))))
   (ad (sIf (tB1 (e2 jo (eV 3) (eK .non)))
   (bc (bA (aC (eK .non) (aC (eV 1) aN))))
   aV)
   (my 2 (eV 3))))
noncomputable def eJ (bo:List D->Option D) (F_step_in:List D->Option D) (F_wish_in:List D->Option D) (F_list_in:List D->Option D):DG:=
  (ad (gc 2 (bj aN))
  (ad (dP 1000000 (dh (tB1 (e2 oEq (eV 2) (eF (bj aN)))) (tB1 (e2 oEq (aW (eV 0) (pS (eV 1)) (pS (e2 aj (eV 1) (eK (.int 1))))) (eK (.str (Str.ofString "/"))))))
  (cr bo F_step_in F_wish_in F_list_in))
  (bc (bA (aC (eV 2) (aC (eV 1) aN))))))
noncomputable abbrev jQ:Stmt:=top 29
noncomputable abbrev qc2:List Str:=["_law_line_here", "_law_at", "_law_found", "_law_step"]
theorem ix:aR qc2 ["_law_line_here", "_law_at"] (am jQ):=⟨rfl,rfl,rfl,by decide +kernel,rfl,by decide +kernel,by decide +kernel⟩
mutual
noncomputable def bK:Nat->List D->Option D
 | 0=>fun _=>none
 | n+1=>du 2 4 (eJ (bK n) (cE n) (bI n) (cF n))
noncomputable def cE:Nat->List D->Option D
 | 0=>fun _=>none
 | n+1=>du 2 6 (gX (bK n) (cE n) (bI n) (cF n))
noncomputable def bI:Nat->List D->Option D
 | 0=>fun _=>none
 | n+1=>du 2 4 (gW (bK n) (cE n) (bI n) (cF n))
noncomputable def cF:Nat->List D->Option D
 | 0=>fun _=>none
 | n+1=>du 2 6 (gY (bK n) (cE n) (bI n) (cF n))
end
noncomputable section
variable {P:Program}{w:World}{K:Frag}{mg:Str->Option Value}{base:Heap}{f:Addr}{fd:FuncData}
theorem qcx {n:Nat}(F:Fun K "_law_list_in" "_law_list_in" k8 f fd) (z_int:mg "int" = none) (z_len:mg "len" = none) (h_wish_in:Ok1 P w K mg base "_law_wish_in" (n+1) (spF K (bI n))):bD P w K mg base CX0 (n+1+1) f fd ["_law_line_here", "_law_at"] (spF K (cF (n+1))):=
 F.okD (own:=[2]) (own':=[2]) (g:=(gY (bK n) (cE n) (bI n) (cF n))) b9 (by decide) fun cdv A outer s H E hr B hB=>
  (aa (jw (i:=2) b9.nd rfl (.inl rfl) (bQ ak))
  (aa (aQ (i:=3) b9.nd rfl (.inl rfl) (bt (vQ 0) (au (dq (ao ar (vQ 1) (dq ah)))) (au (dq (ao ar (vQ 1) (dq ah))))))
  (aa (aY (aE qkT (vQ 3) (dq (bg (ac ai (ac ai ak)))) rfl)
  (aa (aQ (i:=1) b9.nd rfl (.inl rfl) (ao ar (vQ 1) (dq ah)))
   (af (aY (aE (bp hr) (dq (bt (vQ 0) (au (vQ 1)) (au (dq (ao ar (vQ 1) (dq ah)))))) (dq ai) (az _))
   (aa (lr (cq h_wish_in hr rfl (ac (vP 0) (ac (ao ar (vQ 1) (dq ah)) ak))) (lu (jX rfl (cw (bi (i:=4) b9.nd rfl (.inl rfl)) (cw (bi (i:=1) b9.nd rfl (.inl rfl)) iy)))))
    (aa (aY (aE ld (vQ 4) (dq cZ) (az _))
    (af (aU (bg (ac cZ (ac (vP 1) ak)))))
    ay)
    (af (mR (pv 2) (vP 4)))))
   ay)))
  (aa (lr (cq h_wish_in hr rfl (ac (vP 0) (ac (ao ar (vQ 1) (dq ah)) ak))) (lu (jX rfl (cw (bi (i:=4) b9.nd rfl (.inl rfl)) (cw (bi (i:=1) b9.nd rfl (.inl rfl)) iy)))))
   (aa (aQ (i:=3) b9.nd rfl (.inl rfl) (bt (vQ 0) (au (dq (ao ar (vQ 1) (dq ah)))) (au (dq (ao ar (vQ 1) (dq ah))))))
   (aa (aY (PW.pt (ng (aE ld (vQ 4) (dq cZ) (az _)) (kb (aE (iA hr) (dq (bt (vQ 0) (au (vQ 1)) (au (dq (ao ar (vQ 1) (dq ah)))))) (dq ai) (az _)))))
   (af (aU (bg (ac cZ (ac (vP 1) ak)))))
   ay)
   (aa (aY (aE ou (vQ 3) (dq (bg (ac ai (ac ai ak)))) rfl)
   (af (aU (bg (ac cZ (ac (ao ar (vQ 1) (dq ah)) ak)))))
   ay)
   (aa (mR (pv 2) (vP 4))
   (af (gz 1000000 PassesOwn.never (PW.pt (ng (aE (bp hr) (dq (fj rfl z_len (dvo (pv 2)))) (dq ah) (az _)) (kb (aE (bp hr) (dq (bt (vQ 0) (au (vQ 1)) (au (dq (ao ar (vQ 1) (dq ah)))))) (dq ai) (az _)))))
   (aa (mO PassesOwn.never rfl (mh (df (bQ (ac ai (ac (vP 3) (ac ai ak)))))) (fun B hB=>(jx (bi (i:=5) b9.nd rfl (.inl rfl)))) (fun B hB=>
    (aa (aY (aE (iA hr) (dq (bt (vQ 0) (au (vQ 1)) (au (dq (ao ar (vQ 1) (dq ah)))))) (vQ 5) (az _))
     (af (aU (bg (ac cZ (ac (vP 1) ak)))))
     ay)
     (af (aQ (i:=1) b9.nd rfl (.inl rfl) (ao ar (vQ 1) (dq ah)))))))
    (aa (lr (cq h_wish_in hr rfl (ac (vP 0) (ac (vP 1) ak))) (lu (jX rfl (cw (bi (i:=4) b9.nd rfl (.inl rfl)) (cw (bi (i:=1) b9.nd rfl (.inl rfl)) iy)))))
    (aa (aY (aE ld (vQ 4) (dq cZ) (az _))
    (af (aU (bg (ac cZ (ac (vP 1) ak)))))
    ay)
    (af (mR (pv 2) (vP 4))))))))))))))
  (aa (aY (aE (iA hr) (dq (bt (vQ 0) (au (vQ 1)) (au (dq (ao ar (vQ 1) (dq ah)))))) (dq ai) (az _))
  (af (aU (bg (ac cZ (ac (vP 1) ak)))))
  ay)
  (jv (own1:=[]) 2 (af (aU (bg (ac (bg (ac (bU (dq (df (bQ (ac ai (ac ai ak))))) (dq (kB rfl z_int (dq (iW (bp hr) (vQ 3) (dq ai) (az _)))))) (ac (vP 2) ak))) (ac (ao ar (vQ 1) (dq ah)) ak))))))))))
theorem qct {n:Nat}(F:Fun K "_law_wish_in" "_law_wish_in" kX f fd) (h_text_in:Ok1 P w K mg base "_law_text_in" (n+1) (spF K jh)) (h_list_in:Ok1 P w K mg base "_law_list_in" (n+1) (spF K (cF n))) (h_steps_in:Ok1 P w K mg base "_law_steps_in" (n+1) (spF K (bK n))):bD P w K mg base CX0 (n+1+1) f fd ["_law_line_here", "_law_at"] (spF K (bI (n+1))):=
 F.okD (own:=[]) (own':=[]) (g:=(gW (bK n) (cE n) (bI n) (cF n))) hZ (by decide) fun cdv A outer s H E hr B hB=>
  (aa (aY (aE (bp hr) (dq (bt (vQ 0) (au (vQ 1)) (au (dq (ao ar (vQ 1) (dq ah)))))) (dq ai) (az _))
  (af (aU (cq h_text_in hr rfl (ac (vP 0) (ac (vP 1) ak)))))
  ay)
  (aa (aY (aE (bp hr) (dq (bt (vQ 0) (au (vQ 1)) (au (dq (ao ar (vQ 1) (dq ah)))))) (dq ai) (az _))
  (af (aU (cq h_list_in hr rfl (ac (vP 0) (ac (vP 1) ak)))))
  ay)
  (aa (aY (aE (bp hr) (dq (bt (vQ 0) (au (vQ 1)) (au (dq (ao ar (vQ 1) (dq ah)))))) (dq ai) (az _))
  (aa (lr (cq h_steps_in hr rfl (ac (vP 0) (ac (vP 1) ak))) (lu (jX rfl (cw (bi (i:=2) hZ.nd rfl (.inl rfl)) (cw (bi (i:=1) hZ.nd rfl (.inl rfl)) iy)))))
   (aa (aY (aE ld (vQ 2) (dq cZ) (az _))
   (af (aU (bg (ac cZ (ac (vP 1) ak)))))
   ay)
   (af (aU (bg (ac (bg (ac ai (ac (vP 2) ak))) (ac (vP 1) ak)))))))
  ay)
  (aa (mO PassesOwn.never rfl (mh (df (bQ (ac ai (ac ai (ac ai ak)))))) (fun B hB=>(jx (bi (i:=3) hZ.nd rfl (.inl rfl)))) (fun B hB=>
  (aa (aY (aE (iA hr) (dq (bt (vQ 0) (au (vQ 1)) (au (dq (ao ar (vQ 1) (dq ah)))))) (vQ 3) (az _))
   (af (aU (bg (ac cZ (ac (vP 1) ak)))))
   ay)
   (af (aQ (i:=1) hZ.nd rfl (.inl rfl) (ao ar (vQ 1) (dq ah)))))))
  (af (aU (bg (ac (bg (ac ai ak)) (ac (vP 1) ak)))))))))
theorem qcv {n:Nat}(F:Fun K "_law_step_in" "_law_step_in" kZ f fd) (z_int:mg "int" = none) (h_name_end:Ok1 P w K mg base "_law_name_end" (n+1) (spF K fM)) (h_wish_in:Ok1 P w K mg base "_law_wish_in" (n+1) (spF K (bI n))):bD P w K mg base CX0 (n+1+1) f fd ["_law_line_here", "_law_at"] (spF K (cE (n+1))):=
 F.okD (own:=[]) (own':=[]) (g:=(gX (bK n) (cE n) (bI n) (cF n))) dF (by decide) fun cdv A outer s H E hr B hB=>
  (aa (aY (aE (iA hr) (dq (bt (vQ 0) (au (vQ 1)) (au (dq (ao ar (vQ 1) (dq ah)))))) (dq ai) (az _))
  (af (aU (bg (ac cZ (ac (vP 1) ak)))))
  ay)
  (aa (aQ (i:=2) dF.nd rfl (.inl rfl) (bU (dq (df (bQ (ac ai (ac ai ak))))) (dq (kB rfl z_int (dq (iW (bp hr) (dq (bt (vQ 0) (au (dq (ao ar (vQ 1) (dq ah)))) (au (dq (ao ar (vQ 1) (dq ah)))))) (dq ai) (az _)))))))
  (aa (aQ (i:=1) dF.nd rfl (.inl rfl) (ao ar (dq (ao ar (vQ 1) (dq ah))) (dq (kB rfl z_int (dq (iW (bp hr) (vQ 2) (dq ai) (az _)))))))
  (aa (aQ (i:=3) dF.nd rfl (.inl rfl) (cq h_name_end hr rfl (ac (vP 0) (ac (vP 1) ak))))
  (aa (aY (aE (bp hr) (vQ 3) (vQ 1) (az _))
  (af (aU (bg (ac cZ (ac (vP 1) ak)))))
  ay)
  (aa (aQ (i:=4) dF.nd rfl (.inl rfl) (bt (vQ 0) (au (vQ 1)) (au (vQ 3))))
  (aa (aQ (i:=5) dF.nd rfl (.inl rfl) (bg (ac ai ak)))
  (aa (aY (aE (bp hr) (dq (bt (vQ 0) (au (vQ 3)) (au (dq (ao ar (vQ 3) (dq ah)))))) (dq ai) (az _))
  (aa (aY (aE ou (dq (bt (vQ 0) (au (dq (ao ar (vQ 3) (dq ah)))) (au (dq (ao ar (vQ 3) (dq ah)))))) (dq (bg (ac ai (ac ai (ac ai ak))))) rfl)
   (af (aU (bg (ac cZ (ac (ao ar (vQ 3) (dq ah)) ak)))))
   ay)
   (aa (lr (cq h_wish_in hr rfl (ac (vP 0) (ac (ao ar (vQ 3) (dq ah)) ak))) (lu (jX rfl (cw (bi (i:=5) dF.nd rfl (.inl rfl)) (cw (bi (i:=3) dF.nd rfl (.inl rfl)) iy)))))
   (aa (aY (PW.pt (ng (aE ld (vQ 5) (dq cZ) (az _)) (kb (aE (iA hr) (dq (bt (vQ 0) (au (vQ 3)) (au (dq (ao ar (vQ 3) (dq ah)))))) (dq ai) (az _)))))
   (af (aU (bg (ac cZ (ac (vP 3) ak)))))
   ay)
   (af (aQ (i:=3) dF.nd rfl (.inl rfl) (ao ar (vQ 3) (dq ah)))))))
  ay)
  (af (aU (bg (ac (bg (ac (vP 2) (ac (vP 4) (ac (vP 5) ak)))) (ac (vP 3) ak)))))))))))))
theorem qbB {n:Nat}(F:Fun K "_law_steps_in" "_law_steps_in" jQ f fd) (h_step_in:Ok1 P w K mg base "_law_step_in" (n+1) (spF K (cE n))):bD P w K mg base CX0 (n+1+1) f fd ["_law_line_here", "_law_at"] (spF K (bK (n+1))):=
 F.okD (own:=[2]) (own':=[2]) (g:=(eJ (bK n) (cE n) (bI n) (cF n))) ix (by decide) fun cdv A outer s H E hr B hB=>
  (aa (jw (i:=2) ix.nd rfl (.inl rfl) (bQ ak))
  (aa (gz 1000000 PassesOwn.never (PW.pt (ng (aE (bp hr) (dvo (pv 2)) (dq (df (bQ ak))) (az _)) (kb (aE (bp hr) (dq (bt (vQ 0) (au (vQ 1)) (au (dq (ao ar (vQ 1) (dq ah)))))) (dq ai) (az _)))))
  (aa (lr (cq h_step_in hr rfl (ac (vP 0) (ac (vP 1) ak))) (lu (jX rfl (cw (bi (i:=3) ix.nd rfl (.inl rfl)) (cw (bi (i:=1) ix.nd rfl (.inl rfl)) iy)))))
   (aa (aY (aE ld (vQ 3) (dq cZ) (az _))
   (af (aU (bg (ac cZ (ac (vP 1) ak)))))
   ay)
   (af (mR (pv 2) (vP 3))))))
  (jv (own1:=[]) 2 (af (aU (bg (ac (vP 2) (ac (vP 1) ak))))))))
end
end K16
end
noncomputable section
namespace K16
open PySem L2
noncomputable def qbO:DG:=
  (ad (aF 1 (eF (bj (aS [Str.ofString "",Str.ofString "a",Str.ofString "/",Str.ofString "//",Str.ofString "///a",Str.ofString "/a*",Str.ofString "/*a",Str.ofString "/**",Str.ofString "/a[",Str.ofString "/a[any]",Str.ofString "/a[(any)]",Str.ofString "/a[(& any)]"]))))
  (ad (aF 1 (e2 aj (eV 1) (eF (bj (aS [Str.ofString "/a[(&any)]",Str.ofString "/a[(&)]",Str.ofString "/a[(+)]",Str.ofString "/a[(+ any)]",Str.ofString "/a[(+ any & any)]",Str.ofString "/a[(any &any)]"])))))
  (ad (aF 1 (e2 aj (eV 1) (eF (bj (aS [Str.ofString "/a[(any & any + any)]",Str.ofString "/a[\"\\x\"]",Str.ofString "/a[\"\\q\\\\\"]",Str.ofString "/a[\"x\"\"\"]",Str.ofString "/a[/b]/c"])))))
  (ad (aF 1 (e2 aj (eV 1) (eF (bj (aS [Str.ofString "/a[/b][/c]",Str.ofString "/a[]",Str.ofString "/A",Str.ofString "/a ",Str.ofString " /a",Str.ofString "/a[ \"x\"]",Str.ofString "/a[(any | any)]",Str.ofString "/a[(any+ any)]"])))))
  (ad (aF 1 (e2 aj (eV 1) (eF (bj (aS [Str.ofString "/a[(& any )]",Str.ofString "/any",Str.ofString "/a[/any[\"any\"]]",Str.ofString "/a/",Str.ofString "/a[(/b & /c)]",Str.ofString "/a[(//b + \"\")]"])))))
  (bc (e2 oIx (eV 1) (e2 br (eV 0) (al bF (aC (eV 1) aN))))))))))
noncomputable def nk:List D->Option D:=du 1 2 qbO
noncomputable abbrev mt:Stmt:=top 30
noncomputable abbrev qlt:List Str:=["_law_number", "_law_some"]
theorem mv:aR qlt ["_law_number"] (am mt):=⟨rfl,rfl,rfl,by decide +kernel,rfl,by decide +kernel,by decide +kernel⟩
noncomputable def qaN:DG:=
  (ad (aF 2 (e2 aj (eK (.str (Str.ofString "/[]()&+ any*\"\\q"))) (eK (.str (Str.ofString "bzAZ|09-{}~")))))
  (ad (aF 3 (e2 oIx (eV 2) (e2 br (e2 oIx (eV 1) (eK (.int 1))) (al bF (aC (eV 2) aN)))))
  (ad (aF 4 (e2 br (e2 oIx (eV 1) (eK (.int 2))) (e2 aj (al bF (aC (eV 0) aN)) (eK (.int 1)))))
  (ad (aF 5 (e2 br (e2 oIx (eV 1) (eK (.int 0))) (eK (.int 7))))
  (ad (sIf (tB1 (e2 oEq (eV 5) (eK (.int 1))))
  (bc (aW (eV 0) pN (pS (eV 4))))
  aV)
  (ad (sIf (tB1 (e2 oEq (eV 5) (eK (.int 2))))
  (bc (e2 aj (e2 aj (aW (eV 0) pN (pS (eV 4))) (eV 3)) (aW (eV 0) (pS (eV 4)) pN)))
  aV)
  (ad (sIf (tB1 (e2 oEq (eV 5) (eK (.int 3))))
  (bc (e2 aj (e2 aj (aW (eV 0) pN (pS (eV 4))) (eV 3)) (aW (eV 0) (pS (e2 aj (eV 4) (eK (.int 1)))) pN)))
  aV)
  (ad (sIf (tB1 (e2 oEq (eV 5) (eK (.int 4))))
  (bc (e2 aj (aW (eV 0) pN (pS (eV 4))) (aW (eV 0) (pS (e2 aj (eV 4) (eK (.int 1)))) pN)))
  aV)
  (ad (sIf (tB1 (e2 oEq (eV 5) (eK (.int 5))))
  (ad (aF 6 (e2 aj (aW (eV 0) (pS (e2 aj (eV 4) (eK (.int 1)))) (pS (e2 aj (eV 4) (eK (.int 2))))) (aW (eV 0) (pS (eV 4)) (pS (e2 aj (eV 4) (eK (.int 1)))))))
   (bc (e2 aj (e2 aj (aW (eV 0) pN (pS (eV 4))) (eV 6)) (aW (eV 0) (pS (e2 aj (eV 4) (eK (.int 2)))) pN))))
  aV)
  (bc (eV 0)))))))))))
noncomputable def km:List D->Option D:=du 2 7 qaN
noncomputable abbrev qak:Stmt:=top 31
noncomputable abbrev qkf:List Str:=["_law_line_here", "_law_draws_here", "_law_some", "_law_sign", "_law_at", "_law_turn", "_law_turned"]
theorem kn:aR qkf ["_law_line_here", "_law_draws_here"] (am qak):=⟨rfl,rfl,rfl,by decide +kernel,rfl,by decide +kernel,by decide +kernel⟩
noncomputable abbrev p0:Pos:=⟨0,0,0,0⟩
@[irreducible] def jU (i:Nat):Stmt:=(cI mt).getD i (.Pass p0)
noncomputable def qgq:Stmt->Expr|.Assign _ e _=>e|_ =>.Name "" p0
noncomputable def qmd:Stmt->Pos|.Assign _ _ p=>p|_=>p0
noncomputable def qmc:Stmt->Pos|.Assign [.Name _ p] _ _=>p|_=>p0
noncomputable def ql4:Expr->List Expr|.List es _=>es|_=>[]
noncomputable def qju:Expr->Pos|.List _ p=>p|.BinOp _ _ _ p=>p|.Name _ p=>p|_=>p0
noncomputable def qmb:Expr->Expr|.BinOp l _ _ _=>l|_ =>.Name "" p0
noncomputable def qlj:Expr->Expr|.BinOp _ _ r _=>r|_ =>.Name "" p0
@[irreducible] def tP_ (i:Nat):Pos:=qmc (jU i)
@[irreducible] def aP_ (i:Nat):Pos:=qmd (jU i)
@[irreducible] def nP_ (i:Nat):Pos:=qju (qmb (qgq (jU i)))
@[irreducible] def bP_ (i:Nat):Pos:=qju (qgq (jU i))
@[irreducible] def lP_ (i:Nat):Pos:=qju (qlj (qgq (jU i)))
@[irreducible] def es_ (i:Nat):List Expr:=ql4 (if i=0 then qgq (jU i) else qlj (qgq (jU i)))
theorem qfA:cI mt=[jU 0,jU 1,jU 2,jU 3,jU 4,(cI mt).getD 5 (.Pass p0)]:=by kernel_rfl
theorem ql3:jU 0=.Assign [.Name "_law_some" (tP_ 0)] (.List (es_ 0) (bP_ 0)) (aP_ 0):=by kernel_rfl
theorem ql2:jU 1=.Assign [.Name "_law_some" (tP_ 1)] (.BinOp (.Name "_law_some" (nP_ 1)) .Add (.List (es_ 1) (lP_ 1)) (bP_ 1)) (aP_ 1):=by kernel_rfl
theorem ql1:jU 2=.Assign [.Name "_law_some" (tP_ 2)] (.BinOp (.Name "_law_some" (nP_ 2)) .Add (.List (es_ 2) (lP_ 2)) (bP_ 2)) (aP_ 2):=by kernel_rfl
theorem ql0:jU 3=.Assign [.Name "_law_some" (tP_ 3)] (.BinOp (.Name "_law_some" (nP_ 3)) .Add (.List (es_ 3) (lP_ 3)) (bP_ 3)) (aP_ 3):=by kernel_rfl
theorem qlZ:jU 4=.Assign [.Name "_law_some" (tP_ 4)] (.BinOp (.Name "_law_some" (nP_ 4)) .Add (.List (es_ 4) (lP_ 4)) (bP_ 4)) (aP_ 4):=by kernel_rfl
theorem qlY:ji (es_ 0)=some [Str.ofString "",Str.ofString "a",Str.ofString "/",Str.ofString "//",Str.ofString "///a",Str.ofString "/a*",Str.ofString "/*a",Str.ofString "/**",Str.ofString "/a[",Str.ofString "/a[any]",Str.ofString "/a[(any)]",Str.ofString "/a[(& any)]"]:=by kernel_rfl
theorem qlX:ji (es_ 1)=some [Str.ofString "/a[(&any)]",Str.ofString "/a[(&)]",Str.ofString "/a[(+)]",Str.ofString "/a[(+ any)]",Str.ofString "/a[(+ any & any)]",Str.ofString "/a[(any &any)]"]:=by kernel_rfl
theorem qlW:ji (es_ 2)=some [Str.ofString "/a[(any & any + any)]",Str.ofString "/a[\"\\x\"]",Str.ofString "/a[\"\\q\\\\\"]",Str.ofString "/a[\"x\"\"\"]",Str.ofString "/a[/b]/c"]:=by kernel_rfl
theorem qlV:ji (es_ 3)=some [Str.ofString "/a[/b][/c]",Str.ofString "/a[]",Str.ofString "/A",Str.ofString "/a ",Str.ofString " /a",Str.ofString "/a[ \"x\"]",Str.ofString "/a[(any | any)]",Str.ofString "/a[(any+ any)]"]:=by kernel_rfl
theorem qlU:ji (es_ 4)=some [Str.ofString "/a[(& any )]",Str.ofString "/any",Str.ofString "/a[/any[\"any\"]]",Str.ofString "/a/",Str.ofString "/a[(/b & /c)]",Str.ofString "/a[(//b + \"\")]"]:=by kernel_rfl
noncomputable section
variable {P:Program}{w:World}{K:Frag}{mg:Str->Option Value}{base:Heap}{f:Addr}{fd:FuncData}
theorem qjj (F:Fun K "_law_odd" "_law_odd" mt f fd) (z_len:mg "len" = none):bD P w K mg base CX0 1 f fd ["_law_number"] (spF K nk):=
 F.okD (own:=[]) (own':=[]) (g:=qbO) mv (by decide) fun cdv A outer s H E hr B hB=>by
  rw[qfA,ql3,ql2,ql1,ql0,qlZ]
  exact(aa (aQ (i:=1) mv.nd rfl (.inl rfl) (df (bQ (kC qlY))))
  (aa (aQ (i:=1) mv.nd rfl (.inl rfl) (ao ar (vQ 1) (dq (df (bQ (kC qlX))))))
  (aa (aQ (i:=1) mv.nd rfl (.inl rfl) (ao ar (vQ 1) (dq (df (bQ (kC qlW))))))
  (aa (aQ (i:=1) mv.nd rfl (.inl rfl) (ao ar (vQ 1) (dq (df (bQ (kC qlV))))))
  (aa (aQ (i:=1) mv.nd rfl (.inl rfl) (ao ar (vQ 1) (dq (df (bQ (kC qlU))))))
  (af (aU (bU (vQ 1) (dq (ao cb (vQ 0) (dq (fj rfl z_len (vQ 1)))))))))))))
theorem qhA (F:Fun K "_law_bent" "_law_bent" qak f fd) (z_len:mg "len" = none):bD P w K mg base CX0 1 f fd ["_law_line_here", "_law_draws_here"] (spF K km):=
 F.okD (own:=[]) (own':=[]) (g:=qaN) kn (by decide) fun cdv A outer s H E hr B hB=>
  (aa (aQ (i:=2) kn.nd rfl (.inl rfl) (ao ar (dq ai) (dq ai)))
  (aa (aQ (i:=3) kn.nd rfl (.inl rfl) (bU (vQ 2) (dq (ao cb (dq (bU (vQ 1) (dq ah))) (dq (fj rfl z_len (vQ 2)))))))
  (aa (aQ (i:=4) kn.nd rfl (.inl rfl) (ao cb (dq (bU (vQ 1) (dq ah))) (dq (ao ar (dq (fj rfl z_len (vQ 0))) (dq ah)))))
  (aa (aQ (i:=5) kn.nd rfl (.inl rfl) (ao cb (dq (bU (vQ 1) (dq ah))) (dq ah)))
  (aa (aY (aE (bp hr) (vQ 5) (dq ah) (az _))
  (af (aU (bt (vQ 0) dA (au (vQ 4)))))
  ay)
  (aa (aY (aE (bp hr) (vQ 5) (dq ah) (az _))
  (af (aU (ao ar (dq (ao ar (dq (bt (vQ 0) dA (au (vQ 4)))) (vQ 3))) (dq (bt (vQ 0) (au (vQ 4)) dA)))))
  ay)
  (aa (aY (aE (bp hr) (vQ 5) (dq ah) (az _))
  (af (aU (ao ar (dq (ao ar (dq (bt (vQ 0) dA (au (vQ 4)))) (vQ 3))) (dq (bt (vQ 0) (au (dq (ao ar (vQ 4) (dq ah)))) dA)))))
  ay)
  (aa (aY (aE (bp hr) (vQ 5) (dq ah) (az _))
  (af (aU (ao ar (dq (bt (vQ 0) dA (au (vQ 4)))) (dq (bt (vQ 0) (au (dq (ao ar (vQ 4) (dq ah)))) dA)))))
  ay)
  (aa (aY (aE (bp hr) (vQ 5) (dq ah) (az _))
  (aa (aQ (i:=6) kn.nd rfl (.inl rfl) (ao ar (dq (bt (vQ 0) (au (dq (ao ar (vQ 4) (dq ah)))) (au (dq (ao ar (vQ 4) (dq ah)))))) (dq (bt (vQ 0) (au (vQ 4)) (au (dq (ao ar (vQ 4) (dq ah))))))))
   (af (aU (ao ar (dq (ao ar (dq (bt (vQ 0) dA (au (vQ 4)))) (vQ 6))) (dq (bt (vQ 0) (au (dq (ao ar (vQ 4) (dq ah)))) dA))))))
  ay)
  (af (aU (vP 0))))))))))))
end
end K16
end
noncomputable section
namespace K16
open PySem L2
noncomputable abbrev nY:Stmt:=eQ (top 3) 0
theorem qe8:aR ["self", "at"] ["self", "at"] (am nY):=⟨rfl,rfl,rfl,by decide +kernel,rfl,by decide +kernel,by decide +kernel⟩
theorem qfv {P:Program}{w:World}{K:Frag}{mg:Str->Option Value}{base:Heap}{f C:Addr}{fd:FuncData}(F:Fun K "__init__" "NoText.__init__" nY f fd) (T:qj8 K C "at"):bD P w K mg base CX0 1 f fd ["self", "at"] (nB C "at"):=by
 refine F.ok qe8 (fun vs H Q E h =>?_) (fun cdv A outer s H vs Q E hr h =>?_)
 ·obtain⟨a,t,v,rfl,_⟩:=h
  rfl
 ·obtain⟨a,t,v,rfl,ha,k⟩:=h
  refine⟨_,fW (qhe (pv 0) (pv 1) rfl),?_⟩
  exact⟨_,rfl,_,rfl,a,C,t,rfl,ha,T,fun dx hd hn=>k dx hd hn⟩
noncomputable def qb8 (K:Frag) (mg:Str->Option Value) (C:Addr) (x:Str) (b:Bool):Prop:=∃ c,mg x=some (.ref c)/\kitOne K (.ref C) (.ref c)=some b/\kitOne K (.type "NoneType") (.ref c)=some false
structure qlm (K:Frag) (mg:Str->Option Value) (C:Addr):Prop where
 xi:XIs K C
 xg:qlk K C "at"
 m1:qb8 K mg C "NoSign" false
 m2:qb8 K mg C "NoText" true
 m3:qb8 K mg C "NoPart" false
 m4:qb8 K mg C "Taken" false
 m5:qb8 K mg C "Late" false
 m6:kitOne K (.ref C) (.type "ValueError")=some true
noncomputable abbrev qaj:Stmt:=top 23
noncomputable abbrev qke:List Str:=["_law_error", "_law_found"]
theorem qao:aR qke ["_law_error"] (am qaj):=⟨rfl,rfl,rfl,by decide +kernel,rfl,by decide +kernel,by decide +kernel⟩
noncomputable def qlv (C:Addr) (H:Hp) (v:V) (ds:List V):Prop:=(v=.non/\ds=[])∨∃ a n,v=.ref a/\XSt H a C n/\ds=[.str "text",.int n]
noncomputable def qeY (C:Addr):Sp:=fun vs H Q _=>∃ v ds,vs=[v]/\qlv C H v ds/\∀ p H',aZ H H'->H p=none->H' p=some (.lst ds)->Q (.ref p) H'
theorem qhz {P:Program}{w:World}{K:Frag}{mg:Str->Option Value}{base:Heap}{f C:Addr}{fd:FuncData}(F:Fun K "_law_kind" "_law_kind" qaj f fd) (z_isinstance:mg "isinstance" = none) (z_ValueError:mg "ValueError" = none) (A7:qlm K mg C) :
  bD P w K mg base CX0 2 f fd ["_law_error"] (qeY C):=by
 obtain⟨c1,m1,k1,n1⟩:=A7.m1
 obtain⟨c2,m2,k2,n2⟩:=A7.m2
 obtain⟨c3,m3,k3,n3⟩:=A7.m3
 obtain⟨c4,m4,k4,n4⟩:=A7.m4
 obtain⟨c5,m5,k5,n5⟩:=A7.m5
 have big:100000<sizeLine:=by rw[sizeLine_eq];decide
 refine F.ok qao (fun vs H Q E h =>?_) (fun cdv A outer s H vs Q E hr h =>?_)
 ·obtain⟨v,ds,rfl,_⟩:=h
  rfl
 ·obtain⟨v,ds,rfl,kv,q⟩:=h
  refine⟨_,fD (iM (i:=1) qao.nd rfl (Or.inl rfl) (qav eD))
   (fD (ol (mB (mE (v :=.ref c1) A7.xi rfl z_isinstance (pv 0) (iz rfl m1 rfl))) (fW jW) jm)
   (fD (ol (mB (mE (v :=.ref c2) A7.xi rfl z_isinstance (pv 0) (iz rfl m2 rfl))) (fW (iM (i:=1) qao.nd rfl (Or.inl rfl) (qfo qfu (pv 1) (qav (cz mD (cz (qhk (pv 0) rfl) eD)))))) jm)
   (fD (ol (mB (mE (v :=.ref c3) A7.xi rfl z_isinstance (pv 0) (iz rfl m3 rfl))) (fW jW) jm)
   (fD (ol (mB (mE (v :=.ref c4) A7.xi rfl z_isinstance (pv 0) (iz rfl m4 rfl))) (fW jW) jm)
   (fD (ol (mB (mE (v :=.ref c5) A7.xi rfl z_isinstance (pv 0) (iz rfl m5 rfl))) (fW jW) jm)
   (fD (ol (PW.pt (qfe (qdm qht (pv 0) qcr (az _)) (qdl (qfg (mB (mE (v :=.ty "ValueError") A7.xi rfl z_isinstance (pv 0) (qdp rfl z_ValueError (by decide +kernel) rfl))))))) (fW jW) jm)
   (fW (jV (pv 1))))))))),?_⟩
  refine⟨Nat.zero_le _,fun l1 hl1 =>?_⟩
  have s1:aZ H (upd H l1 (.lst [])) :=.alloc hl1
  rcases kv with ⟨rfl,rfl⟩|⟨a,n,rfl,xs,rfl⟩
  ·have z:∀ {c:Value}{b:Bool},kitOne K (.type "NoneType") c=some b->IsZ K C (upd H l1 (.lst [])) .non c b:=fun e =>.inl ⟨rfl,e⟩
   refine iR rfl (z n1) ⟨false,rfl,jr ?_⟩
   refine iR rfl (z n2) ⟨false,rfl,jr ?_⟩
   refine iR rfl (z n3) ⟨false,rfl,jr ?_⟩
   refine iR rfl (z n4) ⟨false,rfl,jr ?_⟩
   refine iR rfl (z n5) ⟨false,rfl,jr ?_⟩
   refine⟨_,rfl,rfl,false,rfl,jr (jr ?_)⟩
   exact⟨_,rfl,q l1 _ s1 hl1 aB⟩
  ·have z:∀ {H':Hp}{c:Value}{b:Bool},aZ H H'->kitOne K (.ref C) c=some b->IsZ K C H' (.ref a) c b:=fun s e =>.inr ⟨a,n,rfl,xs.same s,e⟩
   refine iR rfl (z s1 k1) ⟨false,rfl,jr ?_⟩
   refine iR rfl (z s1 k2) ⟨true,rfl,pi ?_⟩
   obtain⟨dx,oe,e1,e2,e3⟩:=(xs.same s1).ex
   refine⟨_,rfl,_,rfl,a,C,dx,oe,_,.int n,rfl,e1,e2,e3,A7.xg,rfl,⟨by show 2<=sizeLine;omega,fun l2 hl2 =>?_⟩⟩
   have s2:=s1.trans (.alloc (o :=.lst [.str "text",.int n]) hl2)
   have n21:l1≠l2:=fun z=>by rw[z,aB] at hl2;cases hl2
   refine⟨l1,l2,_,_,rfl,rfl,by rw[aJ n21];exact aB,aB,by show 2<=sizeLine;omega,fun l3 hl3 =>?_⟩
   have s3:=s2.trans (.alloc (o :=.lst [.str "text",.int n]) hl3)
   refine iR rfl (z s3 k3) ⟨false,rfl,jr ?_⟩
   refine iR rfl (z s3 k4) ⟨false,rfl,jr ?_⟩
   refine iR rfl (z s3 k5) ⟨false,rfl,jr ?_⟩
   refine⟨_,rfl,rfl,true,rfl,pi ?_⟩
   refine qhW rfl (z s3 A7.m6) ⟨true,rfl,jr ?_⟩
   exact⟨_,rfl,q l3 _ s3 (s2.free hl3) aB⟩
noncomputable abbrev k7:Stmt:=top 32
noncomputable abbrev qey:List Str:=["_law_line_here", "_law_caught", "e"]
theorem jk:aR qey ["_law_line_here"] (am k7):=⟨rfl,rfl,rfl,by decide +kernel,rfl,by decide +kernel,by decide +kernel⟩
noncomputable abbrev cNT:Str:= "NoText"
noncomputable def bN (ds:List D):Option D:=(fq ds).bind fun r=>match r with
 | .ok _=>some (.lst [])
 | .er c n=>if c=cNT/\ds.length=1 then some (.lst [.str "text",.int n]) else none
theorem qcw {P:Program}{w:World}{K:Frag}{mg:Str->Option Value}{base:Heap}{f C S fR fK:Addr}{fd fdR fdK:FuncData}(F:Fun K "_law_refused" "_law_refused" k7 f fd)
  (FR:bD P w K mg base (CX2 P w) 200 fR fdR ["line"] (qd1 K fq)) (hmR:mg "read" = some (.ref fR)) (hkR:keepIn K (.ref fR)=true) (hbR:gb K fdR ["line"] [])
  (FK:bD P w K mg base CX0 2 fK fdK ["_law_error"] (qeY C)) (hmK:mg "_law_kind" = some (.ref fK)) (hkK:keepIn K (.ref fK)=true) (hbK:gb K fdK ["_law_error"] [])
  (nC:nsIn K mainGlobals cNT=some (some (.ref C))) (xs:qj7 K C S) (hmS:mg "SiftError" = some (.ref S)) :
  bD P w K mg base CX0 201 f fd ["_law_line_here"] (spF K bN):=by
 refine F.ok jk (fun vs H Q E h =>?_) (fun cdv A outer s H vs Q E hr h =>?_)
 ·obtain⟨G,ds,d,gh,r,eq,_⟩:=h
  rw[<- r.length]
  unfold bN at eq
  cases ef:fq ds with
  | none=>rw[ef] at eq;cases eq
  | some x=>
   unfold fq pF at ef
   split at ef
   ·assumption
   ·cases ef
 ·obtain⟨G,ds,d,gh,r,eq,q⟩:=h
  unfold bN at eq
  cases ef:fq ds with
  | none=>rw[ef] at eq;cases eq
  | some x=>
   rw[ef] at eq
   have hl:ds.length=1:=by
    unfold fq pF at ef
    split at ef
    ·assumption
    ·cases ef
   obtain⟨v0,rfl,r0⟩:∃ v0,vs=[v0]/\True:=by
    have:=r.length
    rw[hl] at this
    match vs,this with
    | [v],_=>exact⟨v,rfl,True.intro⟩
   refine⟨_,fD (iM (i:=1) jk.nd rfl (Or.inl rfl) qcr)
    (fD (qhf (j:=2) (S:=S) FR hr rfl hmR hkR hbR (cz (pv 0) eD) jk.nd rfl rfl rfl hmS rfl rfl (fun a=>fW (iM (i:=1) jk.nd rfl (Or.inl rfl) (pv 2))))
    (fW (jV (lS FK (hr.mono (by decide)) rfl hmK hkK hbK .nil oq (cz (pv 1) eD))))),?_⟩
   have fin:∀ (es:List D) (us:List V) (p:Addr) (H5:Hp),d=.lst es->aI K G es us->aZ H H5->H p=none->H5 p=some (.lst us)->Q (.ref p) H5:=fun es us p H5 hd ru s5 hp h5=>by
    subst hd
    refine q (.ref p) (upd G p (.lst us)) H5 ⟨s5,.alloc (gh.free hp),fun b o e =>?_,fun b o e =>?_⟩ (cp.mpr ⟨p,us,rfl,aB,aI.mono (.alloc (gh.free hp)) es ru⟩)
    ·by_cases hb:b=p
     ·subst hb;rw[aB] at e;cases e;exact h5
     ·rw[aJ hb] at e;exact s5 _ _ (gh _ _ e)
    ·by_cases hb:b=p
     ·subst hb;exact .inr hp
     ·rw[aJ hb] at e;exact .inl e
   refine⟨_,rfl,G,ds,x,gh,r,ef,?_⟩
   cases x with
   | ok d'=>
    cases eq
    intro v G' H' E' r'
    refine⟨_,rfl,_,[],rfl,.inl ⟨rfl,rfl⟩,fun p H5 s5 hp h5=>fin [] [] p H5 rfl .nil (E'.hh.trans s5) (E'.hh.free hp) h5⟩
   | er c n=>
    simp only[zA] at eq
    split at eq
    ·rename_i hc
     cases eq
     obtain⟨rfl,_⟩:=hc
     intro x dx H2 xf
     obtain⟨C',oe',n',e1,e2⟩:=xf.cl
     have n':nsIn K mainGlobals cNT=some (some (.ref C')):=n'
     rw[nC] at n';cases n'
     refine⟨x,dx,C,rfl,rfl,xs,⟨oe',e1,e2⟩,fun oe0 oe H3 h2 same h3 st =>?_⟩
     have sH:aZ H H3:=fun b o e=>same b o (fun z=>by rw[z,xf.fr] at e;cases e) (xf.same b o e)
     have hdx:H3 dx=some (.xd [("at",.int n)]):=same dx _ (fun z=>by have:=xf.dx;rw[z,e1] at this;cases this) xf.dx
     refine⟨_,rfl,?_⟩
     refine⟨_,rfl,_,[.str "text",.int n],rfl,.inr ⟨x,n,rfl,⟨dx,oe,h3,st,hdx⟩,rfl⟩,fun p H5 s5 hp h5=>fin _ _ p H5 rfl (.cons (bG.mpr rfl) (.cons (bh.mpr rfl) .nil)) (sH.trans s5) (sH.free hp) h5⟩
    ·cases eq
end K16
end
noncomputable section
namespace K16
open PySem L2
noncomputable def gn:=cu 12
noncomputable def cK:=cx 12
noncomputable def bM:=bn 12
noncomputable def dS:=dY 12
noncomputable def gu:=cS 100
noncomputable def bo:=bK 190
noncomputable def iZ:List D->Option D:=ot fq
noncomputable def qdE:DG:=
  (ad (gc 1 (nb gs (aC (eV 0) (aC (eK (.int 2)) (aC (eK (.int 16)) aN)))))
  (ad (jT 2 (fY iH (mAC (dE ge 1 aN) mAN)))
  (ad (aF 3 (eF (nb gs (aC (eV 0) (aC (eK (.int 600)) (aC (eK (.int 16)) aN))))))
  (ad (jT 4 (fY km (mAC (qcJ (fY dS (mAC (dE cK 1 (aC (eV 2) (aC (eK (.int 2)) aN))) mAN)) pN (pS (eK (.int 58)))) (mAC (mP (eV 3)) mAN))))
  (ad (sIf (tB1 (e2 oEq (e2 br (e2 oIx (eV 3) (eK (.int 3))) (eK (.int 6))) (eK (.int 0))))
  (ad (aF 5 (eK (.str (Str.ofString "/[]()&+ any*\"\\q"))))
   (aF 4 (e2 fX (eK (.str (Str.ofString ""))) (eF (fLC (iR1 (e2 br (e2 cM (e2 oIx (eV 3) (eK (.int 3))) (eK (.int 6))) (eK (.int 13)))) [none,some 5,some 3] (gN 0) gf (e2 oIx (eV 1) (e2 br (e2 oIx (eV 2) (e2 aj (eK (.int 4)) (eV 0))) (al bF (aC (eV 1) aN)))))))))
  aV)
  (ad (sIf (tB1 (e2 oEq (e2 br (e2 oIx (eV 3) (eK (.int 3))) (eK (.int 6))) (eK (.int 1))))
  (aF 4 (al nk (aC (e2 oIx (eV 3) (eK (.int 4))) aN)))
  aV)
  (ad (gQ (gN2 6 7) (al bo (aC (eV 4) (aC (eK (.int 0)) aN))))
  (ad (sIf (dh (tB1 (e2 jo (eV 6) (eK .non))) (tB1 (e2 oLt (eV 7) (al bF (aC (eV 4) aN)))))
  (bc (e2 oEq (al bN (aC (eV 4) aN)) (eF (bj (aC (eK (.str (Str.ofString "text"))) (aC (eV 7) aN))))))
  aV)
  (bc (pj (e2 oEq (al bN (aC (eV 4) aN)) (eF (bj aN))) (al gu (aC (al iZ (aC (eV 4) aN)) (aC (eV 6) aN)))))))))))))
noncomputable def qb7:List D->Option D:=du 1 8 qdE
noncomputable abbrev iI:Stmt:=top 33
noncomputable abbrev qiE:List Str:=["_law_script", "_law_draws_here", "_law_names_here", "_law_bent_here", "_law_line_here", "_law_some", "_law_due", "_law_far"]
theorem iK:aR qiE ["_law_script"] (am iI):=⟨rfl,rfl,rfl,by decide +kernel,rfl,by decide +kernel,by decide +kernel⟩
noncomputable section
variable {P:Program}{w:World}{K:Frag}{mg:Str->Option Value}{base:Heap}{f:Addr}{fd:FuncData}
theorem qjk (F:Fun K "law" "law" iI f fd) (z_len:mg "len" = none) (z_range:mg "range" = none) (h_draws:Ok1 P w K mg base "_law_draws" 201 (spO K gs)) (h_pop:Ok1 P w K mg base "_law_pop" 201 (spM K 0 ge)) (h_names:Ok1 P w K mg base "_law_names" 201 (spF K iH)) (h_steps:Ok1 P w K mg base "_law_steps" 201 (spM K 0 cK)) (h_line:Ok1 P w K mg base "_law_line" 201 (spF K dS)) (h_bent:Ok1 P w K mg base "_law_bent" 201 (spF K km)) (h_odd:Ok1 P w K mg base "_law_odd" 201 (spF K nk)) (h_steps_in:Ok1 P w K mg base "_law_steps_in" 201 (spF K bo)) (h_refused:Ok1 P w K mg base "_law_refused" 201 (spF K bN)) (h_read:Ok1 P w K mg base "read" 201 (spF K iZ)) (h_alike:Ok1 P w K mg base "_law_alike" 201 (spF K gu)):bD P w K mg base CX0 202 f fd ["_law_script"] (spF K qb7):=
 F.okD (own:=[1]) (own':=[1]) (g:=qdE) iK (by decide) fun cdv A outer s H E hr B hB=>
  (aa (jw (i:=1) iK.nd rfl (.inl rfl) (qbW h_draws hr rfl (ac (vP 0) (ac ah (ac ah ak)))))
  (aa (nM (i:=2) iK.nd rfl (.inl rfl) (oR h_names hr rfl (eL (iF h_pop hr rfl (pv 1) ak) kz)))
  (aa (aQ (i:=3) iK.nd rfl (.inr rfl) (df (qbW h_draws hr rfl (ac (vP 0) (ac ah (ac ah ak))))))
  (aa (nM (i:=4) iK.nd rfl (.inl rfl) (oR h_bent hr rfl (eL (qjQ (oR h_line hr rfl (eL (iF h_steps hr rfl (pv 1) (ac (vP 2) (ac ah ak))) kz)) dA (au (dq ah))) (eL (bP (vP 3)) kz))))
  (aa (aY (aE (bp hr) (dq (ao cb (dq (bU (vQ 3) (dq ah))) (dq ah))) (dq ah) (az _))
  (aa (aQ (i:=5) iK.nd rfl (.inr rfl) ai)
   (af (aQ (i:=4) iK.nd rfl (.inl rfl) (mj (dq ai) (dq (df (qdL (own':=[]) (N:=[("_law_k" : Str),("_law_some" : Str),("_law_bent_here" : Str)]) (src:=[none,some 5,some 3]) (lA (outer:=am iI) (oN:=qiE) rfl (by decide +kernel) rfl rfl) rfl (gm rfl z_range (dq (ao cb (dq (ao gq (dq (bU (vQ 3) (dq ah))) (dq ah))) (dq ah)))) (jA 0) (by decide) (i8 0) (fun C s H ex=>⟨bi (i:=0) (show ([("_law_k" : Str),("_law_some" : Str),("_law_bent_here" : Str)]:List Str).Nodup by decide +kernel) rfl (.inl rfl),ju,(bU (vQ 1) (dq (ao cb (dq (bU (vQ 2) (dq (ao ar (dq ah) (vQ 0))))) (dq (fj rfl z_len (vQ 1))))))⟩))))))))
  ay)
  (aa (aY (aE (bp hr) (dq (ao cb (dq (bU (vQ 3) (dq ah))) (dq ah))) (dq ah) (az _))
  (af (aQ (i:=4) iK.nd rfl (.inl rfl) (cq h_odd hr rfl (ac (bU (vQ 3) (dq ah)) ak))))
  ay)
  (aa (lr (cq h_steps_in hr rfl (ac (vP 4) (ac ah ak))) (lu (jX rfl (cw (bi (i:=6) iK.nd rfl (.inl rfl)) (cw (bi (i:=7) iK.nd rfl (.inl rfl)) iy)))))
  (aa (aY (PW.pt (ng (aE ld (vQ 6) (dq cZ) (az _)) (kb (aE qdq (vQ 7) (dq (fj rfl z_len (vQ 4))) (az _)))))
  (af (aU (iW (bp hr) (dq (cq h_refused hr rfl (ac (vP 4) ak))) (dq (df (bQ (ac ai (ac (vP 7) ak))))) (az _))))
  ay)
  (af (aU (qaY (iW (bp hr) (dq (cq h_refused hr rfl (ac (vP 4) ak))) (dq (df (bQ ak))) (az _)) (qcZ (cq h_alike hr rfl (ac (cq h_read hr rfl (ac (vP 4) ak)) (ac (vP 6) ak)))))))))))))))
end
end K16
end
noncomputable section
namespace K16
open PySem L2
inductive Pr where
 | ok (d:D) (r:List Nat)|er (r:List Nat)
noncomputable def Pr.then (p:Option Pr) (f:D->List Nat->Option Pr):Option Pr:=p.bind fun p=>match p with|.ok d r=>f d r|.er r=>some (.er r)
theorem ir {d:D}{r:List Nat}{f:D->List Nat->Option Pr}:Pr.then (some (.ok d r)) f=f d r:=rfl
noncomputable def a7:List Nat->List Nat->Option Pr
 | [],r=>some (.ok .non r)
 | c::x,[]=>some (.er [])
 | c::x,d::r=>if d=c then a7 x r else some (.er (d::r))
noncomputable def low (c:Nat):Bool:=decide (97<=c)&&decide (c<=122)
noncomputable def gO (r:List Nat):Option Pr:=
 if r.head? = some 42 then some (.ok (.str (S [42])) r.tail)
 else if r.takeWhile low=[] then some (.er r) else some (.ok (.str (S (r.takeWhile low))) (r.dropWhile low))
noncomputable def fP:List Nat->Option Pr
 | []=>some (.er [])
 | c::r=>if c=92 then (if r.head? = some 92 then some (.ok (.str (S [92])) r.tail) else if r.head? = some 113 then some (.ok (.str (S [34])) r.tail) else some (.er r)) else some (.ok (.str (S [c])) r)
noncomputable def cB (f:List Nat->Option Pr) (t:List Nat->Bool):Nat->List Nat->List D->Option (List D×List Nat ⊕ List Nat)
 | 0,_,_=>none
 | n+1,r,acc=>if t r=true then (f r).bind fun p=>match p with|.ok d r=>cB f t n r (acc++[d])|.er r=>some (.inr r) else some (.inl (acc,r))
noncomputable def il (o:Option (List D×List Nat ⊕ List Nat)) (f:List D->List Nat->Option Pr):Option Pr:=o.bind fun o=>match o with|.inl (ds,r)=>f ds r|.inr r=>some (.er r)
noncomputable def isC (c:Nat) (r:List Nat):Bool:=r.head? == some c
noncomputable def nh:List D->List Nat
 | []=>[]
 | .str x::r=>x.cps.toList++nh r
 | _::r=>nh r
noncomputable def kh (r:List Nat):Option Pr:=Pr.then (a7 [34] r) fun _ r=>il (cB fP (fun r=> !isC 34 r) 1000000 r []) fun ds r=>Pr.then (a7 [34] r) fun _ r=>some (.ok (.str (S (nh ds))) r)
noncomputable def fG (r:List Nat):Option Pr:=if isC 38 r then some (.ok (.str (S [38])) r.tail) else if isC 43 r then some (.ok (.str (S [43])) r.tail) else some (.er r)
noncomputable abbrev mX:D :=.tup [.str (Str.ofString "any")]
noncomputable def wOf (k:Str) (d:D):D :=.tup [.str k,d]
noncomputable def gF (fw:List Nat->Option Pr) (r:List Nat):Option Pr:=Pr.then (a7 [47] r) fun _ r=>
 let w:Str:=if isC 47 r then Str.ofString "inner" else Str.ofString "own"
 let r:=if isC 47 r then r.tail else r
 Pr.then (gO r) fun nm r=>if isC 91 r then (if isC 97 r.tail then some (.er r.tail) else Pr.then (fw r.tail) fun wd r=>Pr.then (a7 [93] r) fun _ r=>some (.ok (.tup [.str w,nm,wd]) r))
  else some (.ok (.tup [.str w,nm,mX]) r)
noncomputable def eR (fp:List Nat->Option Pr) (r:List Nat):Option Pr:=Pr.then (fp r) fun d r=>il (cB fp (isC 47) 1000000 r [d]) fun ds r=>some (.ok (.lst ds) r)
noncomputable def dZ (fs fl:List Nat->Option Pr) (r:List Nat):Option Pr:=
 if isC 47 r then Pr.then (fs r) fun d r=>some (.ok (wOf (Str.ofString "has") d) r)
 else if isC 40 r then fl r
 else if isC 34 r then Pr.then (kh r) fun d r=>some (.ok (wOf (Str.ofString "text") d) r)
 else Pr.then (a7 [97,110,121] r) fun _ r=>some (.ok mX r)
noncomputable def kindOf (m:D):Str:=match m with|.str x=>if x=S [38] then Str.ofString "both" else Str.ofString "one"|_=>Str.empty
noncomputable def lf (m:D):List Nat:=match m with|.str x=>x.cps.toList|_=>[]
noncomputable def iB (fw:List Nat->Option Pr) (m:D) (r:List Nat):Option Pr:=Pr.then (a7 ([32]++lf m++[32]) r) fun _ r=>fw r
noncomputable def gM (fw fh:List Nat->Option Pr) (r:List Nat):Option Pr:=Pr.then (a7 [40] r) fun _ r=>
 if isC 38 r||isC 43 r then fh r
 else Pr.then (fw r) fun d1 r=>Pr.then (a7 [32] r) fun _ r=>Pr.then (fG r) fun m r=>Pr.then (a7 [32] r) fun _ r=>Pr.then (fw r) fun d2 r=>
  il (cB (iB fw m) (isC 32) 1000000 r [d1,d2]) fun ds r=>Pr.then (a7 [41] r) fun _ r=>some (.ok (wOf (kindOf m) (.lst ds)) r)
noncomputable def fJ (fw:List Nat->Option Pr) (r:List Nat):Option Pr:=Pr.then (fG r) fun m r=>
 if isC 32 r then Pr.then (a7 [32] r) fun _ r=>Pr.then (fw r) fun d r=>Pr.then (a7 [41] r) fun _ r=>some (.ok (wOf (kindOf m) (.lst [d])) r)
 else Pr.then (a7 [41] r) fun _ r=>some (.ok (wOf (kindOf m) (.lst [])) r)
mutual
noncomputable def dQ:Nat->List Nat->Option Pr
 | 0=>fun _=>none
 | n+1=>eR (je n)
noncomputable def je:Nat->List Nat->Option Pr
 | 0=>fun _=>none
 | n+1=>gF (cV n)
noncomputable def cV:Nat->List Nat->Option Pr
 | 0=>fun _=>none
 | n+1=>dZ (dQ n) (iG n)
noncomputable def iG:Nat->List Nat->Option Pr
 | 0=>fun _=>none
 | n+1=>gM (cV n) (gE n)
noncomputable def gE:Nat->List Nat->Option Pr
 | 0=>fun _=>none
 | n+1=>fJ (cV n)
end
noncomputable def Shr (f:List Nat->Option Pr):Prop:=∀ r d r',f r=some (.ok d r')->r' <:+ r/\r'.length<r.length
theorem ax {p:Option Pr}{f:D->List Nat->Option Pr}{d:D}{r:List Nat}(h:Pr.then p f=some (.ok d r)):∃ d1 r1,p=some (.ok d1 r1)/\f d1 r1=some (.ok d r):=by
 unfold Pr.then at h;cases p with
 | none=>cases h
 | some p=>
  cases p with
  | ok d1 r1=>exact⟨d1,r1,rfl,h⟩
  | er r=>cases h
theorem qby:∀ {x r:List Nat}{d:D}{r':List Nat},a7 x r=some (.ok d r')->r=x++r':=by
 intro x
 induction x with
 | nil=>intro r d r' h;cases h;rfl
 | cons c x ih=>
  intro r d r' h;cases r with
  | nil=>cases h
  | cons e r=>
   unfold a7 at h
   split at h
   ·rename_i z;subst z;rw[ih h];rfl
   ·cases h
theorem qgT (x r:List Nat):r <:+ x++r:=⟨x,rfl⟩
theorem aX {r:List Nat}{c:Nat}(h:isC c r=true):r=c::r.tail:=by
 cases r with
 | nil=>simp[isC] at h
 | cons d r=>simp[isC] at h;subst h;rfl
theorem fS {r:List Nat}{c:Nat}(h:isC c r=true):r.tail <:+ r/\r.tail.length<r.length:=by
 have e:=aX h
 constructor
 ·exact List.tail_suffix r
 ·rw[e];simp
theorem eE:Shr fG:=fun r d r' h=>by
 unfold fG at h
 split at h
 ·rename_i z;cases h;exact fS z
 ·split at h
  ·rename_i z;cases h;exact fS z
  ·cases h
theorem gZ (r:List Nat):r.takeWhile low++r.dropWhile low=r:=List.takeWhile_append_dropWhile
theorem j5:Shr gO:=fun r d r' h=>by
 unfold gO at h
 split at h
 ·rename_i z;cases h;exact fS (c:=42) (by simp[isC,z])
 ·split at h
  ·cases h
  ·rename_i z;cases h;have e:=gZ r;refine⟨⟨_,e⟩,?_⟩;have:0<(r.takeWhile low).length:=List.length_pos_iff.mpr z;have:=congrArg List.length e;rw[List.length_append] at this;omega
theorem hW:Shr fP:=fun r d r' h=>by
 cases r with
 | nil=>cases h
 | cons c r=>
  have h:(if c=92 then (if r.head? = some 92 then some (Pr.ok (.str (S [92])) r.tail) else if r.head? = some 113 then some (Pr.ok (.str (S [34])) r.tail) else some (Pr.er r)) else some (Pr.ok (.str (S [c])) r))=some (.ok d r'):=h
  have tl:∀ {e:Nat},r.head? = some e->r.tail <:+ c::r/\r.tail.length<(c::r).length:=fun {e} z=>by
   have:=fS (r:=r) (c:=e) (by simp[isC,z])
   exact⟨this.1.trans (List.suffix_cons c r),by simp only[zP];omega⟩
  split at h
  ·split at h
   ·rename_i z;cases h;exact tl z
   ·split at h
    ·rename_i z;cases h;exact tl z
    ·cases h
  ·cases h;exact⟨List.suffix_cons c _,by simp⟩
theorem eG {f:List Nat->Option Pr}{t:List Nat->Bool}(hf:Shr f):∀ {n:Nat}{r:List Nat}{acc ds:List D}{r':List Nat},cB f t n r acc=some (.inl (ds,r'))->r' <:+ r/\r'.length<=r.length:=by
 intro n
 induction n with
 | zero=>intro r acc ds r' h;cases h
 | succ n ih=>
  intro r acc ds r' h;unfold cB at h
  split at h
  ·cases ef:f r with
   | none=>rw[ef] at h;cases h
   | some p=>
    rw[ef] at h;cases p with
    | er r1=>cases h
    | ok d r1=>have h1:=hf r d r1 ef;have h2:=ih h;exact⟨h2.1.trans h1.1,by omega⟩
  ·cases h;exact⟨List.suffix_refl _,zL _⟩
theorem eI {o:Option (List D×List Nat ⊕ List Nat)}{f:List D->List Nat->Option Pr}{d:D}{r:List Nat}(h:il o f=some (.ok d r)):∃ ds r1,o=some (.inl (ds,r1))/\f ds r1=some (.ok d r):=by
 unfold il at h;cases o with
 | none=>cases h
 | some p=>
  cases p with
  | inl q=>exact⟨q.1,q.2,rfl,h⟩
  | inr r=>cases h
theorem a9 {x r:List Nat}{d:D}{r':List Nat}(h:a7 x r=some (.ok d r')):r' <:+ r/\r'.length+x.length=r.length:=by
 have:=qby h;subst this;exact⟨qgT _ _,by simp;omega⟩
theorem qeN:Shr kh:=fun r d r' h=>by
 obtain⟨d1,r1,h1,h⟩:=ax h;obtain⟨ds,r2,h2,h⟩:=eI h;obtain⟨d3,r3,h3,h⟩:=ax h;cases h;have a:=a9 h1;have b:=eG hW h2;have c:=a9 h3;exact⟨c.1.trans (b.1.trans a.1),by have:=a.2;have:=c.2;simp at *;omega⟩
theorem qeW {fw:List Nat->Option Pr}(hw:Shr fw):Shr (gF fw):=fun r d r' h=>by
 obtain⟨d1,r1,h1,h⟩:=ax h;obtain⟨d2,r2,h2,h⟩:=ax h;have a:=a9 h1;have b:=j5 _ _ _ h2;have c:(if isC 47 r1 then r1.tail else r1) <:+ r1/\(if isC 47 r1 then r1.tail else r1).length<=r1.length:=by
  split
  ·rename_i z;exact⟨(fS z).1,Nat.le_of_lt (fS z).2⟩
  ·exact⟨List.suffix_refl _,zL _⟩
 have a2:=a.2;simp only[zP,List.length_nil] at a2;have base:r2 <:+ r/\r2.length<r.length:=⟨b.1.trans (c.1.trans a.1),by omega⟩
 split at h
 ·rename_i z
  split at h
  ·cases h
  ·obtain⟨d4,r4,h4,h⟩:=ax h;obtain⟨d5,r5,h5,h⟩:=ax h;cases h;have t:=fS z;have e:=hw _ _ _ h4;have f:=a9 h5;exact⟨f.1.trans (e.1.trans (t.1.trans base.1)),by omega⟩
 ·cases h;exact base
theorem qdZ {fp:List Nat->Option Pr}(hp:Shr fp):Shr (eR fp):=fun r d r' h=>by
 obtain⟨d1,r1,h1,h⟩:=ax h;obtain⟨ds,r2,h2,h⟩:=eI h;cases h;have a:=hp _ _ _ h1;have b:=eG hp h2;exact⟨b.1.trans a.1,by omega⟩
theorem qeI {fs fl:List Nat->Option Pr}(hs:Shr fs) (hl:Shr fl):Shr (dZ fs fl):=fun r d r' h=>by
 unfold dZ at h
 split at h
 ·obtain⟨d1,r1,h1,h⟩:=ax h;cases h;exact hs _ _ _ h1
 ·split at h
  ·exact hl _ _ _ h
  ·split at h
   ·obtain⟨d1,r1,h1,h⟩:=ax h;cases h;exact qeN _ _ _ h1
   ·obtain⟨d1,r1,h1,h⟩:=ax h;cases h;have:=a9 h1;exact⟨this.1,by have:=this.2;simp at this;omega⟩
theorem dN {fw:List Nat->Option Pr}{m:D}(hw:Shr fw):Shr (iB fw m):=fun r d r' h=>by
 obtain⟨d1,r1,h1,h⟩:=ax h;have a:=a9 h1;have b:=hw _ _ _ h;exact⟨b.1.trans a.1,by omega⟩
theorem qfS {fw fh:List Nat->Option Pr}(hw:Shr fw) (hh:Shr fh):Shr (gM fw fh):=fun r d r' h=>by
 obtain⟨d1,r1,h1,h⟩:=ax h;have a:=a9 h1;have a2:=a.2;simp only[zP,List.length_nil] at a2
 split at h
 ·have b:=hh _ _ _ h;exact⟨b.1.trans a.1,by omega⟩
 ·obtain⟨d2,r2,h2,h⟩:=ax h;obtain⟨d3,r3,h3,h⟩:=ax h;obtain⟨d4,r4,h4,h⟩:=ax h;obtain⟨d5,r5,h5,h⟩:=ax h;obtain⟨d6,r6,h6,h⟩:=ax h;obtain⟨ds,r7,h7,h⟩:=eI h;obtain⟨d8,r8,h8,h⟩:=ax h;cases h;have b2:=hw _ _ _ h2;have b3:=a9 h3;have b4:=eE _ _ _ h4;have b5:=a9 h5;have b6:=hw _ _ _ h6;have b7:=eG (dN hw) h7;have b8:=a9 h8;exact⟨b8.1.trans (b7.1.trans (b6.1.trans (b5.1.trans (b4.1.trans (b3.1.trans (b2.1.trans a.1)))))),by omega⟩
theorem qd3 {fw:List Nat->Option Pr}(hw:Shr fw):Shr (fJ fw):=fun r d r' h=>by
 obtain⟨m,r1,h1,h⟩:=ax h;have a:=eE _ _ _ h1
 split at h
 ·obtain⟨d2,r2,h2,h⟩:=ax h;obtain⟨d3,r3,h3,h⟩:=ax h;obtain⟨d4,r4,h4,h⟩:=ax h;cases h;have b2:=a9 h2;have b3:=hw _ _ _ h3;have b4:=a9 h4;exact⟨b4.1.trans (b3.1.trans (b2.1.trans a.1)),by omega⟩
 ·obtain⟨d2,r2,h2,h⟩:=ax h;cases h;have b2:=a9 h2;exact⟨b2.1.trans a.1,by omega⟩
theorem jZ:Shr fun _=>none:=fun r d r' h=>by cases h
theorem jz:∀ n:Nat,Shr (dQ n)/\Shr (je n)/\Shr (cV n)/\Shr (iG n)/\Shr (gE n)
 | 0=>⟨jZ,jZ,jZ,jZ,jZ⟩
 | n+1=>by obtain⟨h1,h2,h3,h4,h5⟩:=jz n;exact⟨show Shr (eR (je n)) from qdZ h2,show Shr (gF (cV n)) from qeW h3,show Shr (dZ (dQ n) (iG n)) from qeI h1 h4,show Shr (gM (cV n) (gE n)) from qfS h3 h5,show Shr (fJ (cV n)) from qd3 h3⟩
end K16
end
noncomputable section
namespace K16
open PySem L2
noncomputable abbrev Is {α:Type}(o:Option α):Prop:=∃ p,o=some p
noncomputable def Def (f:List Nat->Option Pr) (k:Nat):Prop:=∀ r,r.length<=k->Is (f r)
theorem bR {o:Option Pr}{f:D->List Nat->Option Pr}(h:Is o) (hf:∀ d r,o=some (.ok d r)->Is (f d r)):Is (Pr.then o f):=by
 obtain⟨p,rfl⟩:=h;cases p with
 | ok d r=>exact hf d r rfl
 | er r=>exact⟨_,rfl⟩
theorem dW:∀ (x r:List Nat),Is (a7 x r)
 | [],r=>⟨_,rfl⟩
 | c::x,[]=>⟨_,rfl⟩
 | c::x,d::r=>by
  unfold a7
  split
  ·exact dW x r
  ·exact⟨_,rfl⟩
theorem qhE (r:List Nat):Is (gO r):=by
 unfold gO
 split
 ·exact⟨_,rfl⟩
 ·split<;>exact⟨_,rfl⟩
theorem qg2:∀ r:List Nat,Is (fP r)
 | []=>⟨_,rfl⟩
 | c::r=>by
  show Is (if c=92 then (if r.head? = some 92 then some (Pr.ok (.str (S [92])) r.tail) else if r.head? = some 113 then some (Pr.ok (.str (S [34])) r.tail) else some (Pr.er r)) else some (Pr.ok (.str (S [c])) r))
  split
  ·split
   ·exact⟨_,rfl⟩
   ·split<;>exact⟨_,rfl⟩
  ·exact⟨_,rfl⟩
theorem qdt (r:List Nat):Is (fG r):=by
 unfold fG
 split
 ·exact⟨_,rfl⟩
 ·split<;>exact⟨_,rfl⟩
theorem qaE {f:List Nat->Option Pr}{t:List Nat->Bool}{k:Nat}(hf:Def f k) (hs:Shr f):∀ {n:Nat}{r:List Nat}{acc:List D},r.length<=k->r.length<n->Is (cB f t n r acc):=by
 intro n
 induction n with
 | zero=>intro r acc _ h;omega
 | succ n ih=>
  intro r acc hk hn;unfold cB
  split
  ·obtain⟨p,e⟩:=hf r hk;rw[e];cases p with
   | er r1=>exact⟨_,rfl⟩
   | ok d r1=>have:=hs _ _ _ e;exact ih (by omega) (by omega)
  ·exact⟨_,rfl⟩
theorem mH {o:Option (List D×List Nat ⊕ List Nat)}{f:List D->List Nat->Option Pr}(h:Is o) (hf:∀ ds r,o=some (.inl (ds,r))->Is (f ds r)):Is (il o f):=by
 obtain⟨p,rfl⟩:=h;cases p with
 | inl q=>exact hf q.1 q.2 rfl
 | inr r=>exact⟨_,rfl⟩
theorem qgM {r:List Nat}(hr:r.length<=1000):Is (kh r):=by
 refine bR (dW _ _) fun d1 r1 h1 =>?_
 have a:=a9 h1;refine mH (qaE (k:=1000) (fun r _=>qg2 r) hW (by omega) (by omega)) fun ds r2 h2 =>?_
 exact bR (dW _ _) fun d3 r3 h3=>⟨_,rfl⟩
theorem qgV {fw:List Nat->Option Pr}{k:Nat}(hw:Def fw (k-1)):Def (gF fw) k:=fun r hr=>by
 refine bR (dW _ _) fun d1 r1 h1=>bR (qhE _) fun d2 r2 h2 =>?_
 have a:=(a9 h1).2;simp only[zP,List.length_nil] at a;have b:=(j5 _ _ _ h2).2;have c:(if isC 47 r1 then r1.tail else r1).length<=r1.length:=by
  split
  ·simp
  ·exact zL _
 split
 ·rename_i z
  split
  ·exact⟨_,rfl⟩
  ·have t:=(fS z).2;exact bR (hw _ (by omega)) fun d4 r4 h4=>bR (dW _ _) fun d5 r5 h5=>⟨_,rfl⟩
 ·exact⟨_,rfl⟩
theorem qeS {fp:List Nat->Option Pr}{k:Nat}(hk:k<=1000) (hp:Def fp k) (hs:Shr fp):Def (eR fp) k:=fun r hr=>by
 refine bR (hp _ hr) fun d1 r1 h1 =>?_
 have a:=(hs _ _ _ h1).2;exact mH (qaE hp hs (by omega) (by omega)) fun ds r2 h2=>⟨_,rfl⟩
theorem qgG {fs fl:List Nat->Option Pr}{k:Nat}(hk:k<=1000) (hs:Def fs k) (hl:Def fl k):Def (dZ fs fl) k:=fun r hr=>by
 unfold dZ
 split
 ·exact bR (hs _ hr) fun d1 r1 h1=>⟨_,rfl⟩
 ·split
  ·exact hl _ hr
  ·split
   ·exact bR (qgM (by omega)) fun d1 r1 h1=>⟨_,rfl⟩
   ·exact bR (dW _ _) fun d1 r1 h1=>⟨_,rfl⟩
theorem qhN {fw fh:List Nat->Option Pr}{k:Nat}(hk:k<=1000) (hw:Def fw (k-1)) (hh:Def fh (k-1)) (hs:Shr fw):Def (gM fw fh) k:=fun r hr=>by
 refine bR (dW _ _) fun d1 r1 h1 =>?_
 have a:=(a9 h1).2;simp only[zP,List.length_nil] at a
 split
 ·exact hh _ (by omega)
 ·refine bR (hw _ (by omega)) fun d2 r2 h2=>bR (dW _ _) fun d3 r3 h3=>bR (qdt _) fun d4 r4 h4=>bR (dW _ _) fun d5 r5 h5 =>?_
  have b2:=(hs _ _ _ h2).2;have b3:=(a9 h3).2;have b4:=(eE _ _ _ h4).2;have b5:=(a9 h5).2;refine bR (hw _ (by omega)) fun d6 r6 h6 =>?_
  have b6:=(hs _ _ _ h6).2;refine mH (qaE (k:=k-1) (fun r hr =>?_) (dN hs) (by omega) (by omega)) fun ds r7 h7=>bR (dW _ _) fun d8 r8 h8=>⟨_,rfl⟩
  refine bR (dW _ _) fun e r' h'=>hw _ ?_
  have:=(a9 h').2;omega
theorem qe2 {fw:List Nat->Option Pr}{k:Nat}(hw:Def fw (k-1)):Def (fJ fw) k:=fun r hr=>by
 refine bR (qdt _) fun m r1 h1 =>?_
 have a:=(eE _ _ _ h1).2
 split
 ·refine bR (dW _ _) fun d2 r2 h2 =>?_
  have b:=(a9 h2).2;exact bR (hw _ (by omega)) fun d3 r3 h3=>bR (dW _ _) fun d4 r4 h4=>⟨_,rfl⟩
 ·exact bR (dW _ _) fun d2 r2 h2=>⟨_,rfl⟩
theorem qa8:∀ (n k:Nat),k<=1000->(3*k+2<=n->Def (dQ n) k)/\(3*k+1<=n->Def (je n) k)/\(3*k+3<=n->Def (cV n) k)/\(3*k+2<=n->Def (iG n) k)/\(3*k+2<=n->Def (gE n) k)
 | 0,k,hk=>⟨fun h=>by omega,fun h=>by omega,fun h=>by omega,fun h=>by omega,fun h=>by omega⟩
 | n+1,k,hk=>by
  obtain⟨s1,s2,s3,s4,s5⟩:=jz n;obtain⟨h1,h2,h3,h4,h5⟩:=qa8 n k hk;obtain⟨g1,g2,g3,g4,g5⟩:=qa8 n (k-1) (by omega)
  have zero:∀ {f:List Nat->Option Pr},k=0->(∀ r,r.length<k->Is (f r)):=fun z r hr=>by omega
  refine⟨fun h=>show Def (eR (je n)) k from qeS hk (h2 (by omega)) s2,fun h=>show Def (gF (cV n)) k from ?_,fun h=>show Def (dZ (dQ n) (iG n)) k from qgG hk (h1 (by omega)) (h4 (by omega)),fun h=>show Def (gM (cV n) (gE n)) k from ?_,fun h=>show Def (fJ (cV n)) k from ?_⟩
  ·by_cases hz:k=0
   ·subst hz;intro r hr;have:r=[]:=List.length_eq_zero_iff.mp (by omega)
    subst this;exact⟨_,rfl⟩
   ·exact qgV (g3 (by omega))
  ·by_cases hz:k=0
   ·subst hz;intro r hr;have:r=[]:=List.length_eq_zero_iff.mp (by omega)
    subst this;exact⟨_,rfl⟩
   ·exact qhN hk (g3 (by omega)) (g5 (by omega)) s3
  ·by_cases hz:k=0
   ·subst hz;intro r hr;have:r=[]:=List.length_eq_zero_iff.mp (by omega)
    subst this;exact⟨_,rfl⟩
   ·exact qe2 (g3 (by omega))
end K16
end
noncomputable section
namespace K16
open PySem L2
noncomputable abbrev cR:Str:=Str.ofString "Reader"
noncomputable abbrev kL:Str:=Str.ofString "line"
noncomputable abbrev kA:Str:=Str.ofString "at"
noncomputable abbrev nT:Str:=Str.ofString "NoText"
theorem c42:Str.ofString "*" = S [42]:=by decide +kernel
theorem c97:Str.ofString "a" = S [97]:=by decide +kernel
theorem ql8:Str.ofString "z" = S [122]:=by decide +kernel
theorem c47:Str.ofString "/" = S [47]:=by decide +kernel
theorem c91:Str.ofString "[" = S [91]:=by decide +kernel
theorem c93:Str.ofString "]" = S [93]:=by decide +kernel
theorem c40:Str.ofString "(" = S [40]:=by decide +kernel
theorem c41:Str.ofString ")" = S [41]:=by decide +kernel
theorem c32:Str.ofString " " = S [32]:=by decide +kernel
theorem c34:Str.ofString "\"" = S [34]:=by decide +kernel
theorem c92:Str.ofString "\\" = S [92]:=by decide +kernel
theorem qli:Str.ofString "q" = S [113]:=by decide +kernel
theorem ql7:Str.ofString "~" = S [126]:=by decide +kernel
theorem c0:Str.ofString "" = S []:=by decide +kernel
theorem c38:Str.ofString "&" = S [38]:=by decide +kernel
theorem c43:Str.ofString "+" = S [43]:=by decide +kernel
theorem qma:Str.ofString "n" = S [110]:=by decide +kernel
theorem ql9:Str.ofString "y" = S [121]:=by decide +kernel
theorem qif:Str.ofString "any" = S [97,110,121]:=by decide +kernel
noncomputable def pos (L r:List Nat):Int:=(L.length:Int)-(r.length:Int)
noncomputable def R (L r:List Nat):D :=.ins cR [kL,kA] [.str (S L),.int (pos L r)]
theorem qdn (pre r:List Nat):pos (pre++r) r=(pre.length:Int):=by unfold pos;rw[List.length_append];omega
theorem kne:(kA==kL)=false:=by decide +kernel
theorem qlb {f:DF}{ρ:aA}{L r:List Nat}(h:f ρ=some (R L r)):fF cR kL f ρ=some (.str (S L)):=by
 unfold fF;rw[h];show (if cR=cR then ([kL,kA].zip [D.str (S L),.int (pos L r)]).lookup kL else none)=_
 rw[if_pos rfl];simp only[List.zip_cons_cons,List.lookup_cons,beq_self_eq_true]
theorem qcT {f:DF}{ρ:aA}{L r:List Nat}(h:f ρ=some (R L r)):fF cR kA f ρ=some (.int (pos L r)):=by
 unfold fF;rw[h];show (if cR=cR then ([kL,kA].zip [D.str (S L),.int (pos L r)]).lookup kA else none)=_
 rw[if_pos rfl];simp only[List.zip_cons_cons,List.lookup_cons,beq_self_eq_true,kne]
structure Ln (L:List Nat):Prop where
 short:L.length<=1000
 ok:∀ c∈L,32<=c/\c<=126/\c≠37
theorem gr {n:Nat}(h:n<=100000):n<=cH:=by rw[bf];omega
theorem lC (a b:Int):aj (.int a) (.int b)=some (.int (a+b)):=rfl
theorem sl1 {L r:List Nat}(h:r <:+ L):Txt.slice (S L) (some (pos L r)) (some (pos L r+1))=S (r.take 1):=by
 obtain⟨pre,rfl⟩:=h;have:=n8 (pre++r) pre.length (pre.length+1) (by omega) (by simp)
 rw[qdn,show ((pre.length:Int)+1)=((pre.length+1:Nat):Int) by omega,this,List.drop_left]
 congr 2
 omega
theorem qgu {L r:List Nat}(hL:Ln L) (h:r <:+ L):aq [R L r]=some (.str (S (r.take 1))):=by
 show (bc _ [some (R L r)]).bind iO=_;have e:aW (fF cR kL (eV 0)) (pS (fF cR kA (eV 0))) (pS (e2 aj (fF cR kA (eV 0)) (eK (.int 1)))) [some (R L r)]=some (.str (S (r.take 1))):=by unfold aW pS e2;rw[qlb (f:=eV 0) rfl,qcT (f:=eV 0) rfl];simp only[zA,eK,lC];rw[dB,if_pos (gr (by have:=hL.short;omega)),sl1 h]
 unfold bc;rw[e];rfl
theorem qjo:Str.ofString "ahead" ∉ [kL,kA]:=by decide +kernel
theorem qkW:Str.ofString "pass_over" ∉ [kL,kA]:=by decide +kernel
theorem qfH:Str.ofString "read_step" ∉ [kL,kA]:=by decide +kernel
theorem qdr:Str.ofString "read_steps" ∉ [kL,kA]:=by decide +kernel
theorem oA:Str.ofString "read_wish" ∉ [kL,kA]:=by decide +kernel
theorem qjs:Str.ofString "read_list" ∉ [kL,kA]:=by decide +kernel
theorem qhG:Str.ofString "read_short_list" ∉ [kL,kA]:=by decide +kernel
theorem qjr:Str.ofString "read_name" ∉ [kL,kA]:=by decide +kernel
theorem qfI:Str.ofString "read_mark" ∉ [kL,kA]:=by decide +kernel
theorem qjp:Str.ofString "read_text" ∉ [kL,kA]:=by decide +kernel
theorem qjq:Str.ofString "read_text_sign" ∉ [kL,kA]:=by decide +kernel
theorem lB {L r:List Nat}{ρ:aA}(hL:Ln L) (h:r <:+ L):(cQ (Str.ofString "Reader") (Str.ofString "ahead") aq (eV 0) aN) (some (R L r)::ρ)=some (.str (S (r.take 1))):=by
 show (if cR=cR/\Str.ofString "ahead" ∉ [kL,kA] then (aN (some (R L r)::ρ)).bind fun xs=>(aq (R L r::xs)).bind fun d=>if kQ d=true then some d else none else none)=_
 rw[if_pos ⟨rfl,qjo⟩];simp only[aN,zA,qgu hL h]
 rfl
theorem tk1 (r:List Nat) (c:Nat):(r.take 1==[c])=isC c r:=by
 cases r with
 | nil=>rfl
 | cons x r=>simp[isC]
theorem eqS (a b:Str):oEq (.str a) (.str b)=some (.bl (a==b)):=by simp[oEq,dOk,deq]
theorem neS (a b:Str):oNe (.str a) (.str b)=some (.bl (!(a==b))):=by simp[oNe,dOk,deq]
theorem eqI (a b:Int):oEq (.int a) (.int b)=some (.bl (a==b)):=by simp[oEq,dOk,deq]
theorem jC {L r:List Nat}{ρ:aA}{c:Nat}(hL:Ln L) (h:r <:+ L):tB1 (e2 oEq (cQ (Str.ofString "Reader") (Str.ofString "ahead") aq (eV 0) aN) (eK (.str (S [c])))) (some (R L r)::ρ)=some (isC c r):=by
 unfold tB1 e2;rw[lB hL h];simp only[zA,eK,eqS,kN,tk1]
theorem qdc {L r:List Nat}{ρ:aA}{c:Nat}(hL:Ln L) (h:r <:+ L):tB1 (e2 oNe (cQ (Str.ofString "Reader") (Str.ofString "ahead") aq (eV 0) aN) (eK (.str (S [c])))) (some (R L r)::ρ)=some (!isC c r):=by
 unfold tB1 e2;rw[lB hL h];simp only[zA,eK,neS,kN,tk1]
theorem qk2 {L r:List Nat}{ρ:aA}:kU cR 0 (some (R L r)::ρ)=some ([kL,kA],[.str (S L),.int (pos L r)]):=by
 show (if cR=cR then some ([kL,kA],[D.str (S L),D.int (pos L r)]) else none)=_
 exact if_pos rfl
theorem ig {L r:List Nat}{c:Nat}:pos L (c::r)+1=pos L r:=by unfold pos;simp only[zP];omega
theorem qj3 {L r:List Nat}{c:Nat}{ρ:aA}:ie 0 cR kA (fun i j=>i+j) (eK (.int 1)) (some (R L (c::r))::ρ)=some (.nx (some (R L r)::ρ)):=by
 unfold ie;rw[qk2];simp only[eK,zA,List.zip_cons_cons,List.lookup_cons,beq_self_eq_true,kne];have hne:¬ kL=kA:=fun z=>by have:=kne;rw[<- z] at this;simp at this
 simp only[zP,List.length_nil,nq,hne,if_false,if_true];rw[if_pos (by decide),ig]
 rfl
theorem oj {L r:List Nat}{ρ:aA}:dG nT 0 (fF cR kA (eV 0)) (some (R L r)::ρ)=some (.ex nT (pos L r)):=by
 unfold dG;rw[qcT (f:=eV 0) rfl];rfl
noncomputable def toX (L:List Nat):Pr->Xo (D×D)
 | .ok d r =>.ok (d,R L r)
 | .er r =>.er nT (pos L r)
noncomputable def cv (L:List Nat) (p:Option Pr):Option (Xo (D×D)):=p.map (toX L)
noncomputable def toM (L:List Nat) (ρ:aA):Pr->Xo (D×aA)
 | .ok d r =>.ok (d,some (R L r)::ρ)
 | .er r =>.er nT (pos L r)
noncomputable def toS (L:List Nat) (env:D->List Nat->aA):Pr->DO
 | .ok d r =>.nx (env d r)
 | .er r =>.ex nT (pos L r)
noncomputable def Ev (L:List Nat) (g:DG) (ρ:aA) (p:Option Pr):Prop:=(g ρ).bind (qfr 0)=cv L p
noncomputable section
variable {L:List Nat}{g h st e:DG}{ρ:aA}{p:Option Pr}{t:DT}
theorem Ev.call {k:D->List Nat->Option Pr}{env:D->List Nat->aA}(hst:st ρ=p.map (toS L env)) (hk:∀ d r,p=some (.ok d r)->Ev L h (env d r) (k d r)):Ev L (ad st h) ρ (Pr.then p k):=by
 unfold Ev ad;rw[hst];cases p with
 | none=>rfl
 | some p=>
  cases p with
  | ok d r=>exact hk d r rfl
  | er r=>rfl
theorem Ev.nx {ρ':aA}(hst:st ρ=some (.nx ρ')) (hk:Ev L h ρ' p):Ev L (ad st h) ρ p:=by
 unfold Ev ad;rw[hst];exact hk
theorem Ev.ift (ht:t ρ=some true) (hk:Ev L (ad g h) ρ p):Ev L (ad (sIf t g e) h) ρ p:=by
 unfold Ev at hk ⊢;rw[<- hk];unfold ad sIf;rw[ht];rfl
theorem Ev.iff (ht:t ρ=some false) (hk:Ev L h ρ p):Ev L (ad (sIf t g aV) h) ρ p:=by
 unfold Ev at hk ⊢;rw[<- hk];unfold ad sIf;rw[ht];rfl
theorem Ev.assoc {g2:DG}(hk:Ev L (ad g (ad g2 h)) ρ p):Ev L (ad (ad g g2) h) ρ p:=by
 unfold Ev at hk ⊢;rw[<- hk];unfold ad;cases g ρ with
 | none=>rfl
 | some o=>cases o<;>rfl
theorem Ev.ex {r:List Nat}(hst:st ρ=some (.ex nT (pos L r))):Ev L (ad st h) ρ (some (.er r)):=by
 unfold Ev ad;rw[hst];rfl
theorem Ev.rm {ρ':aA}{d:D}{r:List Nat}(hst:st ρ=some (.rm d (some (R L r)::ρ'))):Ev L (ad st h) ρ (some (.ok d r)):=by
 unfold Ev ad;rw[hst];rfl
theorem Ev.rm0 {ρ':aA}{d:D}{r:List Nat}(hst:st ρ=some (.rm d (some (R L r)::ρ'))):Ev L st ρ (some (.ok d r)):=by
 unfold Ev;rw[hst];rfl
theorem Ev.seq0 (hk:Ev L st ρ p) (hn:∀ ρ',st ρ≠some (.nx ρ')):Ev L (ad st h) ρ p:=by
 unfold Ev at hk ⊢;rw[<- hk];unfold ad;cases e:st ρ with
 | none=>rfl
 | some o=>
  cases o with
  | nx ρ'=>exact absurd e (hn ρ')
  | _=>rfl
variable {m:Str}{F:List D->Option (Xo (D×D))}{gl:DL}{xs:List D}{r:List Nat}{f:DMX}
theorem qiz (hm:m∉[kL,kA]) (hg:gl (some (R L r)::ρ)=some xs) (hF:F (R L r::xs)=cv L p):aT cR m F 0 gl (some (R L r)::ρ)=p.map (toM L ρ):=by
 unfold aT;rw[qk2];simp only[zA];rw[if_pos hm];simp only[hg,zA];show (F (R L r::xs)).map _=_;rw[hF];unfold cv;cases p with
 | none=>rfl
 | some p=>cases p<;>rfl
theorem qlc {ρ0:aA}(h:f ρ0=p.map (toM L ρ)):bT f ρ0=p.map (toS L fun _ r=>some (R L r)::ρ):=by
 unfold bT;rw[h];cases p with
 | none=>rfl
 | some p=>cases p<;>rfl
theorem qiU {ρ0:aA}{i:Nat}(h:f ρ0=p.map (toM L ρ)):ic (i+1) f ρ0=p.map (toS L fun d r=>some (R L r)::ρ.set i (some d)):=by
 unfold ic;rw[h];cases p with
 | none=>rfl
 | some p=>cases p<;>rfl
theorem qg7 {ρ0:aA}(h:f ρ0=p.map (toM L ρ)):Ev L (kR f) ρ0 p:=by
 unfold Ev kR;rw[h];cases p with
 | none=>rfl
 | some p=>cases p<;>rfl
theorem nG {ρ0 ρ':aA}:kR f ρ0≠some (.nx ρ'):=by
 unfold kR;cases f ρ0 with
 | none=>intro z;cases z
 | some r=>cases r<;>(intro z;cases z)
theorem qfR {i:Nat}{x:Option D}{ρ:aA}{ds:List D}(h:ρ[i]?=some (some (.lst ds))):bH (i+1) (x::ρ)=some ds:=by
 unfold bH eV;rw[List.getElem?_cons_succ,h];rfl
theorem qgr {i:Nat}{ds:List D}(hd:ρ[i]?=some (some (.lst ds))) (hl:ds.length<cH) (h:f (some (R L r)::ρ)=p.map (toM L ρ)):lR (i+1) f (some (R L r)::ρ)=p.map (toS L fun d r=>some (R L r)::ρ.set i (some (.lst (ds++[d])))):=by
 unfold lR;rw[qfR hd,h];cases p with
 | none=>rfl
 | some p=>
  cases p with
  | er r=>rfl
  | ok d r1=>simp only[zA,zT,toM,toS];rw[qfR hd];simp only[zA];rw[if_pos hl];rfl
theorem qiq {ρ0:aA}{i:Nat}(h:f ρ0=p.map (toM L ρ)):mw (i+1) (mxC f mxN) ρ0=p.map (toS L fun d r=>some (R L r)::ρ.set i (some (.lst [d]))):=by
 unfold mw mxC;rw[h];cases p with
 | none=>rfl
 | some p=>cases p<;>rfl
theorem qkj {ρ0:aA}{k:Str}(h:f ρ0=p.map (toM L ρ)):pJ (mxC (mxL (mP (eK (.str k)))) (mxC f mxN)) ρ0=(Pr.then p fun d r=>some (.ok (wOf k d) r)).map (toM L ρ):=by
 unfold pJ mxC;simp only[mxL,mP,eK,zT,zA];rw[h];cases p with
 | none=>rfl
 | some p=>
  cases p with
  | ok d r=>rfl
  | er r=>rfl
end
theorem qhp {L:List Nat}(hL:Ln L):∀ {x r:List Nat},(∀ c∈x,c<128)->r <:+ L->ae [R L r,.str (S x)]=cv L (a7 x r):=by
 intro x r hx hr;have loop:∀ (x r:List Nat) (y:Str) (v:Option D),r <:+ L->∃ v',iT (gN 2) bJ (x.map fun c=>D.str (S [c])) [some (R L r),some (.str y),v]=(a7 x r).map (toS L fun _ r=>[some (R L r),some (.str y),v']):=by
  intro x
  induction x with
  | nil=>intro r y v _;exact⟨v,by simp[iT,a7,toS]⟩
  | cons c x ih=>
   intro r y v hr;have t:tB1 (e2 oNe (cQ (Str.ofString "Reader") (Str.ofString "ahead") aq (eV 0) aN) (eV 2)) [some (R L r),some (.str y),some (.str (S [c]))]=some (!isC c r):=qdc (ρ:=[some (.str y),some (.str (S [c]))]) hL hr;have step:bJ [some (R L r),some (.str y),some (.str (S [c]))]=if isC c r then some (.nx [some (R L r.tail),some (.str y),some (.str (S [c]))]) else some (.ex nT (pos L r)):=by
    unfold bJ ad sIf;rw[t];cases hc:isC c r with
    | true=>have:=aX hc;rw[this];exact qj3 (ρ:=[some (.str y),some (.str (S [c]))])
    | false=>show ((dG nT 0 (fF cR kA (eV 0)) [some (R L r),some (.str y),some (.str (S [c]))]).bind _)=_;rw[oj];rfl
   rw[List.map_cons,iT];show ∃ v',((some [some (R L r),some (.str y),some (.str (S [c]))]:Option aA).bind fun ρ1=>(bJ ρ1).bind _)=_
   simp only[zA,step];cases hc:isC c r with
   | true=>
    have e:=aX hc;obtain⟨v',e'⟩:=ih r.tail y (some (.str (S [c]))) ((List.tail_suffix r).trans hr);refine⟨v',?_⟩;rw[if_pos rfl];simp only[zA];rw[e'];have:a7 (c::x) r=a7 x r.tail:=by rw[e];simp[a7]
    rw[this]
   | false=>
    refine⟨v,?_⟩;rw[if_neg (by decide)]
    have:a7 (c::x) r=some (.er r):=by
     cases r with
     | nil=>rfl
     | cons d r=>
      have:¬ d=c:=fun z=>by simp[isC,z] at hc
      simp[a7,this]
    rw[this];rfl
 show (gx (iS (eV 1)) (gN 2) bJ [some (R L r),some (.str (S x)),none]).bind (qfr 0)=_;have hi:iS (eV 1) [some (R L r),some (.str (S x)),none]=some (x.map fun c=>D.str (S [c])):=by
  show (if (S x).cps.all (· < 128)=true then some (jj (S x)) else none)=_
  rw[if_pos (by rw[<- Array.all_toList,fm,List.all_eq_true];intro c hc;exact decide_eq_true (hx c hc))]
  simp[jj,S]
 obtain⟨v',e⟩:=loop x r (S x) none hr;unfold gx;rw[hi];simp only[zA];rw[e];unfold cv;have dn:∀ {x r:List Nat}{d:D}{r':List Nat},a7 x r=some (.ok d r')->d=.non:=by
  intro x
  induction x with
  | nil=>intro r d r' h;cases h;rfl
  | cons c x ih=>
   intro r d r' h;cases r with
   | nil=>cases h
   | cons e r=>
    unfold a7 at h
    split at h
    ·exact ih h
    ·cases h
 cases ep:a7 x r with
 | none=>rfl
 | some p=>
  cases p with
  | ok d r1=>have:=dn ep;subst this;rfl
  | er r1=>rfl
theorem qbA {L r x:List Nat}{f:DF}{ρ:aA}(hL:Ln L) (hr:r <:+ L) (hx:∀ c∈x,c<128) (hf:f (some (R L r)::ρ)=some (.str (S x))) :
  bT (aT (Str.ofString "Reader") (Str.ofString "pass_over") ae 0 (aC f aN)) (some (R L r)::ρ)=(a7 x r).map (toS L fun _ r=>some (R L r)::ρ):=
 qlc (qiz qkW (by unfold aC;rw[hf];rfl) (qhp hL hx hr))
theorem gL {L r:List Nat}{c:Nat}{ρ:aA}(hL:Ln L) (hr:r <:+ L) (hc:c<128:=by decide) :
  bT (aT (Str.ofString "Reader") (Str.ofString "pass_over") ae 0 (aC (eK (.str (S [c]))) aN)) (some (R L r)::ρ)=(a7 [c] r).map (toS L fun _ r=>some (R L r)::ρ):=
 qbA hL hr (by simpa using hc) rfl
end K16
end
noncomputable section
namespace K16
open PySem L2
noncomputable abbrev ahd:DF:=cQ (Str.ofString "Reader") (Str.ofString "ahead") aq (eV 0) aN
theorem leS (a b:Nat):kK (.str (S [a])) (.str (S [b]))=some (.bl (decide (a<=b))):=by
 simp only[kK,fm];have e:([b]<[a])↔b<a:=by simp[List.cons_lt_cons_iff]
 rw[decide_eq_decide.mpr e]
 congr 2
 by_cases h:a<=b
 ·rw[decide_eq_true h,decide_eq_false (by omega)];rfl
 ·rw[decide_eq_false h,decide_eq_true (by omega)];rfl
theorem ql5 (a:Nat):kK (.str (S [a])) (.str (S []))=some (.bl false):=by
 simp only[kK,fm];rw[decide_eq_true (by exact List.nil_lt_cons _ _)];rfl
noncomputable def inH (lo hi:Nat):List Nat->Bool
 | []=>false
 | c::_=>decide (lo<=c)&&decide (c<=hi)
theorem nU {r:List Nat}{ρ:aA}{lo hi:Nat}{f:DF}(hf:f ρ=some (.str (S (r.take 1)))):iw kK kK (eK (.str (S [lo]))) f (eK (.str (S [hi]))) ρ=some (inH lo hi r):=by
 unfold iw;rw[hf];simp only[eK,zA];cases r with
 | nil=>simp only[List.take_nil,ql5,zA,inH]
 | cons c r=>
  simp only[List.take_succ_cons,List.take_zero,leS,zA,inH];by_cases h:lo<=c
  ·rw[decide_eq_true h];simp
  ·rw[decide_eq_false h];simp
theorem qcF {L:List Nat}(hL:Ln L):∀ (n:Nat) (r:List Nat) (v:Option D),r <:+ L->r.length<n ->
  b0 (iw kK kK (eK (.str (S [97]))) ahd (eK (.str (S [122])))) c9 n [some (R L r),v]=some (.nx [some (R L (r.dropWhile low)),v]):=by
 intro n
 induction n with
 | zero=>intro r v _ h;omega
 | succ n ih=>
  intro r v hr hn;rw[b0,nU (lB hL hr)];cases r with
  | nil=>simp[inH]
  | cons c r=>
   show ((some (decide (97<=c)&&decide (c<=122))).bind _)=_;cases hc:(decide (97<=c)&&decide (c<=122)) with
   | false=>
    have:List.dropWhile low (c::r)=c::r:=by rw[List.dropWhile_cons,if_neg (by show ¬ (low c=true);unfold low;rw[hc];decide)]
    rw[this];simp
   | true=>
    have:List.dropWhile low (c::r)=List.dropWhile low r:=by rw[List.dropWhile_cons,if_pos (by unfold low;rw[hc])]
    rw[this];simp only[zA,if_true];unfold c9;rw[qj3];simp only[zA];have:=ih r v ((List.suffix_cons c r).trans hr) (by simp at hn;omega)
    unfold c9 at this;rw[this]
theorem qi0 {L r:List Nat}(h:r <:+ L):pos L r=((L.length-r.length:Nat):Int):=by
 have:=h.length_le;unfold pos;omega
theorem qde {L r:List Nat}(h:r <:+ L):Txt.slice (S L) (some (pos L r)) (some (pos L (r.dropWhile low)))=S (r.takeWhile low):=by
 obtain⟨pre,rfl⟩:=h;have e:=gZ r;have el:=congrArg List.length e;rw[List.length_append] at el;have h2:pos (pre++r) (r.dropWhile low)=((pre.length+(r.takeWhile low).length:Nat):Int):=by unfold pos;rw[List.length_append];omega
 rw[qdn,h2,n8 _ _ _ (by omega) (by simp),List.drop_left]
 congr 1
 rw[show pre.length+(r.takeWhile low).length-pre.length=(r.takeWhile low).length by omega]
 conv=>lhs;arg 2;rw[<- e]
 rw[List.take_left]
noncomputable def MOk (L:List Nat) (F:List D->Option (Xo (D×D))) (f:List Nat->Option Pr):Prop:=∀ r,r <:+ L->F [R L r]=cv L (f r)
theorem MOk.m {L:List Nat}{F:List D->Option (Xo (D×D))}{f:List Nat->Option Pr}{m:Str}{r:List Nat}{ρ:aA}(h:MOk L F f) (hm:m∉[kL,kA]) (hr:r <:+ L):aT (Str.ofString "Reader") m F 0 aN (some (R L r)::ρ)=(f r).map (toM L ρ):=
 qiz hm rfl (h r hr)
theorem qaB {L:List Nat}(hL:Ln L):MOk L cj gO:=fun r hr=>by
 show Ev L dI [some (R L r),none] (gO r);unfold dI gO;simp only[c42,c97,ql8];by_cases h42:r.head? = some 42
 ·rw[if_pos h42];have hc:isC 42 r=true:=by simp[isC,h42]
  refine .ift (by rw[jC hL hr,hc]) (.assoc (.nx (ρ':=[some (R L r.tail),none]) ?_ (.rm (ρ':=[none]) rfl)))
  rw[gL hL hr];have:=aX hc;rw[this]
  rfl
 ·rw[if_neg h42];have hc:isC 42 r=false:=by simpa [isC] using h42
  refine .iff (by rw[jC hL hr,hc]) (.nx (ρ':=[some (R L r),some (.int (pos L r))]) (by unfold aF;rw[qcT (f:=eV 0) rfl];rfl) ?_)
  have hd:r.dropWhile low <:+ L:=(List.dropWhile_suffix low).trans hr;refine .nx (ρ':=[some (R L (r.dropWhile low)),some (.int (pos L r))]) (show dP 1000000 _ _ _=_ from qcF hL 1000000 r _ hr (by have:=hr.length_le;have:=hL.short;omega)) ?_
  have t2:tB1 (e2 oEq (fF cR kA (eV 0)) (eV 1)) [some (R L (r.dropWhile low)),some (.int (pos L r))]=some (pos L (r.dropWhile low)==pos L r):=by unfold tB1 e2;rw[qcT (f:=eV 0) rfl];show (oEq (.int (pos L (r.dropWhile low))) (.int (pos L r))).bind _=_;rw[eqI];rfl
  have el:=congrArg List.length (gZ r);rw[List.length_append] at el;by_cases h0:r.takeWhile low=[]
  ·rw[if_pos h0];have e1:r.dropWhile low=r:=by have:=gZ r;rwa [h0,List.nil_append] at this
   rw[e1] at t2 ⊢;exact .ift (by rw[t2];simp) (.ex oj)
  ·rw[if_neg h0];have hl:0<(r.takeWhile low).length:=List.length_pos_iff.mpr h0;refine .iff (by rw[t2];unfold pos;simp;omega) (.rm0 (ρ':=[some (.int (pos L r))]) ?_)
   have e3:aW (fF cR kL (eV 0)) (pS (eV 1)) (pS (fF cR kA (eV 0))) [some (R L (r.dropWhile low)),some (.int (pos L r))]=some (.str (S (r.takeWhile low))):=by
    unfold aW pS;rw[qlb (f:=eV 0) rfl,qcT (f:=eV 0) rfl];show (if (S L).length<=cH then some (D.str (Txt.slice (S L) (some (pos L r)) (some (pos L (r.dropWhile low))))) else none)=_
    rw[if_pos (by rw[dB];exact gr (by have:=hL.short;omega)),qde hr]
   unfold ck mP;rw[e3];rfl
theorem qiA (r:List Nat):(bu.lookup (S (r.take 1))).isSome=(isC 38 r||isC 43 r):=by
 have h1:(Str.ofString "&")=S [38]:=c38;have h2:(Str.ofString "+")=S [43]:=c43;show (List.lookup (S (r.take 1)) [(Str.ofString "&",Str.ofString "both"),(Str.ofString "+",Str.ofString "one")]).isSome=_;rw[h1,h2,List.lookup_cons,List.lookup_cons,kN,kN,tk1,tk1];cases isC 38 r<;>cases isC 43 r<;>rfl
theorem qds {L:List Nat}(hL:Ln L):MOk L bE fG:=fun r hr=>by
 show Ev L dJ [some (R L r),none] (fG r);unfold dJ;refine .nx (ρ':=[some (R L r),some (.str (S (r.take 1)))]) (by unfold aF;rw[lB hL hr];rfl) ?_
 have t:tB1 (e1 (qaz true bu) (eV 1)) [some (R L r),some (.str (S (r.take 1)))]=some (!(isC 38 r||isC 43 r)):=by show ((some (D.bl (!(bu.lookup (S (r.take 1))).isSome))).bind _)=_;rw[qiA];rfl
 have fin:∀ c:Nat,c<128->isC c r=true->(isC 38 r||isC 43 r)=true->Ev L (ad (sIf (tB1 (e1 (qaz true bu) (eV 1))) (dG nT 0 (fF cR kA (eV 0))) aV) (ad (bT (aT (Str.ofString "Reader") (Str.ofString "pass_over") ae 0 (aC (eV 1) aN))) (ck (mP (eV 1))))) [some (R L r),some (.str (S (r.take 1)))] (some (.ok (.str (S [c])) r.tail)):=fun c hc h1 h2=>by
  rw[h2] at t;have e:=aX h1;have et:r.take 1=[c]:=by rw[e];rfl
  refine .iff t (.nx (ρ':=[some (R L r.tail),some (.str (S [c]))]) ?_ (.rm0 (ρ':=[some (.str (S [c]))]) rfl));rw[et,qbA (x:=[c]) hL hr (by simpa using hc) rfl]
  rw[e];simp[a7,toS]
 unfold fG;cases h38:isC 38 r with
 | true=>exact fin 38 (by decide) h38 (by rw[h38];rfl)
 | false=>
  cases h43:isC 43 r with
  | true=>exact fin 43 (by decide) h43 (by rw[h43];simp)
  | false=>rw[h38,h43] at t;exact .ift t (.ex oj)
theorem qcm {L r:List Nat}{s:D}{c:Nat}(h1:32<=c) (h2:c<=126) (h3:c≠37):dh (hV (iw kK kK (eK (.str (S [32]))) (eV 1) (eK (.str (S [126]))))) (tB1 (e2 oEq (al qee (aC (eV 1) aN)) (eK (.int 37)))) [some s,some (.str (S [c]))]=some false:=by
 have e1:=nU (r:=c::r) (ρ:=[some s,some (.str (S [c]))]) (lo:=32) (hi:=126) (f:=eV 1) rfl;have e1':inH 32 126 (c::r)=true:=by simp[inH,h1,h2]
 rw[e1'] at e1;have e2':tB1 (e2 oEq (al qee (aC (eV 1) aN)) (eK (.int 37))) [some s,some (.str (S [c]))]=some false:=by
  show (((if (S [c]).length=1 then some (D.int ((S [c]).cps.getD 0 0:Nat)) else none).bind fun x=>oEq x (.int 37)).bind _)=_
  rw[if_pos (by rw[dB];rfl)]
  show ((oEq (.int (c:Int)) (.int 37)).bind _)=_;rw[eqI];simp;omega
 unfold dh hV;rw[e1];show (if (!true)=true then some true else _)=_
 simpa using e2'
theorem qg1 {L:List Nat}(hL:Ln L):MOk L bO fP:=fun r hr=>by
 show Ev L cA [some (R L r),none] (fP r);unfold cA;simp only[c32,ql7,c92,qli,c34];refine .nx (ρ':=[some (R L r),some (.str (S (r.take 1)))]) (by unfold aF;rw[lB hL hr];rfl) ?_
 cases r with
 | nil=>refine .ift ?_ (.ex oj);have e1:=nU (r:=[]) (ρ:=[some (R L []),some (.str (S (List.take 1 [])))]) (lo:=32) (hi:=126) (f:=eV 1) rfl;unfold dh hV;rw[e1];rfl
 | cons c r=>
  obtain⟨h1,h2,h3⟩:=hL.ok c (hr.subset zD);have hr':r <:+ L:=(List.suffix_cons c r).trans hr;refine .iff (qcm (L:=L) (r:=r) h1 h2 h3) (.nx (ρ':=[some (R L r),some (.str (S [c]))]) qj3 ?_);have ne:tB1 (e2 oNe (eV 1) (eK (.str (S [92])))) [some (R L r),some (.str (S [c]))]=some (!(c==92)):=by show ((oNe (.str (S [c])) (.str (S [92]))).bind _)=_;rw[neS,kN];simp
  show Ev L _ _ (if c=92 then (if r.head? = some 92 then some (Pr.ok (.str (S [92])) r.tail) else if r.head? = some 113 then some (Pr.ok (.str (S [34])) r.tail) else some (Pr.er r)) else some (Pr.ok (.str (S [c])) r))
  by_cases h92:c=92
  ·subst h92;rw[if_pos rfl];refine .iff (by rw[ne];rfl) ?_
   by_cases a92:r.head? = some 92
   ·rw[if_pos a92];have hc:isC 92 r=true:=by simp[isC,a92]
    refine .ift (by rw[jC hL hr',hc]) (.assoc (.nx (ρ':=[some (R L r.tail),some (.str (S [92]))]) ?_ (.rm (ρ':=[some (.str (S [92]))]) rfl)))
    rw[gL hL hr'];rw[aX hc];rfl
   ·rw[if_neg a92];have hc:isC 92 r=false:=by simpa [isC] using a92
    refine .iff (by rw[jC hL hr',hc]) ?_
    by_cases a113:r.head? = some 113
    ·rw[if_pos a113];have hc:isC 113 r=true:=by simp[isC,a113]
     refine .nx (ρ':=[some (R L r.tail),some (.str (S [92]))]) ?_ (.rm0 (ρ':=[some (.str (S [92]))]) rfl);rw[gL hL hr'];rw[aX hc];rfl
    ·rw[if_neg a113];refine .ex ?_;rw[gL hL hr'];cases r with
     | nil=>rfl
     | cons d r=>
      have:¬ d=113:=fun z=>a113 (by rw[z];rfl)
      simp[a7,this,toS]
  ·rw[if_neg h92];exact .ift (by rw[ne];simp[h92]) (.rm (ρ':=[some (.str (S [c]))]) rfl)
noncomputable def toL (L:List Nat) (env:List D->List Nat->aA):(List D×List Nat ⊕ List Nat)->DO
 | .inl (ds,r) =>.nx (env ds r)
 | .inr r =>.ex nT (pos L r)
theorem nP {L:List Nat}{t:DT}{g:DG}{f:List Nat->Option Pr}{tt:List Nat->Bool}{env:List D->List Nat->aA}(hs:Shr f) (ht:∀ r ds,r <:+ L->t (env ds r)=some (tt r))
  (hg:∀ r ds,r <:+ L->ds.length<cH->tt r=true->g (env ds r)=(f r).map (toS L fun d r=>env (ds++[d]) r)):∀ (n:Nat) (r:List Nat) (ds:List D),r <:+ L->ds.length+r.length<cH->b0 t g n (env ds r)=(cB f tt n r ds).map (toL L env):=by
 intro n
 induction n with
 | zero=>intro r ds _ _;rfl
 | succ n ih=>
  intro r ds hr hb;unfold b0 cB;rw[ht r ds hr];cases hc:tt r with
  | false=>rfl
  | true=>
   simp only[zA,if_true];rw[hg r ds hr (by omega) hc]
   cases ef:f r with
   | none=>rfl
   | some p=>
    cases p with
    | er r1=>rfl
    | ok d r1=>have:=hs _ _ _ ef;exact ih r1 (ds++[d]) (this.1.trans hr) (by simp;omega)
theorem Ev.loop {L:List Nat}{h:DG}{t:DT}{g:DG}{ρ:aA}{o:Option (List D×List Nat ⊕ List Nat)}{n:Nat}{env:List D->List Nat->aA}{k:List D->List Nat->Option Pr}(hw:b0 t g n ρ=o.map (toL L env)) (hk:∀ ds r,o=some (.inl (ds,r))->Ev L h (env ds r) (k ds r)):Ev L (ad (dP n t g) h) ρ (il o k):=by
 unfold Ev ad dP;rw[hw];cases o with
 | none=>rfl
 | some o=>
  cases o with
  | inl q=>exact hk q.1 q.2 rfl
  | inr r=>rfl
theorem qiS {r:List Nat}{d:D}{r':List Nat}(h:fP r=some (.ok d r')):∃ c:Nat,d=.str (S [c]):=by
 cases r with
 | nil=>cases h
 | cons c r=>
  have h:(if c=92 then (if r.head? = some 92 then some (Pr.ok (.str (S [92])) r.tail) else if r.head? = some 113 then some (Pr.ok (.str (S [34])) r.tail) else some (Pr.er r)) else some (Pr.ok (.str (S [c])) r))=some (.ok d r'):=h
  split at h
  ·split at h
   ·cases h;exact⟨_,rfl⟩
   ·split at h
    ·cases h;exact⟨_,rfl⟩
    ·cases h
  ·cases h;exact⟨_,rfl⟩
theorem qcM:∀ (n:Nat){t:List Nat->Bool}{r:List Nat}{x:List Nat}{ds:List D}{r':List Nat},cB fP t n r (x.map fun c=>D.str (S [c]))=some (.inl (ds,r'))->∃ y:List Nat,(ds=y.map fun c=>D.str (S [c]))/\y.length<=x.length+r.length:=by
 intro n
 induction n with
 | zero=>intro t r x ds r' h;cases h
 | succ n ih=>
  intro t r x ds r' h;unfold cB at h
  split at h
  ·cases ef:fP r with
   | none=>rw[ef] at h;cases h
   | some p=>
    rw[ef] at h;cases p with
    | er r1=>cases h
    | ok d r1=>
     obtain⟨c,rfl⟩:=qiS ef;have hs:=hW _ _ _ ef;have h:cB fP t n r1 (x.map (fun c=>D.str (S [c]))++[D.str (S [c])])=some (.inl (ds,r')):=h
     rw[show x.map (fun c=>D.str (S [c]))++[D.str (S [c])]=(x++[c]).map (fun c=>D.str (S [c])) by simp] at h
     obtain⟨y,e,l⟩:=ih h;exact⟨y,e,by simp at l;omega⟩
  ·cases h;exact⟨x,rfl,by omega⟩
theorem mU:∀ y:List Nat,nh (y.map fun c=>D.str (S [c]))=y
 | []=>rfl
 | c::y=>by
  show (S [c]).cps.toList++nh (y.map fun c=>D.str (S [c]))=_
  rw[mU y,fm];rfl
theorem oC {y:List Nat}(h:y.length<=1000):fX (.str (S [])) (.lst (y.map fun c=>D.str (S [c])))=some (.str (S y)):=by
 have:=qdB (sep:=[]) (ls:=y.map fun c=>[c]) (by
  have e:∀ x:List Nat,cW (x.map fun c=>[c])=x.length:=fun x=>by
   induction x with
   | nil=>rfl
   | cons c x ih=>simp[cW] at ih ⊢;omega
  rw[e,bf];simp;omega)
 rw[List.map_map,iQ] at this;have ef:∀ x:List Nat,(x.map fun c=>[c]).flatten=x:=fun x=>by
  induction x with
  | nil=>rfl
  | cons c x ih=>simp[ih]
 rw[ef] at this;exact this
theorem qac {L:List Nat}(hL:Ln L):MOk L cT kh:=fun r hr=>by
 show Ev L dH [some (R L r),none] (kh r);unfold dH kh;simp only[c34,c0];have hb:∀ {r:List Nat},r <:+ L->r.length<=1000:=fun h=>yA h.length_le hL.short
 refine .call (env:=fun _ r=>[some (R L r),none]) (gL hL hr) fun d1 r1 h1 =>?_
 have hr1:=(a9 h1).1.trans hr;refine .nx (ρ':=[some (R L r1),some (.lst [])]) rfl ?_;refine .loop (env:=fun ds r=>[some (R L r),some (.lst ds)]) (nP (env:=fun ds r=>[some (R L r),some (.lst ds)]) (f:=fP) (tt:=fun r=> !isC 34 r) hW (fun r ds hr=>qdc hL hr) (fun r ds hr hb _ =>?_) 1000000 r1 [] hr1 (by rw[bf];have:=hb hr1;simp;omega)) fun ds r2 h2 =>?_
 ·exact qgr (i:=0) (ρ:=[some (.lst ds)]) rfl hb ((qg1 hL).m qjq hr)
 have hs2:=eG hW h2;refine .call (env:=fun _ r=>[some (R L r),some (.lst ds)]) (gL hL (hs2.1.trans hr1)) fun d3 r3 h3 =>?_
 obtain⟨y,rfl,ly⟩:=qcM 1000000 (x:=[]) h2;refine .rm0 (ρ':=[some (.lst (y.map fun c=>D.str (S [c])))]) ?_
 have e1:e2 fX (eK (.str (S []))) (eV 1) [some (R L r3),some (.lst (y.map fun c=>D.str (S [c])))]=some (.str (S y)):=oC (by simp at ly;have:=hb hr1;omega)
 unfold ck mP;rw[e1,mU];rfl
end K16
end
noncomputable section
namespace K16
open PySem L2
theorem qbz {L r:List Nat}{c:Nat}{ρ:aA}(hL:Ln L) (hr:r <:+ L) (h:isC c r=true) (hc:c<128:=by decide) :
  bT (aT (Str.ofString "Reader") (Str.ofString "pass_over") ae 0 (aC (eK (.str (S [c]))) aN)) (some (R L r)::ρ)=some (.nx (some (R L r.tail)::ρ)):=by
 rw[gL hL hr hc];have e:=aX h;rw[e];simp[a7,toS]
theorem fQ {r:List Nat}{c:Nat}(h:isC c r=true):a7 [c] r=some (.ok .non r.tail):=by
 have e:=aX h;rw[e];simp[a7]
theorem qbK {r:List Nat}{d:D}{r':List Nat}(h:fG r=some (.ok d r')):d=.str (S [38])∨d=.str (S [43]):=by
 unfold fG at h
 split at h
 ·cases h;exact .inl rfl
 ·split at h
  ·cases h;exact .inr rfl
  ·cases h
theorem qbj {m:D}(h:m=.str (S [38])∨m=.str (S [43])):pf bu m=some (.str (kindOf m)):=by
 have e:∀ x:Str,bu.lookup x=some (kindOf (.str x))->pf bu (.str x)=some (.str (kindOf (.str x))):=fun x h=>by show (bu.lookup x).map D.str=_;rw[h];rfl
 rcases h with rfl|rfl
 ·exact e _ (by decide +kernel)
 ·exact e _ (by decide +kernel)
noncomputable section
variable {L:List Nat}{Fs Fp Fw Fl Fh:List D->Option (Xo (D×D))}{fs fp fw fl fh:List Nat->Option Pr}
theorem qgW (hL : Ln L) (hw : MOk L Fw fw) (sw : Shr fw) : MOk L (eC 1 4 0 (cf Fs Fp Fw Fl Fh)) (gF fw) := fun r hr => by
  show Ev L (cf Fs Fp Fw Fl Fh) [some (R L r), none, none, none] (gF fw r)
  unfold cf gF
  simp only [c47, c91, c97, c93]
  refine .call (env := fun _ r => [some (R L r), none, none, none]) (gL hL hr) fun d1 r1 h1 => ?_
  have hr1 := (a9 h1).1.trans hr
  refine .nx (ρ' := [some (R L r1), some (.str (Str.ofString "own")), none, none]) rfl ?_
  have go : ∀ (w : Str) (r2 : List Nat), r2 <:+ L -> Ev L
      (ad (ic 2 (aT (Str.ofString "Reader") (Str.ofString "read_name") cj 0 aN))
      (ad (sIf (tB1 (e2 oNe ahd (eK (.str (S [91])))))
       (ck (mP (bA (aC (eV 1) (aC (eV 2) (aC (bA (aC (eK (.str (Str.ofString "any"))) aN)) aN))))))
       aV)
      (ad (bT (aT (Str.ofString "Reader") (Str.ofString "pass_over") ae 0 (aC (eK (.str (S [91]))) aN)))
      (ad (sIf (tB1 (e2 oEq ahd (eK (.str (S [97])))))
       (dG nT 0 (fF cR kA (eV 0)))
       aV)
      (ad (ic 3 (aT (Str.ofString "Reader") (Str.ofString "read_wish") Fw 0 aN))
      (ad (bT (aT (Str.ofString "Reader") (Str.ofString "pass_over") ae 0 (aC (eK (.str (S [93]))) aN)))
      (ck (mP (bA (aC (eV 1) (aC (eV 2) (aC (eV 3) aN)))))))))))) [some (R L r2), some (.str w), none, none]
      (Pr.then (gO r2) fun nm r => if isC 91 r then (if isC 97 r.tail then some (.er r.tail) else Pr.then (fw r.tail) fun wd r => Pr.then (a7 [93] r) fun _ r => some (.ok (.tup [.str w, nm, wd]) r)) else some (.ok (.tup [.str w, nm, mX]) r)) := fun w r2 hr2 => by
    refine .call (env := fun d r => [some (R L r), some (.str w), some d, none]) (qiU (i := 1) (ρ := [some (.str w), none, none]) ((qaB hL).m qjr hr2)) fun nm r3 h3 => ?_
    have hr3 := (j5 _ _ _ h3).1.trans hr2
    cases hc : isC 91 r3 with
    | false =>
      rw [if_neg (by decide)]
      exact .ift (by rw [qdc hL hr3, hc]; rfl) (.rm (ρ' := [some (.str w), some nm, none]) rfl)
    | true =>
      rw [if_pos rfl]
      have hr4 : r3.tail <:+ L := (List.tail_suffix _).trans hr3
      refine .iff (by rw [qdc hL hr3, hc]; rfl) (.nx (qbz hL hr3 hc) ?_)
      cases h97 : isC 97 r3.tail with
      | true =>
        rw [if_pos rfl]
        exact .ift (by rw [jC hL hr4, h97]) (.ex oj)
      | false =>
        rw [if_neg (by decide)]
        refine .iff (by rw [jC hL hr4, h97]) ?_
        refine .call (env := fun d r => [some (R L r), some (.str w), some nm, some d]) (qiU (i := 2) (ρ := [some (.str w), some nm, none]) (hw.m oA hr4)) fun wd r5 h5 => ?_
        have hr5 : r5 <:+ L := (sw _ _ _ h5).1.trans hr4
        exact .call (env := fun _ r => [some (R L r), some (.str w), some nm, some wd]) (gL hL hr5) fun d6 r6 h6 => .rm0 (ρ' := [some (.str w), some nm, some wd]) rfl
  cases hc : isC 47 r1 with
  | true =>
    rw [if_pos rfl, if_pos rfl]
    refine .ift (by rw [jC hL hr1, hc]) (.assoc (.nx (qbz hL hr1 hc) (.nx (ρ' := [some (R L r1.tail), some (.str (Str.ofString "inner")), none, none]) rfl ?_)))
    exact go _ _ ((List.tail_suffix _).trans hr1)
  | false =>
    rw [if_neg (by decide), if_neg (by decide)]
    exact .iff (by rw [jC hL hr1, hc]) (go _ _ hr1)
theorem qeT (hL:Ln L) (hp:MOk L Fp fp) (sp:Shr fp):MOk L (eC 1 2 0 (bw Fs Fp Fw Fl Fh)) (eR fp):=fun r hr=>by
 show Ev L (bw Fs Fp Fw Fl Fh) [some (R L r),none] (eR fp r);unfold bw eR;simp only[c47];refine .call (env:=fun d r=>[some (R L r),some (.lst [d])]) (qiq (i:=0) (ρ:=[none]) (hp.m qfH hr)) fun d1 r1 h1 =>?_
 have hr1:=(sp _ _ _ h1).1.trans hr;refine .loop (env:=fun ds r=>[some (R L r),some (.lst ds)]) (nP (env:=fun ds r=>[some (R L r),some (.lst ds)]) (f:=fp) (tt:=isC 47) sp (fun r ds hr=>jC hL hr) (fun r ds hr hb _ =>?_) 1000000 r1 [d1] hr1 (by rw[bf];have:=hr1.length_le;have:=hL.short;simp;omega)) fun ds r2 h2 =>?_
 ·exact qgr (i:=0) (ρ:=[some (.lst ds)]) rfl hb (hp.m qfH hr)
 ·exact .rm0 (ρ':=[some (.lst ds)]) rfl
theorem qgH (hL:Ln L) (hs:MOk L Fs fs) (hl:MOk L Fl fl):MOk L (eC 1 2 0 (ce Fs Fp Fw Fl Fh)) (dZ fs fl):=fun r hr=>by
 show Ev L (ce Fs Fp Fw Fl Fh) [some (R L r),none] (dZ fs fl r);unfold ce dZ;simp only[c47,c40,c34,qif];refine .nx (ρ':=[some (R L r),some (.str (S (r.take 1)))]) (by unfold aF;rw[lB hL hr];rfl) ?_
 have t:∀ c:Nat,tB1 (e2 oEq (eV 1) (eK (.str (S [c])))) [some (R L r),some (.str (S (r.take 1)))]=some (isC c r):=fun c=>by show ((oEq (.str (S (r.take 1))) (.str (S [c]))).bind _)=_;rw[eqS,kN,tk1];rfl
 cases h47:isC 47 r with
 | true=>rw[if_pos rfl];exact .ift (by rw[t,h47]) (.seq0 (qg7 (ρ:=[some (.str (S (r.take 1)))]) (qkj (hs.m qdr hr))) (fun _=>nG))
 | false=>
  rw[if_neg (by decide)]
  refine .iff (by rw[t,h47]) ?_
  cases h40:isC 40 r with
  | true=>rw[if_pos rfl];exact .ift (by rw[t,h40]) (.seq0 (qg7 (ρ:=[some (.str (S (r.take 1)))]) (hl.m qjs hr)) (fun _=>nG))
  | false=>
   rw[if_neg (by decide)]
   refine .iff (by rw[t,h40]) ?_
   cases h34:isC 34 r with
   | true=>rw[if_pos rfl];exact .ift (by rw[t,h34]) (.seq0 (qg7 (ρ:=[some (.str (S (r.take 1)))]) (qkj ((qac hL).m qjp hr))) (fun _=>nG))
   | false=>
    rw[if_neg (by decide)]
    refine .iff (by rw[t,h34]) ?_
    refine .call (env:=fun _ r'=>[some (R L r'),some (.str (S (r.take 1)))]) (qbA hL hr (by decide) rfl) fun d1 r1 h1 =>.rm0 (ρ':=[some (.str (S (r.take 1)))]) ?_
    rw[show mX=.tup [.str (S [97,110,121])] by rw[<- qif]]
    rfl
theorem qhI (hL:Ln L) (hw:MOk L Fw fw) (sw:Shr fw){m:D}(hm:m=.str (S [38])∨m=.str (S [43])){r:List Nat}{ds:List D}(hr:r <:+ L) (hb:ds.length<cH) :
  eM Fs Fp Fw Fl Fh [some (R L r),some (.lst ds),some m]=(iB fw m r).map (toS L fun d r=>[some (R L r),some (.lst (ds++[d])),some m]):=by
 unfold eM iB;simp only[c32];have hp:bT (aT (Str.ofString "Reader") (Str.ofString "pass_over") ae 0 (aC (e2 aj (e2 aj (eK (.str (S [32]))) (eV 2)) (eK (.str (S [32])))) aN)) [some (R L r),some (.lst ds),some m]=(a7 ([32]++lf m++[32]) r).map (toS L fun _ r=>[some (R L r),some (.lst ds),some m]):=by
  rcases hm with rfl|rfl
  ·refine qbA (ρ:=[some (.lst ds),some (.str (S [38]))]) hL hr (by decide) ?_
   show ((aj (.str (S [32])) (.str (S [38]))).bind fun x=>aj x (.str (S [32])))=_
   rw[cN (a:=[32]) (b:=[38]) (by rw[bf];decide)]
   exact cN (a:=[32,38]) (b:=[32]) (by rw[bf];decide)
  ·refine qbA (ρ:=[some (.lst ds),some (.str (S [43]))]) hL hr (by decide) ?_
   show ((aj (.str (S [32])) (.str (S [43]))).bind fun x=>aj x (.str (S [32])))=_
   rw[cN (a:=[32]) (b:=[43]) (by rw[bf];decide)]
   exact cN (a:=[32,43]) (b:=[32]) (by rw[bf];decide)
 unfold ad;rw[hp];cases ep:a7 ([32]++lf m++[32]) r with
 | none=>rfl
 | some p=>
  cases p with
  | er r1=>rfl
  | ok d r1=>have hr1:=(a9 ep).1.trans hr;simp only[zT,toS,zA,ir];exact qgr (i:=0) (ρ:=[some (.lst ds),some m]) rfl hb (hw.m oA hr1)
theorem qhO (hL:Ln L) (hw:MOk L Fw fw) (hh:MOk L Fh fh) (sw:Shr fw):MOk L (eC 1 3 0 (cg Fs Fp Fw Fl Fh)) (gM fw fh):=fun r hr=>by
 show Ev L (cg Fs Fp Fw Fl Fh) [some (R L r),none,none] (gM fw fh r);unfold cg gM;simp only[c40,c41,c32];refine .call (env:=fun _ r=>[some (R L r),none,none]) (gL hL hr) fun d1 r1 h1 =>?_
 have hr1:=(a9 h1).1.trans hr;have t:tB1 (e1 (qaz false bu) ahd) [some (R L r1),none,none]=some (isC 38 r1||isC 43 r1):=by unfold tB1 e1 ahd;rw[lB hL hr1];show ((some (D.bl ((bu.lookup (S (r1.take 1))).isSome))).bind _)=_;rw[qiA];rfl
 cases hk:(isC 38 r1||isC 43 r1) with
 | true=>rw[if_pos rfl];exact .ift (by rw[t,hk]) (.seq0 (qg7 (ρ:=[none,none]) (hh.m qhG hr1)) (fun _=>nG))
 | false=>
  rw[if_neg (by decide)]
  refine .iff (by rw[t,hk]) ?_
  refine .call (env:=fun d r=>[some (R L r),some (.lst [d]),none]) (qiq (i:=0) (ρ:=[none,none]) (hw.m oA hr1)) fun d2 r2 h2 =>?_
  have hr2:=(sw _ _ _ h2).1.trans hr1;refine .call (env:=fun _ r=>[some (R L r),some (.lst [d2]),none]) (gL hL hr2) fun d3 r3 h3 =>?_
  have hr3:=(a9 h3).1.trans hr2;refine .call (env:=fun d r=>[some (R L r),some (.lst [d2]),some d]) (qiU (i:=1) (ρ:=[some (.lst [d2]),none]) ((qds hL).m qfI hr3)) fun m r4 h4 =>?_
  have hr4:=(eE _ _ _ h4).1.trans hr3;have hm:=qbK h4;refine .call (env:=fun _ r=>[some (R L r),some (.lst [d2]),some m]) (gL hL hr4) fun d5 r5 h5 =>?_
  have hr5:=(a9 h5).1.trans hr4;refine .call (env:=fun d r=>[some (R L r),some (.lst [d2,d]),some m]) (qgr (i:=0) (ρ:=[some (.lst [d2]),some m]) rfl (by rw[bf];simp) (hw.m oA hr5)) fun d6 r6 h6 =>?_
  have hr6:=(sw _ _ _ h6).1.trans hr5;refine .loop (env:=fun ds r=>[some (R L r),some (.lst ds),some m]) (nP (env:=fun ds r=>[some (R L r),some (.lst ds),some m]) (f:=iB fw m) (tt:=isC 32) (dN sw) (fun r ds hr=>jC hL hr) (fun r ds hr hb _=>qhI hL hw sw hm hr hb) 1000000 r6 [d2,d6] hr6 (by rw[bf];have:=hr6.length_le;have:=hL.short;simp;omega)) fun ds r7 h7 =>?_
  have hr7:=(eG (dN sw) h7).1.trans hr6;refine .call (env:=fun _ r=>[some (R L r),some (.lst ds),some m]) (gL hL hr7) fun d8 r8 h8 =>.rm0 (ρ':=[some (.lst ds),some m]) ?_
  have e:e1 (pf bu) (eV 2) [some (R L r8),some (.lst ds),some m]=some (.str (kindOf m)):=qbj hm;unfold ck mP bA aC;rw[e];rfl
theorem qe3 (hL:Ln L) (hw:MOk L Fw fw) (sw:Shr fw):MOk L (eC 1 3 0 (bv Fs Fp Fw Fl Fh)) (fJ fw):=fun r hr=>by
 show Ev L (bv Fs Fp Fw Fl Fh) [some (R L r),none,none] (fJ fw r);unfold bv fJ;simp only[c41,c32];have e0:ic 1 (mx1 (pf bu) (aT (Str.ofString "Reader") (Str.ofString "read_mark") bE 0 aN)) [some (R L r),none,none]=(fG r).map (toS L fun d r=>[some (R L r),some (.str (kindOf d)),none]):=by
  unfold ic mx1;rw[(qds hL).m qfI hr];cases ep:fG r with
  | none=>rfl
  | some p=>
   cases p with
   | er r1=>rfl
   | ok d r1=>simp only[zT,toM,zA];rw[qbj (qbK ep)];rfl
 refine .call (env:=fun d r=>[some (R L r),some (.str (kindOf d)),none]) e0 fun m r1 h1 =>?_
 have hr1:=(eE _ _ _ h1).1.trans hr;refine .nx (ρ':=[some (R L r1),some (.str (kindOf m)),some (.lst [])]) rfl ?_;cases hc:isC 32 r1 with
 | true=>
  rw[if_pos rfl];refine .ift (by rw[jC hL hr1,hc]) (.assoc (.call (env:=fun _ r=>[some (R L r),some (.str (kindOf m)),some (.lst [])]) (gL hL hr1) fun d2 r2 h2 =>?_))
  have hr2:=(a9 h2).1.trans hr1;refine .call (env:=fun d r=>[some (R L r),some (.str (kindOf m)),some (.lst [d])]) (qgr (i:=1) (ρ:=[some (.str (kindOf m)),some (.lst [])]) rfl (by rw[bf];decide) (hw.m oA hr2)) fun d3 r3 h3 =>?_
  have hr3:=(sw _ _ _ h3).1.trans hr2;exact .call (env:=fun _ r=>[some (R L r),some (.str (kindOf m)),some (.lst [d3])]) (gL hL hr3) fun d4 r4 h4 =>.rm0 (ρ':=[some (.str (kindOf m)),some (.lst [d3])]) rfl
 | false=>
  rw[if_neg (by decide)]
  refine .iff (by rw[jC hL hr1,hc]) ?_
  exact .call (env:=fun _ r=>[some (R L r),some (.str (kindOf m)),some (.lst [])]) (gL hL hr1) fun d4 r4 h4 =>.rm0 (ρ':=[some (.str (kindOf m)),some (.lst [])]) rfl
end
theorem qgs {L:List Nat}(hL:Ln L):∀ n:Nat,MOk L (aD n) (dQ n)/\MOk L (aK n) (je n)/\MOk L (aG n) (cV n)/\MOk L (aM n) (iG n)/\MOk L (aw n) (gE n)
 | 0=>⟨fun r hr=>rfl,fun r hr=>rfl,fun r hr=>rfl,fun r hr=>rfl,fun r hr=>rfl⟩
 | n+1=>by
  obtain⟨h1,h2,h3,h4,h5⟩:=qgs hL n;obtain⟨s1,s2,s3,s4,s5⟩:=jz n;exact⟨show MOk L (eC 1 2 0 (bw _ _ _ _ _)) (eR (je n)) from qeT hL h2 s2,show MOk L (eC 1 4 0 (cf _ _ _ _ _)) (gF (cV n)) from qgW hL h3 s3,
   show MOk L (eC 1 2 0 (ce _ _ _ _ _)) (dZ (dQ n) (iG n)) from qgH hL h1 h4,show MOk L (eC 1 3 0 (cg _ _ _ _ _)) (gM (cV n) (gE n)) from qhO hL h3 h5 s3,show MOk L (eC 1 3 0 (bv _ _ _ _ _)) (fJ (cV n)) from qe3 hL h3 s3⟩
noncomputable def qgv (L:List Nat):Option (Xo D):=(dQ 190 L).map fun p=>match p with
 | .ok d r=>if r=[] then .ok d else .er nT (pos L r)
 | .er r =>.er nT (pos L r)
theorem qhX (L:List Nat):cC [.ins cR [] [],.str (S L)]=some (.non,R L L):=by
 have:pos L L=0:=by unfold pos;omega
 unfold R;rw[this]
 rfl
theorem qg9 {L:List Nat}(hL:Ln L):fq [.str (S L)]=qgv L:=by
 show (qaM [some (.str (S L)),none,none]).bind qix=_;unfold qaM;have e1:aF 1 (qbQ (Str.ofString "Reader") cC (aC (eV 0) aN)) [some (.str (S L)),none,none]=some (.nx [some (.str (S L)),some (R L L),none]):=by have ea:aC (eV 0) aN [some (.str (S L)),none,none]=some [.str (S L)]:=rfl;unfold aF qbQ;rw[ea];simp only[zA];rw[qhX];rfl
 have e2:ic 2 (aT (Str.ofString "Reader") (Str.ofString "read_steps") aO 1 aN) [some (.str (S L)),some (R L L),none]=(dQ 190 L).map fun p=>match p with
   | .ok d r =>.nx [some (.str (S L)),some (R L r),some d]
   | .er r =>.ex nT (pos L r):=by
  unfold ic aT;have hi:kU (Str.ofString "Reader") 1 [some (.str (S L)),some (R L L),none]=some ([kL,kA],[.str (S L),.int (pos L L)]):=by
   show (if cR=cR then some ([kL,kA],[D.str (S L),D.int (pos L L)]) else none)=_
   exact if_pos rfl
  rw[hi];simp only[zA];rw[if_pos qdr];show ((((aD 190) [R L L]).map _).map _)=_;rw[(qgs hL 190).1 L (List.suffix_refl _)];unfold cv;cases dQ 190 L with
  | none=>rfl
  | some p=>cases p<;>rfl
 unfold ad;rw[e1];simp only[zA];rw[e2];unfold qgv;cases ep:dQ 190 L with
 | none=>rfl
 | some p=>
  cases p with
  | er r=>rfl
  | ok d r=>
   simp only[zT,zA];have t:tB1 (L2.e2 oLt (fF (Str.ofString "Reader") (Str.ofString "at") (eV 1)) (al bF (aC (eV 0) aN))) [some (.str (S L)),some (R L r),some d]=some (decide (pos L r<(L.length:Int))):=by
    unfold tB1 L2.e2;rw[qcT (f:=eV 1) (r:=r) (L:=L) rfl];have el:al bF (aC (eV 0) aN) [some (.str (S L)),some (R L r),some d]=some (.int (L.length:Int)):=by have ea:aC (eV 0) aN [some (.str (S L)),some (R L r),some d]=some [.str (S L)]:=rfl;unfold al;rw[ea];simp only[zA,bF,dB];rw[if_pos (gr (by have:=hL.short;omega))]
    rw[el];rfl
   unfold sIf;rw[t];simp only[zA];by_cases hz:r=[]
   ·subst hz;rw[if_pos rfl,if_neg (by unfold pos;simp)]
    rfl
   ·rw[if_neg hz];have:0<r.length:=List.length_pos_iff.mpr hz;rw[if_pos (by unfold pos;simp;omega)]
    show ((dG nT 1 (fF cR kA (eV 1)) [some (.str (S L)),some (R L r),some d]).bind _).bind _=_;unfold dG;rw[qcT (f:=eV 1) (r:=r) (L:=L) rfl]
    rfl
end K16
end
noncomputable section
namespace K16
open PySem L2
noncomputable def aOk:Nat->D->Prop
 | 0,d=>∃ x,d=.str x
 | n+1,d=>(∃ x,d=.str x)∨∃ ds,(d=.lst ds∨d=.tup ds)/\ds.length<=1000/\∀ e∈ds,aOk n e
theorem aOk.str (n:Nat) (x:Str):aOk n (.str x):=by
 cases n with
 | zero=>exact⟨x,rfl⟩
 | succ n=>exact .inl ⟨x,rfl⟩
theorem aOk.up:∀ {n:Nat}{d:D},aOk n d->aOk (n+1) d
 | 0,d,h =>.inl h
 | n+1,d,h=>by
  rcases h with h|⟨ds,h,hl,hd⟩
  ·exact .inl h
  ·exact .inr ⟨ds,h,hl,fun e he=>(hd e he).up⟩
theorem aOk.le {n m:Nat}{d:D}(h:aOk n d) (hm:n<=m):aOk m d:=by
 induction hm with
 | refl=>exact h
 | step _ ih=>exact ih.up
theorem aOk.tup {n:Nat}{ds:List D}(h:∀ e∈ds,aOk n e) (hl:ds.length<=1000):aOk (n+1) (.tup ds) :=.inr ⟨ds,.inr rfl,hl,h⟩
theorem aOk.lst {n:Nat}{ds:List D}(h:∀ e∈ds,aOk n e) (hl:ds.length<=1000):aOk (n+1) (.lst ds) :=.inr ⟨ds,.inl rfl,hl,h⟩
theorem ml {ds:List D}{m:Nat}(h:∀ e∈ds,dOk e m=true):iX ds m=true:=by
 induction ds with
 | nil=>rfl
 | cons d ds ih=>simp only[iX,h d zD,ih fun e he=>h e (zB _ he),Bool.and_self]
theorem aOk.dOk:∀ {n:Nat}{d:D}(m:Nat),aOk n d->n<=m->L2.dOk d m=true
 | 0,d,m,⟨x,e⟩,_=>by subst e;rfl
 | n+1,d,m,h,hm=>by
  rcases h with ⟨x,rfl⟩|⟨ds,hd,_,he⟩
  ·rfl
  ·cases m with
   | zero=>omega
   | succ m=>
    have:=ml (ds:=ds) (m:=m) fun e h=>(he e h).dOk m (by omega)
    rcases hd with rfl|rfl<;>simp[L2.dOk,this]
theorem atN {α:Type}{xs:List α}{i:Nat}{x:α}(h:xs[i]?=some x):atI xs (i:Int)=some x:=by
 have hi:i<xs.length:=(zC.mp h).1;unfold atI;rw[qaI (by omega) (by omega)]
 simpa using h
theorem qdi {n N:Nat}{g:DG}{ds:List D}{o:DO}{r:D}(hn:ds.length=n) (e:g (bq N ds)=some o) (ho:iO o=some r):du n N g ds=some r:=by
 unfold du;rw[if_pos hn,e];exact ho
theorem qar {f:DL}{τ:DTg}{g:DG}{ρ ρ':aA}{ds:List D}(e:f ρ=some ds) (h:iT τ g ds ρ=some (.nx ρ')):gx f τ g ρ=some (.nx ρ'):=by
 unfold gx;rw[e];exact h
theorem qab {f g:DF}{ρ:aA}{x y:D}(h1:f ρ=some x) (h2:g ρ=some y):bA (aC f (aC g aN)) ρ=some (.tup [x,y]):=by
 have:aC f (aC g aN) ρ=some [x,y]:=by
  show (f ρ).bind (fun x=>((g ρ).bind fun y=>some [y]).bind fun xs=>some (x::xs))=_
  rw[h1,h2];rfl
 unfold bA;rw[this];rfl
theorem pZ (f:Nat) (z:Str):cS (f+1) [.str z,.str z]=some (.bl true):=by
 rw[cS];unfold ky;refine qdi (o :=.rt (.bl true)) rfl ?_ rfl;have t2:sIf (jN (eIs "str" (eV 1))) (bc (pj (eIs "str" (eV 0)) (e2 oEq (eV 0) (eV 1)))) aV (bq 3 [.str z,.str z])=some (.rt (.bl true)):=by
  rw[fB (by show some (isT "str" (.str z))=_;rfl)]
  refine cy ?_;have c1:eIs "str" (eV 0) (bq 3 [.str z,.str z])=some (.bl true):=rfl;have c3:e2 oEq (eV 0) (eV 1) (bq 3 [.str z,.str z])=some (.bl true):=by rw[aP (x :=.str z) (y :=.str z) rfl rfl,eqS];simp
  unfold pj;rw[ms c1,zA,if_pos rfl];exact c3
 simp only[ad,t2,zA]
theorem qeu (f:Nat) (q:D) (ds:List D) (hq:q=.lst ds∨q=.tup ds) (hl:ds.length<=1000) (hd:∀ e∈ds,cS f [e,e]=some (.bl true)):cS (f+1) [q,q]=some (.bl true):=by
 rw[cS];unfold ky;refine qdi (o :=.rt (.bl true)) rfl ?_ rfl;have st:∀ g:DG,sIf (jN (eIs "str" (eV 1))) g aV (bq 3 [q,q])=some (.nx (bq 3 [q,q])):=fun g=>by rw[dU (by rcases hq with rfl|rfl<;>rfl)];rfl
 have si:∀ g:DG,sIf (jN (eIs "int" (eV 1))) g aV (bq 3 [q,q])=some (.nx (bq 3 [q,q])):=fun g=>by rw[dU (by rcases hq with rfl|rfl<;>rfl)];rfl
 have sl:∀ g h:DG,sIf (jN (eIs "list" (eV 1))) (sIf (hV (jN (eIs "list" (eV 0)))) g aV) (sIf (hV (jN (eIs "tuple" (eV 0)))) h aV) (bq 3 [q,q])=some (.nx (bq 3 [q,q])):=fun g h=>by
  rcases hq with rfl|rfl
  ·rw[fB (by rfl),dU (by rfl)];rfl
  ·rw[dU (by rfl),dU (by rfl)];rfl
 have elen:bF [q]=some (.int (ds.length:Int)):=by rcases hq with rfl|rfl;exact qhS;exact qjw
 have sn:∀ g:DG,sIf (tB1 (e2 oNe (al bF (aC (eV 0) aN)) (al bF (aC (eV 1) aN)))) g aV (bq 3 [q,q])=some (.nx (bq 3 [q,q])):=fun g=>by
  rw[dU (by refine ms (b:=false) ?_;rw[aP (x :=.int (ds.length:Int)) (y :=.int (ds.length:Int)) elen elen,neI];simp)];rfl
 rw[aH (st _),aH (si _),aH (sl _ _),aH (sn _)];obtain⟨ρ',ef,v,rfl⟩:=ka (τ:=gN 2) (g:=mV (cS f)) (ds:=gi 0 ds.length) (fun _ ρ=>∃ v:Option D,ρ=[some q,some q,v])
  (ρ:=bq 3 [q,q]) ⟨none,rfl⟩ (by
  rintro j d ρ hd' ⟨v,rfl⟩;obtain⟨hj,rfl⟩:=i5 hd';have hz:(0:Int)+(j:Int)=(j:Int):=by omega
  rw[hz];refine⟨_,[some q,some q,some (.int (j:Int))],rfl,?_,_,rfl⟩;unfold mV;have ea:oIx q (.int (j:Int))=some ds[j]:=by
   rcases hq with rfl|rfl
   ·rw[ixL];exact atN (zI hj)
   ·rw[ixT];exact atN (zI hj)
  have e0:e2 oIx (eV 0) (eV 2) [some q,some q,some (.int (j:Int))]=some ds[j]:=ea;have e1:e2 oIx (eV 1) (eV 2) [some q,some q,some (.int (j:Int))]=some ds[j]:=ea;have e3:hV (jN (al (cS f) (aC (e2 oIx (eV 0) (eV 2)) (aC (e2 oIx (eV 1) (eV 2)) aN)))) [some q,some q,some (.int (j:Int))]=some false:=by unfold hV jN al;simp only[aC,aN];rw[e0,e1];show ((cS f [ds[j],ds[j]]).bind _).map _=_;rw[hd _ (List.getElem_mem hj)];rfl
  exact(dU e3).trans rfl)
 have ei:iR1 (al bF (aC (eV 1) aN)) (bq 3 [q,q])=some (gi 0 ds.length):=
  (qf4 (z:=(ds.length:Int)) elen (qdd (by omega))).trans (by simp)
 rw[aH (qar ei ef)]
 rfl
theorem p5:∀ (n f:Nat) (d:D),aOk n d->n+1<=f->cS f [d,d]=some (.bl true)
 | 0,f,d,⟨x,e⟩,hf=>by
  subst e;cases f with
  | zero=>omega
  | succ f=>exact pZ f x
 | n+1,f,d,h,hf=>by
  cases f with
  | zero=>omega
  | succ f=>
   rcases h with ⟨x,rfl⟩|⟨ds,hd,hl,he⟩
   ·exact pZ f x
   ·exact qeu f d ds hd hl fun e h=>p5 n f e (he e h) (by omega)
noncomputable def Dp (f:List Nat->Option Pr) (c:Nat):Prop:=∀ r d r',r.length<=1000->f r=some (.ok d r')->aOk (r.length-r'.length+c) d
theorem aOk.ne {n:Nat}{d:D}(h:aOk n d):jo d .non=some (.bl false):=by
 cases n with
 | zero=>obtain⟨x,rfl⟩:=h;rfl
 | succ n=>rcases h with ⟨x,rfl⟩|⟨ds,rfl|rfl,_⟩<;>rfl
theorem qdO (n:Nat):aOk (n+1) mX:=aOk.tup (by intro e he;simp at he;subst he;exact .str _ _) (by simp)
theorem qbf {n:Nat}{k:Str}{d:D}(h:aOk n d):aOk (n+1) (wOf k d):=aOk.tup (by intro e he;simp at he;rcases he with rfl|rfl;exact .str _ _;exact h) (by simp)
theorem qdw {f:List Nat->Option Pr}{t:List Nat->Bool}{c:Nat}(hd:Dp f c) (hs:Shr f):∀ {n:Nat}{r:List Nat}{acc ds:List D}{r':List Nat},r.length<=1000->cB f t n r acc=some (.inl (ds,r'))->ds.length<=acc.length+(r.length-r'.length)/\∀ e∈ds,e∈acc∨aOk (r.length-r'.length+c) e:=by
 intro n
 induction n with
 | zero=>intro r acc ds r' _ h;cases h
 | succ n ih=>
  intro r acc ds r' hl h;unfold cB at h
  split at h
  ·cases ef:f r with
   | none=>rw[ef] at h;cases h
   | some p=>
    rw[ef] at h;cases p with
    | er r1=>cases h
    | ok d r1=>
     have h1:=hs r d r1 ef;have h2:=eG hs h;obtain⟨g1,g2⟩:=ih (by omega) h
     refine⟨by simp at g1;omega,fun e he =>?_⟩
     rcases g2 e he with z|z
     ·rcases zO.mp z with z|z
      ·exact .inl z
      ·simp at z;subst z;exact .inr ((hd r _ r1 hl ef).le (by omega))
     ·exact .inr (z.le (by omega))
  ·cases h;exact⟨by omega,fun e he =>.inl he⟩
theorem qfF {r:List Nat}{d:D}{r':List Nat}(h:gO r=some (.ok d r')):∃ x,d=.str x:=by
 unfold gO at h
 split at h
 ·cases h;exact⟨_,rfl⟩
 ·split at h
  ·cases h
  ·cases h;exact⟨_,rfl⟩
theorem qeM {r:List Nat}{d:D}{r':List Nat}(h:kh r=some (.ok d r')):∃ x,d=.str x:=by
 obtain⟨d1,r1,h1,h⟩:=ax h;obtain⟨ds,r2,h2,h⟩:=eI h;obtain⟨d3,r3,h3,h⟩:=ax h;cases h;exact⟨_,rfl⟩
theorem qgY {fw:List Nat->Option Pr}(hw:Dp fw 2) (sw:Shr fw):Dp (gF fw) 0:=fun r d r' hl h=>by
 obtain⟨d1,r1,h1,h⟩:=ax h;obtain⟨nm,r2,h2,h⟩:=ax h;obtain⟨x,rfl⟩:=qfF h2;have a:=(a9 h1).2;simp only[zP,List.length_nil] at a;have b:=(j5 _ _ _ h2).2;have c:(if isC 47 r1 then r1.tail else r1).length<=r1.length:=by
  split
  ·simp
  ·exact zL _
 have tup3:∀ {n:Nat}{w:D}{k:Str},aOk n w->aOk (n+1) (.tup [.str k,.str x,w]):=fun h=>aOk.tup (by intro e he;simp at he;rcases he with rfl|rfl|rfl;exact .str _ _;exact .str _ _;exact h) (by simp)
 split at h
 ·rename_i z
  split at h
  ·cases h
  ·obtain⟨wd,r4,h4,h⟩:=ax h;obtain⟨d5,r5,h5,h⟩:=ax h;cases h;have t:=(fS z).2;have e:=(sw _ _ _ h4).2;have f:=(a9 h5).2;simp only[zP,List.length_nil] at f;have:=hw _ _ _ (by omega) h4
   exact(tup3 this).le (by omega)
 ·cases h;exact(tup3 (qdO 0)).le (by omega)
theorem qeV {fp:List Nat->Option Pr}(hp:Dp fp 0) (sp:Shr fp):Dp (eR fp) 1:=fun r d r' hl h=>by
 obtain⟨d1,r1,h1,h⟩:=ax h;obtain⟨ds,r2,h2,h⟩:=eI h;cases h;have a:=(sp _ _ _ h1).2;have b:=(eG sp h2).2;obtain⟨g1,g2⟩:=qdw hp sp (by omega) h2
 refine aOk.lst (fun e he =>?_) (by simp at g1;omega)
 rcases g2 e he with z|z
 ·simp at z;subst z;exact(hp _ _ _ hl h1).le (by omega)
 ·exact z.le (by omega)
theorem qgJ {fs fl:List Nat->Option Pr}(hs:Dp fs 1) (hl:Dp fl 2):Dp (dZ fs fl) 2:=fun r d r' hr h=>by
 unfold dZ at h
 split at h
 ·obtain⟨d1,r1,h1,h⟩:=ax h;cases h;exact qbf (hs _ _ _ hr h1)
 ·split at h
  ·exact hl _ _ _ hr h
  ·split at h
   ·obtain⟨d1,r1,h1,h⟩:=ax h;obtain⟨x,rfl⟩:=qeM h1;cases h;exact qbf (.str _ _)
   ·obtain⟨d1,r1,h1,h⟩:=ax h;cases h;exact qdO _
theorem qaC {fw:List Nat->Option Pr}{m:D}(hw:Dp fw 2) (sw:Shr fw):Dp (iB fw m) 0:=fun r d r' hl h=>by
 obtain⟨d1,r1,h1,h⟩:=ax h;have a:=(a9 h1).2;simp only[List.length_append,zP,List.length_nil] at a;have b:=(sw _ _ _ h).2;exact(hw _ _ _ (by omega) h).le (by omega)
theorem qhQ {fw fh:List Nat->Option Pr}(hw:Dp fw 2) (hh:Dp fh 2) (sw:Shr fw):Dp (gM fw fh) 2:=fun r d r' hl h=>by
 obtain⟨d1,r1,h1,h⟩:=ax h;have a2:=(a9 h1).2;simp only[zP,List.length_nil] at a2
 split at h
 ·exact(hh _ _ _ (by omega) h).le (by omega)
 ·obtain⟨d2,r2,h2,h⟩:=ax h;obtain⟨d3,r3,h3,h⟩:=ax h;obtain⟨d4,r4,h4,h⟩:=ax h;obtain⟨d5,r5,h5,h⟩:=ax h;obtain⟨d6,r6,h6,h⟩:=ax h;obtain⟨ds,r7,h7,h⟩:=eI h;obtain⟨d8,r8,h8,h⟩:=ax h;cases h;have b2:=(sw _ _ _ h2).2;have b3:=(a9 h3).2;have b4:=(eE _ _ _ h4).2;have b5:=(a9 h5).2;have b6:=(sw _ _ _ h6).2;have b7:=(eG (dN sw) h7).2;have b8:=(a9 h8).2;simp only[zP,List.length_nil] at b3 b5 b8;obtain⟨g1,g2⟩:=qdw (qaC hw sw) (dN sw) (by omega) h7
  have q2:=hw _ _ _ (by omega) h2
  have q6:=hw _ _ _ (by omega) h6
  refine(qbf (aOk.lst (n:=r.length-r'.length) (fun e he =>?_) (by simp at g1;omega))).le (by omega)
  rcases g2 e he with z|z
  ·simp at z;rcases z with rfl|rfl
   ·exact q2.le (by omega)
   ·exact q6.le (by omega)
  ·exact z.le (by omega)
theorem qe5 {fw:List Nat->Option Pr}(hw:Dp fw 2) (sw:Shr fw):Dp (fJ fw) 2:=fun r d r' hl h=>by
 obtain⟨m,r1,h1,h⟩:=ax h;have a:=(eE _ _ _ h1).2
 split at h
 ·obtain⟨d2,r2,h2,h⟩:=ax h;obtain⟨d3,r3,h3,h⟩:=ax h;obtain⟨d4,r4,h4,h⟩:=ax h;cases h;have b2:=(a9 h2).2;have b3:=(sw _ _ _ h3).2;have b4:=(a9 h4).2;simp only[zP,List.length_nil] at b2 b4;have q:=hw _ _ _ (by omega) h3
  exact(qbf (aOk.lst (n:=r.length-r'.length) (fun e he=>by simp at he;subst he;exact q.le (by omega)) (by simp))).le (by omega)
 ·obtain⟨d2,r2,h2,h⟩:=ax h;cases h;exact(qbf (aOk.lst (n:=0) (fun e he=>by simp at he) (by simp))).le (by omega)
theorem lV {c:Nat}:Dp (fun _=>none) c:=fun r d r' _ h=>by cases h
theorem qa7:∀ n:Nat,Dp (dQ n) 1/\Dp (je n) 0/\Dp (cV n) 2/\Dp (iG n) 2/\Dp (gE n) 2
 | 0=>⟨lV,lV,lV,lV,lV⟩
 | n+1=>by obtain⟨h1,h2,h3,h4,h5⟩:=qa7 n;obtain⟨s1,s2,s3,s4,s5⟩:=jz n;exact⟨show Dp (eR (je n)) 1 from qeV h2 s2,show Dp (gF (cV n)) 0 from qgY h3 s3,show Dp (dZ (dQ n) (iG n)) 2 from qgJ h1 h4,show Dp (gM (cV n) (gE n)) 2 from qhQ h3 h5 s3,show Dp (fJ (cV n)) 2 from qe5 h3 s3⟩
end K16
end
noncomputable section
namespace K16
open PySem L2 PySem.Builtin PySem.Builtin.Str
noncomputable def toT (L:List Nat):Pr->D
 | .ok d r =>.tup [d,.int (pos L r)]
 | .er r =>.tup [.non,.int (pos L r)]
noncomputable def LOk (L:List Nat) (F:List D->Option D) (f:List Nat->Option Pr):Prop:=∀ r p,r <:+ L->f r=some p->F [.str (S L),.int (pos L r)]=some (toT L p)
noncomputable def EvL (L:List Nat) (g:DG) (ρ:aA) (p:Pr):Prop:=(g ρ).bind iO=some (toT L p)
theorem cO {o:Option Pr}{k:D->List Nat->Option Pr}{p:Pr}(h:Pr.then o k=some p):(∃ r,o=some (.er r)/\p=.er r)∨∃ d r,o=some (.ok d r)/\k d r=some p:=by
 cases o with
 | none=>cases h
 | some q=>
  cases q with
  | ok d r=>exact .inr ⟨d,r,rfl,h⟩
  | er r=>cases h;exact .inl ⟨r,rfl,rfl⟩
theorem gR {o:Option (List D×List Nat ⊕ List Nat)}{k:List D->List Nat->Option Pr}{p:Pr}(h:il o k=some p):(∃ r,o=some (.inr r)/\p=.er r)∨∃ ds r,o=some (.inl (ds,r))/\k ds r=some p:=by
 cases o with
 | none=>cases h
 | some q=>
  cases q with
  | inl q=>exact .inr ⟨q.1,q.2,rfl,h⟩
  | inr r=>cases h;exact .inl ⟨r,rfl,rfl⟩
noncomputable section
variable {L:List Nat}{g h st e:DG}{ρ:aA}{p:Pr}{t:DT}
theorem EvL.nx {ρ':aA}(hst:st ρ=some (.nx ρ')) (hk:EvL L h ρ' p):EvL L (ad st h) ρ p:=by
 unfold EvL ad;rw[hst];exact hk
theorem EvL.ift (ht:t ρ=some true) (hk:EvL L (ad g h) ρ p):EvL L (ad (sIf t g e) h) ρ p:=by
 unfold EvL at hk ⊢;rw[<- hk];unfold ad sIf;rw[ht];rfl
theorem EvL.ife (ht:t ρ=some false) (hk:EvL L (ad e h) ρ p):EvL L (ad (sIf t g e) h) ρ p:=by
 unfold EvL at hk ⊢;rw[<- hk];unfold ad sIf;rw[ht];rfl
theorem EvL.iff (ht:t ρ=some false) (hk:EvL L h ρ p):EvL L (ad (sIf t g aV) h) ρ p:=by
 unfold EvL at hk ⊢;rw[<- hk];unfold ad sIf;rw[ht];rfl
theorem EvL.assoc {g2:DG}(hk:EvL L (ad g (ad g2 h)) ρ p):EvL L (ad (ad g g2) h) ρ p:=by
 unfold EvL at hk ⊢;rw[<- hk];unfold ad;cases g ρ with
 | none=>rfl
 | some o=>cases o<;>rfl
theorem EvL.rt (hst:st ρ=some (.rt (toT L p))):EvL L (ad st h) ρ p:=by
 unfold EvL ad;rw[hst];rfl
theorem EvL.rt0 (hst:st ρ=some (.rt (toT L p))):EvL L st ρ p:=by
 unfold EvL;rw[hst];rfl
end
theorem sl2 {L r:List Nat}(h:r <:+ L):Txt.slice (S L) (some (pos L r+1)) (some (pos L r+2))=S (r.tail.take 1):=by
 cases r with
 | nil=>
  have e0:pos L []=(L.length:Int):=by unfold pos;simp
  rw[e0];have e:Txt.slice (S L) (some ((L.length:Int)+1)) (some ((L.length:Int)+2))=Txt.slice (S L) (some (L.length:Int)) (some (L.length:Int)):=by
   unfold Txt.slice strSliceIndices;rw[dB];have h1:min ((L.length:Int)+1) (L.length:Int)=L.length:=by omega
   have h2:min ((L.length:Int)+2) (L.length:Int)=L.length:=by omega
   have h3:¬ ((L.length:Int)+1<0):=by omega
   have h4:¬ ((L.length:Int)+2<0):=by omega
   have h5:¬ ((L.length:Int)<0):=by omega
   simp only[h1,h2,h3,h4,h5,if_false,Int.min_self,show ((1:Int) > 0) from by decide,if_true]
  rw[e,n8 L L.length L.length (zL _) (zL _)];simp
 | cons c r=>
  have e1:pos L (c::r)+1=pos L r:=ig;have e2:pos L (c::r)+2=pos L r+1:=by rw[<- e1];omega
  rw[e1,e2];exact sl1 ((List.suffix_cons c r).trans h)
noncomputable section
variable {L r:List Nat}{ρ:aA}{i:Nat}
theorem bL (hL:Ln L):(S L).length<=cH:=by rw[dB];exact gr (by have:=hL.short;omega)
theorem kM (hL:Ln L) (hr:r <:+ L) (h0:eV 0 ρ=some (.str (S L))) (hi:eV i ρ=some (.int (pos L r))):aW (eV 0) (pS (eV i)) (pS (e2 aj (eV i) (eK (.int 1)))) ρ=some (.str (S (r.take 1))):=by
 unfold aW pS e2;rw[h0,hi];simp only[zA,eK,lC];rw[if_pos (bL hL),sl1 hr]
theorem qh2 (hL:Ln L) (hr:r <:+ L) (h0:eV 0 ρ=some (.str (S L))) (hi:eV i ρ=some (.int (pos L r))):aW (eV 0) (pS (e2 aj (eV i) (eK (.int 1)))) (pS (e2 aj (eV i) (eK (.int 2)))) ρ=some (.str (S (r.tail.take 1))):=by
 unfold aW pS e2;rw[h0,hi];simp only[zA,eK,lC];rw[if_pos (bL hL),sl2 hr]
theorem tEq {f:DF}{c:Nat}(hf:f ρ=some (.str (S (r.take 1)))):tB1 (e2 oEq f (eK (.str (S [c])))) ρ=some (isC c r):=by
 unfold tB1 e2;rw[hf];simp only[zA,eK,eqS,kN,tk1]
theorem tNe {f:DF}{c:Nat}(hf:f ρ=some (.str (S (r.take 1)))):tB1 (e2 oNe f (eK (.str (S [c])))) ρ=some (!isC c r):=by
 unfold tB1 e2;rw[hf];simp only[zA,eK,neS,kN,tk1]
theorem is0 (r:List Nat):(r.take 1==[])=(r==[]):=by cases r<;>rfl
theorem qkq {f:DF}(hf:f ρ=some (.str (S (r.take 1)))):tB1 (e2 oEq f (eK (.str (S [])))) ρ=some (r==[]):=by
 unfold tB1 e2;rw[hf];simp only[zA,eK,eqS,kN,is0]
theorem qlE {f:DF}(hf:f ρ=some (.str (S (r.take 1)))):tB1 (e2 oNe f (eK (.str (S [])))) ρ=some (!(r==[])):=by
 unfold tB1 e2;rw[hf];simp only[zA,eK,neS,kN,is0]
theorem qk4 {neg:Bool}(x:Str) (a b:Str):oIn neg (.str x) (.tup [.str a,.str b])=some (.bl (if neg then !(a==x||b==x) else (a==x||b==x))):=by
 show inD neg (.str x) [.str a,.str b]=_;unfold inD;rw[if_pos (by rfl)]
 have:inV (vOf (.str x)) ([D.str a,D.str b].map vOf)=(a==x||b==x):=by show ((a==x)||((b==x)||false))=_;simp
 rw[this]
theorem qk3 {neg:Bool}(x:Str) (a b c:Str):oIn neg (.str x) (.tup [.str a,.str b,.str c])=some (.bl (if neg then !(a==x||b==x||c==x) else (a==x||b==x||c==x))):=by
 show inD neg (.str x) [.str a,.str b,.str c]=_;unfold inD;rw[if_pos (by rfl)]
 have:inV (vOf (.str x)) ([D.str a,D.str b,D.str c].map vOf)=(a==x||b==x||c==x):=by show ((a==x)||((b==x)||((c==x)||false)))=_;simp[Bool.or_assoc]
 rw[this]
theorem qkB (r:List Nat) (c:Nat):(S [c]==S (r.take 1))=isC c r:=by
 rw[kN,<- tk1];by_cases h:[c]=r.take 1
 ·rw[h]
 ·rw[beq_eq_false_iff_ne.mpr h,beq_eq_false_iff_ne.mpr (Ne.symm h)]
theorem qiN {f:DF}{neg:Bool}{a b:Nat}(hf:f ρ=some (.str (S (r.take 1)))):tB1 (e2 (oIn neg) f (bA (aC (eK (.str (S [a]))) (aC (eK (.str (S [b]))) aN)))) ρ=some (if neg then !(isC a r||isC b r) else (isC a r||isC b r)):=by
 have ht:bA (aC (eK (.str (S [a]))) (aC (eK (.str (S [b]))) aN)) ρ=some (.tup [.str (S [a]),.str (S [b])]):=rfl;unfold tB1 e2;rw[hf,ht];simp only[zA,qk4,qkB]
theorem qlH {f:DF}{neg:Bool}{a b c:Nat}(hf:f ρ=some (.str (S (r.take 1)))):tB1 (e2 (oIn neg) f (bA (aC (eK (.str (S [a]))) (aC (eK (.str (S [b]))) (aC (eK (.str (S [c]))) aN))))) ρ=some (if neg then !(isC a r||isC b r||isC c r) else (isC a r||isC b r||isC c r)):=by
 have ht:bA (aC (eK (.str (S [a]))) (aC (eK (.str (S [b]))) (aC (eK (.str (S [c]))) aN))) ρ=some (.tup [.str (S [a]),.str (S [b]),.str (S [c])]):=rfl;unfold tB1 e2;rw[hf,ht];simp only[zA,qk3,qkB]
theorem nu {c:Nat}{r:List Nat}(hi:eV i ρ=some (.int (pos L (c::r)))):e2 aj (eV i) (eK (.int 1)) ρ=some (.int (pos L r)):=by
 unfold e2;rw[hi];simp only[zA,eK,lC,ig]
theorem qf2 {c:Nat}{r:List Nat}(hL:Ln L) (hr:(c::r) <:+ L):oIx (.str (S L)) (.int (pos L (c::r)))=some (.str (S [c])):=by
 show (if (S L).length<=cH then (atI (S L).cps.toList (pos L (c::r))).map fun c=>D.str ⟨#[c]⟩ else none)=_
 rw[if_pos (bL hL),fm,qi0 hr];obtain⟨pre,rfl⟩:=hr;rw[atN (x:=c) (by
  rw[show (pre++c::r).length-(c::r).length=pre.length by simp]
  simp)]
 rfl
end
theorem qcO:∀ c<128,(!(occurrences (Str.ofString "abcdefghijklmnopqrstuvwxyz") (S [c]) 0 (Str.ofString "abcdefghijklmnopqrstuvwxyz").length 1).isEmpty)=low c:=by decide +kernel
noncomputable def dy (r:List Nat):List Nat:=if r.head? = some 42 then r.tail else r.dropWhile low
theorem oz {L:List Nat}(hL:Ln L):∀ (n:Nat) (r:List Nat),r <:+ L->r.length<n ->
  b0 (nV (tB1 (e2 oNe (aW (eV 0) (pS (eV 1)) (pS (e2 aj (eV 1) (eK (.int 1))))) (eK (.str (S []))))) (tB1 (e2 qfB (e2 oIx (eV 0) (eV 1)) (eK (.str (Str.ofString "abcdefghijklmnopqrstuvwxyz")))))) gU n [some (.str (S L)),some (.int (pos L r))]=some (.nx [some (.str (S L)),some (.int (pos L (r.dropWhile low)))]):=by
 intro n
 induction n with
 | zero=>intro r _ h;omega
 | succ n ih=>
  intro r hr hn;rw[b0];unfold nV;rw[qlE (kM hL hr rfl rfl)];cases r with
  | nil=>rfl
  | cons c r=>
   have hc:=(hL.ok c (hr.subset zD)).2.1;have t2:tB1 (e2 qfB (e2 oIx (eV 0) (eV 1)) (eK (.str (Str.ofString "abcdefghijklmnopqrstuvwxyz")))) [some (.str (S L)),some (.int (pos L (c::r)))]=some (low c):=by unfold tB1 e2;show (((oIx (.str (S L)) (.int (pos L (c::r)))).bind _).bind _)=_;rw[qf2 hL hr];show ((some (D.bl (!(occurrences (Str.ofString "abcdefghijklmnopqrstuvwxyz") (S [c]) 0 (Str.ofString "abcdefghijklmnopqrstuvwxyz").length 1).isEmpty))).bind _)=_;rw[qcO c (by omega)];rfl
   rw[show (!(c::r==[]))=true from rfl]
   simp only[zA,if_true];rw[t2];cases hlow:low c with
   | false=>
    have:List.dropWhile low (c::r)=c::r:=by rw[List.dropWhile_cons,if_neg (by rw[hlow];decide)]
    rw[this];rfl
   | true=>
    have:List.dropWhile low (c::r)=List.dropWhile low r:=by rw[List.dropWhile_cons,if_pos hlow]
    rw[this];simp only[zA,if_true];have hb:gU [some (.str (S L)),some (.int (pos L (c::r)))]=some (.nx [some (.str (S L)),some (.int (pos L r))]):=by unfold gU aF;rw[nu rfl];rfl
    rw[hb];exact ih r ((List.suffix_cons c r).trans hr) (by simp at hn;omega)
theorem qbF {L r:List Nat}(hL:Ln L) (hr:r <:+ L):fM [.str (S L),.int (pos L r)]=some (.int (pos L (dy r))):=by
 show (jt [some (.str (S L)),some (.int (pos L r))]).bind iO=_;unfold jt dy;simp only[c42,c0];by_cases h42:r.head? = some 42
 ·rw[if_pos h42];have hc:isC 42 r=true:=by simp[isC,h42]
  have e:=aX hc;have e1:e2 aj (eV 1) (eK (.int 1)) [some (.str (S L)),some (.int (pos L r))]=some (.int (pos L r.tail)):=by rw[e];exact nu rfl
  unfold ad sIf;rw[tEq (kM hL hr rfl rfl),hc];simp only[zA,if_true];rw[cy e1];rfl
 ·rw[if_neg h42];have hc:isC 42 r=false:=by simpa [isC] using h42
  unfold ad sIf;rw[tEq (kM hL hr rfl rfl),hc];show ((dP 1000000 _ _ [some (.str (S L)),some (.int (pos L r))]).bind _).bind _=_;unfold dP;rw[oz hL 1000000 r hr (by have:=hr.length_le;have:=hL.short;omega)]
  rfl
theorem pA {L : List Nat} (hL : Ln L) : ∀ (n : Nat) (r x : List Nat) (v : Option D) (o), r <:+ L -> x.length + r.length <= 2000 -> cB fP (fun r => !isC 34 r) n r (x.map fun c => D.str (S [c])) = some o ->
    match o with
    | .inl (ds, r') => ∃ v', b0 (tB1 (e2 oNe (aW (eV 0) (pS (eV 1)) (pS (e2 aj (eV 1) (eK (.int 1))))) (eK (.str (S [34]))))) fO n [some (.str (S L)), some (.int (pos L r)), some (.str (S x)), v] = some (.nx [some (.str (S L)), some (.int (pos L r')), some (.str (S (nh ds))), v'])
    | .inr r' => b0 (tB1 (e2 oNe (aW (eV 0) (pS (eV 1)) (pS (e2 aj (eV 1) (eK (.int 1))))) (eK (.str (S [34]))))) fO n [some (.str (S L)), some (.int (pos L r)), some (.str (S x)), v] = some (.rt (toT L (.er r'))) := by
  intro n
  induction n with
  | zero => intro r x v o _ _ h; cases h
  | succ n ih =>
    intro r x v o hr hx h
    rw [b0, tNe (kM hL hr rfl rfl)]
    unfold cB at h
    cases h34 : isC 34 r with
    | true =>
      rw [h34] at h
      cases h
      refine ⟨v, ?_⟩
      rw [mU]; rfl
    | false =>
      rw [h34] at h
      simp only [Bool.not_false, if_true] at h
      simp only [Bool.not_false, Option.bind_some, if_true]
      have e1 : aF 3 (aW (eV 0) (pS (eV 1)) (pS (e2 aj (eV 1) (eK (.int 1))))) [some (.str (S L)), some (.int (pos L r)), some (.str (S x)), v] = some (.nx [some (.str (S L)), some (.int (pos L r)), some (.str (S x)), some (.str (S (r.take 1)))]) := by
        unfold aF
        rw [kM hL hr rfl rfl]; rfl
      cases r with
      | nil =>
        have h : some (Sum.inr []) = some o := h
        cases h
        unfold fO
        simp only [c0]
        rw [aH e1]
        have t : tB1 (e2 oEq (eV 3) (eK (.str (S [])))) [some (.str (S L)), some (.int (pos L [])), some (.str (S x)), some (.str (S (List.take 1 [])))] = some true := qkq (r := []) rfl
        unfold ad
        rw [fB t]
        rfl
      | cons c r =>
        have hr1 : r <:+ L := (List.suffix_cons c r).trans hr
        have hl := hr.length_le
        have hs := hL.short
        simp only [List.length_cons] at hl hx
        have body : fO [some (.str (S L)), some (.int (pos L (c :: r))), some (.str (S x)), v] = (ad (sIf (tB1 (e2 oEq (eV 3) (eK (.str (S [92])))))
             (ad (sIf (tB1 (e2 (oIn true) (aW (eV 0) (pS (eV 1)) (pS (e2 aj (eV 1) (eK (.int 1))))) (bA (aC (eK (.str (S [113]))) (aC (eK (.str (S [92]))) aN)))))
               (bc (bA (aC (eK .non) (aC (eV 1) aN))))
               aV)
              (ad (aF 3 (e2 oIx (eF (bj (aC (eK (.str (S [34]))) (aC (eK (.str (S [92]))) aN)))) (al dD (aC (e2 oEq (e2 oIx (eV 0) (eV 1)) (eK (.str (S [92])))) aN))))
              (aF 1 (e2 aj (eV 1) (eK (.int 1))))))
             aV)
            (aF 2 (e2 aj (eV 2) (eV 3)))) [some (.str (S L)), some (.int (pos L r)), some (.str (S x)), some (.str (S [c]))] := by
          unfold fO
          simp only [c0, c92, qli, c34]
          rw [aH e1]
          have t : tB1 (e2 oEq (eV 3) (eK (.str (S [])))) [some (.str (S L)), some (.int (pos L (c :: r))), some (.str (S x)), some (.str (S (List.take 1 (c :: r))))] = some false := qkq (r := c :: r) rfl
          rw [aH (by rw [dU t]; rfl)]
          rw [aH (show aF 1 _ _ = some (.nx [some (.str (S L)), some (.int (pos L r)), some (.str (S x)), some (.str (S [c]))]) by unfold aF; rw [nu rfl]; rfl)]
        have add : ∀ (r2 : List Nat) (d : Nat), aF 2 (e2 aj (eV 2) (eV 3)) [some (.str (S L)), some (.int (pos L r2)), some (.str (S x)), some (.str (S [d]))] = some (.nx [some (.str (S L)), some (.int (pos L r2)), some (.str (S (x ++ [d]))), some (.str (S [d]))]) := fun r2 d => by
          unfold aF
          rw [aP (x := .str (S x)) (y := .str (S [d])) rfl rfl, cN (by rw [bf]; simp; omega)]; rfl
        have mp : ∀ d : Nat, x.map (fun c => D.str (S [c])) ++ [D.str (S [d])] = (x ++ [d]).map fun c => D.str (S [c]) := fun d => by simp
        have t92 : tB1 (e2 oEq (eV 3) (eK (.str (S [92])))) [some (.str (S L)), some (.int (pos L r)), some (.str (S x)), some (.str (S [c]))] = some (isC 92 (c :: r)) := tEq (r := c :: r) rfl
        rw [body]
        by_cases h92 : c = 92
        · subst h92
          have h : ((if r.head? = some 92 then some (Pr.ok (.str (S [92])) r.tail) else if r.head? = some 113 then some (Pr.ok (.str (S [34])) r.tail) else some (Pr.er r)).bind fun p => match p with | .ok d r => cB fP (fun r => !isC 34 r) n r (x.map (fun c => D.str (S [c])) ++ [d]) | .er r => some (.inr r)) = some o := h
          have tin : tB1 (e2 (oIn true) (aW (eV 0) (pS (eV 1)) (pS (e2 aj (eV 1) (eK (.int 1))))) (bA (aC (eK (.str (S [113]))) (aC (eK (.str (S [92]))) aN)))) [some (.str (S L)), some (.int (pos L r)), some (.str (S x)), some (.str (S [92]))] = some (!(isC 113 r || isC 92 r)) := by
            rw [qiN (kM hL hr1 rfl rfl)]; rfl
          have go : ∀ (d d' : Nat), r.head? = some d' -> (isC 113 r || isC 92 r) = true -> d = (if d' = 92 then 92 else 34) -> (ad (sIf (tB1 (e2 oEq (eV 3) (eK (.str (S [92])))))
             (ad (sIf (tB1 (e2 (oIn true) (aW (eV 0) (pS (eV 1)) (pS (e2 aj (eV 1) (eK (.int 1))))) (bA (aC (eK (.str (S [113]))) (aC (eK (.str (S [92]))) aN)))))
               (bc (bA (aC (eK .non) (aC (eV 1) aN))))
               aV)
              (ad (aF 3 (e2 oIx (eF (bj (aC (eK (.str (S [34]))) (aC (eK (.str (S [92]))) aN)))) (al dD (aC (e2 oEq (e2 oIx (eV 0) (eV 1)) (eK (.str (S [92])))) aN))))
              (aF 1 (e2 aj (eV 1) (eK (.int 1))))))
             aV)
            (aF 2 (e2 aj (eV 2) (eV 3)))) [some (.str (S L)), some (.int (pos L r)), some (.str (S x)), some (.str (S [92]))] = some (.nx [some (.str (S L)), some (.int (pos L r.tail)), some (.str (S (x ++ [d]))), some (.str (S [d]))]) := fun d d' hd hin hdd => by
            have er : r = d' :: r.tail := by
              cases r with
              | nil => cases hd
              | cons a r => simp at hd; subst hd; rfl
            rw [hin] at tin
            rw [er] at tin hr1 ⊢
            have e3 : aF 3 (e2 oIx (eF (bj (aC (eK (.str (S [34]))) (aC (eK (.str (S [92]))) aN)))) (al dD (aC (e2 oEq (e2 oIx (eV 0) (eV 1)) (eK (.str (S [92])))) aN))) [some (.str (S L)), some (.int (pos L (d' :: r.tail))), some (.str (S x)), some (.str (S [92]))] = some (.nx [some (.str (S L)), some (.int (pos L (d' :: r.tail))), some (.str (S x)), some (.str (S [d]))]) := by
              have q1 : e2 oEq (e2 oIx (eV 0) (eV 1)) (eK (.str (S [92]))) [some (.str (S L)), some (.int (pos L (d' :: r.tail))), some (.str (S x)), some (.str (S [92]))] = some (.bl (d' == 92)) := by
                unfold e2
                show (((oIx (.str (S L)) (.int (pos L (d' :: r.tail)))).bind _)) = _
                rw [qf2 hL hr1]
                show oEq (.str (S [d'])) (.str (S [92])) = _
                rw [eqS, kN]; simp
              unfold aF
              have q2 : al dD (aC (e2 oEq (e2 oIx (eV 0) (eV 1)) (eK (.str (S [92])))) aN) [some (.str (S L)), some (.int (pos L (d' :: r.tail))), some (.str (S x)), some (.str (S [92]))] = some (.int (if (d' == 92) = true then 1 else 0)) := by
                unfold al aC
                rw [q1]; rfl
              rw [aP (x := .lst [.str (S [34]), .str (S [92])]) rfl q2, hdd]
              by_cases z : d' = 92
              · subst z; rfl
              · rw [if_neg z]
                have : (d' == 92) = false := by simpa using z
                rw [this]; rfl
            have e4 : aF 1 (e2 aj (eV 1) (eK (.int 1))) [some (.str (S L)), some (.int (pos L (d' :: r.tail))), some (.str (S x)), some (.str (S [d]))] = some (.nx [some (.str (S L)), some (.int (pos L r.tail)), some (.str (S x)), some (.str (S [d]))]) := by
              unfold aF; rw [nu rfl]; rfl
            have t92' : tB1 (e2 oEq (eV 3) (eK (.str (S [92])))) [some (.str (S L)), some (.int (pos L (d' :: r.tail))), some (.str (S x)), some (.str (S [92]))] = some true := tEq (r := [92]) rfl
            rw [aH (ρ' := [some (.str (S L)), some (.int (pos L r.tail)), some (.str (S x)), some (.str (S [d]))]) (by rw [fB t92', aH (by rw [dU tin]; rfl), aH e3, e4])]
            exact add _ _
          by_cases a92 : r.head? = some 92
          · rw [if_pos a92] at h
            have h : cB fP (fun r => !isC 34 r) n r.tail (x.map (fun c => D.str (S [c])) ++ [.str (S [92])]) = some o := h
            rw [mp] at h
            have e := go 92 92 a92 (by simp [isC, a92]) rfl
            rw [e]
            exact ih r.tail (x ++ [92]) _ o ((List.tail_suffix r).trans hr1) (by simp; omega) h
          · rw [if_neg a92] at h
            by_cases a113 : r.head? = some 113
            · rw [if_pos a113] at h
              have h : cB fP (fun r => !isC 34 r) n r.tail (x.map (fun c => D.str (S [c])) ++ [.str (S [34])]) = some o := h
              rw [mp] at h
              have e := go 34 113 a113 (by simp [isC, a113]) rfl
              rw [e]
              exact ih r.tail (x ++ [34]) _ o ((List.tail_suffix r).trans hr1) (by simp; omega) h
            · rw [if_neg a113] at h
              cases h
              have f1 : isC 113 r = false := by simpa [isC] using a113
              have f2 : isC 92 r = false := by simpa [isC] using a92
              rw [f1, f2] at tin
              unfold ad
              rw [fB (by rw [t92]; rfl), fB tin]
              rfl
        · have h : ((if c = 92 then (if r.head? = some 92 then some (Pr.ok (.str (S [92])) r.tail) else if r.head? = some 113 then some (Pr.ok (.str (S [34])) r.tail) else some (Pr.er r)) else some (Pr.ok (.str (S [c])) r)).bind fun p => match p with | .ok d r => cB fP (fun r => !isC 34 r) n r (x.map (fun c => D.str (S [c])) ++ [d]) | .er r => some (.inr r)) = some o := h
          rw [if_neg h92] at h
          have h : cB fP (fun r => !isC 34 r) n r (x.map (fun c => D.str (S [c])) ++ [.str (S [c])]) = some o := h
          rw [mp] at h
          have f : isC 92 (c :: r) = false := by simp [isC, h92]
          rw [f] at t92
          rw [aH (by rw [dU t92]; rfl), add]
          exact ih r (x ++ [c]) _ o hr1 (by simp; omega) h
theorem qcd {L r:List Nat}{p:Pr}(hL:Ln L) (hr:r <:+ L) (h34:isC 34 r=true) (h:(Pr.then (kh r) fun d r=>some (.ok (wOf (Str.ofString "text") d) r))=some p):jh [.str (S L),.int (pos L r)]=some (toT L p):=by
 show EvL L kt [some (.str (S L)),some (.int (pos L r)),none,none] p;unfold kt;simp only[c0,c34];have e:=aX h34;have hr1:r.tail <:+ L:=(List.tail_suffix r).trans hr;refine .nx (ρ':=[some (.str (S L)),some (.int (pos L r)),some (.str (S [])),none]) rfl ?_;refine .nx (ρ':=[some (.str (S L)),some (.int (pos L r.tail)),some (.str (S [])),none]) (by unfold aF;rw[e,nu rfl];rfl) ?_
 have hl:r.tail.length<=1000:=yA hr1.length_le hL.short;have et:kh r=il (cB fP (fun r=> !isC 34 r) 1000000 r.tail []) fun ds r=>Pr.then (a7 [34] r) fun _ r=>some (.ok (.str (S (nh ds))) r):=by unfold kh;rw[fQ h34];rfl
 rw[et] at h;rcases cO h with ⟨r1,h1,rfl⟩|⟨d1,r1,h1,h2⟩
 ·rcases gR h1 with ⟨r2,h2,e2⟩|⟨ds,r2,h2,h3⟩
  ·cases e2;have:=pA hL 1000000 r.tail [] none _ hr1 (by rw[List.length_nil];omega) h2
   exact .rt (show dP 1000000 _ _ _=_ from this)
  ·
   exfalso;have hq:isC 34 r2=true:=by
    have:∀ (n:Nat) (r:List Nat) (acc:List D),cB fP (fun r=> !isC 34 r) n r acc=some (.inl (ds,r2))->isC 34 r2=true:=by
     intro n
     induction n with
     | zero=>intro r acc z;cases z
     | succ n ih=>
      intro r acc z;unfold cB at z
      split at z
      ·cases ef:fP r with
       | none=>rw[ef] at z;cases z
       | some q=>
        rw[ef] at z;cases q with
        | ok d r1=>exact ih _ _ z
        | er r1=>cases z
      ·rename_i hh;cases z;cases hz:isC 34 r2 with
       | true=>rfl
       | false=>rw[hz] at hh;exact absurd rfl hh
    exact this _ _ _ h2
   rw[fQ hq] at h3;cases h3
 ·cases h2;obtain⟨ds,r2,h2,h3⟩:=eI h1;obtain⟨d3,r3,h3,h4⟩:=ax h3;cases h4;have hw:=pA hL 1000000 r.tail [] none _ hr1 (by rw[List.length_nil];omega) h2
  obtain⟨v',hw⟩:=hw;refine .nx (show dP 1000000 _ _ _=_ from hw) (.rt0 ?_)
  have er:r2=34::r1:=qby h3;have ea:L2.e2 aj (eV 1) (eK (.int 1)) [some (.str (S L)),some (.int (pos L r2)),some (.str (S (nh ds))),v']=some (.int (pos L r1)):=by rw[er];exact nu rfl
  unfold bc bA aC;rw[ea];rfl
end K16
end
noncomputable section
namespace K16
open PySem L2 PySem.Builtin PySem.Builtin.Str
theorem mG {f:List Nat->Option Pr}{t:List Nat->Bool}(hs:Shr f):∀ (n m:Nat) (r:List Nat) (acc:List D),r.length<n->r.length<m->cB f t n r acc=cB f t m r acc:=by
 intro n
 induction n with
 | zero=>intro m r acc h;omega
 | succ n ih=>
  intro m r acc hn hm;cases m with
  | zero=>omega
  | succ m=>
   unfold cB
   split
   ·cases ef:f r with
    | none=>rfl
    | some p=>
     cases p with
     | er r1=>rfl
     | ok d r1=>have:=(hs _ _ _ ef).2;exact ih m r1 _ (by omega) (by omega)
   ·rfl
noncomputable section
variable {L:List Nat}
noncomputable def qdf (j:Nat):DG:=ad (sIf (tB1 (e2 oNe (aW (eV 0) (pS (eV 1)) (pS (e2 aj (eV 1) (eK (.int 1))))) (eV j))) (bc (bA (aC (eK .non) (aC (eV 1) aN)))) aV) (aF 1 (e2 aj (eV 1) (eK (.int 1))))
theorem pE (hL:Ln L){j:Nat}(env:List Nat->Option D->aA) (h0:∀ r v,eV 0 (env r v)=some (.str (S L))) (h1:∀ r v,eV 1 (env r v)=some (.int (pos L r))) (hj:∀ r d,eV j (env r (some d))=some d) (hset:∀ r v d,(env r v).set j (some d)=env r (some d)) (hs1:∀ r v r',(env r v).set 1 (some (.int (pos L r')))=env r' v) :
  ∀ (x r:List Nat) (v:Option D) (p:Pr),r <:+ L->a7 x r=some p ->
  (∃ d r' v',p=.ok d r'/\iT (gN j) (qdf j) (x.map fun c=>D.str (S [c])) (env r v)=some (.nx (env r' v')))∨(∃ r',p=.er r'/\iT (gN j) (qdf j) (x.map fun c=>D.str (S [c])) (env r v)=some (.rt (toT L (.er r')))):=by
 intro x
 induction x with
 | nil=>intro r v p hr h;cases h;exact .inl ⟨_,_,v,rfl,rfl⟩
 | cons c x ih=>
  intro r v p hr h;have step:qdf j (env r (some (.str (S [c]))))=if isC c r then some (.nx (env r.tail (some (.str (S [c]))))) else some (.rt (toT L (.er r))):=by
   have t:tB1 (e2 oNe (aW (eV 0) (pS (eV 1)) (pS (e2 aj (eV 1) (eK (.int 1))))) (eV j)) (env r (some (.str (S [c]))))=some (!isC c r):=by unfold tB1;rw[aP (kM hL hr (h0 _ _) (h1 _ _)) (hj _ _),neS,kN,tk1];rfl
   unfold qdf;cases hc:isC c r with
   | true=>
    rw[hc] at t;rw[aH (by rw[dU t];rfl),if_pos rfl]
    have e:=aX hc;have ea:e2 aj (eV 1) (eK (.int 1)) (env r (some (.str (S [c]))))=some (.int (pos L r.tail)):=by refine nu (c:=c) ?_;rw[h1,<- e]
    unfold aF;rw[ea];show some (DO.nx _)=_;rw[hs1]
   | false=>
    rw[hc] at t;rw[if_neg (by decide)]
    unfold ad;rw[fB t];have:bA (aC (eK .non) (aC (eV 1) aN)) (env r (some (.str (S [c]))))=some (.tup [.non,.int (pos L r)]):=by unfold bA aC;rw[h1];rfl
    rw[cy this];rfl
  rw[List.map_cons,iT];have hg:gN j (D.str (S [c])) (env r v)=some (env r (some (.str (S [c])))):=by show some ((env r v).set j (some _))=_;rw[hset]
  rw[hg];simp only[zA];rw[step];cases hc:isC c r with
  | true=>
   have e:=aX hc;have h:a7 x r.tail=some p:=by rw[e] at h;simpa [a7] using h
   rw[if_pos rfl];exact ih r.tail _ p ((List.tail_suffix r).trans hr) h
  | false=>
   rw[if_neg (by decide)]
   have:a7 (c::x) r=some (.er r):=by
    cases r with
    | nil=>rfl
    | cons d r=>
     have:¬ d=c:=fun z=>by simp[isC,z] at hc
     simp[a7,this]
   rw[this] at h;cases h;exact .inr ⟨r,rfl,rfl⟩
variable {Fs Fp Fw Fl:List D->Option D}{fs fp fw fl fh:List Nat->Option Pr}
theorem LOk.call {F:List D->Option D}{f:List Nat->Option Pr}{r:List Nat}{p:Pr}{ρ:aA}{e:DF}(h:LOk L F f) (hr:r <:+ L) (hp:f r=some p) (h0:eV 0 ρ=some (.str (S L))) (he:e ρ=some (.int (pos L r))):al F (aC (eV 0) (aC e aN)) ρ=some (toT L p):=by
 have:aC (eV 0) (aC e aN) ρ=some [.str (S L),.int (pos L r)]:=by unfold aC;rw[h0,he];rfl
 unfold al;rw[this];exact h r p hr hp
theorem qbk {ρ:aA}{i:Nat}{d:D}{n:Nat}(h:eV i ρ=some d) (ha:aOk n d):tB1 (e2 jo (eV i) (eK .non)) ρ=some false:=by
 unfold tB1;rw[aP h (rfl:eK .non ρ=some .non),ha.ne];rfl
theorem nR {ρ:aA}{i:Nat}(h:eV i ρ=some .non):tB1 (e2 jo (eV i) (eK .non)) ρ=some true:=by
 unfold tB1;rw[aP h (rfl:eK .non ρ=some .non)];rfl
theorem oh {ρ:aA}{i:Nat}{r:List Nat}(h:eV i ρ=some (.int (pos L r))):bc (bA (aC (eK .non) (aC (eV i) aN))) ρ=some (.rt (toT L (.er r))):=by
 refine cy ?_;unfold bA aC;rw[h];rfl
noncomputable def qdS (L:List Nat) (F:List D->Option D) (f:List Nat->Option Pr):Prop:=∀ r p,r <:+ L->isC 40 r=true->f r=some p->F [.str (S L),.int (pos L r)]=some (toT L p)
theorem qca (hL:Ln L) (hs:LOk L Fs fs) (hl:qdS L Fl fl) (ds:Dp fs 1):LOk L (du 2 4 (gW Fs Fp Fw Fl)) (dZ fs fl):=fun r p hr h=>by
 show EvL L (gW Fs Fp Fw Fl) [some (.str (S L)),some (.int (pos L r)),none,none] p;unfold gW;simp only[c47,c40,c34];unfold dZ at h;have hrl:r.length<=1000:=yA hr.length_le hL.short;have t:∀ c:Nat,tB1 (e2 oEq (aW (eV 0) (pS (eV 1)) (pS (e2 aj (eV 1) (eK (.int 1))))) (eK (.str (S [c])))) [some (.str (S L)),some (.int (pos L r)),none,none]=some (isC c r):=fun c=>tEq (kM hL hr rfl rfl)
 have ne:∀ c d:Nat,c≠d->isC c r=true->isC d r=false:=fun c d hcd hc=>by rw[aX hc];simp[isC,hcd]
 cases h34:isC 34 r with
 | true=>
  rw[ne 34 47 (by decide) h34,ne 34 40 (by decide) h34,h34] at h
  simp only[Bool.false_eq_true,if_false,if_true] at h;refine .ift (by rw[t,h34]) (.rt ?_)
  refine cy ?_;have:aC (eV 0) (aC (eV 1) aN) [some (.str (S L)),some (.int (pos L r)),none,none]=some [.str (S L),.int (pos L r)]:=rfl;unfold al;rw[this];exact qcd hL hr h34 h
 | false=>
  refine .iff (by rw[t,h34]) ?_
  cases h40:isC 40 r with
  | true=>
   rw[ne 40 47 (by decide) h40,h40] at h
   simp only[Bool.false_eq_true,if_false,if_true] at h;refine .ift (by rw[t,h40]) (.rt (cy ?_))
   have:aC (eV 0) (aC (eV 1) aN) [some (.str (S L)),some (.int (pos L r)),none,none]=some [.str (S L),.int (pos L r)]:=rfl;unfold al;rw[this];exact hl r p hr h40 h
  | false=>
   refine .iff (by rw[t,h40]) ?_
   cases h47:isC 47 r with
   | true=>
    rw[h47] at h;simp only[if_true] at h;refine .ift (by rw[t,h47]) (.assoc ?_)
    rcases cO h with ⟨r1,h1,rfl⟩|⟨d1,r1,h1,h2⟩
    ·refine .nx (ρ':=[some (.str (S L)),some (.int (pos L r1)),some .non,none]) (by unfold gQ;rw[hs.call hr h1 rfl rfl];rfl) (.assoc (.ift (nR rfl) (.rt (oh rfl))))
    ·cases h2;refine .nx (ρ':=[some (.str (S L)),some (.int (pos L r1)),some d1,none]) (by unfold gQ;rw[hs.call hr h1 rfl rfl];rfl) (.assoc (.iff (qbk rfl (ds _ _ _ hrl h1)) (.rt rfl)))
   | false=>
    rw[h47,h40,h34] at h;simp only[Bool.false_eq_true,if_false] at h;refine .iff (by rw[t,h47]) ?_
    have hi:iL (eF (bj (aC (eK (.str (Str.ofString "a"))) (aC (eK (.str (Str.ofString "n"))) (aC (eK (.str (Str.ofString "y"))) aN))))) [some (.str (S L)),some (.int (pos L r)),none,none]=some ([97,110,121].map fun c=>D.str (S [c])):=by rw[c97,qma,ql9];rfl
    have sf:=pE hL (j:=3) (env:=fun r v=>[some (.str (S L)),some (.int (pos L r)),none,v]) (fun _ _=>rfl) (fun _ _=>rfl) (fun _ _=>rfl) (fun _ _ _=>rfl) (fun _ _ _=>rfl) [97,110,121] r none
    rcases cO h with ⟨r1,h1,rfl⟩|⟨d1,r1,h1,h2⟩
    ·rcases sf _ hr h1 with ⟨_,_,_,z,_⟩|⟨r',z,e⟩
     ·cases z
     ·cases z;refine .rt ?_;unfold gx;rw[hi];exact e
    ·cases h2;rcases sf _ hr h1 with ⟨_,_,v',z,e⟩|⟨r',z,e⟩
     ·cases z;exact .nx (by unfold gx;rw[hi];exact e) (.rt0 rfl)
     ·cases z
noncomputable def WAt (fw:List Nat->Option Pr):Prop:=∀ r p,fw r=some p->isC 34 r=false->isC 47 r=false->isC 40 r=false->isC 97 r=false->p=.er r
theorem qgK {fs fl:List Nat->Option Pr}:WAt (dZ fs fl):=fun r p h h34 h47 h40 h97=>by
 unfold dZ at h;rw[h47,h40,h34] at h;simp only[Bool.false_eq_true,if_false] at h;have:a7 [97,110,121] r=some (.er r):=by
  cases r with
  | nil=>rfl
  | cons d r=>
   have:¬ d=97:=fun z=>by simp[isC,z] at h97
   simp[a7,this]
 rw[this] at h;cases h;rfl
theorem qcj (hL:Ln L) (hw:LOk L Fw fw) (dw:Dp fw 2) (sw:Shr fw) (ww:WAt fw):LOk L (du 2 6 (gX Fs Fp Fw Fl)) (gF fw):=fun r p hr h=>by
 show EvL L (gX Fs Fp Fw Fl) [some (.str (S L)),some (.int (pos L r)),none,none,none,none] p;unfold gX;simp only[c47,c91,c93,c34,c40];have t47:=tNe (c:=47) (kM (ρ:=[some (.str (S L)),some (.int (pos L r)),none,none,none,none]) (i:=1) hL hr rfl rfl);unfold gF at h;cases h47:isC 47 r with
 | false=>
  have:a7 [47] r=some (.er r):=by
   cases r with
   | nil=>rfl
   | cons d r=>
    have:¬ d=47:=fun z=>by simp[isC,z] at h47
    simp[a7,this]
  rw[this] at h;cases h;exact .ift (by rw[t47,h47];rfl) (.rt (oh rfl))
 | true=>
  rw[fQ h47] at h;have e:=aX h47;have hr1:r.tail <:+ L:=(List.tail_suffix r).trans hr;rw[ir] at h;refine .iff (by rw[t47,h47];rfl) ?_
  generalize hr1e:r.tail=r1 at h hr1 e;have hway:aF 2 (e2 oIx (eF (bj (aC (eK (.str (Str.ofString "own"))) (aC (eK (.str (Str.ofString "inner"))) aN)))) (al dD (aC (e2 oEq (aW (eV 0) (pS (e2 aj (eV 1) (eK (.int 1)))) (pS (e2 aj (eV 1) (eK (.int 2))))) (eK (.str (S [47])))) aN))) [some (.str (S L)),some (.int (pos L r)),none,none,none,none]=some (.nx [some (.str (S L)),some (.int (pos L r)),some (.str (if isC 47 r1 then Str.ofString "inner" else Str.ofString "own")),none,none,none]):=by
   have q1:e2 oEq (aW (eV 0) (pS (e2 aj (eV 1) (eK (.int 1)))) (pS (e2 aj (eV 1) (eK (.int 2))))) (eK (.str (S [47]))) [some (.str (S L)),some (.int (pos L r)),none,none,none,none]=some (.bl (isC 47 r1)):=by rw[aP (qh2 hL hr rfl rfl) (rfl:eK (.str (S [47])) _=_),eqS,kN,tk1,hr1e]
   have q2:al dD (aC (e2 oEq (aW (eV 0) (pS (e2 aj (eV 1) (eK (.int 1)))) (pS (e2 aj (eV 1) (eK (.int 2))))) (eK (.str (S [47])))) aN) [some (.str (S L)),some (.int (pos L r)),none,none,none,none]=some (.int (if (isC 47 r1)=true then 1 else 0)):=by unfold al aC;rw[q1];rfl
   unfold aF;rw[aP (x :=.lst [.str (Str.ofString "own"),.str (Str.ofString "inner")]) rfl q2];cases isC 47 r1<;>rfl
  refine .nx hway ?_;generalize hw2:(if isC 47 r1 then Str.ofString "inner" else Str.ofString "own")=w at h
  generalize hr2e:(if isC 47 r1 then r1.tail else r1)=r2 at h
  dsimp only at h;have hr2:r2 <:+ L:=by
   rw[<- hr2e]
   split
   ·exact(List.tail_suffix _).trans hr1
   ·exact hr1
  have hat:aF 1 (e2 aj (e2 aj (eV 1) (eK (.int 1))) (al dD (aC (e2 oEq (eV 2) (eK (.str (Str.ofString "inner")))) aN))) [some (.str (S L)),some (.int (pos L r)),some (.str w),none,none,none]=some (.nx [some (.str (S L)),some (.int (pos L r2)),some (.str w),none,none,none]):=by
   have q0:e2 oEq (eV 2) (eK (.str (Str.ofString "inner"))) [some (.str (S L)),some (.int (pos L r)),some (.str w),none,none,none]=some (.bl (isC 47 r1)):=by
    rw[aP (x :=.str w) (y :=.str (Str.ofString "inner")) rfl rfl,eqS,<- hw2];cases isC 47 r1
    ·show some (D.bl (Str.ofString "own" == Str.ofString "inner"))=_;rw[show (Str.ofString "own" == Str.ofString "inner")=false by decide +kernel]
    ·show some (D.bl (Str.ofString "inner" == Str.ofString "inner"))=_;rw[show (Str.ofString "inner" == Str.ofString "inner")=true by decide +kernel]
   have q2:al dD (aC (e2 oEq (eV 2) (eK (.str (Str.ofString "inner")))) aN) [some (.str (S L)),some (.int (pos L r)),some (.str w),none,none,none]=some (.int (if (isC 47 r1)=true then 1 else 0)):=by unfold al aC;rw[q0];rfl
   have q1:e2 aj (eV 1) (eK (.int 1)) [some (.str (S L)),some (.int (pos L r)),some (.str w),none,none,none]=some (.int (pos L r1)):=by rw[e];exact nu rfl
   unfold aF;rw[aP q1 q2,lC,<- hr2e];cases hc:isC 47 r1 with
   | false=>rw[if_neg (by decide),if_neg (by decide),Int.add_zero];rfl
   | true=>
    rw[if_pos rfl,if_pos rfl];have e1:=aX hc;have:pos L r1+1=pos L r1.tail:=by
     conv=>lhs;rw[e1]
     exact ig
    rw[this];rfl
  refine .nx hat ?_;have hend:aF 3 (al fM (aC (eV 0) (aC (eV 1) aN))) [some (.str (S L)),some (.int (pos L r2)),some (.str w),none,none,none]=some (.nx [some (.str (S L)),some (.int (pos L r2)),some (.str w),some (.int (pos L (dy r2))),none,none]):=by have:aC (eV 0) (aC (eV 1) aN) [some (.str (S L)),some (.int (pos L r2)),some (.str w),none,none,none]=some [.str (S L),.int (pos L r2)]:=rfl;unfold aF al;rw[this];show ((fM [.str (S L),.int (pos L r2)]).map _)=_;rw[qbF hL hr2];rfl
  refine .nx hend ?_;have tend:tB1 (e2 oEq (eV 3) (eV 1)) [some (.str (S L)),some (.int (pos L r2)),some (.str w),some (.int (pos L (dy r2))),none,none]=some (pos L (dy r2)==pos L r2):=by unfold tB1;rw[aP (x :=.int (pos L (dy r2))) (y :=.int (pos L r2)) rfl rfl,eqI];rfl
  have nm:(gO r2=some (.er r2)/\(pos L (dy r2)==pos L r2)=true)∨∃ x,gO r2=some (.ok (.str (S x)) (dy r2))/\(pos L (dy r2)==pos L r2)=false/\dy r2 <:+ L/\Txt.slice (S L) (some (pos L r2)) (some (pos L (dy r2)))=S x:=by
   unfold gO dy;by_cases h42:r2.head? = some 42
   ·rw[if_pos h42,if_pos h42];have hc:isC 42 r2=true:=by simp[isC,h42]
    have e2':=aX hc;have hp:pos L r2+1=pos L r2.tail:=by
     conv=>lhs;rw[e2']
     exact ig
    refine .inr ⟨[42],rfl,?_,(List.tail_suffix _).trans hr2,?_⟩
    ·rw[<- hp];simp;omega
    ·rw[<- hp,sl1 hr2,e2'];rfl
   ·rw[if_neg h42,if_neg h42];have el:=congrArg List.length (gZ r2);rw[List.length_append] at el;by_cases h0:r2.takeWhile low=[]
    ·rw[if_pos h0];have:r2.dropWhile low=r2:=by have:=gZ r2;rwa [h0,List.nil_append] at this
     rw[this];exact .inl ⟨rfl,by simp⟩
    ·rw[if_neg h0];have hl:0<(r2.takeWhile low).length:=List.length_pos_iff.mpr h0;exact .inr ⟨_,rfl,by unfold pos;simp;omega,(List.dropWhile_suffix low).trans hr2,qde hr2⟩
  rcases nm with ⟨e1,e2'⟩|⟨x,e1,e2',hr3,esl⟩
  ·rw[e1] at h;cases h;exact .ift (by rw[tend,e2']) (.rt (oh rfl))
  ·rw[e1,ir] at h;refine .iff (by rw[tend,e2']) ?_
   generalize dy r2=r3 at *
   refine .nx (ρ':=[some (.str (S L)),some (.int (pos L r2)),some (.str w),some (.int (pos L r3)),some (.str (S x)),none]) ?_ ?_
   ·have:aW (eV 0) (pS (eV 1)) (pS (eV 3)) [some (.str (S L)),some (.int (pos L r2)),some (.str w),some (.int (pos L r3)),none,none]=some (.str (S x)):=by
     show (if (S L).length<=cH then some (D.str (Txt.slice (S L) (some (pos L r2)) (some (pos L r3)))) else none)=_
     rw[if_pos (bL hL),esl]
    unfold aF;rw[this];rfl
   refine .nx (ρ':=[some (.str (S L)),some (.int (pos L r2)),some (.str w),some (.int (pos L r3)),some (.str (S x)),some mX]) rfl ?_;have t91:=tEq (c:=91) (kM (ρ:=[some (.str (S L)),some (.int (pos L r2)),some (.str w),some (.int (pos L r3)),some (.str (S x)),some mX]) (i:=3) hL hr3 rfl rfl);cases h91:isC 91 r3 with
   | false=>rw[h91] at h;simp only[Bool.false_eq_true,if_false] at h;cases h;exact .iff (by rw[t91,h91]) (.rt0 rfl)
   | true=>
    rw[h91] at h;simp only[if_true] at h;refine .ift (by rw[t91,h91]) (.assoc ?_)
    have e3:=aX h91;have hr4:r3.tail <:+ L:=(List.tail_suffix r3).trans hr3;have hp:∀ v,e2 aj (eV 3) (eK (.int 1)) [some (.str (S L)),some (.int (pos L r2)),some (.str w),some (.int (pos L r3)),some (.str (S x)),v]=some (.int (pos L r3.tail)):=fun v=>by refine nu (c:=91) ?_;show some (D.int (pos L r3))=_;rw[<- e3]
    have t3:=qlH (neg:=true) (a:=34) (b:=47) (c:=40) (qh2 (ρ:=[some (.str (S L)),some (.int (pos L r2)),some (.str w),some (.int (pos L r3)),some (.str (S x)),some mX]) (i:=3) hL hr3 rfl rfl);have hl4:r3.tail.length<=1000:=yA hr4.length_le hL.short;generalize hr4e:r3.tail=r4 at *
    cases hq:(isC 34 r4||isC 47 r4||isC 40 r4) with
    | false=>
     rw[hq] at t3;simp only[Bool.or_eq_false_iff] at hq;obtain⟨⟨q1,q2⟩,q3⟩:=hq;have hp4:p=.er r4:=by
      cases q4:isC 97 r4 with
      | true=>rw[q4] at h;simp only[if_true] at h;cases h;rfl
      | false=>
       rw[q4] at h;simp only[Bool.false_eq_true,if_false] at h;rcases cO h with ⟨r5,h5,rfl⟩|⟨d5,r5,h5,h6⟩
       ·have:=ww _ _ h5 q1 q2 q3 q4;exact this
       ·have:=ww _ _ h5 q1 q2 q3 q4;cases this
     subst hp4;refine .ift t3 (.rt ?_);refine cy ?_;unfold bA aC;rw[hp];rfl
    | true=>
     rw[hq] at t3;have q4:isC 97 r4=false:=by
      cases q:isC 97 r4 with
      | false=>rfl
      | true=>have:=aX q;rw[this] at hq;simp[isC] at hq
     rw[q4] at h;simp only[Bool.false_eq_true,if_false] at h;refine .iff t3 (.assoc ?_);have ht93:∀ (r5:List Nat) (v:D),r5 <:+ L->tB1 (e2 oNe (aW (eV 0) (pS (eV 3)) (pS (e2 aj (eV 3) (eK (.int 1))))) (eK (.str (S [93])))) [some (.str (S L)),some (.int (pos L r2)),some (.str w),some (.int (pos L r5)),some (.str (S x)),some v]=some (!isC 93 r5):=fun r5 v hr5=>tNe (kM hL hr5 rfl rfl)
     rcases cO h with ⟨r5,h5,rfl⟩|⟨d5,r5,h5,h6⟩
     ·refine .nx (ρ':=[some (.str (S L)),some (.int (pos L r2)),some (.str w),some (.int (pos L r5)),some (.str (S x)),some .non]) (by unfold gQ;rw[hw.call hr4 h5 rfl (hp _)];rfl) (.assoc (.ift ?_ (.rt (oh rfl))))
      unfold dh;rw[nR rfl];rfl
     ·have hr5:=(sw _ _ _ h5).1.trans hr4;refine .nx (ρ':=[some (.str (S L)),some (.int (pos L r2)),some (.str w),some (.int (pos L r5)),some (.str (S x)),some d5]) (by unfold gQ;rw[hw.call hr4 h5 rfl (hp _)];rfl) (.assoc ?_)
      cases h93:isC 93 r5 with
      | false=>
       have:a7 [93] r5=some (.er r5):=by
        cases r5 with
        | nil=>rfl
        | cons d r5=>
         have:¬ d=93:=fun z=>by simp[isC,z] at h93
         simp[a7,this]
       rw[this] at h6;cases h6;refine .ift ?_ (.rt (oh rfl));unfold dh;rw[qbk rfl (dw _ _ _ hl4 h5),ht93 _ _ hr5,h93];rfl
      | true=>
       rw[fQ h93] at h6;cases h6;refine .iff ?_ (.nx (ρ':=[some (.str (S L)),some (.int (pos L r2)),some (.str w),some (.int (pos L r5.tail)),some (.str (S x)),some d5]) ?_ (.rt0 rfl))
       ·unfold dh;rw[qbk rfl (dw _ _ _ hl4 h5),ht93 _ _ hr5,h93];rfl
       ·have e5:=aX h93;unfold aF;rw[nu (c:=93) (r:=r5.tail) (L:=L) (by show some (D.int (pos L r5))=_;rw[<- e5])];rfl
end
end K16
end
noncomputable section
namespace K16
open PySem L2 PySem.Builtin PySem.Builtin.Str
noncomputable section
variable {L:List Nat}
noncomputable def qc0 (L:List Nat){α:Type}(env:List D->List Nat->α->aA) (g:DG) (ds:List D) (r:List Nat) (v:α):Pr->Prop
 | .ok d r1=>∃ v',g (env ds r v)=some (.nx (env (ds++[d]) r1 v'))
 | .er r1=>g (env ds r v)=some (.rt (toT L (.er r1)))
noncomputable def qmj (L:List Nat){α:Type}(env:List D->List Nat->α->aA) (o:Option DO):(List D×List Nat ⊕ List Nat)->Prop
 | .inl (ds,r)=>∃ v',o=some (.nx (env ds r v'))
 | .inr r=>o=some (.rt (toT L (.er r)))
theorem qcb {α:Type}{env:List D->List Nat->α->aA}{t:DT}{g:DG}{f:List Nat->Option Pr}{tt:List Nat->Bool}{c k:Nat}(hs:Shr f) (hd:Dp f c) (hLs:L.length<=100) (ht:∀ r ds v,r <:+ L->(∀ e∈ds,aOk (100+c) e)->k<=ds.length->ds.length<=300->t (env ds r v)=some (tt r))
  (hg:∀ r ds v p,r <:+ L->ds.length<=300->f r=some p->qc0 L env g ds r v p) :
  ∀ (n:Nat) (r:List Nat) (ds:List D) (v:α) (o),r <:+ L->(∀ e∈ds,aOk (100+c) e)->k<=ds.length->ds.length+r.length<=300->cB f tt n r ds=some o->qmj L env (b0 t g n (env ds r v)) o:=by
 intro n
 induction n with
 | zero=>intro r ds v o _ _ _ _ h;cases h
 | succ n ih=>
  intro r ds v o hr hds hk hl h;unfold cB at h;rw[b0,ht r ds v hr hds hk (by omega)]
  cases hc:tt r with
  | false=>rw[hc] at h;simp only[Bool.false_eq_true,if_false] at h;cases h;exact⟨v,rfl⟩
  | true=>
   rw[hc] at h;simp only[if_true] at h;simp only[zA,if_true];cases ef:f r with
   | none=>rw[ef] at h;cases h
   | some p=>
    rw[ef] at h;have hgo:=hg r ds v p hr (by omega) ef
    cases p with
    | er r1=>cases h;have hgo:g (env ds r v)=some (.rt (toT L (.er r1))):=hgo;rw[hgo];exact rfl
    | ok d r1=>
     obtain⟨v',hgo⟩:=hgo;rw[hgo];have h1:=hs _ _ _ ef;have hrl:=hr.length_le;have hda:=hd r d r1 (by omega) ef
     refine ih r1 (ds++[d]) v' o (h1.1.trans hr) (fun e he =>?_) (by simp;omega) (by simp;omega) h
     rcases zO.mp he with z|z
     ·exact hds e z
     ·simp at z;subst z;exact hda.le (by omega)
variable {Fs Fp Fw Fl:List D->Option D}{fs fp fw fl fh:List Nat->Option Pr}
theorem qa6 {i j:Nat}{ρ:aA}{ds:List D}{d:D}(h:ρ[i]?=some (some (.lst ds))) (hj:eV j ρ=some d) (hl:ds.length<=300):my i (eV j) ρ=some (.nx (ρ.set i (some (.lst (ds++[d]))))):=by
 have e:bH i ρ=some ds:=by unfold bH eV;rw[h];rfl
 unfold my;rw[e,hj];simp only[zA];rw[if_pos (by rw[bf];omega)]
theorem qbm (hL:Ln L) (hLs:L.length<=100) (hp:LOk L Fp fp) (dp:Dp fp 0) (sp:Shr fp):LOk L (du 2 4 (eJ Fs Fp Fw Fl)) (eR fp):=fun r p hr h=>by
 show EvL L (eJ Fs Fp Fw Fl) [some (.str (S L)),some (.int (pos L r)),none,none] p;unfold eJ;simp only[c47];refine .nx (ρ':=[some (.str (S L)),some (.int (pos L r)),some (.lst []),none]) rfl ?_;have hrl:=hr.length_le;have round:∀ (r:List Nat) (ds:List D) (v:Option D) (p:Pr),r <:+ L->ds.length<=300->fp r=some p->qc0 L (fun ds r v=>[some (.str (S L)),some (.int (pos L r)),some (.lst ds),v]) (cr Fs Fp Fw Fl) ds r v p:=fun r ds v p hr hl ef=>by
  unfold cr;cases p with
  | er r1=>
   show ad _ _ _=_;rw[aH (ρ':=[some (.str (S L)),some (.int (pos L r1)),some (.lst ds),some .non]) (by unfold gQ;rw[hp.call hr ef rfl rfl];rfl)]
   unfold ad;rw[fB (nR rfl),oh (L:=L) (r:=r1) rfl]
   rfl
  | ok d r1=>
   have ha:=dp r d r1 (by have:=hr.length_le;omega) ef
   refine⟨some d,?_⟩;rw[aH (ρ':=[some (.str (S L)),some (.int (pos L r1)),some (.lst ds),some d]) (by unfold gQ;rw[hp.call hr ef rfl rfl];rfl)]
   rw[aH (by rw[dU (qbk rfl ha)];rfl)]
   exact qa6 rfl rfl hl
 have tf:∀ (r:List Nat) (ds:List D) (v:Option D),r <:+ L->(∀ e∈ds,aOk 100 e)->dh (tB1 (e2 oEq (eV 2) (eF (bj aN)))) (tB1 (e2 oEq (aW (eV 0) (pS (eV 1)) (pS (e2 aj (eV 1) (eK (.int 1))))) (eK (.str (S [47]))))) [some (.str (S L)),some (.int (pos L r)),some (.lst ds),v]=some (ds.isEmpty||isC 47 r):=fun r ds v hr hds=>by
  have q:tB1 (e2 oEq (eV 2) (eF (bj aN))) [some (.str (S L)),some (.int (pos L r)),some (.lst ds),v]=some ds.isEmpty:=by
   unfold tB1;rw[aP (x :=.lst ds) (y :=.lst []) rfl rfl];have hd:dOk (.lst ds) 180=true:=by
    have:=ml (ds:=ds) (m:=179) fun e he=>(hds e he).dOk 179 (by omega)
    simp[dOk,this]
   unfold oEq;rw[if_pos (by rw[hd];rfl)]
   cases ds<;>rfl
  unfold dh;rw[q,tEq (kM hL hr rfl rfl)];cases ds.isEmpty<;>rfl
 unfold eR at h;have first:dP 1000000 (dh (tB1 (e2 oEq (eV 2) (eF (bj aN)))) (tB1 (e2 oEq (aW (eV 0) (pS (eV 1)) (pS (e2 aj (eV 1) (eK (.int 1))))) (eK (.str (S [47])))))) (cr Fs Fp Fw Fl) [some (.str (S L)),some (.int (pos L r)),some (.lst []),none]=((cr Fs Fp Fw Fl) [some (.str (S L)),some (.int (pos L r)),some (.lst []),none]).bind fun o=>match o with
   | .nx ρ2=>b0 (dh (tB1 (e2 oEq (eV 2) (eF (bj aN)))) (tB1 (e2 oEq (aW (eV 0) (pS (eV 1)) (pS (e2 aj (eV 1) (eK (.int 1))))) (eK (.str (S [47])))))) (cr Fs Fp Fw Fl) 999999 ρ2
   | .ct ρ2=>b0 (dh (tB1 (e2 oEq (eV 2) (eF (bj aN)))) (tB1 (e2 oEq (aW (eV 0) (pS (eV 1)) (pS (e2 aj (eV 1) (eK (.int 1))))) (eK (.str (S [47])))))) (cr Fs Fp Fw Fl) 999999 ρ2
   | .bk ρ2=>some (.nx ρ2)
   | .rt d=>some (.rt d)
   | .ro d=>some (.ro d)
   | .rm d ρ=>some (.rm d ρ)
   | .ex c n=>some (.ex c n):=by
  show b0 _ _ (999999+1) _=_;rw[b0,tf r [] none hr (by simp)]
  rfl
 rcases cO h with ⟨r1,h1,rfl⟩|⟨d1,r1,h1,h2⟩
 ·have hg:=round r [] none _ hr (by simp) h1
  have hg:cr Fs Fp Fw Fl [some (.str (S L)),some (.int (pos L r)),some (.lst []),none]=some (.rt (toT L (.er r1))):=hg;refine .rt ?_;rw[first,hg];rfl
 ·have hg:=round r [] none _ hr (by simp) h1
  obtain⟨v',hg⟩:=hg;have s1:=sp _ _ _ h1;have hr1:=s1.1.trans hr;have a1:=dp r d1 r1 (by omega) h1
  have ll:=hr1.length_le;rcases gR h2 with ⟨r2,h3,rfl⟩|⟨ds,r2,h3,h4⟩
  ·rw[mG sp 1000000 999999 r1 [d1] (by omega) (by omega)] at h3
   have hw:=qcb (env:=fun ds r v=>[some (.str (S L)),some (.int (pos L r)),some (.lst ds),v]) (t:=dh (tB1 (e2 oEq (eV 2) (eF (bj aN)))) (tB1 (e2 oEq (aW (eV 0) (pS (eV 1)) (pS (e2 aj (eV 1) (eK (.int 1))))) (eK (.str (S [47])))))) (g:=cr Fs Fp Fw Fl) (tt:=isC 47) (k:=1) sp dp hLs (fun r ds v hr hds hk hl=>by
    rw[tf r ds v hr hds];cases ds with
    | nil=>simp at hk
    | cons a b=>rfl) round 999999 r1 [d1] v' _ hr1 (by intro e he;simp at he;subst he;exact a1.le (by omega)) (by simp) (by simp;omega) h3
   have hw:b0 _ _ 999999 _=_:=hw;refine .rt ?_;rw[first,hg];exact hw
  ·cases h4;rw[mG sp 1000000 999999 r1 [d1] (by omega) (by omega)] at h3
   have hw:=qcb (env:=fun ds r v=>[some (.str (S L)),some (.int (pos L r)),some (.lst ds),v]) (t:=dh (tB1 (e2 oEq (eV 2) (eF (bj aN)))) (tB1 (e2 oEq (aW (eV 0) (pS (eV 1)) (pS (e2 aj (eV 1) (eK (.int 1))))) (eK (.str (S [47])))))) (g:=cr Fs Fp Fw Fl) (tt:=isC 47) (k:=1) sp dp hLs (fun r ds v hr hds hk hl=>by
    rw[tf r ds v hr hds];cases ds with
    | nil=>simp at hk
    | cons a b=>rfl) round 999999 r1 [d1] v' _ hr1 (by intro e he;simp at he;subst he;exact a1.le (by omega)) (by simp) (by simp;omega) h3
   obtain⟨v2,hw⟩:=hw;refine .nx (ρ':=[some (.str (S L)),some (.int (pos L r2)),some (.lst ds),v2]) ?_ (.rt0 rfl);rw[first,hg];exact hw
end
end K16
end
noncomputable section
namespace K16
open PySem L2 PySem.Builtin PySem.Builtin.Str
noncomputable section
variable {L:List Nat}{Fs Fp Fw Fl:List D->Option D}{fs fp fw fl fh:List Nat->Option Pr}
noncomputable abbrev fZ (L:List Nat) (m:D) (ds:List D) (r:List Nat) (v:Option D×Option D):aA:=[some (.str (S L)),some (.int (pos L r)),some (.lst ds),some m,v.1,v.2]
noncomputable abbrev qiB:DG:=(ad (sIf (tB1 (e2 oNe (aW (eV 0) (pS (eV 1)) (pS (e2 aj (eV 1) (eK (.int 1))))) (eK (.str (S [41]))))) (bc (bA (aC (eK .non) (aC (eV 1) aN)))) aV)
  (bc (bA (aC (bA (aC (e2 oIx (eF (bj (aC (eK (.str (Str.ofString "both"))) (aC (eK (.str (Str.ofString "one"))) aN)))) (al dD (aC (e2 oEq (eV 3) (eK (.str (S [43])))) aN))) (aC (eV 2) aN))) (aC (e2 aj (eV 1) (eK (.int 1))) aN)))))
theorem oB (hL:Ln L){m:D}(hm:m=.str (S [38])∨m=.str (S [43])){r:List Nat}{ds:List D}{v:Option D×Option D}{p:Pr}(hr:r <:+ L) (h:(Pr.then (a7 [41] r) fun _ r=>some (.ok (wOf (kindOf m) (.lst ds)) r))=some p):EvL L qiB (fZ L m ds r v) p:=by
 have t:=tNe (c:=41) (kM (ρ:=fZ L m ds r v) (i:=1) hL hr rfl rfl);unfold qiB;cases hc:isC 41 r with
 | false=>
  have:a7 [41] r=some (.er r):=by
   cases r with
   | nil=>rfl
   | cons d r=>
    have:¬ d=41:=fun z=>by simp[isC,z] at hc
    simp[a7,this]
  rw[this] at h;cases h;exact .ift (by rw[t,hc];rfl) (.rt (oh rfl))
 | true=>
  rw[fQ hc] at h;cases h;refine .iff (by rw[t,hc];rfl) (.rt0 (cy ?_))
  have e:=aX hc;have ea:e2 aj (eV 1) (eK (.int 1)) (fZ L m ds r v)=some (.int (pos L r.tail)):=nu (c:=41) (by show some (D.int (pos L r))=_;rw[<- e])
  have ek:e2 oIx (eF (bj (aC (eK (.str (Str.ofString "both"))) (aC (eK (.str (Str.ofString "one"))) aN)))) (al dD (aC (e2 oEq (eV 3) (eK (.str (S [43])))) aN)) (fZ L m ds r v)=some (.str (kindOf m)):=by
   have q1:e2 oEq (eV 3) (eK (.str (S [43]))) (fZ L m ds r v)=some (.bl (lf m==[43])):=by
    rcases hm with rfl|rfl
    ·rw[aP (x :=.str (S [38])) (y :=.str (S [43])) rfl rfl,eqS,kN];rfl
    ·rw[aP (x :=.str (S [43])) (y :=.str (S [43])) rfl rfl,eqS,kN];rfl
   have q2:al dD (aC (e2 oEq (eV 3) (eK (.str (S [43])))) aN) (fZ L m ds r v)=some (.int (if (lf m==[43])=true then 1 else 0)):=by unfold al aC;rw[q1];rfl
   rw[aP (x :=.lst [.str (Str.ofString "both"),.str (Str.ofString "one")]) rfl q2];rcases hm with rfl|rfl
   ·rfl
   ·show some (D.str (Str.ofString "one"))=some (.str (if S [43]=S [38] then Str.ofString "both" else Str.ofString "one"))
    rw[if_neg (fun z=>by have:=qgx z;simp at this)]
  exact qab (qab ek rfl) ea
theorem qdW (o:Option Pr) (f g:D->List Nat->Option Pr):Pr.then (Pr.then o f) g=Pr.then o fun d r=>Pr.then (f d r) g:=by
 cases o with
 | none=>rfl
 | some p=>cases p<;>rfl
theorem qlG {ρ:aA}{ds:List D}(h:eV 2 ρ=some (.lst ds)):tB1 (e2 oEq (al bF (aC (eV 2) aN)) (eK (.int 1))) ρ=some (ds.length==1):=by
 have q:al bF (aC (eV 2) aN) ρ=some (.int (ds.length:Int)):=by unfold al aC;rw[h];rfl
 unfold tB1;rw[aP q (rfl:eK (.int 1) ρ=some (.int 1)),eqI];show some _=_
 congr 1
 by_cases z:ds.length=1
 ·rw[z];rfl
 ·rw[beq_eq_false_iff_ne.mpr z,beq_eq_false_iff_ne.mpr (by omega)]
theorem qcL (hL:Ln L) (hw:LOk L Fw fw) (dw:Dp fw 2){m:D}(hm:m=.str (S [38])∨m=.str (S [43])) (r:List Nat) (ds:List D) (v:Option D×Option D) (p:Pr) (hr:r <:+ L) (hl:ds.length<=300) (ef:iB fw m r=some p):qc0 L (fZ L m) (c8 Fs Fp Fw Fl) ds r v p:=by
 have hmm:∃ k:Nat,m=.str (S [k])/\lf m=[k]:=by
  rcases hm with rfl|rfl
  ·exact⟨38,rfl,rfl⟩
  ·exact⟨43,rfl,rfl⟩
 obtain⟨k,rfl,hk⟩:=hmm;unfold iB at ef;rw[hk] at ef;have hi:iL (eF (bj (aC (eK (.str (Str.ofString " "))) (aC (eV 3) (aC (eK (.str (Str.ofString " "))) aN))))) (fZ L (.str (S [k])) ds r v)=some ([32,k,32].map fun c=>D.str (S [c])):=by rw[c32];rfl
 have sf:=pE hL (j:=5) (env:=fun r w=>[some (.str (S L)),some (.int (pos L r)),some (.lst ds),some (.str (S [k])),v.1,w]) (fun _ _=>rfl) (fun _ _=>rfl) (fun _ _=>rfl) (fun _ _ _=>rfl) (fun _ _ _=>rfl) [32,k,32] r v.2
 unfold c8;rcases cO ef with ⟨r1,h1,rfl⟩|⟨d1,r1,h1,h2⟩
 ·rcases sf _ hr h1 with ⟨_,_,_,z,_⟩|⟨r',z,e⟩
  ·cases z
  ·cases z;have e':gx (iL (eF (bj (aC (eK (.str (Str.ofString " "))) (aC (eV 3) (aC (eK (.str (Str.ofString " "))) aN)))))) (gN 5) (ke Fs Fp Fw Fl) (fZ L (.str (S [k])) ds r v)=some (.rt (toT L (.er r1))):=by unfold gx;rw[hi];exact e
   show ad _ _ _=_;unfold ad;rw[e'];rfl
 ·rcases sf _ hr h1 with ⟨_,_,v',z,e⟩|⟨r',z,e⟩
  ·cases z;have e':gx (iL (eF (bj (aC (eK (.str (Str.ofString " "))) (aC (eV 3) (aC (eK (.str (Str.ofString " "))) aN)))))) (gN 5) (ke Fs Fp Fw Fl) (fZ L (.str (S [k])) ds r v)=some (.nx [some (.str (S L)),some (.int (pos L r1)),some (.lst ds),some (.str (S [k])),v.1,v']):=by unfold gx;rw[hi];exact e
   have hr1:=(a9 h1).1.trans hr;cases p with
   | er r2=>
    show ad _ _ _=_;rw[aH e',aH (ρ':=[some (.str (S L)),some (.int (pos L r2)),some (.lst ds),some (.str (S [k])),some .non,v']) (by unfold gQ;rw[hw.call hr1 h2 rfl rfl];rfl)]
    unfold ad;rw[fB (nR rfl),oh (L:=L) (r:=r2) rfl];rfl
   | ok d r2=>
    have ha:=dw r1 d r2 (by have:=hr1.length_le;have:=hL.short;omega) h2
    refine⟨(some d,v'),?_⟩;rw[aH e',aH (ρ':=[some (.str (S L)),some (.int (pos L r2)),some (.lst ds),some (.str (S [k])),some d,v']) (by unfold gQ;rw[hw.call hr1 h2 rfl rfl];rfl)]
    rw[aH (by rw[dU (qbk rfl ha)];rfl)]
    exact qa6 rfl rfl hl
  ·cases z
theorem qcN (hL:Ln L) (hLs:L.length<=100) (hw:LOk L Fw fw) (dw:Dp fw 2) (sw:Shr fw) (ew:∀ r r',fw r=some (.er r')->r' <:+ r) (hfh:∀ r p,fh r=some p->∃ fw2,LOk L Fw fw2/\Shr fw2/\Dp fw2 2/\fJ fw2 r=some p):qdS L (du 2 6 (gY Fs Fp Fw Fl)) (gM fw fh):=fun r p hr h40 h=>by
 show EvL L (gY Fs Fp Fw Fl) [some (.str (S L)),some (.int (pos L r)),none,none,none,none] p;unfold gY;simp only[c32,c38,c43,c41];unfold gM at h;rw[fQ h40,ir] at h;have e:=aX h40;have hr1:r.tail <:+ L:=(List.tail_suffix r).trans hr;refine .nx (ρ':=[some (.str (S L)),some (.int (pos L r)),some (.lst []),none,none,none]) rfl ?_;refine .nx (ρ':=[some (.str (S L)),some (.int (pos L r)),some (.lst []),some (.str (S (r.tail.take 1))),none,none]) (by unfold aF;rw[qh2 hL hr rfl rfl];rfl) ?_
 have tin:=qiN (neg:=false) (a:=38) (b:=43) (r:=r.tail) (ρ:=[some (.str (S L)),some (.int (pos L r)),some (.lst []),some (.str (S (r.tail.take 1))),none,none]) (f:=eV 3) rfl;have hp1:∀ (r':List Nat) (c:Nat),r'=c::r'.tail->pos L r'+1=pos L r'.tail:=fun r' c z=>by
  conv=>lhs;rw[z]
  exact ig
 have hpr:=hp1 r 40 e;generalize hr1e:r.tail=r1 at *
 have hl1:r1.length<=100:=yA hr1.length_le hLs;cases hk:(isC 38 r1||isC 43 r1) with
 | true=>
  rw[hk] at h tin;simp only[if_true] at h;obtain⟨fw2,hw2,sw2,dw2,h⟩:=hfh r1 p h;unfold fJ at h;have hmk:∃ m r2,fG r1=some (.ok m r2)/\(m=.str (S [38])∨m=.str (S [43]))/\m=.str (S (r1.take 1))/\r1=(r1.headD 0)::r2:=by
   unfold fG;cases h38:isC 38 r1 with
   | true=>
    have:=aX h38;refine⟨_,_,rfl,.inl rfl,?_,?_⟩
    ·rw[this];rfl
    ·rw[this];rfl
   | false=>
    rw[h38] at hk;have hk:isC 43 r1=true:=hk;rw[hk];have:=aX hk;refine⟨_,_,rfl,.inr rfl,?_,?_⟩
    ·rw[this];rfl
    ·rw[this];rfl
  obtain⟨m,r2,em,hm,hme,er1⟩:=hmk;rw[em,ir] at h;have hr2:=(eE _ _ _ em).1.trans hr1;refine .ift tin (.assoc ?_);have hp2:pos L r+2=pos L r2:=by
   have q1:pos L r1+1=pos L r2:=by
    conv=>lhs;rw[er1]
    exact ig
   omega
  refine .nx (ρ':=fZ L m [] r2 (none,none)) (by
   have:e2 aj (eV 1) (eK (.int 2)) [some (.str (S L)),some (.int (pos L r)),some (.lst []),some (.str (S (r1.take 1))),none,none]=some (.int (pos L r2)):=by rw[aP (x :=.int (pos L r)) (y :=.int 2) rfl rfl,lC,hp2]
   unfold aF;rw[this,<- hme];rfl) ?_
  have t32:=tEq (c:=32) (kM (ρ:=fZ L m [] r2 (none,none)) (i:=1) hL hr2 rfl rfl);cases h32:isC 32 r2 with
  | false=>
   rw[h32] at h;simp only[Bool.false_eq_true,if_false] at h;refine .iff (by rw[t32,h32]) ?_
   exact oB hL hm hr2 h
  | true=>
   rw[h32] at h;simp only[if_true] at h;rw[fQ h32,ir] at h;refine .ift (by rw[t32,h32]) (.assoc ?_)
   have e2':=aX h32;have hr3:r2.tail <:+ L:=(List.tail_suffix r2).trans hr2;have hp3:∀ v,e2 aj (eV 1) (eK (.int 1)) (fZ L m [] r2 v)=some (.int (pos L r2.tail)):=fun v=>nu (c:=32) (by show some (D.int (pos L r2))=_;rw[<- e2'])
   rcases cO h with ⟨r4,h4,rfl⟩|⟨d4,r4,h4,h5⟩
   ·refine .nx (ρ':=fZ L m [] r4 (some .non,none)) (by unfold gQ;rw[hw2.call hr3 h4 rfl (hp3 _)];rfl) (.assoc (.ift (nR rfl) (.rt (oh rfl))))
   ·have ha:=dw2 _ _ _ (by have:=hr3.length_le;omega) h4
    refine .nx (ρ':=fZ L m [] r4 (some d4,none)) (by unfold gQ;rw[hw2.call hr3 h4 rfl (hp3 _)];rfl) (.assoc (.iff (qbk rfl ha) (.nx (ρ':=fZ L m [d4] r4 (some d4,none)) (qa6 (ds:=[]) rfl rfl (by decide)) ?_)))
    exact oB hL hm ((sw2 _ _ _ h4).1.trans hr3) h5
 | false=>
  rw[hk] at h tin;simp only[Bool.false_eq_true,if_false] at h;refine .ife tin (.assoc ?_);have hp1':∀ v1 v2 v3,e2 aj (eV 1) (eK (.int 1)) [some (.str (S L)),some (.int (pos L r)),some (.lst []),v1,v2,v3]=some (.int (pos L r1)):=fun v1 v2 v3=>by rw[aP (x :=.int (pos L r)) (y :=.int 1) rfl rfl,lC,hpr]
  have mk:∀ (r2:List Nat) (v3:D) (one:D),r2 <:+ L->aF 3 (aW (eV 0) (pS (e2 aj (eV 1) (eK (.int 1)))) (pS (e2 aj (eV 1) (eK (.int 2))))) [some (.str (S L)),some (.int (pos L r2)),some (.lst []),some v3,some one,none]=some (.nx (fZ L (.str (S (r2.tail.take 1))) [] r2 (some one,none))):=fun r2 v3 one hr2=>by unfold aF;rw[qh2 hL hr2 rfl rfl];rfl
  have orT:∀ (m one:D) (r2:List Nat),r2 <:+ L->dh (tB1 (e2 jo (eV 4) (eK .non))) (tB1 (e2 oNe (aW (eV 0) (pS (eV 1)) (pS (e2 aj (eV 1) (eK (.int 1))))) (eK (.str (S [32]))))) (fZ L m [] r2 (some one,none))=(tB1 (e2 jo (eV 4) (eK .non)) (fZ L m [] r2 (some one,none))).bind fun b=>if b then some true else some (!isC 32 r2):=fun m one r2 hr2=>by unfold dh;rw[tNe (kM hL hr2 rfl rfl)]
  rcases cO h with ⟨r2,h2,rfl⟩|⟨d2,r2,h2,h⟩
  ·
   refine .nx (ρ':=[some (.str (S L)),some (.int (pos L r2)),some (.lst []),some (.str (S (r1.take 1))),some .non,none]) (by unfold gQ;rw[hw.call hr1 h2 rfl (hp1' _ _ _)];rfl) (.assoc ?_)
   by_cases hr2:r2 <:+ L
   ·refine .nx (mk r2 _ _ hr2) (.assoc (.ift ?_ (.rt (oh rfl))));rw[orT _ _ _ hr2,nR rfl];rfl
   ·exact absurd ((ew _ _ h2).trans hr1) hr2
  ·have hr2:=(sw _ _ _ h2).1.trans hr1;have ha:=dw _ _ _ (by omega) h2
   refine .nx (ρ':=[some (.str (S L)),some (.int (pos L r2)),some (.lst []),some (.str (S (r1.take 1))),some d2,none]) (by unfold gQ;rw[hw.call hr1 h2 rfl (hp1' _ _ _)];rfl) (.assoc (.nx (mk r2 _ _ hr2) (.assoc ?_)))
   have tor:=orT (.str (S (r2.tail.take 1))) d2 r2 hr2;rw[qbk rfl ha] at tor;have tor:dh (tB1 (e2 jo (eV 4) (eK .non))) (tB1 (e2 oNe (aW (eV 0) (pS (eV 1)) (pS (e2 aj (eV 1) (eK (.int 1))))) (eK (.str (S [32]))))) (fZ L (.str (S (r2.tail.take 1))) [] r2 (some d2,none))=some (!isC 32 r2):=tor;cases h32:isC 32 r2 with
   | false=>
    have:a7 [32] r2=some (.er r2):=by
     cases r2 with
     | nil=>rfl
     | cons d r2=>
      have:¬ d=32:=fun z=>by simp[isC,z] at h32
      simp[a7,this]
    rw[this] at h;cases h;exact .ift (by rw[tor,h32];rfl) (.rt (oh rfl))
   | true=>
    rw[fQ h32,ir] at h;refine .iff (by rw[tor,h32];rfl) (.assoc ?_)
    have e2':=aX h32;have hp3:=hp1 r2 32 e2';have hr3:r2.tail <:+ L:=(List.tail_suffix r2).trans hr2;have tin2:=qiN (neg:=true) (a:=38) (b:=43) (r:=r2.tail) (ρ:=fZ L (.str (S (r2.tail.take 1))) [] r2 (some d2,none)) (f:=eV 3) rfl;generalize hr3e:r2.tail=r3 at *
    cases hk3:(isC 38 r3||isC 43 r3) with
    | false=>
     rw[hk3] at tin2;simp only[Bool.or_eq_false_iff] at hk3;have:fG r3=some (.er r3):=by unfold fG;rw[hk3.1,hk3.2];rfl
     rw[this] at h;cases h;refine .ift tin2 (.rt (cy (qab rfl ?_)));rw[aP (x :=.int (pos L r2)) (y :=.int 1) rfl rfl,lC,hp3]
    | true=>
     rw[hk3] at tin2;have hmk:∃ m k r4,fG r3=some (.ok m r4)/\(m=.str (S [38])∨m=.str (S [43]))/\m=.str (S (r3.take 1))/\lf m=[k]/\r3=k::r4:=by
      unfold fG;cases h38:isC 38 r3 with
      | true=>have:=aX h38;refine⟨_,38,_,rfl,.inl rfl,?_,rfl,this⟩;rw[this];rfl
      | false=>rw[h38] at hk3;have hk3:isC 43 r3=true:=hk3;rw[hk3];have:=aX hk3;refine⟨_,43,_,rfl,.inr rfl,?_,rfl,this⟩;rw[this];rfl
     obtain⟨m,k,r4,em,hm,hme,hmk,er3⟩:=hmk;rw[em,ir] at h;have hmore:iB fw m r2=Pr.then (a7 [32] r4) fun _ r=>fw r:=by unfold iB;rw[hmk,e2',er3];simp[a7]
     have h:Pr.then (iB fw m r2) (fun d6 r6=>il (cB (iB fw m) (isC 32) 1000000 r6 [d2,d6]) fun ds r=>Pr.then (a7 [41] r) fun _ r=>some (.ok (wOf (kindOf m) (.lst ds)) r))=some p:=by rw[hmore,qdW];exact h
     refine .iff tin2 (.assoc (.nx (ρ':=fZ L m [d2] r2 (some d2,none)) ?_ ?_))
     ·have:=qa6 (i:=2) (j:=4) (ρ:=fZ L (.str (S (r3.take 1))) [] r2 (some d2,none)) (ds:=[]) (d:=d2) rfl rfl (by simp)
      rw[this,<- hme];rfl
     have tw:∀ (r:List Nat) (ds:List D) (v:Option D×Option D),r <:+ L->dh (tB1 (e2 oEq (al bF (aC (eV 2) aN)) (eK (.int 1)))) (tB1 (e2 oEq (aW (eV 0) (pS (eV 1)) (pS (e2 aj (eV 1) (eK (.int 1))))) (eK (.str (S [32]))))) (fZ L m ds r v)=some (ds.length==1||isC 32 r):=fun r ds v hr=>by unfold dh;rw[qlG rfl,tEq (kM hL hr rfl rfl)];cases (ds.length==1)<;>rfl
     have first:dP 1000000 (dh (tB1 (e2 oEq (al bF (aC (eV 2) aN)) (eK (.int 1)))) (tB1 (e2 oEq (aW (eV 0) (pS (eV 1)) (pS (e2 aj (eV 1) (eK (.int 1))))) (eK (.str (S [32])))))) (c8 Fs Fp Fw Fl) (fZ L m [d2] r2 (some d2,none))=((c8 Fs Fp Fw Fl) (fZ L m [d2] r2 (some d2,none))).bind fun o=>match o with
       | .nx ρ2=>b0 (dh (tB1 (e2 oEq (al bF (aC (eV 2) aN)) (eK (.int 1)))) (tB1 (e2 oEq (aW (eV 0) (pS (eV 1)) (pS (e2 aj (eV 1) (eK (.int 1))))) (eK (.str (S [32])))))) (c8 Fs Fp Fw Fl) 999999 ρ2
       | .ct ρ2=>b0 (dh (tB1 (e2 oEq (al bF (aC (eV 2) aN)) (eK (.int 1)))) (tB1 (e2 oEq (aW (eV 0) (pS (eV 1)) (pS (e2 aj (eV 1) (eK (.int 1))))) (eK (.str (S [32])))))) (c8 Fs Fp Fw Fl) 999999 ρ2
       | .bk ρ2=>some (.nx ρ2)
       | .rt d=>some (.rt d)
       | .ro d=>some (.ro d)
       | .rm d ρ=>some (.rm d ρ)
       | .ex c n=>some (.ex c n):=by
      show b0 _ _ (999999+1) _=_;rw[b0,tw r2 [d2] _ hr2]
      rfl
     have a2:=ha;rcases cO h with ⟨r6,h6,rfl⟩|⟨d6,r6,h6,h7⟩
     ·have hg:=qcL (Fs:=Fs) (Fp:=Fp) (Fl:=Fl) hL hw dw hm r2 [d2] (some d2,none) _ hr2 (by simp) h6
      have hg:c8 Fs Fp Fw Fl (fZ L m [d2] r2 (some d2,none))=some (.rt (toT L (.er r6))):=hg;refine .rt ?_;rw[first,hg];rfl
     ·have hg:=qcL (Fs:=Fs) (Fp:=Fp) (Fl:=Fl) hL hw dw hm r2 [d2] (some d2,none) _ hr2 (by simp) h6
      obtain⟨v',hg⟩:=hg;have hr6:=(dN sw _ _ _ h6).1.trans hr2;have l6:=hr6.length_le;have l2:=hr2.length_le;have a6:=qaC dw sw _ _ _ (by omega) h6
      have lp:=fun (o) (h3:cB (iB fw m) (isC 32) 1000000 r6 [d2,d6]=some o)=>qcb (env:=fZ L m) (t:=dh (tB1 (e2 oEq (al bF (aC (eV 2) aN)) (eK (.int 1)))) (tB1 (e2 oEq (aW (eV 0) (pS (eV 1)) (pS (e2 aj (eV 1) (eK (.int 1))))) (eK (.str (S [32])))))) (g:=c8 Fs Fp Fw Fl) (tt:=isC 32) (k:=2) (c:=2) (dN sw) (fun r d r' hl he=>(qaC dw sw r d r' hl he).le (by omega)) hLs (fun r ds v hr hds hk hl=>by
        rw[tw r ds v hr,beq_eq_false_iff_ne.mpr (by omega)];rfl) (fun r ds v p hr hl ef=>qcL hL hw dw hm r ds v p hr hl ef) 999999 r6 [d2,d6] v' o hr6 (by
        intro e he;simp at he;rcases he with rfl|rfl
        ·exact a2.le (by omega)
        ·exact a6.le (by omega)) (by simp) (by simp;omega) (by rw[<- mG (dN sw) 1000000 999999 r6 [d2,d6] (by omega) (by omega)];exact h3)
      rcases gR h7 with ⟨r7,h8,rfl⟩|⟨ds,r7,h8,h9⟩
      ·have hw:=lp _ h8;refine .rt ?_;rw[first,hg];exact hw
      ·obtain⟨v2,hw⟩:=lp _ h8;refine .nx (ρ':=fZ L m ds r7 v2) ?_ (oB hL hm ((eG (dN sw) h8).1.trans hr6) h9);rw[first,hg];exact hw
end
noncomputable def Erx (f:List Nat->Option Pr):Prop:=∀ r r',f r=some (.er r')->r' <:+ r
theorem eP:∀ {x r r':List Nat},a7 x r=some (.er r')->r' <:+ r:=by
 intro x
 induction x with
 | nil=>intro r r' h;cases h
 | cons c x ih=>
  intro r r' h;cases r with
  | nil=>cases h;exact List.suffix_refl _
  | cons e r=>
   unfold a7 at h
   split at h
   ·exact(ih h).trans (List.suffix_cons e r)
   ·cases h;exact List.suffix_refl _
theorem bB {o:Option Pr}{k:D->List Nat->Option Pr}{r r':List Nat}(h:Pr.then o k=some (.er r')) (h1:∀ r1,o=some (.er r1)->r1 <:+ r) (h2:∀ d r1,o=some (.ok d r1)->k d r1=some (.er r')->r' <:+ r):r' <:+ r:=by
 rcases cO h with ⟨r1,e,z⟩|⟨d,r1,e,z⟩
 ·cases z;exact h1 _ e
 ·exact h2 d r1 e z
theorem mI {o:Option (List D×List Nat ⊕ List Nat)}{k:List D->List Nat->Option Pr}{r r':List Nat}(h:il o k=some (.er r')) (h1:∀ r1,o=some (.inr r1)->r1 <:+ r) (h2:∀ ds r1,o=some (.inl (ds,r1))->k ds r1=some (.er r')->r' <:+ r):r' <:+ r:=by
 rcases gR h with ⟨r1,e,z⟩|⟨d,r1,e,z⟩
 ·cases z;exact h1 _ e
 ·exact h2 d r1 e z
theorem qaF {f:List Nat->Option Pr}{t:List Nat->Bool}(hs:Shr f) (he:Erx f):∀ {n:Nat}{r:List Nat}{acc:List D}{r':List Nat},cB f t n r acc=some (.inr r')->r' <:+ r:=by
 intro n
 induction n with
 | zero=>intro r acc r' h;cases h
 | succ n ih=>
  intro r acc r' h;unfold cB at h
  split at h
  ·cases ef:f r with
   | none=>rw[ef] at h;cases h
   | some p=>
    rw[ef] at h;cases p with
    | er r1=>cases h;exact he _ _ ef
    | ok d r1=>exact(ih h).trans (hs _ _ _ ef).1
  ·cases h
theorem qhF:Erx gO:=fun r r' h=>by
 unfold gO at h
 split at h
 ·cases h
 ·split at h
  ·cases h;exact List.suffix_refl _
  ·cases h
theorem qg3:Erx fP:=fun r r' h=>by
 cases r with
 | nil=>cases h;exact List.suffix_refl _
 | cons c r=>
  have h:(if c=92 then (if r.head? = some 92 then some (Pr.ok (.str (S [92])) r.tail) else if r.head? = some 113 then some (Pr.ok (.str (S [34])) r.tail) else some (Pr.er r)) else some (Pr.ok (.str (S [c])) r))=some (.er r'):=h
  split at h
  ·split at h
   ·cases h
   ·split at h
    ·cases h
    ·cases h;exact List.suffix_cons _ _
  ·cases h
theorem qdu:Erx fG:=fun r r' h=>by
 unfold fG at h
 split at h
 ·cases h
 ·split at h
  ·cases h
  ·cases h;exact List.suffix_refl _
theorem qgN:Erx kh:=fun r r' h=>
 bB h (fun r1 e=>eP e) fun d r1 e z=>mI z (fun r2 e2=>(qaF hW qg3 e2).trans (a9 e).1) fun ds r2 e2 z=>bB z (fun r3 e3=>(eP e3).trans ((eG hW e2).1.trans (a9 e).1)) fun _ _ _ z=>by cases z
theorem qgX {fw:List Nat->Option Pr}(sw:Shr fw) (hw:Erx fw):Erx (gF fw):=fun r r' h=>
 bB h (fun r1 e=>eP e) fun d r1 e z=>by
  have a:=(a9 e).1;have c:(if isC 47 r1 then r1.tail else r1) <:+ r1:=by
   split
   ·exact List.tail_suffix _
   ·exact List.suffix_refl _
  refine bB z (fun r2 e2=>(qhF _ _ e2).trans (c.trans a)) fun d2 r2 e2 z =>?_
  have b:=(j5 _ _ _ e2).1.trans (c.trans a)
  split at z
  ·split at z
   ·cases z;exact(List.tail_suffix _).trans b
   ·refine bB z (fun r3 e3=>(hw _ _ e3).trans ((List.tail_suffix _).trans b)) fun d3 r3 e3 z =>?_
    exact bB z (fun r4 e4=>(eP e4).trans ((sw _ _ _ e3).1.trans ((List.tail_suffix _).trans b))) fun _ _ _ z=>by cases z
  ·cases z
theorem qeU {fp:List Nat->Option Pr}(sp:Shr fp) (hp:Erx fp):Erx (eR fp):=fun r r' h=>
 bB h (fun r1 e=>hp _ _ e) fun d r1 e z=>mI z (fun r2 e2=>(qaF sp hp e2).trans (sp _ _ _ e).1) fun ds r2 e2 z=>by cases z
theorem qgI {fs fl:List Nat->Option Pr}(hs:Erx fs) (hl:Erx fl):Erx (dZ fs fl):=fun r r' h=>by
 unfold dZ at h
 split at h
 ·exact bB h (fun r1 e=>hs _ _ e) fun _ _ _ z=>by cases z
 ·split at h
  ·exact hl _ _ h
  ·split at h
   ·exact bB h (fun r1 e=>qgN _ _ e) fun _ _ _ z=>by cases z
   ·exact bB h (fun r1 e=>eP e) fun _ _ _ z=>by cases z
theorem qhJ {fw:List Nat->Option Pr}{m:D}(hw:Erx fw):Erx (iB fw m):=fun r r' h=>
 bB h (fun r1 e=>eP e) fun d r1 e z=>(hw _ _ z).trans (a9 e).1
theorem qhP {fw fh:List Nat->Option Pr}(sw:Shr fw) (hw:Erx fw) (hh:Erx fh):Erx (gM fw fh):=fun r r' h=>
 bB h (fun r1 e=>eP e) fun d r1 e z=>by
  have a:=(a9 e).1
  split at z
  ·exact(hh _ _ z).trans a
  ·refine bB z (fun r2 e2=>(hw _ _ e2).trans a) fun d2 r2 e2 z =>?_
   have b2:=(sw _ _ _ e2).1.trans a;refine bB z (fun r3 e3=>(eP e3).trans b2) fun d3 r3 e3 z =>?_
   have b3:=(a9 e3).1.trans b2;refine bB z (fun r4 e4=>(qdu _ _ e4).trans b3) fun m r4 e4 z =>?_
   have b4:=(eE _ _ _ e4).1.trans b3;refine bB z (fun r5 e5=>(eP e5).trans b4) fun d5 r5 e5 z =>?_
   have b5:=(a9 e5).1.trans b4;refine bB z (fun r6 e6=>(hw _ _ e6).trans b5) fun d6 r6 e6 z =>?_
   have b6:=(sw _ _ _ e6).1.trans b5;refine mI z (fun r7 e7=>(qaF (dN sw) (qhJ hw) e7).trans b6) fun ds r7 e7 z =>?_
   exact bB z (fun r8 e8=>(eP e8).trans ((eG (dN sw) e7).1.trans b6)) fun _ _ _ z=>by cases z
theorem qe4 {fw:List Nat->Option Pr}(sw:Shr fw) (hw:Erx fw):Erx (fJ fw):=fun r r' h=>
 bB h (fun r1 e=>qdu _ _ e) fun m r1 e z=>by
  have a:=(eE _ _ _ e).1
  split at z
  ·refine bB z (fun r2 e2=>(eP e2).trans a) fun d2 r2 e2 z =>?_
   have b2:=(a9 e2).1.trans a;refine bB z (fun r3 e3=>(hw _ _ e3).trans b2) fun d3 r3 e3 z =>?_
   exact bB z (fun r4 e4=>(eP e4).trans ((sw _ _ _ e3).1.trans b2)) fun _ _ _ z=>by cases z
  ·exact bB z (fun r2 e2=>(eP e2).trans a) fun _ _ _ z=>by cases z
theorem lU:Erx fun _=>none:=fun r r' h=>by cases h
theorem qgt:∀ n:Nat,Erx (dQ n)/\Erx (je n)/\Erx (cV n)/\Erx (iG n)/\Erx (gE n)
 | 0=>⟨lU,lU,lU,lU,lU⟩
 | n+1=>by obtain⟨h1,h2,h3,h4,h5⟩:=qgt n;obtain⟨s1,s2,s3,s4,s5⟩:=jz n;exact⟨show Erx (eR (je n)) from qeU s2 h2,show Erx (gF (cV n)) from qgX s3 h3,show Erx (dZ (dQ n) (iG n)) from qgI h1 h4,show Erx (gM (cV n) (gE n)) from qhP s3 h3 h5,show Erx (fJ (cV n)) from qe4 s3 h3⟩
theorem qj6:∀ n:Nat,WAt (cV n)
 | 0=>fun r p h=>by cases h
 | n+1=>show WAt (dZ (dQ n) (iG n)) from qgK
theorem lT {L:List Nat}{F:List D->Option D}:LOk L F fun _=>none:=fun r p _ h=>by cases h
theorem qj5 {L:List Nat}(hL:Ln L) (hLs:L.length<=100):∀ n m:Nat,n<=m->(LOk L (bK m) (dQ n)/\LOk L (cE m) (je n)/\LOk L (bI m) (cV n)/\qdS L (cF m) (iG n))/\LOk L (bI m) (cV (n-1)):=by
 intro n
 induction n with
 | zero=>intro m _;exact⟨⟨lT,lT,lT,fun r p _ _ h=>by cases h⟩,lT⟩
 | succ n ih=>
  intro m hm;cases m with
  | zero=>omega
  | succ m=>
   obtain⟨⟨h1,h2,h3,h4⟩,h5⟩:=ih m (by omega)
   obtain⟨s1,s2,s3,s4,s5⟩:=jz n;obtain⟨d1,d2,d3,d4,d5⟩:=qa7 n;obtain⟨e1,e2,e3,e4,e5⟩:=qgt n;have hw':LOk L (bI (m+1)) (cV n):=(ih (m+1) (by omega)).1.2.2.1
   refine⟨⟨show LOk L (du 2 4 (eJ _ _ _ _)) (eR (je n)) from qbm hL hLs h2 d2 s2,show LOk L (du 2 6 (gX _ _ _ _)) (gF (cV n)) from qcj hL h3 d3 s3 (qj6 n),
    show LOk L (du 2 4 (gW _ _ _ _)) (dZ (dQ n) (iG n)) from qca hL h1 h4 d1,show qdS L (du 2 6 (gY _ _ _ _)) (gM (cV n) (gE n)) from qcN hL hLs h3 d3 s3 e3 fun r p hp =>?_⟩,hw'⟩
   cases n with
   | zero=>cases hp
   | succ n=>exact⟨cV n,h5,(jz n).2.2.1,(qa7 n).2.2.1,hp⟩
end K16
end
noncomputable section
namespace K16
open PySem L2 PySem.Builtin PySem.Builtin.Str
noncomputable def okc (c:Nat):Prop:=32<=c/\c<=126/\c≠37
theorem qf1 {sep:List Nat}:∀ {ls:List (List Nat)}{c:Nat},c∈gy sep ls->c∈sep∨∃ x∈ls,c∈x
 | [],c,h=>by simp[gy] at h
 | x::ls,c,h=>by
  rw[im] at h;rcases zO.mp h with h|h
  ·exact .inr ⟨x,zD,h⟩
  ·obtain⟨l,hl,hc⟩:=List.mem_flatten.mp h;obtain⟨y,hy,rfl⟩:=List.mem_map.mp hl;rcases zO.mp hc with z|z
   ·exact .inl z
   ·exact .inr ⟨y,zB _ hy,z⟩
theorem qgc {x:List Nat}(h:∀ c∈x,okc c):∀ c∈K15.esc x,okc c:=fun c hc=>by
 obtain⟨l,hl,hc⟩:=List.mem_flatten.mp hc;obtain⟨d,hd,rfl⟩:=List.mem_map.mp hl;unfold K15.oM at hc
 split at hc
 ·simp at hc;rcases hc with rfl|rfl<;>exact⟨by decide,by decide,by decide⟩
 ·split at hc
  ·simp at hc;subst hc;exact⟨by decide,by decide,by decide⟩
  ·simp at hc;subst hc;exact h _ hd
theorem qkX {x:List Nat}(h:K15.NmL x):∀ c∈x,okc c:=fun c hc=>by
 rcases h with rfl|⟨_,_,h⟩
 ·simp at hc;subst hc;exact⟨by decide,by decide,by decide⟩
 ·have:=h c hc;exact⟨by omega,by omega,by omega⟩
theorem qeZ (b:Bool):∀ c∈K15.fu b,okc c:=fun c hc=>by
 have:c=47:=by cases b<;>simp[K15.fu] at hc<;>exact hc
 subst this;exact⟨by decide,by decide,by decide⟩
theorem qc9 {x:List Nat}(h:K15.TxL x):∀ c∈x,okc c:=fun c hc=>(K15.jM h).1 c hc
theorem qeg {m:Nat}{ls:List (List Nat)}{c:Nat}(h:c∈K15.jD m ls):c=40∨c=41∨c=32∨c=m∨∃ x∈ls,c∈x:=by
 match ls,h with
 | [],h=>simp[K15.jD] at h;rcases h with h|h|h<;>simp[h]
 | [x],h=>
  simp[K15.jD] at h;rcases h with h|h|h|h|h
  ·simp[h]
  ·simp[h]
  ·simp[h]
  ·exact .inr (.inr (.inr (.inr ⟨x,by simp,h⟩)))
  ·simp[h]
 | x::y::r,h=>
  have h:c∈40::gy [32,m,32] (x::y::r)++[41]:=h;rcases zO.mp h with h|h
  ·rcases zG.mp h with h|h
   ·exact .inl h
   ·rcases qf1 h with h|h
    ·simp only[zG,List.not_mem_nil,or_false] at h;rcases h with h|h|h
     ·exact .inr (.inr (.inl h))
     ·exact .inr (.inr (.inr (.inl h)))
     ·exact .inr (.inr (.inl h))
    ·exact .inr (.inr (.inr (.inr h)))
  ·simp at h;simp[h]
theorem qbn {f:D->List Nat}{inner:Bool}{x:List Nat}{w:D}(hx:K15.NmL x) (hw:∀ c∈f w,okc c):∀ c∈K15.tS f (jP (K15.gB inner) (S x) w),okc c:=fun c hc=>by
 rw[K15.nw] at hc;rcases zO.mp hc with hc|hc
 ·rcases zO.mp hc with hc|hc
  ·exact qeZ _ c hc
  ·exact qkX hx c hc
 ·split at hc
  ·simp at hc
  ·simp at hc;rcases hc with rfl|hc|rfl
   ·exact⟨by decide,by decide,by decide⟩
   ·exact hw c hc
   ·exact⟨by decide,by decide,by decide⟩
theorem qcf:∀ (n:Nat) (w:D),K15.WqW n w->∀ c∈K15.tW n w,okc c
 | 0,w,h=>by
  rcases h with rfl|⟨x,hx,rfl⟩
  ·rw[K15.mr];intro c hc;simp at hc;rcases hc with rfl|rfl|rfl<;>exact⟨by decide,by decide,by decide⟩
  ·rw[K15.iu];intro c hc;simp at hc;rcases hc with rfl|hc|rfl
   ·exact⟨by decide,by decide,by decide⟩
   ·exact qgc (qc9 hx) c hc
   ·exact⟨by decide,by decide,by decide⟩
 | n+1,w,h=>by
  rcases h with rfl|⟨x,hx,rfl⟩|⟨ss,rfl,_,_,hss⟩|⟨one,ws,rfl,_,hws⟩
  ·rw[K15.mr];intro c hc;simp at hc;rcases hc with rfl|rfl|rfl<;>exact⟨by decide,by decide,by decide⟩
  ·rw[K15.iu];intro c hc;simp at hc;rcases hc with rfl|hc|rfl
   ·exact⟨by decide,by decide,by decide⟩
   ·exact qgc (qc9 hx) c hc
   ·exact⟨by decide,by decide,by decide⟩
  ·rw[K15.qaf];intro c hc;obtain⟨l,hl,hc⟩:=List.mem_flatten.mp hc;obtain⟨s,hs,rfl⟩:=List.mem_map.mp hl;obtain⟨inner,x,w,rfl,hx,hw⟩:=hss s hs;exact qbn hx (qcf n w hw) c hc
  ·rw[K15.qae];intro c hc;rcases qeg hc with rfl|rfl|rfl|rfl|⟨x,hx,hc⟩
   ·exact⟨by decide,by decide,by decide⟩
   ·exact⟨by decide,by decide,by decide⟩
   ·exact⟨by decide,by decide,by decide⟩
   ·unfold K15.dz;cases one<;>exact⟨by decide,by decide,by decide⟩
   ·obtain⟨w,hw,rfl⟩:=List.mem_map.mp hx;exact qcf n w (hws w hw) c hc
theorem qgQ {n:Nat}{ss:List D}(h:∀ s∈ss,K15.WqS n s):∀ c∈K15.tSs n ss,okc c:=fun c hc=>by
 obtain⟨l,hl,hc⟩:=List.mem_flatten.mp hc;obtain⟨s,hs,rfl⟩:=List.mem_map.mp hl;obtain⟨inner,x,w,rfl,hx,hw⟩:=h s hs;exact qbn hx (qcf n w hw) c hc
theorem slG (l:List Nat) (i j:Nat) (hij:i<=j):Txt.slice (S l) (some (i:Int)) (some (j:Int))=S ((l.drop i).take (j-i)):=by
 by_cases hi:i<=l.length
 ·exact n8 l i j hij hi
 ·have e:Txt.slice (S l) (some (i:Int)) (some (j:Int))=Txt.slice (S l) (some (l.length:Int)) (some (l.length:Int)):=by
   unfold Txt.slice strSliceIndices;rw[dB];have h1:min (i:Int) (l.length:Int)=l.length:=by omega
   have h2:min (j:Int) (l.length:Int)=l.length:=by omega
   have h3:¬ ((i:Int)<0):=by omega
   have h4:¬ ((j:Int)<0):=by omega
   have h5:¬ ((l.length:Int)<0):=by omega
   simp only[h1,h2,h3,h4,h5,if_false,Int.min_self,show ((1:Int) > 0) from by decide,if_true]
  rw[e,n8 l l.length l.length (zL _) (zL _)];rw[List.drop_eq_nil_of_le (by omega:l.length<=i)];simp
theorem qiQ (l:List Nat) (j:Nat):Txt.slice (S l) none (some (j:Int))=S (l.take j):=by
 have e:Txt.slice (S l) none (some (j:Int))=Txt.slice (S l) (some ((0:Nat):Int)) (some (j:Int)):=by
  unfold Txt.slice strSliceIndices;rw[dB];have h1:max (0:Int) (min (((0:Nat):Int)) (l.length:Int))=0:=by omega
  have h3:¬ (((0:Nat):Int)<0):=by omega
  simp only[h3,if_false,show ((1:Int) > 0) from by decide,if_true,h1]
 rw[e,slG l 0 j (Nat.zero_le _)];simp
theorem qiR (l:List Nat) (i:Nat):Txt.slice (S l) (some (i:Int)) none=S (l.drop i):=by
 have e:Txt.slice (S l) (some (i:Int)) none=Txt.slice (S l) (some (i:Int)) (some ((l.length+i:Nat):Int)):=by
  unfold Txt.slice strSliceIndices;rw[dB];have h1:max (0:Int) (min (((l.length+i:Nat):Int)) (l.length:Int))=l.length:=by omega
  have h3:¬ (((l.length+i:Nat):Int)<0):=by omega
  simp only[h3,if_false,show ((1:Int) > 0) from by decide,if_true,h1]
 rw[e,slG l i (l.length+i) (by omega)]
 rw[List.take_of_length_le (by simp)]
noncomputable def LS (x:Str):Prop:=∃ l,x=S l/\(∀ c∈l,okc c)/\l.length<=60
theorem LS.ln {l:List Nat}(h1:∀ c∈l,okc c) (h2:l.length<=60):Ln l:=⟨by omega,h1⟩
noncomputable def sg:List Nat:=[47,91,93,40,41,38,43,32,97,110,121,42,34,92,113,98,122,65,90,124,48,57,45,123,125,126]
theorem qkA:Str.ofString "/[]()&+ any*\"\\q" ++ Str.ofString "bzAZ|09-{}~" = S sg:=by decide +kernel
theorem qkz:∀ c∈sg,okc c:=by
 intro c hc;have:∀ c∈sg,32<=c/\c<=126/\c≠37:=by decide
 exact this c hc
theorem ixS {l:List Nat}{k:Nat}(h:k<l.length) (hb:l.length<=1000):oIx (.str (S l)) (.int (k:Int))=some (.str (S [l[k]])):=by
 show (if (S l).length<=cH then (atI (S l).cps.toList (k:Int)).map fun c=>D.str ⟨#[c]⟩ else none)=_
 rw[if_pos (by rw[dB];exact gr (by omega)),fm,atN (zI h)]
 rfl
theorem ixI {xs:List Int}{k:Nat}(h:k<xs.length):oIx (.lst (xs.map D.int)) (.int (k:Int))=some (.int xs[k]):=by
 show atI (xs.map D.int) (k:Int)=_;rw[nO,atN (zI h)];rfl
theorem qei {l:List Nat}(h:l.length<=1000):bF [.str (S l)]=some (.int (l.length:Int)):=by
 show (if (S l).length<=cH then some (D.int ((S l).length:Int)) else none)=_
 rw[if_pos (by rw[dB];exact gr (by omega)),dB]
theorem ny {l l':List Nat}(h:∀ c∈l,okc c) (s:∀ c∈l',c∈l):∀ c∈l',okc c:=fun c hc=>h c (s c hc)
theorem qih {l:List Nat}{xs:List Int}(hl:∀ c∈l,okc c) (hl2:l.length<=58) (hx:xs.length=16) (h0:∀ x∈xs,0<=x):∃ x,km [.str (S l),.lst (xs.map D.int)]=some (.str x)/\LS x:=by
 obtain⟨z0,ez0⟩:∃ z,oIx (.lst (xs.map D.int)) (.int 0)=some (.int z):=⟨_,ixI (k:=0) (by omega)⟩
 obtain⟨z1,ez1⟩:∃ z,oIx (.lst (xs.map D.int)) (.int 1)=some (.int z):=⟨_,ixI (k:=1) (by omega)⟩
 obtain⟨z2,ez2⟩:∃ z,oIx (.lst (xs.map D.int)) (.int 2)=some (.int z):=⟨_,ixI (k:=2) (by omega)⟩
 have m1:=yB z1 (show (26:Int)≠0 by decide)
 have m2:=zX z1 (show (0:Int)<26 by decide)
 obtain⟨k,hk⟩:∃ k:Nat,z1%26=(k:Int):=⟨(z1%26).toNat,by omega⟩
 have hk26:k<sg.length:=by show k<26;omega
 have a1:=yB z2 (show ((l.length:Int)+1)≠0 by omega)
 have a2:=zX z2 (show (0:Int)<(l.length:Int)+1 by omega)
 obtain⟨a,ha⟩:∃ a:Nat,z2%((l.length:Int)+1)=(a:Int):=⟨(z2%((l.length:Int)+1)).toNat,by omega⟩
 have hal:a<=l.length:=by omega
 have hc0:=qkz sg[k] (List.getElem_mem hk26);generalize hcc:sg[k]=c at hc0;generalize hr:z0%7=tn
 let ρ0:aA:=[some (.str (S l)),some (.lst (xs.map D.int)),some (.str (S sg)),some (.str (S [c])),some (.int (a:Int)),some (.int tn),none]
 have e2':aF 2 (e2 aj (eK (.str (Str.ofString "/[]()&+ any*\"\\q"))) (eK (.str (Str.ofString "bzAZ|09-{}~")))) [some (.str (S l)),some (.lst (xs.map D.int)),none,none,none,none,none]=some (.nx [some (.str (S l)),some (.lst (xs.map D.int)),some (.str (S sg)),none,none,none,none]):=by
  have:e2 aj (eK (.str (Str.ofString "/[]()&+ any*\"\\q"))) (eK (.str (Str.ofString "bzAZ|09-{}~"))) [some (.str (S l)),some (.lst (xs.map D.int)),none,none,none,none,none]=some (.str (S sg)):=by rw[aP (x :=.str (Str.ofString "/[]()&+ any*\"\\q")) (y :=.str (Str.ofString "bzAZ|09-{}~")) rfl rfl];show (if (Str.ofString "/[]()&+ any*\"\\q").length+(Str.ofString "bzAZ|09-{}~").length<=cH then some (D.str (Str.ofString "/[]()&+ any*\"\\q" ++ Str.ofString "bzAZ|09-{}~")) else none)=_;rw[if_pos (gr (by decide +kernel)),qkA]
  unfold aF;rw[this];rfl
 have e3:aF 3 (e2 oIx (eV 2) (e2 br (e2 oIx (eV 1) (eK (.int 1))) (al bF (aC (eV 2) aN)))) [some (.str (S l)),some (.lst (xs.map D.int)),some (.str (S sg)),none,none,none,none]=some (.nx [some (.str (S l)),some (.lst (xs.map D.int)),some (.str (S sg)),some (.str (S [c])),none,none,none]):=by
  have q1:al bF (aC (eV 2) aN) [some (.str (S l)),some (.lst (xs.map D.int)),some (.str (S sg)),none,none,none,none]=some (.int 26):=qei (l:=sg) (by decide)
  have q2:e2 oIx (eV 1) (eK (.int 1)) [some (.str (S l)),some (.lst (xs.map D.int)),some (.str (S sg)),none,none,none,none]=some (.int z1):=ez1;have q3:e2 br (e2 oIx (eV 1) (eK (.int 1))) (al bF (aC (eV 2) aN)) [some (.str (S l)),some (.lst (xs.map D.int)),some (.str (S sg)),none,none,none,none]=some (.int (k:Int)):=by rw[aP q2 q1,gj (by decide),hk]
  unfold aF;rw[aP (x :=.str (S sg)) rfl q3,ixS hk26 (by decide),hcc];rfl
 have e4:aF 4 (e2 br (e2 oIx (eV 1) (eK (.int 2))) (e2 aj (al bF (aC (eV 0) aN)) (eK (.int 1)))) [some (.str (S l)),some (.lst (xs.map D.int)),some (.str (S sg)),some (.str (S [c])),none,none,none]=some (.nx [some (.str (S l)),some (.lst (xs.map D.int)),some (.str (S sg)),some (.str (S [c])),some (.int (a:Int)),none,none]):=by
  have q1:al bF (aC (eV 0) aN) [some (.str (S l)),some (.lst (xs.map D.int)),some (.str (S sg)),some (.str (S [c])),none,none,none]=some (.int (l.length:Int)):=qei (by omega)
  have q2:e2 oIx (eV 1) (eK (.int 2)) [some (.str (S l)),some (.lst (xs.map D.int)),some (.str (S sg)),some (.str (S [c])),none,none,none]=some (.int z2):=ez2;have q3:e2 aj (al bF (aC (eV 0) aN)) (eK (.int 1)) [some (.str (S l)),some (.lst (xs.map D.int)),some (.str (S sg)),some (.str (S [c])),none,none,none]=some (.int ((l.length:Int)+1)):=by rw[aP q1 (rfl:eK (.int 1) _=_),lC]
  unfold aF;rw[aP q2 q3,gj (by omega),ha];rfl
 have e5:aF 5 (e2 br (e2 oIx (eV 1) (eK (.int 0))) (eK (.int 7))) [some (.str (S l)),some (.lst (xs.map D.int)),some (.str (S sg)),some (.str (S [c])),some (.int (a:Int)),none,none]=some (.nx ρ0):=by have q2:e2 oIx (eV 1) (eK (.int 0)) [some (.str (S l)),some (.lst (xs.map D.int)),some (.str (S sg)),some (.str (S [c])),some (.int (a:Int)),none,none]=some (.int z0):=ez0;unfold aF;rw[aP q2 (rfl:eK (.int 7) _=_),gj (by decide),hr];rfl
 have t5:∀ n:Int,tB1 (e2 oEq (eV 5) (eK (.int n))) ρ0=some (tn==n):=fun n=>by unfold tB1;rw[aP (x :=.int tn) (y :=.int n) rfl rfl,eqI];rfl
 have bl:=bf;have sTo:aW (eV 0) pN (pS (eV 4)) ρ0=some (.str (S (l.take a))):=by
  show (if (S l).length<=cH then some (D.str (Txt.slice (S l) none (some (a:Int)))) else none)=_
  rw[if_pos (by rw[dB];omega),qiQ]
 have sFr:∀ (f:DF) (b:Nat) (ρ:aA),eV 0 ρ=some (.str (S l))->f ρ=some (.int (b:Int))->aW (eV 0) (pS f) pN ρ=some (.str (S (l.drop b))):=fun f b ρ h0 hf=>by unfold aW pS pN;rw[h0,hf];simp only[zA];rw[if_pos (by rw[dB];omega),qiR]
 have sMd:∀ (f g:DF) (b d:Nat) (ρ:aA),eV 0 ρ=some (.str (S l))->f ρ=some (.int (b:Int))->g ρ=some (.int (d:Int))->b<=d->aW (eV 0) (pS f) (pS g) ρ=some (.str (S ((l.drop b).take (d-b)))):=fun f g b d ρ h0 hf hg hbd=>by unfold aW pS;rw[h0,hf,hg];simp only[zA];rw[if_pos (by rw[dB];omega),slG l b d hbd]
 have pA1:∀ ρ:aA,eV 4 ρ=some (.int (a:Int))->e2 aj (eV 4) (eK (.int 1)) ρ=some (.int ((a+1:Nat):Int)):=fun ρ h=>by rw[aP h (rfl:eK (.int 1) ρ=_),lC];simp
 have pA2:∀ ρ:aA,eV 4 ρ=some (.int (a:Int))->e2 aj (eV 4) (eK (.int 2)) ρ=some (.int ((a+2:Nat):Int)):=fun ρ h=>by rw[aP h (rfl:eK (.int 2) ρ=_),lC];simp
 have tl:(l.take a).length<=a:=by simp;omega
 have dl:∀ b,(l.drop b).length=l.length-b:=fun b=>by simp
 have tk:∀ c∈l.take a,okc c:=ny hl fun c h=>List.mem_of_mem_take h
 have dk:∀ b,∀ c∈l.drop b,okc c:=fun b=>ny hl fun c h=>List.mem_of_mem_drop h
 have fin:∀ g:DG,(g ρ0).bind iO=km [.str (S l),.lst (xs.map D.int)]->∀ x,g ρ0=some (.rt (.str x))->LS x->∃ x,km [.str (S l),.lst (xs.map D.int)]=some (.str x)/\LS x:=fun g h x hg hx=>⟨x,by rw[<- h,hg];rfl,hx⟩
 refine fin _ (show _=(qaN [some (.str (S l)),some (.lst (xs.map D.int)),none,none,none,none,none]).bind iO by unfold qaN;rw[aH e2',aH e3,aH e4,aH e5]) ?_ ?_ ?_
 ·exact if tn=1 then S (l.take a) else if tn=2 then S (l.take a++[c]++l.drop a) else if tn=3 then S (l.take a++[c]++l.drop (a+1)) else if tn=4 then S (l.take a++l.drop (a+1)) else if tn=5 then S (l.take a++((l.drop (a+1)).take 1++(l.drop a).take 1)++l.drop (a+2)) else S l
 ·by_cases h1:tn=1
  ·rw[if_pos h1];unfold ad;rw[fB (by rw[t5];simp[h1]),cy sTo];rfl
  rw[if_neg h1,aH (by rw[dU (by rw[t5];simp[h1])];rfl)]
  by_cases h2:tn=2
  ·rw[if_pos h2];have:e2 aj (e2 aj (aW (eV 0) pN (pS (eV 4))) (eV 3)) (aW (eV 0) (pS (eV 4)) pN) ρ0=some (.str (S (l.take a++[c]++l.drop a))):=by rw[aP (x :=.str (S (l.take a++[c]))) (by rw[aP sTo (show eV 3 ρ0=some (.str (S [c])) from rfl),cN (by simp;omega)]) (sFr (eV 4) a ρ0 rfl rfl),cN (by simp;omega)]
   unfold ad;rw[fB (by rw[t5];simp[h2]),cy this];rfl
  rw[if_neg h2,aH (by rw[dU (by rw[t5];simp[h2])];rfl)]
  by_cases h3:tn=3
  ·rw[if_pos h3];have:e2 aj (e2 aj (aW (eV 0) pN (pS (eV 4))) (eV 3)) (aW (eV 0) (pS (e2 aj (eV 4) (eK (.int 1)))) pN) ρ0=some (.str (S (l.take a++[c]++l.drop (a+1)))):=by rw[aP (x :=.str (S (l.take a++[c]))) (by rw[aP sTo (show eV 3 ρ0=some (.str (S [c])) from rfl),cN (by simp;omega)]) (sFr _ (a+1) ρ0 rfl (pA1 ρ0 rfl)),cN (by simp;omega)]
   unfold ad;rw[fB (by rw[t5];simp[h3]),cy this];rfl
  rw[if_neg h3,aH (by rw[dU (by rw[t5];simp[h3])];rfl)]
  by_cases h4:tn=4
  ·rw[if_pos h4];have:e2 aj (aW (eV 0) pN (pS (eV 4))) (aW (eV 0) (pS (e2 aj (eV 4) (eK (.int 1)))) pN) ρ0=some (.str (S (l.take a++l.drop (a+1)))):=by rw[aP sTo (sFr _ (a+1) ρ0 rfl (pA1 ρ0 rfl)),cN (by simp;omega)]
   unfold ad;rw[fB (by rw[t5];simp[h4]),cy this];rfl
  rw[if_neg h4,aH (by rw[dU (by rw[t5];simp[h4])];rfl)]
  by_cases h5:tn=5
  ·rw[if_pos h5]
   let u:List Nat:=(l.drop (a+1)).take 1++(l.drop a).take 1
   have hu:u.length<=2:=by simp[u];omega
   have eu:e2 aj (aW (eV 0) (pS (e2 aj (eV 4) (eK (.int 1)))) (pS (e2 aj (eV 4) (eK (.int 2))))) (aW (eV 0) (pS (eV 4)) (pS (e2 aj (eV 4) (eK (.int 1))))) ρ0=some (.str (S u)):=by
    rw[aP (sMd _ _ (a+1) (a+2) ρ0 rfl (pA1 ρ0 rfl) (pA2 ρ0 rfl) (by omega)) (sMd (eV 4) _ a (a+1) ρ0 rfl rfl (pA1 ρ0 rfl) (by omega))]
    rw[show a+2-(a+1)=1 by omega,show a+1-a=1 by omega,cN (by simp;omega)]
   let ρ1:aA:=[some (.str (S l)),some (.lst (xs.map D.int)),some (.str (S sg)),some (.str (S [c])),some (.int (a:Int)),some (.int tn),some (.str (S u))]
   have s6:aF 6 (e2 aj (aW (eV 0) (pS (e2 aj (eV 4) (eK (.int 1)))) (pS (e2 aj (eV 4) (eK (.int 2))))) (aW (eV 0) (pS (eV 4)) (pS (e2 aj (eV 4) (eK (.int 1)))))) ρ0=some (.nx ρ1):=by unfold aF;rw[eu];rfl
   have sTo1:aW (eV 0) pN (pS (eV 4)) ρ1=some (.str (S (l.take a))):=by
    show (if (S l).length<=cH then some (D.str (Txt.slice (S l) none (some (a:Int)))) else none)=_
    rw[if_pos (by rw[dB];omega),qiQ]
   have:e2 aj (e2 aj (aW (eV 0) pN (pS (eV 4))) (eV 6)) (aW (eV 0) (pS (e2 aj (eV 4) (eK (.int 2)))) pN) ρ1=some (.str (S (l.take a++u++l.drop (a+2)))):=by rw[aP (x :=.str (S (l.take a++u))) (by rw[aP sTo1 (show eV 6 ρ1=some (.str (S u)) from rfl),cN (by omega)]) (sFr _ (a+2) ρ1 rfl (pA2 ρ1 rfl)),cN (by rw[List.length_append,dl];omega)]
   unfold ad;rw[fB (by rw[t5];simp[h5])]
   show ((aF 6 _ ρ0).bind _).bind _=_;rw[s6];show ((bc _ ρ1).bind _)=_;rw[cy this];rfl
  rw[if_neg h5,aH (by rw[dU (by rw[t5];simp[h5])];rfl)]
  rfl
 ·have ap:∀ {x y:List Nat},(∀ c∈x,okc c)->(∀ c∈y,okc c)->∀ c∈x++y,okc c:=fun hx hy c hc=>by
   rcases zO.mp hc with z|z
   ·exact hx c z
   ·exact hy c z
  have c1:∀ d∈[c],okc d:=fun d hd=>by simp at hd;subst hd;exact hc0
  have t1:∀ b,∀ c∈(l.drop b).take 1,okc c:=fun b=>ny (dk b) fun c h=>List.mem_of_mem_take h
  split
  ·exact⟨_,rfl,tk,by omega⟩
  ·split
   ·exact⟨_,rfl,ap (ap tk c1) (dk a),by simp;omega⟩
   ·split
    ·exact⟨_,rfl,ap (ap tk c1) (dk _),by simp;omega⟩
    ·split
     ·exact⟨_,rfl,ap tk (dk _),by simp;omega⟩
     ·split
      ·exact⟨_,rfl,ap (ap tk (ap (t1 _) (t1 _))) (dk _),by simp;omega⟩
      ·exact⟨_,rfl,hl,by omega⟩
end K16
end
noncomputable section
namespace K16
open PySem L2 PySem.Builtin PySem.Builtin.Str
noncomputable def o1:List Str:=[Str.ofString "",Str.ofString "a",Str.ofString "/",Str.ofString "//",Str.ofString "///a",Str.ofString "/a*",Str.ofString "/*a",Str.ofString "/**",Str.ofString "/a[",Str.ofString "/a[any]",Str.ofString "/a[(any)]",Str.ofString "/a[(& any)]"]
noncomputable def o2:List Str:=[Str.ofString "/a[(&any)]",Str.ofString "/a[(&)]",Str.ofString "/a[(+)]",Str.ofString "/a[(+ any)]",Str.ofString "/a[(+ any & any)]",Str.ofString "/a[(any &any)]"]
noncomputable def o3:List Str:=[Str.ofString "/a[(any & any + any)]",Str.ofString "/a[\"\\x\"]",Str.ofString "/a[\"\\q\\\\\"]",Str.ofString "/a[\"x\"\"\"]",Str.ofString "/a[/b]/c"]
noncomputable def o4:List Str:=[Str.ofString "/a[/b][/c]",Str.ofString "/a[]",Str.ofString "/A",Str.ofString "/a ",Str.ofString " /a",Str.ofString "/a[ \"x\"]",Str.ofString "/a[(any | any)]",Str.ofString "/a[(any+ any)]"]
noncomputable def o5:List Str:=[Str.ofString "/a[(& any )]",Str.ofString "/any",Str.ofString "/a[/any[\"any\"]]",Str.ofString "/a/",Str.ofString "/a[(/b & /c)]",Str.ofString "/a[(//b + \"\")]"]
noncomputable def pd:List Str:=o1++o2++o3++o4++o5
noncomputable def okB (x:Str):Bool:=x.cps.toList.all (fun c=>decide (32<=c/\c<=126/\c≠37))&&decide (x.cps.toList.length<=60)
theorem qjl {x:Str}(h:okB x=true):LS x:=by
 unfold okB at h;rw[Bool.and_eq_true] at h;refine⟨x.cps.toList,qgw x,fun c hc =>?_,of_decide_eq_true h.2⟩
 have:=List.all_eq_true.mp h.1 c hc;exact(of_decide_eq_true this:32<=c/\c<=126/\c≠37)
theorem qhC:∀ x∈pd,okB x=true:=by decide +kernel
theorem qjm (n:Int):∃ x,nk [.int n]=some (.str x)/\LS x:=by
 have hl:(pd.map D.str).length=37:=by decide
 have q0:=yB n (show (37:Int)≠0 by decide)
 have q1:=zX n (show (0:Int)<37 by decide)
 obtain⟨x,ex,hm⟩:=qa2 (xs:=pd) q0 (by rw[show pd.length=37 by decide];exact q1)
 refine⟨x,?_,qjl (qhC x hm)⟩;have body:qbO [some (.int n),none]=(bc (e2 oIx (eV 1) (e2 br (eV 0) (al bF (aC (eV 1) aN)))) [some (.int n),some (.lst (pd.map D.str))]):=by
  unfold qbO;have st:∀ (a b:List Str),a.length+b.length<=100->aF 1 (e2 aj (eV 1) (eF (bj (aS b)))) [some (.int n),some (.lst (a.map D.str))]=some (.nx [some (.int n),some (.lst ((a++b).map D.str))]):=fun a b hab=>by
   have eb:eF (bj (aS b)) [some (.int n),some (.lst (a.map D.str))]=some (.lst (b.map D.str)):=by unfold eF bj aS;simp only[zA];rw[if_pos (by rw[zH];omega)];rfl
   unfold aF;rw[aP (x :=.lst (a.map D.str)) rfl eb];show Option.map _ (if (a.map D.str).length+(b.map D.str).length<=cH then some (D.lst (a.map D.str++b.map D.str)) else none)=_
   rw[if_pos (gr (by rw[zH,zH];omega)),<- List.map_append];rfl
  rw[aH (ρ':=[some (.int n),some (.lst (o1.map D.str))]) rfl];refine Eq.trans (aH (st (o1) o2 (by decide))) ?_
  refine Eq.trans (aH (st (o1++o2) o3 (by decide))) ?_
  refine Eq.trans (aH (st (o1++o2++o3) o4 (by decide))) ?_
  refine Eq.trans (aH (st (o1++o2++o3++o4) o5 (by decide))) ?_
  rfl
 show (qbO [some (.int n),none]).bind iO=_;rw[body];have ql:al bF (aC (eV 1) aN) [some (.int n),some (.lst (pd.map D.str))]=some (.int 37):=by show bF [.lst (pd.map D.str)]=_;show some (D.int ((pd.map D.str).length:Int))=_;rw[hl];rfl
 have qm:e2 br (eV 0) (al bF (aC (eV 1) aN)) [some (.int n),some (.lst (pd.map D.str))]=some (.int (n%37)):=by rw[aP (x :=.int n) rfl ql,gj (by decide)]
 rw[cy (d :=.str x) (by rw[aP (x :=.lst (pd.map D.str)) rfl qm];exact ex)]
 rfl
noncomputable def sj:List Nat:=[47,91,93,40,41,38,43,32,97,110,121,42,34,92,113]
theorem qky:Str.ofString "/[]()&+ any*\"\\q" = S sj:=by decide +kernel
theorem qkx:∀ c∈sj,okc c:=by
 intro c hc;have:∀ c∈sj,32<=c/\c<=126/\c≠37:=by decide
 exact this c hc
theorem pM {ρ:aA}{τ:DTg}{fe:DF}{Pp:D->Prop}:∀ {ds:List D},(∀ d∈ds,∃ ρ' x,τ d ρ=some ρ'/\fe ρ'=some x/\Pp x)->∃ rs,lcD ρ τ gf fe ds=some rs/\rs.length=ds.length/\∀ x∈rs,Pp x
 | [],_=>⟨[],rfl,rfl,fun x h=>by cases h⟩
 | d::ds,h=>by
  obtain⟨ρ',x,e1,e2,px⟩:=h d zD;obtain⟨rs,e3,hl,hp⟩:=pM (ds:=ds) fun d hd=>h d (zB _ hd)
  refine⟨x::rs,?_,by simp[hl],fun y hy =>?_⟩
  ·simp only[lcD,e1,zA,gf,if_true,e2,e3,zT]
  ·rcases zG.mp hy with rfl|hy
   ·exact px
   ·exact hp y hy
theorem qkS:∀ {rs:List D},(∀ x∈rs,∃ c,okc c/\x=.str (S [c]))->∃ y:List Nat,rs=y.map (fun c=>D.str (S [c]))/\∀ c∈y,okc c
 | [],_=>⟨[],rfl,fun c h=>by cases h⟩
 | r::rs,h=>by
  obtain⟨c,hc,rfl⟩:=h _ zD;obtain⟨y,rfl,hy⟩:=qkS (rs:=rs) fun x hx=>h x (zB _ hx)
  exact⟨c::y,rfl,fun d hd=>by
   rcases zG.mp hd with rfl|hd
   ·exact hc
   ·exact hy d hd⟩
theorem qcl {xs:List Int}(hx:xs.length=16){v0 v1 v2 v4 v6 v7:Option D} :
  ∃ x,e2 fX (eK (.str (Str.ofString ""))) (eF (fLC (iR1 (e2 br (e2 cM (e2 oIx (eV 3) (eK (.int 3))) (eK (.int 6))) (eK (.int 13)))) [none,some 5,some 3] (gN 0) gf (e2 oIx (eV 1) (e2 br (e2 oIx (eV 2) (e2 aj (eK (.int 4)) (eV 0))) (al bF (aC (eV 1) aN)))))) [v0,v1,v2,some (.lst (xs.map D.int)),v4,some (.str (S sj)),v6,v7]=some (.str x)/\LS x:=by
 obtain⟨z3,ez3⟩:∃ z,oIx (.lst (xs.map D.int)) (.int 3)=some (.int z):=⟨_,ixI (k:=3) (by omega)⟩
 have m1:=yB (z3/6) (show (13:Int)≠0 by decide)
 have m2:=zX (z3/6) (show (0:Int)<13 by decide)
 obtain⟨k,hk⟩:∃ k:Nat,z3/6%13=(k:Int):=⟨(z3/6%13).toNat,by omega⟩
 have hk13:k<13:=by omega
 have en:e2 br (e2 cM (e2 oIx (eV 3) (eK (.int 3))) (eK (.int 6))) (eK (.int 13)) [v0,v1,v2,some (.lst (xs.map D.int)),v4,some (.str (S sj)),v6,v7]=some (.int (k:Int)):=by have q1:e2 oIx (eV 3) (eK (.int 3)) [v0,v1,v2,some (.lst (xs.map D.int)),v4,some (.str (S sj)),v6,v7]=some (.int z3):=ez3;rw[aP (by rw[aP q1 (rfl:eK (.int 6) _=_),kW ⟨by decide,by decide⟩]) (rfl:eK (.int 13) _=_),gj (by decide),hk]
 have ei:iR1 (e2 br (e2 cM (e2 oIx (eV 3) (eK (.int 3))) (eK (.int 6))) (eK (.int 13))) [v0,v1,v2,some (.lst (xs.map D.int)),v4,some (.str (S sj)),v6,v7]=some (gi 0 k):=
  (qf4 (z:=(k:Int)) en (qdd (by omega))).trans (by simp)
 obtain⟨rs,er,hl,hp⟩:=pM (ρ:=gv [none,some 5,some 3] [v0,v1,v2,some (.lst (xs.map D.int)),v4,some (.str (S sj)),v6,v7]) (τ:=gN 0) (fe:=e2 oIx (eV 1) (e2 br (e2 oIx (eV 2) (e2 aj (eK (.int 4)) (eV 0))) (al bF (aC (eV 1) aN)))) (ds:=gi 0 k) (Pp:=fun x=>∃ c,okc c/\x=.str (S [c])) (fun d hd=>by
  obtain⟨j,hj⟩:=List.getElem?_of_mem hd;obtain⟨hjk,rfl⟩:=i5 hj;have hz:(0:Int)+(j:Int)=(j:Int):=by omega
  rw[hz];obtain⟨w,ew⟩:∃ z,oIx (.lst (xs.map D.int)) (.int ((4+j:Nat):Int))=some (.int z):=⟨_,ixI (k:=4+j) (by omega)⟩
  have n1:=yB w (show (15:Int)≠0 by decide)
  have n2:=zX w (show (0:Int)<15 by decide)
  obtain⟨u,hu⟩:∃ u:Nat,w%15=(u:Int):=⟨(w%15).toNat,by omega⟩
  have hu15:u<sj.length:=by show u<15;omega
  refine⟨[some (.int (j:Int)),some (.str (S sj)),some (.lst (xs.map D.int))],.str (S [sj[u]]),rfl,?_,sj[u],qkx _ (List.getElem_mem hu15),rfl⟩;have q1:al bF (aC (eV 1) aN) [some (.int (j:Int)),some (.str (S sj)),some (.lst (xs.map D.int))]=some (.int 15):=qei (l:=sj) (by decide)
  have q2:e2 aj (eK (.int 4)) (eV 0) [some (.int (j:Int)),some (.str (S sj)),some (.lst (xs.map D.int))]=some (.int ((4+j:Nat):Int)):=by rw[aP (x :=.int 4) (y :=.int (j:Int)) rfl rfl,lC];simp
  have q3:e2 oIx (eV 2) (e2 aj (eK (.int 4)) (eV 0)) [some (.int (j:Int)),some (.str (S sj)),some (.lst (xs.map D.int))]=some (.int w):=by rw[aP (x :=.lst (xs.map D.int)) rfl q2,ew]
  have q4:e2 br (e2 oIx (eV 2) (e2 aj (eK (.int 4)) (eV 0))) (al bF (aC (eV 1) aN)) [some (.int (j:Int)),some (.str (S sj)),some (.lst (xs.map D.int))]=some (.int (u:Int)):=by rw[aP q3 q1,gj (by decide),hu]
  rw[aP (x :=.str (S sj)) rfl q4,ixS hu15 (by decide)])
 obtain⟨y,rfl,hy⟩:=qkS hp;have hyl:y.length<=12:=by rw[zH,dM] at hl;omega
 have ec:=qcV (f:=iR1 (e2 br (e2 cM (e2 oIx (eV 3) (eK (.int 3))) (eK (.int 6))) (eK (.int 13)))) ei (by rw[dM];exact gr (by omega)) er
 refine⟨S y,?_,y,rfl,hy,by omega⟩
 rw[aP (x :=.str (S [])) (y :=.lst (y.map fun c=>D.str (S [c]))) (by rw[<- c0];rfl) (by unfold eF;rw[ec];rfl)]
 exact oC (by omega)
noncomputable abbrev kr : DG := (ad (gQ (gN2 6 7) (al bo (aC (eV 4) (aC (eK (.int 0)) aN))))
    (ad (sIf (dh (tB1 (e2 jo (eV 6) (eK .non))) (tB1 (e2 oLt (eV 7) (al bF (aC (eV 4) aN)))))
     (bc (e2 oEq (al bN (aC (eV 4) aN)) (eF (bj (aC (eK (.str (Str.ofString "text"))) (aC (eV 7) aN))))))
     aV)
    (bc (pj (e2 oEq (al bN (aC (eV 4) aN)) (eF (bj aN))) (al gu (aC (al iZ (aC (eV 4) aN)) (aC (eV 6) aN)))))))
theorem qcp {L r:List Nat}(h:fq [.str (S L)]=some (.er nT (pos L r))):bN [.str (S L)]=some (.lst [.str (Str.ofString "text"),.int (pos L r)]):=by
 unfold bN;rw[h];show (if nT=cNT/\[D.str (S L)].length=1 then some (D.lst [.str (Str.ofString "text"),.int (pos L r)]) else none)=_
 rw[if_pos ⟨rfl,rfl⟩]
theorem qco {L:List Nat}{d:D}(h:fq [.str (S L)]=some (.ok d)):bN [.str (S L)]=some (.lst []):=by
 unfold bN;rw[h];rfl
theorem qgO {L:List Nat}(h1:∀ c∈L,okc c) (h2:L.length<=60) (v0 v1 v2 v3 v5:Option D):(kr [v0,v1,v2,v3,some (.str (S L)),v5,none,none]).bind iO=some (.bl true):=by
 have hL:Ln L:=LS.ln h1 h2;obtain⟨p,ep⟩:=(qa8 190 L.length (by omega)).1 (by omega) L (zL _)
 have hin:=((qj5 hL (by omega) 190 190 (zL _)).1.1) L p (List.suffix_refl _) ep
 have hrd:=qg9 hL;unfold qgv at hrd;rw[ep] at hrd;have p0:pos L L=0:=by unfold pos;omega
 rw[p0] at hin;have hasg:∀ d q,toT L p=.tup [d,.int q]->gQ (gN2 6 7) (al bo (aC (eV 4) (aC (eK (.int 0)) aN))) [v0,v1,v2,v3,some (.str (S L)),v5,none,none]=some (.nx [v0,v1,v2,v3,some (.str (S L)),v5,some d,some (.int q)]):=fun d q e=>by have ea:al bo (aC (eV 4) (aC (eK (.int 0)) aN)) [v0,v1,v2,v3,some (.str (S L)),v5,none,none]=some (toT L p):=hin;unfold gQ;rw[ea,e];rfl
 have lenE:∀ ρ:aA,eV 4 ρ=some (.str (S L))->al bF (aC (eV 4) aN) ρ=some (.int (L.length:Int)):=fun ρ h=>by unfold al aC;rw[h];exact qei (by omega)
 have refE:∀ ρ:aA,eV 4 ρ=some (.str (S L))->al bN (aC (eV 4) aN) ρ=bN [.str (S L)]:=fun ρ h=>by unfold al aC;rw[h];rfl
 have bad:∀ (d:D) (r:List Nat),fq [.str (S L)]=some (.er nT (pos L r))->dh (tB1 (e2 jo (eV 6) (eK .non))) (tB1 (e2 oLt (eV 7) (al bF (aC (eV 4) aN)))) [v0,v1,v2,v3,some (.str (S L)),v5,some d,some (.int (pos L r))]=some true ->
   toT L p=.tup [d,.int (pos L r)]->(kr [v0,v1,v2,v3,some (.str (S L)),v5,none,none]).bind iO=some (.bl true):=fun d r hr ht he=>by
  unfold kr;rw[aH (hasg d (pos L r) he)];have e1:e2 oEq (al bN (aC (eV 4) aN)) (eF (bj (aC (eK (.str (Str.ofString "text"))) (aC (eV 7) aN)))) [v0,v1,v2,v3,some (.str (S L)),v5,some d,some (.int (pos L r))]=some (.bl true):=by
   rw[aP (by rw[refE _ rfl,qcp hr]) (show eF (bj (aC (eK (.str (Str.ofString "text"))) (aC (eV 7) aN))) [v0,v1,v2,v3,some (.str (S L)),v5,some d,some (.int (pos L r))]=some (.lst [.str (Str.ofString "text"),.int (pos L r)]) from rfl)]
   unfold oEq;rw[if_pos (by rfl)]
   simp[deq,iV]
  unfold ad;rw[fB ht,cy e1];rfl
 cases p with
 | er r=>have hrd:fq [.str (S L)]=some (.er nT (pos L r)):=hrd;refine bad .non r hrd ?_ rfl;unfold dh;rw[nR rfl];rfl
 | ok d r=>
  have ha:=(qa7 190).1 L d r (by omega) ep
  have tn:tB1 (e2 jo (eV 6) (eK .non)) [v0,v1,v2,v3,some (.str (S L)),v5,some d,some (.int (pos L r))]=some false:=qbk rfl ha;have tl:tB1 (e2 oLt (eV 7) (al bF (aC (eV 4) aN))) [v0,v1,v2,v3,some (.str (S L)),v5,some d,some (.int (pos L r))]=some (decide (pos L r<(L.length:Int))):=by unfold tB1;rw[aP (x :=.int (pos L r)) rfl (lenE _ rfl)];rfl
  by_cases hz:r=[]
  ·subst hz;have hrd:fq [.str (S L)]=some (.ok d):=hrd;unfold kr;rw[aH (hasg d (pos L []) rfl)];have tf:dh (tB1 (e2 jo (eV 6) (eK .non))) (tB1 (e2 oLt (eV 7) (al bF (aC (eV 4) aN)))) [v0,v1,v2,v3,some (.str (S L)),v5,some d,some (.int (pos L []))]=some false:=by
    unfold dh;rw[tn,tl];have:pos L []=(L.length:Int):=by unfold pos;simp
    rw[this];simp
   rw[aH (by rw[dU tf];rfl)]
   have e1:e2 oEq (al bN (aC (eV 4) aN)) (eF (bj aN)) [v0,v1,v2,v3,some (.str (S L)),v5,some d,some (.int (pos L []))]=some (.bl true):=by
    rw[aP (by rw[refE _ rfl,qco hrd]) (show eF (bj aN) [v0,v1,v2,v3,some (.str (S L)),v5,some d,some (.int (pos L []))]=some (.lst []) from rfl)]
    rfl
   have et:iZ [.str (S L)]=some d:=by unfold iZ ot;rw[hrd];rfl
   have e3:al gu (aC (al iZ (aC (eV 4) aN)) (aC (eV 6) aN)) [v0,v1,v2,v3,some (.str (S L)),v5,some d,some (.int (pos L []))]=some (.bl true):=by
    have q:al iZ (aC (eV 4) aN) [v0,v1,v2,v3,some (.str (S L)),v5,some d,some (.int (pos L []))]=some d:=et;have q2:aC (al iZ (aC (eV 4) aN)) (aC (eV 6) aN) [v0,v1,v2,v3,some (.str (S L)),v5,some d,some (.int (pos L []))]=some [d,d]:=by unfold aC at q ⊢;rw[q];rfl
    show (aC (al iZ (aC (eV 4) aN)) (aC (eV 6) aN) [v0,v1,v2,v3,some (.str (S L)),v5,some d,some (.int (pos L []))]).bind gu=_;rw[q2];exact p5 _ 100 d ha (by simp;omega)
   refine congrArg (fun o:Option DO=>o.bind iO) (cy (d :=.bl true) ?_)
   unfold pj;rw[ms e1,zA,if_pos rfl];exact e3
  ·have hl:0<r.length:=List.length_pos_iff.mpr hz;have hrd:fq [.str (S L)]=some (.er nT (pos L r)):=by
    rw[hrd];show some (if r=[] then Xo.ok d else Xo.er nT (pos L r))=_
    rw[if_neg hz]
   refine bad d r hrd ?_ rfl;unfold dh;rw[tn,tl];have:pos L r<(L.length:Int):=by unfold pos;omega
   simp[this]
theorem qfP {f:DM}{g:DMA}{ρ ρ1 ρ2:aA}{x:D}{ys:List D}(h1:f ρ=some (x,ρ1)) (h2:g ρ1=some (ys,ρ2)):mAC f g ρ=some (x::ys,ρ2):=by
 unfold mAC;rw[h1];simp only[zA];rw[h2];rfl
theorem qef {F:List D->Option D}{g:DMA}{ρ ρ1:aA}{xs:List D}{d:D}(h1:g ρ=some (xs,ρ1)) (h2:F xs=some d):fY F g ρ=some (d,ρ1):=by
 unfold fY;rw[h1];simp only[zA];rw[h2];rfl
theorem qfW (ns:List Int) (hns:ns.length<=63):qb7 [.scr ns]=some (.bl true):=by
 obtain⟨xs,ed,_⟩:=K15.qbV ns hns 2 16 (by decide) (by decide) (by decide) (by decide)
 obtain⟨ys,ed2,hy16,hy0⟩:=K15.qbV ns hns 600 16 (by decide) (by decide) (by decide) (by decide)
 have hy16:ys.length=16:=hy16;obtain⟨nms,en,n1,n4,hnm⟩:=K15.qfE (K15.jI xs);obtain⟨ss,xs2,eq,s1,s3,hss⟩:=(K15.o8 nms (by omega) hnm 2).2 12 xs.dropLast (by decide)
 have el:dS [.lst ss]=some (.str (S (K15.tSs 2 ss))):=by show K15.dY 12 [.lst ss]=_;rw[K15.dY];exact K15.qdx (by decide) (K15.qcK 2 11 (by decide) (by decide)) ss s3 hss
 have okT:=qgQ hss;have hbT:(K15.tSs 2 ss).length<=100000:=by
  unfold K15.tSs;rw[K15.oK];have:=K15.qda s3 hss;have:K15.LB 2<=1500:=K15.LB3 (by decide)
  omega
 generalize K15.tSs 2 ss=T at *
 obtain⟨xb,eb,lb⟩:=qih (l:=T.take 58) (xs:=ys) (ny okT fun c h=>List.mem_of_mem_take h) (by simp;omega) hy16 hy0
 show (qdE [some (.scr ns),none,none,none,none,none,none,none]).bind iO=_;unfold qdE;rw[aH (ρ':=[some (.scr ns),some (.lst (xs.map D.int)),none,none,none,none,none,none]) (by have e:nb gs (aC (eV 0) (aC (eK (.int 2)) (aC (eK (.int 16)) aN))) [some (.scr ns),none,none,none,none,none,none,none]=some (xs.map D.int):=ed;unfold gc;rw[e];rfl)]
 rw[aH (ρ':=[some (.scr ns),some (.lst (xs.dropLast.map D.int)),some (.lst ((nms.map S).map D.str)),none,none,none,none,none]) (by
  have e1:dE ge 1 aN [some (.scr ns),some (.lst (xs.map D.int)),none,none,none,none,none,none]=some (.int (K15.jI xs),[some (.scr ns),some (.lst (xs.dropLast.map D.int)),none,none,none,none,none,none]):=by unfold dE;have:bH 1 [some (.scr ns),some (.lst (xs.map D.int)),none,none,none,none,none,none]=some (xs.map D.int):=rfl;rw[this];simp only[aN,zA];rw[show ge=K15.ge from rfl,K15.qau];rfl
  have en':iH [.int (K15.jI xs)]=some (.lst ((nms.map S).map D.str)):=en;unfold jT fY mAC mAN;rw[e1];simp only[zA];rw[en'];rfl)]
 rw[aH (ρ':=[some (.scr ns),some (.lst (xs.dropLast.map D.int)),some (.lst ((nms.map S).map D.str)),some (.lst (ys.map D.int)),none,none,none,none]) (by have e:nb gs (aC (eV 0) (aC (eK (.int 600)) (aC (eK (.int 16)) aN))) [some (.scr ns),some (.lst (xs.dropLast.map D.int)),some (.lst ((nms.map S).map D.str)),none,none,none,none,none]=some (ys.map D.int):=ed2;unfold aF eF;rw[e];rfl)]
 rw[aH (ρ':=[some (.scr ns),some (.lst (xs2.map D.int)),some (.lst ((nms.map S).map D.str)),some (.lst (ys.map D.int)),some (.str xb),none,none,none]) (by
  have e1:dE cK 1 (aC (eV 2) (aC (eK (.int 2)) aN)) [some (.scr ns),some (.lst (xs.dropLast.map D.int)),some (.lst ((nms.map S).map D.str)),some (.lst (ys.map D.int)),none,none,none,none]=some (.lst ss,[some (.scr ns),some (.lst (xs2.map D.int)),some (.lst ((nms.map S).map D.str)),some (.lst (ys.map D.int)),none,none,none,none]):=by unfold dE;have h1:bH 1 [some (.scr ns),some (.lst (xs.dropLast.map D.int)),some (.lst ((nms.map S).map D.str)),some (.lst (ys.map D.int)),none,none,none,none]=some (xs.dropLast.map D.int):=rfl;have h2:aC (eV 2) (aC (eK (.int 2)) aN) [some (.scr ns),some (.lst (xs.dropLast.map D.int)),some (.lst ((nms.map S).map D.str)),some (.lst (ys.map D.int)),none,none,none,none]=some [.lst ((nms.map S).map D.str),.int 2]:=rfl;rw[h1,h2];simp only[zA];have eq':cK [.lst (xs.dropLast.map D.int),.lst ((nms.map S).map D.str),.int 2]=some (.lst ss,xs2.map D.int):=eq;rw[eq'];rfl
  have e2:qcJ (fY dS (mAC (dE cK 1 (aC (eV 2) (aC (eK (.int 2)) aN))) mAN)) pN (pS (eK (.int 58))) [some (.scr ns),some (.lst (xs.dropLast.map D.int)),some (.lst ((nms.map S).map D.str)),some (.lst (ys.map D.int)),none,none,none,none]=some (.str (S (T.take 58)),[some (.scr ns),some (.lst (xs2.map D.int)),some (.lst ((nms.map S).map D.str)),some (.lst (ys.map D.int)),none,none,none,none]):=by
   have e3:fY dS (mAC (dE cK 1 (aC (eV 2) (aC (eK (.int 2)) aN))) mAN) [some (.scr ns),some (.lst (xs.dropLast.map D.int)),some (.lst ((nms.map S).map D.str)),some (.lst (ys.map D.int)),none,none,none,none]=some (.str (S T),[some (.scr ns),some (.lst (xs2.map D.int)),some (.lst ((nms.map S).map D.str)),some (.lst (ys.map D.int)),none,none,none,none]):=by unfold fY mAC mAN;rw[e1];simp only[zA];rw[el];rfl
   unfold qcJ;rw[e3];show (if (S T).length<=cH then some (D.str (Txt.slice (S T) none (some ((58:Nat):Int))),_) else none)=_
   rw[if_pos (by rw[dB];exact gr hbT),qiQ]
  unfold jT;have e4:fY km (mAC (qcJ (fY dS (mAC (dE cK 1 (aC (eV 2) (aC (eK (.int 2)) aN))) mAN)) pN (pS (eK (.int 58)))) (mAC (mP (eV 3)) mAN)) [some (.scr ns),some (.lst (xs.dropLast.map D.int)),some (.lst ((nms.map S).map D.str)),some (.lst (ys.map D.int)),none,none,none,none]=some (.str xb,[some (.scr ns),some (.lst (xs2.map D.int)),some (.lst ((nms.map S).map D.str)),some (.lst (ys.map D.int)),none,none,none,none]):=by
   have e5:mAC (qcJ (fY dS (mAC (dE cK 1 (aC (eV 2) (aC (eK (.int 2)) aN))) mAN)) pN (pS (eK (.int 58)))) (mAC (mP (eV 3)) mAN) [some (.scr ns),some (.lst (xs.dropLast.map D.int)),some (.lst ((nms.map S).map D.str)),some (.lst (ys.map D.int)),none,none,none,none]=some ([.str (S (T.take 58)),.lst (ys.map D.int)],[some (.scr ns),some (.lst (xs2.map D.int)),some (.lst ((nms.map S).map D.str)),some (.lst (ys.map D.int)),none,none,none,none]):=by exact qfP e2 (qfP (x :=.lst (ys.map D.int)) rfl rfl)
   exact qef e5 eb
  rw[e4];rfl)]
 obtain⟨z3,ez3⟩:∃ z,oIx (.lst (ys.map D.int)) (.int 3)=some (.int z):=⟨_,ixI (k:=3) (by omega)⟩
 obtain⟨z4,ez4⟩:∃ z,oIx (.lst (ys.map D.int)) (.int 4)=some (.int z):=⟨_,ixI (k:=4) (by omega)⟩
 have t6:∀ (n:Int) (x:Str) (v5:Option D),tB1 (e2 oEq (e2 br (e2 oIx (eV 3) (eK (.int 3))) (eK (.int 6))) (eK (.int n))) [some (.scr ns),some (.lst (xs2.map D.int)),some (.lst ((nms.map S).map D.str)),some (.lst (ys.map D.int)),some (.str x),v5,none,none]=some (z3%6==n):=fun n x v5=>by have q1:e2 oIx (eV 3) (eK (.int 3)) [some (.scr ns),some (.lst (xs2.map D.int)),some (.lst ((nms.map S).map D.str)),some (.lst (ys.map D.int)),some (.str x),v5,none,none]=some (.int z3):=ez3;unfold tB1;rw[aP (by rw[aP q1 (rfl:eK (.int 6) _=_),gj (by decide)]) (rfl:eK (.int n) _=_),eqI];rfl
 have last:∀ (x:Str) (v5:Option D),LS x->(kr [some (.scr ns),some (.lst (xs2.map D.int)),some (.lst ((nms.map S).map D.str)),some (.lst (ys.map D.int)),some (.str x),v5,none,none]).bind iO=some (.bl true):=fun x v5 hx=>by obtain⟨l,rfl,h1,h2⟩:=hx;exact qgO h1 h2 _ _ _ _ _
 have odd:∀ (x:Str) (v5:Option D),LS x->((ad (sIf (tB1 (e2 oEq (e2 br (e2 oIx (eV 3) (eK (.int 3))) (eK (.int 6))) (eK (.int 1)))) (aF 4 (al nk (aC (e2 oIx (eV 3) (eK (.int 4))) aN))) aV) kr) [some (.scr ns),some (.lst (xs2.map D.int)),some (.lst ((nms.map S).map D.str)),some (.lst (ys.map D.int)),some (.str x),v5,none,none]).bind iO=some (.bl true):=fun x v5 hx=>by
  by_cases h1:z3%6=1
  ·obtain⟨x',eo,lo⟩:=qjm z4;have es:aF 4 (al nk (aC (e2 oIx (eV 3) (eK (.int 4))) aN)) [some (.scr ns),some (.lst (xs2.map D.int)),some (.lst ((nms.map S).map D.str)),some (.lst (ys.map D.int)),some (.str x),v5,none,none]=some (.nx [some (.scr ns),some (.lst (xs2.map D.int)),some (.lst ((nms.map S).map D.str)),some (.lst (ys.map D.int)),some (.str x'),v5,none,none]):=by have q1:e2 oIx (eV 3) (eK (.int 4)) [some (.scr ns),some (.lst (xs2.map D.int)),some (.lst ((nms.map S).map D.str)),some (.lst (ys.map D.int)),some (.str x),v5,none,none]=some (.int z4):=ez4;unfold aF al aC;rw[q1];show Option.map _ (nk [.int z4])=_;rw[eo];rfl
   rw[aH (by rw[fB (by rw[t6];simp[h1]),es])]
   exact last x' v5 lo
  ·rw[aH (by rw[dU (by rw[t6];simp[h1])];rfl)]
   exact last x v5 hx
 by_cases h0:z3%6=0
 ·obtain⟨x',ej,lj⟩:=qcl hy16 (v0:=some (.scr ns)) (v1:=some (.lst (xs2.map D.int))) (v2:=some (.lst ((nms.map S).map D.str))) (v4:=some (.str xb)) (v6:=none) (v7:=none);rw[aH (ρ':=[some (.scr ns),some (.lst (xs2.map D.int)),some (.lst ((nms.map S).map D.str)),some (.lst (ys.map D.int)),some (.str x'),some (.str (S sj)),none,none]) (by
   rw[fB (by rw[t6];simp[h0])]
   rw[aH (ρ':=[some (.scr ns),some (.lst (xs2.map D.int)),some (.lst ((nms.map S).map D.str)),some (.lst (ys.map D.int)),some (.str xb),some (.str (S sj)),none,none]) (by rw[<- qky];rfl)]
   unfold aF;rw[ej];rfl)]
  exact odd x' _ lj
 ·rw[aH (by rw[dU (by rw[t6];simp[h0])];rfl)]
  exact odd xb _ lb
end K16
end
end
namespace K16
open PySem L2
theorem us1 {α:Type}{us:List α}(h:us.length=1):∃ a,us=[a]:=List.length_eq_one_iff.mp h
theorem us2 {α:Type}{us:List α}(h:us.length=2):∃ a b,us=[a,b]:=by
 cases us with
 | nil=>cases h
 | cons a us=>obtain⟨b,rfl⟩:=us1 (Nat.succ.inj h);exact⟨a,b,rfl⟩
theorem us3 {α:Type}{us:List α}(h:us.length=3):∃ a b c,us=[a,b,c]:=by
 cases us with
 | nil=>cases h
 | cons a us=>obtain⟨b,c,rfl⟩:=us2 (Nat.succ.inj h);exact⟨a,b,c,rfl⟩
noncomputable abbrev FA (K:Frag) (x:Str) (st:Stmt):Prop:=∃ f fd,nsIn K mainGlobals x=some (some (.ref f))/\Fun K x x st f fd
theorem qlw {K:Frag}{x:Str}{st:Stmt}{f:Addr}{od an:Option Addr}{sl:Array (Option Value)}{oc kV dc pm cd ct:Value}(a:nsIn K mainGlobals x=some (some (.ref f))) (l:K.lookup f=some ⟨oc,od,.func (fnOf x x (gS st) (cI st) (am st) .none kV dc pm an cd ct),sl⟩) (c:codeIn K cd x=true) (k:keepIn K (.ref f)=true):FA K x st:=⟨f,_,a,qaP l c k⟩
noncomputable abbrev MA (K:Frag) (c m qual:Str) (st:Stmt):Prop:=∃ C f fd,nsIn K mainGlobals c=some (some (.ref C))/\findIn K (.ref C) m=some (some (.ref f))/\PySem.W.isFn K (.ref f)=true/\Fun K m qual st f fd
theorem qlu {K:Frag}{x:Str}{st:Stmt}{f:Addr}{od an:Option Addr}{sl:Array (Option Value)}{oc kV dc pm cd ct:Value}{c0 qual:Str}{C:Addr}(aC:nsIn K mainGlobals c0=some (some (.ref C))) (a:findIn K (.ref C) x=some (some (.ref f))) (i:PySem.W.isFn K (.ref f)=true) (l:K.lookup f=some ⟨oc,od,.func (fnOf x qual (gS st) (cI st) (am st) .none kV dc pm an cd ct),sl⟩) (c:codeIn K cd qual=true) (k:keepIn K (.ref f)=true):MA K c0 x qual st:=⟨C,f,_,aC,a,i,qaP l c k⟩
noncomputable abbrev XA (K:Frag) (c qual:Str) (st:Stmt):Prop:=∃ C f fd,nsIn K mainGlobals c=some (some (.ref C))/\qaS K C f=true/\PySem.W.typeIn K (.ref f)=some (.type "function")/\Fun K "__init__" qual st f fd
theorem qln {K:Frag}{c0 qual:Str}{st:Stmt}{C f:Addr}{od an:Option Addr}{sl:Array (Option Value)}{oc kV dc pm cd ct:Value}(aC:nsIn K mainGlobals c0=some (some (.ref C))) (a:findIn K (.ref C) "__init__" = some (some (.ref f))) (e:qaS K C f=true) (ty:PySem.W.typeIn K (.ref f)=some (.type "function")) (l:K.lookup f=some ⟨oc,od,.func (fnOf "__init__" qual (gS st) (cI st) (am st) .none kV dc pm an cd ct),sl⟩) (c:codeIn K cd qual=true) (k:keepIn K (.ref f)=true):XA K c0 qual st:=⟨C,f,_,aC,e,ty,qaP l c k⟩
noncomputable abbrev TA (P:Program) (w:World) (K:Frag) (x:Str) (tab:List (Str×Str)):Prop:=∃ A,nsIn K mainGlobals x=some (some (.ref A))/\Tab P w K A tab
theorem qka {P:Program}{w:World}{K:Frag}{x k1 k2 v1 v2:Str}{A:Addr}{h1 h2:Int}{t1 t2 t3 t4:Tok}{ep:Nat}(a:nsIn K mainGlobals x=some (some (.ref A))) (l:K.lookup A=some ⟨.type "dict",none,.dict #[⟨h1,.str k1 t1,.str v1 t2⟩,⟨h2,.str k2 t3,.str v2 t4⟩] ep,#[]⟩) (s:(A==sysModules)=false) (e1:h1=hashStr w k1) (e2:h2=hashStr w k2) (ne:k1≠k2):TA P w K x [(k1,v1),(k2,v2)]:=by
 have q1:(bW P w).is (Sum.inr k1) (.str k1 t1)=true:=m9 (k:=Sum.inr k1) ⟨t1,rfl⟩;have q2:(bW P w).is (Sum.inr k2) (.str k2 t3)=true:=m9 (k:=Sum.inr k2) ⟨t3,rfl⟩;refine⟨A,a,s,_,_,_,[(Sum.inr k1,.str v1 t2),(Sum.inr k2,.str v2 t4)],l,⟨rfl,rfl,rfl⟩,rfl,fun e he =>?_,.cons q1 rfl (.cons q2 rfl .nil),?_,.cons ⟨rfl,⟨t2,rfl⟩⟩ (.cons ⟨rfl,⟨t4,rfl⟩⟩ .nil)⟩
 ·simp at he;rcases he with rfl|rfl
  ·exact⟨Sum.inr k1,q1,e1⟩
  ·exact⟨Sum.inr k2,q2,e2⟩
 ·simpa using ne
theorem qj4 {l:PySem.W.OpenLaw}{w:World}{K:Frag}{h:Heap}{mg:Str->Option Value}{fa:Addr}{C_Reader:Addr}
  {C_NoText:Addr}
  {C_NoSign:Addr}
  {C_NoPart:Addr}
  {C_Taken:Addr}
  {C_Late:Addr}
  {C_SiftError:Addr}
  {fL:Addr}{odL anL:Option Addr}{slL:Array (Option Value)}{ocL kVL dcL pmL cdL ctL:Value}
  {t_PERCENT:Tok}(X:K.In h) (G:h.Ns mainGlobals mg) (hfa:mg "law" = some (.ref fa))
  (aC_Reader:nsIn K mainGlobals "Reader" = some (some (.ref C_Reader)))
  (pg_Reader:plainGet K C_Reader Str.empty=true)
  (hd_Reader:hasDictIn K C_Reader=true)
  (po_Reader:plainOver K C_Reader=true)
  (sa_Reader:findIn K (.ref C_Reader) "__setattr__" = some (some (.builtin "object.__setattr__")))
  (mk_Reader:makesIn K C_Reader=true)
  (kc_Reader:keepIn K (.ref C_Reader)=true)
  (n_line_Reader:findIn K (.ref C_Reader) "line" = some none)
  (n_at_Reader:findIn K (.ref C_Reader) "at" = some none)
  (q_Reader___init__:MA K "Reader" "__init__" "Reader.__init__" fH)
  (q_Reader_ahead:MA K "Reader" "ahead" "Reader.ahead" gC)
  (q_Reader_pass_over:MA K "Reader" "pass_over" "Reader.pass_over" ff)
  (q_Reader_read_name:MA K "Reader" "read_name" "Reader.read_name" eX)
  (q_Reader_read_mark:MA K "Reader" "read_mark" "Reader.read_mark" eY)
  (q_Reader_read_text_sign:MA K "Reader" "read_text_sign" "Reader.read_text_sign" da)
  (q_Reader_read_text:MA K "Reader" "read_text" "Reader.read_text" eU)
  (q_Reader_read_steps:MA K "Reader" "read_steps" "Reader.read_steps" d7)
  (q_Reader_read_step:MA K "Reader" "read_step" "Reader.read_step" eW)
  (q_Reader_read_wish:MA K "Reader" "read_wish" "Reader.read_wish" eS)
  (q_Reader_read_list:MA K "Reader" "read_list" "Reader.read_list" eZ)
  (q_Reader_read_short_list:MA K "Reader" "read_short_list" "Reader.read_short_list" cX)
  (q_read:FA K "read" qah)
  (q_draws:FA K "_law_draws" lO)
  (q_pop:FA K "_law_pop" qck)
  (q_alike:FA K "_law_alike" n6)
  (q_name:FA K "_law_name" nA)
  (q_names:FA K "_law_names" lN)
  (q_text:FA K "_law_text" qag)
  (q_wish:FA K "_law_wish" nz)
  (q_steps:FA K "_law_steps" nZ)
  (q_wish_text:FA K "_law_wish_text" fU)
  (q_line:FA K "_law_line" qai)
  (q_text_in:FA K "_law_text_in" kY)
  (q_name_end:FA K "_law_name_end" jR)
  (q_steps_in:FA K "_law_steps_in" jQ)
  (q_step_in:FA K "_law_step_in" kZ)
  (q_wish_in:FA K "_law_wish_in" kX)
  (q_list_in:FA K "_law_list_in" k8)
  (q_odd:FA K "_law_odd" mt)
  (q_bent:FA K "_law_bent" qak)
  (q_kind:FA K "_law_kind" qaj)
  (q_refused:FA K "_law_refused" k7)
  (aC_NoText:nsIn K mainGlobals "NoText" = some (some (.ref C_NoText)))
  (aC_NoSign:nsIn K mainGlobals "NoSign" = some (some (.ref C_NoSign)))
  (aC_NoPart:nsIn K mainGlobals "NoPart" = some (some (.ref C_NoPart)))
  (aC_Taken:nsIn K mainGlobals "Taken" = some (some (.ref C_Taken)))
  (aC_Late:nsIn K mainGlobals "Late" = some (some (.ref C_Late)))
  (aC_SiftError:nsIn K mainGlobals "SiftError" = some (some (.ref C_SiftError)))
  (kk_NoSign:kitOne K (.ref C_NoText) (.ref C_NoSign)=some false)
  (nn_NoSign:kitOne K (.type "NoneType") (.ref C_NoSign)=some false)
  (kk_NoPart:kitOne K (.ref C_NoText) (.ref C_NoPart)=some false)
  (nn_NoPart:kitOne K (.type "NoneType") (.ref C_NoPart)=some false)
  (kk_Taken:kitOne K (.ref C_NoText) (.ref C_Taken)=some false)
  (nn_Taken:kitOne K (.type "NoneType") (.ref C_Taken)=some false)
  (kk_Late:kitOne K (.ref C_NoText) (.ref C_Late)=some false)
  (nn_Late:kitOne K (.type "NoneType") (.ref C_Late)=some false)
  (kk_NoText:kitOne K (.ref C_NoText) (.ref C_NoText)=some true)
  (nn_NoText:kitOne K (.type "NoneType") (.ref C_NoText)=some false)
  (kk_V:kitOne K (.ref C_NoText) (.type "ValueError")=some true)
  (su_x:qeR K C_NoText C_SiftError=true)
  (x_sa:findIn K (.ref C_NoText) "__setattr__" = some (some (.builtin "object.__setattr__")))
  (x_po:nL K C_NoText=true)
  (x_tk:takerIn K C_NoText "at" = some none)
  (x_hd:hasDictIn K C_NoText=true)
  (x_ga:findIn K (.ref C_NoText) "__getattribute__" = some (some (.builtin "BaseException.__getattribute__")))
  (x_gt:findIn K (.ref C_NoText) "__getattr__" = some none)
  (x_mb:PySem.W.mroIn K C_NoText (.type "BaseException")=some true)
  (x_na:findIn K (.ref C_NoText) "at" = some none)
  (x_ha:findIn K (.ref C_NoText) "__class__" = some (some (.builtin "object.__class__")))
  (x_hn:PySem.W.specialIn K (.builtin "object.__class__") "__get__" = some (some (.builtin "getset_descriptor.__get__")))
  (x_ht:PySem.W.takesIn K (.builtin "object.__class__")=some true)
  (x_hm:PySem.W.mroIn K C_NoText (.type "object")=some true)
  (x_kp:keepIn K (.ref C_NoText)=true)
  (q_xinit:XA K "NoText" "NoText.__init__" nY)
  (aL:nsIn K mainGlobals "law" = some (some (.ref fL)))
  (lL:K.lookup fL=some ⟨ocL,odL,.func (fnOf "law" "law" (gS iI) (cI iI) (am iI) .none kVL dcL pmL anL cdL ctL),slL⟩)
  (cL:codeIn K cdL "law" = true)
  (kL_:keepIn K (.ref fL)=true)
  (y_ValueError:nsIn K mainGlobals "ValueError" = some none)
  (y_bool:nsIn K mainGlobals "bool" = some none)
  (y_int:nsIn K mainGlobals "int" = some none)
  (y_isinstance:nsIn K mainGlobals "isinstance" = some none)
  (y_len:nsIn K mainGlobals "len" = some none)
  (y_list:nsIn K mainGlobals "list" = some none)
  (y_ord:nsIn K mainGlobals "ord" = some none)
  (y_range:nsIn K mainGlobals "range" = some none)
  (y_str:nsIn K mainGlobals "str" = some none)
  (y_tuple:nsIn K mainGlobals "tuple" = some none)
  (cc_PERCENT:nsIn K mainGlobals "PERCENT" = some (some (.int 37 t_PERCENT)))
  (tt_KINDS:TA l.prog w K "KINDS" bu) :
  ∃ fd:FuncData,(∀ (s:Shared) (v:Value),BindsTo s fd ⟨[v],[]⟩ [("_law_script",v)])/\∀ base:Heap,K.In base->base.Ns mainGlobals mg->bD l.prog w K mg base CX0 202 fa fd ["_law_script"] (spF K qb7):=by
 have e:=hfa.symm.trans (mg_of X G aL);cases e;have z_ValueError:=mg_none_of X G y_ValueError;have z_bool:=mg_none_of X G y_bool;have z_int:=mg_none_of X G y_int;have z_isinstance:=mg_none_of X G y_isinstance;have z_len:=mg_none_of X G y_len;have z_list:=mg_none_of X G y_list;have z_ord:=mg_none_of X G y_ord;have z_range:=mg_none_of X G y_range;have z_str:=mg_none_of X G y_str;have z_tuple:=mg_none_of X G y_tuple;have c_PERCENT:=mg_of X G cc_PERCENT;have T_KINDS:pp l.prog w K mg "KINDS" bu:=by obtain⟨A,a,t⟩:=tt_KINDS;exact⟨A,mg_of X G a,t⟩
 have cls_Reader:Cls K C_Reader:=⟨pg_Reader,hd_Reader,po_Reader,sa_Reader⟩;have k_Reader_line:∀ C,nsIn K mainGlobals "Reader" = some (some (.ref C))->Cls K C/\de K C "line" :=fun C e=>by rw[aC_Reader] at e;cases e;exact⟨cls_Reader,n_line_Reader⟩
 have k_Reader_at:∀ C,nsIn K mainGlobals "Reader" = some (some (.ref C))->Cls K C/\de K C "at" :=fun C e=>by rw[aC_Reader] at e;cases e;exact⟨cls_Reader,n_at_Reader⟩
 obtain⟨C_,f_Reader___init__,d_Reader___init__,aC_,a_Reader___init__,i_Reader___init__,F__Reader___init__⟩:=q_Reader___init__;rw[aC_Reader] at aC_;cases aC_;have b_Reader___init__:=F__Reader___init__.binds (ps:=["self", "line"]) fun _ _ _ _ _ _ us hl=>by obtain⟨a,b,rfl⟩:=us2 hl;rfl
 obtain⟨C_,f_Reader_ahead,d_Reader_ahead,aC_,a_Reader_ahead,i_Reader_ahead,F__Reader_ahead⟩:=q_Reader_ahead;rw[aC_Reader] at aC_;cases aC_;have b_Reader_ahead:=F__Reader_ahead.binds (ps:=["self"]) fun _ _ _ _ _ _ us hl=>by obtain⟨a,rfl⟩:=us1 hl;rfl
 obtain⟨C_,f_Reader_pass_over,d_Reader_pass_over,aC_,a_Reader_pass_over,i_Reader_pass_over,F__Reader_pass_over⟩:=q_Reader_pass_over;rw[aC_Reader] at aC_;cases aC_;have b_Reader_pass_over:=F__Reader_pass_over.binds (ps:=["self", "signs"]) fun _ _ _ _ _ _ us hl=>by obtain⟨a,b,rfl⟩:=us2 hl;rfl
 obtain⟨C_,f_Reader_read_name,d_Reader_read_name,aC_,a_Reader_read_name,i_Reader_read_name,F__Reader_read_name⟩:=q_Reader_read_name;rw[aC_Reader] at aC_;cases aC_;have b_Reader_read_name:=F__Reader_read_name.binds (ps:=["self"]) fun _ _ _ _ _ _ us hl=>by obtain⟨a,rfl⟩:=us1 hl;rfl
 obtain⟨C_,f_Reader_read_mark,d_Reader_read_mark,aC_,a_Reader_read_mark,i_Reader_read_mark,F__Reader_read_mark⟩:=q_Reader_read_mark;rw[aC_Reader] at aC_;cases aC_;have b_Reader_read_mark:=F__Reader_read_mark.binds (ps:=["self"]) fun _ _ _ _ _ _ us hl=>by obtain⟨a,rfl⟩:=us1 hl;rfl
 obtain⟨C_,f_Reader_read_text_sign,d_Reader_read_text_sign,aC_,a_Reader_read_text_sign,i_Reader_read_text_sign,F__Reader_read_text_sign⟩:=q_Reader_read_text_sign;rw[aC_Reader] at aC_;cases aC_;have b_Reader_read_text_sign:=F__Reader_read_text_sign.binds (ps:=["self"]) fun _ _ _ _ _ _ us hl=>by obtain⟨a,rfl⟩:=us1 hl;rfl
 obtain⟨C_,f_Reader_read_text,d_Reader_read_text,aC_,a_Reader_read_text,i_Reader_read_text,F__Reader_read_text⟩:=q_Reader_read_text;rw[aC_Reader] at aC_;cases aC_;have b_Reader_read_text:=F__Reader_read_text.binds (ps:=["self"]) fun _ _ _ _ _ _ us hl=>by obtain⟨a,rfl⟩:=us1 hl;rfl
 obtain⟨C_,f_Reader_read_steps,d_Reader_read_steps,aC_,a_Reader_read_steps,i_Reader_read_steps,F__Reader_read_steps⟩:=q_Reader_read_steps;rw[aC_Reader] at aC_;cases aC_;have b_Reader_read_steps:=F__Reader_read_steps.binds (ps:=["self"]) fun _ _ _ _ _ _ us hl=>by obtain⟨a,rfl⟩:=us1 hl;rfl
 obtain⟨C_,f_Reader_read_step,d_Reader_read_step,aC_,a_Reader_read_step,i_Reader_read_step,F__Reader_read_step⟩:=q_Reader_read_step;rw[aC_Reader] at aC_;cases aC_;have b_Reader_read_step:=F__Reader_read_step.binds (ps:=["self"]) fun _ _ _ _ _ _ us hl=>by obtain⟨a,rfl⟩:=us1 hl;rfl
 obtain⟨C_,f_Reader_read_wish,d_Reader_read_wish,aC_,a_Reader_read_wish,i_Reader_read_wish,F__Reader_read_wish⟩:=q_Reader_read_wish;rw[aC_Reader] at aC_;cases aC_;have b_Reader_read_wish:=F__Reader_read_wish.binds (ps:=["self"]) fun _ _ _ _ _ _ us hl=>by obtain⟨a,rfl⟩:=us1 hl;rfl
 obtain⟨C_,f_Reader_read_list,d_Reader_read_list,aC_,a_Reader_read_list,i_Reader_read_list,F__Reader_read_list⟩:=q_Reader_read_list;rw[aC_Reader] at aC_;cases aC_;have b_Reader_read_list:=F__Reader_read_list.binds (ps:=["self"]) fun _ _ _ _ _ _ us hl=>by obtain⟨a,rfl⟩:=us1 hl;rfl
 obtain⟨C_,f_Reader_read_short_list,d_Reader_read_short_list,aC_,a_Reader_read_short_list,i_Reader_read_short_list,F__Reader_read_short_list⟩:=q_Reader_read_short_list;rw[aC_Reader] at aC_;cases aC_;have b_Reader_read_short_list:=F__Reader_read_short_list.binds (ps:=["self"]) fun _ _ _ _ _ _ us hl=>by obtain⟨a,rfl⟩:=us1 hl;rfl
 obtain⟨f_read,d_read,a_read,F__read⟩:=q_read;have b_read:=F__read.binds (ps:=["line"]) fun _ _ _ _ _ _ us hl=>by obtain⟨a,rfl⟩:=us1 hl;rfl
 obtain⟨f_draws,d_draws,a_draws,F__draws⟩:=q_draws;have b_draws:=F__draws.binds (ps:=["_law_script", "_law_turn", "_law_many"]) fun _ _ _ _ _ _ us hl=>by obtain⟨a,b,c,rfl⟩:=us3 hl;rfl
 obtain⟨f_pop,d_pop,a_pop,F__pop⟩:=q_pop;have b_pop:=F__pop.binds (ps:=["_law_draws_here"]) fun _ _ _ _ _ _ us hl=>by obtain⟨a,rfl⟩:=us1 hl;rfl
 obtain⟨f_alike,d_alike,a_alike,F__alike⟩:=q_alike;have b_alike:=F__alike.binds (ps:=["_law_found", "_law_due"]) fun _ _ _ _ _ _ us hl=>by obtain⟨a,b,rfl⟩:=us2 hl;rfl
 obtain⟨f_name,d_name,a_name,F__name⟩:=q_name;have b_name:=F__name.binds (ps:=["_law_k", "_law_draw"]) fun _ _ _ _ _ _ us hl=>by obtain⟨a,b,rfl⟩:=us2 hl;rfl
 obtain⟨f_names,d_names,a_names,F__names⟩:=q_names;have b_names:=F__names.binds (ps:=["_law_draw"]) fun _ _ _ _ _ _ us hl=>by obtain⟨a,rfl⟩:=us1 hl;rfl
 obtain⟨f_text,d_text,a_text,F__text⟩:=q_text;have b_text:=F__text.binds (ps:=["_law_number"]) fun _ _ _ _ _ _ us hl=>by obtain⟨a,rfl⟩:=us1 hl;rfl
 obtain⟨f_wish,d_wish,a_wish,F__wish⟩:=q_wish;have b_wish:=F__wish.binds (ps:=["_law_draws_here", "_law_names_here", "_law_deep"]) fun _ _ _ _ _ _ us hl=>by obtain⟨a,b,c,rfl⟩:=us3 hl;rfl
 obtain⟨f_steps,d_steps,a_steps,F__steps⟩:=q_steps;have b_steps:=F__steps.binds (ps:=["_law_draws_here", "_law_names_here", "_law_deep"]) fun _ _ _ _ _ _ us hl=>by obtain⟨a,b,c,rfl⟩:=us3 hl;rfl
 obtain⟨f_wish_text,d_wish_text,a_wish_text,F__wish_text⟩:=q_wish_text;have b_wish_text:=F__wish_text.binds (ps:=["_law_wish_here"]) fun _ _ _ _ _ _ us hl=>by obtain⟨a,rfl⟩:=us1 hl;rfl
 obtain⟨f_line,d_line,a_line,F__line⟩:=q_line;have b_line:=F__line.binds (ps:=["_law_steps_here"]) fun _ _ _ _ _ _ us hl=>by obtain⟨a,rfl⟩:=us1 hl;rfl
 obtain⟨f_text_in,d_text_in,a_text_in,F__text_in⟩:=q_text_in;have b_text_in:=F__text_in.binds (ps:=["_law_line_here", "_law_at"]) fun _ _ _ _ _ _ us hl=>by obtain⟨a,b,rfl⟩:=us2 hl;rfl
 obtain⟨f_name_end,d_name_end,a_name_end,F__name_end⟩:=q_name_end;have b_name_end:=F__name_end.binds (ps:=["_law_line_here", "_law_at"]) fun _ _ _ _ _ _ us hl=>by obtain⟨a,b,rfl⟩:=us2 hl;rfl
 obtain⟨f_steps_in,d_steps_in,a_steps_in,F__steps_in⟩:=q_steps_in;have b_steps_in:=F__steps_in.binds (ps:=["_law_line_here", "_law_at"]) fun _ _ _ _ _ _ us hl=>by obtain⟨a,b,rfl⟩:=us2 hl;rfl
 obtain⟨f_step_in,d_step_in,a_step_in,F__step_in⟩:=q_step_in;have b_step_in:=F__step_in.binds (ps:=["_law_line_here", "_law_at"]) fun _ _ _ _ _ _ us hl=>by obtain⟨a,b,rfl⟩:=us2 hl;rfl
 obtain⟨f_wish_in,d_wish_in,a_wish_in,F__wish_in⟩:=q_wish_in;have b_wish_in:=F__wish_in.binds (ps:=["_law_line_here", "_law_at"]) fun _ _ _ _ _ _ us hl=>by obtain⟨a,b,rfl⟩:=us2 hl;rfl
 obtain⟨f_list_in,d_list_in,a_list_in,F__list_in⟩:=q_list_in;have b_list_in:=F__list_in.binds (ps:=["_law_line_here", "_law_at"]) fun _ _ _ _ _ _ us hl=>by obtain⟨a,b,rfl⟩:=us2 hl;rfl
 obtain⟨f_odd,d_odd,a_odd,F__odd⟩:=q_odd;have b_odd:=F__odd.binds (ps:=["_law_number"]) fun _ _ _ _ _ _ us hl=>by obtain⟨a,rfl⟩:=us1 hl;rfl
 obtain⟨f_bent,d_bent,a_bent,F__bent⟩:=q_bent;have b_bent:=F__bent.binds (ps:=["_law_line_here", "_law_draws_here"]) fun _ _ _ _ _ _ us hl=>by obtain⟨a,b,rfl⟩:=us2 hl;rfl
 obtain⟨f_kind,d_kind,a_kind,F__kind⟩:=q_kind;have b_kind:=F__kind.binds (ps:=["_law_error"]) fun _ _ _ _ _ _ us hl=>by obtain⟨a,rfl⟩:=us1 hl;rfl
 obtain⟨f_refused,d_refused,a_refused,F__refused⟩:=q_refused;have b_refused:=F__refused.binds (ps:=["_law_line_here"]) fun _ _ _ _ _ _ us hl=>by obtain⟨a,rfl⟩:=us1 hl;rfl
 obtain⟨C_,f_xi,d_xi,aC_,xi_e,xi_ty,F_xi⟩:=q_xinit;rw[aC_NoText] at aC_;cases aC_;have b_xi:=F_xi.binds (ps:=["self", "at"]) fun _ _ _ _ _ _ us hl=>by obtain⟨a,b,rfl⟩:=us2 hl;rfl
 have M:=qiF xi_e xi_ty x_kp;have XS:=qgE su_x;have A7:qlm K mg C_NoText:=⟨⟨⟨x_ga,x_gt,x_mb⟩,x_hd,x_ha,x_hn,x_ht,x_hm⟩,⟨⟨x_ga,x_gt,x_mb⟩,x_hd,x_na⟩,⟨_,mg_of X G aC_NoSign,kk_NoSign,nn_NoSign⟩,⟨_,mg_of X G aC_NoText,kk_NoText,nn_NoText⟩,⟨_,mg_of X G aC_NoPart,kk_NoPart,nn_NoPart⟩,⟨_,mg_of X G aC_Taken,kk_Taken,nn_Taken⟩,⟨_,mg_of X G aC_Late,kk_Late,nn_Late⟩,kk_V⟩;have FL:=qaP (st:=iI) lL cL kL_;refine⟨fnOf "law" "law" (gS iI) (cI iI) (am iI) .none kVL dcL pmL anL cdL ctL,fun s v =>.of_eq rfl,fun base _ _ =>?_⟩
 have FI:=qfv (P:=l.prog) (w:=w) (mg:=mg) (base:=base) F_xi (C:=C_NoText) ⟨x_sa,x_po,x_tk,x_hd⟩;have x_NoText:OkX l.prog w K mg base "NoText" 1:=⟨C_NoText,f_xi,_,aC_NoText,mg_of X G aC_NoText,M,FI,b_xi⟩;have h_Reader___init__:kO l.prog w K mg base "Reader" "__init__" 1 (spC K 0 cC):=⟨C_Reader,f_Reader___init__,_,_,aC_Reader,cls_Reader,⟨a_Reader___init__,i_Reader___init__,F__Reader___init__.kp⟩,ii F__Reader___init__ k_Reader_at k_Reader_line,b_Reader___init__⟩;have h_Reader_ahead:kO l.prog w K mg base "Reader" "ahead" 1 (spF K aq):=⟨C_Reader,f_Reader_ahead,_,_,aC_Reader,cls_Reader,⟨a_Reader_ahead,i_Reader_ahead,F__Reader_ahead.kp⟩,nr F__Reader_ahead k_Reader_at k_Reader_line,b_Reader_ahead⟩;have h_Reader_pass_over:dR l.prog w K mg base "Reader" "pass_over" 3 (cP K 0 ae):=⟨C_Reader,f_Reader_pass_over,_,_,aC_Reader,cls_Reader,⟨a_Reader_pass_over,i_Reader_pass_over,F__Reader_pass_over.kp⟩,kJ F__Reader_pass_over k_Reader_at x_NoText (h_Reader_ahead.mono (by decide)),b_Reader_pass_over⟩
 have h_Reader_read_name:dR l.prog w K mg base "Reader" "read_name" 4 (cP K 0 cj):=⟨C_Reader,f_Reader_read_name,_,_,aC_Reader,cls_Reader,⟨a_Reader_read_name,i_Reader_read_name,F__Reader_read_name.kp⟩,kG F__Reader_read_name k_Reader_at k_Reader_line x_NoText (h_Reader_ahead.mono (by decide)) (h_Reader_pass_over.mono (by decide)),b_Reader_read_name⟩
 have h_Reader_read_mark:dR l.prog w K mg base "Reader" "read_mark" 4 (cP K 0 bE):=⟨C_Reader,f_Reader_read_mark,_,_,aC_Reader,cls_Reader,⟨a_Reader_read_mark,i_Reader_read_mark,F__Reader_read_mark.kp⟩,kH F__Reader_read_mark k_Reader_at T_KINDS x_NoText (h_Reader_ahead.mono (by decide)) (h_Reader_pass_over.mono (by decide)),b_Reader_read_mark⟩
 have h_Reader_read_text_sign:dR l.prog w K mg base "Reader" "read_text_sign" 4 (cP K 0 bO):=⟨C_Reader,f_Reader_read_text_sign,_,_,aC_Reader,cls_Reader,⟨a_Reader_read_text_sign,i_Reader_read_text_sign,F__Reader_read_text_sign.kp⟩,iP F__Reader_read_text_sign z_ord k_Reader_at c_PERCENT x_NoText (h_Reader_ahead.mono (by decide)) (h_Reader_pass_over.mono (by decide)),b_Reader_read_text_sign⟩
 have h_Reader_read_text:dR l.prog w K mg base "Reader" "read_text" 5 (cP K 0 cT):=⟨C_Reader,f_Reader_read_text,_,_,aC_Reader,cls_Reader,⟨a_Reader_read_text,i_Reader_read_text,F__Reader_read_text.kp⟩,kE F__Reader_read_text (h_Reader_ahead.mono (by decide)) (h_Reader_pass_over.mono (by decide)) (h_Reader_read_text_sign.mono (by decide)),b_Reader_read_text⟩
 have bw:∀ n,dR l.prog w K mg base "Reader" "read_steps" (n+5) (cP K 0 (aD n))/\dR l.prog w K mg base "Reader" "read_step" (n+5) (cP K 0 (aK n))/\dR l.prog w K mg base "Reader" "read_wish" (n+5) (cP K 0 (aG n))/\dR l.prog w K mg base "Reader" "read_list" (n+5) (cP K 0 (aM n))/\dR l.prog w K mg base "Reader" "read_short_list" (n+5) (cP K 0 (aw n)):=fun n=>by
  induction n with
  | zero=>exact⟨⟨C_Reader,f_Reader_read_steps,_,_,aC_Reader,cls_Reader,⟨a_Reader_read_steps,i_Reader_read_steps,F__Reader_read_steps.kp⟩,⟨fun vs H Q E ⟨G,ds,r,a,o,c,_,_,_,_,_,_,_,_,eq,_⟩=>(by cases eq),fun A outer s H args us vs Q E hr he hb hv ⟨G,ds,r,a,o,c,_,_,_,_,_,_,_,_,eq,_⟩=>(by cases eq)⟩,b_Reader_read_steps⟩,⟨C_Reader,f_Reader_read_step,_,_,aC_Reader,cls_Reader,⟨a_Reader_read_step,i_Reader_read_step,F__Reader_read_step.kp⟩,⟨fun vs H Q E ⟨G,ds,r,a,o,c,_,_,_,_,_,_,_,_,eq,_⟩=>(by cases eq),fun A outer s H args us vs Q E hr he hb hv ⟨G,ds,r,a,o,c,_,_,_,_,_,_,_,_,eq,_⟩=>(by cases eq)⟩,b_Reader_read_step⟩,⟨C_Reader,f_Reader_read_wish,_,_,aC_Reader,cls_Reader,⟨a_Reader_read_wish,i_Reader_read_wish,F__Reader_read_wish.kp⟩,⟨fun vs H Q E ⟨G,ds,r,a,o,c,_,_,_,_,_,_,_,_,eq,_⟩=>(by cases eq),fun A outer s H args us vs Q E hr he hb hv ⟨G,ds,r,a,o,c,_,_,_,_,_,_,_,_,eq,_⟩=>(by cases eq)⟩,b_Reader_read_wish⟩,⟨C_Reader,f_Reader_read_list,_,_,aC_Reader,cls_Reader,⟨a_Reader_read_list,i_Reader_read_list,F__Reader_read_list.kp⟩,⟨fun vs H Q E ⟨G,ds,r,a,o,c,_,_,_,_,_,_,_,_,eq,_⟩=>(by cases eq),fun A outer s H args us vs Q E hr he hb hv ⟨G,ds,r,a,o,c,_,_,_,_,_,_,_,_,eq,_⟩=>(by cases eq)⟩,b_Reader_read_list⟩,⟨C_Reader,f_Reader_read_short_list,_,_,aC_Reader,cls_Reader,⟨a_Reader_read_short_list,i_Reader_read_short_list,F__Reader_read_short_list.kp⟩,⟨fun vs H Q E ⟨G,ds,r,a,o,c,_,_,_,_,_,_,_,_,eq,_⟩=>(by cases eq),fun A outer s H args us vs Q E hr he hb hv ⟨G,ds,r,a,o,c,_,_,_,_,_,_,_,_,eq,_⟩=>(by cases eq)⟩,b_Reader_read_short_list⟩⟩
  | succ n ih=>obtain⟨h_Reader_read_steps,h_Reader_read_step,h_Reader_read_wish,h_Reader_read_list,h_Reader_read_short_list⟩:=ih;exact⟨⟨C_Reader,f_Reader_read_steps,_,_,aC_Reader,cls_Reader,⟨a_Reader_read_steps,i_Reader_read_steps,F__Reader_read_steps.kp⟩,(jY F__Reader_read_steps (h_Reader_ahead.mono (by omega)) h_Reader_read_step).mono (by omega),b_Reader_read_steps⟩,⟨C_Reader,f_Reader_read_step,_,_,aC_Reader,cls_Reader,⟨a_Reader_read_step,i_Reader_read_step,F__Reader_read_step.kp⟩,(kF F__Reader_read_step k_Reader_at x_NoText (h_Reader_ahead.mono (by omega)) (h_Reader_pass_over.mono (by omega)) (h_Reader_read_name.mono (by omega)) h_Reader_read_wish).mono (by omega),b_Reader_read_step⟩,⟨C_Reader,f_Reader_read_wish,_,_,aC_Reader,cls_Reader,⟨a_Reader_read_wish,i_Reader_read_wish,F__Reader_read_wish.kp⟩,(kD F__Reader_read_wish (h_Reader_ahead.mono (by omega)) (h_Reader_pass_over.mono (by omega)) (h_Reader_read_text.mono (by omega)) h_Reader_read_steps h_Reader_read_list).mono (by omega),b_Reader_read_wish⟩,⟨C_Reader,f_Reader_read_list,_,_,aC_Reader,cls_Reader,⟨a_Reader_read_list,i_Reader_read_list,F__Reader_read_list.kp⟩,(kI F__Reader_read_list T_KINDS (h_Reader_ahead.mono (by omega)) (h_Reader_pass_over.mono (by omega)) (h_Reader_read_mark.mono (by omega)) h_Reader_read_wish h_Reader_read_short_list).mono (by omega),b_Reader_read_list⟩,⟨C_Reader,f_Reader_read_short_list,_,_,aC_Reader,cls_Reader,⟨a_Reader_read_short_list,i_Reader_read_short_list,F__Reader_read_short_list.kp⟩,(iq F__Reader_read_short_list T_KINDS (h_Reader_ahead.mono (by omega)) (h_Reader_pass_over.mono (by omega)) (h_Reader_read_mark.mono (by omega)) h_Reader_read_wish).mono (by omega),b_Reader_read_short_list⟩⟩
 have h_Reader_read_steps:dR l.prog w K mg base "Reader" "read_steps" 195 (cP K 0 aO):=(bw 190).1.mono (by decide)
 have X_read:bD l.prog w K mg base (CX2 l.prog w) 200 f_read d_read ["line"] (qd1 K fq):=qhw F__read z_len k_Reader_at x_NoText ⟨C_Reader,f_Reader___init__,_,_,aC_Reader,mg_of X G aC_Reader,⟨mk_Reader,a_Reader___init__,i_Reader___init__,kc_Reader⟩,((ii F__Reader___init__ k_Reader_at k_Reader_line).mono (by decide)),b_Reader___init__⟩ (h_Reader_read_steps.mono (by decide))
 have h_read:Ok1 l.prog w K mg base "read" 200 (spF K iZ):=⟨f_read,_,_,X_read.noX,mg_of X G a_read,F__read.kp,b_read⟩;have FK:=qhz (P:=l.prog) (w:=w) (mg:=mg) (base:=base) F__kind z_isinstance z_ValueError A7;have h_refused:Ok1 l.prog w K mg base "_law_refused" 201 (spF K bN):=⟨f_refused,_,_,qcw F__refused X_read (mg_of X G a_read) F__read.kp b_read FK (mg_of X G a_kind) F__kind.kp b_kind aC_NoText XS (mg_of X G aC_SiftError),mg_of X G a_refused,F__refused.kp,b_refused⟩;have h_draws:Ok1 l.prog w K mg base "_law_draws" 1 (spO K gs):=⟨f_draws,_,_,qfy F__draws z_len z_range,mg_of X G a_draws,F__draws.kp,b_draws⟩;have h_pop:Ok1 l.prog w K mg base "_law_pop" 1 (spM K 0 ge):=⟨f_pop,_,_,qji F__pop ,mg_of X G a_pop,F__pop.kp,b_pop⟩;have ky:∀ n,Ok1 l.prog w K mg base "_law_alike" (n+0) (spF K (cS n)):=fun n=>by
  induction n with
  | zero=>exact⟨f_alike,_,_,⟨fun vs H Q E ⟨G,ds,d,gh,r,eq,_⟩=>(by cases eq),fun A outer s H args us vs Q E hr he hb hv ⟨G,ds,d,gh,r,eq,_⟩=>(by cases eq)⟩,mg_of X G a_alike,F__alike.kp,b_alike⟩
  | succ n ih=>have h_alike:=ih;exact⟨f_alike,_,_,(qfz F__alike z_bool z_int z_isinstance z_len z_list z_range z_str z_tuple h_alike).mono (by omega),mg_of X G a_alike,F__alike.kp,b_alike⟩
 have h_alike:Ok1 l.prog w K mg base "_law_alike" 100 (spF K gu):=(ky 100).mono (by decide)
 have h_name:Ok1 l.prog w K mg base "_law_name" 1 (spF K jB):=⟨f_name,_,_,qhx F__name z_len z_range,mg_of X G a_name,F__name.kp,b_name⟩;have h_names:Ok1 l.prog w K mg base "_law_names" 2 (spF K iH):=⟨f_names,_,_,qfx F__names z_range (h_name.mono (by decide)),mg_of X G a_names,F__names.kp,b_names⟩
 have h_text:Ok1 l.prog w K mg base "_law_text" 1 (spF K kl):=⟨f_text,_,_,qhv F__text z_len,mg_of X G a_text,F__text.kp,b_text⟩;have js:∀ n,Ok1 l.prog w K mg base "_law_wish" (n+1) (spM K 0 (cu n))/\Ok1 l.prog w K mg base "_law_steps" (n+1) (spM K 0 (cx n)):=fun n=>by
  induction n with
  | zero=>exact⟨⟨f_wish,_,_,⟨fun vs H Q E ⟨G,ds,d,xs',a,ws,xs,_,_,_,_,_,_,_,_,eq,_⟩=>(by cases eq),fun A outer s H args us vs Q E hr he hb hv ⟨G,ds,d,xs',a,ws,xs,_,_,_,_,_,_,_,_,eq,_⟩=>(by cases eq)⟩,mg_of X G a_wish,F__wish.kp,b_wish⟩,⟨f_steps,_,_,⟨fun vs H Q E ⟨G,ds,d,xs',a,ws,xs,_,_,_,_,_,_,_,_,eq,_⟩=>(by cases eq),fun A outer s H args us vs Q E hr he hb hv ⟨G,ds,d,xs',a,ws,xs,_,_,_,_,_,_,_,_,eq,_⟩=>(by cases eq)⟩,mg_of X G a_steps,F__steps.kp,b_steps⟩⟩
  | succ n ih=>obtain⟨h_wish,h_steps⟩:=ih;exact⟨⟨f_wish,_,_,(qhu F__wish z_range (h_pop.mono (by omega)) (h_text.mono (by omega)) h_steps h_wish).mono (by omega),mg_of X G a_wish,F__wish.kp,b_wish⟩,⟨f_steps,_,_,(qfw F__steps z_len z_range (h_pop.mono (by omega)) h_wish).mono (by omega),mg_of X G a_steps,F__steps.kp,b_steps⟩⟩
 have h_wish:Ok1 l.prog w K mg base "_law_wish" 13 (spM K 0 gn):=(js 12).1.mono (by decide)
 have h_steps:Ok1 l.prog w K mg base "_law_steps" 13 (spM K 0 cK):=(js 12).2.mono (by decide)
 have bb:∀ n,Ok1 l.prog w K mg base "_law_wish_text" (n+0) (spF K (bn n))/\Ok1 l.prog w K mg base "_law_line" (n+0) (spF K (dY n)):=fun n=>by
  induction n with
  | zero=>exact⟨⟨f_wish_text,_,_,⟨fun vs H Q E ⟨G,ds,d,gh,r,eq,_⟩=>(by cases eq),fun A outer s H args us vs Q E hr he hb hv ⟨G,ds,d,gh,r,eq,_⟩=>(by cases eq)⟩,mg_of X G a_wish_text,F__wish_text.kp,b_wish_text⟩,⟨f_line,_,_,⟨fun vs H Q E ⟨G,ds,d,gh,r,eq,_⟩=>(by cases eq),fun A outer s H args us vs Q E hr he hb hv ⟨G,ds,d,gh,r,eq,_⟩=>(by cases eq)⟩,mg_of X G a_line,F__line.kp,b_line⟩⟩
  | succ n ih=>obtain⟨h_wish_text,h_line⟩:=ih;exact⟨⟨f_wish_text,_,_,(qax F__wish_text z_int z_len h_line h_wish_text).mono (by omega),mg_of X G a_wish_text,F__wish_text.kp,b_wish_text⟩,⟨f_line,_,_,(qhy F__line z_int h_wish_text).mono (by omega),mg_of X G a_line,F__line.kp,b_line⟩⟩
 have h_wish_text:Ok1 l.prog w K mg base "_law_wish_text" 12 (spF K bM):=(bb 12).1.mono (by decide)
 have h_line:Ok1 l.prog w K mg base "_law_line" 12 (spF K dS):=(bb 12).2.mono (by decide)
 have h_text_in:Ok1 l.prog w K mg base "_law_text_in" 1 (spF K jh):=⟨f_text_in,_,_,qcu F__text_in z_int,mg_of X G a_text_in,F__text_in.kp,b_text_in⟩;have h_name_end:Ok1 l.prog w K mg base "_law_name_end" 1 (spF K fM):=⟨f_name_end,_,_,qbC F__name_end ,mg_of X G a_name_end,F__name_end.kp,b_name_end⟩;have eJ:∀ n,Ok1 l.prog w K mg base "_law_steps_in" (n+1) (spF K (bK n))/\Ok1 l.prog w K mg base "_law_step_in" (n+1) (spF K (cE n))/\Ok1 l.prog w K mg base "_law_wish_in" (n+1) (spF K (bI n))/\Ok1 l.prog w K mg base "_law_list_in" (n+1) (spF K (cF n)):=fun n=>by
  induction n with
  | zero=>exact⟨⟨f_steps_in,_,_,⟨fun vs H Q E ⟨G,ds,d,gh,r,eq,_⟩=>(by cases eq),fun A outer s H args us vs Q E hr he hb hv ⟨G,ds,d,gh,r,eq,_⟩=>(by cases eq)⟩,mg_of X G a_steps_in,F__steps_in.kp,b_steps_in⟩,⟨f_step_in,_,_,⟨fun vs H Q E ⟨G,ds,d,gh,r,eq,_⟩=>(by cases eq),fun A outer s H args us vs Q E hr he hb hv ⟨G,ds,d,gh,r,eq,_⟩=>(by cases eq)⟩,mg_of X G a_step_in,F__step_in.kp,b_step_in⟩,⟨f_wish_in,_,_,⟨fun vs H Q E ⟨G,ds,d,gh,r,eq,_⟩=>(by cases eq),fun A outer s H args us vs Q E hr he hb hv ⟨G,ds,d,gh,r,eq,_⟩=>(by cases eq)⟩,mg_of X G a_wish_in,F__wish_in.kp,b_wish_in⟩,⟨f_list_in,_,_,⟨fun vs H Q E ⟨G,ds,d,gh,r,eq,_⟩=>(by cases eq),fun A outer s H args us vs Q E hr he hb hv ⟨G,ds,d,gh,r,eq,_⟩=>(by cases eq)⟩,mg_of X G a_list_in,F__list_in.kp,b_list_in⟩⟩
  | succ n ih=>obtain⟨h_steps_in,h_step_in,h_wish_in,h_list_in⟩:=ih;exact⟨⟨f_steps_in,_,_,(qbB F__steps_in h_step_in).mono (by omega),mg_of X G a_steps_in,F__steps_in.kp,b_steps_in⟩,⟨f_step_in,_,_,(qcv F__step_in z_int (h_name_end.mono (by omega)) h_wish_in).mono (by omega),mg_of X G a_step_in,F__step_in.kp,b_step_in⟩,⟨f_wish_in,_,_,(qct F__wish_in (h_text_in.mono (by omega)) h_list_in h_steps_in).mono (by omega),mg_of X G a_wish_in,F__wish_in.kp,b_wish_in⟩,⟨f_list_in,_,_,(qcx F__list_in z_int z_len h_wish_in).mono (by omega),mg_of X G a_list_in,F__list_in.kp,b_list_in⟩⟩
 have h_steps_in:Ok1 l.prog w K mg base "_law_steps_in" 191 (spF K bo):=(eJ 190).1.mono (by decide)
 have h_odd:Ok1 l.prog w K mg base "_law_odd" 1 (spF K nk):=⟨f_odd,_,_,qjj F__odd z_len,mg_of X G a_odd,F__odd.kp,b_odd⟩;have h_bent:Ok1 l.prog w K mg base "_law_bent" 1 (spF K km):=⟨f_bent,_,_,qhA F__bent z_len,mg_of X G a_bent,F__bent.kp,b_bent⟩;exact qjk FL z_len z_range (h_draws.mono (by decide)) (h_pop.mono (by decide)) (h_names.mono (by decide)) (h_steps.mono (by decide)) (h_line.mono (by decide)) (h_bent.mono (by decide)) (h_odd.mono (by decide)) (h_steps_in.mono (by decide)) (h_refused.mono (by decide)) (h_read.mono (by decide)) (h_alike.mono (by decide))
theorem qlz {l:PySem.W.OpenLaw}{q:Program}{loose:List Str}{XP:(Str->Option Value)->Heap->Prop}{YP:World->Heap->Prop}{d:DefRec}{K:Params->Frag}(hn:l.most=some 63) (hdf:d.params.defaults=[])
  (hY:∀ (w:World) (h:Heap),YP w h->(K w.params).In h)
  (F:∀ (w:World) (mg:Str->Option Value) (fa:Addr) (h:Heap),(K w.params).In h->h.Ns mainGlobals mg->mg d.name=some (.ref fa) ->
   ∃ fd:FuncData,(∀ (s:Shared) (u:Value),BindsTo s fd ⟨[u],[]⟩ [("_law_script",u)])/\∀ base:Heap,(K w.params).In base->base.Ns mainGlobals mg->bD l.prog w (K w.params) mg base CX0 202 fa fd ["_law_script"] (spF (K w.params) qb7)) :
  PySem.W.WalkO q loose XP YP l.row.toRowW d [] (fun f vs=>PySem.call f vs):=
 L2.qeJ (n:=63) (k:=202) (x:= "_law_script") (CX:=CX0) (sp:=fun K=>spF K qb7) hn (by decide) hdf ⟨rfl,by decide,by decide⟩ hY F (fun K H a ns hl hO hS=>qjy qfW K H a ns hl hO hS) fun _ _ _ _ z=>z
end K16
open PySem PySem.W PyProof.Rows
local macro_rules | `(tactic| walk_at "fa") => `(tactic| exact K16.qlw (by k_is) (by k_is) (by k_is) (by k_is))
local macro_rules | `(tactic| walk_at "ma") => `(tactic| exact K16.qlu (by k_is) (by k_is) (by k_is) (by k_is) (by k_is) (by k_is))
local macro_rules | `(tactic| walk_at "xa") => `(tactic| exact K16.qln (by k_is) (by k_is) (by kernel_rfl) (by k_is) (by k_is) (by k_is) (by k_is))
local macro_rules | `(tactic| walk_at "ta") => `(tactic| exact K16.qka (by k_is) (by k_is) (by decide) rfl rfl (by decide +kernel))
namespace PySem.W.Fast
theorem tw10391088241606854110:True:=⟨⟩
theorem tw2915321428620406970:True:=⟨⟩
theorem tw15522611256585499939:True:=⟨⟩
theorem tw8309335666812443125:True:=⟨⟩
theorem tw5247009432241935226:True:=⟨⟩
theorem tw16137718619486396148:True:=⟨⟩
theorem tw5259625092591860732:True:=⟨⟩
theorem tw14570911208872520417:True:=⟨⟩
theorem tw9974107900499313067:True:=⟨⟩
theorem tw5852210587090074132:True:=⟨⟩
theorem tw2041188103566961263:True:=⟨⟩
theorem tw2535957965377979326:True:=⟨⟩
theorem tw9280657840017563116:True:=⟨⟩
theorem tw819752798386932397:True:=⟨⟩
theorem tw3586015973414311034:True:=⟨⟩
theorem tw4265941510874597111:True:=⟨⟩
theorem tw4537882632142811034:True:=⟨⟩
theorem tw4635688663150122526:True:=⟨⟩
theorem tw16258800002620749618:True:=⟨⟩
theorem tw14868409836108721339:True:=⟨⟩
theorem tw17304847622081252119:True:=⟨⟩
theorem tw11714862994788537200:True:=⟨⟩
theorem tw4281856088093305538:True:=⟨⟩
theorem tw653969578936370944:True:=⟨⟩
theorem tw16816613804321305236:True:=⟨⟩
theorem tw17167164457033484897:True:=⟨⟩
theorem tw4045178188318175984:True:=⟨⟩
theorem tw16077006407379458549:True:=⟨⟩
theorem tw1329275744613401567:True:=⟨⟩
theorem tw11454860646887287841:True:=⟨⟩
theorem tw1135146540812301023:True:=⟨⟩
theorem tw17512684590447211232:True:=⟨⟩
theorem tw7212379139140311537:True:=⟨⟩
theorem tw16939343528987330632:True:=⟨⟩
theorem tw11325008473280906456:True:=⟨⟩
theorem tw9193617746447539373:True:=⟨⟩
theorem tw380269979482335813:True:=⟨⟩
theorem tw1557557318547016951:True:=⟨⟩
theorem tw13726749865294900200:True:=⟨⟩
theorem tw1357068138232168689:True:=⟨⟩
theorem tw3991457991321536729:True:=⟨⟩
theorem tw18207818421172652206:True:=⟨⟩
theorem tw2298837415787127155:True:=⟨⟩
theorem tw3645649907218727818:True:=⟨⟩
theorem tw9388463726495200158:True:=⟨⟩
theorem tw2026737379350294932:True:=⟨⟩
theorem tw4063685191513991665:True:=⟨⟩
theorem tw11831860510662980753:True:=⟨⟩
theorem tw12395497221986843333:True:=⟨⟩
theorem tw2379174075982951123:True:=⟨⟩
theorem tw17290711468175300613:True:=⟨⟩
theorem tw373593496248497824:True:=⟨⟩
theorem tw8328059887802582529:True:=⟨⟩
theorem tw1150173550781499632:True:=⟨⟩
theorem tw15528156373755367565:True:=⟨⟩
theorem tw14264429194566999692:True:=⟨⟩
theorem tw14577990774956813649:True:=⟨⟩
theorem tw11747265651468642147:True:=⟨⟩
theorem tw7745425764854177832:True:=⟨⟩
theorem tw3757587971444300511:True:=⟨⟩
theorem tw8613662520149930367:True:=⟨⟩
theorem tw8147919280993580862:True:=⟨⟩
theorem tw1434384789187551578:True:=⟨⟩
theorem tw1636568602552535133:True:=⟨⟩
theorem tw15615954905345136644:True:=⟨⟩
theorem tw17772030654828867699:True:=⟨⟩
theorem tw6290630440656720548:True:=⟨⟩
theorem tw4573373961137894715:True:=⟨⟩
theorem tw389466619434407189:True:=⟨⟩
theorem tw17572248373191420626:True:=⟨⟩
theorem tw12916174012940691539:True:=⟨⟩
theorem tw17772813472229461862:True:=⟨⟩
theorem tw9797724563657147375:True:=⟨⟩
theorem tw1156324888043212660:True:=⟨⟩
theorem tw901522505949909090:True:=⟨⟩
theorem tw10095261731234759114:True:=⟨⟩
theorem tw16142670624419954336:True:=⟨⟩
theorem tw6165923662540611709:True:=⟨⟩
theorem tw10776724055842783654:True:=⟨⟩
theorem tw12937225330100078128:True:=⟨⟩
theorem tw633051981273275954:True:=⟨⟩
theorem tw2313331400059815960:True:=⟨⟩
theorem tw4297685526388386949:True:=⟨⟩
theorem tw11192892080420040595:True:=⟨⟩
theorem tw422363816138385242:True:=⟨⟩
theorem tw8072849278721406025:True:=⟨⟩
theorem tw10845978722044716630:True:=⟨⟩
theorem tw4440681118573306711:True:=⟨⟩
theorem tw9937223813415714090:True:=⟨⟩
theorem tw11416522608331755725:True:=⟨⟩
theorem tw2743411250067009762:True:=⟨⟩
theorem tw3211330510770154633:True:=⟨⟩
theorem tw7081480318720408081:True:=⟨⟩
theorem tw7779816874546095640:True:=⟨⟩
theorem tw16838738071802378866:True:=⟨⟩
theorem tw9656681946793944946:True:=⟨⟩
theorem tw11634000386663706386:True:=⟨⟩
theorem tw14469421795208917039:True:=⟨⟩
theorem tw6529339039969731023:True:=⟨⟩
theorem tw12646243819258778459:True:=⟨⟩
theorem tw203790965723394938:True:=⟨⟩
theorem tw11678670148712230350:True:=⟨⟩
theorem tw8383982674216135690:True:=⟨⟩
theorem tw13085891260486706444:True:=⟨⟩
theorem tw4841224790733882965:True:=⟨⟩
theorem tw552811167828554122:True:=⟨⟩
theorem tw9344011312687231100:True:=⟨⟩
theorem tw16229636109565565403:True:=⟨⟩
theorem tw10965684800869374777:True:=⟨⟩
theorem tw14512164133601515555:True:=⟨⟩
theorem tw6653869041774180987:True:=⟨⟩
theorem tw9386104259982530203:True:=⟨⟩
theorem tw14825110652246974742:True:=⟨⟩
theorem tw6281501189562132865:True:=⟨⟩
theorem tw5374068358202331618:True:=⟨⟩
theorem tw8312950926603212731:True:=⟨⟩
theorem tw9070290399013367078:True:=⟨⟩
theorem tw6749014351664264639:True:=⟨⟩
theorem tw8755767353449931102:True:=⟨⟩
theorem tw1753122821720507318:True:=⟨⟩
end PySem.W.Fast
set_option maxRecDepth 100000 in
set_option maxHeartbeats 0 in
theorem PySem.Challenge.cw_earlysift_k16_lines_looked_at_holds : PySem.Challenge.rw_earlysift_k16_lines_looked_at.Holds := by
  w_on; o_law; k_head; (case hw => w_witness2)
  k_fill
  refine K16.qlz (l := PySem.Challenge.rw_earlysift_k16_lines_looked_at) rfl rfl (fun w h Y => PySem.W.kIn_of Y) ?F
  case F =>
    intro w mg fa h KX G hmg
    refine' K16.qj4 KX G hmg ?aC_Reader ?pg_Reader ?hd_Reader ?po_Reader ?sa_Reader ?mk_Reader ?kc_Reader ?n_line_Reader ?n_at_Reader ?q_Reader___init__ ?q_Reader_ahead ?q_Reader_pass_over ?q_Reader_read_name ?q_Reader_read_mark ?q_Reader_read_text_sign ?q_Reader_read_text ?q_Reader_read_steps ?q_Reader_read_step ?q_Reader_read_wish ?q_Reader_read_list ?q_Reader_read_short_list ?q_read ?q_draws ?q_pop ?q_alike ?q_name ?q_names ?q_text ?q_wish ?q_steps ?q_wish_text ?q_line ?q_text_in ?q_name_end ?q_steps_in ?q_step_in ?q_wish_in ?q_list_in ?q_odd ?q_bent ?q_kind ?q_refused ?aC_NoText ?aC_NoSign ?aC_NoPart ?aC_Taken ?aC_Late ?aC_SiftError ?kk_NoSign ?nn_NoSign ?kk_NoPart ?nn_NoPart ?kk_Taken ?nn_Taken ?kk_Late ?nn_Late ?kk_NoText ?nn_NoText ?kk_V ?su_x ?x_sa ?x_po ?x_tk ?x_hd ?x_ga ?x_gt ?x_mb ?x_na ?x_ha ?x_hn ?x_ht ?x_hm ?x_kp ?q_xinit ?aL ?lL ?cL ?kL_ ?y_ValueError ?y_bool ?y_int ?y_isinstance ?y_len ?y_list ?y_ord ?y_range ?y_str ?y_tuple ?cc_PERCENT ?tt_KINDS
    (case aC_Reader => k_is); (case pg_Reader => k_is); (case hd_Reader => k_is); (case po_Reader => k_is); (case sa_Reader => k_is); (case mk_Reader => k_is); (case kc_Reader => k_is); (case n_line_Reader => k_is)
    (case n_at_Reader => k_is); (case q_Reader___init__ => walk_at "ma"); (case q_Reader_ahead => walk_at "ma"); (case q_Reader_pass_over => walk_at "ma"); (case q_Reader_read_name => walk_at "ma"); (case q_Reader_read_mark => walk_at "ma"); (case q_Reader_read_text_sign => walk_at "ma"); (case q_Reader_read_text => walk_at "ma")
    (case q_Reader_read_steps => walk_at "ma"); (case q_Reader_read_step => walk_at "ma"); (case q_Reader_read_wish => walk_at "ma"); (case q_Reader_read_list => walk_at "ma"); (case q_Reader_read_short_list => walk_at "ma"); (case q_read => walk_at "fa"); (case q_draws => walk_at "fa"); (case q_pop => walk_at "fa")
    (case q_alike => walk_at "fa"); (case q_name => walk_at "fa"); (case q_names => walk_at "fa"); (case q_text => walk_at "fa"); (case q_wish => walk_at "fa"); (case q_steps => walk_at "fa"); (case q_wish_text => walk_at "fa"); (case q_line => walk_at "fa")
    (case q_text_in => walk_at "fa"); (case q_name_end => walk_at "fa"); (case q_steps_in => walk_at "fa"); (case q_step_in => walk_at "fa"); (case q_wish_in => walk_at "fa"); (case q_list_in => walk_at "fa"); (case q_odd => walk_at "fa"); (case q_bent => walk_at "fa")
    (case q_kind => walk_at "fa"); (case q_refused => walk_at "fa"); (case aC_NoText => k_is); (case aC_NoSign => k_is); (case aC_NoPart => k_is); (case aC_Taken => k_is); (case aC_Late => k_is); (case aC_SiftError => k_is)
    (case kk_NoSign => kit_is); (case nn_NoSign => kit_is); (case kk_NoPart => kit_is); (case nn_NoPart => kit_is); (case kk_Taken => kit_is); (case nn_Taken => kit_is); (case kk_Late => kit_is); (case nn_Late => kit_is)
    (case kk_NoText => kit_is); (case nn_NoText => kit_is); (case kk_V => kit_is); (case su_x => kernel_rfl); (case x_sa => k_is); (case x_po => kernel_rfl); (case x_tk => k_is); (case x_hd => k_is)
    (case x_ga => k_is); (case x_gt => k_is); (case x_mb => k_is); (case x_na => k_is); (case x_ha => k_is); (case x_hn => k_is); (case x_ht => k_is); (case x_hm => k_is)
    (case x_kp => k_is); (case q_xinit => walk_at "xa"); (case aL => k_is); (case lL => k_is); (case cL => k_is); (case kL_ => k_is); (case y_ValueError => k_is); (case y_bool => k_is)
    (case y_int => k_is); (case y_isinstance => k_is); (case y_len => k_is); (case y_list => k_is); (case y_ord => k_is); (case y_range => k_is); (case y_str => k_is); (case y_tuple => k_is)
    (case cc_PERCENT => k_is); (case tt_KINDS => walk_at "ta")
