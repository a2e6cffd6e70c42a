import PyProof.Rows.All
import Wide.All
import OpenK.AllK
import Wide.FinOn
import Lean
import PyProof.EqAt
import PyProof.EqKinds
import PyProof.TupleCall
import PyProof.NeKinds
import PyProof.StrCalls6
import PyProof.FString5
import PyProof.Rows.StrClose
import PyProof.Rows.BitMore
import PyProof.Rows.SortWalk
import PyProof.ListStr
import PyProof.Rows.SeqCalls
import PyProof.DictItems
import PyProof.SumWalk
import PyProof.Rows.SumGenD
import PySem.Challenge.RW_earlysift_k30_lying_within_goes_on
open Option renaming some->Y,none->M,bind_eq_some_iff->aa,bind_some->ae,map_eq_some_iff->ak,map_some->bP,map->zY
open Bool renaming true->Z',false->Z_,and_eq_true->aO,false_ne_true->bS,false_eq_true->dO,or_eq_true->dP,eq_iff_iff->jE
open PySem.Str renaming ofString->ab
open PySem.Heap renaming get?_push_of_some->af,lt_size->aR,get?_push_size->ba,size_push->dX,SameBut->i4
open PySem renaming Value->ai,starEach->aq,Shared->ay,Addr->az,wpAny_bind->aE,Str->aG,sizeLine->a9,Program->be,mainGlobals->br,wpAny->bz,wpAny_pure->bC,model->bD,attributeBase->b_,foldedSetIterable->cR,backTo->c6,World->dz,binaryOp->dB,Heap->dC,keywordEach->dF,swapsWith->dS,compareOp->d_,Stmt->eJ,cellsFrom->fx,FuncData->fy,wpAny_passesOwn->fU,wpAny_truthy_bool->gP,backToKw->gV,bootBuiltins->hJ,sizeLine_eq->hT,behindInMarks->hU,wpAny_mono->ir,sysModules->jc,Around->jd,wpAny_pyIter_list->kK,Keyword->kL,holding->lD,getMethod->lE,cLine->mZ,wpAny_newObj_type->oq,standAt->ou,wpAny_field->qv,sliceBounds->qw,callWith->qy,wpAny_setField_rec->tU,wpAny_Call_Name_kw->tV,tupleKind_room_in1->tW,call_meets->tX,assignEach->tY,NameKind->t6,getItem->ze,codeAny->zg,wpAny_execs_nil->zp,letOwnedTupleGo->zq,tupleKind->CP,callerA->CQ,wpAny_holding->ES,assign->GD,valueAt->J9,codeAny_mono->J_,BindsTo->Kb,wpAny_call_entry->Np,noFill_tuple_add->Nq,PassesOwn->Nr,IsPart->Nt,subscripted->NJ,relabel->QZ,wpAny_seqItems->TJ,typeIs_str->TK,newFunctionEnv->TM,atKey->TN
open List renaming mem_cons_of_mem->aj,mem_cons->au,getElem?_eq_some_iff->ax,getElem?_set_ne->aA,mem_append->aD,mem_cons_self->aF,mem_append_right->aH,mem_append_left->aJ,length_cons->aK,length_append->aP,size_toArray->aU,getElem?_map->aV,map_cons->aW,getElem?_eq_getElem->aX,set_cons_zero->aY,set_cons_succ->aZ,mem_map->bc,length_map->bj,append_nil->bx,append_assoc->bH,replicate->bK,mem_singleton->bR,filter_cons->bW,nil_append->cf,zip_cons_cons->ck,range->cm,perm_append_comm_assoc->cx,getElem?_set_self->cy,nodup_cons->cA,lookup_cons->dy,getElem?_append_left->dW,getElem?_eq_none->en,drop_eq_getElem_cons->fJ,filter_append->fR,cons_append->fS,nodup_append->gm,flatten_cons->gq,mem_filter->gx,map_append->gy,replicate_succ->gC,getElem?_append_right->gW,mem_iff_getElem?->g9,length_singleton->g_,find?_cons->ia,map_map->iu,all_eq_true->iZ,length_nil->jC,any_cons->jG,any_eq_true->kJ,all_cons->k6,lookup->lI,reverse_cons->mm,range_succ_eq_map->mn,any_eq_false->mo,length_take->m_,drop_length->nc,forall_mem_cons->oz,foldl_cons->pd,zipWith->qf,map_nil->qg,drop_zero->qA,getElem?_zip_eq_some->rk,getElem?_eq_none_iff->rp,length_erase_of_mem->sh,getElem_mem->t7,zipWith_cons_cons->vf,all_map->vg,length_filter_le->wc,dropLast_eq_take->wd,mem_of_getElem?->wX,length_reverse->zh,filterMap_cons->zi,findIdx?_eq_some_iff_getElem->Bm,not_mem_nil->EE,mem_flatMap->EF,length_drop->EG,filter->EV,eq_nil_of_length_eq_zero->EW,of_mem_zip->GG,filter_nil->GH,getD_eq_getElem?_getD->Ka,getElem?_replicate->NK,getElem?_cons_succ->NL,take_of_length_le->P8,set_set->P9,length_pos_of_mem->P_,drop_eq_nil_of_le->Qa,any_map->Qb,singleton_append->Q0,range'->TV,mem_erase_of_ne->TY,map_congr_left->Uv,drop_succ_cons->Uw
open Nat renaming le_refl->aw,le_trans->a7,lt_of_lt_of_le->bq,ne_of_lt->bE,testBit_two_pow->c_,le_of_lt->dU,zero_le->fD,testBit_or->f_,le_add_right->gS,ne_of_gt->jt,testBit_and->jB,lt_irrefl->jF,zero_add->ml,lt_of_le_of_lt->qz,testBit_two_pow_self->sf,lt_succ_self->t5,eq_of_testBit_eq->wW,min_eq_right->ED,le_succ->EU,min_eq_left->GF,succ_mul->P6,min_self->P7,mul_le_mul_right->TU,succ_eq_add_one->Uu
open PySem.W renaming Frag->aT,emptyDict->qx,nsIn->vd,findIn->ve,keepIn->EC,instObj->ET
open Sum renaming inr->bo,inl->gk
open PySem.PassesOwn renaming never->bB
open Option.some renaming inj->bN,injEq->mj
open Ne renaming symm->bU
open Function renaming comp_def->cB
open PySem.Value renaming ref->cG,int->sD
open Int renaming toNat_natCast->cN,emod_nonneg->eL,emod_lt_of_pos->eN,lt_of_le_of_lt->gX,le_trans->mq,eq_ofNat_of_zero_le->NM
open PySem.Builtin renaming bitOr->dE,bitAnd->CM
open Pure renaming pure->fi
open PyProof.Rows renaming callWith_type1->gM,envOfC->vj,slot_tuple_getitem->CT,AllBare->EX
open PySem.F renaming plainAttrs_list->gU
open PySem.NameKind renaming free->hV,cell->qm
open PySem.Builtin.Str renaming glued->i5
open Or renaming inl->lF,inr->wV
open PySem.Builtin.Slice renaming slicePlaces->lJ,sliceAdjust->vh,sliceApplied->T4
open PySem.Builtin.Tuple renaming tupleExact->mr
open PySem.Builtin.List renaming listTooLong->mu
open True renaming intro->m9
open PySem.Calls renaming callWith_builtin->oA,spliced_cons->GJ,Name_function_global->TZ
open False renaming elim->qB
open Iff renaming rfl->rT
open PySem.Obj renaming mapSeq->tZ
open List.Perm renaming of_eq->vk
open ForInStep renaming yield->vm
open Array renaming length_toList->zj,getElem?_eq_none->Qc,getElem?_toList->Q1
open PySem.Txt renaming slice->CS
open Classical renaming byContradiction->Kf
open PySem.Heap.IsList renaming push->Nu
open Sum.inr renaming inj->TQ
open Sum.inl renaming inj->TR
set_option bootstrap.genMatcherCode false
set_option compiler.extract_closed false
set_option genSizeOfSpec false
noncomputable section
set_option maxRecDepth 100000
set_option maxHeartbeats 4000000
open PySem.W (Frag mg_of nsIn mg_none_of findIn kia_one fnOf emptyDict keepIn instObj kitOne codeIn plainGet hasDictIn plainOver takerIn makesIn methodObj lookIn)
open PySem.F (plainAttrs_list)
set_option Elab.async false
set_option linter.all false
theorem ſ{p:Prop}(h:p:=by decide):p:=h
theorem ž{p:Prop}(h:p:=by omega):p:=h
theorem Ž{p:Prop}(h:p:=by simp):p:=h
theorem Ŷ{p:Prop}(h:p:=by first|exact lF rfl|exact wV (lF rfl)|exact wV (wV rfl)):p:=h
def ŷ:Lean.Syntax:=Ŷ._auto_1
theorem Ŵ{p:Prop}(h:p:=by walk_at "b"):p:=h
def ŵ:Lean.Syntax:=Ŵ._auto_1
theorem Ų{p:Prop}(h:p:=by rfl):p:=h
def ų:Lean.Syntax:=Ų._auto_1
def ű:Lean.Syntax:=ſ._auto_1
theorem ů{p:Prop}(h:p:=by intro _;rfl):p:=h
def Ű:Lean.Syntax:=ů._auto_1
theorem ŭ{p:Prop}(h:p:=by first|exact .inl rfl|exact .inr rfl|assumption):p:=h
def Ů:Lean.Syntax:=ŭ._auto_1
theorem ū{p:Prop}(h:p:=by intro a;simp_all):p:=h
def Ŭ:Lean.Syntax:=ū._auto_1
theorem ũ{p:Prop}(h:p:=by decide +kernel):p:=h
def Ū:Lean.Syntax:=ũ._auto_1
def Ũ:Lean.Syntax:=ž._auto_1
theorem Ŧ{p:Prop}(h:p:=by exact λ_ _=>rfl):p:=h
def ŧ:Lean.Syntax:=Ŧ._auto_1
namespace L2
open PySem PySem.Spec PyProof.Rows
abbrev hI:=Sum Int aG
noncomputable def AO:hI->ai->Bool
 |.inl k,v=>Value.isInt k v|.inr x,v=>Value.isStrOf x v
noncomputable def XX(w:dz):hI->Int
 |.inl k=>hashInt k|.inr x=>hashStr w x
theorem f7:∀ {k:hI}{v:ai},AO k v=Z'->(∃i t,k=gk i/\v=sD i t)\/(∃x t,k=bo x/\v=Value.str x t)
 |.inl i,v,h=>by obtain⟨t,e⟩:=Value.isInt_shape (k:=i) (v:=v) h;exact .inl ⟨i,t,rfl,e⟩
 |.inr x,v,h=>by obtain⟨t,e⟩:=Value.isStrOf_shape (x:=x) (v:=v) h;exact .inr ⟨x,t,rfl,e⟩
def Jx(i:Int)(t:Tok):AO (.inl i) (.int i t)=true:=by simp[AO,Value.isInt]
def Jw(x:aG)(t:Tok):AO (.inr x) (.str x t)=true:=by simp[AO,Value.isStrOf]
def Sa(a b:Int):decide ((gk a:hI)=gk b)=(a==b):=by
 by_cases e:a=b
 ·subst e;simp
 ·have h:¬(gk a:hI)=gk b:=λq=>e (TR q)
  rw[decide_eq_false h];exact(beq_eq_false_iff_ne.mpr e).symm
def R8(a b:aG):decide ((bo a:hI)=bo b)=decide (a=b):=by
 by_cases e:a=b
 ·subst e;simp
 ·have h:¬(bo a:hI)=bo b:=λq=>e (TQ q)
  rw[decide_eq_false h,decide_eq_false e]
def R_(a:Int)(b:aG):decide ((gk a:hI)=bo b)=false:=decide_eq_false (λq=>nomatch q)
def R9(a:aG)(b:Int):decide ((bo a:hI)=gk b)=false:=decide_eq_false (λq=>nomatch q)
def eG(prog:be)(w:dz):PySem.KeyKind prog w hI where
 is:=AO
 hash:=XX w
 inj:=λv a b l f=>by
  rcases f7 l with⟨i,t,rfl,rfl⟩|⟨x,t,rfl,rfl⟩
  ·rcases f7 f with⟨j,u,rfl,e⟩|⟨y,u,rfl,e⟩
   ·injection e with e1 _;rw[e1]
   ·exact nomatch e
  ·rcases f7 f with⟨j,u,rfl,e⟩|⟨y,u,rfl,e⟩
   ·exact nomatch e
   ·injection e with e1 _;rw[e1]
 byValue:=λk v h=>by
  rcases f7 h with⟨i,t,rfl,rfl⟩|⟨x,t,rfl,rfl⟩<;>rfl
 pyHash:=λc h=>by
  rcases f7 c with⟨i,t,rfl,rfl⟩|⟨x,t,rfl,rfl⟩
  ·exact wpAny_pyHash_int h
  ·exact wpAny_pyHash_str h
 eqBool:=λg c h=>by
  rcases f7 g with⟨i,t,rfl,rfl⟩|⟨x,t,rfl,rfl⟩
  ·rcases f7 c with⟨j,u,rfl,rfl⟩|⟨y,u,rfl,rfl⟩
   ·rw[Sa]at h;exact wpAny_eqBool_int h
   ·rw[R_]at h;exact SeqAt.EqAt.int_str i t y u _ _ _ _ h
  ·rcases f7 c with⟨j,u,rfl,rfl⟩|⟨y,u,rfl,rfl⟩
   ·rw[R9]at h;exact SeqAt.EqAt.str_int x t j u _ _ _ _ h
   ·rw[R8]at h;exact wpAny_eqBool_str h
 «strs» :=λk x t v h=>by
  rcases f7 h with⟨i,u,rfl,e⟩|⟨y,u,rfl,e⟩
  ·exact nomatch e
  ·injection e with e1 _
   subst e1
   cases v<;>rfl
def Dy(prog:be)(w:dz)(i:Int)(t:Tok):(eG prog w).is (.inl i) (.int i t)=true:=Jx i t
def Dx(prog:be)(w:dz)(x:aG)(t:Tok):(eG prog w).is (.inr x) (.str x t)=true:=Jw x t
inductive V where
 |dJ|bl (b:Bool)|int (i:Int)|str (x:aG)|Gs (b:Array UInt8)|SF (b:UInt64)|ref (a:az)|ty (n:String)
 deriving DecidableEq
def RelV:V->ai->Prop
 |.dJ,u=>u=Value.none|.bl b,u=>u=Value.bool b|.int i,u=>∃t,u=sD i t|.str x,u=>∃t,u=Value.str x t|.Gs b,u=>∃t,u=Value.bytes b t|.SF b,u=>∃t,u=Value.float b t|.ref a,u=>u=cG a|.ty n,u=>u=Value.type n
abbrev cj:List V->List ai->Prop:=Paired RelV
def cj.length{xs:List V}{a:List ai}(r:cj xs a):xs.length=a.length:=Paired.length r
theorem cj.get:∀ {xs:List V}{a:List ai}{i:Nat}{x:V},cj xs a->xs[i]?=Y x->∃u,a[i]?=Y u/\RelV x u
 |_,_,_,_,.nil,e=>by simp at e
 |_,_,0,_,.cons r _,e=>by simp at e;subst e;exact⟨_,rfl,r⟩
 |_,_,i+1,x,.cons _ t,e=>by obtain⟨u,J,z⟩:=cj.get (i:=i) (x:=x) t (by simpa using e);exact⟨u,by simpa using J,z⟩
theorem cj.set{u:ai}(r:RelV x u):∀ {xs:List V}{a:List ai}(i:Nat),cj xs a->cj (xs.set i x) (a.set i u)
 |_,_,_,.nil =>.nil|_,_,0,.cons _ t =>.cons r t|_,_,i+1,.cons q t =>.cons q (cj.set r i t)
def cj.append{xs ys:List V}{b a:List ai}(h:cj xs b)(s:cj ys a):cj (xs++ys) (b++a):=by
 induction h with|nil=>exact s|cons r _ ih=>exact .cons r ih
theorem cj.take:∀ {xs:List V}{a:List ai}(n:Nat),cj xs a->cj (xs.take n) (a.take n)
 |_,_,0,_ =>.nil|_,_,_+1,.nil =>.nil|_,_,n+1,.cons r t =>.cons r (cj.take n t)
theorem cj.drop:∀ {xs:List V}{a:List ai}(n:Nat),cj xs a->cj (xs.drop n) (a.drop n)
 |_,_,0,r=>r|_,_,_+1,.nil =>.nil|_,_,n+1,.cons _ t=>cj.drop n t
def qt:Option V->Option ai->Prop
 |some v,Y u=>RelV v u|none,M=>True|_,_=>False
def KV{a:Type}:List (a×V)->List (a×ai)->Prop:=Paired λ(p:a×V) (q:a×ai)=>p.1=q.1/\RelV p.2 q.2
noncomputable def kV:hI->V
 |.inl i =>.int i|.inr x =>.str x
inductive HO where
 |lst (xs:List V)
 |tup (xs:List V)
 |dK (kvs:List (hI×V)) (n:Nat)|dT (kvs:List (List hI×V))
 |set (S:Int->Bool) (n:Nat)
 |ins (C dx:az) (fs:List (aG×V))
 |Z (x:az)
 |xd (fs:List (aG×V))
 |met (f x:az)
 |XD (lo hi:Int)
 |NG (o:Obj) (u:HO)
 |Q8 (ps:Array ai)
 |ext (φ:dC->Prop)
abbrev Hp:=az->Option HO
noncomputable def de(H:Hp)(a:az)(o:HO):Hp:=λb=>if b=a then Y o else H b
def bh{a:az}{o:HO}:de H a o a=Y o:=by unfold de;rw[if_pos rfl]
def aS{a:az}{o:HO}(h:b≠a):de H a o b=H b:=by unfold de;rw[if_neg h]
def GN{o:HO}:de (de H a o) a u=de H a u:=by
 funext b;unfold de;split<;>rfl
def Du{H:Hp}{a:az}(h:H a=Y o)(h':H b=Y u)(d:o≠u):a≠b:=by
 intro e;subst e;rw[h]at h';exact d (bN h')
def bu{H:Hp}(h:H a=Y o)(h':H b=M):a≠b:=by
 intro e;subst e;rw[h]at h';cases h'
def GB(h:dC)(a:az)(g:Array ai):Prop:=∃o,h.get? a=Y o/\(o.cls=.type "tuple" /\o.dict=M)/\∃n,o.data=.seq g n
def GB.t{h:dC}{a:az}{g:Array ai}(x:GB h a g):IsTup h a g:=let ⟨o,e,c,d⟩:=x;⟨o,e,c.1,d⟩
def GB.new(h:dC)(g:Array ai):GB (h.push { cls :=.type "tuple",data :=.seq g }) h.objs.size g:=⟨_,ba _ rfl,⟨rfl,rfl⟩,_,rfl⟩
section
variable (P:be)(w:dz)
def hZ(H:Hp)(h:dC)(a:az):HO->Prop
 |.lst xs=>xs.length<=a9/\∃(g:List ai) (b:Nat),cj xs g/\h.get? a=Y { cls :=.type "list",data :=.seq g.toArray b }|.tup xs=>xs.length<=a9/\∃g:List ai,cj xs g/\GB h a g.toArray|.dK e n=>e.length<=a9/\(a==jc)=Z_/\∃l,KV e l/\h.DictAt (eG P w) a l n| .dT e=>e.length<=a9/\(a==jc)=Z_/\∃xs:List (List hI×az×ai),
   Paired (λ(p:List hI×V) (c:List hI×az×ai)=>p.1=c.1/\H c.2.1=Y (.tup (p.1.map kV))/\RelV p.2 c.2.2) e xs /\
   ∃o es m,h.get? a=Y o/\o.ExactDict/\o.data=.dict es m/\es.toList=xs.map (entryOfKey (CP (eG P w)))/\(xs.map (·.1)).Nodup
 |.set S b=>h.SetOf (intKind P w) a S b| .ins C dx j=>H dx=Y (.Z a)/\j.length<=1000/\dx≠a/\h.get? a=Y (ET C dx) /\
   ∃mA,h.Ns1 dx mA/\(∀f,qt (j.lookup f) (mA f))/\PySem.Within mA (j.map (·.1))
 |.Z _=>∃o,h.get? a=Y o|.xd j=>∃mA,h.Ns1 a mA/\∀f,qt (j.lookup f) (mA f)|.XD n L=>∃t u v,h.get? a=Y { cls :=.type "range",data :=.fields #[.int n t,.int L u,.int 1 v] }|.NG o u=>h.get? a=Y o/\hZ H h a u|.Q8 q=>h.get? a=Y { cls :=.none,data :=.fields q }|.met f x=>h.get? a=Y (methodObj (.ref f) (.ref x))
 |.ext k=>k h/\(∃o,h.get? a=Y o)/\∀J z:dC,k J->(∀o,J.get? a=Y o->z.get? a=Y o)->k z
def oi(H:Hp)(h:dC):Prop:=∀a o,H a=Y o->hZ P w H h a o
end
section
variable {P:be}
def hZ.lt(x:hZ P w H h a o):a<h.objs.size:=by
 cases o with
 |lst xs=>obtain⟨_,_,_,_,e⟩:=x;exact aR e
 |tup xs=>obtain⟨_,_,_,p⟩:=x;exact p.t.lt
 |set S b=>obtain⟨o,_,_,_,e,_⟩:=x;exact aR e
 |ins C dx j=>obtain⟨_,_,_,e,_⟩:=x;exact aR e
 |Z y=>obtain⟨_,e⟩:=x;exact aR e
 |xd j=>obtain⟨_,⟨_,_,_,e,_⟩,_⟩:=x;exact aR e
 |XD n L=>obtain⟨_,_,_,e⟩:=x;exact aR e
 |NG k u=>obtain⟨e,_⟩:=x;exact aR e
 |Q8 q=>exact aR (show h.get? a=Y _ from x)
 |met f y=>exact aR (show h.get? a=Y _ from x)
 |ext g=>obtain⟨_,⟨_,e⟩,_⟩:=x;exact aR e
 |dK E n=>obtain⟨_,_,_,_,o,_,e,_⟩:=x;exact aR e
 |_=>obtain⟨_,_,_,_,o,_,_,e,_⟩:=x;exact aR e
def Paired.Vo{h g:Type}{F G:h->g->Prop}{e:List h}{c:List g}(p:Paired F e c)(f:∀a b,F a b->G a b):Paired G e c:=by
 induction p with|nil=>exact .nil|cons r _ ih=>exact .cons (f _ _ r) ih
def hZ.xK(x:hZ P w H h a o)(k:∀b u,(b=a\/H b=Y (.Z a))->h.get? b=Y u->h'.get? b=Y u)(Q:∀b,H b=Y (.Z a)->H' b=Y (.Z a))(i:∀b xs,H b=Y (.tup xs)->H' b=Y (.tup xs)):hZ P w H' h' a o:=by
 induction o with
 |lst xs=>obtain⟨z,A,g,r,e⟩:=x;exact⟨z,A,g,r,k _ _ (.inl rfl) e⟩
 |tup xs=>obtain⟨z,A,r,m,e,c⟩:=x;exact⟨z,A,r,m,k _ _ (.inl rfl) e,c⟩
 |dK E n=>obtain⟨z,y,F,r,m,es,e,c⟩:=x;exact⟨z,y,F,r,m,es,k _ _ (.inl rfl) e,c⟩
 |dT E=>obtain⟨z,y,xs,r,m,es,s,e,c⟩:=x;exact⟨z,y,xs,Paired.Vo r λp l z=>⟨z.1,i _ _ z.2.1,z.2.2⟩,m,es,s,k _ _ (.inl rfl) e,c⟩
 |set S g=>obtain⟨m,es,s,t,e,c⟩:=x;exact⟨m,es,s,t,k _ _ (.inl rfl) e,c⟩
 |ins C dx j=>obtain⟨d,z,K,e,mA,⟨D,es,s,R,c⟩,r⟩:=x;exact⟨Q _ d,z,K,k _ _ (.inl rfl) e,mA,⟨D,es,s,k _ _ (.inr d) R,c⟩,r⟩
 |Z y=>obtain⟨m,e⟩:=x;exact⟨m,k _ _ (.inl rfl) e⟩
 |xd j=>obtain⟨mA,⟨D,es,s,e,c⟩,r⟩:=x;exact⟨mA,⟨D,es,s,k _ _ (.inl rfl) e,c⟩,r⟩
 |XD n L=>obtain⟨t,u,v,e⟩:=x;exact⟨t,u,v,k _ _ (.inl rfl) e⟩
 |NG m u ih=>obtain⟨e,l⟩:=x;exact⟨k _ _ (.inl rfl) e,ih l⟩
 |Q8 q=>have e:h.get? a=Y { cls :=.none,data :=.fields q }:=x;show h'.get? a=Y { cls :=.none,data :=.fields q };exact k a _ (.inl rfl) e
 |met f y=>have e:h.get? a=Y (methodObj (.ref f) (.ref y)):=x;show h'.get? a=Y (methodObj (.ref f) (.ref y));exact k a _ (.inl rfl) e
 |ext T=>obtain⟨p,⟨o,e⟩,st⟩:=x;exact⟨st _ _ p λo l=>k _ _ (.inl rfl) l,⟨o,k _ _ (.inl rfl) e⟩,st⟩
def oi.lt(x:oi P w H h)(e:H a=Y o):a<h.objs.size:=(x a o e).lt
def oi.fresh(x:oi P w H h)(e:h.objs.size<=a):H a=none:=by
 rcases q:H a with _|u
 ·rfl
 exact absurd (bq (x.lt q) e) (jF _)
def oi.kept(x:oi P w H h)(k:∀b u,h.get? b=Y u->h'.get? b=Y u):oi P w H h':=λa o e=>
 (x a o e).xK (λb u _ q=>k b u q) (λ_ q=>q) λ_ _ q=>q
def oi.laid(x:oi P w H h)(k:∀b u,h.get? b=Y u->h'.get? b=Y u)(m:h.objs.size<=a)(f:hZ P w (de H a o) h' a o):oi P w (de H a o) h':=λb u e=>by
 have g:=x.fresh m;by_cases l:b=a
 ·subst l;rw[bh]at e;cases e;exact f
 ·rw[aS l]at e;exact(x b u e).xK (λc v _ q=>k c v q) (λc q=>by rw[aS (bu q g)];exact q) λc xs q=>by rw[aS (bu q g)];exact q
end
def Rd(H:Hp)(a:az)(u:HO):Prop:=H a=Y u\/∃o,H a=Y (.NG o u)
def Rd.of(h:H a=Y u):Rd H a u :=.inl h
def Rd.ok{P:be}{a:az}(r:Rd H a u)(x:oi P w H h):hZ P w H h a u:=by
 rcases r with r|⟨o,r⟩
 ·exact x a u r
 ·obtain⟨_,q⟩:=x a _ r;exact q
def Wf:Option HO->Prop
 |some (.lst _)=>True|some (.dK _ _)=>True|some (.dT _)=>True|some (.set _ _)=>True|some (.ins _ _ _)=>True|some (.ext _)=>True|_=>False
section
variable {P:be}
def oi.write(C:oi P w H h)(l:Wf (H x))(A:e=x\/H e=Y (.Z x))(k:∀b u,b≠e->h.get? b=Y u->h'.get? b=Y u)(s:∃u,h'.get? e=Y u)(p:hZ P w (de H x o') h' x o'):oi P w (de H x o') h':=λb u q=>by
 have f:∀c y,H c=Y (.Z y)->c≠x:=λc y r z=>by subst z;rw[r]at l;exact l
 have g:∀c xs,H c=Y (.tup xs)->c≠x:=λc xs r z=>by subst z;rw[r]at l;exact l
 by_cases o:b=x
 ·subst o;rw[bh]at q;cases q;exact p
 ·rw[aS o]at q;by_cases a:b=e
  ·have t:H b=Y (.Z x):=by
    rcases A with z|z
    ·exact absurd (a.trans z) o
    ·rw[a];exact z
   rw[q]at t;cases t;obtain⟨v,D⟩:=s;exact⟨v,by rw[a];exact D⟩
  ·refine(C b u q).xK (λc v m r=>k c v ?_ r) (λc r=>by rw[aS (f c b r)];exact r) λc xs r=>by rw[aS (g c xs r)];exact r
   rcases m with rfl|m
   ·exact a
   ·rintro rfl;rcases A with z|z
    ·exact f c b m z
    ·rw[m]at z;cases z;exact o rfl
end
structure Un(fs ex:List az)(H H':Hp)(h h':dC):Prop where
 keep:∀b o,h.get? b=some o->H b=none->b∉fs->b∉ex->h'.get? b=some o
 slot:∀b o,h.get? b=some o->H b=none->b∈fs->b∉ex->∃sl,h'.get? b=some { o with slots:=sl }
 free:∀b o,h.get? b=some o->H b=none->b∉ex->H' b=none
 there:∀b o,h.get? b=some o->b∉ex->∃o',h'.get? b=some o'
 CZ:∀b xs,H b=some (.tup xs)->H' b=some (.tup xs)
 Cd:∀b o u,H b=some (.NG o u)->H' b=some (.NG o u)
 C2:∀b ps,H b=some (.Q8 ps)->∃YX,H' b=some (.Q8 (ps++YX))
def Un.any(u:Un j ex H O h J){a:Obj}(q:h.get? b=Y a)(n:H b=M)(c:b∉ex):∃f,J.get? b=Y { a with slots:=f }:=by
 by_cases e:b∈j
 ·exact u.slot b a q n e c
 ·exact⟨a.slots,u.keep b a q n e c⟩
def Un.kept(k:∀b u,h.get? b=Y u->h'.get? b=Y u):Un j ex H H h h':=
 ⟨λb c a _ _ _=>k b c a,λb c a _ _ _=>⟨c.slots,k b c a⟩,λ_ _ _ n _=>n,λb c a _=>⟨c,k b c a⟩,λ_ _ a=>a,λ_ _ _ a=>a,λ_ q a=>⟨#[],by rw[a];simp⟩⟩
def Un.refl:Un j ex H H h h:=Un.kept λ_ _ q=>q
def Un.laid(k:∀b u,h.get? b=Y u->h'.get? b=Y u)(f:h.objs.size<=a)(e:H a=M):Un j ex H (de H a o) h h' where
 keep:=λb u c _ _ _=>k b u c
 slot:=λb u c _ _ _=>⟨u.slots,k b u c⟩
 free:=λb u c n _=>by rw[aS (bE (bq (aR c) f))];exact n
 there:=λb u c _=>⟨u,k b u c⟩
 CZ:=λb xs c=>by rw[aS (bu c e)];exact c
 Cd:=λb u xs c=>by rw[aS (bu c e)];exact c
 C2:=λb q c=>⟨#[],by rw[aS (bu c e),c];simp⟩
def Un.write(f:Wf (H x))(s:e=x\/H e=Y (.Z x))(k:∀b u,b≠e->h.get? b=Y u->h'.get? b=Y u)(l:∃u,h'.get? e=Y u):Un j ex H (de H x o) h h':=by
 have m:∀b,H b=M->b≠x:=λb n z=>by subst z;rw[n]at f;exact f
 have p:∀b,H b=M->b≠e:=λb n z=>by
  subst z;rcases s with r|r
  ·exact m b n r
  ·rw[n]at r;cases r
 have g:∀b u,H b=Y u->¬Wf (Y u)->b≠x:=λb u a nm z=>by subst z;rw[a]at f;exact nm f
 refine⟨λb u a n _ _=>k b u (p b n) a,λb u a n _ _=>⟨u.slots,k b u (p b n) a⟩,λb u a n _=>by rw[aS (m b n)];exact n,λb u a _ =>?_,
  λb xs a=>by rw[aS (g b _ a λz=>z)];exact a,λb u xs a=>by rw[aS (g b _ a λz=>z)];exact a,λb q a=>⟨#[],by rw[aS (g b _ a λz=>z),a];simp⟩⟩
 by_cases c:b=e
 ·subst c;exact l
 ·exact⟨u,k b u c a⟩
noncomputable def WC(h:dC)(H:Hp):List az:=(cm h.objs.size).filter λa=>(H a).isSome
def B6(h:dC)(H:Hp):dC:=PySem.W.hideAll h (WC h H)
def JF(h:dC)(H:Hp):(B6 h H).objs.size=h.objs.size:=PySem.W.hideAll_size _ _
def Me(e:h.get? b=Y o)(n:H b=M):(B6 h H).get? b=Y o:=
 PySem.W.hideAll_get _ e λa=>by have q:(H b).isSome=true:=(gx.mp a).2;rw[n]at q;simp at q
def OG(e:(B6 h H).get? b=Y o):h.get? b=Y o/\H b=none:=by
 have a:h.get? b=Y o:=PySem.W.of_hideAll (WC h H) e;refine⟨a,?_⟩;rcases q:H b with _|x
 ·rfl
 have c:b∈WC h H:=gx.mpr ⟨List.mem_range.mpr (aR a),by simp[q]⟩;have z:(B6 h H).get? b=none:=PySem.W.hideAll_none (WC h H) c;rw[z]at e;cases e
structure Mod(K:aT)(mg:aG->Option ai)(base:dC):Prop where
 QF:K.In base
 glob:base.Ns br mg
 blt:∃mb,base.Ns builtinsNs mb/\∀x:aG,x ≠ "__name__" ->mb x=hJ x
 nolimit:base.NoLimit
structure Cx where
 prog:be
 w:dz
 K:aT
 mg:aG->Option ai
 base:dC
 A:jd
 N:List aG
 s₀:ay
 H₀:Hp
 env:Env
 outer:List Env
 stack:List Env
 ex:List az
 fn:aG->Bool
 calm:Bool
 pn:List (az×Obj)
 xe:ai->ay->Prop
noncomputable def Ce(l:List Env):List az:=l.filterMap (·.frame)
abbrev Cx.fs(X:Cx):List az:=Ce X.outer
def Tp(a:Scope)(x:aG):Prop:=a.names.lookup x=Y .local\/a.names.lookup x=Y .cell\/a.names.lookup x=Y .free
def Loc(a:Scope)(x:aG):Prop:=a.names.lookup x=Y .local\/a.names.lookup x=Y .cell
def Look(a:Env)(h:dC)(m:aG->Option ai)(x:aG)(u:ai):Prop:=
 (a.kindOf x=Y .local/\m x=Y u)\/((a.kindOf x=Y .cell\/a.kindOf x=Y .free)/\∃c,a.cells.lookup x=Y c/\h.IsCell c (Y u))
structure Cx.Ok(X:Cx):Prop where
 mod:Mod X.K X.mg X.base
 kind:X.env.scope.kind=.function
 glob:X.env.globals=br
 blt:X.env.builtins=builtinsNs
 above:X.s₀.heap.objs.size<=X.env.locals
 inj:∀x y c,X.env.cells.lookup x=some c->X.env.cells.lookup y=some c->x=y
 has:∀x,(X.env.kindOf x=some .cell\/X.env.kindOf x=some .free)->∃c,X.env.cells.lookup x=some c
 V6:∀x c,X.fn x=true->X.env.cells.lookup x=some c->X.s₀.heap.objs.size<=c
 hd:X.calm=true->X.A.handled=none
 frames:X.A.frames=some X.stack
 WH:X.stack=X.outer\/(X.stack=X.env::X.outer/\X.env.frame=some X.env.locals)
 ZW:∀b∈X.ex,b≠X.env.locals/\∀x c,X.env.cells.lookup x=some c->c≠b
 bs:∀b o,X.base.get? b=some o->X.s₀.heap.get? b=some o/\X.H₀ b=none
 MV:X.base.objs.size<=X.s₀.heap.objs.size
 Ln:∀b o,X.base.get? b=some o->b∉X.ex
 O':∀b∈X.ex,b∉X.fs
 vY:X.s₀.heap.FunFrames X.base X.outer
 QL:∀b∈X.fs,X.H₀ b=none
structure Inv(X:Cx)(CK:List (az×Obj))(σ:List (Option V))(H:Hp)(s:ay):Prop where
 ok:X.Ok
 os:s.os=X.s₀.os
 bare:EX s.gens
 base:Un X.fs X.ex X.H₀ H X.s₀.heap s.heap
 loc:∃m,s.heap.Ns X.env.locals m/\∀(i:Nat) (x:aG) (v:V),X.N[i]?=some x->σ[i]?=some (some v)->Tp X.env.scope x->∃u,RelV v u/\Look X.env s.heap m x u
 cell:∀x c,X.env.cells.lookup x=some c->∃v,s.heap.IsCell c v
 free:H X.env.locals=none
 oS:∀x c,X.env.cells.lookup x=some c->H c=none
 pin:∀p∈X.pn++CK,s.heap.get? p.1=some p.2/\H p.1=none/\p.1≠X.env.locals/\p.1∉X.fs/\∀v,p.2.data ≠ .cell v
 f':oi X.prog X.w H s.heap
 len:σ.length=X.N.length
section
variable {X:Cx}{s:ay}
def Cx.Ok.XO(a:X.Ok)(e:X.base.get? b=Y o):b∉X.fs:=λc=>by
 have:=(a.vY.mem c).1;rw[e]at this;cases this
def Inv.bs(I:Inv X B U H s):∀b o,X.base.get? b=Y o->s.heap.get? b=Y o/\H b=none:=λb o e=>
 ⟨I.base.keep b o (I.ok.bs b o e).1 (I.ok.bs b o e).2 (I.ok.XO e) (I.ok.Ln b o e),I.base.free b o (I.ok.bs b o e).1 (I.ok.bs b o e).2 (I.ok.Ln b o e)⟩
def Inv.bk(I:Inv X B U H s):∀b o,X.base.get? b=Y o->s.heap.get? b=Y o:=λb o e=>(I.bs b o e).1
def Inv.mod(I:Inv X B U H s):Mod X.K X.mg X.base:=I.ok.mod
def Inv.F4(I:Inv X B U H s):X.K.In s.heap:=I.ok.mod.QF.keeps I.bk
def Inv.fr(I:Inv X B U H s):∃m,Fr X.base X.env.locals s.heap m:=
 let ⟨m,a,_⟩:=I.loc
 ⟨m,a,I.bk,a7 I.ok.MV I.ok.above⟩
def Inv.lt(I:Inv X B U H s):X.env.locals<s.heap.objs.size:=let ⟨_,a,_⟩:=I.loc;a.lt
def Inv.sz(I:Inv X B U H s):X.s₀.heap.objs.size<=s.heap.objs.size:=a7 I.ok.above (dU I.lt)
def Inv.RQ(I:Inv X B U H s)(h:s.heap.objs.size<=a):a∉X.fs:=λc=>by
 obtain⟨_,o,b,_⟩:=I.ok.vY.mem c;exact absurd (bq (aR b) (a7 I.sz h)) (jF _)
def Inv.YC(I:Inv X B U H s):∀x c,X.env.cells.lookup x=Y c->c≠X.env.locals:=λx c e z=>by
 obtain⟨v,o,f,g⟩:=I.cell x c e;obtain⟨m,⟨o',es,h,a,b,_⟩,_⟩:=I.loc;rw[z,a]at f;cases f;rw[b]at g;cases g
def Inv.vY(I:Inv X B U H s):s.heap.FunFrames X.base X.outer:=by
 have g:∀(l:List Env),(∀b∈Ce l,b∈X.fs)->X.s₀.heap.FunFrames X.base l->s.heap.FunFrames X.base l:=by
  intro l
  induction l with
  |nil=>intro _ _;trivial
  |cons w r ih=>
   intro h t;obtain⟨u,⟨L,o,a,p,m,v⟩,k⟩:=t;have f:L∈X.fs:=h L (by unfold Ce;rw[zi,a];exact aF);obtain⟨x,e⟩:=I.base.slot L o m (I.ok.QL L f) f λz=>I.ok.O' L z f
   exact⟨u,⟨L,_,a,p,e,v⟩,ih (λb c=>h b (by unfold Ce;rw[zi,a];exact aj _ c)) k⟩
 exact g X.outer (λ_ c=>c) I.ok.vY
def Inv.stack(I:Inv X B U H s):s.heap.FunFrames X.base X.stack:=by
 rcases I.ok.WH with e|⟨e,b⟩
 ·rw[e];exact I.vY
 ·rw[e];obtain⟨m,a,_⟩:=I.loc;refine .cons (by rw[I.ok.kind];decide) b a ?_ I.vY;exact Heap.get?_none_of_le (a7 I.ok.MV I.ok.above)
def Inv.sE(I:Inv X B U H s):∀b∈Ce X.stack,b∈X.env.locals::X.fs:=λb a=>by
 rcases I.ok.WH with e|⟨e,c⟩
 ·rw[e]at a;exact aj _ a
 ·rw[e]at a;unfold Ce at a;rw[zi,c]at a;exact a
def Inv.GU(I:Inv X B U H s):∀b∈Ce X.stack,H b=none:=λb a=>by
 rcases au.mp (I.sE b a) with e|a
 ·rw[e];exact I.free
 ·obtain⟨_,o,c,_⟩:=I.ok.vY.mem a;exact I.base.free b o c (I.ok.QL b a) λz=>I.ok.O' b z a
def Inv.step{g':Array GenState}{t':Nat}{d':Drawn}{ch:List az}(I:Inv X B U H s)(w:∀b∈ch,(b∈X.ex\/X.s₀.heap.objs.size<=b)/\b≠X.env.locals/\(∀x c,X.env.cells.lookup x=Y c->c≠b)/\∀p∈X.pn++B,p.1≠b)(t:∀b o,b≠X.env.locals->b∉X.fs->b∉ch->s.heap.get? b=Y o->H b=M->h'.get? b=Y o)(E:∀b o,b≠X.env.locals->b∈X.fs->b∉ch->s.heap.get? b=Y o->H b=M->∃sl,h'.get? b=Y { o with slots:=sl })(g:∀b o,b∉ch->s.heap.get? b=Y o->H b=M->H' b=M)(F:∀b o,b∉ch->s.heap.get? b=Y o->∃o',h'.get? b=Y o')(P:∀b xs,H b=Y (.tup xs)->H' b=Y (.tup xs))(T:∀b o u,H b=Y (.NG o u)->H' b=Y (.NG o u))(Q:∀b q,H b=Y (.Q8 q)->∃S,H' b=Y (.Q8 (q++S)))(ns:∀m,s.heap.Ns X.env.locals m->h'.Ns X.env.locals m)(f':oi X.prog X.w H' h')(hg:EX g'):
  Inv X B U H' { s with heap:=h',gens:=g',drawn:=d',toks:=t' }:=by
 have R:∀b o,X.s₀.heap.get? b=Y o->b≠X.env.locals:=λb o e=>bE (bq (aR e) I.ok.above)
 have C:∀b o,X.s₀.heap.get? b=Y o->b∉X.ex->b∉ch:=λb o e f K=>by
  rcases(w b K).1 with z|z
  ·exact f z
  ·exact absurd (bq (aR e) z) (jF _)
 have A:∀x c,X.env.cells.lookup x=Y c->∀v,s.heap.IsCell c v->h'.IsCell c v:=λx c e v ⟨o,j,hd⟩=>by
  have h:c∉ch:=λz=>(w c z).2.2.1 x c e rfl
  by_cases hc:c∈X.fs
  ·obtain⟨sl,a⟩:=E c o (I.YC x c e) hc h j (I.oS x c e);exact⟨_,a,hd⟩
  ·exact⟨o,t c o (I.YC x c e) hc h j (I.oS x c e),hd⟩
 refine⟨I.ok,I.os,hg,⟨λb o e n K f =>?_,λb o e n K f =>?_,λb o e n f =>?_,λb o e f =>?_,λb xs e=>P b xs (I.base.CZ b xs e),λb o xs e=>T b o xs (I.base.Cd b o xs e),λb q e =>?_⟩,?_,λx c e =>?_,?_,λx c e =>?_,λp hp =>?_,f',I.len⟩
 ·exact t b o (R b o e) K (C b o e f) (I.base.keep b o e n K f) (I.base.free b o e n f)
 ·obtain⟨sl,D⟩:=I.base.slot b o e n K f;obtain⟨sl',e2⟩:=E b _ (R b o e) K (C b o e f) D (I.base.free b o e n f);exact⟨sl',e2⟩
 ·obtain⟨o',D⟩:=I.base.there b o e f;exact g b o' (C b o e f) D (I.base.free b o e n f)
 ·obtain⟨o',D⟩:=I.base.there b o e f;exact F b o' (C b o e f) D
 ·obtain⟨m1,D⟩:=I.base.C2 b q e;obtain⟨m2,e2⟩:=Q b _ D;exact⟨m1++m2,by rw[e2,Array.append_assoc]⟩
 ·obtain⟨m,hn,hl⟩:=I.loc;refine⟨m,ns m hn,λi x v D e2 e3 =>?_⟩;obtain⟨u,r,l⟩:=hl i x v D e2 e3;refine⟨u,r,?_⟩;rcases l with l|⟨k,c,e,z⟩
  ·exact .inl l
  ·exact .inr ⟨k,c,e,A x c e _ z⟩
 ·obtain⟨v,z⟩:=I.cell x c e;exact⟨v,A x c e v z⟩
 ·obtain⟨m,⟨o,_,_,j,_⟩,_⟩:=I.loc;exact g _ o (λz=>(w _ z).2.1 rfl) j I.free
 ·obtain⟨v,o,j,hd⟩:=I.cell x c e;exact g c o (λz=>(w c z).2.2.1 x c e rfl) j (I.oS x c e)
 ·obtain⟨e,n,ne,nf,d⟩:=I.pin p hp;have h:p.1∉ch:=λz=>(w p.1 z).2.2.2 p hp rfl
  exact⟨t p.1 p.2 ne nf h e n,g p.1 p.2 h e n,ne,nf,d⟩
def Inv.un{t':Nat}(I:Inv X B U H s)(u:Un X.fs [] H H' s.heap h')(c:oi X.prog X.w H' h'):Inv X B U H' { s with heap:=h',toks:=t' }:=by
 obtain⟨m,⟨o,es,x,k,r⟩,_⟩:=id I.loc;obtain⟨v,t⟩:=u.any k I.free Ž;exact I.step (g':=s.gens) (d':=s.drawn) (ch:=[]) (λ_ z=>nomatch z) (λb o _ f _ e n=>u.keep b o e n f Ž) (λb o _ f _ e n=>u.slot b o e n f Ž) (λb o _ e n=>u.free b o e n Ž) (λb o _ e=>u.there b o e Ž) u.CZ u.Cd u.C2 (λw p=>by obtain⟨o',g,h,a,l⟩:=p;rw[k]at a;cases a;exact⟨_,g,h,t,l⟩) c I.bare
def Inv.call{g':Array GenState}{t':Nat}{d':Drawn}{ch:List az}(I:Inv X B U H s)(u:Un (Ce X.stack) ch H H' s.heap h')(h:oi X.prog X.w H' h')(C:EX g')(g:∀b∈ch,(b∈X.ex\/X.s₀.heap.objs.size<=b)/\b≠X.env.locals/\(∀x c,X.env.cells.lookup x=Y c->c≠b)/\∀p∈X.pn++B,p.1≠b):
  Inv X B U H' { s with heap:=h',gens:=g',drawn:=d',toks:=t' }:=by
 obtain⟨m,⟨o,es,K,v,r⟩,_⟩:=id I.loc;obtain⟨E,k⟩:=u.any v I.free λz=>(g _ z).2.1 rfl
 exact I.step (ch:=ch) g (λb o k D a e n=>u.keep b o e n (λz=>(au.mp (I.sE b z)).elim k D) a) (λb o _ _ a e n=>u.any e n a) (λb o a e n=>u.free b o e n a) (λb o a e=>u.there b o e a) u.CZ u.Cd u.C2 (λF A=>by obtain⟨o',l,t,f,w⟩:=A;rw[v]at f;cases f;exact⟨_,l,t,k,w⟩) h C
def Inv.turned{t':Nat}(I:Inv X B U H s)(k:∀b o,b≠g->s.heap.get? b=Y o->h'.get? b=Y o)(A:H g=M)(t:g≠X.env.locals)(J:g∈X.ex\/X.s₀.heap.objs.size<=g)(z:∀x c,X.env.cells.lookup x=Y c->c≠g)(E:∀p∈X.pn++B,p.1≠g):Inv X B U H { s with heap:=h',toks:=t' }:=by
 have l:∀b u,H b=Y u->b≠g:=λb u e f=>by rw[f,A]at e;cases e
 refine I.step (g':=s.gens) (d':=s.drawn) (ch:=[g]) (λb D =>?_) (λb o _ _ h e _=>k b o (λf=>h (by simp[f])) e) (λb o _ _ h e _=>⟨o.slots,k b o (λf=>h (by simp[f])) e⟩) (λ_ _ _ _ n=>n)
  (λb o h e=>⟨o,k b o (λf=>h (by simp[f])) e⟩) (λ_ _ e=>e) (λ_ _ _ e=>e) (λb q e=>⟨#[],by rw[e];simp⟩) (λm C =>?_) (λb u e =>?_) I.bare
 ·have e:b=g:=by simpa using D
  subst e;exact⟨J,t,z,E⟩
 ·obtain⟨o,es,F,w,r⟩:=C;exact⟨o,es,F,k _ o (bU t) w,r⟩
 ·refine(I.f' b u e).xK (λc v h a=>k c v ?_ a) (λ_ a=>a) λ_ _ a=>a
  rcases h with f|f
  ·rw[f];exact l b u e
  ·exact l c _ f
def Inv.tok(I:Inv X B U H s)(t:Nat):Inv X B U H { s with toks:=t }:=I.un (h':=s.heap) (t':=t) Un.refl I.f'
def Inv.kept{t':Nat}(I:Inv X B U H s)(k:∀b u,s.heap.get? b=Y u->h'.get? b=Y u):Inv X B U H { s with heap:=h',toks:=t' }:=I.un (Un.kept k) (I.f'.kept k)
def Inv.laid{a:az}{o:HO}{t':Nat}(I:Inv X B U H s)(k:∀b u,s.heap.get? b=Y u->h'.get? b=Y u)(e:s.heap.objs.size<=a)(c:hZ X.prog X.w (de H a o) h' a o):
  Inv X B U (de H a o) { s with heap:=h',toks:=t' }:=I.un (Un.laid k e (I.f'.fresh e)) (I.f'.laid k e c)
def Inv.write{x e:az}{h:Nat}(I:Inv X B U H s)(f:Wf (H x))(g:e=x\/H e=Y (.Z x))(k:∀b u,b≠e->s.heap.get? b=Y u->h'.get? b=Y u)(a:∃u,h'.get? e=Y u)(c:hZ X.prog X.w (de H x o) h' x o):Inv X B U (de H x o) { s with heap:=h',toks:=h }:=I.un (Un.write f g k a) (I.f'.write f g k a c)
def Inv.weak(I:Inv X B U H s)(e:a.length=U.length)(w:∀(i:Nat) v,a[i]?=Y (Y v)->U[i]?=Y (Y v)):Inv X B a H s:=
 ⟨I.ok,I.os,I.bare,I.base,let ⟨m,c,b⟩:=I.loc;⟨m,c,λi x v h g f=>b i x v h (w i v g) f⟩,I.cell,I.free,I.oS,I.pin,I.f',e.trans I.len⟩
def Inv.xc(I:Inv X B U H s)(h:∀p∈a,s.heap.get? p.1=Y p.2/\H p.1=M/\p.1≠X.env.locals/\p.1∉X.fs/\∀v,p.2.data ≠ .cell v):Inv X a U H s:=
 ⟨I.ok,I.os,I.bare,I.base,I.loc,I.cell,I.free,I.oS,λp b=>(aD.mp b).elim (λz=>I.pin p (aJ _ z)) (h p),I.f',I.len⟩
def Dt{N:List aG}(c:N.Nodup){j:Nat}(a:N[i]?=Y x)(b:N[j]?=Y x):i=j:=by
 obtain⟨J,f⟩:=ax.mp a;obtain⟨z,e⟩:=ax.mp b;exact(List.getElem_inj c).mp (f.trans e.symm)
def Ag{G:Model}{A:jd}{i:Nat}{v:V}(I:Inv X B U H s)(hN:X.N.Nodup)(L:X.N[i]?=Y x)(w:Loc X.env.scope x)(r:RelV v u)(h:∀s',Inv X B (U.set i (Y v)) H s'->(∃a,i4 a s.heap s'.heap/\(a=X.env.locals\/X.env.cells.lookup x=Y a))->Q () s')(hf:autoParam (X.fn x=Z'\/X.env.scope.names.lookup x=Y .local) Ů):bz G A (storeName X.env x u) Q E s:=by
 obtain⟨m,hn,hl⟩:=id I.loc;have Yj:(X.env.scope.kind == .class||(X.env.scope.kind == .module&&X.env.locals != X.env.globals))=false:=by rw[I.ok.kind];rfl
 have K:i<U.length:=by rw[I.len];exact(ax.mp L).1
 have T:=I.YC;have g:∀ {a:az}{h':dC},(∃o,s.heap.get? a=Y o/\H a=M)->i4 a s.heap h'->oi X.prog X.w H h':=fun {a h'} ha f b ob e=>by
  obtain⟨_,_,C⟩:=ha;refine(I.f' b ob e).xK (λc w' t q=>(f.2 c ?_).trans q) (λ_ q=>q) λ_ _ q=>q
  rintro rfl;rcases t with rfl|t
  ·rw[C]at e;cases e
  ·rw[C]at t;cases t
 rcases w with F|F
 ·refine wpAny_storeName_local F hn (λh' hn' f =>?_) Yj;obtain⟨oL,_,_,hoL,_⟩:=id hn;refine h _ ⟨I.ok,I.os,I.bare,⟨λb o e n S w =>?_,λb o e n S w =>?_,I.base.free,λb o e w =>?_,I.base.CZ,I.base.Cd,I.base.C2⟩,⟨_,hn',λj y v' l D e3 =>?_⟩,λy c e =>?_,I.free,I.oS,λp hp =>?_,g ⟨oL,hoL,I.free⟩ f,by simpa using I.len⟩ ⟨_,f,.inl rfl⟩
  ·exact(f.2 b (bE (bq (aR e) I.ok.above))).trans (I.base.keep b o e n S w)
  ·obtain⟨sl,l⟩:=I.base.slot b o e n S w;exact⟨sl,(f.2 b (bE (bq (aR e) I.ok.above))).trans l⟩
  ·obtain⟨o',l⟩:=I.base.there b o e w;exact⟨o',(f.2 b (bE (bq (aR e) I.ok.above))).trans l⟩
  ·by_cases P:j=i
   ·subst P;rw[L]at l;cases l;rw[cy K]at D;cases D;exact⟨u,r,.inl ⟨F,Ž⟩⟩
   ·rw[aA (bU P)]at D;obtain⟨u',r',q⟩:=hl j y v' l D e3;refine⟨u',r',?_⟩;rcases q with⟨k,e⟩|⟨k,c,e,z⟩
    ·refine .inl ⟨k,?_⟩;have:y≠x:=λe=>P (Dt hN l (e ▸ L))
     simp[this,e]
    ·exact .inr ⟨k,c,e,z.sameBut f (T y c e)⟩
  ·obtain⟨w',z⟩:=I.cell y c e;exact⟨w',z.sameBut f (T y c e)⟩
  ·obtain⟨e,n,ne,nf,d⟩:=I.pin p hp;exact⟨(f.2 p.1 ne).trans e,n,ne,nf,d⟩
 ·have R:X.fn x=true:=by
   rcases hf with z|z
   ·exact z
   ·rw[z]at F;cases F
  obtain⟨c,t⟩:=I.ok.has x (.inl F);obtain⟨w',z⟩:=I.cell x c t;refine wpAny_storeName_cell I.ok.kind F t z (λh' ZM f =>?_);obtain⟨oc,Zx,Yb⟩:=id z;refine h { s with heap:=h' } ⟨I.ok,I.os,I.bare,⟨λb o e n S w =>?_,λb o e n S w =>?_,I.base.free,λb o e w =>?_,I.base.CZ,I.base.Cd,I.base.C2⟩,⟨m,hn.sameBut f (bU (T x c t)),λj y v' l D e3 =>?_⟩,λy c' e =>?_,I.free,I.oS,λp hp =>?_,g ⟨oc,Zx,I.oS x c t⟩ f,by simpa using I.len⟩ ⟨c,f,.inr t⟩
  ·exact(f.2 b (bE (bq (aR e) (I.ok.V6 x c R t)))).trans (I.base.keep b o e n S w)
  ·obtain⟨sl,l⟩:=I.base.slot b o e n S w;exact⟨sl,(f.2 b (bE (bq (aR e) (I.ok.V6 x c R t)))).trans l⟩
  ·obtain⟨o',l⟩:=I.base.there b o e w;exact⟨o',(f.2 b (bE (bq (aR e) (I.ok.V6 x c R t)))).trans l⟩
  ·by_cases P:j=i
   ·subst P;rw[L]at l;cases l;rw[cy K]at D;cases D;exact⟨u,r,.inr ⟨.inl F,c,t,ZM⟩⟩
   ·rw[aA (bU P)]at D;obtain⟨u',r',q⟩:=hl j y v' l D e3;refine⟨u',r',?_⟩;rcases q with q|⟨k,c',e,z'⟩
    ·exact .inl q
    ·refine .inr ⟨k,c',e,z'.sameBut f ?_⟩;rintro rfl;exact P (Dt hN l (I.ok.inj _ _ _ e t ▸ L))
  ·by_cases ZK:c'=c
   ·subst ZK;exact⟨_,ZM⟩
   ·obtain⟨w2,z2⟩:=I.cell y c' e;exact⟨w2,z2.sameBut f ZK⟩
  ·obtain⟨e,n,ne,nf,d⟩:=I.pin p hp;refine⟨(f.2 p.1 ?_).trans e,n,ne,nf,d⟩;intro q;rw[q,Zx]at e;have q':oc=p.2:=bN e;exact d w' (by rw[<- q'];exact Yb)
def xI{d:Model}{v:V}(I:Inv X B U H s)(c:X.N.Nodup)(L:X.N[i]?=Y x)(a:Loc X.env.scope x)(r:RelV v u)(h:∀s',Inv X B (U.set i (Y v)) H s'->Q () s')(b:autoParam (X.fn x=Z'\/X.env.scope.names.lookup x=Y .local) Ů):bz d A (storeName X.env x u) Q E s:=
 Ag I c L a r (λs' e _=>h s' e) b
def Inv.El{s':ay}{g:List az}(I:Inv X B U H s)(k:s'.os=s.os)(u:Un (Ce X.stack) g H H' s.heap s'.heap)(a:oi X.prog X.w H' s'.heap)(l:EX s'.gens)(f:∀b∈g,(b∈X.ex\/X.s₀.heap.objs.size<=b)/\b≠X.env.locals/\(∀x c,X.env.cells.lookup x=Y c->c≠b)/\∀p∈X.pn++B,p.1≠b):Inv X B U H' s':=by
 obtain⟨h',m,o,h,o'⟩:=s';have e:o'=s.os:=k;subst e;exact I.call (g':=m) (t':=h) (d':=o) u a l f
end
abbrev XK:=ai->Option az->Hp->Prop
abbrev St:=List (Option V)
abbrev VK:=V->Hp->Prop
abbrev TE:=St->Hp->VK->Prop
abbrev TT:=St->Hp->(Bool->Hp->Prop)->Prop
abbrev TA:=St->Hp->(List V->Hp->Prop)->Prop
structure Ends where
 nx:St->Hp->Prop
 rt:VK
 bk:St->Hp->Prop:=λ_ _=>False
 ct:St->Hp->Prop:=λ_ _=>False
abbrev TS:=Ends->St->Hp->Prop
inductive EP (X:Cx) (B:List (az×Obj)) (U:St) (Q:VK) (u:ai) (s':ay):Prop
 |mk v H':Inv X B U H' s'->RelV v u->Q v H'->EP X B U Q u s'
inductive TP (X:Cx) (B:List (az×Obj)) (U:St) (Q:Bool->Hp->Prop) (b:Bool) (s':ay):Prop
 |mk H':Inv X B U H' s'->Q b H'->TP X B U Q b s'
inductive AP (X:Cx) (B:List (az×Obj)) (U:St) (Q:List V->Hp->Prop) (b:List ai) (s':ay):Prop
 |mk a H':Inv X B U H' s'->cj a b->Q a H'->AP X B U Q b s'
def SP(X:Cx)(B:List (az×Obj))(D:Ends)(f:Flow)(s':ay):Prop:=
 match f with
 |.next=>∃a H',Inv X B a H' s'/\D.nx a H'|.brk=>∃a H',Inv X B a H' s'/\D.bk a H'|.cont=>∃a H',Inv X B a H' s'/\D.ct a H'|.ret u=>∃v a H',Inv X B a H' s'/\RelV v u/\D.rt v H'
def PE(X:Cx)(e:Expr)(t:TE):Prop:=
 ∀(B:List (az×Obj)) (s:ay) (U:St) (H:Hp) (Q:VK),Inv X B U H s->t U H Q->bz (bD X.prog X.w) X.A (eval e X.env) (EP X B U Q) X.xe s
def PT(X:Cx)(e:Expr)(t:TT):Prop:=
 ∀(B:List (az×Obj)) (s:ay) (U:St) (H:Hp) (Q:Bool->Hp->Prop),Inv X B U H s->t U H Q->bz (bD X.prog X.w) X.A (isTrue e X.env (eval e X.env)) (TP X B U Q) X.xe s
def PW(X:Cx)(e:Expr)(t:TT):Prop:=
 ∀(a:Sem ai) (B:List (az×Obj)) (s:ay) (U:St) (H:Hp) (Q:Bool->Hp->Prop),Inv X B U H s->t U H Q->bz (bD X.prog X.w) X.A (isTrue e X.env a) (TP X B U Q) X.xe s
def PW.pt{X:Cx}(h:PW X e t):PT X e t:=h _
def PA(X:Cx)(es:List Expr)(t:TA):Prop:=
 ∀(G:Pos) (B:List (az×Obj)) (s:ay) (U:St) (H:Hp) (Q:List V->Hp->Prop),Inv X B U H s->t U H Q->bz (bD X.prog X.w) X.A (spliced (c6 G (aq es X.env))) (AP X B U Q) X.xe s
def PS(X:Cx)(st:eJ)(t:TS):Prop:=
 ∀(B:List (az×Obj)) (s:ay) (U:St) (H:Hp) (D:Ends),Inv X B U H s->t D U H->bz (bD X.prog X.w) X.A (exec st X.env) (SP X B D) X.xe s
def sx(X:Cx)(st:List eJ)(t:TS):Prop:=
 ∀(B:List (az×Obj)) (s:ay) (U:St) (H:Hp) (D:Ends),Inv X B U H s->t D U H->bz (bD X.prog X.w) X.A (execs st X.env) (SP X B D) X.xe s
def fE{b:Model}{s:ay}(h:bz b A t Q E s)(e:∀a s,Q a s->c a s):bz b A t c E s:=ir h e λ_ _ x=>x
section
variable {X:Cx}
def jf(i:Nat):TE:=λU H Q=>∃v,U[i]?=Y (Y v)/\Q v H
def tC(v:V):TE:=λ_ H Q=>Q v H
def Rz(A:X.N[i]?=Y x)(o:Tp X.env.scope x)(f:autoParam ((x==("__debug__" : aG))=false) ű)(g:autoParam ((x==("__classdict__" : aG))=false) ű):PE X (.Name x G) (jf i):=by
 intro B s U H Q I h;obtain⟨v,e,h⟩:=h;obtain⟨m,p,w⟩:=I.loc;obtain⟨u,r,l⟩:=w i x v A e o;have qe:EP X B U Q u s:=⟨v,H,I,r,h⟩;rcases l with⟨b,t⟩|⟨b,c,k,a⟩
 ·exact wpAny_Name (wpAny_loadName_local I.ok.kind b p t qe) f
 ·rcases b with b|b
  ·exact wpAny_Name (wpAny_loadName_cell I.ok.kind b k a qe) f
  ·exact wpAny_Name (wpAny_loadName_free I.ok.kind b k a qe g) f
def nW{i j G}:PE X (.Constant (.int i) j G) (tC (.int i)):=λ_ _ _ H _ I h=>wpAny_Constant_int ⟨.int i,H,I.tok _,⟨_,rfl⟩,h⟩
def Vd{b j G}:PE X (.Constant (.bool b) j G) (tC (.bl b)):=λ_ _ _ H _ I h=>Constant_bool ⟨.bl b,H,I,rfl,h⟩
def RC{j G}:PE X (.Constant .none j G) (tC .dJ):=λ_ _ _ H _ I h=>Constant_none ⟨.dJ,H,I,rfl,h⟩
def Fv{x j G}:PE X (.Constant (.str x) j G) (tC (.str x)):=λ_ _ _ H _ I h=>Calls.Constant_str ⟨.str x,H,I.tok _,⟨_,rfl⟩,h⟩
def Gl(X:Cx)(x:aG):Prop:=X.env.kindOf x=Y .globalImplicit
def B0{s:ay}(I:Inv X B U H s)(b:Gl X x)(a:X.mg x=Y u)(h:Q u s)(c:autoParam ((x==("__debug__" : aG))=false) ű):bz (bD X.prog X.w) X.A (eval (.Name x G) X.env) Q E s:=
 TZ I.ok.kind b (Calls.loadGlobal_global (by rw[I.ok.glob];exact I.mod.glob.keeps I.bk) a h) c
def vT{s:ay}(I:Inv X B U H s)(e:Gl X x)(c:X.mg x=M)(a:hJ x=Y u)(h:Q u s)(b:autoParam (x ≠ "__name__") ű)(f:autoParam ((x==("__debug__" : aG))=false) ű):bz (bD X.prog X.w) X.A (eval (.Name x G) X.env) Q E s:=by
 obtain⟨g,J,z⟩:=I.mod.blt;exact TZ I.ok.kind e (Calls.loadGlobal_builtin (by rw[I.ok.glob];exact I.mod.glob.keeps I.bk) c (by rw[I.ok.blt];exact J.keeps I.bk) ((z x b).trans a) h) f
def He{v:V}(b:Gl X x)(a:X.mg x=Y u)(r:RelV v u)(c:autoParam ((x==("__debug__" : aG))=false) ű):PE X (.Name x G) (tC v):=
 λ_ _ _ H _ I h=>B0 I b a ⟨v,H,I,r,h⟩ c
def PC(X:Cx)(f:CmpOp)(a b:Expr)(t:TE):Prop:=
 ∀(B:List (az×Obj)) (s:ay) (U:St) (H:Hp) (Q:VK),Inv X B U H s->t U H Q ->
  bz (bD X.prog X.w) X.A (eval a X.env) (λv e=>bz (bD X.prog X.w) X.A (eval b X.env) (λu c=>bz (bD X.prog X.w) X.A (d_ f v u) (EP X B U Q) X.xe c) X.xe e) X.xe s
def Lo(b:Expr){a:CmpOp}(h:a ≠ .In)(z:a ≠ .NotIn):hU a b=false:=by
 have e:(a==CmpOp.In)=false:=by cases a<;>first|rfl|exact absurd rfl h
 have c:(a==CmpOp.NotIn)=false:=by cases a<;>first|rfl|exact absurd rfl z
 cases b<;>simp[hU,e,c]
def tB(t:TE):TT:=λU H Q=>t U H λx O=>∃c,x=.bl c/\Q c O
def Rq(h:PC X e a b t)(J:hU e b=false:=by first|exact Lo _ ſ ſ|rfl):PT X (.Compare a [e] [b] G) (tB t):=by
 intro B s U H Q I hw;refine wpAny_isTrue_Compare1 (fE (h B s U H _ I hw) λv o J=>fE J λu m z=>fE z ?_) J;rintro c l ⟨x,O,k,f,g⟩;obtain⟨d,rfl,q⟩:=g;cases f;exact gP ⟨O,k,q⟩
def Rp(h:PE X e t)(f:autoParam (∀a,isTrue e X.env a=(do let v <- a;ou e.pos;lD [v] (truthy v))) Ű):PT X e (tB t):=by
 intro B s U H Q I hw;refine isTrue_plain (fE (h B s U H _ I hw) ?_) (f _);rintro v k ⟨x,O,g,b,c⟩;obtain⟨d,rfl,q⟩:=c;cases b;exact gP ⟨O,g,q⟩
variable {wU:List Expr}
def Xv(t u:TT):TT:=λU H Q=>t U H λc O=>if c=Z' then u U O Q else Q Z_ O
def tOr(t u:TT):TT:=λU H Q=>t U H λc O=>if c=Z' then Q Z' O else u U O Q
def UH(t:TT):TT:=λU H Q=>t U H λc O=>Q (!c) O
def Od(b:PT X a tA):PW X (.BoolOp .And [a] G) tA:=by
 intro f B s U H Q I h;refine isTrue_and (fE (b B s U H Q I h) λc g e =>?_);cases c with
 |true=>exact isTrue_and_nil e|false=>exact e
def Rn(b:PT X a tA):PW X (.BoolOp .Or [a] G) tA:=by
 intro f B s U H Q I h;refine isTrue_or (fE (b B s U H Q I h) λc g e =>?_);cases c with
 |false=>exact isTrue_or_nil e|true=>exact e
def Ro(m:PT X a tA)(l:PW X (.BoolOp .And (b::wU) G) Xt):PW X (.BoolOp .And (a::b::wU) G) (Xv tA Xt):=by
 intro g B s U H Q I h;refine isTrue_and (fE (m B s U H _ I h) ?_);rintro c k ⟨O,f,e⟩;cases c with
 |true=>exact l g B k U O Q f e|false=>exact⟨O,f,e⟩
def U8(m:PT X a tA)(l:PW X (.BoolOp .Or (b::wU) G) Xt):PW X (.BoolOp .Or (a::b::wU) G) (tOr tA Xt):=by
 intro g B s U H Q I h;refine isTrue_or (fE (m B s U H _ I h) ?_);rintro c k ⟨O,f,e⟩;cases c with
 |true=>exact⟨O,f,e⟩|false=>exact l g B k U O Q f e
def KN(b:PT X a tA):PT X (.UnaryOp .Not a G) (UH tA):=by
 intro B s U H Q I h;exact isTrue_not (fE (b B s U H (λc O=>Q (!c) O) I h) (by rintro c k ⟨O,f,e⟩;exact⟨O,f,e⟩))
def UQ(N y:TE):TE:=λU H Q=>N U H λx O=>∃c,x=.bl c/\if c=Z' then y U O Q else Q (.bl Z_) O
def Xq(N y:TE):TE:=λU H Q=>N U H λx O=>∃c,x=.bl c/\if c=Z' then Q (.bl Z') O else y U O Q
def UG(N:TE):TE:=λU H Q=>N U H λx O=>∃c,x=.bl c/\Q (.bl (!c)) O
def RA{b}(h:PE X a t):PE X (.BoolOp b [a] G) t:=λB s U H Q I hw=>BoolOp_one (h B s U H Q I hw)
def RD(m:PE X a N)(l:PE X (.BoolOp .And (b::wU) G) y):PE X (.BoolOp .And (a::b::wU) G) (UQ N y):=by
 intro B s U H Q I h;refine BoolOp_and (fE (m B s U H _ I h) ?_);rintro v g ⟨x,O,f,k,e⟩;obtain⟨c,rfl,e⟩:=e;cases k;refine gP ?_;cases c with
 |true=>exact l B g U O Q f e|false=>exact⟨.bl Z_,O,f,rfl,e⟩
def Vc(m:PE X a N)(l:PE X (.BoolOp .Or (b::wU) G) y):PE X (.BoolOp .Or (a::b::wU) G) (Xq N y):=by
 intro B s U H Q I h;refine BoolOp_or (fE (m B s U H _ I h) ?_);rintro v g ⟨x,O,f,k,e⟩;obtain⟨c,rfl,e⟩:=e;cases k;refine gP ?_;cases c with
 |false=>exact l B g U O Q f e|true=>exact⟨.bl Z',O,f,rfl,e⟩
def RB(f:PE X a N):PE X (.UnaryOp .Not a G) (UG N):=by
 intro B s U H Q I h;refine UnaryOp_ (fE (f B s U H _ I h) ?_);rintro v k ⟨x,O,g,e,b⟩;obtain⟨c,rfl,b⟩:=b;cases e;exact not_of (gP ⟨.bl (!c),O,g,rfl,b⟩)
def tIf(t:TT)(N y:TE):TE:=λU H Q=>t U H λc O=>if c=Z' then N U O Q else y U O Q
def K1(k:PT X c tA)(m:PE X a N)(l:PE X b y):PE X (.IfExp c a b G) (tIf tA N y):=by
 intro B s U H Q I h;refine wpAny_IfExp (fE (k B s U H _ I h) ?_);rintro d e ⟨O,g,f⟩;cases d with
 |true=>exact m B e U O Q g f|false=>exact l B e U O Q g f
end
def lR(K:aT)(H:Hp)(a:az)(xs:List V):Prop:=
 Rd H a (.lst xs) \/
  ∃(o:Obj) (b:Array ai) (n:Nat),K.lookup a=Y o/\o.cls=.type "list" /\o.dict=M/\o.data=.seq b n/\b.size<=a9/\cj xs b.toList
def vi(K:aT)(H:Hp)(a:az)(xs:List V):Prop:=
 Rd H a (.tup xs) \/
  ∃(o:Obj) (b:Array ai) (n:Nat),K.lookup a=Y o/\o.cls=.type "tuple" /\o.data=.seq b n/\b.size<=a9/\cj xs b.toList
noncomputable def YG:ai->Option V
 |.none=>Y .dJ|.bool b=>Y (.bl b)|.int i _=>Y (.int i)|.str x _=>Y (.str x)|.bytes b _=>Y (.Gs b)|.float b _=>Y (.SF b)|.ref a=>Y (.ref a)|.type n=>Y (.ty n)|_=>M
def RelV.abs(r:RelV x u):YG u=Y x:=by
 cases x with
 |dJ=>cases r;rfl|bl _=>cases r;rfl|ref _=>cases r;rfl|ty _=>cases r;rfl|_=>obtain⟨t,rfl⟩:=r;rfl
def RelV.inj{x:V}(r:RelV x u)(q:RelV y u):x=y:=bN (r.abs.symm.trans q.abs)
def cj.inj{xs ys:List V}{a:List ai}(h:cj xs a)(g:cj ys a):xs=ys:=by
 induction h generalizing ys with
 |nil=>cases g;rfl|cons r _ ih=>
  cases g with|cons c b=>rw[r.inj c,ih b]
section
variable {X:Cx}{s:ay}
def lR.of{K:aT}(h:H a=Y (.lst xs)):lR K H a xs :=.inl (.inl h)
def vi.of{K:aT}(h:H a=Y (.tup xs)):vi K H a xs :=.inl (.inl h)
def Inv.list(I:Inv X B U H s)(h:lR X.K H a xs):∃b:List ai,cj xs b/\PlainL s.heap a b.toArray/\xs.length<=a9:=by
 rcases h with h|⟨o,b,n,f,k,g,c,l,r⟩
 ·obtain⟨z,b,n,r,e⟩:=h.ok I.f';exact⟨b,r,⟨_,n,e,rfl,rfl,rfl⟩,z⟩
 ·refine⟨b.toList,r,⟨o,n,I.F4 a o f,k,g,by simpa using c⟩,?_⟩;have e:=r.length;simp only[zj]at e;omega
def Inv.tuple(I:Inv X B U H s)(h:vi X.K H a xs):∃b:List ai,cj xs b/\IsTup s.heap a b.toArray/\xs.length<=a9:=by
 rcases h with h|⟨o,b,n,f,g,c,k,r⟩
 ·obtain⟨z,b,r,p⟩:=h.ok I.f';exact⟨b,r,p.t,z⟩
 ·refine⟨b.toList,r,⟨o,I.F4 a o f,g,n,by simpa using c⟩,?_⟩;have e:=r.length;simp only[zj]at e;omega
def Inv.oM(I:Inv X B U H s)(h:lR X.K H a xs)(h':lR X.K H a ys):xs=ys:=by
 obtain⟨c,r,⟨o,n,e,_,_,d⟩,_⟩:=I.list h;obtain⟨b,k,⟨o',m,f,_,_,g⟩,_⟩:=I.list h';rw[e]at f;cases f;rw[d]at g;injection g with l _;have:c=b:=by simpa using congrArg Array.toList l
 subst this;exact r.inj k
def Inv.IV(I:Inv X B U H s)(h:vi X.K H a xs)(h':vi X.K H a ys):xs=ys:=by
 obtain⟨c,r,⟨o,e,_,n,d⟩,_⟩:=I.tuple h;obtain⟨b,k,⟨o',f,_,m,g⟩,_⟩:=I.tuple h';rw[e]at f;cases f;rw[d]at g;injection g with l _;have:c=b:=by simpa using congrArg Array.toList l
 subst this;exact r.inj k
end
noncomputable abbrev Cx.zr(X:Cx)(E:ai->ay->Prop):Cx:={ X with xe:=E }
abbrev Cx.OH(X:Cx):Cx:=X.zr λ_ _=>False
def Cx.Ok.zr{X:Cx}(a:X.Ok)(E:ai->ay->Prop):(X.zr E).Ok:=
 ⟨a.mod,a.kind,a.glob,a.blt,a.above,a.inj,a.has,a.V6,a.hd,a.frames,a.WH,a.ZW,a.bs,a.MV,a.Ln,a.O',a.vY,a.QL⟩
def Cx.Ok.vp{X:Cx}(a:(X.zr E).Ok):X.Ok:=
 ⟨a.mod,a.kind,a.glob,a.blt,a.above,a.inj,a.has,a.V6,a.hd,a.frames,a.WH,a.ZW,a.bs,a.MV,a.Ln,a.O',a.vY,a.QL⟩
section
variable {X:Cx}{s:ay}
def Inv.zr(I:Inv X B U H s)(E:ai->ay->Prop):Inv (X.zr E) B U H s:=⟨I.ok.zr E,I.os,I.bare,I.base,I.loc,I.cell,I.free,I.oS,I.pin,I.f',I.len⟩
def Inv.vp(I:Inv (X.zr E) B U H s):Inv X B U H s:=⟨I.ok.vp,I.os,I.bare,I.base,I.loc,I.cell,I.free,I.oS,I.pin,I.f',I.len⟩
def SP.vp{D:Ends}{f:Flow}(h:SP (X.zr E) B D f s'):SP X B D f s':=by
 cases f with
 |ret u=>obtain⟨v,a,H',I,r,q⟩:=h;exact⟨v,a,H',I.vp,r,q⟩
 |_=>obtain⟨a,H',I,q⟩:=h;exact⟨a,H',I.vp,q⟩
def sx.OH{st:List eJ}(h:sx X.OH st t):sx X st t:=λB s U H D I hw=>
 ir (h B s U H D (I.zr _) hw) (λ_ _ q=>q.vp) λ_ _ z=>qB z
end
section
variable {X:Cx}{st:eJ}{wU:List eJ}
def Qg:TS:=λD U H=>D.nx U H
def Xo(t u:TS):TS:=λD U H=>t { D with nx:=u D } U H
def Ha:sx X [] Qg:=λ_ _ U H _ I h=>zp ⟨U,H,I,h⟩
def mN(J:PS X st t)(z:sx X wU u):sx X (st::wU) (Xo t u):=by
 intro B s U H D I h;refine wpAny_execs_cons (fE (J B s U H { D with nx:=u D } I h) λf b q =>?_);cases f with
 |next=>obtain⟨a,H',c,q⟩:=q;exact z B b a H' D c q
 |_=>exact q
def nj(J:PS X st t):sx X [st] t:=by
 intro B s U H D I h;refine wpAny_execs_cons (fE (J B s U H D I h) λf a q =>?_);cases f with
 |next=>exact zp q|_=>exact q
def Inv.quiet{s:ay}(I:Inv X B U H s):interactive X.env=false:=by simp[interactive,I.ok.kind]
def UL(te:TE):TS:=λD U H=>te U H λ_ O=>D.nx U O
def l9(c:PE X e te)(b:autoParam (dS e M G.line X.env=fi false) ų):PS X (.Expr e G) (UL te):=by
 intro B s U H D I h;exact wpAny_Expr_any (fE (c B s U H _ I h) (by rintro v g ⟨x,O,f,k,a⟩;exact⟨U,O,f,a⟩)) I.quiet b
def Xp(te:TE):TS:=λD U H=>te U H D.rt
def vI(c:PE X e te):PS X (.Return (Y e) G) (Xp te):=by
 intro B s U H D I h;exact wpAny_Return_some (fE (c B s U H _ I h) (by rintro v g ⟨x,O,f,a,b⟩;exact⟨x,U,O,f,a,b⟩))
def UJ(c:TT)(t u:TS):TS:=λD U H=>c U H λb O=>if b=Z' then t D U O else u D U O
def Hb(k:PT X c tc)(m:sx X a t)(l:sx X b u):PS X (.If c a b G) (UJ tc t u):=by
 intro B s U H D I h;refine wpAny_If (fE (k B s U H _ I h) ?_);rintro d e ⟨O,g,f⟩;cases d with
 |true=>exact m B e U O D g f|false=>exact l B e U O D g f
def Ku:TS:=λ_ _ _=>False
def KO:PS X st Ku:=λ_ _ _ _ _ _ h=>h.elim
end
abbrev TG:=V->St->Hp->(St->Hp->Prop)->Prop
abbrev Wa:=List V->St->Hp->(St->Hp->Prop)->Prop
def PG(X:Cx)(a:Expr)(t:TG):Prop:=
 ∀(B:List (az×Obj)) (s:ay) (U:St) (H:Hp) (v:V) (u:ai) (Q:St->Hp->Prop),Inv X B U H s->RelV v u->t v U H Q ->
  bz (bD X.prog X.w) X.A (GD a X.env u) (λ_ s'=>∃b H',Inv X B b H' s'/\Q b H') X.xe s
def W9(X:Cx)(e:List Expr)(t:Wa):Prop:=
 ∀(B:List (az×Obj)) (s:ay) (U:St) (H:Hp) (b:List V) (c:List ai) (Q:St->Hp->Prop),Inv X B U H s->cj b c->t b U H Q ->
  bz (bD X.prog X.w) X.A (assignInOrder ((tY e X.env).map (·.2)) c) (λ_ s'=>∃a H',Inv X B a H' s'/\Q a H') X.xe s
abbrev V':=V->V->V->Hp->(Hp->Prop)->Prop
def Wb(X:Cx)(t:V'):Prop:=
 ∀(B:List (az×Obj)) (s:ay) (U:St) (H:Hp) (o i v:V) (a b u:ai) (Q:Hp->Prop),Inv X B U H s->RelV o a->RelV i b->RelV v u->t o i v H Q ->
  bz (bD X.prog X.w) X.A (setItem a b u) (λ_ s'=>∃H',Inv X B U H' s'/\Q H') X.xe s
abbrev YJ:=V->V->Hp->VK->Prop
def PIp(X:Cx)(a:Operator)(t:YJ):Prop:=
 ∀(B:List (az×Obj)) (s:ay) (U:St) (H:Hp) (x y:V) (v u:ai) (Q:VK),Inv X B U H s->RelV x v->RelV y u->t x y H Q ->
  bz (bD X.prog X.w) X.A (inplaceOp a v u) (EP X B U Q) X.xe s
section
variable {X:Cx}
def oR(i:Nat):TG:=λv U H Q=>Q (U.set i (Y v)) H
def bw{i:Nat}(c:X.N.Nodup)(L:X.N[i]?=Y x)(a:Loc X.env.scope x)(b:autoParam (X.fn x=Z'\/X.env.scope.names.lookup x=Y .local) Ů):PG X (.Name x G) (oR i):=by
 intro B s U H v u Q I r h;exact wpAny_assign_Name (xI I c L a r (λs' e=>⟨_,H,e,h⟩) b)
def SE:Wa:=λa U H Q=>a=[]/\Q U H
def A0(t:TG)(u:Wa):Wa:=λb U H Q=>∃v r,b=v::r/\t v U H λa H'=>u r a H' Q
def jT:W9 X [] SE:=by
 intro B s U H a b Q I r h;obtain⟨e,h⟩:=h;subst e;cases r;exact assignInOrder_nil ⟨U,H,I,h⟩
def cJ(J:PG X e t)(z:W9 X es u)(g:autoParam ((tY (e::es) X.env).map (·.2)=GD e X.env::(tY es X.env).map (·.2)) ų):W9 X (e::es) (A0 t u):=by
 intro B s U H m p Q I r h;obtain⟨v,o,k,h⟩:=h;subst k;cases r with
 |cons r c=>rw[g];refine assignInOrder_cons (fE (J B s U H _ _ _ I r h) ?_);rintro _ b ⟨a,O,l,f⟩;exact z B b a O _ _ Q l c f
def SD(K:aT)(n:Nat)(t:Wa):TG:=λv U H Q=>∃a xs,v=.ref a/\vi K H a xs/\xs.length=n/\t xs U H Q
def lM(A:X.calm=Z')(h:W9 X es t)(w:autoParam ((tY es X.env).length=n) ų)(c:autoParam ((tY es X.env).findIdx? (·.1)=none) ų):PG X (.Tuple es k G) (SD X.K n t):=by
 intro B s U H v u Q I r hw;obtain⟨a,xs,C,p,x,hw⟩:=hw;subst C;cases r;obtain⟨g,f,m,E⟩:=I.tuple p;refine assign_Tuple_tuple (I.ok.hd A) m (by simp[w,<- x,f.length]) c λh' l =>?_
 have D:Inv X B U H { s with heap:=h' }:=I.kept (t':=s.toks) λb o e=>l b o (bE (aR e)) e
 exact h B _ U H xs _ Q D (by simpa using f) hw
def VJ(to a:TE)(t:V'):TG:=λv U H Q=>to U H λo O=>a U O λi d=>t o i v d λb=>Q U b
def Ry(A:PE X o to)(L:PE X i c)(w:Wb X t) (C:autoParam (∀v,GD (.Subscript o i G) X.env v=(do
   let a <- lD [v] (eval o X.env)
   let b <- lD [v,a] (eval i X.env)
   ou G
   lD [v,a,b] (setItem a b v)
   release [v,a,b] [])) Ű):PG X (.Subscript o i G) (VJ to c t):=by
 intro B s U H v u Q I r h;rw[C];refine aE (ES (fE (A B s U H _ I h) ?_));rintro a f ⟨x,O,F,k,p⟩;refine aE (ES (fE (L B f U O _ F p) ?_));rintro b e ⟨y,d,E,g,m⟩;refine aE (wpAny_standAt (aE (ES (fE (w B e U d x y v a b u _ E k g r m) ?_))));rintro _ j ⟨K,D,l⟩;exact wpAny_release ⟨U,K,D,l⟩
def Rb(te:TE)(g:TG):TS:=λD U H=>te U H λx O=>g x U O D.nx
def KP(l:PE X e te)(k:PG X tg g)(f:autoParam (swapsWithSole [tg] e G.line X.env=fi false) ų)(hw:autoParam (swappedStores [tg] e X.env=fi none) ų)(J:autoParam ((tY [tg] X.env).map (·.2)=[GD tg X.env]) ų):PS X (.Assign [tg] e G) (Rb te g):=by
 intro B s U H D I h;refine wpAny_Assign_stores (fE (l B s U H _ I h) ?_) f hw;rintro v a ⟨x,O,m,b,c⟩;rw[J];exact fE (k B a U O x v _ m b c) λ_ o q=>q
def sQ{i:Nat}(l:X.N.Nodup)(L:X.N[i]?=Y x)(c:Loc X.env.scope x)(k:PE X e te)(f:autoParam (dS e (Y (.Name x P1)) G.line X.env=fi false) ų)(g:autoParam (X.fn x=Z'\/X.env.scope.names.lookup x=Y .local) Ů):
  PS X (.Assign [.Name x P1] e G) (Rb te (oR i)):=by
 intro B s U H D I h;refine wpAny_Assign_Name (fE (k B s U H _ I h) ?_) f;rintro v r ⟨y,O,o,a,b⟩;exact xI o l L c a (λp m=>⟨_,O,m,b⟩) g
def Xu(i:Nat)(te:TE)(a:YJ):TS:=λD U H=>∃x,U[i]?=Y (Y x)/\te U H λy O=>a x y O λz d=>D.nx (U.set i (Y z)) d
def Rt{ti:YJ}(hN:X.N.Nodup)(L:X.N[i]?=Y x)(t:Loc X.env.scope x)(he:PE X e te)(P:PIp X p ti)(T:autoParam (X.fn x=Z'\/X.env.scope.names.lookup x=Y .local) Ů):
  PS X (.AugAssign (.Name x P1) p e G) (Xu i te ti):=by
 intro B s U H D I h;obtain⟨v,e1,h⟩:=h;obtain⟨m,Q,S⟩:=I.loc;have o:Tp X.env.scope x:=by rcases t with k|k;exact .inl k;exact .inr (.inl k)
 obtain⟨u,r,l⟩:=S i x v L e1 o;refine wpAny_AugAssign_Name ?_;have A:bz (bD X.prog X.w) X.A (eval e X.env) (λw g=>bz (bD X.prog X.w) X.A (inplaceOp p u w) (λr f=>bz (bD X.prog X.w) X.A (storeName X.env x r) (λ_=>SP X B D .next) X.xe f) X.xe g) X.xe s:=by refine fE (he B s U H _ I h) ?_;rintro w C ⟨y,O,I1,F,j⟩;refine fE (P B C U O v y u w _ I1 r F j) ?_;rintro z s2 ⟨zv,d,I2,E,K⟩;exact xI I2 hN L t E (λs3 I3=>⟨_,d,I3,K⟩) T
 rcases l with⟨a,R⟩|⟨a,c,hc,b⟩
 ·exact wpAny_loadName_local I.ok.kind a Q R A
 ·rcases a with a|a
  ·exact wpAny_loadName_cell I.ok.kind a hc b A
  ·rcases t with k|k
   ·have:X.env.scope.names.lookup x=Y .free:=a;rw[k]at this;cases this
   ·have:X.env.scope.names.lookup x=Y .free:=a;rw[k]at this;cases this
end
section
variable {X:Cx}
end
structure It where
 go:Nat->Hp->Prop
 NN:Nat->Hp->V->Hp->Prop
 stop:Nat->Hp->Prop
def zb(X:Cx)(B:List (az×Obj))(H:Hp)(b:az):Prop:=
 H b=M/\b≠X.env.locals/\b∉X.fs/\(b∈X.ex\/X.s₀.heap.objs.size<=b)/\(∀x c,X.env.cells.lookup x=Y c->c≠b)/\∀p∈X.pn++B,p.1≠b
def Inv.tw{X:Cx}{s:ay}(I:Inv X B U H s)(a:s.heap.objs.size<=b)(g:H' b=M):zb X B H' b:=by
 refine⟨g,jt (bq I.lt a),I.RQ a,.inr (a7 I.sz a),λx c e z =>?_,λp f z =>?_⟩
 ·obtain⟨v,q⟩:=I.cell x c e;exact absurd (bq q.lt (by rw[z];exact a)) (jF _)
 ·exact absurd (bq (aR (I.pin p f).1) (by rw[z];exact a)) (jF _)
structure zX(P:be)(w:dz)(K:aT)(tg:Expr)(J:It)(fp:List az)(it:az)(tn:Nat->dC->Prop):Prop where
 mem:it∈fp
 obj:∀i h,tn i h->∀b∈fp,∃o,h.get? b=some o/\∀v,o.data ≠ .cell v
 keep:∀i h h',tn i h->(∀b∈fp,∀o,h.get? b=some o->h'.get? b=some o)->tn i h'
 item:∀(X:Cx),X.prog=P->X.w=w->X.K=K->X.calm=true->∀(i:Nat) (CK:List (az×Obj)) (s:ay) (σ:St) (H:Hp) (E:ai->ay->Prop),Inv X CK σ H s->(∀b∈fp,zb X CK H b)->tn i s.heap->J.go i H ->
  bz (bD P w) X.A (pyNext (.ref it)) (λr s1=>∃u,r=some u /\
   bz (bD P w) X.A (zq tg (.ref it) u) (λ_ s2=>∃x H',Inv X CK σ H' s2/\RelV x u/\J.NN i H x H'/\tn (i+1) s2.heap/\∀b∈fp,H' b=none) E s1) E s
 done:∀(X:Cx),X.prog=P->X.w=w->X.K=K->X.calm=true->∀(i:Nat) (CK:List (az×Obj)) (s:ay) (σ:St) (H:Hp) (E:ai->ay->Prop),Inv X CK σ H s->(∀b∈fp,zb X CK H b)->tn i s.heap->J.stop i H ->
  bz (bD P w) X.A (pyNext (.ref it)) (λr s1=>r=none/\Inv X CK σ H s1) E s
 self:∀(A:jd) (i:Nat) (s:ay) (Q:ai->ay->Prop) (E:ai->ay->Prop),tn i s.heap->Q (.ref it) s->bz (bD P w) A (pyIter (.ref it)) Q E s
abbrev TI:=St->Hp->(It->Hp->Prop)->Prop
def Z1(X:Cx)(B:List (az×Obj))(U:St)(tg:Expr)(R:It->Hp->Prop)(a:ai)(e:ay):Prop:=
 ∃(f:az) (g:List az) (c:Nat->dC->Prop) (J:It) (H':Hp),a=.ref f/\Inv X B U H' e/\zX X.prog X.w X.K tg J g f c/\c 0 e.heap/\(∀b∈g,zb X B H' b)/\R J H'
def PI(X:Cx)(tg a:Expr)(b:TI):Prop:=
 ∀(B:List (az×Obj)) (s:ay) (U:St) (H:Hp) (R:It->Hp->Prop),Inv X B U H s->b U H R ->
  bz (bD X.prog X.w) X.A (eval a X.env) (λv c=>bz (bD X.prog X.w) X.A (pyIter v) (Z1 X B U tg R) X.xe c) X.xe s
def AY{d : Model}{s : ay}{n : String}(e : s.heap.get? c = Y o)(k : o.cls = .type n)(g : o.data = .fields b)(f : ["enumerate", "zip", "dict_itemiterator", "dict_reverseitemiterator", "odict_iterator", "itertools.zip_longest", "itertools.pairwise"].contains n = Z_)(a : Q () s): bz d A (zq tg (.ref c) u) Q E s := by
  unfold zq
  cases tg <;> first
    |exact bC a
    | (cases u <;> first
        |exact bC a
        | (refine aE (wpAny_load e ?_)
           rw [k,g]
           show bz d A (if (["enumerate", "zip", "dict_itemiterator", "dict_reverseitemiterator", "odict_iterator", "itertools.zip_longest", "itertools.pairwise"].contains n && b[0]? == Y (rawInt _)) = Z' then _ else _) Q E s
           rw [if_neg (by intro h; rw [f,Bool.false_and]at h; cases h)]
           exact bC a))
noncomputable def YQ(K:aT)(a:az):It:=
 ⟨λi H=>∃xs x,lR K H a xs/\xs[i]?=Y x,λi H x H'=>H'=H/\∀xs,lR K H a xs->xs[i]?=Y x,λi H=>∃xs,lR K H a xs/\xs.length<=i⟩
def YN(K:aT)(a:az):It:=
 ⟨λi H=>∃xs x,vi K H a xs/\xs[i]?=Y x,λi H x H'=>H'=H/\∀xs,vi K H a xs->xs[i]?=Y x,λi H=>∃xs,vi K H a xs/\xs.length<=i⟩
noncomputable def Xc(n:Int)(a:Nat):It:=⟨λi _=>i<a,λi H x H'=>H'=H/\x=.int (n+i),λi _=>a<=i⟩
def IS{P:be}{K:aT}(a f:az):zX P w K tg (YQ K a) [f] f (λi h=>h.IsListIter f a i) where
 mem:=by simp
 obj:=λi h st b g=>by
  have e:b=f:=by simpa using g
  subst e;obtain⟨o,e,c,d⟩:=st;exact⟨o,e,λv z=>by rw[d]at z;cases z⟩
 keep:=λi h h' st k=>st.at λo e=>k f Ž o e
 item:=by
  intro X F hw j hc i B s U H E I r st D;subst F hw j;obtain⟨xs,x,m,C⟩:=D;obtain⟨A,t,p,hz⟩:=I.list m;obtain⟨u,hu,ru⟩:=t.get C;obtain⟨f0,T,f2,S,R,Q⟩:=r f Ž;refine wpAny_pyNext_list_item st p.isList (x:=u) (by simpa using hu) λh' l sb =>?_
  have I1:Inv X B U H { s with heap:=h' }:=I.turned (t':=s.toks) (λb o g e=>(sb.2 b g).trans e) f0 T S R Q;obtain⟨o,e,c,d⟩:=id l;exact⟨u,rfl,AY (s:={ s with heap:=h' }) e c d ſ ⟨x,H,I1,ru,⟨rfl,λys hy=>by rw[I.oM hy m];exact C⟩,l,λb g=>(r b g).1⟩⟩
 done:=by intro X F hw j hc i B s U H E I r st D;subst F hw j;obtain⟨xs,m,C⟩:=D;obtain⟨A,t,p,hz⟩:=I.list m;obtain⟨f0,T,f2,S,R,Q⟩:=r f Ž;have hl:=t.length;exact wpAny_pyNext_list_end (I.ok.hd hc) st p.isList (by simp;omega) λh' eb=>⟨rfl,I.turned (t':=s.toks) (λb o g e=>eb b o g e) f0 T S R Q⟩
 self:=λ_ _ _ _ _ st h=>wpAny_pyIter_listiter st h
def Fb{P:be}{K:aT}(a g:az):zX P w K tg (YN K a) [g] g (λi h=>h.IsTupleIter g a i) where
 mem:=by simp
 obj:=λi h st b l=>by
  have e:b=g:=by simpa using l
  subst e;obtain⟨o,e,c,d⟩:=st;exact⟨o,e,λv z=>by rw[d]at z;cases z⟩
 keep:=λi h h' st k=>st.at λo e=>k g Ž o e
 item:=by
  intro X F hw j hc i B s U H E I t st D;subst F hw j;obtain⟨xs,x,r,C⟩:=D;obtain⟨f,A,p,hz⟩:=I.tuple r;obtain⟨u,hu,ru⟩:=A.get C;obtain⟨f0,T,f2,S,R,Q⟩:=t g Ž;refine wpAny_pyNext_tuple_item st (show s.heap.IsTuple a f.toArray from p) (x:=u) (by simpa using hu) λh' m sb =>?_
  have I1:Inv X B U H { s with heap:=h' }:=I.turned (t':=s.toks) (λb o l e=>(sb.2 b l).trans e) f0 T S R Q;obtain⟨o,e,c,d⟩:=id m;exact⟨u,rfl,AY (s:={ s with heap:=h' }) e c d ſ ⟨x,H,I1,ru,⟨rfl,λys hy=>by rw[I.IV hy r];exact C⟩,m,λb l=>(t b l).1⟩⟩
 done:=by intro X F hw j hc i B s U H E I t st D;subst F hw j;obtain⟨xs,r,C⟩:=D;obtain⟨f,A,p,hz⟩:=I.tuple r;obtain⟨f0,T,f2,S,R,Q⟩:=t g Ž;have hl:=A.length;exact wpAny_pyNext_tuple_end (I.ok.hd hc) st (show s.heap.IsTuple a f.toArray from p) (by simp;omega) λh' eb=>⟨rfl,I.turned (t':=s.toks) (λb o l e=>eb b o l e) f0 T S R Q⟩
 self:=λ_ _ _ _ _ st h=>wpAny_pyIter_tupleiter st h
def Fc{P:be}{K:aT}(c:az)(n:Int)(a:Nat):zX P w K tg (Xc n a) [c] c (λi h=>IsRangeIter h c (n+(i:Nat)*1) ((a:Int)-(i:Nat)) 1) where
 mem:=by simp
 obj:=λi h st b f=>by
  have e:b=c:=by simpa using f
  subst e;exact⟨_,st,λv z=>by have d:Data.fields _=Data.cell v:=z;cases d⟩
 keep:=λi h h' st k=>k c Ž _ st
 item:=by
  intro X r hw u p i B s U H E I l st m;subst r hw u;obtain⟨F,D,S,C,A,x⟩:=l c Ž;have W:=Walks.range (prog:=X.prog) (w:=X.w) (I.ok.hd p) c n 1 a;refine W.item i s _ _ m st λv h' tk R g Q =>?_
  obtain⟨t,rfl⟩:=R;have I1:Inv X B U H { s with heap:=h',toks:=tk }:=I.turned (λb o f e=>Q b o (by simpa using f) e) F D C A x;refine⟨_,rfl,AY (s:={ s with heap:=h',toks:=tk }) (n:= "range_iterator") g rfl rfl ſ ⟨.int (n+i),H,I1,⟨t,?_⟩,⟨rfl,rfl⟩,g,λb f=>(l b f).1⟩⟩;rw[Int.mul_one]
 done:=by intro X r hw u p i B s U H E I l st m;subst r hw u;obtain⟨F,D,S,C,A,x⟩:=l c Ž;exact wpAny_pyNext_range_end (I.ok.hd p) st (by have:a<=i:=m;omega) λh' T=>⟨rfl,I.turned (t':=s.toks) (λb o f e=>T b o f e) F D C A x⟩
 self:=λ_ _ _ _ _ st h=>wpAny_pyIter_rangeiter st h
section
variable {X:Cx}
def VB(K:aT)(tl:TE):TI:=λU H R=>tl U H λx O=>∃a,x=.ref a/\(∃xs,lR K O a xs)/\R (YQ K a) O
def X1(K:aT)(tl:TE):TI:=λU H R=>tl U H λx O=>∃a,x=.ref a/\(∃xs,vi K O a xs)/\R (YN K a) O
def Hd(t:PE X l tl):PI X tg l (VB X.K tl):=by
 intro B s U H R I h;refine fE (t B s U H _ I h) ?_;rintro v c ⟨x,O,f,g,k⟩;obtain⟨a,e,⟨xs,r⟩,q⟩:=k;subst e;cases g;obtain⟨m,w,p,A⟩:=f.list r;refine kK p.isList ?_;refine⟨c.heap.objs.size,[c.heap.objs.size],_,_,O,rfl,f.kept (t':=c.toks) λb o e=>af _ e,IS a _,⟨_,ba _ rfl,rfl,rfl⟩,λb u =>?_,q⟩;have e:b=c.heap.objs.size:=by simpa using u
 subst e;exact f.tw (aw _) (f.f'.fresh (aw _))
def Rv(t:PE X l tl):PI X tg l (X1 X.K tl):=by
 intro B s U H R I h;refine fE (t B s U H _ I h) ?_;rintro v c ⟨x,O,f,k,m⟩;obtain⟨a,e,⟨xs,r⟩,q⟩:=m;subst e;cases k;obtain⟨g,w,p,A⟩:=f.tuple r;refine wpAny_pyIter_tuple (show c.heap.IsTuple a g.toArray from p) ?_;refine⟨c.heap.objs.size,[c.heap.objs.size],_,_,O,rfl,f.kept (t':=c.toks) λb o e=>af _ e,Fb a _,⟨_,ba _ rfl,rfl,rfl⟩,λb u =>?_,q⟩;have e:b=c.heap.objs.size:=by simpa using u
 subst e;exact f.tw (aw _) (f.f'.fresh (aw _))
def KG{s:ay}{R:It->Hp->Prop}{v:Tok}(I:Inv X B U H s)(J : -(2 ^ 62)<=n)(z:n<2 ^ 62)(g : -(2 ^ 62)<=L)(f:L<2 ^ 62)(q:R (Xc n (L-n).toNat) H):bz (bD X.prog X.w) X.A (pyIter (.ref s.heap.objs.size)) (Z1 X B U tg R) E { s with heap:=s.heap.push { cls :=.type "range",data :=.fields #[.int n t,.int L u,.int 1 v] },toks:=tk }:=by
 refine wpAny_pyIter_range (IsRange.new ..) (small_one J z g f) ?_;have a:Inv X B U H { s with heap:=s.heap.push { cls :=.type "range",data :=.fields #[.int n t,.int L u,.int 1 v] },toks:=tk }:=I.kept λb o e=>af _ e
 refine⟨(s.heap.push { cls :=.type "range",data :=.fields #[.int n t,.int L u,.int 1 v] }).objs.size,[(s.heap.push { cls :=.type "range",data :=.fields #[.int n t,.int L u,.int 1 v] }).objs.size],_,_,H,rfl,
  a.kept (t':=tk) λb o e=>af _ e,Fc _ n (L-n).toNat,?_,λb c =>?_,q⟩
 ·have k:n+((0:Nat):Int)*1=n:=by simp
  have h:(((L-n).toNat:Nat):Int)-((0:Nat):Int)=Builtin.Range.rangeSize n L 1:=by rw[rangeSize_one];split<;>omega
  show IsRangeIter _ _ (n+((0:Nat):Int)*1) ((((L-n).toNat:Nat):Int)-((0:Nat):Int)) 1;rw[k,h];exact ba _ rfl
 ·have e:b=(s.heap.push { cls :=.type "range",data :=.fields #[.int n t,.int L u,.int 1 v] }).objs.size:=by simpa using c
  subst e;exact a.tw (aw _) (a.f'.fresh (aw _))
def Vz(N:TA):TI:=λU H R=>N U H λa O=>∃j:Int,a=[.int j] /\ -(2 ^ 62)<=j/\j<2 ^ 62/\R (Xc 0 j.toNat) O
def Aw(m:Gl X "range")(l:X.mg "range" = M)(o:PA X [a] N)(k:autoParam (aq [a] X.env=[(Z_,eval a X.env)]) ų):PI X tg (.Call (.Name "range" p) [a] [] G) (Vz N):=by
 intro B s U H R I h;refine Call_ (vT I m l boot_range (gM (fE (o G B s U H _ I h) ?_) k rfl));rintro w x ⟨v,O,u,f,b⟩;obtain⟨j,e,b,g,q⟩:=b;subst e;cases f with
 |cons r c=>cases c;obtain⟨t,rfl⟩:=r;exact call_range_1 (KG u ž ž b g (by simpa using q))
def Xs(e:TI)(g:TG)(y:TS):TS:=λD U H=>e U H λJ O=>∃W:Nat->Nat->St->Hp->Prop,(∃m,W 0 m U O)/\∀i m U H,W i m U H ->
 (J.stop i H/\D.nx U H)\/(J.go i H/\∃N:St->Hp->Prop,(∀a H',N a H'->∃c,c<m/\W (i+1) c a H')/\∀x H',J.NN i H x H'->g x U H' λb d=>y { D with nx:=N,ct:=N,bk:=D.nx } b d)
noncomputable def sR(a:List az)(h:dC):List (az×Obj):=a.filterMap λb=>(h.get? b).map λo=>(b,o)
def j4(c:b∈a)(e:h.get? b=Y o):(b,o)∈sR a h:=List.mem_filterMap.mpr ⟨b,c,by rw[e];rfl⟩
def Ay(c:p∈sR a h):p.1∈a/\h.get? p.1=Y p.2:=by
 obtain⟨b,f,e⟩:=List.mem_filterMap.mp c;rcases q:h.get? b with _|o
 ·rw[q]at e;cases e
 rw[q]at e;have g:(b,o)=p:=bN e;subst g;exact⟨f,q⟩
def Inv.pinned{s:ay}(I:Inv X B U H s)(k:∀b∈a,zb X B H b)(h:∀b∈a,∃o,s.heap.get? b=Y o/\∀v,o.data ≠ .cell v):Inv X (B++sR a s.heap) U H s:=
 I.xc λp g=>(aD.mp g).elim (λz=>I.pin p (aH _ z)) λz=>by obtain⟨c,e⟩:=Ay z;obtain⟨r,m,l,_⟩:=k p.1 c;obtain⟨o,f,d⟩:=h p.1 c;rw[e]at f;cases f;exact⟨e,r,m,l,d⟩
def Inv.mB{s:ay}(I:Inv X (B++a) U H s):Inv X B U H s:=I.xc λp b=>I.pin p (aH _ (aJ _ b))
def Rr{j:List eJ}(hp:Nr (bD X.prog X.w) X.A X.env X.xe)(hc:X.calm=Z')(L:PI X tg w wi)(hg:PG X tg g)(A:sx X j y)(hs:autoParam (∀x,cR w X.env x=fi x) Ű):PS X (.For tg w j [] G) (Xs wi g y):=by
 intro B s U H D I h;refine wpAny_For (fE (L B s U H _ I h) λv s1 J=>fE J λZj s2 z =>?_) hs;obtain⟨it,fp,tn,a,d,e,I2,T,Nv,f2,W,⟨m0,w0⟩,kj⟩:=z;subst e;have t:∀ {H':Hp},(∀b∈fp,H' b=M)->∀b∈fp,zb X B H' b:=λhn b A=>⟨hn b A,(f2 b A).2⟩
 refine codeAny_forLoop_any (λn s'=>∃i p H',Inv X B p H' s'/\tn i s'.heap/\(∀b∈fp,H' b=M)/\W i n p H') ?_ m0 ⟨0,U,d,I2,Nv,λb A=>(f2 b A).1,w0⟩;rintro n s3 ⟨i,l,H3,I3,R,VO,w3⟩;rcases kj i n l H3 w3 with⟨stop,qn⟩|⟨go,N,hN,Q⟩
 ·refine fU hp (fE (T.done X rfl rfl rfl hc i B s3 l H3 X.xe I3 (t VO) R stop) ?_);rintro r s4 ⟨hr,I4⟩;subst hr;exact zp ⟨l,H3,I4,qn⟩
 ·refine fU hp (fE (T.item X rfl rfl rfl hc i B s3 l H3 X.xe I3 (t VO) R go) ?_);rintro r s4 ⟨u,hr,h4⟩;subst hr;refine fU hp (fE h4 ?_);rintro _ s5 ⟨x,H5,I5,r5,y5,P,Uj⟩;have YT:=I5.pinned (t Uj) (T.obj _ _ P);refine fU hp (fE (hg _ s5 l H5 x u _ YT r5 (Q x H5 y5)) ?_);rintro _ s6 ⟨σ6,H6,I6,q6⟩;refine fU hp (fE (A _ s6 σ6 H6 _ I6 q6) λf s7 K =>?_);have C:∀ {k:St}{F:Hp},Inv X (B++sR fp s5.heap) k F s7->N k F->∃m,m<n/\∃i p H',Inv X B p H' s7/\tn i s7.heap/\(∀b∈fp,H' b=M)/\W i m p H':=fun {k F} E S=>by obtain⟨m',hm,w7⟩:=hN k F S;refine⟨m',hm,i+1,k,F,E.mB,T.keep _ _ _ P λb A o e=>(E.pin (b,o) (aH _ (aH _ (j4 A e)))).1,λb A =>?_,w7⟩;obtain⟨o,e,c⟩:=T.obj _ _ P b A;exact(E.pin (b,o) (aH _ (aH _ (j4 A e)))).2.1
  cases f with
  |brk=>obtain⟨k,F,E,K⟩:=K;exact⟨k,F,E.mB,K⟩
  |ret v=>obtain⟨x7,k,F,E,r7,K⟩:=K;exact⟨x7,k,F,E.mB,r7,K⟩
  |_=>obtain⟨k,F,E,S⟩:=K;exact C E S
end
abbrev R2:=V->V->Hp->VK->Prop
def mz(X:Cx)(f:ai->ai->Sem ai)(r:R2):Prop:=
 ∀(B:List (az×Obj)) (s:ay) (U:St) (H:Hp) (x y:V) (v u:ai) (Q:VK),Inv X B U H s->RelV x v->RelV y u->r x y H Q ->
  bz (bD X.prog X.w) X.A (f v u) (EP X B U Q) X.xe s
def YH(X:Cx)(f:ai->Sem ai)(r:V->Hp->VK->Prop):Prop:=
 ∀(B:List (az×Obj)) (s:ay) (U:St) (H:Hp) (x:V) (v:ai) (Q:VK),Inv X B U H s->RelV x v->r x H Q ->
  bz (bD X.prog X.w) X.A (f v) (EP X B U Q) X.xe s
def lB(X:Cx)(f:ai)(r:List V->Hp->VK->Prop):Prop:=
 ∀(B:List (az×Obj)) (s:ay) (U:St) (H:Hp) (xs:List V) (a:List ai) (Q:VK),Inv X B U H s->cj xs a->r xs H Q ->
  bz (bD X.prog X.w) X.A (call f a) (EP X B U Q) X.xe s
def YI(X:Cx)(r:V->Hp->(Bool->Hp->Prop)->Prop):Prop:=
 ∀(B:List (az×Obj)) (s:ay) (U:St) (H:Hp) (x:V) (v:ai) (Q:Bool->Hp->Prop),Inv X B U H s->RelV x v->r x H Q ->
  bz (bD X.prog X.w) X.A (truthy v) (TP X B U Q) X.xe s
def Qf(r:R2)(N y:TE):TE:=λU H Q=>N U H λx O=>y U O λa d=>r x a d Q
def tUn(r:V->Hp->VK->Prop)(N:TE):TE:=λU H Q=>N U H λx O=>r x O Q
def rI(C:Int->Int->Prop)(g:Int->Int->V):R2:=λx y H Q=>∃i j,x=.int i/\y=.int j/\C i j/\Q (g i j) H
def Kc(g:Int->Int->V):R2:=λx y H Q=>∃i j,x=.int i/\y=.int j/\Q (g i j) H
def rU(g:Int->V):V->Hp->VK->Prop:=λx H Q=>∃i,x=.int i/\Q (g i) H
section
variable {X:Cx}
def Tn(A:PE X a N)(w:PE X b y){s:ay}{R:V->V->Hp->Prop}(I:Inv X B U H s)(h:N U H λx O=>y U O λc d=>R x c d){f:ai->ai->Sem ai}(t:∀v u k x c d,Inv X B U d k->RelV x v->RelV c u->R x c d->bz (bD X.prog X.w) X.A (f v u) Q X.xe k):
  bz (bD X.prog X.w) X.A (eval a X.env) (λv g=>bz (bD X.prog X.w) X.A (eval b X.env) (λu e=>bz (bD X.prog X.w) X.A (f v u) Q X.xe e) X.xe g) X.xe s:=by
 refine fE (A B s U H _ I h) ?_;rintro v l ⟨x,O,D,o,r⟩;refine fE (w B l U O _ D r) ?_;rintro u k ⟨c,d,C,m,p⟩;exact t v u k x c d C o m p
def Qp(l:mz X (dB e) r)(o:PE X a N)(m:PE X b y):PE X (.BinOp a e b G) (Qf r N y):=by
 intro B s U H Q I h;exact wpAny_BinOp (Tn o m I h λv u f x c d p k g q=>l B f U d x c v u Q p k g q)
def KZ{b:UnaryOp}(g:YH X (unaryOp b) r)(k:PE X a N):PE X (.UnaryOp b a G) (tUn r N):=by
 intro B s U H Q I h;exact UnaryOp_ (fE (k B s U H _ I h) (by rintro v c ⟨x,O,l,e,f⟩;exact g B c U O x v Q l e f))
def WK{f:ai->ai->Sem ai}{g:Int->Int->Int}(a:∀(i j:Int) (t u:Tok) (s:ay) (Q:ai->ay->Prop) (E:ai->ay->Prop),C i j->Q (.int (g i j) s.toks) { s with toks:=s.toks+1 }->bz (bD X.prog X.w) X.A (f (.int i t) (.int j u)) Q E s):
  mz X f (rI C λi j =>.int (g i j)):=by
 intro B s U H x y v u Q I e c h;obtain⟨i,j,rfl,rfl,k,q⟩:=h;obtain⟨t,rfl⟩:=e;obtain⟨b,rfl⟩:=c;exact a i j t b s _ _ k ⟨.int (g i j),H,I.tok _,⟨_,rfl⟩,q⟩
def OC{f:ai->ai->Sem ai}{g:Int->Int->Int}(a:∀(i j:Int) (t u:Tok) (s:ay) (Q:ai->ay->Prop) (E:ai->ay->Prop),Q (.int (g i j) s.toks) { s with toks:=s.toks+1 }->bz (bD X.prog X.w) X.A (f (.int i t) (.int j u)) Q E s):
  mz X f (Kc λi j =>.int (g i j)):=by
 intro B s U H x y v u Q I e c h;obtain⟨i,j,rfl,rfl,q⟩:=h;obtain⟨t,rfl⟩:=e;obtain⟨b,rfl⟩:=c;exact a i j t b s _ _ ⟨.int (g i j),H,I.tok _,⟨_,rfl⟩,q⟩
def RN{f:ai->ai->Sem ai}{g:Int->Int->Bool}(a:∀(i j:Int) (t u:Tok) (s:ay) (Q:ai->ay->Prop) (E:ai->ay->Prop),Q (.bool (g i j)) s->bz (bD X.prog X.w) X.A (f (.int i t) (.int j u)) Q E s):
  mz X f (Kc λi j =>.bl (g i j)):=by
 intro B s U H x y v u Q I e c h;obtain⟨i,j,rfl,rfl,q⟩:=h;obtain⟨t,rfl⟩:=e;obtain⟨b,rfl⟩:=c;exact a i j t b s _ _ ⟨.bl (g i j),H,I,rfl,q⟩
def YW(i j:Int):Prop:=0<=j/\j<=1000000/\i.natAbs<2 ^ 64
def Nh(i j:Int):Prop:=(-(2 ^ 64)<i/\i<2 ^ 64)\/(-(2 ^ 64)<j/\j<2 ^ 64)
def Nh.ok{i:Int}(h:Nh i j):IntMulOk i j:=by
 rcases h with⟨J,z⟩|⟨J,z⟩
 ·exact .of_left (intBits_le_64 J z)
 ·exact .of_right (intBits_le_64 J z)
def RM:mz X (dB .Add) (Kc λi j =>.int (i+j)):=OC λ_ _ _ _ _ _ _ q=>add_int q
def RE:mz X (dB .Sub) (Kc λi j =>.int (i-j)):=OC λ_ _ _ _ _ _ _ q=>sub_int q
def RH:mz X (dB .Mult) (rI Nh λi j =>.int (i*j)):=WK λ_ _ _ _ _ _ _ a q=>mul_int q a.ok
def RI:mz X (dB .Mod) (rI (λ_ j=>0<j) λi j =>.int (i%j)):=WK λi j _ _ _ _ _ a q=>by
 have J:(0:Int)<j:=a;exact mod_int' ž (by rw[Int.fmod_eq_emod_of_nonneg i (by omega)];exact q)
def RF:mz X (dB .LShift) (rI YW λi j =>.int (i*2 ^ j.toNat)):=WK λ_ _ _ _ _ _ _ a q=>lshift_int_small a.1 a.2.1 a.2.2 q
def RL:mz X (dB .BitAnd) (Kc λi j =>.int (CM i j)):=OC λ_ _ _ _ _ _ _ q=>and_int q
def Vf:mz X (dB .BitOr) (Kc λi j =>.int (dE i j)):=OC λ_ _ _ _ _ _ _ q=>or_int q
def unI{f:ai->Sem ai}{g:Int->Int}(a:∀(i:Int) (t:Tok) (s:ay) (Q:ai->ay->Prop) (E:ai->ay->Prop),Q (.int (g i) s.toks) { s with toks:=s.toks+1 }->bz (bD X.prog X.w) X.A (f (.int i t)) Q E s):
  YH X f (rU λi =>.int (g i)):=by
 intro B s U H x v Q I b h;obtain⟨i,rfl,q⟩:=h;obtain⟨t,rfl⟩:=b;exact a i t s _ _ ⟨.int (g i),H,I.tok _,⟨_,rfl⟩,q⟩
def E_:YH X (unaryOp .USub) (rU λi =>.int (-i)):=unI λ_ _ _ _ _ q=>neg_int q
end
noncomputable def Xx:V->V->Bool
 |.dJ,.dJ=>Z'|.dJ,.int _=>Z'|.int _,.dJ=>Z'|.dJ,.bl _=>Z'|.bl _,.dJ=>Z'|.dJ,.str _=>Z'|.str _,.dJ=>Z'|.int _,.int _=>Z'|.bl _,.bl _=>Z'|.str _,.str _=>Z'|.Gs _,.Gs _=>Z'|.int _,.str _=>Z'|.str _,.int _=>Z'|.bl _,.str _=>Z'|.str _,.bl _=>Z'|_,_=>Z_
def rEq:R2:=λx y H Q=>Xx x y=Z'/\Q (.bl (decide (x=y))) H
def Pm:decide (V.int i=V.int j)=(i==j):=by
 rw[jE];simp
def S5:decide (V.bl i=V.bl j)=(i==j):=by
 rw[jE];simp
def Pl:decide (V.str i=V.str j)=(i==j):=by
 rw[jE];simp
def Pn:decide (V.Gs i=V.Gs j)=(i.toList==j.toList):=by
 rw[jE];cases i;cases j;simp
section
variable {X:Cx}
def i_{s:ay}{a:Bool}(I:Inv X B U H s)(q:Q (.bl k) H)(e:k=a):EP X B U Q (.bool a) s:=by
 subst e;exact⟨.bl k,H,I,rfl,q⟩
def Qq:mz X (d_ .Eq) rEq:=by
 intro B s U H x y v u Q I e a h;obtain⟨c,q⟩:=h;cases x with
 |dJ=>
  cases e;cases y with
  |dJ=>cases a;exact PySem.EqNone.eq_none_none (i_ I q Ž)
  |bl j=>cases a;exact PySem.EqNone.eq_none_bool (i_ I q Ž)
  |int j=>obtain⟨b,rfl⟩:=a;exact PySem.EqNone.eq_none_int (i_ I q Ž)
  |str j=>obtain⟨b,rfl⟩:=a;exact PySem.EqNone.eq_none_str (i_ I q Ž)
  |_=>exact absurd (show Z_=Z' from c) bS
 |bl i=>
  cases e;cases y with
  |dJ=>cases a;exact PySem.EqNone.eq_bool_none (i_ I q Ž)
  |bl j=>cases a;exact eq_bool (i_ I q S5)|str j=>obtain⟨b,rfl⟩:=a;exact PySem.EqMixed.eq_bool_str (i_ I q Ž)
  |_=>exact absurd (show Z_=Z' from c) bS
 |int i=>
  obtain⟨t,rfl⟩:=e;cases y with
  |dJ=>cases a;exact PySem.EqNone.eq_int_none (i_ I q Ž)
  |int j=>obtain⟨b,rfl⟩:=a;exact eq_int (i_ I q Pm)
  |str j=>obtain⟨b,rfl⟩:=a;exact PySem.EqMixed.eq_int_str (i_ I q Ž)
  |_=>exact absurd (show Z_=Z' from c) bS
 |str i=>
  obtain⟨t,rfl⟩:=e;cases y with
  |dJ=>cases a;exact PySem.EqNone.eq_str_none (i_ I q Ž)
  |bl j=>cases a;exact PySem.EqMixed.eq_str_bool (i_ I q Ž)
  |int j=>obtain⟨b,rfl⟩:=a;exact PySem.EqMixed.eq_str_int (i_ I q Ž)
  |str j=>obtain⟨b,rfl⟩:=a;exact eq_str (i_ I q Pl)
  |_=>exact absurd (show Z_=Z' from c) bS
 |Gs i=>
  obtain⟨t,rfl⟩:=e;cases y with
  |Gs j=>obtain⟨b,rfl⟩:=a;exact PySem.W.eq_bytes (i_ I q Pn)
  |_=>exact absurd (show Z_=Z' from c) bS
 |_=>cases y<;>exact absurd (show Z_=Z' from c) bS
def Vg:mz X (d_ .Lt) (Kc λi j =>.bl (decide (i<j))):=RN λ_ _ _ _ _ _ _ q=>lt_int q
def K7:mz X (d_ .Gt) (Kc λi j =>.bl (decide (j<i))):=RN λ_ _ _ _ _ _ _ q=>gt_int q
def Vh:mz X (d_ .GtE) (Kc λi j =>.bl (decide (j<=i))):=RN λ_ _ _ _ _ _ _ q=>ge_int q
def RJ:mz X (d_ .Is) (λx y H Q=>y=.dJ/\Q (.bl (decide (x=.dJ))) H):=by
 intro B s U H x y v u Q I a b h;obtain⟨rfl,q⟩:=h;cases b;refine is_none_gen (i_ I q ?_);cases x<;>first
  |(cases a;rfl)
  |(obtain⟨t,rfl⟩:=a;rfl)
def OA:mz X (d_ .IsNot) (λx y H Q=>y=.dJ/\Q (.bl (!decide (x=.dJ))) H):=by
 intro B s U H x y v u Q I a b h;obtain⟨rfl,q⟩:=h;cases b;refine isnot_none_gen (i_ I q ?_);cases x<;>first
  |(cases a;rfl)
  |(obtain⟨t,rfl⟩:=a;rfl)
def mz.or{f:ai->ai->Sem ai}{r c:R2}(h:mz X f r)(h':mz X f c):mz X f (λx y H Q=>r x y H Q\/c x y H Q):=by
 intro B s U H x y v u Q I b a q;rcases q with q|q
 ·exact h B s U H x y v u Q I b a q
 ·exact h' B s U H x y v u Q I b a q
def bX(b:Expr)(h:autoParam (op ≠ .In) ű)(z:autoParam (op ≠ .NotIn) ű):hU op b=false:=by
 have c:(op==CmpOp.In)=false:=by cases op<;>first|rfl|exact absurd rfl h
 have a:(op==CmpOp.NotIn)=false:=by cases op<;>first|rfl|exact absurd rfl z
 cases b<;>simp[hU,c,a]
def BE(l:mz X (d_ e) r)(p:PE X a N)(o:PE X b y)(m:hU e b=Z_):PE X (.Compare a [e] [b] G) (Qf r N y):=by
 intro B s U H Q I h;exact wpAny_Compare1 (Tn p o I h λv u f x c d t k g q=>l B f U d x c v u Q t k g q) m
def UD(t:TE):TT:=λU H Q=>t U H λx H'=>∃k,x=.bl k/\Q k H'
def BA(D:mz X (d_ g) r)(K:PE X a N)(F:PE X b y)(E:hU g b=Z_):PT X (.Compare a [g] [b] G) (UD (Qf r N y)):=by
 intro B s U H Q I h;refine wpAny_isTrue_Compare1 (fE (K B s U H _ I h) λv m ⟨x,O,R,t,C⟩=>fE (F B m U O _ R C) λu l ⟨f,d,P,p,A⟩=>fE (D B l U d x f v u _ P t p A) λc T ⟨z,S,i,o,k,e,w⟩ =>?_) E
 subst e;cases o;exact gP ⟨S,i,w⟩
def V_(K:aT)(x:V)(H:Hp)(k:Bool):Prop:=
 match x with
 |.dJ=>k=Z_|.bl b=>k=b|.int i=>k=(i != 0)|.str y=>y.length<=a9/\k=((y.length:Int) != 0)|.Gs y=>y.size<=a9/\k=((y.size:Int) != 0)|.ref p=>(∃xs,lR K H p xs/\k = !xs.isEmpty)\/(∃xs,vi K H p xs/\k = !xs.isEmpty)\/∃a n,H p=Y (.dK a n)/\k = !a.isEmpty|_=>False
def F7{b:Type}{a:List (b×V)}{c:List (b×ai)}(r:KV a c):(!c.isEmpty) = !a.isEmpty:=by
 cases r<;>rfl
def yw{xs:List V}{a:List ai}(r:cj xs a):(!a.toArray.isEmpty) = !xs.isEmpty:=by
 cases r<;>simp
def s_:(a9:Nat)<2 ^ 63:=by rw[hT];decide
def Q6:YI X (λx H Q=>∃k,V_ X.K x H k/\Q k H):=by
 intro B s U H x v Q I rx h;obtain⟨k,e,q⟩:=h;have hl:=s_;have hs:a9=16777216:=hT;cases x with
 |dJ=>cases rx;have e':k=false:=e;subst e';exact truthy_none ⟨H,I,q⟩
 |bl b=>cases rx;have e':k=b:=e;subst e';exact gP ⟨H,I,q⟩
 |int i=>obtain⟨t,rfl⟩:=rx;have e':k=(i != 0):=e;subst e';exact PySem.P.truthy_int ⟨H,I,q⟩
 |str y=>obtain⟨t,rfl⟩:=rx;obtain⟨hy,e'⟩:y.length<=a9/\k=((y.length:Int) != 0):=e;subst e';exact PySem.P.truthy_str ž ⟨H,I.tok _,q⟩
 |Gs y=>obtain⟨t,rfl⟩:=rx;obtain⟨hy,e'⟩:y.size<=a9/\k=((y.size:Int) != 0):=e;subst e';exact PySem.W.truthy_bytes ž ⟨H,I.tok _,q⟩
 |ref p=>
  cases rx;have e':(∃xs,lR X.K H p xs/\k = !xs.isEmpty)\/(∃xs,vi X.K H p xs/\k = !xs.isEmpty)\/∃kvs n,H p=Y (.dK kvs n)/\k = !kvs.isEmpty:=e;rcases e' with⟨xs,hx,e'⟩|⟨xs,hx,e'⟩|⟨kvs,n,hx,e'⟩
  ·subst e';obtain⟨B1,r,pl,hz⟩:=I.list hx;have J8:=r.length;exact wpAny_truthy_list pl.isList (by simp only[aU];omega) ⟨H,I.tok _,by rw[yw r];exact q⟩
  ·subst e';obtain⟨B1,r,pl,hz⟩:=I.tuple hx;have J8:=r.length;exact truthy_tuple pl (by simp only[aU];omega) ⟨H,I.tok _,by rw[yw r];exact q⟩
  ·subst e';obtain⟨hz,hS,vs,r,m⟩:kvs.length<=a9/\(p==jc)=Z_/\∃vs,KV kvs vs/\s.heap.DictAt (eG X.prog X.w) p vs n:=I.f' p _ hx;have J8:kvs.length=vs.length:=Paired.length r;exact wpAny_truthy_dict hS m.dictOf ž ⟨H,I.tok _,by rw[F7 r];exact q⟩
 |_=>exact(show False from e).elim
def KJ(l:PE X a N)(g:∀b,isTrue a X.env b=(do let v <- b;ou a.pos;lD [v] (truthy v))):
  PT X a (λU H Q=>N U H λx H'=>∃k,V_ X.K x H' k/\Q k H'):=by
 intro B s U H Q I h;exact isTrue_plain (fE (l B s U H _ I h) (by rintro v c ⟨x,O,m,e,f⟩;exact Q6 B c U O x v Q m e f)) (g _)
def Fy:mz X (dB .Add) (λx y H Q=>∃i j,x=.str i/\y=.str j/\i.length+j.length<=a9/\Q (.str (i++j)) H):=by
 intro B s U H x y v u Q I c b h;obtain⟨i,j,rfl,rfl,e,q⟩:=h;obtain⟨t,rfl⟩:=c;obtain⟨a,rfl⟩:=b;exact add_str (λa tk=>⟨.str (i++j),H,I.tok _,⟨_,rfl⟩,q⟩) e
def vals1{x:V}{a:List ai}(r:cj [x] a):∃u,a=[u]/\RelV x u:=by
 cases r with|cons c b=>cases b;exact⟨_,rfl,c⟩
end
structure Gy(h:dC)(x dx C:az)(mA:aG->Option ai):Prop where
 obj:h.get? x=some (ET C dx)
 ns:h.Ns1 dx mA
 ne:dx≠x
def Js{h:dC}{dx:az}{mA:aG->Option ai}(n:h.Ns1 dx mA):∃c,h.get? dx=Y c/\∀name,lookIn name c=Y (mA name):=by
 obtain⟨o,es,r,g,m,l,_,k⟩:=n;refine⟨o,g,λname =>?_⟩;have e:=k name;unfold nsFind findBy at e;rw[<- Array.find?_toList]at e;unfold lookIn;rw[m];dsimp only;split
 ·rename_i y q;rw[q]at e;exact congrArg Y e
 ·rename_i q;rw[q]at e;have a:es.toList.any (·.refKey)=false:=by rw[mo];intro y f;obtain⟨z,t,b⟩:=l y (Array.mem_toList_iff.mp f);simp[DictEntry.refKey,b]
  have p:¬es.toList.any (·.refKey)=true:=by rw[a];exact bS
  rw[if_neg p];exact congrArg Y e
def Gy.look(I:Gy h x dx C mA):∃a,PySem.W.InstAt h x (ET C dx) C (Y a)/\∀name,lookIn name a=Y (mA name):=
 let ⟨a,b,c⟩:=Js I.ns
 ⟨a,⟨I.obj,rfl,rfl,b⟩,c⟩
section
variable {s:ay}{K:aT}{f:az}{name:aG}{v:ai}
def P5(X:K.In s.heap)(I:Gy s.heap x dx C mA)(g:plainGet K C name=Z')(f:hasDictIn K C=Z')(k:ve K (.ref C) name=Y M)(c:mA name=Y v)(b:PySem.W.handedIn v=Z')(h:Q v { s with toks:=s.toks+1 }):
  bz (bD prog w) A (getAttr (.ref x) name a) Q E s:=by
 obtain⟨l,J,e⟩:=I.look;exact PySem.W.get_value X J (PySem.W.plainGet_of g).1 (PySem.W.findObj_own f k rfl (by rw[e,c])) b h
def Mi(X:K.In s.heap)(I:Gy s.heap x dx C mA)(a:plainGet K C name=Z')(l:ve K (.ref C) name=Y (Y (.ref f)))(g:PySem.W.isFn K (.ref f)=Z')(e:mA name=M)(h:Q (.ref f,[.ref x]) s):
  bz (bD prog w) A (lE (.ref x) name b) Q E s:=by
 obtain⟨c,J,k⟩:=I.look;exact PySem.W.method_fn X J (PySem.W.plainGet_of a).1 (PySem.W.plainGet_of a).2 l (beq_iff_eq.mp g) (by show (lookIn name c).map (·.isSome)=Y Z_;rw[k,e];rfl) h
def N3(X:K.In s.heap)(I:Gy s.heap x dx C mA)(r:ve K (.ref C) "__setattr__" = Y (Y (.builtin "object.__setattr__")))(t:plainOver K C=Z')(o:takerIn K C name=Y M)(u:hasDictIn K C=Z')(hw:PySem.Within mA l)(p:l.length<=a9)(h:∀h',Gy h' x dx C (λy=>if y=name then Y v else mA y)->i4 dx s.heap h'->Q () { s with heap:=h',toks:=s.toks+2 }):
  bz (bD prog w) A (setAttr (.ref x) name v) Q E s:=by
 obtain⟨d,J,R⟩:=I.look;refine PySem.W.set_plain X J r (PySem.W.osa_open (s:={ s with toks:=s.toks+1 }) (r:=M) X J t o λb =>?_);obtain⟨S,D,g⟩:=PySem.W.any_some u;have m:s.heap.get? x=Y ⟨.ref C,Y dx,.plain,#[]⟩:=I.obj;refine aE (bC (aE (aE (wpAny_loadPart m (aE (PySem.W.Looks.here (s:={ s with toks:=s.toks+1 }) (PySem.W.looks_clsIn X D) ?_))))));rw[g];refine bC (a:=Y dx) (aE (bC (aE ?_)));refine wpAny_nsSet1 (s:={ s with toks:=s.toks+1 }) I.ns λh' c a =>?_
 obtain⟨P,F,H,e,f,k⟩:=c.count (PySem.Within.cons name v hw);refine aE (wpAny_lookBehind e (by rw[f];exact pastItsLine_dict (a7 k (by rw[aK];omega))) ?_);exact bC (h _ ⟨(a.2 _ (bU I.ne)).trans I.obj,c,I.ne⟩ a)
def LC{R:Result->ay->Prop}(X:K.In s.heap)(c:makesIn K C=Z')(L:ve K (.ref C) "__init__" = Y (Y (.ref f)))(e:PySem.W.typeIn K (.ref f)=Y (.type "function")) (h:zg (bD prog w) (A.under (.builtin "type.__call__" ⟨.ref C::a,b⟩)) (.call (.ref f) ⟨.ref (s.heap.objs.size+1)::a,b⟩) (PySem.W.InitBack (s.heap.objs.size+1) R)
   { s with heap:=(s.heap.push qx).push (ET C s.heap.objs.size) }) :
  zg (bD prog w) A (.call (.ref C) ⟨a,b⟩) R s:=by
 obtain⟨l,g,d,t,k⟩:=s;exact PySem.W.make_core (PySem.W.makes_of X c) (PySem.W.looks_findIn X L) (λself=>PySem.W.bind_fn X self e) (.inl rfl) h
end
noncomputable def lp(f:aG)(v:V):List (aG×V)->List (aG×V)
 |[]=>[(f,v)]|(g,x)::r=>if g=f then (g,v)::r else (g,x)::lp f v r
theorem qO(f g:aG)(v:V):∀j:List (aG×V),(lp f v j).lookup g=if g=f then Y v else j.lookup g
 | []=>by
  show lI g [(f,v)]=_;by_cases h:g=f
  ·have a:(g==f)=true:=beq_iff_eq.mpr h;simp only[lI,a,if_pos h]
  ·have a:(g==f)=false:=beq_eq_false_iff_ne.mpr h;simp only[lI,a,if_neg h]
 | (k,x)::r=>by
  have ih:=qO f g v r;rw[show lp f v ((k,x)::r)=(if k=f then (k,v)::r else (k,x)::lp f v r) from rfl];by_cases b:k=f
  ·rw[if_pos b];by_cases h:g=k
   ·have a:(g==k)=true:=beq_iff_eq.mpr h;simp only[lI,a,if_pos (h.trans b)]
   ·have a:(g==k)=false:=beq_eq_false_iff_ne.mpr h;simp only[lI,a,if_neg (λe:g=f=>h (e.trans b.symm))]
  ·rw[if_neg b];by_cases h:g=k
   ·have a:(g==k)=true:=beq_iff_eq.mpr h;simp only[lI,a,if_neg (λe:g=f=>b (h.symm.trans e))]
   ·have a:(g==k)=false:=beq_eq_false_iff_ne.mpr h;simp only[lI,a];exact ih
theorem vU(f:aG)(v:V):∀j:List (aG×V),f∈(lp f v j).map (·.1)/\∀g,g∈j.map (·.1)->g∈(lp f v j).map (·.1)
 |[]=>⟨by simp[lp],λg h=>by simp at h⟩
 | (k,x)::r=>by
  obtain⟨c,b⟩:=vU f v r;rw[show lp f v ((k,x)::r)=(if k=f then (k,v)::r else (k,x)::lp f v r) from rfl];by_cases a:k=f
  ·rw[if_pos a];subst a;exact⟨Ž,λg h=>by simpa using h⟩
  ·rw[if_neg a];refine⟨?_,λg h =>?_⟩
   ·rw[aW];exact aj _ c
   ·rw[aW]at h ⊢;rcases au.mp h with e|e
    ·exact au.mpr (.inl e)
    ·exact aj _ (b g e)
theorem wx(f:aG)(v:V):∀j:List (aG×V),(lp f v j).length<=j.length+1
 |[]=>by simp[lp]
 | (k,x)::r=>by
  have ih:=wx f v r;rw[show lp f v ((k,x)::r)=(if k=f then (k,v)::r else (k,x)::lp f v r) from rfl];by_cases a:k=f
  ·rw[if_pos a,aK,aK];omega
  ·rw[if_neg a,aK,aK];omega
def qt.some_of{v:V}{o:Option ai}(r:qt (Y v) o):∃u,o=Y u/\RelV v u:=by
 cases o with
 |none=>exact(show False from r).elim
 |some u=>exact⟨u,rfl,r⟩
def qt.none_of(r:qt M o):o=none:=by
 cases o with
 |none=>rfl|some u=>exact(show False from r).elim
def JG{v:V}(r:RelV v u):PySem.W.handedIn u=true:=by
 cases v with
 |dJ=>cases (show u=Value.none from r);rfl
 |bl b=>cases (show u=Value.bool b from r);rfl
 |int i=>obtain⟨t,e⟩:=(show ∃t,u=sD i t from r);cases e;rfl
 |str x=>obtain⟨t,e⟩:=(show ∃t,u=Value.str x t from r);cases e;rfl
 |Gs b=>obtain⟨t,e⟩:=(show ∃t,u=Value.bytes b t from r);cases e;rfl
 |SF b=>obtain⟨t,e⟩:=(show ∃t,u=Value.float b t from r);cases e;rfl
 |ref a=>cases (show u=cG a from r);rfl
 |ty n=>cases (show u=Value.type n from r);rfl
section
variable {P:be}
def B4(b:oi P w H h)(e:H a=Y (.ins C dx j)):∃mA,Gy h a dx C mA/\(∀f,qt (j.lookup f) (mA f))/\PySem.Within mA (j.map (·.1))/\j.length<=1000/\H dx=Y (.Z a):=by
 obtain⟨d,z,g,c,mA,n,r,q⟩:=(show hZ P w H h a (.ins C dx j) from b a _ e);exact⟨mA,⟨c,n,g⟩,r,q,z,d⟩
end
structure IH(K:aT)(C:az):Prop where
 pg:plainGet K C Str.empty=true
 hd:hasDictIn K C=true
 po:plainOver K C=true
 sa:ve K (.ref C) "__setattr__" = some (some (.builtin "object.__setattr__"))
def IH.get{K:aT}(c:IH K C)(f:aG):plainGet K C f=true:=c.pg
def qa(K:aT)(C:az)(f:aG):Prop:=ve K (.ref C) f=Y M
def qa.UB{K:aT}{f:aG}(n:qa K C f):takerIn K C f=Y none:=by
 unfold takerIn;rw[show ve K (.ref C) f=Y M from n];rfl
structure Nf(K:aT)(C:az)(m:aG)(f:az):Prop where
 at_:ve K (.ref C) m=some (some (.ref f))
 fn:PySem.W.isFn K (.ref f)=true
 kp:EC K (.ref f)=true
section
variable {X:Cx}{s:ay}{f:aG}{v:V}
def yz(I:Inv X B U H s)(e:H a=Y (.ins C dx j))(c:IH X.K C)(n:qa X.K C f)(l:j.lookup f=Y v)(h:∀u s',Inv X B U H s'->RelV v u->Q u s'):bz (bD X.prog X.w) A (getAttr (.ref a) f b) Q E s:=by
 obtain⟨mA,O,r,_,_,_⟩:=B4 I.f' e;obtain⟨u,k,g⟩:=qt.some_of (v:=v) (o:=mA f) (by rw[<- l];exact r f);exact P5 I.F4 O (c.get f) c.hd n k (JG g) (h u _ (I.tok _) g)
def tj{m:aG}(I:Inv X B U H s)(e:H a=Y (.ins C dx j))(c:IH X.K C)(k:Nf X.K C m g)(l:j.lookup m=M)(h:Q (.ref g,[.ref a]) s):bz (bD X.prog X.w) A (lE (.ref a) m b) Q E s:=by
 obtain⟨mA,O,r,_,_,_⟩:=B4 I.f' e;have f:mA m=none:=qt.none_of (by rw[<- l];exact r m);exact Mi I.F4 O (c.get m) k.at_ k.fn f h
def xQ(I:Inv X B U H s)(e:H a=Y (.ins C dx j))(c:IH X.K C)(n:qa X.K C f)(K:j.length<1000)(t:RelV y u)(h:∀s',Inv X B U (de H a (.ins C dx (lp f y j))) s'->Q () s'):bz (bD X.prog X.w) A (setAttr (.ref a) f u) Q E s:=by
 obtain⟨mA,O,r,l,_,m⟩:=B4 I.f' e;have v:(j.map (·.1)).length<=a9:=by rw[bj,hT];omega
 refine N3 I.F4 O c.sa c.po n.UB c.hd l v λh' k p=>h _ ?_
 have x:∃o,h'.get? dx=Y o:=let ⟨o,_,_,F,_⟩:=k.ns;⟨o,F⟩;refine I.write (x:=a) (e:=dx) (by rw[e];exact m9) (.inr m) (λb q D z=>(p.2 b D).trans z) x ?_;refine⟨by rw[aS O.ne];exact m,?_,O.ne,k.obj,_,k.ns,λg =>?_,λg w =>?_⟩
 ·have:=wx f y j;omega
 ·show qt ((lp f y j).lookup g) (if g=f then Y u else mA g);rw[qO];by_cases q:g=f
  ·rw[if_pos q,if_pos q];exact t
  ·rw[if_neg q,if_neg q];exact r g
 ·by_cases q:g=f
  ·rw[q];exact(vU f y j).1
  ·refine(vU f y j).2 g (l g λz=>w ?_);show (if g=f then Y u else mA g)=M;rw[if_neg q];exact z
def Inv.made(I:Inv X B U H s):Inv X B U (de (de H s.heap.objs.size (.Z (s.heap.objs.size+1))) (s.heap.objs.size+1) (.ins C s.heap.objs.size []))
  { s with heap:=(s.heap.push qx).push (ET C s.heap.objs.size) }:=by
 have c:(s.heap.push qx).get? s.heap.objs.size=Y qx:=ba s.heap rfl;have k:((s.heap.push qx).push (ET C s.heap.objs.size)).get? (s.heap.objs.size+1)=Y (ET C s.heap.objs.size):=by have:=ba (s.heap.push qx) (o:=ET C s.heap.objs.size) rfl;rwa [dX]at this
 have h:(s.heap.push qx).Ns s.heap.objs.size (λ_=>M):=⟨qx,#[],_,c,rfl,(λe g=>absurd g Ž),λ_=>rfl⟩;have l:=I.laid (a:=s.heap.objs.size) (o :=.Z (s.heap.objs.size+1)) (h':=s.heap.push qx) (t':=s.toks) (λb u q=>af _ q) (aw _) ⟨_,c⟩;refine l.laid (a:=s.heap.objs.size+1) (o :=.ins C s.heap.objs.size []) (t':=s.toks) (λb u q=>af _ q) (Nat.le_of_eq (dX _ _)) ?_;have a:s.heap.objs.size≠s.heap.objs.size+1:=bE (t5 _);refine⟨by rw[aS a,bh],fD _,a,k,λ_=>M,(Heap.Ns1.of_empty h).at λo q=>af _ q,λ_=>m9,λy f=>absurd rfl f⟩
def PN{prog:be}{w:dz}{a:Env}{e:Expr}{f:aG}{G:Pos}{s:ay}{Q:ai->ay->Prop}(c:b_ e f a (eval e a)=eval e a)(h:bz (bD prog w) A (eval e a) (λo b=>bz (bD prog w) A (getAttr o f Z') Q E b) E s):bz (bD prog w) A (eval (.Attribute e f G) a) Q E s:=
 Attribute_any_ h (by rw[arm_eval_Attribute,c])
end
def UK(K:aT)(N:TE)(f:aG):TE:=λU H Q=>N U H λx O=>∃a C dx j v,x=.ref a/\O a=Y (.ins C dx j)/\IH K C/\qa K C f/\j.lookup f=Y v/\Q v O
def Xy(K:aT)(N tv:TE)(f:aG):TS:=λD U H=>tv U H λy O=>N U O λx d=>∃a C dx j,x=.ref a/\d a=Y (.ins C dx j)/\IH K C/\qa K C f/\j.length<1000 /\
 D.nx U (de d a (.ins C dx (lp f y j)))
def Ng(X:Cx)(b:Operator)(a:V->V->Hp->VK->Prop):Prop:=
 ∀(B:List (az×Obj)) (s:ay) (U:St) (H:Hp) (x y:V) (u v:ai) (Q:VK),Inv X B U H s->RelV x u->RelV y v->a x y H Q->bz (bD X.prog X.w) X.A (inplaceOp b u v) (EP X B U Q) X.xe s
def N8(K:aT)(N tv:TE)(e:V->V->Hp->VK->Prop)(f:aG):TS:=λD U H=>N U H λx O=>∃a C dx j v,x=.ref a/\O a=Y (.ins C dx j)/\IH K C/\qa K C f/\j.lookup f=Y v /\
 tv U O λy d=>e v y d λz c=>∃b WZ,c a=Y (.ins C b WZ)/\WZ.length<1000/\D.nx U (de c a (.ins C b (lp f z WZ)))
section
variable {X:Cx}{f:aG}
def qJ(k:PE X e N)(m:b_ e f X.env (eval e X.env)=eval e X.env):PE X (.Attribute e f G) (UK X.K N f):=by
 intro B s U H Q I h;refine PN m (fE (k B s U H _ I h) ?_);rintro u A ⟨x,O,r,b,a,C,dx,j,v,ex,o,c,n,l,q⟩;subst ex;obtain rfl:u=cG a:=b;exact yz r o c n l λt w p g=>⟨v,O,p,g,q⟩
def Fs(t:PE X o N)(p:PE X value tv)(r:dS value (Y (.Attribute o f P1)) G.line X.env=fi Z_):PS X (.Assign [.Attribute o f P1] value G) (Xy X.K N tv f):=by
 intro B s U H D I h;refine plainObj_wpAny_Assign_Attribute (fE (p B s U H _ I h) ?_) r;rintro u b ⟨y,O,E,e,q⟩;refine fE (t B b U O _ E q) ?_;rintro m K ⟨x,d,A,g,a,C,dx,j,ex,v,c,n,l,k⟩;subst ex;obtain rfl:m=cG a:=g;exact xQ A v c n l e λF w=>⟨U,_,w,k⟩
def Jd(R:PE X o N)(Q:PE X value tv)(b:Ng X k g):PS X (.AugAssign (.Attribute o f Uy) k value G) (N8 X.K N tv g f):=by
 intro B s U H D I h;refine wpAny_AugAssign_AttributeAny (fE (R B s U H _ I h) ?_);rintro i s1 ⟨x,O,I1,A,a,C,dx,j,v,ex,S,c,n,l,q⟩;subst ex;obtain rfl:i=cG a:=A;refine yz I1 S c n l λu r I2 E=>fE (Q B r U O _ I2 q) ?_
 rintro m p ⟨y,d,I3,w,K⟩;refine fE (b B p U d v y u m _ I3 E w K) ?_;rintro w4 s4 ⟨z,H3,I4,t,T,WZ,e,P,F⟩;exact xQ I4 e c n P t λs5 I5=>⟨U,_,I5,F⟩
def XJ:V->V->Hp->VK->Prop:=λx y H Q=>∃i j,x=.int i/\y=.int j/\Q (.int (i+j)) H
def Mb:Ng X .Add XJ:=by
 rintro B s U H x y u v Q I c b ⟨i,j,rfl,rfl,q⟩;obtain⟨t,rfl⟩:=(show ∃t,u=sD i t from c);obtain⟨a,rfl⟩:=(show ∃a,v=sD j a from b);exact PyProof.Rows.iadd_int ⟨.int (i+j),H,I.tok _,⟨_,rfl⟩,q⟩
def Qx{o:Sem Bool}{m:aG}{tT:Pos}{args:List Expr}{B:List (az×Obj)}{s:ay}{U:St}{H:Hp}{Q:ai->ay->Prop}{te:TE}(w:PE X e te)(I:Inv X B U H s) (h:te U H λx O=>∃a C dx j g,x=.ref a/\O a=Y (.ins C dx j)/\IH X.K C/\Nf X.K C m g/\j.lookup m=M /\
   ∀b,Inv X B U O b->bz (bD X.prog X.w) X.A (qy G (.ref g) [.ref a] (c6 G (aq args X.env)) (gV G (dF [] X.env))) Q X.xe b) (v:eval (.Call (.Attribute e m tT) args [] G) X.env=(do
   let p <- eval e X.env
   ou tT.atName
   let (f,first) <- lD [p] (lE p m o)
   qy G f first (c6 G (aq args X.env)) (gV G (dF [] X.env)))) :
  bz (bD X.prog X.w) X.A (eval (.Call (.Attribute e m tT) args [] G) X.env) Q X.xe s:=by
 refine PySem.W.methodCall_KW (pl:=o) (fE (w B s U H _ I h) ?_) v;rintro u b ⟨x,O,r,t,a,C,dx,j,g,ex,A,c,k,l,q⟩;subst ex;obtain rfl:u=cG a:=t;exact tj r A c k l (q b r)
end
section
variable {X:Cx}{s:ay}
end
structure fN(k:Nat)(A:jd):Prop where
 hd:A.handled=none
 dp:A.depth+3*k+5<recursionLimit
 un:A.units+16*k+200<mZ
def fN.mono(r:fN k A)(h:j<=k):fN j A:=⟨r.hd,by have:=r.dp;omega,by have:=r.un;omega⟩
def fN.deeper(r:fN (k+1) A)(a:Env):fN k (A.deeper a):=
 ⟨r.hd,by have:=r.dp;show A.depth+1+3*k+5<_;omega,by have:=r.un;show A.units+3+16*k+200<_;omega⟩
def fN.in1(r:fN (k+1) A):fN k A.in1:=
 ⟨r.hd,by have:=r.dp;show A.depth+3*k+5<_;omega,by have:=r.un;show A.units+1+16*k+200<_;omega⟩
def FV{A:jd}{C:az}{a:List ai}{b:List (aG×ai)}:(A.under (.builtin "type.__call__" ⟨.ref C::a,b⟩)).depth=A.depth+1:=by
 first|rfl|simp[Around.under,Code.weight,Code.isCreation,Code.isGuard,Code.isCaller,Code.frames,Code.isFrame,guardIds]
def FU{A:jd}{C:az}{a:List ai}{b:List (aG×ai)}:(A.under (.builtin "type.__call__" ⟨.ref C::a,b⟩)).units=A.units+1:=by
 first|rfl|simp[Around.under,Code.cUnits,Code.frames,Code.isFrame]
def fN.make(r:fN (k+1) A)(C:az)(a:List ai)(b:List (aG×ai)):fN k (A.under (.builtin "type.__call__" ⟨.ref C::a,b⟩)):=
 ⟨r.hd,by have:=r.dp;rw[FV];omega,by have:=r.un;rw[FU];omega⟩
def fN.depth(r:fN k A):A.depth<recursionLimit:=by have:=r.dp;omega
def fN.units{A:jd}(r:fN k A):A.units+64<mZ:=by have:=r.un;omega
def Kt:TA:=λ_ H Q=>Q [] H
def Ae(N:TE)(a:TA):TA:=λU H Q=>N U H λx O=>a U O λxs d=>Q (x::xs) d
section
variable {X:Cx}
def fK:PA X [] Kt:=λ_ _ _ _ H Q I h=>Calls.spliced_nil ⟨[],H,I,.nil,h⟩
def cM(m:PE X e te)(l:PA X es t)(k:autoParam (aq (e::es) X.env=(Z_,eval e X.env)::aq es X.env) ų):PA X (e::es) (Ae te t):=by
 intro G B s U H Q I h;rw[k];show bz _ _ (spliced ((Z_,eval e X.env)::c6 G (aq es X.env))) _ _ s;refine GJ (fE (m B s U H _ I h) ?_);rintro u a ⟨x,O,p,c,g⟩;exact fE (l G B a U O _ p g) <|by rintro r v ⟨xs,d,o,b,f⟩;exact⟨x::xs,d,o,.cons c b,f⟩
def Xn(t:TA):TE:=λU H Q=>t U H λxs O=>xs.length<=a9/\∀p,O p=M->Q (.ref p) (de O p (.tup xs))
def Xr(t:TA):TE:=λU H Q=>t U H λxs O=>xs.length<=a9/\∀p,O p=M->Q (.ref p) (de O p (.lst xs))
def Fu{f}(h:PA X es t):PE X (.Tuple es f G) (Xn t):=by
 intro B s U H Q I k;refine wpAny_Tuple_spliced (fE (h G B s U H _ I k) ?_);rintro g a ⟨xs,O,c,r,z,q⟩;refine⟨by rw[<- r.length];exact z,?_⟩;have l:O a.heap.objs.size=none:=c.f'.fresh (aw _);refine⟨.ref a.heap.objs.size,de O a.heap.objs.size (.tup xs),c.laid (t':=a.toks) (λb u e=>af _ e) (aw _) ?_,rfl,q _ l⟩;exact⟨z,g,r,⟨_,ba _ rfl,⟨rfl,rfl⟩,_,rfl⟩⟩
def BD(h:PA X es t):PE X (.List es G) (Xr t):=by
 intro B s U H Q I g;refine wpAny_List_spliced (fE (h G B s U H _ I g) ?_);rintro f a ⟨xs,O,c,r,z,q⟩;refine⟨by rw[<- r.length];exact z,?_⟩;have k:O a.heap.objs.size=none:=c.f'.fresh (aw _);refine⟨.ref a.heap.objs.size,de O a.heap.objs.size (.lst xs),c.laid (t':=a.toks) (λb u e=>af _ e) (aw _) ?_,rfl,q _ k⟩;exact⟨z,f,0,r,ba _ rfl⟩
end
abbrev Sp:=List V->Hp->VK->XK->Prop
abbrev Tz:=List Env->Hp->ay->XK->ai->ay->Prop
structure zV(P:be)(w:dz)(K:aT)(mg:aG->Option ai)(base:dC)(A:jd)(outer:List Env)(s:ay)(H:Hp):Prop where
 frames:A.frames=some outer
 mod:Mod K mg base
 bs:∀b o,base.get? b=some o->s.heap.get? b=some o/\H b=none
 MV:base.objs.size<=s.heap.objs.size
 vY:s.heap.FunFrames base outer
 QL:∀b∈Ce outer,H b=none
 f':oi P w H s.heap
 bare:EX s.gens
def CE(a:List Env)(P:be)(w:dz)(H:Hp)(s:ay)(Q:VK)(u:ai)(s':ay):Prop:=
 ∃v H',s'.os=s.os/\EX s'.gens/\Un (Ce a) [] H H' s.heap s'.heap/\oi P w H' s'.heap/\RelV v u/\Q v H'
def CR(CX:Tz)(a:List Env)(P:be)(w:dz)(H:Hp)(s:ay)(Q:VK)(E:XK)(r:Result)(s':ay):Prop:=
 match r with
 |.ok (.ret u)=>CE a P w H s Q u s'|.ok _=>False|.error e=>CX a H s E e s'
structure dg(P:be)(w:dz)(K:aT)(mg:aG->Option ai)(base:dC)(CX:Tz)(k:Nat)(f:az)(fd:fy)(ps:List aG)(sp:Sp):Prop where
 len:∀vs H Q E,sp vs H Q E->vs.length=ps.length
 run:∀(A:jd) (outer:List Env) (s:ay) (H:Hp) (args:Args) (us:List ai) (vs:List V) (Q:VK) (E:XK),fN k A->zV P w K mg base A outer s H->Kb s fd args (ps.zip us)->cj vs us->sp vs H Q E ->
  zg (bD P w) A (.call (.ref f) args) (CR CX outer P w H s Q E) s
def dg.mono{P:be}{K:aT}{i:aG->Option ai}{f:az}(F:dg P w K i base CX j f I q sp)(h:j<=k):
  dg P w K i base CX k f I q sp:=⟨F.len,λA a s H args c b Q E e=>F.run A a s H args c b Q E (e.mono h)⟩
def dg.imp{P:be}{K:aT}{i:aG->Option ai}{f:az}(F:dg P w K i base CX k f I q sp)(h:∀vs H Q E,c vs H Q E->sp vs H Q E):dg P w K i base CX k f I q c:=
 ⟨λvs H Q E a=>F.len vs H Q E (h _ _ _ _ a),λA b s H args e vs Q E m o p g l=>F.run A b s H args e vs Q E m o p g (h _ _ _ _ l)⟩
def zV.make{P:be}{K:aT}{s:ay}(e:zV P w K i base A a s H)(C:az)(b:List ai)(c:List (aG×ai)):
  zV P w K i base (A.under (.builtin "type.__call__" ⟨.ref C::b,c⟩)) a s H:=⟨by first|exact e.frames|(simpa [Around.under,Code.envs,Code.isFrame,pushEnvs] using e.frames),e.mod,e.bs,e.MV,e.vY,e.QL,e.f',e.bare⟩
def zV.in1{P:be}{K:aT}{i:aG->Option ai}{a:List Env}{s:ay}(e:zV P w K i base A a s H):
  zV P w K i base A.in1 a s H:=⟨e.frames,e.mod,e.bs,e.MV,e.vY,e.QL,e.f',e.bare⟩
section
variable {X:Cx}{s:ay}
def Inv.VX(I:Inv X B U H s):zV X.prog X.w X.K X.mg X.base X.A X.stack s H:=
 ⟨I.ok.frames,I.ok.mod,I.bs,a7 I.ok.MV I.sz,I.stack,I.GU,I.f',I.bare⟩
def Inv.after(I:Inv X B U H s)(h:CE X.stack X.prog X.w H s Q u s'):EP X B U Q u s':=by
 obtain⟨v,H',k,a,f,e,r,q⟩:=h;obtain⟨l,g,d,t,c⟩:=s';obtain rfl:c=s.os:=k;exact⟨v,H',I.call (h':=l) (g':=g) (d':=d) (t':=t) (ch:=[]) f e a (λb z=>absurd z Ž),r,q⟩
end
def Qi(sp:Sp)(A4:List V)(E:XK)(t:TA):TE:=λU H Q=>t U H λa O=>sp (a++A4) O Q E
def C3(C:az)(m:aG)(sp:Sp)(A4:List V)(E:XK)(N:TE)(t:TA):TE:=λU H Q=>N U H λx O=>∃a dx j,x=.ref a/\O a=Y (.ins C dx j)/\j.lookup m=M /\
 t U O λb d=>sp (x::(b++A4)) d Q E
def UI(C:az)(sp:Sp)(A4:List V)(E:XK)(t:TA):TE:=λU H Q=>t U H λa O=>∀x dx,O x=M->O dx=M->dx≠x ->
 sp (.ref x::(a++A4)) (de (de O dx (.Z x)) x (.ins C dx [])) (λv d=>v=.dJ/\Q (.ref x) d) E
def Binds(K:aT)(I:fy)(q:List aG)(ds:List ai):Prop:=
 ∀(s:ay) (a:List ai),K.In s.heap->(a++ds).length=q.length->Kb s I ⟨a,[]⟩ (q.zip (a++ds))
def Binds.all{K:aT}(h:∀a:List ai,a.length=q.length->bindArgs I ⟨a,[]⟩=fi (q.zip a)):Binds K I q []:=λs a _ b=>by
 rw[bx]at b ⊢;exact .of_eq (h a b)
def tN(CX:Tz)(X:Cx)(E:XK):Prop:=∀(B:List (az×Obj)) (U:St) (H:Hp) (s:ay) (e:ai) (s':ay),Inv X B U H s->CX X.stack H s E e s'->X.xe e s'
section
variable {X:Cx}{f:az}{m:aG}
def Fp{s:ay}{us:List ai}{vs:List V}(F:dg X.prog X.w X.K X.mg X.base CX k f I q sp)(l:fN k X.A)(p:Binds X.K I q ds)(o:cj A4 ds)(g:tN CX X E)(a:Inv X B U H s)(r:cj vs us)(h:sp (vs++A4) H Q E):bz (bD X.prog X.w) X.A (call (.ref f) us) (EP X B U Q) X.xe s:=by
 have c:cj (vs++A4) (us++ds):=r.append o;have m:(us++ds).length=q.length:=by rw[<- c.length];exact F.len _ _ _ _ h
 refine wpAny_call (J_ (F.run X.A X.stack s H ⟨us,[]⟩ (us++ds) (vs++A4) Q E l a.VX (p s us a.F4 m) c h) λr s' b =>?_);cases r with
 |error e=>exact g B U H s e s' a b|ok t=>
  cases t with|ret u=>exact a.after b|_=>exact qB b
def pA(F:dg X.prog X.w X.K X.mg X.base CX k f I q sp)(o:fN k X.A)(w:Gl X x)(u:X.mg x=Y (.ref f))(v:EC X.K (.ref f)=Z')(D:Binds X.K I q ds)(C:cj A4 ds)(m:tN CX X E)(K:PA X (e::es) t)(g:autoParam ((x==("__debug__" : aG))=false) ű)(A:autoParam (aq (e::es) X.env=(Z_,eval e X.env)::aq es X.env) ų)(c:autoParam ((c6 G (aq es X.env)).any (·.1)=false) ų):
  PE X (.Call (.Name x p) (e::es) [] G) (Qi sp A4 E t):=by
 intro B s U H Q a h;refine tV (B0 a w u ?_ g);refine PySem.W.callWith_K (h₀:=X.base) a.ok.mod.QF v (fE (K G B s U H _ a h) ?_) A c;rintro P R ⟨d,O,l,r,b⟩;refine⟨l.F4,?_⟩;exact Fp F o D C m l r b
def BC{pl:Sem Bool}(he:PE X o N)(c:IH X.K C)(A:Nf X.K C m f)(F:dg X.prog X.w X.K X.mg X.base CX k f I q sp)(hr:fN k X.A)(hb:Binds X.K I q ds)(hd:cj A4 ds)(hx:tN CX X E)(ha:PA X (e::es) t)(p:autoParam (aq (e::es) X.env=(Z_,eval e X.env)::aq es X.env) ų)(v:autoParam ((c6 G (aq es X.env)).any (·.1)=false) ų) (ht:autoParam (eval (.Call (.Attribute o m tT) (e::es) [] G) X.env=(do
   let w <- eval o X.env
   ou tT.atName
   let (f,first) <- lD [w] (lE w m pl)
   qy G f first (c6 G (aq (e::es) X.env)) (gV G (dF [] X.env)))) ų) :
  PE X (.Call (.Attribute o m tT) (e::es) [] G) (C3 C m sp A4 E N t):=by
 intro B s U H Q g h;refine PySem.W.methodCall_KW (pl:=pl) (fE (he B s U H _ g h) ?_) ht;rintro u R ⟨x,O,K,S,a,dx,j,ex,ea,l,b⟩;subst ex;obtain rfl:u=cG a:=S;refine tj K ea c A l ?_;refine PySem.W.callWith_K (first:=[.ref a]) (h₀:=X.base) g.ok.mod.QF A.kp (fE (ha G B R U O _ K b) ?_) p v;rintro P s2 ⟨i,d,D,r,T⟩;refine⟨D.F4,?_⟩;exact Fp (us :=.ref a::P) (vs :=.ref a::i) F hr hb hd hx D (.cons rfl r) T
def xZ{pl:Sem Bool}(D:PE X o N)(c:IH X.K C)(r:Nf X.K C m f)(F:dg X.prog X.w X.K X.mg X.base CX k f I q sp)(A:fN k X.A)(d:Binds X.K I q ds)(K:cj A4 ds)(v:tN CX X E) (w:autoParam (eval (.Call (.Attribute o m tT) [] [] G) X.env=(do
   let p <- eval o X.env
   ou tT.atName
   let (f,first) <- lD [p] (lE p m pl)
   qy G f first (c6 G (aq [] X.env)) (gV G (dF [] X.env)))) ų) :
  PE X (.Call (.Attribute o m tT) [] [] G) (C3 C m sp A4 E N Kt):=by
 intro B s U H Q e h;refine PySem.W.methodCall_KW (pl:=pl) (fE (D B s U H _ e h) ?_) w;rintro u R ⟨x,O,g,t,a,dx,j,ex,P,l,b⟩;subst ex;obtain rfl:u=cG a:=t;refine tj g P c r l ?_;exact PySem.W.callWith_K0 (first:=[.ref a]) g.F4 r.kp (Fp (us:=[.ref a]) (vs:=[.ref a]) F A d K v g (.cons rfl .nil) b)
structure Mk(K:aT)(C f:az):Prop where
 makes:makesIn K C=true
 init:ve K (.ref C) "__init__" = some (some (.ref f))
 fn:PySem.W.isFn K (.ref f)=true
 kp:EC K (.ref C)=true
theorem KD{s:ay}{us:List ai}(i:Mk X.K C f)(F:dg X.prog X.w X.K X.mg X.base CX k f I q sp)(w:fN (k+1) X.A)(K:Binds X.K I q ds)(D:cj A4 ds)(t:tN CX X E)(a:Inv X B U H s)(r:cj g us)(h:∀x dx,H x=M->H dx=M->dx≠x->sp (.ref x::(g++A4)) (de (de H dx (.Z x)) x (.ins C dx [])) (λv d=>v=.dJ/\Q (.ref x) d) E):
  bz (bD X.prog X.w) X.A (call (.ref C) us) (EP X B U Q) X.xe s:=by
 have m:=h (s.heap.objs.size+1) s.heap.objs.size (a.f'.fresh (EU _)) (a.f'.fresh (aw _)) (bE (t5 _));have c:=Inv.made (C:=C) a;have l:cj (V.ref (s.heap.objs.size+1)::(g++A4)) (cG (s.heap.objs.size+1)::(us++ds)) :=.cons rfl (r.append D);have A:(cG (s.heap.objs.size+1)::us++ds).length=q.length:=by have e:=l.length;rw[F.len _ _ _ _ m]at e;exact e.symm
 refine wpAny_call (LC (f:=f) a.F4 i.makes i.init (beq_iff_eq.mp i.fn) (J_ (F.run _ X.stack _ _ ⟨cG (s.heap.objs.size+1)::us,[]⟩ (cG (s.heap.objs.size+1)::(us++ds)) _ _ E (w.make C us [])
  (c.VX.make C us []) (K _ (cG (s.heap.objs.size+1)::us) c.F4 A) l m) λr s' b =>?_))
 cases r with
 |error e=>exact t B U _ _ e s' c b|ok P=>
  cases P with
  |ret u=>obtain⟨v,H',S,o,R,p⟩:=c.after b;subst R;exact⟨o,⟨V.ref (s.heap.objs.size+1),H',S,rfl,p⟩⟩
  |_=>exact qB b
def Ou(d:Mk X.K C f)(F:dg X.prog X.w X.K X.mg X.base CX k f I q sp)(o:fN (k+1) X.A)(v:Gl X x)(u:X.mg x=Y (.ref C))(D:Binds X.K I q ds)(A:cj A4 ds)(m:tN CX X E)(K:PA X (e::es) t)(g:autoParam ((x==("__debug__" : aG))=false) ű)(w:autoParam (aq (e::es) X.env=(Z_,eval e X.env)::aq es X.env) ų)(c:autoParam ((c6 G (aq es X.env)).any (·.1)=false) ų):
  PE X (.Call (.Name x p) (e::es) [] G) (UI C sp A4 E t):=by
 intro B s U H Q a h;refine tV (B0 a v u ?_ g);refine PySem.W.callWith_K (h₀:=X.base) a.ok.mod.QF d.kp (fE (K G B s U H _ a h) ?_) w c;rintro R S ⟨P,O,l,r,b⟩;refine⟨l.F4,?_⟩;exact KD d F o D A m l r b
end
section
variable {X:Cx}{f:az}{m:aG}
end
structure bM(N P:List aG)(sc:Scope):Prop where
 kind:sc.kind=.function
 co:sc.isCoroutine=false
 gen:sc.isGenerator=false
 nd:N.Nodup
 pre:N.take P.length=P
 par:∀x∈P,sc.names.lookup x=some .local\/sc.names.lookup x=some .cell
 RS:∀y∈sc.names,y.2 ≠ .free
theorem Bf:∀ {a:List (aG×ai)}{m:aG->Option ai},(∀v,(x,v)∉a)->bindL b a m x=m x
 |[],_,_=>rfl| (n,v)::r,m,h=>by
  unfold bindL;rw[Bf λw hw=>h w (aj _ hw)];split
  ·have:x≠n:=by rintro rfl;exact h v aF
   simp[this]
  ·rfl
theorem Bh:∀ {a:List (aG×ai)}{m:aG->Option ai},(∀v,(x,v)∉a)->bindC b a m x=m x
 |[],_,_=>rfl| (n,v)::r,m,h=>by
  unfold bindC;rw[Bh λw hw=>h w (aj _ hw)];split
  ·rfl
  ·have:x≠n:=by rintro rfl;exact h v aF
   simp[this]
theorem Bg{v:ai}:∀ {P:List aG}{b:List ai}{i:Nat}{m:aG->Option ai},P.Nodup->P[i]?=Y x->b[i]?=Y v->a x=Y .local ->
  bindL a (P.zip b) m x=Y v
 |[],_,_,_,_,h,_,_=>by simp at h
 |_::_,[],_,_,_,_,h,_=>by simp at h
 |p::P,w::b,0,m,c,J,z,e=>by simp at J z;subst J;subst z;show bindL a ((p,w)::P.zip b) m p=_;unfold bindL;rw[Bf λv f=>(cA.mp c).1 (GG f).1,if_pos e];simp
 |p::P,w::b,i+1,m,c,J,z,e=>by show bindL a ((p,w)::P.zip b) m x=_;unfold bindL;exact Bg (i:=i) (cA.mp c).2 (by simpa using J) (by simpa using z) e
theorem Bi{v:ai}:∀ {P:List aG}{b:List ai}{i:Nat}{m:aG->Option ai},P.Nodup->P[i]?=Y x->b[i]?=Y v->a x≠Y .local ->
  bindC a (P.zip b) m x=Y v
 |[],_,_,_,_,h,_,_=>by simp at h
 |_::_,[],_,_,_,_,h,_=>by simp at h
 |p::P,w::b,0,m,c,J,z,e=>by simp at J z;subst J;subst z;show bindC a ((p,w)::P.zip b) m p=_;unfold bindC;rw[Bh λv f=>(cA.mp c).1 (GG f).1,if_neg e];simp
 |p::P,w::b,i+1,m,c,J,z,e=>by show bindC a ((p,w)::P.zip b) m x=_;unfold bindC;exact Bi (i:=i) (cA.mp c).2 (by simpa using J) (by simpa using z) e
noncomputable def start(N:List aG)(a:List V):St:=a.map Y++bK (N.length-a.length) M
noncomputable def yU(CX:Tz)(P:be)(w:dz)(K:aT)(i:aG->Option ai)(base:dC)(N:List aG)(c:aG)(a:Scope)(f:az)(h:ai)(A:jd)(b:List Env)(s:ay)(H:Hp)(E:XK):Cx where
 prog:=P
 w:=w
 K:=K
 mg:=i
 base:=base
 A:=A.deeper (vj c a s.heap.objs.size f h)
 N:=N
 s₀:=s
 H₀:=H
 env:=vj c a s.heap.objs.size f h
 outer:=b
 stack:=vj c a s.heap.objs.size f h::b
 ex:=[]
 calm:=Z'
 fn:=λ_=>Z'
 pn:=[]
 xe:=λe s'=>bz (bD P w) (A.deeper (vj c a s.heap.objs.size f h)) (leaving (vj c a s.heap.objs.size f h) e) (λ_ g=>CX b H s E e g) (λk g=>CX b H s E k g) s'
def yX{sc:Scope}{n:Nat}(h:sc.names.lookup x=Y .cell):∃c,(fx n sc.names []).lookup x=Y c:=by
 have q:=PySem.W.cellsFrom_some sc.names n [] (.inl h);exact Option.isSome_iff_exists.mp q
def JD{P:be}{K:aT}{f:az}{X:ai}{s:ay}{F:List V}(S:bM N q o)(hd:A.handled=M)(D:zV P w K i base A t s H)(hl:F.length=q.length)(r:cj F us)(x:InCallC s s.heap.objs.size (bindL (vj C o s.heap.objs.size f X).kindOf (q.zip us) λ_=>M) (fx (s.heap.objs.size+1) o.names []) (bindC (vj C o s.heap.objs.size f X).kindOf (q.zip us) λ_=>M) s1):
  Inv (yU CX P w K i base N C o f X A t s H E) [] (start N F) H s1:=by
 have hpl:q.length<=N.length:=by have:=congrArg List.length S.pre;rw[m_]at this;omega
 obtain⟨J,tk,rfl,hk⟩:=x.done;have d:∀b:az,b∉(yU CX P w K i base N C o f X A t s H E).ex:=λb m=>absurd (show b∈([]:List az) from m) Ž
 refine⟨⟨D.mod,S.kind,rfl,rfl,aw _,λy m c J z =>?_,λy Q =>?_,λy c _ h =>?_,λ_=>hd,Around.frames_deeper D.frames,.inr ⟨rfl,rfl⟩,λb m=>absurd m (d b),D.bs,D.MV,λb _ _=>d b,λb m=>absurd m (d b),D.vY,D.QL⟩,
  rfl,D.bare,Un.kept hk,⟨_,x.toInCall.ns,λg y v J z h3 =>?_⟩,λy c h=>⟨_,x.cell y c h⟩,D.f'.fresh (aw _),λy c h =>?_,λp T=>absurd (show p∈([]:List (az×Obj)) from T) Ž,D.f'.kept hk,?_⟩
 ·exact name_of_addr x.apart (PySem.mem_of_lookup J) (PySem.mem_of_lookup z)
 ·have Q:o.names.lookup y=Y .cell\/o.names.lookup y=Y .free:=Q;rcases Q with Q|Q
  ·exact yX Q
  ·exact absurd rfl (S.RS _ (PySem.mem_of_lookup Q))
 ·exact dU (x.above y c (PySem.mem_of_lookup h))
 ·have L:g<F.length:=by
   unfold start at z;by_cases L:g<F.length
   ·exact L
   ·rw[gW (by simpa using L)]at z;rw[NK]at z;split at z<;>cases z
  have ha:F[g]?=Y v:=by
   unfold start at z;rw[dW (by simpa using L),aV]at z;rcases e:F[g]? with _|a
   ·rw[e]at z;cases z
   rw[e]at z;cases z;rfl
  obtain⟨u,hu,rv⟩:=r.get ha;have T:q[g]?=Y y:=by rw[<- S.pre,List.getElem?_take_of_lt (by omega)];exact J
  have R:q.Nodup:=by rw[<- S.pre];exact S.nd.sublist (List.take_sublist _ _)
  refine⟨u,rv,?_⟩;rcases S.par y (wX T) with k|k
  ·exact .inl ⟨k,Bg R T hu k⟩
  ·obtain⟨c,e⟩:=yX (n:=s.heap.objs.size+1) k;refine .inr ⟨.inl k,c,e,?_⟩;have l:=x.cell y c e;rw[Bi R T hu (by show o.names.lookup y≠_;rw[k];decide)]at l;exact l
 ·exact D.f'.fresh (dU (x.above y c (PySem.mem_of_lookup h)))
 ·unfold start;show _=N.length;rw[aP,bj,List.length_replicate];omega
theorem VP{P:be}{K:aT}{f:az}{name:aG}{m:Arguments}{kV ct oc:ai}(lk:K.lookup f=Y ⟨oc,od,.func (fnOf name h m p c dV kV QY pm an l ct),XN⟩)(ZJ:codeIn K l h=Z')(S:bM N q c)(T:∀D H Q E,sp D H Q E->D.length=q.length) (d:∀(A:jd) (g:List Env) (s:ay) (H:Hp) (D:List V) (Q:VK) (E:XK),fN k (A.deeper (vj h c s.heap.objs.size f l))->sp D H Q E ->
   ∃t,sx (yU CX P w K i base N h c f l A g s H E) p t/\t { nx:=λ_ H'=>Q .dJ H',rt:=Q } (start N D) H) :
  dg P w K i base CX (k+1) f (fnOf name h m p c dV kV QY pm an l ct) q sp:=by
 refine⟨T,λA g s H args us D Q E hr e0 hb r X =>?_⟩;have hl:=T _ _ _ _ X;have KX:K.In s.heap:=e0.mod.QF.keeps λb o e=>(e0.bs b o e).1
 have lim:s.heap.NoLimit:=e0.mod.nolimit.keeps λb o e=>(e0.bs b o e).1
 have F:∀y∈q.zip us,c.names.lookup y.1=Y .local\/(c.names.lookup y.1=Y .cell/\((fx (s.heap.objs.size+1) c.names []).lookup y.1).isSome=Z'):=λ⟨n,v⟩ hy=>by
  rcases S.par n (GG hy).1 with a|a
  ·exact .inl a
  ·exact .inr ⟨a,PySem.W.cellsFrom_some _ _ _ (.inl a)⟩
 refine codeAny_call_function hr.depth (KX _ _ lk) rfl S.co S.gen rfl (PySem.W.codeRec_of KX ZJ) (hb _ _ _ _ ?_);refine wpAny_newFunctionEnv_cells S.kind F λenv he s1 x =>?_
 subst he;refine⟨lim.keeps x.toInCall.keep,codeAny_func ?_⟩;obtain⟨t,ht,hq⟩:=d A g s H D Q E (hr.deeper _) X;have I:Inv (yU CX P w K i base N h c f l A g s H E) [] (start N D) H s1:=JD S hr.hd e0 hl r x;refine ir (ht [] s1 (start N D) H _ I hq) (λfl s' R =>?_) λe s' R=>R
 have qe:∀ {C:St}{H':Hp}{v:V}{u:ai},Inv (yU CX P w K i base N h c f l A g s H E) [] C H' s'->RelV v u->Q v H'->CE g P w H s Q u s':=
  fun {C H' v u} J rv a=>⟨v,H',J.os,J.bare,J.base,J.f',rv,a⟩
 cases fl with
 |ret u=>obtain⟨v,C,H',J,rv,a⟩:=R;exact qe J rv a
 |next=>obtain⟨C,H',J,a⟩:=R;exact qe (v:=V.dJ) (u:=Value.none) J rfl a
 |_=>obtain⟨_,_,_,a⟩:=R;exact qB a
section
variable {X:Cx}{id:String}
def UO(r:List V->Hp->VK->Prop)(t:TA):TE:=λU H Q=>t U H λa O=>r a O Q
def x3(A:lB X (.builtin id) r)(v:Gl X x)(u:X.mg x=M)(m:hJ x=Y (.builtin id))(C:PA X (e::es) t)(o:autoParam (x ≠ "__name__") ű)(b:autoParam ((x==("__debug__" : aG))=false) ű)(w:autoParam (aq (e::es) X.env=(Z_,eval e X.env)::aq es X.env) ų)(a:autoParam ((c6 G (aq es X.env)).any (·.1)=false) ų):PE X (.Call (.Name x p) (e::es) [] G) (UO r t):=by
 intro B s U H Q I h;refine tV (vT I v u m ?_ o b);exact PyProof.Rows.callWith_builtin1 (fE (C G B s U H _ I h) (by rintro f g ⟨c,O,D,k,l⟩;exact A B g U O c f Q D k l)) w a
def Ax(A:lB X (.type T) r)(v:Gl X x)(u:X.mg x=M)(m:hJ x=Y (.type T))(C:PA X (e::es) t)(o:autoParam (x ≠ "__name__") ű)(b:autoParam ((x==("__debug__" : aG))=false) ű)(w:autoParam (aq (e::es) X.env=(Z_,eval e X.env)::aq es X.env) ų)(a:autoParam ((c6 G (aq es X.env)).any (·.1)=false) ų):PE X (.Call (.Name x p) (e::es) [] G) (UO r t):=by
 intro B s U H Q I h;refine tV (vT I v u m ?_ o b);exact gM (fE (C G B s U H _ I h) (by rintro f g ⟨c,O,D,k,l⟩;exact A B g U O c f Q D k l)) w a
end
end L2
namespace HT
open PySem PyProof.Rows
section
open PySem.SeqAt
open PySem.AutoSeq1 (wpAny_loadPart')
open PySem.MeetsSeq PySem.MeetsSeq2 PySem.MeetsSeq3
end
section
variable {s:ay}
def PB{f:List ai}(K:IsTup s.heap t f.toArray)(d:IsTup s.heap b a.toArray)(v:f≠[])(J:a=[]->Q (.ref t) s)(z:a≠[]->Q (.ref s.heap.objs.size) { s with heap:=s.heap.push { cls :=.type "tuple",data :=.seq (f++a).toArray } })(o:f.length+a.length<=a9):bz (bD prog w) A (dB .Add (.ref t) (.ref b)) Q E s:=by
 obtain⟨⟨P,D,F,r⟩,m,C,n,x⟩:=id K;obtain⟨⟨H,l,p,g⟩,c,k,u,h⟩:=id d;simp only at C x k h;subst C x k h;have e:f.toArray++a.toArray=(f++a).toArray:=by simp
 by_cases hw:a=[]
 ·exact concat_meets ⟨_,m,rfl⟩ ⟨_,c,rfl⟩ Nq seq_tuple_add PySem.F.slot_tuple_add PySem.F.entry_tuple_add (PySem.F.args_tuple_add_2 _ _)
   (tuple_addW1 t b f.toArray a.toArray n u D l r g (by simpa using v) (by simp[hw])) ⟨m,c,J hw⟩
 ·refine concat_meets ⟨_,m,rfl⟩ ⟨_,c,rfl⟩ Nq seq_tuple_add PySem.F.slot_tuple_add PySem.F.entry_tuple_add (PySem.F.args_tuple_add_2 _ _)
   (tuple_addW2 t b f.toArray a.toArray n u D l r g (by simpa using v) (by simpa using hw) (by rw[aU,aU];exact o)) ⟨m,c,?_⟩
  rw[e];exact z hw
noncomputable def ke(n d:Nat):Option Int->Nat
 |none=>d|some v=>if v<0 then (v+(n:Int)).toNat else min v.toNat n
def KA(n d:Nat):ke n d M=d:=rfl
def N7(n d k:Nat):ke n d (Y (k:Int))=min k n:=by
 show (if (k:Int)<0 then ((k:Int)+(n:Int)).toNat else min (k:Int).toNat n)=min k n;rw[if_neg (by omega),cN]
def Rk(n d:Nat)(b:d<=n)(o:Option Int):ke n d o<=n:=by
 cases o with
 |none=>exact b|some v=>
  show (if v<0 then (v+(n:Int)).toNat else min v.toNat n)<=n;by_cases a:v<0
  ·rw[if_pos a];omega
  ·rw[if_neg a];exact Nat.min_le_right _ _
def Ib(v:Int)(n d:Nat):(if v<0 then max (v+(n:Int)) 0 else min v (n:Int))=((ke n d (Y v):Nat):Int):=by
 show (if v<0 then max (v+(n:Int)) 0 else min v (n:Int))=(((if v<0 then (v+(n:Int)).toNat else min v.toNat n):Nat):Int);by_cases a:v<0
 ·simp only[if_pos a];omega
 ·simp only[if_neg a];omega
def Gx(n L:Option Int)(a:Nat):vh n L 1 (a:Int)=(((ke a 0 n:Nat):Int),((ke a a L:Nat):Int)):=by
 have J:¬((1:Int)<0):=by omega
 unfold vh;simp only[J,if_false];refine Prod.ext ?_ ?_
 ·cases n with|none=>rfl|some v=>exact Ib v a 0
 ·cases L with|none=>rfl|some v=>exact Ib v a a
def Ft(i j:Nat):lJ (i:Int) (j:Int) 1=j-i:=by
 unfold lJ;have J:(1:Int) > 0:=by omega
 simp only[J,if_true,Int.ediv_one];split<;>omega
def xO{v:ai}(p:Nt v o)(h:Q o s):bz (bD prog w) A (Builtin.Slice.slicePartIndex v) Q E s:=by
 cases p with|none=>exact slicePart_none h|int i t=>exact slicePart_int h
def vD{sl:az}{vl vu:ai}{n L:Option Int}{a:Nat}{Q:Int×Int×Nat->ay->Prop}(hs:s.heap.IsSliceOf sl vl vu .none)(pl:Nt vl n)(pu:Nt vu L)
  (h:Q (((ke a 0 n:Nat):Int),1,ke a a L-ke a 0 n) s):bz (bD prog w) A (T4 (.ref sl) (fi (a:Int))) Q E s:=by
 obtain⟨os,VC,ZH,WX⟩:=id hs;unfold T4 Builtin.Slice.sliceFields;refine aE (aE (qv VC WX (x:=vl) rfl (aE (qv VC WX (x:=vu) rfl (aE (qv VC WX (x :=.none) rfl (bC ?_)))))));refine aE (slicePart_none ?_);show bz _ _ (if ((1:Int)==0)=Z' then _ else _) _ _ s;rw[if_neg (by decide)];refine aE (xO pl (aE (xO pu (aE (bC ?_)))));show bz _ _ (match vh n L 1 (a:Int) with|(n,L)=>fi (n,(1:Int),lJ n L 1)) _ _ s;rw[Gx n L a];show bz _ _ (fi (((ke a 0 n:Nat):Int),(1:Int),lJ ((ke a 0 n:Nat):Int) ((ke a a L:Nat):Int) 1)) _ _ s;rw[Ft];exact bC h
def KU(xs:Array ai)(i k:Nat):((cm k).filterMap λ(m:Nat)=>xs[((i:Int)+(m:Int)*1).toNat]?).toArray=((xs.toList.drop i).take k).toArray:=by
 have e:(λ(m:Nat)=>xs[((i:Int)+(m:Int)*1).toNat]?)=λm=>xs[i+m]? :=by
  funext m
  have:((i:Int)+(m:Int)*1).toNat=i+m:=by omega
  rw[this]
 rw[e];have:=pick_run xs i k;rw[List.filterMap_map]at this;have a:((λx=>xs[x]?) ∘ λx=>i+x)=λm=>xs[i+m]? :=rfl
 rw[a]at this;rw[this]
def uH(ht:IsTup s.heap t eP)(hs:s.heap.IsSliceOf sl vl vu .none)(pl:Nt vl n)(pu:Nt vu L)(hw:¬(ke eP.size 0 n=0/\ke eP.size eP.size L=eP.size))(h:Q (.ref s.heap.objs.size) { s with heap:=s.heap.push { cls :=.type "tuple",data :=.seq ((eP.toList.drop (ke eP.size 0 n)).take (ke eP.size eP.size L-ke eP.size 0 n)).toArray } })(hsz:eP.size<=a9):bz (bD prog w) A (ze (.ref t) (.ref sl)) Q E s:=by
 have HG:sizeOk (.seq ((eP.toList.drop (ke eP.size 0 n)).take (ke eP.size eP.size L-ke eP.size 0 n)).toArray):=by show ((eP.toList.drop (ke eP.size 0 n)).take (ke eP.size eP.size L-ke eP.size 0 n)).toArray.size<=a9;rw[aU,m_,EG,zj];omega
 have hj:ke eP.size eP.size L<=eP.size:=Rk _ _ (aw _) L;obtain⟨os,VC,ZH,WX⟩:=id hs;have hTs:s.TypeIs (.ref sl) "slice" :=⟨os,VC,ZH⟩;unfold ze
 try with_reducible refine ES ?_
 first|refine aE (bC ?_)|skip
 refine aE (wpAny_sequenceKey ht.typeIs ſ ?_);refine aE (wpAny_callSpecial?_slot (name:=ab "__getitem__") ht.typeIs CT
  (Np CT ht.typeIs entry_tuple_getitem ?_ (args_tuple_getitem _ _)))
 show bz _ _ (Builtin.Tuple.tupleItemsOf (.ref t) >>= _) _ _ s;refine aE (tupleItemsOf_ ht ?_);refine aE (wpAny_typeOf hTs ?_);rw[if_pos (by decide)];refine aE (vD hs pl pu ?_);have WV:¬((((ke eP.size 0 n:Nat):Int)==0&&(1:Int)==1&&(ke eP.size eP.size L-ke eP.size 0 n)==eP.size)=Z'):=by intro q;rw[aO,aO]at q;have q1:((ke eP.size 0 n:Nat):Int)=0:=eq_of_beq q.1.1;have q2:ke eP.size eP.size L-ke eP.size 0 n=eP.size:=eq_of_beq q.2;exact hw ⟨ž,ž⟩
 show bz _ _ (if (((ke eP.size 0 n:Nat):Int)==0&&(1:Int)==1&&(ke eP.size eP.size L-ke eP.size 0 n)==eP.size)=Z' then _ else _) _ _ s;rw[if_neg WV,KU]
 first
  |exact aE (m:=mr _) (oq (bC ⟨_,rfl,bC h⟩) HG)
  |exact aE (m:=mr _) (oq (aE (bC (bC ⟨_,rfl,bC h⟩))) HG)
  |exact aE (aE (m:=mr _) (oq (bC (bC ⟨_,rfl,bC h⟩)) HG))
  |exact aE (aE (m:=mr _) (oq (bC ⟨_,rfl,bC h⟩) HG))
end
end HT
namespace L2
open PySem PySem.Spec PyProof.Rows
abbrev TO:=St->Hp->(Option Int->Hp->Prop)->Prop
def PO(X:Cx)(e:Option Expr)(t:TO):Prop:=
 ∀(B:List (az×Obj)) (s:ay) (U:St) (H:Hp) (Q:Option Int->Hp->Prop),Inv X B U H s->t U H Q ->
  bz (bD X.prog X.w) X.A (evalPart e X.env) (λu s'=>∃o H',Inv X B U H' s'/\Nt u o/\Q o H') X.xe s
def NU:TO:=λ_ H Q=>Q M H
def UE(t:TE):TO:=λU H Q=>t U H λx O=>∃i,x=.int i/\Q (Y i) O
section
variable {X:Cx}
def Om:PO X M NU:=by
 intro B s U H Q I h;rw[evalPart_none];exact bC ⟨M,H,I,.none,h⟩
def Ol(h:PE X e te):PO X (Y e) (UE te):=by
 intro B s U H Q I hw;rw[evalPart_some];refine fE (h B s U H _ I hw) ?_;rintro u f ⟨x,O,c,a,b⟩;obtain⟨i,rfl,q⟩:=b;obtain⟨t,rfl⟩:=a;exact⟨Y i,O,c,.int i t,q⟩
def W7(X:Cx)(r:V->Option Int->Option Int->Hp->VK->Prop):Prop:=
 ∀(B:List (az×Obj)) (s:ay) (U:St) (H:Hp) (x:V) (v b a:ai) (n L:Option Int) (c:az) (Q:VK),Inv X B U H s->RelV x v->s.heap.IsSliceOf c b a .none->Nt b n->Nt a L->r x n L H Q ->
  ∃T id,typeLookup (.type T) "__getitem__" = fi (Y (.builtin id))/\s.TypeIs v T/\bz (bD X.prog X.w) X.A (ze v (.ref c)) (EP X B U Q) X.xe s
def tSl(r:V->Option Int->Option Int->Hp->VK->Prop)(te:TE)(tl th:TO):TE:=λU H Q=>te U H λx O=>tl U O λl d=>th U d λu a=>r x l u a Q
def xY(F:W7 X r)(P:PE X e te)(K:PO X n tl)(D:PO X L th):PE X (.Subscript e (.Slice n L M p2) G) (tSl r te tl th):=by
 intro B s U H Q I h;refine Subscript_ (fE (P B s U H _ I h) ?_);rintro v m ⟨x,O,I1,o,w⟩;refine wpAny_Slice (fE (K B m U O _ I1 w) ?_);rintro f k ⟨l,d,I2,C,t⟩;refine fE (D B k U d _ I2 t) ?_;rintro c a ⟨u,g,I3,A,p⟩;rw[evalPart_none];refine bC ?_;have S:Inv X B U g { a with heap:=a.heap.push { cls :=.type "slice",data :=.fields #[f,c,.none] } }:=I3.kept (t':=a.toks) λb ob q=>af _ q
 obtain⟨T,id,R,E,i⟩:=F B { a with heap:=a.heap.push { cls :=.type "slice",data :=.fields #[f,c,.none] } } U g x v f c l u a.heap.objs.size Q S o (Heap.IsSliceOf.new ..) C A p;show bz (bD X.prog X.w) X.A (subscriptTail e (.Slice n L M p2) v (.ref a.heap.objs.size)) (EP X B U Q) X.xe { a with heap:=a.heap.push { cls :=.type "slice",data :=.fields #[f,c,.none] } };exact tail_any (ops:=[.ref a.heap.objs.size,v]) E R i (by with_unfolding_all rfl)
def zL(xs:List V)(n L:Option Int):List V:=(xs.drop (HT.ke xs.length 0 n)).take (HT.ke xs.length xs.length L-HT.ke xs.length 0 n)
def wB(xs:List V)(n L:Option Int):(zL xs n L).length<=xs.length:=by
 unfold zL;rw[m_,EG];omega
def XF(K:aT):V->Option Int->Option Int->Hp->VK->Prop:=λx n L H Q=>∃a xs,x=.ref a/\vi K H a xs /\
 ¬(HT.ke xs.length 0 n=0/\HT.ke xs.length xs.length L=xs.length)/\∀p,H p=M->Q (.ref p) (de H p (.tup (zL xs n L)))
def Rc:W7 X (XF X.K):=by
 intro B s U H x v u t n L w Q I k p m l h;obtain⟨a,xs,rfl,o,hw,q⟩:=h;cases k;obtain⟨e,r,g,f⟩:=I.tuple o;have c:e.toArray.size=xs.length:=by rw[aU];exact r.length.symm
 refine⟨"tuple",_,PyProof.Rows.slot_tuple_getitem.lookup,g.typeIs,?_⟩;refine HT.uH g p m l (by rw[c];exact hw) ?_ (by rw[c];exact f);rw[c];refine⟨.ref s.heap.objs.size,_,I.laid (t':=s.toks) (o :=.tup (zL xs n L)) (λb A q=>af _ q) (aw _) ?_,rfl,q _ (I.f'.fresh (aw _))⟩;exact⟨a7 (wB xs n L) f,_,(r.drop (HT.ke xs.length 0 n)).take (HT.ke xs.length xs.length L-HT.ke xs.length 0 n),GB.new _ _⟩
def U6(K:aT):R2:=λx y H Q=>∃a b xs ys,x=.ref a/\y=.ref b/\vi K H a xs/\vi K H b ys/\xs≠[]/\xs.length+ys.length<=a9 /\
 (ys=[]->Q (.ref a) H)/\(ys≠[]->∀p,H p=M->Q (.ref p) (de H p (.tup (xs++ys))))
def cj.BO(r:cj xs a):a=[]↔xs=[]:=by
 cases r with|_=>simp
def OB:mz X (dB .Add) (U6 X.K):=by
 intro B s U H x y v u Q I l k h;obtain⟨a,b,xs,ys,rfl,rfl,C,A,t,g,o,m⟩:=h;cases l;cases k;obtain⟨r,e,p,_⟩:=I.tuple C;obtain⟨f,c,p2,_⟩:=I.tuple A;refine HT.PB p p2 (λz=>t (e.BO.mp z)) (λz=>⟨.ref a,H,I,rfl,o (c.BO.mp z)⟩) (λz =>?_) (by rw[<- e.length,<- c.length];exact g);refine⟨.ref s.heap.objs.size,_,I.laid (t':=s.toks) (o :=.tup (xs++ys)) (λb D q=>af _ q) (aw _) ?_,rfl,m (λw=>z (c.BO.mpr w)) _ (I.f'.fresh (aw _))⟩;exact⟨by rw[aP];exact g,_,e.append c,GB.new _ _⟩
end
noncomputable def Jz(n:Nat)(i:Int):Option Nat:=if 0<=i then (if i<n then Y i.toNat else M) else if -(n:Int)<=i then Y (i+n).toNat else M
def p_{a:Type}(xs:List a)(i:Int):Option a:=(Jz xs.length i).bind λj=>xs[j]?
def Hz{n:Nat}(h:Jz n i=Y j):seqIndex? i n=Y j/\j<n /\ -(n:Int)<=i/\i<n:=by
 unfold Jz at h;by_cases a:0<=i
 ·rw[if_pos a]at h;by_cases J:i<n
  ·rw[if_pos J]at h;have e:i.toNat=j:=bN h;exact⟨by rw[seqIndex_of a J,e],ž,ž,J⟩
  ·rw[if_neg J]at h;cases h
 ·rw[if_neg a]at h;by_cases J : -(n:Int)<=i
  ·rw[if_pos J]at h;have e:(i+n).toNat=j:=bN h;exact⟨by rw[seqIndex_neg (by omega) J,e],ž,J,ž⟩
  ·rw[if_neg J]at h;cases h
def CA{v:a}(h:p_ xs i=Y v):∃j,seqIndex? i xs.length=Y j/\xs[j]?=Y v/\j<xs.length /\ -(xs.length:Int)<=i/\i<xs.length:=by
 unfold p_ at h;obtain⟨j,e,h⟩:=aa.1 h;obtain⟨J,z,c,b⟩:=Hz e;exact⟨j,J,h,z,c,b⟩
def eT{xs:List a}{j:Nat}{v:a}(h:xs[j]?=Y v):p_ xs (j:Int)=Y v:=by
 have b:j<xs.length:=(ax.mp h).1;have e:Jz xs.length (j:Int)=Y j:=by unfold Jz;rw[if_pos (by omega),if_pos (by omega)];simp
 unfold p_;rw[e];exact h
def Er(xs:List a)(v:a):p_ (xs++[v]) (-1)=Y v:=by
 have b:(xs++[v]).length=xs.length+1:=by simp
 have e:Jz (xs++[v]).length (-1)=Y xs.length:=by
  unfold Jz;rw[b,if_neg (by decide),if_pos (by omega)]
  congr 1
  omega
 unfold p_;rw[e];show (xs++[v])[xs.length]?=Y v;simp
def IA(b:Expr):Prop:=∀o i,NJ b Z_ o i=operate [o,i] (ze o i)
def IF(X:Cx)(r:R2):Prop:=
 ∀(value a:Expr) (B:List (az×Obj)) (s:ay) (U:St) (H:Hp) (x y:V) (v u:ai) (Q:VK),Inv X B U H s->RelV x v->RelV y u->r x y H Q ->
  NJ a Z_ v u=operate [v,u] (ze v u)->bz (bD X.prog X.w) X.A (subscriptTail value a v u) (EP X B U Q) X.xe s
def W_(X:Cx)(id:String)(r:V->List V->Hp->VK->Prop):Prop:=
 ∀(B:List (az×Obj)) (s:ay) (U:St) (H:Hp) (x:V) (xs:List V) (v:ai) (a:List ai) (Q:VK),Inv X B U H s->RelV x v->cj xs a->r x xs H Q ->
  bz (bD X.prog X.w) X.A (call (.builtin id) (v::a)) (EP X B U Q) X.xe s
section
variable {X:Cx}
def IF.or(h:IF X r)(h':IF X e):IF X (λx y H Q=>r x y H Q\/e x y H Q):=by
 intro value a B s U H x y v u Q I c b q f;rcases q with q|q
 ·exact h value a B s U H x y v u Q I c b q f
 ·exact h' value a B s U H x y v u Q I c b q f
def wo(l:IF X r)(o:PE X a N)(m:PE X b y)(k:IA b):PE X (.Subscript a b G) (Qf r N y):=by
 intro B s U H Q I h;exact Subscript_ (Tn o m I h λv u e x c d p g f q=>l a b B e U d x c v u Q p g f q (k _ _))
def U5(K:aT):R2:=λx y H Q=>∃p xs i v,x=.ref p/\y=.int i/\lR K H p xs/\p_ xs i=Y v/\Q v H
def U3(K:aT):R2:=λx y H Q=>∃p xs i v,x=.ref p/\y=.int i/\vi K H p xs/\p_ xs i=Y v/\Q v H
def U4:R2:=λx y H Q=>∃z i c,x=.str z/\y=.int i/\z.length<=a9/\p_ z.cps.toList i=Y c/\Q (.str ⟨#[c]⟩) H
def xi:IF X (U5 X.K):=by
 intro value b B s U H x y v u Q I A o h k;obtain⟨p,xs,i,a,rfl,rfl,C,E,q⟩:=h;cases A;obtain⟨t,rfl⟩:=o;obtain⟨f,r,e,d⟩:=I.list C;obtain⟨j,J,z,R,K,F⟩:=CA E;obtain⟨w,m,c⟩:=r.get z;have D:=r.length;have P:=s_;have qe:EP X B U Q w s:=⟨a,H,I,c,q⟩;by_cases l:0<=i
 ·have g:i.toNat=j:=by rw[seqIndex_of l F]at J;exact bN J
  exact item_listR e.isList l ž (by rw[g];simpa using m) qe k
 ·have g:(i+(f.toArray.size:Int)).toNat=j:=by rw[seqIndex_neg (by omega) K]at J;rw[aU,<- D];exact bN J
  exact subscriptTail_builtinR (x:=w) e.isList.typeIs slot_list_getitem.lookup
   (wpAny_getItem_list_neg (Q:=λr s'=>r=w/\EP X B U Q r s') e.isList ž (by rw[aU]<;>omega) ž (by rw[g];simpa using m) ⟨rfl,qe⟩) k
def yu:IF X (U3 X.K):=by
 intro value b B s U H x y v u Q I g f h l;obtain⟨p,xs,i,a,rfl,rfl,m,A,q⟩:=h;cases g;obtain⟨t,rfl⟩:=f;obtain⟨k,r,e,D⟩:=I.tuple m;obtain⟨j,J,z,d,K,F⟩:=CA A;obtain⟨w,C,c⟩:=r.get z;have o:=r.length;have E:=s_;have qe:EP X B U Q w s:=⟨a,H,I,c,q⟩;exact subscriptTail_builtinR (x:=w) e.typeIs slot_tuple_getitem.lookup
  (getItem_tuple (j:=j) (Q:=λr s'=>r=w/\EP X B U Q r s') e ž ž (by rw[aU,<- o];exact J) (by simpa using C) ⟨rfl,qe⟩) l
def Sd:IF X U4:=by
 intro value b B s U H x y v u Q I f e h g;obtain⟨a,i,c,rfl,rfl,A,l,q⟩:=h;obtain⟨t,rfl⟩:=f;obtain⟨w,rfl⟩:=e;obtain⟨j,J,z,D,o,m⟩:=CA l;have k:a.cps.toList.length=a.length:=by simp[Str.length]
 rw[k]at J o m;have C:=s_;exact tail_any (TK s a t) slot_str_getitem.lookup (getItem_str (c:=c) (by have r:decide (i < -(2 ^ 63:Int))=false:=decide_eq_false ž;have p:decide (i ≥ 2 ^ 63)=false:=decide_eq_false ž;rw[r,p,Bool.or_false]) (by rw[J];simpa using z) ⟨.str ⟨#[c]⟩,H,I.tok _,⟨_,rfl⟩,q⟩) g
def rIx(K:aT):R2:=λx y H Q=>U5 K x y H Q\/U3 K x y H Q\/U4 x y H Q
def Se:IF X (rIx X.K):=xi.or (yu.or Sd)
def FT(a:List ai)(n j:Nat)(u:ai):tZ (·.setIfInBounds j u) { cls :=.type "list",data :=.seq a.toArray n }={ cls :=.type "list",data :=.seq (a.set j u).toArray n }:=by
 simp[tZ]
def Inv.lst{s:ay}{p:az}{xs:List V}(I:Inv X B U H s)(h:H p=Y (.lst xs)):
  ∃(a:List ai) (n:Nat),cj xs a/\s.heap.get? p=Y { cls :=.type "list",data :=.seq a.toArray n }/\xs.length<=a9:=by
 obtain⟨z,a,n,r,e⟩:=I.f' p _ h;exact⟨a,n,r,e,z⟩
def Inv.RY{B:List (az×Obj)}{U:St}{H:Hp}{s:ay}{p:az}{xs ys:List V}{c a:List ai}{n g:Nat}{f:Obj->Obj}(I:Inv X B U H s)(h:H p=Y (.lst xs))(m:s.heap.get? p=Y { cls :=.type "list",data :=.seq c.toArray n })(k:f { cls :=.type "list",data :=.seq c.toArray n }={ cls :=.type "list",data :=.seq a.toArray g })(r:cj ys a)(l:ys.length<=a9)(t:Nat):
  Inv X B U (de H p (.lst ys)) { s with heap:=s.heap.update p f,toks:=t }:=by
 have e:(s.heap.update p f).get? p=Y { cls :=.type "list",data :=.seq a.toArray g }:=by rw[Heap.get?_update_self f m (by rw[k]<;>rfl),k]
 refine I.write (x:=p) (e:=p) (by rw[h];trivial) (.inl rfl) (λb u o q=>(Heap.get?_update_other _ _ (bU o)).trans q) ⟨_,e⟩ ?_;exact⟨l,a,g,r,e⟩
def Qo:V->V->V->Hp->(Hp->Prop)->Prop:=λo i v H Q=>∃p xs k j,o=.ref p/\i=.int k/\H p=Y (.lst xs)/\Jz xs.length k=Y j/\Q (de H p (.lst (xs.set j v)))
def Nk:Wb X Qo:=by
 intro B s U H o i v F K u Q I A C x h;obtain⟨p,xs,k,j,rfl,rfl,f,E,q⟩:=h;cases A;obtain⟨t,rfl⟩:=C;obtain⟨a,n,r,b,D⟩:=I.lst f;obtain⟨J,z,l,g⟩:=Hz E;have c:=r.length;have d:=s_;have w:Inv X B U (de H p (.lst (xs.set j v))) { s with heap:=s.heap.update p (tZ (·.setIfInBounds j u)) }:=
  I.RY f b (FT a n j u) (r.set x j) (by rw[List.length_set];exact D) s.toks
 by_cases m:0<=k
 ·have e:k.toNat=j:=by rw[seqIndex_of m g]at J;exact bN J
  exact PySem.W.ki_setAt b m ž (by rw[aU,<- c];exact g) (by rw[e];exact⟨_,w,q⟩)
 ·have e:(k+(a.toArray.size:Int)).toNat=j:=by rw[seqIndex_neg (by omega) l]at J;rw[aU,<- c];exact bN J
  exact PySem.W.ki_setBack b ž (by rw[aU,<- c];exact l) ž (by rw[e];exact⟨_,w,q⟩)
def Bu(n L:Option Int)(a:Nat):(qw n L M a).1=((HT.ke a 0 n:Nat):Int)/\(qw n L M a).2.1=((HT.ke a a L:Nat):Int)/\(qw n L M a).2.2=1:=by
 refine⟨?_,?_,rfl⟩
 ·cases n with
  |none=>simp[qw,HT.ke]|some i=>
   simp only[qw,HT.ke,Option.getD_none,show (1:Int) > 0 by decide,if_true];by_cases h:i<0
   ·simp only[h,if_true]<;>omega
   ·simp only[h,if_false]<;>omega
 ·cases L with
  |none=>simp[qw,HT.ke]|some i=>
   simp only[qw,HT.ke,Option.getD_none,show (1:Int) > 0 by decide,if_true];by_cases h:i<0
   ·simp only[h,if_true]<;>omega
   ·simp only[h,if_false]<;>omega
def zu(a:List ai)(n L:Option Int):slicePick a.toArray n L M=((a.drop (HT.ke a.length 0 n)).take (HT.ke a.length a.length L-HT.ke a.length 0 n)).toArray:=by
 obtain⟨J,z,b⟩:=Bu n L a.toArray.size;unfold slicePick;rw[J,z,b];simp only[sliceRange_one,pick_run,aU]<;>rfl
def XG(K:aT):V->Option Int->Option Int->Hp->VK->Prop:=λx n L H Q=>∃a xs,x=.ref a/\lR K H a xs/\∀p,H p=M->Q (.ref p) (de H p (.lst (zL xs n L)))
def N0:W7 X (XG X.K):=by
 intro B s U H x v u t n L w Q I f p k g h;obtain⟨a,xs,rfl,o,q⟩:=h;cases f;obtain⟨l,r,e,m⟩:=I.list o;have c:=r.length;refine⟨"list",_,slot_list_getitem.lookup,e.isList.typeIs,?_⟩;refine wpAny_getItem_list_slice e.isList p k g .none Ž ?_ (by rw[aU]<;>omega);rw[zu,<- c];refine⟨.ref s.heap.objs.size,_,I.laid (t':=s.toks) (o :=.lst (zL xs n L)) (λb A q=>af _ q) (aw _) ?_,rfl,q _ (I.f'.fresh (aw _))⟩;exact⟨a7 (wB xs n L) m,_,0,(r.drop (HT.ke xs.length 0 n)).take (HT.ke xs.length xs.length L-HT.ke xs.length 0 n),ba _ rfl⟩
noncomputable def qj:V->Bool
 |.dJ=>Z'|.bl _=>Z'|.int _=>Z'|.str _=>Z'|_=>Z_
noncomputable def QM:V->V->Bool
 |.dJ,.dJ=>Z'|.bl a,.bl b=>a==b|.bl a,.int b=>(if a then 1 else 0)==b
 |.int a,.bl b=>a==(if b then 1 else 0)
 |.int a,.int b=>a==b|.str a,.str b=>a==b|_,_=>Z_
def SO{A:jd}{s:ay}{y x:V}{u v:ai}(f:RelV y u)(c:RelV x v)(h:qj y=Z')(g:qj x=Z'):SeqAt.EqAt A s u v (QM y x):=by
 cases y with
 |dJ=>
  cases f;cases x with
  |dJ=>cases c;exact SeqAt.EqAt.same _|bl b=>cases c;exact SeqAt.EqAt.none_bool b|int b=>obtain⟨t,rfl⟩:=c;exact SeqAt.EqAt.none_int b t
  |str b=>obtain⟨t,rfl⟩:=c;exact SeqAt.EqAt.none_str b t
  |_=>exact absurd (show Z_=Z' from g) bS
 |bl a=>
  cases f;cases x with
  |dJ=>cases c;exact SeqAt.EqAt.bool_none a|bl b=>cases c;exact SeqAt.EqAt.bool_bool a b|int b=>obtain⟨t,rfl⟩:=c;exact SeqAt.EqAt.bool_int a b t
  |str b=>obtain⟨t,rfl⟩:=c;exact SeqAt.EqAt.bool_str a b t
  |_=>exact absurd (show Z_=Z' from g) bS
 |int a=>
  obtain⟨e,rfl⟩:=f;cases x with
  |dJ=>cases c;exact SeqAt.EqAt.int_none a e|bl b=>cases c;exact SeqAt.EqAt.int_bool a e b|int b=>obtain⟨t,rfl⟩:=c;exact SeqAt.EqAt.int_int a e b t
  |str b=>obtain⟨t,rfl⟩:=c;exact SeqAt.EqAt.int_str a e b t
  |_=>exact absurd (show Z_=Z' from g) bS
 |str a=>
  obtain⟨e,rfl⟩:=f;cases x with
  |dJ=>cases c;exact SeqAt.EqAt.str_none a e|bl b=>cases c;exact SeqAt.EqAt.str_bool a e b|int b=>obtain⟨t,rfl⟩:=c;exact SeqAt.EqAt.str_int a e b t
  |str b=>obtain⟨t,rfl⟩:=c;exact SeqAt.EqAt.str_str a e b t
  |_=>exact absurd (show Z_=Z' from g) bS
 |_=>exact absurd (show Z_=Z' from h) bS
def Pa(x:V)(u:ai):Bool:=match u with
 |.none=>QM .dJ x|.bool b=>QM (.bl b) x|.int i _=>QM (.int i) x|.str z _=>QM (.str z) x|_=>Z_
def Mu{x y:V}{u:ai}(r:RelV y u)(f:qj y=Z'):Pa x u=QM y x:=by
 cases y with
 |dJ=>cases r;rfl|bl b=>cases r;rfl|int i=>obtain⟨t,rfl⟩:=r;rfl
 |str z=>obtain⟨t,rfl⟩:=r;rfl
 |_=>exact absurd (show Z_=Z' from f) bS
def Iq{x:V}{xs:List V}{a:List ai}(h:cj xs a)(f:xs.all qj=Z'):a.any (Pa x)=xs.any λy=>QM y x:=by
 induction h with|nil=>rfl|cons r _ ih=>rw[k6,aO]at f;rw[jG,jG,Mu r f.1,ih f.2]
def DJ{A:jd}{s:ay}{x:V}{v:ai}(c:RelV x v)(e:qj x=Z'){xs:List V}{b:List ai}(h:cj xs b)(f:xs.all qj=Z'):∀u∈b,SeqAt.EqAt A s u v (Pa x u):=by
 induction h with
 |nil=>intro u a;cases a
 |cons r _ ih=>
  rw[k6,aO]at f;intro g a;rcases au.mp a with rfl|a
  ·rw[Mu r f.1];exact SO r c f.1 e
  ·exact ih f.2 g a
def Ue(x:V)(xs:List V):Bool:=xs.any λy=>QM y x
def Zc(K:aT)(a:Bool):R2:=λx y H Q=>∃p xs,y=.ref p/\(lR K H p xs\/vi K H p xs)/\qj x=Z'/\xs.all qj=Z'/\Q (.bl (if a then !Ue x xs else Ue x xs)) H
def Ji:mz X (d_ .In) (Zc X.K Z_):=by
 intro B s U H x y v u Q I e g h;obtain⟨p,xs,rfl,b,f,j,q⟩:=h;cases g;rcases b with b|b
 ·obtain⟨a,r,c,k⟩:=I.list b;refine SeqAt.in_listAt (Pa x) c.isList (λw hw=>DJ e f r j w (by simpa using hw)) ⟨.bl _,H,I,rfl,?_⟩;rw[show a.toArray.any (Pa x)=a.any (Pa x) by simp,Iq r j];exact q
 ·obtain⟨a,r,c,k⟩:=I.tuple b;refine SeqAt.in_tupleAt (Pa x) c (λw hw=>DJ e f r j w (by simpa using hw)) ⟨.bl _,H,I,rfl,?_⟩;rw[show a.toArray.any (Pa x)=a.any (Pa x) by simp,Iq r j];exact q
def pU:lB X (.builtin "len") (λxs H Q=>∃p ys,xs=[.ref p]/\(lR X.K H p ys\/vi X.K H p ys)/\Q (.int ys.length) H):=by
 intro B s U H xs l Q I r h;obtain⟨p,ys,rfl,b,q⟩:=h;obtain⟨u,rfl,g⟩:=vals1 r;cases g;have m:=s_;rcases b with b|b
 ·obtain⟨f,c,e,k⟩:=I.list b;have a:=c.length;exact Calls.call_len_list e.isList (by simp only[aU]<;>omega) ⟨.int ys.length,H,I.tok _,⟨s.toks+1,by rw[aU,a]⟩,q⟩
 ·obtain⟨f,c,e,k⟩:=I.tuple b;have a:=c.length;exact len_tuple e (by simp only[aU]<;>omega) ⟨.int ys.length,H,I.tok _,⟨s.toks+1,by rw[aU,a]⟩,q⟩
def Ct:lB X (.builtin "len") (λxs H Q=>∃z,xs=[.str z]/\z.length<=a9/\Q (.int z.length) H):=by
 intro B s U H xs a Q I r h;obtain⟨z,rfl,b,q⟩:=h;obtain⟨u,rfl,t,rfl⟩:=vals1 r;have c:=s_;exact len_str ž ⟨.int z.length,H,I.tok _,⟨_,rfl⟩,q⟩
def lB.or{f:ai}(h:lB X f r)(h':lB X f c):lB X f (λxs H Q=>r xs H Q\/c xs H Q):=by
 intro B s U H xs a Q I b q;rcases q with q|q
 ·exact h B s U H xs a Q I b q
 ·exact h' B s U H xs a Q I b q
def Xj(K:aT)(T:String)(x:V)(H:Hp):Prop:=match x with
 |.str _=>T = "str"|.int _=>T = "int"| .ref p=>(T = "list" /\ ∃xs,lR K H p xs)\/(T = "tuple" /\((∃xs,H p=Y (.tup xs))\/∃o,K.lookup p=Y o/\o.cls=.type "tuple" /\o.dict=M)) \/
   (T = "dict" /\((∃a n,H p=Y (.dK a n))\/∃a,H p=Y (.dT a)))\/(T = "set" /\ ∃S n,H p=Y (.set S n))
 |_=>False
theorem Km{s:ay}{v:ai}(I:Inv X B U H s)(r:RelV x v)(f:Xj X.K T x H):
  s.TypeIs v T/\∀a,v=.ref a->∃m,s.heap.get? a=Y m/\m.dict=none:=by
 cases x with
 |str z=>obtain⟨t,rfl⟩:=r;cases (show T = "str" from f);exact⟨TK s z t,λ_ e=>nomatch e⟩
 |int i=>obtain⟨t,rfl⟩:=r;cases (show T = "int" from f);exact⟨typeIs_int s i t,λ_ e=>nomatch e⟩
 |ref p=>
  cases r;rcases f with⟨rfl,xs,w⟩|⟨rfl,⟨xs,w⟩|⟨o,b,A,h⟩⟩|⟨rfl,b⟩|⟨rfl,S,n,b⟩
  ·obtain⟨u,_,l,_⟩:=I.list w;refine⟨l.isList.typeIs,λa e =>?_⟩;cases e;obtain⟨o,n,e,c,h,_⟩:=l;exact⟨o,e,h⟩
  ·obtain⟨_,_,_,o,e,c,_⟩:=(show hZ X.prog X.w H s.heap p (.tup xs) from I.f' p _ w);refine⟨⟨o,e,c.1⟩,λa k =>?_⟩;cases k;exact⟨o,e,c.2⟩
  ·refine⟨⟨o,I.F4 p o b,A⟩,λa e =>?_⟩;cases e;exact⟨o,I.F4 _ o b,h⟩
  ·have z:∃o,s.heap.get? p=Y o/\o.ExactDict:=by
    rcases b with⟨g,m,b⟩|⟨g,b⟩
    ·obtain⟨_,_,_,_,o,_,e,ex,_⟩:=I.f' p _ b;exact⟨o,e,ex⟩
    ·obtain⟨_,_,_,_,o,_,_,e,ex,_⟩:=I.f' p _ b;exact⟨o,e,ex⟩
   obtain⟨o,e,ex⟩:=z;refine⟨⟨o,e,ex.1⟩,λa k =>?_⟩;cases k;exact⟨o,e,ex.2.1⟩
  ·obtain⟨o,_,_,_,e,ex,_⟩:=I.f' p _ b;refine⟨⟨o,e,ex.1⟩,λa k =>?_⟩;cases k;exact⟨o,e,ex.2.1⟩
 |_=>exact qB f
def UP(K:aT)(T:String)(r:V->List V->Hp->VK->Prop)(to:TE):TE:=λU H Q=>to U H λx O=>Xj K T x O/\r x [] O Q
def tBM(K:aT)(T:String)(r:V->List V->Hp->VK->Prop)(to:TE)(t:TA):TE:=λU H Q=>to U H λx O=>Xj K T x O/\t U O λxs d=>r x xs d Q
variable {name:aG}{id:String}
def K3(p:PlainAttrs T)(c:Slot T name id)(e:typeOf (.builtin id)=fi (.type "method_descriptor"))(u:W_ X id r)(t:PE X o to)(b:autoParam (b_ o name X.env (eval o X.env)=eval o X.env) ų)(a:autoParam ((tT.endLine==v7.line)=true) ų):PE X (.Call (.Attribute o name tT) [] [] v7) (UP X.K T r to):=by
 intro B s U H Q I h;refine wpAny_Call_method0_late b a (fE (t B s U H _ I h) ?_);rintro v l ⟨x,O,g,f,k,m⟩;obtain⟨J,z⟩:=Km g f k;exact⟨T,id,p,c,e,J,z,oA rfl (PySem.evalArgs_none (u B l U O x [] v [] Q g f .nil m))⟩
def uq(i:PlainAttrs T)(f:Slot T name id)(k:typeOf (.builtin id)=fi (.type "method_descriptor"))(S:W_ X id r)(R:PE X o to)(ha:PA X (e::es) t)(c:autoParam (b_ o name X.env (eval o X.env)=eval o X.env) ų) (g:autoParam (((c6 v7 (aq (e::es) X.env)).all (λx=> !x.1)&&(gV v7 (dF [] X.env)).all (λx=>x.1.isSome)
   && decide ((e::es).length+([]:List kL).length+(if ([]:List kL).isEmpty then 0 else 1)<30))=true) ų) (b:autoParam ((tT.endLine==v7.line)=true) ų) (P:autoParam (aq (e::es) X.env=(Z_,eval e X.env)::aq es X.env) ų) (a:autoParam ((c6 v7 (aq es X.env)).any (·.1)=false) ų) :
  PE X (.Call (.Attribute o name tT) (e::es) [] v7) (tBM X.K T r to t):=by
 intro B s U H Q I h;refine wpAny_Call_method_late c g b rfl (fE (R B s U H _ I h) ?_);rintro v D ⟨x,O,p,l,A,K⟩;obtain⟨J,z⟩:=Km p l A;refine⟨T,id,i,f,k,J,z,?_⟩;have m:=ha v7 B D U O _ p K;rw[P]at m ⊢;refine oA (by show (Z_||(c6 v7 (aq es X.env)).any (·.1))=Z_;rw[a]<;>rfl) (Calls.evalArgs_plain ?_);exact fE m <|by rintro w C ⟨u,d,I2,E,F⟩;exact S B C U d x u v w Q I2 l E F
end
def YL(X:Cx)(id:String)(r:V->List V->Hp->VK->Prop):Prop:=
 ∀(B:List (az×Obj)) (s:ay) (U:St) (H:Hp) (x:V) (xs:List V) (v:ai) (a:List ai) (Q:VK),Inv X B U H s->RelV x v->cj xs a->r x xs H Q ->
  bz (bD X.prog X.w) X.A (call (.builtin id) (v::a)) (EP X B U Q) X.xe s
def cj.one{x:V}{a:List ai}(h:cj [x] a):∃u,a=[u]/\RelV x u:=by
 rcases h with _|⟨r,_|_⟩;exact⟨_,rfl,r⟩
def cj.zero{a:List ai}(h:cj [] a):a=[]:=by cases h;rfl
def cj.dropLast(h:cj xs a):cj xs.dropLast a.dropLast:=by
 induction h with
 |nil=>exact .nil|cons r t ih=>
  cases t with|nil=>exact .nil|cons q b=>exact .cons r ih
def cj.reverse(h:cj xs a):cj xs.reverse a.reverse:=by
 induction h with|nil=>exact .nil|cons r t ih=>rw[mm,mm];exact cj.append ih (.cons r .nil)
theorem cj.rep(h:cj xs a):∀k:Nat,cj (bK k xs).flatten (bK k a).flatten
 |0 =>.nil|k+1=>by rw[gC,gC,gq,gq];exact cj.append h (cj.rep h k)
def Ga(l:List c):l.eraseIdx (l.length-1)=l.dropLast:=by
 induction l with
 |nil=>rfl|cons a r ih=>
  cases r with
  |nil=>rfl|cons b r=>
   have e:(a::b::r).length-1=((b::r).length-1)+1:=by have J:(a::b::r).length=r.length+2:=rfl;have z:(b::r).length=r.length+1:=rfl;omega
   rw[e,List.eraseIdx_cons_succ,ih]
   all_goals rfl
theorem foldl_rep(a:List ai):∀(k:Nat) (b:List ai),
  List.foldl (λf c=>f++c) b.toArray (bK k a.toArray)=(b++(bK k a).flatten).toArray
 |0,b=>by simp
 | k+1,b=>by
  have e:b.toArray++a.toArray=(b++a).toArray:=by simp
  have g:(b++a)++(bK k a).flatten=b++(bK (k+1) a).flatten:=by rw[gC,gq,bH]
  rw[<- g,<- foldl_rep a k (b++a),<- e,gC,pd]
section
variable {X:Cx}{s:ay}
def Inv.RZ{a its':List ai}{n:Nat}{f:Array ai->Array ai}{t':Nat}(I:Inv X B U H s)(m:H l=Y (.lst xs))(e:s.heap.get? l=Y { cls :=.type "list",data :=.seq a.toArray n })(h:f a.toArray=its'.toArray)(c:cj ys its')(b:ys.length<=a9):
  Inv X B U (de H l (.lst ys)) { s with heap:=s.heap.update l (tZ f),toks:=t' }:=by
 have q:=PySem.IsL.update e f;rw[h]at q;refine I.write (x:=l) (e:=l) (by rw[m];exact trivial) (.inl rfl) (λo u k g=>(Heap.get?_update_other s.heap (tZ f) (bU k)).trans g) ⟨_,q⟩ ?_;exact⟨b,its',_,c,q⟩
def Inv.Vp{t':Nat}(I:Inv X B U H s)(c:cj ys a)(b:ys.length<=a9):
  Inv X B U (de H s.heap.objs.size (.lst ys)) { s with heap:=s.heap.push { cls :=.type "list",data :=.seq a.toArray },toks:=t' }:=
 I.laid (λ_ _ q=>af _ q) (aw _) ⟨b,a,0,c,ba _ rfl⟩
def Inv.fresh(I:Inv X B U H s):H s.heap.objs.size=none:=I.f'.fresh (aw _)
def Inv.FY(I:Inv X B U H s)(b:H l=Y (.lst xs)):xs.length<=a9/\∃(a:List ai) (n:Nat),cj xs a/\xs.length=a.length/\s.heap.get? l=Y { cls :=.type "list",data :=.seq a.toArray n }:=by
 obtain⟨z,a,n,r,e⟩:=I.f' l _ b;exact⟨z,a,n,r,r.length,e⟩
def Ds(h:n<=a9):mu n=false:=by
 unfold mu;exact decide_eq_false ž
end
section
variable {X:Cx}
def Oc:V->List V->Hp->VK->Prop:=λx a H Q=>∃l xs y,x=.ref l/\a=[y]/\H l=Y (.lst xs)/\xs.length<a9/\Q .dJ (de H l (.lst (xs++[y])))
def kX:YL X "list.append" Oc:=by
 intro B s U H x k v m Q I c f h;obtain⟨l,xs,y,rfl,rfl,b,o,q⟩:=h;cases c;obtain⟨u,rfl,g⟩:=f.one;obtain⟨z,a,n,r,p,e⟩:=I.FY b;refine tX F.slot_list_append ⟨_,e,rfl⟩ F.entry_list_append (F.args_list_append_2 _ _) (PySem.list_append l a.toArray n u (by rw[aU];omega)) ⟨e,?_⟩;refine⟨.dJ,_,I.RZ (its':=a++[u]) b e Ž (r.append (.cons g .nil)) ?_,rfl,q⟩;rw[aP,g_];omega
def Ob:V->List V->Hp->VK->Prop:=λx a H Q=>∃l b xs zs,x=.ref l/\a=[.ref b]/\H l=Y (.lst xs)/\H b=Y (.lst zs)/\xs.length+zs.length<=a9/\Q .dJ (de H l (.lst (xs++zs)))
def Jp:YL X "list.extend" Ob:=by
 intro B s U H x K v d Q I m o h;obtain⟨l,b,xs,zs,rfl,rfl,k,C,P,q⟩:=h;cases m;obtain⟨u,rfl,p⟩:=o.one;cases p;obtain⟨z,c,n,r,R,e⟩:=I.FY k;obtain⟨E,a,w,t,A,D⟩:=I.FY C;have g:c.toArray.size+a.toArray.size<=a9:=by rw[aU,aU];omega
 have f:¬(!c.toArray.isEmpty&&mu (c.toArray.size+a.toArray.size))=true:=by rw[Ds g,Bool.and_false];exact bS
 refine tX F.slot_list_extend ⟨_,e,rfl⟩ F.entry_list_extend (F.args_list_extend_2 _ _)
  (AutoSeq1.list_extend_list_list_0 l c.toArray n b a.toArray w f (by rw[aU];omega) ž) ⟨e,D,?_⟩
 refine⟨.dJ,_,I.RZ (its':=c++a) k e Ž (r.append t) ?_,rfl,q⟩;rw[aP];omega
def U2:V->List V->Hp->VK->Prop:=λx a H Q=>∃l xs y,x=.ref l/\a=[]/\H l=Y (.lst xs)/\xs[xs.length-1]?=Y y/\Q y (de H l (.lst xs.dropLast))
def Lx:YL X "list.pop" U2:=by
 intro B s U H x w v A Q I g k h;obtain⟨l,xs,y,rfl,rfl,f,o,q⟩:=h;cases g;have c:=k.zero;subst c;obtain⟨z,a,n,r,t,e⟩:=I.FY f;obtain⟨u,p,m⟩:=r.get o;have b:a.toArray[a.toArray.size-1]?=Y u:=by show a.toArray[a.length-1]?=Y u;rw[<- Q1,<- t];exact p
 refine tX F.slot_list_pop ⟨_,e,rfl⟩ F.entry_list_pop (F.args_list_pop_1 _) (MeetsSeq.list_pop_last l a.toArray n u b (by rw[aU];omega)) ⟨e,?_⟩;refine⟨y,_,I.RZ (its':=a.dropLast) f e ?_ r.dropLast ?_,m,q⟩
 ·show a.toArray.eraseIdxIfInBounds (a.toArray.size-1)=a.dropLast.toArray;rw[aU,List.eraseIdxIfInBounds_toArray,Ga]
 ·rw[List.length_dropLast];omega
def XI:R2:=λx y H Q=>∃l b xs zs,x=.ref l/\y=.ref b/\H l=Y (.lst xs)/\H b=Y (.lst zs)/\xs.length+zs.length<=a9/\∀p,H p=M->Q (.ref p) (de H p (.lst (xs++zs)))
def RK:mz X (dB .Add) XI:=by
 intro B s U H x y v u Q I g f h;obtain⟨l,b,xs,zs,rfl,rfl,o,p,D,q⟩:=h;cases g;cases f;obtain⟨z,c,n,r,E,e⟩:=I.FY o;obtain⟨A,a,C,k,m,w⟩:=I.FY p;refine PySem.P.add_list e w ?_ (by rw[aU,aU];omega);have t:c.toArray++a.toArray=(c++a).toArray:=by simp
 rw[t];exact⟨.ref _,_,I.Vp (t':=s.toks) (r.append k) (by rw[aP];omega),rfl,q _ I.fresh⟩
def XH:R2:=λx y H Q=>∃l k xs,x=.ref l/\y=.int k/\H l=Y (.lst xs) /\ -(2 ^ 63)<=k/\k<2 ^ 63/\xs.length*k.toNat<=a9 /\
 ∀p,H p=M->Q (.ref p) (de H p (.lst (bK k.toNat xs).flatten))
def P4(xs:List a)(k:Nat):(bK k xs).flatten.length=k*xs.length:=by
 induction k with|zero=>simp|succ k ih=>rw[gC,gq,aP,ih,P6,Nat.add_comm]
def RG:mz X (dB .Mult) XH:=by
 intro B s U H x y v u Q I rx ry h;obtain⟨l,k,xs,rfl,rfl,hH,J,z,hz,q⟩:=h;cases rx;obtain⟨t,rfl⟩:=ry;obtain⟨c,B1,n,r,hl,e⟩:=I.FY hH;have J8:B1.toArray.size*k.toNat<=a9:=by rw[aU,<- hl];exact hz
 have Yk:¬B1.toArray.size*k.toNat > (2 ^ 63-1)/8:=by
  have:(a9:Nat)<=(2 ^ 63-1)/8:=by decide
  omega
 have Yi:¬(!Builtin.List.listFitsIndex k)=true:=by rw[fitsIndex_both J z];exact bS
 have VF:¬mu (B1.toArray.size*k.toNat)=true:=by rw[Ds J8];exact bS
 have Yc:List.foldl (λx1 x2=>x1++x2) #[] (bK (if B1.toArray.isEmpty=Z' then 0 else k.toNat) B1.toArray)=(bK k.toNat B1).flatten.toArray:=by
  have f0:∀m:Nat,List.foldl (λx1 x2=>x1++x2) #[] (bK m B1.toArray)=(bK m B1).flatten.toArray:=λm=>by have:=foldl_rep B1 m [];rw[cf]at this;exact this
  rw[f0];cases B1 with
  |nil=>simp|cons a r'=>rw[if_neg (by simp)]
 refine wpAny_binaryOp_repeat_ref (T:= "list") (U:= "int") ſ ⟨_,e,rfl⟩ (λs'=>typeIs_int s' k t) noFill_list_mul F.fills_int_mul F.slot_int_rmul repeat_list F.slot_int_index.lookup
  (tX F.slot_int_rmul (typeIs_int s k t) F.entry_int_rmul (F.args_int_rmul_2 _ _) (int___rmul___int_list k t l B1.toArray n)
   ⟨e,rfl,⟨_,e,rfl⟩,tX F.slot_list_mul ⟨_,e,rfl⟩ F.entry_list_mul (F.args_list_mul_2 _ _) (AutoListH.list___mul___list_int_3 l B1.toArray n k t Yi Yk VF) ⟨e,?_⟩⟩)
 rw[Yc];exact⟨.ref _,_,I.Vp (t':=s.toks) (r.rep k.toNat) (by rw[P4,Nat.mul_comm];exact hz),rfl,q _ I.fresh⟩
end
section
variable {s:ay}
end
section
variable {X:Cx}
end
end L2
namespace Att
open PySem PySem.W PySem.Calls PyProof.Rows
def wK{P:Params}:∀(c:List Int) (e:List ai),WellAll P h e (c.map WData.int)->IntsAre e c:=by
 intro c
 induction c with
 |nil=>intro e w;rw[qg]at w;cases w;exact .nil
 |cons n c ih=>
  intro e w;rw[aW]at w;cases w with
  |cons a b=>cases a;exact .cons _ _ (ih _ b)
theorem I0{l:OpenLaw}{n:Nat}(A:l.most=Y n){P:Params}{h:dC}{args:List WData}{c:List ai}(e:l.row.toRowW.claim.pre args=Z')(o:WellAll P h c args):
  ∃a s b,c=[cG a]/\args=[WData.list (b.map WData.int)]/\h.get? a=Y { cls :=.type "list",data :=.seq s.toArray }/\IntsAre s b/\b.length<=n:=by
 have p:WShape.hasAll [] args [.list .int]=true:=(pre_splitW e).1;have t:l.pre.holds [] { args:=args }=true:=(pre_splitW e).2;obtain⟨d,r,rfl,J,z⟩:=hasAllW_cons p;obtain rfl:=hasAllW_nil z;obtain⟨xs,rfl,C⟩:=hasW_list J;obtain⟨b,rfl⟩:=items_int C;have f:b.length<=n:=by
  unfold OpenLaw.pre at t;have m:(WTm.not (.lt (.lit (.int (n:Int))) (.len (.arg 0)))).holds [] { args:=[.list (b.map .int)] }=true:=by have m:=(holds_andW t).1;rw[A]at m;exact m
  have k:=condW_of m (w_not (w_lt w_lit (w_len_list (w_arg rfl))));rw[bj]at k;refine Nat.le_of_not_lt λq =>?_
  have w:(n:Int)<((b.length:Nat):Int):=by omega
  first
   |(rw[decide_eq_true w]at k;exact absurd k ſ)
   |(simp at k;omega)
 cases o with
 |cons v u=>
  cases u;cases v with|list x g=>exact⟨_,_,b,rfl,rfl,x,wK b _ g,f⟩
def Je(l:OpenLaw)(args:List WData):l.row.toRowW.claim.post args (.bool Z') args=true:=
 postW_of (r:=l.row.toRowW) (X:=(Z'==Z'))
  (show WShape.has [] (.bool Z') .bool=Z' by first|rfl|decide|simp[WShape.has,WShape.arms,WShape.armsAll])
  (show (WTm.eq .res (.lit (.bool Z'))).value [] { args:=args,res:=Y (.bool Z'),after:=args }=Y (.bool (Z'==Z')) from w_eq_bool (w_res rfl) w_lit) rfl
def Ep{l:OpenLaw}{n:Nat}{q:be}{e:List aG}{R:(aG->Option ai)->dC->Prop}{Q:dz->dC->Prop}{d:DefRec}(hn:l.most=Y n)(F:d.params.defaults=[]) (u:∀(w:dz) (c b:ay) (i C:aG->Option ai) (t:az) (o:Obj) (A x h:ai) (a:az) (k:List ai) (v:List Int),
   Ground q e [] R w c i C b.heap->Q w b.heap ->
   b.heap.get? t=Y o->o.data=.func (docDef d.name d.params d.body d.scope A x h)->b.heap.CodeRec x d.name->i d.name=Y (.ref t) ->
   b.heap.get? a=Y { cls :=.type "list",data :=.seq k.toArray }->IntsAre k v->v.length<=n->b.gens=#[] ->
   zg (bD l.prog w) CQ (.call (.ref t) ⟨[.ref a],[]⟩) (λr s'=>r=.ok (.ret (.bool Z'))/\OldK b.heap s'.heap/\s'.os=b.os/\EX s'.gens) b) :
  WalkO q e R Q l.row.toRowW d [] (λf k=>PySem.call f k):=by
 intro w c b i C G j t o A x h dV S ho hd H P E hg args K as m y T D hlo;obtain rfl:dV=.none:=Dflts.none P F;obtain rfl:S=.none:=Dflts.noKw P;obtain⟨a,k,v,rfl,rfl,p,g,s⟩:=I0 hn m D;refine enter_call (J_ (u w c b i C t o A x h a k v G j ho (fd_plain hd) H E p g s hg) λr s' X =>?_);obtain⟨rfl,z,h3,h4⟩:=X;exact⟨.inl ⟨.bool Z',.bool Z',[],rfl,λ_=>rfl,.bool Z',Je l _,λ_=>⟨List.Pairwise.nil,λ_ hm=>(nomatch hm)⟩⟩,z,h3,h4⟩
section
variable {s:ay}{K:aT}
end
end Att
namespace L2
open PySem PySem.Spec PyProof.Rows
def IM{a:List ai}{b:List Int}(h:IntsAre a b):cj (b.map V.int) a:=by
 induction h with|nil=>exact .nil|cons n t h ih=>exact .cons ⟨t,rfl⟩ ih
def M8(H:Hp):Prop:=∀b,H b=M\/∃o xs,H b=Y (.NG o (.lst xs))
def LX{P:be}{K:aT}{f:ay}(KX:K.In f.heap)(S:f.heap.Ns br i)(l:f.heap.Ns builtinsNs mb)(hbb:∀x:aG,x ≠ "__name__" ->mb x=hJ x)(T:f.heap.NoLimit)(hg:f.gens=#[])(ha:f.heap.get? a=Y { cls :=.type "list",data :=.seq A.toArray })(L:IntsAre A E)(hl:E.length<=a9)(hr:fN k CQ)(F:∀base:dC,K.In base->base.Ns br i->dg P w K i base CX k fa I [x] sp)(C:∀(s:ay) (u:ai),Kb s I ⟨[u],[]⟩ [(x,u)])(hsp:∀H:Hp,M8 H->lR K H a (E.map V.int)->sp [.ref a] H (λv _=>v=.bl Z') λ_ _ _=>False)(hCX:∀H e s',CX [] H f (λ_ _ _=>False) e s'->False):
  zg (bD P w) CQ (.call (.ref fa) ⟨[.ref a],[]⟩) (λr s'=>r=.ok (.ret (.bool Z'))/\OldK f.heap s'.heap/\s'.os=f.os/\EX s'.gens) f:=by
 have rv:=IM L;have j:=L.length;have t:∀H:Hp,M8 H->lR K H a (E.map V.int)->oi P w H f.heap->(∀b,H b≠M->b=a)->(H a≠M->K.lookup a=M) ->
   zg (bD P w) CQ (.call (.ref fa) ⟨[.ref a],[]⟩) (λr s'=>r=.ok (.ret (.bool Z'))/\OldK f.heap s'.heap/\s'.os=f.os/\EX s'.gens) f:=by
  intro H hO hS R hA hK;have g:∀ {b:az}{o:Obj},f.heap.get? b=Y o->H b=M->(B6 f.heap H).get? b=Y o:=λe n=>Me e n
  have noA:∀ {b:az}{o:Obj}{es:Array DictEntry}{ep:Nat},f.heap.get? b=Y o->o.data=.dict es ep->H b=none:=fun {b o es ep} e d=>by
   rcases q:H b with _|u
   ·rfl
   have e':b=a:=hA b (by rw[q];simp);subst e';rw[ha]at e;cases e;have d':Data.seq A.toArray _=Data.dict es ep:=d;cases d'
  have p:∀ {b:az}{m:aG->Option ai},f.heap.Ns b m->(B6 f.heap H).Ns b m:=fun {b m} ⟨o,es,ep,e,d,r⟩=>⟨o,es,ep,g e (noA e d),d,r⟩
  have X:K.In (B6 f.heap H):=λb o e=>g (KX b o e) (by
   rcases q:H b with _|u
   ·rfl
   have e':b=a:=hA b (by rw[q];simp);subst e';rw[hK (by rw[q];simp)]at e;cases e)
  have hM:Mod K i (B6 f.heap H):=⟨X,p S,⟨mb,p l,hbb⟩,let ⟨mc,J,z⟩:=T;⟨mc,p J,z⟩⟩;have e0:zV P w K i (B6 f.heap H) CQ [] f H:=⟨rfl,hM,λb o e=>OG e,Nat.le_of_eq (JF _ _),trivial,λb l=>absurd (show b∈([]:List az) from l) Ž,R,.of_eq hg⟩;refine J_ ((F _ X (p S)).run CQ [] f H ⟨[.ref a],[]⟩ [.ref a] [.ref a] _ _ hr e0 (C f (.ref a)) (.cons rfl .nil) (hsp H hO hS)) λr s' h =>?_
  cases r with
  |error e=>exact(hCX H e s' h).elim|ok fl=>
   cases fl with
   |ret u=>
    obtain⟨v,H',os,bare,un,Q,r',q⟩:=h;have q':v=.bl true:=q;subst q';obtain rfl:u=Value.bool true:=r';refine⟨rfl,OldK.of_keep λb o e =>?_,os,bare⟩;cases q:H b with
    |none=>exact un.keep b o e q (by intro c;exact absurd (show b∈([]:List az) from c) Ž) Ž
    |some u=>
     rcases hO b with c|⟨ob,xs,c⟩
     ·rw[q]at c;cases c
     ·have z2:=un.Cd b ob _ c;obtain⟨e1,_⟩:=R b _ c;obtain⟨e2,_⟩:=Q b _ z2;rw[e]at e1;cases e1;exact e2
   |_=>exact qB h
 cases hk:K.lookup a with
 |some o=>have e:=KX a o hk;rw[ha]at e;cases e;refine t (λ_=>M) (λ_ =>.inl rfl) (.inr ⟨_,A.toArray,_,hk,rfl,rfl,rfl,by rw[aU,j];exact hl,by simpa using rv⟩) (λb u c=>by have D:(M:Option HO)=Y u:=c;cases D) (λb c=>absurd rfl c) λc=>absurd rfl c
 |none=>
  refine t (λb=>if b=a then Y (.NG { cls :=.type "list",data :=.seq A.toArray } (.lst (E.map V.int))) else M) (λb =>?_) (.inl (.inr ⟨{ cls :=.type "list",data :=.seq A.toArray },if_pos rfl⟩)) (λb u c =>?_) (λb c =>?_) λ_=>hk
  ·by_cases l:b=a
   ·exact .inr ⟨_,_,if_pos l⟩
   ·exact .inl (if_neg l)
  ·by_cases l:b=a
   ·have D:=(if_pos l).symm.trans c;cases D;subst l;exact⟨ha,by rw[bj];exact hl,A,_,rv,ha⟩
   ·have D:=(if_neg l).symm.trans c;cases D
  ·by_cases l:b=a
   ·exact l
   ·exact absurd (if_neg l) c
def NQ{l:PySem.W.OpenLaw}{n k:Nat}{q:be}{c:List aG}{R:dz->dC->Prop}{d:DefRec}{K:Params->aT}{CX:dz->Tz}{sp:dz->Sp}{x:aG}(X:l.most=Y n)(C:n<=a9)(E:d.params.defaults=[])(T:fN k CQ)(hY:∀(w:dz) (h:dC),R w h->(K w.params).In h) (F:∀(w:dz) (i:aG->Option ai) (t:az) (h:dC),(K w.params).In h->h.Ns br i->i d.name=Y (.ref t) ->
   ∃I:fy,(∀(s:ay) (u:ai),Kb s I ⟨[u],[]⟩ [(x,u)]) /\
    ∀base:dC,(K w.params).In base->base.Ns br i->dg l.prog w (K w.params) i base (CX w) k t I [x] (sp w)) (A:∀(w:dz) (H:Hp) (a:az) (r:List Int),r.length<=n->M8 H->lR (K w.params) H a (r.map V.int)->sp w [.ref a] H (λv _=>v=.bl Z') λ_ _ _=>False) (y:∀(w:dz) (H:Hp) (s:ay) (e:ai) (s':ay),CX w [] H s (λ_ _ _=>False) e s'->False) :
  PySem.W.WalkO q c XP R l.row.toRowW d [] (λf P=>PySem.call f P):=by
 refine Att.Ep X E λw Q m i mb t o pm cd QY a P r G j ho hd ZJ D p g b hg =>?_
 have S:=hY w _ j;obtain⟨I,hb,hF⟩:=F w i t _ S G.T.g D;exact LX S G.T.g G.T.b G.T.builtins G.T.nolimit hg p g (a7 b C) T hF hb (λH hO hS=>A w H a r b hO hS) λH e s'=>y w H m e s'
def Kj{l:PySem.W.OpenLaw}{n k:Nat}{q:be}{b:List aG}{P:(aG->Option ai)->dC->Prop}{t:dz->dC->Prop}{d:DefRec}{K:Params->aT}{CX:Tz}{sp:aT->Sp}{x:aG}(D:l.most=Y n)(m:n<=a9)(o:d.params.defaults=[])(C:fN k CQ)(E:∀(w:dz) (h:dC),t w h->(K w.params).In h) (F:∀(w:dz) (i:aG->Option ai) (r:az) (h:dC),(K w.params).In h->h.Ns br i->i d.name=Y (.ref r) ->
   ∃I:fy,(∀(s:ay) (u:ai),Kb s I ⟨[u],[]⟩ [(x,u)]) /\
    ∀base:dC,(K w.params).In base->base.Ns br i->dg l.prog w (K w.params) i base CX k r I [x] (sp (K w.params))) (g:∀(K:aT) (H:Hp) (a:az) (c:List Int),c.length<=n->M8 H->lR K H a (c.map V.int)->sp K [.ref a] H (λv _=>v=.bl Z') λ_ _ _=>False) (p:∀(H:Hp) (s:ay) (e:ai) (s':ay),CX [] H s (λ_ _ _=>False) e s'->False) :
  PySem.W.WalkO q b P t l.row.toRowW d [] (λf A=>PySem.call f A):=
 NQ (K:=K) (CX:=λ_=>CX) (sp:=λw=>sp (K w.params)) D m o C E F (λw H a c J z j=>g (K w.params) H a c J z j) λ_ H s e s'=>p H s e s'
noncomputable def jV(s:eJ)(j:Nat):eJ:=match s with
 |.ClassDef _ _ _ a _ _ _ _ _ _ _=>a.getD j (.Pass ⟨0,0,0,0⟩)|_ =>.Pass ⟨0,0,0,0⟩
noncomputable def nF(s:eJ):Arguments:=match s with
 |.FunctionDef _ a _ _ _ _ _ _ _ _=>a|_=>{ posonlyargs:=[],args:=[],vararg:=M,kwonlyargs:=[],kw_defaults:=[],kwarg:=M,defaults:=[] }
noncomputable def iU(s:eJ):List eJ:=match s with
 |.FunctionDef _ _ b _ _ _ _ _ _ _=>b|_=>[]
noncomputable def aM(s:eJ):Scope:=match s with
 |.FunctionDef _ _ _ _ _ _ a _ _ _=>a|_=>{ kind :=.function,names:=[],isGenerator:=Z_,isCoroutine:=Z_ }
abbrev jA:Tz:=λ_ _ _ _ _ _=>False
abbrev E0:XK:=λ_ _ _=>False
def nq{X:Cx}:tN jA X E0:=λ_ _ _ _ _ _ _ h=>h.elim
structure kh(K:aT)(x qual:aG)(st:eJ)(f:az)(fd:fy):Prop where
 ex:∃(oc:ai) (od:Option az) (kV QY pm:ai) (an:Option az) (Py ct:ai) (XN:Array (Option ai)),
  fd=fnOf x qual (nF st) (iU st) (aM st) .none kV QY pm an Py ct/\K.lookup f=some ⟨oc,od,.func fd,XN⟩/\codeIn K Py qual=true
 kp:EC K (.ref f)=true
section
variable {P:be}{K:aT}
def kh.ok{st:eJ}{f:az}(F:kh K x c st f I)(S:bM N q (aM st))(m:∀g H Q E,sp g H Q E->g.length=q.length) (l:∀(e:ai) (A:jd) (b:List Env) (s:ay) (H:Hp) (g:List V) (Q:VK) (E:XK),fN k (A.deeper (vj c (aM st) s.heap.objs.size f e))->sp g H Q E ->
   ∃t,sx (yU jA P w K i base N c (aM st) f e A b s H E).OH (iU st) t/\t { nx:=λ_ H'=>Q .dJ H',rt:=Q } (start N g) H):dg P w K i base jA (k+1) f I q sp:=by
 obtain⟨d,D,R,v,C,X,e,T,r,rfl,lk,p⟩:=F.ex;refine VP lk p S m λA b s H g Q E u o =>?_
 obtain⟨t,h,a⟩:=l e A b s H g Q E u o;exact⟨t,h.OH,a⟩
def kh.binds{st:eJ}{f:az}(F:kh K x a st f I)(h:∀(k b g:ai) (m:Option az) (c l:ai) (e:List ai),e.length=q.length->bindArgs (fnOf x a (nF st) (iU st) (aM st) .none k b g m c l) ⟨e,[]⟩=fi (q.zip e)):Binds K I q []:=by
 obtain⟨s,r,k,b,g,m,c,l,o,rfl,lk,p⟩:=F.ex;exact .all (h k b g m c l)
def Mn{st:eJ}{f:az}{s:ai}{m:ai}(l:K.lookup f=Y ⟨s,r,.func (fnOf x a (nF st) (iU st) (aM st) .none m e h p b o),g⟩)(c:codeIn K b a=Z')(k:EC K (.ref f)=Z'):kh K x a st f (fnOf x a (nF st) (iU st) (aM st) .none m e h p b o):=⟨⟨s,r,m,e,h,p,b,o,g,rfl,l,c⟩,k⟩
end
def mS(a:fN k A):A.units+1<mZ:=qz (Nat.add_le_add_left (by decide:1<=64) _) a.units
section
variable {X:Cx}
def pv(i:Nat)(e:autoParam (X.N[i]?=Y x) ų)(b:autoParam (Tp X.env.scope x) ŷ)(c:autoParam ((x==("__debug__" : aG))=false) ű)(a:autoParam ((x==("__classdict__" : aG))=false) ű):PE X (.Name x G) (jf i):=Rz e b c a
end
def DY{A B:Prop}(h:B):if Z_=Z' then A else B:=by
 rw[if_neg bS];exact h
def B2{A B:Prop}(h:A):if Z'=Z' then A else B:=by
 rw[if_pos rfl];exact h
def L7{c A B:Prop}[Decidable c](J:c->A)(z:¬c->B):if c then A else B:=by
 by_cases h:c
 ·rw[if_pos h];exact J h
 ·rw[if_neg h];exact z h
def bG(H H':Hp):Prop:=∀b o,H b=Y o->H' b=Y o
def bG.refl(H:Hp):bG H H:=λ_ _ h=>h
def bG.trans{d:Hp}(a:bG H O)(b:bG O d):bG H d:=λc o h=>b c o (a c o h)
def bG.free(e:bG H H')(h:H' l=Option.none):H l=Option.none:=by
 rcases q:H l with _|o
 ·rfl
 rw[e l o q]at h;cases h
def bG.seq{K:aT}{a:az}(e:bG H H')(h:lR K H a xs):lR K H' a xs:=by
 rcases h with (h|⟨o,h⟩)|h
 ·exact .inl (.inl (e _ _ h))
 ·exact .inl (.inr ⟨o,e _ _ h⟩)
 ·exact .inr h
section
variable {P:be}
def oi.GP(x:oi P w H h)(f:H a=M)(d:hZ P w (de H a o) h a o):oi P w (de H a o) h:=λb u e=>by
 by_cases k:b=a
 ·subst k;rw[bh]at e;cases e;exact d
 ·rw[aS k]at e;exact(x b u e).xK (λc v _ q=>q) (λc q=>by rw[aS (bu q f)];exact q) λc l q=>by rw[aS (bu q f)];exact q
def oi.Bn(x:oi P w (de H a (.lst d)) h)(m:H a=M):oi P w H h:=λb u e=>by
 have n:b≠a:=bu e m;have k:∀c v,de H a (.lst d) c=Y v->v ≠ .lst d->H c=Y v:=λc v q l=>by
  by_cases f:c=a
  ·subst f;rw[bh]at q;cases q;exact absurd rfl l
  ·rwa [aS f]at q
 exact(x b u (by rw[aS n];exact e)).xK (λc v _ q=>q) (λc q=>k c _ q (by intro z;cases z)) λc i q=>k c _ q (by intro z;cases z)
end
noncomputable def lobj(g:List ai)(n:Nat):Obj:={ cls :=.type "list",data :=.seq g.toArray n }
section
variable {X:Cx}{s:ay}{D:az}
def Inv.GP(I:Inv X (j++[(D,lobj g n)]) t H s)(r:cj i g)(A:i.length<=a9)(E:X.s₀.heap.objs.size<=D)(B:∀p∈X.pn++j,p.1≠D):Inv X j t (de H D (.lst i)) s:=by
 obtain⟨e,d,C,N,_⟩:=I.pin (D,lobj g n) Ž;have f:∀b o,X.s₀.heap.get? b=Y o->b≠D:=λb o q z=>by have l:=aR q;subst z;exact jF _ (bq l E)
 refine⟨I.ok,I.os,I.bare,⟨I.base.keep,I.base.slot,λb o q m x =>?_,I.base.there,λb k q =>?_,λb o u q =>?_,λb w q =>?_⟩,I.loc,I.cell,?_,λx c q =>?_,λp q =>?_,I.f'.GP d ⟨A,g,n,r,e⟩,I.len⟩
 ·rw[aS (f b o q)];exact I.base.free b o q m x
 ·have:=I.base.CZ b k q;rw[aS (bu this d)];exact this
 ·have:=I.base.Cd b o u q;rw[aS (bu this d)];exact this
 ·obtain⟨a,this⟩:=I.base.C2 b w q;exact⟨a,by rw[aS (bu this d)];exact this⟩
 ·rw[aS (bU C)];exact I.free
 ·have y:c≠D:=λz=>by obtain⟨v,L,h,F⟩:=I.cell x c q;rw[z,e]at h;cases h;cases F
  rw[aS y];exact I.oS x c q
 ·obtain⟨K,J,G⟩:=I.pin p (by rw[<- bH];exact aJ _ q);exact⟨K,by rw[aS (B p q)];exact J,G⟩
def Inv.Bn(I:Inv X j t (de H D (.lst i)) s)(h:H D=M)(B:D≠X.env.locals)(C:D∉X.fs):∃g n,cj i g/\i.length<=a9/\Inv X (j++[(D,lobj g n)]) t H s:=by
 obtain⟨A,g,n,r,e⟩:=I.f' D _ bh;have k:∀c v,de H D (.lst i) c=Y v->v ≠ .lst i->H c=Y v:=λc v q y=>by
  by_cases d:c=D
  ·subst d;rw[bh]at q;cases q;exact absurd rfl y
  ·rwa [aS d]at q
 have f:∀c,de H D (.lst i) c=M->H c=none:=λc q=>by
  by_cases d:c=D
  ·subst d;exact h
  ·rwa [aS d]at q
 refine⟨g,n,r,A,I.ok,I.os,I.bare,⟨I.base.keep,I.base.slot,λb o q m x=>f _ (I.base.free b o q m x),I.base.there,λb l q=>k _ _ (I.base.CZ b l q) (by intro z;cases z),λb o u q=>k _ _ (I.base.Cd b o u q) (by intro z;cases z),λb w q =>?_⟩,I.loc,I.cell,f _ I.free,λx c q=>f _ (I.oS x c q),λp q =>?_,I.f'.Bn h,I.len⟩
 ·obtain⟨a,this⟩:=I.base.C2 b w q;exact⟨a,k _ _ this (by intro z;cases z)⟩
 ·rw[<- bH]at q;rcases aD.mp q with q|q
  ·obtain⟨G,F,E⟩:=I.pin p q;exact⟨G,f _ F,E⟩
  ·have:p=(D,lobj g n):=by simpa using q
   subst this;exact⟨e,h,B,C,λv z=>by cases z⟩
end
theorem iG:∀(a:List (aG×t6)) (n:Nat) (acc:List (aG×az)),fx n a acc=fx n a []++acc
 |[],n,acc=>rfl| (x,k)::r,n,acc=>by
  unfold fx;split
  ·rw[iG r (n+1) ((x,n)::acc),iG r (n+1) [(x,n)],bH];rfl
  ·exact iG r n acc
theorem kF:∀(a:List (aG×t6)) (n:Nat) (b:List (aG×az)) (x:aG) (c:az),(x,c)∈fx n a b->(x,c)∈b\/(x,qm)∈a
 |[],n,b,x,c,h =>.inl h| (y,k)::r,n,b,x,c,h=>by
  unfold fx at h;split at h
  ·rename_i d;rcases kF r _ _ x c h with q|q
   ·rcases au.mp q with e|q
    ·cases e;have:k=.cell:=by simpa using d
     subst this;exact .inr Ž
    ·exact .inl q
   ·exact .inr (aj _ q)
  ·rcases kF r _ _ x c h with q|q
   ·exact .inl q
   ·exact .inr (aj _ q)
noncomputable def kT(a:List (aG×az)):List (aG×t6)->List (aG×az)->List (aG×az)
 |[],b=>b|(x,k)::r,b=>if k == .free then kT a r ((x,(a.lookup x).getD 0)::b) else kT a r b
theorem qY{env:Env}(f:aG×t6->List (aG×az)->Sem (ForInStep (List (aG×az))))
  (hf:∀name kind cs,f (name,kind) cs=if kind == .free then (do let a <- cellOf env name;fi (.yield ((name,a)::cs))) else fi (.yield cs)) :
  ∀(names:List (aG×t6)) (acc:List (aG×az)),(∀y∈names,y.2=.free->∃c,env.cells.lookup y.1=Y c)->(forIn names acc f:Sem _)=fi (kT env.cells names acc)
 |[],acc,_=>by rw[List.forIn_nil];rfl
 | (x,k)::r,acc,h=>by
  rw[List.forIn_cons,hf];unfold kT;cases hk:k==hV with
  |false=>simp only[dO,if_false];exact qY f hf r acc λy hy=>h y (aj _ hy)
  |true=>
   obtain⟨c,e⟩:=h (x,k) aF (by simpa using hk);have e:env.cells.lookup x=Y c:=e;have e2:cellOf env x=fi c:=by unfold cellOf;rw[e]
   simp only[if_true];rw[e2,e];exact qY f hf r _ λy hy=>h y (aj _ hy)
def zM{env:Env}(h:∀y∈a.names,y.2=.free->∃c,env.cells.lookup y.1=Y c):closureFor a env=fi (kT env.cells a.names []):=by
 simp only[closureFor];rw[qY (env:=env) _ (λname b d=>by cases b==hV<;>rfl) a.names [] h];rfl
theorem v8:∀ {a:List (aG×t6)}{d:List (aG×az)}{x:aG}{c:az},(x,c)∈kT b a d->(x,c)∈d\/((x,hV)∈a/\c=(b.lookup x).getD 0)
 |[],d,x,c,h =>.inl h| (y,k)::r,d,x,c,h=>by
  unfold kT at h;split at h
  ·rename_i f;rcases v8 h with q|q
   ·rcases au.mp q with e|q
    ·cases e;have:k=.free:=by simpa using f
     subst this;exact .inr ⟨Ž,rfl⟩
    ·exact .inl q
   ·exact .inr ⟨aj _ q.1,q.2⟩
  ·rcases v8 h with q|q
   ·exact .inl q
   ·exact .inr ⟨aj _ q.1,q.2⟩
theorem tK:∀ {b:List (aG×t6)}{a:List (aG×az)}{x:aG},(∃c,(x,c)∈a)->∃c,(x,c)∈kT d b a
 |[],a,x,h=>h| (y,k)::r,a,x,⟨c,h⟩=>by
  unfold kT;split
  ·exact tK ⟨c,aj _ h⟩
  ·exact tK ⟨c,h⟩
theorem v9{cells:List (aG×az)}:∀ {a:List (aG×t6)}{acc:List (aG×az)}{x:aG},(x,hV)∈a->∃c,(x,c)∈kT cells a acc
 | (y,k)::r,acc,x,h=>by
  unfold kT;rcases au.mp h with e|h
  ·cases e;exact tK ⟨_,aF⟩
  ·split
   ·exact v9 h
   ·exact v9 h
theorem sm:∀ {l:List (aG×a)}{x:aG}{c:a},(x,c)∈l->∃d,l.lookup x=Y d
 | (y,v)::r,x,c,h=>by
  rw[dy];cases b:x==y with
  |true=>exact⟨v,rfl⟩|false=>
   rcases au.mp h with e|h
   ·cases e;simp at b
   ·exact sm h
theorem pD:∀ {l r:List (aG×a)}{x:aG},(l++r).lookup x=(l.lookup x).or (r.lookup x)
 |[],r,x=>by simp
 | (y,v)::l,r,x=>by
  rw[fS,dy,dy];cases b:x==y with
  |true=>rfl|false=>exact pD
theorem mR{a:Env}:∀ {b:List (aG×t6)}{x:aG},(b.map λ(n,k)=>if (k==hV&&a.scope.kind == .function&&a.kindOf n==Y .cell) then (n,qm) else (n,k)).lookup x =
  (b.lookup x).map λk=>if (k==hV&&a.scope.kind == .function&&a.kindOf x==Y .cell) then qm else k
 |[],_=>rfl| (n,k)::r,x=>by
  have ih :=@mR a r x;show lI x ((if (k==hV&&a.scope.kind == .function&&a.kindOf n==Y .cell)=Z' then (n,qm) else (n,k))::_)=_;cases d:x==n with
  |true=>
   have e:x=n:=by simpa using d
   subst e;by_cases c:(k==hV&&a.scope.kind == .function&&a.kindOf x==Y .cell)=Z'
   ·rw[if_pos c];simp only[dy,d,bP,if_pos c]
   ·rw[if_neg c];simp only[dy,d,bP,if_neg c]
  |false=>
   by_cases c:(k==hV&&a.scope.kind == .function&&a.kindOf n==Y .cell)=Z'
   ·rw[if_pos c];simp only[dy,d];exact ih
   ·rw[if_neg c];simp only[dy,d];exact ih
def oK{a b:Nat}(h:a<b):a<b:=h
def Vm{b:Nat}(h:a<=b):a<=b:=h
def yk{a b:Nat}(h:a=b):a=b:=h
abbrev lP(X:Cx)(f:Scope)(C:az):Env:=
 { scope:=QZ f X.env,locals:=C,globals:=X.env.globals,cells:=fx (C+1) f.names (kT X.env.cells f.names []),qual:=X.env.qual,func:=M,code:=X.env.code,frame:=X.env.frame,builtins:=X.env.builtins }
def Cx.sv(X:Cx)(N:List aG)(f:Scope)(C:az)(s:ay)(H:Hp)(a:List az):Cx:=
 { X with N:=N,s₀:=s,H₀:=H,env:=lP X f C,outer:=X.stack,stack:=X.stack,ex:=a,fn:=λx=>f.names.lookup x==Y .cell,pn:=[],xe:=λ_ _=>False }
noncomputable def mF(t:List (Option Nat))(w:St):St:=t.map λo=>match o with|some j=>(w[j]?).getD M|none=>M
structure fQ(X:Cx)(N:List aG)(src:List (Option Nat))(scope:Scope):Prop where
 kind:scope.kind=.function
 uniq:∀y∈scope.names,scope.names.lookup y.1=some y.2
 free:∀y∈scope.names,y.2=.free->X.env.scope.names.lookup y.1=some .cell\/X.env.scope.names.lookup y.1=some .free
 len:src.length=N.length
 VM:∀(i j:Nat) (x:aG),src[i]?=some (some j)->N[i]?=some x->X.N[j]?=some x/\scope.names.lookup x=some .free
section
variable {X:Cx}{s:ay}{f:Scope}
def FN{g:Model}(l:∀c,(∀b o,s.heap.get? b=Y o->c.get? b=Y o)->c.Ns s.heap.objs.size (λ_=>M)->CellsOk c (s.heap.objs.size+1) (fx (s.heap.objs.size+1) f.names []) ->
   Q { scope:=f,locals:=s.heap.objs.size,globals:=X.env.globals,cells:=fx (s.heap.objs.size+1) f.names j,qual:=X.env.qual,func:=M,code:=X.env.code,frame:=X.env.frame,builtins:=X.env.builtins } { s with heap:=c }) :
  bz g A (TM f X.env.globals j [] X.env.qual M .none (Y X.env)) Q E s:=by
 simp only[TM,Option.isSome_some,if_true];refine aE (wpAny_alloc ?_);refine aE (wpAny_layCells _ (λname a h=>by cases d:a==qm<;>simp[d]) _ _ _ _ ?_);have i:=cellsFrom_ok f.names (s.heap.push { cls :=.type "dict",data :=.dict #[] }) (s.heap.objs.size+1) [] ⟨λ_ _ k=>(nomatch k),List.Pairwise.nil⟩ (by rw[dX];exact aw _);rw[dX]at i;rw[show ({ s with heap:=s.heap.push { cls :=.type "dict",data :=.dict #[] } }:ay).heap.objs.size=s.heap.objs.size+1 from dX ..];rw[List.forIn_nil];exact aE (bC (bC (l _ (λb o e=>pushCells_keeps _ _ b o (af _ e)) ((Heap.Ns.new s.heap (.type "dict")).keeps (pushCells_keeps _ _)) i)))
theorem lx(S:fQ X N t f)(i:X.Ok)(h:(lP X f C).cells.lookup x=Y c):
  (f.names.lookup x=Y .cell/\(x,c)∈fx (C+1) f.names [])\/(f.names.lookup x=Y .free/\X.env.cells.lookup x=Y c):=by
 have h:(fx (C+1) f.names (kT X.env.cells f.names [])).lookup x=Y c:=h;rw[iG,pD]at h;cases e:(fx (C+1) f.names []).lookup x with
 |some d=>
  rw[e]at h;have:d=c:=by simpa using h
  subst this;have q:=PySem.mem_of_lookup e;rcases kF _ _ _ _ _ q with z|z
  ·simp at z
  ·exact .inl ⟨S.uniq _ z,q⟩
 |none=>
  rw[e]at h;have h:(kT X.env.cells f.names []).lookup x=Y c:=by simpa using h
  rcases v8 (PySem.mem_of_lookup h) with z|⟨z,a⟩
  ·simp at z
  ·obtain⟨d,b⟩:=i.has x (S.free _ z rfl);rw[b]at a;exact .inr ⟨S.uniq _ z,by rw[b,a];rfl⟩
def PH(S:fQ X N t f)(h:f.names.lookup x=Y .cell):∃c,(lP X f C).cells.lookup x=Y c:=by
 obtain⟨c,e⟩:=yX (sc:=f) (n:=C+1) h;refine⟨c,?_⟩;show (fx (C+1) f.names (kT X.env.cells f.names [])).lookup x=Y c;rw[iG,pD,e];rfl
def En(S:fQ X N t f)(a:X.Ok){C:az}(h:f.names.lookup x=Y .free):∃c,(lP X f C).cells.lookup x=Y c/\X.env.cells.lookup x=Y c:=by
 have b:=PySem.mem_of_lookup h;obtain⟨d,i⟩:=v9 (cells:=X.env.cells) (acc:=[]) b;obtain⟨c,j⟩:=sm i;have e:(lP X f C).cells.lookup x=Y c:=by
  show (fx (C+1) f.names (kT X.env.cells f.names [])).lookup x=Y c;rw[iG,pD];rcases e:(fx (C+1) f.names []).lookup x with _|d
  ·simpa using j
  rcases kF _ _ _ _ _ (PySem.mem_of_lookup e) with z|z
  ·simp at z
  ·have:=S.uniq _ z;rw[h]at this;cases this
 rcases lx S a e with⟨z,_⟩|⟨_,z⟩
 ·rw[h]at z;cases z
 ·exact⟨c,e,z⟩
def Em(x:aG):(lP X f C).kindOf x=(f.names.lookup x).map λk=>if (k==hV&&X.env.scope.kind == .function&&X.env.kindOf x==Y .cell) then qm else k:=by
 show (QZ f X.env).names.lookup x=_;exact mR
def C6{i:Nat}{v:V}(h:(mF t w)[i]?=Y (Y v)):∃j,t[i]?=Y (Y j)/\w[j]?=Y (Y v):=by
 unfold mF at h;rw[aV]at h;obtain⟨o,e,h⟩:=ak.1 h;rw[e];cases o with
 |none=>cases h|some j=>
  refine⟨j,rfl,?_⟩;have h:(w[j]?).getD M=Y v:=by simpa using h
  rcases q:w[j]? with _|z
  ·rw[q]at h;cases h
  rw[q]at h;rw[show z=Y v from h]
def JT{ex:List az}{h':dC}{D C:Nat}{o:Obj}(S:fQ X N t f)(I:Inv X B w H g)(J:∀b∈ex,zb X B H b)(P:∀b∈ex,∃o,g.heap.get? b=Y o)
  (hD:D=g.heap.objs.size) (hC:C=g.heap.objs.size+1) (G:∀b o,g.heap.get? b=Y o->h'.get? b=Y o) (T:h'.get? D=Y o) (R:∀v,o.data ≠ .cell v)
  (Q:h'.Ns C (λ_=>M)) (E:CellsOk h' (C+1) (fx (C+1) f.names [])) :
  Inv (X.sv N f C g H ex) (X.pn++B++[(D,o)]) (mF t w) H { g with heap:=h' }:=by
 have lt:∀ {b:Nat}{o:Obj},g.heap.get? b=Y o->b<g.heap.objs.size:=λe=>aR e
 have fr:∀a:Nat,g.heap.objs.size<=a->H a=none:=λa h=>I.f'.fresh h
 have A:∀(x:aG) (c:Nat),X.env.cells.lookup x=Y c->c<g.heap.objs.size:=λx c e=>by obtain⟨v,z⟩:=I.cell x c e;exact z.lt
 have d:∀ {x:aG}{c:Nat},(x,c)∈fx (C+1) f.names []->C+1<=c:=λq=>(E.empty _ _ q).2
 refine⟨⟨I.mod,S.kind,I.ok.glob,I.ok.blt,?_,?_,?_,?_,I.ok.hd,I.ok.frames,.inl rfl,?_,I.bs,?_,?_,?_,I.stack,I.GU⟩,rfl,I.bare,Un.kept G,⟨_,Q,?_⟩,?_,?_,?_,?_,I.f'.kept G,?_⟩
 ·show g.heap.objs.size<=C;omega
 ·intro x y c s U;rcases lx S I.ok s with⟨_,a⟩|⟨_,a⟩<;>rcases lx S I.ok U with⟨_,b⟩|⟨_,b⟩
  ·exact name_of_addr E.apart a b
  ·have:C+1<=(c:Nat):=d a;have:=oK (A _ _ b);omega
  ·have:C+1<=(c:Nat):=d b;have:=oK (A _ _ a);omega
  ·exact I.ok.inj x y c a b
 ·intro x n;have n:(lP X f C).kindOf x=Y .cell\/(lP X f C).kindOf x=Y .free:=n;rw[Em]at n;rcases e:f.names.lookup x with _|k
  ·rw[e]at n;rcases n with z|z<;>cases z
  cases k with
  |cell=>exact PH S e|free=>obtain⟨c,q,_⟩:=En S I.ok e;exact⟨c,q⟩
  |_=>rw[e]at n;exfalso;revert n;simp
 ·intro x c n s;have n:f.names.lookup x=Y .cell:=by have:(f.names.lookup x==Y .cell)=true:=n;simpa using this
  show g.heap.objs.size<=c;rcases lx S I.ok s with⟨_,a⟩|⟨z,_⟩
  ·have:C+1<=(c:Nat):=d a;show g.heap.objs.size<=(c:Nat);omega
  ·rw[n]at z;cases z
 ·intro b F;obtain⟨L,e⟩:=P b F;have l:=oK (lt e);refine⟨λz =>?_,λx c s z =>?_⟩
  ·have z:=yk (a:=b) (b:=C) z;omega
  ·subst z;rcases lx S I.ok s with⟨_,a⟩|⟨_,a⟩
   ·have:C+1<=(c:Nat):=d a;omega
   ·exact(J c F).2.2.2.2.1 x c a rfl
 ·show X.base.objs.size<=g.heap.objs.size;have:=I.ok.MV;have:=I.sz;omega
 ·intro b L e F;rcases(J b F).2.2.2.1 with z|z
  ·exact I.ok.Ln b L e z
  ·have e:X.base.get? b=Y L:=e;have a:=oK (aR e);have:=I.ok.MV;have z:X.s₀.heap.objs.size<=(b:Nat):=z;omega
 ·intro b F;intro z;have z:b∈Ce X.stack:=z;have:=I.sE b z;rcases au.mp this with q|q
  ·exact(J b F).2.1 q
  ·exact(J b F).2.2.1 q
 ·intro i x v s U h3;obtain⟨j,e1,e2⟩:=C6 U;obtain⟨e3,e4⟩:=S.VM i j x e1 s;obtain⟨m,hm,hl⟩:=I.loc;have W:=S.free _ (PySem.mem_of_lookup e4) rfl;have K:Tp X.env.scope x :=.inr W;obtain⟨u,r,lk⟩:=hl j x v e3 e2 K;refine⟨u,r,?_⟩;rcases lk with⟨z,_⟩|⟨_,c,ec,cc⟩
  ·exfalso;have z:X.env.scope.names.lookup x=Y .local:=z;rw[z]at W;rcases W with q|q<;>cases q
  ·obtain⟨c',q1,q2⟩:=En (C:=C) S I.ok e4;rw[ec]at q2;cases q2;refine .inr ⟨?_,c,q1,cc.keeps G⟩;show (lP X f C).kindOf x=Y .cell\/(lP X f C).kindOf x=Y .free;rw[Em,e4,bP];split
   ·exact .inl rfl
   ·exact .inr rfl
 ·intro x c s;rcases lx S I.ok s with⟨_,a⟩|⟨_,a⟩
  ·exact⟨M,(E.empty _ _ a).1⟩
  ·obtain⟨v,z⟩:=I.cell x c a;exact⟨v,z.keeps G⟩
 ·exact fr C ž
 ·intro x c s;rcases lx S I.ok s with⟨_,a⟩|⟨_,a⟩
  ·have:C+1<=(c:Nat):=d a;exact fr c ž
  ·exact I.oS x c a
 ·intro p O;have O:p∈X.pn++B++[(D,o)]:=by simpa [Cx.sv] using O
  rcases aD.mp O with q|q
  ·obtain⟨a1,a2,a3,a4,a5⟩:=I.pin p q;refine⟨G _ _ a1,a2,λz =>?_,λz =>?_,a5⟩
   ·have z:=yk (a:=p.1) (b:=C) z;have q:=oK (lt a1);omega
   ·have z:p.1∈Ce X.stack:=z;rcases au.mp (I.sE _ z) with q|q
    ·exact a3 q
    ·exact a4 q
  ·have:p=(D,o):=by simpa using q
   subst this;refine⟨T,fr D ž,λz =>?_,λz =>?_,R⟩
   ·have z:D=C:=z;omega
   ·have z:D∈Ce X.stack:=z;rcases au.mp (I.sE _ z) with q|q
    ·have l:=oK I.lt;have q:=yk (a:=D) (b:=X.env.locals) q;omega
    ·exact I.RQ (show g.heap.objs.size<=D by omega) q
 ·show (mF t w).length=N.length;unfold mF;rw[bj];exact S.len
end
section
variable {R:Result->ay->Prop}{s:ay}
theorem Cq{f:Scope}(I:Nat->ay->Prop) (kj:∀n s,I n s->bz (bD E w) A (pyNext J) (λr i=>match r with
   |none=>R (.ok .next) i| some v=>bz (bD E w) A (zq b J v) (λ_ g=>bz (bD E w) A (GD b d v) (λ_ p=>
     bz (bD E w) A (forIn B Z' λc r=>if r=Z' then do let C <- isTrue c d (eval c d);fi (vm C) else fi (vm r)) (λC e=>
      if C=Z' then bz (bD E w) A (eval L d) (λx o=>bz (bD E w) A (call (.builtin "list.append") [z,x]) (λ_ k=>∃m,m<n/\I m k) (λ_ _=>False) o) (λ_ _=>False) e
      else ∃m,m<n/\I m e) (λ_ _=>False) p) (λ_ _=>False) g) (λ_ _=>False) i) (λ_ _=>False) s) (n:Nat) (h:I n s) :
  zg (bD E w) A (.compLoop (.ListComp L [⟨b,G,B,0⟩] f U) 0 J z d) R s:=by
 refine codeAny_loop rfl I (λn s K =>?_) n h;show bz _ A ((compTurn (.ListComp L [⟨b,G,B,0⟩] f U) 0 J z d).onRaise (λx=>do noteFrame x d;theTreesLotGoes x)) _ _ s;refine wpAny_noted ?_;rw[compTurn_list];refine aE (wpAny_standAt (aE (ir (kj n s K) (λr i t =>?_) λ_ _ j=>j.elim)));cases r with
 |none=>exact bC t|some v=>
  refine aE (ir t (λ_ g y=>aE (ir y (λ_ p H=>aE (ir H (λC e q =>?_) λ_ _ j=>j.elim)) λ_ _ j=>j.elim)) λ_ _ j=>j.elim);cases C with
  |false=>exact bC ⟨rfl,q⟩|true=>exact aE (aE (ir q (λx o F=>aE (ir F (λ_ k D=>bC (bC ⟨rfl,D⟩)) λ_ _ j=>j.elim)) λ_ _ j=>j.elim))
end
def NI(Z:List Nat)(g:TG):Prop:=∀x c H (Q:St->Hp->Prop),g x c H Q->g x c H λb d=>(b.length=c.length/\∀i,i∉Z->b[i]?=c[i]?)/\Q b d
def fX(i:Nat):NI [i] (oR i):=λx c H Q h=>⟨⟨Ž,λj b=>by
 have:i≠j:=λe=>b (by simp[e])
 rw[aA this]⟩,h⟩
def EO(X:Cx)(B:List Expr)(t:TT):Prop:=
 ∀(b:List (az×Obj)) (s:ay) (d:St) (H:Hp) (Q:Bool->Hp->Prop),Inv X b d H s->t d H Q ->
  bz (bD X.prog X.w) X.A (forIn B Z' λc r=>if r=Z' then do let e <- isTrue c X.env (eval c X.env);fi (vm e) else fi (vm r)) (TP X b d Q) X.xe s
def UC:TT:=λ_ H Q=>Q Z' H
section
variable {X:Cx}
def Oi:EO X [] UC:=λb s c H Q I h=>wpAny_tests_nil ⟨H,I,h⟩
def Oh(h:PT X c t):EO X [c] t:=λb s d H Q I q=>wpAny_tests_one (h b s d H Q I q)
end
def Q_(l:TI)(src:List (Option Nat))(g:TG)(u:TT)(O:TE):TE:=λk H Q=>l k H λJ r=>∃W:Nat->Nat->List V->Hp->Prop,(∃m,W 0 m [] r)/\∀i m e H,W i m e H ->
 (J.stop i H/\∀D,H D=M->Q (.ref D) (de H D (.lst e))) \/
 (J.go i H/\e.length<a9/\∃j:List V->Hp->Prop,(∀d h,j d h->∃n,n<m/\W (i+1) n d h)/\∀x h,J.NN i H x h ->
  g x (mF src k) h λc q=>u c q λb o=>if b=Z' then O c o λv p=>j (e++[v]) p else j e o)
section
variable {X:Cx}{f:Scope}
def Bb{s:ay}{F:List (az×Obj)}{RR:ai->az->Result->ay->Prop}(S:fQ X N src f)(hc:X.calm=Z')(hi:PI X a G l)(ag:NI Z g)(ho:∀i∈Z,src[i]?=Y M)(E:∀C s H ex,PG (X.sv N f C s H ex) a g/\EO (X.sv N f C s H ex) B u/\PE (X.sv N f C s H ex) L O)(I:Inv X F σ H s)(h:Q_ l src g u O σ H Q) (hRR:∀(D C:az) (s':ay) (H':Hp),Inv X F σ H' s'->(∃m,s'.heap.Ns C m)->H' C=M->C≠X.env.locals->(C∈X.ex\/X.s₀.heap.objs.size<=C)->(∀x c,X.env.cells.lookup x=Y c->c≠C)->(∀p∈X.pn++F,p.1≠C) ->
   Q (.ref D) H'->RR (.ref D) C (.ok .next) s') :
  bz (bD X.prog X.w) X.A (eval G X.env) (λx s₁=>bz (bD X.prog X.w) X.A (pyIter x) (λit s₂=>bz (bD X.prog X.w) X.A (newList []) (λacc s₃=>
   bz (bD X.prog X.w) X.A (TM f X.env.globals (kT X.env.cells f.names []) [] X.env.qual M .none (Y X.env)) (λV5 s₄=>
    zg (bD X.prog X.w) X.A (.compStart (.ListComp L [⟨a,G,B,0⟩] f U) 0 it acc { V5 with scope:=QZ f X.env }) (RR acc V5.locals) s₄) X.xe s₃) X.xe s₂) X.xe s₁) X.xe s:=by
 refine fE (hi F s σ H _ I h) λv s1 h1=>fE h1 λZj A h2 =>?_
 obtain⟨it,fp,tn,J,H2,e,I2,T,Nv,f2,W,⟨m0,w0⟩,kj⟩:=h2;subst e;refine oq ?_;generalize X6:A.heap.push { cls :=.type "list",dict:=M,data :=.seq ([]:List ai).toArray }=h3;have sz3:h3.objs.size=A.heap.objs.size+1:=by rw[<- X6,dX]
 have k3:∀b o,A.heap.get? b=Y o->h3.get? b=Y o:=λb o e=>X6 ▸ af _ e
 have d3:h3.get? A.heap.objs.size=Y (lobj [] 0):=X6 ▸ ba _ rfl;refine FN (X:=X) (s:={ A with heap:=h3 }) λh4 k4 Zg YB =>?_
 rw[show ({ A with heap:=h3 }:ay).heap.objs.size=A.heap.objs.size+1 from sz3]at Zg YB ⊢;have XY:∀b o,A.heap.get? b=Y o->h4.get? b=Y o:=λb o e=>k4 b o (k3 b o e)
 have Yu:∀b∈fp,∃o,A.heap.get? b=Y o:=λb E=>by obtain⟨o,e,_⟩:=T.obj _ _ Nv b E;exact⟨o,e⟩
 have I4:=JT (ex:=fp) (h':=h4) (D:=A.heap.objs.size) (C:=A.heap.objs.size+1) (o:=lobj [] 0) S I2 f2 Yu rfl rfl XY (k4 _ _ d3) (λv z=>by cases z) Zg YB;have I4:Inv (X.sv N f (A.heap.objs.size+1) A H2 fp) (X.pn++F++[(A.heap.objs.size,lobj [] 0)]) (mF src σ) H2 { A with heap:=h4 }:=I4;generalize hX:X.sv N f (A.heap.objs.size+1) A H2 fp=P at I4;obtain⟨pg,pt,pe⟩:=E (A.heap.objs.size+1) A H2 fp;rw[hX]at pg pt pe;have K:P.prog=X.prog:=by rw[<- hX];rfl
 have ew:P.w=X.w:=by rw[<- hX];rfl
 have eK:P.K=X.K:=by rw[<- hX];rfl
 have eA:P.A=X.A:=by rw[<- hX];rfl
 have QN:P.calm=true:=by rw[<- hX];exact hc
 have W0:P.xe=λ_ _=>False:=by rw[<- hX];rfl
 have Mv:P.env=lP X f (A.heap.objs.size+1):=by rw[<- hX];rfl
 have SQ:P.pn=[]:=by rw[<- hX];rfl
 have W2:P.s₀=A:=by rw[<- hX];rfl
 have eH0:P.H₀=H2:=by rw[<- hX];rfl
 have ZY:P.ex=fp:=by rw[<- hX];rfl
 have Yz:P.fs=Ce X.stack:=by rw[<- hX];rfl
 have WY:P.env.locals=A.heap.objs.size+1:=by rw[Mv]
 have hDC:A.heap.objs.size≠P.env.locals:=by rw[WY];exact bE (t5 _)
 have hDF:A.heap.objs.size∉P.fs:=by
  rw[Yz];intro z;rcases au.mp (I2.sE _ z) with q|q
  ·exact absurd (yk q) (jt (oK I2.lt))
  ·exact I2.RQ (aw _) q
 have Zw:∀p∈P.pn++(X.pn++F),p.1≠A.heap.objs.size:=λp hp=>by rw[SQ,cf]at hp;exact bE (oK (aR (I2.pin p hp).1))
 have ZV:∀b∈fp,b≠A.heap.objs.size:=λb E=>by obtain⟨o,e⟩:=Yu b E;exact bE (oK (aR e))
 have Fj:∀ {P':List (az×Obj)}{H':Hp},(∀p∈P',p∈X.pn++F\/p.1=A.heap.objs.size)->(∀b∈fp,H' b=M)->∀b∈fp,zb P P' H' b:=fun {P' H'} hP hn b E=>by
  obtain⟨a1,a2,a3,a4,a5,a6⟩:=f2 b E;obtain⟨o,e⟩:=Yu b E;have w:=oK (aR e);refine⟨hn b E,?_,?_,.inl (by rw[ZY];exact E),λx c q z =>?_,λp hp z =>?_⟩
  ·rw[WY];exact bE (Nat.lt_succ_of_lt w)
  ·rw[Yz];intro z;rcases au.mp (I2.sE b z) with q|q
   ·exact a2 q
   ·exact a3 q
  ·subst z;rw[Mv]at q;rcases lx S I2.ok q with⟨_,r⟩|⟨_,r⟩
   ·have:=Vm (YB.empty _ _ r).2;omega
   ·exact a5 x c r rfl
  ·rw[SQ,cf]at hp;rcases hP p hp with q|q
   ·exact a6 p q z
   ·exact ZV b E (z.symm.trans q)
 have Wv:zg (bD X.prog X.w) X.A (.compLoop (.ListComp L [⟨a,G,B,0⟩] f U) 0 (.ref it) (.ref A.heap.objs.size) (lP X f (A.heap.objs.size+1))) (RR (.ref A.heap.objs.size) (A.heap.objs.size+1)) { A with heap:=h4 }:=by
  refine Cq (λn s'=>∃i ys R nn H',Inv P (X.pn++F++[(A.heap.objs.size,lobj R nn)]) (mF src σ) H' s'/\cj ys R/\ys.length<=a9/\tn i s'.heap/\(∀b∈fp,H' b=M)/\W i n ys H') ?_ m0
   ⟨0,[],[],0,H2,I4,.nil,fD _,T.keep _ _ _ Nv (λb _ o e=>XY b o e),λb E=>(f2 b E).1,w0⟩
  rintro n s5 ⟨i,ys,R,nn,H5,I5,r5,z5,Ub,Uj,w5⟩;have XM:∀p∈X.pn++F++[(A.heap.objs.size,lobj R nn)],p∈X.pn++F\/p.1=A.heap.objs.size:=λp hp=>by
   rcases aD.mp hp with q|q
   ·exact .inl q
   ·exact .inr (by rw[show p=(A.heap.objs.size,lobj R nn) by simpa using q])
  rcases kj i n ys H5 w5 with⟨stop,qn⟩|⟨go,lt5,Nx,hN,step⟩
  ·have d:=T.done P K ew eK QN i _ s5 (mF src σ) H5 (λ_ _=>False) I5 (Fj XM Uj) Ub stop;rw[eA]at d;refine fE d λr s6 X7 =>?_
   obtain⟨hr,I6⟩:=X7;subst hr;have Us:Inv P (X.pn++F) (mF src σ) (de H5 A.heap.objs.size (.lst ys)) s6:=I6.GP r5 z5 (by rw[W2];exact aw _) Zw;have hD5:H5 A.heap.objs.size=none:=(I6.pin (A.heap.objs.size,lobj R nn) Ž).2.1;have Z0:=Us.base;rw[Yz,ZY,eH0,W2]at Z0;have Ze:=Us.os;rw[W2]at Ze;have VD:=Us.f';rw[K,ew]at VD;have J6:Inv X F σ (de H5 A.heap.objs.size (.lst ys)) s6:=I2.El Ze Z0 VD Us.bare λb E=>⟨(f2 b E).2.2.2.1,(f2 b E).2.1,(f2 b E).2.2.2.2.1,(f2 b E).2.2.2.2.2⟩
   obtain⟨m,hm,_⟩:=Us.loc;rw[WY]at hm;have fC:=Us.free;rw[WY]at fC;refine hRR _ _ s6 _ J6 ⟨m,hm⟩ fC ?_ (.inr ?_) ?_ ?_ (qn _ hD5)
   ·exact λz=>absurd (yk z) (jt (Nat.lt_succ_of_lt (oK I2.lt)))
   ·exact Nat.le_succ_of_le I2.sz
   ·intro x c q z;obtain⟨v,cc⟩:=I2.cell x c q;have:=oK cc.lt;have z:=yk z;omega
   ·intro p hp z;have:=oK (aR (I2.pin p hp).1);have z:=yk z;omega
  ·have d:=T.item P K ew eK QN i _ s5 (mF src σ) H5 (λ_ _=>False) I5 (Fj XM Uj) Ub go;rw[eA]at d;refine fE d λr s6 X7 =>?_
   obtain⟨t,hr,h6⟩:=X7;subst hr;refine fE h6 λ_ s7 h7 =>?_
   obtain⟨x,H7,I7,r7,y7,US,fr7⟩:=h7;have I7':=I7.pinned (Fj XM fr7) (T.obj _ _ US);have g7:=pg _ s7 (mF src σ) H7 x t _ I7' r7 (ag _ _ _ _ (step x H7 y7));rw[eA,W0,K,ew,Mv]at g7;refine fE g7 λ_ s8 h8 =>?_
   obtain⟨σ8,H8,I8,⟨l8,a8⟩,q8⟩:=h8;have t8:=pt _ s8 σ8 H8 _ I8 q8;rw[eA,W0,K,ew,Mv]at t8;refine fE t8 λok s9 h9 =>?_
   obtain⟨H9,I9,q9⟩:=h9;have weak:∀ {P':List (az×Obj)}{H':Hp}{s':ay},Inv P P' σ8 H' s'->Inv P P' (mF src σ) H' s':=λJ=>J.weak l8.symm λj v hj=>by
    obtain⟨k,e1,_⟩:=C6 hj;have:j∉Z:=λz=>by have:=ho j z;rw[e1]at this;cases this
    rw[a8 j this];exact hj
   cases ok with
   |false=>have q9:Nx ys H9:=q9;obtain⟨m',Ye,w9⟩:=hN _ _ q9;refine⟨m',Ye,i+1,ys,R,nn,H9,(weak I9).mB,r5,z5,T.keep _ _ _ US λb E o e=>(I9.pin (b,o) (aH _ (aH _ (j4 E e)))).1,λb E =>?_,w9⟩;obtain⟨o,e,d⟩:=T.obj _ _ US b E;exact(I9.pin (b,o) (aH _ (aH _ (j4 E e)))).2.1
   |true=>
    have q9:O σ8 H9 λv H4=>Nx (ys++[v]) H4:=q9
    have e9:=pe _ s9 σ8 H9 _ I9 q9;rw[eA,W0,K,ew,Mv]at e9;refine fE e9 λxv Zb h10 =>?_
    obtain⟨y,Ut,Z6,r10,q10⟩:=h10;have Z3:Inv P (X.pn++F++sR fp s7.heap++[(A.heap.objs.size,lobj R nn)]) σ8 Ut Zb:=Z6.xc λp hp=>by
     refine Z6.pin p ?_;rw[SQ,cf];rcases aD.mp hp with q|q
     ·rcases aD.mp q with q|q
      ·exact aJ _ (aJ _ q)
      ·exact aH _ q
     ·exact aJ _ (aH _ q)
    have nD:∀p∈P.pn++(X.pn++F++sR fp s7.heap),p.1≠A.heap.objs.size:=λp hp=>by
     rw[SQ,cf]at hp;rcases aD.mp hp with q|q
     ·exact Zw p (by rw[SQ,cf];exact q)
     ·exact ZV _ (Ay q).1
    have Ys:Ut A.heap.objs.size=none:=(Z3.pin (A.heap.objs.size,lobj R nn) Ž).2.1;have T10:=Z3.GP r5 z5 (by rw[W2];exact aw _) nD;have ap:=kX (X:=P) _ Zb σ8 _ (.ref A.heap.objs.size) [y] (.ref A.heap.objs.size) [xv] (λv H'=>v=.dJ/\H'=de (de Ut A.heap.objs.size (.lst ys)) A.heap.objs.size (.lst (ys++[y]))) T10 rfl (.cons r10 .nil) ⟨_,ys,y,rfl,rfl,bh,lt5,rfl,rfl⟩;rw[eA,W0,K,ew]at ap;refine fE ap λ_ Za Yt =>?_
    obtain⟨v11,H11,Z5,_,_,e11⟩:=Yt;subst e11;rw[GN]at Z5;obtain⟨its',Zh,r11,z11,YU⟩:=Z5.Bn Ys hDC hDF;obtain⟨m',Ye,w11⟩:=hN _ _ q10;have I13:Inv P (X.pn++F++[(A.heap.objs.size,lobj its' Zh)]) (mF src σ) Ut Za:=(weak YU).xc λp hp=>by
     refine YU.pin p ?_;rw[SQ,cf];rcases aD.mp hp with q|q
     ·exact aJ _ (aJ _ q)
     ·exact aH _ q
    have Vb:∀b∈fp,∀o,s7.heap.get? b=Y o->Za.heap.get? b=Y o/\Ut b=none:=λb E o e=>by have:=YU.pin (b,o) (by rw[SQ,cf];exact aJ _ (aH _ (j4 E e)));exact⟨this.1,this.2.1⟩
    refine⟨m',Ye,i+1,ys++[y],its',Zh,Ut,I13,r11,z11,T.keep _ _ _ US λb E o e=>(Vb b E o e).1,λb E =>?_,w11⟩;obtain⟨o,e,d⟩:=T.obj _ _ US b E;exact(Vb b E o e).2
 have st4:tn 0 h4:=T.keep _ _ _ Nv λb _ o e=>XY b o e
 exact codeAny_compStart_list Wv (T.self _ 0 _ _ _ st4 Wv)
end
section
variable {X:Cx}{f:List (Option Nat)}
def Eo{s:ay}(S:fQ X N f c)(I:Inv X a b H s):closureFor c X.env=fi (kT X.env.cells c.names []):=
 zM λy d e=>I.ok.has y.1 (S.free y d e)
def K0(S:fQ X N f c)(P:X.calm=Z')(O:PI X r l w)(ag:NI B g)(K:∀i∈B,f[i]?=Y M)(p:∀C s H v,PG (X.sv N c C s H v) r g/\EO (X.sv N c C s H v) u j/\PE (X.sv N c C s H v) t k)(G:autoParam (∀x,cR l X.env x=fi x) Ű):PE X (.ListComp t [⟨r,l,u,0⟩] c A) (Q_ w f g j k):=by
 intro a s z H Q I h;rw[eval_ListComp];refine wpAny_comprehension_free (use:=M) rfl G (Eo S I) S.kind (λx F W=>by rw[S.uniq x F,W]) ?_;refine Bb (RR:=λy C=>compPost (bD X.prog X.w) X.A X.xe M (EP X a z Q) y C) S P O ag K p I h ?_;intro D C E H' J n L R h1 U T q;obtain⟨m,n⟩:=n;exact⟨m,n,λh' d=>⟨.ref D,H',J.turned (h':=h') (t':=E.toks) (λb o p e=>d.extBut b o p e) L R h1 U T,rfl,q⟩⟩
def xW{F:Pos}(S:fQ X N f c)(hc:X.calm=Z')(hN:X.N.Nodup)(hy:X.N[i]?=Y y)(K:X.env.scope.names.lookup y=Y .local)(hi:PI X r l w)(ag:NI B g)(ho:∀i∈B,f[i]?=Y M)(Q:∀C s H T,PG (X.sv N c C s H T) r g/\EO (X.sv N c C s H T) u j/\PE (X.sv N c C s H T) t k)(W:dS (.ListComp t [⟨r,l,u,0⟩] c A) (Y (.Name y F)) n.line X.env=fi Z')(hs:autoParam (∀x,cR l X.env x=fi x) Ű):
  PS X (.Assign [.Name y F] (.ListComp t [⟨r,l,u,0⟩] c A) n) (Rb (Q_ w f g j k) (oR i)):=by
 intro p s σ H D I h;have h:Q_ w f g j k σ H λv H1=>D.nx (σ.set i (Y v)) H1:=h
 rw[exec_Assign_Name_used _ _ _ _ W];refine aE (wpAny_standAt (aE ?_));show bz _ X.A (do let _ <- comprehension (.ListComp t [⟨r,l,u,0⟩] c A) c X.env _ (newList []) Z_ (eval l X.env) (Y (GD (.Name y F) X.env))) _ _ s;refine aE (ir (wpAny_comprehension_free (use:=Y (GD (.Name y F) X.env)) (Q:=λ_ E=>SP X p D .next E) rfl hs (Eo S I) S.kind (λx hx K=>by rw[S.uniq x hx,K])
  (Bb (RR:=λU C=>compPost (bD X.prog X.w) X.A X.xe (Y (GD (.Name y F) X.env)) (λ_ E=>SP X p D .next E) U C) S hc hi ag ho Q I h ?_))
  (λ_ E hq=>bC (bC hq)) λ_ _ e=>e)
 intro d C E H' J P hn hL h1 h2 h3 q;obtain⟨m,P⟩:=P;refine wpAny_assign_Name (Ag J hN hy (.inl K) (v :=.ref d) rfl (λL J' G =>?_) (.inr K));obtain⟨a,sb,ha⟩:=G;have R:C≠a:=by
  rcases ha with z|z
  ·rw[z];exact hL
  ·exact λe=>h2 _ _ z e.symm
 exact⟨m,P.sameBut sb R,λh' O=>⟨_,H',J'.turned (h':=h') (t':=L.toks) (λb o Q e=>O.extBut b o Q e) hn hL h1 h2 h3,q⟩⟩
end
def Iv(K:aT)(G:Hp)(a:az)(d:List V):Prop:=
 G a=Y (.tup d)\/∃(o:Obj) (b:Array ai) (n:Nat),K.lookup a=Y o/\o.cls=.type "tuple" /\o.dict=M/\o.data=.seq b n/\b.size<=a9/\cj d b.toList
def Iv.mono{K:aT}{a:az}(e:bG H H')(h:Iv K H a xs):Iv K H' a xs:=h.imp (e _ _) id
def Iv.sq{K:aT}{a:az}(e:bG H H')(h:Iv K H a xs):vi K H' a xs:=h.imp (λz =>.inl (e _ _ z)) λ⟨o,b,n,c,d,_,r⟩=>⟨o,b,n,c,d,r⟩
inductive Sk where
 |lf
 |li (s:Sk)
 |fs (c:aG) (fk:List (aG×Sk))
 |di
inductive Pt where
 |fld (f:aG)
 |ix (k:Nat)
abbrev zQ:=List Pt
inductive D where
 |dJ|bl (b:Bool)|int (i:Int)|str (x:aG)|lst (xs:List D)|tup (xs:List D)|jS (ns:List Int)
 |ins (c:aG) (ks:List aG) (ds:List D)
 |fT (ks:List hI) (ds:List D)
 |obj (s:Sk) (t:D)
 |kf (r:Nat) (p:zQ)
mutual
def cK(K:aT)(G:Hp):D->V->Prop
 |.dJ,v=>v=.dJ|.bl b,v=>v=.bl b|.int i,v=>v=.int i|.str x,v=>v=.str x|.lst e,v=>∃a d,v=.ref a/\G a=Y (.lst d)/\bf K G e d|.tup e,v=>∃a d,v=.ref a/\Iv K G a d/\bf K G e d|.jS g,v=>∃a,v=.ref a/\lR K G a (g.map V.int)|.ins c f e,v=>∃a C h d,v=.ref a/\vd K br c=Y (Y (.ref C))/\G a=Y (.ins C h (f.zip d))/\f.length=e.length/\bf K G e d
 |.fT f e,v=>∃a d,v=.ref a/\(∃n,G a=Y (.dK (f.zip d) n))/\f.length=e.length/\bf K G e d|.obj _ t,v=>cK K G t v|.kf _ _,v=>∃a,v=.ref a
def bf(K:aT)(G:Hp):List D->List V->Prop
 |[],a=>a=[]|d::b,a=>∃v r,a=v::r/\cK K G d v/\bf K G b r
end
mutual
theorem cK.mono{K:aT}(s:bG G G'):∀(d:D){v:V},cK K G d v->cK K G' d v
 |.dJ,v,h=>by simpa only [cK] using h
 |.bl _,v,h=>by simpa only [cK] using h
 |.int _,v,h=>by simpa only [cK] using h
 |.str _,v,h=>by simpa only [cK] using h
 |.lst f,v,h=>by simp only[cK]at h ⊢;obtain⟨a,b,e,q,r⟩:=h;exact⟨a,b,e,s _ _ q,bf.mono s f r⟩
 |.tup f,v,h=>by simp only[cK]at h ⊢;obtain⟨a,b,e,q,r⟩:=h;exact⟨a,b,e,q.mono s,bf.mono s f r⟩
 |.jS j,v,h=>by simp only[cK]at h ⊢;obtain⟨a,e,q⟩:=h;exact⟨a,e,s.seq q⟩
 |.ins c g f,v,h=>by simp only[cK]at h ⊢;obtain⟨a,C,i,b,e,n,q,l,r⟩:=h;exact⟨a,C,i,b,e,n,s _ _ q,l,bf.mono s f r⟩
 |.fT g f,v,h=>by simp only[cK]at h ⊢;obtain⟨a,b,e,⟨n,q⟩,l,r⟩:=h;exact⟨a,b,e,⟨n,s _ _ q⟩,l,bf.mono s f r⟩
 |.obj _ t,v,h=>by simp only[cK]at h ⊢;exact cK.mono s t h
 |.kf _ _,v,h=>by simpa only [cK] using h
theorem bf.mono{K:aT}(s:bG G G'):∀(b:List D){a:List V},bf K G b a->bf K G' b a
 |[],a,h=>by simpa only [bf] using h
 |d::b,a,h=>by simp only[bf]at h ⊢;obtain⟨v,r,e,q,t⟩:=h;exact⟨v,r,e,cK.mono s d q,bf.mono s b t⟩
end
section
variable {K:aT}
def ig{v:V}:cK K G .dJ v↔v=.dJ:=by simp only[cK]
def cn{v:V}:cK K G (.bl b) v↔v=.bl b:=by simp only[cK]
def cC{v:V}:cK K G (.int i) v↔v=.int i:=by simp only[cK]
def dn{v:V}:cK K G (.str x) v↔v=.str x:=by simp only[cK]
def cU{v:V}:cK K G (.lst c) v↔∃a b,v=.ref a/\G a=Y (.lst b)/\bf K G c b:=by simp only[cK]
def eE{v:V}:cK K G (.tup c) v↔∃a b,v=.ref a/\Iv K G a b/\bf K G c b:=by simp only[cK]
def mM{v:V}:(∃a b,v=.ref a/\G a=Y (.tup b)/\bf K G c b)->cK K G (.tup c) v:=λ⟨a,b,e,q,r⟩=>eE.mpr ⟨a,b,e,.inl q,r⟩
def G8{v:V}:cK K G (.jS b) v↔∃a,v=.ref a/\lR K G a (b.map V.int):=by simp only[cK]
def l6{v:V}:cK K G (.ins c b d) v↔∃a C f e,v=.ref a/\vd K br c=Y (Y (.ref C))/\G a=Y (.ins C f (b.zip e))/\b.length=d.length/\bf K G d e:=by simp only[cK]
def l7{v:V}:cK K G (.fT b c) v↔∃a d,v=.ref a/\(∃n,G a=Y (.dK (b.zip d) n))/\b.length=c.length/\bf K G c d:=by simp only[cK]
def ni{s:Sk}{v:V}:cK K G (.obj s t) v↔cK K G t v:=by simp only[cK]
def rF{v:V}:cK K G (.kf r p) v↔∃a,v=.ref a:=by simp only[cK]
def dD:bf K G [] a↔a=[]:=by simp only[bf]
def bJ:bf K G (d::b) a↔∃v r,a=v::r/\cK K G d v/\bf K G b r:=by simp only[bf]
def bf.cons{d:D}{v:V}(h:cK K G d v)(t:bf K G b a):bf K G (d::b) (v::a):=bJ.mpr ⟨v,a,rfl,h,t⟩
def bf.nil:bf K G [] []:=dD.mpr rfl
theorem bf.length:∀ {ds:List D}{a:List V},bf K G ds a->ds.length=a.length
 |[],a,h=>by rw[dD.mp h];rfl
 |d::ds,a,h=>by obtain⟨v,r,rfl,_,t⟩:=bJ.mp h;simp[bf.length t]
theorem bf.get:∀ {b:List D}{a:List V}{i:Nat}{d:D},bf K G b a->b[i]?=Y d->∃v,a[i]?=Y v/\cK K G d v
 |[],a,i,d,h,e=>by simp at e
 |c::b,a,0,d,h,e=>by obtain⟨v,r,rfl,q,t⟩:=bJ.mp h;simp at e;subst e;exact⟨v,rfl,q⟩
 |c::b,a,i+1,d,h,e=>by obtain⟨v,r,rfl,q,t⟩:=bJ.mp h;obtain⟨u,g,f⟩:=bf.get (i:=i) t (by simpa using e);exact⟨u,by simpa using g,f⟩
def bf.hG:∀ {a:List D}{b:List V}{i:Nat}{v:V},bf K G a b->b[i]?=Y v->∃d,a[i]?=Y d/\cK K G d v:=fun {a b i v} h e=>by
 have g:=h.length;have c:i<a.length:=by rw[g];exact(ax.mp e).1
 obtain⟨u,f,j⟩:=h.get (aX c);rw[e]at f;cases f;exact⟨_,aX c,j⟩
theorem bf.append:∀ {e c:List D}{a b:List V},bf K G e a->bf K G c b->bf K G (e++c) (a++b)
 |[],c,a,b,h,k=>by rw[dD.mp h];exact k
 |d::e,c,a,b,h,k=>by obtain⟨v,r,rfl,q,t⟩:=bJ.mp h;exact .cons q (bf.append t k)
theorem bf.take:∀ {b:List D}{a:List V}(n:Nat),bf K G b a->bf K G (b.take n) (a.take n)
 |[],a,n,h=>by rw[dD.mp h];simp;exact .nil
 |d::b,a,0,h=>by simp;exact .nil
 |d::b,a,n+1,h=>by obtain⟨v,r,rfl,q,t⟩:=bJ.mp h;exact .cons q (bf.take n t)
theorem bf.drop:∀ {ds:List D}{a:List V}(n:Nat),bf K G ds a->bf K G (ds.drop n) (a.drop n)
 |[],a,n,h=>by rw[dD.mp h];simp;exact .nil
 |d::ds,a,0,h=>by simpa using h
 |d::ds,a,n+1,h=>by obtain⟨v,r,rfl,q,t⟩:=bJ.mp h;exact bf.drop n t
theorem bf.set:∀ {b:List D}{a:List V}{d:D}{v:V}(n:Nat),bf K G b a->cK K G d v->bf K G (b.set n d) (a.set n v)
 |[],a,d,v,n,h,q=>by rw[dD.mp h];simp;exact .nil
 |c::b,a,d,v,0,h,q=>by obtain⟨u,r,rfl,_,t⟩:=bJ.mp h;exact .cons q t
 |c::b,a,d,v,n+1,h,q=>by obtain⟨u,r,rfl,p,t⟩:=bJ.mp h;exact .cons p (bf.set n t q)
theorem bf.reverse:∀ {b:List D}{a:List V},bf K G b a->bf K G b.reverse a.reverse
 |[],a,h=>by rw[dD.mp h];exact .nil
 |d::b,a,h=>by obtain⟨v,r,rfl,q,t⟩:=bJ.mp h;rw[mm,mm];exact(bf.reverse t).append (.cons q .nil)
def bf.dropLast(h:bf K G b a):bf K G b.dropLast a.dropLast:=by
 rw[wd,wd,h.length];exact h.take _
theorem bf.rep(h:bf K G b a):∀k:Nat,bf K G (bK k b).flatten (bK k a).flatten
 |0 =>.nil|k+1=>by rw[gC,gC,gq,gq];exact h.append (bf.rep h k)
theorem bf.ints:∀(a:List Int),bf K G (a.map D.int) (a.map V.int)
 |[] =>.nil|n::a =>.cons (cC.mpr rfl) (bf.ints a)
end
structure gv(G H G' H':Hp):Prop where
 hh:bG H H'
 gg:bG G G'
 gh:bG G' H'
 fr:∀b o,G' b=some o->G b=some o\/H b=none
def gv.refl(s:bG G H):gv G H G H:=⟨bG.refl _,bG.refl _,s,λ_ _ e =>.inl e⟩
def gv.trans{f:Hp}(a:gv G H h f)(b:gv h f g d):gv G H g d:=
 ⟨a.hh.trans b.hh,a.gg.trans b.gg,b.gh,λc o e=>by
  rcases b.fr c o e with q|q
  ·exact a.fr c o q
  ·exact .inr (a.hh.free q)⟩
def bG.alloc{p:az}{o:HO}(h:H p=M):bG H (de H p o):=λb u e=>by rw[aS (bu e h)];exact e
def bG.both(s:bG G H):bG (de G p o) (de H p o):=λb u e=>by
 by_cases a:b=p
 ·subst a;rw[bh]at e ⊢;exact e
 ·rw[aS a]at e ⊢;exact s _ _ e
def gv.alloc{p:az}{o:HO}(s:bG G H)(h:H p=M):gv G H (de G p o) (de H p o):=
 ⟨.alloc h,.alloc (s.free h),s.both,λb u e=>by
  by_cases a:b=p
  ·subst a;exact .inr h
  ·rw[aS a]at e;exact .inl e⟩
def gv.lay{p:az}{o:HO}(s:bG G H)(h:H p=M):gv G H G (de H p o):=
 ⟨.alloc h,bG.refl _,s.trans (.alloc h),λ_ _ e =>.inl e⟩
def gv.freeze(E:gv G H G' c)(h:H p=M)(g:G' p=M)(e:c p=Y o):gv G H (de G' p o) c:=
 ⟨E.hh,E.gg.trans (.alloc g),λb u q=>by
  by_cases a:b=p
  ·subst a;rw[bh]at q;cases q;exact e
  ·rw[aS a]at q;exact E.gh _ _ q,λb u q=>by
  by_cases a:b=p
  ·subst a;exact .inr h
  ·rw[aS a]at q;exact E.fr _ _ q⟩
def j_(K:aT)(G:Hp):D->HO->Prop
 |.lst b,o=>∃a,o=.lst a/\bf K G b a|.ins c d b,o=>∃C e a,o=.ins C e (d.zip a)/\vd K br c=Y (Y (.ref C))/\d.length=b.length/\bf K G b a|.fT d b,o=>∃a,(∃n,o=.dK (d.zip a) n)/\d.length=b.length/\bf K G b a|_,_=>False
section
variable {K:aT}
def j_.mono(s:bG G G'){d:D}(h:j_ K G d o):j_ K G' d o:=by
 cases d with
 |lst b=>obtain⟨a,e,r⟩:=h;exact⟨a,e,bf.mono s b r⟩
 |ins c f b=>obtain⟨C,g,a,e,n,l,r⟩:=h;exact⟨C,g,a,e,n,l,bf.mono s b r⟩
 |fT f b=>obtain⟨a,e,l,r⟩:=h;exact⟨a,e,l,bf.mono s b r⟩
 |_=>exact h.elim
def j_.rep{d:D}(h:j_ K G d o)(e:G a=Y o):cK K G d (.ref a):=by
 cases d with
 |lst f=>obtain⟨b,rfl,r⟩:=h;exact cU.mpr ⟨a,b,rfl,e,r⟩
 |ins c g f=>obtain⟨C,i,b,rfl,n,l,r⟩:=h;exact l6.mpr ⟨a,C,i,b,rfl,n,e,l,r⟩
 |fT g f=>obtain⟨b,⟨n,rfl⟩,l,r⟩:=h;exact l7.mpr ⟨a,b,rfl,⟨n,e⟩,l,r⟩
 |_=>exact h.elim
end
end L2
namespace L2
open PySem
noncomputable def dH(a:List (aG×Sk))(k:aG):Sk:=(a.lookup k).getD .lf
mutual
inductive dm (K:aT) (G H:Hp):Sk->D->V->List az->Prop
 |leaf {d:D}{v:V}:cK K G d v->dm K G H .lf d v []
 |lst {s:Sk}{ds:List D}{a:az}{vs:List V}{S:List az}:H a=some (.lst vs)->gK K G H (bK ds.length s) ds vs S->dm K G H (.li s) (.lst ds) (.ref a) (a::S)
 | ins {c:aG}{ks:List aG}{fk:List (aG×Sk)}{ds:List D}{a C dx:az}{vs:List V}{S:List az}:vd K br c=some (some (.ref C))->H a=some (.ins C dx (ks.zip vs))->ks.length=ds.length ->
   gK K G H (ks.map (dH fk)) ds vs S->dm K G H (.fs c fk) (.ins c ks ds) (.ref a) (a::S)
 |fT {ks:List hI}{ds:List D}{a:az}{vs:List V}{n:Nat}:H a=some (.dK (ks.zip vs) n)->ks.length=ds.length->bf K G ds vs->dm K G H .di (.fT ks ds) (.ref a) [a]
inductive gK (K:aT) (G H:Hp):List Sk->List D->List V->List az->Prop
 |nil:gK K G H [] [] [] []
 |cons {s:Sk}{ss:List Sk}{d:D}{ds:List D}{v:V}{vs:List V}{S T:List az}:dm K G H s d v S->gK K G H ss ds vs T->gK K G H (s::ss) (d::ds) (v::vs) (S++T)
end
section
variable {K:aT}{f:Hp}
def dm.mono{d:D}{v:V}{S:List az}(g:bG G f)(h:∀b∈S,∀o,H b=Y o->i b=Y o)(x:dm K G H c d v S):dm K f i c d v S:=by
 induction x using dm.rec (motive_2:=λe j d S _=>(∀b∈S,∀o,H b=Y o->i b=Y o)->gK K f i e j d S) with
 |leaf r=>exact .leaf (cK.mono g _ r)|lst e t j=>exact .lst (h _ aF _ e) (j λb a=>h b (aj _ a))
 |ins n e l t j=>exact .ins n (h _ aF _ e) l (j λb a=>h b (aj _ a))
 |fT e l t=>exact .fT (h _ aF _ e) l (bf.mono g _ t)|nil=>exact .nil|cons a t j k=>rename_i h;exact .cons (j λb c=>h b (aJ _ c)) (k λb c=>h b (aH _ c))
def gK.mono{d:List V}{S:List az}(g:bG G f)(h:∀b∈S,∀o,H b=Y o->i b=Y o)(x:gK K G H e j d S):gK K f i e j d S:=by
 induction x using gK.rec (motive_1:=λ_ _ _ _ _=>True) with
 |nil=>exact .nil|cons a t _ k=>exact .cons (dm.mono g (λb c=>h b (aJ _ c)) a) (k λb c=>h b (aH _ c))
 |_=>trivial
def Fw(H:Hp)(b:az):Prop:=∃o,H b=Y o/\∀a,o ≠ .tup a
def dm.here{v:V}{S:List az}(x:dm K G H g d v S):∀b∈S,Fw H b:=by
 induction x using dm.rec (motive_2:=λ_ _ _ S _=>∀b∈S,Fw H b) with
 |lst e t j=>exact oz.2 ⟨⟨_,e,nofun⟩,j⟩
 |ins n e l t j=>exact oz.2 ⟨⟨_,e,nofun⟩,j⟩
 |fT e l t=>exact oz.2 ⟨⟨_,e,nofun⟩,nofun⟩
 |cons a t j k=>rename_i h;exact(aD.1 h).elim (j _) (k _)|leaf=>exact nofun
 |nil=>contradiction
def gK.length{ds:List D}{a:List V}{S:List az}(h:gK K G H ss ds a S):ds.length=a.length/\ss.length=ds.length:=by
 induction ds generalizing ss a S with
 |nil=>cases h;exact⟨rfl,rfl⟩| cons d ds ih=>cases h with
  |cons _ t=>have:=ih t;simp[this.1,this.2]
noncomputable def kd(G H:Hp)(S:List az):Hp:=λb=>if b∈S then H b else G b
noncomputable def jN(G:Hp)(S:List az):Hp:=λb=>if b∈S then M else G b
def pz{S:List az}(h:b∈S):kd G H S b=H b:=by simp[kd,h]
def mO{S:List az}(h:b∉S):kd G H S b=G b:=by simp[kd,h]
def ma{S:List az}(h:b∈S):jN G S b=none:=by simp[jN,h]
def d4{S:List az}(h:b∉S):jN G S b=G b:=by simp[jN,h]
def oH{S:List az}(n:∀b∈S,G b=M):bG G (kd G H S):=λb o e=>by
 by_cases a:b∈S
 ·rw[n b a]at e;cases e
 ·rw[mO a];exact e
def oI{S:List az}(s:bG G H):bG (kd G H S) H:=λb o e=>by
 by_cases a:b∈S
 ·rw[pz a]at e;exact e
 ·rw[mO a]at e;exact s b o e
def dm.frozen{d:D}{v:V}{S:List az}(n:∀b∈T,G b=M)(a:∀b∈S,b∈T)(x:dm K G H g d v S):cK K (kd G H T) d v:=by
 induction x using dm.rec (motive_2:=λ_ g e S _=>(∀b∈S,b∈T)->bf K (kd G H T) g e) with
 |leaf r=>exact cK.mono (oH n) _ r|lst e t j=>exact cU.mpr ⟨_,_,rfl,by rw[pz (a _ aF)];exact e,j λb c=>a b (aj _ c)⟩
 |ins h e l t j=>exact l6.mpr ⟨_,_,_,_,rfl,h,by rw[pz (a _ aF)];exact e,l,j λb c=>a b (aj _ c)⟩
 |fT e l t=>exact l7.mpr ⟨_,_,rfl,⟨_,by rw[pz (a _ aF)];exact e⟩,l,bf.mono (oH n) _ t⟩
 |nil=>exact dD.mpr rfl|cons a t j k=>rename_i c;exact bJ.mpr ⟨_,_,rfl,j λb d=>c b (aJ _ d),k λb d=>c b (aH _ d)⟩
mutual
def xX:D->Bool
 |.dJ=>Z'|.bl _=>Z'|.int _=>Z'|.str _=>Z'|.lst _=>Z_|.tup a=>xb a|.jS _=>Z_|.ins _ _ _=>Z_|.fT _ _=>Z_|.obj _ _=>Z_|.kf _ _=>Z_
def xb:List D->Bool
 |[]=>Z'|d::a=>xX d&&xb a
end
mutual
theorem Di{S:List az}{d:D}(n:∀b∈S,∀c,G b≠Y (.tup c)){v:V}(p:xX d=Z')(r:cK K G d v):cK K (jN G S) d v:=by
 cases d with
 |tup h=>obtain⟨a,c,rfl,e,q⟩:=eE.mp r;refine eE.mpr ⟨a,c,rfl,?_,Au n (by simpa only [xX] using p) q⟩;exact e.imp (λe=>by rw[d4 λz=>n a z c e];exact e) id
 |_=>first|cases p;done|simpa only [cK] using r
theorem Au{S:List az}{c:List D}(n:∀b∈S,∀a,G b≠Y (.tup a)){a:List V}(p:xb c=Z')(r:bf K G c a):bf K (jN G S) c a:=by
 cases c with
 |nil=>simpa only [bf] using r|cons d c=>obtain⟨v,t,rfl,g,e⟩:=bJ.mp r;simp only[xb,aO]at p;exact bJ.mpr ⟨v,t,rfl,Di n p.1 g,Au n p.2 e⟩
end
def Ea{S:List az}(s:bG G H)(n:∀b∈S,G b=M)(o:∀b∈S,Fw H b)(E:gv (kd G H S) H f i):gv G H (jN f S) i/\∀b∈S,∀c,f b≠Y (.tup c):=by
 refine⟨⟨E.hh,λb u e =>?_,λb u e =>?_,λb u e =>?_⟩,λb a c z =>?_⟩
 ·have a:b∉S:=λz=>by rw[n b z]at e;cases e
  rw[d4 a];exact E.gg b u (by rw[mO a];exact e)
 ·by_cases a:b∈S
  ·rw[ma a]at e;cases e
  ·rw[d4 a]at e;exact E.gh b u e
 ·by_cases a:b∈S
  ·rw[ma a]at e;cases e
  ·rw[d4 a]at e;rcases E.fr b u e with q|q
   ·rw[mO a]at q;exact .inl q
   ·exact .inr q
 ·obtain⟨u,g,d⟩:=o b a;have:=E.gg b u (by rw[pz a];exact g);rw[z]at this;cases this;exact d c rfl
end
noncomputable def xy(f:aG):List aG->Option Nat
 |[]=>M|k::ks=>if f==k then Y 0 else (xy f ks).map (· + 1)
theorem Sl{f:aG}:∀ {a:List aG}{n:Nat},xy f a=Y n->n<a.length
 |[],n,h=>by cases h
 | k::a,n,h=>by
  unfold xy at h;split at h
  ·cases h;simp
  ·obtain⟨m,e,h⟩:=ak.1 h;cases h;have:=Sl e;simp;omega
theorem pG{f:aG}:∀ {a:List aG}{n:Nat},xy f a=Y n->a[n]?=Y f
 |[],n,h=>by cases h
 | k::a,n,h=>by
  unfold xy at h;split at h
  ·rename_i e;cases h;simp at e;subst e;rfl
  ·obtain⟨m,e,h⟩:=ak.1 h;cases h;simpa using pG e
theorem k_{f:aG}:∀ {a:List aG}{n:Nat}{xs:List b},xy f a=Y n->(a.zip xs).lookup f=xs[n]?
 |[],n,xs,h=>by cases h
 |k::a,n,[],h=>by simp
 | k::a,n,x::xs,h=>by
  unfold xy at h;simp only[ck,dy];cases e:(f==k) with
  |true=>rw[e]at h;simp at h;subst h;rfl|false=>
   rw[e]at h;simp only[dO,if_false]at h;rcases e2:xy f a with _|m
   ·rw[e2]at h;cases h
   rw[e2]at h;simp at h;subst h;simpa using k_ (xs:=xs) e2
noncomputable def oQ:zQ->D->Option D
 |[],d=>Y d|.fld f::p,.ins _ b a=>(xy f b).bind λn=>(a[n]?).bind (oQ p)
 |.ix k::p,.lst a=>(a[k]?).bind (oQ p)|_::_,_=>M
noncomputable def nT(x:D):zQ->D->D
 |[],_=>x|.fld f::p,.ins c b a=>match xy f b with|none =>.ins c b a|some n=>match a[n]? with|none =>.ins c b a|some d =>.ins c b (a.set n (nT x p d))
 |.ix k::p,.lst a=>match a[k]? with|none =>.lst a|some d =>.lst (a.set k (nT x p d))
 |_::_,d=>d
noncomputable def nX:zQ->Sk->Option Sk
 |[],s=>Y s|.fld f::p,.fs _ a=>nX p (dH a f)|.ix _::p,.li s=>nX p s|_::_,_=>M
noncomputable def hG(H:Hp):zQ->V->Option V
 |[],v=>Y v|.fld f::p,.ref a=>match H a with|some (.ins _ _ c)=>(c.lookup f).bind (hG H p)|_=>M
 |.ix k::p,.ref a=>match H a with|some (.lst b)=>(b[k]?).bind (hG H p)|_=>M
 |_::_,_=>M
section
variable {K:aT}
theorem gK.at{i:List Sk}{ds:List D}{vs:List V}{S:List az}(h:gK K G H i ds vs S):∀ {n:Nat}{s:Sk}{d:D},i[n]?=Y s->ds[n]?=Y d->∃v T U,vs[n]?=Y v/\dm K G H s d v T/\S.Perm (T++U) /\
  ∀(G' H':Hp) (j:Sk) (x:D) (u:V) (f:List az),bG G G'->(∀b∈U,∀o,H b=Y o->H' b=Y o)->dm K G' H' j x u f->∃S',gK K G' H' (i.set n j) (ds.set n x) (vs.set n u) S'/\S'.Perm (f++U):=by
 induction ds generalizing i vs S with
 |nil=>intro n s d _ e;simp at e
 |cons c ds ih=>
  intro n s d es e;cases h with
  |@cons C i _ _ v vs S1 p a t=>
   cases n with
   |zero=>simp at e es;subst e;subst es;refine⟨v,S1,p,rfl,a,.rfl,λG' H' j x u f g k l=>⟨f++p,?_,.rfl⟩⟩;exact .cons l (t.mono g k)
   |succ n=>
    simp at e es;obtain⟨w,T,U,B,z,r,A⟩:=ih t es e;refine⟨w,T,S1++U,by simpa using B,z,?_,λG' H' j x u f g k l =>?_⟩
    ·exact((r.append_left S1).trans (cx S1 T U))
    ·obtain⟨S',y,q⟩:=A G' H' j x u f g (λb m=>k b (aH _ m)) l;refine⟨S1++S',.cons (a.mono g λb m=>k b (aJ _ m)) y,?_⟩;exact(q.append_left S1).trans (cx S1 f U)
theorem jI{a:Type}:∀ {l:List a}{n:Nat}{x:a},l[n]?=Y x->l.set n x=l
 |[],n,x,h=>by simp at h
 |y::l,0,x,h=>by simp at h;subst h;rfl
 |y::l,n+1,x,h=>by simp at h;simp[jI h]
theorem dm.focus:∀ {p:zQ}{P k:Sk}{d O:D}{v:V}{S:List az},dm K G H P d v S->nX p P=Y k->oQ p d=Y O->∃v' T U,hG H p v=Y v'/\dm K G H k O v' T/\S.Perm (T++U) /\
  ∀(J I:Hp) (x:D) (w:List az),bG G J->(∀b∈U,∀o,H b=Y o->I b=Y o)->dm K J I k x v' w->∃S',dm K J I P (nT x p d) v S'/\S'.Perm (w++U)
 |[],P,k,d,O,v,S,h,u,z=>by cases u;cases z;exact⟨v,S,[],rfl,h,Ž,λJ I x w g r ox=>⟨w,ox,Ž⟩⟩
 | .fld f::p,P,k,d,O,v,S,h,u,z=>by
  cases h with
  |@ins c ks fk L a C dx vs S n e l t=>
   have u:nX p (dH fk f)=Y k:=u;have z:(xy f ks).bind (λn=>(L[n]?).bind (oQ p))=Y O:=z;obtain⟨m,ei,z⟩:=aa.1 z;have A:(ks.map (dH fk))[m]?=Y (dH fk f):=by rw[aV,pG ei];rfl
   generalize dH fk f=s1 at u A
   ·obtain⟨d1,B,z⟩:=aa.1 z;obtain⟨v1,T1,i,X,o1,p1,k1⟩:=t.at A B;obtain⟨Q,F,j,q2,o2,p2,k2⟩:=dm.focus o1 u z;have hv:hG H (.fld f::p) (.ref a)=Y Q:=by simp only[hG,e];rw[k_ ei,X];exact q2
    refine⟨Q,F,j++(a::i),hv,o2,?_,λJ I y w g r oy =>?_⟩
    ·have:(a::S).Perm (a::(F++j++i)):=(p1.trans (p2.append_right i)).cons a;refine this.trans ?_;have q:(a::(F++j++i)).Perm ((F++j)++(a::i)):=by have:=cx [a] (F++j) i;simpa using this
     exact q.trans (vk Ž)
    ·obtain⟨S1,o3,p3⟩:=k2 J I y w g (λb N=>r b (aJ _ N)) oy;obtain⟨S2,R,p4⟩:=k1 J I s1 (nT y p d1) v1 S1 g (λb N=>r b (aH _ (aj _ N))) o3;rw[jI A,jI X]at R;refine⟨a::S2,?_,?_⟩
     ·have E:nT y (.fld f::p) (.ins c ks L)=.ins c ks (L.set m (nT y p d1)):=by simp only[nT,ei,B]
      rw[E];exact .ins n (r a (aH _ aF) _ e) (by simpa using l) R
     ·have:(a::S2).Perm (a::(w++j++i)):=(p4.trans (p3.append_right i)).cons a;refine this.trans ?_;have q:(a::(w++j++i)).Perm ((w++j)++(a::i)):=by have:=cx [a] (w++j) i;simpa using this
      exact q.trans (vk Ž)
  |_=>cases u
 | .ix m::p,P,k,d,O,v,S,h,u,z=>by
  cases h with
  |@lst s L a vs S e t=>
   have u:nX p s=Y k:=u;have z:(L[m]?).bind (oQ p)=Y O:=z;obtain⟨d1,B,z⟩:=aa.1 z;have hm:m<L.length:=(ax.mp B).1;have A:(bK L.length s)[m]?=Y s:=by simp[hm]
   obtain⟨v1,T1,i,X,o1,p1,k1⟩:=t.at A B;obtain⟨Q,F,j,q2,o2,p2,k2⟩:=dm.focus o1 u z;have hv:hG H (.ix m::p) (.ref a)=Y Q:=by simp only[hG,e];rw[X];exact q2
   refine⟨Q,F,j++(a::i),hv,o2,?_,λJ I y w g r oy =>?_⟩
   ·have:(a::S).Perm (a::(F++j++i)):=(p1.trans (p2.append_right i)).cons a;refine this.trans ?_;have q:(a::(F++j++i)).Perm ((F++j)++(a::i)):=by have:=cx [a] (F++j) i;simpa using this
    exact q.trans (vk Ž)
   ·obtain⟨S1,o3,p3⟩:=k2 J I y w g (λb N=>r b (aJ _ N)) oy;obtain⟨S2,R,p4⟩:=k1 J I s (nT y p d1) v1 S1 g (λb N=>r b (aH _ (aj _ N))) o3;rw[jI A,jI X]at R;refine⟨a::S2,?_,?_⟩
    ·have E:nT y (.ix m::p) (.lst L)=.lst (L.set m (nT y p d1)):=by simp only[nT,B]
     rw[E];exact .lst (r a (aH _ aF) _ e) (by rw[List.length_set];exact R)
    ·have:(a::S2).Perm (a::(w++j++i)):=(p4.trans (p3.append_right i)).cons a;refine this.trans ?_;have q:(a::(w++j++i)).Perm ((w++j)++(a::i)):=by have:=cx [a] (w++j) i;simpa using this
     exact q.trans (vk Ž)
  |_=>cases u
end
section
variable {K:aT}
theorem kY(s:bG H H'):∀ {p:zQ}{v b:V},hG H p v=Y b->hG H' p v=Y b
 |[],v,b,h=>h| .fld f::p,.ref a,b,h=>by
  simp only[hG]at h ⊢;rcases e:H a with _|o
  ·rw[e]at h;cases h
  rw[e]at h;rw[s _ _ e];cases o<;>simp only at h ⊢<;>try (cases h;done)
  rename_i C g d;obtain⟨u,e2,h⟩:=aa.1 h;rw[e2];exact kY s (p:=p) h
 | .ix k::p,.ref a,b,h=>by
  simp only[hG]at h ⊢;rcases e:H a with _|o
  ·rw[e]at h;cases h
  rw[e]at h;rw[s _ _ e];cases o<;>simp only at h ⊢<;>try (cases h;done)
  rename_i c;obtain⟨u,e2,h⟩:=aa.1 h;rw[e2];exact kY s (p:=p) h
 |.fld f::p,.dJ,b,h=>by cases h
 |.fld f::p,.bl _,b,h=>by cases h
 |.fld f::p,.int _,b,h=>by cases h
 |.fld f::p,.str _,b,h=>by cases h
 |.fld f::p,.Gs _,b,h=>by cases h
 |.fld f::p,.SF _,b,h=>by cases h
 |.fld f::p,.ty _,b,h=>by cases h
 |.ix f::p,.dJ,b,h=>by cases h
 |.ix f::p,.bl _,b,h=>by cases h
 |.ix f::p,.int _,b,h=>by cases h
 |.ix f::p,.str _,b,h=>by cases h
 |.ix f::p,.Gs _,b,h=>by cases h
 |.ix f::p,.SF _,b,h=>by cases h
 |.ix f::p,.ty _,b,h=>by cases h
theorem xV(s:bG G H):∀ {p:zQ}{d g:D}{v:V},cK K G d v->oQ p d=Y g->∃y,hG H p v=Y y/\cK K G g y
 |[],d,g,v,r,e=>by cases e;exact⟨v,rfl,r⟩
 | .fld f::p,d,g,v,r,e=>by
  cases d with
  |ins c A x=>obtain⟨a,C,F,z,rfl,n,j,l,i⟩:=l6.mp r;have e:(xy f A).bind (λn=>(x[n]?).bind (oQ p))=Y g:=e;obtain⟨m,B,e⟩:=aa.1 e;obtain⟨E,t,e⟩:=aa.1 e;obtain⟨u,q,h⟩:=i.get t;obtain⟨w,o,b⟩:=xV s (p:=p) h e;refine⟨w,?_,b⟩;simp only[hG,s _ _ j];rw[k_ B,q];exact o
  |_=>cases e
 | .ix k::p,d,g,v,r,e=>by
  cases d with
  |lst x=>obtain⟨a,z,rfl,j,i⟩:=cU.mp r;have e:(x[k]?).bind (oQ p)=Y g:=e;obtain⟨E,t,e⟩:=aa.1 e;obtain⟨u,q,h⟩:=i.get t;obtain⟨w,o,b⟩:=xV s (p:=p) h e;refine⟨w,?_,b⟩;simp only[hG,s _ _ j];rw[q];exact o
  |_=>cases e
theorem xA{f:aG}:∀ {ks:List aG}{vs:List V}{u:V},(ks.zip vs).lookup f=Y u->∃m,xy f ks=Y m/\vs[m]?=Y u
 |[],vs,u,h=>by simp at h
 |k::ks,[],u,h=>by simp at h
 | k::ks,v::vs,u,h=>by
  simp only[ck,dy]at h;cases e:(f==k) with
  |true=>rw[e]at h;cases h;exact⟨0,by simp[xy,e],rfl⟩
  |false=>rw[e]at h;obtain⟨m,b,a⟩:=xA (ks:=ks) (vs:=vs) h;exact⟨m+1,by simp[xy,e,b],by simpa using a⟩
theorem dm.B8:∀ {p:zQ}{y i:Sk}{d:D}{v x:V}{S:List az},dm K G H y d v S->nX p y=Y i->(∀b∈S,∀o,H b=Y o->H' b=Y o)->hG H p v=Y x->hG H' p v=Y x
 |[],y,i,d,v,x,S,h,g,k,e=>e| .fld f::p,y,i,d,v,x,S,h,g,k,e=>by
  cases h with
  |@ins c N r E a C X F S n z l t=>
   have g:nX p (dH r f)=Y i:=g;simp only[hG,z]at e;simp only[hG,k a aF _ z];obtain⟨u,j,e⟩:=aa.1 e;rw[j];simp only[ae]at e ⊢;obtain⟨m,R,O⟩:=xA j;have w:(N.map (dH r))[m]?=Y (dH r f):=by rw[aV,pG R];rfl
   have B:m<E.length:=by rw[t.length.1];exact(ax.mp O).1
   obtain⟨P,U,T,A,J,I,Q⟩:=t.at w (aX B);rw[O]at A;cases A;exact dm.B8 J g (λb L o q=>k b (aj _ (I.symm.subset (aJ _ L))) o q) e
  |_=>cases g
 | .ix m::p,y,i,d,v,x,S,h,g,k,e=>by
  cases h with
  |@lst s E a F S z t=>
   have g:nX p s=Y i:=g;simp only[hG,z]at e;simp only[hG,k a aF _ z];obtain⟨u,j,e⟩:=aa.1 e;rw[j];simp only[ae]at e ⊢;have B:m<E.length:=by rw[t.length.1];exact(ax.mp j).1
   have w:(bK E.length s)[m]?=Y s:=by simp[B]
   obtain⟨P,U,T,A,J,I,Q⟩:=t.at w (aX B);rw[j]at A;cases A;exact dm.B8 J g (λb L o q=>k b (aj _ (I.symm.subset (aJ _ L))) o q) e
  |_=>cases g
noncomputable def D8:zQ->List aG
 |[]=>[]|.fld f::p=>f::D8 p|.ix _::p=>D8 p
theorem uG{s m:List (aG×V)}(j:H x=Y (.ins C A s))(i:H' x=Y (.ins B t m))(l:∀b,b≠x->∀o,H b=Y o->H' b=Y o):∀ {p:zQ}{v d:V},(∀g∈D8 p,m.lookup g=s.lookup g)->hG H p v=Y d->hG H' p v=Y d
 |[],v,d,c,h=>h| .fld g::p,.ref a,d,c,h=>by
  simp only[hG]at h ⊢;by_cases n:a=x
  ·subst n;rw[j]at h;rw[i];simp only at h ⊢;rw[c g (by simp[D8])];obtain⟨u,e2,h⟩:=aa.1 h;rw[e2];exact uG j i l (p:=p) (λg q=>c g (by simp[D8,q])) h
  ·rcases e:H a with _|o
   ·rw[e]at h;cases h
   rw[e]at h;rw[l a n _ e];cases o<;>simp only at h ⊢<;>try (cases h;done)
   rename_i D y r;obtain⟨u,e2,h⟩:=aa.1 h;rw[e2];exact uG j i l (p:=p) (λg q=>c g (by simp[D8,q])) h
 | .ix k::p,.ref a,d,c,h=>by
  simp only[hG]at h ⊢;rcases e:H a with _|o
  ·rw[e]at h;cases h
  rw[e]at h;cases o<;>simp only at h<;>try (cases h;done)
  rename_i w;have n:a≠x:=λz=>by subst z;rw[j]at e;cases e
  rw[l a n _ e];simp only;obtain⟨u,e2,h⟩:=aa.1 h;rw[e2];exact uG j i l (p:=p) c h
 |.fld f::p,.dJ,d,c,h=>by cases h
 |.fld f::p,.bl _,d,c,h=>by cases h
 |.fld f::p,.int _,d,c,h=>by cases h
 |.fld f::p,.str _,d,c,h=>by cases h
 |.fld f::p,.Gs _,d,c,h=>by cases h
 |.fld f::p,.SF _,d,c,h=>by cases h
 |.fld f::p,.ty _,d,c,h=>by cases h
 |.ix f::p,.dJ,d,c,h=>by cases h
 |.ix f::p,.bl _,d,c,h=>by cases h
 |.ix f::p,.int _,d,c,h=>by cases h
 |.ix f::p,.str _,d,c,h=>by cases h
 |.ix f::p,.Gs _,d,c,h=>by cases h
 |.ix f::p,.SF _,d,c,h=>by cases h
 |.ix f::p,.ty _,d,c,h=>by cases h
end
noncomputable def lC(f:aG)(d:D):List aG->List D->List aG×List D
 |k::a,x::b=>if k=f then (k::a,d::b) else (k::(lC f d a b).1,x::(lC f d a b).2)
 |_,_=>([f],[d])
section
variable {K:aT}
theorem Dj{f:aG}{v:V}{m:List az}(s:dm K G H (dH j f) d v m):∀ {b:List aG}{c:List D}{i:List V}{S:List az},b.length=c.length->gK K G H (b.map (dH j)) c i S ->
  ∃g o R,lp f v (b.zip i)=(lC f d b c).1.zip g/\(lC f d b c).1.length=(lC f d b c).2.length/\gK K G H ((lC f d b c).1.map (dH j)) (lC f d b c).2 g o/\o.Perm (m++R)/\R.Sublist S
 |[],[],i,S,h,r=>by cases r;exact⟨[v],m++[],[],rfl,rfl,.cons s .nil,.rfl,.slnil⟩
 |[],x::c,i,S,h,r=>by simp at h
 |k::b,[],i,S,h,r=>by simp at h
 | k::b,x::c,i,S,h,r=>by
  have r:gK K G H (dH j k::b.map (dH j)) (x::c) i S:=r;cases r with
  |@cons _ _ _ _ u n T U a t=>
   simp only[aK,Nat.add_right_cancel_iff]at h;unfold lC;rw[ck,show lp f v ((k,u)::b.zip n)=(if k=f then (k,v)::b.zip n else (k,u)::lp f v (b.zip n)) from rfl];by_cases w:k=f
   ·subst w;rw[if_pos rfl,if_pos rfl];exact⟨v::n,m++U,U,rfl,by simp[h],.cons s t,.rfl,List.sublist_append_right T U⟩
   ·rw[if_neg w,if_neg w];obtain⟨g,o,R,e,l,q,p,z⟩:=Dj s h t;exact⟨u::g,T++o,T++R,by rw[ck,e],by simp[l],.cons a q,(p.append_left T).trans (cx T m R),z.append_left T⟩
theorem dm.put{p:zQ}{s:Sk}{v:V}{S1:List az}{f:aG}{d:D}{u:V}(h:dm K G H s t v T)(nd:T.Nodup)(es:nX p s=Y (.fs c L))(ep:oQ p t=Y (.ins c j A))(g:bG G G')(k:∀b∈T,∀o,H b=Y o->B b=Y o)(ov:dm K G' B (dH L f) d u S1)(X:S1.Nodup)(dj:∀b∈S1,b∉T):
  ∃x C y r,hG H p v=Y (.ref x)/\x∈T/\vd K br c=Y (Y (.ref C))/\H x=Y (.ins C y (j.zip r))/\j.length=A.length/\j.length=r.length /\
   ∃F,dm K G' (de B x (.ins C y (lp f u (j.zip r)))) s (nT (.ins c (lC f d j A).1 (lC f d j A).2) p t) v F/\F.Nodup/\∀b∈F,b∈T\/b∈S1:=by
 obtain⟨v',T1,U,e1,o1,E,k1⟩:=h.focus es ep;cases o1 with
 |@ins _ _ _ _ x C y r J n ex l tt=>
  have m:(x::J++U).Nodup:=E.nodup_iff.mp nd;have hxS:x∉J:=λz=>by simp at m;exact m.1.1 z
  have hxU:x∉U:=λz=>by simp at m;exact m.1.2 z
  have O:x∈T:=E.symm.subset Ž;have I:∀b∈J,b∈T:=λb i=>E.symm.subset (by simp[i])
  have UT:∀b∈U,b∈T:=λb i=>E.symm.subset (by simp[i])
  have x1:x∉S1:=λz=>dj x z O
  refine⟨x,C,y,r,e1,O,n,ex,l,by rw[l,tt.length.1],?_⟩;have Q:gK K G' B (j.map (dH L)) A r J:=tt.mono g λb i o e=>k b (I b i) o e
  obtain⟨P,S',R,z1,z2,z3,N,W⟩:=Dj ov l Q;have hx':∀b∈S',b≠x:=λb i z=>by
   subst z;have:=N.subset i;rcases aD.mp this with q|q
   ·exact x1 q
   ·exact hxS (W.subset q)
  have oo:dm K G' (de B x (.ins C y (lp f u (j.zip r)))) (.fs c L) (.ins c (lC f d j A).1 (lC f d j A).2) (.ref x) (x::S'):=
   .ins (dx:=y) (vs:=P) n (by rw[bh,z1]) z2 (z3.mono (bG.refl _) λb i o e=>by rw[aS (hx' b i)];exact e)
  obtain⟨F,o2,p2⟩:=k1 G' (de B x (.ins C y (lp f u (j.zip r)))) _ _ g (λb i o e=>by have Yn:b≠x:=λz=>hxU (z ▸ i);rw[aS Yn];exact k b (UT b i) o e) oo;refine⟨F,o2,?_,λb i =>?_⟩
  ·rw[p2.nodup_iff];have q:(x::S'++U).Perm (x::(S1++R)++U):=((N.cons x).append_right U);rw[q.nodup_iff];have w:(x::R++U).Sublist (x::J++U):=(W.cons_cons x).append_right U;have S:(x::R++U).Nodup:=m.sublist w;have:(x::(S1++R)++U).Perm (S1++(x::R++U)):=by have:=cx [x] S1 (R++U);simpa [bH] using this
   rw[this.nodup_iff,gm];refine⟨X,S,λa ha b i z =>?_⟩;subst z;exact dj a ha (E.symm.subset (w.subset i))
  ·have:=p2.subset i;rcases aD.mp this with q|q
   ·rcases au.mp q with q|q
    ·subst q;exact .inl O
    ·rcases aD.mp (N.subset q) with q|q
     ·exact .inr q
     ·exact .inl (I b (W.subset q))
   ·exact .inl (UT b q)
def gK.append{f:List D}{S:List az}(h:gK K G H i f g S)(k:gK K G H c e b j):gK K G H (i++c) (f++e) (g++b) (S++j):=by
 induction f generalizing i g S with
 |nil=>cases h;exact k| cons d f ih=>cases h with
  |cons a t=>rw[bH];exact .cons a (ih t)
theorem dm.app{p:zQ}{s:Sk}{v:V}{S1:List az}{d:D}{u:V}{m:Hp}(h:dm K G H s t v T)(nd:T.Nodup)(es:nX p s=Y (.li n))(ep:oQ p t=Y (.lst l))(g:bG G G')(k:∀b∈T,∀o,H b=Y o->m b=Y o)(R:dm K G' m n d u S1)(C:S1.Nodup)(O:∀b∈S1,b∉T):
  ∃x j,hG H p v=Y (.ref x)/\x∈T/\H x=Y (.lst j)/\l.length=j.length /\
   ∃w,dm K G' (de m x (.lst (j++[u]))) s (nT (.lst (l++[d])) p t) v w/\w.Nodup/\∀b∈w,b∈T\/b∈S1:=by
 obtain⟨v',T1,U,e1,o1,r,k1⟩:=h.focus es ep;cases o1 with
 |@lst _ _ x j i ex L=>
  have f:(x::i++U).Nodup:=r.nodup_iff.mp nd;have F:x∉i:=λz=>by simp at f;exact f.1.1 z
  have E:x∉U:=λz=>by simp at f;exact f.1.2 z
  have A:x∈T:=r.symm.subset Ž;have y:∀b∈i,b∈T:=λb c=>r.symm.subset (by simp[c])
  have P:∀b∈U,b∈T:=λb c=>r.symm.subset (by simp[c])
  have Q:x∉S1:=λz=>O x z A
  refine⟨x,j,e1,A,ex,L.length.1,?_⟩;have B:gK K G' m (bK l.length n) l j i:=L.mono g λb c o e=>k b (y b c) o e
  have W:gK K G' m (bK (l++[d]).length n) (l++[d]) (j++[u]) (i++(S1++[])):=by rw[aP,g_,List.replicate_succ'];exact B.append (.cons R .nil)
  rw[bx]at W;have I:∀b∈i++S1,b≠x:=λb c z=>by
   subst z;rcases aD.mp c with q|q
   ·exact F q
   ·exact Q q
  have S:dm K G' (de m x (.lst (j++[u]))) (.li n) (.lst (l++[d])) (.ref x) (x::(i++S1)):=
   .lst bh (W.mono (bG.refl _) λb c o e=>by rw[aS (I b c)];exact e)
  obtain⟨w,X,N⟩:=k1 G' (de m x (.lst (j++[u]))) _ _ g (λb c o e=>by have J:b≠x:=λz=>E (z ▸ c);rw[aS J];exact k b (P b c) o e) S;refine⟨w,X,?_,λb c =>?_⟩
  ·rw[N.nodup_iff];have:(x::(i++S1)++U).Perm (S1++(x::i++U)):=by have:=cx (x::i) S1 U;simpa [bH] using this
   rw[this.nodup_iff,gm];refine⟨C,f,λa ha b c z =>?_⟩;subst z;exact O a ha (r.symm.subset c)
  ·have:=N.subset c;rcases aD.mp this with q|q
   ·rcases au.mp q with q|q
    ·subst q;exact .inl A
    ·rcases aD.mp q with q|q
     ·exact .inl (y b q)
     ·exact .inr q
   ·exact .inl (P b q)
def gK.last{f:List D}{S:List az}(h:gK K G H (b++[k]) (f++[d]) e S)(l:b.length=f.length):∃g u j i,e=g++[u]/\S=j++i/\gK K G H b f g j/\dm K G H k d u i:=by
 induction f generalizing b e S with
 |nil=>
  cases b with
  | nil=>cases h with
   |@cons _ _ _ _ v e S T a t=>cases t;exact⟨[],v,[],S,rfl,Ž,.nil,a⟩
  |cons=>simp at l
 |cons c f ih=>
  cases b with
  |nil=>simp at l|cons m b=>
   have h:gK K G H (m::(b++[k])) (c::(f++[d])) e S:=h;cases h with
   |@cons _ _ _ _ v e S T a t=>obtain⟨g,u,j,i,rfl,rfl,o,n⟩:=ih t (by simpa using l);exact⟨v::g,u,S++j,i,rfl,by rw[bH],.cons a o,n⟩
theorem dm.dput{p:zQ}{s:Sk}{v:V}(h:dm K G H s t v T)(I:T.Nodup)(N:nX p s=Y .di)(O:oQ p t=Y (.fT q y))(g:bG G G')(k:∀b∈T,∀o,H b=Y o->A b=Y o):
  ∃x m,hG H p v=Y (.ref x)/\x∈T/\(∃n,H x=Y (.dK (q.zip m) n))/\q.length=y.length/\bf K G y m /\
   ∀(a:List hI) (c:List D) (d:List V) (n:Nat),a.length=c.length->bf K G' c d->∃j,dm K G' (de A x (.dK (a.zip d) n)) s (nT (.fT a c) p t) v j/\j.Nodup/\∀b∈j,b∈T:=by
 obtain⟨R,S,U,P,F,n,L⟩:=h.focus N O;cases F with
 |@fT _ _ x m n0 W l r=>
  have f:([x]++U).Nodup:=n.nodup_iff.mp I;have u:x∉U:=λz=>by simp at f;exact f.1 z
  have Q:∀b∈U,b∈T:=λb i=>n.symm.subset (by simp[i])
  refine⟨x,m,P,n.symm.subset Ž,⟨n0,W⟩,l,r,λa c d n1 J C =>?_⟩;obtain⟨j,E,B⟩:=L G' (de A x (.dK (a.zip d) n1)) (.fT a c) [x] g (λb i o e=>by have w:b≠x:=λz=>u (z ▸ i);rw[aS w];exact k b (Q b i) o e) (.fT bh J C);exact⟨j,E,by rw[B.nodup_iff];exact f,λb i=>n.symm.subset (B.subset i)⟩
end
end L2
namespace L2
open PySem PySem.Spec PyProof.Rows
def Wn(K:aT)(G H:Hp):D->az->HO->Prop
 |.obj s t,a,_=>∃S,dm K G H s t (.ref a) S/\∀b∈S,G b=M|.kf _ _,_,_=>True|d,_,o=>j_ K G d o
def iN(K:aT)(G H:Hp)(d:D)(v:V):Prop:=cK K G d v\/∃a o,v=.ref a/\H a=Y o/\Wn K G H d a o
section
variable {K:aT}
def iN.ext{d:D}{v:V}(r:iN K G H d v)(E:gv G H G' H'):iN K G' H' d v:=by
 rcases r with r|⟨a,o,k,j,c⟩
 ·exact .inl (cK.mono E.gg d r)
 ·refine .inr ⟨a,o,k,E.hh _ _ j,?_⟩;cases d with
  |obj s t=>
   obtain⟨S,g,i⟩:=c;refine⟨S,g.mono E.gg λb f o e=>E.hh b o e,λb f =>?_⟩;obtain⟨u,h,_⟩:=g.here b f;rcases q:G' b with _|w
   ·rfl
   rcases E.fr b w q with z|z
   ·rw[i b f]at z;cases z
   ·rw[h]at z;cases z
  |kf=>trivial|lst=>exact j_.mono E.gg (d :=.lst _) c|ins=>exact j_.mono E.gg (d :=.ins _ _ _) c|fT=>exact j_.mono E.gg (d :=.fT _ _) c|_=>exact c
def iN.dJ{v:V}(r:iN K G H .dJ v):v=.dJ:=by
 rcases r with r|⟨a,o,_,_,e⟩
 ·exact ig.mp r
 ·exact e.elim
def iN.bl{v:V}(r:iN K G H (.bl b) v):v=.bl b:=by
 rcases r with r|⟨a,o,_,_,e⟩
 ·exact cn.mp r
 ·exact e.elim
def iN.int{i:Int}{v:V}(r:iN K G H (.int i) v):v=.int i:=by
 rcases r with r|⟨a,o,_,_,e⟩
 ·exact cC.mp r
 ·exact e.elim
def iN.str{v:V}(r:iN K G H (.str x) v):v=.str x:=by
 rcases r with r|⟨a,o,_,_,e⟩
 ·exact dn.mp r
 ·exact e.elim
def iN.lst{ds:List D}{v:V}(s:bG G H)(r:iN K G H (.lst ds) v):∃a vs,v=.ref a/\H a=Y (.lst vs)/\bf K G ds vs:=by
 rcases r with r|⟨a,o,d,c,vs,rfl,b⟩
 ·obtain⟨a,vs,e,q,t⟩:=cU.mp r;exact⟨a,vs,e,s _ _ q,t⟩
 ·exact⟨a,vs,d,c,b⟩
def iN.tup{ds:List D}{v:V}(s:bG G H)(r:iN K G H (.tup ds) v):∃a b,v=.ref a/\vi K H a b/\bf K G ds b:=by
 rcases r with r|⟨a,o,_,_,e⟩
 ·obtain⟨a,b,e,q,t⟩:=eE.mp r;exact⟨a,b,e,q.sq s,t⟩
 ·exact e.elim
def iN.jS{v:V}(s:bG G H)(r:iN K G H (.jS ns) v):∃a,v=.ref a/\lR K H a (ns.map V.int):=by
 rcases r with r|⟨a,o,_,_,e⟩
 ·obtain⟨a,e,q⟩:=G8.mp r;exact⟨a,e,s.seq q⟩
 ·exact e.elim
def iN.XZ{f:List aG}{v:V}(s:bG G H)(r:iN K G H (.ins c f g) v):∃a C d b,v=.ref a/\H a=Y (.ins C d (f.zip b))/\vd K br c=Y (Y (.ref C))/\f.length=g.length/\bf K G g b:=by
 rcases r with r|⟨a,o,j,i,C,d,b,rfl,n,l,h⟩
 ·obtain⟨a,C,d,b,e,n,q,l,t⟩:=l6.mp r;exact⟨a,C,d,b,e,s _ _ q,n,l,t⟩
 ·exact⟨a,C,d,b,j,i,n,l,h⟩
def iN.SX{v:V}(s:bG G H)(r:iN K G H (.fT c d) v):∃a b,v=.ref a/\(∃n,H a=Y (.dK (c.zip b) n))/\c.length=d.length/\bf K G d b:=by
 rcases r with r|⟨a,o,h,g,b,⟨n,rfl⟩,l,f⟩
 ·obtain⟨a,b,e,⟨n,q⟩,l,t⟩:=l7.mp r;exact⟨a,b,e,⟨n,s _ _ q⟩,l,t⟩
 ·exact⟨a,b,h,⟨n,g⟩,l,f⟩
def iN.ins{ks:List aG}{d:List D}{v:V}(r:iN K G H (.ins c ks d) v):∃a,v=.ref a:=by
 rcases r with r|⟨a,o,b,_⟩
 ·obtain⟨a,C,dx,vs,e,_⟩:=l6.mp r;exact⟨a,e⟩
 ·exact⟨a,b⟩
def iN.fT{ks:List hI}{ds:List D}{v:V}(r:iN K G H (.fT ks ds) v):∃a,v=.ref a:=by
 rcases r with r|⟨a,o,b,_⟩
 ·obtain⟨a,vs,e,_⟩:=l7.mp r;exact⟨a,e⟩
 ·exact⟨a,b⟩
def iN.all{v:V}(s:bG G H)(r:iN K G H d v):cK K H d v:=by
 rcases r with r|⟨a,o,i,e,c⟩
 ·exact cK.mono s d r
 ·subst i;cases d with
  |obj k t=>obtain⟨S,h,g⟩:=c;have:=h.frozen g (λb f=>f);exact ni.mpr (cK.mono (oI s) t this)
  |kf=>exact rF.mpr ⟨a,rfl⟩|lst=>exact(j_.mono s (d :=.lst _) c).rep e|ins=>exact(j_.mono s (d :=.ins _ _ _) c).rep e|fT=>exact(j_.mono s (d :=.fT _ _) c).rep e|_=>exact c.elim
end
abbrev bY:=List (Option D)
abbrev DF:=bY->Option D
abbrev DT:=bY->Option Bool
abbrev DL:=bY->Option (List D)
noncomputable abbrev Dw(j:Nat):Nat:=j+1000000
noncomputable abbrev Lz(j:Nat):Nat:=j+2000000
noncomputable def JX:List aG:=["rows", "coming"]
def EB(Z:List Nat)(H:Hp)(a:St)(c:bY)(j r:Nat)(p:zQ):Prop:=r∈Z/\Lz r∈Z/\∃s t d v b,c[r]?=Y (Y (.obj s t))/\a[r]?=Y (Y v)/\a[j]?=Y (Y b)/\hG H p v=Y b/\nX p s=Y d/\∀g∈D8 p,g∈JX
structure ki(K:aT)(Z:List Nat)(G H:Hp)(σ:St)(ρ:bY):Prop where
 len:σ.length=ρ.length
 get:∀(i:Nat) (d:D),ρ[i]?=some (some d)->∃v,σ[i]?=some (some v)/\(if i∈Z then iN K G H d v else cK K G d v)
 kf:∀(j r:Nat) (p:zQ),j∈Z->Dw j∈Z->ρ[j]?=some (some (.kf r p))->EB Z H σ ρ j r p
def EB.ext{H':Hp}{a:St}{r:Nat}(h:EB Z H a b j r p)(s:bG H H'):EB Z H' a b j r p:=by
 obtain⟨g,i,e,d,f,v,c,q,o,n,l,k⟩:=h;exact⟨g,i,e,d,f,v,c,q,o,n,kY s l,k⟩
def ki.ext{K:aT}{G' H':Hp}{a:St}(h:ki K Z G H a b)(E:gv G H G' H'):ki K Z G' H' a b:=⟨h.len,λi d e=>by
 obtain⟨v,q,r⟩:=h.get i d e;refine⟨v,q,?_⟩;by_cases c:i∈Z
 ·rw[if_pos c]at r ⊢;exact r.ext E
 ·rw[if_neg c]at r ⊢;exact cK.mono E.gg d r,λj r p g f e=>(h.kf j r p g f e).ext E.hh⟩
inductive tP (K:aT) (Z:List Nat) (f:DF) (b:St) (H:Hp) (Q:VK):Prop
 |mk G a d:bG G H->ki K Z G H b a->f a=some d->(∀v G' H',gv G H G' H'->cK K G' d v->Q v H')->tP K Z f b H Q
inductive tQ (K:aT) (Z:List Nat) (f:DF) (b:St) (H:Hp) (Q:VK):Prop
 |mk G a d:bG G H->ki K Z G H b a->f a=some d->(∀v G' H',gv G H G' H'->iN K G' H' d v->Q v H')->tQ K Z f b H Q
inductive tF (K:aT) (Z:List Nat) (f:DL) (d:St) (H:Hp) (Q:VK):Prop
 |mk G a c:bG G H->ki K Z G H d a->f a=some c->(∀p b G' H',gv G H G' H'->H p=none->G' p=none->H' p=some (.lst b)->bf K G' c b->Q (.ref p) H')->tF K Z f d H Q
inductive si (K:aT) (Z:List Nat) (f:DT) (c:St) (H:Hp) (Q:Bool->Hp->Prop):Prop
 |mk G a b:bG G H->ki K Z G H c a->f a=some b->(∀G' H',gv G H G' H'->Q b H')->si K Z f c H Q
inductive EI (K:aT) (Z:List Nat) (f:DL) (d:St) (H:Hp) (Q:List V->Hp->Prop):Prop
 |mk G a c:bG G H->ki K Z G H d a->f a=some c->(∀b G' H',gv G H G' H'->bf K G' c b->Q b H')->EI K Z f d H Q
def Iz(K:aT)(G H:Hp):List D->List V->Prop:=Paired (iN K G H)
inductive T_ (K:aT) (Z:List Nat) (f:DL) (d:St) (H:Hp) (Q:List V->Hp->Prop):Prop
 |mk G a c:bG G H->ki K Z G H d a->f a=some c->(∀b G' H',gv G H G' H'->Iz K G' H' c b->Q b H')->T_ K Z f d H Q
section
variable {X:Cx}
def PE.imp(h:PE X e t)(k:∀b H Q,c b H Q->t b H Q):PE X e c:=λa s b H Q I q=>h a s b H Q I (k _ _ _ q)
def PT.imp(h:PT X e t)(k:∀b H Q,c b H Q->t b H Q):PT X e c:=λa s b H Q I q=>h a s b H Q I (k _ _ _ q)
def PW.imp(h:PW X e t)(k:∀b H Q,c b H Q->t b H Q):PW X e c:=λw a s b H Q I q=>h w a s b H Q I (k _ _ _ q)
def PA.imp(h:PA X e t)(k:∀b H Q,c b H Q->t b H Q):PA X e c:=λm a s b H Q I q=>h m a s b H Q I (k _ _ _ q)
def PS.imp(h:PS X e t)(k:∀D b H,c D b H->t D b H):PS X e c:=λa s b H D I q=>h a s b H D I (k _ _ _ q)
def sx.imp(h:sx X e t)(k:∀D b H,c D b H->t D b H):sx X e c:=λa s b H D I q=>h a s b H D I (k _ _ _ q)
def mz.imp{f:ai->ai->Sem ai}(h:mz X f r)(k:∀x y H Q,b x y H Q->r x y H Q):mz X f b:=λa s c H x y v u Q I e d q=>h a s c H x y v u Q I e d (k _ _ _ _ q)
def dq{f:DF}(h:PE X e (tP X.K Z f)):PE X e (tQ X.K Z f):=h.imp <|by rintro i H Q ⟨G,b,d,c,a,g,k⟩;exact⟨G,b,d,c,a,g,λv G' H' E r=>k v G' H' E (.inl r)⟩
noncomputable def eF(f:DL):DF:=λρ=>(f ρ).map D.lst
def df{f:DL}(h:PE X e (tF X.K Z f)):PE X e (tP X.K Z (eF f)):=h.imp <|by
 rintro s H Q ⟨G,g,d,q,b,l,k⟩;rcases a:f g with _|c
 ·simp[eF,a]at l
 have:d=.lst c:=by simpa [eF,a] using l.symm
 subst this;refine⟨G,g,c,q,b,a,λp i G' H' E o j n r=>k _ (de G' p (.lst i)) H' (E.freeze o j n) ?_⟩;exact cU.mpr ⟨p,i,rfl,bh,bf.mono (.alloc j) c r⟩
noncomputable def eV(i:Nat):DF:=λρ=>(ρ[i]?).join
noncomputable def eK(d:D):DF:=λ_=>Y d
def gY(h:eV i a=Y d):a[i]?=Y (Y d):=by
 unfold eV at h;cases e:a[i]? with
 |none=>rw[e]at h;cases h| some o=>rw[e]at h;cases o with
  |none=>cases h|some c=>rw[show c=d from bN h]
def dv{m:Pos}(h:PE X (.Name x m) (jf i))(b:autoParam (i∉Z) ű):PE X (.Name x m) (tP X.K Z (eV i)):=h.imp <|by
 rintro f H Q ⟨G,g,d,c,a,e,k⟩;obtain⟨v,q,r⟩:=a.get i d (gY e);rw[if_neg b]at r;exact⟨v,q,k v G H (.refl c) r⟩
def JL{i:Nat}{m:Pos}(h:PE X (.Name x m) (jf i))(b:autoParam (i∈Z) ű):PE X (.Name x m) (tQ X.K Z (eV i)):=h.imp <|by
 rintro f H Q ⟨G,g,d,c,a,e,k⟩;obtain⟨v,q,r⟩:=a.get i d (gY e);rw[if_pos b]at r;exact⟨v,q,k v G H (.refl c) r⟩
def av{i j m}:PE X (.Constant (.int i) j m) (tP X.K Z (eK (.int i))):=nW.imp <|by
 rintro e H Q ⟨G,f,d,a,c,b,k⟩;cases b;exact k _ G H (.refl a) (cC.mpr rfl)
def A_{b j m}:PE X (.Constant (.bool b) j m) (tP X.K Z (eK (.bl b))):=Vd.imp <|by
 rintro f H Q ⟨G,g,d,a,e,c,k⟩;cases c;exact k _ G H (.refl a) (cn.mpr rfl)
abbrev wf:=eK .dJ
def pQ{j m}:PE X (.Constant .none j m) (tP X.K Z wf):=RC.imp <|by
 rintro e H Q ⟨G,f,d,a,c,b,k⟩;cases b;exact k _ G H (.refl a) (ig.mpr rfl)
def cF{x j m}:PE X (.Constant (.str x) j m) (tP X.K Z (eK (.str x))):=Fv.imp <|by
 rintro e H Q ⟨G,f,d,a,c,b,k⟩;cases b;exact k _ G H (.refl a) (dn.mpr rfl)
noncomputable def aN:DL:=λ_=>Y []
noncomputable def aC(f:DF)(g:DL):DL:=λa=>(f a).bind λx=>(g a).bind λb=>Y (x::b)
def Iu{f:DF}{e:List D}(h:aC f g a=Y e):∃x b,f a=Y x/\g a=Y b/\e=x::b:=by
 unfold aC at h;obtain⟨x,d,h⟩:=aa.1 h;rw[d];rcases c:g a with _|b
 ·rw[c]at h;cases h
 rw[c]at h;exact⟨x,b,rfl,rfl,(bN h).symm⟩
def aQ:PA X [] (EI X.K Z aN):=fK.imp <|by
 rintro e H Q ⟨G,f,d,a,c,b,k⟩;cases b;exact k _ G H (.refl a) .nil
def ao{f:DF}{g:DL}(h:PE X e (tP X.K Z f))(t:PA X A (EI X.K Z g))(p:autoParam (aq (e::A) X.env=(Z_,eval e X.env)::aq A X.env) ų):PA X (e::A) (EI X.K Z (aC f g)):=
 (cM h t p).imp <|by rintro z H Q ⟨G,i,d,q,a,s,k⟩;obtain⟨x,l,r,b,rfl⟩:=Iu s;refine⟨G,i,x,q,a,r,λv y D c o=>⟨y,i,l,c.gh,a.ext c,b,λC w u j n=>k _ w u (c.trans j) (.cons (cK.mono j.gg x o) n)⟩⟩
def Cn:PA X [] (T_ X.K Z aN):=fK.imp <|by
 rintro e H Q ⟨G,f,d,a,c,b,k⟩;cases b;exact k _ G H (.refl a) .nil
def yK{f:DF}(h:PE X e (tQ X.K Z f))(t:PA X A (T_ X.K Z g))(p:autoParam (aq (e::A) X.env=(Z_,eval e X.env)::aq A X.env) ų):PA X (e::A) (T_ X.K Z (aC f g)):=
 (cM h t p).imp <|by rintro z H Q ⟨G,i,d,q,a,s,k⟩;obtain⟨x,l,r,b,rfl⟩:=Iu s;refine⟨G,i,x,q,a,r,λv y D c o=>⟨y,i,l,c.gh,a.ext c,b,λC w u j n=>k _ w u (c.trans j) (.cons (o.ext j) n)⟩⟩
noncomputable def dN(g:DL):DF:=λb=>(g b).bind λa=>if a.length<=1000 then Y (.tup a) else M
def yo:1000<=a9:=by rw[hT];decide
def dI{o m}{g:DL}(h:PA X A (EI X.K Z g)):PE X (.Tuple A o m) (tP X.K Z (dN g)):=(Fu h).imp <|by
 rintro s H Q ⟨G,i,d,r,c,a,k⟩;unfold dN at a;rw[aa]at a;obtain⟨b,e,a⟩:=a;have a:(if b.length<=1000 then Y (D.tup b) else M)=Y d:=a;split at a
 ·cases a;rename_i q;refine⟨G,i,b,r,c,e,λj u t f l=>⟨?_,λp n=>k _ _ _ (f.trans (gv.alloc (p:=p) (o :=.tup j) f.gh n)) ?_⟩⟩
  ·rw[<- l.length];exact a7 q yo
  ·exact mM ⟨p,j,rfl,bh,bf.mono (.alloc (f.gh.free n)) b l⟩
 ·cases a
noncomputable def f9(g:DL):DL:=λb=>(g b).bind λa=>if a.length<=1000 then Y a else M
def gc{m}{g:DL}(h:PA X A (EI X.K Z g)):PE X (.List A m) (tF X.K Z (f9 g)):=(BD h).imp <|by
 rintro s H Q ⟨G,l,j,o,d,a,k⟩;unfold f9 at a;obtain⟨e,q,a⟩:=aa.1 a;have a:(if e.length<=1000 then Y e else M)=Y j:=a;split at a
 ·cases a;rename_i n;refine⟨G,l,j,o,d,q,λf r t b i=>⟨?_,λp c=>k p f r _ (b.trans (gv.lay (p:=p) (o :=.lst f) b.gh c)) (b.hh.free c) (b.gh.free c) bh i⟩⟩;rw[<- i.length];exact a7 n yo
 ·cases a
noncomputable def e2(o:D->D->Option D)(a b:DF):DF:=λρ=>(a ρ).bind λx=>(b ρ).bind λy=>o x y
def xn(h:e2 o a b c=Y d):∃x y,a c=Y x/\b c=Y y/\o x y=Y d:=by
 unfold e2 at h;obtain⟨x,f,h⟩:=aa.1 h;rw[f];rcases e:b c with _|y
 ·rw[e]at h;cases h
 rw[e]at h;exact⟨x,y,rfl,rfl,h⟩
inductive rD (K:aT) (o:D->D->Option D) (x:V) (y:V) (H:Hp) (Q:VK):Prop
 |mk G b a d:bG G H->iN K G H b x->iN K G H a y->o b a=some d->(∀v G' H',gv G H G' H'->cK K G' d v->Q v H')->rD K o x y H Q
def zm(X:Cx)(f:ai->ai->Sem ai)(o:D->D->Option D):Prop:=mz X f (rD X.K o)
def G9{K:aT}{Z:List Nat}{fa fb:DF}{e:St}(h:tP K Z (e2 o fa fb) e H Q):Qf (rD K o) (tQ K Z fa) (tQ K Z fb) e H Q:=by
 obtain⟨G,f,d,l,a,q,k⟩:=h;obtain⟨x,y,p,n,r⟩:=xn q;exact⟨G,f,x,l,a,p,λv C I c j=>⟨C,f,y,c.gh,a.ext c,n,λu z F b i=>⟨z,x,y,d,b.gh,j.ext b,i,r,λw t s E g=>k w t s ((c.trans b).trans E) g⟩⟩⟩
variable {m:Pos}
def bI{op:Operator}(c:zm X (dB op) o)(e:PE X a (tQ X.K Z fa))(d:PE X b (tQ X.K Z fb)):PE X (.BinOp a op b m) (tP X.K Z (e2 o fa fb)):=(Qp c e d).imp λf H Q h=>G9 h
def MN{op:CmpOp}(c:zm X (d_ op) o)(f:PE X a (tQ X.K Z fa))(e:PE X b (tQ X.K Z fb))(d:hU op b=Z_):PE X (.Compare a [op] [b] m) (tP X.K Z (e2 o fa fb)):=(BE c f e d).imp λg H Q h=>G9 h
noncomputable def cT(f:DF):DT:=λa=>(f a).bind λd=>match d with|.bl b=>Y b|_=>M
def qE{f:DF}{a:bY}{b:Bool}(h:cT f a=Y b):f a=Y (.bl b):=by
 unfold cT at h;obtain⟨d,e,h⟩:=aa.1 h;rw[e];cases d with
 |bl c=>rw[show c=b from bN h]
 |_=>cases h
def cb{op:CmpOp}(f:zm X (d_ op) o)(i:PE X a (tQ X.K Z fa))(h:PE X b (tQ X.K Z fb))(g:hU op b=Z_):PT X (.Compare a [op] [b] m) (si X.K Z (cT (e2 o fa fb))):=
 (BA f i h g).imp <|by rintro n H Q ⟨G,e,d,j,c,l,k⟩;exact G9 (Z:=Z) (fa:=fa) (fb:=fb) ⟨G,e,.bl d,j,c,qE l,λv G' H' E r=>⟨d,cn.mp r,k G' H' E⟩⟩
noncomputable def i6(f g:DT):DT:=λa=>(f a).bind λc=>if c=Z' then g a else Y Z_
noncomputable def vq(f g:DT):DT:=λa=>(f a).bind λc=>if c=Z' then Y Z' else g a
noncomputable def ua(f:DT):DT:=λa=>(f a).map λc=> !c
variable {f:DT}
def pI(b:PT X a (si X.K Z f)):PW X (.BoolOp .And [a] m) (si X.K Z f):=Od b
def Ci(b:PT X a (si X.K Z f)):PW X (.BoolOp .Or [a] m) (si X.K Z f):=Rn b
def pK(o:PT X a (si X.K Z f))(n:PW X (.BoolOp .And (b::B) m) (si X.K Z g)):PW X (.BoolOp .And (a::b::B) m) (si X.K Z (i6 f g)):=(Ro o n).imp <|by
 rintro v H Q ⟨G,j,d,p,h,e,k⟩;unfold i6 at e;obtain⟨c,q,e⟩:=aa.1 e;refine⟨G,j,c,p,h,q,λl s i =>?_⟩;cases c with
 |true=>exact B2 ⟨l,j,d,i.gh,h.ext i,e,λt r u=>k t r (i.trans u)⟩
 |false=>have:d=false:=(bN (show Y Z_=Y d from e)).symm;subst this;exact DY (k l s i)
def HR(o : PT X a (si X.K Z f))(n : PW X (.BoolOp .Or (b :: B) m) (si X.K Z g)): PW X (.BoolOp .Or (a :: b :: B) m) (si X.K Z (vq f g)) := (U8 o n).imp <|by
  rintro v H Q ⟨G,j,d,p,h,e,k⟩
  unfold vq at e
  obtain ⟨c,q,e⟩ := aa.1 e
  refine⟨G,j,c,p,h,q,λl s i => ?_⟩
  cases c with
  |false => exact DY ⟨l,j,d,i.gh,h.ext i,e,λt r u => k t r (i.trans u)⟩
  |true =>
    have : d = Z' := (bN (show Y Z' = Y d from e)).symm
    subst this; exact B2 (k l s i)
def My(i:PT X a (si X.K Z f)):PT X (.UnaryOp .Not a m) (si X.K Z (ua f)):=(KN i).imp <|by
 rintro p H Q ⟨G,h,d,j,e,b,k⟩;unfold ua at b;rcases g:f h with _|c
 ·rw[g]at b;cases b
 rw[g]at b;have:d = !c:=(bN (show Y (!c)=Y d from b)).symm;subst this;exact⟨G,h,c,j,e,g,λn l o=>k n l o⟩
def JK(f g:DF):DF:=λa=>(cT f a).bind λc=>if c=Z' then g a else Y (.bl Z_)
def W4(f g:DF):DF:=λa=>(cT f a).bind λc=>if c=Z' then Y (.bl Z') else g a
noncomputable def Pb(f:DT):DF:=λa=>(f a).map λc =>.bl (!c)
def MK{b}(h:PE X a (tP X.K Z fa)):PE X (.BoolOp b [a] m) (tP X.K Z fa):=RA h
def Tc(o:PE X a (tP X.K Z fa))(n:PE X (.BoolOp .And (b::B) m) (tP X.K Z fb)):PE X (.BoolOp .And (a::b::B) m) (tP X.K Z (JK fa fb)):=(RD o n).imp <|by
 rintro w H Q ⟨G,h,d,p,f,e,k⟩;unfold JK at e;obtain⟨c,q,e⟩:=aa.1 e;refine⟨G,h,_,p,f,qE q,λv i s g l=>⟨c,cn.mp l,?_⟩⟩;cases c with
 |true=>exact B2 ⟨i,h,d,g.gh,f.ext g,e,λv t r u j=>k v t r (g.trans u) j⟩
 |false=>have:d=.bl false:=(bN (show Y (D.bl Z_)=Y d from e)).symm;subst this;exact DY (k _ i s g (cn.mpr rfl))
def V2(o : PE X a (tP X.K Z fa))(n : PE X (.BoolOp .Or (b :: B) m) (tP X.K Z fb)): PE X (.BoolOp .Or (a :: b :: B) m) (tP X.K Z (W4 fa fb)) := (Vc o n).imp <|by
  rintro w H Q ⟨G,h,d,p,f,e,k⟩
  unfold W4 at e
  obtain ⟨c,q,e⟩ := aa.1 e
  refine⟨G,h,_,p,f,qE q,λv i s g l => ⟨c,cn.mp l,?_⟩⟩
  cases c with
  |false => exact DY ⟨i,h,d,g.gh,f.ext g,e,λv t r u j => k v t r (g.trans u) j⟩
  |true =>
    have : d = .bl Z' := (bN (show Y (D.bl Z') = Y d from e)).symm
    subst this; exact B2 (k _ i s g (cn.mpr rfl))
def S9(i:PE X a (tP X.K Z fa)):PE X (.UnaryOp .Not a m) (tP X.K Z (Pb (cT fa))):=(RB i).imp <|by
 rintro p H Q ⟨G,g,d,j,e,b,k⟩;unfold Pb at b;rcases f:cT fa g with _|c
 ·rw[f]at b;cases b
 rw[f]at b;have:d=.bl (!c):=(bN (show Y (D.bl (!c))=Y d from b)).symm;subst this;exact⟨G,g,_,j,e,qE f,λv n l o h=>⟨c,cn.mp h,k _ n l o (cn.mpr rfl)⟩⟩
noncomputable def Pc(c:DT)(f g:DF):DF:=λa=>(c a).bind λb=>if b=Z' then f a else g a
def V3(q:PT X c (si X.K Z f))(s:PE X a (tP X.K Z fa))(r:PE X b (tP X.K Z fb)):PE X (.IfExp c a b m) (tP X.K Z (Pc f fa fb)):=(K1 q s r).imp <|by
 rintro w H Q ⟨G,i,d,t,e,h,k⟩;unfold Pc at h;obtain⟨c,u,h⟩:=aa.1 h;refine⟨G,i,c,t,e,u,λp x g =>?_⟩;cases c with
 |true=>exact B2 ⟨p,i,d,g.gh,e.ext g,h,λv n l o j=>k v n l (g.trans o) j⟩
 |false=>exact DY ⟨p,i,d,g.gh,e.ext g,h,λv n l o j=>k v n l (g.trans o) j⟩
end
mutual
noncomputable def lH:D->D->Bool
 |.dJ,.dJ=>Z'|.bl a,.bl b=>a==b|.bl a,.int b=>(if a then 1 else 0)==b
 |.int a,.bl b=>a==(if b then 1 else 0)
 |.int a,.int b=>a==b|.str a,.str b=>a==b|.lst d,.lst c=>og d c|.tup d,.tup c=>og d c|_,_=>Z_
noncomputable def og:List D->List D->Bool
 |[],[]=>Z'|x::b,y::a=>lH x y&&og b a|_,_=>Z_
end
mutual
def iK:D->Nat->Bool
 |.lst a,n=>n != 0&&iJ a (n-1)|.tup a,n=>n != 0&&iJ a (n-1)|.jS _,_=>Z_|.ins _ _ _,_=>Z_|.fT _ _,_=>Z_|.obj _ _,_=>Z_|.kf _ _,_=>Z_|.dJ,_=>Z'|.bl _,_=>Z'|.int _,_=>Z'|.str _,_=>Z'
def iJ:List D->Nat->Bool
 |[],_=>Z'|x::a,n=>iK x n&&iJ a n
end
theorem uY:∀ {a:List D}{n i:Nat}{d:D},iJ a n=Z'->a[i]?=Y d->iK d n=Z'
 |[],n,i,d,h,e=>by simp at e
 |x::a,n,0,d,h,e=>by simp only[iJ,aO]at h;simp at e;subst e;exact h.1
 |x::a,n,i+1,d,h,e=>by simp only[iJ,aO]at h;exact uY (i:=i) h.2 (by simpa using e)
theorem uW:∀(b a:List D),og b a=((cm (min b.length a.length)).all (λj=>lH (b.getD j .dJ) (a.getD j .dJ))&&(b.length==a.length))
 |[],[]=>by simp[og]
 |[],y::a=>by simp[og]
 |x::b,[]=>by simp[og]
 | x::b,y::a=>by
  have e:min (x::b).length (y::a).length=min b.length a.length+1:=by simp[Nat.add_min_add_right]
  rw[e,mn,k6,vg];simp only[og,uW b a,cB,List.getD_cons_zero,List.getD_cons_succ,aK];rw[Bool.and_assoc]
  congr 2
  simp
mutual
theorem MI:∀(d:D) (n:Nat),iK d n=Z'->lH d d=Z'
 |.dJ,n,h=>rfl|.bl b,n,h=>beq_self_eq_true b|.int b,n,h=>beq_self_eq_true b|.str b,n,h=>beq_self_eq_true b|.lst a,n,h=>by simp only[iK,aO]at h;exact oV a _ h.2
 |.tup a,n,h=>by simp only[iK,aO]at h;exact oV a _ h.2
 |.jS a,n,h=>by simp[iK]at h
 |.ins _ _ _,n,h=>by simp[iK]at h
 |.fT _ _,n,h=>by simp[iK]at h
 |.obj _ _,n,h=>by simp[iK]at h
 |.kf _ _,n,h=>by simp[iK]at h
theorem oV:∀(d:List D) (n:Nat),iJ d n=Z'->og d d=Z'
 |[],n,h=>by simp[og]
 |x::a,n,h=>by simp only[iJ,aO]at h;simp only[og,MI x n h.1,oV a n h.2,Bool.and_self]
end
section
variable {K:aT}
def Iv.inj{xs ys:List V}{a:az}(W:∀a o,K.lookup a=Y o->H a=M)(l:Iv K H a xs)(j:Iv K H a ys):xs=ys:=by
 rcases l with l|⟨o,b,n,l,_,_,c,_,r⟩
 ·rcases j with j|⟨o,_,_,j,_⟩
  ·rw[l]at j;cases j;rfl
  ·rw[W _ _ j]at l;cases l
 ·rcases j with j|⟨o',b',n',j,_,_,c',_,r'⟩
  ·rw[W _ _ l]at j;cases j
  ·rw[l]at j;cases j;rw[c]at c';injection c' with e;subst e;exact r.inj r'
mutual
theorem cK.inj(W:∀a o,K.lookup a=Y o->H a=M):∀(u g:D) (n m:Nat){v:V},iK u n=Z'->iK g m=Z'->cK K H u v->cK K H g v->u=g
 |.dJ,g,n,m,v,h,d,i,f=>by have e:=ig.mp i;subst e;cases g<;>simp[cK,iK]at f d ⊢
 |.bl b,g,n,m,v,h,d,i,f=>by have e:=cn.mp i;subst e;cases g<;>simp[cK,iK]at f d ⊢<;>exact f
 |.int b,g,n,m,v,h,d,i,f=>by have e:=cC.mp i;subst e;cases g<;>simp[cK,iK]at f d ⊢<;>exact f
 |.str b,g,n,m,v,h,d,i,f=>by have e:=dn.mp i;subst e;cases g<;>simp[cK,iK]at f d ⊢<;>exact f
 | .lst o,g,n,m,v,h,d,i,f=>by
  obtain⟨a,w,rfl,l,r⟩:=cU.mp i;cases g with
  |lst k=>obtain⟨b,s,e,j,q⟩:=cU.mp f;cases e;rw[l]at j;cases j;simp only[iK,aO]at h d;rw[bf.inj W o k _ _ h.2 d.2 r q]
  |tup k=>
   obtain⟨b,s,e,j,q⟩:=eE.mp f;cases e;rcases j with j|⟨o,_,_,j,_⟩
   ·rw[l]at j;cases j
   ·rw[W _ _ j]at l;cases l
  |jS k=>simp[iK]at d|ins c t p=>simp[iK]at d|fT t p=>simp[iK]at d|obj=>simp[iK]at d|kf=>simp[iK]at d|_=>simp[cK]at f
 | .tup o,g,n,m,v,h,d,i,f=>by
  obtain⟨a,w,rfl,l,r⟩:=eE.mp i;cases g with
  |tup k=>obtain⟨b,s,e,j,q⟩:=eE.mp f;cases e;have z:=l.inj W j;subst z;simp only[iK,aO]at h d;rw[bf.inj W o k _ _ h.2 d.2 r q]
  |lst k=>
   obtain⟨b,s,e,j,q⟩:=cU.mp f;cases e;rcases l with l|⟨o,_,_,l,_⟩
   ·rw[l]at j;cases j
   ·rw[W _ _ l]at j;cases j
  |jS k=>simp[iK]at d|ins c t p=>simp[iK]at d|fT t p=>simp[iK]at d|obj=>simp[iK]at d|kf=>simp[iK]at d|_=>simp[cK]at f
 |.jS o,g,n,m,v,h,d,i,f=>by simp[iK]at h
 |.ins _ _ _,g,n,m,v,h,d,i,f=>by simp[iK]at h
 |.fT _ _,g,n,m,v,h,d,i,f=>by simp[iK]at h
 |.obj _ _,g,n,m,v,h,d,i,f=>by simp[iK]at h
 |.kf _ _,g,n,m,v,h,d,i,f=>by simp[iK]at h
theorem bf.inj(W:∀a o,K.lookup a=Y o->H a=M):∀(b a:List D) (n m:Nat){d:List V},iJ b n=Z'->iJ a m=Z'->bf K H b d->bf K H a d->b=a
 | [],a,n,m,d,g,f,h,c=>by
  rw[dD.mp h]at c;cases a with
  |nil=>rfl|cons y a=>obtain⟨_,_,e,_⟩:=bJ.mp c;cases e
 | x::b,a,n,m,d,g,f,h,c=>by
  obtain⟨v,r,rfl,q,t⟩:=bJ.mp h;cases a with
  |nil=>have:=dD.mp c;cases this
  |cons y a=>obtain⟨k,l,e,j,i⟩:=bJ.mp c;cases e;simp only[iJ,aO]at g f;rw[cK.inj W x y _ _ g.1 f.1 q j,bf.inj W b a _ _ g.2 f.2 t i]
end
end
section
variable {P:be}{K:aT}{s:ay}
def FJ(c:oi P w H s.heap)(e:H a=Y (.lst d)):∃b:List ai,cj d b/\s.heap.IsList a b.toArray:=by
 obtain⟨z,b,n,r,q⟩:=c a _ e;exact⟨b,r,_,q,rfl,n,rfl⟩
structure HK(P:be)(w:dz)(K:aT)(H:Hp)(s:ay):Prop where
 ok:oi P w H s.heap
 QF:K.In s.heap
 wr:∀a o,K.lookup a=some o->H a=none
def FI(c:HK P w K H s)(e:Iv K H a d):∃b:List ai,cj d b/\s.heap.IsTuple a b.toArray:=by
 rcases e with e|⟨o,b,n,l,g,_,e,_,r⟩
 ·obtain⟨z,b,r,q⟩:=c.ok a _ e;exact⟨b,r,q.t⟩
 ·exact⟨b.toList,r,o,c.QF a o l,g,n,by simpa using e⟩
open SeqAt
structure zd(A:jd)(s:ay)(u1 u2:ai)(b:Bool):Prop where
 rc:RcAt A s u1 u2 b
 ne:RcNeAt A s u1 u2 (!b)
 eq:EqAt A s u1 u2 b
theorem HQ(j:HK P w K H s)(g:A.units<mZ){v:D}{m:Nat}{F:ai}(u:iK z 0=Z')(i:iK v m=Z')(y:cK K H z E)(h:cK K H v C)(x:RelV E G)(f:RelV C F):
  zd A s G F (lH z v):=by
 cases z with
 |dJ=>
  have e:=ig.mp y;subst e;cases x;cases v with
  |dJ=>have e:=ig.mp h;subst e;cases f;exact⟨.none_none,.none_none,.same _⟩
  |bl b=>have e:=cn.mp h;subst e;cases f;exact⟨.none_bool b,.none_bool b,.none_bool b⟩
  |int b=>have e:=cC.mp h;subst e;obtain⟨t,rfl⟩:=f;exact⟨.none_int b t,.none_int b t,.none_int b t⟩
  |str b=>have e:=dn.mp h;subst e;obtain⟨t,rfl⟩:=f;exact⟨.none_str b t,.none_str b t,.none_str b t⟩
  |lst n=>obtain⟨a,r,rfl,q,_⟩:=cU.mp h;cases f;obtain⟨k,_,l⟩:=FJ j.ok q;exact⟨.none_list l g,.none_list l g,.none_list l g⟩
  |tup n=>obtain⟨a,r,rfl,q,_⟩:=eE.mp h;cases f;obtain⟨k,_,l⟩:=FI j q;exact⟨.none_tuple l g,.none_tuple l g,.none_tuple l g⟩
  |_=>simp[iK]at i
 |bl c=>
  have e:=cn.mp y;subst e;cases x;cases v with
  |dJ=>have e:=ig.mp h;subst e;cases f;exact⟨.bool_none c,.bool_none c,.bool_none c⟩
  |bl b=>have e:=cn.mp h;subst e;cases f;exact⟨.bool_bool c b,.bool_bool c b,.bool_bool c b⟩
  |int b=>have e:=cC.mp h;subst e;obtain⟨t,rfl⟩:=f;exact⟨.bool_int c b t,.bool_int c b t,.bool_int c b t⟩
  |str b=>have e:=dn.mp h;subst e;obtain⟨t,rfl⟩:=f;exact⟨.bool_str c b t,.bool_str c b t,.bool_str c b t⟩
  |lst n=>obtain⟨a,r,rfl,q,_⟩:=cU.mp h;cases f;obtain⟨k,_,l⟩:=FJ j.ok q;exact⟨.bool_list c l g,.bool_list c l g,.bool_list c l g⟩
  |tup n=>obtain⟨a,r,rfl,q,_⟩:=eE.mp h;cases f;obtain⟨k,_,l⟩:=FI j q;exact⟨.bool_tuple c l g,.bool_tuple c l g,.bool_tuple c l g⟩
  |_=>simp[iK]at i
 |int c=>
  have e:=cC.mp y;subst e;obtain⟨d,rfl⟩:=x;cases v with
  |dJ=>have e:=ig.mp h;subst e;cases f;exact⟨.int_none c d,.int_none c d,.int_none c d⟩
  |bl b=>have e:=cn.mp h;subst e;cases f;exact⟨.int_bool c d b,.int_bool c d b,.int_bool c d b⟩
  |int b=>have e:=cC.mp h;subst e;obtain⟨t,rfl⟩:=f;exact⟨.int_int c d b t,.int_int c d b t,.int_int c d b t⟩
  |str b=>have e:=dn.mp h;subst e;obtain⟨t,rfl⟩:=f;exact⟨.int_str c d b t,.int_str c d b t,.int_str c d b t⟩
  |lst n=>obtain⟨a,r,rfl,q,_⟩:=cU.mp h;cases f;obtain⟨k,_,l⟩:=FJ j.ok q;exact⟨.int_list c d l g,.int_list c d l g,.int_list c d l g⟩
  |tup n=>obtain⟨a,r,rfl,q,_⟩:=eE.mp h;cases f;obtain⟨k,_,l⟩:=FI j q;exact⟨.int_tuple c d l g,.int_tuple c d l g,.int_tuple c d l g⟩
  |_=>simp[iK]at i
 |str c=>
  have e:=dn.mp y;subst e;obtain⟨d,rfl⟩:=x;cases v with
  |dJ=>have e:=ig.mp h;subst e;cases f;exact⟨.str_none c d,.str_none c d,.str_none c d⟩
  |bl b=>have e:=cn.mp h;subst e;cases f;exact⟨.str_bool c d b,.str_bool c d b,.str_bool c d b⟩
  |int b=>have e:=cC.mp h;subst e;obtain⟨t,rfl⟩:=f;exact⟨.str_int c d b t,.str_int c d b t,.str_int c d b t⟩
  |str b=>have e:=dn.mp h;subst e;obtain⟨t,rfl⟩:=f;exact⟨.str_str c d b t,.str_str c d b t,.str_str c d b t⟩
  |lst n=>obtain⟨a,r,rfl,q,_⟩:=cU.mp h;cases f;obtain⟨k,_,l⟩:=FJ j.ok q;exact⟨.str_list c d l g,.str_list c d l g,.str_list c d l g⟩
  |tup n=>obtain⟨a,r,rfl,q,_⟩:=eE.mp h;cases f;obtain⟨k,_,l⟩:=FI j q;exact⟨.str_tuple c d l g,.str_tuple c d l g,.str_tuple c d l g⟩
  |_=>simp[iK]at i
 |_=>simp[iK]at u
def zd.refs(a:RcAt A s (.ref l) (.ref b) k)(c:RcNeAt A s (.ref l) (.ref b) (!k))(h:l=b->k=Z'):zd A s (.ref l) (.ref b) k:=by
 refine⟨a,c,?_⟩;by_cases e:l=b
 ·subst e;rw[h rfl];exact .same _
 ·exact .of_refs e a
def MH(h:b.length≠a.length):og b a=false:=by
 rw[uW];have:(b.length==a.length)=false:=by simpa using h
 rw[this,Bool.and_false]
def Eb{m:Nat}(ih:∀(h g:D) (l k:V) (t p:ai),iK h n=Z'->iK g m=Z'->cK K H h l->cK K H g k->RelV l t->RelV k p->zd A s t p (lH h g))(L:iJ d n=Z')(J:iJ c m=Z')(r:bf K H d i)(q:bf K H c o)(w:cj i b)(x:cj o a)(j:Nat)(P:j<b.toArray.size)(O:j<a.toArray.size):
  EqAt A s b.toArray[j] a.toArray[j] (lH (d.getD j .dJ) (c.getD j .dJ)):=by
 have X:d.length=b.length:=r.length.trans w.length;have U:c.length=a.length:=q.length.trans x.length;have f:j<b.length:=by simpa using P
 have e:j<a.length:=by simpa using O
 have z:d[j]?=Y (d.getD j .dJ):=by rw[Ka,aX (by omega)];rfl
 have y:c[j]?=Y (c.getD j .dJ):=by rw[Ka,aX (by omega)];rfl
 obtain⟨v,T,I⟩:=r.get z;obtain⟨u,S,G⟩:=q.get y;obtain⟨C,R,F⟩:=w.get T;obtain⟨B,Q,E⟩:=x.get S;have N:b.toArray[j]=C:=by
  have:b[j]?=Y b.toArray[j]:=by simp[f]
  rw[R]at this;exact(bN this).symm
 have W:a.toArray[j]=B:=by
  have:a[j]?=Y a.toArray[j]:=by simp[e]
  rw[Q]at this;exact(bN this).symm
 rw[N,W];exact(ih _ _ _ _ _ _ (uY L z) (uY J y) I G F E).eq
theorem Gc(g:HK P w K H s):∀(n:Nat){A:jd}(_:A.units+n<mZ) (J F:D) (m:Nat) (Q O:V) (S R:ai),iK J n=Z'->iK F m=Z'->cK K H J Q->cK K H F O->RelV Q S->RelV O R ->
  zd A s S R (lH J F):=by
 intro n
 induction n with
 |zero=>intro A hu J F m Q O S R C k I o G i;exact HQ g ž C k I o G i
 |succ n ih=>
  intro A hu J F m Q O S R C k I o G i;have d:A.units<mZ:=by omega
  have Zl:=λ(m':Nat)=>λ(J F:D) (Q O:V) (S R:ai)=>ih (A:=A.in1) (by show A.units+1+n<mZ;omega) J F m' Q O S R
  cases J with
  |lst p=>
   obtain⟨a,vs,rfl,X,W⟩:=cU.mp I;cases G;obtain⟨r,U,l⟩:=FJ g.ok X;cases F with
   |lst h=>
    obtain⟨b,us,rfl,x,z⟩:=cU.mp o;cases i;obtain⟨f,L,q⟩:=FJ g.ok x;have B:=C;have N:=k;simp only[iK,aO,Nat.add_sub_cancel]at B N;have v:r.toArray.size=p.length:=by rw[aU];exact(W.length.trans U.length).symm
    have y:f.toArray.size=h.length:=by rw[aU];exact(z.length.trans L.length).symm
    have u:a=b->og p h=true:=λe=>by subst e;rw[X]at x;cases x;rw[<- bf.inj g.wr p h _ _ B.2 N.2 W z];exact oV p _ B.2
    show zd A s _ _ (og p h);by_cases hl:p.length=h.length
    ·have E:og p h=(cm r.toArray.size).all (λj=>lH (p.getD j .dJ) (h.getD j .dJ)):=by rw[uW,<- hl,P7,v];simp
     have it:=Eb (Zl _) B.2 N.2 W z U L;exact .refs (by rw[E];exact .lists l q ž d it) (by rw[E];exact .lists l q ž d it) u
    ·have E:=MH hl;have Sv:(r.toArray.size != f.toArray.size)=true:=by rw[v,y];simpa using hl
     refine .refs ?_ ?_ u
     ·rw[E];exact .lists_lengths l q Sv d
     ·rw[E];exact .lists_lengths l q Sv d
   |tup h=>obtain⟨b,us,rfl,x,z⟩:=eE.mp o;cases i;obtain⟨f,L,q⟩:=FI g x;exact⟨.list_tuple l q d,.list_tuple l q d,.list_tuple l q d⟩
   |dJ=>have e:=ig.mp o;subst e;cases i;exact⟨.list_none l d,.list_none l d,.list_none l d⟩
   |bl b=>have e:=cn.mp o;subst e;cases i;exact⟨.list_bool b l d,.list_bool b l d,.list_bool b l d⟩
   |int b=>have e:=cC.mp o;subst e;obtain⟨t,rfl⟩:=i;exact⟨.list_int b t l d,.list_int b t l d,.list_int b t l d⟩
   |str b=>have e:=dn.mp o;subst e;obtain⟨t,rfl⟩:=i;exact⟨.list_str b t l d,.list_str b t l d,.list_str b t l d⟩
   |_=>simp[iK]at k
  |tup p=>
   obtain⟨a,vs,rfl,X,W⟩:=eE.mp I;cases G;obtain⟨r,U,l⟩:=FI g X;cases F with
   |tup h=>
    obtain⟨b,us,rfl,x,z⟩:=eE.mp o;cases i;obtain⟨f,L,q⟩:=FI g x;have B:=C;have N:=k;simp only[iK,aO,Nat.add_sub_cancel]at B N;have v:r.toArray.size=p.length:=by rw[aU];exact(W.length.trans U.length).symm
    have y:f.toArray.size=h.length:=by rw[aU];exact(z.length.trans L.length).symm
    have u:a=b->og p h=true:=λe=>by subst e;have y:=X.inj g.wr x;subst y;rw[<- bf.inj g.wr p h _ _ B.2 N.2 W z];exact oV p _ B.2
    show zd A s _ _ (og p h);have E:og p h=((cm (min r.toArray.size f.toArray.size)).all (λj=>lH (p.getD j .dJ) (h.getD j .dJ))&&r.toArray.size==f.toArray.size):=by rw[uW,v,y]
    have it:=Eb (Zl _) B.2 N.2 W z U L;exact .refs (by rw[E];exact .tuples l q d it) (by rw[E];exact .tuples l q d it) u
   |lst h=>obtain⟨b,us,rfl,x,z⟩:=cU.mp o;cases i;obtain⟨f,L,q⟩:=FJ g.ok x;exact⟨.tuple_list l q d,.tuple_list l q d,.tuple_list l q d⟩
   |dJ=>have e:=ig.mp o;subst e;cases i;exact⟨.tuple_none l d,.tuple_none l d,.tuple_none l d⟩
   |bl b=>have e:=cn.mp o;subst e;cases i;exact⟨.tuple_bool b l d,.tuple_bool b l d,.tuple_bool b l d⟩
   |int b=>have e:=cC.mp o;subst e;obtain⟨t,rfl⟩:=i;exact⟨.tuple_int b t l d,.tuple_int b t l d,.tuple_int b t l d⟩
   |str b=>have e:=dn.mp o;subst e;obtain⟨t,rfl⟩:=i;exact⟨.tuple_str b t l d,.tuple_str b t l d,.tuple_str b t l d⟩
   |_=>simp[iK]at k
  |jS p=>simp[iK]at C|ins c ks T=>simp[iK]at C|fT ks T=>simp[iK]at C|obj=>simp[iK]at C|kf=>simp[iK]at C|_=>exact HQ g d rfl k I o G i
end
def gj(x y:D):Option D:=if (iK x 180&&iK y 180)=Z' then Y (.bl (lH x y)) else M
def Dq(x y:D):Option D:=if (iK x 180&&iK y 180)=Z' then Y (.bl (!lH x y)) else M
section
variable {X:Cx}
def Inv.hk{s:ay}(I:Inv X B U H s):HK X.prog X.w X.K H s:=⟨I.f',I.F4,λa o e=>(I.bs a o (I.ok.mod.QF a o e)).2⟩
def fZ(h:fN k X.A):zm X (d_ .Eq) gj:=by
 intro e s n H x y v u Q I g f ⟨G,m,l,d,c,j,i,a,q⟩;unfold gj at a;split at a
 ·rename_i b;rw[aO]at b;cases a;have o:=h.un;exact(Gc (K:=X.K) I.hk 180 (A:=X.A) ž m l 180 x y v u b.1 b.2 (j.all c) (i.all c) g f).rc _ _ _ _ ⟨.bl _,H,I,rfl,q _ G H (.refl c) (cn.mpr rfl)⟩
 ·cases a
def Li(h:fN k X.A):zm X (d_ .NotEq) Dq:=by
 intro e s n H x y v u Q I g f ⟨G,m,l,d,c,j,i,a,q⟩;unfold Dq at a;split at a
 ·rename_i b;rw[aO]at b;cases a;have o:=h.un;exact(Gc (K:=X.K) I.hk 180 (A:=X.A) ž m l 180 x y v u b.1 b.2 (j.all c) (i.all c) g f).ne _ _ _ _ ⟨.bl _,H,I,rfl,q _ G H (.refl c) (cn.mpr rfl)⟩
 ·cases a
noncomputable def P2:D->D->Option D
 |.int i,.int j=>Y (.bl (decide (i<j)))|_,_=>M
noncomputable def AB:D->D->Option D
 |.int i,.int j=>Y (.bl (decide (j<i)))|_,_=>M
noncomputable def WM:D->D->Option D
 |.int i,.int j=>Y (.bl (decide (j<=i)))|_,_=>M
def Az{f:ai->ai->Sem ai}{g':Int->Int->D}(h:mz X f (rI C g))(a:∀x y d,o x y=Y d->∃i j,x=.int i/\y=.int j/\C i j/\d=g' i j)(b:∀i j G,cK X.K G (g' i j) (g i j)):zm X f o:=
 mz.imp h <|by rintro x y H Q ⟨G,p,n,d,l,k,e,m,q⟩;obtain⟨i,j,rfl,rfl,c,rfl⟩:=a _ _ _ m;exact⟨i,j,k.int,e.int,c,q _ G H (.refl l) (b i j G)⟩
def Hg{f:ai->ai->Sem ai}(h:mz X f (Kc g)):mz X f (rI (λ_ _=>True) g):=mz.imp h <|by rintro x y H Q ⟨i,j,b,a,_,q⟩;exact⟨i,j,b,a,q⟩
def Qs:zm X (d_ .Lt) P2:=Az (Hg Vg) (g':=λi j =>.bl (decide (i<j))) (λx y d h=>by unfold P2 at h;split at h<;>cases h;exact⟨_,_,rfl,rfl,trivial,rfl⟩) λi j G=>cn.mpr rfl
def Dp:zm X (d_ .Gt) AB:=Az (Hg K7) (g':=λi j =>.bl (decide (j<i))) (λx y d h=>by unfold AB at h;split at h<;>cases h;exact⟨_,_,rfl,rfl,trivial,rfl⟩) λi j G=>cn.mpr rfl
def Vl:zm X (d_ .GtE) WM:=Az (Hg Vh) (g':=λi j =>.bl (decide (j<=i))) (λx y d h=>by unfold WM at h;split at h<;>cases h;exact⟨_,_,rfl,rfl,trivial,rfl⟩) λi j G=>cn.mpr rfl
noncomputable def ku:D->D->Option D
 |.int i,.int j=>Y (.int (i-j))|_,_=>M
def qL:zm X (dB .Sub) ku:=Az (Hg RE) (g':=λi j =>.int (i-j)) (λx y d h=>by unfold ku at h;split at h<;>cases h;exact⟨_,_,rfl,rfl,trivial,rfl⟩) λi j G=>cC.mpr rfl
noncomputable def gf:D->D->Option D
 |.int i,.int j=>if 0<j then Y (.int (i%j)) else M
 |_,_=>M
def gR:zm X (dB .Mod) gf:=Az RI (g':=λi j =>.int (i%j)) (λx y d h=>by
 unfold gf at h;split at h<;>try (cases h;done)
 split at h<;>cases h;exact⟨_,_,rfl,rfl,by assumption,rfl⟩) λi j G=>cC.mpr rfl
noncomputable def fh:D->D->Option D
 |.int i,.int j=>if 0<j/\j<2 ^ 64 then Y (.int (i/j)) else M
 |_,_=>M
def K8:mz X (dB .FloorDiv) (rI (λ_ j=>0<j/\j<2 ^ 64) λi j =>.int (i/j)):=WK λi j _ _ _ _ _ a q=>by
 have d:(0:Int)<j:=a.1;have c:j<2 ^ 64:=a.2;have b:j.natAbs<2 ^ 64:=by omega
 refine floordiv_int ž (by rw[Int.fdiv_eq_ediv_of_nonneg i (by omega)];exact q) (.inl (PyProof.noPylong_of_log2 ?_));have:=(Nat.log2_lt (n:=j.natAbs) (k:=64) ž).mpr b;omega
def kr:zm X (dB .FloorDiv) fh:=Az K8 (g':=λi j =>.int (i/j)) (λx y d h=>by
 unfold fh at h;split at h<;>try (cases h;done)
 split at h<;>cases h;exact⟨_,_,rfl,rfl,by assumption,rfl⟩) λi j G=>cC.mpr rfl
noncomputable def dA:Nat:=1000000
def ft:dA<=a9:=by rw[hT];decide
def d8:D->D->Option D
 |.int i,.int j=>Y (.int (i+j))|.str x,.str y=>if x.length+y.length<=dA then Y (.str (x++y)) else M
 |.lst xs,.lst a=>if xs.length+a.length<=dA then Y (.lst (xs++a)) else M
 |_,_=>M
def eY:zm X (dB .Add) d8:=by
 refine mz.imp (RM.or (Fy.or RK)) ?_;rintro x y H Q ⟨G,u,t,d,e,h,g,c,q⟩;unfold d8 at c;split at c<;>try (cases c;done)
 ·cases c;exact .inl ⟨_,_,h.int,g.int,q _ G H (.refl e) (cC.mpr rfl)⟩
 ·split at c
  ·cases c;rename_i f;exact .inr (.inl ⟨_,_,h.str,g.str,a7 f ft,q _ G H (.refl e) (dn.mpr rfl)⟩)
  ·cases c
 ·split at c
  ·cases c;rename_i f;obtain⟨a,l,s,o,j⟩:=h.lst e;obtain⟨b,m,r,n,i⟩:=g.lst e;refine .inr (.inr ⟨a,b,l,m,s,r,o,n,?_,λp k=>q _ _ _ (gv.alloc (p:=p) e k) ?_⟩)
   ·rw[<- j.length,<- i.length];exact a7 f ft
   ·exact cU.mpr ⟨p,_,rfl,bh,bf.mono (.alloc (e.free k)) _ (j.append i)⟩
  ·cases c
instance:DecidablePred λp:Int×Int=>Nh p.1 p.2:=λp=>by unfold Nh;infer_instance
def r9:D->D->Option D
 |.int i,.int j=>if (-(2 ^ 64)<i/\i<2 ^ 64)\/(-(2 ^ 64)<j/\j<2 ^ 64) then Y (.int (i*j)) else M
 |.lst a,.int k=>if (-(2 ^ 63)<=k/\k<2 ^ 63)/\a.length*k.toNat<=dA then Y (.lst (bK k.toNat a).flatten) else M
 |_,_=>M
def sV:zm X (dB .Mult) r9:=by
 refine mz.imp (RH.or RG) ?_;rintro x y H Q ⟨G,o,n,d,c,i,h,b,q⟩;unfold r9 at b;split at b<;>try (cases b;done)
 ·split at b
  ·cases b;rename_i l;exact .inl ⟨_,_,i.int,h.int,l,q _ G H (.refl c) (cC.mpr rfl)⟩
  ·cases b
 ·split at b
  ·cases b;rename_i e;obtain⟨a,j,m,k,f⟩:=i.lst c;refine .inr ⟨a,_,j,m,h.int,k,e.1.1,e.1.2,?_,λp g=>q _ _ _ (gv.alloc (p:=p) c g) ?_⟩
   ·rw[<- f.length];exact a7 e.2 ft
   ·exact cU.mpr ⟨p,_,rfl,bh,bf.mono (.alloc (c.free g)) _ (f.rep _)⟩
  ·cases b
noncomputable def e1(o:D->Option D)(a:DF):DF:=λρ=>(a ρ).bind o
def Pd(h:e1 o a b=Y d):∃x,a b=Y x/\o x=Y d:=by
 unfold e1 at h;obtain⟨x,c,h⟩:=aa.1 h;rw[c];exact⟨x,rfl,h⟩
noncomputable def Jo:D->Option D
 |.int i=>Y (.int (-i))|_=>M
def S_{b:List Nat}{f:DF}{c:Pos}(j:PE X a (tQ X.K b f)):PE X (.UnaryOp .USub a c) (tP X.K b (e1 Jo f)):=(KZ E_ j).imp <|by
 rintro r H Q ⟨G,h,d,l,e,n,k⟩;obtain⟨x,m,g⟩:=Pd n;cases x<;>simp[Jo]at g
 subst g;exact⟨G,h,_,l,e,m,λv p o q i=>⟨_,i.int,k _ p o q (cC.mpr rfl)⟩⟩
end
inductive DO where
 |nx (ρ:bY)|rt (d:D)|ro (ds:List D)|bk (ρ:bY)|ct (ρ:bY)
 |rm (d:D) (ρ:bY)
 |rf (i:Nat) (ρ:bY)
 |ex (c:aG) (n:Int)
abbrev DG:=bY->Option DO
structure Bs where
 g:Hp
 h:Hp
 pin:List (Nat×az)
 fly:aG->Int->Prop
def qu(K:aT)(G H:Hp):D->az->List az->Prop
 |.obj s t,a,S=>dm K G H s t (.ref a) S|.kf _ _,_,S=>S=[]|d,a,S=>(∃o,H a=Y o/\j_ K G d o)/\S=[a]
noncomputable def zG:D->Bool
 |.lst _=>Z'|.ins _ _ _=>Z'|.fT _ _=>Z'|_=>Z_
def j_.zG{K:aT}(h:j_ K G d o):zG d=true:=by
 cases d<;>first|rfl|exact h.elim
def qu.cell{K:aT}{d:D}{a:az}{S:List az}(b:zG d=Z'):qu K G H d a S↔(∃o,H a=Y o/\j_ K G d o)/\S=[a]:=by
 cases d<;>first|exact rT|cases b
def qu.here{K:aT}{a:az}{S:List az}(h:qu K G H d a S):∀b∈S,∃o,H b=Y o:=λb c=>by
 cases d with
 |obj s t=>obtain⟨o,h,_⟩:=dm.here (show dm K G H s t (.ref a) S from h) b c;exact⟨o,h⟩
 |kf r p=>rw[show S=[] from h]at c;cases c
 |_=>obtain⟨⟨o,e,_⟩,rfl⟩:=h;simp at c;subst c;exact⟨o,e⟩
def qu.mono{K:aT}{d:D}{S:List az}(g:bG G G')(k:∀b∈S,∀o,H b=Y o->H' b=Y o)(h:qu K G H d a S):qu K G' H' d a S:=by
 cases d with
 |obj s t=>exact dm.mono g k h|kf r p=>exact h|_=>obtain⟨⟨o,e,c⟩,rfl⟩:=h;exact⟨⟨o,k a Ž o e,j_.mono g c⟩,rfl⟩
structure qZ(K:aT)(B:Bs)(Z:List Nat)(G H:Hp)(σ:St)(ρ:bY)(F:Nat->List az):Prop where
 it:∀(i:Nat) (d:D),i∈Z->ρ[i]?=some (some d)->∃a,σ[i]?=some (some (.ref a))/\qu K G H d a (F i)
 ok:∀(i:Nat) (d:D),i∈Z->ρ[i]?=some (some d)->(F i).Nodup/\∀b∈F i,G b=none/\B.2 b=none
 ap:∀(i j:Nat) (d c:D),i∈Z->j∈Z->ρ[i]?=some (some d)->ρ[j]?=some (some c)->i≠j->∀b∈F i,b∉F j
structure SR(K:aT)(B:Bs)(Z:List Nat)(G H:Hp)(σ:St)(ρ:bY):Prop where
 gh:bG G H
 g0:bG B.1 G
 h0:bG B.2 H
 fr:∀b o,G b=some o->B.1 b=some o\/B.2 b=none
 env:∀(i:Nat) (d:D),i∉Z->ρ[i]?=some (some d)->∃v,σ[i]?=some (some v)/\cK K G d v
 ow:∃F,qZ K B Z G H σ ρ F
 len:σ.length=ρ.length
 pin:∀(i:Nat) (a:az),(i,a)∈B.3->i∈Z/\σ[i]?=some (some (.ref a))
 kf:∀(j r:Nat) (p:zQ),j∈Z->Dw j∈Z->ρ[j]?=some (some (.kf r p))->EB Z H σ ρ j r p
section
variable {K:aT}
def SR.qh(S:SR K B Z G H C A):gv B.1 B.2 G H:=⟨S.h0,S.g0,S.gh,S.fr⟩
def SR.Oy(S:SR K B Z G H C A)(b:i∈Z)(e:A[i]?=Y (Y d))(c:zG d=Z'):∃a o,C[i]?=Y (Y (.ref a))/\H a=Y o/\j_ K G d o/\G a=M/\B.2 a=none:=by
 obtain⟨F,W⟩:=S.ow;obtain⟨a,n,m⟩:=W.it i d b e;obtain⟨⟨o,l,k⟩,j⟩:=(qu.cell c).mp m;obtain⟨_,h⟩:=W.ok i d b e;obtain⟨g,f⟩:=h a (by rw[j];simp);exact⟨a,o,n,l,k,g,f⟩
def SR.jy(S:SR K B Z G H C A):ki K Z G H C A:=⟨S.len,λi d e=>by
 by_cases j:i∈Z
 ·obtain⟨F,W⟩:=S.ow;obtain⟨a,q,f⟩:=W.it i d j e;refine⟨_,q,?_⟩;rw[if_pos j];obtain⟨_,m⟩:=W.ok i d j e;cases d with
  |obj s t=>
   have f:dm K G H s t (.ref a) (F i):=f;generalize F i=u at f m;cases f with
   |leaf r=>exact .inl (ni.mpr r)|lst e t=>exact .inr ⟨a,_,rfl,e,_,.lst e t,λb k=>(m b k).1⟩
   |ins n e l t=>exact .inr ⟨a,_,rfl,e,_,.ins n e l t,λb k=>(m b k).1⟩
   |fT e l t=>exact .inr ⟨a,_,rfl,e,_,.fT e l t,λb k=>(m b k).1⟩
  |kf r p=>exact .inl (rF.mpr ⟨a,rfl⟩)|lst=>obtain⟨⟨o,g,c⟩,h⟩:=f;exact .inr ⟨a,o,rfl,g,c⟩
  |ins=>obtain⟨⟨o,g,c⟩,h⟩:=f;exact .inr ⟨a,o,rfl,g,c⟩
  |fT=>obtain⟨⟨o,g,c⟩,h⟩:=f;exact .inr ⟨a,o,rfl,g,c⟩
  |_=>obtain⟨⟨o,g,c⟩,h⟩:=f;exact c.elim
 ·obtain⟨v,q,f⟩:=S.env i d j e;exact⟨v,q,by rw[if_neg j];exact f⟩,S.kf⟩
def jR{l:List (Option b)}(h:(l.set i (Y x))[j]?=Y (Y y)):(i=j/\y=x/\i<l.length)\/(i≠j/\l[j]?=Y (Y y)):=by
 by_cases e:i=j
 ·subst e;by_cases a:i<l.length
  ·rw[cy a]at h;cases h;exact .inl ⟨rfl,rfl,a⟩
  ·rw[en (by simpa using a)]at h;cases h
 ·rw[aA e]at h;exact .inr ⟨e,h⟩
def vc{l:List (Option a)}(h:i<l.length):(l.set i (Y x))[i]?=Y (Y x):=by rw[cy h]
def qZ.ext{F:Nat->List az}(W:qZ K B Z G H C A F)(E:gv G H G' H'):qZ K B Z G' H' C A F:=by
 refine⟨λi d c e =>?_,λi d c e =>?_,W.ap⟩
 ·obtain⟨a,h,g⟩:=W.it i d c e;exact⟨a,h,g.mono E.gg λb _ o=>E.hh b o⟩
 ·obtain⟨a,h,g⟩:=W.it i d c e;obtain⟨n,k⟩:=W.ok i d c e;refine⟨n,λb f=>⟨?_,(k b f).2⟩⟩;obtain⟨o,j⟩:=g.here b f;rcases q:G' b with _|u
  ·rfl
  rcases E.fr b u q with z|z
  ·rw[(k b f).1]at z;cases z
  ·rw[j]at z;cases z
def SR.ext(S:SR K B Z G H C A)(E:gv G H G' H'):SR K B Z G' H' C A:=by
 refine⟨E.gh,S.g0.trans E.gg,S.h0.trans E.hh,λb o e =>?_,λi d a e =>?_,?_,S.len,S.pin,λj r p f c e=>(S.kf j r p f c e).ext E.hh⟩
 ·rcases E.fr b o e with q|q
  ·exact S.fr b o q
  ·exact .inr (S.h0.free q)
 ·obtain⟨v,h,g⟩:=S.env i d a e;exact⟨v,h,cK.mono E.gg d g⟩
 ·obtain⟨F,W⟩:=S.ow;exact⟨F,W.ext E⟩
def SR.vF{v:V}(S:SR K B Z G H C A)(P:i∉Z)(r:cK K G d v):SR K B Z G H (C.set i (Y v)) (A.set i (Y d)):=by
 have f:∀j,j∈Z->i≠j:=λj b e=>P (e ▸ b)
 refine⟨S.gh,S.g0,S.h0,S.fr,λj c b e =>?_,?_,by simp[S.len],λj a h=>⟨(S.pin j a h).1,by rw[aA (f j (S.pin j a h).1)];exact(S.pin j a h).2⟩,λj k p q R e =>?_⟩
 ·rcases jR e with⟨rfl,rfl,I⟩|⟨n,e⟩
  ·exact⟨v,vc (by rw[S.len];exact I),r⟩
  ·obtain⟨u,l,g⟩:=S.env j c b e;exact⟨u,by rw[aA n];exact l,g⟩
 ·obtain⟨F,W⟩:=S.ow;have m:∀j c,j∈Z->(A.set i (Y d))[j]?=Y (Y c)->A[j]?=Y (Y c):=λj c b e=>by rw[aA (f j b)]at e;exact e
  refine⟨F,λj c b e =>?_,λj c b e=>W.ok j c b (m j c b e),λj k c t b s U T=>W.ap j k c t b s (m j c b U) (m k t s T)⟩;obtain⟨a,l,g⟩:=W.it j c b (m j c b e);exact⟨a,by rw[aA (f j b)];exact l,g⟩
 ·rw[aA (f j q)]at e;obtain⟨o,Q,z,y,E,w,x,l,g,e3,X⟩:=S.kf j k p q R e;exact⟨o,Q,z,y,E,w,x,by rw[aA (f k o)];exact l,by rw[aA (f k o)];exact g,by rw[aA (f j q)];exact e3,X⟩
def SR.V4{i:Nat}{a:az}{d':D}{S' F0:List az}{F:Nat->List az}(S:SR K B Z G H C A)(W:qZ K B Z G H C A F)(hi:i∈Z)(h0:∀b∈F0,b∈F i/\∃d,A[i]?=Y (Y d))(gg:bG G G')(gh:bG G' H')(fr:∀b o,G' b=Y o->G b=Y o\/H b=M\/b∈F0)(v:∀b o,b∉F0->H b=Y o->H' b=Y o)(nw:qu K G' H' d' a S')(nd:S'.Nodup)(nf:∀b∈S',G' b=M/\(b∈F0\/H b=M\/(B.2 b=M/\∀k c,k∈Z->A[k]?=Y (Y c)->k≠i->b∉F k)))(X_:∀b,(i,b)∈B.3->b=a)(hna:∀r p,d' ≠ .kf r p)(ha:∀j p,j∈Z->Dw j∈Z->j≠i->A[j]?=Y (Y (.kf i p))->∃s t s' v',d'=.obj s t/\C[j]?=Y (Y v')/\hG H' p (.ref a)=Y v'/\nX p s=Y s'):
  SR K B Z G' H' (C.set i (Y (.ref a))) (A.set i (Y d'))/\qZ K B Z G' H' (C.set i (Y (.ref a))) (A.set i (Y d')) (λj=>if j=i then S' else F j):=by
 have b0:∀b∈F0,G b=M/\B.2 b=none:=λb g=>by obtain⟨X,d,U⟩:=h0 b g;exact(W.ok i d hi U).2 b X
 have P:∀j c,j∈Z->A[j]?=Y (Y c)->i≠j->∀b∈F j,b∉F0:=λj c l ej f b g VI=>by obtain⟨X,d,U⟩:=h0 b VI;exact W.ap i j d c hi l U ej f b X g
 have W':qZ K B Z G' H' (C.set i (Y (.ref a))) (A.set i (Y d')) (λj=>if j=i then S' else F j):=by
  refine⟨λj c l e =>?_,λj c l e =>?_,λj k c c' l hk ej ek Zz =>?_⟩
  ·rcases jR e with⟨rfl,rfl,Q⟩|⟨f,e⟩
   ·exact⟨a,vc (by rw[S.len];exact Q),by simpa using nw⟩
   ·obtain⟨b,R,I⟩:=W.it j c l e;refine⟨b,by rw[aA f];exact R,?_⟩;simp only[if_neg (bU f)];exact I.mono gg λx hx o=>v x o (P j c l e f x hx)
  ·rcases jR e with⟨rfl,rfl,Q⟩|⟨f,e⟩
   ·simp only[if_true];refine⟨nd,λb g=>⟨(nf b g).1,?_⟩⟩;rcases(nf b g).2 with z|z|z
    ·exact(b0 b z).2
    ·exact S.h0.free z
    ·exact z.1
   ·simp only[if_neg (bU f)];obtain⟨n,k⟩:=W.ok j c l e;obtain⟨x,R,I⟩:=W.it j c l e;refine⟨n,λb g=>⟨?_,(k b g).2⟩⟩;rcases q:G' b with _|u
    ·rfl
    rcases fr b u q with z|z|z
    ·rw[(k b g).1]at z;cases z
    ·obtain⟨o,ho⟩:=I.here b g;rw[ho]at z;cases z
    ·exact absurd z (P j c l e f b g)
  ·have y:∀m c,m∈Z->A[m]?=Y (Y c)->i≠m->∀b∈S',b∉F m:=λm c hm em f b g T=>by
    rcases(nf b g).2 with z|z|z
    ·exact P m c hm em f b T z
    ·obtain⟨x,R,I⟩:=W.it m c hm em;obtain⟨o,ho⟩:=I.here b T;rw[ho]at z;cases z
    ·exact z.2 m c hm em (bU f) T
   rcases jR ej with⟨rfl,rfl,Q⟩|⟨f,ZX⟩
   ·rcases jR ek with⟨rfl,_,_⟩|⟨f,Yy⟩
    ·exact absurd rfl Zz
    ·simp only[if_true,if_neg (bU f)];exact y k c' hk Yy f
   ·rcases jR ek with⟨rfl,rfl,Q⟩|⟨Yd,Yy⟩
    ·simp only[if_true,if_neg (bU f)];exact λb g Yo=>y j c l ZX f b Yo g
    ·simp only[if_neg (bU f),if_neg (bU Yd)];exact W.ap j k c c' l hk ZX Yy Zz
 refine⟨⟨gh,S.g0.trans gg,λb o e =>?_,λb o e =>?_,λj c l e =>?_,⟨_,W'⟩,by simp[S.len],λj b h =>?_,λj r p X U e =>?_⟩,W'⟩
 ·refine v b o (λz =>?_) (S.h0 b o e);rw[(b0 b z).2]at e;cases e
 ·rcases fr b o e with z|z|z
  ·exact S.fr b o z
  ·exact .inr (S.h0.free z)
  ·exact .inr (b0 b z).2
 ·have f:i≠j:=λz=>l (z ▸ hi)
  rw[aA f]at e;obtain⟨u,R,I⟩:=S.env j c l e;exact⟨u,by rw[aA f];exact R,cK.mono gg c I⟩
 ·obtain⟨p1,p2⟩:=S.pin j b h;refine⟨p1,?_⟩;by_cases ZD:i=j
  ·subst ZD;rw[X_ b h,cy (ax.mp p2).1]
  ·rw[aA ZD];exact p2
 ·rcases jR e with⟨rfl,z,Q⟩|⟨f,e'⟩
  ·exact absurd z.symm (hna r p)
  ·clear e;have e:=e';clear e';by_cases E:r=i
   ·subst E;obtain⟨s,t,s',v',f1,f2,f3,f4⟩:=ha j p X U (bU f) e;obtain⟨g1,g0,s0,t0,s1,w,v1,g2,g3,g4,g5,g6,g7⟩:=S.kf j r p X U e;have Q:r<A.length:=(ax.mp g2).1;refine⟨hi,g0,s,t,s',.ref a,v',?_,vc (by rw[S.len];exact Q),?_,f3,f4,g7⟩
    ·rw[vc Q,f1]
    ·rw[aA f];exact f2
   ·obtain⟨g1,g0,s0,t0,s1,w,v1,g2,g3,g4,g5,g6⟩:=S.kf j r p X U e;obtain⟨x,R,I⟩:=W.it r _ g1 g2;rw[g3]at R;cases R;refine⟨g1,g0,s0,t0,s1,.ref x,v1,by rw[aA (bU E)];exact g2,by rw[aA (bU E)];exact g3,by rw[aA f];exact g4,?_,g6⟩;exact dm.B8 (show dm K G H s0 t0 (.ref x) (F r) from I) g6.1 (λb g o=>v b o (P r _ g1 g2 (bU E) b g)) g5
def SR.chg{i:Nat}{a:az}{d':D}{S' F0:List az}{F:Nat->List az}(S:SR K B Z G H C A)(W:qZ K B Z G H C A F)(q:i∈Z)(v:∀b∈F0,b∈F i/\∃d,A[i]?=Y (Y d))(x:bG G G')(w:bG G' H')(y:∀b o,G' b=Y o->G b=Y o\/H b=M\/b∈F0)(c:∀b o,b∉F0->H b=Y o->H' b=Y o)(m:qu K G' H' d' a S')(n:S'.Nodup)(h:∀b∈S',G' b=M/\(b∈F0\/H b=M))(e:∀b,(i,b)∈B.3->b=a)(f:∀r p,d' ≠ .kf r p)(u:∀j p,j∈Z->Dw j∈Z->j≠i->A[j]?=Y (Y (.kf i p))->∃s t l g,d'=.obj s t/\C[j]?=Y (Y g)/\hG H' p (.ref a)=Y g/\nX p s=Y l):
  SR K B Z G' H' (C.set i (Y (.ref a))) (A.set i (Y d')):=
 (S.V4 W q v x w y c m n (λb k=>⟨(h b k).1,by rcases(h b k).2 with z|z;exact .inl z;exact .inr (.inl z)⟩) e f u).1
def SR.Qt(S:SR K B Z G H C A)(b:A[i]?=Y (Y d))(c:zG d=Z'):∀j p,j∈Z->Dw j∈Z->A[j]?=Y (Y (.kf i p))->False:=λj p g f e=>by
 obtain⟨n,o,m,k,l,w,h,a,_⟩:=S.kf j i p g f e;rw[b]at a;cases a;cases c
def CD(a:zG d=Z'):∀r p,d ≠ .kf r p:=λr p e=>by subst e;cases a
def SR.setC(S:SR K B Z G H C A)(m:i∈Z)(E:gv G H G' H')(k:H p=M)(t:G' p=M)(g:H' p=Y o)(r:j_ K G' d o)(c:∀a,(i,a)∉B.3)(l:Lz i∉Z):SR K B Z G' H' (C.set i (Y (.ref p))) (A.set i (Y d)):=by
 obtain⟨F,W⟩:=S.ow;exact S.chg (F0:=[]) (S':=[p]) W m (λb f=>by cases f) E.gg E.gh (λb o e=>by rcases E.fr b o e with z|z;exact .inl z;exact .inr (.inl z)) (λb o _ e=>E.hh b o e)
  ((qu.cell r.zG).mpr ⟨⟨o,g,r⟩,rfl⟩) Ž (λb f=>by simp at f;subst f;exact⟨t,.inr k⟩) (λb h=>absurd h (c b)) (CD r.zG) (λj q s n _ e=>(l (S.kf j i q s n e).2.1).elim)
def SR.Vn{f:HO}(S:SR K B Z G H C A)(m:i∈Z)(g:A[i]?=Y (Y d))(l:C[i]?=Y (Y (.ref a)))(r:j_ K G p f)(s:autoParam (zG d=true) ų):SR K B Z G (de H a f) C (A.set i (Y p)):=by
 obtain⟨F,W⟩:=S.ow;obtain⟨I,v,y⟩:=W.it i d m g;rw[l]at v;cases v;obtain⟨⟨o,E,z⟩,u⟩:=(qu.cell s).mp y;obtain⟨n,k⟩:=W.ok i d m g;rw[u]at k;have t:G a=none:=(k a Ž).1;have:=S.chg (i:=i) (a:=a) (d':=p) (F0:=[a]) (S':=[a]) (G':=G) (H':=de H a f) W m (λb c=>⟨by rw[u];exact c,d,g⟩) (bG.refl _) (λb o e=>by rw[aS (bu e t)];exact S.gh b o e) (λb o e =>.inl e)
  (λb o c e=>by rw[aS (by simpa using c)];exact e) ((qu.cell r.zG).mpr ⟨⟨f,bh,r⟩,rfl⟩) Ž (λb c=>by simp at c;subst c;exact⟨t,.inl Ž⟩)
  (λb h=>by have:=(S.pin i b h).2;rw[l]at this;cases this;rfl) (CD r.zG) (λj q x w _ e=>(S.Qt g s j q x w e).elim)
 rwa [jI l]at this
def SR.N6{p:az}(S:SR K B Z G H C A)(h:i∈Z)(E:gv G H G' H')(f:H p=M)(j:G' p=M)(e:H' p=Y (.lst c))(r:bf K G' d c)(b:∀a,(i,a)∉B.3)(g:Lz i∉Z):SR K B Z G' H' (C.set i (Y (.ref p))) (A.set i (Y (.lst d))):=
 S.setC h E f j e ⟨c,rfl,r⟩ b g
def SR.mut(S:SR K B Z G H C A)(e:i∈Z)(f:A[i]?=Y (Y (.lst g)))(d:C[i]?=Y (Y (.ref a)))(r:bf K G c b):SR K B Z G (de H a (.lst b)) C (A.set i (Y (.lst c))):=
 S.Vn e f d ⟨b,rfl,r⟩
def SR.freeze{Ź:List Nat}(S:SR K B Z G H C A)(f:∀j∈Ź,j∈Z)(i:Nat)(Q:∀j∈Z,j∈Ź\/j=i)(hn:i∉Ź)(P:i∈Z)(U:∀a,(i,a)∉B.3)(T:Lz i∉Z)(NF:i<1000000):∃G',SR K B Ź G' H C A:=by
 obtain⟨F,W⟩:=S.ow;have I:∀(j:Nat) (a:az),(j,a)∈B.3->j∈Ź/\C[j]?=Y (Y (.ref a)):=λj a h=>⟨by
  rcases Q j (S.pin j a h).1 with z|z
  ·exact z
  ·subst z;exact absurd h (U a),(S.pin j a h).2⟩
 by_cases R:∃d,A[i]?=Y (Y d)
 ·obtain⟨d,R⟩:=R;obtain⟨a,e1,E⟩:=W.it i d P R;obtain⟨nd,k⟩:=W.ok i d P R;have n0:∀b∈F i,G b=none:=λb D=>(k b D).1
  have l:bG G (kd G H (F i)):=oH n0;have rep:cK K (kd G H (F i)) d (.ref a):=by
   cases d with
   |obj s t=>exact ni.mpr (dm.frozen n0 (λb D=>D) (show dm K G H s t (.ref a) (F i) from E))
   |kf r p=>exact rF.mpr ⟨a,rfl⟩|dJ=>obtain⟨⟨o,q,g⟩,x⟩:=E;exact g.elim
   |bl=>obtain⟨⟨o,q,g⟩,x⟩:=E;exact g.elim
   |int=>obtain⟨⟨o,q,g⟩,x⟩:=E;exact g.elim
   |str=>obtain⟨⟨o,q,g⟩,x⟩:=E;exact g.elim
   |tup=>obtain⟨⟨o,q,g⟩,x⟩:=E;exact g.elim
   |jS=>obtain⟨⟨o,q,g⟩,x⟩:=E;exact g.elim
   |_=>obtain⟨⟨o,q,g⟩,x⟩:=E;exact(j_.mono l g).rep (by rw[pz (by rw[x];simp)];exact q)
  refine⟨kd G H (F i),oI S.gh,S.g0.trans l,S.h0,λb o e =>?_,λj c n e =>?_,⟨F,λj c n e =>?_,λj c n e =>?_,λj m c c' n T=>W.ap j m c c' (f j n) (f m T)⟩,S.len,I,λj r p h1 h2 e =>?_⟩
  ·by_cases D:b∈F i
   ·exact .inr (k b D).2
   ·rw[mO D]at e;exact S.fr _ _ e
  ·by_cases v:j∈Z
   ·rcases Q j v with z|z
    ·exact absurd z n
    ·subst z;rw[R]at e;cases e;exact⟨_,e1,rep⟩
   ·obtain⟨u,q,g⟩:=S.env j c v e;exact⟨u,q,cK.mono l c g⟩
  ·obtain⟨b,q,g⟩:=W.it j c (f j n) e;exact⟨b,q,g.mono l λ_ _ _ z=>z⟩
  ·obtain⟨nd',k'⟩:=W.ok j c (f j n) e;refine⟨nd',λb D=>⟨?_,(k' b D).2⟩⟩;have Sv:i≠j:=λz=>hn (z ▸ n)
   rw[mO (λz=>W.ap i j d c P (f j n) R e Sv b z D)];exact(k' b D).1
  ·obtain⟨g1,X,s0,t0,s1,w,v1,g2,g3⟩:=S.kf j r p (f j h1) (f _ h2) e;rcases Q r g1 with z|z
   ·rcases Q _ X with y|y
    ·exact⟨z,y,s0,t0,s1,w,v1,g2,g3⟩
    ·unfold Lz at y;omega
   ·subst z;exact absurd X T
 ·refine⟨G,S.gh,S.g0,S.h0,S.fr,λj c n e =>?_,⟨F,λj c n e=>W.it j c (f j n) e,λj c n e=>W.ok j c (f j n) e,λj m c c' n T=>W.ap j m c c' (f j n) (f m T)⟩,S.len,I,λj r p h1 h2 e =>?_⟩
  ·by_cases v:j∈Z
   ·rcases Q j v with z|z
    ·exact absurd z n
    ·subst z;exact absurd ⟨c,e⟩ R
   ·exact S.env j c v e
  ·obtain⟨g1,X,s0,t0,s1,w,v1,g2,g3⟩:=S.kf j r p (f j h1) (f _ h2) e;rcases Q r g1 with z|z
   ·rcases Q _ X with y|y
    ·exact⟨z,y,s0,t0,s1,w,v1,g2,g3⟩
    ·unfold Lz at y;omega
   ·subst z;exact absurd X T
end
def YV(K:aT)(B:Bs)(I Z:List Nat)(e:Ends):DO->Prop
 |.nx A=>∀C G H,SR K B Z G H C A->e.nx C H|.rt d=>∀v G H,gv B.1 B.2 G H->cK K G d v->e.rt v H|.ro g=>∀a f G H,gv B.1 B.2 G H->B.2 a=M->G a=M->H a=Y (.lst f)->bf K G g f->e.rt (.ref a) H|.bk A=>∀C G H,SR K B I G H C A->e.bk C H|.ct A=>∀C G H,SR K B I G H C A->e.ct C H
 |.rm d A=>∀v C G H,(∃b,SR K B b G H C A)->cK K G d v->e.rt v H|.rf i A=>∀v C G H,(∃b,i∈b/\SR K B b G H C A)->C[i]?=Y (Y v)->e.rt v H|.ex c n=>B.fly c n
inductive k7 (K:aT) (B:Bs) (I Z a:List Nat) (g:DG) (b:Ends) (C:St) (H:Hp):Prop
 |mk G A o:SR K B Z G H C A->g A=some o->YV K B I a b o->k7 K B I Z a g b C H
section
variable {X:Cx}
noncomputable def dG:DG:=λA=>Y (.nx A)
def b8:sx X [] (k7 X.K B I Z Z dG):=Ha.imp <|by rintro D C H ⟨G,A,o,S,a,k⟩;cases a;exact k C G H S
noncomputable def bp(g h:DG):DG:=λA=>(g A).bind λo=>match o with|.nx a=>h a|o=>Y o
def Ri{K:aT}{e:Ends}(q:k7 K B I Z L (bp g h) e C H):k7 K B I Z own1 g { e with nx:=λC H=>k7 K B I own1 L h e C H } C H:=by
 obtain⟨G,A,o,S,a,k⟩:=q;unfold bp at a;obtain⟨f,l,a⟩:=aa.1 a;refine⟨G,A,f,S,l,?_⟩;cases f with
 |nx b=>exact λj G' H' m=>⟨G',b,o,m,a,k⟩
 |_=>cases a;exact k
def ar(b:PS X N (k7 X.K B I Z own1 g))(a:sx X O (k7 X.K B I own1 L h)):sx X (N::O) (k7 X.K B I Z L (bp g h)):=(mN b a).imp λD C H q=>Ri q
def aI(a:PS X N (k7 X.K B I Z own1 g)):sx X [N] (k7 X.K B I Z own1 g):=nj a
def kZ{b:List eJ}(i:Nat)(n:sx X b (k7 X.K B I own1 L g))(d:autoParam (∀j∈own1,j∈Z) ű)(m:autoParam (∀j∈Z,j∈own1\/j=i) ű)(h:autoParam (i∉own1) ű)(f:autoParam (i∈Z) ű)(c:autoParam (∀a,(i,a)∉B.3) Ŭ)(l:autoParam (Lz i∉Z) ű)(e:autoParam (i<1000000) ű):sx X b (k7 X.K B I Z L g):=
 n.imp <|by rintro D C H ⟨G,A,o,S,p,k⟩;obtain⟨G',q⟩:=S.freeze d i m h f c l e;exact⟨G',A,o,q,p,k⟩
noncomputable def eM(i:Nat)(f:DF):DG:=λA=>(f A).map λd =>.nx (A.set i (Y d))
def cO{i:Nat}{f:DF}(n:X.N.Nodup)(j:X.N[i]?=Y x)(c:Loc X.env.scope x)(m:PE X e (tP X.K Z f))(h:autoParam (i∉Z) ű)(g:autoParam (dS e (Y (.Name x a)) J.line X.env=fi false) ų)(l:autoParam (X.fn x=Z'\/X.env.scope.names.lookup x=Y .local) Ů):
  PS X (.Assign [.Name x a] e J) (k7 X.K B I Z Z (eM i f)):=(sQ n j c m g l).imp <|by
 rintro D C H ⟨G,A,o,S,b,k⟩;unfold eM at b;obtain⟨d,p,b⟩:=ak.1 b;cases b;exact⟨G,A,d,S.gh,S.jy,p,λv G' H' E r=>k _ G' H' ((S.ext E).vF h r)⟩
noncomputable def kP(i:Nat)(f:DL):DG:=λA=>(f A).map λa =>.nx (A.set i (Y (.lst a)))
def pL{i:Nat}{f:DL}(u:X.N.Nodup)(q:X.N[i]?=Y x)(g:Loc X.env.scope x)(t:PE X e (tF X.K Z f))(m:autoParam (i∈Z) ű)(c:autoParam (∀a,(i,a)∉B.3) Ŭ)(n:autoParam (Lz i∉Z) ű)(j:autoParam (dS e (Y (.Name x b)) J.line X.env=fi false) ų)(s:autoParam (X.fn x=Z'\/X.env.scope.names.lookup x=Y .local) Ů):
  PS X (.Assign [.Name x b] e J) (k7 X.K B I Z Z (kP i f)):=(sQ u q g t j s).imp <|by
 rintro D C H ⟨G,A,o,S,d,k⟩;unfold kP at d;obtain⟨y,w,d⟩:=ak.1 d;cases d;exact⟨G,A,y,S.gh,S.jy,w,λp z G' H' E l v h r=>k _ G' H' (S.N6 m E l v h r c n)⟩
noncomputable def fF(f:DF):DG:=λA=>(f A).map .rt
def cW{f:DF}(b:PE X e (tP X.K Z f)):PS X (.Return (Y e) J) (k7 X.K B I Z own1 (fF f)):=(vI b).imp <|by
 rintro D C H ⟨G,A,o,S,a,k⟩;unfold fF at a;obtain⟨d,c,a⟩:=ak.1 a;cases a;exact⟨G,A,d,S.gh,S.jy,c,λv G' H' E r=>k v G' H' (S.qh.trans E) r⟩
noncomputable def wm(f:DL):DG:=λA=>(f A).map .ro
def Ck{f:DL}(h:PE X e (tF X.K Z f)):PS X (.Return (Y e) J) (k7 X.K B I Z own1 (wm f)):=(vI h).imp <|by
 rintro D C H ⟨G,A,o,S,a,k⟩;unfold wm at a;obtain⟨d,j,a⟩:=ak.1 a;cases a;exact⟨G,A,d,S.gh,S.jy,j,λp b G' H' E g i c r=>k p b G' H' (S.qh.trans E) (S.h0.free g) i c r⟩
def ui(i:Nat):DG:=λA=>(eV i A).bind λd=>match d with|.lst a=>Y (.ro a)|_=>M
def xp{i:Nat}(h:PE X (.Name x p) (jf i))(f:autoParam (i∈Z) ű):PS X (.Return (Y (.Name x p)) J) (k7 X.K B I Z own1 (ui i)):=(vI h).imp <|by
 rintro D C H ⟨G,A,o,S,b,k⟩;unfold ui at b;obtain⟨d,g,b⟩:=aa.1 b;cases d<;>simp only[ae]at b<;>try (cases b;done)
 obtain⟨a,q,n,m,c,l,j⟩:=S.Oy f (gY g) rfl;obtain⟨e,rfl,c⟩:=c;cases b;exact⟨_,n,k a e G H S.qh j l m c⟩
noncomputable def ie(f:DT)(g h:DG):DG:=λA=>(f A).bind λb=>if b=Z' then g A else h A
def dM{c:Expr}{b:List eJ}{f:DT}(j:PT X c (si X.K Z f))(m:sx X a (k7 X.K B I Z own1 g))(l:sx X b (k7 X.K B I Z own1 h)):PS X (.If c a b J) (k7 X.K B I Z own1 (ie f g h)):=(Hb j m l).imp <|by
 rintro D C H ⟨G,A,o,S,d,k⟩;unfold ie at d;obtain⟨c,n,d⟩:=aa.1 d;refine⟨G,A,c,S.gh,S.jy,n,λe p i =>?_⟩;cases c with
 |true=>exact B2 ⟨e,A,o,S.ext i,d,k⟩|false=>exact DY ⟨e,A,o,S.ext i,d,k⟩
def eX(i:Nat)(A:bY):Option (List D):=(eV i A).bind λd=>match d with|.lst a=>Y a|_=>M
def du(h:eX i A=Y a):A[i]?=Y (Y (.lst a)):=by
 unfold eX at h;obtain⟨d,b,h⟩:=aa.1 h;have:=gY b;cases d<;>first|(cases h;exact this)|cases h
def SR.ji{K:aT}(S:SR K B Z G H C A)(d:i∈Z)(h:A[i]?=Y (Y (.lst c))):∃a b,C[i]?=Y (Y (.ref a))/\H a=Y (.lst b)/\bf K G c b/\G a=M/\B.2 a=none:=by
 obtain⟨a,k,j,g,⟨b,rfl,f⟩,e⟩:=S.Oy d h rfl;exact⟨a,b,j,g,f,e⟩
def vH(i:Nat)(f:DF):DG:=λA=>(eX i A).bind λa=>(f A).bind λd=>if a.length<dA then Y (.nx (A.set i (Y (.lst (a++[d]))))) else M
def tG{i:Nat}{c b:Pos}{f:DF}(h:PE X (.Name x p) (jf i))(R:PE X e (tP X.K Z f))(t:autoParam (i∈Z) ű)(m:autoParam (b_ (.Name x p) "append" X.env (eval (.Name x p) X.env)=eval (.Name x p) X.env) ų) (n:autoParam (((c6 b (aq (e::[]) X.env)).all (λx=> !x.1)&&(gV b (dF [] X.env)).all (λx=>x.1.isSome)
   && decide ((e::[]).length+([]:List kL).length+(if ([]:List kL).isEmpty then 0 else 1)<30))=true) ų) (l:autoParam ((c.endLine==b.line)=true) ų) (z:autoParam (aq (e::[]) X.env=(Z_,eval e X.env)::aq [] X.env) ų) (g:autoParam ((c6 b (aq [] X.env)).any (·.1)=false) ų) (s:autoParam (dS (.Call (.Attribute (.Name x p) "append" c) [e] [] b) M J.line X.env=fi false) ų) :
  PS X (.Expr (.Call (.Attribute (.Name x p) "append" c) [e] [] b) J) (k7 X.K B I Z Z (vH i f)):=
 (l9 (uq gU PySem.F.slot_list_append PySem.F.type_list_append kX h (cM R fK z) m n l z g) s).imp <|by
  rintro D C H ⟨G,A,o,S,j,k⟩;unfold vH at j;obtain⟨ds,U,j⟩:=aa.1 j;rw[aa]at j;obtain⟨d,w,j⟩:=j;split at j
  ·cases j;rename_i Q;have u:=du U;obtain⟨a,P,y,e3,e4,e5,e6⟩:=S.ji t u;refine⟨_,y,.inl ⟨rfl,P,.of e3⟩,G,A,d,S.gh,S.jy,w,λv G' H' E r =>?_⟩;have L:=S.ext E;obtain⟨a',q,K,T,F,_⟩:=L.ji t u;rw[y]at K;cases K;refine⟨a,q,v,rfl,rfl,T,?_,k _ G' _ (L.mut t u y (F.append (.cons r .nil)))⟩;rw[<- F.length];exact bq Q ft
  ·cases j
def Ru{K:aT}(S:SR K B Z G H C A)(f:j∈Z)(g:A[j]?=Y (Y (.lst b)))(n:b[b.length-1]?=Y d)(k:∀v H',SR K B Z G H' C (A.set j (Y (.lst b.dropLast)))->cK K G d v->Q v H'):UP K "list" U2 (jf j) C H Q:=by
 obtain⟨a,e,l,i,c,p,o⟩:=S.ji f g;obtain⟨v,h,m⟩:=c.get n;rw[c.length]at h;exact⟨_,l,.inl ⟨rfl,e,.of i⟩,a,e,v,rfl,rfl,i,h,k v _ (S.mut f g l c.dropLast) m⟩
def xa(i:Nat)(f:DF):DG:=λA=>(eX i A).bind λb=>(f A).bind λd=>match d with|.lst a=>if b.length+a.length<=dA then Y (.nx (A.set i (Y (.lst (b++a))))) else M|_=>M
def A6{g:Pos}{f:DF}(h:PE X (.Name x p) (jf i))(he:PE X e (tP X.K Z f))(u:autoParam (i∈Z) ű)(n:autoParam (b_ (.Name x p) "extend" X.env (eval (.Name x p) X.env)=eval (.Name x p) X.env) ų) (q:autoParam (((c6 c (aq (e::[]) X.env)).all (λx=> !x.1)&&(gV c (dF [] X.env)).all (λx=>x.1.isSome)
   && decide ((e::[]).length+([]:List kL).length+(if ([]:List kL).isEmpty then 0 else 1)<30))=true) ų) (m:autoParam ((g.endLine==c.line)=true) ų) (L:autoParam (aq (e::[]) X.env=(Z_,eval e X.env)::aq [] X.env) ų) (l:autoParam ((c6 c (aq [] X.env)).any (·.1)=false) ų) (t:autoParam (dS (.Call (.Attribute (.Name x p) "extend" g) [e] [] c) M J.line X.env=fi false) ų) :
  PS X (.Expr (.Call (.Attribute (.Name x p) "extend" g) [e] [] c) J) (k7 X.K B I Z Z (xa i f)):=
 (l9 (uq gU PySem.F.slot_list_extend PySem.F.type_list_extend Jp h (cM he fK L) n q m L l) t).imp <|by
  rintro D C H ⟨G,A,o,S,j,k⟩;unfold xa at j;obtain⟨ds,el,j⟩:=aa.1 j;rw[aa]at j;obtain⟨d,y,j⟩:=j;cases d<;>simp only at j<;>try (cases j;done)
  split at j
  ·cases j;rename_i es U;have w:=du el;obtain⟨a,R,z,e3,e4,e5,e6⟩:=S.ji u w;refine⟨_,z,.inl ⟨rfl,R,.of e3⟩,G,A,_,S.gh,S.jy,y,λv G' H' E r =>?_⟩;have F:=S.ext E;obtain⟨a',s,Q,f3,P,_⟩:=F.ji u w;rw[z]at Q;cases Q;obtain⟨b,T,rfl,gb,K⟩:=cU.mp r;refine⟨a,b,s,T,rfl,rfl,f3,F.gh _ _ gb,?_,k _ G' _ (F.mut u w z (P.append K))⟩;rw[<- P.length,<- K.length];exact a7 U ft
  ·cases j
def sj(j:Nat)(b c:DF):DG:=λA=>(c A).bind λd=>(eX j A).bind λa=>(b A).bind λk=>match k with|.int k=>(Jz a.length k).map λn =>.nx (A.set j (Y (.lst (a.set n d))))|_=>M
def xq{g:Expr}{F P:DF}(h:PE X (.Name x p) (jf j))(y:PE X g (tQ X.K Z F))(he:PE X e (tP X.K Z P))(w:autoParam (j∈Z) ű)(hg:∀ {s t:TE},PE X (.Name x p) s->PE X g t->PG X (.Subscript (.Name x p) g b) (VJ s t Qo):=by intro s t h1 h2;exact Ry h1 h2 Nk)(hs:autoParam (swapsWithSole [.Subscript (.Name x p) g b] e J.line X.env=fi false) ų)(hw:autoParam (swappedStores [.Subscript (.Name x p) g b] e X.env=fi none) ų):
  PS X (.Assign [.Subscript (.Name x p) g b] e J) (k7 X.K B I Z Z (sj j F P)):=
 (KP he (hg h y) hs hw).imp <|by
  rintro D C H ⟨G,A,o,S,c,k⟩;unfold sj at c;obtain⟨d,ef,c⟩:=aa.1 c;rcases l:eX j A with _|ds
  ·simp[l]at c
  rcases f:F A with _|i
  ·simp[l,f]at c
  simp only[l,f,ae]at c;cases i<;>simp only at c<;>try (cases c;done)
  rename_i i;rcases K:Jz ds.length i with _|n
  ·simp[K]at c
  simp only[K,bP]at c;cases c;have z:=du l;refine⟨G,A,d,S.gh,S.jy,ef,λv G' H' E r =>?_⟩;have m:=S.ext E;obtain⟨a,vs,L,e3,e4,e5,e6⟩:=m.ji w z;refine⟨_,L,G',A,_,m.gh,m.jy,f,λu G2 H2 U r2 =>?_⟩;have T:=m.ext U;obtain⟨a',q,R,f3,Q,_⟩:=T.ji w z;rw[L]at R;cases R;exact⟨a,q,i,n,rfl,r2.int,f3,by rw[<- Q.length];exact K,k _ G2 _ (T.mut w z L (Q.set n (cK.mono U.gg d r)))⟩
end
section
variable {X:Cx}{f:DF}
def IF.imp(h:IF X r)(k:∀x y H Q,d x y H Q->r x y H Q):IF X d:=λa b c s e H x y v u Q I g f q i=>h a b c s e H x y v u Q I g f (k _ _ _ _ q) i
def PO.imp{e:Option Expr}(h:PO X e t)(k:∀b H Q,c b H Q->t b H Q):PO X e c:=λa s b H Q I q=>h a s b H Q I (k _ _ _ q)
def lB.imp(h:lB X c r)(k:∀b H Q,d b H Q->r b H Q):lB X c d:=λa s e H b f Q I g q=>h a s e H b f Q I g (k _ _ _ q)
def bf.p_{K:aT}{a:List D}{b:List V}(r:bf K G a b)(h:p_ a i=Y d):∃v,L2.p_ b i=Y v/\cK K G d v:=by
 unfold L2.p_ at h ⊢;rw[<- r.length];obtain⟨j,e,h⟩:=aa.1 h;rw[e];exact r.get h
def Io{a b:Type}(g:a->b)(xs:List a)(i:Int):p_ (xs.map g) i=(p_ xs i).map g:=by
 unfold p_;rw[bj];cases Jz xs.length i with
 |none=>rfl|some j=>simp[aV]
def b9:D->D->Option D
 |.lst a,.int i=>p_ a i|.tup a,.int i=>p_ a i|.jS b,.int i=>(p_ b i).map .int|.str x,.int i=>if x.length<=dA then (p_ x.cps.toList i).map λc =>.str ⟨#[c]⟩ else M
 |_,_=>M
def Q4:IF X (rD X.K b9):=by
 refine IF.imp Se ?_;rintro x y H Q ⟨G,u,t,d,b,h,g,a,q⟩;unfold b9 at a;split at a<;>try (cases a;done)
 ·obtain⟨p,j,f,e,l⟩:=h.lst b;obtain⟨v,o,k⟩:=l.p_ a;exact .inl ⟨p,j,_,v,f,g.int,.of e,o,q _ G H (.refl b) k⟩
 ·obtain⟨p,j,f,e,l⟩:=h.tup b;obtain⟨v,o,k⟩:=l.p_ a;exact .inr (.inl ⟨p,j,_,v,f,g.int,e,o,q _ G H (.refl b) k⟩)
 ·obtain⟨p,f,e⟩:=h.jS b;obtain⟨c,r,a⟩:=ak.1 a;cases a;exact .inl ⟨p,_,_,.int c,f,g.int,e,by rw[Io,r];rfl,q _ G H (.refl b) (cC.mpr rfl)⟩
 ·split at a<;>try (cases a;done)
  obtain⟨c,r,a⟩:=ak.1 a;cases a;exact .inr (.inr ⟨_,_,c,h.str,g.int,a7 (by assumption) ft,r,q _ G H (.refl b) (dn.mpr rfl)⟩)
def bQ(e:PE X a (tQ X.K Z fa))(d:PE X b (tQ X.K Z fb))(c:autoParam (IA b) ŧ):PE X (.Subscript a b w) (tP X.K Z (e2 b9 fa fb)):=(wo Q4 e d c).imp λf H Q h=>G9 h
abbrev DP:=bY->Option (Option Int)
noncomputable def pN:DP:=λ_=>Y M
noncomputable def pS(f:DF):DP:=λa=>(f a).bind λd=>match d with|.int i=>Y (Y i)|_=>M
def Ox{f:DF}{a:bY}(h:pS f a=Y o):∃i,f a=Y (.int i)/\o=Y i:=by
 unfold pS at h;obtain⟨d,e,h⟩:=aa.1 h;rw[e];cases d<;>first|(cases h;exact⟨_,rfl,rfl⟩)|cases h
inductive NT (K:aT) (Z:List Nat) (f:DP) (c:St) (H:Hp) (Q:Option Int->Hp->Prop):Prop
 |mk G a o:bG G H->ki K Z G H c a->f a=some o->(∀d b,gv G H d b->Q o b)->NT K Z f c H Q
def jP:PO X M (NT X.K Z pN):=Om.imp <|by rintro d H Q ⟨G,e,o,a,c,b,k⟩;cases b;exact k G H (.refl a)
def jO(h:PE X e (tQ X.K Z f)):PO X (Y e) (NT X.K Z (pS f)):=(Ol h).imp <|by
 rintro r H Q ⟨G,b,o,d,a,g,k⟩;obtain⟨i,j,rfl⟩:=Ox g;exact⟨G,b,_,d,a,j,λv p l q c=>⟨i,c.int,k p l q⟩⟩
def zo{a:Type}(xs:List a)(m n:Option Int):List a:=(xs.drop (HT.ke xs.length 0 m)).take (HT.ke xs.length xs.length n-HT.ke xs.length 0 m)
def bf.cut{K:aT}{b:List D}{a:List V}(r:bf K G b a)(m n:Option Int):bf K G (zo b m n) (zL a m n):=by
 unfold L2.zo zL;rw[<- r.length];exact(r.drop _).take _
def wM(f:DF)(m n:DP):DL:=λa=>(f a).bind λd=>(m a).bind λl=>(n a).bind λh=>match d with|.lst b=>Y (zo b l h)|.jS c=>Y ((zo c l h).map D.int)|_=>M
variable {m:Option Expr}
def tI(K:PE X e (tQ X.K Z f))(J:PO X m (NT X.K Z l))(I:PO X n (NT X.K Z h)):PE X (.Subscript e (.Slice m n M B) w) (tF X.K Z (wM f l h)):=(xY N0 K J I).imp <|by
 rintro O H Q ⟨G,i,P,L,g,a,k⟩;unfold wM at a;rcases ef:f i with _|d
 ·rw[ef]at a;cases a
 rcases el:l i with _|s
 ·simp[ef,el]at a
 rcases eh:h i with _|t
 ·simp[ef,el,eh]at a
 simp only[ef,el,eh,ae]at a;refine⟨G,i,d,L,g,ef,λv N T o F=>⟨N,i,s,o.gh,g.ext o,el,λA S j=>⟨A,i,t,j.gh,(g.ext o).ext j,eh,λz R b =>?_⟩⟩⟩;have E:=(o.trans j).trans b;have x:=F.ext (j.trans b);cases d<;>simp only at a<;>try (cases a;done)
 ·cases a;obtain⟨p,C,u,r,D⟩:=x.lst b.gh;exact⟨p,C,u,.of r,λq c=>k q _ z _ (E.trans (gv.lay (p:=q) b.gh c)) (E.hh.free c) (b.gh.free c) bh (D.cut _ _)⟩
 ·cases a;rename_i y;obtain⟨p,u,r⟩:=x.jS b.gh;refine⟨p,_,u,r,λq c=>k q _ z _ (E.trans (gv.lay (p:=q) b.gh c)) (E.hh.free c) (b.gh.free c) bh ?_⟩;have:zL (y.map V.int) s t=(zo y s t).map V.int:=by unfold zL zo;rw[bj,<- List.map_drop,<- List.map_take]
  rw[this];exact bf.ints _
def Rf:W7 X (λx m n H Q=>∃z,x=.str z/\z.length<=a9/\Q (.str (CS z m n)) H):=by
 intro a s d H x v f e m n g Q I h r o c ⟨z,y,p,q⟩;subst y;obtain⟨t,rfl⟩:=h;refine⟨"str",_,F.slot_str_getitem.lookup,TK _ _ _,?_⟩;have qe:∀(l u:Option (Int×Tok)),f=partValue l->e=partValue u->l.map (·.1)=m->u.map (·.1)=n->bz (bD X.prog X.w) X.A (ze (.str z t) (.ref g)) (EP X a d Q) X.xe s:=λl u G E D C=>by subst G E D C;exact wpAny_getItem_str_slice (l:=l) (u:=u) (st:=M) r rfl (post_val_or_str ⟨a7 (Txt.slice_le z _ _) p,λJ k=>⟨.str _,H,I.tok _,⟨_,rfl⟩,q⟩⟩)
 cases o with
 |none=>
  cases c with
  |none=>exact qe M M rfl rfl rfl rfl|int j u=>exact qe M (Y (j,u)) rfl rfl rfl rfl
 |int i b=>
  cases c with|none=>exact qe (Y (i,b)) M rfl rfl rfl rfl|int j u=>exact qe (Y (i,b)) (Y (j,u)) rfl rfl rfl rfl
def Gd(f:DF)(m n:DP):DF:=λa=>(f a).bind λd=>(m a).bind λl=>(n a).bind λh=>match d with|.str x=>if x.length<=dA then Y (.str (CS x l h)) else M|_=>M
def MJ(y:PE X e (tQ X.K Z f))(x:PO X m (NT X.K Z l))(u:PO X n (NT X.K Z h)):PE X (.Subscript e (.Slice m n M B) w) (tP X.K Z (Gd f l h)):=(xY Rf y x u).imp <|by
 rintro K H Q ⟨G,c,L,z,b,a,k⟩;unfold Gd at a;rcases g:f c with _|d
 ·rw[g]at a;cases a
 rcases i:l c with _|r
 ·simp[g,i]at a
 rcases o:h c with _|t
 ·simp[g,i,o]at a
 simp only[g,i,o,ae]at a;refine⟨G,c,d,z,b,g,λv I N j q=>⟨I,c,r,j.gh,b.ext j,i,λF A p=>⟨F,c,t,p.gh,(b.ext j).ext p,o,λD C J =>?_⟩⟩⟩;have E:=(j.trans p).trans J;cases d<;>simp only at a<;>try (cases a;done)
 split at a
 ·cases a;rename_i s;exact⟨_,q.str,a7 s ft,k _ D C E (dn.mpr rfl)⟩
 ·cases a
noncomputable def a_(o:List D->Option D)(g:DL):DF:=λa=>(g a).bind o
def yI{g:DL}{a:bY}(h:a_ o g a=Y d):∃b,g a=Y b/\o b=Y d:=by
 unfold a_ at h;obtain⟨x,c,h⟩:=aa.1 h;rw[c];exact⟨x,rfl,h⟩
inductive rC (K:aT) (o:List D->Option D) (e:List V) (H:Hp) (Q:VK):Prop
 |mk G a d:bG G H->Iz K G H a e->o a=some d->(∀v c b,gv G H c b->cK K c d v->Q v b)->rC K o e H Q
def U0{K:aT}{g:DL}{b:St}(h:tP K Z (a_ o g) b H Q):UO (rC K o) (T_ K Z g) b H Q:=by
 obtain⟨G,f,d,l,a,q,k⟩:=h;obtain⟨c,p,r⟩:=yI q;exact⟨G,f,c,l,a,p,λy u z e j=>⟨u,c,d,e.gh,j,r,λv t s x i=>k v t s (e.trans x) i⟩⟩
def Iz.one{K:aT}{a:List V}(r:Iz K G H [d] a):∃v,a=[v]/\iN K G H d v:=by
 cases r with|cons r t=>cases t;exact⟨_,rfl,r⟩
def ik:List D->Option D
 |[.lst a]=>Y (.int a.length)|[.tup a]=>Y (.int a.length)|[.jS a]=>Y (.int a.length)|[.str x]=>if x.length<=dA then Y (.int x.length) else M
 |_=>M
def Ti:lB X (.builtin "len") (rC X.K ik):=by
 refine lB.imp (pU.or Ct) ?_;rintro i H Q ⟨G,j,d,c,r,a,q⟩;unfold ik at a;split at a
 ·cases a;obtain⟨v,rfl,b⟩:=r.one;obtain⟨p,f,rfl,e,g⟩:=b.lst c;refine .inl ⟨p,f,rfl,.inl (.of e),?_⟩;rw[<- g.length];exact q _ G H (.refl c) (cC.mpr rfl)
 ·cases a;obtain⟨v,rfl,b⟩:=r.one;obtain⟨p,f,rfl,e,g⟩:=b.tup c;refine .inl ⟨p,f,rfl,.inr e,?_⟩;rw[<- g.length];exact q _ G H (.refl c) (cC.mpr rfl)
 ·cases a;obtain⟨v,rfl,b⟩:=r.one;obtain⟨p,rfl,e⟩:=b.jS c;refine .inl ⟨p,_,rfl,.inl e,?_⟩;rw[bj];exact q _ G H (.refl c) (cC.mpr rfl)
 ·split at a
  ·cases a;rename_i h;obtain⟨v,rfl,b⟩:=r.one;exact .inr ⟨_,by rw[b.str],a7 h ft,q _ G H (.refl c) (cC.mpr rfl)⟩
  ·cases a
 ·cases a
def yT(l:lB X (.builtin c) (rC X.K o))(j:Gl X x)(i:X.mg x=M)(d:hJ x=Y (.builtin c))(q:PA X (e::A) (T_ X.K Z g))(f:autoParam (x ≠ "__name__") ű)(b:autoParam ((x==("__debug__" : aG))=false) ű)(k:autoParam (aq (e::A) X.env=(Z_,eval e X.env)::aq A X.env) ų)(a:autoParam ((c6 w (aq A X.env)).any (·.1)=false) ų):PE X (.Call (.Name x p) (e::A) [] w) (tP X.K Z (a_ o g)):=
 (x3 l j i d q f b k a).imp λr H Q h=>U0 h
def lO(c:Gl X "len")(b:X.mg "len" = M)(h:PE X e (tQ X.K Z f))(a:autoParam (aq (e::[]) X.env=(Z_,eval e X.env)::aq [] X.env) ų):PE X (.Call (.Name "len" p) [e] [] w) (tP X.K Z (a_ ik (aC f aN))):=
 yT Ti c b PySem.boot_len (yK h Cn a) ſ ſ a rfl
noncomputable def isT(T:String):D->Bool
 |.dJ=>T == "NoneType"|.bl _=>T == "bool" || T == "int"
 |.int _=>T == "int"|.str _=>T == "str"|.lst _=>T == "list"|.jS _=>T == "list"|.tup _=>T == "tuple"|.ins _ _ _=>Z_|.fT _ _=>T == "dict"|.obj _ _=>Z_|.kf _ _=>Z_
def eIs(T:String)(f:DF):DF:=λa=>(f a).bind λd=>match d with|.jS _=>M|.ins _ _ _=>M|.fT _ _=>M|.obj _ _=>M|.kf _ _=>M|d=>Y (.bl (isT T d))
def Ll:D->D->Option D
 |.obj _ _,_=>M|.kf _ _,_=>M|.dJ,.dJ=>Y (.bl Z')|_,.dJ=>Y (.bl Z_)|_,_=>M
def Lj:zm X (d_ .Is) Ll:=mz.imp RJ <|by
 rintro x y H Q ⟨G,h,o,d,f,g,l,e,q⟩;cases o<;>simp only[Ll]at e<;>try (cases h<;>cases e;done)
 refine⟨l.dJ,?_⟩;cases h with
 |dJ=>cases e;rw[g.dJ];exact q _ G H (.refl f) (cn.mpr rfl)|bl b=>cases e;rw[g.bl];exact q _ G H (.refl f) (cn.mpr Ž)
 |int b=>cases e;rw[g.int];exact q _ G H (.refl f) (cn.mpr Ž)
 |str b=>cases e;rw[g.str];exact q _ G H (.refl f) (cn.mpr Ž)
 |lst b=>cases e;obtain⟨a,j,rfl,_⟩:=g.lst f;exact q _ G H (.refl f) (cn.mpr Ž)
 |tup b=>cases e;obtain⟨a,j,rfl,_⟩:=g.tup f;exact q _ G H (.refl f) (cn.mpr Ž)
 |jS b=>cases e;obtain⟨a,rfl,_⟩:=g.jS f;exact q _ G H (.refl f) (cn.mpr Ž)
 |ins c k i=>cases e;obtain⟨a,rfl⟩:=g.ins;exact q _ G H (.refl f) (cn.mpr Ž)
 |fT k i=>cases e;obtain⟨a,rfl⟩:=g.fT;exact q _ G H (.refl f) (cn.mpr Ž)
 |_=>cases e
def l_:D->D->Option D
 |.obj _ _,_=>M|.kf _ _,_=>M|.dJ,.dJ=>Y (.bl Z_)|_,.dJ=>Y (.bl Z')|_,_=>M
def rG:zm X (d_ .IsNot) l_:=mz.imp OA <|by
 rintro x y H Q ⟨G,h,o,d,f,g,l,e,q⟩;have z:o=.dJ:=by unfold l_ at e;split at e<;>first|rfl|cases e
 subst z;refine⟨l.dJ,?_⟩;cases h with
 |dJ=>cases e;rw[g.dJ];exact q _ G H (.refl f) (cn.mpr rfl)|bl b=>cases e;rw[g.bl];exact q _ G H (.refl f) (cn.mpr Ž)
 |int b=>cases e;rw[g.int];exact q _ G H (.refl f) (cn.mpr Ž)
 |str b=>cases e;rw[g.str];exact q _ G H (.refl f) (cn.mpr Ž)
 |lst b=>cases e;obtain⟨a,j,rfl,_⟩:=g.lst f;exact q _ G H (.refl f) (cn.mpr Ž)
 |tup b=>cases e;obtain⟨a,j,rfl,_⟩:=g.tup f;exact q _ G H (.refl f) (cn.mpr Ž)
 |jS b=>cases e;obtain⟨a,rfl,_⟩:=g.jS f;exact q _ G H (.refl f) (cn.mpr Ž)
 |ins c k i=>cases e;obtain⟨a,rfl⟩:=g.ins;exact q _ G H (.refl f) (cn.mpr Ž)
 |fT k i=>cases e;obtain⟨a,rfl⟩:=g.fT;exact q _ G H (.refl f) (cn.mpr Ž)
 |_=>cases e
def rV(f:DF):DT:=λc=>(f c).bind λd=>match d with
 |.dJ=>Y Z_|.bl b=>Y b|.int i=>Y (i != 0)|.str y=>if y.length<=dA then Y ((y.length:Int) != 0) else M
 |.lst a=>Y (!a.isEmpty)|.tup a=>Y (!a.isEmpty)|.jS a=>Y (!a.isEmpty)|.ins _ _ _=>M|.fT _ _=>M|.obj _ _=>M|.kf _ _=>M
def bf.empty{K:aT}{b:List D}{a:List V}(r:bf K G b a):b.isEmpty=a.isEmpty:=by
 have:=r.length;cases b<;>cases a<;>simp at this ⊢
def uS(h:PE X e (tQ X.K Z f))(C:autoParam (∀g,isTrue e X.env g=(do let v <- g;ou e.pos;lD [v] (truthy v))) Ű):PT X e (si X.K Z (rV f)):=(KJ h C).imp <|by
 rintro I H Q ⟨G,s,b,D,q,d,k⟩;unfold rV at d;rw[aa]at d;obtain⟨c,r,d⟩:=d;refine⟨G,s,c,D,q,r,λv F E l i=>⟨b,?_,k F E l⟩⟩;cases c with
 |dJ=>cases d;rw[i.dJ];rfl|bl b=>cases d;rw[i.bl];rfl|int b=>cases d;rw[i.int];rfl|str y=>
  rw[i.str];have d:(if y.length<=dA then Y ((y.length:Int) != 0) else M)=Y b:=d;split at d
  ·cases d;rename_i z;exact⟨a7 z ft,rfl⟩
  ·cases d
 |lst t=>cases d;obtain⟨a,o,rfl,j,p⟩:=i.lst l.gh;exact .inl ⟨o,.of j,by rw[p.empty]⟩
 |tup t=>cases d;obtain⟨a,o,rfl,j,p⟩:=i.tup l.gh;exact .inr (.inl ⟨o,j,by rw[p.empty]⟩)
 |jS t=>cases d;obtain⟨a,rfl,j⟩:=i.jS l.gh;exact .inl ⟨_,j,Ž⟩
 |_=>cases d
end
structure za(K:aT)(G0:Hp)(J:It)(ds:List D):Prop where
 go:∀i H,bG G0 H->i<ds.length->J.go i H
 stop:∀i H,bG G0 H->ds.length<=i->J.stop i H
 NN:∀(i:Nat) (H:Hp) (x:V) (H' G:Hp) (d:D),bG G0 G->bG G H->J.NN i H x H'->ds[i]?=some d->∃G',gv G H G' H'/\cK K G' d x
inductive Ad (K:aT) (Z:List Nat) (f:DL) (l:St) (H:Hp) (R:It->Hp->Prop):Prop
 |mk G ρ a:bG G H->ki K Z G H l ρ->f ρ=some a->(∀J c b,gv G H c b->za K c J a->R J b)->Ad K Z f l H R
section
variable {X:Cx}{f:DF}
def PI.imp{t:TI}(h:PI X L O t)(k:∀l H R,b l H R->t l H R):PI X L O b:=λa s l H R I q=>h a s l H R I (k _ _ _ q)
noncomputable def iL(f:DF):DL:=λρ=>(f ρ).bind λd=>match d with|.lst a=>Y a|_=>M
def xk{f:DF}(h:iL f ρ=Y a):f ρ=Y (.lst a):=by
 unfold iL at h;obtain⟨d,e,h⟩:=aa.1 h;rw[e];cases d<;>first|(cases h;rfl)|cases h
def AU{K:aT}(g:G a=Y (.lst b))(r:bf K G n b):za K G (YQ K a) n:=by
 refine⟨λi H s f =>?_,λi H s f=>⟨b,.of (s _ _ g),by rw[<- r.length];exact f⟩,λi H x B A d j h ⟨e,y⟩ z =>?_⟩
 ·have c:i<b.length:=by rw[<- r.length];exact f
  exact⟨b,b[i],.of (s _ _ g),by simp[c]⟩
 ·subst e;have p:=y b (.of (h _ _ (j _ _ g)));obtain⟨v,k,o⟩:=r.get z;rw[p]at k;cases k;exact⟨A,.refl h,cK.mono j d o⟩
def fm(h:PE X e (tP X.K Z f)):PI X L e (Ad X.K Z (iL f)):=(Hd h).imp <|by
 rintro l H R ⟨G,ρ,p,n,b,o,k⟩;refine⟨G,ρ,_,n,b,xk o,λv A w d j =>?_⟩;obtain⟨a,g,rfl,c,i⟩:=cU.mp j;exact⟨a,rfl,⟨g,.of (d.gh _ _ c)⟩,k _ A w d (AU c i)⟩
noncomputable def fG(a:Int)(n:Nat):List D:=(cm n).map λ(k:Nat) =>.int (a+(k:Int))
def yv{K:aT}(c:Int)(n:Nat):za K G (Xc c n) (fG c n):=by
 have f:(fG c n).length=n:=by simp[fG]
 refine⟨λi H s a=>by rw[f]at a;exact a,λi H s a=>by rw[f]at a;exact a,λi H x p A d k g ⟨e,y⟩ b =>?_⟩;subst e;refine⟨A,.refl g,?_⟩;unfold fG at b;rw[aV]at b;obtain⟨j,q,b⟩:=ak.1 b;cases b;have:j=i:=by obtain⟨o,h⟩:=ax.mp q;simpa using h.symm
 subst this;exact cC.mpr y
def wL(f:DF):DL:=λρ=>(f ρ).bind λd=>match d with|.int j=>if -(2 ^ 62)<=j/\j<2 ^ 62 then Y (fG 0 j.toNat) else M|_=>M
def jq(r:Gl X "range")(o:X.mg "range" = M)(h:PE X e (tQ X.K Z f))(n:autoParam (aq [e] X.env=(Z_,eval e X.env)::aq [] X.env) ų)(b:autoParam (aq [e] X.env=[(Z_,eval e X.env)]) ų):PI X L (.Call (.Name "range" p) [e] [] u) (Ad X.K Z (wL f)):=
 (Aw r o (cM h fK n) b).imp <|by
  rintro l H R ⟨G,ρ,z,s,c,a,k⟩;unfold wL at a;obtain⟨d,x,a⟩:=aa.1 a;cases d<;>simp only[ae]at a<;>try (cases a;done)
  split at a
  ·cases a;rename_i j g;exact⟨G,ρ,_,s,c,x,λv A w y i=>⟨j,by rw[i.int],g.1,g.2,k _ A w y (yv 0 j.toNat)⟩⟩
  ·cases a
def iR2(f g:DF):DL:=λρ=>(f ρ).bind λd=>(g ρ).bind λc=>match d,c with|.int i,.int j=>if -(2 ^ 62)<=i/\i<2 ^ 62 /\ -(2 ^ 62)<=j/\j<2 ^ 62 then Y (fG i (j-i).toNat) else M|_,_=>M
end
abbrev zW:=D->bY->Option bY
inductive EH (K:aT) (B:Bs) (Z:List Nat) (τ:zW) (v:V) (l:St) (H:Hp) (Q:St->Hp->Prop):Prop
 |mk G ρ d b:SR K B Z G H l ρ->cK K G d v->τ d ρ=some b->(∀a e c,SR K B Z e c a b->Q a c)->EH K B Z τ v l H Q
inductive T9 (K:aT) (Z:List Nat) (τ:zW) (v:V) (l:St) (H:Hp) (Q:St->Hp->Prop):Prop
 |mk G ρ d b:bG G H->ki K Z G H l ρ->cK K G d v->τ d ρ=some b->(∀a e c,gv G H e c->ki K Z e c a b->Q a c)->T9 K Z τ v l H Q
section
variable {X:Cx}
def PG.imp{L:Expr}{t:TG}(h:PG X L t)(k:∀v l H Q,b v l H Q->t v l H Q):PG X L b:=λa s l H v u Q I r q=>h a s l H v u Q I r (k _ _ _ _ q)
noncomputable def gN(i:Nat):zW:=λd ρ=>Y (ρ.set i (Y d))
def iq{i:Nat}(h:PG X L (oR i))(b:autoParam (i∉Z) ű):PG X L (EH X.K B Z (gN i)):=h.imp <|by
 rintro v l H Q ⟨G,ρ,d,a,S,r,c,k⟩;cases c;exact k _ G H (S.vF b r)
def ki.set{K:aT}{i:Nat}{d:D}{v:V}(h:ki K Z G H l ρ)(s:i∉Z)(r:cK K G d v):ki K Z G H (l.set i (Y v)) (ρ.set i (Y d)):=
 ⟨by simp[h.len],λj c e=>by
  rcases jR e with⟨rfl,rfl,C⟩|⟨b,e⟩
  ·exact⟨v,vc (by rw[h.len];exact C),by rw[if_neg s];exact r⟩
  ·obtain⟨u,o,n⟩:=h.get j c e;exact⟨u,by rw[aA b];exact o,n⟩,λj k p g N e=>by
  have a:∀j,j∈Z->i≠j:=λj F e=>s (e ▸ F)
  rw[aA (a j g)]at e;obtain⟨f,m,z,y,B,w,x,o,n,Q,P⟩:=h.kf j k p g N e;exact⟨f,m,z,y,B,w,x,by rw[aA (a k f)];exact o,by rw[aA (a k f)];exact n,by rw[aA (a j g)];exact Q,P⟩⟩
noncomputable def AZ(i j:Nat):zW:=λd ρ=>match d with|.tup [a,b]=>Y ((ρ.set i (Y a)).set j (Y b))|_=>M
def Mm(h:AZ i j d ρ=Y c):∃a b,d=.tup [a,b]/\c=(ρ.set i (Y a)).set j (Y b):=by
 unfold AZ at h;split at h
 ·cases h;exact⟨_,_,rfl,rfl⟩
 ·cases h
def N_{K:aT}{v:V}(r:cK K G (.tup [a,b]) v):∃p x y,v=.ref p/\Iv K G p [x,y]/\cK K G a x/\cK K G b y:=by
 obtain⟨p,h,e,g,f⟩:=eE.mp r;obtain⟨x,j,rfl,d,t⟩:=bJ.mp f;obtain⟨y,i,rfl,c,t⟩:=bJ.mp t;rw[dD.mp t]at g;exact⟨p,x,y,e,g,d,c⟩
def tH{i:Nat}(h:PG X L (SD X.K 2 (A0 (oR i) (A0 (oR j) SE))))(o:autoParam (i∉Z) ű)(n:autoParam (j∉Z) ű):PG X L (EH X.K B Z (AZ i j)):=h.imp <|by
 rintro v l H Q ⟨G,ρ,d,c,S,r,s,k⟩;obtain⟨a,b,rfl,rfl⟩:=Mm s;obtain⟨p,x,y,rfl,g,f,e⟩:=N_ r;exact⟨p,_,rfl,g.sq S.gh,rfl,x,_,rfl,y,_,rfl,rfl,k _ G H ((S.vF o f).vF n e)⟩
end
noncomputable def eS(τ:zW)(g:DG):List D->bY->Option DO
 |[],ρ=>Y (.nx ρ)| d::b,ρ=>(τ d ρ).bind λρ1=>(g ρ1).bind λo=>match o with
  |.nx a=>eS τ g b a|.ct a=>eS τ g b a|.bk a=>Y (.nx a)|.rt d=>Y (.rt d)|.ro d=>Y (.ro d)|.rm d ρ=>Y (.rm d ρ)|.rf i ρ=>Y (.rf i ρ)|.ex c n=>Y (.ex c n)
def iX(f:DL)(τ:zW)(g:DG):DG:=λρ=>(f ρ).bind λa=>eS τ g a ρ
section
variable {K:aT}
def qZ.base{F:Nat->List az}(W:qZ K B Z G H l ρ F)(h:a.2=B.2):qZ K a Z G H l ρ F:=⟨W.it,λi d b e=>by rw[h];exact W.ok i d b e,W.ap⟩
def SR.rebase(a:SR K B Z A w q ρ1)(S:SR K B Z G H l ρ)(s:bG A G):SR K ⟨A,B.2,B.3,B.4⟩ Z G H l ρ:=
 ⟨S.gh,s,S.h0,λb o e=>by
  rcases S.fr b o e with z|z
  ·exact .inl (a.g0 b o z)
  ·exact .inr z,S.env,(by obtain⟨F,W⟩:=S.ow;exact⟨F,W.base rfl⟩),S.len,S.pin,S.kf⟩
def SR.Bo(c:SR K B Z A w q ρ1)(S:SR K ⟨A,B.2,B.3,B.4⟩ a G H l ρ):SR K B a G H l ρ:=
 ⟨S.gh,c.g0.trans S.g0,S.h0,λb o e=>by
  rcases S.fr b o e with z|z
  ·exact c.fr b o z
  ·exact .inr z,S.env,(by obtain⟨F,W⟩:=S.ow;exact⟨F,W.base rfl⟩),S.len,S.pin,S.kf⟩
def SR.xF(a:SR K B Z A w q ρ1)(S:SR K ⟨A,B.2,B.3,B.4⟩ Z G H l ρ):SR K B Z G H l ρ:=a.Bo S
def gv.xF(a:SR K B Z A w q ρ1)(E:gv A B.2 G H):gv B.1 B.2 G H:=
 ⟨E.hh,a.g0.trans E.gg,E.gh,λb o e=>by
  rcases E.fr b o e with z|z
  ·exact a.fr b o z
  ·exact .inr z⟩
end
section
variable {X:Cx}{f:DL}
inductive WG (K:aT) (B:Bs) (Z:List Nat) (f:bY->Option (List D×bY)) (l:St) (H:Hp) (R:It->Hp->Prop):Prop
 |mk G ρ b a:SR K B Z G H l ρ->f ρ=some (b,a)->(∀J d c,SR K B Z d c l a->za K d J b->R J c)->WG K B Z f l H R
def Ap(f:bY->Option (List D×bY))(τ:zW)(g:DG):DG:=λρ=>(f ρ).bind λp=>eS τ g p.1 p.2
def Ef{f:bY->Option (List D×bY)}(hp:Nr (bD X.prog X.w) X.A X.env X.xe)(hc:X.calm=Z')(hi:PI X L O (WG X.K B Z f))(hg:∀C:Bs,C.3=B.3->PG X L (EH X.K C Z τ))(hb:∀C:Bs,C.3=B.3->C.2=B.2/\C.4=B.4->sx X I (k7 X.K C Z Z Z g))(hs:autoParam (∀x,cR O X.env x=fi x) Ű):PS X (.For L O I [] u) (k7 X.K B t Z Z (Ap f τ g)):=by
 intro Q s l H D' j ⟨G,ρ,o,S,eq,k⟩;unfold Ap at eq;obtain⟨⟨R,ρ0⟩,ef,eq⟩:=aa.1 eq;have eq:eS τ g R ρ0=Y o:=eq;refine wpAny_For (fE (hi Q s l H (λJ w=>∃A,SR X.K B Z A w l ρ0/\za X.K A J R) j ⟨G,ρ,R,ρ0,S,ef,λJ A w S1 ok=>⟨A,S1,ok⟩⟩) λv s1 h1=>fE h1 λZj s2 h2 =>?_) hs;obtain⟨it,fp,tn,J,H2,e,I2,T,Nv,f2,A,S1,ok⟩:=h2;subst e;have Fj:∀ {H':Hp},(∀b∈fp,H' b=M)->∀b∈fp,zb X Q H' b:=λhn b hb=>⟨hn b hb,(f2 b hb).2⟩
 have ab3:∀(ρ':bY) (σ':St) (H' G':Hp) (wU:List D),SR X.K ⟨A,B.2,B.3,B.4⟩ Z G' H' σ' ρ'->True:=λ_ _ _ _ _ _=>trivial
 refine codeAny_forLoop_any (λn s'=>∃i σ' H' G' ρ',Inv X Q σ' H' s'/\tn i s'.heap/\(∀b∈fp,H' b=M)/\n=R.length-i/\i<=R.length/\SR X.K ⟨A,B.2,B.3,B.4⟩ Z G' H' σ' ρ'/\eS τ g (R.drop i) ρ'=Y o) ?_ R.length
  ⟨0,l,H2,A,ρ0,I2,Nv,λb hb=>(f2 b hb).1,rfl,fD _,S1.rebase S1 (bG.refl _),eq⟩
 rintro n s3 ⟨i,σ3,H3,G3,ρ3,I3,WI,VO,rfl,WW,S3,F⟩;have UR:bG A H3:=S3.g0.trans S3.gh;by_cases NF:i<R.length
 ·have ed:R.drop i=R[i]::R.drop (i+1):=fJ NF;rw[ed]at F;unfold eS at F;obtain⟨P,et,F⟩:=aa.1 F;obtain⟨o4,eg,F⟩:=aa.1 F;refine fU hp (fE (T.item X rfl rfl rfl hc i Q s3 σ3 H3 X.xe I3 (Fj VO) WI (ok.go i H3 UR NF)) ?_);rintro r s4 ⟨h,hr,h4⟩;subst hr;refine fU hp (fE h4 ?_);rintro _ s5 ⟨x,H5,I5,r5,y5,Ub,Uj⟩;have YT:=I5.pinned (Fj Uj) (T.obj _ _ Ub);obtain⟨G5,E5,XE⟩:=ok.NN i H3 x H5 G3 R[i] S3.g0 S3.gh y5 (aX NF);refine fU hp (fE (hg ⟨A,B.2,B.3,B.4⟩ rfl _ s5 σ3 H5 x h (λN H6=>∃G6,SR X.K ⟨A,B.2,B.3,B.4⟩ Z G6 H6 N P) YT r5 ⟨G5,ρ3,R[i],P,S3.ext E5,XE,et,λN G6 H6 S6=>⟨G6,S6⟩⟩) ?_);rintro _ s6 ⟨N,H6,I6,G6,S6⟩;have again:∀ {p:St}{K q:Hp}{ρ7:bY}{s7:ay},Inv X (Q++sR fp s5.heap) p K s7->SR X.K ⟨A,B.2,B.3,B.4⟩ Z q K p ρ7->eS τ g (R.drop (i+1)) ρ7=Y o ->
    ∃m,m<R.length-i/\∃i σ' H' G' ρ',Inv X Q σ' H' s7/\tn i s7.heap/\(∀b∈fp,H' b=M)/\m=R.length-i/\i<=R.length/\SR X.K ⟨A,B.2,B.3,B.4⟩ Z G' H' σ' ρ'/\eS τ g (R.drop i) ρ'=Y o:=fun {p K q ρ7 s7} I7 S7 e7=>by
   refine⟨R.length-(i+1),ž,i+1,p,K,q,ρ7,I7.mB,T.keep _ _ _ Ub λb hb o e=>(I7.pin (b,o) (aH _ (aH _ (j4 hb e)))).1,λb hb =>?_,rfl,NF,S7,e7⟩;obtain⟨o,e,d⟩:=T.obj _ _ Ub b hb;exact(I7.pin (b,o) (aH _ (aH _ (j4 hb e)))).2.1
  refine fU hp (fE (hb ⟨A,B.2,B.3,B.4⟩ rfl ⟨rfl,rfl⟩ _ s6 N H6 { nx:=λp K=>∃q r,SR X.K ⟨A,B.2,B.3,B.4⟩ Z q K p r/\eS τ g (R.drop (i+1)) r=Y o,ct:=λp K=>∃q r,SR X.K ⟨A,B.2,B.3,B.4⟩ Z q K p r/\eS τ g (R.drop (i+1)) r=Y o,bk:=D'.nx,rt:=D'.rt } I6 ⟨G6,P,o4,S6,eg,?_⟩) λfl s7 y =>?_)
  ·cases o4 with
   |nx r=>exact λp q K S7=>⟨q,r,S7,F⟩
   |ct r=>exact λp q K S7=>⟨q,r,S7,F⟩
   |bk r=>cases F;exact λp q K S7=>k _ q K (S1.xF S7)
   |rt d=>cases F;exact λv q K E7 r7=>k v q K (gv.xF S1 E7) r7
   |ro d=>cases F;exact λa vs q K E7 h1 h2 h3 r7=>k a vs q K (gv.xF S1 E7) h1 h2 h3 r7
   |rm d r=>cases F;exact λv p q K ⟨o7,S7⟩ r7=>k v p q K ⟨o7,S1.Bo S7⟩ r7
   |rf j r=>cases F;exact λv p q K ⟨o7,ho7,S7⟩ r7=>k v p q K ⟨o7,ho7,S1.Bo S7⟩ r7
   |ex c n=>cases F;exact k
  cases fl with
  |ret v=>obtain⟨x7,p,K,I7,r7,y⟩:=y;exact⟨x7,p,K,I7.mB,r7,y⟩
  |brk=>obtain⟨p,K,I7,y⟩:=y;exact⟨p,K,I7.mB,y⟩
  |_=>obtain⟨p,K,I7,q,r,S7,F⟩:=y;exact again I7 S7 F
 ·have e:i=R.length:=by omega
  subst e;rw[nc]at F;unfold eS at F;cases F;refine fU hp (fE (T.done X rfl rfl rfl hc _ Q s3 σ3 H3 X.xe I3 (Fj VO) WI (ok.stop _ H3 UR (aw _))) ?_);rintro r s4 ⟨hr,I4⟩;subst hr;exact zp ⟨σ3,H3,I4,k σ3 G3 H3 (S1.xF S3)⟩
def Pe(i:Nr (bD X.prog X.w) X.A X.env X.xe)(o:X.calm=Z')(j:PI X L O (Ad X.K Z f))(n:∀C:Bs,C.3=B.3->PG X L (EH X.K C Z τ))(p:∀C:Bs,C.3=B.3->C.2=B.2/\C.4=B.4->sx X I (k7 X.K C Z Z Z g))(h:autoParam (∀x,cR O X.env x=fi x) Ű):PS X (.For L O I [] u) (k7 X.K B t Z Z (iX f τ g)):=by
 have e:iX f τ g=Ap (λρ=>(f ρ).map λa=>(a,ρ)) τ g:=funext λρ=>by show (f ρ).bind _=(zY (λa=>(a,ρ)) (f ρ)).bind _;cases f ρ<;>rfl
 rw[e];refine Ef i o (j.imp ?_) n p h;rintro l H R ⟨G,ρ,a,c,S,b,k⟩;have b:zY (λa=>(a,ρ)) (f ρ)=Y (a,c):=b;obtain⟨s,r,b⟩:=ak.1 b;cases b;exact⟨G,ρ,a,S.gh,S.jy,r,λJ A w E d=>k J A w (S.ext E) d⟩
def Pf{f:bY->Option (List D×bY)}(b:Nr (bD X.prog X.w) X.A X.env X.xe)(e:X.calm=Z')(c:PI X L O (WG X.K B Z f))(d:∀C:Bs,C.3=B.3->PG X L (EH X.K C Z τ))(i:∀C:Bs,C.3=B.3->sx X I (k7 X.K C Z Z Z g))(a:autoParam (∀x,cR O X.env x=fi x) Ű):PS X (.For L O I [] u) (k7 X.K B t Z Z (Ap f τ g)):=Ef b e c d (λC h _=>i C h) a
def fW(b:Nr (bD X.prog X.w) X.A X.env X.xe)(e:X.calm=Z')(c:PI X L O (Ad X.K Z f))(d:∀C:Bs,C.3=B.3->PG X L (EH X.K C Z τ))(i:∀C:Bs,C.3=B.3->sx X I (k7 X.K C Z Z Z g))(a:autoParam (∀x,cR O X.env x=fi x) Ű):PS X (.For L O I [] u) (k7 X.K B t Z Z (iX f τ g)):=Pe b e c d (λC h _=>i C h) a
end
noncomputable def kM(src:List (Option Nat))(ρ:bY):bY:=src.map λo=>match o with|some j=>(ρ[j]?).getD M|none=>M
noncomputable def oO(ρ:bY)(τ:zW)(U:DT)(fe:DF):List D->Option (List D)
 |[]=>Y []|d::a=>(τ d ρ).bind λρ1=>(U ρ1).bind λb=>if b=Z' then (fe ρ1).bind λx=>(oO ρ τ U fe a).map (x :: ·) else oO ρ τ U fe a
def mY(f:DL)(src:List (Option Nat))(τ:zW)(U:DT)(fe:DF):DL:=λρ=>(f ρ).bind λa=>if a.length<=dA then oO (kM src ρ) τ U fe a else M
noncomputable def fj:DT:=λ_=>Y Z'
def jx(Z Ź:List Nat)(src:List (Option Nat)):Bool:=(Ź.all λj=> !Ź.contains (Dw j))&&(cm src.length).all λi=>match src[i]? with|some (Y j)=>decide (i∈Ź)==decide (j∈Z)|_=>Z'
def ij(h:jx Z Ź src=Z')(e:src[i]?=Y (Y j)):(i∈Ź↔j∈Z):=by
 unfold jx at h;rw[aO]at h;have h:=h.2;rw[iZ]at h;have a:i<src.length:=(ax.mp e).1;have:=h i (by simpa using a);rw[e]at this;simpa using this
def Jg(h:jx Z Ź src=Z')(b:j∈Ź)(a:Dw j∈Ź):False:=by
 unfold jx at h;rw[aO,iZ]at h;have:=h.1 j b;simp[a]at this
def ki.src{K:aT}{Z Ź:List Nat}{src:List (Option Nat)}(h:ki K Z G H l ρ)(f:jx Z Ź src=Z'):ki K Ź G H (mF src l) (kM src ρ):=by
 refine⟨by simp[mF,kM],λi d e =>?_,λj r p k g _=>(Jg f k g).elim⟩;unfold kM at e;rw[aV]at e;obtain⟨o,c,e⟩:=ak.1 e;cases o with
 |none=>cases e|some j=>
  have e:(ρ[j]?).getD M=Y d:=by simpa using e
  have s:ρ[j]?=Y (Y d):=by
   rcases q:ρ[j]? with _|z
   ·rw[q]at e;cases e
   rw[q]at e;rw[show z=Y d from e]
  obtain⟨v,n,a⟩:=h.get j d s;refine⟨v,?_,?_⟩
  ·unfold mF;rw[aV,c];simp[n]
  ·have:=ij f c;by_cases b:i∈Ź
   ·rw[if_pos b];rw[if_pos (this.mp b)]at a;exact a
   ·rw[if_neg b];rw[if_neg (λz=>b (this.mpr z))]at a;exact a
section
variable {X:Cx}{m:Expr}{f:DL}
def EO.imp{t:TT}(h:EO X E t)(k:∀l H Q,b l H Q->t l H Q):EO X E b:=λa s l H Q I q=>h a s l H Q I (k _ _ _ q)
def gZ:EO X [] (si X.K Z fj):=Oi.imp <|by rintro l H Q ⟨G,ρ,b,a,d,c,k⟩;cases c;exact k G H (.refl a)
def Cj(h:PT X c (si X.K Z U)):EO X [c] (si X.K Z U):=Oh h
def LQ{K:aT}(ho:jx Z Ź src=Z')(hg:∀v l H Q,T9 K Ź τ v l H Q->g v l H Q)(q:tF K Z (mY f src τ U fe) l H Q):Q_ (Ad K Z f) src g (si K Ź U) (tP K Ź fe) l H Q:=by
 obtain⟨G,ρ,rs,gh,P,s,k⟩:=q;unfold mY at s;obtain⟨h,ef,s⟩:=aa.1 s;have s:(if h.length<=dA then oO (kM src ρ) τ U fe h else M)=Y rs:=s;split at s
 ·rename_i hz;refine⟨G,ρ,h,gh,P,ef,λJ A w E1 ok =>?_⟩;refine⟨λi m ys D=>m=h.length-i/\i<=h.length/\ys.length<=i/\∃R r c,gv A w R D/\bf K R r ys/\oO (kM src ρ) τ U fe (h.drop i)=Y c/\r++c=rs,
   ⟨h.length,rfl,fD _,aw _,A,[],rs,.refl E1.gh,.nil,s,rfl⟩,?_⟩
  rintro i m ys D ⟨rfl,WW,Zr,R,r,c,o,rx,d,rfl⟩;have t:bG A D:=o.gg.trans o.gh;by_cases n:i<h.length
  ·refine .inr ⟨ok.go i D t n,?_,λC H'=>C.length<=i+1/\∃G3 F a,gv A w G3 H'/\bf K G3 F C/\oO (kM src ρ) τ U fe (h.drop (i+1))=Y a/\F++a=r++c,
    λC H' z=>⟨h.length-(i+1),ž,rfl,n,z⟩,λx H3 y =>?_⟩
   ·have:=ft;omega
   ·obtain⟨G3,X,N⟩:=ok.NN i D x H3 R h[i] o.gg o.gh y (aX n);rw[fJ n]at d;unfold oO at d;obtain⟨j,et,d⟩:=aa.1 d;obtain⟨b,eb,d⟩:=aa.1 d;have E13:=E1.trans (o.trans X);refine hg _ _ _ _ ⟨G3,kM src ρ,h[i],j,X.gh,(P.ext E13).src ho,N,et,λσ4 G4 H4 E4 B=>⟨G4,j,b,E4.gh,B,eb,λG5 H5 S =>?_⟩⟩;have Z8:=(o.trans X).trans (E4.trans S);cases b with
    |false=>exact DY ⟨ž,G5,r,c,Z8,bf.mono ((X.trans (E4.trans S)).gg) r rx,d,rfl⟩
    |true=>
     refine B2 ?_;simp only[if_true]at d;obtain⟨x4,ee,d⟩:=aa.1 d;rcases el:oO (kM src ρ) τ U fe (h.drop (i+1)) with _|a
     ·simp[el]at d
     simp only[el,ae,bP]at d;cases d;refine⟨G5,j,x4,S.gh,B.ext S,ee,λv G6 H6 E6 r6=>⟨by simp;omega,G6,r++[x4],a,Z8.trans E6,(bf.mono ((X.trans ((E4.trans S).trans E6)).gg) r rx).append (.cons r6 .nil),rfl,Ž⟩⟩
  ·have e:i=h.length:=by omega
   subst e;rw[nc]at d;unfold oO at d;cases d;refine .inl ⟨ok.stop _ D t (aw _),λp hp =>?_⟩;have Z9:=E1.trans o;refine k p ys R _ (Z9.trans (gv.lay (p:=p) o.gh hp)) (Z9.hh.free hp) (o.gh.free hp) bh ?_;rw[bx];exact rx
 ·cases s
def qV(S:fQ X N src T)(j:X.calm=Z')(e:PI X L O (Ad X.K Z f))(n:NI J g)(a:∀i∈J,src[i]?=Y M)(h:∀v l H Q,T9 X.K Ź τ v l H Q->g v l H Q)(k:∀C s H b,PG (X.sv N T C s H b) L g/\EO (X.sv N T C s H b) E (si X.K Ź U)/\PE (X.sv N T C s H b) m (tP X.K Ź fe))(d:autoParam (jx Z Ź src=true) ű)(c:autoParam (∀x,cR O X.env x=fi x) Ű):PE X (.ListComp m [⟨L,O,E,0⟩] T u) (tF X.K Z (mY f src τ U fe)):=
 (K0 S j e n a k c).imp λl H Q q=>LQ d h q
def JM{i:Nat}{c D:Pos}(S:fQ X N src T)(hc:X.calm=Z')(hN:X.N.Nodup)(F:X.N[i]?=Y y)(hl:X.env.scope.names.lookup y=Y .local)(hi:PI X L O (Ad X.K Z f))(ag:NI J g)(j:∀i∈J,src[i]?=Y M)(hg:∀v l H Q,T9 X.K Ź τ v l H Q->g v l H Q)(hb:∀C s H z,PG (X.sv N T C s H z) L g/\EO (X.sv N T C s H z) E (si X.K Ź U)/\PE (X.sv N T C s H z) m (tP X.K Ź fe))(R:autoParam (jx Z Ź src=true) ű)(n:autoParam (i∈Z) ű)(d:autoParam (∀a,(i,a)∉B.3) Ŭ)(hm:autoParam (Lz i∉Z) ű)(h:autoParam (dS (.ListComp m [⟨L,O,E,0⟩] T u) (Y (.Name y D)) c.line X.env=fi true) ų)(q:autoParam (∀x,cR O X.env x=fi x) Ű):PS X (.Assign [.Name y D] (.ListComp m [⟨L,O,E,0⟩] T u) c) (k7 X.K B t Z Z (kP i (mY f src τ U fe))):=
 (xW S hc hN F hl hi ag j hb h q).imp λD' l H ⟨G,ρ,o,S,e,k⟩=>LQ R hg (by unfold kP at e;obtain⟨ds,ef,e⟩:=ak.1 e;cases e;exact⟨G,ρ,ds,S.gh,S.jy,ef,λp vs G' H' b P gp K r=>k _ G' H' (S.N6 n b P gp K r d hm)⟩)
def Ee{B:Bs}{D:Pos}(S:fQ X N src T)(hc:X.calm=Z')(hN:X.N.Nodup)(q:X.N[i]?=Y y)(hl:X.env.scope.names.lookup y=Y .local)(hi:PI X L O (Ad X.K Z f))(ag:NI J g)(e:∀i∈J,src[i]?=Y M)(hg:∀v l H Q,T9 X.K Ź τ v l H Q->g v l H Q)(hb:∀C s H j,PG (X.sv N T C s H j) L g/\EO (X.sv N T C s H j) E (si X.K Ź U)/\PE (X.sv N T C s H j) m (tP X.K Ź fe))(ho:autoParam (jx Z Ź src=true) ű)(h:autoParam (i∉Z) ű)(d:autoParam (dS (.ListComp m [⟨L,O,E,0⟩] T u) (Y (.Name y D)) b.line X.env=fi true) ų)(R:autoParam (∀x,cR O X.env x=fi x) Ű):PS X (.Assign [.Name y D] (.ListComp m [⟨L,O,E,0⟩] T u) b) (k7 X.K B t Z Z (eM i (eF (mY f src τ U fe)))):=
 (xW S hc hN q hl hi ag e hb d R).imp λD' l H ⟨G,ρ,o,S,c,k⟩=>LQ ho hg (by
  unfold eM eF at c;rcases n:mY f src τ U fe ρ with _|K
  ·rw[n]at c;cases c
  rw[n]at c;cases c;refine⟨G,ρ,K,S.gh,S.jy,n,λp z G' H' a hp F P r=>k _ (de G' p (.lst z)) H' ((S.ext (a.freeze hp F P)).vF h ?_)⟩;exact cU.mpr ⟨p,z,rfl,bh,bf.mono (.alloc F) K r⟩)
end
inductive gO (K:aT) (F:List D->Option D) (e:List V) (H:Hp) (Q:VK) (_x:XK):Prop
 |mk G a d:bG G H->bf K G a e->F a=some d->(∀v c b,gv G H c b->cK K c d v->Q v b)->gO K F e H Q _x
inductive Bt (K:aT) (F:List D->Option (List D)) (g:List V) (H:Hp) (Q:VK) (_x:XK):Prop
 |mk G f e:bG G H->bf K G f g->F f=some e->(∀a d c b,gv G H c b->H a=none->c a=none->b a=some (.lst d)->bf K c e d->Q (.ref a) b)->Bt K F g H Q _x
noncomputable def gQ(N:Nat)(a:List D):bY:=a.map Y++bK (N-a.length) M
noncomputable def iY:DO->Option D
 |.rt d=>Y d|.ro a=>Y (.lst a)|.nx _=>Y .dJ|_=>M
noncomputable def K5:DO->Option (List D)
 |.ro a=>Y a|_=>M
def jg(n N:Nat)(g:DG)(a:List D):Option D:=if a.length=n then (g (gQ N a)).bind iY else M
def De(n N:Nat)(g:DG)(a:List D):Option (List D):=if a.length=n then (g (gQ N a)).bind K5 else M
def ka{i:Nat}(h:(gQ N b)[i]?=Y (Y d)):b[i]?=Y d:=by
 unfold gQ at h;by_cases c:i<b.length
 ·rw[dW (by simpa using c),aV]at h;obtain⟨a,e,h⟩:=ak.1 h;rw[e];cases h;rfl
 ·rw[gW (by simpa using c),NK]at h;split at h<;>cases h
def C5{K:aT}{H:Hp}{m:List V}(s:bG G H)(r:bf K G k m)(t:∀i∈Z,k.length<=i):SR K ⟨G,H,[],x⟩ Z G H (start N m) (gQ N.length k):=by
 have g:∀i d,i∈Z->(gQ N.length k)[i]?=Y (Y d)->False:=λi d f e=>by have:=(ax.mp (ka e)).1;have:=t i f;omega
 refine⟨s,bG.refl _,bG.refl _,λb o e =>.inl e,λi d f e =>?_,⟨λ_=>[],λi d f e=>(g i d f e).elim,λi d f e=>(g i d f e).elim,λi j d c f z e=>(g i d f e).elim⟩,by simp[start,gQ,r.length],λi a h=>(by cases h),λj r p w A e=>(g j _ w e).elim⟩;obtain⟨v,n,q⟩:=r.get (ka e);refine⟨v,?_,q⟩;have f:i<m.length:=(ax.mp n).1;unfold start;rw[dW (by simpa using f),aV,n];rfl
section
variable {P:be}{K:aT}
def kh.xh{m:eJ}{f:az}{N:List aG}(F:kh K x e m f O)(S:bM N I (aM m)){Z Ź:List Nat}{g:DG}(p:∀i∈Z,I.length<=i) (hb:∀(j:ai) (A:jd) (outer:List Env) (s:ay) (H:Hp) (E:XK),fN k (A.deeper (vj e (aM m) s.heap.objs.size f j))->∀B:Bs,B.3=[] ->
   sx (yU jA P w K u y N e (aM m) f j A outer s H E).OH (iU m) (k7 K B [] Z Ź g)):dg P w K u y jA (k+1) f O I (gO K (jg I.length N.length g)):=by
 refine F.ok S (λR H Q E h =>?_) (λj A outer s H R Q E U h =>?_)
 ·obtain⟨G,ds,d,c,r,b,_⟩:=h;unfold jg at b;split at b
  ·rw[<- r.length];assumption
  ·cases b
 ·obtain⟨G,ds,d,c,r,b,q⟩:=h;unfold jg at b;split at b
  ·rename_i X;refine⟨_,hb j A outer s H E U ⟨G,H,[],λ_ _=>False⟩ rfl,?_⟩;obtain⟨o,eg,b⟩:=aa.1 b;refine⟨G,_,o,C5 c r (by rw[X];exact p),eg,?_⟩;cases o with
   |rt d'=>cases b;exact λv z t E r=>q v z t E r
   |ro T=>cases b;exact λa J z t E h1 L h3 r=>q _ (de z a (.lst J)) t (E.freeze h1 L h3) (cU.mpr ⟨a,J,rfl,bh,bf.mono (.alloc L) T r⟩)
   |nx D=>cases b;exact λσ z t S=>q _ z t S.qh (ig.mpr rfl)
   |_=>cases b
  ·cases b
def kh.WL{f:az}(F:kh K x j p f I)(S:bM N z (aM p)){Z Ź:List Nat}{g:DG}(t:∀i∈Z,z.length<=i) (R:∀(m:ai) (A:jd) (e:List Env) (s:ay) (H:Hp) (E:XK),fN k (A.deeper (vj j (aM p) s.heap.objs.size f m))->∀B:Bs,B.3=[] ->
   sx (yU jA P w K u y N j (aM p) f m A e s H E).OH (iU p) (k7 K B [] Z Ź g)):dg P w K u y jA (k+1) f I z (Bt K (De z.length N.length g)):=by
 refine F.ok S (λJ H Q E h =>?_) (λm A e s H J Q E c h =>?_)
 ·obtain⟨G,ds,d,D,r,b,_⟩:=h;unfold De at b;split at b
  ·rw[<- r.length];assumption
  ·cases b
 ·obtain⟨G,ds,d,D,r,b,q⟩:=h;unfold De at b;split at b
  ·rename_i O;refine⟨_,R m A e s H E c ⟨G,H,[],λ_ _=>False⟩ rfl,?_⟩;obtain⟨o,eg,b⟩:=aa.1 b;refine⟨G,_,o,C5 D r (by rw[O];exact t),eg,?_⟩;cases o with
   |ro rs=>cases b;exact λa L G' H' E X U T r=>q a L G' H' E X U T r
   |_=>cases b
  ·cases b
structure hW(P:be)(w:dz)(K:aT)(mg:aG->Option ai)(base:dC)(x:aG)(k:Nat)(sp:Sp):Prop where
 ex:∃f fd ps,dg P w K mg base jA k f fd ps sp/\mg x=some (.ref f)/\EC K (.ref f)=true/\Binds K fd ps []
def hW.mono(h:hW P w K u y x j a)(c:j<=k):hW P w K u y x k a:=by
 obtain⟨f,g,b,e,d⟩:=h.ex;exact⟨f,g,b,e.mono c,d⟩
def hW.toF{F:List D->Option (List D)}(h:hW P w K u y x k (Bt K F)):hW P w K u y x k (gO K λe=>(F e).map .lst):=by
 obtain⟨f,p,m,g,c⟩:=h.ex;refine⟨f,p,m,g.imp λz H Q E ⟨G,e,d,o,r,b,q⟩ =>?_,c⟩;have b:zY D.lst (F e)=Y d:=b;obtain⟨j,s,b⟩:=ak.1 b;cases b;exact⟨G,e,j,o,r,s,λa i v t E g c n r=>q _ (de v a (.lst i)) t (E.freeze g c n) (cU.mpr ⟨a,i,rfl,bh,bf.mono (.alloc c) j r⟩)⟩
end
section
variable {X:Cx}
def cg{F:List D->Option D}(h:hW X.prog X.w X.K X.mg X.base x k (gO X.K F))(s:fN k X.A)(z:Gl X x)(E:PA X (e::l) (EI X.K Z g))(b:autoParam ((x==("__debug__" : aG))=false) ű)(A:autoParam (aq (e::l) X.env=(Z_,eval e X.env)::aq l X.env) ų)(a:autoParam ((c6 C (aq l X.env)).any (·.1)=false) ų):PE X (.Call (.Name x p) (e::l) [] C) (tP X.K Z (a_ F g)):=by
 obtain⟨f,fd,U,I,t,w,B⟩:=h.ex;refine(pA I s z t w B .nil nq E b A a).imp ?_;rintro T H Q ⟨G,m,d,J,c,L,q⟩;obtain⟨i,K,u⟩:=yI L;exact⟨G,m,i,J,c,K,λn R O j r=>by show gO X.K F (n++[]) O Q E0;rw[bx];exact⟨R,i,d,j.gh,r,u,λv P N S o=>q v P N (j.trans S) o⟩⟩
noncomputable def kR(F:List D->Option (List D))(g:DL):DL:=λa=>(g a).bind F
def qW{F:List D->Option (List D)}(h:hW X.prog X.w X.K X.mg X.base x k (Bt X.K F))(w:fN k X.A)(B:Gl X x)(J:PA X (e::l) (EI X.K Z g))(d:autoParam ((x==("__debug__" : aG))=false) ű)(E:autoParam (aq (e::l) X.env=(Z_,eval e X.env)::aq l X.env) ų)(c:autoParam ((c6 C (aq l X.env)).any (·.1)=false) ų):PE X (.Call (.Name x p) (e::l) [] C) (tF X.K Z (kR F g)):=by
 obtain⟨f,fd,ps,i,z,A,I⟩:=h.ex;refine(pA i w B z A I .nil nq J d E c).imp ?_;rintro σ H Q ⟨G,o,O,u,j,b,q⟩;unfold kR at b;obtain⟨n,N,b⟩:=aa.1 b;exact⟨G,o,n,u,j,N,λr T R m v=>by show Bt X.K F (r++[]) R Q E0;rw[bx];exact⟨T,n,O,m.gh,v,b,λa s S P U i L K t=>q a s S P (m.trans U) (m.hh.free i) L K t⟩⟩
noncomputable def An:D->Bool
 |.dJ=>Z'|.bl _=>Z'|.int _=>Z'|.str _=>Z'|_=>Z_
end
def R6{F:List D->Option D}{m:Nat}(e:∀b:List Int,b.length<=m->F [.jS b]=Y (.bl Z'))(K:aT)(H:Hp)(a:az)(b:List Int)(c:b.length<=m)(f:M8 H)(d:lR K H a (b.map V.int)):
  gO K F [.ref a] H (λv _=>v=.bl Z') λ_ _ _=>False:=
 ⟨H,[.jS b],.bl Z',bG.refl _,.cons (G8.mpr ⟨a,rfl,d⟩) .nil,e b c,λv h g E r=>cn.mp r⟩
noncomputable def YS(K:aT)(a:az):It:=
 ⟨λi H=>∃b x,lR K H a b/\b[i]?=Y x,λi H v c=>∃x p,(∀b,lR K H a b->b[i]?=Y x)/\H p=M/\v=.ref p/\c=de H p (.tup [.int i,x]),λi H=>∃b,lR K H a b/\b.length<=i⟩
def IU{P:be}{K:aT}{x1}(a e t:az)(T:e≠t):zX P w K (.Tuple Wz x1 N) (YS K a) [e,t] e (λi h=>(∃l,IsEnum h e t (i:Int) l)/\h.IsListIter t a i) where
 mem:=by simp
 obj:=λi h D b g=>by
  obtain⟨⟨l,f⟩,j⟩:=D;rcases au.mp g with rfl|g
  ·exact⟨_,f,λv z=>by cases z⟩
  ·have e:b=t:=by simpa using g
   subst e;obtain⟨o,e,c,d⟩:=j;exact⟨o,e,λv z=>by rw[d]at z;cases z⟩
 keep:=λi h h' D k=>by obtain⟨⟨l,f⟩,j⟩:=D;exact⟨⟨l,k e Ž _ f⟩,j.at λo q=>k t Ž o q⟩
 item:=by
  intro X hP hw hK hc i J s σ H E I R D hg;subst hP hw hK;obtain⟨⟨l,f⟩,j⟩:=D;obtain⟨xs,x,hq,B⟩:=hg;obtain⟨B1,rv,p,hz⟩:=I.list hq;obtain⟨u,hu,ru⟩:=rv.get B;have fe:=R e Ž;have U:=R t Ž;refine wpAny_pyNext_enum_item f j p.isList (x:=u) (by simpa using hu) T λh1 eo it1 t1 z1 k1 =>?_
  refine⟨_,rfl,?_⟩;refine wpAny_letOwnedTupleGo_enum (s:={ s with heap:=h1,toks:=s.toks+1 }) eo λG e2 s2 =>?_
  have S:e<s.heap.objs.size:=aR f;have W:H s.heap.objs.size=none:=I.f'.fresh (aw _);have L:i4 e h1 G:=s2;have m:∀b o,b≠e->b≠t->s.heap.get? b=Y o->G.get? b=Y o:=λb o h3 h4 q=>(L.2 b h3).trans (k1 b o h3 h4 q)
  have tup:G.get? s.heap.objs.size=Y { cls :=.type "tuple",data :=.seq #[.int i s.toks,u] }:=(L.2 _ (jt S)).trans t1;have C:∀b o,H b=Y o->b≠e/\b≠t:=λb o q=>⟨λz=>by(rw[z,fe.1]at q;cases q),λz=>by(rw[z,U.1]at q;cases q)⟩
  have new:hZ X.prog X.w (de H s.heap.objs.size (.tup [.int i,x])) G s.heap.objs.size (.tup [.int i,x]):=
   ⟨by show 2<=a9;rw[hT];decide,[.int i s.toks,u],.cons ⟨_,rfl⟩ (.cons ru .nil),_,tup,⟨rfl,rfl⟩,_,rfl⟩
  have O:oi X.prog X.w (de H s.heap.objs.size (.tup [.int i,x])) G:=λb o q=>by
   by_cases g:b=s.heap.objs.size
   ·subst g;rw[bh]at q;cases q;exact new
   ·rw[aS g]at q;refine(I.f' b o q).xK (λc v F r =>?_) (λc r=>by rw[aS (bu r W)];exact r) λc ys r=>by rw[aS (bu r W)];exact r
    rcases F with rfl|F
    ·exact m _ _ (C _ _ q).1 (C _ _ q).2 r
    ·exact m _ _ (C _ _ F).1 (C _ _ F).2 r
  have un:Un (Ce X.stack) [e,t] H (de H s.heap.objs.size (.tup [.int i,x])) s.heap G:=by
   have y:∀b,b∉[e,t]->b≠e/\b≠t:=λb g=>⟨λz=>g (by simp[z]),λz=>g (by simp[z])⟩
   have l:∀b o,s.heap.get? b=Y o->b≠s.heap.objs.size:=λb o q=>bE (aR q)
   refine⟨λb o q n _ B=>m b o (y b B).1 (y b B).2 q,λb o q n _ B=>⟨o.slots,m b o (y b B).1 (y b B).2 q⟩,λb o q n B=>by rw[aS (l b o q)];exact n,
    λb o q B=>⟨o,m b o (y b B).1 (y b B).2 q⟩,λb ys q=>by rw[aS (bu q W)];exact q,λb o u q=>by rw[aS (bu q W)];exact q,λb ps q=>⟨#[],by rw[aS (bu q W)];simpa using q⟩⟩
  have I2:Inv X J σ (de H s.heap.objs.size (.tup [.int i,x])) { s with heap:=G,toks:=s.toks+1 }:=I.El (s':={ s with heap:=G,toks:=s.toks+1 }) rfl un O I.bare λb g=>by
   rcases au.mp g with rfl|g
   ·exact⟨fe.2.2.2.1,fe.2.1,fe.2.2.2.2.1,fe.2.2.2.2.2⟩
   ·have z:b=t:=by simpa using g
    subst z;exact⟨U.2.2.2.1,U.2.1,U.2.2.2.2.1,U.2.2.2.2.2⟩
  have WI:G.IsListIter t a (i+1):=it1.at λo q=>(L.2 t (bU T)).trans q
  refine⟨.ref s.heap.objs.size,_,I2,rfl,⟨x,s.heap.objs.size,λys hy=>by rw[I.oM hy hq];exact B,W,rfl,rfl⟩,⟨⟨u,by exact_mod_cast e2⟩,WI⟩,λb g =>?_⟩;have:b≠s.heap.objs.size:=by
   rcases au.mp g with rfl|g
   ·exact bE S
   ·have z:b=t:=by simpa using g
    subst z;obtain⟨o,q,_⟩:=j;exact bE (aR q)
  rw[aS this];exact(R b g).1
 done:=by intro X hP hw hK hc i J s σ H E I R D hg;subst hP hw hK;obtain⟨⟨l,f⟩,j⟩:=D;obtain⟨xs,hq,B⟩:=hg;obtain⟨B1,rv,p,hz⟩:=I.list hq;obtain⟨f0,f1,f2,f3,f4,f5⟩:=R t Ž;have hl:=rv.length;exact wpAny_pyNext_enum_end (I.ok.hd hc) f j p.isList (by simp;omega) λh' eb=>⟨rfl,I.turned (t':=s.toks) (λb o g q=>eb b o g q) f0 f1 f3 f4 f5⟩
 self:=λA i s Q E D h=>by obtain⟨⟨l,f⟩,j⟩:=D;exact wpAny_pyIter_enum f h
section
variable {X:Cx}{f:DF}
def So(K:aT)(e:TE):TI:=λc H R=>e c H λx b=>∃a,x=.ref a/\(∃d,lR K b a d)/\R (YS K a) b
def Ot{A}{v:TE}(Q:Gl X "enumerate")(O:X.mg "enumerate" = M)(P:PE X e v)(W:autoParam (aq [e] X.env=[(Z_,eval e X.env)]) ų)(n:autoParam (aq [e] X.env=(Z_,eval e X.env)::aq [] X.env) ų)(L:autoParam (hJ "enumerate" = Y (.type "enumerate")) Ū):PI X (.Tuple k A g) (.Call (.Name "enumerate" p) [e] [] i) (So X.K v):=by
 intro j s y H R I h;refine Call_ (vT I Q O L (gM (fE (cM P fK n i j s y H (λl f=>match l with|[x]=>∃a,x=.ref a/\(∃r,lR X.K f a r)/\R (YS X.K a) f|_=>False) I h) ?_) W rfl));rintro U c ⟨l,f,d,C,m⟩;cases l with
 |nil=>exact m.elim|cons x t=>
  cases t with
  |cons _ _=>exact m.elim|nil=>
  obtain⟨a,rfl,⟨r,N⟩,q⟩:=m;obtain⟨u,rfl,B⟩:=cj.one C;cases B;obtain⟨K,rv,D,hz⟩:=d.list N;refine call_enumerate_list D.isList λS w G T J =>?_
  refine wpAny_pyIter_enum (s:={ c with heap:=S }) w ?_;have E:f (c.heap.objs.size+1)=none:=d.f'.fresh (EU _);have F:f c.heap.objs.size=none:=d.f'.fresh (aw _);refine⟨c.heap.objs.size+1,[c.heap.objs.size+1,c.heap.objs.size],_,_,f,rfl,d.kept (t':=c.toks) J,IU a (c.heap.objs.size+1) c.heap.objs.size (jt (t5 _)),⟨⟨_,w⟩,G⟩,λb o =>?_,q⟩;rcases au.mp o with rfl|o
  ·exact d.tw (EU _) E
  ·have z:b=c.heap.objs.size:=by simpa using o
   subst z;exact d.tw (aw _) F
noncomputable def VY(a:List D):List D:=a.zipIdx.map λp =>.tup [.int (p.2:Nat),p.1]
def iE(f:DF):DL:=λa=>(iL f a).map VY
noncomputable def YO(x:aG):It:=⟨λi _=>i<x.cps.size,λi H v a=>a=H/\∃c,x.cps[i]?=Y c/\v=.str ⟨#[c]⟩,λi _=>x.cps.size<=i⟩
def Kn{P:be}{K:aT}(x:aG)(t:Tok)(j:az):zX P w K G (YO x) [j] j (λi h=>h.IsStrIter j "str_ascii_iterator" x t i) where
 mem:=by simp
 obj:=λi h a b l=>by
  have e:b=j:=by simpa using l
  subst e;obtain⟨o,e,c,d⟩:=a;exact⟨o,e,λv z=>by rw[d]at z;cases z⟩
 keep:=λi h p a k=>by obtain⟨o,e,c,d⟩:=a;exact⟨o,k j Ž o e,c,d⟩
 item:=by
  intro X q hw r F i f s D H E I n a g;subst q hw r;obtain⟨C,B,L,A,y,u⟩:=n j Ž;have g:i<x.cps.size:=g;refine wpAny_pyNext_ascii_item a (c:=x.cps[i]) (by simp[g]) λp m J =>?_
  have N:Inv X f D H { s with heap:=p,toks:=s.toks+1 }:=I.turned (λb o l e=>(J.2 b l).trans e) C B A y u;obtain⟨o,e,c,d⟩:=id m;exact⟨_,rfl,AY (s:={ s with heap:=p,toks:=s.toks+1 }) e c d ſ ⟨.str ⟨#[x.cps[i]]⟩,H,N,⟨_,rfl⟩,⟨rfl,_,by simp[g],rfl⟩,m,λb l=>(n b l).1⟩⟩
 done:=by intro X q hw r F i f s D H E I n a g;subst q hw r;obtain⟨C,B,L,A,y,u⟩:=n j Ž;have g:x.cps.size<=i:=g;exact wpAny_pyNext_ascii_end (I.ok.hd F) a (by simp[g]) λp O=>⟨rfl,I.turned (t':=s.toks) (λb o l e=>O b o l e) C B A y u⟩
 self:=λ_ _ _ _ _ a h=>wpAny_pyIter_striter_ascii a h
def Vy(b:TE):TI:=λa H R=>b a H λv c=>∃x,v=.str x/\x.cps.all (· < 128)=Z'/\R (YO x) c
def Rw{f:TE}(m:PE X l f):PI X i l (Vy f):=by
 intro a s g H R I h;refine fE (m a s g H _ I h) ?_;rintro v c ⟨x,r,d,j,k⟩;obtain⟨z,e,p,q⟩:=k;subst e;obtain⟨t,rfl⟩:=j;refine wpAny_pyIter_ascii p ?_;refine⟨c.heap.objs.size,[c.heap.objs.size],_,_,r,rfl,d.kept (t':=c.toks) λb o e=>af _ e,Kn z t _,⟨_,ba _ rfl,rfl,rfl⟩,λb n =>?_,q⟩;have e:b=c.heap.objs.size:=by simpa using n
 subst e;exact d.tw (aw _) (d.f'.fresh (aw _))
noncomputable def vE(x:aG):List D:=x.cps.toList.map λc =>.str ⟨#[c]⟩
def iS(f:DF):DL:=λa=>(f a).bind λd=>match d with|.str x=>if x.cps.all (· < 128)=Z' then Y (vE x) else M|_=>M
def L5{K:aT}(x:aG):za K G (YO x) (vE x):=by
 have f:(vE x).length=x.cps.size:=by simp[vE]
 refine⟨λi H s a=>by rw[f]at a;exact a,λi H s a=>by rw[f]at a;exact a,λi H v m k d l g ⟨e,c,j,h⟩ b =>?_⟩;subst e h;refine⟨k,.refl g,?_⟩;unfold vE at b;rw[aV,Q1,j]at b;cases b;exact dn.mpr rfl
def MG{g:Expr}(h:PE X e (tP X.K Z f)):PI X g e (Ad X.K Z (iS f)):=(Rw h).imp <|by
 rintro q H R ⟨G,c,r,l,b,a,k⟩;unfold iS at a;obtain⟨d,m,a⟩:=aa.1 a;cases d<;>simp only[ae]at a<;>try (cases a;done)
 split at a
 ·cases a;rename_i x j;exact⟨G,c,_,l,b,m,λv o n p i=>⟨x,dn.mp i,j,k _ o n p (L5 x)⟩⟩
 ·cases a
end
def gH{K:aT}{Z:List Nat}(i:Nat)(e:autoParam (i∉Z) ű):∀v a H Q,T9 K Z (gN i) v a H Q->oR i v a H Q:=λv a H Q ⟨G,h,d,c,f,b,r,g,k⟩=>by
 cases g;exact k _ G H (.refl f) (b.set e r)
noncomputable def u0(b:Scope)(d N:List aG)(c:List (Option Nat))(a:Scope):Bool:=
 (a.names.all λy=>a.names.lookup y.1==Y y.2)&&(a.names.all λy=>y.2 != .free||(b.names.lookup y.1==Y .cell||b.names.lookup y.1==Y .free))&&(c.length==N.length) &&
 ((cm c.length).all λi=>match c[i]?,N[i]? with|some (Y j),Y x=>d[j]? == Y x&&a.names.lookup x==Y .free|_,_=>Z')
def iM{X:Cx}{outer:Scope}{oN N:List aG}{src:List (Option Nat)}(d:a.kind=.function)(h:u0 outer oN N src a=Z')(p:X.env.scope=outer)(o:X.N=oN):fQ X N src a:=by
 unfold u0 at h;simp only[aO,iZ,beq_iff_eq,dP]at h;obtain⟨⟨⟨n,m⟩,l⟩,k⟩:=h;refine⟨d,λy b=>n y b,λy b f =>?_,l,λi j x c g =>?_⟩
 ·rw[p];rcases m y b with z|z
  ·rw[f]at z;exact absurd z ſ
  ·exact z
 ·have e:i<src.length:=(ax.mp c).1;have:=k i (by simpa using e);rw[c,g]at this;simp only[aO,beq_iff_eq]at this;rw[o];exact this
section
variable {m:be}{s:ay}{R:Result->ay->Prop}
variable {P:Nat->ai->Prop}
end
section
variable {m:be}{s:ay}
variable {P:Nat->ai->Prop}
end
section
variable {X:Cx}{f:DF}
def SN(f:DF):DL:=λa=>(f a).bind λd=>match d with|.lst b=>Y b.reverse|_=>M
end
abbrev DM:=bY->Option (D×bY)
abbrev J5:=bY->Option (List D×bY)
inductive tM (K:aT) (B:Bs) (Z:List Nat) (f:DM) (c:St) (H:Hp) (Q:VK):Prop
 |mk G e d a:SR K B Z G H c e->f e=some (d,a)->(∀v b g,SR K B Z b g c a->bG G b->cK K b d v->Q v g)->tM K B Z f c H Q
inductive Qh (K:aT) (B:Bs) (Z:List Nat) (f:J5) (c:St) (H:Hp) (Q:List V->Hp->Prop):Prop
 |mk G d g a:SR K B Z G H c d->f d=some (g,a)->(∀e b h,SR K B Z b h c a->bG G b->bf K b g e->Q e h)->Qh K B Z f c H Q
noncomputable def sd(H:Hp)(a:az):Hp:=λb=>if b=a then M else H b
def kC:sd H a a=none:=by simp[sd]
def j7(h:b≠a):sd H a b=H b:=by simp[sd,h]
def uQ:bG (sd H a) H:=λb o e=>by
 by_cases h:b=a
 ·subst h;rw[kC]at e;cases e
 ·rw[j7 h]at e;exact e
section
variable {X:Cx}{m:Pos}
noncomputable def mP(f:DF):DM:=λρ=>(f ρ).map λd=>(d,ρ)
def ON{f:DF}(h:mP f b=Y (d,a)):f b=Y d/\a=b:=by
 unfold mP at h;obtain⟨c,e,h⟩:=ak.1 h;rw[e];cases h;exact⟨rfl,rfl⟩
def cX{f:DF}(h:PE X e (tP X.K Z f)):PE X e (tM X.K B Z (mP f)):=h.imp <|by
 rintro j H Q ⟨G,n,d,a,S,b,k⟩;obtain⟨c,rfl⟩:=ON b;exact⟨G,a,d,S.gh,S.jy,c,λv i g E r=>k v i g (S.ext E) E.gg r⟩
noncomputable def lG:J5:=λρ=>Y ([],ρ)
noncomputable def iw(f:DM)(g:J5):J5:=λρ=>(f ρ).bind λp=>(g p.2).bind λq=>Y (p.1::q.1,q.2)
def LF{f:DM}(h:iw f g d=Y (j,b)):∃x a c,f d=Y (x,a)/\g a=Y (c,b)/\j=x::c:=by
 unfold iw at h;obtain⟨⟨x,a⟩,i,h⟩:=aa.1 h;rw[i];rcases e:g a with _|⟨c,k⟩
 ·rw[e]at h;cases h
 rw[e]at h;cases h;exact⟨x,a,c,rfl,e,rfl⟩
def gJ:PA X [] (Qh X.K B Z lG):=fK.imp <|by
 rintro c H Q ⟨G,e,d,a,S,b,k⟩;cases b;exact k _ G H S (bG.refl _) .nil
def cP{f:DM}{g:J5}(h:PE X e (tM X.K B Z f))(t:PA X l (Qh X.K B Z g))(r:autoParam (aq (e::l) X.env=(Z_,eval e X.env)::aq l X.env) ų):PA X (e::l) (Qh X.K B Z (iw f g)):=
 (cM h t r).imp <|by rintro F H Q ⟨G,j,d,b,S,w,k⟩;obtain⟨x,a,n,u,c,rfl⟩:=LF w;exact⟨G,j,x,a,S,u,λv E J z o q=>⟨E,a,n,b,z,c,λI D C y i p=>k _ D C y (o.trans i) (.cons (cK.mono i x q) p)⟩⟩
noncomputable def qN(g:J5):DM:=λa=>(g a).bind λq=>if q.1.length<=1000 then Y (.tup q.1,q.2) else M
def yL{q}{g:J5}(h:PA X l (Qh X.K B Z g)):PE X (.Tuple l q m) (tM X.K B Z (qN g)):=(Fu h).imp <|by
 rintro v H Q ⟨G,i,d,b,S,a,k⟩;unfold qN at a;rw[aa]at a;obtain⟨⟨c,e⟩,f,a⟩:=a;have a:(if c.length<=1000 then Y (D.tup c,e) else M)=Y (d,b):=a;split at a
 ·cases a;rename_i t;refine⟨G,i,c,b,S,f,λj x w o r n=>⟨?_,λp u =>?_⟩⟩
  ·rw[<- n.length];exact a7 t yo
  ·have E:=gv.alloc (p:=p) (o :=.tup j) o.gh u;exact k _ _ _ (o.ext E) (r.trans E.gg) (mM ⟨p,j,rfl,bh,bf.mono E.gg c n⟩)
 ·cases a
noncomputable def m2(o:D->D->Option D)(a b:DM):DM:=λc=>(a c).bind λp=>(b p.2).bind λq=>(o p.1 q.1).map λd=>(d,q.2)
def OO{f:bY}(h:m2 o a b g=Y (d,f)):∃x e y,a g=Y (x,e)/\b e=Y (y,f)/\o x y=Y d:=by
 unfold m2 at h;obtain⟨⟨x,e⟩,k,h⟩:=aa.1 h;rw[k];rcases j:b e with _|⟨y,n⟩
 ·rw[j]at h;cases h
 rw[j]at h;simp only[ae]at h;rcases i:o x y with _|c
 ·rw[i]at h;cases h
 rw[i]at h;cases h;exact⟨x,e,y,rfl,j,i⟩
def UZ{K:aT}{s:DM}(h:tM K B Z (m2 o s A) c H Q):Qf (rD K o) (tM K B Z s) (tM K B Z A) c H Q:=by
 obtain⟨G,i,d,b,S,z,k⟩:=h;obtain⟨x,a,y,t,r,C⟩:=OO z;exact⟨G,i,x,a,S,t,λv L N E j q=>⟨L,a,y,b,E,r,λu J l f e p=>⟨J,x,y,d,f.gh,.inl (cK.mono e x q),.inl p,C,λw I F g n=>k w I F (f.ext g) ((j.trans e).trans g.gg) n⟩⟩⟩
variable {s:DM}
def QO(d:zm X (dB c) o)(f:PE X a (tM X.K B Z s))(e:PE X b (tM X.K B Z A)):PE X (.BinOp a c b m) (tM X.K B Z (m2 o s A)):=(Qp d f e).imp λg H Q h=>UZ h
def LD(j:Nat):DM:=λb=>(eX j b).bind λa=>(a[a.length-1]?).map λd=>(d,b.set j (Y (.lst a.dropLast)))
def SV{b a:Pos}(h:PE X (.Name y p) (jf j))(q:autoParam (j∈Z) ű)(f:autoParam (b_ (.Name y p) "pop" X.env (eval (.Name y p) X.env)=eval (.Name y p) X.env) ų)(e:autoParam ((b.endLine==a.line)=true) ų):
  PE X (.Call (.Attribute (.Name y p) "pop" b) [] [] a) (tM X.K B Z (LD j)):=
 (K3 gU PySem.F.slot_list_pop PySem.F.type_list_pop Lx h f e).imp <|by
  rintro x H Q ⟨G,z,d,o,S,g,k⟩;unfold LD at g;obtain⟨n,t,g⟩:=aa.1 g;rcases i:n[n.length-1]? with _|c
  ·simp[i]at g
  simp only[i,ae,bP]at g;cases g;exact Ru S q (du t) i λv w u r=>k v G w u (bG.refl _) r
inductive Qm (K:aT) (p:Nat) (F:List D->Option (D×List D)) (h:List V) (H:Hp) (Q:VK) (_x:XK):Prop
 |mk G f d b a n k:bG G H->f[p]?=some (.lst k)->h[p]?=some (.ref a)->H a=some (.lst n)->bf K G k n->G a=none->(∀(i:Nat) c,i≠p->f[i]?=some c->∃v,h[i]?=some v/\cK K G c v)->f.length=h.length->F f=some (d,b)->(∀v e g j,gv G (sd H a) g j->g a=none->j a=some (.lst e)->bf K g b e->cK K g d v->Q v j)->Qm K p F h H Q _x
def Ve(p:Nat):DO->Option (D×List D)
 |.rm d a=>(eX p a).map λb=>(d,b)
 |.nx a=>(eX p a).map λb=>(.dJ,b)
 |_=>M
def N9(n N p:Nat)(g:DG)(a:List D):Option (D×List D):=if a.length=n then (g (gQ N a)).bind (Ve p) else M
def SR.PD{K:aT}{f v:Hp}{a:az}(S:SR K B Z G H g i)(w:j∈Z)(t:i[j]?=Y (Y d))(p:g[j]?=Y (Y (.ref a)))(E:gv G (sd H a) f v)(L:f a=M)(C:v a=Y n)(r:j_ K f u n)(x:autoParam (zG d=true) ų):SR K B Z f v g (i.set j (Y u)):=by
 obtain⟨F,W⟩:=S.ow;obtain⟨Q,y,N⟩:=W.it j d w t;rw[p]at y;cases y;obtain⟨⟨o,P,O⟩,l⟩:=(qu.cell x).mp N;have:=S.chg (i:=j) (a:=a) (d':=u) (F0:=[a]) (S':=[a]) W w (λb c=>⟨by rw[l];exact c,d,t⟩) E.gg E.gh (λb o e=>by
   rcases E.fr b o e with z|z
   ·exact .inl z
   ·by_cases c:b=a
    ·exact .inr (.inr (by simp[c]))
    ·rw[j7 c]at z;exact .inr (.inl z))
  (λb o c e=>E.hh b o (by rw[j7 (by simpa using c)];exact e)) ((qu.cell r.zG).mpr ⟨⟨n,C,r⟩,rfl⟩) Ž (λb c=>by simp at c;subst c;exact⟨L,.inl Ž⟩)
  (λb h=>by have:=(S.pin j b h).2;rw[p]at this;cases this;rfl) (CD r.zG) (λk q J I _ e=>(S.Qt t x k q J I e).elim)
 rwa [jI p]at this
def SR.called{K:aT}{f:Hp}{e:bY}{a:az}{Y5:List D}{b:List V}(S:SR K B Z G H d e)(i:j∈Z)(k:e[j]?=Y (Y (.lst g)))(h:d[j]?=Y (Y (.ref a)))(E:gv G (sd H a) c f)(o:c a=M)(n:f a=Y (.lst b))(r:bf K c Y5 b):SR K B Z c f d (e.set j (Y (.lst Y5))):=
 S.PD i k h E o n ⟨b,rfl,r⟩
def ny(F:List D->Option (D×List D))(j:Nat)(g:DL):DM:=λa=>(eX j a).bind λb=>(g a).bind λds=>(F (.lst b::ds)).map λq=>(q.1,a.set j (Y (.lst q.2)))
def rN{F:List D->Option (D×List D)}{e:Pos}{g:DL}(h:hW X.prog X.w X.K X.mg X.base x k (Qm X.K 0 F))(hr:fN k X.A)(hg:Gl X x)(hy:PE X (.Name y e) (jf j))(ha:PA X l (EI X.K Z g))(w:autoParam (j∈Z) ű)(z:autoParam ((x==("__debug__" : aG))=false) ű)(O:autoParam (aq (.Name y e::l) X.env=(Z_,eval (.Name y e) X.env)::aq l X.env) ų)(u:autoParam ((c6 m (aq l X.env)).any (·.1)=false) ų):PE X (.Call (.Name x p) (.Name y e::l) [] m) (tM X.K B Z (ny F j g)):=by
 obtain⟨f,fd,ps,h1,hm,hk,hb⟩:=h.ex;refine(pA h1 hr hg hm hk hb .nil nq (cM hy ha O) z O u).imp ?_;rintro σ H Q ⟨G,n,d,U,S,b,q⟩;unfold ny at b;obtain⟨r,E,b⟩:=aa.1 b;obtain⟨L,I,b⟩:=aa.1 b;obtain⟨⟨d',o⟩,J,b⟩:=ak.1 b;cases b;have C:=du E;obtain⟨a,vs,K,e3,e4,e5,e6⟩:=S.ji w C;refine⟨_,K,G,n,L,S.gh,S.jy,I,λus G1 H1 s N =>?_⟩;have R:=S.ext s;obtain⟨a',t,P,f3,f4,f5,f6⟩:=R.ji w C;rw[K]at P;cases P;show Qm X.K 0 F ((.ref a::us)++[]) H1 Q E0;rw[bx];refine⟨G1,.lst r::L,d',o,a,t,r,s.gh,rfl,rfl,f3,f4,f5,λi c hi ec =>?_,by simp[N.length],J,λv ws' G2 H2 T g2 h2 r2 r3 =>?_⟩
 ·cases i with
  |zero=>exact absurd rfl hi|succ i=>exact N.get (i:=i) (by simpa using ec)
 ·exact q v G2 H2 (R.called w C K T g2 h2 r2) (s.gg.trans T.gg) r3
def pC(F:List D->Option D)(g:J5):DM:=λa=>(g a).bind λq=>(F q.1).map λd=>(d,q.2)
def yM{F:List D->Option D}(h:hW X.prog X.w X.K X.mg X.base x k (gO X.K F))(J:fN k X.A)(s:Gl X x)(P:PA X (e::l) (Qh X.K B Z g))(n:autoParam ((x==("__debug__" : aG))=false) ű)(N:autoParam (aq (e::l) X.env=(Z_,eval e X.env)::aq l X.env) ų)(j:autoParam ((c6 m (aq l X.env)).any (·.1)=false) ų):PE X (.Call (.Name x p) (e::l) [] m) (tM X.K B Z (pC F g)):=by
 obtain⟨f,fd,ps,R,K,L,O⟩:=h.ex;refine(pA R J s K L O .nil nq P n N j).imp ?_;rintro σ H Q ⟨G,t,d,b,S,a,q⟩;unfold pC at a;rcases o:g t with _|⟨i,y⟩
 ·rw[o]at a;cases a
 rw[o]at a;simp only[ae]at a;rcases r:F i with _|c
 ·rw[r]at a;cases a
 rw[r]at a;cases a;exact⟨G,t,i,b,S,o,λz G1 U u C I=>by show gO X.K F (z++[]) U Q E0;rw[bx];exact⟨G1,i,d,u.gh,I,r,λv G2 T w E=>q v G2 T (u.ext w) (C.trans w.gg) E⟩⟩
end
section
variable {X:Cx}{m:List Nat}{f:DM}
noncomputable def gG(i:Nat)(f:DM):DG:=λa=>(f a).map λq =>.nx (q.2.set i (Y q.1))
def mf{i:Nat}(w:X.N.Nodup)(p:X.N[i]?=Y x)(h:Loc X.env.scope x)(s:PE X e (tM X.K B Z f))(n:autoParam (i∉Z) ű)(j:autoParam (dS e (Y (.Name x a)) l.line X.env=fi false) ų)(q:autoParam (X.fn x=Z'\/X.env.scope.names.lookup x=Y .local) Ů):
  PS X (.Assign [.Name x a] e l) (k7 X.K B m Z Z (gG i f)):=(sQ w p h s j q).imp <|by
 rintro D F H ⟨G,g,o,S,b,k⟩;unfold gG at b;obtain⟨⟨d,c⟩,z,b⟩:=ak.1 b;cases b;exact⟨G,g,d,c,S,z,λv E C A _ r=>k _ E C (A.vF n r)⟩
noncomputable def eW(f:DM):DG:=λa=>(f a).map λq =>.rm q.1 q.2
def g8(h:PE X e (tM X.K B Z f)):PS X (.Return (Y e) l) (k7 X.K B m Z t (eW f)):=(vI h).imp <|by
 rintro D c H ⟨G,g,o,S,a,k⟩;unfold eW at a;obtain⟨⟨d,b⟩,i,a⟩:=ak.1 a;cases a;exact⟨G,g,d,b,S,i,λv p n j _ r=>k v c p n ⟨Z,j⟩ r⟩
def Fo(i:Nat):DG:=λa=>(eX i a).map λb =>.rm (.lst b) a
def Mz(h:PE X (.Name x p) (jf i))(g:autoParam (i∈Z) ű)(b:autoParam (∀a,(i,a)∉B.3) Ŭ)(s:autoParam (Lz i∉Z) ű)(e:autoParam (i<1000000) ű):PS X (.Return (Y (.Name x p)) l) (k7 X.K B m Z t (Fo i)):=(vI h).imp <|by
 rintro D r H ⟨G,F,o,S,d,k⟩;unfold Fo at d;obtain⟨O,C,d⟩:=ak.1 d;cases d;have n:=du C;obtain⟨a,I,N,u,L,K,J⟩:=S.ji g n;obtain⟨E,q⟩:=S.freeze (Ź:=Z.filter (· != i)) (λj f=>(gx.mp f).1) i (λj f=>by
  by_cases c:j=i
  ·exact .inr c
  ·exact .inl (gx.mpr ⟨f,by simpa using c⟩)) (λz=>by have:=(gx.mp z).2;simp at this) g b s e
 obtain⟨v,A,w⟩:=q.env i _ (λz=>by have:=(gx.mp z).2;simp at this) n;exact⟨v,A,k v r E H ⟨_,q⟩ w⟩
def GY(i:Nat)(f:DM):DG:=λa=>(eX i a).bind λ_=>(f a).bind λq=>(eX i q.2).bind λb=>if b.length<dA then Y (.nx (q.2.set i (Y (.lst (b++[q.1]))))) else M
def Ph(h:PE X (.Name x p) (jf i))(T:PE X e (tM X.K B Z f))(F:autoParam (i∈Z) ű)(q:autoParam (b_ (.Name x p) "append" X.env (eval (.Name x p) X.env)=eval (.Name x p) X.env) ų) (z:autoParam (((c6 b (aq (e::[]) X.env)).all (λx=> !x.1)&&(gV b (dF [] X.env)).all (λx=>x.1.isSome)
   && decide ((e::[]).length+([]:List kL).length+(if ([]:List kL).isEmpty then 0 else 1)<30))=true) ų) (n:autoParam ((g.endLine==b.line)=true) ų) (L:autoParam (aq (e::[]) X.env=(Z_,eval e X.env)::aq [] X.env) ų) (j:autoParam ((c6 b (aq [] X.env)).any (·.1)=false) ų) (E:autoParam (dS (.Call (.Attribute (.Name x p) "append" g) [e] [] b) M l.line X.env=fi false) ų) :
  PS X (.Expr (.Call (.Attribute (.Name x p) "append" g) [e] [] b) l) (k7 X.K B m Z Z (GY i f)):=
 (l9 (uq gU PySem.F.slot_list_append PySem.F.type_list_append kX h (cM T fK L) q z n L j) E).imp <|by
  rintro D σ H ⟨G,A,o,S,c,k⟩;unfold GY at c;obtain⟨ZZ,I,c⟩:=aa.1 c;rw[aa]at c;obtain⟨⟨d,w⟩,J,c⟩:=c;rcases s:eX i w with _|ds
  ·rw[s]at c;cases c
  rw[s]at c;simp only[ae]at c;split at c
  ·cases c;rename_i R;obtain⟨a,Q,K,e3,e4,e5,e6⟩:=S.ji F (du I);refine⟨_,K,.inl ⟨rfl,Q,.of e3⟩,G,A,d,w,S,J,λv G' H' P s' r =>?_⟩;have t:=du s;obtain⟨a',C,O,U,N,_⟩:=P.ji F t;rw[K]at O;cases O;refine⟨a,C,v,rfl,rfl,U,?_,k _ G' _ (P.mut F t K (N.append (.cons r .nil)))⟩;rw[<- N.length];exact bq R ft
  ·cases c
def Uh(f:DM):J5:=λa=>(f a).bind λq=>match q.1 with|.int j=>if -(2 ^ 62)<=j/\j<2 ^ 62 then Y (fG 0 j.toNat,q.2) else M|_=>M
def Gk(w:Gl X "range")(s:X.mg "range" = M)(h:PE X e (tM X.K B Z f))(r:autoParam (aq [e] X.env=(Z_,eval e X.env)::aq [] X.env) ų)(b:autoParam (aq [e] X.env=[(Z_,eval e X.env)]) ų):PI X o (.Call (.Name "range" p) [e] [] l) (WG X.K B Z (Uh f)):=
 (Aw w s (cM h fK r) b).imp <|by
  rintro D H R ⟨G,n,F,i,S,a,k⟩;unfold Uh at a;obtain⟨⟨d,g⟩,x,a⟩:=aa.1 a;cases d<;>simp only[ae]at a<;>try (cases a;done)
  split at a
  ·cases a;rename_i j c;exact⟨G,n,_,_,S,x,λv C A z E q=>⟨j,by rw[cC.mp q],c.1,c.2,k _ C A z (yv 0 j.toNat)⟩⟩
  ·cases a
end
def Aj{K:aT}{c:D}{T:List az}(s:bG G H)(L:bG E H)(I:p∈Z)(J:x[p]?=Y c)(F:w[p]?=Y (.ref a))(r:qu K G H c a T)(P:T.Nodup)(X:∀b∈T,G b=M/\E b=M)(C:∀r q,c ≠ .kf r q)(O:∀(i:Nat) c,i≠p->x[i]?=Y c->∃v,w[i]?=Y v/\cK K G c v)(R:x.length=w.length)(Q:∀i∈Z,i=p\/x.length<=i):SR K ⟨G,E,[(p,a)],fl⟩ Z G H (start N w) (gQ N.length x):=by
 have f:∀(i:Nat) v,w[i]?=Y v->(start N w)[i]?=Y (Y v):=λi v e=>by have g:i<w.length:=(ax.mp e).1;unfold start;rw[dW (by simpa using g),aV,e];rfl
 have n:∀i∈Z,(∃d,(gQ N.length x)[i]?=Y (Y d))->i=p:=λi g ⟨d,e⟩=>by
  have:=(ax.mp (ka e)).1;rcases Q i g with z|z
  ·exact z
  ·omega
 refine⟨s,bG.refl _,L,λb o e =>.inl e,λi d g e =>?_,⟨λ_=>T,λi d g e =>?_,λi d g e=>⟨P,X⟩,λi j d c g S ei ej B=>absurd ((n i g ⟨d,ei⟩).trans (n j S ⟨c,ej⟩).symm) B⟩,by simp[start,gQ,R],λi b h =>?_,λj k q U h2 e =>?_⟩
 ·obtain⟨v,ev,l⟩:=O i d (λz=>g (z ▸ I)) (ka e);exact⟨v,f i v ev,l⟩
 ·have z:=n i g ⟨d,e⟩;subst z;have A:=ka e;rw[J]at A;cases A;exact⟨a,f _ _ F,r⟩
 ·have z:(i,b)=(p,a):=by simpa using h
  cases z;exact⟨I,f _ _ F⟩
 ·have z:=n j U ⟨_,e⟩;subst z;have A:=ka e;rw[J]at A;cases A;exact absurd rfl (C k q)
def IY{K:aT}(s:bG G H)(j:p∈Z)(q:d[p]?=Y c)(h:e[p]?=Y (.ref a))(w:H a=Y o)(r:j_ K G c o)(x:G a=M)(g:∀(i:Nat) c,i≠p->d[i]?=Y c->∃v,e[i]?=Y v/\cK K G c v)(n:d.length=e.length)(k:∀i∈Z,i=p\/d.length<=i):SR K ⟨G,sd H a,[(p,a)],z⟩ Z G H (start N e) (gQ N.length d):=
 Aj s uQ j q h ((qu.cell r.zG).mpr ⟨⟨o,w,r⟩,rfl⟩) Ž (λb f=>by simp at f;subst f;exact⟨x,kC⟩) (CD r.zG) g n k
def IX{K:aT}{f:List D}(s:bG G H)(j:p∈Z)(o:b[p]?=Y (.lst f))(h:e[p]?=Y (.ref a))(q:H a=Y (.lst d))(r:bf K G f d)(w:G a=M)(g:∀(i:Nat) c,i≠p->b[i]?=Y c->∃v,e[i]?=Y v/\cK K G c v)(n:b.length=e.length)(k:∀i∈Z,i=p\/b.length<=i):SR K ⟨G,sd H a,[(p,a)],x⟩ Z G H (start N e) (gQ N.length b):=
 IY s j o h q (show j_ K G (.lst f) (.lst d) from⟨d,rfl,r⟩) w g n k
section
variable {P:be}{K:aT}
def kh.Hk{st:eJ}{f:az}(F:kh K x I st f fd)(S:bM N ps (aM st))(p:Nat){Z Ź:List Nat}{g:DG}(hp:p∈Z)(Su:∀i∈Z,i=p\/ps.length<=i) (hb:∀(L:ai) (A:jd) (j:List Env) (s:ay) (H:Hp) (E:XK),fN k (A.deeper (vj I (aM st) s.heap.objs.size f L))->∀(B:Bs) (a:az),B.3=[(p,a)] ->
   sx (yU jA P w K u y N I (aM st) f L A j s H E).OH (iU st) (k7 K B [] Z Ź g)):dg P w K u y jA (k+1) f fd ps (Qm K p (N9 ps.length N.length p g)):=by
 refine F.ok S (λvs H Q E h =>?_) (λL A j s H vs Q E hr h =>?_)
 ·obtain⟨G,ds,d,R,a,ws,X,gh,hd,hv,ha,r,ga,ro,hl,e,_⟩:=h;unfold N9 at e;split at e
  ·rw[<- hl];assumption
  ·cases e
 ·obtain⟨G,ds,d,R,a,ws,X,gh,hd,hv,ha,r,ga,ro,hl,e,q⟩:=h;unfold N9 at e;split at e
  ·rename_i hn;refine⟨_,hb L A j s H E hr ⟨G,sd H a,[(p,a)],λ_ _=>False⟩ a rfl,?_⟩;obtain⟨o,eg,e⟩:=aa.1 e;have qe:∀ {σ:St}{C:bY}{O T:Hp}{o':List Nat}{U:List D},SR K ⟨G,sd H a,[(p,a)],λ_ _=>False⟩ o' O T σ C->eX p C=Y U->∃z,T a=Y (.lst z)/\bf K O U z/\O a=none:=fun {σ C O T o' U} c J=>by obtain⟨Sr,hσ⟩:=c.pin p a Ž;obtain⟨b,T5,f2,f3,f4,f5,_⟩:=c.ji Sr (du J);rw[hσ]at f2;cases f2;exact⟨T5,f3,f4,f5⟩
   refine⟨G,_,o,IX gh hp hd hv ha r ga ro hl (by rw[hn];exact Su),eg,?_⟩;cases o with
   |rm d' C=>have e:zY (λX=>(d',X)) (eX p C)=Y (d,R):=e;obtain⟨U,J,e⟩:=ak.1 e;cases e;intro v σ O T ⟨o',c⟩ rv;obtain⟨z,f3,f4,f5⟩:=qe c J;exact q v z O T c.qh f5 f3 f4 rv
   |nx C=>have e:zY (λX=>(D.dJ,X)) (eX p C)=Y (d,R):=e;obtain⟨U,J,e⟩:=ak.1 e;cases e;intro σ O T c;obtain⟨z,f3,f4,f5⟩:=qe c J;exact q _ z O T c.qh f5 f3 f4 (ig.mpr rfl)
   |_=>cases e
  ·cases e
end
def WE(K:aT)(i0:Nat)(u:DM):TE:=λt H Q=>∃(B:Bs) (a:az),B.3=[(i0,a)]/\tM K B [i0] u t H Q
def W5{X:Cx}(h:∀(B:Bs) (a:az),B.3=[(i0,a)]->PE X e (tM X.K B [i0] u)):PE X e (WE X.K i0 u):=by rintro b s t H Q I ⟨B,a,c,q⟩;exact h B a c b s t H Q I q
theorem ri:∀ {l:List a}{i:Nat}{x:a},l[i]?=Y x->l.set i x=l
 |[],i,x,h=>by simp at h
 |y::l,0,x,h=>by simp at h;subst h;rfl
 |y::l,i+1,x,h=>by simp at h;simp[ri h]
section
variable {K:aT}
def C7{i:Nat}(e:(kM src n)[i]?=Y (Y d)):∃j,src[i]?=Y (Y j)/\n[j]?=Y (Y d):=by
 unfold kM at e;rw[aV]at e;obtain⟨o,a,e⟩:=ak.1 e;rw[a];cases o with
 |none=>cases e|some j=>
  have e:(n[j]?).getD M=Y d:=by simpa using e
  refine⟨j,rfl,?_⟩;rcases q:n[j]? with _|z
  ·rw[q]at e;cases e
  rw[q]at e;rw[show z=Y d from e]
def ll{i:Nat}{v:V}(b:src[i]?=Y (Y j))(a:t[j]?=Y (Y v)):(mF src t)[i]?=Y (Y v):=by
 unfold mF;rw[aV,b];simp[a]
end
section
variable {X:Cx}{f:DL}
inductive Wj {α:Type}(K:aT) (B:Bs) (Z:List Nat) (t:St) (e:α->bY) (F:Nat->α->Option (List D×α)) (G:Hp) (z:α) (r:List D) (i:Nat) (y:List V) (H:Hp):Prop
 |mk g l x o:y.length<=i->SR K B Z g H t (e x)->bG G g->bf K g l y->F i x=some (o,z)->l++o=r->Wj K B Z t e F G z r i y H
def uE(K:aT)(i i0:Nat)(b:autoParam (i∉[i0]) ű):∀(B:Bs) v t H Q,EH K B [i0] (gN i) v t H Q->oR i v t H Q:=λB v t H Q ⟨G,n,d,a,S,r,c,k⟩=>by
 cases c;exact k _ G H (S.vF b r)
end
section
variable {X:Cx}
noncomputable def d9(c f:aG)(g:DF):DF:=λa=>(g a).bind λd=>match d with|.ins h b e=>if h=c then (b.zip e).lookup f else M|_=>M
theorem HM{K:aT}{f:aG}:∀ {b:List aG}{g:List D}{a:List V}{d:D},bf K G g a->(b.zip g).lookup f=Y d->∃v,(b.zip a).lookup f=Y v/\cK K G d v
 |[],g,a,d,r,e=>by simp at e
 |k::b,[],a,d,r,e=>by simp at e
 | k::b,c::g,a,d,r,e=>by
  obtain⟨v,t,rfl,i,l⟩:=bJ.mp r;simp only[ck,dy]at e ⊢;cases h:(f==k) with
  |true=>rw[h]at e;cases e;exact⟨v,rfl,i⟩|false=>rw[h]at e;exact HM l e
noncomputable def T7:D->V
 |.bl b =>.bl b|.int i =>.int i|.str x =>.str x|_ =>.dJ
def GL{K:aT}{v:V}(h:An d=Z')(r:cK K G d v):v=T7 d/\qj v=true:=by
 cases d<;>first|(simp[An]at h;done)|(simp only[cK]at r;subst r;exact⟨rfl,rfl⟩)
theorem CY{K:aT}:∀ {b:List D}{a:List V},b.all An=Z'->bf K G b a->a=b.map T7/\a.all qj=Z'
 |[],a,h,r=>by rw[dD.mp r];exact⟨rfl,rfl⟩
 |d::b,a,h,r=>by rw[k6,aO]at h;obtain⟨v,t,rfl,c,e⟩:=bJ.mp r;obtain⟨k,g⟩:=GL h.1 c;obtain⟨i,f⟩:=CY h.2 e;exact⟨by rw[k,i];rfl,by rw[k6,g,f];rfl⟩
def Xe(b:Bool)(x:D)(a:List D):Option D:=if (An x&&a.all An)=Z' then Y (.bl (if b then !Ue (T7 x) (a.map T7) else Ue (T7 x) (a.map T7))) else M
def Ny(a:Bool):D->D->Option D
 |x,.lst b=>Xe a x b|x,.tup b=>Xe a x b|_,_=>M
def Ww{K:aT}(h:rD K (Ny c) x y H Q):Zc K c x y H Q:=by
 obtain⟨G,t,C,d,k,w,u,l,q⟩:=h;have qe:∀(m:List D) (b:List V),Xe c t m=Y d->bf K G m b->qj x=Z'/\b.all qj=Z'/\d=.bl (if c then !Ue x b else Ue x b):=λm b e r=>by
  unfold Xe at e;split at e
  ·rename_i i;rw[aO]at i;have v:cK K G t x:=by
    rcases w with z|⟨a,o,_,_,z⟩
    ·exact z
    ·cases t<;>first|exact z.elim|simp[An]at i
   obtain⟨B,g⟩:=GL i.1 v;obtain⟨A,f⟩:=CY i.2 r;cases e;exact⟨g,f,by rw[B,A]⟩
  ·cases e
 unfold Ny at l;split at l<;>try (cases l;done)
 ·obtain⟨p,b,rfl,s,n⟩:=u.lst k;obtain⟨g,f,rfl⟩:=qe _ _ l n;exact⟨p,b,rfl,.inl (.of s),g,f,q _ G H (.refl k) (cn.mpr rfl)⟩
 ·obtain⟨p,b,rfl,s,n⟩:=u.tup k;obtain⟨g,f,rfl⟩:=qe _ _ l n;exact⟨p,b,rfl,.inr (s),g,f,q _ G H (.refl k) (cn.mpr rfl)⟩
def Lk:zm X (d_ .In) (Ny Z_):=mz.imp Ji λx y H Q h=>Ww h
noncomputable def L9:D->Bool
 |.bl _=>Z'|_=>Z_
noncomputable def u4:D->Bool
 |.bl b=>b|_=>Z_
def iQ(b:Bool):List D->Option D
 |[.lst a]=>if a.all L9=Z' then Y (.bl (if b then a.all u4 else a.any u4)) else M
 |_=>M
def Tj{K:aT}{f:List ai}(h:a.all L9=Z')(r:bf K G a l)(m:cj l f){i:Nat}{u:ai}(e:f[i]?=Y u):∃b,u=.bool b/\(a[i]?).map u4=Y b:=by
 have q:i<f.length:=(ax.mp e).1;have d:i<a.length:=by rw[r.length,m.length];exact q
 have k:a[i]?=Y a[i]:=aX d;obtain⟨v,s,c⟩:=r.get k;obtain⟨w,p,g⟩:=m.get s;rw[e]at p;cases p;have o:L9 a[i]=true:=(iZ.mp h) _ (t7 d);cases n:a[i] with
 |bl b=>rw[n]at c k;have:=cn.mp c;subst this;exact⟨b,g,by rw[k];rfl⟩
 |_=>rw[n]at o;cases o
def J7{ys:List D}{tr:Nat->Bool}(h:∀i,i<ys.length->(ys[i]?).map u4=Y (tr i)):(cm ys.length).all tr=ys.all u4/\(cm ys.length).any tr=ys.any u4:=by
 have:(cm ys.length).map tr=ys.map u4:=by
  apply List.ext_getElem?;intro i;by_cases a:i<ys.length
  ·have:=h i a;rw[aV,aV,List.getElem?_range a,this];rfl
  ·rw[en (by simpa using a),en (by simpa using a)]
 constructor
 ·have e:=congrArg (λl=>l.all id) this;simpa [vg] using e
 ·have e:=congrArg (λl=>l.any id) this;simpa [Qb] using e
def Be(l:X.calm=Z')(h:Bool):lB X (.builtin (if h then "all" else "any")) (rC X.K (iQ h)):=by
 intro A s P H xs us Q I R ⟨G,ds,d,O,r,t,q⟩;unfold iQ at t;split at t
 ·rename_i m;split at t
  ·cases t;rename_i hb;obtain⟨v,rfl,T⟩:=r.one;obtain⟨a,vs,rfl,U,L⟩:=T.lst O;obtain⟨u,rfl,S⟩:=cj.one R;cases S;obtain⟨g,y,J,hz⟩:=I.list (.of U);obtain⟨o,j,hc,n0,hd⟩:=J.isList;have D:a≠s.heap.objs.size:=bE (aR j);have k:g.toArray.size=m.length:=by simp[L.length,y.length]
   let w:Nat->Bool:=λi=>((m[i]?).map u4).getD Z_
   have C:TruthOf X.prog X.w X.A.in1 (λi v=>g.toArray[i]?=Y v) w:=λi v s Q E hP N=>by
    obtain⟨b,rfl,K⟩:=Tj hb L y (i:=i) (u:=v) (by simpa using hP);have:w i=b:=by show ((m[i]?).map u4).getD Z_=b;rw[K];rfl
    rw[this]at N;exact gP N
   have f:=J7 (ys:=m) (tr:=w) λi hi=>by show _=Y (((m[i]?).map u4).getD Z_);rw[aX hi];rfl
   have qe:∀(b:Bool) (p:dC) (n:Nat),(∀c F,c∉[s.heap.objs.size]->(s.heap.push { cls :=.type "list_iterator",data :=.fields #[.ref a,.int 0 0] }).get? c=Y F->p.get? c=Y F)->b=(if h then m.all u4 else m.any u4) ->
     EP X A P Q (.bool b) { s with heap:=p,toks:=n }:=λb p n B K=>
    ⟨.bl b,H,I.kept (t':=n) λc F e=>B c F (λz=>by
     have z:c=s.heap.objs.size:=by simpa using z
     exact absurd (aR e) (by rw[z];exact jF _)) (af _ e),rfl,by
     rw[K];exact q _ G H (.refl O) (cn.mpr rfl)⟩
   have x:(s.heap.push { cls :=.type "list_iterator",data :=.fields #[.ref a,.int 0 0] }).IsListIter s.heap.objs.size a 0/\(s.heap.push { cls :=.type "list_iterator",data :=.fields #[.ref a,.int 0 0] }).IsList a g.toArray:=
    ⟨⟨_,ba _ rfl,rfl,rfl⟩,⟨o,af _ j,hc,n0,hd⟩⟩
   cases h with
   |true=>refine call_all_walk (kK J.isList ⟨s.heap.objs.size,_,_,_,_,_,w,rfl,Walks.list (A:=X.A.in1) (I.ok.hd l) _ a D g.toArray,x,C,λp n B =>?_⟩);rw[k,f.1];exact qe _ p n B rfl
   |false=>refine call_any_walk (kK J.isList ⟨s.heap.objs.size,_,_,_,_,_,w,rfl,Walks.list (A:=X.A.in1) (I.ok.hd l) _ a D g.toArray,x,C,λp n B =>?_⟩);rw[k,f.2];exact qe _ p n B rfl
  ·cases t
 ·cases t
variable {f:DF}
def Td(a:X.calm=Z')(d:Gl X "all")(c:X.mg "all" = M)(h:PE X e (tQ X.K Z f))(b:autoParam (aq (e::[]) X.env=(Z_,eval e X.env)::aq [] X.env) ų):PE X (.Call (.Name "all" p) [e] [] j) (tP X.K Z (a_ (iQ Z') (aC f aN))):=
 yT (Be a Z') d c PyProof.Rows.boot_all (yK h Cn b) ſ ſ b rfl
def MO(a:X.calm=Z')(d:Gl X "any")(c:X.mg "any" = M)(h:PE X e (tQ X.K Z f))(b:autoParam (aq (e::[]) X.env=(Z_,eval e X.env)::aq [] X.env) ų):PE X (.Call (.Name "any" p) [e] [] j) (tP X.K Z (a_ (iQ Z_) (aC f aN))):=
 yT (Be a Z_) d c PyProof.Rows.boot_any (yK h Cn b) ſ ſ b rfl
end
section
variable {X:Cx}{f:DF}
end
def Xb(K:aT)(a:az)(n:Nat):It:=
 ⟨λi H=>∃b x,lR K H a b/\b.length=n/\i<n/\b[n-1-i]?=Y x,λi H x c=>c=H/\∀b,lR K H a b->b[n-1-i]?=Y x,λi H=>n<=i⟩
def Ko{P:be}{K:aT}(a r:az)(n:Nat):zX P w K A (Xb K a n) [r] r (λi h=>i<=n/\h.IsRevIter r a ((n:Int)-1-(i:Int))) where
 mem:=by simp
 obj:=λi h j b t=>by
  have e:b=r:=by simpa using t
  subst e;obtain⟨_,o,e,c,d⟩:=j;exact⟨o,e,λv z=>by rw[d]at z;cases z⟩
 keep:=λi h F j k=>⟨j.1,j.2.at λo e=>k r Ž o e⟩
 item:=by
  intro X G hw J hc i l s S H E I D j y;subst G hw J;obtain⟨xs,x,U,hn,hi,T⟩:=y;obtain⟨B1,rv,p,hz⟩:=I.list U;obtain⟨u,hu,ru⟩:=rv.get T;obtain⟨Q,O,f2,N,g,L⟩:=D r Ž;have R:(n:Int)-1-(i:Int)=((n-1-i:Nat):Int):=by omega
  have f:=j.2;rw[R]at f;refine wpAny_pyNext_rev_item f p.isList (x:=u) (by simpa using hu) λF q sb =>?_
  have I1:Inv X l S H { s with heap:=F }:=I.turned (t':=s.toks) (λb o t e=>(sb.2 b t).trans e) Q O N g L;have e2:((n-1-i:Nat):Int)-1=(n:Int)-1-((i+1:Nat):Int):=by omega
  rw[e2]at q;obtain⟨o,e,c,d⟩:=id q;exact⟨u,rfl,AY (s:={ s with heap:=F }) e c d ſ ⟨x,H,I1,ru,⟨rfl,λys hy=>by rw[I.oM hy U];exact T⟩,⟨hi,q⟩,λb t=>(D b t).1⟩⟩
 done:=by
  intro X G hw J hc i l s S H E I D j y;subst G hw J;have y:n<=i:=y;obtain⟨Q,O,f2,N,g,L⟩:=D r Ž;have R:(n:Int)-1-(i:Int) = -1:=by have:=j.1;omega
  have f:=j.2;rw[R]at f;exact wpAny_pyNext_rev_end (I.ok.hd hc) f λF eb=>⟨rfl,I.turned (t':=s.toks) (λb o t e=>eb b o t e) Q O N g L⟩
 self:=λ_ _ _ _ _ j h=>wpAny_pyIter_revIter j.2 h
section
variable {X:Cx}{m:List Nat}{f:DF}
def VA(K:aT)(e:TE):TI:=λd H R=>e d H λx c=>∃a b,x=.ref a/\lR K c a b/\R (Xb K a b.length) c
def Rx(P:Gl X "reversed")(N:X.mg "reversed" = M)(O:PE X e w)(L:autoParam (aq [e] X.env=[(Z_,eval e X.env)]) ų)(v:autoParam (aq [e] X.env=(Z_,eval e X.env)::aq [] X.env) ų)(K:autoParam (hJ "reversed" = Y (.type "reversed")) Ū):PI X A (.Call (.Name "reversed" p) [e] [] g) (VA X.K w):=by
 intro i s y H R I h;refine Call_ (vT I P N K (gM (fE (cM O fK v g i s y H (λn k=>match n with|[x]=>∃a d,x=.ref a/\lR X.K k a d/\R (Xb X.K a d.length) k|_=>False) I h) ?_) L rfl));rintro S c ⟨n,k,l,F,r⟩;cases n with
 |nil=>exact r.elim|cons x t=>
  cases t with
  |cons _ _=>exact r.elim|nil=>
  obtain⟨a,d,rfl,m,q⟩:=r;obtain⟨u,rfl,E⟩:=cj.one F;cases E;obtain⟨j,D,G,T⟩:=l.list m;refine call_reversed_list G.isList ?_;have J:k c.heap.objs.size=none:=l.f'.fresh (aw _);have f:(c.heap.push (revObj a ((j.toArray.size:Int)-1))).IsRevIter c.heap.objs.size a ((d.length:Int)-1-((0:Nat):Int)):=by refine⟨_,ba _ rfl,rfl,?_⟩;simp[revObj,D.length]
  refine wpAny_pyIter_revIter (s:={ c with heap:=c.heap.push (revObj a ((j.toArray.size:Int)-1)) }) f ?_;refine⟨c.heap.objs.size,[c.heap.objs.size],_,_,k,rfl,l.kept (t':=c.toks) λb o e=>af _ e,Ko a c.heap.objs.size d.length,⟨fD _,f⟩,λb Q =>?_,q⟩;have z:b=c.heap.objs.size:=by simpa using Q
  subst z;exact l.tw (aw _) J
def L6{K:aT}(l:G a=Y (.lst b))(r:bf K G h b):za K G (Xb K a b.length) h.reverse:=by
 have e:=r.length;refine⟨λi H s c =>?_,λi H s c =>?_,λi H x u t d k j ⟨q,y⟩ f =>?_⟩
 ·rw[zh,e]at c;have o:b.length-1-i<b.length:=by omega
  exact⟨b,b[b.length-1-i],.of (s _ _ l),rfl,c,by simp[o]⟩
 ·show b.length<=i;rw[zh,e]at c;exact c
 ·subst q;have c:i<h.length:=by have:=(ax.mp f).1;rwa [zh]at this
  rw[List.getElem?_reverse c,e]at f;obtain⟨v,p,n⟩:=r.get f;have:=y b (.of (j _ _ (k _ _ l)));rw[p]at this;cases this;exact⟨t,.refl j,cK.mono k d n⟩
def SY(u:Gl X "reversed")(t:X.mg "reversed" = M)(h:PE X e (tP X.K m f))(s:autoParam (aq [e] X.env=[(Z_,eval e X.env)]) ų)(d:autoParam (aq [e] X.env=(Z_,eval e X.env)::aq [] X.env) ų):
  PI X A (.Call (.Name "reversed" p) [e] [] g) (Ad X.K m (SN f)):=(Rx u t h s d).imp <|by
 rintro D H R ⟨G,n,E,w,i,b,k⟩;unfold SN at b;obtain⟨c,x,b⟩:=aa.1 b;refine⟨G,n,c,w,i,x,λv z y l r =>?_⟩;cases c<;>simp only[ae]at b<;>try (cases b;done)
 cases b;obtain⟨a,o,rfl,j,q⟩:=cU.mp r;exact⟨a,o,rfl,.of (l.gh _ _ j),k _ z y l (L6 j q)⟩
end
def PJ{X:Cx}{g:List aG}{s:ay}(k:b.kind=.function)(h:u0 a g N d b=Z'):fQ (X.sv g a C s H t) N d b:=by
 unfold u0 at h;simp only[aO,iZ,beq_iff_eq,dP]at h;obtain⟨⟨⟨r,q⟩,p⟩,o⟩:=h;refine⟨k,λy e=>r y e,λy e m =>?_,p,λi j x f n =>?_⟩
 ·show (QZ a X.env).names.lookup y.1=Y .cell\/(QZ a X.env).names.lookup y.1=Y .free;unfold QZ;rw[mR];rcases q y e with z|z
  ·rw[m]at z;exact absurd z ſ
  ·rcases z with z|z
   ·rw[z];exact .inl Ž
   ·rw[z];simp only[bP];split
    ·exact .inl rfl
    ·exact .inr rfl
 ·have l:i<d.length:=(ax.mp f).1;have:=o i (by simpa using l);rw[f,n]at this;simp only[aO,beq_iff_eq]at this;exact this
section
variable {X:Cx}{f:DF}
theorem Aa:∀ {b:List aG}{a:List ai},cj (b.map V.str) a->∃l:List (aG×Tok),a=strValues l/\l.map (·.1)=b
 |[],a,r=>by cases r;exact⟨[],rfl,rfl⟩
 | x::b,a,r=>by
  cases r with
  |cons r t=>obtain⟨k,rfl⟩:=r;obtain⟨l,rfl,e⟩:=Aa t;exact⟨(x,k)::l,rfl,by simp[e]⟩
def tf(b:aG)(d:List aG):Nat:=d.foldl (λa x=>a+x.length+b.length) 0
def Wq(K:aT):V->List V->Hp->VK->Prop:=λx d H Q=>∃a p b,x=.str a/\d=[.ref p]/\lR K H p (b.map V.str)/\tf a b<=dA/\(i5 a b).length<=dA/\Q (.str (i5 a b)) H
def OK:W_ X "str.join" (Wq X.K):=by
 intro i s D H x E v F Q I k m ⟨a,p,j,B,C,z,J,A,q⟩;subst B C;obtain⟨t,rfl⟩:=k;obtain⟨u,rfl,n⟩:=cj.one m;cases n;obtain⟨y,r,w,G⟩:=I.list z;obtain⟨l,rfl,f⟩:=Aa r;have d:Builtin.Str.tooLong ((l.map (·.1)).toArray.foldl (· + ·.length+a.length) 0)=false:=by
  have:((l.map (·.1)).toArray.foldl (· + ·.length+a.length) 0)=tf a j:=by rw[f];simp[tf]
  rw[this];unfold Builtin.Str.tooLong;have:=ft;simp;omega
 refine tX PySem.F.slot_str_join (TK _ _ _) PySem.F.entry_str_join (PySem.F.args_str_join_2 _ _) (meets_str_join_list a t p l d) ⟨w.isList,?_⟩;have g:=a7 A ft;unfold joinMade;split
 ·rename_i h;rw[<- f]at q;exact⟨.str h.1,H,I,⟨h.2,rfl⟩,q⟩
 ·refine⟨by rw[f];exact g,.str (i5 a j),H,I.kept (t':=s.toks+1) λb o e=>e,⟨s.toks,by rw[f]⟩,q⟩
def B3:D->Bool
 |.str _=>Z'|_=>Z_
def vt:D->aG
 |.str x=>x|_=>Str.empty
def AA:D->D->Option D
 |.str a,.lst b=>if (b.all B3&&decide (tf a (b.map vt)<=dA)&&decide ((i5 a (b.map vt)).length<=dA))=Z' then Y (.str (i5 a (b.map vt))) else M
 |_,_=>M
theorem Aq{K:aT}:∀ {b:List D}{a:List V},b.all B3=Z'->bf K G b a->a=(b.map vt).map V.str
 |[],a,h,r=>dD.mp r|d::b,a,h,r=>by rw[k6,aO]at h;obtain⟨v,t,rfl,e,f⟩:=bJ.mp r;rw[Aq h.2 f];cases d<;>first|(simp[B3]at h;done)|(rw[dn.mp e];rfl)
def Po(E:PE X o (tQ X.K Z f))(F:PE X e (tQ X.K Z g))(l:autoParam (b_ o "join" X.env (eval o X.env)=eval o X.env) ų) (n:autoParam (((c6 b (aq (e::[]) X.env)).all (λx=> !x.1)&&(gV b (dF [] X.env)).all (λx=>x.1.isSome)
   && decide ((e::[]).length+([]:List kL).length+(if ([]:List kL).isEmpty then 0 else 1)<30))=true) ų) (j:autoParam ((i.endLine==b.line)=true) ų) (w:autoParam (aq (e::[]) X.env=(Z_,eval e X.env)::aq [] X.env) ų) (h:autoParam ((c6 b (aq [] X.env)).any (·.1)=false) ų) :
  PE X (.Call (.Attribute o "join" i) [e] [] b) (tP X.K Z (e2 AA f g)):=
 (uq PySem.F.plainAttrs_str PySem.F.slot_str_join PySem.F.type_str_join OK E (cM F fK w) l n j w h).imp <|by
  rintro P H Q ⟨G,t,d,I,p,L,k⟩;obtain⟨x,y,K,J,m⟩:=xn L;refine⟨G,t,x,I,p,K,λv O T s C =>?_⟩;unfold AA at m;split at m
  ·split at m
   ·cases m;rename_i r S q;simp only[aO,decide_eq_true_eq]at q;have:=C.str;subst this;refine⟨rfl,O,t,_,s.gh,p.ext s,J,λu N c z B =>?_⟩;obtain⟨a,R,rfl,D,A⟩:=B.lst z.gh;have e:=Aq q.1.1 A;subst e;exact⟨r,a,_,rfl,rfl,.of D,q.1.2,q.2,k _ N c (s.trans z) (dn.mpr rfl)⟩
   ·cases m
  ·cases m
end
noncomputable def D2(i j l:Nat):zW:=λd e=>match d with|.tup [a,b,c]=>Y (((e.set i (Y a)).set j (Y b)).set l (Y c))|_=>M
def Ml{f:bY}(h:D2 i j l d f=Y e):∃a b c,d=.tup [a,b,c]/\e=((f.set i (Y a)).set j (Y b)).set l (Y c):=by
 unfold D2 at h;split at h
 ·cases h;exact⟨_,_,_,rfl,rfl⟩
 ·cases h
def Ja{K:aT}{v:V}(r:cK K G (.tup [a,b,c]) v):∃p x y z,v=.ref p/\Iv K G p [x,y,z]/\cK K G a x/\cK K G b y/\cK K G c z:=by
 obtain⟨p,j,e,g,i⟩:=eE.mp r;obtain⟨x,n,rfl,h,t⟩:=bJ.mp i;obtain⟨y,l,rfl,f,t⟩:=bJ.mp t;obtain⟨z,k,rfl,d,t⟩:=bJ.mp t;rw[dD.mp t]at g;exact⟨p,x,y,z,e,g,h,f,d⟩
section
variable {X:Cx}{m:List Nat}
def uV{i:Nat}(h:PG X e (SD X.K 3 (A0 (oR i) (A0 (oR j) (A0 (oR l) SE)))))(u:autoParam (i∉Z) ű)(t:autoParam (j∉Z) ű)(s:autoParam (l∉Z) ű):PG X e (EH X.K B Z (D2 i j l)):=h.imp <|by
 rintro v A H Q ⟨G,C,d,f,S,r,w,k⟩;obtain⟨a,b,c,rfl,rfl⟩:=Ml w;obtain⟨p,x,y,z,rfl,g,q,o,n⟩:=Ja r;exact⟨p,_,rfl,g.sq S.gh,rfl,x,_,rfl,y,_,rfl,z,_,rfl,rfl,k _ G H (((S.vF u q).vF t o).vF s n)⟩
def KC(b:zW)(f:DF):DG:=λa=>(f a).bind λd=>(b d a).map .nx
def SU{f:DF}(s:PE X e (tP X.K Z f))(q:PG X b (EH X.K B Z h))(p:autoParam (swapsWithSole [b] e g.line X.env=fi false) ų)(hw:autoParam (swappedStores [b] e X.env=fi none) ų)(t:autoParam ((tY [b] X.env).map (·.2)=[GD b X.env]) ų):PS X (.Assign [b] e g) (k7 X.K B m Z Z (KC h f)):=(KP s q p hw t).imp <|by
 rintro D z H ⟨G,c,o,S,a,k⟩;unfold KC at a;obtain⟨d,l,a⟩:=aa.1 a;have a:(h d c).map DO.nx=Y o:=a;obtain⟨i,j,a⟩:=ak.1 a;cases a;exact⟨G,c,d,S.gh,S.jy,l,λv y A E r=>⟨y,c,d,i,S.ext E,r,j,λn x w u=>k _ x w u⟩⟩
open Classical in
def Ug(a:List ai)(b:List D)(x:D)(u:ai):Bool:=decide (∃(i:Nat) (d:D),a[i]?=Y u/\b[i]?=Y d/\lH d x=Z')
def OW{P:be}{K:aT}{s:ay}{A:jd}(L:HK P w K H s)(hu:A.units+170<mZ){v:V}(ox:iK x 170=Z')(X:iJ c 170=Z')(T:cK K H x v)(U:RelV v u)(N:bf K H c k)(B:cj k a):
  (∀z∈a,SeqAt.EqAt A s z u (Ug a c x z))/\(a.any (Ug a c x)=c.any λy=>lH y x)/\∀(i:Nat) (z:ai) (d:D),a[i]?=Y z->c[i]?=Y d->Ug a c x z=lH d x:=by
 have f:∀(i:Nat) (z:ai),a[i]?=Y z->∃d w,c[i]?=Y d/\cK K H d w/\RelV w z/\iK d 170=true:=λi z e=>by
  have hi:i<k.length:=by rw[B.length];exact(ax.mp e).1
  have R:k[i]?=Y k[i]:=aX hi;obtain⟨z',l,t⟩:=B.get R;rw[e]at l;cases l;obtain⟨d,b,F⟩:=N.hG R;exact⟨d,_,b,F,t,uY X b⟩
 have g:∀(i:Nat) (z:ai) (d:D),a[i]?=Y z->c[i]?=Y d->Ug a c x z=lH d x:=λi z d e b=>by
  obtain⟨d',h,o,E,r,I⟩:=f i z e;rw[b]at o;cases o;unfold Ug;cases p:lH d x with
  |true=>simp only[decide_eq_true_eq];exact⟨i,d,e,b,p⟩|false=>simp only[decide_eq_false_iff_not];rintro⟨j,d2,e2,m,Q⟩;obtain⟨d3,S,n,C,q,G⟩:=f j z e2;rw[m]at n;cases n;have:h=S:=RelV.inj r q;subst this;have:=cK.inj L.wr d d2 170 170 I G E C;subst this;rw[p]at Q;cases Q
 refine⟨λz J =>?_,?_,g⟩
 ·obtain⟨i,e⟩:=g9.mp J;obtain⟨d,h,b,F,t,od⟩:=f i z e;rw[g i z d e b];exact(Gc (K:=K) L 170 (A:=A) ž d x 170 h v z u od ox F T t U).eq
 ·cases O:c.any λy=>lH y x with
  |true=>obtain⟨d,p,he⟩:=kJ.mp O;obtain⟨i,b⟩:=g9.mp p;obtain⟨h,ew,_⟩:=N.get b;obtain⟨z,l,_⟩:=B.get ew;rw[kJ];exact⟨z,wX l,by rw[g i z d l b];exact he⟩
  |false=>rw[mo];intro z J;obtain⟨i,e⟩:=g9.mp J;obtain⟨d,h,b,_⟩:=f i z e;rw[g i z d e b];exact(mo.mp O) d (wX b)
end
section
variable [DecidableEq G]
noncomputable def qD(kvs:List (G×V))(k:G):Option V:=(kvs.find? λa=>decide (a.1=k)).map (·.2)
noncomputable def oj(kvs:List (G×V))(k:G)(v:V):List (G×V):=
 if (kvs.any λa=>decide (a.1=k))=Z' then kvs.map (λa=>if a.1=k then (a.1,v) else a) else kvs++[(k,v)]
def t_{p:G×V}(e:p.1=k):qD (p::r) k=Y p.2:=by simp[qD,ia,e]
def qC{p:G×V}(e:¬p.1=k):qD (p::r) k=qD r k:=by simp[qD,ia,e]
theorem xE(k:G):∀kvs:List (G×V),(kvs.any λa=>decide (a.1=k))=(qD kvs k).isSome
 |[]=>rfl| p::r=>by
  rw[jG];by_cases e:p.1=k
  ·simp only[t_ e,decide_eq_true e,Bool.true_or,Option.isSome_some]
  ·rw[qC e,decide_eq_false e,Bool.false_or];exact xE k r
def qQ(kvs:List (G×V))(k:G)(v:V):(oj kvs k v).length<=kvs.length+1:=by
 unfold oj;split
 ·rw[bj];omega
 ·rw[aP,aK,jC];omega
def KI{kvs:List (G×V)}(v:V)(h:qD kvs k=M):oj kvs k v=kvs++[(k,v)]:=by
 unfold oj;rw[xE,h];exact if_neg ſ
def qt.vW(r:qt o u):o.isSome=u.isSome:=by
 cases o with
 | none=>cases u with
  |none=>rfl|some _=>exact(show False from r).elim
 | some _=>cases u with
  |none=>exact(show False from r).elim
  |some _=>rfl
def qt.getD{u:Option ai}(r:qt o u)(b:RelV d a):RelV (o.getD d) (u.getD a):=by
 cases o with
 | none=>cases u with
  |none=>exact b|some _=>exact(show False from r).elim
 | some _=>cases u with
  |none=>exact(show False from r).elim
  |some _=>exact r
def KV.val{f:List (G×ai)}(r:KV kvs f)(k:G):qt (qD kvs k) (J9 f k):=by
 unfold KV at r
 induction r with
 |nil=>exact m9|@cons p q l a h t ih=>
  obtain⟨g,i⟩:=h;by_cases e:p.1=k
  ·have d:q.1=k:=g.symm.trans e;have b:J9 (q::a) k=Y q.2:=by simp[J9,ia,d]
   rw[t_ e,b];exact i
  ·have d:¬q.1=k:=λz=>e (g.trans z)
   have b:J9 (q::a) k=J9 a k:=by simp[J9,ia,d]
   rw[qC e,b];exact ih
def KV.any(r:KV kvs b)(k:G):(kvs.any λa=>decide (a.1=k))=b.any λa=>decide (a.1=k):=by
 unfold KV at r
 induction r with|nil=>rfl|cons h t ih=>rw[jG,jG,ih,h.1]
theorem KV.Rm(r:KV kvs d)(k:G)(f:RelV y u):
  KV (kvs.map λa=>if a.1=k then (a.1,y) else a) (d.map λa=>if a.1=k then (a.1,u) else a):=by
 unfold KV at r ⊢
 induction r with
 |nil=>exact .nil|@cons p q l i h t ih=>
  rw[aW,aW];refine .cons ?_ ih;obtain⟨b,g⟩:=h;by_cases e:p.1=k
  ·rw[if_pos e,if_pos (b.symm.trans e)];exact⟨b,f⟩
  ·rw[if_neg e,if_neg (λz=>e (b.trans z))];exact⟨b,g⟩
def KV.put(r:KV kvs a)(k:G){u:ai}(b:RelV y u):KV (oj kvs k y) (stored a k u):=by
 unfold oj stored;rw[r.any k];by_cases e:(a.any λd=>decide (d.1=k))=Z'
 ·rw[if_pos e,if_pos e];exact r.Rm k b
 ·rw[if_neg e,if_neg e];exact Paired.snoc r ⟨rfl,b⟩
def KV.length{a:List (G×ai)}(r:KV kvs a):kvs.length=a.length:=Paired.length r
end
def AQ{P:be}{k:hI}(r:RelV (kV k) u):(eG P w).is k u=true:=by
 cases k with
 |inl i=>obtain⟨t,e⟩:=(show ∃t,u=sD i t from r);subst e;exact Dy P w i t
 |inr x=>obtain⟨t,e⟩:=(show ∃t,u=Value.str x t from r);subst e;exact Dx P w x t
theorem AV{P:be}:∀ {a:List hI}{b:List ai},cj (a.map kV) b->ItemsAre (eG P w) a b
 |[],_,r=>by rw[qg]at r;cases r;exact .nil
 | k::a,_,r=>by
  rw[aW]at r;cases r with
  |cons h t=>exact .cons (AQ h) (AV t)
abbrev KT(H:Hp):List (List hI×V)->List (List hI×az×ai)->Prop:=Paired λp q=>p.1=q.1/\H q.2.1=Y (.tup (p.1.map kV))/\RelV p.2 q.2.2
def KT.val{f:List (List hI×az×ai)}(r:KT H kvs f)(k:List hI):qt (qD kvs k) ((TN f k).map (·.2)):=by
 induction r with
 |nil=>exact m9|@cons p q l a h t ih=>
  obtain⟨g,_,i⟩:=h;by_cases e:p.1=k
  ·have d:q.1=k:=g.symm.trans e;have b:TN (q::a) k=Y q.2:=by simp[TN,ia,d]
   rw[t_ e,b];exact i
  ·have d:¬q.1=k:=λz=>e (g.trans z)
   have b:TN (q::a) k=TN a k:=by simp[TN,ia,d]
   rw[qC e,b];exact ih
theorem KT.Rm(r:KT H kvs d)(k:List hI)(g:RelV y u):
  KT H (kvs.map λb=>if b.1=k then (b.1,y) else b) (d.map (putAt k u)):=by
 induction r with
 |nil=>exact .nil|@cons p q o l h t ih=>
  rw[aW,aW];refine .cons ?_ ih;obtain⟨a,f,i⟩:=h;unfold putAt;by_cases e:p.1=k
  ·rw[if_pos e,if_pos (a.symm.trans e)];exact⟨a,f,g⟩
  ·rw[if_neg e,if_neg (λz=>e (a.trans z))];exact⟨a,f,i⟩
def KT.put(r:KT H kvs a)(k:List hI){u:ai}(g:H b=Y (.tup (k.map kV)))(d:RelV y u):
  KT H (oj kvs k y) (storedH a k b u):=by
 have e:(kvs.any λf=>decide (f.1=k))=(TN a k).isSome:=by rw[xE,(r.val k).vW,Option.isSome_map]
 unfold oj storedH;rw[e];by_cases q:(TN a k).isSome=Z'
 ·rw[if_pos q,if_pos q];exact r.Rm k d
 ·rw[if_neg q,if_neg q];exact Paired.snoc r ⟨rfl,g,d⟩
def KT.keeps(r:KT H kvs d)(f:∀b a,H b=Y (.tup a)->e b=Y (.tup a)):KT e kvs d:=
 Paired.Vo r λ_ _ z=>⟨z.1,f _ _ z.2.1,z.2.2⟩
section
variable {P:be}
def KE(b:oi P w H h)(e:Rd H a u):hZ P w H h a u:=e.ok b
def yP(d:oi P w H h)(e:Rd H a (.dK kvs n)):kvs.length<=a9/\(a==jc)=Z_/\∃b,KV kvs b/\h.DictAt (eG P w) a b n:=
 show hZ P w H h a (.dK kvs n) from KE d e
def yO(d:oi P w H h)(e:∃n,Rd H a (.dK kvs n)):kvs.length<=a9/\(a==jc)=Z_/\∃b,KV kvs b/\h.DictOf (eG P w) a b:=by
 obtain⟨n,e⟩:=e;obtain⟨z,y,b,k,f⟩:=yP d e;exact⟨z,y,b,k,f.dictOf⟩
def QP(d:oi P w H h)(e:H a=Y (.dK kvs n)):kvs.length<=a9/\(a==jc)=Z_/\∃b,KV kvs b/\h.DictOf (eG P w) a b:=yO d ⟨_,.inl e⟩
def yt(f:oi P w H h)(e:H a=Y (.tup (b.map kV))):(CP (eG P w)).is h b a:=by
 obtain⟨_,d,r,o,k,⟨i,_⟩,n,g⟩:=(show hZ P w H h a (.tup (b.map kV)) from f a _ e);exact⟨o,d.toArray,n,k,i,g,by simpa using AV r⟩
def A5(g:oi P w H h)(e:Rd H a (.dT kvs)):kvs.length<=a9/\(a==jc)=Z_ /\
  ∃d,KT H kvs d/\h.DictOfH (CP (eG P w)) a d:=by
 obtain⟨z,y,d,r,o,D,E,A,v,u,s,k⟩:=(show hZ P w H h a (.dT kvs) from KE g e);refine⟨z,y,d,r,o,D,E,A,v,u,s,λx b =>?_,k⟩;have f:∀ {l:List (List hI×V)}{m:List (List hI×az×ai)},KT H l m->∀x∈m,(CP (eG P w)).is h x.1 x.2.1:=by
  intro l m q
  induction q with
  |nil=>intro x b;exact nomatch b
  |@cons p q I F i t ih=>
   intro x b;rcases au.mp b with e|b
   ·subst e;exact yt g (by rw[<- i.1];exact i.2.1)
   ·exact ih x b
 exact f r x b
def V0(d:oi P w H h)(e:H a=Y (.dT kvs)):kvs.length<=a9/\(a==jc)=Z_ /\
  ∃b,KT H kvs b/\h.DictOfH (CP (eG P w)) a b:=A5 d (.inl e)
end
def wR(H:Hp)(a:az)(y:V)(r:Option V):Prop:=
 (∃kvs k,(∃n,Rd H a (.dK kvs n))/\y=kV k/\r=qD kvs k)\/∃kvs k b,Rd H a (.dT kvs)/\y=.ref b/\H b=Y (.tup (k.map kV))/\r=qD kvs k
def J4(H:Hp)(a:az)(y v:V)(d:Nat->Hp):Prop:=
 (∃kvs k n,H a=Y (.dK kvs n)/\y=kV k/\kvs.length<a9/\d=λn=>de H a (.dK (oj kvs k v) n)) \/
 ∃kvs k b,H a=Y (.dT kvs)/\y=.ref b/\H b=Y (.tup (k.map kV))/\kvs.length<a9/\d=λ_=>de H a (.dT (oj kvs k v))
def wR.k{a:az}{k:hI}(e:H a=Y (.dK kvs n)):wR H a (kV k) (qD kvs k) :=.inl ⟨kvs,k,⟨_,.inl e⟩,rfl,rfl⟩
def J4.k{a:az}{k:hI}{v:V}(e:H a=Y (.dK kvs n))(b:kvs.length<a9):J4 H a (kV k) v (λn=>de H a (.dK (oj kvs k v) n)) :=.inl ⟨kvs,k,n,e,rfl,b,rfl⟩
section
variable {X:Cx}{s:ay}{v:V}
def Inv.W6(I:Inv X C B H s):jc<s.heap.objs.size:=by
 have h:br<s.heap.objs.size:=(I.mod.glob.keeps I.bk).lt;exact Nat.lt_trans ſ h
def JQ(F:A.units+1<mZ)(I:Inv X C B H s)(g:wR H a y (Y v))(w:RelV y u)(h:∀i t,Inv X C B H t->RelV v i->Q i t):
  bz (bD X.prog X.w) A (ze (.ref a) u) Q E s:=by
 rcases g with⟨kvs,k,e,q,l⟩|⟨kvs,k,b,e,q,P,l⟩
 ·subst q;obtain⟨z,c,D,f,r⟩:=yO I.f' e;obtain⟨i,hw,d⟩:=qt.some_of (v:=v) (o:=J9 D k) (by rw[l];exact f.val k);exact wpAny_getItem_of (AQ w) r.mapOf hw (h i _ (I.tok _) d)
 ·subst q;cases (show u=cG b from w);obtain⟨z,c,x,f,r⟩:=A5 I.f' e;obtain⟨i,hw,d⟩:=qt.some_of (v:=v) (o:=(TN x k).map (·.2)) (by rw[l];exact f.val k);obtain⟨p,K,o⟩:=ak.mp hw;refine wpAny_getItem_heap (tW F) (yt I.f' P) r K ?_;rw[o];exact h i _ (I.tok _) d
def Pu(v:A.units+1<mZ)(I:Inv X C B H s)(g:wR H a y o)(t:RelV y u)(h:∀r,Inv X C B H r->Q (.bool (!o.isSome)) r):
  bz (bD X.prog X.w) A (d_ .NotIn u (.ref a)) Q E s:=by
 rcases g with⟨kvs,k,e,i,l⟩|⟨kvs,k,b,e,i,w,l⟩
 ·subst i;obtain⟨z,f,D,d,p⟩:=yO I.f' e;refine wpAny_notIn_of (AQ t) f p.mapOf ?_;rw[<- (d.val k).vW,<- l];exact h _ (I.tok _)
 ·subst i;cases (show u=cG b from t);obtain⟨z,f,x,d,p⟩:=A5 I.f' e;refine wpAny_notIn_heap (tW v) (yt I.f' w) f p ?_;have q:=(d.val k).vW;rw[Option.isSome_map]at q;rw[<- q,<- l];exact h _ (I.tok _)
def Cp{t':Nat}{e:HO}(I:Inv X C B H s)(g:Wf (H a))(h:i4 a s.heap d)(i:∃q,d.get? a=Y q)(f:hZ X.prog X.w (de H a e) d a e):
  Inv X C B (de H a e) { s with heap:=d,toks:=t' }:=
 I.write (x:=a) (e:=a) g (.inl rfl) (λb q k z=>(h.2 b k).trans z) i f
def Gi{P:be}(z:kvs.length<=a9)(f:(a==jc)=Z_)(d:KV kvs b)(g:e.DictAt (eG P w) a b n):
  hZ P w h e a (.dK kvs n):=⟨z,f,b,d,g⟩
def JP(hu:A.units+1<mZ)(I:Inv X C B H s)(g:J4 H a y v H')(j:RelV y u)(P:RelV v r)(h:∀n K,Inv X C B (H' n) K->Q () K):
  bz (bD X.prog X.w) A (setItem (.ref a) u r) Q E s:=by
 rcases g with⟨kvs,k,n,e,x,l,D⟩|⟨kvs,k,b,e,x,eb,l,D⟩
 ·subst x D;obtain⟨z,w,vs,d,F⟩:=QP I.f' e;have o:vs.length<=a9:=by rw[<- d.length];exact z
  have t:(oj kvs k v).length<=a9:=by have:=qQ kvs k v;omega
  refine wpAny_setItem_pairs (hsz:=o) (AQ j) F λR f p =>?_
  have he:∃q,R.get? a=Y q:=let ⟨q,_,_,i,_⟩:=f;⟨q,i⟩;obtain⟨n,f⟩:=f.dictAt;exact h n _ (Cp I (by rw[e];exact m9) p he (Gi t w (d.put k P) f))
 ·subst x D;cases (show u=cG b from j);obtain⟨z,w,xs,d,F⟩:=V0 I.f' e;have o:xs.length<=a9:=by rw[<- Paired.length d];exact z
  have t:(oj kvs k v).length<=a9:=by have:=qQ kvs k v;omega
  refine wpAny_setItem_heap (hsz:=o) (tW hu) (yt I.f' eb) F λR f p=>h 0 _ ?_
  obtain⟨q,es,ep,i,h2,h3,h4,_,h5⟩:=f;refine Cp I (by rw[e];exact m9) p ⟨q,i⟩ ⟨t,w,_,(d.put k eb P).keeps λc ys S =>?_,q,es,ep,i,h2,h3,h4,h5⟩;rw[aS (Du S e (λz=>nomatch z))];exact S
end
section
variable {X:Cx}{s:ay}
end
def Tq(i:Expr):Prop:=∀a b,NJ i Z_ a b=operate [a,b] (ze a b)
def NW{s:ay}(y:typeLookup (.type a) "__getitem__" = fi (Y (.builtin u)))(v:Tq d)(h:bz (bD b w) A (eval T l) (λo k=>bz (bD b w) A (eval d l) (λi e=>e.TypeIs o a/\bz (bD b w) A (ze o i) Q E e) E k) E s):
  bz (bD b w) A (eval (.Subscript T d N) l) Q E s:=by
 refine Subscript_ (ir h (λo k q=>ir q (λi e f =>?_) λ_ _ x=>x) λ_ _ x=>x);obtain⟨t,f⟩:=f;unfold subscriptTail;refine aE ?_;rw[getitemInPython_of_ne t.not_modules];refine aE (wpAny_specialOf t y ?_);have qe:bz (bD b w) A (NJ d Z_ o i) (λr g=>bz (bD b w) A (letTemporaryGo T o r >>= λ_=>fi r) Q E g) E e:=by rw[v o i];exact wpAny_operating (ir f (λr g p=>aE (wpAny_letTemporaryGo (bC p))) λ_ _ x=>x)
 first
  |exact bC (aE qe)
  |exact aE (bC (aE qe))
  |exact aE qe
def Ej{X:Cx}{s:ay}(I:Inv X C B H s)(g:wR H a y o):s.TypeIs (.ref a) "dict" :=by
 rcases g with⟨kvs,k,e,_,_⟩|⟨kvs,k,b,e,_,_,_⟩
 ·obtain⟨_,_,h,_,d⟩:=yO I.f' e;exact d.typeIs
 ·obtain⟨_,_,f,_,d⟩:=A5 I.f' e;exact d.typeIs
def UN(J L:TE):TE:=λB H Q=>J B H λx d=>L B d λy b=>∃a v,x=.ref a/\wR b a y (Y v)/\Q v b
def NV(L J:TE):TE:=λB H Q=>L B H λy d=>J B d λx b=>∃a o,x=.ref a/\wR b a y o/\Q (.bl (!o.isSome)) b
def UW(J L U:TE):TS:=λD B H=>U B H λv f=>J B f λx e=>L B e λy d=>∃a b,x=.ref a/\J4 d a y v b/\∀n,D.nx B (b n)
section
variable {X:Cx}{m:Pos}
def Ow(q:X.A.units+1<mZ)(t:PE X o J)(w:PE X i L)(r:Tq i):PE X (.Subscript o i N) (UN J L):=by
 intro C s B H Q I h;refine NW PySem.F.slot_dict_getitem.lookup r (fE (t C s B H _ I h) ?_);rintro u e ⟨x,F,D,k,p⟩;refine fE (w C e B F _ D p) ?_;rintro R P ⟨y,E,d,f,a,v,z,g,l⟩;subst z;obtain rfl:u=cG a:=k;exact⟨Ej d g,JQ q d g f λK c A b=>⟨v,E,A,b,l⟩⟩
def Jf(p:X.A.units+1<mZ)(r:PE X i L)(q:PE X o J):PC X .NotIn i o (NV L J):=by
 intro C s B H Q I h;refine fE (r C s B H _ I h) ?_;rintro K b ⟨y,D,z,d,k⟩;refine fE (q C b B D _ z k) ?_;rintro u F ⟨x,A,w,e,a,l,t,g,f⟩;subst t;obtain rfl:u=cG a:=e;exact Pu p w g d λE v=>⟨.bl (!l.isSome),A,v,rfl,f⟩
def Hc(w:X.A.units+1<mZ)(A:PE X o J)(E:PE X i L)(t:PE X T U)(z:dS T (Y (.Subscript o i j)) N.line X.env=fi Z_):
  PS X (.Assign [.Subscript o i j] T N) (UW J L U):=by
 intro C s B H D I h;refine wpAny_Assign_Subscript (fE (t C s B H _ I h) ?_) z;rintro r d ⟨v,H1,Q,k,q⟩;refine fE (A C d B H1 _ Q q) ?_;rintro u b ⟨x,S,P,f,p⟩;refine fE (E C b B S _ P p) ?_;rintro iv s3 ⟨y,H3,c,e,a,R,F,g,l⟩;subst F;obtain rfl:u=cG a:=f;exact JP w c g e k λn s4 K=>⟨B,R n,K,l n⟩
end
def GC{P:be}{w:dz}(h:dC):(h.push { cls :=.type "dict",data :=.dict #[] }).DictAt (eG P w) h.objs.size [] 0:=by
 obtain⟨o,es,ep,a,b,c,d⟩:=Heap.DictOf.new (knd:=eG P w) h;have e:=ba h (o:={ cls :=.type "dict",data :=.dict #[] }) rfl;rw[a]at e;cases e;cases c;exact⟨_,_,a,b,rfl,d⟩
def Ei{P:be}{w:dz}(h:dC)(a:jc<h.objs.size):hZ P w H (h.push { cls :=.type "dict",data :=.dict #[] }) h.objs.size (.dK [] 0):=
 ⟨fD _,beq_eq_false_iff_ne.mpr (bU (bE a)),[],.nil,GC h⟩
def Q':TE:=λ_ H Q=>∀p,H p=M->Q (.ref p) (de H p (.dK [] 0))
section
variable {X:Cx}
def Dk:PE X (.Dict [] [] N) Q':=λC s B H Q I h=>
 wpAny_Dict_empty ⟨.ref s.heap.objs.size,_,I.laid (a:=s.heap.objs.size) (o :=.dK [] 0) (t':=s.toks) (λ_ _ q=>af _ q) (aw _) (Ei s.heap I.W6),rfl,h _ (I.f'.fresh (aw _))⟩
end
def Ff:List (TE×TE)->St->Hp->(List (V×V)->Hp->Prop)->Prop
 |[],_,H,Q=>Q [] H|(a,U)::r,B,H,Q=>a B H λx f=>U B f λy e=>Ff r B e λb d=>Q ((x,y)::b) d
abbrev VV:List (V×V)->List (ai×ai)->Prop:=Paired λp q=>RelV p.1 q.1/\RelV p.2 q.2
def W8(X:Cx)(N:Pos)(b:List (Option Expr))(a:List Expr)(d:List (TE×TE)):Prop:=
 ∀(C:List (az×Obj)) (s:ay) (B:St) (H:Hp) (Q:List (V×V)->Hp->Prop),Inv X C B H s->Ff d B H Q ->
  bz (bD X.prog X.w) X.A (evalPairs (pairTrees b a X.env N)) (λg h=>∃e f,Inv X C B f h/\VV e g/\Q e f) X.xe s
def Oj{X:Cx}:W8 X N [] [] []:=λC s B H Q I h=>pairTrees_nil_walk ⟨[],H,I,.nil,h⟩
def KQ{X:Cx}{v:Expr}{f:List (Option Expr)}(A:PE X k e)(w:PE X v U)(z:W8 X N f d a):
  W8 X N (Y k::f) (v::d) ((e,U)::a):=λC s B H Q I h=>
 pairTrees_cons_walk (fE (A C s B H _ I h) λu i ⟨x,P,F,o,r⟩=>fE (w C i B P _ F r) λS g ⟨y,c,E,l,q⟩=>fE (z C g B c _ E q) (by rintro R s3 ⟨t,K,D,b,p⟩;exact⟨(x,y)::t,K,D,.cons ⟨o,l⟩ b,p⟩))
def vK(kvs a:List (hI×V)):List (hI×V):=a.foldl (λb d=>oj b d.1 d.2) kvs
def KV.merge:∀ {a:List (hI×V)}{d:List (hI×ai)}{kvs:List (hI×V)}{b:List (hI×ai)},KV a d->KV kvs b->KV (vK kvs a) (merged b d):=by
 intro a d kvs b r;unfold KV at r
 induction r generalizing kvs b with
 |nil=>intro q;exact q
 |@cons p q i g h t ih=>
  intro f;have e:KV (oj kvs p.1 p.2) (stored b q.1 q.2):=by have:=f.put p.1 h.2;rw[<- h.1];exact this
  exact ih e
theorem so:∀(a kvs:List (hI×V)),(vK kvs a).length<=kvs.length+a.length
 |[],kvs=>by show kvs.length<=kvs.length+0;omega
 |p::r,kvs=>by have d:=so r (oj kvs p.1 p.2);have b:=qQ kvs p.1 p.2;show (vK (oj kvs p.1 p.2) r).length<=_;rw[aK];omega
theorem yY{P:be}{w:dz}:∀ {kvs:List (hI×V)}{e:List (ai×ai)},VV (kvs.map λf=>(kV f.1,f.2)) e->∃d,Carries (eG P w) e d/\KV kvs d
 |[],_,r=>by rw[qg]at r;cases r;exact⟨[],m9,.nil⟩
 | p::kvs,_,r=>by
  rw[aW]at r;cases r with
  |@cons a b l i h t=>obtain⟨d,c,q⟩:=yY (P:=P) (w:=w) t;obtain⟨k,g⟩:=b;exact⟨(p.1,g)::d,⟨AQ h.1,rfl,c⟩,.cons ⟨rfl,h.2⟩ q⟩
def UM(a:List (TE×TE)):TE:=λB H Q=>∀p,H p=M->Ff a B (de H p (.dK [] 0)) λe d=>d p=Y (.dK [] 0)/\∃kvs:List (hI×V),e=kvs.map (λb=>(kV b.1,b.2))/\kvs.length<=15/\∀n,Q (.ref p) (de d p (.dK (vK [] kvs) n))
def Ov{X:Cx}{a:List (Option Expr)}(h:W8 X N a b d)(f:a.all (·.isSome)=Z')(A:a.length=b.length)(K:a≠[])(k:a.length<=15):PE X (.Dict a b N) (UM d):=by
 intro C s B H Q I q;have y:=I.f'.fresh (aw s.heap.objs.size);have S:=I.laid (a:=s.heap.objs.size) (o :=.dK [] 0) (h':=s.heap.push { cls :=.type "dict",data :=.dict #[] }) (t':=s.toks) (λ_ _ q=>af _ q) (aw _) (Ei s.heap I.W6);refine wpAny_Dict_walk (knd:=eG X.prog X.w) f A K k (fE (h C _ B _ _ S (q _ y)) ?_);rintro ws s2 ⟨ps,H2,l,i,e,kvs,P,lk,u⟩;subst P;obtain⟨p,c,r⟩:=yY (P:=X.prog) (w:=X.w) i;obtain⟨z,E,o,t,R⟩:=QP l.f' e;cases t;refine⟨p,c,R,λj g w =>?_⟩;have v:(vK [] kvs).length<=a9:=by have F:=so kvs [];rw[jC]at F;rw[hT];omega
 have D:∃q,j.get? s.heap.objs.size=Y q:=let ⟨q,_,_,x,_⟩:=g;⟨q,x⟩;obtain⟨n,g⟩:=g.dictAt;exact⟨.ref s.heap.objs.size,_,Cp l (by rw[e];exact m9) w D (Gi v E (r.merge .nil) g),rfl,u n⟩
structure M2(X:Cx)(o:Expr)(m:aG)(tT:Pos)(e f:Expr)(v7:Pos):Prop where
 base:b_ o m X.env (eval o X.env)=eval o X.env
 SJ:((c6 v7 (aq [e,f] X.env)).all (λx=> !x.1)&&(gV v7 (dF [] X.env)).all (λx=>x.1.isSome)
  && decide (([e,f]:List Expr).length+([]:List kL).length+(if ([]:List kL).isEmpty then 0 else 1)<30))=true
 line:(tT.endLine==v7.line)=true
 trees:c6 v7 (aq [e,f] X.env)=[(false,eval e X.env),(false,eval f X.env)]
def Z4(H:Hp)(a:az):Prop:=(∃kvs n,Rd H a (.dK kvs n))\/∃kvs,Rd H a (.dT kvs)
def Sh{X:Cx}{s:ay}(I:Inv X C B H s)(d:Z4 H a):
  s.TypeIs (.ref a) "dict" /\(∀b,cG a=.ref b->∃f,s.heap.get? b=Y f/\f.dict=M)/\(a==jc)=false:=by
 rcases d with⟨kvs,e⟩|⟨kvs,e⟩
 ·obtain⟨_,h,o,_,g⟩:=yO I.f' e;refine⟨g.typeIs,λb q =>?_,h⟩;cases q;obtain⟨f,_,_,k,i,_⟩:=g;exact⟨f,k,i.2.1⟩
 ·obtain⟨_,h,l,_,g⟩:=A5 I.f' e;refine⟨g.typeIs,λb q =>?_,h⟩;cases q;obtain⟨f,_,_,k,i,_⟩:=g;exact⟨f,k,i.2.1⟩
section
variable {X:Cx}{s:ay}
def Te(F:A.units+1<mZ)(I:Inv X C B H s)(g:wR H a y o)(w:RelV y u)(x:RelV d r)(h:∀t v,Inv X C B H v->RelV (o.getD d) t->Q t v):
  bz (bD X.prog X.w) A (call (.builtin "dict.get") [.ref a,u,r]) Q E s:=by
 rcases g with⟨kvs,k,e,q,l⟩|⟨kvs,k,b,e,q,K,l⟩
 ·subst q;obtain⟨z,p,c,f,i⟩:=yO I.f' e;refine call_meetsIn PySem.F.slot_dict_get i.typeIs PySem.F.entry_dict_get (PySem.F.args_dict_get_3 _ _ _) (meets_dict_get_default (eG X.prog X.w) a (AQ w) p r) ⟨_,i.mapOf,h _ _ (I.tok _) ?_⟩;rw[l];exact(f.val k).getD x
 ·subst q;cases (show u=cG b from w);obtain⟨z,p,D,f,i⟩:=A5 I.f' e;refine call_meetsIn PySem.F.slot_dict_get i.typeIs PySem.F.entry_dict_get (PySem.F.args_dict_get_3 _ _ _) (meetsH_dict_get_default (CP (eG X.prog X.w)) a b p r) ⟨tW F,k,D,yt I.f' K,i,h _ _ (I.tok _) ?_⟩;rw[l];exact(f.val k).getD x
end
def Ra(J L c:TE):TE:=λB H Q=>J B H λx d=>∃a,x=.ref a/\Z4 d a/\L B d λy e=>c B e λz b=>∃o,wR b a y o/\Q (o.getD z) b
section
variable {X:Cx}{f:Expr}
def K2(E:X.A.units+1<mZ)(F:PE X o J)(j:PE X e L)(K:PE X f c)(m:M2 X o "get" n e f O):PE X (.Call (.Attribute o "get" n) [e,f] [] O) (Ra J L c):=by
 intro C s B H Q I h;refine wpAny_Call_method m.base m.SJ m.line PySem.F.plainAttrs_dict PySem.F.slot_dict_get PySem.F.type_dict_get (fE (F C s B H _ I h) ?_);rintro u q ⟨x,H1,i,v,a,P,d,D⟩;subst P;obtain rfl:u=cG a:=v;obtain⟨l,k,_⟩:=Sh i d;refine⟨l,k,?_⟩;rw[m.trees];refine oA rfl (Calls.evalArgs_plain (GJ (fE (j C q B H1 _ i D) λiv p ⟨y,H2,I2,t,A⟩=>GJ (fE (K C p B H2 _ I2 A) λfv s3 ⟨z,H3,S,r,ov,g,w⟩=>Calls.spliced_nil ?_))))
 exact Te E S g t r λw' s4 R b=>⟨_,H3,R,b,w⟩
end
section
variable {X:Cx}{s:ay}
def MP(I:Inv X C B H s)(e:∃n,Rd H a (.dK kvs n))(h:∀p g n,H p=M->Inv X C B (de H p (.dK kvs n)) g->Q (.ref p) g):bz (bD X.prog X.w) A (call (.type "dict") [.ref a]) Q E s:=by
 obtain⟨z,l,r,d,o⟩:=yO I.f' e;refine kt_call_dict l o (by rw[<- d.length];exact z) λt f k =>?_
 obtain⟨n,f⟩:=f.dictAt;refine h _ _ n (I.f'.fresh (aw _)) (I.laid (a:=s.heap.objs.size) (o :=.dK kvs n) (t':=s.toks) (λb q i =>?_) (aw _) (Gi z (beq_eq_false_iff_ne.mpr (bU (bE I.W6))) d f));exact(k.2 b (bE (aR i))).trans (af _ i)
end
section
variable {X:Cx}{s:ay}
end
def Itm(a:az)(b:List (hI×V))(n:Nat):It:=
 ⟨λi H=>H a=Y (.dK b n)/\∃q,b[i]?=Y q,λi H v c=>∃q p,b[i]?=Y q/\H p=M/\v=.ref p/\c=de H p (.tup [kV q.1,q.2]),λi H=>H a=Y (.dK b n)/\b.length<=i⟩
def YR(a:az)(b:List (hI×V))(n:Nat):It:=
 ⟨λi H=>H a=Y (.dK b n)/\∃q,b[i]?=Y q,λi H v c=>c=H/\∃q,b[i]?=Y q/\v=kV q.1,λi H=>H a=Y (.dK b n)/\b.length<=i⟩
def QG{P:be}(r:(eG P w).is k u=Z'):RelV (kV k) u:=by
 rcases f7 r with⟨i,t,rfl,rfl⟩|⟨x,t,rfl,rfl⟩
 ·exact⟨t,rfl⟩
 ·exact⟨t,rfl⟩
theorem KV.get:∀ {c:List (hI×V)}{l:List (hI×ai)}{i:Nat}{q:hI×V},KV c l->c[i]?=Y q->∃v,l[i]?=Y (q.1,v)/\RelV q.2 v
 |_,_,_,_,.nil,e=>by simp at e
 |_,_,0,_,@Paired.cons _ _ _ p r _ _ h _,e=>by simp at e;subst e;obtain⟨k,v⟩:=r;exact⟨v,by simp[h.1],h.2⟩
 |_,_,i+1,q,.cons _ t,e=>by obtain⟨v,a,b⟩:=KV.get (i:=i) t (by simpa using e);exact⟨v,by simpa using a,b⟩
def yE:PySem.entryFor PySem.table "dict_itemiterator.__iter__" = Y Builtin.«dict_keyiterator.__iter__»:=
 PySem.entryFor_alias (id':= "dict_keyiterator.__iter__") (by kernel_rfl) rfl (by decide +kernel) (by kernel_rfl)
def Fd{P:be}{K:aT}{x1}(a g:az)(y:List (hI×V))(n:Nat):
  zX P w K (.Tuple Wz x1 Uy) (Itm a y n) [g] g (λi h=>∃c d,IsItemIter h g a i y.length n c d) where
 mem:=by simp
 obj:=λi h S c x=>by
  obtain⟨u,v,S⟩:=S;have z:c=g:=by simpa using x
  subst z;exact⟨_,S,λv z=>by cases z⟩
 keep:=λi h h' S k=>by obtain⟨u,v,S⟩:=S;exact⟨u,v,k g Ž _ S⟩
 item:=by
  intro X hP hw hK x i J s σ H E I hf S hg;subst hP hw hK;obtain⟨c1,c2,S⟩:=S;obtain⟨e,q,hq⟩:=hg;obtain⟨hz,hs,l,D,p⟩:=yP I.f' (.inl e);obtain⟨u,hu,ru⟩:=KV.get D hq;have hl:=D.length;rw[hl]at S ⊢;have N:=hf g Ž;refine wpAny_pyNext_items_item S p hu λB h1 hk eo t1 z1 k1 =>?_
  refine⟨_,rfl,?_⟩;refine wpAny_letOwnedTupleGo_items (s:={ s with heap:=h1 }) eo λW e2 w2 =>?_
  have C:g<s.heap.objs.size:=aR S;have t:H s.heap.objs.size=none:=I.f'.fresh (aw _);have L:i4 g h1 W:=w2;have f:∀b o,b≠g->s.heap.get? b=Y o->W.get? b=Y o:=λb o j q=>(L.2 b j).trans (k1 b o j q)
  have U:W.get? s.heap.objs.size=Y { cls :=.type "tuple",data :=.seq #[B,u] }:=(L.2 _ (jt C)).trans t1;have O:∀b o,H b=Y o->b≠g:=λb o q j=>by rw[j,N.1]at q;cases q
  have new:hZ X.prog X.w (de H s.heap.objs.size (.tup [kV q.1,q.2])) W s.heap.objs.size (.tup [kV q.1,q.2]):=
   ⟨by show 2<=a9;rw[hT];decide,[B,u],.cons (QG hk) (.cons ru .nil),_,U,⟨rfl,rfl⟩,_,rfl⟩
  have R:oi X.prog X.w (de H s.heap.objs.size (.tup [kV q.1,q.2])) W:=λb o q=>by
   by_cases j:b=s.heap.objs.size
   ·subst j;rw[bh]at q;cases q;exact new
   ·rw[aS j]at q;refine(I.f' b o q).xK (λc v G r =>?_) (λc r=>by rw[aS (bu r t)];exact r) λc ys r=>by rw[aS (bu r t)];exact r
    rcases G with rfl|G
    ·exact f _ _ (O _ _ q) r
    ·exact f _ _ (O _ _ G) r
  have Nm:∀b o,s.heap.get? b=Y o->b≠s.heap.objs.size:=λb o q=>bE (aR q)
  have un:Un (Ce X.stack) [g] H (de H s.heap.objs.size (.tup [kV q.1,q.2])) s.heap W:=
   ⟨λb o q n _ m=>f b o (by simpa using m) q,λb o q n _ m=>⟨o.slots,f b o (by simpa using m) q⟩,λb o q n m=>by rw[aS (Nm b o q)];exact n,
    λb o q m=>⟨o,f b o (by simpa using m) q⟩,λb ys q=>by rw[aS (bu q t)];exact q,λb o u q=>by rw[aS (bu q t)];exact q,λb ps q=>⟨#[],by rw[aS (bu q t)];simpa using q⟩⟩
  have I2:Inv X J σ (de H s.heap.objs.size (.tup [kV q.1,q.2])) { s with heap:=W }:=I.El (s':={ s with heap:=W }) rfl un R I.bare λb j=>by
   have z:b=g:=by simpa using j
   subst z;exact⟨N.2.2.2.1,N.2.1,N.2.2.2.2.1,N.2.2.2.2.2⟩
  refine⟨.ref s.heap.objs.size,_,I2,rfl,⟨q,s.heap.objs.size,hq,t,rfl,rfl⟩,⟨_,_,e2⟩,λc x =>?_⟩;have z:c=g:=by simpa using x
  subst z;rw[aS (bE C)];exact N.1
 done:=by intro X hP hw hK x i J s σ H E I hf S hg;subst hP hw hK;obtain⟨c1,c2,S⟩:=S;obtain⟨e,hq⟩:=hg;obtain⟨hz,hs,l,D,p⟩:=yP I.f' (.inl e);have hl:=D.length;rw[hl]at S;obtain⟨f0,T,f2,S',R,Q⟩:=hf g Ž;exact wpAny_pyNext_items_end (I.ok.hd x) S p (en ž) λh' eb=>⟨rfl,I.turned (t':=s.toks) (λb o l e=>eb b o l e) f0 T S' R Q⟩
 self:=λA i s Q E S h=>by obtain⟨u,v,S⟩:=S;have F:s.TypeIs (.ref g) "dict_itemiterator" :=⟨_,S,rfl⟩;refine wpAny_pyIter_slot F PySem.F.slot_dict_itemiterator_iter (Np PySem.F.slot_dict_itemiterator_iter F yE ?_ (PySem.F.args_dict_itemiterator_iter_1 _));show bz _ _ (ret (.ref g)) _ _ s;exact bC ⟨_,rfl, "dict_itemiterator",_,F,PySem.F.slot_dict_itemiterator_next.lookup,h⟩
def IT{P:be}{K:aT}(a f:az)(m:List (hI×V))(n:Nat):zX P w K tg (YR a m n) [f] f (λi h=>h.IsKeyIter f a i m.length n) where
 mem:=by simp
 obj:=λi h S c t=>by
  have z:c=f:=by simpa using t
  subst z;obtain⟨o,e,c,d⟩:=S;exact⟨o,e,λv z=>by rw[d]at z;cases z⟩
 keep:=λi h h' S k=>S.at λo e=>k f Ž o e
 item:=by
  intro X B hw C t i J s G H E I r S A;subst B hw C;obtain⟨e,q,y⟩:=A;obtain⟨O,hs,l,p,j⟩:=yP I.f' (.inl e);obtain⟨u,U,ru⟩:=KV.get p y;rw[p.length]at S ⊢;obtain⟨D,T,f2,F,R,Q⟩:=r f Ž;refine wpAny_pyNext_dict_item S j U λx W hk L N =>?_
  have I1:Inv X J G H { s with heap:=W }:=I.turned (t':=s.toks) (λb o g e=>(N.2 b g).trans e) D T F R Q;obtain⟨o,e,c,d⟩:=id L;exact⟨x,rfl,AY (s:={ s with heap:=W }) e c d ſ ⟨kV q.1,H,I1,QG hk,⟨rfl,q,y,rfl⟩,L,λb g=>(r b g).1⟩⟩
 done:=by intro X B hw C t i J s G H E I r S A;subst B hw C;obtain⟨e,y⟩:=A;obtain⟨O,hs,l,p,j⟩:=yP I.f' (.inl e);have hl:=p.length;rw[hl]at S;obtain⟨D,T,f2,F,R,Q⟩:=r f Ž;exact wpAny_pyNext_dict_end (I.ok.hd t) S j (en ž) λh' eb=>⟨rfl,I.turned (t':=s.toks) (λb o l e=>eb b o l e) D T F R Q⟩
 self:=λ_ _ _ _ _ S h=>wpAny_pyIter_keyiter S h
section
variable {X:Cx}{f:DF}
def QH(j:az->List (hI×V)->Nat->It)(t:TE):TI:=λb H R=>t b H λx d=>∃a c n,x=.ref a/\d a=Y (.dK c n)/\R (j a c n) d
def KW{U}{i g:Pos}(t:PE X e c)(b:autoParam (b_ e "items" X.env (eval e X.env)=eval e X.env) ų)(l:autoParam ((i.endLine==g.line)=true) ų):PI X (.Tuple y U o) (.Call (.Attribute e "items" i) [] [] g) (QH Itm c):=by
 intro B s O H R I h;refine wpAny_Call_method0_late b l (fE (t B s O H _ I h) ?_);rintro v m ⟨x,L,j,r,a,p,n,rfl,e,q⟩;cases r;obtain⟨P,F,k,C,f⟩:=yP j.f' (.inl e);have u:=f.dictOf.typeIs;have A:∀b,cG a=.ref b->∃d,m.heap.get? b=Y d/\d.dict=none:=λb q=>by cases q;obtain⟨o,N,G,K,_⟩:=f;exact⟨o,G,K.2.1⟩
 refine⟨"dict", "dict.items",PySem.F.plainAttrs_dict,PySem.F.slot_dict_items,PySem.F.type_dict_items,u,A,oA rfl (PySem.evalArgs_none ?_)⟩;refine call_meetsIn PySem.F.slot_dict_items u PySem.F.entry_dict_items (PySem.F.args_dict_items_1 _) (meets_dict_items (eG X.prog X.w) a F) ⟨⟨k,f.dictOf⟩,?_⟩;have E:(m.heap.push { cls :=.type "dict_items",data :=.fields #[.ref a] }).IsItemsView m.heap.objs.size a:=⟨_,ba _ rfl,rfl,rfl⟩;refine wpAny_pyIter_items (s:={ m with heap:=m.heap.push { cls :=.type "dict_items",data :=.fields #[.ref a] } }) E (f.push _) ?_;have D:∀b o,m.heap.get? b=Y o->((m.heap.push { cls :=.type "dict_items",data :=.fields #[.ref a] }).push { cls :=.type "dict_itemiterator",data :=.fields #[.none,.bool Z_,.ref a,.int 0 0,.int k.length 0,.int n 0,.none,.none] }).get? b=Y o:=λb o e=>af _ (af _ e)
 have w:m.heap.objs.size<=(m.heap.push { cls :=.type "dict_items",data :=.fields #[.ref a] }).objs.size:=by rw[dX];exact EU _
 refine⟨_,[_],_,_,L,rfl,j.kept (t':=m.toks) D,Fd a _ p n,⟨.none,.none,?_⟩,λb J =>?_,q⟩
 ·rw[C.length];exact ba _ rfl
 ·have z:b=(m.heap.push { cls :=.type "dict_items",data :=.fields #[.ref a] }).objs.size:=by simpa using J
  subst z;exact j.tw w (j.f'.fresh w)
def Oq(t:PE X e c):PI X u e (QH YR c):=by
 intro B s O H R I h;refine fE (t B s O H _ I h) ?_;rintro v m ⟨x,p,d,r,a,f,n,rfl,e,q⟩;cases r;obtain⟨w,j,k,i,g⟩:=yP d.f' (.inl e);refine wpAny_pyIter_dict j g ?_;refine⟨_,[_],_,_,p,rfl,d.kept (t':=m.toks) λb o e=>af _ e,IT a _ f n,⟨_,ba _ rfl,rfl,by rw[i.length];rfl⟩,λb l =>?_,q⟩;have z:b=m.heap.objs.size:=by simpa using l
 subst z;exact d.tw (aw _) (d.f'.fresh (aw _))
def kD:hI->D
 |.inl i =>.int i|.inr x =>.str x
def LZ{K:aT}:cK K G (kD k) (kV k):=by cases k;exact cC.mpr rfl;exact dn.mpr rfl
def Sf(a:List hI)(b:List D):List D:=(a.zip b).map λp =>.tup [kD p.1,p.2]
def Kg{K:aT}{b:List hI}{c:List D}{a:List V}{i:Nat}{q:hI×D}(r:bf K G c a)(h:(b.zip c)[i]?=Y q):∃v,(b.zip a)[i]?=Y (q.1,v)/\cK K G q.2 v:=by
 rw[rk]at h;obtain⟨v,e,f⟩:=r.get h.2;exact⟨v,rk.mpr ⟨h.1,e⟩,f⟩
def F5{K:aT}{k:List hI}{B:List D}{w:List V}(g:G a=Y (.dK (k.zip w) n))(l:k.length=B.length)(r:bf K G B w):za K G (Itm a (k.zip w) n) (Sf k B):=by
 have C:(Sf k B).length=(k.zip w).length:=by simp[Sf,r.length]
 refine⟨λi H s f=>⟨s _ _ g,?_⟩,λi H s f=>⟨s _ _ g,ž⟩,λi H x E A d j h ⟨q,p,e,f,y,z⟩ o =>?_⟩
 ·rw[C]at f;exact⟨_,aX f⟩
 ·subst y z;unfold Sf at o;rw[aV]at o;obtain⟨u,m,o⟩:=ak.1 o;cases o;obtain⟨v,b,c⟩:=Kg r m;rw[e]at b;cases b;have t:=j.trans (.alloc (o :=.tup [kV u.1,v]) (h.free f));exact⟨de A p (.tup [kV u.1,v]),gv.alloc h f,mM ⟨p,_,rfl,bh,.cons LZ (.cons (cK.mono t _ c) .nil)⟩⟩
def JB{K:aT}{b:List hI}{k:List D}(g:G a=Y (.dK (b.zip c) n))(l:b.length=k.length)(r:bf K G k c):za K G (YR a (b.zip c) n) (b.map kD):=by
 have p:(b.map kD).length=(b.zip c).length:=by simp[<- r.length,l]
 refine⟨λi H s f=>⟨s _ _ g,?_⟩,λi H s f=>⟨s _ _ g,ž⟩,λi H x t A d j h ⟨y,q,e,z⟩ o =>?_⟩
 ·rw[p]at f;exact⟨_,aX f⟩
 ·subst y z;rw[aV]at o;obtain⟨u,m,o⟩:=ak.1 o;cases o;rw[rk]at e;rw[e.1]at m;cases m;exact⟨A,.refl h,LZ⟩
def j6(f:DF):DL:=λa=>(f a).bind λd=>match d with|.fT k e=>Y (Sf k e)|_=>M
def AX(f:DF):DL:=λa=>(f a).bind λd=>match d with|.fT k e=>Y (k.map kD)|_=>M
def oU{U}{g c:Pos}(h:PE X e (tP X.K i f))(b:autoParam (b_ e "items" X.env (eval e X.env)=eval e X.env) ų)(l:autoParam ((g.endLine==c.line)=true) ų):PI X (.Tuple y U o) (.Call (.Attribute e "items" g) [] [] c) (Ad X.K i (j6 f)):=(KW h b l).imp <|by
 rintro p H R ⟨G,j,x,s,w,e,k⟩;unfold j6 at e;obtain⟨d,m,e⟩:=aa.1 e;cases d<;>simp only at e<;>try (cases e;done)
 cases e;refine⟨G,j,_,s,w,m,λv A B E r =>?_⟩;obtain⟨a,u,rfl,⟨n,q⟩,l,t⟩:=l7.mp r;exact⟨a,_,n,rfl,E.gh _ _ q,k _ A B E (F5 q l t)⟩
def Pk(h:PE X e (tP X.K b f)):PI X j e (Ad X.K b (AX f)):=(Oq h).imp <|by
 rintro g H R ⟨G,c,o,s,w,e,k⟩;unfold AX at e;obtain⟨d,m,e⟩:=aa.1 e;cases d<;>simp only at e<;>try (cases e;done)
 cases e;refine⟨G,c,_,s,w,m,λv A B E r =>?_⟩;obtain⟨a,i,rfl,⟨n,q⟩,l,t⟩:=l7.mp r;exact⟨a,_,n,rfl,E.gh _ _ q,k _ A B E (JB q l t)⟩
end
end L2
namespace L2
open PySem
end L2
namespace L2
open PySem PyProof.Rows
section
variable {s:ay}
end
end L2
namespace L2
open PySem PyProof.Rows PySem.Spec
section
variable {R:Result->ay->Prop}{f:List az}{P:Nat->ai->Prop}{m:Nat->ay->Prop}
end
section
variable {s:ay}
end
section
variable {s:ay}
end
section
variable {s:ay}
end
section
variable {s:ay}
end
section
variable {s:ay}
end
end L2
namespace L2
open PySem PySem.Spec PyProof.Rows
section
variable {X:Cx}{f:DF}
end
section
variable {X:Cx}{m:List Nat}
end
section
variable {X:Cx}{m:List Nat}
end
end L2
namespace L2
open PySem
section
variable {X:Cx}
def vP(i:Nat)(f:autoParam (X.N[i]?=Y x) ų)(c:autoParam (Tp X.env.scope x) ŷ)(e:autoParam ((x==("__debug__" : aG))=false) ű)(b:autoParam ((x==("__classdict__" : aG))=false) ű)(d:autoParam (i∉Z) ű):PE X (.Name x a) (tP X.K Z (eV i)):=dv (pv i f c e b) d
def vQ(i:Nat)(f:autoParam (X.N[i]?=Y x) ų)(c:autoParam (Tp X.env.scope x) ŷ)(e:autoParam ((x==("__debug__" : aG))=false) ű)(b:autoParam ((x==("__classdict__" : aG))=false) ű)(d:autoParam (i∉Z) ű):PE X (.Name x a) (tQ X.K Z (eV i)):=dq (vP i f c e b d)
end
end L2
namespace L2
open PySem PySem.Spec PyProof.Rows
abbrev r_(K:aT)(c f:aG):Prop:=∀C,vd K br c=Y (Y (.ref C))->IH K C/\qa K C f
def wY{a:List d}(h:a.length=b.length):(a.zip b).length=a.length:=by simp[h]
theorem rH{K:aT}{G:Hp}{f:aG}:∀ {a:List aG}{b:List V},f∉a->(a.zip b).lookup f=M
 |[],b,h=>by simp
 |k::a,[],h=>by simp
 |k::a,v::b,h=>by simp only[au,not_or]at h;rw[ck,dy,beq_eq_false_iff_ne.mpr h.1];exact rH (K:=K) (G:=G) h.2
section
variable {X:Cx}
def fq{c f:aG}(h:PE X e (tQ X.K Z g))(p:r_ X.K c f)(x:autoParam (b_ e f X.env (eval e X.env)=eval e X.env) ų):
  PE X (.Attribute e f I) (tP X.K Z (d9 c f g)):=(qJ h x).imp <|by
 rintro F H Q ⟨G,m,d,z,j,b,k⟩;unfold d9 at b;rw[aa]at b;obtain⟨o,l,b⟩:=b;refine⟨G,m,o,z,j,l,λv E D q w =>?_⟩;cases o<;>simp only[ae]at b<;>try (cases b;done)
 split at b
 ·rename_i i;subst i;obtain⟨a,C,B,K,rfl,y,n,_,t⟩:=w.XZ q.gh;obtain⟨u,A,r⟩:=HM t b;exact⟨a,C,B,_,u,rfl,y,(p C n).1,(p C n).2,A,k u E D q r⟩
 ·cases b
end
section
variable {X:Cx}{s:List Nat}
abbrev Oa(a:Int->Int->Int):V->V->Hp->VK->Prop:=λx y H Q=>∃i j,x=.int i/\y=.int j/\Q (.int (a i j)) H
noncomputable def mL(f:DM):DG:=λa=>(f a).map λq =>.nx q.2
def yJ{f:DM}(i:PE X e (tM X.K B Z f))(h:autoParam (dS e M I.line X.env=fi false) ų):PS X (.Expr e I) (k7 X.K B s Z Z (mL f)):=(l9 i h).imp <|by
 rintro D c H ⟨G,g,o,S,a,k⟩;unfold mL at a;obtain⟨⟨d,b⟩,j,a⟩:=ak.1 a;cases a;exact⟨G,g,d,b,S,j,λv n m l _ r=>k c n m l⟩
end
section
variable {P:be}{K:aT}
structure jb(P:be)(w:dz)(K:aT)(mg:aG->Option ai)(base:dC)(c m:aG)(k:Nat)(sp:Sp):Prop where
 ex:∃C f fd ps,vd K br c=some (some (.ref C))/\IH K C/\Nf K C m f/\dg P w K mg base jA k f fd ps sp/\Binds K fd ps []
def jb.mono{m:aG}(h:jb P w K O U c m j a)(d:j<=k):jb P w K O U c m k a:=by
 obtain⟨C,f,o,b,n,l,i,g,e⟩:=h.ex;exact⟨C,f,o,b,n,l,i,g.mono d,e⟩
structure zR(P:be)(w:dz)(K:aT)(mg:aG->Option ai)(base:dC)(c:aG)(k:Nat)(sp:Sp):Prop where
 ex:∃C f fd ps,vd K br c=some (some (.ref C))/\mg c=some (.ref C)/\Mk K C f/\dg P w K mg base jA k f fd ps sp/\Binds K fd ps []
end
section
variable {X:Cx}
end
section
variable {X:Cx}{m:Pos}{f:DF}
def yS(b:Gl X x)(a:X.mg x=Y (.str i t))(c:autoParam ((x==("__debug__" : aG))=false) ű):PE X (.Name x m) (tP X.K Z (eK (.str i))):=
 (He (v :=.str i) b a ⟨t,rfl⟩ c).imp <|by rintro h H Q ⟨G,j,d,e,g,f,k⟩;cases f;exact k _ G H (.refl e) (dn.mpr rfl)
end
section
variable {X:Cx}{m:Pos}{f:DF}
end
section
variable {X:Cx}{m:Pos}{f:DF}
end
section
variable {X:Cx}{f:Expr}
noncomputable def bL(ks:List hI)(c:List D)(k:hI):Option D:=((ks.zip c).find? λa=>decide (a.1=k)).map (·.2)
theorem pR{K:aT}:∀ {c:List hI}{f:List D}{a:List V}{d:D},bf K G f a->bL c f k=Y d->∃v,qD (c.zip a) k=Y v/\cK K G d v
 |[],f,a,d,r,h=>by simp[bL]at h
 |x::c,[],a,d,r,h=>by simp[bL]at h
 | x::c,y::f,a,d,r,h=>by
  obtain⟨v,t,rfl,i,l⟩:=bJ.mp r;by_cases g:x=k
  ·subst g;have:y=d:=by simpa [bL] using h
   subst this;exact⟨v,t_ rfl,i⟩
  ·have m:bL c f k=Y d:=by simpa [bL,g] using h
   obtain⟨u,e,j⟩:=pR l m;exact⟨u,by rw[ck,qC g];exact e,j⟩
theorem tJ{K:aT}:∀ {c:List hI}{d:List D}{a:List V},bf K G d a->bL c d k=M->qD (c.zip a) k=M
 |[],d,a,r,h=>by simp[qD]
 |x::c,[],a,r,h=>by rw[dD.mp r];simp[qD]
 | x::c,y::d,a,r,h=>by
  obtain⟨v,t,rfl,i,f⟩:=bJ.mp r;by_cases e:x=k
  ·subst e;simp[bL]at h
  ·have g:bL c d k=none:=by simpa [bL,e] using h
   rw[ck,qC e];exact tJ f g
noncomputable def vV:D->Option hI
 |.int i=>Y (gk i)|.str x=>Y (bo x)|_=>M
def oP{K:aT}{v:V}(h:vV d=Y k)(r:iN K G H d v):v=kV k:=by
 cases d<;>simp only[vV]at h<;>try (cases h;done)
 ·cases h;exact r.int
 ·cases h;exact r.str
def uR(f g e:DF):DF:=λa=>(f a).bind λd=>(g a).bind λk=>(e a).bind λx=>match d with|.fT c h=>(vV k).map λk=>(bL c h k).getD x|_=>M
def Co{D F:DF}{i:Pos}(hu:X.A.units+1<mZ)(ho:PE X o (tQ X.K Z D))(he:PE X e (tQ X.K Z F))(hf:PE X f (tP X.K Z C))(m:M2 X o "get" j e f i):PE X (.Call (.Attribute o "get" j) [e,f] [] i) (tP X.K Z (uR D F C)):=
 (K2 hu ho he hf m).imp <|by
  rintro σ H Q ⟨G,r,d,gh,n,c,q⟩;unfold uR at c;rcases g:D r with _|dd
  ·rw[g]at c;cases c
  rcases h:F r with _|N
  ·simp[g,h]at c
  rcases p:C r with _|L
  ·simp[g,h,p]at c
  simp only[g,h,p,ae]at c;cases dd<;>simp only at c<;>try (cases c;done)
  rename_i b J;rcases I:vV N with _|k
  ·rw[I]at c;cases c
  rw[I]at c;refine⟨G,r,_,gh,n,g,λv G1 H1 x r1 =>?_⟩;obtain⟨a,vs,rfl,⟨_,O⟩,l,S⟩:=r1.SX x.gh;refine⟨a,rfl,.inl ⟨_,_,.of O⟩,G1,r,N,x.gh,n.ext x,h,λu G2 H2 t U=>⟨G2,r,L,t.gh,(n.ext x).ext t,p,λz R P K T =>?_⟩⟩;have hk:u=kV k:=oP I U;have B:=K.hh _ _ (t.hh _ _ O);have s:=bf.mono (t.gg.trans K.gg) J S;refine⟨_,by rw[hk];exact wR.k B,?_⟩;have E:=(x.trans t).trans K;have c:Y ((bL b J k).getD L)=Y d:=c;rcases y:bL b J k with _|dv
  ·rw[y]at c;cases c;rw[tJ s y];exact q _ R P E T
  rw[y]at c;cases c;obtain⟨w,ew,A⟩:=pR s y;rw[ew];exact q _ R P E A
end
noncomputable def FK:D->D->Option D
 |.int i,.int j=>Y (.int (dE i j))|_,_=>M
noncomputable def mQ:D->D->Option D
 |.int i,.int j=>Y (.int (CM i j))|_,_=>M
noncomputable def qM:D->D->Option D
 |.int i,.int j=>if 0<=j/\j<=1000/\i.natAbs<2 ^ 64 then Y (.int (i*2 ^ j.toNat)) else M
 |_,_=>M
section
variable {X:Cx}{f:Pos}
def Dn:zm X (dB .BitOr) FK:=mz.imp Vf <|by
 rintro x y H Q ⟨G,k,j,d,i,e,b,a,q⟩;unfold FK at a;split at a<;>try (cases a;done)
 cases a;exact⟨_,_,e.int,b.int,q _ G H (.refl i) (cC.mpr rfl)⟩
def uw:zm X (dB .BitAnd) mQ:=mz.imp RL <|by
 rintro x y H Q ⟨G,k,j,d,i,e,b,a,q⟩;unfold mQ at a;split at a<;>try (cases a;done)
 cases a;exact⟨_,_,e.int,b.int,q _ G H (.refl i) (cC.mpr rfl)⟩
def Lh:zm X (dB .LShift) qM:=mz.imp RF <|by
 rintro x y H Q ⟨G,l,k,d,j,i,e,a,q⟩;unfold qM at a;split at a<;>try (cases a;done)
 split at a
 ·rename_i b;cases a;exact⟨_,_,i.int,e.int,⟨b.1,by have:=b.2.1;omega,b.2.2⟩,q _ G H (.refl j) (cC.mpr rfl)⟩
 ·cases a
def yx:Ng X .BitOr (Oa dE):=by
 rintro b s k H x y u v Q I e d ⟨i,j,rfl,rfl,q⟩;obtain⟨t,rfl⟩:=(show ∃t,u=sD i t from e);obtain⟨a,rfl⟩:=(show ∃a,v=sD j a from d);exact ior_int ⟨.int (dE i j),H,I.tok _,⟨_,rfl⟩,q⟩
def Dc(i:Nat)(e:Int->Int->Int)(j:DF):DG:=λd=>(eV i d).bind λx=>(j d).bind λy=>match x,y with|.int a,.int b=>Y (.nx (d.set i (Y (.int (e a b)))))|_,_=>M
def MB{i:Nat}{op:Int->Int->Int}(b:Ng X o (Oa op))(w:X.N.Nodup)(q:X.N[i]?=Y x)(p:Loc X.env.scope x)(t:PE X e (tP X.K Z j))(n:autoParam (i∉Z) ű)(s:autoParam (X.fn x=Z'\/X.env.scope.names.lookup x=Y .local) Ů):
  PS X (.AugAssign (.Name x g) o e f) (k7 X.K B h Z Z (Dc i op j)):=(Rt (ti:=Oa op) w q p t b s).imp <|by
 rintro D I H ⟨G,m,J,S,a,k⟩;unfold Dc at a;obtain⟨c,y,a⟩:=aa.1 a;obtain⟨d,l,a⟩:=aa.1 a;split at a
 ·rename_i L K;cases a;obtain⟨v,A,z⟩:=S.env i _ n (gY y);cases cC.mp z;refine⟨_,A,G,m,_,S.gh,S.jy,l,λu F C E r =>?_⟩;cases cC.mp r;exact⟨_,_,rfl,rfl,k _ F C ((S.ext E).vF n (cC.mpr rfl))⟩
 ·cases a
end
section
variable {K:aT}{f:List Nat}
def SR.tree{s:Sk}(S:SR K B f G H y l)(c:i∈f)(e:l[i]?=Y (Y (.obj s t))):∃a T,y[i]?=Y (Y (.ref a))/\dm K G H s t (.ref a) T/\T.Nodup/\(∀b∈T,G b=M/\B.2 b=M)/\∃F,qZ K B f G H y l F/\F i=T:=by
 obtain⟨F,W⟩:=S.ow;obtain⟨a,g,d⟩:=W.it i _ c e;obtain⟨n,k⟩:=W.ok i _ c e;exact⟨a,F i,g,d,n,k,F,W,rfl⟩
noncomputable def eU(r:Nat)(l:bY):bY:=l.map λo=>match o with|some (.kf k p)=>if k=r then M else Y (.kf k p)|o=>o
def dY{r i:Nat}(h:(eU r l)[i]?=Y (Y d)):l[i]?=Y (Y d)/\∀p,d ≠ .kf r p:=by
 unfold eU at h;rw[aV]at h;obtain⟨o,e,h⟩:=ak.1 h;rw[e];cases o with
 |none=>cases h|some c=>
  cases c with
  |kf k p=>
   simp only[bP,mj]at h;split at h
   ·cases h
   ·rename_i a;cases h;exact⟨rfl,λq z=>a (by cases z;rfl)⟩
  |_=>simp only[bP,mj]at h;cases h;exact⟨rfl,λq z=>by cases z⟩
def rq{r i:Nat}(h:l[i]?=Y (Y d))(a:∀p,d ≠ .kf r p):(eU r l)[i]?=Y (Y d):=by
 unfold eU;rw[aV,h];cases d with
 |kf k p=>simp only[bP,mj];rw[if_neg (λz=>a p (by rw[z]))]
 |_=>rfl
def SR.Q5{r:Nat}(S:SR K B f G H y l):SR K B f G H y (eU r l):=by
 refine⟨S.gh,S.g0,S.h0,S.fr,λi d a e=>S.env i d a (dY e).1,?_,by rw[S.len];simp[L2.eU],S.pin,λj k p s o e =>?_⟩
 ·obtain⟨F,W⟩:=S.ow;exact⟨F,λi d a e=>W.it i d a (dY e).1,λi d a e=>W.ok i d a (dY e).1,λi j d c a n C A=>W.ap i j d c a n (dY C).1 (dY A).1⟩
 ·obtain⟨v,x,m,g,h,w,b,u,t⟩:=S.kf j k p s o (dY e).1;exact⟨v,x,m,g,h,w,b,rq u (λq z=>by cases z),t⟩
def SR.Cr{s:Sk}{t':D}{m:List az}{F:Nat->List az}(S:SR K B f G H y l)(W:qZ K B f G H y l F)(J:F i=T)(g:i∈f)(I:l[i]?=Y (Y (.obj s t)))(u:y[i]?=Y (Y (.ref a)))(E:gv G (jN H T) G' H')(v:dm K G' H' n t' (.ref a) m)(x:m.Nodup)(w:∀b∈m,G' b=M/\(b∈T\/H b=M)):SR K B f G' H' y ((eU i l).set i (Y (.obj n t'))):=by
 have A:=rq (r:=i) I (λq z=>by cases z);have N:qZ K B f G H y (eU i l) F:=⟨λi d g e=>W.it i d g (dY e).1,λi d g e=>W.ok i d g (dY e).1,λi j d c g C O L=>W.ap i j d c g C (dY O).1 (dY L).1⟩;have:=(S.Q5 (r:=i)).chg (i:=i) (a:=a) (d' :=.obj n t') (F0:=T) (S':=m) N g (λb k=>⟨by rw[J];exact k,_,A⟩) E.gg E.gh (λb o e=>by
   rcases E.fr b o e with z|z
   ·exact .inl z
   ·by_cases k:b∈T
    ·exact .inr (.inr k)
    ·rw[d4 k]at z;exact .inr (.inl z))
  (λb o k e=>E.hh b o (by rw[d4 k];exact e)) v x w (λb h=>by have:=(S.pin i b h).2;rw[u]at this;cases this;rfl) (λr p z=>by cases z)
  (λj p _ _ _ e=>absurd rfl ((dY e).2 p))
 rwa [jI u]at this
end
section
variable {K:aT}{f:List Nat}
def SR.Rl{i:Nat}{a:az}{s:Sk}{F:Nat->List az}(S:SR K B f G H y l)(W:qZ K B f G H y l F)(O:F i=T)(N:i∈f)(v:l[i]?=Y (Y (.obj s t)))(m:y[i]?=Y (Y (.ref a)))(E:gv G (jN H T) G' H')(I:dm K G' H' s d (.ref a) k)(L:k.Nodup)(J:∀b∈k,G' b=M/\(b∈T\/H b=M))(Z:∀(q:zQ) u,(∀g∈D8 q,g∈JX)->hG H q (.ref a)=Y u->hG H' q (.ref a)=Y u):SR K B f G' H' y (l.set i (Y (.obj s d))):=by
 have:=S.chg (i:=i) (a:=a) (d' :=.obj s d) (F0:=T) (S':=k) W N (λb c=>⟨by rw[O];exact c,_,v⟩) E.gg E.gh (λb o e=>by
   rcases E.fr b o e with z|z
   ·exact .inl z
   ·by_cases c:b∈T
    ·exact .inr (.inr c)
    ·rw[d4 c]at z;exact .inr (.inl z))
  (λb o c e=>E.hh b o (by rw[d4 c];exact e)) I L J (λb h=>by have:=(S.pin i b h).2;rw[m]at this;cases this;rfl) (λr p z=>by cases z)
  (λj p Q P _ e=>by obtain⟨g1,g0,s0,t0,C,w,n,A,x,g4,X,U,R⟩:=S.kf j i p Q P e;rw[v]at A;cases A;rw[m]at x;cases x;exact⟨s,d,C,n,rfl,g4,Z p n R X,U⟩)
 rwa [jI m]at this
noncomputable def Xi:Option D->Option D
 |some (.obj _ t)=>Y t|some (.lst d)=>Y (.lst d)|some (.ins c a b)=>Y (.ins c a b)|some (.fT a b)=>Y (.fT a b)|_=>M
def Kl(h:Xi o=Y d):(∃s t,o=Y (.obj s t)/\d=t)\/(o=Y d/\zG d=Z'):=by
 unfold Xi at h;split at h
 ·cases h;exact .inl ⟨_,_,rfl,rfl⟩
 ·cases h;exact .inr ⟨rfl,rfl⟩
 ·cases h;exact .inr ⟨rfl,rfl⟩
 ·cases h;exact .inr ⟨rfl,rfl⟩
 ·cases h
def Y6(l:bY):Option D->Option D
 |some (.kf r p)=>match l[r]? with|some (Y (.obj _ t))=>oQ p t|_=>M
 |_=>M
def res(a b:List Nat)(l:bY):bY:=l.mapIdx λi o=>if i∈a then Xi o else if i∈b then Y6 l o else o
theorem ki.trees(n:ki K f G H y l):∀(x:List Nat),∃T:List az,(∀b∈T,G b=M/\Fw H b)/\∀i∈x,i∈f->∀s t,l[i]?=Y (Y (.obj s t))->∃v,y[i]?=Y (Y v)/\(cK K G t v\/∃S,dm K G H s t v S/\∀b∈S,b∈T)
 |[]=>⟨[],λb g=>(by cases g),λi d=>by cases d⟩
 | k::x=>by
  obtain⟨T,w,u⟩:=ki.trees n x;by_cases p:k∈f/\∃s t,l[k]?=Y (Y (.obj s t))
  ·obtain⟨p,s,t,e⟩:=p;obtain⟨v,C,B⟩:=n.get k _ e;rw[if_pos p]at B;rcases B with r|⟨a,o,rfl,N,S,A,J⟩
   ·refine⟨T,w,λi d m j h c =>?_⟩;rcases au.mp d with z|z
    ·subst z;rw[e]at c;cases c;exact⟨v,C,.inl (ni.mp r)⟩
    ·exact u i z m j h c
   ·refine⟨S++T,λb g =>?_,λi d m j h c =>?_⟩
    ·rcases aD.mp g with q|q
     ·exact⟨J b q,A.here b q⟩
     ·exact w b q
    ·rcases au.mp d with z|z
     ·subst z;rw[e]at c;cases c;exact⟨_,C,.inr ⟨S,A,λb g=>aJ _ g⟩⟩
     ·obtain⟨v,I,F⟩:=u i z m j h c;refine⟨v,I,?_⟩;rcases F with r|⟨L,E,D⟩
      ·exact .inl r
      ·exact .inr ⟨L,E,λb g=>aH _ (D b g)⟩
  ·refine⟨T,w,λi d m j h c =>?_⟩;rcases au.mp d with z|z
   ·subst z;exact absurd ⟨m,j,h,c⟩ p
   ·exact u i z m j h c
theorem ki.cells(C:bG G H)(env:ki K f G H y l):∀(t:List Nat),∃T:List az,(∀b∈T,G b=M/\Fw H b)/\∀i∈t,i∈f->∀d,l[i]?=Y (Y d)->zG d=Z'->∃v,y[i]?=Y (Y v)/\(cK K G d v\/∃a o,v=.ref a/\a∈T/\H a=Y o/\j_ K G d o)
 |[]=>⟨[],λb h=>(by cases h),λi x=>by cases x⟩
 | k::t=>by
  obtain⟨T,s,R⟩:=ki.cells C env t;have g:∀u:List az,(∀b∈T,b∈u)->(∀d,l[k]?=Y (Y d)->k∈f->zG d=Z'->∃v,y[k]?=Y (Y v)/\(cK K G d v\/∃a o,v=.ref a/\a∈u/\H a=Y o/\j_ K G d o)) ->
    ∀i∈k::t,i∈f->∀d,l[i]?=Y (Y d)->zG d=Z'->∃v,y[i]?=Y (Y v)/\(cK K G d v\/∃a o,v=.ref a/\a∈u/\H a=Y o/\j_ K G d o):=λu w n i x p d e m=>by
   rcases au.mp x with z|z
   ·subst z;exact n d e p m
   ·obtain⟨v,O,N⟩:=R i z p d e m;refine⟨v,O,?_⟩;rcases N with r|⟨a,o,J,I,F⟩
    ·exact .inl r
    ·exact .inr ⟨a,o,J,w a I,F⟩
  by_cases n:k∈f/\∃d,l[k]?=Y (Y d)/\zG d=Z'
  ·obtain⟨n,d,e,m⟩:=n;obtain⟨v,B,D⟩:=env.get k _ e;rw[if_pos n]at D;rcases D with r|⟨a,o,rfl,A,P⟩
   ·exact⟨T,s,g T (λb h=>h) λE j _ _=>by rw[e]at j;cases j;exact⟨v,B,.inl r⟩⟩
   ·have c:j_ K G d o:=by cases d<;>first|exact P|cases m
    cases q:G a with
    |some L=>have:=C a L q;rw[A]at this;cases this;exact⟨T,s,g T (λb h=>h) λE j _ _=>by rw[e]at j;cases j;exact⟨_,B,.inl (c.rep q)⟩⟩
    |none=>
     refine⟨a::T,λb h =>?_,g (a::T) (λb h=>aj _ h) λE j _ _=>by rw[e]at j;cases j;exact⟨_,B,.inr ⟨a,o,rfl,aF,A,c⟩⟩⟩;rcases au.mp h with z|z
     ·subst z;refine⟨q,o,A,λQ z =>?_⟩;subst z;cases d with
      |lst=>obtain⟨_,z,_⟩:=c;cases z
      |ins=>obtain⟨_,_,_,z,_⟩:=c;cases z
      |fT=>obtain⟨_,⟨_,z⟩,_⟩:=c;cases z
      |_=>cases m
     ·exact s b z
  ·exact⟨T,s,g T (λb h=>h) λd e p m=>absurd ⟨p,d,e,m⟩ n⟩
def ji(f a b c:List Nat):Bool:=(a.all λi=>f.contains i && !a.contains (Dw i) && !b.contains i && !c.contains i)&&(f.all λi=>a.contains i||b.contains i||c.contains i)&&(c.all λj=>f.contains j&&f.contains (Dw j) && !b.contains j)
def Oz{f:List Nat}(h:ji f e g k=Z'):(∀i∈e,i∈f/\Dw i∉e/\i∉g/\i∉k)/\(∀i∈f,i∈e\/i∈g\/i∈k)/\(∀j∈k,j∈f/\Dw j∈f/\j∉g):=by
 simp only[ji,aO,iZ,List.contains_eq_mem,dP,Bool.not_eq_true',decide_eq_true_eq,decide_eq_false_iff_not]at h;exact⟨λi m=>by obtain⟨⟨⟨a,b⟩,c⟩,d⟩:=h.1.1 i m;exact⟨a,b,c,d⟩,λi m=>by rcases h.1.2 i m with (a|a)|a;exact .inl a;exact .inr (.inl a);exact .inr (.inr a),λj n=>by obtain⟨⟨a,b⟩,c⟩:=h.2 j n;exact⟨a,b,c⟩⟩
def ki.UA(s:bG G H)(m:ki K f G H y l)(Q:ji f C dp al=Z'):∃T:List az,(∀b∈T,G b=M/\Fw H b)/\ki K C (kd G H T) H y (res dp al l):=by
 obtain⟨o1,o2,o3⟩:=Oz Q;obtain⟨T1,Yt,h21⟩:=m.trees f;obtain⟨T2,h12,X⟩:=m.cells s f;generalize U:T1++T2=T;have h1:∀b∈T,G b=M/\Fw H b:=λb I=>by
  rw[<- U]at I;rcases aD.mp I with z|z
  ·exact Yt b z
  ·exact h12 b z
 have h2:∀i∈f,i∈f->∀s t,l[i]?=Y (Y (.obj s t))->∃v,y[i]?=Y (Y v)/\(cK K G t v\/∃S,dm K G H s t v S/\∀b∈S,b∈T):=λi x Q s t e=>by
  obtain⟨v,k,c⟩:=h21 i x Q s t e;refine⟨v,k,?_⟩;rcases c with r|⟨S,J,W⟩
  ·exact .inl r
  ·exact .inr ⟨S,J,λb I=>by rw[<- U];exact aJ _ (W b I)⟩
 have n:∀b∈T,G b=none:=λb I=>(h1 b I).1
 have g:bG G (kd G H T):=oH n;have fz:∀(i:Nat) (E:Sk) (t:D),l[i]?=Y (Y (D.obj E t))->∃v,y[i]?=Y (Y v)/\cK K (kd G H T) t v:=λi E t e=>by
  by_cases x:i∈f
  ·obtain⟨v,k,c⟩:=h2 i x x E t e;refine⟨v,k,?_⟩;rcases c with r|⟨S,J,W⟩
   ·exact cK.mono g t r
   ·exact dm.frozen n W J
  ·obtain⟨v,k,c⟩:=m.get i _ e;rw[if_neg x]at c;exact⟨v,k,cK.mono g t (ni.mp c)⟩
 refine⟨T,h1,by rw[m.len];simp[res],λi d e =>?_,λj r p hj hm e=>absurd hm (o1 j hj).2.1⟩;unfold res at e;rw[List.getElem?_mapIdx]at e;rcases L:l[i]? with _|o
 ·rw[L]at e;cases e
 rw[L]at e;simp only[bP,mj]at e;by_cases R:i∈dp
 ·rw[if_pos R]at e;rcases Kl e with⟨E,t,rfl,rfl⟩|⟨rfl,hc⟩
  ·obtain⟨v,k,c⟩:=fz i E _ L;exact⟨v,k,by split;exact .inl c;exact c⟩
  ·by_cases x:i∈f
   ·obtain⟨v,k,c⟩:=X i x x d L hc;have F:cK K (kd G H T) d v:=by
     rcases c with r|⟨a,o,rfl,A,h,q4⟩
     ·exact cK.mono g d r
     ·exact(q4.mono g).rep (by rw[pz (by rw[<- U];exact aH _ A)];exact h)
    exact⟨v,k,by split;exact .inl F;exact F⟩
   ·obtain⟨v,k,c⟩:=m.get i _ L;rw[if_neg x]at c;have F:=cK.mono g d c;exact⟨v,k,by split;exact .inl F;exact F⟩
 ·rw[if_neg R]at e;by_cases O:i∈al
  ·rw[if_pos O]at e;unfold Y6 at e;split at e
   ·rename_i r p;split at e
    ·rename_i E t er;obtain⟨g1,g0,s1,t1,s',v,v',g2,g3,g4,g5,g6,g7⟩:=m.kf i r p (o3 i O).1 (o3 i O).2.1 L;rw[er]at g2;cases g2;obtain⟨w,k,c⟩:=h2 r g1 g1 E t er;rw[g3]at k;cases k;have F:cK K (kd G H T) d v':=by
      rcases c with q|⟨S,J,W⟩
      ·obtain⟨u,P,f4⟩:=xV s q e;rw[g5]at P;cases P;exact cK.mono g d f4
      ·obtain⟨u,T1,U1,P,f4,f5,_⟩:=J.focus g6 e;rw[g5]at P;cases P;exact dm.frozen n (λb I=>W b (f5.symm.subset (aJ _ I))) f4
     exact⟨v',g4,by split;exact .inl F;exact F⟩
    ·cases e
   ·cases e
  ·rw[if_neg O]at e;subst e;obtain⟨v,k,c⟩:=m.get i d L;refine⟨v,k,?_⟩;by_cases x:i∈C
   ·rw[if_pos x];rw[if_pos (o1 i x).1]at c;cases d with
    |obj E t=>obtain⟨u,J,W⟩:=fz i E t L;rw[k]at J;cases J;exact .inl (ni.mpr W)
    |kf r p=>
     rcases c with q|⟨a,o,rfl,_⟩
     ·exact .inl (rF.mpr (rF.mp q))
     ·exact .inl (rF.mpr ⟨a,rfl⟩)
    |lst=>rcases c with q|⟨a,o,B,A,h⟩;exact .inl (cK.mono g _ q);exact .inr ⟨a,o,B,A,j_.mono g (d :=.lst _) h⟩
    |ins=>rcases c with q|⟨a,o,B,A,h⟩;exact .inl (cK.mono g _ q);exact .inr ⟨a,o,B,A,j_.mono g (d :=.ins _ _ _) h⟩
    |fT=>rcases c with q|⟨a,o,B,A,h⟩;exact .inl (cK.mono g _ q);exact .inr ⟨a,o,B,A,j_.mono g (d :=.fT _ _) h⟩
    |_=>rcases c with q|⟨a,o,B,A,h⟩;exact .inl (cK.mono g _ q);exact h.elim
   ·rw[if_neg x];by_cases N:i∈f
    ·rcases o2 i N with z|z|z
     ·exact absurd z x
     ·exact absurd z R
     ·exact absurd z O
    ·rw[if_neg N]at c;exact cK.mono g d c
end
section
variable {X:Cx}{m:Pos}
def zK(A I:List Nat)(f:DF):DF:=λρ=>(f (res A I ρ)).bind λd=>if xX d=Z' then Y d else M
def A9{f:DF}(O A I:List Nat)(h:PE X e (tP X.K O f))(s:autoParam (ji Z O A I=true) ű):PE X e (tP X.K Z (zK A I f)):=h.imp <|by
 rintro J H Q ⟨G,ρ,d,j,n,a,k⟩;unfold zK at a;obtain⟨c,t,a⟩:=aa.1 a;split at a
 ·rename_i q;cases a;obtain⟨T,o,g⟩:=n.UA j s;refine⟨kd G H T,res A I ρ,d,oI j,g,t,λv N L E r =>?_⟩;obtain⟨u,p⟩:=Ea j (λb i=>(o b i).1) (λb i=>(o b i).2) E;exact k v _ L u (Di p q r)
 ·cases a
def Qe(A I:List Nat)(f:DT):DT:=λρ=>f (res A I ρ)
def VZ{f:DT}(O A I:List Nat)(h:PT X e (si X.K O f))(n:autoParam (ji Z O A I=true) ű):PT X e (si X.K Z (Qe A I f)):=h.imp <|by
 rintro J H Q ⟨G,ρ,d,g,i,o,k⟩;obtain⟨T,j,a⟩:=i.UA g n;refine⟨kd G H T,res A I ρ,d,oI g,a,o,λN L E =>?_⟩;obtain⟨p,q⟩:=Ea g (λb c=>(j b c).1) (λb c=>(j b c).2) E;exact k _ L p
noncomputable def DZ:Sk->Bool
 |.lf=>Z'|_=>Z_
def xj{s:Sk}(h:DZ s=Z'):s=.lf:=by cases s<;>first|rfl|cases h
def wz(i:Nat)(c f:aG):DF:=λρ=>(eV i ρ).bind λd=>match d with
 |.obj (.fs g e) (.ins a b ds)=>if (g=c/\a=c)/\DZ (dH e f)=Z' then (xy f b).bind λn=>ds[n]? else M
 |_=>M
def HW{i:Nat}{c f:aG}(h:PE X (.Name x p) (jf i))(j:r_ X.K c f)(hi:autoParam (i∈Z) ű)(hb:autoParam (b_ (.Name x p) f X.env (eval (.Name x p) X.env)=eval (.Name x p) X.env) ų):PE X (.Attribute (.Name x p) f l) (tP X.K Z (wz i c f)):=
 (qJ h hb).imp <|by
  rintro J H Q ⟨G,ρ,d,q,y,e,k⟩;unfold wz at e;rw[aa]at e;obtain⟨o,z,e⟩:=e;split at e
  ·rename_i c' fk YE E ds;split at e
   ·rename_i U;obtain⟨⟨rfl,rfl⟩,hl⟩:=U;rcases g:xy f E with _|m
    ·rw[g]at e;cases e
    rw[g]at e;simp only[ae]at e;obtain⟨v,K,F⟩:=y.get i _ (gY z);rw[if_pos hi]at F;rcases F with r|⟨a,o,rfl,e3,S,e4,e5⟩
    ·obtain⟨a,C,B,w,rfl,n,ha,b,R⟩:=l6.mp (ni.mp r);obtain⟨u,eu,P⟩:=R.get e;exact⟨_,K,a,C,B,_,u,rfl,q _ _ ha,(j C n).1,(j C n).2,by rw[k_ g];exact eu,k u G H (.refl q) P⟩
    ·cases e4 with
     |@ins _ _ _ _ _ C B w S n ea b t=>
      have s:(E.map (dH fk))[m]?=Y .lf:=by rw[aV,pG g,<- xj hl];rfl
      obtain⟨D,T1,U1,f1,T,_⟩:=t.at s e;cases T with
      |leaf r=>exact⟨_,K,a,C,B,_,D,rfl,ea,(j C n).1,(j C n).2,by rw[k_ g];exact f1,k D G H (.refl q) r⟩
   ·cases e
  ·cases e
end
def Kd(b:Bool)(j:Nat)(ρ:bY):Option (Nat×zQ):=match b,eV j ρ with
 |false,Y (.obj _ _)=>Y (j,[])|true,Y (.kf r p)=>Y (r,p)|_,_=>M
def Ab(r:Nat)(ρ:bY):Option (Sk×D):=match eV r ρ with|some (.obj s t)=>Y (s,t)|_=>M
def mC{s:Sk}(h:Ab r ρ=Y (s,t)):ρ[r]?=Y (Y (.obj s t)):=by
 unfold Ab at h;split at h
 ·rename_i e;cases h;exact gY e
 ·cases h
section
variable {K:aT}
def SR.Kd(S:SR K B Z G H J ρ)(h:Kd b j ρ=Y (r,p))(d:j∈Z)(u:b=Z'->Dw j∈Z):r∈Z/\∃s t a f,ρ[r]?=Y (Y (.obj s t))/\J[r]?=Y (Y (.ref a))/\J[j]?=Y (Y f)/\hG H p (.ref a)=Y f:=by
 unfold L2.Kd at h;split at h
 ·rename_i e;cases h;have e:=gY e;obtain⟨a,T,c,_⟩:=S.tree d e;exact⟨d,_,_,a,_,e,c,c,rfl⟩
 ·rename_i e;cases h;obtain⟨k,C,q,o,y,w,n,i,g,x,v,z⟩:=S.kf j r p d (u rfl) (gY e);obtain⟨a,T,c,_⟩:=S.tree k i;rw[c]at g;cases g;exact⟨k,q,o,a,n,i,c,x,v⟩
 ·cases h
def yp(d:x∈T):bG (jN H T) (de H x o):=λb u e=>by
 by_cases c:b∈T
 ·rw[ma c]at e;cases e
 ·rw[d4 c]at e;have a:b≠x:=λz=>c (z ▸ d)
  rw[aS a];exact e
def SR.SH{s:Sk}{f:aG}{l:List D}{d:D}{v:V}(S:SR K B Z G H J ρ)(Q:r∈Z)(R:ρ[r]?=Y (Y (.obj s t)))(w:nX p s=Y (.fs c fk))(ep:oQ p t=Y (.ins c h l))(hf:DZ (dH fk f)=Z')(ha:f∉JX)(rv:cK K G d v):
  ∃a x C k i,J[r]?=Y (Y (.ref a))/\hG H p (.ref a)=Y (.ref x)/\vd K br c=Y (Y (.ref C))/\H x=Y (.ins C k (h.zip i))/\h.length=i.length /\
   SR K B Z G (de H x (.ins C k (lp f v (h.zip i)))) J (ρ.set r (Y (.obj s (nT (.ins c (lC f d h l).1 (lC f d h l).2) p t)))):=by
 obtain⟨a,T,e1,o1,nd,P,F,W,hF⟩:=S.tree Q R;obtain⟨x,C,k,i,h1,X,h3,U,h5,h6,T',o2,u,n⟩:=o1.put (f:=f) (d:=d) (u:=v) (S1:=[]) nd w ep (bG.refl G) (λ_ _ _ e=>e) (by rw[xj hf];exact .leaf rv) Ž (λb j=>by cases j);refine⟨a,x,C,k,i,e1,h1,h3,U,h6,S.Rl W hF Q R e1 ⟨yp X,bG.refl _,λb o e =>?_,λb o e =>.inl e⟩ o2 u (λb j =>?_) λq v' hq hv =>?_⟩
 ·have E:b≠x:=λz=>by rw[z,(P x X).1]at e;cases e
  rw[aS E];exact S.gh b o e
 ·rcases n b j with z|z
  ·exact⟨(P b z).1,.inl z⟩
  ·cases z
 ·refine uG U bh (λb j o e=>by rw[aS j];exact e) (λg hg =>?_) hv;have y:g≠f:=λz=>ha (z ▸ hq g hg)
  rw[qO,if_neg y]
def SR.Gr{s:Sk}{X:D}(S:SR K B Z G H J ρ)(hr:r∈Z)(hd:ρ[r]?=Y (Y (.obj s t)))(w:nX p s=Y u)(ep:oQ p t=Y X):
  ∃a x i,J[r]?=Y (Y (.ref a))/\hG H p (.ref a)=Y x/\dm K G H u X x i/\i.Nodup/\(∀b∈i,G b=M) /\
   ∀(g:D) (f:List az) (N L:Hp),gv G (jN H i) N L->dm K N L u g x f->f.Nodup->(∀b∈f,N b=M/\(b∈i\/H b=M))->SR K B Z N L J ((eU r ρ).set r (Y (.obj s (nT g p t)))):=by
 obtain⟨a,T,e1,C,nd,nf,F,W,hF⟩:=S.tree hr hd;obtain⟨x,i,U,h1,o2,v,k1⟩:=C.focus w ep;have k:=v.nodup_iff.mp nd;rw[gm]at k;obtain⟨n1,n2,n3⟩:=k;have h:∀b∈i,b∈T:=λb d=>v.symm.subset (aJ _ d)
 have n:∀b∈U,b∈T:=λb d=>v.symm.subset (aH _ d)
 have R:∀b∈U,b∉i:=λb d Q=>n3 b Q b d rfl
 refine⟨a,x,i,e1,h1,o2,n1,λb d=>(nf b (h b d)).1,λg f N L E nw l j =>?_⟩;obtain⟨T',o3,p3⟩:=k1 N L g f E.gg (λb d o e=>E.hh b o (by rw[d4 (R b d)];exact e)) nw;refine S.Cr W hF hr hd e1 ⟨λb o e =>?_,E.gg,E.gh,λb o e =>?_⟩ o3 ?_ λb d =>?_
 ·by_cases d:b∈T
  ·rw[ma d]at e;cases e
  ·rw[d4 d]at e;exact E.hh b o (by rw[d4 (λz=>d (h b z))];exact e)
 ·rcases E.fr b o e with z|z
  ·exact .inl z
  ·refine .inr ?_;by_cases d:b∈T
   ·rw[ma d]
   ·rw[d4 d];rw[d4 (λz=>d (h b z))]at z;exact z
 ·rw[p3.nodup_iff,gm];refine⟨l,n2,λb d c hc z =>?_⟩;subst z;rcases(j b d).2 with z|z
  ·exact R b hc z
  ·obtain⟨o,P,_⟩:=C.here b (n b hc);rw[P]at z;cases z
 ·rcases aD.mp (p3.subset d) with q|q
  ·refine⟨(j b q).1,?_⟩;rcases(j b q).2 with z|z
   ·exact .inl (h b z)
   ·exact .inr z
  ·refine⟨?_,.inl (n b q)⟩;rcases z:N b with _|o
   ·rfl
   rcases E.fr b o z with y|y
   ·rw[(nf b (n b q)).1]at y;cases y
   ·obtain⟨o,P,_⟩:=C.here b (n b q);rw[d4 (R b q),P]at y;cases y
end
mutual
def Sk.zk:Sk->Sk->Bool
 |.lf,.lf=>Z'|.li s,.li t=>Sk.zk s t|.fs c k,.fs d l=>decide (c=d)&&Sk.JJ k l|.di,.di=>Z'|_,_=>Z_
def Sk.JJ:List (aG×Sk)->List (aG×Sk)->Bool
 |[],[]=>Z'|(c,s)::k,(d,t)::l=>decide (c=d)&&(Sk.zk s t&&Sk.JJ k l)|_,_=>Z_
end
mutual
theorem Sk.tD:∀ {s t:Sk},Sk.zk s t=Z'->s=t
 |.lf,.lf,_=>rfl|.di,.di,_=>rfl|.li s,.li t,h=>by rw[Sk.tD (s:=s) (t:=t) (by simpa only [Sk.zk] using h)]
 |.fs c k,.fs d l,h=>by simp only[Sk.zk,aO,decide_eq_true_eq]at h;rw[h.1,Sk.HP h.2]
 |.lf,.li _,h=>by simp[Sk.zk]at h
 |.lf,.fs _ _,h=>by simp[Sk.zk]at h
 |.lf,.di,h=>by simp[Sk.zk]at h
 |.li _,.lf,h=>by simp[Sk.zk]at h
 |.li _,.fs _ _,h=>by simp[Sk.zk]at h
 |.li _,.di,h=>by simp[Sk.zk]at h
 |.fs _ _,.lf,h=>by simp[Sk.zk]at h
 |.fs _ _,.li _,h=>by simp[Sk.zk]at h
 |.fs _ _,.di,h=>by simp[Sk.zk]at h
 |.di,.lf,h=>by simp[Sk.zk]at h
 |.di,.li _,h=>by simp[Sk.zk]at h
 |.di,.fs _ _,h=>by simp[Sk.zk]at h
theorem Sk.HP:∀ {k l:List (aG×Sk)},Sk.JJ k l=Z'->k=l
 |[],[],_=>rfl|(c,s)::k,(d,t)::l,h=>by simp only[Sk.JJ,aO,decide_eq_true_eq]at h;rw[h.1,Sk.tD h.2.1,Sk.HP h.2.2]
 |[],_::_,h=>by simp[Sk.JJ]at h
 |_::_,[],h=>by simp[Sk.JJ]at h
end
def D0(c:aG)(s:Sk)(t:D)(p:zQ):Option (List (aG×Sk)×List aG×List D):=match nX p s,oQ p t with
 |some (.fs f d),Y (.ins a b e)=>if f=c/\a=c then Y (d,b,e) else M
 |_,_=>M
def vX{s:Sk}(h:D0 c s t p=Y (b,a,d)):nX p s=Y (.fs c b)/\oQ p t=Y (.ins c a d):=by
 unfold D0 at h;split at h
 ·rename_i i f;split at h
  ·rename_i e;obtain⟨rfl,rfl⟩:=e;cases h;exact⟨i,f⟩
  ·cases h
 ·cases h
section
variable {X:Cx}
def kQ(b:Bool)(j:Nat)(c f:aG)(h:DF):DG:=λa=>(h a).bind λd=>(Kd b j a).bind λq=>(Ab q.1 a).bind λe=>(D0 c e.1 e.2 q.2).bind λz=>
 if DZ (dH z.1 f)=Z'/\z.2.1.length<999 then Y (.nx (a.set q.1 (Y (.obj e.1 (nT (.ins c (lC f d z.2.1 z.2.2).1 (lC f d z.2.1 z.2.2).2) q.2 e.2))))) else M
def pO{b:Bool}{c f:aG}(h:PE X (.Name x p) (jf j))(he:PE X e (tP X.K Z y))(w:r_ X.K c f)(hj:autoParam (j∈Z) ű)(hb:autoParam (b=Z'->Dw j∈Z) ű)(ha:autoParam (f∉JX) ű)(hs:autoParam (dS e (Y (.Attribute (.Name x p) f A)) g.line X.env=fi false) ų):PS X (.Assign [.Attribute (.Name x p) f A] e g) (k7 X.K B I Z Z (kQ b j c f y)):=(Fs h he hs).imp <|by
 rintro D σ H ⟨G,q,o,S,i,k⟩;unfold kQ at i;obtain⟨d,ef,i⟩:=aa.1 i;rcases l:Kd b j q with _|⟨r,T⟩
 ·simp[l]at i
 rcases n:Ab r q with _|⟨s,t⟩
 ·simp[l,n]at i
 rcases u:D0 c s t T with _|⟨fk,ks,ds⟩
 ·simp[l,n,u]at i
 simp only[l,n,u,ae]at i;split at i
 ·rename_i hz;cases i;obtain⟨i1,U⟩:=vX u;refine⟨G,q,d,S.gh,S.jy,ef,λv G' H' E R =>?_⟩;have P:=S.ext E;obtain⟨hr,s',t',a,v',J,e2,e3,e4⟩:=P.Kd l hj hb;have m:=mC n;rw[m]at J;cases J;obtain⟨a',Q,C,dx,vs,K,F,z,f4,f5,f6⟩:=P.SH (f:=f) (d:=d) hr m i1 U hz.1 ha R;rw[e2]at K;cases K;rw[e4]at F;cases F;refine⟨_,e3,Q,C,dx,_,rfl,f4,(w C z).1,(w C z).2,?_,k _ G' _ f6⟩;rw[wY f5];omega
 ·cases i
def mK(b:Bool)(j:Nat)(c f:aG)(h:Int->Int->Int)(i:DF):DG:=λa=>(i a).bind λd=>(Kd b j a).bind λq=>(Ab q.1 a).bind λe=>(D0 c e.1 e.2 q.2).bind λz=>match (z.2.1.zip z.2.2).lookup f,d with
 |some (.int m),.int n=>if DZ (dH z.1 f)=Z'/\z.2.1.length<999 then Y (.nx (a.set q.1 (Y (.obj e.1 (nT (.ins c (lC f (.int (h m n)) z.2.1 z.2.2).1 (lC f (.int (h m n)) z.2.1 z.2.2).2) q.2 e.2))))) else M
 |_,_=>M
theorem we{f:aG}:∀ {ks:List aG}{ds:List D}{u:D},(ks.zip ds).lookup f=Y u->∃m,xy f ks=Y m/\ds[m]?=Y u
 |[],a,u,h=>by simp at h
 |k::ks,[],u,h=>by simp at h
 | k::ks,v::a,u,h=>by
  simp only[ck,dy]at h;cases e:(f==k) with
  |true=>rw[e]at h;cases h;exact⟨0,by simp[xy,e],rfl⟩
  |false=>rw[e]at h;obtain⟨m,c,b⟩:=we (ks:=ks) (ds:=a) h;exact⟨m+1,by simp[xy,e,c],by simpa using b⟩
theorem SR.Yv{K:aT}{o:bY}{s:Sk}{f:aG}{v:List D}(S:SR K B Z G H k o)(Q:r∈Z)(hd:o[r]?=Y (Y (.obj s t)))(J:nX q s=Y (.fs c h))(ep:oQ q t=Y (.ins c b v))(X:DZ (dH h f)=Z')(R:(b.zip v).lookup f=Y d):
  ∃a x C j e u,k[r]?=Y (Y (.ref a))/\hG H q (.ref a)=Y (.ref x)/\vd K br c=Y (Y (.ref C))/\H x=Y (.ins C j (b.zip e))/\(b.zip e).lookup f=Y u/\cK K G d u:=by
 obtain⟨a,T,e1,P,nd,nf,F,W,hF⟩:=S.tree Q hd;obtain⟨x,T1,U,h1,g,p1,k1⟩:=P.focus J ep;cases g with
 |@ins _ _ _ _ w C j e S0 n ex l z=>
  obtain⟨m,p,e2⟩:=we R;have i:(b.map (dH h))[m]?=Y .lf:=by rw[aV,pG p,<- xj X];rfl
  obtain⟨y,T1,U1,f1,E,_⟩:=z.at i e2;cases E with
  |leaf r=>exact⟨a,w,C,j,e,y,e1,h1,n,ex,by rw[k_ p];exact f1,r⟩
def pM{b:Bool}{c f:aG}{op:Int->Int->Int}{o:Operator}(y:Ng X o (Oa op))(h:PE X (.Name x p) (jf j))(he:PE X e (tP X.K Z fe))(hc:r_ X.K c f)(hj:autoParam (j∈Z) ű)(hb:autoParam (b=Z'->Dw j∈Z) ű)(ha:autoParam (f∉JX) ű):
  PS X (.AugAssign (.Attribute (.Name x p) f A) o e g) (k7 X.K B I Z Z (mK b j c f op fe)):=(Jd h he y).imp <|by
 rintro D σ H ⟨G,w,o,S,i,k⟩;unfold mK at i;obtain⟨d,ef,i⟩:=aa.1 i;rcases q:Kd b j w with _|⟨r,pt⟩
 ·simp[q]at i
 rcases u:Ab r w with _|⟨s,t⟩
 ·simp[q,u]at i
 rcases K:D0 c s t pt with _|⟨fk,ks,ds⟩
 ·simp[q,u,K]at i
 simp only[q,u,K,ae]at i;split at i
 ·rename_i m n z;split at i
  ·rename_i T;cases i;obtain⟨R,Q⟩:=vX K;obtain⟨U,s',t',a,v',e1,e2,e3,e4⟩:=S.Kd q hj hb;have l:=mC u;rw[l]at e1;cases e1;obtain⟨a1,x1,P,J,vs1,u1,g1,g2,F,g4,g5,g6⟩:=S.Yv U l R Q T.1 z;rw[e2]at g1;cases g1;rw[e4]at g2;cases g2;cases cC.mp g6;refine⟨_,e3,x1,P,J,_,_,rfl,g4,(hc P F).1,(hc P F).2,g5,G,w,_,S.gh,S.jy,ef,λv G' H' E r =>?_⟩;cases cC.mp r;have S':=S.ext E;obtain⟨a',x',C,dx,vs,f1,f2,f3,f4,f5,f6⟩:=S'.SH (f:=f) (d :=.int (op m n)) (v :=.int (op m n)) U l R Q T.1 ha (cC.mpr rfl);rw[e2]at f1;cases f1;rw[kY E.hh e4]at f2;cases f2;rw[F]at f3;cases f3;refine⟨_,_,rfl,rfl,dx,_,f4,?_,k _ G' _ f6⟩;rw[wY f5];omega
  ·cases i
 ·cases i
inductive Ua (K:aT) (Z:List Nat) (s:Sk) (f:DF) (i:St) (H:Hp) (Q:VK):Prop
 |mk G h d:bG G H->ki K Z G H i h->f h=some d->(∀v a e c,gv G H e c->dm K e c s d v a->a.Nodup->(∀b∈a,e b=none/\H b=none)->Q v c)->Ua K Z s f i H Q
def Tf{s:Sk}:PE X (.List [] g) (Ua X.K Z (.li s) (eK (.lst []))):=(gc (Z:=Z) aQ).imp <|by
 rintro o H Q ⟨G,f,d,j,a,l,k⟩;cases l;refine⟨G,f,[],j,a,rfl,λq p n m E i h e r =>?_⟩;rw[dD.mp r]at e;exact k (.ref q) [q] n m E (.lst e .nil) Ž (λb c=>by simp at c;subst c;exact⟨h,i⟩)
abbrev pi:=eK (.fT [] [])
def MQ:PE X (.Dict [] [] g) (Ua X.K Z .di pi):=Dk.imp <|by
 rintro i H Q ⟨G,j,d,e,h,f,k⟩;cases f;exact λq a=>k (.ref q) [q] G _ (gv.lay (o :=.dK [] 0) e a) (.fT (ks:=[]) (ds:=[]) (vs:=[]) bh rfl .nil) Ž (λb c=>by simp at c;subst c;exact⟨e.free a,a⟩)
def Tb{s:Sk}{f:DF}(h:PE X e (Ua X.K Z s f)):PE X e (tP X.K Z f):=h.imp <|by
 rintro t H Q ⟨G,m,d,p,i,q,k⟩;refine⟨G,m,d,p,i,q,λv j r l E n u c=>k v (kd r l j) l ⟨E.hh,E.gg.trans (oH λb a=>(c b a).1),oI E.gh,λb o e =>?_⟩ (n.frozen (λb a=>(c b a).1) λb a=>a)⟩;by_cases a:b∈j
 ·exact .inr (c b a).2
 ·rw[mO a]at e;exact E.fr b o e
def mJ(j:Nat)(c f:aG)(l:Sk)(m:DF):DG:=λa=>(m a).bind λd=>(Ab j a).bind λh=>match h.1,h.2 with
 |.fs n i,.ins e b k=>if (n=c/\e=c)/\Sk.zk (dH i f) l=Z'/\b.length<999 then Y (.nx ((eU j a).set j (Y (.obj (.fs c i) (.ins c (lC f d b k).1 (lC f d b k).2))))) else M
 |_,_=>M
def SR.Of{K:aT}{v g:Hp}{X:St}{f:aG}(S:SR K B Z G H X ρ)(hr:r∈Z)(hd:ρ[r]?=Y (Y (.obj (.fs c fk) (.ins c n U))))(E:gv G H v g)(o1:dm K v g (dH fk f) d u S1)(nd1:S1.Nodup)(m:∀b∈S1,v b=M/\H b=M):
  ∃x C Q w,X[r]?=Y (Y (.ref x))/\vd K br c=Y (Y (.ref C))/\g x=Y (.ins C Q (n.zip w))/\n.length=w.length /\
   SR K B Z v (de g x (.ins C Q (lp f u (n.zip w)))) X ((eU r ρ).set r (Y (.obj (.fs c fk) (.ins c (lC f d n U).1 (lC f d n U).2)))):=by
 obtain⟨a,T,e1,ot,nd,nf,F,W,hF⟩:=S.tree hr hd;have inH:∀b∈T,∃o,H b=Y o:=λb l=>by obtain⟨o,s,_⟩:=ot.here b l;exact⟨o,s⟩
 have dj:∀b∈S1,b∉T:=λb l Yo=>by obtain⟨o,s⟩:=inH b Yo;rw[(m b l).2]at s;cases s
 obtain⟨x,C,Q,w,h1,h2,h3,h4,h5,h6,T',o2,RV,sub⟩:=ot.put (p:=[]) (f:=f) nd rfl rfl E.gg (λb _ o e=>E.hh b o e) o1 nd1 dj;cases h1;have hu:=rq (r:=r) hd (λq z=>by cases z);have S':=(S.ext E).Q5 (r:=r);have Wx:=W.ext E;have W':qZ K B Z v g X (eU r ρ) F:=⟨λi d P e=>Wx.it i d P (dY e).1,λi d P e=>Wx.ok i d P (dY e).1,λi j d c P hj ei ej=>Wx.ap i j d c P hj (dY ei).1 (dY ej).1⟩;have gT:∀b∈T,v b=none:=λb l=>by rw[<- hF]at l;exact((Wx.ok r _ hr hd).2 b l).1
 have R:=S'.V4 (i:=r) (a:=a) (d' :=.obj (.fs c fk) (.ins c (lC f d n U).1 (lC f d n U).2)) (F0:=T) (S':=T') (G':=v) (H':=de g a (.ins C Q (lp f u (n.zip w)))) W' hr (λb l=>⟨by rw[hF];exact l,_,hu⟩) (bG.refl _) (λb o e=>by
   have t:b≠a:=λz=>by rw[z,gT a h2]at e;cases e
   rw[aS t];exact E.gh b o e) (λb o e =>.inl e) (λb o l e=>by
   have t:b≠a:=λz=>l (z ▸ h2)
   rw[aS t];exact e) o2 RV (λb l=>by
   rcases sub b l with z|z
   ·exact⟨gT b z,.inl z⟩
   ·refine⟨(m b z).1,.inr (.inr ⟨S.h0.free (m b z).2,λk c hk ek Sv hbk =>?_⟩)⟩;obtain⟨y,f1,f2⟩:=W.it k c hk (dY ek).1;obtain⟨o,s⟩:=f2.here b hbk;rw[(m b z).2]at s;cases s) (λb h=>by have:=(S.pin r b h).2;rw[e1]at this;cases this;rfl) (λr p z=>by cases z)
  (λj p _ _ _ e=>absurd rfl ((dY e).2 p))
 have R:=R.1;rw[jI e1]at R;exact⟨a,C,Q,w,e1,h3,E.hh _ _ h4,h6,R⟩
def uT{c f:aG}{s1:Sk}(h:PE X (.Name x p) (jf j))(P:PE X e (Ua X.K Z s1 q))(n:r_ X.K c f)(J:autoParam (j∈Z) ű)(K:autoParam (dS e (Y (.Attribute (.Name x p) f A)) g.line X.env=fi false) ų):PS X (.Assign [.Attribute (.Name x p) f A] e g) (k7 X.K B I Z Z (mJ j c f s1 q)):=(Fs h P K).imp <|by
 rintro D σ H ⟨G,l,o,S,a,k⟩;unfold mJ at a;obtain⟨d,ef,a⟩:=aa.1 a;rcases i:Ab j l with _|⟨s,t⟩
 ·simp[i]at a
 simp only[i,ae]at a;split at a
 ·rename_i c' fk YE ks ds;split at a
  ·rename_i F;obtain⟨⟨rfl,rfl⟩,b,z⟩:=F;cases a;have Q:=mC i;refine⟨G,l,d,S.gh,S.jy,ef,λv S1 G' H' E m y w =>?_⟩;rw[<- Sk.tD b]at m;obtain⟨u,C,dx,vs,f1,r,U,T,R⟩:=S.Of J Q E m y w;refine⟨_,f1,u,C,dx,_,rfl,U,(n C r).1,(n C r).2,?_,k _ G' _ R⟩;rw[wY T];omega
  ·cases a
 ·cases a
end
def xH(c f:aG)(j:Nat)(A:bY):Option (List (aG×Sk)×List aG×List D×D):=(Ab j A).bind λb=>match b.1,b.2 with
 |.fs k i,.ins a d e=>if k=c/\a=c then (xy f d).bind λn=>(e[n]?).map λh=>(i,d,e,h) else M
 |_,_=>M
def vr{f:aG}{m:List D}(h:xH c f j A=Y (a,e,m,o)):A[j]?=Y (Y (.obj (.fs c a) (.ins c e m)))/\nX [.fld f] (.fs c a)=Y (dH a f)/\oQ [.fld f] (.ins c e m)=Y o:=by
 unfold xH at h;rcases i:Ab j A with _|⟨s,t⟩
 ·rw[i]at h;cases h
 rw[i]at h;simp only[ae]at h;split at h
 ·rename_i u q r d l;split at h
  ·rename_i p;obtain⟨rfl,rfl⟩:=p;rcases b:xy f d with _|n
   ·simp[b]at h
   rcases k:l[n]? with _|y
   ·simp[b,k]at h
   simp only[b,k,ae,bP,mj,Prod.mk.injEq]at h;obtain⟨rfl,rfl,rfl,rfl⟩:=h;exact⟨mC i,rfl,by simp[oQ,b,k]⟩
  ·cases h
 ·cases h
abbrev Jc(c f:aG)(b:List (aG×Sk))(a:List aG)(d:List D)(x:D):D :=.obj (.fs c b) (nT x [.fld f] (.ins c a d))
section
variable {K:aT}
theorem SR.SG{f:aG}{s:List (aG×Sk)}{v:List D}(S:SR K B Z G H J A)(p:r∈Z)(q:A[r]?=Y (Y (.obj (.fs c s) (.ins c e v))))(t:J[r]?=Y (Y (.ref a)))(b:hG H [.fld f] (.ref a)=Y x):
  ∃C d h,vd K br c=Y (Y (.ref C))/\H a=Y (.ins C d h)/\h.lookup f=Y x:=by
 obtain⟨y,T,k,o,_⟩:=S.tree p q;rw[t]at k;cases k;cases o with
 |@ins _ _ _ _ _ C d m z n i l w=>refine⟨C,d,_,n,i,?_⟩;simp only[hG,i]at b;obtain⟨u,j,b⟩:=aa.1 b;rw[j];simp at b;rw[b]
def SR.GO{p:zQ}{s:Sk}(S:SR K B Z G H J A)(E:r∈Z)(F:A[r]?=Y (Y (.obj s t)))(g:nX p s=Y j)(I:oQ p t=Y n):
  ∃a x f,J[r]?=Y (Y (.ref a))/\hG H p (.ref a)=Y x/\dm K G H j n x f/\f.Nodup /\
   ∀(l:az) (o:HO) (d:D) (c:List az),l∈f->dm K G (de H l o) j d x c->c.Nodup->(∀b∈c,b∈f)->SR K B Z G (de H l o) J ((eU r A).set r (Y (.obj s (nT d p t)))):=by
 obtain⟨a,x,f,R,P,w,C,q,k⟩:=S.Gr E F g I;refine⟨a,x,f,R,P,w,C,λl o d c v y m h=>k d c G _ ⟨yp v,bG.refl _,λb u e =>?_,λb u e =>.inl e⟩ y m λb i=>⟨q b (h b i),.inl (h b i)⟩⟩;have i:b≠l:=λz=>by rw[z,q l v]at e;cases e
 rw[aS i];exact S.gh b u e
end
section
variable {X:Cx}
def Dd(j:Nat)(c f:aG)(b:DF):DG:=λA=>(xH c f j A).bind λq=>(b A).bind λd=>match q.2.2.2 with
 |.lst a=>if Sk.zk (dH q.1 f) (.li .lf)=Z'/\a.length<dA then Y (.nx ((eU j A).set j (Y (Jc c f q.1 q.2.1 q.2.2.1 (.lst (a++[d])))))) else M
 |_=>M
def Pg{c f:aG}(h:PE X (.Name x p) (jf j))(he:PE X e (tP X.K Z fe))(hc:r_ X.K c f)(hj:autoParam (j∈Z) ű)(VI:autoParam (b_ (.Name x p) f X.env (eval (.Name x p) X.env)=eval (.Name x p) X.env) ų)(s:autoParam (b_ (.Attribute (.Name x p) f I) "append" X.env (eval (.Attribute (.Name x p) f I) X.env)=eval (.Attribute (.Name x p) f I) X.env) ų) (u:autoParam (((c6 N (aq (e::[]) X.env)).all (λx=> !x.1)&&(gV N (dF [] X.env)).all (λx=>x.1.isSome)
   && decide ((e::[]).length+([]:List kL).length+(if ([]:List kL).isEmpty then 0 else 1)<30))=true) ų) (q:autoParam ((U.endLine==N.line)=true) ų) (hs:autoParam (aq (e::[]) X.env=(Z_,eval e X.env)::aq [] X.env) ų) (m:autoParam ((c6 N (aq [] X.env)).any (·.1)=false) ų) (hsw:autoParam (dS (.Call (.Attribute (.Attribute (.Name x p) f I) "append" U) [e] [] N) M L.line X.env=fi false) ų) :
  PS X (.Expr (.Call (.Attribute (.Attribute (.Name x p) f I) "append" U) [e] [] N) L) (k7 X.K B Q Z Z (Dd j c f fe)):=
 (l9 (uq gU PySem.F.slot_list_append PySem.F.type_list_append kX (qJ h VI) (cM he fK hs) s u q hs m) hsw).imp <|by
  rintro D J H ⟨G,A,o,S,i,k⟩;unfold Dd at i;obtain⟨⟨fk,ks,ds,t1⟩,et,i⟩:=aa.1 i;rcases ef:fe A with _|d
  ·simp[ef]at i
  simp only[ef,ae]at i;split at i
  ·rename_i xs;split at i
   ·rename_i hz;cases i;obtain⟨hd,i1,i2⟩:=vr et;rw[Sk.tD hz.1]at i1;obtain⟨a,y,T1,e1,e2,o1,nd,_⟩:=S.GO hj hd i1 i2;obtain⟨C,dx,fs,n,f1,f2⟩:=S.SG hj hd e1 e2;cases o1 with
    |@lst _ _ l vs S0 hl tt=>
     refine⟨_,e1,a,C,dx,fs,_,rfl,f1,(hc C n).1,(hc C n).2,f2,.inl ⟨rfl,vs,.of hl⟩,G,A,d,S.gh,S.jy,ef,λv G' H' E r =>?_⟩;have S':=S.ext E;obtain⟨a',y',T1',F,w,g,R,k'⟩:=S'.GO hj hd i1 i2;rw[e1]at F;cases F;rw[kY E.hh e2]at w;cases w;obtain⟨x',K,g1,g2,g3,g4,T2,o2,P,t⟩:=g.app (p:=[]) (d:=d) (u:=v) (S1:=[]) R rfl rfl (bG.refl _) (λ_ _ _ z=>z) (.leaf r) Ž (λb hb=>by cases hb);cases g1;refine⟨l,K,v,rfl,rfl,g3,?_,k _ G' _ (k' l _ _ T2 g2 o2 P λb hb =>?_)⟩
     ·rw[<- g4];exact bq hz.2 ft
     ·rcases t b hb with z|z
      ·exact z
      ·cases z
   ·cases i
  ·cases i
noncomputable def jz(k:hI)(d:D)(a:List hI)(b:List D):List hI×List D:=if (a.any λq=>decide (q=k))=Z' then (a,qf (λq x=>if q=k then d else x) a b) else (a++[k],b++[d])
theorem Ip:∀ {ks:List hI}{a:List V},ks.length=a.length->((ks.zip a).any λb=>decide (b.1=k))=ks.any λq=>decide (q=k)
 |[],a,h=>by simp
 |q::ks,[],h=>by simp at h
 |q::ks,v::a,h=>by simp only[ck,jG];rw[Ip (ks:=ks) (by simpa using h)]
theorem Hl{v:V}:∀ {ks:List hI}{a:List V},(ks.zip a).map (λb=>if b.1=k then (b.1,v) else b)=ks.zip (qf (λq x=>if q=k then v else x) ks a)
 |[],a=>by simp
 |q::ks,[]=>by simp
 | q::ks,u::a=>by
  simp only[ck,aW,vf,Hl (ks:=ks)];by_cases h:q=k
  ·simp[h]
  ·simp[h]
theorem uo{K:aT}{v:V}(r:cK K G d v):∀ {b:List hI}{e:List D}{a:List V},bf K G e a->bf K G (qf (λq x=>if q=k then d else x) b e) (qf (λq x=>if q=k then v else x) b a)
 |[],e,a,h=>by simp;exact .nil
 |q::b,[],a,h=>by rw[dD.mp h];simp;exact .nil
 | q::b,x::e,a,h=>by
  obtain⟨u,j,rfl,i,f⟩:=bJ.mp h;simp only[vf];refine .cons ?_ (uo r f);by_cases c:q=k
  ·rw[if_pos c,if_pos c];exact r
  ·rw[if_neg c,if_neg c];exact i
def HY{K:aT}{k:hI}{v:V}{f:List V}(r:cK K G d v)(j:a.length=b.length)(i:bf K G b f):∃c,oj (a.zip f) k v=(jz k d a b).1.zip c/\(jz k d a b).1.length=(jz k d a b).2.length/\bf K G (jz k d a b).2 c:=by
 have e:a.length=f.length:=by rw[j,i.length]
 unfold oj jz;rw[Ip e];by_cases h:(a.any λq=>decide (q=k))=Z'
 ·rw[if_pos h,if_pos h];exact⟨_,Hl,by simp[j],uo r i⟩
 ·rw[if_neg h,if_neg h];refine⟨f++[v],?_,by simp[j],i.append (.cons r .nil)⟩;rw[List.zip_append e];rfl
def pj(j:Nat)(c f:aG)(e:DF)(h:DM):DG:=λA=>(h A).bind λw=>(xH c f j w.2).bind λq=>(e w.2).bind λy=>(vV y).bind λb=>match q.2.2.2 with
 |.fT a d=>if Sk.zk (dH q.1 f) .di=Z'/\a.length<dA then Y (.nx ((eU j w.2).set j (Y (Jc c f q.1 q.2.1 q.2.2.1 (.fT (jz b w.1 a d).1 (jz b w.1 a d).2))))) else M
 |_=>M
def Eh{c f:aG}(P:X.A.units+1<mZ)(h:PE X (.Name x p) (jf j))(hi:PE X i (tP X.K Z fk))(he:PE X e (tM X.K B Z fe))(hc:r_ X.K c f)(R:autoParam (j∈Z) ű)(VI:autoParam (b_ (.Name x p) f X.env (eval (.Name x p) X.env)=eval (.Name x p) X.env) ų)(hs:autoParam (dS e (Y (.Subscript (.Attribute (.Name x p) f I) i O)) L.line X.env=fi false) ų):
  PS X (.Assign [.Subscript (.Attribute (.Name x p) f I) i O] e L) (k7 X.K B Q Z Z (pj j c f fk fe)):=(Hc P (qJ h VI) hi he hs).imp <|by
 rintro D J H ⟨G,A,o,S,b,k⟩;unfold pj at b;obtain⟨⟨d,l⟩,ef,b⟩:=aa.1 b;obtain⟨⟨fk',ks0,ZZ,t1⟩,et,b⟩:=aa.1 b;rcases w:fk l with _|y
 ·simp[w]at b
 rcases m:vV y with _|ky
 ·simp[w,m]at b
 simp only[w,m,ae]at b;split at b
 ·rename_i ks ds;split at b
  ·rename_i hz;cases b;obtain⟨hd,g,i2⟩:=vr et;rw[Sk.tD hz.1]at g;refine⟨G,A,d,l,S,ef,λv G1 H1 t s1 rv =>?_⟩;obtain⟨a,y',T1,e1,e2,o1,nd,_⟩:=t.GO R hd g i2;obtain⟨C,dx,fs,n,f1,f2⟩:=t.SG R hd e1 e2;refine⟨_,e1,a,C,dx,fs,_,rfl,f1,(hc C n).1,(hc C n).2,f2,G1,l,y,t.gh,t.jy,w,λu G2 H2 E2 ru =>?_⟩;have P:=oP m (.inl ru:iN X.K G2 H2 y u);have S2:=t.ext E2;obtain⟨a',y2,T2,s,r,o2,K,k2⟩:=S2.GO R hd g i2;rw[e1]at s;cases s;rw[kY E2.hh e2]at r;cases r;obtain⟨x',vs,g1,g2,⟨n0,g3⟩,g4,g5,g6⟩:=o2.dput (p:=[]) K rfl rfl (bG.refl _) (λ_ _ _ z=>z);cases g1;obtain⟨E,z1,z2,z3⟩:=HY (k:=ky) (cK.mono E2.gg d rv) g4 g5;refine⟨x',_,rfl,?_,λn1=>by obtain⟨T3,o3,F,q⟩:=g6 _ _ E n1 z2 z3;exact k _ G2 _ (k2 x' _ _ T3 g2 o3 F q)⟩
   rw[P];simp only[<- z1];refine J4.k g3 ?_;rw[List.length_zip,g4,g5.length,P7,<- g5.length,<- g4];exact bq hz.2 ft
  ·cases b
 ·cases b
end
section
variable {X:Cx}{f g:DF}
def C_(i:Nat):DG:=λA=>Y (.nx (A.set i (Y (.fT [] []))))
def xo{i:Nat}(u:X.N.Nodup)(q:X.N[i]?=Y x)(l:Loc X.env.scope x)(m:autoParam (i∈e) ű)(c:autoParam (∀a,(i,a)∉B.3) Ŭ)(n:autoParam (Lz i∉e) ű)(j:autoParam (dS (.Dict [] [] N) (Y (.Name x b)) J.line X.env=fi false) ų)(s:autoParam (X.fn x=Z'\/X.env.scope.names.lookup x=Y .local) Ů):
  PS X (.Assign [.Name x b] (.Dict [] [] N) J) (k7 X.K B I e e (C_ i)):=(sQ u q l Dk j s).imp <|by
 rintro D C H ⟨G,A,o,S,d,k⟩;cases d;exact λp f=>k _ G _ (S.setC m (gv.lay (o :=.dK [] 0) S.gh f) f (S.gh.free f) bh ⟨[],⟨0,rfl⟩,rfl,.nil⟩ c n)
def pq(j:Nat)(f g:DF):DG:=λA=>(g A).bind λv=>(f A).bind λy=>(vV y).bind λk=>(eV j A).bind λd=>match d with
 |.fT a e=>if a.length<dA then Y (.nx (A.set j (Y (.fT (jz k v a e).1 (jz k v a e).2)))) else M
 |_=>M
def uU(P:X.A.units+1<mZ)(h:PE X (.Name x p) (jf j))(hi:PE X i (tP X.K m f))(he:PE X e (tP X.K m g))(R:autoParam (j∈m) ű)(hs:autoParam (dS e (Y (.Subscript (.Name x p) i O)) L.line X.env=fi false) ų):
  PS X (.Assign [.Subscript (.Name x p) i O] e L) (k7 X.K B Q m m (pq j f g)):=(Hc P h hi he hs).imp <|by
 rintro D J H ⟨G,A,o,S,b,k⟩;unfold pq at b;obtain⟨v,ev,b⟩:=aa.1 b;obtain⟨y,ey,b⟩:=aa.1 b;obtain⟨F,ek,b⟩:=aa.1 b;obtain⟨d,z,b⟩:=aa.1 b;cases d<;>simp only at b<;>try (cases b;done)
 rename_i ks ds;split at b
 ·rename_i hz;cases b;refine⟨G,A,v,S.gh,S.jy,ev,λu G1 H1 E1 r1 =>?_⟩;have r:=S.ext E1;obtain⟨a,o,q,l,c,_⟩:=r.Oy R (gY z) rfl;refine⟨_,q,G1,A,y,r.gh,r.jy,ey,λw C K W r2 =>?_⟩;have I:=r.ext W;obtain⟨a',o',E,l',⟨vs,⟨n,rfl⟩,t,s⟩,_⟩:=I.Oy R (gY z) rfl;rw[q]at E;cases E;obtain⟨c,U,T,N⟩:=HY (k:=F) (cK.mono W.gg v r1) t s;refine⟨a,_,rfl,by rw[oP ek (.inl r2:iN X.K C K y w)];exact J4.k l' (by rw[List.length_zip,t,s.length,P7,<- s.length,<- t];exact bq hz ft),λn=>k _ C _ ?_⟩;show SR X.K B m C (de K a (.dK (oj (ks.zip vs) F u) n)) J _;rw[U];exact I.Vn R (gY z) q ⟨c,⟨n,rfl⟩,T,N⟩
 ·cases b
def qk(f g:DF):DF:=λa=>(f a).bind λy=>(g a).bind λv=>(vV y).map λk =>.fT [k] [v]
def uX(h:PE X e (tP X.K l f))(w:PE X v (tP X.K l g)):PE X (.Dict [Y e] [v] N) (tP X.K l (qk f g)):=(Ov (KQ h w Oj) rfl rfl Ž Ž).imp <|by
 rintro b H Q ⟨G,a,d,S,W,e,k⟩;unfold qk at e;obtain⟨y,J,e⟩:=aa.1 e;obtain⟨v,ev,e⟩:=aa.1 e;obtain⟨r,K,e⟩:=ak.1 e;cases e;intro p i;have B:=gv.lay (o :=.dK [] 0) S i;refine⟨G,a,y,B.gh,W.ext B,J,λu D R A F=>⟨D,a,v,A.gh,(W.ext B).ext A,ev,λt x C P E =>?_⟩⟩;have I:=oP K (.inl F:iN X.K D R y u);subst I;have j:=A.trans P;have L:C p=Y (.dK [] 0):=j.hh _ _ bh;have s:x p=none:=by
  rcases q:x p with _|o
  ·rfl
  rcases j.fr p o q with z|z
  ·rw[S.free i]at z;cases z
  ·rw[bh]at z;cases z
 refine⟨L,[(r,t)],rfl,Ž,λn =>?_⟩;have m:vK [] [(r,t)]=[(r,t)]:=by show oj [] r t=_;rw[KI (kvs:=[]) _ rfl];rfl
 rw[m];have O:gv G H x (de C p (.dK [(r,t)] n)):=⟨λb o e=>by rw[aS (bu e i)];exact j.hh _ _ (by rw[aS (bu e i)];exact e),j.gg,λb o e=>by rw[aS (bu e s)];exact j.gh _ _ e,λb o e=>by
  rcases j.fr b o e with z|z
  ·exact .inl z
  ·by_cases c:b=p
   ·subst c;exact .inr i
   ·rw[aS c]at z;exact .inr z⟩
 refine k _ _ _ (O.freeze i s bh) (l7.mpr ⟨p,[t],rfl,⟨n,bh⟩,rfl,.cons (cK.mono (.alloc s) _ E) .nil⟩)
def Cu:lB X (.type "dict") (λb H Q=>∃p a n,b=[.ref p]/\H p=Y (.dK a n)/\∀l n,H l=M->Q (.ref l) (de H l (.dK a n))):=by
 intro B s U H b D Q I r h;obtain⟨p,d,n,rfl,m,q⟩:=h;obtain⟨u,rfl,C⟩:=cj.one r;cases C;exact MP I ⟨n,.inl m⟩ λl g n c J=>⟨.ref l,_,J,rfl,q l n c⟩
def Mx(f:DF):DF:=λa=>(f a).bind λd=>match d with|.fT k e=>Y (.fT k e)|_=>M
def Pq(z:Gl X "dict")(y:X.mg "dict" = M)(h:PE X e (tP X.K i f))(x:hJ "dict" = Y (.type "dict"):=by exact PyProof.Rows.boot_dict)(t:autoParam (aq (e::[]) X.env=(Z_,eval e X.env)::aq [] X.env) ų):PE X (.Call (.Name "dict" p) [e] [] w) (tP X.K i (Mx f)):=
 (Ax Cu z y x (cM h fK t) ſ ſ t rfl).imp <|by
  rintro E H Q ⟨G,u,F,C,r,g,k⟩;unfold Mx at g;obtain⟨c,D,g⟩:=aa.1 g;cases c<;>simp only at g<;>try (cases g;done)
  cases g;refine⟨G,u,_,C,r,D,λv s I b o =>?_⟩;obtain⟨a,j,rfl,⟨n,e⟩,l,t⟩:=l7.mp o;exact⟨a,_,n,rfl,b.gh _ _ e,λq m d=>k _ _ _ (b.trans (gv.alloc (p:=q) b.gh d)) (l7.mpr ⟨q,j,rfl,⟨m,bh⟩,l,bf.mono (.alloc (b.gh.free d)) _ t⟩)⟩
end
def NC(f:DF):DL:=λρ=>(f ρ).bind λd=>match d with|.lst a=>Y a|.tup a=>Y a|_=>M
def Mc{f:DF}(h:NC f ρ=Y a):f ρ=Y (.lst a)\/f ρ=Y (.tup a):=by
 unfold NC at h;obtain⟨d,e,h⟩:=aa.1 h;rw[e];cases d<;>first|(cases h;exact .inl rfl)|(cases h;exact .inr rfl)|cases h
def L4{K:aT}(g:Iv K G a b)(r:bf K G n b):za K G (YN K a) n:=by
 refine⟨λi H s f =>?_,λi H s f=>⟨b,g.sq s,by rw[<- r.length];exact f⟩,λi H x B A d j h ⟨e,y⟩ z =>?_⟩
 ·have c:i<b.length:=by rw[<- r.length];exact f
  exact⟨b,b[i],g.sq s,by simp[c]⟩
 ·subst e;have p:=y b ((g.mono j).sq h);obtain⟨v,k,o⟩:=r.get z;rw[p]at k;cases k;exact⟨A,.refl h,cK.mono j d o⟩
section
variable {X:Cx}
def MT{prog:be}{w:dz}{A:jd}{E:ai->ay->Prop}{Q:ai->ay->Prop}{s:ay}{t b:az}{a:List ai}(K:IsTup s.heap t #[])(d:IsTup s.heap b a.toArray)(J:Q (.ref b) s):bz (bD prog w) A (dB .Add (.ref t) (.ref b)) Q E s:=by
 obtain⟨⟨P,D,F,r⟩,m,C,n,x⟩:=id K;obtain⟨⟨H,l,p,g⟩,c,k,u,h⟩:=id d;simp only at C x k h;subst C x k h;exact concat_meets ⟨_,m,rfl⟩ ⟨_,c,rfl⟩ Nq seq_tuple_add PySem.F.slot_tuple_add PySem.F.entry_tuple_add (PySem.F.args_tuple_add_2 _ _)
  (tuple_addW0 t b #[] a.toArray n u D l r g rfl) ⟨m,c,J⟩
def U7(K:aT):R2:=λx y H Q=>∃a b ys,x=.ref a/\y=.ref b/\vi K H a []/\vi K H b ys/\Q (.ref b) H
def K9:mz X (dB .Add) (U7 X.K):=by
 intro B s U H x y v u Q I l k h;obtain⟨a,b,ys,rfl,rfl,C,A,q⟩:=h;cases l;cases k;obtain⟨r,e,p,_⟩:=I.tuple C;obtain⟨f,c,p2,_⟩:=I.tuple A;have z:=cj.zero e;subst z;exact MT p p2 ⟨.ref b,H,I,rfl,q⟩
def yh:D->D->Option D
 |.tup a,.tup b=>if a.length+b.length<=dA then Y (.tup (a++b)) else M
 |_,_=>M
def BM:zm X (dB .Add) yh:=by
 refine mz.imp (OB.or K9) ?_;rintro x y H Q ⟨G,u,t,d,e,h,g,c,q⟩;unfold yh at c;split at c<;>try (cases c;done)
 rename_i xs ys;split at c<;>cases c
 rename_i f;have hr:cK X.K G (.tup xs) x:=by
  rcases h with h|⟨_,_,_,_,c⟩
  ·exact h
  ·exact c.elim
 have gr:cK X.K G (.tup ys) y:=by
  rcases g with h|⟨_,_,_,_,c⟩
  ·exact h
  ·exact c.elim
 obtain⟨a,l,s,o,j⟩:=h.tup e;obtain⟨b,m,r,n,i⟩:=g.tup e;subst s r;by_cases z:l=[]
 ·subst z;have w:xs=[]:=EW (by rw[j.length];rfl);subst w;refine .inr ⟨a,b,m,rfl,rfl,o,n,q _ G H (.refl e) ?_⟩;exact gr
 ·refine .inl ⟨a,b,l,m,rfl,rfl,o,n,z,?_,λy =>?_,λ_ p k=>q _ _ _ (gv.alloc (p:=p) e k) ?_⟩
  ·rw[<- j.length,<- i.length];exact a7 f ft
  ·subst y;have w:ys=[]:=EW (by rw[i.length];rfl);subst w;rw[bx]at q;exact q _ G H (.refl e) hr
  ·exact mM ⟨p,_,rfl,bh,bf.mono (.alloc (e.free k)) _ (j.append i)⟩
end
section
variable {X:Cx}{e:Expr}{f:DF}{Z:List Nat}{p j:Pos}
def QQ{L:Expr}(h:PE X e (tP X.K Z f)):PI X L e (Ad X.K Z (NC f)):=by
 rintro B s l H R I ⟨G,ρ,p,n,b,o,k⟩;rcases Mc o with o|o
 ·refine Hd h B s l H R I ⟨G,ρ,_,n,b,o,λv A w d j =>?_⟩;obtain⟨a,g,rfl,c,i⟩:=cU.mp j;exact⟨a,rfl,⟨g,.of (d.gh _ _ c)⟩,k _ A w d (AU c i)⟩
 ·refine Rv h B s l H R I ⟨G,ρ,_,n,b,o,λv A w d j =>?_⟩;obtain⟨a,g,rfl,c,i⟩:=eE.mp j;exact⟨a,rfl,⟨g,c.sq d.gh⟩,k _ A w d (L4 c i)⟩
end
end L2
namespace L2
open PySem PySem.MeetsSeq PySem.MeetsSeq2 PySem.SeqAt
def wG{g:Model}{s:ay}{r:Std.Legacy.Range}(f:Nat->c->Sem (ForInStep c))(I:List Nat->c->ay->Prop)(Q:c->ay->Prop)(kj:∀x a b s,I (x::a) b s->bz g A (f x b) (λr e=>match r with|.yield d=>I a d e|.done d=>Q d e) E s)(qe:∀b s,I [] b s->Q b s)(b:c)(h:I (TV r.start r.size r.step) b s):bz g A (forIn r b f) Q E s:=by
 rw[Std.Legacy.Range.forIn_eq_forIn_range'];exact wpAny_forIn_list f I Q kj qe _ b h
def zt(l:az)(a:Array ai)(n:Nat)(G:Option az)(v:Array (Option ai))(x:ai)(e:ai->Bool)(j:Nat)(I:j<a.size)(r:e a[j]=Z')(q:∀m (H:m<a.size),m<j->e a[m]=Z_):
  Meets (Builtin.«tuple.index» ⟨[.ref l,x],[]⟩)
   (λA R s=>s.heap.get? l=Y { cls :=.type "tuple",dict:=G,data :=.seq a n,slots:=v }/\(∀y,y∈a->EqAt A.in1 s y x (e y))/\R (.ok (.ret (.int j s.toks))) { s with toks:=s.toks+1 }):=
 .of_wp λk w A R s h=>by
  obtain⟨B,g,d,u,z⟩:=s;obtain⟨C,E,h⟩:=h
  wp_walk using wpAny_loadPart' C,wG _ (λc b p=>b.1=M/\p=⟨B,g,d,u,z⟩/\∃i,i<=j/\c=TV i (a.size-i)) _
  case kj=>
   rintro y c b p ⟨F,rfl,i,D,o⟩;have f:i<a.size:=by omega
   rw[show a.size-i=(a.size-(i+1))+1 by omega,List.range'_succ]at o;cases o;rw[Array.getElem?_eq_getElem f];refine aE (E _ (Array.getElem_mem f) k w _ _ ?_);by_cases t:y=j
   ·subst t;rw[r]
    wp_walk
    exact⟨_,rfl,h⟩
   ·rw[q y f (by omega)]
    wp_walk
    exact⟨rfl,rfl,y+1,ž,rfl⟩
  case qe=>rintro⟨K,J⟩ p ⟨F,rfl,i,D,o⟩;have:=congrArg List.length o;simp at this;omega
  case h=>exact⟨rfl,rfl,0,fD _,by simp[Std.Legacy.Range.size]⟩
end L2
namespace L2
open PySem PySem.Spec PyProof.Rows
section
variable {X:Cx}{f g:DF}
def Mw(f:DF)(m n:DP):DF:=λa=>(f a).bind λd=>(m a).bind λl=>(n a).bind λh=>match d with|.tup b=>if HT.ke b.length 0 l=0/\HT.ke b.length b.length h=b.length then M else Y (.tup (zo b l h))|_=>M
def S8{m:Option Expr}(K:PE X e (tQ X.K y f))(J:PO X m (NT X.K y l))(I:PO X n (NT X.K y h)):PE X (.Subscript e (.Slice m n M B) w) (tP X.K y (Mw f l h)):=(xY Rc K J I).imp <|by
 rintro O H Q ⟨G,i,P,L,g,a,k⟩;unfold Mw at a;obtain⟨d,ef,a⟩:=aa.1 a;obtain⟨s,A,a⟩:=aa.1 a;obtain⟨t,U,a⟩:=aa.1 a;refine⟨G,i,d,L,g,ef,λv N T o F=>⟨N,i,s,o.gh,g.ext o,A,λW S j=>⟨W,i,t,j.gh,(g.ext o).ext j,U,λz R b =>?_⟩⟩⟩;have E:=(o.trans j).trans b;have x:=F.ext (j.trans b);cases d<;>simp only at a<;>try (cases a;done)
 split at a
 ·cases a
 ·rename_i c;cases a;obtain⟨p,C,u,r,D⟩:=x.tup b.gh;refine⟨p,C,u,r,by rw[<- D.length];exact c,λq c=>k _ _ _ (E.trans (gv.alloc (p:=q) b.gh c)) (mM ⟨q,_,rfl,bh,bf.mono (.alloc (b.gh.free c)) _ (D.cut _ _)⟩)⟩
def Ly(E:fN k X.A):W_ X "tuple.index" (λx A H Q=>∃G c d y i,bG G H/\cK X.K G (.tup c) x/\A=[y]/\cK X.K G d y/\(iK d 170&&iJ c 170)=Z'/\c.findIdx? (λz=>lH z d)=Y i/\Q (.int (i:Nat)) H):=by
 intro B s U H x A v a Q I R T h;obtain⟨G,c,d,y,i,o,r,rfl,P,f,W,q⟩:=h;have K:=E.un;rw[aO]at f;obtain⟨p,vs,rfl,t,C⟩:=eE.mp r;cases R;obtain⟨u,rfl,S⟩:=cj.one T;obtain⟨b,l,⟨⟨cls,dd,N,O⟩,F,L,n,J⟩,D⟩:=I.tuple (t.sq o);simp only at L J;subst L J;obtain⟨j,_,e⟩:=OW (K:=X.K) I.hk (A:=X.A.in1) (by show X.A.units+1+170<mZ;omega) f.1 f.2 (cK.mono o _ P) S (bf.mono o _ C) l;rw[Bm]at W;obtain⟨hi,f1,f2⟩:=W;have hl:c.length=b.length:=C.length.trans l.length;refine tX PySem.F.slot_tuple_index ⟨_,F,rfl⟩ PySem.F.entry_tuple_index (PySem.F.args_tuple_index_2 _ _) (zt p b.toArray n dd O u (Ug b c d) i (by simp;omega) ?_ ?_) ⟨F,λw hw=>j w (by simpa using hw),?_⟩
 ·rw[e i _ c[i] (by simp) (aX hi)];exact f1
 ·intro m hm g;have h2:m<b.length:=by simpa using hm
  rw[e m _ (c[m]'(by omega)) (by simp[h2]) (aX (by omega))];have:=f2 m g;simpa using this
 ·exact⟨.int _,H,I.tok _,⟨_,rfl⟩,q⟩
def Ge(f g:DF):DF:=λa=>(f a).bind λd=>(g a).bind λx=>match d with|.tup b=>if (iK x 170&&iJ b 170)=Z' then (b.findIdx? λy=>lH y x).map λ(i:Nat) =>.int i else M|_=>M
def Ta{l j:Pos}(E:fN k X.A)(h:PE X o (tP X.K q f))(w:PE X e (tP X.K q g))(c:autoParam (b_ o "index" X.env (eval o X.env)=eval o X.env) ų) (n:autoParam (((c6 j (aq (e::[]) X.env)).all (λx=> !x.1)&&(gV j (dF [] X.env)).all (λx=>x.1.isSome)
   && decide ((e::[]).length+([]:List kL).length+(if ([]:List kL).isEmpty then 0 else 1)<30))=true) ų) (b:autoParam ((l.endLine==j.line)=true) ų) (P:autoParam (aq (e::[]) X.env=(Z_,eval e X.env)::aq [] X.env) ų) (a:autoParam ((c6 j (aq [] X.env)).any (·.1)=false) ų) :
  PE X (.Call (.Attribute o "index" l) [e] [] j) (tP X.K q (Ge f g)):=(uq PySem.F.plainAttrs_tuple PySem.F.slot_tuple_index PySem.F.type_tuple_index (Ly E) h (cM w fK P) c n b P a).imp <|by
 rintro O H Q ⟨G,i,d,L,g,a,k⟩;unfold Ge at a;obtain⟨d,F,a⟩:=aa.1 a;obtain⟨x,C,a⟩:=aa.1 a;cases d<;>simp only at a<;>try (cases a;done)
 split at a
 ·rename_i B;obtain⟨m,D,a⟩:=ak.1 a;cases a;refine⟨G,i,_,L,g,F,λv J N r y=>⟨?_,J,i,x,r.gh,g.ext r,C,λu z I s A =>?_⟩⟩
  ·obtain⟨p,K,rfl,t,_⟩:=eE.mp y;refine .inr (.inl ⟨rfl,?_⟩);rcases t with t|⟨o,_,_,t,c,e,_⟩
   ·exact .inl ⟨_,r.gh _ _ t⟩
   ·exact .inr ⟨o,t,c,e⟩
  ·exact⟨z,_,x,u,m,s.gh,cK.mono s.gg _ y,rfl,A,B,D,k _ z I (r.trans s) (cC.mpr rfl)⟩
 ·cases a
structure PR(K:aT)(mg:aG->Option ai)(x:aG)(l:List aG):Prop where
 ex:∃(a:az) (o:Obj) (b:Array ai) (n:Nat),mg x=some (.ref a)/\K.lookup a=some o/\o.cls=.type "tuple" /\o.dict=none/\o.data=.seq b n/\b.size<=a9/\cj (l.map V.str) b.toList
theorem Ar{K:aT}:∀l:List aG,bf K G (l.map D.str) (l.map V.str)
 |[] =>.nil|_::l =>.cons (dn.mpr rfl) (Ar l)
def yR{l:List aG}{m:Pos}(T:PR X.K X.mg x l)(b:Gl X x)(c:autoParam ((x==("__debug__" : aG))=false) ű):PE X (.Name x m) (tP X.K Z (eK (.tup (l.map D.str)))):=by
 obtain⟨a,o,v,n,e,r⟩:=T.ex;exact(He (v :=.ref a) b e rfl c).imp <|by rintro h H Q ⟨G,j,d,e,g,f,k⟩;cases f;exact k _ G H (.refl e) (eE.mpr ⟨a,_,rfl,.inr ⟨o,v,n,r⟩,Ar l⟩)
end
inductive rW (K:aT) (p r:Nat) (F:List D->Option (D×List D×List D)) (h:List V) (H:Hp) (Q:VK) (_x:XK):Prop
 |mk G f d b c a e n m k l:bG G H->f[p]?=some (.lst k)->h[p]?=some (.ref a)->H a=some (.lst n)->bf K G k n->G a=none->f[r]?=some (.lst l)->h[r]?=some (.ref e)->H e=some (.lst m)->bf K G l m->G e=none->a≠e->(∀(i:Nat) c,i≠p->i≠r->f[i]?=some c->∃v,h[i]?=some v/\cK K G c v)->f.length=h.length->F f=some (d,b,c)->(∀v x y g j,gv G (sd (sd H a) e) g j->g a=none->g e=none->j a=some (.lst x)->j e=some (.lst y)->bf K g b x->bf K g c y->cK K g d v->Q v j)->rW K p r F h H Q _x
def K6(p r:Nat):DO->Option (D×List D×List D)
 |.rm d a=>(eX p a).bind λb=>(eX r a).map λc=>(d,b,c)
 |.nx a=>(eX p a).bind λb=>(eX r a).map λc=>(.dJ,b,c)
 |_=>M
def uk(n N p r:Nat)(g:DG)(a:List D):Option (D×List D×List D):=if a.length=n then (g (gQ N a)).bind (K6 p r) else M
section
variable {K:aT}
def SR.Ie{f:Hp}{e:bY}{xs ys:List D}{v:List V}(S:SR K B l G H d e)(i:j∈l)(A:p∈l)(k:e[j]?=Y (Y (.lst g)))(y:e[p]?=Y (Y (.lst U)))(h:d[j]?=Y (Y (.ref a)))(s:d[p]?=Y (Y (.ref b)))(w:a≠b)(E:gv G (sd (sd H a) b) q f)(o:q a=M)(x:q b=M)(n:f a=Y (.lst u))(I:f b=Y (.lst v))(r:bf K q xs u)(F:bf K q ys v):SR K B l q f d ((e.set j (Y (.lst xs))).set p (Y (.lst ys))):=by
 have J:j≠p:=λz=>by subst z;rw[h]at s;cases s;exact w rfl
 obtain⟨T,m,C,L,Q,R,_⟩:=S.ji A y;rw[s]at C;cases C;have P:gv G (sd H a) q (de f b (.lst m)):=by
  refine⟨λc o e =>?_,E.gg,λc o e=>by rw[aS (bu e x)];exact E.gh c o e,λc o e =>?_⟩
  ·by_cases z:c=b
   ·subst z;rw[j7 (bU w),L]at e;cases e;exact bh
   ·rw[aS z];exact E.hh c o (by rw[j7 z];exact e)
  ·rcases E.fr c o e with z|z
   ·exact .inl z
   ·have t:c≠b:=bu e x;rw[j7 t]at z;exact .inr z
 have O:=S.called i k h P o (by rw[aS w];exact n) r;have N:=O.mut (g:=U) (c:=ys) (b:=v) A (by rw[aA J];exact y) s F;have z:de (de f b (.lst m)) b (.lst v)=f:=by
  rw[GN];funext c;by_cases t:c=b
  ·subst t;rw[bh,I]
  ·rw[aS t]
 rwa [z]at N
def Fk{f:List D}(s:bG G H)(L:p∈t)(J:r∈t)(F:p≠r)(o:b[p]?=Y (.lst f))(h:e[p]?=Y (.ref a))(q:H a=Y (.lst d))(R:bf K G f d)(w:G a=M)(X:b[r]?=Y (.lst l))(O:e[r]?=Y (.ref c))(T:H c=Y (.lst P))(R':bf K G l P)(Q:G c=M)(I:a≠c)(g:∀(i:Nat) c,i≠p->i≠r->b[i]?=Y c->∃v,e[i]?=Y v/\cK K G c v)(n:b.length=e.length)(k:∀i∈t,i=p\/i=r\/b.length<=i):SR K ⟨G,sd (sd H a) c,[(p,a),(r,c)],x⟩ t G H (start N e) (gQ N.length b):=by
 have E:∀(i:Nat) v,e[i]?=Y v->(start N e)[i]?=Y (Y v):=λi v m=>by have gg:i<e.length:=(ax.mp m).1;unfold start;rw[dW (by simpa using gg),aV,m];rfl
 have y:∀i∈t,∀D,(gQ N.length b)[i]?=Y (Y D)->(i=p/\D=.lst f)\/(i=r/\D=.lst l):=λi g D m=>by
  have A:=ka m;rcases k i g with z|z|z
  ·subst z;rw[o]at A;cases A;exact .inl ⟨rfl,rfl⟩
  ·subst z;rw[X]at A;cases A;exact .inr ⟨rfl,rfl⟩
  ·have:=(ax.mp A).1;omega
 refine⟨s,bG.refl _,uQ.trans uQ,λb o e =>.inl e,λi d u m =>?_,⟨λi=>if i=p then [a] else [c],λi D u m =>?_,λi D u m =>?_,λi j D C u S ei ej B z Z =>?_⟩,by simp[start,gQ,n],λi b h =>?_,λj k q U h2 m =>?_⟩
 ·obtain⟨v,ev,W⟩:=g i d (λz=>u (z ▸ L)) (λz=>u (z ▸ J)) (ka m);exact⟨v,E i v ev,W⟩
 ·rcases y i u D m with⟨rfl,rfl⟩|⟨rfl,rfl⟩
  ·exact⟨a,E _ _ h,by rw[if_pos rfl];exact⟨⟨_,q,d,rfl,R⟩,rfl⟩⟩
  ·exact⟨c,E _ _ O,by rw[if_neg (bU F)];exact⟨⟨_,T,P,rfl,R'⟩,rfl⟩⟩
 ·rcases y i u D m with⟨rfl,rfl⟩|⟨rfl,rfl⟩
  ·rw[if_pos rfl];exact⟨Ž,λb f=>by simp at f;subst f;exact⟨w,by show sd (sd H _) c _=M;rw[j7 I,kC]⟩⟩
  ·rw[if_neg (bU F)];exact⟨Ž,λb f=>by simp at f;subst f;exact⟨Q,kC⟩⟩
 ·rcases y i u D ei with⟨rfl,rfl⟩|⟨rfl,rfl⟩<;>rcases y j S C ej with⟨rfl,rfl⟩|⟨rfl,rfl⟩
  ·exact absurd rfl B
  ·rw[if_pos rfl]at Z;rw[if_neg (bU F)];simp at Z ⊢;rw[Z];exact I
  ·rw[if_neg (bU F)]at Z;rw[if_pos rfl];simp at Z ⊢;rw[Z];exact bU I
  ·exact absurd rfl B
 ·have z:(i,b)=(p,a)\/(i,b)=(r,c):=by simpa using h
  rcases z with z|z<;>cases z
  ·exact⟨L,E _ _ (by assumption)⟩
  ·exact⟨J,E _ _ O⟩
 ·rcases y j U _ m with⟨_,z⟩|⟨_,z⟩<;>cases z
end
section
variable {P:be}{K:aT}
def kh.Vk{st:eJ}{f:az}(F:kh K x I st f fd)(S:bM N ps (aM st))(p r:Nat){Z Ź:List Nat}{g:DG}(hp:p∈Z)(hr0:r∈Z)(pr:p≠r)(Su:∀i∈Z,i=p\/i=r\/ps.length<=i) (hb:∀(L:ai) (A:jd) (j:List Env) (s:ay) (H:Hp) (E:XK),fN k (A.deeper (vj I (aM st) s.heap.objs.size f L))->∀(B:Bs) (a c:az),B.3=[(p,a),(r,c)] ->
   sx (yU jA P w K u y N I (aM st) f L A j s H E).OH (iU st) (k7 K B [] Z Ź g)):dg P w K u y jA (k+1) f fd ps (rW K p r (uk ps.length N.length p r g)):=by
 refine F.ok S (λvs H Q E h =>?_) (λL A j s H vs Q E hr h =>?_)
 ·obtain⟨G,ds,d,b,c,a,e,n,m,k,l,gh,hd,hv,ha,r1,ga,ZG,Zu,QK,Zd,ZT,ne,ro,hl,e,_⟩:=h;unfold uk at e;split at e
  ·rw[<- hl];assumption
  ·cases e
 ·obtain⟨G,ds,d,b,c,a,R,n,m,k,l,gh,hd,hv,ha,r1,ga,ZG,Zu,QK,Zd,ZT,ne,ro,hl,e,q⟩:=h;unfold uk at e;split at e
  ·rename_i hn;refine⟨_,hb L A j s H E hr ⟨G,sd (sd H a) R,[(p,a),(r,R)],λ_ _=>False⟩ a R rfl,?_⟩;obtain⟨o,eg,e⟩:=aa.1 e;have qe:∀ {σ:St}{C:bY}{O T:Hp}{o':List Nat}{U:List D}{z:Nat}{t:az},(z,t)∈[(p,a),(r,R)]->SR K ⟨G,sd (sd H a) R,[(p,a),(r,R)],λ_ _=>False⟩ o' O T σ C->eX z C=Y U->∃y,T t=Y (.lst y)/\bf K O U y/\O t=none:=fun {σ C O T o' U z t} hz W J=>by obtain⟨Sr,hσ⟩:=W.pin z t hz;obtain⟨b,T5,f2,f3,f4,f5,_⟩:=W.ji Sr (du J);rw[hσ]at f2;cases f2;exact⟨T5,f3,f4,f5⟩
   refine⟨G,_,o,Fk gh hp hr0 pr hd hv ha r1 ga ZG Zu QK Zd ZT ne ro hl (by rw[hn];exact Su),eg,?_⟩;cases o with
   |rm d' C=>obtain⟨U,J,e⟩:=aa.1 (show (eX p C).bind _=_ from e);obtain⟨U',J',e⟩:=ak.1 e;cases e;intro v σ O T ⟨o',W⟩ rv;obtain⟨z,f3,f4,f5⟩:=qe (z:=p) (t:=a) Ž W J;obtain⟨z',VW,VU,X⟩:=qe (z:=r) (t:=R) Ž W J';exact q v z z' O T W.qh f5 X f3 VW f4 VU rv
   |nx C=>obtain⟨U,J,e⟩:=aa.1 (show (eX p C).bind _=_ from e);obtain⟨U',J',e⟩:=ak.1 e;cases e;intro σ O T W;obtain⟨z,f3,f4,f5⟩:=qe (z:=p) (t:=a) Ž W J;obtain⟨z',VW,VU,X⟩:=qe (z:=r) (t:=R) Ž W J';exact q _ z z' O T W.qh f5 X f3 VW f4 VU (ig.mpr rfl)
   |_=>cases e
  ·cases e
end
section
variable {X:Cx}
def j5(F:List D->Option (D×List D×List D))(j:Nat)(f:DF)(i:Nat)(g:DL):DM:=λa=>(eX j a).bind λb=>(f a).bind λd=>(eX i a).bind λc=>(g a).bind λe=>(F (.lst b::d :: .lst c::e)).map λq=>(q.1,(a.set j (Y (.lst q.2.1))).set i (Y (.lst q.2.2)))
def SR.apart{K:aT}(S:SR K B c G H d e)(i:j∈c)(m:f∈c)(p:j≠f)(k:e[j]?=Y (Y (.lst g)))(l:e[f]?=Y (Y (.lst t)))(h:d[j]?=Y (Y (.ref a)))(q:d[f]?=Y (Y (.ref b))):a≠b:=by
 obtain⟨F,W⟩:=S.ow;obtain⟨x,o,⟨_,s⟩⟩:=W.it j _ i k;obtain⟨y,n,⟨_,r⟩⟩:=W.it f _ m l;rw[h]at o;cases o;rw[q]at n;cases n;intro z;exact W.ap j f _ _ i m k l p a (by rw[s];simp) (by rw[r,z];simp)
def yN{F:List D->Option (D×List D×List D)}{m1 s:Pos}{f:DF}{g:DL}(h:hW X.prog X.w X.K X.mg X.base x k (rW X.K 0 2 F))(hr:fN k X.A)(hg:Gl X x)(hy:PE X (.Name y m1) (jf j))(hf:PE X e (tP X.K Z f))(hz:PE X (.Name z s) (jf i))(ha:PA X l (EI X.K Z g))(w:autoParam (j∈Z) ű)(w':autoParam (i∈Z) ű)(jj:autoParam (j≠i) ű)(N:autoParam ((x==("__debug__" : aG))=false) ű)(O:autoParam (aq (.Name y m1::e :: .Name z s::l) X.env=(Z_,eval (.Name y m1) X.env)::aq (e :: .Name z s::l) X.env) ų)(O1:autoParam (aq (e :: .Name z s::l) X.env=(Z_,eval e X.env)::aq (.Name z s::l) X.env) ų)(O2:autoParam (aq (.Name z s::l) X.env=(Z_,eval (.Name z s) X.env)::aq l X.env) ų)(u:autoParam ((c6 m (aq (e :: .Name z s::l) X.env)).any (·.1)=false) ų):PE X (.Call (.Name x p) (.Name y m1::e :: .Name z s::l) [] m) (tM X.K B Z (j5 F j f i g)):=by
 obtain⟨fa,fd,ps,h1,hm,hk,hb⟩:=h.ex;refine(pA h1 hr hg hm hk hb .nil nq (cM hy (cM hf (cM hz ha O2) O1) O) N O u).imp ?_;rintro σ H Q ⟨G,n,d,U,S,b,q⟩;unfold j5 at b;obtain⟨r,E,b⟩:=aa.1 b;obtain⟨d1,ef,b⟩:=aa.1 b;obtain⟨r',E',b⟩:=aa.1 b;obtain⟨L,I,b⟩:=aa.1 b;obtain⟨⟨d',o,o'⟩,J,b⟩:=ak.1 b;cases b;have C:=du E;have C':=du E';obtain⟨a,vs,K,_⟩:=S.ji w C;refine⟨_,K,G,n,d1,S.gh,S.jy,ef,λv1 G0 H0 Wm R0 =>?_⟩;have S0:=S.ext Wm;obtain⟨a',T5,K',_⟩:=S0.ji w' C';refine⟨_,K',G0,n,L,S0.gh,S0.jy,I,λus G1 H1 W N =>?_⟩;have R:=S0.ext W;obtain⟨b1,t,P,f3,f4,f5,f6⟩:=R.ji w C;rw[K]at P;cases P;obtain⟨b2,t',P,VW,VU,f5',f6'⟩:=R.ji w' C';rw[K']at P;cases P;have ne:=R.apart w w' jj C C' K K';show rW X.K 0 2 F ((.ref a::v1 :: .ref a'::us)++[]) H1 Q E0;rw[bx];refine⟨G1,.lst r::d1 :: .lst r'::L,d',o,o',a,a',t,t',r,r',W.gh,rfl,rfl,f3,f4,f5,rfl,rfl,VW,VU,f5',ne,λi c hi Yh A =>?_,by simp[N.length],J,λv x y G2 H2 T g2 g2' h2 h2' r2 r2' r3 =>?_⟩
 ·match i,hi,Yh,A with
  |0,hi,_,_=>exact absurd rfl hi|1,_,_,A=>simp at A;subst A;exact⟨v1,rfl,cK.mono W.gg _ R0⟩|2,_,hi,_=>exact absurd rfl hi|i+3,_,_,A=>exact N.get (i:=i) (by simpa using A)
 ·exact q v G2 H2 (R.Ie w w' C C' K K' ne T g2 g2' h2 h2' r2 r2') ((Wm.gg.trans W.gg).trans T.gg) r3
end
def DV(n:bY)(w:zW)(u:DM)(g f:Nat):List D->List D×List D->Option (List D×(List D×List D))
 |[],c=>Y ([],c)|d::e,c=>(w d ((n.set g (Y (.lst c.1))).set f (Y (.lst c.2)))).bind λa=>(u a).bind λp=>(eX g p.2).bind λb=>(eX f p.2).bind λh=>(DV n w u g f e (b,h)).map λq=>(p.1::q.1,q.2)
def FW(f:DL)(c:List (Option Nat))(w:zW)(u:DM)(h e g d:Nat):DM:=λn=>(f n).bind λa=>if a.length<=dA then (eX e n).bind λb=>(eX d n).bind λi=>(DV (kM c n) w u h g a (b,i)).map λq=>(.lst q.1,(n.set e (Y (.lst q.2.1))).set d (Y (.lst q.2.2))) else M
def Q9(K:aT)(d b:Nat)(u:DM):TE:=λt H Q=>∃(B:Bs) (a c:az),B.3=[(d,a),(b,c)]/\tM K B [d,b] u t H Q
def YA{X:Cx}(h:∀(B:Bs) (a c:az),B.3=[(f,a),(d,c)]->PE X e (tM X.K B [f,d] u)):PE X e (Q9 X.K f d u):=by rintro b s t H Q I ⟨B,a,c,e,q⟩;exact h B a c e b s t H Q I q
section
variable {K:aT}
def SR.Sj{fl:aG->Int->Prop}(S:SR K B A G H t ((n.set L (Y (.lst q))).set E (Y (.lst W))))(y:jx A [k,u] w=Z')(x:w[k]?=Y (Y L))(U:w[u]?=Y (Y E))(jj:L≠E)(O:k≠u)(lt:L<n.length)(lt':E<n.length)(s:t[L]?=Y (Y (.ref a)))(T:t[E]?=Y (Y (.ref c))):
  SR K ⟨G,sd (sd H a) c,[(k,a),(u,c)],fl⟩ [k,u] G H (mF w t) (((kM w n).set k (Y (.lst q))).set u (Y (.lst W))):=by
 have l:L∈A:=(ij y x).mp Ž;have l':E∈A:=(ij y U).mp Ž;have P:((n.set L (Y (D.lst q))).set E (Y (.lst W)))[L]?=Y (Y (.lst q)):=by rw[aA (bU jj),cy lt]
 have P':((n.set L (Y (D.lst q))).set E (Y (.lst W)))[E]?=Y (Y (.lst W)):=by rw[cy (by simpa using lt')]
 obtain⟨b,J,I,e3,e4,e5,e6⟩:=S.ji l P;rw[s]at I;cases I;obtain⟨b,J',I,e3',e4',e5',e6'⟩:=S.ji l' P';rw[T]at I;cases I;have ne:=S.apart l l' jj P P' s T;have N:∀i∈[k,u],∀d,(((kM w n).set k (Y (D.lst q))).set u (Y (.lst W)))[i]?=Y (Y d)->(i=k/\d=.lst q)\/(i=u/\d=.lst W):=λi hi d e=>by
  have z:i=k\/i=u:=by simpa using hi
  rcases z with z|z
  ·subst z;rw[aA (bU O)]at e;rcases jR e with⟨_,rfl,_⟩|⟨f,_⟩
   ·exact .inl ⟨rfl,rfl⟩
   ·exact absurd rfl f
  ·subst z;rcases jR e with⟨_,rfl,_⟩|⟨f,_⟩
   ·exact .inr ⟨rfl,rfl⟩
   ·exact absurd rfl f
 refine⟨S.gh,bG.refl _,uQ.trans uQ,λb o e =>.inl e,λi d g e =>?_,⟨λi=>if i=k then [a] else [c],λi d g e =>?_,λi d g e =>?_,λi j d C g m ei ej B z Z =>?_⟩,by simp[mF,kM],λi b h =>?_,λj r p R Q e =>?_⟩
 ·have z:i≠k/\i≠u:=by simpa using g
  rw[aA (bU z.2),aA (bU z.1)]at e;obtain⟨j,F,ej⟩:=C7 e;have m:j∉A:=λz=>g ((ij y F).mpr z)
  have m0:L≠j:=λz=>m (z ▸ l)
  have m1:E≠j:=λz=>m (z ▸ l')
  obtain⟨v,f1,X⟩:=S.env j d m (by rw[aA m1,aA m0];exact ej);exact⟨v,ll F f1,X⟩
 ·rcases N i g d e with⟨rfl,rfl⟩|⟨rfl,rfl⟩
  ·exact⟨a,ll x s,by rw[if_pos rfl];exact⟨⟨_,e3,J,rfl,e4⟩,rfl⟩⟩
  ·exact⟨c,ll U T,by rw[if_neg (bU O)];exact⟨⟨_,e3',J',rfl,e4'⟩,rfl⟩⟩
 ·rcases N i g d e with⟨rfl,rfl⟩|⟨rfl,rfl⟩
  ·rw[if_pos rfl];exact⟨Ž,λb f=>by simp at f;subst f;exact⟨e5,by show sd (sd H _) c _=M;rw[j7 ne,kC]⟩⟩
  ·rw[if_neg (bU O)];exact⟨Ž,λb f=>by simp at f;subst f;exact⟨e5',kC⟩⟩
 ·rcases N i g d ei with⟨rfl,rfl⟩|⟨rfl,rfl⟩<;>rcases N j m C ej with⟨rfl,rfl⟩|⟨rfl,rfl⟩
  ·exact absurd rfl B
  ·rw[if_pos rfl]at Z;rw[if_neg (bU O)];simp at Z ⊢;rw[Z];exact ne
  ·rw[if_neg (bU O)]at Z;rw[if_pos rfl];simp at Z ⊢;rw[Z];exact bU ne
  ·exact absurd rfl B
 ·have z:(i,b)=(k,a)\/(i,b)=(u,c):=by simpa using h
  rcases z with z|z<;>cases z
  ·exact⟨Ž,ll x s⟩
  ·exact⟨Ž,ll U T⟩
 ·rcases N j R _ e with⟨_,z⟩|⟨_,z⟩<;>cases z
end
section
variable {X:Cx}{f:DL}
def OR{K:aT}(ho:jx Z [i0,i1] src=Z')(h0:src[i0]?=Y (Y j0))(h1:src[i1]?=Y (Y j1))(jj:j0≠j1)(ii:i0≠i1)(hg:∀(B:Bs) v t H Q,EH K B [i0,i1] w v t H Q->g v t H Q)(q:tM K B Z (FW f src w u i0 j0 i1 j1) t H Q):
  Q_ (Ad K Z f) src g (si K [i0,i1] fj) (Q9 K i0 i1 u) t H Q:=by
 obtain⟨G,n,d,ρ',S,h,k⟩:=q;have Yg:j0∈Z:=(ij ho h0).mp Ž;have Yf:j1∈Z:=(ij ho h1).mp Ž;unfold FW at h;obtain⟨j,ef,h⟩:=aa.1 h;split at h
 ·rename_i hz;obtain⟨Y4,el,h⟩:=aa.1 h;obtain⟨xs1,el',h⟩:=aa.1 h;obtain⟨⟨rs,Y3⟩,em,h⟩:=ak.1 h;cases h;have F:=du el;have F':=du el';have hl:j0<n.length:=(ax.mp F).1;have Zy:j1<n.length:=(ax.mp F').1;obtain⟨a,vs0,e2,_⟩:=S.ji Yg F;obtain⟨c,vs1,SS,_⟩:=S.ji Yf F';have ne:=S.apart Yg Yf jj F F' e2 SS;refine⟨G,n,j,S.gh,S.jy,ef,λJ G1 H1 E1 ok =>?_⟩;have S1:=S.ext E1;rw[<- ri F,<- ri (l:=n.set j0 (Y (.lst Y4))) (i:=j1) (by rw[aA jj];exact F')]at S1;refine⟨λi m ys H2=>m=j.length-i/\i<=j.length/\Wj K B Z t (λb:List D×List D=>(n.set j0 (Y (.lst b.1))).set j1 (Y (.lst b.2))) (λi=>DV (kM src n) w u i0 i1 (j.drop i)) G1 Y3 rs i ys H2,
   ⟨j.length,rfl,fD _,G1,[],(Y4,xs1),rs,aw _,S1,bG.refl _,.nil,em,rfl⟩,?_⟩
  rintro i m ys H2 ⟨rfl,WW,G2,l,⟨xs,xt⟩,o,Zr,S2,s2,rx,cc,rfl⟩;have sub:bG G1 H2:=s2.trans S2.gh;by_cases C:i<j.length
  ·refine .inr ⟨ok.go i H2 sub C,?_,Wj K B Z t (λb:List D×List D=>(n.set j0 (Y (.lst b.1))).set j1 (Y (.lst b.2))) (λi=>DV (kM src n) w u i0 i1 (j.drop i)) G1 Y3 (l++o) (i+1),
    λr H' z=>⟨j.length-(i+1),ž,rfl,C,z⟩,λx H3 y =>?_⟩
   ·have:=ft;omega
   ·obtain⟨G3,E3,TF⟩:=ok.NN i H2 x H3 G2 j[i] s2 S2.gh y (aX C);have S3:=S2.ext E3;rw[fJ C]at cc;unfold DV at cc;obtain⟨s,et,cc⟩:=aa.1 cc;obtain⟨⟨x4,ρ5⟩,ee,cc⟩:=aa.1 cc;obtain⟨N,X,cc⟩:=aa.1 cc;obtain⟨N',X',cc⟩:=aa.1 cc;obtain⟨⟨P,xsE⟩,R,cc⟩:=ak.1 cc;cases cc;have SI:=S3.Sj (fl:=λ_ _=>False) ho h0 h1 jj ii hl Zy e2 SS;refine hg ⟨G3,sd (sd H3 a) c,[(i0,a),(i1,c)],λ_ _=>False⟩ _ _ _ _ ⟨G3,_,j[i],s,SI,TF,et,λσ4 G4 H4 S4=>⟨G4,s,Z',S4.gh,S4.jy,rfl,λG5 H5 E5=>B2 ?_⟩⟩;refine⟨⟨G3,sd (sd H3 a) c,[(i0,a),(i1,c)],λ_ _=>False⟩,a,c,rfl,G5,s,x4,ρ5,S4.ext E5,ee,λv G6 H6 S6 s6 r6=>⟨G6,l++[x4],(N,N'),P,by simp;omega,?_,?_,?_,R,Ž⟩⟩
    ·obtain⟨Sr,hσ⟩:=S6.pin i0 a Ž;obtain⟨b,ws,f2,f3,f4,f5,_⟩:=S6.ji Sr (du X);rw[hσ]at f2;cases f2;obtain⟨ND,hσ2⟩:=S6.pin i1 c Ž;obtain⟨b,ws2,f2,g3,g4,g5,_⟩:=S6.ji ND (du X');rw[hσ2]at f2;cases f2;have:=S3.Ie (xs:=N) (ys:=N') Yg Yf (by rw[aA (bU jj),cy hl]) (by rw[cy (by simpa using Zy)]) e2 SS ne S6.qh f5 g5 f3 g3 f4 g4;rw[List.set_comm (i:=j1) (j:=j0) _ _ (bU jj),P9,P9]at this;exact this
    ·exact s2.trans (E3.gg.trans S6.g0)
    ·exact(bf.mono (E3.gg.trans S6.g0) l rx).append (.cons r6 .nil)
  ·have e:i=j.length:=by omega
   subst e;rw[nc]at cc;unfold DV at cc;cases cc;refine .inl ⟨ok.stop _ H2 sub (aw _),λp hp =>?_⟩;have EA:=gv.alloc (p:=p) (o :=.lst ys) S2.gh hp;refine k _ _ _ (S2.ext EA) (E1.gg.trans (s2.trans EA.gg)) ?_;rw[bx];exact cU.mpr ⟨p,ys,rfl,bh,bf.mono EA.gg l rx⟩
 ·cases h
def SW(S:fQ X N src A)(j:X.calm=Z')(e:PI X E L (Ad X.K Z f))(m:NI T g)(a:∀i∈T,src[i]?=Y M)(h:∀(B:Bs) v t H Q,EH X.K B [i0,i1] w v t H Q->g v t H Q)(k:∀C s H b,PG (X.sv N A C s H b) E g/\EO (X.sv N A C s H b) [] (si X.K [i0,i1] fj)/\PE (X.sv N A C s H b) O (Q9 X.K i0 i1 u))(l:autoParam (src[i0]?=Y (Y j0)) ų)(n:autoParam (src[i1]?=Y (Y j1)) ų)(o:autoParam (j0≠j1) ű)(p:autoParam (i0≠i1) ű)(d:autoParam (jx Z [i0,i1] src=true) ű)(c:autoParam (∀x,cR L X.env x=fi x) Ű):PE X (.ListComp O [⟨E,L,[],0⟩] A U) (tM X.K B Z (FW f src w u i0 j0 i1 j1)):=
 (K0 S j e m a k c).imp λt H Q q=>OR d l n o p h q
def JE(K:aT)(i f e:Nat)(b:autoParam (i∉[f,e]) ű):∀(B:Bs) v t H Q,EH K B [f,e] (gN i) v t H Q->oR i v t H Q:=λB v t H Q ⟨G,n,d,a,S,r,c,k⟩=>by
 cases c;exact k _ G H (S.vF b r)
end
theorem x_{R:j->g->Prop}:∀ {l:List j}{m:List g},l.length=m.length->(∀(i:Nat) a b,l[i]?=Y a->m[i]?=Y b->R a b)->Paired R l m
 |[],[],_,_ =>.nil|[],_::_,h,_=>by simp at h
 |_::_,[],h,_=>by simp at h
 |a::l,b::m,h,k =>.cons (k 0 a b rfl rfl) (x_ (by simpa using h) λi c d e f=>k (i+1) c d (by simpa using e) (by simpa using f))
section
variable {X:Cx}{f:DF}
def zN(c:X.calm=Z'):lB X (.type "list") (λg H Q=>∃x:aG,g=[.str x]/\x.cps.size<=dA/\∀l,H l=M->Q (.ref l) (de H l (.lst (x.cps.toList.map λc=>V.str ⟨#[c]⟩)))):=by
 intro B s U H g D Q I r h;obtain⟨x,rfl,j,q⟩:=h;obtain⟨u,rfl,t,rfl⟩:=cj.one r;refine call_list_str (I.ok.hd c) x t (λy k d z p o f =>?_) (a7 j ft);have m:cj (x.cps.toList.map λc=>V.str ⟨#[c]⟩) d.toList:=by
  obtain⟨n,v⟩:=f;refine x_ (by simp[n]) λi a b f w =>?_
  obtain⟨c,t,e,rfl⟩:=v i b (by simpa using w);rw[aV,show x.cps.toList[i]?=Y c by simpa using e]at f;cases f;exact⟨t,rfl⟩
 exact⟨.ref _,_,I.laid (t':=k) p (aw _) (show hZ X.prog X.w _ y _ (.lst _) from⟨by simpa using a7 j ft,d.toList,z,m,by rw[o]⟩),rfl,q _ (I.f'.fresh (aw _))⟩
def yB(f:DF):DL:=λb=>(f b).bind λd=>match d with|.str x=>if x.cps.size<=dA then Y (vE x) else M|_=>M
theorem xU{K:aT}:∀l:List Nat,bf K G (l.map λc=>D.str ⟨#[c]⟩) (l.map λc=>V.str ⟨#[c]⟩)
 |[] =>.nil|_::l =>.cons (dn.mpr rfl) (xU l)
def ML(c:X.calm=Z')(z:Gl X "list")(y:X.mg "list" = M)(h:PE X e (tQ X.K a f))(x:hJ "list" = Y (.type "list"):=by exact PyProof.Rows.boot_list)(t:autoParam (aq (e::[]) X.env=(Z_,eval e X.env)::aq [] X.env) ų):PE X (.Call (.Name "list" p) [e] [] w) (tF X.K a (yB f)):=
 (Ax (zN c) z y x (cM h fK t) ſ ſ t rfl).imp <|by
  rintro E H Q ⟨G,u,F,C,r,g,k⟩;unfold yB at g;obtain⟨c,D,g⟩:=aa.1 g;refine⟨G,u,c,C,r,D,λv s I b o =>?_⟩;cases c<;>simp only[ae]at g<;>try (cases g;done)
  split at g<;>cases g
  rename_i i;exact⟨_,by rw[o.str],i,λq d=>k q _ s _ (b.trans (gv.lay (p:=q) b.gh d)) (b.hh.free d) (b.gh.free d) bh (xU _)⟩
end
section
variable {K:aT}{m:St}{g:bY}
end
section
variable {X:Cx}{s v:Pos}
end
inductive spT (K:aT) (s:Sk) (F:List D->Option (D×D)) (j:List V) (H:Hp) (Q:VK) (_x:XK):Prop
 |mk G t g d i a T h:bG G H->j=.ref a::h->dm K G H s t (.ref a) T->T.Nodup->(∀b∈T,G b=none)->bf K G g h->F (t::g)=some (d,i)->(∀v e c f,gv G (jN H T) c f->dm K c f s i (.ref a) e->e.Nodup->(∀b∈e,c b=none/\(b∈T\/H b=none))->cK K c d v->Q v f)->spT K s F j H Q _x
def pf(s:Sk)(j:Nat)(b:bY):Option D:=(Ab j b).bind λa=>if Sk.zk a.1 s=Z' then Y a.2 else M
def rz{s:Sk}(h:pf s j a=Y t):a[j]?=Y (Y (.obj s t)):=by
 unfold pf at h;obtain⟨⟨b,t'⟩,e,h⟩:=aa.1 h;split at h
 ·rename_i z;cases h;rw[<- Sk.tD z];exact mC e
 ·cases h
def qK(s:Sk):DO->Option (D×D)
 |.rm d a=>(pf s 0 a).map λt=>(d,t)
 |.nx a=>(pf s 0 a).map λt=>(.dJ,t)
 |_=>M
def pw(n N:Nat)(s:Sk)(g:DG)(b:List D):Option (D×D):=match b with
 |t::a=>if a.length+1=n then (g (gQ N (.obj s t::a))).bind (qK s) else M
 |[]=>M
section
variable {P:be}{K:aT}
def IW{s:Sk}{f:List D}{T:List az}(w:bG G H)(m:0∈Z)(h:dm K G H s t (.ref a) T)(k:T.Nodup)(j:∀b∈T,G b=M)(r:bf K G f g)(n:∀i∈Z,i=0\/f.length+1<=i):
  SR K ⟨G,jN H T,[(0,a)],x⟩ Z G H (start N (.ref a::g)) (gQ N.length (.obj s t::f)):=
 Aj (c :=.obj s t) (T:=T) w (λb o e=>by
  by_cases d:b∈T
  ·rw[ma d]at e;cases e
  ·rw[d4 d]at e;exact e) m rfl rfl h k (λb d=>⟨j b d,ma d⟩) (λr q z=>by cases z) (λi c p e=>by
   cases i with
   |zero=>exact absurd rfl p| succ i=>exact r.get (i:=i) (by simpa using e)) (by simp[r.length]) (by simpa using n)
def SR.VQ{m:List Nat}{s:Sk}(r:SR K ⟨G,jN H T,[(0,a)],p⟩ m d i j e)(y:pf s 0 e=Y k):
  ∃c,dm K d i s k (.ref a) c/\c.Nodup/\(∀b∈c,d b=M/\(b∈T\/H b=M))/\∃F,qZ K ⟨G,jN H T,[(0,a)],p⟩ m d i j e F/\F 0=c:=by
 obtain⟨g,f⟩:=r.pin 0 a Ž;obtain⟨z,c,q,t,w,n,F,W,x⟩:=r.tree g (rz y);rw[f]at q;cases q;refine⟨c,t,w,λb o=>⟨(n b o).1,?_⟩,F,W,x⟩;have:=(n b o).2;by_cases h:b∈T
 ·exact .inl h
 ·exact .inr (by simpa [d4 h] using this)
def kh.OF{f:az}{N R:List aG}(F:kh K x e p f fd)(S:bM N R (aM p))(s:Sk){Z Ź:List Nat}{g:DG}(hp:0∈Z)(C:∀i∈Z,i=0\/R.length<=i) (hb:∀(j:ai) (A:jd) (outer:List Env) (s:ay) (H:Hp) (E:XK),fN k (A.deeper (vj e (aM p) s.heap.objs.size f j))->∀(B:Bs) (a:az),B.3=[(0,a)] ->
   sx (yU jA P w K O U N e (aM p) f j A outer s H E).OH (iU p) (k7 K B [] Z Ź g)):dg P w K O U jA (k+1) f fd R (spT K s (pw R.length N.length s g)):=by
 refine F.ok S (λvs H Q E h =>?_) (λj A outer s1 H vs Q E hr h =>?_)
 ·obtain⟨G,t,xs,d,X,a,T,us,gh,rfl,ot,nd,nf,r,b,_⟩:=h;simp only[pw]at b;split at b
  ·rename_i z;simp[<- r.length,z]
  ·cases b
 ·obtain⟨G,t,xs,d,X,a,T,us,gh,rfl,ot,nd,nf,r,b,q⟩:=h;simp only[pw]at b;split at b
  ·rename_i hn;refine⟨_,hb j A outer s1 H E hr ⟨G,jN H T,[(0,a)],λ_ _=>False⟩ a rfl,?_⟩;obtain⟨oo,eg,b⟩:=aa.1 b;refine⟨G,_,oo,IW gh hp ot nd nf r (by rw[hn];exact C),eg,?_⟩;cases oo with
   |rm d' m=>have b:(pf s 0 m).map (λt=>(d',t))=Y (d,X):=b;obtain⟨y,o,b⟩:=ak.1 b;cases b;intro v σ G' H' ⟨o',c⟩ rv;obtain⟨T',f1,f2,f3,_⟩:=c.VQ o;exact q v T' G' H' c.qh f1 f2 f3 rv
   |nx m=>have b:(pf s 0 m).map (λt=>(D.dJ,t))=Y (d,X):=b;obtain⟨y,o,b⟩:=ak.1 b;cases b;intro σ G' H' c;obtain⟨T',f1,f2,f3,_⟩:=c.VQ o;exact q _ T' G' H' c.qh f1 f2 f3 (ig.mpr rfl)
   |_=>cases b
  ·cases b
end
section
variable {X:Cx}{v:Pos}
def cE(c m:aG)(s:Sk)(F:List D->Option (D×D))(j:Nat)(g:J5):DM:=λb=>(Ab j b).bind λd=>match d.1,d.2 with
 |.fs f _,.ins a e _=>if (f=c/\a=c)/\m∉e then (g b).bind λq=>(pf s j q.2).bind λt=>(F (t::q.1)).map λr=>(r.1,(eU j q.2).set j (Y (.obj s r.2))) else M
 |_,_=>M
def Dz{m:aG}{s:Sk}{F:List D->Option (D×D)}{f:St}(n:vd X.K br c=Y (Y (.ref C)))(r:j∈Z)(ht:∀f H Q,Qh X.K B Z g f H Q->t f H Q)(h:tM X.K B Z (cE c m s F j g) f H Q):C3 C m (spT X.K s F) [] E0 (jf j) t f H Q:=by
 obtain⟨G,o,d,R,S,e,q⟩:=h;unfold cE at e;rcases x:Ab j o with _|⟨s0,t0⟩
 ·rw[x]at e;cases e
 rw[x]at e;simp only[ae]at e;split at e
 ·rename_i c' fk YE ks ds;split at e
  ·rename_i hz;obtain⟨⟨rfl,rfl⟩,hm⟩:=hz;rcases y:g o with _|⟨p,i⟩
   ·rw[y]at e;cases e
   rw[y]at e;simp only[ae]at e;rcases I:pf s j i with _|u
   ·rw[I]at e;cases e
   rw[I]at e;simp only[ae]at e;obtain⟨⟨d',t'⟩,eF,e⟩:=ak.1 e;cases e;have hd:=mC x;obtain⟨a,T,z,ot,_⟩:=S.tree r hd;cases ot with
   |@ins _ _ _ _ _ C' dx vs S0 N ex l tt=>rw[n]at N;cases N;refine⟨_,z,a,dx,_,rfl,ex,rH (K:=X.K) (G:=G) hm,ht _ _ _ ⟨G,o,p,i,S,y,λK G1 H1 A s1 r1 =>?_⟩⟩;show spT X.K s F (.ref a::(K++[])) H1 Q E0;rw[bx];have k:=rz I;obtain⟨a1,T1,P,f2,f3,f4,F1,W1,w⟩:=A.tree r k;rw[z]at P;cases P;exact⟨G1,u,p,d',t',a,T1,K,A.gh,rfl,f2,f3,λb hb=>(f4 b hb).1,r1,eF,λv T' G' H' E nw nd nf rv=>q v G' H' (A.Cr W1 w r k z E nw nd nf) (s1.trans E.gg) rv⟩
  ·cases e
 ·cases e
def A7{c m:aG}{s:Sk}{F:List D->Option (D×D)}(h:jb X.prog X.w X.K X.mg X.base c m k (spT X.K s F))(g:fN k X.A)(i:PE X (.Name y p) (jf j))(r:autoParam (j∈Z) ű) (e:autoParam (eval (.Call (.Attribute (.Name y p) m L) [] [] J) X.env=(do
   let a <- eval (.Name y p) X.env
   ou L.atName
   let (f,first) <- lD [a] (lE a m pl)
   qy J f first (c6 J (aq [] X.env)) (gV J (dF [] X.env)))) ų):PE X (.Call (.Attribute (.Name y p) m L) [] [] J) (tM X.K B Z (cE c m s F j lG)):=by
 obtain⟨C,f,K,E,n,t,o,x,w⟩:=h.ex;exact(xZ (pl:=pl) i t o x g w .nil nq e).imp λb H Q q=>Dz n r (by rintro b H Q ⟨G,A,l,d,S,z,k⟩;cases z;exact k _ G H S (bG.refl _) .nil) q
def kE{c m:aG}{s:Sk}{F:List D->Option (D×D)}{g:J5}(h:jb X.prog X.w X.K X.mg X.base c m k (spT X.K s F))(o:fN k X.A)(r:PE X (.Name y p) (jf j))(E:PA X (e::I) (Qh X.K B Z g))(w:autoParam (j∈Z) ű)(a:autoParam (aq (e::I) X.env=(Z_,eval e X.env)::aq I X.env) ų)(b:autoParam ((c6 J (aq I X.env)).any (·.1)=false) ų) (i:autoParam (eval (.Call (.Attribute (.Name y p) m L) (e::I) [] J) X.env=(do
   let d <- eval (.Name y p) X.env
   ou L.atName
   let (f,first) <- lD [d] (lE d m pl)
   qy J f first (c6 J (aq (e::I) X.env)) (gV J (dF [] X.env)))) ų):PE X (.Call (.Attribute (.Name y p) m L) (e::I) [] J) (tM X.K B Z (cE c m s F j g)):=by
 obtain⟨C,f,N,l,n,x,t,G,A⟩:=h.ex;exact(BC (pl:=pl) r x t G o A .nil nq E a b i).imp λK H Q q=>Dz n w (λ_ _ _ z=>z) q
def jU(c f k m:aG)(h:Sk)(F:List D->Option (D×D))(j:Nat)(g:DL):DM:=λb=>(xH c f j b).bind λz=>match z.2.2.2 with
 |.ins a d i=>if (Sk.zk (dH z.1 f) h=Z'/\a=k)/\m∉d then (g b).bind λe=>(F (.ins a d i::e)).map λr=>(r.1,(eU j b).set j (Y (Jc c f z.1 z.2.1 z.2.2.1 r.2))) else M
 |_=>M
def AD{f o m:aG}{e:List (aG×Sk)}{F:List D->Option (D×D)}(n:vd X.K br o=Y (Y (.ref C1)))(hc:r_ X.K c f)(z:j∈Z)(ht:∀i H Q,EI X.K Z g i H Q->t i H Q)(h:tM X.K B Z (jU c f o m (.fs o e) F j g) i H Q):C3 C1 m (spT X.K (.fs o e) F) [] E0 (UK X.K (jf j) f) t i H Q:=by
 obtain⟨G,p,d,ρ',S,b,q⟩:=h;unfold jU at b;rcases K:xH c f j p with _|⟨fk,ks0,ZZ,t0⟩
 ·rw[K]at b;cases b
 rw[K]at b;simp only[ae]at b;split at b
 ·rename_i k ks ds;split at b
  ·rename_i hz;obtain⟨⟨y,rfl⟩,hm⟩:=hz;rcases u:g p with _|r
   ·rw[u]at b;cases b
   rw[u]at b;simp only[ae]at b;rcases eF:F (.ins k ks ds::r) with _|⟨d',t'⟩
   ·rw[eF]at b;cases b
   rw[eF]at b;cases b;obtain⟨A,w,i2⟩:=vr K;rw[Sk.tD y]at w;obtain⟨a,x,T1,N,e2,o1,_⟩:=S.Gr z A w i2;obtain⟨C,dx,fs,nn,f1,f2⟩:=S.SG z A N e2;cases o1 with
   |@ins _ _ _ _ s C' P vs S0 n' ex l tt=>rw[n]at n';cases n';refine⟨_,N,a,C,dx,fs,_,rfl,f1,(hc C nn).1,(hc C nn).2,f2,s,P,_,rfl,ex,rH (K:=X.K) (G:=G) hm,ht _ _ _ ⟨G,p,r,S.gh,S.jy,u,λT G1 H1 R r1 =>?_⟩⟩;show spT X.K (.fs k e) F (.ref s::(T++[])) H1 Q E0;rw[bx];have S1:=S.ext R;obtain⟨a1,x1,T2,g1,g2,g3,g4,g5,g6⟩:=S1.Gr z A w i2;rw[N]at g1;cases g1;rw[kY R.hh e2]at g2;cases g2;exact⟨G1,_,r,d',t',s,T2,T,S1.gh,rfl,g3,g4,g5,r1,eF,λv T' G' H' E nw nd nf rv=>q v G' H' (g6 t' T' G' H' E nw nd nf) (R.gg.trans E.gg) rv⟩
  ·cases b
 ·cases b
def JN{c f m:aG}{fk1:List (aG×Sk)}{F:List D->Option (D×D)}(h:jb X.prog X.w X.K X.mg X.base a m k (spT X.K (.fs a fk1) F))(t:fN k X.A)(i:r_ X.K c f)(w:PE X (.Name y p) (jf j))(K:PA X (e::I) (EI X.K Z g))(A:autoParam (j∈Z) ű)(o:autoParam (b_ (.Name y p) f X.env (eval (.Name y p) X.env)=eval (.Name y p) X.env) ų)(b:autoParam (aq (e::I) X.env=(Z_,eval e X.env)::aq I X.env) ų)(d:autoParam ((c6 J (aq I X.env)).any (·.1)=false) ų) (s:autoParam (eval (.Call (.Attribute (.Attribute (.Name y p) f l) m L) (e::I) [] J) X.env=(do
   let r <- eval (.Attribute (.Name y p) f l) X.env
   ou L.atName
   let (f,first) <- lD [r] (lE r m pl)
   qy J f first (c6 J (aq (e::I) X.env)) (gV J (dF [] X.env)))) ų):PE X (.Call (.Attribute (.Attribute (.Name y p) f l) m L) (e::I) [] J) (tM X.K B Z (jU c f a m (.fs a fk1) F j g)):=by
 obtain⟨C,S,R,P,n,E,x,u,G⟩:=h.ex;exact(BC (pl:=pl) (qJ w o) E x u t G .nil nq K b d s).imp λN H Q q=>AD n i A (λ_ _ _ z=>z) q
noncomputable def n9(c:aG)(F:List D->Option (D×D))(g:DL):DF:=λa=>(g a).bind λb=>(F (.ins c [] []::b)).bind λr=>match r.1 with|.dJ=>Y r.2|_=>M
def HX{c:aG}{fk:List (aG×Sk)}{F:List D->Option (D×D)}{g:DL}(h:zR X.prog X.w X.K X.mg X.base c k (spT X.K (.fs c fk) F))(hr:fN (k+1) X.A)(hg:Gl X c)(ha:PA X (e::I) (EI X.K Z g))(B:autoParam ((c==("__debug__" : aG))=false) ű)(he:autoParam (aq (e::I) X.env=(Z_,eval e X.env)::aq I X.env) ų)(A:autoParam ((c6 J (aq I X.env)).any (·.1)=false) ų):PE X (.Call (.Name c p) (e::I) [] J) (Ua X.K Z (.fs c fk) (n9 c F g)):=by
 obtain⟨C,f,fd,ps,n,hm,hk,h1,a⟩:=h.ex;refine(Ou hk h1 hr hg hm a .nil nq ha B he A).imp ?_;rintro σ H Q ⟨G,ρ,d,gh,l,i,q⟩;unfold n9 at i;obtain⟨P,eg,i⟩:=aa.1 i;obtain⟨⟨d',c'⟩,eF,i⟩:=aa.1 i;cases d'<;>simp only[ae]at i<;>try (cases i;done)
 cases i;refine⟨G,ρ,P,gh,l,eg,λR N r w r1 x s m j ne =>?_⟩;show spT X.K (.fs c fk) F (.ref x::(R++[])) _ _ E0;rw[bx];have K:N x=none:=w.gh.free m;have s2:bG N (de (de r s (.Z x)) x (.ins C s [])):=w.gh.trans ((bG.alloc j).trans (.alloc (by rw[aS (bU ne)];exact m)));refine⟨N,.ins c [] [],P,.dJ,_,x,[x],R,s2,rfl,.ins (ks:=[]) (vs:=[]) (S:=[]) n bh rfl .nil,Ž,(λb a=>by simp at a;subst a;exact K),r1,eF,λv T' G2 H2 t nw nd T rv=>⟨ig.mp rv,?_⟩⟩;have S:∀b o,r b=Y o->jN (de (de r s (.Z x)) x (.ins C s [])) [x] b=Y o:=λb o e=>by have a:b≠x:=bu e m;rw[d4 (by simpa using a),aS a,aS (bu e j)];exact e
 refine q (.ref x) T' G2 H2 (w.trans ⟨λb o e=>t.hh b o (S b o e),t.gg,t.gh,λb o e =>?_⟩) nw nd λb a=>⟨(T b a).1,?_⟩
 ·rcases t.fr b o e with z|z
  ·exact .inl z
  ·refine .inr ?_;rcases y:r b with _|u
   ·rfl
   rw[S b u y]at z;cases z
 ·refine w.hh.free ?_;rcases(T b a).2 with z|z
  ·simp at z;subst z;exact m
  ·rcases y:r b with _|u
   ·rfl
   have E:b≠x:=bu y m;rw[aS E,aS (bu y j),y]at z;cases z
end
def td(l:bY)(u:zW)(w:DM)(i0:Nat)(s:Sk):List D->D->Option (List D×D)
 |[],t=>Y ([],t)|d::b,t=>(u d (l.set i0 (Y (.obj s t)))).bind λρ1=>(w ρ1).bind λp=>(pf s i0 p.2).bind λa=>(td l u w i0 s b a).map λq=>(p.1::q.1,q.2)
def qs(f:DL)(src:List (Option Nat))(u:zW)(w:DM)(i0 j0:Nat)(s:Sk):DM:=λl=>(f l).bind λa=>if a.length<=dA then (pf s j0 l).bind λt=>(td (kM src (eU j0 l)) u w i0 s a t).map λq=>(.lst q.1,(eU j0 l).set j0 (Y (.obj s q.2))) else M
section
variable {K:aT}
def SR.Si{fl:aG->Int->Prop}{s:Sk}(S:SR K B Z G H n (l.set j0 (Y (.obj s t))))(C:jx Z [i0] src=Z')(x:src[i0]?=Y (Y j0))(y:n[j0]?=Y (Y (.ref a)))(u:dm K G H s t (.ref a) T)(P:T.Nodup)(N:∀b∈T,G b=M):
  SR K ⟨G,jN H T,[(i0,a)],fl⟩ [i0] G H (mF src n) ((kM src l).set i0 (Y (.obj s t))):=by
 have q:j0∈Z:=(ij C x).mp Ž;refine⟨S.gh,bG.refl _,λb o e =>?_,λb o e =>.inl e,λi d g e =>?_,⟨λ_=>T,λi d g e =>?_,λi d g e=>⟨P,λb m=>⟨N b m,ma m⟩⟩,λi j d c g k _ _ f =>?_⟩,by simp[mF,kM],λi b h =>?_,λj r p R Q e =>?_⟩
 ·have e:jN H T b=Y o:=e;by_cases m:b∈T
  ·rw[ma m]at e;cases e
  ·rw[d4 m]at e;exact e
 ·rcases jR e with⟨rfl,_,_⟩|⟨f,e⟩
  ·exact absurd Ž g
  ·obtain⟨j,F,ej⟩:=C7 e;have k:j∉Z:=λz=>g ((ij C F).mpr z)
   have:j0≠j:=λz=>k (z ▸ q)
   obtain⟨v,f1,X⟩:=S.env j d k (by rw[aA this];exact ej);exact⟨v,ll F f1,X⟩
 ·have z:i=i0:=by simpa using g
  subst z;rcases jR e with⟨_,rfl,_⟩|⟨f,_⟩
  ·exact⟨a,ll x y,u⟩
  ·exact absurd rfl f
 ·simp at g k;exact absurd (g.trans k.symm) f
 ·have z:(i,b)=(i0,a):=by simpa using h
  cases z;exact⟨Ž,ll x y⟩
 ·have q1:j=i0:=by simpa using R
  have J:Dw j=i0:=by simpa using Q
  unfold Dw at J;omega
end
def IP{s:Sk}:eU j ((eU j l).set j (Y (.obj s t)))=(eU j l).set j (Y (.obj s t)):=by
 apply List.ext_getElem?;intro i;unfold eU;rw[aV];by_cases h:j=i
 ·subst h;by_cases b:j<l.length
  ·rw[cy (by simpa using b)];rfl
  ·rw[en (by simpa using b)];rfl
 ·rw[aA h,aV];rcases e:l[i]? with _|o
  ·rfl
  cases o with
  |none=>rfl|some d=>
   cases d with
   |kf r p=>
    simp only[bP];by_cases a:r=j
    ·simp[a]
    ·simp[a]
   |_=>rfl
section
variable {X:Cx}{f:DL}{s:Sk}
def Hw{K:aT}(ho:jx Z [i0] src=Z')(h0:src[i0]?=Y (Y j0))(hg:∀(B:Bs) v n H Q,EH K B [i0] u v n H Q->g v n H Q)(q:tM K B Z (qs f src u w i0 j0 s) n H Q):
  Q_ (Ad K Z f) src g (si K [i0] fj) (WE K i0 w) n H Q:=by
 obtain⟨G,l,d,ρ',S,j,k⟩:=q;have X:j0∈Z:=(ij ho h0).mp Ž;unfold qs at j;obtain⟨C,ef,j⟩:=aa.1 j;split at j
 ·rename_i hz;obtain⟨t0,el,j⟩:=aa.1 j;obtain⟨⟨rs,tF⟩,em,j⟩:=ak.1 j;cases j;have ZF:=rz el;have Zv:=rq (r:=j0) ZF (λq z=>by cases z);have Sw:j0<(eU j0 l).length:=(ax.mp Zv).1;obtain⟨a,T0,e2,_⟩:=S.tree X ZF;refine⟨G,l,C,S.gh,S.jy,ef,λJ G1 H1 E1 ok =>?_⟩;have S1:=(S.ext E1).Q5 (r:=j0);rw[<- ri Zv]at S1;refine⟨λi m ys H2=>m=C.length-i/\i<=C.length/\Wj K B Z n (λt=>(eU j0 l).set j0 (Y (.obj s t))) (λi=>td (kM src (eU j0 l)) u w i0 s (C.drop i)) G1 tF rs i ys H2,
   ⟨C.length,rfl,fD _,G1,[],t0,rs,aw _,S1,bG.refl _,.nil,em,rfl⟩,?_⟩
  rintro i m ys H2 ⟨rfl,WW,G2,o,t,r,Zr,S2,s2,rx,c,rfl⟩;have sub:bG G1 H2:=s2.trans S2.gh;by_cases N:i<C.length
  ·refine .inr ⟨ok.go i H2 sub N,?_,Wj K B Z n (λt=>(eU j0 l).set j0 (Y (.obj s t))) (λi=>td (kM src (eU j0 l)) u w i0 s (C.drop i)) G1 tF (o++r) (i+1),
    λR H' z=>⟨C.length-(i+1),ž,rfl,N,z⟩,λx H3 y =>?_⟩
   ·have:=ft;omega
   ·obtain⟨G3,E3,TF⟩:=ok.NN i H2 x H3 G2 C[i] s2 S2.gh y (aX N);have S3:=S2.ext E3;rw[fJ N]at c;unfold td at c;obtain⟨A,et,c⟩:=aa.1 c;obtain⟨⟨x4,ρ5⟩,ee,c⟩:=aa.1 c;obtain⟨t4,el4,c⟩:=aa.1 c;obtain⟨⟨T,tE⟩,em4,c⟩:=ak.1 c;cases c;have ZE:((eU j0 l).set j0 (Y (D.obj s t)))[j0]?=Y (Y (.obj s t)):=by rw[cy Sw]
    obtain⟨a3,T3,f1,ot,nd,nf,F3,W3,hF3⟩:=S3.tree X ZE;rw[e2]at f1;cases f1;have SI:=S3.Si (fl:=λ_ _=>False) ho h0 e2 ot nd λb hb=>(nf b hb).1
    refine hg ⟨G3,jN H3 T3,[(i0,a)],λ_ _=>False⟩ _ _ _ _ ⟨G3,_,C[i],A,SI,TF,et,λσ4 G4 H4 S4=>⟨G4,A,Z',S4.gh,S4.jy,rfl,λG5 H5 E5=>B2 ?_⟩⟩;refine⟨⟨G3,jN H3 T3,[(i0,a)],λ_ _=>False⟩,a,rfl,G5,A,x4,ρ5,S4.ext E5,ee,λv G6 H6 S6 s6 r6=>⟨G6,o++[x4],t4,T,by simp;omega,?_,?_,?_,em4,Ž⟩⟩
    ·obtain⟨Sr,hσ⟩:=S6.pin i0 a Ž;obtain⟨a6,T6,g1,g2,g3,g4,_⟩:=S6.tree Sr (rz el4);rw[hσ]at g1;cases g1;have:=S3.Cr (t':=t4) W3 hF3 X ZE e2 S6.qh g2 g3 (λb hb=>⟨(g4 b hb).1,by
      have:=(g4 b hb).2;by_cases h:b∈T3
      ·exact .inl h
      ·exact .inr (by simpa [d4 h] using this)⟩)
     rw[IP,P9]at this;exact this
    ·exact s2.trans (E3.gg.trans S6.g0)
    ·exact(bf.mono (E3.gg.trans S6.g0) o rx).append (.cons r6 .nil)
  ·have e:i=C.length:=by omega
   subst e;rw[nc]at c;unfold td at c;cases c;refine .inl ⟨ok.stop _ H2 sub (aw _),λp hp =>?_⟩;have EA:=gv.alloc (p:=p) (o :=.lst ys) S2.gh hp;refine k _ _ _ (S2.ext EA) (E1.gg.trans (s2.trans EA.gg)) ?_;rw[bx];exact cU.mpr ⟨p,ys,rfl,bh,bf.mono EA.gg o rx⟩
 ·cases j
def Gh(S:fQ X N src A)(j:X.calm=Z')(e:PI X E I (Ad X.K Z f))(o:NI O g)(a:∀i∈O,src[i]?=Y M)(h:∀(B:Bs) v n H Q,EH X.K B [i0] u v n H Q->g v n H Q)(k:∀C s H b,PG (X.sv N A C s H b) E g/\EO (X.sv N A C s H b) [] (si X.K [i0] fj)/\PE (X.sv N A C s H b) L (WE X.K i0 w))(m:autoParam (src[i0]?=Y (Y j0)) ų)(d:autoParam (jx Z [i0] src=true) ű)(c:autoParam (∀x,cR I X.env x=fi x) Ű):PE X (.ListComp L [⟨E,I,[],0⟩] A U) (tM X.K B Z (qs f src u w i0 j0 s)):=
 (K0 S j e o a k c).imp λn H Q q=>Hw d m h q
def Gf{i:Nat}(S:fQ X N src A)(W:X.calm=Z')(R:X.N.Nodup)(t:X.N[i]?=Y y)(F:X.env.scope.names.lookup y=Y .local)(J:PI X E I (Ad X.K Z f))(ag:NI O g)(h:∀i∈O,src[i]?=Y M)(K:∀(B:Bs) v n H Q,EH X.K B [i0] u v n H Q->g v n H Q)(P:∀C s H m,PG (X.sv N A C s H m) E g/\EO (X.sv N A C s H m) [] (si X.K [i0] fj)/\PE (X.sv N A C s H m) L (WE X.K i0 w))(T:autoParam (src[i0]?=Y (Y j0)) ų)(D:autoParam (jx Z [i0] src=true) ű)(j:autoParam (i∉Z) ű)(e:autoParam (dS (.ListComp L [⟨E,I,[],0⟩] A U) (Y (.Name y p)) a.line X.env=fi true) ų)(z:autoParam (∀x,cR I X.env x=fi x) Ű):PS X (.Assign [.Name y p] (.ListComp L [⟨E,I,[],0⟩] A U) a) (k7 X.K B q Z Z (gG i (qs f src u w i0 j0 s))):=
 (xW S W R t F J ag h P e z).imp λD' n H ⟨G,l,o,S,b,k⟩=>Hw D T K (by unfold gG at b;obtain⟨⟨d,c⟩,ef,b⟩:=ak.1 b;cases b;exact⟨G,l,d,c,S,ef,λv G' H' S' _ r=>k _ G' H' (S'.vF j r)⟩)
end
abbrev TupAt(h:dC)(T:az)(a:Array ai):Prop:=h.get? T=Y { cls :=.type "tuple",data :=.seq a }
structure ZN(h:dC)(z TI TO:az)(n:Nat)(it l:Nat->az)(xs:Nat->Array ai)(pl:Nat->Nat)(f0:ai)(out:Array ai):Prop where
 zz:IsZip h z TI TO f0
 ti:TupAt h TI ((cm n).map λj=>cG (it j)).toArray
 to:TupAt h TO out
 sz:out.size=n
 iter:∀j,j<n->h.IsListIter (it j) (l j) (pl j)
 lst:∀j,j<n->h.IsList (l j) (xs j)
structure ZA(z TI TO:az)(n:Nat)(it l:Nat->az):Prop where
 tiz:TI≠z
 Y7:TO≠z
 Xl:TI≠TO
 iz:∀j,j<n->it j≠z/\it j≠TI/\it j≠TO
 ii:∀j k,j<n->k<n->j≠k->it j≠it k
 lz:∀j,j<n->l j≠z/\l j≠TO/\∀k,k<n->l j≠it k
section
variable {f:az}
def ZN.adv(N:ZN h z i f n d l p t u r)(A:ZA z i f n d l)(c:k<n)(m:g.IsListIter (d k) (l k) (t k+1))(b:i4 (d k) h g):ZN g z i f n d l p (λj=>if j=k then t j+1 else t j) u r:=by
 obtain⟨s,q,o⟩:=A.iz k c;refine⟨b.extBut _ _ (bU s) N.zz,b.extBut _ _ (bU q) N.ti,b.extBut _ _ (bU o) N.to,N.sz,λj a =>?_,λj a =>?_⟩
 ·by_cases e:j=k
  ·subst e;simpa using m
  ·simp only[if_neg e];exact(N.iter j a).extBut b.extBut (A.ii j k a c e)
 ·exact(N.lst j a).extBut b.extBut ((A.lz j a).2.2 k c)
def ZN.N6(N:ZN h z i f n d l p t u r)(A:ZA z i f n d l)(k:TupAt g f a)(e:a.size=n)(c:i4 f h g):ZN g z i f n d l p t u a:=
 ⟨c.extBut _ _ (bU A.Y7) N.zz,c.extBut _ _ A.Xl N.ti,k,e,λj b=>(N.iter j b).extBut c.extBut (A.iz j b).2.2,λj b=>(N.lst j b).extBut c.extBut (A.lz j b).2.1⟩
def ZN.N5(N:ZN h z i f n d l p t u r)(A:ZA z i f n d l)(e:IsZip g z i f c)(b:i4 z h g):ZN g z i f n d l p t c r:=
 ⟨e,b.extBut _ _ A.tiz N.ti,b.extBut _ _ A.Y7 N.to,N.sz,λj a=>(N.iter j a).extBut b.extBut (A.iz j a).1,λj a=>(N.lst j a).extBut b.extBut (A.lz j a).1⟩
end
def Eu(z f:az)(n:Nat)(d:Nat->az)(h g:dC):Prop:=∀c o,c≠z->c≠f->(∀j,j<n->c≠d j)->h.get? c=Y o->g.get? c=Y o
section
variable {E:ai->ay->Prop}{s:ay}
variable {f:az}{d:Nat->az}{m:Nat}
def Av(h:a=(cm n).map λj=>cG (d j))(c:k<n):(a.zipIdx).drop k=(cG (d k),k)::(a.zipIdx).drop (k+1):=by
 have b:a.zipIdx.length=n:=by rw[h];simp
 rw[fJ (by rw[b];exact c)]
 congr 1
 subst h;simp
def IK{Q:ai->ay->Prop}(hh:A.handled=M)(hn:0<n)(hn2:n<=100)(D:ZA z i f n d l)(N:ZN s.heap z i f n d l p (λ_=>m) .none r) (hQ:∀g x,(∀j,j<n->(p j)[m]?=Y (x j))->ZN g z i f n d l p (λ_=>m+1) (rawInt s.heap.objs.size) ((cm n).map x).toArray->TupAt g s.heap.objs.size ((cm n).map x).toArray->g.objs.size=s.heap.objs.size+1 ->
   Eu z f n d s.heap g->Q (.ref s.heap.objs.size) { s with heap:=g }) (hE:(∃j,j<n/\(p j)[m]?=M)->∀g e,Eu z f n d s.heap g->(∃o,g.get? e=Y o/\o.cls=.type "StopIteration")->E (.ref e) { s with heap:=g }) :
  bz (bD B w) A (Builtin.«zip.__next__» ⟨[.ref z],[]⟩) (λqe s'=>∃v,qe=.done (.ret v)/\Q v s') E s:=by
 unfold Builtin.«zip.__next__»;show bz _ _ (field (.ref z) 2 >>= _) _ _ _;refine aE (qv N.zz rfl (x :=.bool Z_) rfl ?_);refine aE (qv N.zz rfl (x :=.ref i) rfl ?_);refine aE (TJ N.ti rfl ?_);have Sv:((cm n).map λj=>cG (d j)).toArray.isEmpty=false:=by
  cases n with|zero=>omega|succ n=>simp[mn]
 simp only[Sv,dO,if_false];refine aE ?_;unfold Builtin.SmallTypes.ownedTupleIsFree;refine aE (qv N.zz rfl (x :=.none) rfl (bC ?_));simp only[if_true];refine aE (wpAny_rule ?_);refine aE (qv N.zz rfl (x :=.ref f) rfl ?_);refine aE (tU N.zz Ž λh1 z1 k1 =>?_);have N1:ZN h1 z i f n d l p (λ_=>m) .ellipsis r:=N.N5 D z1 k1;refine aE ?_;refine wpAny_forIn_list _ (λL b s1=>b=(M,())/\∃k F C x,k<=n/\L=(((cm n).map λj=>cG (d j)).zipIdx).drop k/\s1={ s with heap:=F }/\ZN F z i f n d l p (λj=>if j<k then m+1 else m) .ellipsis C /\
   (∀j,j<k->(p j)[m]?=Y (x j)/\C[j]?=Y (x j))/\F.objs.size=s.heap.objs.size/\Eu z f n d s.heap F) _ ?_ ?_ _ _ ⟨rfl,0,h1,r,λ_ =>.none,fD _,rfl,rfl,by simpa using N1,λj H=>ž,k1.1,λc o I _ _ e=>k1.extBut _ _ I e⟩
 ·rintro x L b s1 ⟨rfl,k,F,C,J,hk,R,rfl,G,ho,hs,kp⟩;have h:k<n:=by
   rcases Nat.lt_or_ge k n with z|z
   ·exact z
   ·rw[Qa (by simpa using z)]at R;cases R
  rw[Av rfl h]at R;obtain⟨rfl,P⟩:=List.cons.inj R;refine aE (wpAny_onRaise ?_);show bz _ _ (Builtin.SmallTypes.nextOf (.ref (d k)) >>= _) _ _ _;have O:=G.iter k h;simp only[jF,if_false]at O;cases hx:(p k)[m]? with
  |none=>
   refine aE (wpAny_nextOf_list_end hh O (G.lst k h) hx λh3 e X he =>?_);obtain⟨oe,S,ZI⟩:=he;have YZ:IsZip h3 z i f .ellipsis:=X _ _ (bU (D.iz k h).1) G.zz;have hez:e≠z:=λq=>by subst q;rw[YZ]at S;cases S;simp at ZI
   refine tU YZ Ž λh4 _ t=>hE ⟨k,h,hx⟩ h4 e (λc o I c2 T q=>t.extBut _ _ I (X _ _ (T k h) (kp c o I c2 T q))) ⟨oe,t.extBut _ _ hez S,ZI⟩
  |some y=>
   refine aE (wpAny_nextOf_list_item O (G.lst k h) hx λh3 i3 X=>bC ?_);have K:=G.adv D h (by simpa using i3) X;dsimp only;refine aE (TJ K.to rfl ?_);dsimp only;have hsz:C.size<=a9:=by rw[K.sz,hT];omega
   refine aE (wpAny_updateSeq K.to rfl ?_ hsz (by simp;omega));have up:TupAt (h3.update f (tZ λq=>q.setIfInBounds k y)) f (C.setIfInBounds k y):=by show Heap.get? _ _=_;rw[Heap.get?_update_self _ K.to rfl];simp[tZ]
   have N4:=K.N6 D up (by simpa using K.sz) (Heap.SameBut.update ..);refine aE (wpAny_letGo (bC ?_));refine⟨rfl,k+1,_,C.setIfInBounds k y,λj=>if j=k then y else J j,h,P,rfl,?_,λj H =>?_,?_,λc o I c2 T q =>?_⟩
   ·have:(λj=>if j=k then (if j<k then m+1 else m)+1 else if j<k then m+1 else m)=λj=>if j<k+1 then m+1 else m:=by
     funext j
     by_cases e:j=k
     ·subst e;simp
     ·by_cases e2:j<k
      ·rw[if_neg e,if_pos e2,if_pos (by omega)]
      ·rw[if_neg e,if_neg e2,if_neg (by omega)]
    rw[this]at N4;exact N4
   ·by_cases e:j=k
    ·subst e;simp only[if_true];exact⟨hx,by rw[Array.getElem?_setIfInBounds_self_of_lt];rw[G.sz];exact h⟩
    ·simp only[if_neg e];obtain⟨a,b⟩:=ho j ž;exact⟨a,by rw[Array.getElem?_setIfInBounds_ne (by omega)];exact b⟩
   ·rw[Heap.size_update,X.1,hs]
   ·exact(Heap.SameBut.update h3 f _).extBut _ _ c2 (X.extBut _ _ (T k h) (kp c o I c2 T q))
 ·rintro b s1 ⟨rfl,k,F,C,J,hk,R,rfl,G,ho,hs,kp⟩;have h:k=n:=by
   rcases Nat.lt_or_ge k n with z|z
   ·rw[Av rfl z]at R;cases R
   ·omega
  subst h;have Ya:C=((cm k).map J).toArray:=by
   apply Array.ext_getElem?;intro j;by_cases H:j<k
   ·rw[(ho j H).2];simp[H]
   ·rw[Qc (by rw[G.sz];omega)]
    symm
    apply Qc;simp;omega
  subst Ya;dsimp only;refine aE (TJ G.to rfl ?_);dsimp only;refine aE (wpAny_newTuple ?_ (by simp;rw[hT];omega));have Y0:z<F.objs.size:=aR G.zz;have ext:∀c o,F.get? c=Y o->(F.push { cls :=.type "tuple",data :=.seq ((cm k).map J).toArray }).get? c=Y o:=λc o q=>af _ q
  have K:ZN (F.push { cls :=.type "tuple",data :=.seq ((cm k).map J).toArray }) z i f k d l p (λj=>if j<k then m+1 else m) .ellipsis ((cm k).map J).toArray:=
   ⟨ext _ _ G.zz,ext _ _ G.ti,ext _ _ G.to,G.sz,λj H=>(G.iter j H).at (λo q=>ext _ _ q),λj H=>(G.lst j H).at (λo q=>ext _ _ q)⟩
  refine aE ?_;unfold Builtin.SmallTypes.ownedTupleHandOut;refine aE (tU K.zz Ž λh4 z4 t =>?_);have N4:ZN h4 z i f k d l p (λj=>if j<k then m+1 else m) (rawInt F.objs.size) ((cm k).map J).toArray:=K.N5 D z4 t;refine tU N4.zz Ž λh5 z5 k5 =>?_
  have U:ZN h5 z i f k d l p (λj=>if j<k then m+1 else m) (rawInt F.objs.size) ((cm k).map J).toArray:=N4.N5 D z5 k5;have up:∀c o,c≠z->F.get? c=Y o->h5.get? c=Y o:=λc o I q=>k5.extBut _ _ I (t.extBut _ _ I (ext c o q))
  have tup:TupAt h5 F.objs.size ((cm k).map J).toArray:=k5.extBut _ _ (jt Y0) (t.extBut _ _ (jt Y0) (ba _ rfl));have Y8:h5.objs.size=F.objs.size+1:=by rw[k5.1,t.1,dX]
  refine bC ⟨_,rfl,?_⟩;rw[hs]at U tup Y8;show Q (.ref F.objs.size) _;rw[hs];refine hQ h5 J (λj H=>(ho j H).1) ⟨U.zz,U.ti,U.to,U.sz,λj H=>by have:=U.iter j H;simpa [H] using this,U.lst⟩ tup Y8 λc o I c2 T q=>up c o I (kp c o I c2 T q)
def wg(v:A.handled=M)(k:0<n)(a:n<=100)(D:ZA z i f n d l)(N:ZN s.heap z i f n d l p (λ_=>m) .none r) (F:∀g x,(∀j,j<n->(p j)[m]?=Y (x j))->ZN g z i f n d l p (λ_=>m+1) (rawInt s.heap.objs.size) ((cm n).map x).toArray->TupAt g s.heap.objs.size ((cm n).map x).toArray->g.objs.size=s.heap.objs.size+1 ->
   Eu z f n d s.heap g->Q (Y (.ref s.heap.objs.size)) { s with heap:=g }) (G:(∃j,j<n/\(p j)[m]?=M)->∀g,Eu z f n d s.heap g->Q M { s with heap:=g }):bz (bD B w) A (pyNext (.ref z)) Q E s:=by
 have b:s.TypeIs (.ref z) "zip" :=⟨_,N.zz,rfl⟩;unfold pyNext;refine aE (wpAny_attempt (wpAny_callSpecial?_slot (name:=ab "__next__") b PySem.F.slot_zip_next
  (Np PySem.F.slot_zip_next b PySem.F.entry_zip_next (IK v k a D N (λg x L K J I H=>bC (F g x L K J I H)) λq g e c y =>?_) (PySem.F.args_zip_next_1 _))))
 obtain⟨o,h,C⟩:=y;exact aE (wpAny_isInstance (T:= "StopIteration") (b:=Z') ⟨o,h,C⟩ isSubtype_stop (bC (G q _ c)))
end
noncomputable def k0{d:Type}(a b c:d):Nat->d
 |0=>a|1=>b|_=>c
def IL(a b c:ai):checkTypeCall "zip" ⟨[a,b,c],[]⟩=fi ():=by kernel_rfl
def Kh(a b c:ai):checkBuiltinCall "zip.__new__" ⟨[.type "zip",a,b,c],[]⟩=fi ():=by kernel_rfl
def Vw(a b c d:ai):argsOk "object.__init__" ⟨[a,b,c,d],[]⟩:=by
 unfold argsOk;rw[signature?_of (id:= "object.__init__") (n:=['_','_','t','i','n','i','_','_']) (o:=['t','c','e','j','b','o']) (by kernel_rfl) PySem.F.owner_object];kernel_rfl
noncomputable abbrev Ud(l:az):Obj:={ cls :=.type "list_iterator",data :=.fields #[.ref l,.int 0 0] }
section
variable (h:dC)(a b c:az)
abbrev zA:dC:=h.push (Ud a)
abbrev zB:dC:=(zA h a).push (Ud b)
abbrev zC:dC:=(zB h a b).push (Ud c)
abbrev zT:dC:=(zC h a b c).push { cls :=.type "tuple",data :=.seq #[.ref h.objs.size,.ref (zA h a).objs.size,.ref (zB h a b).objs.size] }
abbrev zO:dC:=(zT h a b c).push { cls :=.type "tuple",data :=.seq #[.none,.none,.none] }
abbrev zZ:dC:=(zO h a b c).push { cls :=.type "zip",data :=.fields #[.none,.bool Z_,.bool Z_,.ref (zC h a b c).objs.size,.ref (zT h a b c).objs.size] }
end
def EZ(a b c:az)(m l k:Array ai):
  Meets (Builtin.«zip.__new__» ⟨[.type "zip",.ref a,.ref b,.ref c],[]⟩) (λ_ R s=>s.heap.IsList a m/\s.heap.IsList b l/\s.heap.IsList c k/\R (.ok (.ret (.ref (zO s.heap a b c).objs.size))) { s with heap:=zZ s.heap a b c }):=
 .of_wp λf w A R s h=>by
  obtain⟨j,g,d,e,i⟩:=s;obtain⟨q,p,o,h⟩:=h;have n:=sub_zip;have u:Heap.IsList (Shared.heap ⟨j,g,d,e,i⟩) a m:=q;have t:Heap.IsList (Shared.heap ⟨j.push (Ud a),g,d,e,i⟩) b l:=Nu p _;have r:Heap.IsList (Shared.heap ⟨(j.push (Ud a)).push (Ud b),g,d,e,i⟩) c k:=(Nu (Nu o _) _)
  wp_walk using kK u,kK t,kK r
  exact⟨_,rfl,h⟩
section
variable {f:be}{s:ay}
def JS{m:Array ai}(B:s.heap.IsList a p)(z:s.heap.IsList b n)(y:s.heap.IsList c m) (h:∀d,IsZip d (s.heap.objs.size+5) (s.heap.objs.size+3) (s.heap.objs.size+4) .none->TupAt d (s.heap.objs.size+3) #[.ref s.heap.objs.size,.ref (s.heap.objs.size+1),.ref (s.heap.objs.size+2)] ->
   TupAt d (s.heap.objs.size+4) #[.none,.none,.none]->d.IsListIter s.heap.objs.size a 0->d.IsListIter (s.heap.objs.size+1) b 0->d.IsListIter (s.heap.objs.size+2) c 0 ->
   (∀c o,s.heap.get? c=Y o->d.get? c=Y o)->Q (.ref (s.heap.objs.size+5)) { s with heap:=d }) :
  bz (bD f w) A (call (.type "zip") [.ref a,.ref b,.ref c]) Q E s:=by
 refine callType_new PySem.F.called_zip ſ (IL _ _ _) (Kh _ _ _) (λk=>Vw k _ _ _) PySem.F.entry_zip_new (EZ a b c p n m) ⟨B,z,y,?_⟩;have j:(zA s.heap a).objs.size=s.heap.objs.size+1:=dX ..;have i:(zB s.heap a b).objs.size=s.heap.objs.size+2:=by rw[dX,j]
 have g:(zC s.heap a b c).objs.size=s.heap.objs.size+3:=by rw[dX,i]
 have e:(zT s.heap a b c).objs.size=s.heap.objs.size+4:=by rw[dX,g]
 have q:(zO s.heap a b c).objs.size=s.heap.objs.size+5:=by rw[dX,e]
 have l:(zZ s.heap a b c).get? (zO s.heap a b c).objs.size=Y _:=ba _ rfl;have r:(zZ s.heap a b c).get? (zT s.heap a b c).objs.size=Y _:=af _ (ba _ rfl);have t:(zZ s.heap a b c).get? (zC s.heap a b c).objs.size=Y _:=af _ (af _ (ba _ rfl));have u:(zZ s.heap a b c).get? (zB s.heap a b).objs.size=Y _:=af _ (af _ (af _ (ba _ rfl)));have v:(zZ s.heap a b c).get? (zA s.heap a).objs.size=Y _:=af _ (af _ (af _ (af _ (ba _ rfl))));have C:(zZ s.heap a b c).get? s.heap.objs.size=Y _:=af _ (af _ (af _ (af _ (af _ (ba _ rfl)))));show _/\_;rw[g,e,q]at l;rw[e]at r;rw[g,j,i]at t;rw[i]at u;rw[j]at v;rw[q];exact⟨⟨_,l,rfl⟩,h _ l t r ⟨_,C,rfl,rfl⟩ ⟨_,v,rfl,rfl⟩ ⟨_,u,rfl,rfl⟩ λc o x=>af _ (af _ (af _ (af _ (af _ (af _ x)))))⟩
end
noncomputable def Tw(K : PySem.W.Frag)(a b c : az): It :=
  ⟨λi H => ∃g e d x y z,lR K H a g /\ lR K H b e /\ lR K H c d /\ g[i]? = Y x /\ e[i]? = Y y /\ d[i]? = Y z,
   λi H v h => ∃x y z p,(∀g,lR K H a g -> g[i]? = Y x) /\ (∀e,lR K H b e -> e[i]? = Y y) /\ (∀d,lR K H c d -> d[i]? = Y z) /\ H p = M /\ v = .ref p /\ h = de H p (.tup [x,y,z]),
   λi H => ∃g e d,lR K H a g /\ lR K H b e /\ lR K H c d /\ (g.length <= i \/ e.length <= i \/ d.length <= i)⟩
def ZSt(z l k j g e a b c:az)(i:Nat)(h:dC):Prop:=∃d:Array ai,d.size=3/\IsZip h z l k .none/\TupAt h l #[.ref j,.ref g,.ref e]/\TupAt h k d/\h.IsListIter j a i/\h.IsListIter g b i/\h.IsListIter e c i
theorem ql{P:Nat->Prop}(c:P 0)(b:P 1)(a:P 2):∀j,j<3->P j
 |0,_=>c|1,_=>b|2,_=>a
def IQ{P:be}{K:aT}{x1}(a b c z L C J G F:az)(Z:ZA z L C 3 (k0 J G F) (k0 a b c)):
  zX P w K (.Tuple Wz x1 Uy) (Tw K a b c) [z,L,C,J,G,F] z (ZSt z L C J G F a b c) where
 mem:=by simp
 obj:=λi h st d hc=>by
  obtain⟨p,s0,s1,s2,s3,s4,s5,s6⟩:=st;simp only[au,EE,or_false]at hc;rcases hc with rfl|rfl|rfl|rfl|rfl|rfl
  ·exact⟨_,s1,λv z=>by cases z⟩
  ·exact⟨_,s2,λv z=>by cases z⟩
  ·exact⟨_,s3,λv z=>by cases z⟩
  ·obtain⟨o,e,c,d⟩:=s4;exact⟨o,e,λv z=>by rw[d]at z;cases z⟩
  ·obtain⟨o,e,c,d⟩:=s5;exact⟨o,e,λv z=>by rw[d]at z;cases z⟩
  ·obtain⟨o,e,c,d⟩:=s6;exact⟨o,e,λv z=>by rw[d]at z;cases z⟩
 keep:=λi h h' st k=>by obtain⟨p,s0,s1,s2,s3,s4,s5,s6⟩:=st;exact⟨p,s0,k z Ž _ s1,k L Ž _ s2,k C Ž _ s3,s4.at λo q=>k J Ž o q,s5.at λo q=>k G Ž o q,s6.at λo q=>k F Ž o q⟩
 item:=by
  intro X hP hw hK hc i D s σ H E I hf st hg;subst hP hw hK;obtain⟨p,s0,s1,s2,s3,s4,s5,s6⟩:=st;obtain⟨xs,ys,zs,x,y,zz,WT,WS,WR,m,hy,Zm⟩:=hg;obtain⟨T,XC,p1,Zq⟩:=I.list WT;obtain⟨S,XB,p2,Zp⟩:=I.list WS;obtain⟨R,XA,p3,Zo⟩:=I.list WR;obtain⟨u1,X4,ru1⟩:=XC.get m;obtain⟨u2,X3,ru2⟩:=XB.get hy;obtain⟨u3,X2,ru3⟩:=XA.get Zm;have f:∀d∈[z,L,C,J,G,F],zb X D H d:=hf;have N:ZN s.heap z L C 3 (k0 J G F) (k0 a b c) (k0 T.toArray S.toArray R.toArray) (λ_=>i) .none p:=⟨s1,s2,s3,s0,ql s4 s5 s6,ql p1.isList p2.isList p3.isList⟩;refine wg (I.ok.hd hc) ſ ſ Z N (λh1 xx t N1 t1 z1 k1 =>?_) λhe =>?_
  ·have e1:xx 0=u1:=by have:=t 0 ſ;simp[k0]at this;rw[X4]at this;cases this;rfl
   have e2:xx 1=u2:=by have:=t 1 ſ;simp[k0]at this;rw[X3]at this;cases this;rfl
   have e3:xx 2=u3:=by have:=t 2 ſ;simp[k0]at this;rw[X2]at this;cases this;rfl
   have t1:TupAt h1 s.heap.objs.size #[u1,u2,u3]:=by have:=t1;simpa [List.range_succ,e1,e2,e3] using this
   refine⟨_,rfl,?_⟩;refine wpAny_letOwnedTupleGo_zip (s:={ s with heap:=h1 }) N1.zz λh2 SS w2 =>?_
   have Zn:z<s.heap.objs.size:=aR s1;have hn:H s.heap.objs.size=none:=I.f'.fresh (aw _);have Xg:i4 z h1 h2:=w2;have N2:=N1.N5 Z SS Xg;have g:∀d o,d∉[z,L,C,J,G,F]->s.heap.get? d=Y o->h2.get? d=Y o:=λd o l q=>by
    have n1:d≠z:=λe=>l (by simp[e])
    have n2:d≠C:=λe=>l (by simp[e])
    exact(Xg.2 d n1).trans (k1 d o n1 n2 (ql (λe=>l (by simp[e,k0])) (λe=>l (by simp[e,k0])) (λe=>l (by simp[e,k0]))) q)
   have tup:h2.get? s.heap.objs.size=Y { cls :=.type "tuple",data :=.seq #[u1,u2,u3] }:=(Xg.2 _ (jt Zn)).trans t1;have O:∀d o,H d=Y o->d∉[z,L,C,J,G,F]:=λd o q l=>by have:=(f d l).1;rw[this]at q;cases q
   have new:hZ X.prog X.w (de H s.heap.objs.size (.tup [x,y,zz])) h2 s.heap.objs.size (.tup [x,y,zz]):=
    ⟨by show 3<=a9;rw[hT];decide,[u1,u2,u3],.cons ru1 (.cons ru2 (.cons ru3 .nil)),_,tup,⟨rfl,rfl⟩,_,rfl⟩
   have U:oi X.prog X.w (de H s.heap.objs.size (.tup [x,y,zz])) h2:=λd o q=>by
    by_cases l:d=s.heap.objs.size
    ·subst l;rw[bh]at q;cases q;exact new
    ·rw[aS l]at q;refine(I.f' d o q).xK (λc v B r =>?_) (λc r=>by rw[aS (bu r hn)];exact r) λc ys r=>by rw[aS (bu r hn)];exact r
     rcases B with rfl|B
     ·exact g _ _ (O _ _ q) r
     ·exact g _ _ (O _ _ B) r
   have un:Un (Ce X.stack) [z,L,C,J,G,F] H (de H s.heap.objs.size (.tup [x,y,zz])) s.heap h2:=by
    have Nm:∀b o,s.heap.get? b=Y o->b≠s.heap.objs.size:=λb o q=>bE (aR q)
    exact⟨λb o q n _ m=>g b o m q,λb o q n _ m=>⟨o.slots,g b o m q⟩,λb o q n m=>by rw[aS (Nm b o q)];exact n,
     λb o q m=>⟨o,g b o m q⟩,λb ys q=>by rw[aS (bu q hn)];exact q,λb o u q=>by rw[aS (bu q hn)];exact q,λb ps q=>⟨#[],by rw[aS (bu q hn)];simpa using q⟩⟩
   have I2:Inv X D σ (de H s.heap.objs.size (.tup [x,y,zz])) { s with heap:=h2 }:=I.El (s':={ s with heap:=h2 }) rfl un U I.bare λb l=>⟨(f b l).2.2.2.1,(f b l).2.1,(f b l).2.2.2.2.1,(f b l).2.2.2.2.2⟩
   refine⟨.ref s.heap.objs.size,_,I2,rfl,⟨x,y,zz,s.heap.objs.size,λq hq=>by rw[I.oM hq WT];exact m,λq hq=>by rw[I.oM hq WS];exact hy,λq hq=>by rw[I.oM hq WR];exact Zm,hn,rfl,rfl⟩,⟨_,N2.sz,N2.zz,N2.ti,N2.to,N2.iter 0 ſ,N2.iter 1 ſ,N2.iter 2 ſ⟩,λd hd =>?_⟩;have:d≠s.heap.objs.size:=by
    simp only[au,EE,or_false]at hd;rcases hd with rfl|rfl|rfl|rfl|rfl|rfl
    ·exact bE Zn
    ·exact bE (aR s2)
    ·exact bE (aR s3)
    ·obtain⟨o,q,_⟩:=s4;exact bE (aR q)
    ·obtain⟨o,q,_⟩:=s5;exact bE (aR q)
    ·obtain⟨o,q,_⟩:=s6;exact bE (aR q)
   rw[aS this];exact(f d hd).1
  ·exfalso;obtain⟨j,hj,q⟩:=he
   match j,hj,q with
   |0,_,q=>simp[k0]at q;rw[rp.mpr q]at X4;cases X4|1,_,q=>simp[k0]at q;rw[rp.mpr q]at X3;cases X3|2,_,q=>simp[k0]at q;rw[rp.mpr q]at X2;cases X2
 done:=by
  intro X hP hw hK hc i D s σ H E I hf st hg;subst hP hw hK;obtain⟨p,s0,s1,s2,s3,s4,s5,s6⟩:=st;obtain⟨xs,ys,zs,WT,WS,WR,m⟩:=hg;obtain⟨T,XC,p1,Zq⟩:=I.list WT;obtain⟨S,XB,p2,Zp⟩:=I.list WS;obtain⟨R,XA,p3,Zo⟩:=I.list WR;have l1:=XC.length;have l2:=XB.length;have l3:=XA.length;have f:∀d∈[z,L,C,J,G,F],zb X D H d:=hf;have N:ZN s.heap z L C 3 (k0 J G F) (k0 a b c) (k0 T.toArray S.toArray R.toArray) (λ_=>i) .none p:=⟨s1,s2,s3,s0,ql s4 s5 s6,ql p1.isList p2.isList p3.isList⟩;refine wg (I.ok.hd hc) ſ ſ Z N (λh1 xx t =>?_) λ_ h' eb=>⟨rfl,?_⟩
  ·exfalso;have q1:=t 0 ſ;have q2:=t 1 ſ;have q3:=t 2 ſ;simp[k0]at q1 q2 q3;have:=(ax.mp q1).1;have:=(ax.mp q2).1;have:=(ax.mp q3).1;omega
  ·have O:∀b o,H b=Y o->b∉[z,L,C,J,G,F]:=λb o q l=>by have:=(f b l).1;rw[this]at q;cases q
   have g:∀d o,d∉[z,L,C,J,G,F]->s.heap.get? d=Y o->h'.get? d=Y o:=λd o l q=>eb d o (λe=>l (by simp[e])) (λe=>l (by simp[e])) (ql (λe=>l (by simp[e,k0])) (λe=>l (by simp[e,k0])) (λe=>l (by simp[e,k0]))) q
   have U:oi X.prog X.w H h':=λb o q=>by
    refine(I.f' b o q).xK (λc v B r =>?_) (λc r=>r) λc ys r=>r
    rcases B with rfl|B
    ·exact g _ _ (O _ _ q) r
    ·exact g _ _ (O _ _ B) r
   have un:Un (Ce X.stack) [z,L,C,J,G,F] H H s.heap h':=
    ⟨λb o q n _ m=>g b o m q,λb o q n _ m=>⟨o.slots,g b o m q⟩,λb o q n m=>n,λb o q m=>⟨o,g b o m q⟩,λb ys q=>q,λb o u q=>q,λb ps q=>⟨#[],by simpa using q⟩⟩
   exact I.El (s':={ s with heap:=h' }) rfl un U I.bare λb l=>⟨(f b l).2.2.2.1,(f b l).2.1,(f b l).2.2.2.2.1,(f b l).2.2.2.2.2⟩
 self:=λA i s Q E st h=>by obtain⟨p,s0,s1,_⟩:=st;exact wpAny_pyIter_zip s1 h
section
variable {X:Cx}{f:DF}
def Sm(K:aT)(k:TA):TI:=λe H R=>k e H λj d=>∃a b c,j=[.ref a,.ref b,.ref c]/\(∃i,lR K d a i)/\(∃h,lR K d b h)/\(∃f,lR K d c f)/\R (Tw K a b c) d
def cj.three(r:cj [x,y,z] a):∃u v w,a=[u,v,w]/\RelV x u/\RelV y v/\RelV z w:=by
 cases r with
 | cons d t=>cases t with
  | cons c t=>cases t with
   |cons b t=>cases t;exact⟨_,_,_,rfl,d,c,b⟩
def Oo{x1}(hg:Gl X "zip")(hm:X.mg "zip" = M)(ha:PA X [e,l,g] ta)(hs:autoParam (aq [e,l,g] X.env=[(Z_,eval e X.env),(Z_,eval l X.env),(Z_,eval g X.env)]) ų)(K:autoParam (aq [l,g] X.env=[(Z_,eval l X.env),(Z_,eval g X.env)]) ų)(hv:autoParam (hJ "zip" = Y (.type "zip")) Ū):PI X (.Tuple L x1 t) (.Call (.Name "zip" p) [e,l,g] [] x) (Sm X.K ta):=by
 intro D s σ H R I h;refine Call_ (vT I hg hm hv (gM (fE (ha x D s σ H _ I h) ?_) (by rw[hs,K]) (by rw[K];rfl)));rintro us f ⟨vs,H1,r,r1,q1⟩;obtain⟨a,b,c,rfl,⟨xs,P⟩,⟨ys,O⟩,⟨zs,N⟩,q⟩:=q1;obtain⟨u,v,w,rfl,ru,rv,n⟩:=cj.three r1;cases ru;cases rv;cases n;obtain⟨aaW,rx1,C,Zq⟩:=r.list P;obtain⟨aaV,rx2,B,Zp⟩:=r.list O;obtain⟨aaU,rx3,y,Zo⟩:=r.list N;obtain⟨oa,T,_⟩:=C.isList;obtain⟨ob,S,_⟩:=B.isList;obtain⟨oc,Q,_⟩:=y.isList;have J:=aR T;have G:=aR S;have F:=aR Q;refine JS C.isList B.isList y.isList λh' z1 z2 z3 z4 z5 z6 k1 =>?_
 refine wpAny_pyIter_zip (s:={ f with heap:=h' }) z1 ?_;have i:∀k:Nat,H1 (f.heap.objs.size+k)=none:=λk=>r.f'.fresh (gS _ _)
 have m:∀ {d:az}(k:Nat),d<f.heap.objs.size->d≠f.heap.objs.size+k:=fun {d} k h z=>by rw[z]at h;exact absurd h (Nat.not_lt.mpr (gS _ _))
 have o:∀j k:Nat,j≠k->f.heap.objs.size+j≠f.heap.objs.size+k:=λj k h z=>h (Nat.add_left_cancel z)
 have Z:ZA (f.heap.objs.size+5) (f.heap.objs.size+3) (f.heap.objs.size+4) 3 (k0 (f.heap.objs.size+0) (f.heap.objs.size+1) (f.heap.objs.size+2)) (k0 a b c):=by
  refine⟨o 3 5 ſ,o 4 5 ſ,o 3 4 ſ,ql ⟨o 0 5 ſ,o 0 3 ſ,o 0 4 ſ⟩ ⟨o 1 5 ſ,o 1 3 ſ,o 1 4 ſ⟩ ⟨o 2 5 ſ,o 2 3 ſ,o 2 4 ſ⟩,λj k hj hk U =>?_,?_⟩
  ·have E:∀j,j<3->k0 (f.heap.objs.size+0) (f.heap.objs.size+1) (f.heap.objs.size+2) j=f.heap.objs.size+j:=ql rfl rfl rfl;rw[E j hj,E k hk];exact o j k U
  ·exact ql ⟨m 5 J,m 4 J,ql (m 0 J) (m 1 J) (m 2 J)⟩ ⟨m 5 G,m 4 G,ql (m 0 G) (m 1 G) (m 2 G)⟩ ⟨m 5 F,m 4 F,ql (m 0 F) (m 1 F) (m 2 F)⟩
 refine⟨f.heap.objs.size+5,[f.heap.objs.size+5,f.heap.objs.size+3,f.heap.objs.size+4,f.heap.objs.size+0,f.heap.objs.size+1,f.heap.objs.size+2],_,_,H1,rfl,r.kept (t':=f.toks) k1,
  IQ a b c (f.heap.objs.size+5) (f.heap.objs.size+3) (f.heap.objs.size+4) (f.heap.objs.size+0) (f.heap.objs.size+1) (f.heap.objs.size+2) Z,⟨_,rfl,z1,z2,z3,z4,z5,z6⟩,λd hd =>?_,q⟩
 simp only[au,EE,or_false]at hd;rcases hd with rfl|rfl|rfl|rfl|rfl|rfl
 ·exact r.tw (gS _ _) (i 5)
 ·exact r.tw (gS _ _) (i 3)
 ·exact r.tw (gS _ _) (i 4)
 ·exact r.tw (gS _ _) (i 0)
 ·exact r.tw (gS _ _) (i 1)
 ·exact r.tw (gS _ _) (i 2)
noncomputable def gA:List D->List D->List D->List D
 |x::c,y::b,z::a =>.tup [x,y,z]::gA c b a|_,_,_=>[]
theorem vo:∀(c b a:List D),(gA c b a).length=min c.length (min b.length a.length)
 |[],b,a=>by simp[gA]
 |x::c,[],a=>by simp[gA]
 |x::c,y::b,[]=>by simp[gA]
 |x::c,y::b,z::a=>by simp[gA,vo c b a]
theorem z9:∀ {c b a:List D}{i:Nat}{d:D},(gA c b a)[i]?=Y d->∃x y z,c[i]?=Y x/\b[i]?=Y y/\a[i]?=Y z/\d=.tup [x,y,z]
 |[],b,a,i,d,h=>by simp[gA]at h
 |x::c,[],a,i,d,h=>by simp[gA]at h
 |x::c,y::b,[],i,d,h=>by simp[gA]at h
 |x::c,y::b,z::a,0,d,h=>by simp[gA]at h;exact⟨x,y,z,rfl,rfl,rfl,h.symm⟩
 |x::c,y::b,z::a,i+1,d,h=>by simp only[gA,NL]at h ⊢;exact z9 h
def JA{K:aT}{f e:List V}(g:G a=Y (.lst f))(L:G b=Y (.lst h))(J:G c=Y (.lst e))(r:bf K G ds f)(U:bf K G es h)(o:bf K G fs e):za K G (Tw K a b c) (gA ds es fs):=by
 have l1:=r.length;have l2:=U.length;have l3:=o.length;refine⟨λi H s I =>?_,λi H s I=>⟨f,h,e,.of (s _ _ g),.of (s _ _ L),.of (s _ _ J),by rw[vo]at I;omega⟩,λi H x H' G1 d v k ⟨y,T,j,p,P,O,N,X,ev,eh⟩ hd =>?_⟩
 ·rw[vo]at I;have P:i<f.length:=by omega
  have O:i<h.length:=by omega
  have N:i<e.length:=by omega
  exact⟨f,h,e,f[i],h[i],e[i],.of (s _ _ g),.of (s _ _ L),.of (s _ _ J),by simp[P],by simp[O],by simp[N]⟩
 ·obtain⟨c1,c2,c3,S,R,Q,rfl⟩:=z9 hd;have F:=P f (.of (k _ _ (v _ _ g)));have E:=O h (.of (k _ _ (v _ _ L)));have C:=N e (.of (k _ _ (v _ _ J)));obtain⟨v1,u,B⟩:=r.get S;obtain⟨v2,t,z⟩:=U.get R;obtain⟨v3,q,w⟩:=o.get Q;rw[F]at u;cases u;rw[E]at t;cases t;rw[C]at q;cases q;subst ev eh;have m:=v.trans (.alloc (o :=.tup [y,T,j]) (k.free X));exact⟨de G1 p (.tup [y,T,j]),gv.alloc k X,mM ⟨p,_,rfl,bh,.cons (cK.mono m c1 B) (.cons (cK.mono m c2 z) (.cons (cK.mono m c3 w) .nil))⟩⟩
def Vx(f n A:DF):DL:=λa=>(iL f a).bind λd=>(iL n a).bind λc=>(iL A a).map λb=>gA d c b
def Pj{O}{m:Pos}(hg:Gl X "zip")(hm:X.mg "zip" = M)(h:PE X e (tP X.K Z f))(h':PE X l (tP X.K Z n))(E:PE X g (tP X.K Z A))(hs:autoParam (aq [e,l,g] X.env=[(Z_,eval e X.env),(Z_,eval l X.env),(Z_,eval g X.env)]) ų)(C:autoParam (aq [l,g] X.env=[(Z_,eval l X.env),(Z_,eval g X.env)]) ų)(D:autoParam (aq [e,l,g] X.env=(Z_,eval e X.env)::aq [l,g] X.env) ų)(B:autoParam (aq [l,g] X.env=(Z_,eval l X.env)::aq [g] X.env) ų)(z:autoParam (aq [g] X.env=(Z_,eval g X.env)::aq [] X.env) ų):
  PI X (.Tuple r O m) (.Call (.Name "zip" p) [e,l,g] [] y) (Ad X.K Z (Vx f n A)):=(Oo hg hm (ao h (ao h' (ao E aQ z) B) D) hs C).imp <|by
 rintro σ H R ⟨G,u,ds,gh,F,j,k⟩;unfold Vx at j;obtain⟨N,ef,j⟩:=aa.1 j;rcases i:iL n u with _|W
 ·simp[i]at j
 rcases d:iL A u with _|L
 ·simp[i,d]at j
 simp only[i,d,ae,bP]at j;cases j;refine⟨G,u,[.lst N,.lst W,.lst L],gh,F,?_,λvs G1 H1 s r1 =>?_⟩
 ·simp only[aC,aN,xk ef,xk i,xk d,ae]
 ·obtain⟨v,t,rfl,rv,rt⟩:=bJ.mp r1;obtain⟨v',t',rfl,w,x⟩:=bJ.mp rt;obtain⟨T,U,rfl,o,q⟩:=bJ.mp x;have:=dD.mp q;subst this;obtain⟨a,S,rfl,K,ra⟩:=cU.mp rv;obtain⟨b,Q,rfl,J,rb⟩:=cU.mp w;obtain⟨c,P,rfl,I,rc⟩:=cU.mp o;exact⟨a,b,c,rfl,⟨S,.of (s.gh _ _ K)⟩,⟨Q,.of (s.gh _ _ J)⟩,⟨P,.of (s.gh _ _ I)⟩,k _ G1 H1 s (JA K J I ra rb rc)⟩
end
section
variable {X:Cx}
noncomputable def mT(c m:aG)(F:List D->Option D)(f:DF)(g:DL):DF:=λa=>(f a).bind λx=>match x with
 |.ins d b h=>if d=c/\m∉b then (g a).bind λe=>F (.ins d b h::e) else M
 |_=>M
def DA{m:aG}{F:List D->Option D}{e:St}(n:vd X.K br c=Y (Y (.ref C)))(u:∀e H Q,EI X.K Z g e H Q->t e H Q)(h:tP X.K Z (mT c m F k g) e H Q):C3 C m (gO X.K F) [] E0 (tP X.K Z k) t e H Q:=by
 obtain⟨G,i,d,T,f,b,q⟩:=h;unfold mT at b;rw[aa]at b;obtain⟨x,p,b⟩:=b;split at b
 ·rename_i c' ks ds;split at b
  ·rename_i R;obtain⟨rfl,P⟩:=R;rcases o:g i with _|z
   ·rw[o]at b;cases b
   rw[o]at b;refine⟨G,i,_,T,f,p,λv y H1 j s =>?_⟩;obtain⟨a,C',dx,vs,rfl,w,S,l,rs⟩:=l6.mp s;rw[n]at w;cases w;refine⟨a,dx,_,rfl,j.gh _ _ S,rH (K:=X.K) (G:=y) P,u _ _ _ ⟨y,i,z,j.gh,f.ext j,o,λB G2 H2 r K =>?_⟩⟩;show gO X.K F (.ref a::(B++[])) H2 Q E0;rw[bx];exact⟨G2,_,d,r.gh,.cons (cK.mono r.gg _ s) K,b,λv G3 H3 E3 E=>q v G3 H3 ((j.trans r).trans E3) E⟩
  ·cases b
 ·cases b
def Ul{c m:aG}{F:List D->Option D}(h:jb X.prog X.w X.K X.mg X.base c m k (gO X.K F))(g:fN k X.A)(i:PE X o (tP X.K Z b)) (e:autoParam (eval (.Call (.Attribute o m I) [] [] A) X.env=(do
   let a <- eval o X.env
   ou I.atName
   let (f,first) <- lD [a] (lE a m pl)
   qy A f first (c6 A (aq [] X.env)) (gV A (dF [] X.env)))) ų):PE X (.Call (.Attribute o m I) [] [] A) (tP X.K Z (mT c m F b aN)):=by
 obtain⟨C,f,y,x,n,l,j,r,p⟩:=h.ex;exact(xZ (pl:=pl) i l j r g p .nil nq e).imp λd H Q q=>DA n (by rintro d H Q ⟨G,w,z,s,v,t,k⟩;cases t;exact k _ G H (.refl s) .nil) q
def yQ{c m:aG}{F:List D->Option D}{i:DF}{g:DL}(h:jb X.prog X.w X.K X.mg X.base c m k (gO X.K F))(l:fN k X.A)(p:PE X o (tP X.K Z i))(v:PA X (e::J) (EI X.K Z g))(a:autoParam (aq (e::J) X.env=(Z_,eval e X.env)::aq J X.env) ų)(b:autoParam ((c6 A (aq J X.env)).any (·.1)=false) ų) (j:autoParam (eval (.Call (.Attribute o m I) (e::J) [] A) X.env=(do
   let d <- eval o X.env
   ou I.atName
   let (f,first) <- lD [d] (lE d m pl)
   qy A f first (c6 A (aq (e::J) X.env)) (gV A (dF [] X.env)))) ų):PE X (.Call (.Attribute o m I) (e::J) [] A) (tP X.K Z (mT c m F i g)):=by
 obtain⟨C,f,B,y,n,s,r,w,t⟩:=h.ex;exact(BC (pl:=pl) p s r w l t .nil nq v a b j).imp λx H Q q=>DA n (λ_ _ _ z=>z) q
def qr(a:Bool):D->D->Option D
 |y,.fT b c=>(vV y).map λk =>.bl (if a then !(bL b c k).isSome else (bL b c k).isSome)
 |_,_=>M
def LI{K:aT}(r:bf K G b c):(qD (a.zip c) k).isSome=(bL a b k).isSome:=by
 rcases e:bL a b k with _|d
 ·rw[tJ r e];rfl
 obtain⟨v,f,_⟩:=pR r e;rw[f];rfl
def oT(n:X.A.units+1<mZ)(s:PE X e (tQ X.K Z L))(r:PE X o (tQ X.K Z N))(t:autoParam (hU .NotIn o=false) ų):PT X (.Compare e [.NotIn] [o] A) (si X.K Z (cT (e2 (qr Z') L N))):=
 (Rq (Jf n s r) t).imp <|by
  rintro I H Q ⟨G,h,d,w,c,C,q⟩;obtain⟨x,y,B,z,b⟩:=xn (qE C);cases y<;>simp only[qr]at b<;>try (cases b;done)
  rename_i R T;obtain⟨S,D,b⟩:=ak.1 b;simp only[bP,if_true]at b;cases b;refine⟨G,h,x,w,c,B,λv K H1 g k=>⟨K,h,_,g.gh,c.ext g,z,λu F E f j =>?_⟩⟩;obtain⟨a,P,rfl,⟨_,p⟩,l,i⟩:=j.SX f.gh;have m:=oP D (k.ext f);subst m;exact⟨a,_,rfl,wR.k p,_,rfl,by rw[LI i];exact q F E (g.trans f)⟩
def Dr:D->D->Option D
 |.fT a b,y=>(vV y).bind λk=>bL a b k
 |_,_=>M
def Pp(p:X.A.units+1<mZ)(z:PE X o (tQ X.K Z L))(t:PE X e (tQ X.K Z N))(r:autoParam (Tq e) ŧ):PE X (.Subscript o e A) (tP X.K Z (e2 Dr L N)):=
 (Ow p z t r).imp <|by
  rintro S H Q ⟨G,i,d,B,c,F,q⟩;obtain⟨x,y,D,C,b⟩:=xn F;cases x<;>simp only[Dr]at b<;>try (cases b;done)
  rename_i ks ds;obtain⟨kk,K,b⟩:=aa.1 b;refine⟨G,i,_,B,c,D,λv R H1 h m=>⟨R,i,y,h.gh,c.ext h,C,λu P I g k =>?_⟩⟩;obtain⟨a,T,rfl,⟨_,s⟩,l,j⟩:=(m.ext g).SX g.gh;have n:=oP K k;subst n;obtain⟨w,E,f⟩:=pR j b;exact⟨a,w,rfl,by rw[<- E];exact wR.k s,q w P I (h.trans g) f⟩
end
section
variable {X:Cx}{m:Pos}
end
section
variable {X:Cx}
def sP(b:Bool)(j:Nat)(c f:aG)(e:DM):DG:=λd=>(e d).bind λw=>(Kd b j w.2).bind λq=>(Ab q.1 w.2).bind λa=>(D0 c a.1 a.2 q.2).bind λz=>
 if DZ (dH z.1 f)=Z'/\z.2.1.length<999 then Y (.nx (w.2.set q.1 (Y (.obj a.1 (nT (.ins c (lC f w.1 z.2.1 z.2.2).1 (lC f w.1 z.2.1 z.2.2).2) q.2 a.2))))) else M
def Eg{b:Bool}{c f:aG}{K:DM}(h:PE X (.Name x p) (jf j))(he:PE X e (tM X.K B Z K))(J:r_ X.K c f)(hj:autoParam (j∈Z) ű)(hb:autoParam (b=Z'->Dw j∈Z) ű)(ha:autoParam (f∉JX) ű)(hs:autoParam (dS e (Y (.Attribute (.Name x p) f u)) n.line X.env=fi false) ų):PS X (.Assign [.Attribute (.Name x p) f u] e n) (k7 X.K B y Z Z (sP b j c f K)):=(Fs h he hs).imp <|by
 rintro D σ H ⟨G,E,o,S,i,k⟩;unfold sP at i;obtain⟨⟨d,F⟩,ef,i⟩:=aa.1 i;rcases q:Kd b j F with _|⟨r,T⟩
 ·simp[q]at i
 rcases z:Ab r F with _|⟨s,t⟩
 ·simp[q,z]at i
 rcases I:D0 c s t T with _|⟨fk,ks,ds⟩
 ·simp[q,z,I]at i
 simp only[q,z,I,ae]at i;split at i
 ·rename_i hz;cases i;obtain⟨i1,U⟩:=vX I;refine⟨G,E,d,F,S,ef,λv G' H' P s' R =>?_⟩;obtain⟨hr,s1,t',a,v',O,e2,e3,e4⟩:=P.Kd q hj hb;have w:=mC z;rw[w]at O;cases O;obtain⟨a',Q,C,dx,vs,N,g,L,f4,f5,f6⟩:=P.SH (f:=f) (d:=d) hr w i1 U hz.1 ha R;rw[e2]at N;cases N;rw[e4]at g;cases g;refine⟨_,e3,Q,C,dx,_,rfl,f4,(J C L).1,(J C L).2,?_,k _ G' _ f6⟩;rw[wY f5];omega
 ·cases i
end
section
variable {X:Cx}{m:List Nat}
end
def zR.mono{P:be}{K:aT}{d:Sp}(h:zR P w K e b c j d)(i:j<=k):zR P w K e b c k d:=by
 obtain⟨C,f,s,g,r,q,p,o,l⟩:=h.ex;exact⟨C,f,s,g,r,q,p,o.mono i,l⟩
section
variable {X:Cx}
def Gg{c f m:aG}{fk1:List (aG×Sk)}{F:List D->Option (D×D)}(h:jb X.prog X.w X.K X.mg X.base a m k (spT X.K (.fs a fk1) F))(t:fN k X.A)(i:r_ X.K c f)(w:PE X (.Name y p) (jf j))(A:autoParam (j∈d) ű)(o:autoParam (b_ (.Name y p) f X.env (eval (.Name y p) X.env)=eval (.Name y p) X.env) ų) (s:autoParam (eval (.Call (.Attribute (.Attribute (.Name y p) f l) m L) [] [] J) X.env=(do
   let r <- eval (.Attribute (.Name y p) f l) X.env
   ou L.atName
   let (f,first) <- lD [r] (lE r m g)
   qy J f first (c6 J (aq [] X.env)) (gV J (dF [] X.env)))) ų):PE X (.Call (.Attribute (.Attribute (.Name y p) f l) m L) [] [] J) (tM X.K B d (jU c f a m (.fs a fk1) F j aN)):=by
 obtain⟨C,S,R,P,n,E,x,u,G⟩:=h.ex;exact(xZ (pl:=g) (qJ w o) E x u t G .nil nq s).imp λN H Q q=>AD n i A (by rintro b H Q ⟨G,a,c,s,e,f,k⟩;cases f;exact k _ G H (.refl s) .nil) q
def yH(i:Nat)(c f j g:aG):DF:=λl=>(eV i l).bind λd=>match d with
 | .obj (.fs k e) (.ins a b p)=>if k=c/\a=c then (xy f b).bind λn=>(p[n]?).bind λq=>match dH e f,q with
  |.fs o e2,.ins s r h=>if (o=j/\s=j)/\DZ (dH e2 g)=Z' then (xy g r).bind λm=>h[m]? else M
  |_,_=>M
  else M
 |_=>M
def MM{c f c2:aG}(h:PE X (.Name x p) (jf i))(j:r_ X.K c f)(I:r_ X.K c2 g)(hi:autoParam (i∈L) ű)(hb:autoParam (b_ (.Name x p) f X.env (eval (.Name x p) X.env)=eval (.Name x p) X.env) ų)(N:autoParam (b_ (.Attribute (.Name x p) f l) g X.env (eval (.Attribute (.Name x p) f l) X.env)=eval (.Attribute (.Name x p) f l) X.env) ų):PE X (.Attribute (.Attribute (.Name x p) f l) g l2) (tP X.K L (yH i c f c2 g)):=
 (qJ (qJ h hb) N).imp <|by
  rintro J H Q ⟨G,ρ,d,q,y,e,k⟩;unfold yH at e;rw[aa]at e;obtain⟨o,z,e⟩:=e;split at e
  ·rename_i c' fk YE E ds;split at e
   ·rename_i U;obtain⟨rfl,rfl⟩:=U;rw[aa]at e;obtain⟨m,g1,e⟩:=e;rw[aa]at e;obtain⟨d2,ed,e⟩:=e;split at e
    ·rename_i k2 e2 a2 b2 ds2 hs;split at e
     ·rename_i U;obtain⟨⟨rfl,rfl⟩,hl⟩:=U;obtain⟨m2,g2,e⟩:=aa.1 e;obtain⟨v,K,F⟩:=y.get i _ (gY z);rw[if_pos hi]at F;rcases F with r|⟨a,o,rfl,e3,S,e4,e5⟩
      ·obtain⟨a,C,B,W,rfl,n,ha,b,R⟩:=l6.mp (ni.mp r);obtain⟨u,eu,P⟩:=R.get ed;obtain⟨a',w,B',M',rfl,A,O,b',R'⟩:=l6.mp P;obtain⟨u',eu',P'⟩:=R'.get e;exact⟨_,K,a,C,B,_,_,rfl,q _ _ ha,(j C n).1,(j C n).2,by rw[k_ g1];exact eu,a',w,B',_,u',rfl,q _ _ O,(I w A).1,(I w A).2,by rw[k_ g2];exact eu',k u' G H (.refl q) P'⟩
      ·cases e4 with
       |@ins _ _ _ _ _ C B W S n ea b t=>
        obtain⟨D,T1,U1,f1,T,_⟩:=t.at (by rw[aV,pG g1];rfl) ed;rw[hs]at T;cases T with
        |@ins _ _ _ _ a' w B' M' S' A ea' b' t'=>
         have s:(b2.map (dH e2))[m2]?=Y .lf:=by rw[aV,pG g2,<- xj hl];rfl
         obtain⟨D',T1',U1',f1',T',_⟩:=t'.at s e;cases T' with
         |leaf r=>exact⟨_,K,a,C,B,_,_,rfl,ea,(j C n).1,(j C n).2,by rw[k_ g1];exact f1,a',w,B',_,D',rfl,ea',(I w A).1,(I w A).2,by rw[k_ g2];exact f1',k D' G H (.refl q) r⟩
     ·cases e
    ·cases e
   ·cases e
  ·cases e
def nu(F:List D->Option (D×List D×List D))(j:Nat)(f:DF)(c:DL)(g:DL):DM:=λa=>(eX j a).bind λb=>(f a).bind λd=>(c a).bind λc=>(g a).bind λe=>(F (.lst b::d :: .lst c::e)).map λq=>(q.1,a.set j (Y (.lst q.2.1)))
def A8{F:List D->Option (D×List D×List D)}{m1:Pos}{f:DF}(h:hW X.prog X.w X.K X.mg X.base x k (rW X.K 0 2 F))(hr:fN k X.A)(hg:Gl X x)(hy:PE X (.Name y m1) (jf j))(hf:PE X e (tP X.K s f))(hz:PE X z (tF X.K s c))(ha:PA X l (EI X.K s g))(w:autoParam (j∈s) ű)(N:autoParam ((x==("__debug__" : aG))=false) ű)(O:autoParam (aq (.Name y m1::e::z::l) X.env=(Z_,eval (.Name y m1) X.env)::aq (e::z::l) X.env) ų)(O1:autoParam (aq (e::z::l) X.env=(Z_,eval e X.env)::aq (z::l) X.env) ų)(O2:autoParam (aq (z::l) X.env=(Z_,eval z X.env)::aq l X.env) ų)(u:autoParam ((c6 m (aq (e::z::l) X.env)).any (·.1)=false) ų):PE X (.Call (.Name x p) (.Name y m1::e::z::l) [] m) (tM X.K B s (nu F j f c g)):=by
 obtain⟨fa,fd,ps,h1,hm,hk,hb⟩:=h.ex;refine(pA h1 hr hg hm hk hb .nil nq (cM hy (cM hf (cM hz ha O2) O1) O) N O u).imp ?_;rintro σ H Q ⟨G,n,d,U,S,b,q⟩;unfold nu at b;obtain⟨r,E,b⟩:=aa.1 b;obtain⟨d1,ef,b⟩:=aa.1 b;obtain⟨r',E',b⟩:=aa.1 b;obtain⟨L,I,b⟩:=aa.1 b;obtain⟨⟨d',o,o'⟩,J,b⟩:=ak.1 b;cases b;have C:=du E;obtain⟨a,vs,K,_⟩:=S.ji w C;refine⟨_,K,G,n,d1,S.gh,S.jy,ef,λv1 G0 H0 Wm R0 =>?_⟩;have S0:=S.ext Wm;refine⟨G0,n,r',S0.gh,S0.jy,E',λa' T5 G1 H1 W hn gn hl rl =>?_⟩;have S1:=S0.ext W;refine⟨G1,n,L,S1.gh,S1.jy,I,λus G2 H2 M2 N =>?_⟩;have R:=S1.ext M2;obtain⟨b1,t,P,f3,f4,f5,f6⟩:=R.ji w C;rw[K]at P;cases P;obtain⟨b0,t0,P,k3,_⟩:=S0.ji w C;rw[K]at P;cases P;have ne:a≠a':=bu k3 hn;have g2:G2 a'=none:=by
  rcases z:G2 a' with _|o
  ·rfl
  rcases M2.fr a' o z with y|y
  ·rw[gn]at y;cases y
  ·rw[hl]at y;cases y
 show rW X.K 0 2 F ((.ref a::v1 :: .ref a'::us)++[]) H2 Q E0;rw[bx];refine⟨G2,.lst r::d1 :: .lst r'::L,d',o,o',a,a',t,T5,r,r',M2.gh,rfl,rfl,f3,f4,f5,rfl,rfl,M2.hh _ _ hl,bf.mono M2.gg _ rl,g2,ne,λi c hi Yh ec =>?_,by simp[N.length],J,λv x y G3 H3 T g3 g3' h3 h3' r3 r3' r4 =>?_⟩
 ·match i,hi,Yh,ec with
  |0,hi,_,_=>exact absurd rfl hi|1,_,_,ec=>simp at ec;subst ec;exact⟨v1,rfl,cK.mono (W.gg.trans M2.gg) _ R0⟩|2,_,hi,_=>exact absurd rfl hi|i+3,_,_,ec=>exact N.get (i:=i) (by simpa using ec)
 ·have B:=W.trans M2;refine q v G3 H3 (S0.called w C K ⟨λb o e=>T.hh b o ?_,B.gg.trans T.gg,T.gh,λb o e =>?_⟩ g3 h3 r3) ((Wm.gg.trans B.gg).trans T.gg) r4
  ·have A:b≠a:=λz=>by subst z;rw[kC]at e;cases e
   rw[j7 A]at e;have c2:b≠a':=λz=>by rw[z,hn]at e;cases e
   rw[j7 c2,j7 A];exact B.hh b o e
  ·rcases T.fr b o e with z|z
   ·rcases B.fr b o z with y|y
    ·exact .inl y
    ·refine .inr ?_;by_cases A:b=a
     ·subst A;exact kC
     ·rw[j7 A];exact y
   ·refine .inr ?_;by_cases A:b=a
    ·subst A;exact kC
    rw[j7 A];by_cases c2:b=a'
    ·subst c2;exact hn
    rw[j7 c2,j7 A]at z;rcases qq:H0 b with _|o'
    ·rfl
    rw[B.hh b o' qq]at z;cases z
end
end L2
namespace K21
open PySem L2
noncomputable abbrev KL:List (aG×aG):=[("Facts", "asks"),("Facts", "bits"),("Facts", "by_name"),("Facts", "by_text"),("Facts", "inner"),("Facts", "leads"),("Facts", "question"),("Facts", "starred"),("Facts", "stars"),("Judge", "facts"),("Judge", "fresh"),("Judge", "longest"),("Judge", "mark")]
noncomputable abbrev ZL:List aG:=["all", "any", "dict", "len", "list", "range", "reversed", "zip"]
structure KS(K:aT)(mg:aG->Option ai):Prop where
 c:∀p∈KL,r_ K p.1 p.2
 z:∀x∈ZL,mg x=none
def KS.q{K:aT}{t:aG->Option ai}{c f:aG}(k:KS K t)(h:autoParam ((c,f)∈KL) ű):r_ K c f:=k.c _ h
def KS.y{K:aT}{t:aG->Option ai}{x:aG}(k:KS K t)(h:autoParam (x∈ZL) ű):t x=none:=k.z _ h
noncomputable def pa(i:Nat):eJ:=PySem.Challenge.pw_earlysift_k30_lying_within_goes_on.main.body.getD i (.Pass ⟨0,0,0,0⟩)
noncomputable abbrev kB:List (aG×Sk):=[("by_name",.di),("by_text",.di),("leads",.li .lf)]
abbrev ah:Sk :=.fs "Facts" kB
abbrev qU:List (aG×Sk):=[("facts",ah)]
abbrev mG:Sk :=.fs "Judge" qU
def gF:List aG:=[ab "mark"]
abbrev v6:=eK (.int 1)
abbrev f8:=eK (.int 0)
def fM:DG:=
  (bp (Dc 1 dE (e2 b9 (eV 3) f8))
   (xa 2 (e2 b9 (eV 3) v6)))
abbrev bd:=f9 aN
def la:DG:=
  (bp (eM 1 f8)
  (bp (kP 2 bd)
  (bp (iX (iL (eV 0)) (gN 3)
  fM)
  (fF (dN (aC (eV 1) (aC (eV 2) aN)))))))
def iI:List D->Option D:=jg 1 4 la
abbrev mE:eJ:=pa 3
abbrev zU:List aG:=["asks", "need", "choices", "ask"]
def i8:bM zU ["asks"] (aM mE):=⟨rfl,rfl,rfl,by decide +kernel,rfl,by decide +kernel,by decide +kernel⟩
abbrev u8:=eK (.int 2)
def uL(e:List D->Option D)(c:List D->Option D):DG:=
  (wm (mY (iL (eV 0)) [M] (gN 0) fj (dN (aC (e2 b9 (eV 0) f8) (aC (e2 b9 (eV 0) v6) (aC (a_ c (aC (e2 b9 (eV 0) u8) aN)) aN))))))
abbrev rA:eJ:=pa 5
noncomputable abbrev Ez:List aG:=["steps"]
def I':bM Ez ["steps"] (aM rA):=⟨rfl,rfl,rfl,by decide +kernel,rfl,by decide +kernel,by decide +kernel⟩
abbrev ol:=eK (.str (ab "one"))
abbrev ca:=dN (aC (eK (.str (ab "both"))) (aC ol aN))
abbrev db:=eK (.str (ab "has"))
def dQ(e:List D->Option D)(c:List D->Option D):DG:=
  (bp (ie (cT (e2 gj (e2 b9 (eV 0) f8) db))
  (fF (dN (aC db (aC (a_ e (aC (e2 b9 (eV 0) v6) aN)) aN))))
  dG)
  (bp (ie (cT (e2 (Ny Z_) (e2 b9 (eV 0) f8) ca))
  (fF (dN (aC (e2 b9 (eV 0) f8) (aC (eF (mY (iL (e2 b9 (eV 0) v6)) [M] (gN 0) fj (a_ c (aC (eV 0) aN)))) aN))))
  dG)
  (fF (eV 0))))
abbrev kl:eJ:=pa 6
noncomputable abbrev sy:List aG:=["wish"]
def xR:bM sy ["wish"] (aM kl):=⟨rfl,rfl,rfl,by decide +kernel,rfl,by decide +kernel,by decide +kernel⟩
abbrev bn:=eK (.bl Z_)
def xl(c:List D->Option D):DG:=
  (bp (ie (cT (e2 Dq (e2 mQ (eV 1) (e2 b9 (eV 0) f8)) (e2 b9 (eV 0) f8)))
  (fF bn)
  dG)
  (fF (a_ (iQ Z') (aC (eF (mY (iL (e2 b9 (eV 0) v6)) [M,Y 1] (gN 0) fj (a_ (iQ Z_) (aC (eF (mY (iL (eV 0)) [M,Y 1] (gN 0) fj (a_ c (aC (eV 0) (aC (eV 1) aN))))) aN)))) aN))))
abbrev uc:eJ:=pa 4
noncomputable abbrev IC:List aG:=["ask", "atoms"]
def Kz:bM IC ["ask", "atoms"] (aM uc):=⟨rfl,rfl,rfl,by decide +kernel,rfl,by decide +kernel,by decide +kernel⟩
abbrev lc:=eK (.str (ab "open"))
def tu:DG:=
  (bp (ie (cT (e2 gj (e2 b9 (eV 0) f8) lc))
  (fF (W4 (eV 1) (Pb (cT (eV 2)))))
  dG)
  (fF (eV 1)))
def mX:List D->Option D:=jg 3 3 tu
abbrev qG:eJ:=pa 24
abbrev Gz:List aG:=["sign", "within", "begun"]
def C9:bM Gz ["sign", "within", "begun"] (aM qG):=⟨rfl,rfl,rfl,by decide +kernel,rfl,by decide +kernel,by decide +kernel⟩
mutual
noncomputable def iH:Nat->List D->Option D
 |0=>λ_=>M
 |n+1=>jg 1 1 (uL (iH n) (cv n))
noncomputable def cv:Nat->List D->Option D
 |0=>λ_=>M
 |n+1=>jg 1 1 (dQ (iH n) (cv n))
end
noncomputable def iB:Nat->List D->Option D
 |0=>λ_=>M
 |n+1=>jg 2 2 (xl (iB n))
def va:List D->Option D:=iH 12
def xw:List D->Option D:=iB 12
section
variable {P:be}{w:dz}{K:aT}{a:aG->Option ai}{d:dC}{f:az}{b:fy}
def yd(F:kh K "joined_asks" "joined_asks" mE f b):dg P w K a d jA 1 f b ["asks"] (gO K iI):=
 F.xh (Z:=[2]) (Ź:=[2]) (g:=la) i8 ſ λg A c s H E h B e=>
  (ar (cO (i:=1) i8.nd rfl (.inl rfl) av)
  (ar (pL (i:=2) i8.nd rfl (.inl rfl) (gc aQ))
  (ar (fW bB rfl (fm (vP 0)) (λB e=>(iq (bw (i:=3) i8.nd rfl (.inl rfl)))) (λB e=>
  (ar (MB (i:=1) (op:=dE) yx i8.nd rfl (.inl rfl) (bQ (vQ 3) (dq av)))
   (aI (A6 (pv 2) (bQ (vQ 3) (dq av)))))))
  (kZ (own1:=[]) 2 (aI (cW (dI (ao (vP 1) (ao (vP 2) aQ)))))))))
def Jm(F:kh K "copied" "copied" rA f b)(c:hW P w K a d "copied_wish" (n+0) (gO K (cv n))):dg P w K a d jA (n+0+1) f b ["steps"] (gO K (iH (n+1))):=
 F.xh (Z:=[]) (Ź:=[]) (g:=(uL (iH n) (cv n))) I' ſ λg A outer s H E e B h=>
  (aI (Ck (qV (Ź:=[]) (N:=[("step" : aG)]) (src:=[M]) (iM (outer:=aM rA) (oN:=Ez) rfl (by decide +kernel) rfl rfl) rfl (fm (vP 0)) (fX 0) ſ (gH 0) (λC s H i=>⟨bw (i:=0) (show ([("step" : aG)]:List aG).Nodup by decide +kernel) rfl (.inl rfl),gZ,(dI (ao (bQ (vQ 0) (dq av)) (ao (bQ (vQ 0) (dq av)) (ao (cg c e rfl (ao (bQ (vQ 0) (dq av)) aQ)) aQ))))⟩))))
def ye(F:kh K "copied_wish" "copied_wish" kl f b)(e:hW P w K a d "copied" (n+0) (gO K (iH n)))(c:hW P w K a d "copied_wish" (n+0) (gO K (cv n))):dg P w K a d jA (n+0+1) f b ["wish"] (gO K (cv (n+1))):=
 F.xh (Z:=[]) (Ź:=[]) (g:=(dQ (iH n) (cv n))) xR ſ λi A g s H E h B j=>
  (ar (dM (cb (fZ h) (dq (bQ (vQ 0) (dq av))) (dq cF) (bX _))
  (aI (cW (dI (ao cF (ao (cg e h rfl (ao (bQ (vQ 0) (dq av)) aQ)) aQ)))))
  b8)
  (ar (dM (cb Lk (dq (bQ (vQ 0) (dq av))) (dq (dI (ao cF (ao cF aQ)))) rfl)
  (aI (cW (dI (ao (bQ (vQ 0) (dq av)) (ao (df (qV (Ź:=[]) (N:=[("other" : aG)]) (src:=[M]) (iM (outer:=aM kl) (oN:=sy) rfl (by decide +kernel) rfl rfl) rfl (fm (bQ (vQ 0) (dq av))) (fX 0) ſ (gH 0) (λC s H k=>⟨bw (i:=0) (show ([("other" : aG)]:List aG).Nodup by decide +kernel) rfl (.inl rfl),gZ,(cg c h rfl (ao (vP 0) aQ))⟩))) aQ)))))
  b8)
  (aI (cW (vP 0)))))
def Le(F:kh K "meets" "meets" uc f b)(g:KS K a)(c:hW P w K a d "meets" (n+0) (gO K (iB n))):dg P w K a d jA (n+0+1) f b ["ask", "atoms"] (gO K (iB (n+1))):=
 F.xh (Z:=[]) (Ź:=[]) (g:=(xl (iB n))) Kz ſ λj A e s H E h B k=>
  (ar (dM (cb (Li h) (dq (bI uw (vQ 1) (dq (bQ (vQ 0) (dq av))))) (dq (bQ (vQ 0) (dq av))) (bX _))
  (aI (cW A_))
  b8)
  (aI (cW (Td rfl rfl g.y (dq (df (qV (Ź:=[]) (N:=[("choice" : aG),("atoms" : aG)]) (src:=[M,Y 1]) (iM (outer:=aM uc) (oN:=IC) rfl (by decide +kernel) rfl rfl) rfl (fm (bQ (vQ 0) (dq av))) (fX 0) ſ (gH 0) (λC s H i=>⟨bw (i:=0) (show ([("choice" : aG),("atoms" : aG)]:List aG).Nodup by decide +kernel) rfl (by first|exact lF rfl|exact wV rfl),gZ,(MO rfl rfl g.y (dq (df (qV (Ź:=[]) (N:=[("other" : aG),("atoms" : aG)]) (src:=[M,Y 1]) (PJ rfl (by decide +kernel)) rfl (fm (vP 0)) (fX 0) ſ (gH 0) (λC s H i=>⟨bw (i:=0) (show ([("other" : aG),("atoms" : aG)]:List aG).Nodup by decide +kernel) rfl (.inl rfl),gZ,(cg c h rfl (ao (vP 0) (ao (vP 1) aQ)))⟩)))))⟩))))))))
def Dm(F:kh K "can_come" "can_come" qG f b):dg P w K a d jA 1 f b ["sign", "within", "begun"] (gO K mX):=
 F.xh (Z:=[]) (Ź:=[]) (g:=tu) C9 ſ λg A c s H E e B h=>
  (ar (dM (cb (fZ e) (dq (bQ (vQ 0) (dq av))) (dq cF) (bX _))
  (aI (cW (V2 (vP 1) (MK (S9 (vP 2))))))
  b8)
  (aI (cW (vP 1))))
end
def gE:DG:=
  (bp (mK Z_ 0 "Facts" "bits" (λi j=>i+j) v6)
  (eW (mP (zK [0] [] (e2 qM v6 (e2 ku (d9 "Facts" "bits" (eV 0)) v6))))))
def bZ:List D->Option (D×D):=pw 1 1 ah gE
abbrev kU:eJ:=jV (pa 2) 1
abbrev wN:List aG:=["self"]
def vG:bM wN ["self"] (aM kU):=⟨rfl,rfl,rfl,by decide +kernel,rfl,by decide +kernel,by decide +kernel⟩
abbrev ce:=eK (.str (ab "*"))
abbrev ge:=eK (.str (ab "inner"))
def ip:DG:=
  (bp (gG 2 (cE "Facts" "new_bit" ah bZ 0 lG))
  (bp (ie (cT (e2 gj (e2 b9 (eV 1) f8) ge))
  (mK Z_ 0 "Facts" "inner" dE (eV 2))
  dG)
  (bp (ie (cT (e2 gj (e2 b9 (eV 1) v6) ce))
  (bp (mK Z_ 0 "Facts" "starred" dE (eV 2))
   (mK Z_ 0 "Facts" "stars" (λi j=>i+j) v6))
  (pj 0 "Facts" "by_name" (e2 b9 (eV 1) v6) (mP (zK [0] [] (e2 FK (uR (d9 "Facts" "by_name" (eV 0)) (e2 b9 (eV 1) v6) f8) (eV 2))))))
  (eW (mP (eV 2))))))
def dw:List D->Option (D×D):=pw 2 3 ah ip
abbrev jv:eJ:=jV (pa 2) 3
abbrev tS:List aG:=["self", "step", "bit"]
def lU:bM tS ["self", "step"] (aM jv):=⟨rfl,rfl,rfl,by decide +kernel,rfl,by decide +kernel,by decide +kernel⟩
def lb:DG:=
  (eW (qs (iL (eV 1)) [M,Y 0] (gN 0) (cE "Facts" "enter_step" ah dw 1 (iw (mP (eV 0)) lG)) 1 0 ah))
def fw:List D->Option (D×D):=pw 2 2 ah lb
abbrev km:eJ:=jV (pa 2) 2
noncomputable abbrev sA:List aG:=["self", "steps"]
def xS:bM sA ["self", "steps"] (aM km):=⟨rfl,rfl,rfl,by decide +kernel,rfl,by decide +kernel,by decide +kernel⟩
def eZ:DG:=
  (bp (ie (Qe [0] [] (cT (e2 (qr Z') (eV 1) (d9 "Facts" "by_text" (eV 0)))))
  (pj 0 "Facts" "by_text" (eV 1) (cE "Facts" "new_bit" ah bZ 0 lG))
  dG)
  (eW (mP (zK [0] [] (e2 Dr (d9 "Facts" "by_text" (eV 0)) (eV 1))))))
def cZ:List D->Option (D×D):=pw 2 2 ah eZ
abbrev ju:eJ:=jV (pa 2) 4
abbrev tO:List aG:=["self", "text"]
def rX:bM tO ["self", "text"] (aM ju):=⟨rfl,rfl,rfl,by decide +kernel,rfl,by decide +kernel,by decide +kernel⟩
abbrev Tk:=dN (aC (e2 FK (e2 b9 (eV 5) f8) (eV 7)) (aC (e2 b9 (eV 5) v6) aN))
def cu:DG:=
  (Dd 0 "Facts" "leads" (dN (aC (eV 6) (aC Tk aN))))
abbrev Re:=f9 (aC (eV 3) aN)
def jn:DG:=
  (bp (eM 4 (e2 d8 (eF (wM (eV 2) (pS v6) pN)) (eF Re)))
  (iX (Vx (eV 1) (eV 2) (eV 4)) (D2 5 6 7)
  cu))
def eI:List D->Option (D×D):=pw 4 8 ah jn
abbrev nS:eJ:=jV (pa 2) 6
abbrev CI:List aG:=["self", "asks", "bits", "end", "follows", "ask", "bit", "follow"]
def jL:bM CI ["self", "asks", "bits", "end"] (aM nS):=⟨rfl,rfl,rfl,by decide +kernel,rfl,by decide +kernel,by decide +kernel⟩
section
variable {P:be}{w:dz}{K:aT}{d:aG->Option ai}{h:dC}{f:az}{e:fy}
def vJ(F:kh K "new_bit" "Facts.new_bit" kU f e)(c:KS K d):dg P w K d h jA 1 f e ["self"] (spT K ah bZ):=
 F.OF (Z:=[0]) (Ź:=[0]) (g:=gE) vG ah ſ ſ λg A b s H E k B a l=>
  (ar (pM (b:=Z_) (c:= "Facts") (op:=(λi j=>i+j)) Mb (pv 0) av c.q)
  (aI (g8 (cX (A9 [] [0] [] (bI Lh (dq av) (dq (bI qL (dq (fq (c:= "Facts") (vQ 0) c.q)) (dq av)))))))))
def r8(F:kh K "enter_step" "Facts.enter_step" jv f e)(c:KS K d)(b:jb P w K d h "Facts" "new_bit" 1 (spT K ah bZ)):dg P w K d h jA 2 f e ["self", "step"] (spT K ah dw):=
 F.OF (Z:=[0]) (Ź:=[0]) (g:=ip) lU ah ſ ſ λl A k s H E g B a m=>
  (ar (mf (i:=2) lU.nd rfl (.inl rfl) (A7 b g (pv 0)))
  (ar (dM (cb (fZ g) (dq (bQ (vQ 1) (dq av))) (dq cF) (bX _))
  (aI (pM (b:=Z_) (c:= "Facts") (op:=dE) yx (pv 0) (vP 2) c.q))
  b8)
  (ar (dM (cb (fZ g) (dq (bQ (vQ 1) (dq av))) (dq cF) (bX _))
  (ar (pM (b:=Z_) (c:= "Facts") (op:=dE) yx (pv 0) (vP 2) c.q)
   (aI (pM (b:=Z_) (c:= "Facts") (op:=(λi j=>i+j)) Mb (pv 0) av c.q)))
  (aI (Eh (c:= "Facts") (mS g) (pv 0) (bQ (vQ 1) (dq av)) (cX (A9 [] [0] [] (bI Dn (dq (Co (mS g) (dq (fq (c:= "Facts") (vQ 0) c.q)) (dq (bQ (vQ 1) (dq av))) av ⟨rfl,rfl,rfl,rfl⟩)) (vQ 2)))) c.q)))
  (aI (g8 (cX (vP 2)))))))
def yf(F:kh K "enter" "Facts.enter" km f e)(b:jb P w K d h "Facts" "enter_step" 2 (spT K ah dw)):dg P w K d h jA 3 f e ["self", "steps"] (spT K ah fw):=
 F.OF (Z:=[0]) (Ź:=[0]) (g:=lb) xS ah ſ ſ λi A outer s H E c B a g=>
  (aI (g8 (Gh (i0:=1) (j0:=0) (s:=ah) (N:=[("step" : aG),("self" : aG)]) (src:=[M,Y 0]) (iM (outer:=aM km) (oN:=sA) rfl (by decide +kernel) rfl rfl) rfl (fm (vP 1)) (fX 0) ſ (uE _ 0 1) (λC s H j=>⟨bw (i:=0) (show ([("step" : aG),("self" : aG)]:List aG).Nodup by decide +kernel) rfl (lF rfl),gZ,W5 λB a g=>(kE b c (pv 1) (cP (cX (vP 0)) gJ))⟩))))
def rZ(F:kh K "enter_text" "Facts.enter_text" ju f e)(i:KS K d)(b:jb P w K d h "Facts" "new_bit" 1 (spT K ah bZ)):dg P w K d h jA 2 f e ["self", "text"] (spT K ah cZ):=
 F.OF (Z:=[0]) (Ź:=[0]) (g:=eZ) rX ah ſ ſ λj A g s H E c B a k=>
  (ar (dM (VZ [] [0] [] (oT (mS c) (vQ 1) (dq (fq (c:= "Facts") (vQ 0) i.q))))
  (aI (Eh (c:= "Facts") (mS c) (pv 0) (vP 1) (A7 b c (pv 0)) i.q))
  b8)
  (aI (g8 (cX (A9 [] [0] [] (Pp (mS c) (dq (fq (c:= "Facts") (vQ 0) i.q)) (vQ 1)))))))
def zD(F:kh K "lead" "Facts.lead" nS f e)(c:KS K d):dg P w K d h jA 1 f e ["self", "asks", "bits", "end"] (spT K ah eI):=
 F.OF (Z:=[0]) (Ź:=[0]) (g:=jn) jL ah ſ ſ λi A b s H E j B a g=>
  (ar (cO (i:=4) jL.nd rfl (.inl rfl) (bI eY (dq (df (tI (vQ 2) (jO (dq av)) jP))) (dq (df (gc (ao (vP 3) aQ))))))
  (aI (fW bB rfl (Pj rfl c.y (vP 1) (vP 2) (vP 4)) (λB g=>(uV (lM rfl (cJ (bw (i:=5) jL.nd rfl (.inl rfl)) (cJ (bw (i:=6) jL.nd rfl (.inl rfl)) (cJ (bw (i:=7) jL.nd rfl (.inl rfl)) jT)))))) (λB g=>
  (aI (Pg (c:= "Facts") (pv 0) (dI (ao (vP 6) (ao (dI (ao (bI Dn (dq (bQ (vQ 5) (dq av))) (vQ 7)) (ao (bQ (vQ 5) (dq av)) aQ))) aQ))) c.q))))))
end
abbrev pc:=eK (.str (ab "any"))
abbrev Sc:=eK (.str (ab "text"))
abbrev on:=dN (aC f8 (aC (eF (f9 (aC (eV 2) aN))) aN))
def cz(e:List D->Option (D×D))(a:List D->Option (D×D)):DG:=
  (bp (ie (cT (e2 gj (e2 b9 (eV 1) f8) pc))
  (eW (mP (dN (aC f8 (aC (eF bd) aN)))))
  dG)
  (bp (ie (cT (e2 gj (e2 b9 (eV 1) f8) Sc))
  (eW (qN (iw (cE "Facts" "enter_text" ah cZ 0 (iw (mP (e2 b9 (eV 1) v6)) lG)) (iw (mP (eF bd)) lG))))
  dG)
  (bp (ie (cT (e2 gj (e2 b9 (eV 1) f8) db))
  (eW (qN (iw (cE "Facts" "enter_has" ah a 0 (iw (mP (e2 b9 (eV 1) v6)) lG)) (iw (mP (eF bd)) lG))))
  dG)
  (bp (gG 2 (qs (iL (e2 b9 (eV 1) v6)) [M,Y 0] (gN 0) (cE "Facts" "asked" ah e 1 (iw (mP (eV 0)) lG)) 1 0 ah))
  (bp (ie (cT (e2 gj (e2 b9 (eV 1) f8) ol))
  (eW (mP on))
  dG)
  (eW (mP (a_ iI (aC (eV 2) aN)))))))))
abbrev ko:eJ:=jV (pa 2) 7
noncomputable abbrev sC:List aG:=["self", "wish", "asks"]
def qH:bM sC ["self", "wish"] (aM ko):=⟨rfl,rfl,rfl,by decide +kernel,rfl,by decide +kernel,by decide +kernel⟩
def gI(a:List D->Option (D×D))(e:List D->Option (D×D)):DG:=
  (bp (gG 2 (cE "Facts" "enter" ah fw 0 (iw (mP (eV 1)) lG)))
  (bp (mL (cE "Facts" "lead" ah eI 0 (iw (qs (iL (eV 1)) [M,Y 0] (gN 0) (cE "Facts" "asked" ah a 1 (iw (mP (e2 b9 (eV 0) u8)) lG)) 1 0 ah) (iw (mP (eV 2)) (iw (mP f8) lG)))))
  (eW (mP (e2 b9 (eV 2) f8)))))
abbrev ib:eJ:=jV (pa 2) 5
noncomputable abbrev nM:List aG:=["self", "steps", "bits"]
def mI:bM nM ["self", "steps"] (aM ib):=⟨rfl,rfl,rfl,by decide +kernel,rfl,by decide +kernel,by decide +kernel⟩
mutual
noncomputable def cw:Nat->List D->Option (D×D)
 |0=>λ_=>M
 |n+1=>pw 2 3 ah (cz (cw n) (cI n))
noncomputable def cI:Nat->List D->Option (D×D)
 |0=>λ_=>M
 |n+1=>pw 2 3 ah (gI (cw n) (cI n))
end
def lh:List D->Option (D×D):=cw 12
section
variable {P:be}{w:dz}{K:aT}{b:aG->Option ai}{c:dC}{f:az}{d:fy}
def yg(F:kh K "asked" "Facts.asked" ko f d)(e:jb P w K b c "Facts" "enter_text" (n+3) (spT K ah cZ))(g:jb P w K b c "Facts" "enter_has" (n+3) (spT K ah (cI n)))(i:jb P w K b c "Facts" "asked" (n+3) (spT K ah (cw n)))(h:hW P w K b c "joined_asks" (n+3) (gO K iI)):dg P w K b c jA (n+3+1) f d ["self", "wish"] (spT K ah (cw (n+1))):=
 F.OF (Z:=[0]) (Ź:=[0]) (g:=(cz (cw n) (cI n))) qH ah ſ ſ λm A k s H E j B a l=>
  (ar (dM (cb (fZ j) (dq (bQ (vQ 1) (dq av))) (dq cF) (bX _))
  (aI (g8 (cX (dI (ao av (ao (df (gc aQ)) aQ))))))
  b8)
  (ar (dM (cb (fZ j) (dq (bQ (vQ 1) (dq av))) (dq cF) (bX _))
  (aI (g8 (yL (cP (kE e j (pv 0) (cP (cX (bQ (vQ 1) (dq av))) gJ)) (cP (cX (df (gc aQ))) gJ)))))
  b8)
  (ar (dM (cb (fZ j) (dq (bQ (vQ 1) (dq av))) (dq cF) (bX _))
  (aI (g8 (yL (cP (kE g j (pv 0) (cP (cX (bQ (vQ 1) (dq av))) gJ)) (cP (cX (df (gc aQ))) gJ)))))
  b8)
  (ar (Gf (i:=2) (i0:=1) (j0:=0) (s:=ah) (N:=[("other" : aG),("self" : aG)]) (src:=[M,Y 0]) (iM (outer:=aM ko) (oN:=sC) rfl (by decide +kernel) rfl rfl) rfl qH.nd rfl rfl (fm (bQ (vQ 1) (dq av))) (fX 0) ſ (uE _ 0 1) (λC s H o=>⟨bw (i:=0) (show ([("other" : aG),("self" : aG)]:List aG).Nodup by decide +kernel) rfl (lF rfl),gZ,W5 λB a l=>(kE i j (pv 1) (cP (cX (vP 0)) gJ))⟩))
  (ar (dM (cb (fZ j) (dq (bQ (vQ 1) (dq av))) (dq cF) (bX _))
  (aI (g8 (cX (dI (ao av (ao (df (gc (ao (vP 2) aQ))) aQ))))))
  b8)
  (aI (g8 (cX (cg h j rfl (ao (vP 2) aQ))))))))))
def sU(F:kh K "enter_has" "Facts.enter_has" ib f d)(e:jb P w K b c "Facts" "enter" (n+3) (spT K ah fw))(h:jb P w K b c "Facts" "lead" (n+3) (spT K ah eI))(g:jb P w K b c "Facts" "asked" (n+3) (spT K ah (cw n))):dg P w K b c jA (n+3+1) f d ["self", "steps"] (spT K ah (cI (n+1))):=
 F.OF (Z:=[0]) (Ź:=[0]) (g:=(gI (cw n) (cI n))) mI ah ſ ſ λk A outer s H E i B a j=>
  (ar (mf (i:=2) mI.nd rfl (.inl rfl) (kE e i (pv 0) (cP (cX (vP 1)) gJ)))
  (ar (yJ (kE h i (pv 0) (cP (Gh (i0:=1) (j0:=0) (s:=ah) (N:=[("step" : aG),("self" : aG)]) (src:=[M,Y 0]) (iM (outer:=aM ib) (oN:=nM) rfl (by decide +kernel) rfl rfl) rfl (fm (vP 1)) (fX 0) ſ (uE _ 0 1) (λC s H l=>⟨bw (i:=0) (show ([("step" : aG),("self" : aG)]:List aG).Nodup by decide +kernel) rfl (lF rfl),gZ,W5 λB a j=>(kE g i (pv 1) (cP (cX (bQ (vQ 0) (dq av))) gJ))⟩)) (cP (cX (vP 2)) (cP (cX av) gJ)))))
  (aI (g8 (cX (bQ (vQ 2) (dq av)))))))
end
def jo:DG:=
  (bp (kQ Z_ 0 "Facts" "question" (a_ va (aC (eV 1) aN)))
  (bp (kQ Z_ 0 "Facts" "bits" f8)
  (bp (mJ 0 "Facts" "by_name" .di pi)
  (bp (mJ 0 "Facts" "by_text" .di pi)
  (bp (kQ Z_ 0 "Facts" "starred" f8)
  (bp (kQ Z_ 0 "Facts" "stars" f8)
  (bp (kQ Z_ 0 "Facts" "inner" f8)
  (bp (mJ 0 "Facts" "leads" (.li .lf) (eK (.lst [])))
  (bp (mL (cE "Facts" "enter" ah fw 0 (iw (mP (wz 0 "Facts" "question")) lG)))
  (sP Z_ 0 "Facts" "asks" (qs (iL (wz 0 "Facts" "question")) [M,Y 0] (gN 0) (cE "Facts" "asked" ah lh 1 (iw (mP (e2 b9 (eV 0) u8)) lG)) 1 0 ah)))))))))))
def d6:List D->Option (D×D):=pw 2 2 ah jo
abbrev iP:eJ:=jV (pa 2) 0
noncomputable abbrev oY:List aG:=["self", "question"]
def uh:bM oY ["self", "question"] (aM iP):=⟨rfl,rfl,rfl,by decide +kernel,rfl,by decide +kernel,by decide +kernel⟩
def nE:DG:=
  (fF (e2 FK (d9 "Facts" "starred" (eV 0)) (uR (d9 "Facts" "by_name" (eV 0)) (eV 1) f8)))
def iV:List D->Option D:=jg 2 2 nE
abbrev jY:eJ:=jV (pa 2) 8
abbrev u_:List aG:=["self", "name"]
def sO:bM u_ ["self", "name"] (aM jY):=⟨rfl,rfl,rfl,by decide +kernel,rfl,by decide +kernel,by decide +kernel⟩
def nC:DG:=
  (fF (uR (d9 "Facts" "by_text" (eV 0)) (eV 1) f8))
def fI:List D->Option D:=jg 2 2 nC
abbrev jX:eJ:=jV (pa 2) 9
abbrev u9:List aG:=["self", "text"]
def sN:bM u9 ["self", "text"] (aM jX):=⟨rfl,rfl,rfl,by decide +kernel,rfl,by decide +kernel,by decide +kernel⟩
def jr:DG:=
  (ie (i6 (rV (e2 mQ (eV 1) (eV 4))) (rV (a_ xw (aC (eV 5) (aC (eV 2) aN)))))
   (Dc 3 dE (eV 4))
   dG)
def kA:DG:=
  (bp (eM 3 (e2 mQ (eV 2) (d9 "Facts" "inner" (eV 0))))
  (bp (iX (iL (d9 "Facts" "leads" (eV 0))) (AZ 4 5)
  jr)
  (fF (eV 3))))
def kI:List D->Option D:=jg 3 6 kA
abbrev lL:eJ:=jV (pa 2) 10
abbrev y_:List aG:=["self", "named", "atoms", "up", "bit", "ask"]
def iy:bM y_ ["self", "named", "atoms"] (aM lL):=⟨rfl,rfl,rfl,by decide +kernel,rfl,by decide +kernel,by decide +kernel⟩
section
variable {P:be}{w:dz}{K:aT}{d:aG->Option ai}{e:dC}{f:az}{h:fy}
def uv(F:kh K "__init__" "Facts.__init__" iP f h)(i:KS K d)(g:hW P w K d e "copied" 59 (gO K va))(b:jb P w K d e "Facts" "enter" 59 (spT K ah fw))(c:jb P w K d e "Facts" "asked" 59 (spT K ah lh)):dg P w K d e jA 60 f h ["self", "question"] (spT K ah d6):=
 F.OF (Z:=[0]) (Ź:=[0]) (g:=jo) uh ah ſ ſ λm A j s H E k B a l=>
  (ar (pO (b:=Z_) (c:= "Facts") (pv 0) (cg g k rfl (ao (vP 1) aQ)) i.q)
  (ar (pO (b:=Z_) (c:= "Facts") (pv 0) av i.q)
  (ar (uT (c:= "Facts") (s1 :=.di) (pv 0) MQ i.q)
  (ar (uT (c:= "Facts") (s1 :=.di) (pv 0) MQ i.q)
  (ar (pO (b:=Z_) (c:= "Facts") (pv 0) av i.q)
  (ar (pO (b:=Z_) (c:= "Facts") (pv 0) av i.q)
  (ar (pO (b:=Z_) (c:= "Facts") (pv 0) av i.q)
  (ar (uT (c:= "Facts") (s1:=(.li .lf)) (pv 0) Tf i.q)
  (ar (yJ (kE b k (pv 0) (cP (cX (HW (c:= "Facts") (pv 0) i.q)) gJ)))
  (aI (Eg (b:=Z_) (c:= "Facts") (pv 0) (Gh (i0:=1) (j0:=0) (s:=ah) (N:=[("step" : aG),("self" : aG)]) (src:=[M,Y 0]) (iM (outer:=aM iP) (oN:=oY) rfl (by decide +kernel) rfl rfl) rfl (fm (HW (c:= "Facts") (pv 0) i.q)) (fX 0) ſ (uE _ 0 1) (λC s H n=>⟨bw (i:=0) (show ([("step" : aG),("self" : aG)]:List aG).Nodup by decide +kernel) rfl (lF rfl),gZ,W5 λB a l=>(kE c k (pv 1) (cP (cX (bQ (vQ 0) (dq av))) gJ))⟩)) i.q)))))))))))
def sT(F:kh K "steps_for" "Facts.steps_for" jY f h)(b:KS K d):dg P w K d e jA 1 f h ["self", "name"] (gO K iV):=
 F.xh (Z:=[]) (Ź:=[]) (g:=nE) sO ſ λg A a s H E c B i=>
  (aI (cW (bI Dn (dq (fq (c:= "Facts") (vQ 0) b.q)) (dq (Co (mS c) (dq (fq (c:= "Facts") (vQ 0) b.q)) (vQ 1) av ⟨rfl,rfl,rfl,rfl⟩)))))
def sS(F:kh K "text_fact" "Facts.text_fact" jX f h)(b:KS K d):dg P w K d e jA 1 f h ["self", "text"] (gO K fI):=
 F.xh (Z:=[]) (Ź:=[]) (g:=nC) sN ſ λg A a s H E c B i=>
  (aI (cW (Co (mS c) (dq (fq (c:= "Facts") (vQ 0) b.q)) (vQ 1) av ⟨rfl,rfl,rfl,rfl⟩)))
def wH(F:kh K "lifted" "Facts.lifted" lL f h)(c:KS K d)(a:hW P w K d e "meets" 59 (gO K xw)):dg P w K d e jA 60 f h ["self", "named", "atoms"] (gO K kI):=
 F.xh (Z:=[]) (Ź:=[]) (g:=kA) iy ſ λj A b s H E i B g=>
  (ar (cO (i:=3) iy.nd rfl (.inl rfl) (bI uw (vQ 2) (dq (fq (c:= "Facts") (vQ 0) c.q))))
  (ar (fW bB rfl (fm (fq (c:= "Facts") (vQ 0) c.q)) (λB g=>(tH (lM rfl (cJ (bw (i:=4) iy.nd rfl (.inl rfl)) (cJ (bw (i:=5) iy.nd rfl (.inl rfl)) jT))))) (λB g=>
  (aI (dM (PW.pt (pK (uS (dq (bI uw (vQ 1) (vQ 4)))) (pI (uS (dq (cg a i rfl (ao (vP 5) (ao (vP 2) aQ))))))))
   (aI (MB (i:=3) (op:=dE) yx iy.nd rfl (.inl rfl) (vP 4)))
   b8))))
  (aI (cW (vP 3)))))
end
abbrev na:=eK (.str (ab "abcdefghijklmnopqrstuvwxyz"))
def mV:DG:=
  (xa 1 (eF (mY (iS na) [M,Y 2] (gN 0) fj (e2 d8 (eV 1) (eV 0)))))
def me:DG:=
  (bp (kP 1 (yB na))
  (bp (iX (iS na) (gN 2)
  mV)
  (fF (e2 b9 (eF (mY (iL (eV 1)) [M,Y 0] (gN 0) (cT (e2 (qr Z') (eV 0) (d9 "Facts" "by_name" (eV 1)))) (eV 0))) f8))))
def gL:List D->Option D:=jg 1 3 me
abbrev jH:eJ:=pa 11
abbrev qb:List aG:=["facts", "names", "first"]
def nV:bM qb ["facts"] (aM jH):=⟨rfl,rfl,rfl,by decide +kernel,rfl,by decide +kernel,by decide +kernel⟩
def jm:DG:=
  (bp (mJ 0 "Judge" "facts" ah (n9 "Facts" d6 (aC (eV 1) aN)))
  (bp (sP Z_ 0 "Judge" "mark" (jU "Judge" "facts" "Facts" "new_bit" ah bZ 0 aN))
  (bp (eM 2 (eF (mY (wL (a_ ik (aC (eV 1) aN))) [M] (gN 0) fj (e2 qM v6 (eV 0)))))
  (bp (mL (jU "Judge" "facts" "Facts" "lead" ah eI 0 (aC (yH 0 "Judge" "facts" "Facts" "asks") (aC (eV 2) (aC (zK [0] [] (d9 "Judge" "mark" (eV 0))) aN)))))
  (bp (kQ Z_ 0 "Judge" "fresh" (zK [0] [] (a_ gL (aC (d9 "Judge" "facts" (eV 0)) aN))))
  (kQ Z_ 0 "Judge" "longest" (zK [0] [] (e2 d8 (d9 "Facts" "stars" (d9 "Judge" "facts" (eV 0))) v6))))))))
def d5:List D->Option (D×D):=pw 2 3 mG jm
abbrev iO:eJ:=jV (pa 10) 0
abbrev oX:List aG:=["self", "question", "bits"]
def nh:bM oX ["self", "question"] (aM iO):=⟨rfl,rfl,rfl,by decide +kernel,rfl,by decide +kernel,by decide +kernel⟩
section
variable {P:be}{w:dz}{K:aT}{d:aG->Option ai}{e:dC}{f:az}{h:fy}
def zy(F:kh K "fresh_name" "fresh_name" jH f h)(g:KS K d)(a:d "LETTERS" = Y (.str (ab "abcdefghijklmnopqrstuvwxyz") b)):dg P w K d e jA 1 f h ["facts"] (gO K gL):=
 F.xh (Z:=[1]) (Ź:=[1]) (g:=me) nV ſ λl A c s H E j B i=>
  (ar (pL (i:=1) nV.nd rfl (.inl rfl) (ML rfl rfl g.y (dq (yS rfl a))))
  (ar (fW bB rfl (MG (yS rfl a)) (λB i=>(iq (bw (i:=2) nV.nd rfl (.inr rfl)))) (λB i=>
  (aI (A6 (pv 1) (df (qV (Ź:=[]) (N:=[("second" : aG),("first" : aG)]) (src:=[M,Y 2]) (iM (outer:=aM jH) (oN:=qb) rfl (by decide +kernel) rfl rfl) rfl (MG (yS rfl a)) (fX 0) ſ (gH 0) (λC s H k=>⟨bw (i:=0) (show ([("second" : aG),("first" : aG)]:List aG).Nodup by decide +kernel) rfl (.inl rfl),gZ,(bI eY (vQ 1) (vQ 0))⟩)))))))
  (kZ (own1:=[]) 1 (aI (cW (bQ (dq (df (qV (Ź:=[]) (N:=[("name" : aG),("facts" : aG)]) (src:=[M,Y 0]) (iM (outer:=aM jH) (oN:=qb) rfl (by decide +kernel) rfl rfl) rfl (fm (vP 1)) (fX 0) ſ (gH 0) (λC s H k=>⟨bw (i:=0) (show ([("name" : aG),("facts" : aG)]:List aG).Nodup by decide +kernel) rfl (.inl rfl),(Cj (oT (mS j) (vQ 0) (dq (fq (c:= "Facts") (vQ 1) g.q)))),(vP 0)⟩)))) (dq av)))))))
def uu(F:kh K "__init__" "Judge.__init__" iO f h)(i:KS K d)(j:zR P w K d e "Facts" 62 (spT K ah d6))(b:jb P w K d e "Facts" "new_bit" 63 (spT K ah bZ))(g:jb P w K d e "Facts" "lead" 63 (spT K ah eI))(c:hW P w K d e "fresh_name" 63 (gO K gL)):dg P w K d e jA 64 f h ["self", "question"] (spT K mG d5):=
 F.OF (Z:=[0]) (Ź:=[0]) (g:=jm) nh mG ſ ſ λm A l s H E k B a n=>
  (ar (uT (c:= "Judge") (s1:=ah) (pv 0) (HX (fk:=kB) j k rfl (ao (vP 1) aQ)) i.q)
  (ar (Eg (b:=Z_) (c:= "Judge") (pv 0) (Gg (c:= "Judge") (fk1:=kB) b k i.q (pv 0)) i.q)
  (ar (Ee (i:=2) (Ź:=[]) (N:=[("place" : aG)]) (src:=[M]) (iM (outer:=aM iO) (oN:=oX) rfl (by decide +kernel) rfl rfl) rfl nh.nd rfl rfl (jq rfl i.y (dq (lO rfl i.y (vQ 1)))) (fX 0) ſ (gH 0) (λC s H o=>⟨bw (i:=0) (show ([("place" : aG)]:List aG).Nodup by decide +kernel) rfl (.inl rfl),gZ,(bI Lh (dq av) (vQ 0))⟩))
  (ar (yJ (JN (c:= "Judge") (fk1:=kB) g k i.q (pv 0) (ao (MM (c:= "Judge") (c2:= "Facts") (pv 0) i.q i.q) (ao (vP 2) (ao (A9 [] [0] [] (fq (c:= "Judge") (vQ 0) i.q)) aQ)))))
  (ar (pO (b:=Z_) (c:= "Judge") (pv 0) (A9 [] [0] [] (cg c k rfl (ao (fq (c:= "Judge") (vQ 0) i.q) aQ))) i.q)
  (aI (pO (b:=Z_) (c:= "Judge") (pv 0) (A9 [] [0] [] (bI eY (dq (fq (c:= "Facts") (dq (fq (c:= "Judge") (vQ 0) i.q)) i.q)) (dq av))) i.q)))))))
end
def my:DG:=
  (ie (ua (rV (a_ (iQ Z_) (aC (eF (mY (AX (eV 0)) [M,Y 2] (gN 0) fj (JK (e2 Dq (eV 0) (eV 1)) (e2 gj (e2 mQ (eV 0) (eV 1)) (eV 0))))) aN))))
   (pq 1 (eV 2) (eV 3))
   dG)
def xm:DG:=
  (bp (C_ 1)
  (bp (iX (j6 (eV 0)) (AZ 2 3)
  my)
  (fF (eV 1))))
def nP:List D->Option D:=jg 1 4 xm
abbrev ud:eJ:=pa 19
abbrev ID:List aG:=["ways", "kept", "atoms", "signs"]
def ug:bM ID ["ways"] (aM ud):=⟨rfl,rfl,rfl,by decide +kernel,rfl,by decide +kernel,by decide +kernel⟩
def pW:DG:=
  (ie (cT (e2 (qr Z') (eV 3) (eV 1)))
    (pq 1 (eV 3) (eV 4))
    dG)
def pV:DG:=
  (iX (j6 (eV 2)) (AZ 3 4)
   pW)
def uJ:DG:=
  (bp (C_ 1)
  (bp (iX (iL (eV 0)) (gN 2)
  pV)
  (fF (a_ nP (aC (eV 1) aN)))))
def lA:List D->Option D:=jg 1 5 uJ
abbrev vy:eJ:=pa 17
abbrev Nb:List aG:=["rows", "ways", "row", "atoms", "signs"]
def oD:bM Nb ["rows"] (aM vy):=⟨rfl,rfl,rfl,by decide +kernel,rfl,by decide +kernel,by decide +kernel⟩
def pY:DG:=
  (ie (cT (e2 (qr Z') (e2 FK (eV 3) (eV 5)) (eV 2)))
    (pq 2 (e2 FK (eV 3) (eV 5)) (e2 yh (eV 4) (eV 6)))
    dG)
def pX:DG:=
  (iX (j6 (eV 1)) (AZ 5 6)
   pY)
def uK:DG:=
  (bp (C_ 2)
  (bp (iX (j6 (eV 0)) (AZ 3 4)
  pX)
  (fF (a_ nP (aC (eV 2) aN)))))
def o_:List D->Option D:=jg 2 7 uK
abbrev vA:eJ:=pa 18
abbrev Nc:List aG:=["ones", "others", "ways", "one", "signs", "other", "further"]
def mw:bM Nc ["ones", "others"] (aM vA):=⟨rfl,rfl,rfl,by decide +kernel,rfl,by decide +kernel,by decide +kernel⟩
abbrev no:=dN (aC (dN (aC lc (aC (eV 1) aN))) aN)
def nG:DG:=
  (bp (eM 7 (mT "Facts" "lifted" kI (d9 "Judge" "facts" (eV 0)) (aC (eV 3) (aC (eV 5) aN))))
   (ie (cT (e2 (qr Z') (eV 7) (eV 4)))
   (pq 4 (eV 7) (e2 yh (e2 yh no (eV 6)) (dN (aC (dN (aC (eK (.str (ab "close"))) aN)) aN))))
   dG))
def rJ:DG:=
  (bp (eM 3 (mT "Facts" "steps_for" iV (d9 "Judge" "facts" (eV 0)) (aC (eV 1) aN)))
  (bp (C_ 4)
  (bp (iX (j6 (eV 2)) (AZ 5 6)
  nG)
  (fF (a_ nP (aC (eV 4) aN))))))
def o6:List D->Option D:=jg 3 8 rJ
abbrev sF:eJ:=pa 15
abbrev JY:List aG:=["judge", "name", "inside", "named", "ways", "atoms", "signs", "up"]
def kW:bM JY ["judge", "name", "inside"] (aM sF):=⟨rfl,rfl,rfl,by decide +kernel,rfl,by decide +kernel,by decide +kernel⟩
def lg:DG:=
  (bp (eM 4 (a_ o6 (aC (eV 0) (aC (d9 "Judge" "fresh" (eV 0)) (aC (eV 4) aN)))))
   (eM 5 (a_ lA (aC (eF (f9 (aC (eV 5) (aC (eV 4) aN)))) aN))))
abbrev sn:=eK (.str (ab "own"))
def nB:DG:=
  (bp (eM 3 (Pc (cT (e2 gj (e2 b9 (eV 1) v6) ce)) (d9 "Judge" "fresh" (eV 0)) (e2 b9 (eV 1) v6)))
  (bp (eM 4 (a_ o6 (aC (eV 0) (aC (eV 3) (aC (eV 2) aN)))))
  (bp (ie (cT (e2 gj (e2 b9 (eV 1) f8) sn))
  (fF (eV 4))
  dG)
  (bp (eM 5 (Mx (eV 4)))
  (bp (iX (wL (d9 "Judge" "longest" (eV 0))) (gN 6)
  lg)
  (fF (eV 5)))))))
def nO:List D->Option D:=jg 3 7 nB
abbrev ph:eJ:=pa 14
abbrev Ey:List aG:=["judge", "step", "inside", "name", "layer", "found", "turn"]
def ic:bM Ey ["judge", "step", "inside"] (aM ph):=⟨rfl,rfl,rfl,by decide +kernel,rfl,by decide +kernel,by decide +kernel⟩
section
variable {P:be}{w:dz}{K:aT}{a:aG->Option ai}{b:dC}{f:az}{d:fy}
def Lf(F:kh K "least" "least" ud f d)(h:KS K a):dg P w K a b jA 1 f d ["ways"] (gO K nP):=
 F.xh (Z:=[1]) (Ź:=[1]) (g:=xm) ug ſ λi A c s H E e B g=>
  (ar (xo (i:=1) ug.nd rfl (.inl rfl))
  (ar (fW bB rfl (oU (vP 0)) (λB g=>(tH (lM rfl (cJ (bw (i:=2) ug.nd rfl (.inr rfl)) (cJ (bw (i:=3) ug.nd rfl (.inl rfl)) jT))))) (λB g=>
  (aI (dM (My (uS (dq (MO rfl rfl h.y (dq (df (qV (Ź:=[]) (N:=[("other" : aG),("atoms" : aG)]) (src:=[M,Y 2]) (iM (outer:=aM ud) (oN:=ID) rfl (by decide +kernel) rfl rfl) rfl (Pk (vP 0)) (fX 0) ſ (gH 0) (λC s H j=>⟨bw (i:=0) (show ([("other" : aG),("atoms" : aG)]:List aG).Nodup by decide +kernel) rfl (.inl rfl),gZ,(Tc (MN (Li e) (vQ 0) (vQ 1) (bX _)) (MK (MN (fZ e) (dq (bI uw (vQ 0) (vQ 1))) (vQ 0) (bX _))))⟩))))))))
   (aI (uU (mS e) (pv 1) (vP 2) (vP 3)))
   b8))))
  (kZ (own1:=[]) 1 (aI (cW (vP 1))))))
def Jk(F:kh K "merged" "merged" vy f d)(c:hW P w K a b "least" 1 (gO K nP)):dg P w K a b jA 2 f d ["rows"] (gO K lA):=
 F.xh (Z:=[1]) (Ź:=[1]) (g:=uJ) oD ſ λi A g s H E h B e=>
  (ar (xo (i:=1) oD.nd rfl (.inl rfl))
  (ar (fW bB rfl (fm (vP 0)) (λB e=>(iq (bw (i:=2) oD.nd rfl (.inl rfl)))) (λB e=>
  (aI (fW bB rfl (oU (vP 2)) (λB e=>(tH (lM rfl (cJ (bw (i:=3) oD.nd rfl (.inl rfl)) (cJ (bw (i:=4) oD.nd rfl (.inl rfl)) jT))))) (λB e=>
   (aI (dM (oT (mS h) (vQ 3) (JL (pv 1)))
    (aI (uU (mS h) (pv 1) (vP 3) (vP 4)))
    b8)))))))
  (kZ (own1:=[]) 1 (aI (cW (cg c h rfl (ao (vP 1) aQ)))))))
def Jl(F:kh K "joined" "joined" vA f d)(c:hW P w K a b "least" 1 (gO K nP)):dg P w K a b jA 2 f d ["ones", "others"] (gO K o_):=
 F.xh (Z:=[2]) (Ź:=[2]) (g:=uK) mw ſ λi A g s H E h B e=>
  (ar (xo (i:=2) mw.nd rfl (.inl rfl))
  (ar (fW bB rfl (oU (vP 0)) (λB e=>(tH (lM rfl (cJ (bw (i:=3) mw.nd rfl (.inl rfl)) (cJ (bw (i:=4) mw.nd rfl (.inl rfl)) jT))))) (λB e=>
  (aI (fW bB rfl (oU (vP 1)) (λB e=>(tH (lM rfl (cJ (bw (i:=5) mw.nd rfl (.inl rfl)) (cJ (bw (i:=6) mw.nd rfl (.inl rfl)) jT))))) (λB e=>
   (aI (dM (oT (mS h) (dq (bI Dn (vQ 3) (vQ 5))) (JL (pv 2)))
    (aI (uU (mS h) (pv 2) (bI Dn (vQ 3) (vQ 5)) (bI BM (vQ 4) (vQ 6))))
    b8)))))))
  (kZ (own1:=[]) 2 (aI (cW (cg c h rfl (ao (vP 2) aQ)))))))
def FC(F:kh K "wrapped" "wrapped" sF f d)(j:KS K a)(c:jb P w K a b "Facts" "steps_for" 61 (gO K iV))(e:jb P w K a b "Facts" "lifted" 61 (gO K kI))(g:hW P w K a b "least" 61 (gO K nP)):dg P w K a b jA 62 f d ["judge", "name", "inside"] (gO K o6):=
 F.xh (Z:=[4]) (Ź:=[4]) (g:=rJ) kW ſ λl A i s H E h B k=>
  (ar (cO (i:=3) kW.nd rfl (.inl rfl) (yQ c h (fq (c:= "Judge") (vQ 0) j.q) (ao (vP 1) aQ)))
  (ar (xo (i:=4) kW.nd rfl (.inl rfl))
  (ar (fW bB rfl (oU (vP 2)) (λB k=>(tH (lM rfl (cJ (bw (i:=5) kW.nd rfl (.inl rfl)) (cJ (bw (i:=6) kW.nd rfl (.inl rfl)) jT))))) (λB k=>
  (ar (cO (i:=7) kW.nd rfl (.inl rfl) (yQ e h (fq (c:= "Judge") (vQ 0) j.q) (ao (vP 3) (ao (vP 5) aQ))))
   (aI (dM (oT (mS h) (vQ 7) (JL (pv 4)))
   (aI (uU (mS h) (pv 4) (vP 7) (bI BM (dq (bI BM (dq (dI (ao (dI (ao cF (ao (vP 1) aQ))) aQ))) (vQ 6))) (dq (dI (ao (dI (ao cF aQ)) aQ))))))
   b8)))))
  (kZ (own1:=[]) 4 (aI (cW (cg g h rfl (ao (vP 4) aQ))))))))
def BK(F:kh K "step_ways" "step_ways" ph f d)(g:KS K a)(c:hW P w K a b "wrapped" 62 (gO K o6))(e:hW P w K a b "merged" 62 (gO K lA)):dg P w K a b jA 63 f d ["judge", "step", "inside"] (gO K nO):=
 F.xh (Z:=[]) (Ź:=[]) (g:=nB) ic ſ λk A i s H E h B j=>
  (ar (cO (i:=3) ic.nd rfl (.inl rfl) (V3 (cb (fZ h) (dq (bQ (vQ 1) (dq av))) (dq cF) (bX _)) (fq (c:= "Judge") (vQ 0) g.q) (bQ (vQ 1) (dq av))))
  (ar (cO (i:=4) ic.nd rfl (.inl rfl) (cg c h rfl (ao (vP 0) (ao (vP 3) (ao (vP 2) aQ)))))
  (ar (dM (cb (fZ h) (dq (bQ (vQ 1) (dq av))) (dq cF) (bX _))
  (aI (cW (vP 4)))
  b8)
  (ar (cO (i:=5) ic.nd rfl (.inl rfl) (Pq rfl g.y (vP 4)))
  (ar (fW bB rfl (jq rfl g.y (dq (fq (c:= "Judge") (vQ 0) g.q))) (λB j=>(iq (bw (i:=6) ic.nd rfl (.inl rfl)))) (λB j=>
  (ar (cO (i:=4) ic.nd rfl (.inl rfl) (cg c h rfl (ao (vP 0) (ao (fq (c:= "Judge") (vQ 0) g.q) (ao (vP 4) aQ)))))
   (aI (cO (i:=5) ic.nd rfl (.inl rfl) (cg e h rfl (ao (df (gc (ao (vP 5) (ao (vP 4) aQ)))) aQ)))))))
  (aI (cW (vP 5))))))))
end
def kH(fu:List D->Option D)(h_:List D->Option D):DG:=
  (bp (eM 5 (a_ o_ (aC (eV 3) (aC (a_ h_ (aC (eV 0) (aC (e2 b9 (eV 4) u8) aN))) aN))))
   (eM 3 (a_ nO (aC (eV 0) (aC (eV 4) (aC (eV 5) aN))))))
def md(fu:List D->Option D)(h_:List D->Option D):DG:=
  (bp (eM 3 (eV 2))
  (bp (iX (SN (eV 1)) (gN 4)
  (kH fu h_))
  (fF (eV 3))))
abbrev nQ:eJ:=pa 13
abbrev CH:List aG:=["judge", "steps", "inmost", "ways", "step", "inside"]
def jJ:bM CH ["judge", "steps", "inmost"] (aM nQ):=⟨rfl,rfl,rfl,by decide +kernel,rfl,by decide +kernel,by decide +kernel⟩
def oh(fu:List D->Option D)(h_:List D->Option D):DG:=
  (eM 3 (a_ o_ (aC (eV 3) (aC (eV 4) aN))))
abbrev Tl:=dN (aC Sc (aC (e2 b9 (eV 1) v6) aN))
def eO(fu:List D->Option D)(h_:List D->Option D):DG:=
  (bp (ie (cT (e2 gj (e2 b9 (eV 1) f8) pc))
  (fF (qk f8 (dN aN)))
  dG)
  (bp (ie (cT (e2 gj (e2 b9 (eV 1) f8) Sc))
  (fF (qk (mT "Facts" "text_fact" fI (d9 "Judge" "facts" (eV 0)) (aC (e2 b9 (eV 1) v6) aN)) (dN (aC Tl aN))))
  dG)
  (bp (ie (cT (e2 gj (e2 b9 (eV 1) f8) db))
  (fF (a_ fu (aC (eV 0) (aC (e2 b9 (eV 1) v6) (aC (qk f8 (dN aN)) aN)))))
  dG)
  (bp (eM 2 (eF (mY (iL (e2 b9 (eV 1) v6)) [M,Y 0] (gN 0) fj (a_ h_ (aC (eV 1) (aC (eV 0) aN))))))
  (bp (ie (cT (e2 gj (e2 b9 (eV 1) f8) ol))
  (fF (a_ lA (aC (eV 2) aN)))
  dG)
  (bp (eM 3 (qk f8 (dN aN)))
  (bp (iX (iL (eV 2)) (gN 4)
  (oh fu h_))
  (fF (eV 3)))))))))
abbrev lZ:eJ:=pa 16
abbrev wC:List aG:=["judge", "wish", "rows", "ways", "row"]
def kq:bM wC ["judge", "wish"] (aM lZ):=⟨rfl,rfl,rfl,by decide +kernel,rfl,by decide +kernel,by decide +kernel⟩
mutual
def bV:Nat->List D->Option D
 |0=>λ_=>M
 |n+1=>jg 3 6 (md (bV n) (bT n))
def bT:Nat->List D->Option D
 |0=>λ_=>M
 |n+1=>jg 2 5 (eO (bV n) (bT n))
end
def fu:List D->Option D:=bV 12
def h_:List D->Option D:=bT 12
section
variable {P:be}{w:dz}{K:aT}{mg:aG->Option ai}{base:dC}{f:az}{fd:fy}
def zw{n:Nat}(F:kh K "steps_ways" "steps_ways" nQ f fd)(kk:KS K mg)(yy:hW P w K mg base "joined" (n+63) (gO K o_))(qS:hW P w K mg base "wish_ways" (n+63) (gO K (bT n)))(D1:hW P w K mg base "step_ways" (n+63) (gO K nO)):dg P w K mg base jA (n+63+1) f fd ["judge", "steps", "inmost"] (gO K (bV (n+1))):=
 F.xh (Z:=[]) (Ź:=[]) (g:=(md (bV n) (bT n))) jJ ſ λPy A outer s H E hr B hB=>
  (ar (cO (i:=3) jJ.nd rfl (.inl rfl) (vP 2))
  (ar (fW bB rfl (SY rfl kk.y (vP 1)) (λB hB=>(iq (bw (i:=4) jJ.nd rfl (.inl rfl)))) (λB hB=>
  (ar (cO (i:=5) jJ.nd rfl (.inl rfl) (cg yy hr rfl (ao (vP 3) (ao (cg qS hr rfl (ao (vP 0) (ao (bQ (vQ 4) (dq av)) aQ))) aQ))))
   (aI (cO (i:=3) jJ.nd rfl (.inl rfl) (cg D1 hr rfl (ao (vP 0) (ao (vP 4) (ao (vP 5) aQ)))))))))
  (aI (cW (vP 3)))))
def BJ{n:Nat}(F:kh K "wish_ways" "wish_ways" lZ f fd)(kk:KS K mg)(uF:jb P w K mg base "Facts" "text_fact" (n+63) (gO K fI))(B7:hW P w K mg base "steps_ways" (n+63) (gO K (bV n)))(qS:hW P w K mg base "wish_ways" (n+63) (gO K (bT n)))(Mg:hW P w K mg base "merged" (n+63) (gO K lA))(yy:hW P w K mg base "joined" (n+63) (gO K o_)):dg P w K mg base jA (n+63+1) f fd ["judge", "wish"] (gO K (bT (n+1))):=
 F.xh (Z:=[]) (Ź:=[]) (g:=(eO (bV n) (bT n))) kq ſ λPy A outer s H E hr B hB=>
  (ar (dM (cb (fZ hr) (dq (bQ (vQ 1) (dq av))) (dq cF) (bX _))
  (aI (cW (uX av (dI aQ))))
  b8)
  (ar (dM (cb (fZ hr) (dq (bQ (vQ 1) (dq av))) (dq cF) (bX _))
  (aI (cW (uX (yQ uF hr (fq (c:= "Judge") (vQ 0) kk.q) (ao (bQ (vQ 1) (dq av)) aQ)) (dI (ao (dI (ao cF (ao (bQ (vQ 1) (dq av)) aQ))) aQ)))))
  b8)
  (ar (dM (cb (fZ hr) (dq (bQ (vQ 1) (dq av))) (dq cF) (bX _))
  (aI (cW (cg B7 hr rfl (ao (vP 0) (ao (bQ (vQ 1) (dq av)) (ao (uX av (dI aQ)) aQ))))))
  b8)
  (ar (Ee (i:=2) (Ź:=[]) (N:=[("other" : aG),("judge" : aG)]) (src:=[M,Y 0]) (iM (outer:=aM lZ) (oN:=wC) rfl (by decide +kernel) rfl rfl) rfl kq.nd rfl rfl (fm (bQ (vQ 1) (dq av))) (fX 0) ſ (gH 0) (λC s H ex=>⟨bw (i:=0) (show ([("other" : aG),("judge" : aG)]:List aG).Nodup by decide +kernel) rfl (.inl rfl),gZ,(cg qS hr rfl (ao (vP 1) (ao (vP 0) aQ)))⟩))
  (ar (dM (cb (fZ hr) (dq (bQ (vQ 1) (dq av))) (dq cF) (bX _))
  (aI (cW (cg Mg hr rfl (ao (vP 2) aQ))))
  b8)
  (ar (cO (i:=3) kq.nd rfl (.inl rfl) (uX av (dI aQ)))
  (ar (fW bB rfl (fm (vP 2)) (λB hB=>(iq (bw (i:=4) kq.nd rfl (.inl rfl)))) (λB hB=>
  (aI (cO (i:=3) kq.nd rfl (.inl rfl) (cg yy hr rfl (ao (vP 3) (ao (vP 4) aQ)))))))
  (aI (cW (vP 3))))))))))
end
def uI:DG:=
  (fF (a_ fu (aC (eV 0) (aC (eV 1) (aC (qk (d9 "Judge" "mark" (eV 0)) (dN (aC (eK (.tup (gF.map D.str))) aN))) aN)))))
def o8:List D->Option D:=jg 2 2 uI
abbrev vx:eJ:=pa 12
abbrev Na:List aG:=["judge", "question"]
def I_:bM Na ["judge", "question"] (aM vx):=⟨rfl,rfl,rfl,by decide +kernel,rfl,by decide +kernel,by decide +kernel⟩
section
variable {P:be}{w:dz}{K:aT}{a:aG->Option ai}{b:dC}{f:az}{d:fy}
def Jj(F:kh K "models" "models" vx f d)(h:KS K a)(e:PR K a "MARK" gF)(c:hW P w K a b "steps_ways" 79 (gO K fu)):dg P w K a b jA 80 f d ["judge", "question"] (gO K o8):=
 F.xh (Z:=[]) (Ź:=[]) (g:=uI) I_ ſ λj A g s H E i B k=>
  (aI (cW (cg c i rfl (ao (vP 0) (ao (vP 1) (ao (uX (fq (c:= "Judge") (vQ 0) h.q) (dI (ao (yR e rfl) aQ))) aQ))))))
end
abbrev zn:=eK (.int 2147483587)
def rP:DG:=
  (bp (eM 7 (e2 gf (eV 6) (a_ ik (aC (eV 5) aN))))
    (bp (ie (cT (e2 WM (eV 6) (eV 1)))
    (vH 4 (e2 gf (e2 b9 (eV 5) (eV 7)) zn))
    dG)
    (sj 5 (eV 7) (e2 fh (e2 b9 (eV 5) (eV 7)) zn))))
def wa:DG:=
  (bp (eM 8 (e2 d8 (e2 r9 (e2 r9 (e2 d8 (eV 6) (eV 1)) (e2 d8 (eV 6) (eV 1))) (eK (.int 7919))) (eK (.int 104729))))
   (bp (eM 9 (e2 gf (e2 r9 (e2 d8 (e2 gf (e2 b9 (eV 3) (e2 gf (eV 6) (a_ ik (aC (eV 3) aN)))) (eK (.int 2147483647))) (eV 8)) (eK (.int 48271))) (eK (.int 2147483647))))
   (bp (eM 9 (e2 gf (e2 d8 (e2 r9 (eV 9) (eV 9)) (e2 r9 (eK (.int 69621)) (eV 6))) (eK (.int 2147483629))))
   (vH 4 (e2 gf (e2 r9 (eV 9) (eV 9)) zn)))))
def Ca:DG:=
  (bp (eM 3 (e2 d8 (eF (wM (eV 0) pN (pS (eK (.int 63))))) (eF (f9 (aC (eV 1) aN)))))
  (bp (kP 4 bd)
  (bp (ie (cT (e2 gj (e2 gf (e2 fh (e2 b9 (eV 3) f8) (eK (.int 50000))) u8) v6))
  (bp (kP 5 (mY (iL (eV 3)) [M] (gN 0) fj (e2 fh (eV 0) (eK (.int 100000)))))
   (bp (iX (wL (e2 d8 (eV 1) (eV 2))) (gN 6)
   rP)
   (ui 4)))
  dG)
  (bp (iX (wL (eV 2)) (gN 6)
  wa)
  (ui 4)))))
def rS:List D->Option (List D):=De 3 10 Ca
abbrev ue:eJ:=pa 30
abbrev IE:List aG:=["_law_script", "_law_turn", "_law_many", "_law_cells", "_law_found", "_law_left", "_law_k", "_law_at", "_law_place", "_law_number"]
def jK:bM IE ["_law_script", "_law_turn", "_law_many"] (aM ue):=⟨rfl,rfl,rfl,by decide +kernel,rfl,by decide +kernel,by decide +kernel⟩
def HI:DG:=
  (bp (ie (cT (e2 gj (eV 0) (eF bd)))
  (eW (mP f8))
  dG)
  (eW (LD 0)))
def mW:List D->Option (D×List D):=N9 1 1 0 HI
abbrev Fl:eJ:=pa 31
abbrev Wc:List aG:=["_law_draws_here"]
def Rj:bM Wc ["_law_draws_here"] (aM Fl):=⟨rfl,rfl,rfl,by decide +kernel,rfl,by decide +kernel,by decide +kernel⟩
abbrev Ch:=eK (.int 26)
abbrev io:=eK (.int 150)
abbrev jp:=eK (.int 11)
def F8:DG:=
  (bp (eM 2 na)
  (bp (eM 3 (e2 AA (eK (.str (ab ""))) (eF (mY (wL (e2 gf (eV 1) jp)) [M,Y 2,Y 1] (gN 0) fj (e2 b9 (eV 1) (e2 gf (e2 d8 (e2 fh (eV 2) io) (e2 r9 (eV 0) (eV 0))) Ch))))))
  (bp (eM 4 (e2 gf (e2 fh (eV 1) jp) (e2 d8 (a_ ik (aC (eV 3) aN)) v6)))
  (fF (e2 d8 (e2 d8 (Gd (eV 3) pN (pS (eV 4))) (e2 b9 (eV 2) (e2 gf (e2 d8 (eV 0) (eV 1)) Ch))) (Gd (eV 3) (pS (eV 4)) pN))))))
def wb:List D->Option D:=jg 2 5 F8
abbrev wZ:eJ:=pa 32
abbrev M_:List aG:=["_law_k", "_law_draw", "_law_letters", "_law_base", "_law_at"]
def w_:bM M_ ["_law_k", "_law_draw"] (aM wZ):=⟨rfl,rfl,rfl,by decide +kernel,rfl,by decide +kernel,by decide +kernel⟩
def B_:DG:=
  (wm (mY (wL (e2 d8 v6 (e2 gf (e2 fh (eV 0) (eK (.int 7))) u8))) [M,Y 0] (gN 0) fj (a_ wb (aC (eV 0) (aC (eV 1) aN)))))
def rR:List D->Option (List D):=De 1 1 B_
abbrev ub:eJ:=pa 33
noncomputable abbrev IB:List aG:=["_law_draw"]
def Ky:bM IB ["_law_draw"] (aM ub):=⟨rfl,rfl,rfl,by decide +kernel,rfl,by decide +kernel,by decide +kernel⟩
section
variable {P:be}{w:dz}{K:aT}{b:aG->Option ai}{d:dC}{f:az}{c:fy}
def Lg(F:kh K "_law_draws" "_law_draws" ue f c)(a:KS K b):dg P w K b d jA 1 f c ["_law_script", "_law_turn", "_law_many"] (Bt K rS):=
 F.WL (Z:=[4,5]) (Ź:=[4,5]) (g:=Ca) jK ſ λi A g s H E h B e=>
  (ar (cO (i:=3) jK.nd rfl (.inl rfl) (bI eY (dq (df (tI (vQ 0) jP (jO (dq av))))) (dq (df (gc (ao (vP 1) aQ))))))
  (ar (pL (i:=4) jK.nd rfl (.inl rfl) (gc aQ))
  (ar (dM (cb (fZ h) (dq (bI gR (dq (bI kr (dq (bQ (vQ 3) (dq av))) (dq av))) (dq av))) (dq av) (bX _))
  (ar (JM (i:=5) (Ź:=[]) (N:=[("_law_cell" : aG)]) (src:=[M]) (iM (outer:=aM ue) (oN:=IE) rfl (by decide +kernel) rfl rfl) rfl jK.nd rfl rfl (fm (vP 3)) (fX 0) ſ (gH 0) (λC s H j=>⟨bw (i:=0) (show ([("_law_cell" : aG)]:List aG).Nodup by decide +kernel) rfl (.inl rfl),gZ,(bI kr (vQ 0) (dq av))⟩))
   (ar (fW bB rfl (jq rfl a.y (dq (bI eY (vQ 1) (vQ 2)))) (λB e=>(iq (bw (i:=6) jK.nd rfl (.inl rfl)))) (λB e=>
   (ar (cO (i:=7) jK.nd rfl (.inl rfl) (bI gR (vQ 6) (dq (lO rfl a.y (JL (pv 5))))))
    (ar (dM (cb Vl (vQ 6) (vQ 1) (bX _))
    (aI (tG (pv 4) (bI gR (dq (bQ (JL (pv 5)) (vQ 7))) (dq av))))
    b8)
    (aI (xq (pv 5) (vQ 7) (bI kr (dq (bQ (JL (pv 5)) (vQ 7))) (dq av))))))))
   (aI (xp (pv 4)))))
  b8)
  (ar (fW bB rfl (jq rfl a.y (vQ 2)) (λB e=>(iq (bw (i:=6) jK.nd rfl (.inl rfl)))) (λB e=>
  (ar (cO (i:=8) jK.nd rfl (.inl rfl) (bI eY (dq (bI sV (dq (bI sV (dq (bI eY (vQ 6) (vQ 1))) (dq (bI eY (vQ 6) (vQ 1))))) (dq av))) (dq av)))
   (ar (cO (i:=9) jK.nd rfl (.inl rfl) (bI gR (dq (bI sV (dq (bI eY (dq (bI gR (dq (bQ (vQ 3) (dq (bI gR (vQ 6) (dq (lO rfl a.y (vQ 3))))))) (dq av))) (vQ 8))) (dq av))) (dq av)))
   (ar (cO (i:=9) jK.nd rfl (.inl rfl) (bI gR (dq (bI eY (dq (bI sV (vQ 9) (vQ 9))) (dq (bI sV (dq av) (vQ 6))))) (dq av)))
   (aI (tG (pv 4) (bI gR (dq (bI sV (vQ 9) (vQ 9))) (dq av)))))))))
  (aI (xp (pv 4)))))))
def RO(F:kh K "_law_pop" "_law_pop" Fl f c):dg P w K b d jA 1 f c ["_law_draws_here"] (Qm K 0 mW):=
 F.Hk (Z:=[0]) (Ź:=[0]) (g:=HI) Rj 0 ſ ſ λh A e s H E g B a i=>
  (ar (dM (cb (fZ g) (JL (pv 0)) (dq (df (gc aQ))) (bX _))
  (aI (g8 (cX av)))
  b8)
  (aI (g8 (SV (pv 0)))))
def OE(F:kh K "_law_name" "_law_name" wZ f c)(a:KS K b):dg P w K b d jA 1 f c ["_law_k", "_law_draw"] (gO K wb):=
 F.xh (Z:=[]) (Ź:=[]) (g:=F8) w_ ſ λe A outer s H E g B h=>
  (ar (cO (i:=2) w_.nd rfl (.inr rfl) cF)
  (ar (cO (i:=3) w_.nd rfl (.inl rfl) (Po (dq cF) (dq (df (qV (Ź:=[]) (N:=[("_law_j" : aG),("_law_letters" : aG),("_law_draw" : aG)]) (src:=[M,Y 2,Y 1]) (iM (outer:=aM wZ) (oN:=M_) rfl (by decide +kernel) rfl rfl) rfl (jq rfl a.y (dq (bI gR (vQ 1) (dq av)))) (fX 0) ſ (gH 0) (λC s H i=>⟨bw (i:=0) (show ([("_law_j" : aG),("_law_letters" : aG),("_law_draw" : aG)]:List aG).Nodup by decide +kernel) rfl (.inl rfl),gZ,(bQ (vQ 1) (dq (bI gR (dq (bI eY (dq (bI kr (vQ 2) (dq av))) (dq (bI sV (vQ 0) (vQ 0))))) (dq av))))⟩))))))
  (ar (cO (i:=4) w_.nd rfl (.inl rfl) (bI gR (dq (bI kr (vQ 1) (dq av))) (dq (bI eY (dq (lO rfl a.y (vQ 3))) (dq av)))))
  (aI (cW (bI eY (dq (bI eY (dq (MJ (vQ 3) jP (jO (vQ 4)))) (dq (bQ (vQ 2) (dq (bI gR (dq (bI eY (vQ 0) (vQ 1))) (dq av))))))) (dq (MJ (vQ 3) (jO (vQ 4)) jP))))))))
def Ld(F:kh K "_law_names" "_law_names" ub f c)(e:KS K b)(a:hW P w K b d "_law_name" 1 (gO K wb)):dg P w K b d jA 2 f c ["_law_draw"] (Bt K rR):=
 F.WL (Z:=[]) (Ź:=[]) (g:=B_) Ky ſ λh A outer s H E g B i=>
  (aI (Ck (qV (Ź:=[]) (N:=[("_law_k" : aG),("_law_draw" : aG)]) (src:=[M,Y 0]) (iM (outer:=aM ub) (oN:=IB) rfl (by decide +kernel) rfl rfl) rfl (jq rfl e.y (dq (bI eY (dq av) (dq (bI gR (dq (bI kr (vQ 0) (dq av))) (dq av)))))) (fX 0) ſ (gH 0) (λC s H j=>⟨bw (i:=0) (show ([("_law_k" : aG),("_law_draw" : aG)]:List aG).Nodup by decide +kernel) rfl (.inl rfl),gZ,(cg a g rfl (ao (vP 0) (ao (vP 1) aQ)))⟩))))
end
abbrev re:=eK (.int 3)
abbrev Uf:=eK (.int 8)
abbrev ci:=f9 (aC (eK (.str (ab "x"))) (aC (eK (.str (ab ""))) aN))
abbrev lm:=eK (.int 4)
abbrev Do:=f9 (aC u8 (aC v6 (aC f8 (aC u8 aN))))
def jl(c:List D->Option (D×List D×List D))(a:List D->Option (D×List D×List D)):DG:=
  (bp (gG 4 (ny mW 0 aN))
  (bp (eM 5 (e2 gf (eV 4) Uf))
  (bp (ie (vq (cT (e2 gj (eV 5) u8)) (cT (e2 gj (eV 5) re)))
  (eW (mP (dN (aC Sc (aC (e2 b9 (eF ci) (e2 gf (e2 fh (eV 4) Uf) u8)) aN)))))
  dG)
  (bp (ie (vq (cT (e2 P2 (eV 5) u8)) (cT (e2 gj (eV 3) f8)))
  (eW (mP (dN (aC pc aN))))
  dG)
  (bp (ie (cT (e2 P2 (eV 5) (eK (.int 6))))
  (eW (qN (iw (mP db) (iw (j5 a 0 (eV 1) 2 (aC (e2 ku (eV 3) v6) aN)) lG))))
  dG)
  (bp (eM 6 (eK (.str (ab "both"))))
  (bp (ie (i6 (cT (e2 gj (eV 5) (eK (.int 7)))) (cT (e2 AB (e2 b9 (eV 2) u8) f8)))
  (bp (eM 6 ol)
   (sj 2 u8 (e2 ku (e2 b9 (eV 2) u8) v6)))
  dG)
  (bp (eM 7 (e2 b9 (eF Do) (e2 gf (e2 fh (eV 4) Uf) lm)))
  (eW (qN (iw (mP (eV 6)) (iw (FW (wL (eV 7)) [M,Y 0,Y 1,Y 2,Y 3] (gN 0) (j5 c 1 (eV 2) 3 (aC (e2 ku (eV 4) v6) aN)) 1 0 3 2) lG))))))))))))
abbrev k9:eJ:=pa 34
abbrev u7:List aG:=["_law_draws_here", "_law_names_here", "_law_left", "_law_deep", "_law_number", "_law_kind", "_law_word", "_law_many"]
def iC:bM u7 ["_law_draws_here", "_law_names_here", "_law_left", "_law_deep"] (aM k9):=⟨rfl,rfl,rfl,by decide +kernel,rfl,by decide +kernel,by decide +kernel⟩
abbrev No:=eK (.int 12)
def lQ(a:List D->Option (D×List D×List D))(c:List D->Option (D×List D×List D)):DG:=
  (bp (gG 6 (ny mW 0 aN))
   (bp (eM 7 sn)
   (bp (eM 8 (e2 b9 (eV 1) (e2 gf (e2 fh (eV 6) No) (a_ ik (aC (eV 1) aN)))))
   (bp (ie (i6 (cT (e2 gj (e2 gf (eV 6) re) f8)) (cT (e2 AB (e2 b9 (eV 2) f8) f8)))
   (bp (eM 7 ge)
    (sj 2 f8 (e2 ku (e2 b9 (eV 2) f8) v6)))
   dG)
   (bp (ie (i6 (cT (e2 gj (e2 gf (e2 fh (eV 6) re) lm) f8)) (cT (e2 AB (e2 b9 (eV 2) v6) f8)))
   (bp (eM 8 ce)
    (sj 2 v6 (e2 ku (e2 b9 (eV 2) v6) v6)))
   dG)
   (GY 4 (qN (iw (mP (eV 7)) (iw (mP (eV 8)) (iw (j5 a 0 (eV 1) 2 (aC (eV 3) aN)) lG))))))))))
def iF(c:List D->Option (D×List D×List D))(a:List D->Option (D×List D×List D)):DG:=
  (bp (kP 4 bd)
  (bp (Ap (Uh (m2 d8 (mP v6) (m2 gf (ny mW 0 aN) (mP u8)))) (gN 5)
  (lQ c a))
  (Fo 4)))
abbrev mD:eJ:=pa 35
abbrev zS:List aG:=["_law_draws_here", "_law_names_here", "_law_left", "_law_deep", "_law_found", "_law_k", "_law_number", "_law_way", "_law_name_here"]
def fB:bM zS ["_law_draws_here", "_law_names_here", "_law_left", "_law_deep"] (aM mD):=⟨rfl,rfl,rfl,by decide +kernel,rfl,by decide +kernel,by decide +kernel⟩
mutual
def cH:Nat->List D->Option (D×List D×List D)
 |0=>λ_=>M
 |n+1=>uk 4 8 0 2 (jl (cH n) (cQ n))
def cQ:Nat->List D->Option (D×List D×List D)
 |0=>λ_=>M
 |n+1=>uk 4 9 0 2 (iF (cH n) (cQ n))
end
def jQ:List D->Option (D×List D×List D):=cQ 12
section
variable {P:be}{w:dz}{K:aT}{b:aG->Option ai}{d:dC}{f:az}{e:fy}
def zx(F:kh K "_law_small_wish" "_law_small_wish" k9 f e)(l:KS K b)(j:hW P w K b d "_law_pop" (n+1) (Qm K 0 mW))(g:hW P w K b d "_law_small_steps" (n+1) (rW K 0 2 (cQ n)))(h:hW P w K b d "_law_small_wish" (n+1) (rW K 0 2 (cH n))):dg P w K b d jA (n+1+1) f e ["_law_draws_here", "_law_names_here", "_law_left", "_law_deep"] (rW K 0 2 (cH (n+1))):=
 F.Vk (Z:=[0,2]) (Ź:=[0,2]) (g:=(jl (cH n) (cQ n))) iC 0 2 ſ ſ ſ ſ λo A k s H E i B a c m=>
  (ar (mf (i:=4) iC.nd rfl (.inl rfl) (rN j i rfl (pv 0) aQ))
  (ar (cO (i:=5) iC.nd rfl (.inl rfl) (bI gR (vQ 4) (dq av)))
  (ar (dM (PW.pt (HR (cb (fZ i) (vQ 5) (dq av) (bX _)) (Ci (cb (fZ i) (vQ 5) (dq av) (bX _)))))
  (aI (g8 (cX (dI (ao cF (ao (bQ (dq (df (gc (ao cF (ao cF aQ))))) (dq (bI gR (dq (bI kr (vQ 4) (dq av))) (dq av)))) aQ))))))
  b8)
  (ar (dM (PW.pt (HR (cb Qs (vQ 5) (dq av) (bX _)) (Ci (cb (fZ i) (vQ 3) (dq av) (bX _)))))
  (aI (g8 (cX (dI (ao cF aQ)))))
  b8)
  (ar (dM (cb Qs (vQ 5) (dq av) (bX _))
  (aI (g8 (yL (cP (cX cF) (cP (yN g i rfl (pv 0) (vP 1) (pv 2) (ao (bI qL (vQ 3) (dq av)) aQ)) gJ)))))
  b8)
  (ar (cO (i:=6) iC.nd rfl (.inl rfl) cF)
  (ar (dM (PW.pt (pK (cb (fZ i) (vQ 5) (dq av) (bX _)) (pI (cb Dp (dq (bQ (JL (pv 2)) (dq av))) (dq av) (bX _)))))
  (ar (cO (i:=6) iC.nd rfl (.inl rfl) cF)
   (aI (xq (pv 2) (dq av) (bI qL (dq (bQ (JL (pv 2)) (dq av))) (dq av)))))
  b8)
  (ar (cO (i:=7) iC.nd rfl (.inl rfl) (bQ (dq (df (gc (ao av (ao av (ao av (ao av aQ))))))) (dq (bI gR (dq (bI kr (vQ 4) (dq av))) (dq av)))))
  (aI (g8 (yL (cP (cX (vP 6)) (cP (SW (i0:=1) (j0:=0) (i1:=3) (j1:=2) (N:=[("_law_k" : aG),("_law_draws_here" : aG),("_law_names_here" : aG),("_law_left" : aG),("_law_deep" : aG)]) (src:=[M,Y 0,Y 1,Y 2,Y 3]) (iM (outer:=aM k9) (oN:=u7) rfl (by decide +kernel) rfl rfl) rfl (jq rfl l.y (vQ 7)) (fX 0) ſ (JE _ 0 1 3) (λC s H p=>⟨bw (i:=0) (show ([("_law_k" : aG),("_law_draws_here" : aG),("_law_names_here" : aG),("_law_left" : aG),("_law_deep" : aG)]:List aG).Nodup by decide +kernel) rfl (lF rfl),gZ,YA λB a c m=>(yN h i rfl (pv 1) (vP 2) (pv 3) (ao (bI qL (vQ 4) (dq av)) aQ))⟩)) gJ)))))))))))))
def yc(F:kh K "_law_small_steps" "_law_small_steps" mD f e)(k:KS K b)(h:hW P w K b d "_law_pop" (n+1) (Qm K 0 mW))(g:hW P w K b d "_law_small_wish" (n+1) (rW K 0 2 (cH n))):dg P w K b d jA (n+1+1) f e ["_law_draws_here", "_law_names_here", "_law_left", "_law_deep"] (rW K 0 2 (cQ (n+1))):=
 F.Vk (Z:=[0,2,4]) (Ź:=[0,2,4]) (g:=(iF (cH n) (cQ n))) fB 0 2 ſ ſ ſ ſ λm A j s H E i B a c l=>
  (ar (pL (i:=4) fB.nd rfl (.inl rfl) (gc aQ))
  (ar (Pf bB rfl (Gk rfl k.y (QO eY (cX av) (QO gR (rN h i rfl (pv 0) aQ) (cX av)))) (λB l=>(iq (bw (i:=5) fB.nd rfl (.inl rfl)))) (λB l=>
  (ar (mf (i:=6) fB.nd rfl (.inl rfl) (rN h i rfl (pv 0) aQ))
   (ar (cO (i:=7) fB.nd rfl (.inl rfl) cF)
   (ar (cO (i:=8) fB.nd rfl (.inl rfl) (bQ (vQ 1) (dq (bI gR (dq (bI kr (vQ 6) (dq av))) (dq (lO rfl k.y (vQ 1)))))))
   (ar (dM (PW.pt (pK (cb (fZ i) (dq (bI gR (vQ 6) (dq av))) (dq av) (bX _)) (pI (cb Dp (dq (bQ (JL (pv 2)) (dq av))) (dq av) (bX _)))))
   (ar (cO (i:=7) fB.nd rfl (.inl rfl) cF)
    (aI (xq (pv 2) (dq av) (bI qL (dq (bQ (JL (pv 2)) (dq av))) (dq av)))))
   b8)
   (ar (dM (PW.pt (pK (cb (fZ i) (dq (bI gR (dq (bI kr (vQ 6) (dq av))) (dq av))) (dq av) (bX _)) (pI (cb Dp (dq (bQ (JL (pv 2)) (dq av))) (dq av) (bX _)))))
   (ar (cO (i:=8) fB.nd rfl (.inl rfl) cF)
    (aI (xq (pv 2) (dq av) (bI qL (dq (bQ (JL (pv 2)) (dq av))) (dq av)))))
   b8)
   (aI (Ph (pv 4) (yL (cP (cX (vP 7)) (cP (cX (vP 8)) (cP (yN g i rfl (pv 0) (vP 1) (pv 2) (ao (vP 3) aQ)) gJ)))))))))))))
  (aI (Mz (pv 4)))))
end
abbrev im:=f9 (aC (dN (aC (eV 3) (aC (eV 4) (aC (eV 6) aN)))) aN)
def nL(e:List D->Option (List D))(d:List D->Option (List D)):DG:=
  (vH 1 (e2 d8 (e2 d8 (eF (wM (eV 0) pN (pS (eV 2)))) (eF im)) (eF (wM (eV 0) (pS (e2 d8 (eV 2) v6)) pN))))
def nK(e:List D->Option (List D))(d:List D->Option (List D)):DG:=
  (bp (KC (D2 3 4 5) (e2 b9 (eV 0) (eV 2)))
   (iX (iL (eF (kR d (aC (eV 5) aN)))) (gN 6)
   (nL e d)))
def rM(e:List D->Option (List D))(d:List D->Option (List D)):DG:=
  (bp (kP 1 bd)
  (bp (iX (wL (a_ ik (aC (eV 0) aN))) (gN 2)
  (nK e d))
  (ui 1)))
abbrev sJ:eJ:=pa 36
abbrev J2:List aG:=["_law_steps", "_law_found", "_law_k", "_law_way", "_law_name_here", "_law_wish", "_law_left"]
def j2:bM J2 ["_law_steps"] (aM sJ):=⟨rfl,rfl,rfl,by decide +kernel,rfl,by decide +kernel,by decide +kernel⟩
def ly(e:List D->Option (List D))(d:List D->Option (List D)):DG:=
  (vH 1 (dN (aC db (aC (eV 2) aN))))
def nJ(e:List D->Option (List D))(d:List D->Option (List D)):DG:=
  (vH 1 (dN (aC (e2 b9 (eV 0) f8) (aC (e2 d8 (e2 d8 (eV 4) (eF (f9 (aC (eV 6) aN)))) (eV 5)) aN))))
def nI(e:List D->Option (List D))(d:List D->Option (List D)):DG:=
  (bp (eM 4 (eF (wM (e2 b9 (eV 0) v6) pN (pS (eV 3)))))
    (bp (eM 5 (eF (wM (e2 b9 (eV 0) v6) (pS (e2 d8 (eV 3) v6)) pN)))
    (bp (iX (iL (eF (kR d (aC (e2 b9 (e2 b9 (eV 0) v6) (eV 3)) aN)))) (gN 6)
    (nJ e d))
    (ie (cT (e2 AB (a_ ik (aC (e2 b9 (eV 0) v6) aN)) v6))
    (vH 1 (dN (aC (e2 b9 (eV 0) f8) (aC (e2 d8 (eV 4) (eV 5)) aN))))
    dG))))
abbrev am:=dN (aC db (aC (eF (wM (e2 b9 (eV 0) v6) pN (pS (e1 Jo v6)))) aN))
def rL(d:List D->Option (List D))(e:List D->Option (List D)):DG:=
  (bp (ie (cT (e2 gj (e2 b9 (eV 0) f8) pc))
  (wm bd)
  dG)
  (bp (kP 1 (f9 (aC (dN (aC pc aN)) aN)))
  (bp (ie (cT (e2 gj (e2 b9 (eV 0) f8) db))
  (bp (iX (iL (eF (kR d (aC (e2 b9 (eV 0) v6) aN)))) (gN 2)
   (ly d e))
   (ie (cT (e2 AB (a_ ik (aC (e2 b9 (eV 0) v6) aN)) v6))
   (vH 1 am)
   dG))
  dG)
  (bp (ie (cT (e2 (Ny Z_) (e2 b9 (eV 0) f8) ca))
  (iX (wL (a_ ik (aC (e2 b9 (eV 0) v6) aN))) (gN 3)
   (nI d e))
  dG)
  (ui 1)))))
abbrev sI:eJ:=pa 37
abbrev J1:List aG:=["_law_wish", "_law_found", "_law_steps", "_law_k", "_law_ahead", "_law_behind", "_law_left"]
def jZ:bM J1 ["_law_wish"] (aM sI):=⟨rfl,rfl,rfl,by decide +kernel,rfl,by decide +kernel,by decide +kernel⟩
mutual
def e_:Nat->List D->Option (List D)
 |0=>λ_=>M
 |n+1=>De 1 7 (rM (e_ n) (e8 n))
def e8:Nat->List D->Option (List D)
 |0=>λ_=>M
 |n+1=>De 1 7 (rL (e_ n) (e8 n))
end
def o9:List D->Option (List D):=e_ 12
section
variable {P:be}{w:dz}{K:aT}{a:aG->Option ai}{b:dC}{f:az}{c:fy}
def FH(F:kh K "_law_left_in" "_law_left_in" sJ f c)(h:KS K a)(d:hW P w K a b "_law_left_of" (n+0) (Bt K (e8 n))):dg P w K a b jA (n+0+1) f c ["_law_steps"] (Bt K (e_ (n+1))):=
 F.WL (Z:=[1]) (Ź:=[1]) (g:=(rM (e_ n) (e8 n))) j2 ſ λj A g s H E i B e=>
  (ar (pL (i:=1) j2.nd rfl (.inl rfl) (gc aQ))
  (ar (fW bB rfl (jq rfl h.y (dq (lO rfl h.y (vQ 0)))) (λB e=>(iq (bw (i:=2) j2.nd rfl (.inl rfl)))) (λB e=>
  (ar (SU (bQ (vQ 0) (vQ 2)) (uV (lM rfl (cJ (bw (i:=3) j2.nd rfl (.inl rfl)) (cJ (bw (i:=4) j2.nd rfl (.inl rfl)) (cJ (bw (i:=5) j2.nd rfl (.inl rfl)) jT))))))
   (aI (fW bB rfl (fm (df (qW d i rfl (ao (vP 5) aQ)))) (λB e=>(iq (bw (i:=6) j2.nd rfl (.inl rfl)))) (λB e=>
   (aI (tG (pv 1) (bI eY (dq (bI eY (dq (df (tI (vQ 0) jP (jO (vQ 2))))) (dq (df (gc (ao (dI (ao (vP 3) (ao (vP 4) (ao (vP 6) aQ)))) aQ)))))) (dq (df (tI (vQ 0) (jO (dq (bI eY (vQ 2) (dq av)))) jP))))))))))))
  (aI (xp (pv 1)))))
def FG(F:kh K "_law_left_of" "_law_left_of" sI f c)(h:KS K a)(e:hW P w K a b "_law_left_in" (n+0) (Bt K (e_ n)))(d:hW P w K a b "_law_left_of" (n+0) (Bt K (e8 n))):dg P w K a b jA (n+0+1) f c ["_law_wish"] (Bt K (e8 (n+1))):=
 F.WL (Z:=[1]) (Ź:=[1]) (g:=(rL (e_ n) (e8 n))) jZ ſ λk A j s H E i B g=>
  (ar (dM (cb (fZ i) (dq (bQ (vQ 0) (dq av))) (dq cF) (bX _))
  (aI (Ck (gc aQ)))
  b8)
  (ar (pL (i:=1) jZ.nd rfl (.inl rfl) (gc (ao (dI (ao cF aQ)) aQ)))
  (ar (dM (cb (fZ i) (dq (bQ (vQ 0) (dq av))) (dq cF) (bX _))
  (ar (fW bB rfl (fm (df (qW e i rfl (ao (bQ (vQ 0) (dq av)) aQ)))) (λB g=>(iq (bw (i:=2) jZ.nd rfl (.inl rfl)))) (λB g=>
   (aI (tG (pv 1) (dI (ao cF (ao (vP 2) aQ)))))))
   (aI (dM (cb Dp (dq (lO rfl h.y (dq (bQ (vQ 0) (dq av))))) (dq av) (bX _))
   (aI (tG (pv 1) (dI (ao cF (ao (df (tI (dq (bQ (vQ 0) (dq av))) jP (jO (dq (S_ (dq av)))))) aQ)))))
   b8)))
  b8)
  (ar (dM (cb Lk (dq (bQ (vQ 0) (dq av))) (dq (dI (ao cF (ao cF aQ)))) rfl)
  (aI (fW bB rfl (jq rfl h.y (dq (lO rfl h.y (dq (bQ (vQ 0) (dq av)))))) (λB g=>(iq (bw (i:=3) jZ.nd rfl (.inl rfl)))) (λB g=>
   (ar (cO (i:=4) jZ.nd rfl (.inl rfl) (df (tI (dq (bQ (vQ 0) (dq av))) jP (jO (vQ 3)))))
    (ar (cO (i:=5) jZ.nd rfl (.inl rfl) (df (tI (dq (bQ (vQ 0) (dq av))) (jO (dq (bI eY (vQ 3) (dq av)))) jP)))
    (ar (fW bB rfl (fm (df (qW d i rfl (ao (bQ (dq (bQ (vQ 0) (dq av))) (vQ 3)) aQ)))) (λB g=>(iq (bw (i:=6) jZ.nd rfl (.inl rfl)))) (λB g=>
    (aI (tG (pv 1) (dI (ao (bQ (vQ 0) (dq av)) (ao (bI eY (dq (bI eY (vQ 4) (dq (df (gc (ao (vP 6) aQ)))))) (vQ 5)) aQ)))))))
    (aI (dM (cb Dp (dq (lO rfl h.y (dq (bQ (vQ 0) (dq av))))) (dq av) (bX _))
    (aI (tG (pv 1) (dI (ao (bQ (vQ 0) (dq av)) (ao (bI eY (vQ 4) (vQ 5)) aQ)))))
    b8))))))))
  b8)
  (aI (xp (pv 1)))))))
end
def u5(e:List D->Option D)(d:List D->Option D):DG:=
  (eM 1 (e2 d8 (eV 1) (a_ d (aC (eV 4) aN))))
def B9(e:List D->Option D)(d:List D->Option D):DG:=
  (bp (eM 1 f8)
  (bp (iX (iL (eV 0)) (D2 2 3 4)
  (u5 e d))
  (fF (eV 1))))
abbrev Br:eJ:=pa 38
abbrev Tt:List aG:=["_law_steps", "_law_many", "_law_way", "_law_name_here", "_law_wish"]
def rE:bM Tt ["_law_steps"] (aM Br):=⟨rfl,rfl,rfl,by decide +kernel,rfl,by decide +kernel,by decide +kernel⟩
def nH(e:List D->Option D)(d:List D->Option D):DG:=
  (eM 1 (e2 d8 (eV 1) (a_ d (aC (eV 2) aN))))
def gD(e:List D->Option D)(d:List D->Option D):DG:=
  (bp (ie (cT (e2 gj (e2 b9 (eV 0) f8) db))
  (fF (a_ e (aC (e2 b9 (eV 0) v6) aN)))
  dG)
  (bp (eM 1 f8)
  (bp (ie (cT (e2 (Ny Z_) (e2 b9 (eV 0) f8) ca))
  (bp (ie (cT (e2 gj (e2 b9 (eV 0) f8) ol))
   (eM 1 (e2 d8 (eK (.int 100)) (a_ ik (aC (e2 b9 (eV 0) v6) aN))))
   dG)
   (iX (iL (e2 b9 (eV 0) v6)) (gN 2)
   (nH e d)))
  dG)
  (fF (eV 1)))))
abbrev sH:eJ:=pa 39
abbrev J0:List aG:=["_law_wish", "_law_many", "_law_one"]
def mH:bM J0 ["_law_wish"] (aM sH):=⟨rfl,rfl,rfl,by decide +kernel,rfl,by decide +kernel,by decide +kernel⟩
mutual
def fY:Nat->List D->Option D
 |0=>λ_=>M
 |n+1=>jg 1 5 (B9 (fY n) (cY n))
def cY:Nat->List D->Option D
 |0=>λ_=>M
 |n+1=>jg 1 3 (gD (fY n) (cY n))
end
def qd:List D->Option D:=fY 12
section
variable {P:be}{w:dz}{K:aT}{a:aG->Option ai}{b:dC}{f:az}{c:fy}
def OD(F:kh K "_law_ones" "_law_ones" Br f c)(d:hW P w K a b "_law_ones_in" (n+0) (gO K (cY n))):dg P w K a b jA (n+0+1) f c ["_law_steps"] (gO K (fY (n+1))):=
 F.xh (Z:=[]) (Ź:=[]) (g:=(B9 (fY n) (cY n))) rE ſ λi A e s H E h B g=>
  (ar (cO (i:=1) rE.nd rfl (.inl rfl) av)
  (ar (fW bB rfl (fm (vP 0)) (λB g=>(uV (lM rfl (cJ (bw (i:=2) rE.nd rfl (.inl rfl)) (cJ (bw (i:=3) rE.nd rfl (.inl rfl)) (cJ (bw (i:=4) rE.nd rfl (.inl rfl)) jT)))))) (λB g=>
  (aI (cO (i:=1) rE.nd rfl (.inl rfl) (bI eY (vQ 1) (dq (cg d h rfl (ao (vP 4) aQ))))))))
  (aI (cW (vP 1)))))
def FF(F:kh K "_law_ones_in" "_law_ones_in" sH f c)(j:KS K a)(e:hW P w K a b "_law_ones" (n+0) (gO K (fY n)))(d:hW P w K a b "_law_ones_in" (n+0) (gO K (cY n))):dg P w K a b jA (n+0+1) f c ["_law_wish"] (gO K (cY (n+1))):=
 F.xh (Z:=[]) (Ź:=[]) (g:=(gD (fY n) (cY n))) mH ſ λk A h s H E g B i=>
  (ar (dM (cb (fZ g) (dq (bQ (vQ 0) (dq av))) (dq cF) (bX _))
  (aI (cW (cg e g rfl (ao (bQ (vQ 0) (dq av)) aQ))))
  b8)
  (ar (cO (i:=1) mH.nd rfl (.inl rfl) av)
  (ar (dM (cb Lk (dq (bQ (vQ 0) (dq av))) (dq (dI (ao cF (ao cF aQ)))) rfl)
  (ar (dM (cb (fZ g) (dq (bQ (vQ 0) (dq av))) (dq cF) (bX _))
   (aI (cO (i:=1) mH.nd rfl (.inl rfl) (bI eY (dq av) (dq (lO rfl j.y (dq (bQ (vQ 0) (dq av))))))))
   b8)
   (aI (fW bB rfl (fm (bQ (vQ 0) (dq av))) (λB i=>(iq (bw (i:=2) mH.nd rfl (.inl rfl)))) (λB i=>
   (aI (cO (i:=1) mH.nd rfl (.inl rfl) (bI eY (vQ 1) (dq (cg d g rfl (ao (vP 2) aQ))))))))))
  b8)
  (aI (cW (vP 1))))))
end
end K21
namespace L2
open PySem PySem.Spec PyProof.Rows
def Wh(K:aT)(G H:Hp)(l:az)(a:List D)(tail:List V):Prop:=∃b,H l=Y (.lst (b++tail))/\bf K G a b
abbrev Zs:=List (aG×List D)
def iA(K:aT)(f G H:Hp):Zs->List az->List D->az->List V->Prop
 |[],a,d,b,tail=>a=[]/\Wh K G H b d tail|(e,c)::st,a,d,b,tail=>∃l r t,a=l::r/\Wh K G H l c tail/\H t=Y (.tup [.str e,.ref l])/\G t=M/\f t=M/\iA K f G H st r d b [.ref t]
section
variable {K:aT}{f:Hp}
def gv.nil{a:az}(E:gv G H G' H')(h:H a=Y o)(g:G a=M):G' a=none:=by
 rcases q:G' a with _|u
 ·rfl
 rcases E.fr a u q with z|z
 ·rw[g]at z;cases z
 ·rw[h]at z;cases z
def Wh.ext{a:List D}{tail:List V}(E:gv G H G' H')(h:Wh K G H l a tail):Wh K G' H' l a tail:=by
 obtain⟨b,e,r⟩:=h;exact⟨b,E.hh _ _ e,bf.mono E.gg a r⟩
theorem iA.ext(E:gv G H G' H'):∀ {d:Zs}{a:List az}{c:List D}{b:az}{tail:List V},iA K f G H d a c b tail->iA K f G' H' d a c b tail
 |[],a,c,b,tail,h=>⟨h.1,h.2.ext E⟩|(o,i)::d,a,c,b,tail,h=>by obtain⟨l,r,t,e,k,g,n,m,j⟩:=h;exact⟨l,r,t,e,k.ext E,E.hh _ _ g,E.nil g n,m,j.ext E⟩
theorem iA.upd{a:az}{o:List V}(m:H a=Y (.lst n)):∀ {g:Zs}{b:List az}{d:List D}{c:az}{tail:List V},a∉b->a≠c->iA K f G H g b d c tail->iA K f G (L2.de H a (.lst o)) g b d c tail
 |[],b,d,c,tail,j,i,h=>by obtain⟨e,vs,q,r⟩:=h;exact⟨e,vs,by rw[aS (bU i)];exact q,r⟩
 | (A,v)::g,b,d,c,tail,j,i,h=>by
  obtain⟨l,r,t,rfl,⟨vs,q,p⟩,k,y,x,w⟩:=h;have u:l≠a:=λz=>j (by rw[z];exact aF)
  have s:t≠a:=Du k m (by intro z;cases z);exact⟨l,r,t,rfl,⟨vs,by rw[aS u];exact q,p⟩,by rw[aS s];exact k,y,x,w.upd m (λz=>j (aj _ z)) i⟩
def iA.lay{p:az}{o:HO}(s:bG G H)(e:H p=M){tail:List V}(h:iA K f G H a b d c tail):iA K f G (L2.de H p o) a b d c tail:=h.ext (gv.lay s e)
def inner:Zs->List D->List D
 |[],b=>b|(_,a)::_,_=>a
def sL:Zs->List D->List D->Zs×List D
 |[],_,d=>([],d)|(a,_)::st,L0,d=>((a,d)::st,L0)
theorem iA.inner:∀ {e:Zs}{b:List az}{d:List D}{c:az}{tail:List V},iA K f G H e b d c tail->∃a,H (b.headD c)=Y (.lst (a++tail))/\bf K G (L2.inner e d) a
 |[],b,d,c,tail,h=>by obtain⟨rfl,a,q,r⟩:=h;exact⟨a,q,r⟩
 |(j,i)::e,b,d,c,tail,h=>by obtain⟨l,r,t,rfl,⟨a,q,g⟩,_⟩:=h;exact⟨a,q,g⟩
theorem iA.set{a:List V}(k:bf K G b c):∀ {j:Zs}{e:List az}{i:List D}{d:az}{tail:List V},(e++[d]).Nodup->iA K f G H j e i d tail ->
  iA K f G (L2.de H (e.headD d) (.lst (c++a))) (sL j i b).1 e (sL j i b).2 d a
 |[],e,i,d,tail,m,h=>by obtain⟨rfl,o,q,r⟩:=h;exact⟨rfl,c,bh,k⟩
 |(y,s)::j,e,i,d,tail,m,h=>by obtain⟨l,r,t,rfl,⟨o,q,x⟩,n,w,v,u⟩:=h;have p:t≠l:=Du n q (by intro z;cases z);have g:=cA.mp m;refine⟨l,r,t,rfl,⟨c,bh,k⟩,by rw[aS (show t≠(l::r).headD d from p)];exact n,w,v,iA.upd (a:=l) q (λz=>g.1 (aJ _ z)) (λz=>g.1 (by rw[z];simp)) u⟩
def iA.close{m : az}(s : bG G H)(nd : (O ++ [m]).Nodup)(gl : ∀a ∈ O ++ [m],G a = M /\ f a = M)(h : iA K f G H ((w,j) :: d) O B m []):
    ∃l r G',O = l :: r /\ bG G G' /\ bG G' H /\ (∀b o,G' b = Y o -> G b = Y o \/ f b = M) /\ (∀a ∈ r ++ [m],G' a = M) /\ (∀a o,H a = Y (.lst o) -> a ∉ O -> G a = M -> G' a = M) /\
      iA K f G' H (sL d B (L2.inner d B ++ [.tup [.str w,.lst j]])).1 r (sL d B (L2.inner d B ++ [.tup [.str w,.lst j]])).2 m [] := by
  obtain ⟨l,r,t,rfl,⟨p,q,rr⟩,Q,gt,h0,hp⟩ := h
  rw [bx]at q
  have L : t ≠ l := Du Q q (by intro z; cases z)
  have N := cA.mp nd
  have ZS := gl l Ž
  have s1 : bG G (L2.de G l (.lst p)) := .alloc ZS.1
  have gt1 : L2.de G l (.lst p) t = M := by rw [aS L]; exact gt
  have s2 : bG (L2.de G l (.lst p)) (L2.de (L2.de G l (.lst p)) t (.tup [.str w,.ref l])) := .alloc gt1
  have sub : bG (L2.de (L2.de G l (.lst p)) t (.tup [.str w,.ref l])) H := λb o e => by
    by_cases T : b = t
    · subst T; rw [bh]at e; cases e; exact Q
    · rw [aS T]at e
      by_cases S : b = l
      · subst S; rw [bh]at e; cases e; exact q
      · rw [aS S]at e; exact s _ _ e
  have J : cK K (L2.de (L2.de G l (.lst p)) t (.tup [.str w,.ref l])) (.tup [.str w,.lst j]) (.ref t) :=
    mM ⟨t,_,rfl,bh,.cons (dn.mpr rfl) (.cons (cU.mpr ⟨l,p,rfl,by rw [aS (bU L),bh],bf.mono (s1.trans s2) j rr⟩) .nil)⟩
  have C : ∀a o,H a = Y (.lst o) -> a ≠ l -> G a = M -> L2.de (L2.de G l (.lst p)) t (.tup [.str w,.ref l]) a = M := λa o e n g => by
    have : a ≠ t := λz => by subst z; rw [Q]at e; cases e
    rw [aS this,aS n]; exact g
  have YY : ∀ {d : Zs} {r : List az} {tail : List V},l ∉ r -> iA K f G H d r B m tail -> iA K f (L2.de (L2.de G l (.lst p)) t (.tup [.str w,.ref l])) H d r B m tail := fun {d} => by
    induction d with
    |nil => intro r tail _ h; obtain ⟨e,u,i,y⟩ := h; exact⟨e,u,i,bf.mono (s1.trans s2) _ y⟩
    |cons c d ih =>
      intro r tail nl h
      obtain ⟨W,A⟩ := c
      obtain ⟨P,y,F,rfl,⟨u,i,v⟩,k,X,U,E⟩ := h
      have n1 : F ≠ l := Du k q (by intro z; cases z)
      have n2 : F ≠ t := λz => by
        subst z
        rw [Q]at k
        have : l = P := by injection k with z; injection z with z; injection z with _ z; injection z with z; injection z
        exact nl (by rw [this]; exact aF)
      exact⟨P,y,F,rfl,⟨u,i,bf.mono (s1.trans s2) _ v⟩,k,by rw [aS n2,aS n1]; exact X,U,ih (λz => nl (aj _ z)) E⟩
  have R := YY (λz => N.1 (aJ _ z)) hp
  refine⟨l,r,_,rfl,s1.trans s2,sub,λb o e => ?_,λa x => ?_,λa o e n g => C a o e (λz => n (by rw [z]; exact aF)) g,?_⟩
  · by_cases T : b = t
    · subst T; exact .inr h0
    · rw [aS T]at e
      by_cases S : b = l
      · subst S; exact .inr ZS.2
      · rw [aS S]at e; exact .inl e
  · have nal : a ≠ l := λz => N.1 (z ▸ x)
    have : a ≠ t := λz => by
      subst z
      have Sg : ∀ {d : Zs} {r : List az} {tail : List V},iA K f G H d r B m tail -> ∀a ∈ r ++ [m],∃o,H a = Y (.lst o) := fun {d} => by
        induction d with
        | nil => intro r tail h a x; obtain ⟨rfl,u,i,_⟩ := h; have : a = m := by simpa using x
                 subst this; exact⟨_,i⟩
        |cons c d ih =>
          intro r tail h a x
          obtain ⟨W,A⟩ := c
          obtain ⟨P,y,F,rfl,⟨u,i,v⟩,k,X,U,E⟩ := h
          rcases au.mp x with rfl |x
          · exact⟨_,i⟩
          · exact ih E a x
      obtain ⟨o,z⟩ := Sg hp a x
      rw [Q]at z; cases z
    rw [aS this,aS nal]
    exact (gl a (aj _ x)).1
  · cases d with
    |nil =>
      obtain ⟨e,u,i,y⟩ := R
      exact⟨e,u ++ [.ref t],by rw [bx]; exact i,y.append (.cons J .nil)⟩
    |cons c d =>
      obtain ⟨W,A⟩ := c
      obtain ⟨P,y,F,rfl,⟨u,i,v⟩,I⟩ := R
      exact⟨P,y,F,rfl,⟨u ++ [.ref t],by rw [bx]; exact i,v.append (.cons J .nil)⟩,I⟩
end
def part(nm:aG)(a:List D):D :=.tup [.str nm,.lst a]
def vn(d:D)(st:Zs)(L0:List D):Zs×List D:=sL st L0 (inner st L0++[d])
noncomputable def qi:aG:=ab "open"
noncomputable def xT:aG:=ab "text"
noncomputable def qI:aG:=ab "close"
def lj(z:Zs×List D)(s:D):Option (Zs×List D):=match s with
 |.tup [.str k,.str x]=>
  if k=qi then (if z.1=[]/\z.2≠[] then M else Y ((x,[])::z.1,z.2))
  else if k=xT then (if z.1=[] then M else Y (vn (.str x) z.1 z.2)) else M
 |.tup [.str k]=>if k=qI then (match z.1 with|[]=>M|(b,a)::r=>Y (vn (part b a) r z.2)) else M
 |_=>M
def rh:List D->Zs×List D->Option (Zs×List D)
 |[],z=>Y z|s::a,z=>(lj z s).bind (rh a)
def Ia(d:D):Zs->List D->List D
 |[],b=>b++[d]|(c,a)::st,b=>Ia (part c (a++[d])) st b
def xB:Zs->List D->List D
 |[],b=>b|(c,a)::st,b=>Ia (part c a) st b
def E8(g:aG)(d:List D)(e:Zs)(h:List D):xB ((g,d)::e) h=xB (vn (part g d) e h).1 (vn (part g d) e h).2:=by
 cases e with
 |nil=>rfl|cons c e=>obtain⟨a,b⟩:=c;rfl
def nN(b:List D):Option D:=match b with
 |[.lst a]=>if a.length<=100000 then (rh a ([],[])).bind λz=>(xB z.1 z.2)[0]? else M
 |_=>M
theorem iA.Ek{K:aT}{f:Hp}{m:az}:∀(n:Nat){G:Hp}{d:Zs}{j:List az}{i:List D},d.length=n->bG G H->(j++[m]).Nodup->(∀a∈j++[m],G a=M/\f a=M)->iA K f G H d j i m [] ->
  ∃G' g,bG G G'/\bG G' H/\(∀b o,G' b=Y o->G b=Y o\/f b=M)/\H m=Y (.lst g)/\bf K G' (xB d i) g
 |0,G,d,j,i,k,s,p,v,h=>by have:d=[]:=List.length_eq_zero_iff.mp k;subst this;obtain⟨e,g,q,r⟩:=h;exact⟨G,g,bG.refl _,s,λ_ _ e =>.inl e,by rw[<- bx g];exact q,r⟩
 | n+1,G,d,j,i,k,s,p,v,h=>by
  cases d with
  |nil=>cases k|cons c d=>
   obtain⟨F,u⟩:=c;obtain⟨l,r,G',rfl,C,B,L,J,_,I⟩:=h.close s p v;have t:(sL d i (L2.inner d i++[.tup [.str F,.lst u]])).1.length=n:=by
    cases d with
    |nil=>simp[sL]at k ⊢;omega|cons c d=>obtain⟨a,b⟩:=c;simpa [sL] using k
   obtain⟨N,g,A,y,w,e,E⟩:=iA.Ek n t B (cA.mp p).2 (λa x=>⟨J a x,(v a (aj _ x)).2⟩) I;refine⟨N,g,C.trans A,y,λb o q =>?_,e,?_⟩
   ·rcases w b o q with z|z
    ·exact L b o z
    ·exact .inr z
   ·rw[E8];exact E
structure zP(i:Nat)(z:Zs×List D):Prop where
 st:z.1.length<=i
 l0:z.2.length<=i
 all:∀p∈z.1,p.2.length<=i
def zP.inner(h:zP i z):(L2.inner z.1 z.2).length<=i:=by
 obtain⟨a,b⟩:=z;cases a with
 |nil=>exact h.l0|cons c a=>exact h.all c aF
def zP.put(h:zP i (g,j))(d:D):zP (i+1) (vn d g j):=by
 have l:=h.inner;have k:g.length<=i:=h.st;have m:j.length<=i:=h.l0;cases g with
 |nil=>exact⟨by simp[vn,sL],by simp[vn,sL,L2.inner];omega,λp e=>by simp[vn,sL]at e⟩
 |cons c g=>
  obtain⟨a,b⟩:=c;refine⟨by simp[vn,sL]at k ⊢;omega,by simp[vn,sL];omega,λp e =>?_⟩;simp only[vn,sL,L2.inner]at e;rcases au.mp e with rfl|e
  ·have:=h.all (a,b) aF;simp at this ⊢;omega
  ·have:=h.all p (aj _ e);omega
def zP.step{s:D}(h:zP i z)(e:lj z s=Y d):zP (i+1) d:=by
 obtain⟨g,k⟩:=z;unfold lj at e;split at e
 ·split at e
  ·split at e
   ·cases e
   ·cases e;refine⟨by have:=h.st;simp at this ⊢;omega,by have:=h.l0;simp at this ⊢;omega,λp a =>?_⟩;rcases au.mp a with rfl|a
    ·simp
    ·have:=h.all p a;omega
  ·split at e
   ·split at e
    ·cases e
    ·cases e;exact h.put _
   ·cases e
 ·split at e
  ·split at e
   ·cases e
   ·cases e;rename_i j b r c;have c:g=(j,b)::r:=c;subst c;have:zP i (r,k):=⟨by have:=h.st;simp at this ⊢;omega,h.l0,λp a=>h.all p (aj _ a)⟩;exact this.put _
  ·cases e
 ·cases e
def CU{s:D}(e:lj z s=Y c):(∃x,s=.tup [.str qi,.str x]/\¬(z.1=[]/\z.2≠[])/\c=((x,[])::z.1,z.2)) \/
  (∃x,s=.tup [.str xT,.str x]/\z.1≠[]/\c=vn (.str x) z.1 z.2)\/(∃d a r,s=.tup [.str qI]/\z.1=(d,a)::r/\c=vn (part d a) r z.2):=by
 unfold lj at e;split at e
 ·split at e
  ·rename_i k x b;subst b;split at e
   ·cases e
   ·cases e;rename_i h;exact .inl ⟨x,rfl,h,rfl⟩
  ·split at e
   ·rename_i k x _ b;subst b;split at e
    ·cases e
    ·cases e;rename_i h;exact .inr (.inl ⟨x,rfl,h,rfl⟩)
   ·cases e
 ·split at e
  ·rename_i k b;subst b;split at e
   ·cases e
   ·cases e;rename_i d a r h;exact .inr (.inr ⟨d,a,r,rfl,h,rfl⟩)
  ·cases e
 ·cases e
theorem iA.len{K:aT}{f:Hp}:∀ {b:Zs}{a:List az}{d:List D}{c:az}{tail:List V},iA K f G H b a d c tail->a.length=b.length
 |[],a,d,c,tail,h=>by rw[h.1];rfl
 |(i,e)::b,a,d,c,tail,h=>by obtain⟨l,r,t,rfl,_,_,_,_,g⟩:=h;simp[iA.len g]
def Y_:¬(qi=xT):=by decide +kernel
def Y':¬(qi=qI):=by decide +kernel
def sTC:¬(xT=qI):=by decide +kernel
def DW(b:List az)(a:az):p_ ((b++[a]).reverse.map V.ref) (-1)=Y (.ref (b.headD a)):=by
 cases b with
 |nil=>exact Er [] _|cons l r=>
  have:((l::r++[a]).reverse.map V.ref)=((r++[a]).reverse.map V.ref)++[.ref l]:=by simp
  rw[this];exact Er _ _
theorem iA.top{K:aT}{f:Hp}:∀ {i:Zs}{j:List az}{d:List D}{g:az}{tail:List V},iA K f G H i j d g tail->∃c,H g=Y (.lst c)/\(decide ((0:Int)<(c.length:Int))=decide (¬(d=[]/\i=[]/\tail=[])))
 | [],j,d,g,tail,h=>by
  obtain⟨_,c,q,r⟩:=h;refine⟨_,q,?_⟩;have n:(c++tail).length=d.length+tail.length:=by rw[aP,r.length]
  rw[n];cases d with
  | nil=>cases tail with
   |nil=>rfl|cons a b=>exact decide_eq_decide.mpr ⟨λ_ z=>by simp at z,λ_=>by simp only[aK];omega⟩
  |cons a b=>exact decide_eq_decide.mpr ⟨λ_ z=>by simp at z,λ_=>by simp only[aK];omega⟩
 |(o,k)::i,j,d,g,tail,h=>by obtain⟨l,r,t,rfl,_,_,_,_,m⟩:=h;obtain⟨c,q,e⟩:=iA.top m;exact⟨c,q,by rw[e];simp⟩
theorem iA.Sg{K:aT}{f:Hp}:∀ {i:Zs}{r:List az}{g:List D}{b:az}{tail:List V},iA K f G H i r g b tail->∀a∈r++[b],∃o,H a=Y (.lst o)
 | [],r,g,b,tail,h,a,c=>by
  obtain⟨rfl,j,d,_⟩:=h;have:a=b:=by simpa using c
  subst this;exact⟨_,d⟩
 | (t,l)::i,r,g,b,tail,h,a,c=>by
  obtain⟨u,s,q,rfl,⟨j,d,k⟩,m,p,n,e⟩:=h;rcases au.mp c with rfl|c
  ·exact⟨_,d⟩
  ·exact iA.Sg e a c
def rj(a:List az)(b:az):a.headD b∈a++[b]:=by cases a<;>simp
end L2
namespace K21
open PySem L2
abbrev xM:eJ:=pa 25
abbrev PX:List aG:=["signs", "top", "rows", "at", "sign", "own"]
def oC:bM PX ["signs"] (aM xM):=⟨rfl,rfl,rfl,by decide +kernel,rfl,by decide +kernel,by decide +kernel⟩
def Pz(k:aG)(r:List D)(a b:Bool)(d:iJ r 179=Z'):mX [.tup (.str k::r),.bl a,.bl b]=Y (.bl (if k=qi then a || !b else a)):=by
 have c:p_ (D.str k::r) 0=Y (.str k):=eT (j:=0) rfl;simp only[mX,jg,tu,gQ,bp,ie,cT,e2,eV,eK,b9,aW,qg,aK,jC];simp[c,gj,iK,lH,fF,W4,cT,eV,Pb,dG,iY,qi];by_cases h:k=ab "open"
 ·subst h;simp;cases a<;>simp[iY]
 ·have:(k==ab "open")=false:=by simpa using h
  simp[h,iY]
structure QU(K:aT)(G0 H0:Hp)(ss:List D)(zf:Zs×List D)(a0 l0 R:az)(i:Nat)(σ:St)(H:Hp):Prop where
 ex:∃G st ls L0 v3 v4 v5,σ=[some (.ref a0),some (.ref l0),some (.ref R),v3,v4,v5]/\gv G0 H0 G H/\iA K H0 G H st ls L0 l0 []/\(R::(ls++[l0])).Nodup/\(∀a∈R::(ls++[l0]),G a=none/\H0 a=none) /\
  H R=some (.lst ((ls++[l0]).reverse.map V.ref))/\zP i (st,L0)/\rh (ss.drop i) (st,L0)=some zf
def Lc{P:be}{K:aT}{f:az}(F:kh K "stump" "stump" xM f fd)(Qd:mg "len" = M)(S:mg "enumerate" = M)(Yp:hW P w K mg base "can_come" 1 (gO K mX)):
  dg P w K mg base jA 2 f fd ["signs"] (gO K nN):=by
 obtain⟨fc,fdc,psc,hC,hmC,hkC,hbC⟩:=Yp.ex
 have inv:∀ds d,nN ds=Y d->∃L zf,ds=[.lst L]/\L.length<=100000/\rh L ([],[])=Y zf/\(xB zf.1 zf.2)[0]?=Y d:=λds d eq=>by
  unfold nN at eq
  split at eq
  ·split at eq
   ·rename_i L hz
    cases ez:rh L ([],[]) with|none=>rw[ez]at eq;cases eq|some zf=>rw[ez]at eq;exact⟨L,zf,rfl,hz,ez,eq⟩
   ·cases eq
  ·cases eq
 refine F.ok oC (λvs H Q E h =>?_) (λPy A outer s H vs Q E hr h =>?_)
 ·obtain⟨G,ds,d,gh,r,eq,_⟩:=h
  obtain⟨L,zf,rfl,_⟩:=inv ds d eq
  exact r.length.symm
 ·obtain⟨G0,ds,d,gh,r,eq,q⟩:=h
  obtain⟨L,zf,rfl,hz,ez,ed⟩:=inv ds d eq
  obtain⟨v0,r0,rfl,rs,rn⟩:=bJ.mp r
  have:=dD.mp rn;subst this
  obtain⟨a0,us,rfl,ga0,ru⟩:=cU.mp rs
  have W6:100000<a9:=by rw[hT];decide
  refine⟨_,mN (sQ (i:=1) oC.nd rfl (lF rfl) (BD fK))
   (mN (sQ (i:=2) oC.nd rfl (lF rfl) (BD (cM (pv 1) fK)))
   (mN (Rr bB rfl (Ot rfl S (pv 0)) (lM rfl (cJ (bw (i:=3) oC.nd rfl (lF rfl)) (cJ (bw (i:=4) oC.nd rfl (lF rfl)) jT)))
    (mN (Hb (KN (Rp (pA hC hr rfl hmC hkC hbC .nil nq (cM (pv 4) (cM (BE K7 (x3 pU rfl Qd PySem.boot_len (cM (pv 2) fK)) nW (bX _)) (cM (BE K7 (x3 pU rfl Qd PySem.boot_len (cM (pv 1) fK)) nW (bX _)) fK)))))) (nj KO) Ha)
    (nj (Hb (BA Qq (wo yu (pv 4) nW (λ_ _=>rfl)) Fv (bX _))
     (mN (sQ (i:=5) oC.nd rfl (lF rfl) (BD fK))
     (mN (l9 (uq gU PySem.F.slot_list_append PySem.F.type_list_append kX (wo xi (pv 2) (KZ E_ nW) (λ_ _=>rfl)) (cM (Fu (cM (wo yu (pv 4) nW (λ_ _=>rfl)) (cM (pv 5) fK))) fK)))
     (nj (l9 (uq gU PySem.F.slot_list_append PySem.F.type_list_append kX (pv 2) (cM (pv 5) fK))))))
     (nj (Hb (BA Qq (wo yu (pv 4) nW (λ_ _=>rfl)) Fv (bX _))
      (nj (l9 (uq gU PySem.F.slot_list_append PySem.F.type_list_append kX (wo xi (pv 2) (KZ E_ nW) (λ_ _=>rfl)) (cM (wo yu (pv 4) nW (λ_ _=>rfl)) fK))))
      (nj (l9 (K3 gU PySem.F.slot_list_pop PySem.F.type_list_pop Lx (pv 2))))))))))
   (nj (vI (wo xi (pv 1) nW (λ_ _=>rfl)))))),?_⟩
  refine⟨fD _,λe Sw =>?_⟩
  refine⟨_,rfl,(by show 1<=a9;omega),λR hR =>?_⟩
  have XS:R≠e:=λz=>by rw[z,bh]at hR;cases hR
  have ZP:H R=none:=by rw[aS XS]at hR;exact hR
  have hH0:bG H (de (de H e (.lst [])) R (.lst [.ref e])):=(bG.alloc Sw).trans (.alloc hR)
  have WJ:∀ {G H':Hp},gv G0 H G H'->lR K H' a0 us:=λE =>.of (E.gh _ _ (E.gg _ _ ga0))
  have Z7:gv G0 H G0 (de (de H e (.lst [])) R (.lst [.ref e])):=(gv.lay (p:=e) gh Sw).trans (gv.lay (p:=R) (gh.trans (.alloc Sw)) hR)
  refine⟨_,rfl,a0,rfl,⟨us,WJ Z7⟩,?_⟩
  refine⟨λi m σ H'=>m=L.length-i/\i<=L.length/\QU K G0 H L zf a0 e R i σ H',⟨L.length,rfl,fD _,⟨G0,[],[],[],M,M,M,rfl,Z7,?_,?_,?_,bh,⟨aw _,aw _,λp hp=>by cases hp⟩,ez⟩⟩,?_⟩
  ·exact⟨rfl,[],by rw[aS XS.symm,bh];rfl,.nil⟩
  ·simp;exact XS
  ·intro a n
   rcases au.mp n with rfl|n
   ·exact⟨gh.free ZP,ZP⟩
   ·have z:a=e:=by simpa using n
    subst z;exact⟨gh.free Sw,Sw⟩
  rintro i m σ H1 ⟨rfl,WW,⟨G1,W,u,L0,v3,v4,v5,rfl,E1,hp,nd,fr,ZO,zl,I⟩⟩
  by_cases NF:i<L.length
  ·
   have hlu:i<us.length:=by rw[<- ru.length];exact NF
   refine .inr ⟨⟨us,us[i],WJ E1,by simp[hlu]⟩,QU K G0 H L zf a0 e R (i+1),λσ' H' p'=>⟨L.length-(i+1),ž,rfl,NF,p'⟩,λx H2 y =>?_⟩
   obtain⟨y,p,hy,X9,rfl,rfl⟩:=y
   have hy:us[i]?=Y y:=hy us (WJ E1)
   refine⟨p,_,rfl,.of bh,rfl,_,_,rfl,_,_,rfl,rfl,?_⟩
   rw[fJ NF]at I
   have I:(lj (W,L0) L[i]).bind (rh (L.drop (i+1)))=Y zf:=I
   cases es:lj (W,L0) L[i] with
   |none=>rw[es]at I;cases I|some U=>
    rw[es]at I
    have I:rh (L.drop (i+1)) U=Y zf:=I
    have Xf:=zl.step es
    obtain⟨y',Zt,ry⟩:=ru.get (aX NF)
    rw[hy]at Zt;cases Zt
    have E2:gv G0 H G1 (de H1 p (.tup [.int i,y])):=E1.trans (gv.lay (p:=p) E1.gh X9)
    have ND:=hp.lay (o :=.tup [.int i,y]) E1.gh X9
    have Sy:de H1 p (.tup [.int i,y]) R=Y (.lst ((u++[e]).reverse.map V.ref)):=by rw[aS (bu ZO X9)];exact ZO
    obtain⟨ts,ht2,X5⟩:=ND.top
    have J8:=ND.len
    have Vr:((u++[e]).reverse.map V.ref).length=W.length+1:=by simp[J8]
    generalize hH2:de H1 p (.tup [.int i,y])=H2 at *
    have hb1:decide ((1:Int)<(((u++[e]).reverse.map V.ref).length:Int))=decide (W≠[]):=by
     rw[Vr];cases W<;>simp;omega
    have Yn:decide ((0:Int)<(ts.length:Int))=decide (¬(L0=[]/\W=[])):=by rw[X5];simp
    have TC:∀(k:aG) (rd:List D) (D':Ends) (σ':St),L[i]=.tup (.str k::rd)->iJ rd 179=Z'->(if k=qi then decide (W≠[]) || !decide (¬(L0=[]/\W=[])) else decide (W≠[]))=Z'->σ'[4]?=Y (Y y)->σ'[2]?=Y (Y (.ref R))->σ'[1]?=Y (Y (.ref e)) ->
      (∀G3 H3,gv G1 H2 G3 H3->D'.nx σ' H3) ->
      UJ (UH (tB (Qi (gO K mX) [] E0 (Ae (jf 4) (Ae (Qf (Kc λi j=>V.bl (decide (j<i))) (UO (λxs H Q=>∃p ys,xs=[.ref p]/\(lR K H p ys\/vi K H p ys)/\Q (.int ys.length) H) (Ae (jf 2) Kt)) (tC (.int 1)))
       (Ae (Qf (Kc λi j=>V.bl (decide (j<i))) (UO (λxs H Q=>∃p ys,xs=[.ref p]/\(lR K H p ys\/vi K H p ys)/\Q (.int ys.length) H) (Ae (jf 1) Kt)) (tC (.int 0))) Kt)))))) Ku Qg D' σ' H2:=by
     intro k rd D' σ' ek f' hc e4 e2 e1 kk
     refine⟨_,e4,_,e2,R,_,rfl,.inl (.of Sy),_,_,rfl,rfl,_,e1,e,_,rfl,.inl (.of ht2),_,_,rfl,rfl,?_⟩
     refine⟨G1,[L[i],.bl (decide ((1:Int)<(((u++[e]).reverse.map V.ref).length:Int))),.bl (decide ((0:Int)<(ts.length:Int)))],.bl Z',E2.gh,.cons (cK.mono E2.gg _ ry) (.cons (cn.mpr rfl) (.cons (cn.mpr rfl) .nil)),?_,λv' G3 H3 O r3=>⟨Z',cn.mp r3,DY (kk G3 H3 O)⟩⟩
     rw[ek,Pz _ _ _ _ f',hb1,Yn,hc]
    have RV:=(cA.mp nd).2
    have nR:=(cA.mp nd).1
    rcases CU es with⟨x,ek,Md,rfl⟩|⟨x,ek,Sq,rfl⟩|⟨nm,B1,r',ek,Sq,rfl⟩
    ·
     have Md:¬(W=[]/\L0≠[]):=Md
     rw[ek]at ry
     obtain⟨b,ws,rfl,gb,C⟩:=eE.mp ry
     obtain⟨w1,q1,rfl,UY,C⟩:=bJ.mp C
     obtain⟨w2,q2,rfl,Xz,C⟩:=bJ.mp C
     have:=dD.mp C;subst this
     have:=dn.mp UY;subst this
     have:=dn.mp Xz;subst this
     refine TC qi [.str x] _ _ ek rfl (by
      rw[if_pos rfl]
      by_cases h1:W=[]
      ·by_cases h2:L0=[]
       ·simp[h1,h2]
       ·exact absurd ⟨h1,h2⟩ Md
      ·simp[h1]) rfl rfl rfl λG3 H3 O =>?_
     have g:=E2.trans O
     have QI:=ND.ext O
     have J:=O.hh _ _ Sy
     have QJ:vi K H3 b [.str qi,.str x]:=(gb.mono g.gg).sq g.gh
     refine⟨_,rfl,b,_,_,_,rfl,rfl,QJ,eT (j:=0) rfl,rfl,_,rfl,?_⟩
     refine L7 (λ_ =>?_) (λhn=>absurd (decide_eq_true rfl) hn)
     refine⟨fD _,λT Ui =>?_⟩
     have E4:=gv.lay (o :=.lst []) O.gh Ui
     have WU:=QI.ext E4
     obtain⟨vs,B,X⟩:=WU.inner
     rw[bx]at B
     have Yr:=E4.hh _ _ J
     have hb4:vi K _ b [.str qi,.str x]:=(gb.mono (g.gg.trans E4.gg)).sq E4.gh
     have np1:de H3 T (.lst []) T=Y (.lst []):=bh
     generalize hH4:de H3 T (.lst [])=H4 at *
     refine⟨_,rfl,_,rfl,R,_,-1,_,rfl,rfl,.of Yr,DW u e,.inl ⟨rfl,_,.of B⟩,_,rfl,b,_,_,_,rfl,rfl,hb4,eT (j:=1) rfl,_,rfl,(by show 2<=a9;omega),λt ht =>?_⟩
     have E5:=gv.lay (o :=.tup [.str x,.ref T]) E4.gh ht
     have hp5:=WU.ext E5
     have hR5:=E5.hh _ _ Yr
     have VH:=E5.hh _ _ B
     have np5:=E5.hh _ _ np1
     have nt5:de H4 t (.tup [.str x,.ref T]) t=Y (.tup [.str x,.ref T]):=bh
     generalize hH5:de H4 t (.tup [.str x,.ref T])=H5 at *
     have hvl:vs.length<=i:=by rw[<- X.length];exact zl.inner
     refine⟨_,vs,_,rfl,rfl,VH,ž,?_⟩
     have npc:T≠u.headD e:=λz=>by
      obtain⟨vs3,Ym,_⟩:=QI.inner
      rw[<- z]at Ym;rw[Ui]at Ym;cases Ym
     have X8:∀a∈R::(u++[e]),a≠T:=λa n z=>by
      subst z
      rcases au.mp n with rfl|n
      ·rw[Ui]at J;cases J
      ·obtain⟨o,z⟩:=QI.Sg a n
       rw[Ui]at z;cases z
     have Yl:u.headD e≠R:=λz=>nR (by rw[<- z];cases u<;>simp)
     have Yq:de H5 (u.headD e) (.lst (vs++[.ref t])) R=Y (.lst ((u++[e]).reverse.map V.ref)):=by rw[aS Yl.symm];exact hR5
     have hlR:((u++[e]).reverse.map V.ref).length<a9:=by have:=zl.st;simp at this;rw[Vr];omega
     refine⟨_,rfl,.inl ⟨rfl,_,.of Yq⟩,_,rfl,R,_,_,rfl,rfl,Yq,hlR,?_⟩
     have Xd:gv G0 H G3 H5:=g.trans (E4.trans E5)
     have Xm:t≠u.headD e:=λz=>by rw[<- z]at B;rw[ht]at B;cases B
     have tR:t≠R:=λz=>by rw[z]at ht;rw[Yr]at ht;cases ht
     have h0t:H t=none:=(g.hh.trans E4.hh).free ht
     have h0p:H T=none:=g.hh.free Ui
     have g3p:G3 T=none:=O.gh.free Ui
     have g3t:G3 t=none:=E4.gh.free ht
     have N:∀a∈R::(u++[e]),G3 a=M/\H a=none:=λa n=>by
      refine⟨?_,(fr a n).2⟩
      rcases au.mp n with rfl|QK
      ·exact O.nil Sy (fr _ n).1
      ·obtain⟨o,z⟩:=ND.Sg a QK
       exact O.nil z (fr _ n).1
     have ps:=hp5.set (b:=L2.inner W L0) (c:=vs) (a:=[.ref t]) X RV
     have zH:sL W L0 (L2.inner W L0)=(W,L0):=by cases W with
      |nil=>rfl|cons c W=>obtain⟨a,b⟩:=c;rfl
     rw[zH]at ps
     have pu:=iA.upd (a:=R) (o:=(u++[e]).reverse.map V.ref++[.ref T]) Yq (λz=>nR (aJ _ z)) (λz=>nR (by rw[z];simp)) ps
     have XR:T∉R::(u++[e]):=λz=>X8 _ z rfl
     have np6:de (de H5 (u.headD e) (.lst (vs++[.ref t]))) R (.lst ((u++[e]).reverse.map V.ref++[.ref T])) T=Y (.lst []):=by
      rw[aS (λz=>XR (by rw[z];exact aF)),aS npc];exact np5
     refine⟨G3,(x,[])::W,T::u,L0,_,_,_,rfl,⟨λb' o z =>?_,Xd.gg,λb' o z =>?_,Xd.fr⟩,⟨T,u,t,rfl,⟨[],np6,.nil⟩,?_,g3t,h0t,pu⟩,?_,λa n =>?_,?_,Xf,I⟩
     ·have n1:b'≠R:=λU=>by rw[U,(fr R aF).2]at z;cases z
      have n2:b'≠u.headD e:=λU=>by rw[U,(fr _ (aj _ (rj u e))).2]at z;cases z
      rw[aS n1,aS n2];exact Xd.hh _ _ z
     ·have n1:b'≠R:=λU=>by rw[U,(N R aF).1]at z;cases z
      have n2:b'≠u.headD e:=λU=>by rw[U,(N _ (aj _ (rj u e))).1]at z;cases z
      rw[aS n1,aS n2];exact Xd.gh _ _ z
     ·rw[aS tR,aS Xm];exact nt5
     ·show (R::T::(u++[e])).Nodup
      refine cA.mpr ⟨λz =>?_,cA.mpr ⟨λz=>XR (aj _ z),RV⟩⟩
      rcases au.mp z with z|z
      ·exact XR (by rw[z];exact aF)
      ·exact nR z
     ·rcases au.mp n with rfl|n
      ·exact N _ aF
      ·rcases au.mp n with rfl|n
       ·exact⟨g3p,h0p⟩
       ·exact N a (aj _ n)
     ·rw[bh];simp
    ·
     have Sq:W≠[]:=Sq
     rw[ek]at ry
     obtain⟨b,ws,rfl,gb,C⟩:=eE.mp ry
     obtain⟨w1,q1,rfl,UY,C⟩:=bJ.mp C
     obtain⟨w2,q2,rfl,Xz,C⟩:=bJ.mp C
     have:=dD.mp C;subst this
     have:=dn.mp UY;subst this
     have:=dn.mp Xz;subst this
     refine TC xT [.str x] _ _ ek rfl (by rw[if_neg (λz=>Y_ z.symm)];simp[Sq]) rfl rfl rfl λG3 H3 O =>?_
     have g:=E2.trans O
     have QI:=ND.ext O
     have J:=O.hh _ _ Sy
     have QJ:vi K H3 b [.str xT,.str x]:=(gb.mono g.gg).sq g.gh
     refine⟨_,rfl,b,_,_,_,rfl,rfl,QJ,eT (j:=0) rfl,rfl,_,rfl,?_⟩
     refine L7 (λhn=>absurd (V.str.inj (of_decide_eq_true hn)) (λz=>Y_ z.symm)) (λ_ =>?_)
     refine⟨_,rfl,b,_,_,_,rfl,rfl,QJ,eT (j:=0) rfl,rfl,_,rfl,?_⟩
     refine L7 (λ_ =>?_) (λhn=>absurd (decide_eq_true rfl) hn)
     obtain⟨vs,B,X⟩:=QI.inner
     rw[bx]at B
     have hvl:vs.length<=i:=by rw[<- X.length];exact zl.inner
     refine⟨_,rfl,_,rfl,R,_,-1,_,rfl,rfl,.of J,DW u e,.inl ⟨rfl,_,.of B⟩,_,rfl,b,_,_,_,rfl,rfl,QJ,eT (j:=1) rfl,_,vs,_,rfl,rfl,B,ž,?_⟩
     have N:∀a∈R::(u++[e]),G3 a=M/\H a=none:=λa n=>by
      refine⟨?_,(fr a n).2⟩
      rcases au.mp n with rfl|QK
      ·exact O.nil Sy (fr _ n).1
      ·obtain⟨o,z⟩:=ND.Sg a QK
       exact O.nil z (fr _ n).1
     have Yl:u.headD e≠R:=λz=>nR (by rw[<- z];exact rj u e)
     have ps:=QI.set (b:=L2.inner W L0++[.str x]) (c:=vs++[.str x]) (a:=[]) (X.append (.cons (dn.mpr rfl) .nil)) RV
     rw[bx]at ps
     refine⟨G3,_,u,_,_,_,_,rfl,⟨λb' o z =>?_,g.gg,λb' o z =>?_,g.fr⟩,ps,nd,N,?_,Xf,I⟩
     ·have n2:b'≠u.headD e:=λU=>by rw[U,(fr _ (aj _ (rj u e))).2]at z;cases z
      rw[aS n2];exact g.hh _ _ z
     ·have n2:b'≠u.headD e:=λU=>by rw[U,(N _ (aj _ (rj u e))).1]at z;cases z
      rw[aS n2];exact g.gh _ _ z
     ·rw[aS Yl.symm];exact J
    ·
     have Sq:W=(nm,B1)::r':=Sq
     subst Sq
     rw[ek]at ry
     obtain⟨b,ws,rfl,gb,C⟩:=eE.mp ry
     obtain⟨w1,q1,rfl,UY,C⟩:=bJ.mp C
     have:=dD.mp C;subst this
     have:=dn.mp UY;subst this
     refine TC qI [] _ _ ek rfl (by rw[if_neg (λz=>Y' z.symm)];simp) rfl rfl rfl λG3 H3 O =>?_
     have g:=E2.trans O
     have QI:=ND.ext O
     have J:=O.hh _ _ Sy
     have QJ:vi K H3 b [.str qI]:=(gb.mono g.gg).sq g.gh
     refine⟨_,rfl,b,_,_,_,rfl,rfl,QJ,eT (j:=0) rfl,rfl,_,rfl,?_⟩
     refine L7 (λhn=>absurd (V.str.inj (of_decide_eq_true hn)) (λz=>Y' z.symm)) (λ_ =>?_)
     refine⟨_,rfl,b,_,_,_,rfl,rfl,QJ,eT (j:=0) rfl,rfl,_,rfl,?_⟩
     refine L7 (λhn=>absurd (V.str.inj (of_decide_eq_true hn)) (λz=>sTC z.symm)) (λ_ =>?_)
     have N:∀a∈R::(u++[e]),G3 a=M/\H a=none:=λa n=>by
      refine⟨?_,(fr a n).2⟩
      rcases au.mp n with rfl|QK
      ·exact O.nil Sy (fr _ n).1
      ·obtain⟨o,z⟩:=ND.Sg a QK
       exact O.nil z (fr _ n).1
     obtain⟨l,lr,G4,rfl,s1,s2,f2,g4,g4',WU⟩:=QI.close g.gh RV (λa n=>N a (aj _ n))
     have eR:(l::lr++[e]).reverse.map V.ref=(lr++[e]).reverse.map V.ref++[.ref l]:=by simp
     rw[eR]at J
     refine⟨_,rfl,.inl ⟨rfl,_,.of J⟩,R,_,.ref l,rfl,rfl,J,Ž,?_⟩
     rw[List.dropLast_concat]
     have ZU:G4 R=none:=g4' R _ J (λz=>nR (aJ _ z)) (N R aF).1
     have XT:R∉lr++[e]:=λz=>nR (aj _ z)
     refine⟨G4,_,lr,_,_,_,_,rfl,⟨λb' o z =>?_,g.gg.trans s1,λb' o z =>?_,λb' o z =>?_⟩,iA.upd (a:=R) J (λz=>XT (aJ _ z)) (λz=>XT (by rw[z];simp)) WU,cA.mpr ⟨XT,(cA.mp RV).2⟩,λa n =>?_,bh,Xf,I⟩
     ·have n1:b'≠R:=λU=>by rw[U,(fr R aF).2]at z;cases z
      rw[aS n1];exact g.hh _ _ z
     ·have n1:b'≠R:=λU=>by rw[U,ZU]at z;cases z
      rw[aS n1];exact s2 _ _ z
     ·rcases f2 b' o z with z|z
      ·exact g.fr b' o z
      ·exact .inr z
     ·rcases au.mp n with rfl|n
      ·exact⟨ZU,(fr _ aF).2⟩
      ·exact⟨g4 a n,(fr a (aj _ (aj _ n))).2⟩
  ·
   have ei:i=L.length:=by omega
   subst ei
   rw[nc]at I
   cases I
   refine .inl ⟨⟨us,WJ E1,by rw[ru.length];exact aw _⟩,?_⟩
   obtain⟨G2,vs,s1,s2,f2,hl,rl⟩:=iA.Ek _ rfl E1.gh (cA.mp nd).2 (λa n=>fr a (aj _ n)) hp
   obtain⟨v,ev,rv⟩:=rl.get ed
   refine⟨_,rfl,e,vs,0,v,rfl,rfl,.of hl,eT (j:=0) ev,q v G2 H1 ⟨E1.hh,E1.gg.trans s1,s2,λb o z =>?_⟩ rv⟩
   rcases f2 b o z with z|z
   ·exact E1.fr b o z
   ·exact .inr z
def il:DG:=
  (bp (eM 1 (Mw (eV 0) pN (pS (Ge (eV 0) (eK (.tup (gF.map D.str)))))))
  (bp (eM 2 (e2 ku (a_ ik (aC (eF (mY (NC (eV 1)) [M] (gN 0) (cT (e2 gj (e2 b9 (eV 0) f8) lc)) (eV 0))) aN)) v6))
  (fF (dN (aC (a_ nN (aC (eF (mY (NC (eV 0)) [M] (gN 0) (cT (e2 Dq (eV 0) (eK (.tup (gF.map D.str))))) (eV 0))) aN)) (aC (eV 2) aN))))))
def fg:List D->Option D:=jg 1 3 il
abbrev fO:eJ:=pa 28
abbrev j9:List aG:=["signs", "ahead", "number"]
def jw:bM j9 ["signs"] (aM fO):=⟨rfl,rfl,rfl,by decide +kernel,rfl,by decide +kernel,by decide +kernel⟩
def ja:DG:=
  (ie (ua (rV (e2 mQ (eV 2) v6)))
   (fF (a_ fg (aC (eV 3) aN)))
   dG)
def rK:DG:=
  (bp (iX (j6 (a_ o8 (aC (n9 "Judge" d5 (aC (eV 1) aN)) (aC (eV 0) aN)))) (AZ 2 3)
  ja)
  (fF wf))
def ff:List D->Option D:=jg 2 4 rK
abbrev sG:eJ:=pa 27
abbrev JZ:List aG:=["one", "other", "facts", "signs"]
def sM:bM JZ ["one", "other"] (aM sG):=⟨rfl,rfl,rfl,by decide +kernel,rfl,by decide +kernel,by decide +kernel⟩
section
variable {P:be}{w:dz}{K:aT}{a:aG->Option ai}{b:dC}{f:az}{c:fy}
def rY(F:kh K "paper_and_number" "paper_and_number" fO f c)(h:KS K a)(d:PR K a "MARK" gF)(e:hW P w K a b "stump" 3 (gO K nN)):dg P w K a b jA 4 f c ["signs"] (gO K fg):=
 F.xh (Z:=[]) (Ź:=[]) (g:=il) jw ſ λj A outer s H E g B k=>
  (ar (cO (i:=1) jw.nd rfl (.inl rfl) (S8 (vQ 0) jP (jO (dq (Ta g (vP 0) (yR d rfl))))))
  (ar (cO (i:=2) jw.nd rfl (.inl rfl) (bI qL (dq (lO rfl h.y (dq (df (qV (Ź:=[]) (N:=[("sign" : aG)]) (src:=[M]) (iM (outer:=aM fO) (oN:=j9) rfl (by decide +kernel) rfl rfl) rfl (QQ (vP 1)) (fX 0) ſ (gH 0) (λC s H i=>⟨bw (i:=0) (show ([("sign" : aG)]:List aG).Nodup by decide +kernel) rfl (.inl rfl),(Cj (cb (fZ g) (dq (bQ (vQ 0) (dq av))) (dq cF) (bX _))),(vP 0)⟩)))))) (dq av)))
  (aI (cW (dI (ao (cg e g rfl (ao (df (qV (Ź:=[]) (N:=[("sign" : aG)]) (src:=[M]) (iM (outer:=aM fO) (oN:=j9) rfl (by decide +kernel) rfl rfl) rfl (QQ (vP 0)) (fX 0) ſ (gH 0) (λC s H i=>⟨bw (i:=0) (show ([("sign" : aG)]:List aG).Nodup by decide +kernel) rfl (.inl rfl),(Cj (cb (Li g) (vQ 0) (dq (yR d rfl)) (bX _))),(vP 0)⟩))) aQ)) (ao (vP 2) aQ)))))))
def FE(F:kh K "parting" "parting" sG f c)(g:zR P w K a b "Judge" 80 (spT K mG d5))(e:hW P w K a b "models" 81 (gO K o8))(d:hW P w K a b "paper_and_number" 81 (gO K fg)):dg P w K a b jA 82 f c ["one", "other"] (gO K ff):=
 F.xh (Z:=[]) (Ź:=[]) (g:=rK) sM ſ λk A h s H E i B j=>
  (ar (fW bB rfl (oU (cg e i rfl (ao (Tb (HX (fk:=qU) g i rfl (ao (vP 1) aQ))) (ao (vP 0) aQ)))) (λB j=>(tH (lM rfl (cJ (bw (i:=2) sM.nd rfl (.inl rfl)) (cJ (bw (i:=3) sM.nd rfl (.inl rfl)) jT))))) (λB j=>
  (aI (dM (My (uS (dq (bI uw (vQ 2) (dq av)))))
   (aI (cW (cg d i rfl (ao (vP 3) aQ))))
   b8))))
  (aI (cW pQ)))
end
def uM:DG:=
  (bp (eM 2 (eF (kR o9 (aC (eV 0) aN))))
  (bp (ie (cT (e2 gj (eV 2) (eF bd)))
  (fF (eV 0))
  dG)
  (fF (e2 b9 (eV 2) (e2 gf (eV 1) (a_ ik (aC (eV 2) aN)))))))
def q_:List D->Option D:=jg 2 3 uM
abbrev vB:eJ:=pa 40
abbrev Nd:List aG:=["_law_steps", "_law_number", "_law_some"]
def Ao:bM Nd ["_law_steps", "_law_number"] (aM vB):=⟨rfl,rfl,rfl,by decide +kernel,rfl,by decide +kernel,by decide +kernel⟩
def Cy:DG:=
  (ie (i6 (cT (e2 Ll (a_ ff (aC (eV 7) (aC (eV 8) aN))) wf)) (i6 (cT (e2 Ll (a_ ff (aC (eV 8) (aC (eV 9) aN))) wf)) (cT (e2 l_ (a_ ff (aC (eV 7) (aC (eV 9) aN))) wf))))
   (fF bn)
   dG)
abbrev Db:=f9 (aC (dN (aC (eV 3) (aC (eV 4) (aC (eV 5) aN)))) (aC (dN (aC (eV 3) (aC (eV 6) (aC (eV 5) aN)))) (aC (dN (aC (eV 6) (aC (eV 3) (aC (eV 4) aN)))) aN)))
abbrev ul:=f9 (aC u8 (aC v6 (aC v6 aN)))
def Mj:DG:=
  (bp (kP 1 (kR rS (aC (eV 0) (aC (eK (.int 200)) (aC (eK (.int 30)) aN)))))
  (bp (gG 2 (pC (λd=>(rR d).map D.lst) (iw (ny mW 1 aN) lG)))
  (bp (gG 3 (nu jQ 1 (eV 2) ul (aC u8 aN)))
  (bp (gG 4 (pC q_ (iw (mP (eV 3)) (iw (ny mW 1 aN) lG))))
  (bp (gG 5 (pC q_ (iw (mP (eV 4)) (iw (ny mW 1 aN) lG))))
  (bp (ie (vq (cT (e2 l_ (a_ ff (aC (eV 3) (aC (eV 3) aN))) wf)) (cT (e2 l_ (a_ ff (aC (eV 5) (aC (eV 5) aN))) wf)))
  (fF bn)
  dG)
  (bp (ie (i6 (cT (e2 gj (a_ qd (aC (eV 3) aN)) f8)) (vq (cT (e2 l_ (a_ ff (aC (eV 3) (aC (eV 4) aN))) wf)) (cT (e2 l_ (a_ ff (aC (eV 4) (aC (eV 5) aN))) wf))))
  (fF bn)
  dG)
  (bp (ie (i6 (cT (e2 gj (e2 fh (a_ qd (aC (eV 3) aN)) (eK (.int 100))) v6)) (i6 (cT (e2 gj (a_ qd (aC (eV 4) aN)) (e2 ku (a_ qd (aC (eV 3) aN)) v6))) (cT (e2 l_ (a_ ff (aC (eV 4) (aC (eV 3) aN))) wf))))
  (fF bn)
  dG)
  (bp (gG 6 (nu jQ 1 (eV 2) ul (aC v6 aN)))
  (bp (iX (iL (eF Db)) (D2 7 8 9)
  Cy)
  (fF (eK (.bl Z')))))))))))))
def zc:List D->Option D:=jg 1 10 Mj
abbrev vz:eJ:=pa 41
abbrev Wd:List aG:=["_law_script", "_law_draws_here", "_law_names_here", "_law_one", "_law_amid", "_law_last", "_law_other", "_law_first", "_law_second", "_law_third"]
def nU:bM Wd ["_law_script"] (aM vz):=⟨rfl,rfl,rfl,by decide +kernel,rfl,by decide +kernel,by decide +kernel⟩
section
variable {P:be}{w:dz}{K:aT}{a:aG->Option ai}{b:dC}{f:az}{c:fy}
def Jn(F:kh K "_law_chosen" "_law_chosen" vB f c)(h:KS K a)(d:hW P w K a b "_law_left_in" 13 (Bt K o9)):dg P w K a b jA 14 f c ["_law_steps", "_law_number"] (gO K q_):=
 F.xh (Z:=[]) (Ź:=[]) (g:=uM) Ao ſ λi A e s H E g B j=>
  (ar (cO (i:=2) Ao.nd rfl (.inl rfl) (df (qW d g rfl (ao (vP 0) aQ))))
  (ar (dM (cb (fZ g) (vQ 2) (dq (df (gc aQ))) (bX _))
  (aI (cW (vP 0)))
  b8)
  (aI (cW (bQ (vQ 2) (dq (bI gR (vQ 1) (dq (lO rfl h.y (vQ 2))))))))))
def RP(F:kh K "law" "law" vz f c)(l:hW P w K a b "_law_draws" 89 (Bt K rS))(k:hW P w K a b "_law_names" 89 (Bt K rR))(j:hW P w K a b "_law_pop" 89 (Qm K 0 mW))(e:hW P w K a b "_law_small_steps" 89 (rW K 0 2 jQ))(i:hW P w K a b "_law_chosen" 89 (gO K q_))(h:hW P w K a b "_law_ones" 89 (gO K qd))(d:hW P w K a b "parting" 89 (gO K ff)):dg P w K a b jA 90 f c ["_law_script"] (gO K zc):=
 F.xh (Z:=[1]) (Ź:=[1]) (g:=Mj) nU ſ λo A m s H E g B n=>
  (ar (pL (i:=1) nU.nd rfl (.inl rfl) (qW l g rfl (ao (vP 0) (ao av (ao av aQ)))))
  (ar (mf (i:=2) nU.nd rfl (.inl rfl) (yM k.toF g rfl (cP (rN j g rfl (pv 1) aQ) gJ)))
  (ar (mf (i:=3) nU.nd rfl (.inl rfl) (A8 e g rfl (pv 1) (vP 2) (gc (ao av (ao av (ao av aQ)))) (ao av aQ)))
  (ar (mf (i:=4) nU.nd rfl (.inl rfl) (yM i g rfl (cP (cX (vP 3)) (cP (rN j g rfl (pv 1) aQ) gJ))))
  (ar (mf (i:=5) nU.nd rfl (.inl rfl) (yM i g rfl (cP (cX (vP 4)) (cP (rN j g rfl (pv 1) aQ) gJ))))
  (ar (dM (PW.pt (HR (cb rG (dq (cg d g rfl (ao (vP 3) (ao (vP 3) aQ)))) (dq pQ) (bX _)) (Ci (cb rG (dq (cg d g rfl (ao (vP 5) (ao (vP 5) aQ)))) (dq pQ) (bX _)))))
  (aI (cW A_))
  b8)
  (ar (dM (PW.pt (pK (cb (fZ g) (dq (cg h g rfl (ao (vP 3) aQ))) (dq av) (bX _)) (pI (PW.pt (HR (cb rG (dq (cg d g rfl (ao (vP 3) (ao (vP 4) aQ)))) (dq pQ) (bX _)) (Ci (cb rG (dq (cg d g rfl (ao (vP 4) (ao (vP 5) aQ)))) (dq pQ) (bX _))))))))
  (aI (cW A_))
  b8)
  (ar (dM (PW.pt (pK (cb (fZ g) (dq (bI kr (dq (cg h g rfl (ao (vP 3) aQ))) (dq av))) (dq av) (bX _)) (pK (cb (fZ g) (dq (cg h g rfl (ao (vP 4) aQ))) (dq (bI qL (dq (cg h g rfl (ao (vP 3) aQ))) (dq av))) (bX _)) (pI (cb rG (dq (cg d g rfl (ao (vP 4) (ao (vP 3) aQ)))) (dq pQ) (bX _))))))
  (aI (cW A_))
  b8)
  (ar (mf (i:=6) nU.nd rfl (.inl rfl) (A8 e g rfl (pv 1) (vP 2) (gc (ao av (ao av (ao av aQ)))) (ao av aQ)))
  (ar (fW bB rfl (fm (df (gc (ao (dI (ao (vP 3) (ao (vP 4) (ao (vP 5) aQ)))) (ao (dI (ao (vP 3) (ao (vP 6) (ao (vP 5) aQ)))) (ao (dI (ao (vP 6) (ao (vP 3) (ao (vP 4) aQ)))) aQ)))))) (λB n=>(uV (lM rfl (cJ (bw (i:=7) nU.nd rfl (.inl rfl)) (cJ (bw (i:=8) nU.nd rfl (.inl rfl)) (cJ (bw (i:=9) nU.nd rfl (.inl rfl)) jT)))))) (λB n=>
  (aI (dM (PW.pt (pK (cb Lj (dq (cg d g rfl (ao (vP 7) (ao (vP 8) aQ)))) (dq pQ) (bX _)) (pK (cb Lj (dq (cg d g rfl (ao (vP 8) (ao (vP 9) aQ)))) (dq pQ) (bX _)) (pI (cb rG (dq (cg d g rfl (ao (vP 7) (ao (vP 9) aQ)))) (dq pQ) (bX _))))))
   (aI (cW A_))
   b8))))
  (aI (cW A_))))))))))))
end
end K21
namespace K30
open PySem L2
set_option genSizeOfSpec true
mutual
inductive Ak where
 |mk (acw:Nat) (cs:Cs)
inductive Cs where
 |nil
 |cons (c:As) (r:Cs)
inductive As where
 |nil
 |cons (x:Ak) (r:As)
end
def Sb(a b:Nat):Prop:=∀i,a.testBit i=Z'->b.testBit i=Z'
def Sb.refl(a:Nat):Sb a a:=λ_ h=>h
def Sb.trans{a b c:Nat}(h:Sb a b)(g:Sb b c):Sb a c:=λi e=>g i (h i e)
def Sb.or(h:Sb a c)(g:Sb b c):Sb (a ||| b) c:=λi e=>by
 rw[f_,dP]at e;exact e.elim (h i) (g i)
def Sb.inl(a b:Nat):Sb a (a ||| b):=λi e=>by rw[f_,e];rfl
def Sb.inr(a b:Nat):Sb b (a ||| b):=λi e=>by rw[f_,e];simp
def Sb.zero(a:Nat):Sb 0 a:=λi e=>by simp at e
mutual
def se(a:Nat):Ak->Prop
 |.mk n b=>Sb n a/\qc a b
def qc(a:Nat):Cs->Prop
 |.nil=>True|.cons c r=>wO a c/\qc a r
def wO(a:Nat):As->Prop
 |.nil=>False|.cons x r=>se a x\/wO a r
end
mutual
def CJ(i:Nat):Ak->Prop
 |.mk n a=>n.testBit i=Z'\/J3 i a
def J3(i:Nat):Cs->Prop
 |.nil=>False|.cons c r=>Ur i c\/J3 i r
def Ur(i:Nat):As->Prop
 |.nil=>False|.cons x r=>CJ i x\/Ur i r
end
mutual
theorem se.mono{a b:Nat}:∀(k:Ak),(∀i,CJ i k->a.testBit i=Z'->b.testBit i=Z')->se a k->se b k
 |.mk n c,g,h=>⟨λi e=>g i (.inl e) (h.1 i e),qc.mono c (λi e=>g i (.inr e)) h.2⟩
theorem qc.mono{a b:Nat}:∀(k:Cs),(∀i,J3 i k->a.testBit i=Z'->b.testBit i=Z')->qc a k->qc b k
 |.nil,_,_=>trivial|.cons c r,g,h=>⟨wO.mono c (λi e=>g i (.inl e)) h.1,qc.mono r (λi e=>g i (.inr e)) h.2⟩
theorem wO.mono{a b:Nat}:∀(k:As),(∀i,Ur i k->a.testBit i=Z'->b.testBit i=Z')->wO a k->wO b k
 |.nil,_,h=>h.elim|.cons x r,g,h=>h.imp (se.mono x λi e=>g i (.inl e)) (wO.mono r λi e=>g i (.inr e))
end
def se.sb(h:se a k)(s:Sb a b):se b k:=se.mono k (λi _=>s i) h
structure Fa where
 inner:Nat
 star:Nat
 named:aG->Nat
 text:aG->Nat
 mark:Nat
 bF:List (Nat×Ak)
 fresh:aG
 long:Nat
open Classical in
def lift(F:Fa)(b a:Nat):Nat:=F.bF.foldl (λu l=>if b.testBit l.1=Z'/\se a l.2 then u ||| 2 ^ l.1 else u) (a &&& F.inner)
open Classical in
theorem D7(c a i:Nat):∀(L:List (Nat×Ak)) (u:Nat),(L.foldl (λu l=>if c.testBit l.1=Z'/\se a l.2 then u ||| 2 ^ l.1 else u) u).testBit i=Z'↔u.testBit i=Z'\/∃l∈L,l.1=i/\c.testBit i=Z'/\se a l.2
 |[],u=>by simp
 | l::L,u=>by
  rw[pd,D7 c a i L];by_cases h:c.testBit l.1=Z'/\se a l.2
  ·rw[if_pos h,f_,dP,c_,decide_eq_true_eq];constructor
   ·rintro((z|z)|⟨m,b,r⟩)
    ·exact .inl z
    ·subst z;exact .inr ⟨l,Ž,rfl,h⟩
    ·exact .inr ⟨m,by simp[b],r⟩
   ·rintro(z|⟨m,b,e,r⟩)
    ·exact .inl (.inl z)
    ·rcases au.mp b with rfl|b
     ·exact .inl (.inr e)
     ·exact .inr ⟨m,b,e,r⟩
  ·rw[if_neg h];constructor
   ·rintro(z|⟨m,b,r⟩)
    ·exact .inl z
    ·exact .inr ⟨m,by simp[b],r⟩
   ·rintro(z|⟨m,b,e,r⟩)
    ·exact .inl z
    ·rcases au.mp b with rfl|b
     ·subst e;exact absurd r h
     ·exact .inr ⟨m,b,e,r⟩
def kz{F:Fa}{b a:Nat}:(lift F b a).testBit i=Z'↔(a.testBit i=Z'/\F.inner.testBit i=Z')\/∃l∈F.bF,l.1=i/\b.testBit i=Z'/\se a l.2:=by
 unfold lift;rw[D7,jB,aO]
def vR{F:Fa}(h:Sb c b)(g:Sb a d):Sb (lift F c a) (lift F b d):=λi e=>by
 rw[kz]at e ⊢;rcases e with⟨x,y⟩|⟨l,f,x,y,z⟩
 ·exact .inl ⟨g i x,y⟩
 ·exact .inr ⟨l,f,x,h i y,z.sb g⟩
inductive Tr where
 |txt (t:aG)
 |mk
 |nd (n:aG) (f:List Tr)
mutual
def tA(F:Fa):Tr->Nat
 |.txt t=>F.text t|.mk=>F.mark|.nd n f=>lift F (F.named n) (fA F f)
def fA(F:Fa):List Tr->Nat
 |[]=>0|t::f=>tA F t ||| fA F f
end
theorem yC{F:Fa}{t:Tr}:∀ {f:List Tr},t∈f->Sb (tA F t) (fA F f)
 | s::f,h=>by
  rw[fA];rcases au.mp h with rfl|h
  ·exact .inl _ _
  ·exact(yC h).trans (.inr _ _)
def yD{F:Fa}(f g:List Tr):fA F (f++g)=fA F f ||| fA F g:=by
 induction f with|nil=>simp[fA]|cons t f ih=>rw[fS,fA,fA,ih,Nat.or_assoc]
theorem Cg{F:Fa}:∀ {f:List Tr},(fA F f).testBit i=Z'↔∃t∈f,(tA F t).testBit i=Z'
 |[]=>by simp[fA]
 |s::f=>by rw[fA,f_,dP,Cg];simp
mutual
inductive Wi where
 |any
 |txt (t:aG)
 |has (s:Ss)
 |both (w:Ws)
 |one (w:Ws)
inductive Ws where
 |nil
 |cons (w:Wi) (r:Ws)
inductive Ss where
 |nil
 |cons (zH:Bool) (nm:Option aG) (w:Wi) (r:Ss)
end
def sW:Option aG->aG->Prop
 |none,_=>True|some a,b=>a=b
inductive PZ:Bool->aG->List Tr->List Tr->Prop
 |Z {b:Bool}{n:aG}{g f:List Tr}:Tr.nd n g∈f->PZ b n g f
 |zH {n m:aG}{g h f:List Tr}:Tr.nd m h∈f->PZ true n g h->PZ true n g f
mutual
def lS:Wi->List Tr->Prop
 |.any,_=>True|.txt t,f=>Tr.txt t∈f|.has s,f=>kg (λ_=>True) s f
 |.both w,f=>lX w f|.one w,f=>oZ w f
def lX:Ws->List Tr->Prop
 |.nil,_=>True|.cons w r,f=>lS w f/\lX r f
def oZ:Ws->List Tr->Prop
 |.nil,_=>False|.cons w r,f=>lS w f\/oZ r f
def kg(E:List Tr->Prop):Ss->List Tr->Prop
 |.nil,f=>E f|.cons b a w r,f=>∃n g,PZ b n g f/\sW a n/\lS w g/\kg E r g
end
abbrev Mk(f:List Tr):Prop:=Tr.mk∈f
def PZ.mono{f:List Tr}(h:PZ b n g f)(s:∀t∈f,t∈a):PZ b n g a:=by
 cases h with|Z m=>exact .Z (s _ m)|zH m k=>exact .zH (s _ m) k
mutual
theorem lS.mono:∀(w:Wi){f a:List Tr},(∀t∈f,t∈a)->lS w f->lS w a
 |.any,_,_,_,_=>trivial|.txt t,_,_,s,h=>s _ h|.has r,_,_,s,h=>kg.mono r (λ_ _ _ h=>h) s h
 |.both w,_,_,s,h=>lX.mono w s h|.one w,_,_,s,h=>oZ.mono w s h
theorem lX.mono:∀(w:Ws){f a:List Tr},(∀t∈f,t∈a)->lX w f->lX w a
 |.nil,_,_,_,_=>trivial|.cons w r,_,_,s,h=>⟨lS.mono w s h.1,lX.mono r s h.2⟩
theorem oZ.mono:∀(w:Ws){f a:List Tr},(∀t∈f,t∈a)->oZ w f->oZ w a
 |.nil,_,_,_,h=>h.elim|.cons w r,_,_,s,h=>h.imp (lS.mono w s) (oZ.mono r s)
theorem kg.mono:∀(r:Ss){f a:List Tr},(∀f a:List Tr,(∀t∈f,t∈a)->E f->E a)->(∀t∈f,t∈a)->kg E r f->kg E r a
 |.nil,f,a,e,s,h=>e f a s h|.cons b c w r,_,_,e,s,⟨n,g,k,l⟩=>⟨n,g,k.mono s,l⟩
end
def lT(F:Fa):Nat->Tr->Tr
 |0,t=>t|k+1,t =>.nd F.fresh [lT F k t]
def dt(F:Fa):Option aG->aG
 |none=>F.fresh|some n=>n
mutual
def MW(F:Fa):Wi->List Tr->Prop
 |.any,f=>f=[]|.txt t,f=>f=[.txt t]|.has s,f=>MS F [] s f|.both w,f=>MA F w f|.one w,f=>ME F w f
def MA(F:Fa):Ws->List Tr->Prop
 |.nil,f=>f=[]|.cons w r,f=>∃g h,MW F w g/\MA F r h/\f=g++h
def ME(F:Fa):Ws->List Tr->Prop
 |.nil,_=>False|.cons w r,f=>MW F w f\/ME F r f
def MS(F:Fa)(g0:List Tr):Ss->List Tr->Prop
 |.nil,f=>f=g0|.cons b a w r,f=>∃g h k,MS F g0 r g/\MW F w h/\k<=(if b=Z' then F.long else 0)/\f=[lT F k (.nd (dt F a) (g++h))]
end
theorem CW{F:Fa}:∀k,PZ Z' n g [lT F k (.nd n g)]
 |0 =>.Z (by simp[lT])
 |k+1 =>.zH (m:=F.fresh) (h:=[lT F k (.nd n g)]) (by simp[lT]) (CW k)
mutual
theorem MW.hold{F:Fa}:∀(w:Wi){f:List Tr},MW F w f->lS w f
 |.any,_,_=>trivial|.txt t,f,h=>by have h:f=[.txt t]:=h;subst h;simp[lS]
 |.has s,_,h=>MS.lead s (λ_ _ _ _=>trivial) (λ_=>trivial) h
 |.both w,_,h=>MA.hold w h|.one w,_,h=>ME.hold w h
theorem MA.hold{F:Fa}:∀(w:Ws){f:List Tr},MA F w f->lX w f
 |.nil,_,_=>trivial|.cons w r,f,⟨g,h,a,b,e⟩=>by subst e;exact⟨lS.mono w (by simp +contextual) (MW.hold w a),lX.mono r (by simp +contextual) (MA.hold r b)⟩
theorem ME.hold{F:Fa}:∀(w:Ws){f:List Tr},ME F w f->oZ w f
 |.nil,_,h=>h.elim|.cons w r,_,h=>h.imp (MW.hold w) (ME.hold r)
theorem MS.lead{F:Fa}:∀(r:Ss){f:List Tr},(∀f j:List Tr,(∀t∈f,t∈j)->E f->E j)->(True->E d)->MS F d r f->kg E r f
 |.nil,f,_,e,h=>by have h:f=d:=h;subst h;exact e trivial
 | .cons b i w r,f,m,e,⟨g,h,k,a,c,l,q⟩=>by
  subst q;refine⟨dt F i,g++h,?_,?_,lS.mono w (by simp +contextual) (MW.hold w c),kg.mono r m (by simp +contextual) (MS.lead r m e a)⟩
  ·cases b with
   |true=>exact CW k|false=>
    have z:k=0:=by simpa using l
    subst z;exact .Z (by simp[lT])
  ·cases i<;>simp[sW,dt]
end
set_option genSizeOfSpec false
end K30
namespace K30
open PySem L2
structure wQ(F:Fa):Prop where
 star:∀n,Sb F.star (F.named n)
 fresh:F.named F.fresh=F.star
 ord:∀l∈F.bF,∀i,CJ i l.2->l.1<i\/(F.inner.testBit i=false/\∀m∈F.bF,m.1≠i)
 cnt:∃(c:Nat->Nat) (N:Nat),(∀b,c (b+1)<=c b)/\(∀b,F.star.testBit b=true->c (b+1)+1<=c b)/\c 0+1<=F.long/\∀l∈F.bF,l.1<N
def Nj(F:Fa)(x:Nat):Nat->Nat
 |0=>x|k+1=>lift F F.star (Nj F x k)
theorem Kk{F:Fa}{nm a:Nat}:∀k,∃n b,Nj F (lift F nm a) k=lift F n b
 |0=>⟨nm,a,rfl⟩|k+1=>⟨_,_,rfl⟩
theorem V7{c:Nat->Nat}(h:∀b,c (b+1)<=c b):∀ {i j},i<=j->c j<=c i
 | i,j,e=>by
  induction e with|refl=>exact aw _|step _ ih=>exact a7 (h _) ih
theorem Va{F:Fa}(o:wQ F){c:Nat->Nat}{N:Nat}(t:∀b,c (b+1)<=c b)(s:∀b,F.star.testBit b=Z'->c (b+1)+1<=c b)(r:∀l∈F.bF,l.1<N)(nm a:Nat):
  ∀m b,N<=b+m->∀k,c b+1<=k->(Nj F (lift F nm a) k).testBit b=Z'->(Nj F (lift F nm a) (k+1)).testBit b=Z'
 | m,b,E,k,D,e=>by
  by_cases f:F.inner.testBit b=Z'
  ·show (lift F F.star _).testBit b=Z';rw[kz];exact .inl ⟨e,f⟩
  obtain⟨k,rfl⟩:∃A,k=A+1:=⟨k-1,ž⟩;have u:(lift F F.star (Nj F (lift F nm a) k)).testBit b=true:=e;rw[kz]at u;rcases u with⟨_,z⟩|⟨l,h,rfl,p,B⟩
  ·exact absurd z f
  cases m with
  |zero=>have:=r l h;omega
  |succ m=>
   show (lift F F.star (Nj F (lift F nm a) (k+1))).testBit l.1=Z';rw[kz];refine .inr ⟨l,h,rfl,p,se.mono _ (λi C j =>?_) B⟩;rcases o.ord l h i C with z|⟨w,v⟩
   ·have:=s l.1 p;have:=V7 t (show l.1+1<=i from z);exact Va o t s r nm a m i ž k ž j
   ·obtain⟨n,d,q⟩:=Kk (F:=F) (nm:=nm) (a:=a) k;rw[q,kz]at j;rcases j with⟨_,y⟩|⟨x,g,y,_⟩
    ·rw[w]at y;cases y
    ·exact absurd y (v x g)
def Og{F:Fa}(f:wQ F)(d a:Nat){k:Nat}(h:F.long<=k):Sb (Nj F (lift F d a) F.long) (Nj F (lift F d a) k):=by
 obtain⟨c,N,i,l,n,j⟩:=f.cnt
 induction h with
 |refl=>exact .refl _|@step m g ih=>
  refine ih.trans λb e =>?_
  have:=V7 i (fD b);have g:F.long<=m:=g;exact Va f i l j d a N b ž _ ž e
def nZ{F:Fa}(t:Tr):fA F [t]=tA F t:=by simp[fA]
theorem GQ{F:Fa}(a:wQ F)(t:Tr):∀k,tA F (lT F k t)=Nj F (tA F t) k
 |0=>rfl|k+1=>by rw[lT,tA,nZ,GQ a t k,a.fresh];rfl
def PM{F:Fa}(a:wQ F){f:List Tr}(h:PZ b n g f)(s:Sb x (tA F (.nd n g))):∃k,(b=Z_->k=0)/\Sb (Nj F x k) (fA F f):=by
 induction h with
 |Z m=>exact⟨0,λ_=>rfl,s.trans (yC m)⟩
 |@zH n m g h f e _ ih=>obtain⟨k,_,q⟩:=ih s;refine⟨k+1,(λz=>by cases z),Sb.trans ?_ (yC e)⟩;rw[tA];exact vR (a.star m) q
mutual
theorem MW.sim{F:Fa}(c:wQ F):∀(w:Wi){f:List Tr},lS w f->∃g,MW F w g/\Sb (fA F g) (fA F f)
 |.any,f,_=>⟨[],rfl,by rw[fA];exact .zero _⟩
 |.txt t,f,h=>⟨[.txt t],rfl,by rw[nZ];exact yC h⟩
 |.has s,f,h=>by obtain⟨g,a,b⟩:=MS.sim c s (g0:=[]) (λf _=>by rw[fA];exact .zero _) h;exact⟨g,a,b⟩
 |.both w,f,h=>MA.sim c w h|.one w,f,h=>ME.sim c w h
theorem MA.sim{F:Fa}(c:wQ F):∀(w:Ws){f:List Tr},lX w f->∃g,MA F w g/\Sb (fA F g) (fA F f)
 |.nil,f,_=>⟨[],rfl,by rw[fA];exact .zero _⟩
 |.cons w r,f,h=>by obtain⟨g,a,b⟩:=MW.sim c w h.1;obtain⟨d,i,e⟩:=MA.sim c r h.2;exact⟨g++d,⟨g,d,a,i,rfl⟩,by rw[yD];exact b.or e⟩
theorem ME.sim{F:Fa}(c:wQ F):∀(w:Ws){f:List Tr},oZ w f->∃g,ME F w g/\Sb (fA F g) (fA F f)
 |.nil,f,h=>h.elim| .cons w r,f,h=>by
  rcases h with h|h
  ·obtain⟨g,a,b⟩:=MW.sim c w h;exact⟨g,.inl a,b⟩
  ·obtain⟨g,a,b⟩:=ME.sim c r h;exact⟨g,.inr a,b⟩
theorem MS.sim{F:Fa}(c:wQ F){E:List Tr->Prop}{g0:List Tr}:∀(r:Ss){f:List Tr},(∀f,E f->Sb (fA F g0) (fA F f))->kg E r f->∃g,MS F g0 r g/\Sb (fA F g) (fA F f)
 |.nil,f,e,h=>⟨g0,rfl,e f h⟩| .cons b d w r,f,e,⟨n,p,k,o,hw,u⟩=>by
  obtain⟨g,a,s⟩:=MS.sim c r e u;obtain⟨h,x,l⟩:=MW.sim c w hw;have i:Sb (tA F (.nd (dt F d) (g++h))) (tA F (.nd n p)):=by
   rw[tA,tA];refine vR ?_ (by rw[yD];exact s.or l);cases d with
   |none=>show Sb (F.named F.fresh) _;rw[c.fresh];exact c.star n
   |some m=>have o:m=n:=o;subst o;exact .refl _
  obtain⟨j,t,q⟩:=PM c k i;refine⟨[lT F (min j (if b=Z' then F.long else 0)) (.nd (dt F d) (g++h))],⟨g,h,_,a,x,Nat.min_le_right _ _,rfl⟩,?_⟩;rw[nZ,GQ c];refine Sb.trans ?_ q;cases b with
  |false=>rw[t rfl];simp[Nj];exact .refl _|true=>
   rw[if_pos rfl];by_cases v:j<=F.long
   ·rw[GF v];exact .refl _
   ·rw[ED (by omega),tA];exact Og c _ _ ž
end
structure IJ(F:Fa)(q:Ss):Prop where
 bit:∀f,(fA F f).testBit 0=true↔kg Mk q f
 mark:∀f,Mk f->Sb F.mark (fA F f)
def within{F:Fa}(c:wQ F)(R:IJ F b):(∀g,MS F [.mk] a g->(fA F g).testBit 0=Z')↔∀f,kg Mk a f->kg Mk b f:=by
 constructor
 ·intro h f l;obtain⟨g,m,s⟩:=MS.sim c a (E:=Mk) (g0:=[.mk]) (λf e=>by rw[nZ,tA];exact R.mark f e) l;exact(R.bit f).mp (s 0 (h g m))
 ·intro h g m;exact(R.bit g).mpr (h g (MS.lead a (λf d s e=>s _ e) (λ_=>Ž) m))
def Cs.app:Cs->Cs->Cs
 |.nil,b=>b|.cons c r,b =>.cons c (r.app b)
def fH:As->Ak
 |.nil =>.mk 0 .nil|.cons (.mk n c) r=>match fH r with|.mk m d =>.mk (n ||| m) (c.app d)
structure CG(F:Fa)(t:aG)(j:Nat):Prop where
 zH:F.inner.testBit j=false
 led:∀l∈F.bF,l.1≠j
 mark:F.mark.testBit j=false
 text:∀s,(F.text s).testBit j=true↔s=t
structure M7(F:Fa)(b:Bool)(nm:Option aG)(j:Nat)(k:Ak):Prop where
 zH:F.inner.testBit j=b
 name:∀n,(F.named n).testBit j=true↔sW nm n
 led:(j,k)∈F.bF
 uniq:∀l∈F.bF,l.1=j->l=(j,k)
 mark:F.mark.testBit j=false
 text:∀s,(F.text s).testBit j=false
mutual
def P0(F:Fa):Wi->Ak->Prop
 |.any,k=>k=.mk 0 .nil|.txt t,k=>∃j,k=.mk (2 ^ j) .nil/\CG F t j|.has s,k=>∃j,k=.mk (2 ^ j) .nil/\y9 F 0 s j|.both w,k=>∃a,Bj F w a/\k=fH a|.one w,k=>∃a,Bj F w a/\k=.mk 0 (.cons a .nil)
def Bj(F:Fa):Ws->As->Prop
 |.nil,k=>k=.nil|.cons w r,k=>∃x y,P0 F w x/\Bj F r y/\k=.cons x y
def y9(F:Fa)(e:Nat):Ss->Nat->Prop
 |.nil,_=>False|.cons b f w r,j=>∃a d c,P0 F w (.mk a d)/\M7 F b f j (.mk (a ||| c) d)/\(r=.nil/\c=e\/y9 F e r (j+1)/\c=2 ^ (j+1))
end
def Tx(F:Fa)(e:Nat)(E:List Tr->Prop):Prop:=∀f,Sb e (fA F f)↔E f
def PF(F:Fa)(f:List Tr):Prop:=∀e E s j,y9 F e s j->Tx F e E->((fA F f).testBit j=Z'↔kg E s f)
def Bx{a:Nat}:Sb (2 ^ j) a↔a.testBit j=true:=by
 constructor
 ·intro h;exact h j (by simp[sf])
 ·intro h i e;rw[c_,decide_eq_true_eq]at e;subst e;exact h
def Qn:Sb (a ||| b) c↔Sb a c/\Sb b c:=⟨λh=>⟨(Sb.inl _ _).trans h,(Sb.inr _ _).trans h⟩,λh=>h.1.or h.2⟩
def Yx(F:Fa):Tx F 0 (λ_=>True):=λf=>⟨λ_=>trivial,λ_ =>.zero _⟩
def Ks{F:Fa}(h:CG F t j)(f:List Tr):(fA F f).testBit j=Z'↔Tr.txt t∈f:=by
 rw[Cg];constructor
 ·rintro⟨x,a,e⟩;cases x with
  |txt s=>rw[tA,h.text]at e;subst e;exact a|mk=>rw[tA,h.mark]at e;cases e|nd n g=>
   rw[tA,kz,h.zH]at e;rcases e with⟨_,z⟩|⟨l,b,z,_⟩
   ·cases z
   ·exact absurd z (h.led l b)
 ·intro a;exact⟨_,a,by rw[tA,h.text]⟩
theorem DE:∀(c d:Cs),qc a (c.app d)↔qc a c/\qc a d
 |.nil,d=>by simp[Cs.app,qc]
 |.cons x r,d=>by simp only[Cs.app,qc,DE r d,and_assoc]
def LA:se a (fH (.cons x r))↔se a x/\se a (fH r):=by
 obtain⟨n,c⟩:=x;rw[fH];rcases fH r with⟨m,d⟩;simp only[se,Qn,DE];constructor
 ·rintro⟨⟨a,b⟩,c,d⟩;exact⟨⟨a,c⟩,b,d⟩
 ·rintro⟨⟨a,c⟩,b,d⟩;exact⟨⟨a,b⟩,c,d⟩
mutual
theorem Gw{F:Fa}{f:List Tr}(P:PF F f):∀(w:Wi) (k:Ak),P0 F w k->(se (fA F f) k↔lS w f)
 |.any,k,h=>by have h:k=.mk 0 .nil:=h;subst h;simp[se,qc,lS,Sb]
 |.txt t,k,⟨j,e,h⟩=>by subst e;simp only[se,qc,lS,and_true,Bx];exact Ks h f
 |.has s,k,⟨j,e,h⟩=>by subst e;simp only[se,qc,lS,and_true,Bx];exact P 0 _ s j h (Yx F)
 |.both w,k,⟨a,h,e⟩=>by subst e;exact QR P w a h
 |.one w,k,⟨a,h,e⟩=>by subst e;simp only[se,qc,and_true,lS];exact⟨λz=>(MY P w a h).mp z.2,λz=>⟨.zero _,(MY P w a h).mpr z⟩⟩
theorem QR{F:Fa}{f:List Tr}(P:PF F f):∀(w:Ws) (k:As),Bj F w k->(se (fA F f) (fH k)↔lX w f)
 |.nil,k,h=>by have h:k=.nil:=h;subst h;simp[fH,se,qc,lX,Sb]
 |.cons w r,k,⟨x,y,a,b,e⟩=>by subst e;rw[LA,Gw P w x a,QR P r y b];rfl
theorem MY{F:Fa}{f:List Tr}(P:PF F f):∀(w:Ws) (k:As),Bj F w k->(wO (fA F f) k↔oZ w f)
 |.nil,k,h=>by have h:k=.nil:=h;subst h;simp[wO,oZ]
 |.cons w r,k,⟨x,y,a,b,e⟩=>by subst e;rw[wO,Gw P w x a,MY P r y b];rfl
end
def Jv{f:List Tr}:kg E (.cons b a w r) f↔∃m h,Tr.nd m h∈f/\((sW a m/\lS w h/\kg E r h)\/(b=Z'/\kg E (.cons b a w r) h)):=by
 constructor
 ·rintro⟨n,g,k,l⟩;cases k with
  |Z m=>exact⟨n,g,m,.inl l⟩|@zH _ m _ h _ e k=>exact⟨m,h,e,.inr ⟨rfl,n,g,k,l⟩⟩
 ·rintro⟨m,h,e,l|⟨rfl,n,g,k,l⟩⟩
  ·exact⟨m,h,.Z e,l⟩
  ·exact⟨n,g,.zH e k,l⟩
def C4{F:Fa}{f:List Tr}(ih:∀n g,Tr.nd n g∈f->PF F g):PF F f:=by
 intro e E s j h u;cases s with
 |nil=>exact h.elim|cons b v w r=>
  have D:=h;obtain⟨k,G,t,C,i,B⟩:=h;rw[Cg,Jv];have p:∀n g,Tr.nd n g∈f->((tA F (.nd n g)).testBit j=Z'↔((sW v n/\lS w g/\kg E r g)\/(b=Z'/\kg E (.cons b v w r) g))):=λn g m=>by
   have P:=ih n g m;rw[tA,kz,i.zH,P e E _ j D u];have d:Sb t (fA F g)↔kg E r g:=by
    rcases B with⟨rfl,rfl⟩|⟨y,rfl⟩
    ·exact u g
    ·rw[Bx];exact P e E r (j+1) y u
   have o:se (fA F g) (.mk (k ||| t) G)↔lS w g/\kg E r g:=by
    rw[<- Gw P w _ C,<- d];simp only[se,Qn];constructor
    ·rintro⟨⟨a,b⟩,c⟩;exact⟨⟨a,c⟩,b⟩
    ·rintro⟨⟨a,c⟩,b⟩;exact⟨⟨a,b⟩,c⟩
   constructor
   ·rintro(⟨a,b⟩|⟨l,A,z,a,c⟩)
    ·exact .inr ⟨b,a⟩
    ·have:=i.uniq l A z;subst this;exact .inl ⟨(i.name n).mp a,o.mp c⟩
   ·rintro(⟨a,c⟩|⟨a,c⟩)
    ·exact .inr ⟨_,i.led,rfl,(i.name n).mpr a,o.mpr c⟩
    ·exact .inl ⟨c,a⟩
  constructor
  ·rintro⟨x,q,z⟩;cases x with
   |txt s=>rw[tA,i.text]at z;cases z|mk=>rw[tA,i.mark]at z;cases z|nd n g=>exact⟨n,g,q,(p n g q).mp z⟩
  ·rintro⟨n,g,q,z⟩;exact⟨_,q,(p n g q).mpr z⟩
theorem xP:∀ {f:List Tr},Tr.nd n g∈f->sizeOf g<sizeOf f
 | x::f,h=>by
  rcases au.mp h with rfl|h
  ·simp;omega
  ·have:=xP h;simp;omega
theorem KY(F:Fa):∀(m:Nat) (f:List Tr),sizeOf f<=m->PF F f
 |0,f,h=>C4 λn g e=>by have:=xP e;omega
 |m+1,f,h=>C4 λn g e=>KY F m g (by have:=xP e;omega)
structure GA(F:Fa)(j:Nat):Prop where
 eq:F.mark=2 ^ j
 zH:F.inner.testBit j=false
 led:∀l∈F.bF,l.1≠j
 text:∀s,(F.text s).testBit j=false
def Yw{F:Fa}(h:GA F j):Tx F F.mark Mk:=λf=>by
 rw[h.eq,Bx,Cg];constructor
 ·rintro⟨x,a,e⟩;cases x with
  |txt s=>rw[tA,h.text]at e;cases e|mk=>exact a|nd n g=>
   rw[tA,kz,h.zH]at e;rcases e with⟨_,z⟩|⟨l,b,z,_⟩
   ·cases z
   ·exact absurd z (h.led l b)
 ·intro a;exact⟨_,a,by rw[tA,h.eq];simp[sf]⟩
def Nl{F:Fa}(m:GA F j)(h:y9 F F.mark q 0):IJ F q:=⟨λf=>KY F _ f (aw _) _ _ _ _ h (Yw m),λf e=>yC (t :=.mk) e⟩
abbrev Wy:=List (Nat×List D)
def j3(W:Wy)(p:Nat×List D):Wy:=if W.any (λq=>q.1==p.1) then W else W++[p]
def BZ(W:Wy):Wy:=W.filter λp=> !(W.any λq=>q.1 != p.1&&(q.1 &&& p.1)==q.1)
def cp(L:Wy):Wy:=BZ (L.foldl j3 [])
def G_{W:Wy}{m:Nat}:(W.any (λq=>q.1==m))=Z'↔∃q∈W,q.1=m:=by simp[kJ]
theorem fold_snd:∀(L:Wy) (W:Wy),∀p∈L.foldl j3 W,p∈W\/p∈L
 |[],W,p,h =>.inl h| x::L,W,p,h=>by
  rcases fold_snd L (j3 W x) p h with z|z
  ·unfold j3 at z;split at z
   ·exact .inl z
   ·rcases aD.mp z with z|z
    ·exact .inl z
    ·exact .inr (by simp at z;simp[z])
  ·exact .inr (by simp[z])
def Oe{W:Wy}(h:p∈W):p∈j3 W x:=by
 unfold j3;split
 ·exact h
 ·exact aJ _ h
theorem D4:∀(L:Wy) (W:Wy),∀p∈W,p∈L.foldl j3 W
 |[],W,p,h=>h|x::L,W,p,h=>D4 L (j3 W x) p (Oe h)
theorem D6:∀(L:Wy) (W:Wy),∀p∈L,∃q∈L.foldl j3 W,q.1=p.1
 | x::L,W,p,h=>by
  rcases au.mp h with rfl|h
  ·have:∃q∈j3 W p,q.1=p.1:=by
    unfold j3;split
    ·rename_i z;exact G_.mp z
    ·exact⟨p,Ž,rfl⟩
   obtain⟨q,a,e⟩:=this;exact⟨q,D4 L _ q a,e⟩
  ·exact D6 L (j3 W x) p h
def Jb{W:Wy}(h:(W.map (·.1)).Nodup):((j3 W p).map (·.1)).Nodup:=by
 unfold j3;split
 ·exact h
 ·rename_i z;rw[gy,gm];refine⟨h,Ž,λa f b c =>?_⟩;simp at c;subst c;rintro rfl;obtain⟨q,d,e⟩:=bc.mp f;exact z (G_.mpr ⟨q,d,e⟩)
def M4:a &&& b=a↔Sb a b:=by
 constructor
 ·intro h i e;rw[<- h,jB,aO]at e;exact e.2
 ·intro h;apply wW;intro i;rw[jB];cases e:a.testBit i with
  |true=>rw[h i e];rfl|false=>rfl
def UU(h:Sb a b):a<=b:=by rw[<- M4.mpr h];exact Nat.and_le_right
def Ju{W:Wy}(h:p∈BZ W):p∈W:=(gx.mp h).1
theorem AK{W:Wy}:∀(n:Nat) (p:Nat×List D),p.1<=n->p∈W->∃q∈BZ W,Sb q.1 p.1
 | n,p,c,h=>by
  by_cases z:(W.any λq=>q.1 != p.1&&(q.1 &&& p.1)==q.1)=Z'
  ·obtain⟨q,b,e⟩:=kJ.mp z;simp only[aO,bne_iff_ne,ne_eq,beq_iff_eq]at e;have s:=M4.mp e.2;have l:=UU s;cases n with
   |zero=>omega|succ n=>obtain⟨r,a,t⟩:=AK n q ž b;exact⟨r,a,t.trans s⟩
  ·exact⟨p,gx.mpr ⟨h,by simp only[Bool.not_eq_true]at z;rw[z];rfl⟩,.refl _⟩
def tm(h:p∈cp L):p∈L:=(fold_snd L [] p (Ju h)).resolve_left Ž
def tq{L:Wy}{p:Nat×List D}(h:p∈L):∃q∈cp L,Sb q.1 p.1:=by
 obtain⟨q,b,e⟩:=D6 L [] p h;obtain⟨r,a,s⟩:=AK q.1 q (aw _) b;exact⟨r,a,by rw[<- e];exact s⟩
def CN(n:aG):D :=.tup [.str (ab "open"),.str n]
def Nw(t:aG):D :=.tup [.str (ab "text"),.str t]
def EK:D :=.tup [.str (ab "close")]
def uj:D :=.tup [.str (ab "mark")]
mutual
def Bv:Tr->List D
 |.txt t=>[Nw t]|.mk=>[uj]|.nd n f=>CN n::(kb f++[EK])
def kb:List Tr->List D
 |[]=>[]|t::f=>Bv t++kb f
end
def rB(f g:List Tr):kb (f++g)=kb f++kb g:=by
 induction f with|nil=>simp[kb]|cons t f ih=>rw[fS,kb,kb,ih,bH]
structure lW(F:Fa)(M:List Tr->Prop)(W:Wy):Prop where
 snd:∀p∈W,∃f,M f/\fA F f=p.1/\kb f=p.2
 cmp:∀f,M f->∃p∈W,Sb p.1 (fA F f)
def lW.one{F:Fa}{f:List Tr}:lW F (λg=>g=f) [(fA F f,kb f)]:=⟨λp h=>⟨f,rfl,by simp at h;simp[h],by simp at h;simp[h]⟩,λg h=>⟨(fA F f,kb f),Ž,by subst h;exact .refl _⟩⟩
def eB(F:Fa)(n:aG)(W:Wy):Wy:=W.map λp=>(lift F (F.named n) p.1,CN n::(p.2++[EK]))
def lV(A B:Wy):Wy:=A.flatMap λp=>B.map λq=>(p.1 ||| q.1,p.2++q.2)
def lW.wrap{F:Fa}{j:List Tr->Prop}{W:Wy}(h:lW F j W)(n:aG):lW F (λf=>∃g,j g/\f=[.nd n g]) (cp (eB F n W)):=by
 refine⟨λp i =>?_,?_⟩
 ·obtain⟨q,c,e⟩:=bc.mp (tm i);subst e;obtain⟨g,m,a,b⟩:=h.snd q c;exact⟨_,⟨g,m,rfl⟩,by rw[nZ,tA,a],by simp[kb,Bv,b]⟩
 ·rintro f ⟨g,m,rfl⟩;obtain⟨q,c,s⟩:=h.cmp g m;obtain⟨r,d,t⟩:=tq (L:=eB F n W) (bc.mpr ⟨q,c,rfl⟩);exact⟨r,d,t.trans (by rw[nZ,tA];exact vR (.refl _) s)⟩
def lW.join{F:Fa}{v:List Tr->Prop}(h:lW F v A)(k:lW F N B):lW F (λf=>∃g h,v g/\N h/\f=g++h) (cp (lV A B)):=by
 refine⟨λp l =>?_,?_⟩
 ·obtain⟨q,j,e⟩:=EF.mp (tm l);obtain⟨r,i,e⟩:=bc.mp e;subst e;obtain⟨f,m,a,b⟩:=h.snd q j;obtain⟨g,n,c,d⟩:=k.snd r i;exact⟨_,⟨f,g,m,n,rfl⟩,by rw[yD,a,c],by rw[rB,b,d]⟩
 ·rintro f ⟨g,o,m,n,rfl⟩;obtain⟨p,l,s⟩:=h.cmp g m;obtain⟨q,j,t⟩:=k.cmp o n;obtain⟨r,i,u⟩:=tq (L:=lV A B) (EF.mpr ⟨p,l,bc.mpr ⟨q,j,rfl⟩⟩);exact⟨r,i,u.trans (by rw[yD];exact(s.trans (.inl _ _)).or (t.trans (.inr _ _)))⟩
def lW.imp{F:Fa}{b:List Tr->Prop}{W:Wy}(h:lW F b W)(e:∀f,b f↔N f):lW F N W:=⟨λp a=>let ⟨f,m,r⟩:=h.snd p a;⟨f,(e f).mp m,r⟩,λf m=>h.cmp f ((e f).mpr m)⟩
def lW.gather{F:Fa}{c:List Tr->Prop}{W:Wy}(h:lW F c W):lW F c (cp W):=⟨λp a=>h.snd p (tm a),λf m=>by
 obtain⟨p,a,s⟩:=h.cmp f m;obtain⟨r,b,u⟩:=tq a;exact⟨r,b,u.trans s⟩⟩
def lW.append{F:Fa}{b:List Tr->Prop}(h:lW F b A)(k:lW F N B):lW F (λf=>b f\/N f) (A++B):=by
 refine⟨λp a =>?_,?_⟩
 ·rcases aD.mp a with z|z
  ·obtain⟨f,m,r⟩:=h.snd p z;exact⟨f,.inl m,r⟩
  ·obtain⟨f,m,r⟩:=k.snd p z;exact⟨f,.inr m,r⟩
 ·rintro f (m|m)
  ·obtain⟨p,a,s⟩:=h.cmp f m;exact⟨p,aJ _ a,s⟩
  ·obtain⟨p,a,s⟩:=k.cmp f m;exact⟨p,aH _ a,s⟩
def layW(F:Fa):Nat->Wy×Wy->Wy×Wy
 |0,p=>p|k+1,p=>layW F k (cp (eB F F.fresh p.1),cp (p.2++cp (eB F F.fresh p.1)))
def Ai(F:Fa)(b:Bool)(a:Option aG)(W:Wy):Wy:=if b=Z' then (layW F F.long (cp (eB F (dt F a) W),cp (eB F (dt F a) W))).2 else cp (eB F (dt F a) W)
mutual
def kO(F:Fa):Wi->Wy
 |.any=>[(0,[])]|.txt t=>[(F.text t,[Nw t])]|.has s=>i7 F [(0,[])] s|.both w=>Bl F [(0,[])] w|.one w=>cp (Gp F w)
def Bl(F:Fa)(W:Wy):Ws->Wy
 |.nil=>W|.cons w r=>Bl F (cp (lV W (kO F w))) r
def Gp(F:Fa):Ws->Wy
 |.nil=>[]|.cons w r=>kO F w++Gp F r
def i7(F:Fa)(W:Wy):Ss->Wy
 |.nil=>W|.cons b a w r=>Ai F b a (cp (lV (i7 F W r) (kO F w)))
end
theorem LV{F:Fa}{H:List Tr->Prop}(n:aG):∀(k j:Nat) (p:Wy×Wy),lW F (λf=>∃g,H g/\f=[lT F j (.nd n g)]) p.1->lW F (λf=>∃g i,H g/\i<=j/\f=[lT F i (.nd n g)]) p.2 ->
  lW F (λf=>∃g i,H g/\i<=j+k/\f=[lT F i (.nd n g)]) (layW F k p).2
 |0,j,p,a,b=>b| k+1,j,p,a,b=>by
  rw[layW,show j+(k+1)=(j+1)+k by omega];have c:lW F (λf=>∃g,H g/\f=[lT F (j+1) (.nd n g)]) (K30.cp (eB F F.fresh p.1)):=(a.wrap F.fresh).imp λf=>by
   constructor
   ·rintro⟨_,⟨g,m,rfl⟩,rfl⟩;exact⟨g,m,rfl⟩
   ·rintro⟨g,m,rfl⟩;exact⟨_,⟨g,m,rfl⟩,rfl⟩
  refine LV n k (j+1) _ c ((b.append c).gather.imp λf =>?_);constructor
  ·rintro(⟨g,i,m,d,rfl⟩|⟨g,m,rfl⟩)
   ·exact⟨g,i,m,ž,rfl⟩
   ·exact⟨g,j+1,m,aw _,rfl⟩
  ·rintro⟨g,i,m,d,rfl⟩;by_cases h:i<=j
   ·exact .inl ⟨g,i,m,h,rfl⟩
   ·have:i=j+1:=by omega
    subst this;exact .inr ⟨g,m,rfl⟩
def NX{F:Fa}{l:List Tr->Prop}{W:Wy}(h:lW F l W)(b:Bool)(c:Option aG):lW F (λf=>∃g k,l g/\k<=(if b=Z' then F.long else 0)/\f=[lT F k (.nd (dt F c) g)]) (Ai F b c W):=by
 have a:=h.wrap (dt F c);unfold Ai;cases b with
 |false=>
  simp only[dO,if_false];refine a.imp λf =>?_
  constructor
  ·rintro⟨g,m,rfl⟩;exact⟨g,0,m,aw _,rfl⟩
  ·rintro⟨g,k,m,d,rfl⟩;have:k=0:=by omega
   subst this;exact⟨g,m,rfl⟩
 |true=>
  simp only[if_true];have:=LV (F:=F) (H:=l) (dt F c) F.long 0 (K30.cp (eB F (dt F c) W),K30.cp (eB F (dt F c) W)) a (a.imp λf=>⟨λ⟨g,m,e⟩=>⟨g,0,m,aw _,e⟩,λ⟨g,i,m,j,e⟩=>by
   have z:i=0:=by omega
   subst z;exact⟨g,m,e⟩⟩)
  rw[ml]at this;exact this
mutual
theorem ng(F:Fa):∀w,lW F (MW F w) (kO F w)
 |.any=>(lW.one (f:=[])).imp λf=>rT
 |.txt t=>by have:=lW.one (F:=F) (f:=[.txt t]);rw[nZ,tA]at this;exact this.imp λf=>rT
 |.has s=>qF F (g0:=[]) s ((lW.one (f:=[])).imp λf=>rT)
 | .both w=>(Ih F w ((lW.one (f:=[])).imp λf=>rT)).imp λf=>by
  constructor
  ·rintro⟨a,b,c,d,e⟩;have c:a=[]:=c;subst c;subst e;exact d
  ·intro h;exact⟨[],f,rfl,h,rfl⟩
 |.one w=>(MU F w).gather
theorem Ih(F:Fa){d:List Tr->Prop}:∀(w:Ws){W:Wy},lW F d W->lW F (λf=>∃a b,d a/\MA F w b/\f=a++b) (Bl F W w)
 | .nil,W,h=>h.imp λf=>by
  constructor
  ·intro m;exact⟨f,[],m,rfl,Ž⟩
  ·rintro⟨a,b,m,e,q⟩;have e:b=[]:=e;subst e;rw[q,bx];exact m
 | .cons w r,W,h=>(Ih F r (h.join (ng F w))).imp λf=>by
  constructor
  ·rintro⟨_,b,⟨g,c,m,n,rfl⟩,k,rfl⟩;exact⟨g,c++b,m,⟨c,b,n,k,rfl⟩,Ž⟩
  ·rintro⟨a,_,m,⟨g,c,n,k,rfl⟩,rfl⟩;exact⟨a++g,c,⟨a,g,m,n,rfl⟩,k,Ž⟩
theorem MU(F:Fa):∀w,lW F (ME F w) (Gp F w)
 |.nil=>⟨λp h=>by simp[Gp]at h,λf h=>h.elim⟩
 |.cons w r=>((ng F w).append (MU F r)).imp λf=>rT
theorem qF(F:Fa){g0:List Tr}:∀(s:Ss){W:Wy},lW F (λf=>f=g0) W->lW F (MS F g0 s) (i7 F W s)
 |.nil,W,h=>h| .cons b d w r,W,h=>(NX ((qF F r h).join (ng F w)) b d).imp λf=>by
  constructor
  ·rintro⟨_,k,⟨g,c,m,n,rfl⟩,a,rfl⟩;exact⟨g,c,k,m,n,a,rfl⟩
  ·rintro⟨g,c,k,m,n,a,rfl⟩;exact⟨_,k,⟨g,c,m,n,rfl⟩,a,rfl⟩
end
def Wr{F:Fa}(d:wQ F){a:Ss}(R:IJ F b):(∀p∈i7 F [(F.mark,[uj])] a,p.1.testBit 0=Z')↔∀f,kg Mk a f->kg Mk b f:=by
 have h:=qF F (g0:=[.mk]) a (W:=[(F.mark,[uj])]) (by have:=lW.one (F:=F) (f:=[.mk]);rw[nZ,tA]at this;exact this)
 rw[<- within d R];constructor
 ·intro k g m;obtain⟨p,c,s⟩:=h.cmp g m;exact s 0 (k p c)
 ·intro k p c;obtain⟨f,m,e,_⟩:=h.snd p c;rw[<- e];exact k f m
end K30
namespace L2
open PySem PySem.Spec PyProof.Rows
section
variable {K:aT}{v:Hp}
end
theorem HL{τ:zW}{g:DG}(I:Nat->bY->Prop):∀(k:List D) (i:Nat) (a:bY),I i a->(∀j d a,k[j]?=Y d->I (i+j) a->∃f b,τ d a=Y f/\g f=Y (.nx b)/\I (i+j+1) b) ->
  ∃c,eS τ g k a=Y (.nx c)/\I (i+k.length) c
 |[],i,a,h,_=>⟨a,rfl,h⟩| d::k,i,a,h,st=>by
  obtain⟨f,b,q,p,n⟩:=st 0 d a rfl h;obtain⟨c,e,o⟩:=HL I k (i+1) b n λj d a l m=>by have:=st (j+1) d a (by simpa using l) (by rw[show i+(j+1)=i+1+j by omega];exact m);rw[show i+(j+1)+1=i+1+j+1 by omega]at this;exact this
  refine⟨c,?_,by rw[show i+(d::k).length=i+1+k.length by simp;omega];exact o⟩;unfold eS;rw[q];simp only[ae,p];exact e
def D3{τ:zW}{g:DG}(I:Nat->bY->Prop){ds:List D}{ρ:bY}(i:I 0 ρ)(f:∀j d ρ,ds[j]?=Y d->I j ρ->∃b a,τ d ρ=Y b/\g b=Y (.nx a)/\I (j+1) a):∃c,eS τ g ds ρ=Y (.nx c)/\I ds.length c:=by
 have:=HL (τ:=τ) (g:=g) I ds 0 ρ i (λj d ρ h e=>by rw[ml]at e ⊢;exact f j d ρ h e);rw[ml]at this;exact this
def Im{xs:List b}{z:Int}(d:0<=z)(c:z<xs.length):∃v,p_ xs z=Y v/\v∈xs:=by
 have a:z.toNat<xs.length:=by omega
 refine⟨xs[z.toNat],?_,t7 a⟩;have e:((z.toNat:Nat):Int)=z:=by omega
 have:=eT (xs:=xs) (j:=z.toNat) (v:=xs[z.toNat]) (by simp[a]);rw[e]at this;exact this
def Cz{xs:List Int}{z:Int}(h0:0<=z)(h1:z<xs.length):∃v,p_ (xs.map D.int) z=Y (.int v):=by
 obtain⟨v,e,hm⟩:=Im (xs:=xs) h0 h1;exact⟨v,by rw[Io,e];rfl⟩
def HA{n:Nat}{z:Int}(b:0<=z)(a:z<n):Jz n z=Y z.toNat:=by unfold Jz;rw[if_pos b,if_pos a]
def um(h:(fG a n)[j]?=Y d):j<n/\d=.int (a+j):=by
 unfold fG at h;rw[aV]at h;obtain⟨k,q,h⟩:=ak.1 h;cases h;obtain⟨c,b⟩:=ax.mp q;have:k=j:=by simpa using b.symm
 subst this;exact⟨by simpa using c,rfl⟩
def oE(a:Int)(n:Nat):(fG a n).length=n:=by simp[fG]
theorem LU{h:D->D}:∀ {b:List D},(∀d∈b,∃a,c d e=Y a/\g a=Y (h d))->oO e c fj g b=Y (b.map h)
 |[],_=>rfl|d::b,f=>by obtain⟨a,j,i⟩:=f d aF;unfold oO;rw[j];simp only[fj,ae,if_true,i];rw[LU λd h=>f d (aj _ h)];rfl
def kG:dA=1000000:=rfl
def Th(a:List b)(l h:Option Int):(zo a l h).length<=a.length:=by
 unfold zo;rw[m_,EG];omega
def MR(a:List b)(c:0<=k):zo a M (Y k)=a.take k.toNat:=by
 unfold zo HT.ke;simp only[qA,Nat.sub_zero,if_neg (show ¬k<0 by omega)];by_cases h:k.toNat<=a.length
 ·rw[GF h]
 ·rw[ED (by omega),List.take_length,P8 (by omega)]
def yV(xs:List a)(b:0<=k):zo xs (Y k) M=xs.drop k.toNat:=by
 unfold zo HT.ke;simp only[if_neg (show ¬k<0 by omega)];by_cases h:k.toNat<=xs.length
 ·rw[GF h,P8 (by simp)]
 ·rw[ED (by omega),Nat.sub_self,List.take_zero,Qa (by omega)]
end L2
namespace L2
open PySem
def B5{f:DF}(e:f ρ=Y (.int z))(h : -(2 ^ 62)<=z/\z<2 ^ 62):wL f ρ=Y (fG 0 z.toNat):=by
 simp only[wL,e,ae];rw[if_pos h]
end L2
namespace K21
open PySem L2 K30
noncomputable abbrev bA:=CM
noncomputable abbrev bO:=dE
def yZ(a b:Nat):bA (a:Int) (b:Int)=((a &&& b:Nat):Int):=by
 unfold bA;rw[PyProof.Rows.bitAnd_pp (by omega) (by omega)];simp
def pZ(a b:Nat):bO (a:Int) (b:Int)=((a ||| b:Nat):Int):=by
 unfold bO;rw[PyProof.Rows.bitOr_and,show CM (a:Int) (b:Int)=_ from yZ a b];have:=PyProof.Rows.nat_or_add_and a b;omega
def aB{ρ':bY}(e:g ρ=Y (.nx ρ')):bp g h ρ=h ρ':=by unfold bp;rw[e];rfl
def dr{f:DF}{a:bY}{d:D}(e:f a=Y d):eM i f a=Y (.nx (a.set i (Y d))):=by unfold eM;rw[e];rfl
def gB{f:DL}(e:f a=Y c):iX f b g a=eS b g c a:=by unfold iX;rw[e];rfl
def eH{ρ1:bY}(h:b d c=Y ρ1)(f:g ρ1=Y (.nx a)):eS b g (d::e) c=eS b g e a:=by
 rw[eS,h];show ((g ρ1).bind _)=_;rw[f];rfl
def iT(h:t a=Y Z'):ie t g k a=g a:=by unfold ie;rw[h];rfl
def dh(h:t a=Y Z_):ie t g k a=k a:=by unfold ie;rw[h];rfl
def px{f:DF}{d:D}(e:f a=Y d):(fF f a).bind iY=Y d:=by unfold fF;rw[e];rfl
theorem QE:∀(b:List D),(∀d∈b,∃a,w d c=Y a/\e a=Y (g d))->oO c w fj e b=Y (b.map g)
 |[],_=>rfl|d::b,h=>by obtain⟨a,j,i⟩:=h d (aF ..);rw[oO,j];simp only[ae,fj,if_true,i];rw[QE b λx f=>h x (aj _ f)];rfl
def M3{a:List b}{f:b->Bool}:iQ Z_ [.lst (a.map λd =>.bl (f d))]=Y (.bl (a.any f)):=by
 simp only[iQ];rw[if_pos (by simp[vg,cB,L9])];simp[Qb,cB,u4]
def Gq{f:DL}(e:f a=Y b):a_ G (aC (eF f) aN) a=G [.lst b]:=by
 unfold a_ aC eF;rw[e];rfl
def oW{f:DF}{d:D}(e:f a=Y d):a_ G (aC f aN) a=G [d]:=by unfold a_ aC;rw[e];rfl
def wD(W:Wy):D :=.fT (W.map λp=>gk (p.1:Int)) (W.map λp =>.tup p.2)
def wI(p:Nat×List D):D :=.tup [.int (p.1:Nat),.tup p.2]
def AW(W:Wy):Sf (W.map λp=>gk (p.1:Int)) (W.map λp =>.tup p.2)=W.map wI:=by
 unfold Sf
 induction W with|nil=>rfl|cons p W ih=>simp only[aW,ck,ih];rfl
def R1(W:Wy)(m:Nat):(bL (W.map λp=>gk (p.1:Int)) (W.map λp=>D.tup p.2) (gk (m:Int))).isSome=W.any λq=>q.1==m:=by
 unfold bL
 induction W with
 |nil=>rfl|cons p W ih=>
  simp only[aW,ck,ia,jG];by_cases h:p.1=m
  ·subst h;simp
  ·have b:decide ((gk (p.1:Int):hI)=gk (m:Int))=false:=by simp only[decide_eq_false_iff_not];intro z;exact h (by have:=TR z;omega)
   have a:(p.1==m)=false:=by simpa using h
   rw[b,a];simpa using ih
def U9{W:Wy}{m:Nat}(s:List D)(h:(W.any λq=>q.1==m)=Z_):jz (gk (m:Int)) (.tup s) (W.map λp=>gk (p.1:Int)) (W.map λp=>D.tup p.2)=(((W++[(m,s)]).map λp=>gk (p.1:Int)),((W++[(m,s)]).map λp=>D.tup p.2)):=by
 unfold jz;rw[if_neg]
 ·simp
 ·intro z;simp only[Qb,cB,kJ,decide_eq_true_eq]at z;obtain⟨q,a,e⟩:=z;have:q.1=m:=by have:=TR e;omega
  rw[mo]at h;exact h q a (by simpa using this)
structure WB(W:Wy):Prop where
 nd:(W.map (·.1)).Nodup
 lt:∀p∈W,p.1<2 ^ 19/\p.2.length<=10000
theorem ux:∀(n:Nat) (l:List Nat),l.Nodup->(∀x∈l,x<n)->l.length<=n
 | 0,l,h,g=>by
  cases l with
  |nil=>simp|cons x l=>exact absurd (g x Ž) ž
 | n+1,l,h,g=>by
  by_cases m:n∈l
  ·have:=ux n (l.erase n) (h.erase n) (λx a=>by have:=(h.mem_erase_iff).mp a;have:=g x this.2;omega)
   rw[sh m]at this;omega
  ·have:=ux n l h (λx a=>by
    have:=g x a;have:x≠n:=λz=>m (z ▸ a)
    omega)
   omega
def WB.len{W:Wy}(h:WB W):W.length<dA:=by
 have:=ux (2 ^ 19) (W.map (·.1)) h.nd (λx a=>by obtain⟨p,b,e⟩:=bc.mp a;subst e;exact(h.lt p b).1)
 rw[bj]at this;exact qz this ſ
def rO(x y:Int):lH (.int x) (.int y)=(x==y):=by simp[lH]
abbrev Bd(p:Nat×List D):Prop:=p.1<2 ^ 19/\p.2.length<=10000
def LY(m:Nat):vV (.int (m:Int))=Y (gk (m:Int)):=rfl
def Lm{f:DF}{W:Wy}{m:Nat}(c:f a=Y (.int (m:Int)))(b:eV j a=Y (wD W)):cT (e2 (qr Z') f (eV j)) a=Y (!(W.any λq=>q.1==m)):=by
 unfold cT e2;rw[c,b];show (((vV (.int (m:Int))).map λk=>D.bl (if Z' then !(bL _ _ k).isSome else _)).bind _)=_;rw[LY];show Y (!(bL (W.map λp=>gk (p.1:Int)) (W.map λp=>D.tup p.2) (gk (m:Int))).isSome)=_;rw[R1]
def HS{f:DF}{a:bY}{W:Wy}{m:Nat}{s:List D}(e:f a=Y (.int (m:Int)))(d:g a=Y (.tup s))(c:eV j a=Y (wD W))(b:W.length<dA)(h:(W.any λq=>q.1==m)=Z_):pq j f g a=Y (.nx (a.set j (Y (wD (W++[(m,s)]))))):=by
 unfold pq;rw[d,e];simp only[ae,LY,c];show (if (W.map λp=>(gk (p.1:Int):hI)).length<dA then _ else M)=_;rw[if_pos (by simpa using b),U9 s h];rfl
def F2(W:Wy)(f:W.length<dA)(m:Nat)(a b:Option D):ua (rV (a_ (iQ Z_) (aC (eF (mY (AX (eV 0)) [M,Y 2] (gN 0) fj (JK (e2 Dq (eV 0) (eV 1)) (e2 gj (e2 mQ (eV 0) (eV 1)) (eV 0))))) aN))) [Y (wD W),a,Y (.int (m:Int)),b]
  = Y (!(W.any λq=>q.1 != m&&(q.1 &&& m)==q.1)):=by
 have e:mY (AX (eV 0)) [M,Y 2] (gN 0) fj (JK (e2 Dq (eV 0) (eV 1)) (e2 gj (e2 mQ (eV 0) (eV 1)) (eV 0))) [Y (wD W),a,Y (.int (m:Int)),b]=Y (W.map λq =>.bl (q.1 != m&&(q.1 &&& m)==q.1)):=by
  unfold mY;have g:AX (eV 0) [Y (wD W),a,Y (.int (m:Int)),b]=Y (W.map λq=>D.int (q.1:Int)):=by show Y ((W.map λp=>(gk (p.1:Int):hI)).map kD)=_;rw[iu];rfl
  rw[g];show (if (W.map λq=>D.int (q.1:Int)).length<=dA then oO [M,Y (.int (m:Int))] (gN 0) fj _ _ else M)=_;rw[if_pos (by simpa using dU f)];rw[QE (g:=λd=>match d with|.int i =>.bl (i.toNat != m&&(i.toNat &&& m)==i.toNat)|_ =>.dJ) _ λd h =>?_]
  ·rw[iu]
   congr 1
  ·obtain⟨q,_,rfl⟩:=bc.mp h;refine⟨[Y (.int (q.1:Int)),Y (.int (m:Int))],rfl,?_⟩;have l:e2 Dq (eV 0) (eV 1) [Y (.int (q.1:Int)),Y (.int (m:Int))]=Y (.bl (!lH (.int (q.1:Int)) (.int (m:Int)))):=rfl;have c:e2 gj (e2 mQ (eV 0) (eV 1)) (eV 0) [Y (.int (q.1:Int)),Y (.int (m:Int))]=Y (.bl (lH (.int (bA (q.1:Int) (m:Int))) (.int (q.1:Int)))):=rfl;unfold JK cT;rw[l,c];simp only[ae,rO,yZ,cN];have k:((q.1:Int)==(m:Int))=(q.1==m):=by rw[jE];simp only[beq_iff_eq];exact Int.natCast_inj
   have j:(((q.1 &&& m:Nat):Int)==(q.1:Int))=((q.1 &&& m)==q.1):=by rw[jE];simp only[beq_iff_eq];exact Int.natCast_inj
   rw[k,j];unfold bne;cases (q.1==m)<;>rfl
 unfold ua rV;rw[Gq e,M3];rfl
theorem vS(W:Wy)(i:W.length<dA):∀(L a:Wy) (x y:Option D),((a++L).map (·.1)).Nodup->(a++L).length<dA->∃d c,
  eS (AZ 2 3) my (L.map wI) [Y (wD W),Y (wD a),x,y]=Y (.nx [Y (wD W),Y (wD (a++L.filter λp=> !(W.any λq=>q.1 != p.1&&(q.1 &&& p.1)==q.1))),d,c])
 |[],a,x,y,_,_=>⟨x,y,by simp[eS]⟩
 | p::L,a,x,y,f,h=>by
  have g:AZ 2 3 (wI p) [Y (wD W),Y (wD a),x,y]=Y [Y (wD W),Y (wD a),Y (.int (p.1:Int)),Y (.tup p.2)]:=rfl;have t:=F2 W i p.1 (Y (wD a)) (Y (.tup p.2));rw[aW];cases e:W.any λq=>q.1 != p.1&&(q.1 &&& p.1)==q.1 with
  |true=>
   rw[e]at t;have b:my [Y (wD W),Y (wD a),Y (.int (p.1:Int)),Y (.tup p.2)]=Y (.nx [Y (wD W),Y (wD a),Y (.int (p.1:Int)),Y (.tup p.2)]):=by unfold my;rw[dh t];rfl
   rw[eH g b];obtain⟨d,c,q⟩:=vS W i L a _ _ (f.sublist ((List.Sublist.append_left (List.sublist_cons_self p L) a).map _)) (by simp at h ⊢;omega);exact⟨d,c,by rw[q,bW,e];rfl⟩
  |false=>
   rw[e]at t;have j:(a.any λq=>q.1==p.1)=false:=by rw[mo];intro q k z;rw[gy,gm]at f;exact f.2.2 _ (bc.mpr ⟨q,k,rfl⟩) p.1 Ž (by simpa using z)
   have b:my [Y (wD W),Y (wD a),Y (.int (p.1:Int)),Y (.tup p.2)]=Y (.nx [Y (wD W),Y (wD (a++[p])),Y (.int (p.1:Int)),Y (.tup p.2)]):=by unfold my;rw[iT t,HS (m:=p.1) (W:=a) rfl rfl rfl (by simp at h;omega) j];rfl
   rw[eH g b];obtain⟨d,c,q⟩:=vS W i L (a++[p]) (Y (.int (p.1:Int))) (Y (.tup p.2)) (by simpa using f) (by simpa using h);exact⟨d,c,by rw[q,bW,e];simp⟩
def yq{W:Wy}(h:WB W):nP [wD W]=Y (wD (BZ W)):=by
 show (xm [Y (wD W),M,M,M]).bind iY=_;unfold xm;rw[aB (ρ':=[Y (wD W),Y (wD []),M,M]) rfl];obtain⟨x,y,q⟩:=vS W h.len W [] M M (by simpa using h.nd) (by simpa using h.len);have i:j6 (eV 0) [Y (wD W),Y (wD []),M,M]=Y (W.map wI):=by rw[<- AW];rfl
 rw[aB ((gB i).trans q)];rfl
def any_put{W:Wy}{p:Nat×List D}:j3 W p=if W.any (λq=>q.1==p.1)=Z' then W else W++[p]:=rfl
def WB.put{W:Wy}{p:Nat×List D}(h:WB W)(b:Bd p):WB (j3 W p):=⟨Jb h.nd,λq a=>by
 rw[any_put]at a;split at a
 ·exact h.lt q a
 ·rcases aD.mp a with z|z
  ·exact h.lt q z
  ·simp at z;subst z;exact b⟩
theorem WB.fold:∀(L:Wy){W:Wy},WB W->(∀p∈L,Bd p)->WB (L.foldl j3 W)
 |[],_,h,_=>h|p::L,_,h,b=>WB.fold L (h.put (b p Ž)) λq a=>b q (by simp[a])
def WB.nil:WB []:=⟨Ž,λp h=>by cases h⟩
def Fq{f:DF}{a:bY}{W:Wy}{p:Nat×List D}(h:WB W)(c:f a=Y (.int (p.1:Int)))(d:g a=Y (.tup p.2))(b:eV j a=Y (wD W)):ie (cT (e2 (qr Z') f (eV j))) (pq j f g) dG a=Y (.nx (a.set j (Y (wD (j3 W p))))):=by
 have t:=Lm c b;rw[any_put];cases e:W.any λq=>q.1==p.1 with
 |true=>rw[e]at t;rw[dh t];simp only[if_true];show Y (DO.nx a)=_;rw[ri (gY b)]
 |false=>rw[e]at t;rw[iT t,HS c d b h.len e];simp
theorem DI{r0 r2:Option D}:∀(L a:Wy) (x y:Option D),WB a->(∀p∈L,Bd p)->∃d c,eS (AZ 3 4) pW (L.map wI) [r0,Y (wD a),r2,x,y]=Y (.nx [r0,Y (wD (L.foldl j3 a)),r2,d,c])
 |[],a,x,y,_,_=>⟨x,y,rfl⟩| p::L,a,x,y,h,b=>by
  have f:pW [r0,Y (wD a),r2,Y (.int (p.1:Int)),Y (.tup p.2)]=Y (.nx [r0,Y (wD (j3 a p)),r2,Y (.int (p.1:Int)),Y (.tup p.2)]):=by unfold pW;rw[Fq (p:=p) h rfl rfl rfl];rfl
  rw[aW,eH (ρ1:=[r0,Y (wD a),r2,Y (.int (p.1:Int)),Y (.tup p.2)]) rfl f];exact DI L _ _ _ (h.put (b p Ž)) λq e=>b q (by simp[e])
theorem AG{r0:Option D}:∀(R:List Wy) (a:Wy) (x y z:Option D),WB a->(∀W∈R,∀p∈W,Bd p)->∃e d c,eS (gN 2) pV (R.map wD) [r0,Y (wD a),x,y,z]=Y (.nx [r0,Y (wD (R.flatten.foldl j3 a)),e,d,c])
 |[],a,x,y,z,_,_=>⟨x,y,z,rfl⟩| W::R,a,x,y,z,h,b=>by
  obtain⟨k,j,q⟩:=DI (r0:=r0) (r2:=Y (wD W)) W a y z h (b W Ž);have g:pV [r0,Y (wD a),Y (wD W),y,z]=Y (.nx [r0,Y (wD (W.foldl j3 a)),Y (wD W),k,j]):=by
   unfold pV;have i:j6 (eV 2) [r0,Y (wD a),Y (wD W),y,z]=Y (W.map wI):=by rw[<- AW];rfl
   rw[gB i,q]
  rw[aW,eH (ρ1:=[r0,Y (wD a),Y (wD W),y,z]) rfl g,gq,List.foldl_append];exact AG R _ _ _ _ (h.fold W (b W Ž)) λV f=>b V (by simp[f])
def AF{R:List Wy}(b:∀W∈R,∀p∈W,Bd p):lA [.lst (R.map wD)]=Y (wD (cp R.flatten)):=by
 show (uJ [Y (.lst (R.map wD)),M,M,M,M]).bind iY=_;unfold uJ;rw[aB (ρ':=[Y (.lst (R.map wD)),Y (wD []),M,M,M]) rfl];obtain⟨x,y,z,q⟩:=AG (r0:=Y (.lst (R.map wD))) R [] M M M .nil b;rw[aB ((gB (c:=R.map wD) rfl).trans q)];refine px ?_;rw[oW (d:=wD (R.flatten.foldl j3 [])) rfl,yq (WB.nil.fold _ λp a =>?_)]
 ·rfl
 ·obtain⟨W,c,h⟩:=List.mem_flatten.mp a;exact b W c p h
theorem Hy{r0 r1:Option D}(p:Nat×List D):∀(B a:Wy) (x y:Option D),WB a->(∀q∈B,Bd (p.1 ||| q.1,p.2++q.2))->∃e d,eS (AZ 5 6) pY (B.map wI) [r0,r1,Y (wD a),Y (.int (p.1:Int)),Y (.tup p.2),x,y]=Y (.nx [r0,r1,Y (wD ((B.map λq=>(p.1 ||| q.1,p.2++q.2)).foldl j3 a)),Y (.int (p.1:Int)),Y (.tup p.2),e,d])
 |[],a,x,y,_,_=>⟨x,y,rfl⟩| q::B,a,x,y,h,b=>by
  have c:=b q Ž;have g:pY [r0,r1,Y (wD a),Y (.int (p.1:Int)),Y (.tup p.2),Y (.int (q.1:Int)),Y (.tup q.2)]=Y (.nx [r0,r1,Y (wD (j3 a (p.1 ||| q.1,p.2++q.2))),Y (.int (p.1:Int)),Y (.tup p.2),Y (.int (q.1:Int)),Y (.tup q.2)]):=by
   unfold pY;rw[Fq (p:=(p.1 ||| q.1,p.2++q.2)) h ?_ ?_ rfl]
   ·rfl
   ·show Y (D.int (bO (p.1:Int) (q.1:Int)))=_;rw[pZ]
   ·show (if p.2.length+q.2.length<=dA then Y (D.tup (p.2++q.2)) else M)=_;rw[if_pos];have:=c.2;simp only[aP]at this;exact a7 this ſ
  rw[aW,aW,eH (ρ1:=[r0,r1,Y (wD a),Y (.int (p.1:Int)),Y (.tup p.2),Y (.int (q.1:Int)),Y (.tup q.2)]) rfl g];exact Hy p B _ _ _ (h.put c) λr f=>b r (by simp[f])
theorem DX{r0:Option D}(B:Wy):∀(A c:Wy) (a b x y:Option D),WB c->(∀p∈lV A B,Bd p)->∃o n g f,eS (AZ 3 4) pX (A.map wI) [r0,Y (wD B),Y (wD c),a,b,x,y]=Y (.nx [r0,Y (wD B),Y (wD ((lV A B).foldl j3 c)),o,n,g,f])
 |[],c,a,b,x,y,_,_=>⟨a,b,x,y,rfl⟩| p::A,c,a,b,x,y,h,d=>by
  have e:lV (p::A) B=(B.map λq=>(p.1 ||| q.1,p.2++q.2))++lV A B:=rfl;rw[e]at d;have m:∀q∈B,Bd (p.1 ||| q.1,p.2++q.2):=λq k=>d _ (aJ _ (bc.mpr ⟨q,k,rfl⟩))
  obtain⟨g,f,q⟩:=Hy (r0:=r0) (r1:=Y (wD B)) p B c x y h m;have l:pX [r0,Y (wD B),Y (wD c),Y (.int (p.1:Int)),Y (.tup p.2),x,y]=Y (.nx [r0,Y (wD B),Y (wD ((B.map λq=>(p.1 ||| q.1,p.2++q.2)).foldl j3 c)),Y (.int (p.1:Int)),Y (.tup p.2),g,f]):=by
   unfold pX;have i:j6 (eV 1) [r0,Y (wD B),Y (wD c),Y (.int (p.1:Int)),Y (.tup p.2),x,y]=Y (B.map wI):=by rw[<- AW];rfl
   rw[gB i,q]
  rw[aW,eH (ρ1:=[r0,Y (wD B),Y (wD c),Y (.int (p.1:Int)),Y (.tup p.2),x,y]) rfl l,e,List.foldl_append];exact DX B A _ _ _ _ _ (h.fold _ λr j=>d r (aJ _ j)) λr j=>d r (aH _ j)
def AR{A B:Wy}(b:∀p∈lV A B,Bd p):o_ [wD A,wD B]=Y (wD (cp (lV A B))):=by
 show (uK [Y (wD A),Y (wD B),M,M,M,M,M]).bind iY=_;unfold uK;rw[aB (ρ':=[Y (wD A),Y (wD B),Y (wD []),M,M,M,M]) rfl];obtain⟨x,y,z,u,q⟩:=DX (r0:=Y (wD A)) B A [] M M M M .nil b;have i:j6 (eV 0) [Y (wD A),Y (wD B),Y (wD []),M,M,M,M]=Y (A.map wI):=by rw[<- AW];rfl
 rw[aB ((gB i).trans q)];refine px ?_;rw[oW (d:=wD ((lV A B).foldl j3 [])) rfl,yq (WB.nil.fold _ b)];rfl
abbrev CO:List aG:=["question", "bits", "by_name", "by_text", "starred", "stars", "inner", "leads", "asks"]
structure FR(F:Fa)(ds:List D):Prop where
 steps:∀n,iV [.ins "Facts" CO ds,.str n]=some (.int (F.named n:Nat))
 text:∀t,fI [.ins "Facts" CO ds,.str t]=some (.int (F.text t:Nat))
 lift:∀a b:Nat,kI [.ins "Facts" CO ds,.int (a:Int),.int (b:Int)]=some (.int (lift F a b:Nat))
abbrev jk:List aG:=["facts", "mark", "fresh", "longest"]
def jD(F:Fa)(a:List D):D :=.ins "Judge" jk [.ins "Facts" CO a,.int (F.mark:Nat),.str F.fresh,.int (F.long:Nat)]
def vZ{F:Fa}(h:eV 0 a=Y (jD F b)):d9 "Judge" "facts" (eV 0) a=Y (.ins "Facts" CO b):=by unfold d9;rw[h];rfl
def BR{m:aG}{f:DF}{args:List D}(c:m∉CO)(e:f a=Y (.ins "Facts" CO b))(d:g a=Y args):mT "Facts" m G f g a=G (.ins "Facts" CO b::args):=by
 unfold mT;rw[e,d];show (if _ then _ else _)=_;rw[if_pos ⟨rfl,c⟩];rfl
theorem CV{F:Fa}(R:FR F c)(n:aG){r2:Option D}:∀(L a:Wy) (x y z:Option D),WB a->(∀p∈eB F n L,Bd p)->∃j i g,eS (AZ 5 6) nG (L.map wI) [Y (jD F c),Y (.str n),r2,Y (.int (F.named n:Nat)),Y (wD a),x,y,z]=Y (.nx [Y (jD F c),Y (.str n),r2,Y (.int (F.named n:Nat)),Y (wD ((eB F n L).foldl j3 a)),j,i,g])
 |[],a,x,y,z,_,_=>⟨x,y,z,rfl⟩| p::L,a,x,y,z,h,b=>by
  have e:eB F n (p::L)=(lift F (F.named n) p.1,CN n::(p.2++[EK]))::eB F n L:=rfl;rw[e]at b;have f:=b _ (aF ..);have l:nG [Y (jD F c),Y (.str n),r2,Y (.int (F.named n:Nat)),Y (wD a),Y (.int (p.1:Int)),Y (.tup p.2),z]=Y (.nx [Y (jD F c),Y (.str n),r2,Y (.int (F.named n:Nat)),Y (wD (j3 a (lift F (F.named n) p.1,CN n::(p.2++[EK])))),Y (.int (p.1:Int)),Y (.tup p.2),Y (.int (lift F (F.named n) p.1:Nat))]):=by
   unfold nG;rw[aB (dr (d :=.int (lift F (F.named n) p.1:Nat)) ?_)]
   ·simp only[aY,aZ];rw[Fq (p:=(lift F (F.named n) p.1,CN n::(p.2++[EK]))) h rfl ?_ rfl]
    ·rfl
    ·have m:p.2.length+2<=10000:=by have:=f.2;simp at this;omega
     have d:e2 yh no (eV 6) [Y (jD F c),Y (.str n),r2,Y (.int (F.named n:Nat)),Y (wD a),Y (.int (p.1:Int)),Y (.tup p.2),Y (.int (lift F (F.named n) p.1:Nat))]=Y (.tup ([CN n]++p.2)):=by show (if 1+p.2.length<=dA then Y (D.tup ([CN n]++p.2)) else M)=_;rw[if_pos (a7 (show 1+p.2.length<=10000 by omega) (by decide))]
     show (e2 yh _ _ _)=_;unfold e2 at d ⊢;rw[d];show (if ([CN n]++p.2).length+1<=dA then Y (D.tup (([CN n]++p.2)++[EK])) else M)=_;rw[if_pos (a7 (show _<=10000 by simp;omega) (by decide))];simp
   ·rw[BR (by decide) (vZ rfl) rfl];exact R.lift _ _
  rw[aW,eH (ρ1:=[Y (jD F c),Y (.str n),r2,Y (.int (F.named n:Nat)),Y (wD a),Y (.int (p.1:Int)),Y (.tup p.2),z]) rfl l,e,pd];exact CV R n L _ _ _ _ (h.put f) λr k=>b r (aj _ k)
def xD{F:Fa}(R:FR F a)(n:aG){W:Wy}(b:∀p∈eB F n W,Bd p):o6 [jD F a,.str n,wD W]=Y (wD (cp (eB F n W))):=by
 show (rJ [Y (jD F a),Y (.str n),Y (wD W),M,M,M,M,M]).bind iY=_;unfold rJ;rw[aB (dr (d :=.int (F.named n:Nat)) (by rw[BR (by decide) (vZ rfl) rfl];exact R.steps n))];simp only[aY,aZ];rw[aB (ρ':=[Y (jD F a),Y (.str n),Y (wD W),Y (.int (F.named n:Nat)),Y (wD []),M,M,M]) rfl];obtain⟨x,y,z,q⟩:=CV R n (r2:=Y (wD W)) W [] M M M .nil b;have i:j6 (eV 2) [Y (jD F a),Y (.str n),Y (wD W),Y (.int (F.named n:Nat)),Y (wD []),M,M,M]=Y (W.map wI):=by rw[<- AW];rfl
 rw[aB ((gB i).trans q)];refine px ?_;rw[oW (d:=wD ((eB F n W).foldl j3 [])) rfl,yq (WB.nil.fold _ b)];rfl
noncomputable abbrev kS(x:String):D :=.str (ab x)
def eC(b:Bool):aG:=if b then ab "inner" else ab "own"
def cL:Option aG->aG
 |none=>ab "*"|some n=>n
mutual
def cq:Wi->D
 |.any =>.tup [kS "any"]|.txt t =>.tup [kS "text",.str t]|.has s =>.tup [kS "has",.lst (dR s)]|.both w =>.tup [kS "both",.lst (iW w)]|.one w =>.tup [kS "one",.lst (iW w)]
def iW:Ws->List D
 |.nil=>[]|.cons w r=>cq w::iW r
def dR:Ss->List D
 |.nil=>[]|.cons b a w r =>.tup [.str (eC b),.str (cL a),cq w]::dR r
end
def MX{F:Fa}{e:List Tr->Prop}{W:Wy}(d:∀f,fA F f<2 ^ 19)(h:lW F e W)(l:∀f,e f->(kb f).length<=10000):∀p∈W,Bd p:=λp c=>by
 obtain⟨f,m,a,b⟩:=h.snd p c;exact⟨a ▸ d f,b ▸ l f m⟩
def Ik{F:Fa}{g:List Tr->Prop}{W:Wy}(e:∀f,fA F f<2 ^ 19)(h:lW F g W)(n:aG)(l:∀f,g f->(kb f).length+2<=10000):∀p∈eB F n W,Bd p:=λp d=>by
 obtain⟨q,c,rfl⟩:=bc.mp d;obtain⟨f,m,a,b⟩:=h.snd q c;refine⟨?_,?_⟩
 ·have:=e [.nd n f];rw[nZ,tA,a]at this;exact this
 ·have:=l f m;rw[b]at this;simp;omega
def Il{F:Fa}{t:List Tr->Prop}{A B:Wy}(s:∀f,fA F f<2 ^ 19)(h:lW F t A)(k:lW F N B)(l:∀f g,t f->N g->(kb f).length+(kb g).length<=10000):∀p∈lV A B,Bd p:=λp o=>by
 obtain⟨q,j,e⟩:=EF.mp o;obtain⟨r,i,rfl⟩:=bc.mp e;obtain⟨f,m,a,b⟩:=h.snd q j;obtain⟨g,n,c,d⟩:=k.snd r i;refine⟨?_,?_⟩
 ·have:=s (f++g);rw[yD,a,c]at this;exact this
 ·have:=l f g m n;rw[b,d]at this;simpa using this
theorem uf{F:Fa}{n:aG}{g:List Tr}:∀k,(kb [lT F k (.nd n g)]).length=(kb g).length+2+2*k
 |0=>by simp[lT,kb,K30.Bv]
 |k+1=>by have:=uf (F:=F) (n:=n) (g:=g) k;simp only[lT,kb,K30.Bv,aP,aK,jC]at this ⊢;omega
theorem Hx{F:Fa}{c:List D}(R:FR F c)(e:∀f,fA F f<2 ^ 19){A:List Tr->Prop}(n:aG){r1 r2 r3:Option D}:∀(L:List D) (j:Nat) (p:Wy×Wy) (x:Option D),(∀g,A g->(kb g).length+2+2*(j+L.length)<=10000) ->
  lW F (λf=>∃g,A g/\f=[lT F j (.nd n g)]) p.1->lW F (λf=>∃g i,A g/\i<=j/\f=[lT F i (.nd n g)]) p.2 ->
  ∃a k,eS (gN 6) lg L [Y (jD F c),r1,r2,r3,Y (wD p.1),Y (wD p.2),x]=Y (.nx [Y (jD F c),r1,r2,r3,a,Y (wD (layW F L.length p).2),k])
 |[],j,p,x,_,_,_=>⟨_,x,rfl⟩| d::L,j,p,x,l,a,b=>by
  simp only[aK]at l;have s:lW F (λf=>∃g,A g/\f=[lT F (j+1) (.nd n g)]) (K30.cp (eB F F.fresh p.1)):=(a.wrap F.fresh).imp λf=>by
   constructor
   ·rintro⟨_,⟨g,m,rfl⟩,rfl⟩;exact⟨g,m,rfl⟩
   ·rintro⟨g,m,rfl⟩;exact⟨_,⟨g,m,rfl⟩,rfl⟩
  have o:∀r∈K30.cp (eB F F.fresh p.1),Bd r:=MX e s (by rintro f ⟨g,m,rfl⟩;rw[uf];have:=l g m;omega)
  have w:=xD R F.fresh (Ik e a F.fresh (by rintro f ⟨g,m,rfl⟩;rw[uf];have:=l g m;omega));have t:=AF (R:=[p.2,K30.cp (eB F F.fresh p.1)]) (by
   intro W v;simp at v;rcases v with rfl|rfl
   ·exact MX e b (by rintro f ⟨g,i,m,u,rfl⟩;rw[uf];have:=l g m;omega)
   ·exact o)
  have y:lg [Y (jD F c),r1,r2,r3,Y (wD p.1),Y (wD p.2),Y d]=Y (.nx [Y (jD F c),r1,r2,r3,Y (wD (K30.cp (eB F F.fresh p.1))),Y (wD (K30.cp (p.2++K30.cp (eB F F.fresh p.1)))),Y d]):=by
   unfold lg;rw[aB (dr (d:=wD (K30.cp (eB F F.fresh p.1))) w)];simp only[aY,aZ];rw[dr (d:=wD (K30.cp (p.2++K30.cp (eB F F.fresh p.1))))]
   ·rfl
   ·have:[p.2,K30.cp (eB F F.fresh p.1)].flatten=p.2++K30.cp (eB F F.fresh p.1):=by simp
    rw[this]at t;exact t
  rw[eH (ρ1:=[Y (jD F c),r1,r2,r3,Y (wD p.1),Y (wD p.2),Y d]) rfl y];obtain⟨z,k,q⟩:=Hx R e n (r1:=r1) (r2:=r2) (r3:=r3) L (j+1) (K30.cp (eB F F.fresh p.1),K30.cp (p.2++K30.cp (eB F F.fresh p.1))) (Y d) (λg m=>by have:=l g m;omega) s ((b.append s).gather.imp λf=>by
   constructor
   ·rintro(⟨g,i,m,u,rfl⟩|⟨g,m,rfl⟩)
    ·exact⟨g,i,m,ž,rfl⟩
    ·exact⟨g,j+1,m,aw _,rfl⟩
   ·rintro⟨g,i,m,u,rfl⟩;by_cases h:i<=j
    ·exact .inl ⟨g,i,m,h,rfl⟩
    ·have:i=j+1:=by omega
     subst this;exact .inr ⟨g,m,rfl⟩)
  exact⟨z,k,q⟩
def xr(x y:aG):lH (.str x) (.str y)=(x==y):=by simp[lH]
theorem Bq{F:Fa}{d:List D}(R:FR F d)(l:∀f,fA F f<2 ^ 19){A:List Tr->Prop}{W:Wy}(h:lW F A W)(b:Bool)(c:Option aG)(w:D)(o:c≠Y (ab "*"))(k:∀g,A g->(kb g).length+2+2*F.long<=10000)(v:F.long<=1000):
  nO [jD F d,.tup [.str (eC b),.str (cL c),w],wD W]=Y (wD (Ai F b c W)):=by
 show (nB [Y (jD F d),Y (.tup [.str (eC b),.str (cL c),w]),Y (wD W),M,M,M,M]).bind iY=_;unfold nB;rw[aB (dr (d :=.str (dt F c)) ?nm0)]
 case nm0=>
  have e:cT (e2 gj (e2 b9 (eV 1) v6) ce) [Y (jD F d),Y (.tup [.str (eC b),.str (cL c),w]),Y (wD W),M,M,M,M]=Y (lH (.str (cL c)) (.str (ab "*"))):=rfl;unfold Pc;rw[e,xr];cases c with
  |none=>rfl|some n=>
   have:(cL (Y n)==ab "*")=false:=by rw[beq_eq_false_iff_ne];intro z;exact o (by rw[<- z];rfl)
   rw[this];rfl
 simp only[aY,aZ];have a:=h.wrap (dt F c);rw[aB (dr (d:=wD (K30.cp (eB F (dt F c) W))) (xD R (dt F c) (Ik l h (dt F c) λf m=>by have:=k f m;omega)))];simp only[aY,aZ];have e:cT (e2 gj (e2 b9 (eV 1) f8) sn) [Y (jD F d),Y (.tup [.str (eC b),.str (cL c),w]),Y (wD W),Y (.str (dt F c)),Y (wD (K30.cp (eB F (dt F c) W))),M,M]=Y (lH (.str (eC b)) (.str (ab "own"))):=rfl;cases b with
 |false=>
  have t:lH (.str (eC Z_)) (.str (ab "own"))=true:=by decide +kernel
  rw[t]at e;unfold bp;rw[iT e];rfl
 |true=>
  have t:lH (.str (eC Z')) (.str (ab "own"))=false:=by decide +kernel
  rw[t]at e;rw[aB (ρ':=[Y (jD F d),Y (.tup [.str (eC Z'),.str (cL c),w]),Y (wD W),Y (.str (dt F c)),Y (wD (K30.cp (eB F (dt F c) W))),M,M]) (by rw[dh e];rfl)];rw[aB (dr (d:=wD (K30.cp (eB F (dt F c) W))) rfl)];simp only[aY,aZ];have j:(fG 0 F.long).length=F.long:=by simp[fG]
  obtain⟨y,u,q⟩:=Hx R l (dt F c) (r1:=Y (.tup [.str (eC Z'),.str (cL c),w])) (r2:=Y (wD W)) (r3:=Y (.str (dt F c))) (fG 0 F.long) 0 (K30.cp (eB F (dt F c) W),K30.cp (eB F (dt F c) W)) M (λg m=>by rw[j];have:=k g m;omega) a (a.imp λf=>by
   constructor
   ·rintro⟨g,m,e⟩;exact⟨g,0,m,aw _,e⟩
   ·rintro⟨g,i,m,x,e⟩;have z:i=0:=by omega
    subst z;exact⟨g,m,e⟩)
  rw[j]at q;have i:wL (d9 "Judge" "longest" (eV 0)) [Y (jD F d),Y (.tup [.str (eC Z'),.str (cL c),w]),Y (wD W),Y (.str (dt F c)),Y (wD (K30.cp (eB F (dt F c) W))),Y (wD (K30.cp (eB F (dt F c) W))),M]=Y (fG 0 F.long):=by
   have s:d9 "Judge" "longest" (eV 0) [Y (jD F d),Y (.tup [.str (eC Z'),.str (cL c),w]),Y (wD W),Y (.str (dt F c)),Y (wD (K30.cp (eB F (dt F c) W))),Y (wD (K30.cp (eB F (dt F c) W))),M]=Y (.int (F.long:Nat)):=rfl;have p:((F.long:Nat):Int)<=1000:=by omega
   have r:(0:Int)<=((F.long:Nat):Int):=by omega
   rw[B5 s ⟨mq (by decide) r,gX p (by decide)⟩,cN]
  rw[aB ((gB i).trans q)];unfold Ai;rw[if_pos rfl];rfl
mutual
def Ts:Wi->Prop
 |.any=>True|.txt _=>True|.has s=>ER s|.both w=>PV w|.one w=>PV w
def PV:Ws->Prop
 |.nil=>True|.cons w r=>Ts w/\PV r
def ER:Ss->Prop
 |.nil=>True|.cons _ a w r=>a≠Y (ab "*")/\Ts w/\ER r
end
mutual
def je:Wi->Nat
 |.any=>1|.txt _=>1|.has s=>1+n_ s|.both w=>1+wA w|.one w=>1+wA w
def wA:Ws->Nat
 |.nil=>0|.cons w r=>max (je w) (wA r)
def n_:Ss->Nat
 |.nil=>1|.cons _ _ w r=>max (1+je w) (n_ r)
end
mutual
def Jt(F:Fa):Wi->Nat
 |.any=>0|.txt _=>1|.has s=>NB F 0 s|.both w=>EL F w|.one w=>EL F w
def EL(F:Fa):Ws->Nat
 |.nil=>0|.cons w r=>Jt F w+EL F r
def NB(F:Fa)(e:Nat):Ss->Nat
 |.nil=>e|.cons _ _ w r=>NB F e r+Jt F w+2+2*F.long
end
mutual
theorem qR{F:Fa}:∀(w:Wi){f:List Tr},MW F w f->(kb f).length<=Jt F w
 |.any,f,h=>by have h:f=[]:=h;subst h;simp[kb]
 |.txt t,f,h=>by have h:f=[.txt t]:=h;subst h;simp[kb,K30.Bv,Jt]
 |.has s,f,h=>BY (g0:=[]) (e:=0) (by simp[kb]) s h
 |.both w,f,h=>LP w h|.one w,f,h=>LO w h
theorem LP{F:Fa}:∀(w:Ws){f:List Tr},MA F w f->(kb f).length<=EL F w
 |.nil,f,h=>by have h:f=[]:=h;subst h;simp[kb]
 |.cons w r,f,⟨g,h,a,b,e⟩=>by subst e;have:=qR w a;have:=LP r b;rw[rB,aP,EL];omega
theorem LO{F:Fa}:∀(w:Ws){f:List Tr},ME F w f->(kb f).length<=EL F w
 |.nil,f,h=>h.elim| .cons w r,f,h=>by
  rw[EL];rcases h with h|h
  ·have:=qR w h;omega
  ·have:=LO r h;omega
theorem BY{F:Fa}{g0:List Tr}{e:Nat}(d:(kb g0).length<=e):∀(s:Ss){f:List Tr},MS F g0 s f->(kb f).length<=NB F e s
 |.nil,f,h=>by have h:f=g0:=h;subst h;exact d
 | .cons b j w r,f,⟨g,h,k,a,c,i,q⟩=>by
  subst q;have:=BY d r a;have:=qR w c;rw[uf,rB,aP,NB];have:k<=F.long:=by split at i<;>omega
  omega
end
def jM(F:Fa):Ws->List Wy
 |.nil=>[]|.cons w r=>kO F w::jM F r
theorem Df(F:Fa):∀w:Ws,(jM F w).flatten=Gp F w
 |.nil=>by simp[jM,Gp]
 |.cons w r=>by rw[jM,gq,Df F r,Gp]
inductive Runs (τ:zW) (g:DG):List D->bY->bY->Prop
 |nil {ρ}:Runs τ g [] ρ ρ
 |cons {d b ρ ρ1 ρ2 ρ3}:τ d ρ=some ρ1->g ρ1=some (.nx ρ2)->Runs τ g b ρ2 ρ3->Runs τ g (d::b) ρ ρ3
def Runs.ev{d:zW}{l:List D}{ρ c:bY}(h:Runs d g l ρ c):eS d g l ρ=Y (.nx c):=by
 induction h with|nil=>rfl|cons a b _ ih=>rw[eH a b,ih]
def Runs.app{d:zW}{ρ1:bY}(h:Runs d g a e ρ1)(k:Runs d g b ρ1 c):Runs d g (a++b) e c:=by
 induction h with|nil=>exact k|cons x y _ ih=>exact .cons x y (ih k)
def Ig{f:DF}{d:D}(h:f a=Y d)(k:g a=Y e):a_ G (aC f (aC g aN)) a=G [d,e]:=by unfold a_ aC;rw[h,k];rfl
def wD0:qk f8 (dN aN) a=Y (wD [(0,[])]):=rfl
def nA{F:Fa}:cT (e2 gj (e2 b9 (eV 1) f8) (eK (kS k))) [Y (jD F d),Y (.tup (kS x::r)),a,b,c]=cT (λ_=>gj (kS x) (kS k)) []:=by
 have e:e2 b9 (eV 1) f8 [Y (jD F d),Y (.tup (kS x::r)),a,b,c]=Y (kS x):=by show p_ (kS x::r) ((0:Nat):Int)=_;exact eT (j:=0) rfl
 unfold cT e2 at *
 rw[e];rfl
def WQ(h:eV 1 a=Y (.tup (x::y::r))):e2 b9 (eV 1) v6 a=Y y:=by
 unfold e2;rw[h];show p_ (x::y::r) ((1:Nat):Int)=_;exact eT (j:=1) rfl
structure JO(F:Fa)(ds:List D):Prop where
 fr:FR F ds
 hA:∀f,fA F f<2 ^ 19
 hk:F.long<=1000
def Vj{F:Fa}:lW F (λf=>f=[]) [(0,[])]:=(lW.one (F:=F) (f:=[])).imp λf=>rT
mutual
def Iw:Wi->Prop
 |.any=>True|.txt _=>True|.has s=>Um s|.both w=>QT w|.one w=>QT w
def QT:Ws->Prop
 |.nil=>True|.cons w r=>((iW r).length<1000/\Iw w)/\QT r
def Um:Ss->Prop
 |.nil=>True|.cons _ _ w r=>Iw w/\Um r
end
theorem Ki:∀(w:Ws),QT w->(iW w).length<=1000
 |.nil,_=>by simp[iW]
 |.cons w r,h=>by have:=h.1.1;simp only[iW,aK];omega
theorem pP:∀s:Ss,1<=n_ s
 |.nil=>by simp[n_]
 |.cons _ _ w r=>by have:=pP r;simp only[n_];omega
theorem G7{F:Fa}(J:JO F a):∀(w:Ws),EL F w<=10000->∀W∈jM F w,∀p∈W,Bd p
 |.nil,_,W,h=>by simp[jM]at h
 | .cons w r,l,W,h=>by
  rw[EL]at l;rw[jM]at h;rcases au.mp h with rfl|h
  ·exact MX J.hA (ng F w) λf m=>by have:=qR w m;omega
  ·exact G7 J r ž W h
theorem Ii{F:Fa}{a:List D}(J:JO F a){r1 r2:Option D}{A B:List D->Option D}:∀(w:Ws){i:List Tr->Prop}{W:Wy}{k:Nat}{x:Option D},lW F i W->(∀f,i f->(kb f).length<=k)->k+EL F w<=10000->∃c,Runs (gN 4) (oh A B) ((jM F w).map wD) [Y (jD F a),r1,r2,Y (wD W),x] [Y (jD F a),r1,r2,Y (wD (Bl F W w)),c]
 |.nil,i,W,k,x,_,_,_=>⟨x,by simp only[jM,Bl,qg];exact .nil⟩
 | .cons w r,i,W,k,x,h,l,b=>by
  rw[EL]at b;have d:=AR (Il J.hA h (ng F w) λf g m n=>by have:=l f m;have:=qR w n;omega);obtain⟨c,q⟩:=Ii J (r1:=r1) (r2:=r2) (A:=A) (B:=B) r (x:=Y (wD (kO F w))) (k:=k+Jt F w) (h.join (ng F w)) (by rintro f ⟨g,e,m,n,rfl⟩;have:=l g m;have:=qR w n;rw[rB,aP];omega) ž
  refine⟨c,?_⟩;rw[jM,aW,Bl];refine .cons (ρ1:=[Y (jD F a),r1,r2,Y (wD W),Y (wD (kO F w))]) rfl ?_ q;unfold oh;rw[dr (d:=wD (K30.cp (lV W (kO F w)))) d];rfl
def GZ{F:Fa}(c:(iW w).length<=1000)(h:oO [M,Y (jD F b)] (gN 0) fj (a_ G (aC (eV 1) (aC (eV 0) aN))) (iW w)=Y ((jM F w).map wD))(e:eV 0 a=Y (jD F b))(d:e2 b9 (eV 1) v6 a=Y (.lst (iW w))):eF (mY (iL (e2 b9 (eV 1) v6)) [M,Y 0] (gN 0) fj (a_ G (aC (eV 1) (aC (eV 0) aN)))) a=Y (.lst ((jM F w).map wD)):=by
 unfold eF mY iL;rw[d];have s:kM [M,Y 0] a=[M,Y (jD F b)]:=by show [M,(a[0]?).getD M]=_;rw[gY e];rfl
 rw[s];show ((if (iW w).length<=dA then oO [M,Y (jD F b)] (gN 0) fj (a_ G (aC (eV 1) (aC (eV 0) aN))) (iW w) else M).map D.lst)=_;rw[if_pos (a7 c (by decide)),h];rfl
def Ah{F:Fa}{s:Ss}{W V:Wy}{m:Nat}(h:Runs (gN 4) (kH (bV m) (bT m)) (dR s).reverse [Y (jD F a),Y (.lst (dR s)),Y (wD W),Y (wD W),M,M] [Y (jD F a),Y (.lst (dR s)),Y (wD W),Y (wD V),x,y]):bV (m+1) [jD F a,.lst (dR s),wD W]=Y (wD V):=by
 show (md (bV m) (bT m) [Y (jD F a),Y (.lst (dR s)),Y (wD W),M,M,M]).bind iY=_;unfold md;rw[aB (dr (d:=wD W) rfl)];simp only[aY,aZ];rw[aB ((gB (c:=(dR s).reverse) rfl).trans h.ev)];rfl
mutual
theorem GK{F:Fa}(J:JO F a):∀(w:Wi) (m:Nat),je w<=m->Ts w->Iw w->Jt F w<=10000->bT m [jD F a,cq w]=Y (wD (kO F w))
 |.any,0,h,_,z,_=>by simp[je]at h
 |.any,m+1,h,_,z,_=>by show (eO (bV m) (bT m) [Y (jD F a),Y (.tup [kS "any"]),M,M,M]).bind iY=_;unfold eO bp;rw[iT (nA.trans (by decide +kernel))];rfl
 |.txt t,0,h,_,z,_=>by simp[je]at h
 | .txt t,m+1,h,_,z,_=>by
  show (eO (bV m) (bT m) [Y (jD F a),Y (.tup [kS "text",.str t]),M,M,M]).bind iY=_;unfold eO;rw[aB (ρ':=[Y (jD F a),Y (.tup [kS "text",.str t]),M,M,M]) (by rw[dh (nA.trans (by decide +kernel))];rfl)];unfold bp;rw[iT (nA.trans (by decide +kernel))];have d:mT "Facts" "text_fact" fI (d9 "Judge" "facts" (eV 0)) (aC (e2 b9 (eV 1) v6) aN) [Y (jD F a),Y (.tup [kS "text",.str t]),M,M,M]=Y (.int (F.text t:Nat)):=by rw[BR (by decide) (vZ rfl) (args:=[.str t]) rfl];exact J.fr.text t
  have b:dN (aC Tl aN) [Y (jD F a),Y (.tup [kS "text",.str t]),M,M,M]=Y (.tup [Nw t]):=rfl;have:qk (mT "Facts" "text_fact" fI (d9 "Judge" "facts" (eV 0)) (aC (e2 b9 (eV 1) v6) aN)) (dN (aC Tl aN)) [Y (jD F a),Y (.tup [kS "text",.str t]),M,M,M]=Y (wD [(F.text t,[Nw t])]):=by unfold qk;rw[d,b];rfl
  unfold fF;rw[this];rfl
 |.has s,0,h,_,z,_=>by simp[je]at h
 | .has s,m+1,h,n,z,l=>by
  show (eO (bV m) (bT m) [Y (jD F a),Y (.tup [kS "has",.lst (dR s)]),M,M,M]).bind iY=_;unfold eO;rw[aB (ρ':=[Y (jD F a),Y (.tup [kS "has",.lst (dR s)]),M,M,M]) (by rw[dh (nA.trans (by decide +kernel))];rfl)];rw[aB (ρ':=[Y (jD F a),Y (.tup [kS "has",.lst (dR s)]),M,M,M]) (by rw[dh (nA.trans (by decide +kernel))];rfl)];unfold bp;rw[iT (nA.trans (by decide +kernel))];have:a_ (bV m) (aC (eV 0) (aC (e2 b9 (eV 1) v6) (aC (qk f8 (dN aN)) aN))) [Y (jD F a),Y (.tup [kS "has",.lst (dR s)]),M,M,M]=Y (wD (kO F (.has s))):=by
   show bV m [jD F a,.lst (dR s),wD [(0,[])]]=_;rw[kO];have c:n_ s<=m:=by simp only[je]at h;omega
   have g:=pP s;obtain⟨m,rfl⟩:∃k,m=k+1:=⟨m-1,ž⟩;obtain⟨x,y,q⟩:=vv J s (r2:=Y (wD [(0,[])])) (r1:=Y (.lst (dR s))) (x:=M) (y:=M) (g0:=[]) (e:=0) (by simp[kb]) Vj m c n (by simp only[Iw]at z;exact z) l;exact Ah q
  unfold fF;rw[this];rfl
 |.one w,0,h,_,z,_=>by simp[je]at h
 | .one w,m+1,h,n,z,l=>by
  show (eO (bV m) (bT m) [Y (jD F a),Y (.tup [kS "one",.lst (iW w)]),M,M,M]).bind iY=_;unfold eO;rw[aB (ρ':=[Y (jD F a),Y (.tup [kS "one",.lst (iW w)]),M,M,M]) (by rw[dh (nA.trans (by decide +kernel))];rfl)];rw[aB (ρ':=[Y (jD F a),Y (.tup [kS "one",.lst (iW w)]),M,M,M]) (by rw[dh (nA.trans (by decide +kernel))];rfl)];rw[aB (ρ':=[Y (jD F a),Y (.tup [kS "one",.lst (iW w)]),M,M,M]) (by rw[dh (nA.trans (by decide +kernel))];rfl)];rw[aB (dr (d :=.lst ((jM F w).map wD)) (GZ (Ki w (by simp only[Iw]at z;exact z)) (By J w m (by simp only[je]at h;omega) n (by simp only[Iw]at z;exact z) l) rfl (WQ rfl)))];simp only[aY,aZ];unfold bp;rw[iT (nA.trans (by decide +kernel))];have:a_ lA (aC (eV 2) aN) [Y (jD F a),Y (.tup [kS "one",.lst (iW w)]),Y (.lst ((jM F w).map wD)),M,M]=Y (wD (kO F (.one w))):=by show lA [.lst ((jM F w).map wD)]=_;rw[AF (G7 J w l),Df,kO]
  unfold fF;rw[this];rfl
 |.both w,0,h,_,z,_=>by simp[je]at h
 |.both w,m+1,h,n,z,l=>by show (eO (bV m) (bT m) [Y (jD F a),Y (.tup [kS "both",.lst (iW w)]),M,M,M]).bind iY=_;unfold eO;rw[aB (ρ':=[Y (jD F a),Y (.tup [kS "both",.lst (iW w)]),M,M,M]) (by rw[dh (nA.trans (by decide +kernel))];rfl)];rw[aB (ρ':=[Y (jD F a),Y (.tup [kS "both",.lst (iW w)]),M,M,M]) (by rw[dh (nA.trans (by decide +kernel))];rfl)];rw[aB (ρ':=[Y (jD F a),Y (.tup [kS "both",.lst (iW w)]),M,M,M]) (by rw[dh (nA.trans (by decide +kernel))];rfl)];rw[aB (dr (d :=.lst ((jM F w).map wD)) (GZ (Ki w (by simp only[Iw]at z;exact z)) (By J w m (by simp only[je]at h;omega) n (by simp only[Iw]at z;exact z) l) rfl (WQ rfl)))];simp only[aY,aZ];rw[aB (ρ':=[Y (jD F a),Y (.tup [kS "both",.lst (iW w)]),Y (.lst ((jM F w).map wD)),M,M]) (by rw[dh (nA.trans (by decide +kernel))];rfl)];rw[aB (dr (d:=wD [(0,[])]) wD0)];simp only[aY,aZ];obtain⟨x,q⟩:=Ii J (r1:=Y (.tup [kS "both",.lst (iW w)])) (r2:=Y (.lst ((jM F w).map wD))) (A:=bV m) (B:=bT m) w Vj (k:=0) (x:=M) (λf e=>by subst e;simp[kb]) (by simp only[Jt]at l;omega);rw[aB ((gB (c:=(jM F w).map wD) rfl).trans q.ev)];rw[kO];rfl
theorem By{F:Fa}(J:JO F a):∀(w:Ws) (m:Nat),wA w<=m->PV w->QT w->EL F w<=10000->oO [M,Y (jD F a)] (gN 0) fj (a_ (bT m) (aC (eV 1) (aC (eV 0) aN))) (iW w)=Y ((jM F w).map wD)
 |.nil,m,_,_,_,_=>rfl|.cons w r,m,h,n,z,l=>by simp only[wA]at h;rw[EL]at l;have e:=GK J w m ž n.1 z.1.2 ž;have q:=By J r m ž n.2 z.2 ž;rw[iW,oO,show gN 0 (cq w) [M,Y (jD F a)]=Y [Y (cq w),Y (jD F a)] from rfl];simp only[ae,fj,if_true];rw[show a_ (bT m) (aC (eV 1) (aC (eV 0) aN)) [Y (cq w),Y (jD F a)]=bT m [jD F a,cq w] from rfl,e];simp only[ae];rw[q,jM];rfl
theorem vv{F:Fa}{i:List D}(J:JO F i):∀(s:Ss){r1 r2 x y:Option D}{g0:List Tr}{e:Nat}{W:Wy},(kb g0).length<=e->lW F (λf=>f=g0) W->∀(m:Nat),n_ s<=m+1->ER s->Um s->NB F e s<=10000->∃o j,Runs (gN 4) (kH (bV m) (bT m)) (dR s).reverse [Y (jD F i),r1,r2,Y (wD W),x,y] [Y (jD F i),r1,r2,Y (wD (i7 F W s)),o,j]
 |.nil,r1,r2,x,y,g0,e,W,_,_,m,_,_,_,_=>⟨x,y,by simp only[dR,i7,List.reverse_nil];exact .nil⟩
 | .cons b d w r,r1,r2,x,y,g0,e,W,t,h,m,B,n,z,l=>by
  simp only[n_]at B;rw[NB]at l;obtain⟨o,j,q⟩:=vv J r (r1:=r1) (r2:=r2) (x:=x) (y:=y) t h m ž n.2.2 z.2 ž;have k:=qF F r h;have p:∀f,MS F g0 r f->(kb f).length<=NB F e r:=λf a=>BY t r a
  have u:=GK J w m ž n.2.1 z.1 ž;have A:=AR (Il J.hA k (ng F w) λf g a c=>by have:=p f a;have:=qR w c;omega);have v:=Bq J.fr J.hA (k.join (ng F w)) b d (cq w) n.1 (by rintro f ⟨g,E,a,c,rfl⟩;have:=p g a;have:=qR w c;rw[rB,aP];omega) J.hk
  refine⟨Y (.tup [.str (eC b),.str (cL d),cq w]),Y (wD (K30.cp (lV (i7 F W r) (kO F w)))),?_⟩;rw[dR,mm];refine q.app (.cons (ρ1:=[Y (jD F i),r1,r2,Y (wD (i7 F W r)),Y (.tup [.str (eC b),.str (cL d),cq w]),j]) rfl ?_ .nil);unfold kH;rw[aB (dr (d:=wD (K30.cp (lV (i7 F W r) (kO F w)))) ?ev)]
  case ev=>have C:a_ (bT m) (aC (eV 0) (aC (e2 b9 (eV 4) u8) aN)) [Y (jD F i),r1,r2,Y (wD (i7 F W r)),Y (.tup [.str (eC b),.str (cL d),cq w]),j]=Y (wD (kO F w)):=u;rw[Ig (d:=wD (i7 F W r)) rfl C];exact A
  simp only[aY,aZ];rw[dr (d:=wD (Ai F b d (K30.cp (lV (i7 F W r) (kO F w))))) v,i7];rfl
end
def Ac{f:DF}{ρ':bY}(r:res b c a=ρ')(e:f ρ'=Y d)(p:xX d=Z'):zK b c f a=Y d:=by unfold zK;rw[r,e];simp[p]
def Kp{f:DT}{ρ':bY}(r:res c d a=ρ')(e:f ρ'=Y b):Qe c d f a=Y b:=by unfold Qe;rw[r,e]
def Cw:1000000<=dA:=by unfold dA;decide
def i9(h:n<2000):n<dA:=bq (Nat.lt_trans h ſ) Cw
def Rg{p:Nat}(h:p<=1000):qM (.int 1) (.int (p:Int))=Y (.int (2 ^ p)):=by
 simp only[qM];rw[if_pos ⟨by omega,by omega,by decide⟩];simp
structure FB where
 q:List D
 bits:Nat
 nk:List hI
 nv:List D
 tk:List hI
 tv:List D
 d7:Int
 eD:Int
 inner:Int
 bF:List D
noncomputable abbrev Uk:List aG:=["question", "bits", "by_name", "by_text", "starred", "stars", "inner", "leads"]
def cV(s:FB):D :=.ins "Facts" Uk [.lst s.q,.int (s.bits:Nat),.fT s.nk s.nv,.fT s.tk s.tv,.int s.d7,.int s.eD,.int s.inner,.lst s.bF]
abbrev oF(s:FB):Option D:=Y (.obj ah (cV s))
def yi(s:FB)(h:s.bits<=999):bZ [cV s]=Y (.int (2 ^ s.bits),cV { s with bits:=s.bits+1 }):=by
 show (gE [oF s]).bind (qK ah)=_;unfold gE;rw[aB (ρ':=[oF { s with bits:=s.bits+1 }]) ?b]
 case b=>kernel_rfl
 have a:zK [0] [] (e2 qM v6 (e2 ku (d9 "Facts" "bits" (eV 0)) v6)) [oF { s with bits:=s.bits+1 }]=Y (.int (2 ^ s.bits)):=by refine Ac (ρ':=[Y (cV { s with bits:=s.bits+1 })]) rfl ?_ rfl;have:e2 qM v6 (e2 ku (d9 "Facts" "bits" (eV 0)) v6) [Y (cV { s with bits:=s.bits+1 })]=qM (.int 1) (.int (((s.bits+1:Nat):Int)-1)):=rfl;rw[this,show ((s.bits+1:Nat):Int)-1=(s.bits:Int) by omega,Rg (by omega)]
 unfold eW mP;rw[a];kernel_rfl
def kx{F:List D->Option (D×D)}{m:aG}{ρ1:bY}{s s1 b:FB}{args:List D}(c:m∉Uk)(i:eV j a=oF s)(e:g a=Y (args,ρ1))(f:eV j ρ1=oF s1)(h:F (cV s1::args)=Y (d,cV b)):
  cE "Facts" m ah F j g a=Y (d,(eU j ρ1).set j (oF b)):=by
 have l:Ab j a=Y (ah,cV s):=by unfold Ab;rw[i]
 have k:pf ah j ρ1=Y (cV s1):=by unfold pf Ab;rw[f];kernel_rfl
 unfold cE;rw[l];simp only[ae];show (if _ then _ else _)=_;rw[if_pos ⟨⟨rfl,rfl⟩,c⟩,e];simp only[ae,k,h];rfl
noncomputable abbrev mv(a b:aG)(w:D):D :=.tup [.str a,.str b,w]
def KH{s:FB}(hi:(bL s.nk s.nv (bo nm)).getD (.int 0)=.int i)(hl:s.nk.length<dA):
  pj 0 "Facts" "by_name" (e2 b9 (eV 1) v6) (mP (zK [0] [] (e2 FK (uR (d9 "Facts" "by_name" (eV 0)) (e2 b9 (eV 1) v6) f8) (eV 2)))) [oF s,Y (mv way nm w),Y (.int b)]=Y (.nx [oF { s with nk:=(jz (bo nm) (.int (bO i b)) s.nk s.nv).1,nv:=(jz (bo nm) (.int (bO i b)) s.nk s.nv).2 },Y (mv way nm w),Y (.int b)]):=by
 have e1:zK [0] [] (e2 FK (uR (d9 "Facts" "by_name" (eV 0)) (e2 b9 (eV 1) v6) f8) (eV 2)) [oF s,Y (mv way nm w),Y (.int b)]=Y (.int (bO i b)):=by refine Ac (ρ':=[Y (cV s),Y (mv way nm w),Y (.int b)]) rfl ?_ rfl;have:e2 FK (uR (d9 "Facts" "by_name" (eV 0)) (e2 b9 (eV 1) v6) f8) (eV 2) [Y (cV s),Y (mv way nm w),Y (.int b)]=FK ((bL s.nk s.nv (bo nm)).getD (.int 0)) (.int b):=rfl;rw[this,hi];rfl
 unfold pj mP;rw[e1];simp only[bP,ae];have e2:xH "Facts" "by_name" 0 [oF s,Y (mv way nm w),Y (.int b)]=Y (kB,Uk,[.lst s.q,.int (s.bits:Nat),.fT s.nk s.nv,.fT s.tk s.tv,.int s.d7,.int s.eD,.int s.inner,.lst s.bF],.fT s.nk s.nv):=by kernel_rfl
 rw[e2];simp only[ae];have e3:(L2.e2 b9 (eV 1) v6 [oF s,Y (mv way nm w),Y (.int b)]).bind vV=Y (bo nm):=rfl;show (if _/\s.nk.length<dA then _ else M)=_;rw[if_pos ⟨by decide,hl⟩];kernel_rfl
def lK(s:FB)(a c:aG)(i:Int):FB:=
 let b:Int:=2 ^ s.bits
 let d:FB:={ s with bits:=s.bits+1,inner:=if a=ab "inner" then bO s.inner b else s.inner }
 if c=ab "*" then { d with d7:=bO s.d7 b,eD:=s.eD+1 } else { d with nk:=(jz (bo c) (.int (bO i b)) s.nk s.nv).1,nv:=(jz (bo c) (.int (bO i b)) s.nk s.nv).2 }
def zJ{s:FB}(h:s.bits<=999)(hk:s.nk.length<=s.bits)(way nm:aG)(w:D){i:Int}(hi:(bL s.nk s.nv (bo nm)).getD (.int 0)=.int i):dw [cV s,mv way nm w]=Y (.int (2 ^ s.bits),cV (lK s way nm i)):=by
 have e0:dw [cV s,mv way nm w]=(ip [oF s,Y (mv way nm w),M]).bind (qK ah):=rfl;rw[e0];unfold ip;rw[aB (ρ':=[oF { s with bits:=s.bits+1 },Y (mv way nm w),Y (.int (2 ^ s.bits))]) ?q0]
 case q0=>unfold gG;rw[kx (by decide) rfl rfl rfl (yi s h)];rfl
 unfold lK;have hk1:({ s with bits:=s.bits+1 }:FB).nk.length<=1000:=by show s.nk.length<=1000;omega
 have hi1:(bL ({ s with bits:=s.bits+1 }:FB).nk ({ s with bits:=s.bits+1 }:FB).nv (bo nm)).getD (.int 0)=.int i:=hi;generalize hb:(2:Int) ^ s.bits=b at *
 have q1:ie (cT (e2 gj (e2 b9 (eV 1) f8) ge)) (mK Z_ 0 "Facts" "inner" dE (eV 2)) dG [oF { s with bits:=s.bits+1 },Y (mv way nm w),Y (.int b)]=Y (.nx [oF { s with bits:=s.bits+1,inner:=if way=ab "inner" then bO s.inner b else s.inner },Y (mv way nm w),Y (.int b)]):=by
  have e1:cT (e2 gj (e2 b9 (eV 1) f8) ge) [oF { s with bits:=s.bits+1 },Y (mv way nm w),Y (.int b)]=Y (lH (.str way) (.str (ab "inner"))):=by kernel_rfl
  unfold ie;rw[e1,xr];by_cases z:way=ab "inner"
  ·rw[if_pos z,beq_iff_eq.mpr z];kernel_rfl
  ·rw[if_neg z,beq_eq_false_iff_ne.mpr z];rfl
 rw[aB q1];have e1:∀s:FB,cT (e2 gj (e2 b9 (eV 1) v6) ce) [oF s,Y (mv way nm w),Y (.int b)]=Y (lH (.str nm) (.str (ab "*"))):=λs=>by kernel_rfl
 by_cases z:nm=ab "*"
 ·rw[aB (ρ':=[oF { s with bits:=s.bits+1,inner:=if way=ab "inner" then bO s.inner b else s.inner,d7:=bO s.d7 b,eD:=s.eD+1 },Y (mv way nm w),Y (.int b)]) ?q2]
  case q2=>unfold ie;rw[e1,xr,beq_iff_eq.mpr z];kernel_rfl
  simp only[if_pos z];kernel_rfl
 ·have pn:=KH (s:={ s with bits:=s.bits+1,inner:=if way=ab "inner" then bO s.inner b else s.inner }) (way:=way) (w:=w) (b:=b) hi (i9 (by show s.nk.length<2000;omega));rw[aB (ρ':=[oF { s with bits:=s.bits+1,inner:=if way=ab "inner" then bO s.inner b else s.inner,nk:=(jz (bo nm) (.int (bO i b)) s.nk s.nv).1,nv:=(jz (bo nm) (.int (bO i b)) s.nk s.nv).2 },Y (mv way nm w),Y (.int b)]) ?q2]
  case q2=>unfold ie;rw[e1,xr,beq_eq_false_iff_ne.mpr z];exact pn
  simp only[if_neg z];kernel_rfl
inductive gw where
 |st (b:Bool) (nm:Option aG)
 |tx (t:aG)
 |mk
def om:gw->Bool
 |.st _ M=>Z'|_=>Z_
mutual
def rQ:Ak->D
 |.mk n a =>.tup [.int (n:Nat),.lst (t9 a)]
def t9:Cs->List D
 |.nil=>[]|.cons c r =>.lst (js c)::t9 r
def js:As->List D
 |.nil=>[]|.cons x r=>rQ x::js r
end
def ldK(l:Nat×Ak):D :=.tup [.int ((2:Int) ^ l.1),rQ l.2]
structure GI(s:FB)(tb:List gw)(L:List (Nat×Ak)):Prop where
 bits:s.bits=tb.length
 inner:∃m:Nat,s.inner=(m:Int)/\∀i,m.testBit i=true↔∃nm,tb[i]?=some (gw.st true nm)
 star:∃m:Nat,s.d7=(m:Int)/\∀i,m.testBit i=true↔∃b,tb[i]?=some (gw.st b none)
 eD:s.eD=((tb.filter om).length:Nat)
 name:∀n,∃m:Nat,(bL s.nk s.nv (bo n)).getD (.int 0)=.int (m:Int)/\∀i,m.testBit i=true↔∃b,tb[i]?=some (gw.st b (some n))
 Qu:s.nk.length=s.nv.length
 Qv:s.nk.length<=s.bits
 text:∀t,(bL s.tk s.tv (bo t)=none/\∀i:Nat,tb[i]? ≠ some (gw.tx t))\/∃j,bL s.tk s.tv (bo t)=some (.int (2 ^ j))/\∀i,tb[i]?=some (gw.tx t)↔i=j
 Q7:s.tk.length=s.tv.length
 Uz:s.tk.length<=s.bits
 bF:s.bF=L.map ldK
 R3:(L.map (·.1)).Nodup
 lst:∀l∈L,∃b nm,tb[l.1]?=some (gw.st b nm)
 ord:∀l∈L,∀i,CJ i l.2->i<tb.length/\(l.1<i\/∃t,tb[i]?=some (gw.tx t))
 SJ:L.length<=s.bits
def mx:bL (c::a) (x::b) k=if c=k then Y x else bL a b k:=by
 unfold bL;rw[ck,ia];by_cases h:c=k
 ·simp[h]
 ·simp[h]
theorem Hn:∀ {a:List hI}{b:List D},a.length=b.length->bL a (qf (λq x=>if q=k then d else x) a b) c=(bL a b c).map λx=>if c=k then d else x
 |[],[],_=>by simp[bL]
 |q::a,[],h=>by simp at h
 |[],x::b,h=>by simp at h
 | q::a,x::b,h=>by
  rw[vf,mx,mx];by_cases e:q=c
  ·subst e;simp
  ·simp only[if_neg e];exact Hn (by simpa using h)
theorem yn:∀ {a:List hI}{b:List D},a.length=b.length->bL (a++[k]) (b++[d]) c=match bL a b c with|some x=>Y x|none=>if k=c then Y d else M
 |[],[],_=>by simp only[cf];rw[mx];simp[bL]
 |q::a,[],h=>by simp at h
 |[],x::b,h=>by simp at h
 | q::a,x::b,h=>by
  rw[fS,fS,mx,mx];by_cases e:q=c
  ·simp[e]
  ·simp only[if_neg e];exact yn (by simpa using h)
theorem qP:∀ {a:List hI}{b:List D},a.length=b.length->(bL a b k=M↔k∉a)
 |[],[],_=>by simp[bL]
 |q::a,[],h=>by simp at h
 |[],x::b,h=>by simp at h
 | q::a,x::b,h=>by
  rw[mx];by_cases e:q=k
  ·subst e;simp
  ·rw[if_neg e,qP (by simpa using h)];simp[bU e]
def Jr{a:List hI}{b:List D}(h:a.length=b.length):bL (jz k d a b).1 (jz k d a b).2 c=if c=k then Y d else bL a b c:=by
 unfold jz;by_cases z:(a.any λq=>decide (q=k))=Z'
 ·rw[if_pos z];show bL a (qf _ a b) c=_;rw[Hn h];have f:k∈a:=by simpa using z
  by_cases e:c=k
  ·subst e;cases q:bL a b c with
   |none=>exact absurd f ((qP h).mp q)|some x=>simp
  ·rw[if_neg e];cases bL a b c<;>simp[e]
 ·rw[if_neg z];show bL (a++[k]) (b++[d]) c=_;rw[yn h];have f:k∉a:=by simpa using z
  by_cases e:c=k
  ·subst e;simp[(qP h).mpr f]
  ·rw[if_neg e];cases bL a b c with
   |none=>simp[bU e]|some x=>rfl
def MD{k:hI}{d:D}{a:List hI}{b:List D}(h:a.length=b.length):(jz k d a b).1.length=(jz k d a b).2.length/\(jz k d a b).1.length<=a.length+1:=by
 unfold jz;split<;>simp[h]
def Fx{m:Nat}:(m ||| 2 ^ n).testBit i=Z'↔m.testBit i=Z'\/i=n:=by
 rw[f_,dP,c_,decide_eq_true_eq];exact or_congr rT eq_comm
def dZ{l:List a}:(l++[x])[i]?=Y y↔l[i]?=Y y\/(i=l.length/\x=y):=by
 rcases Nat.lt_trichotomy i l.length with h|h|h
 ·rw[dW h];constructor
  ·exact .inl
  ·rintro(z|⟨z,_⟩)
   ·exact z
   ·omega
 ·subst h;rw[gW (aw _)];simp
 ·rw[gW (by omega),en (by simp;omega),en (by omega)];simp;omega
def jh(n:Nat):(2:Int) ^ n=((2 ^ n:Nat):Int):=by simp
def pH{l:List a}(h:l[i]?=Y x):i<l.length:=(ax.mp h).1
def E9(b:Bool):eC b=ab "inner" ↔b=true:=by cases b<;>decide +kernel
def O3{s:FB}{tb:List gw}{L:List (Nat×Ak)}(I:GI s tb L)(b:Bool)(nm:Option aG)(hn:nm≠Y (ab "*")){i:Int}(hi:(bL s.nk s.nv (bo (cL nm))).getD (.int 0)=.int i):GI (lK s (eC b) (cL nm) i) (tb++[.st b nm]) L:=by
 have Nm:∀ {j:Nat}{x:gw},tb[j]?=Y x->(tb++[gw.st b nm])[j]?=Y x:=λh=>dZ.mpr (.inl h)
 obtain⟨mi,ei,bi⟩:=I.inner;obtain⟨ms,es,bs⟩:=I.star;have hb:=I.bits;obtain⟨zH,VG,ZC⟩:∃zH:Int,(if eC b=ab "inner" then bO s.inner (2 ^ s.bits) else s.inner)=zH/\∃m:Nat,zH=(m:Int)/\∀j,m.testBit j=Z'↔∃n,(tb++[gw.st b nm])[j]?=Y (gw.st Z' n):=by
  cases b with
  |true=>
   refine⟨_,if_pos rfl,mi ||| 2 ^ tb.length,by rw[ei,jh,pZ,hb],λj =>?_⟩;rw[Fx,bi];constructor
   ·rintro(⟨n,h⟩|h)
    ·exact⟨n,Nm h⟩
    ·exact⟨nm,dZ.mpr (.inr ⟨h,rfl⟩)⟩
   ·rintro⟨n,h⟩;rcases dZ.mp h with h|⟨h,_⟩
    ·exact .inl ⟨n,h⟩
    ·exact .inr h
  |false=>
   refine⟨_,if_neg (λy=>by cases (E9 Z_).mp y),mi,ei,λj =>?_⟩;rw[bi];constructor
   ·rintro⟨n,h⟩;exact⟨n,Nm h⟩
   ·rintro⟨n,h⟩;rcases dZ.mp h with h|⟨_,h⟩
    ·exact⟨n,h⟩
    ·cases h
 have tt:∀t,(bL s.tk s.tv (bo t)=M/\∀i:Nat,(tb++[gw.st b nm])[i]? ≠ Y (gw.tx t))\/∃j,bL s.tk s.tv (bo t)=Y (.int (2 ^ j))/\∀i,(tb++[gw.st b nm])[i]?=Y (gw.tx t)↔i=j:=λt=>by
  have nt:∀i,(tb++[gw.st b nm])[i]?=Y (gw.tx t)↔tb[i]?=Y (gw.tx t):=λi=>by
   rw[dZ];constructor
   ·rintro(h|⟨_,h⟩)
    ·exact h
    ·cases h
   ·exact .inl
  rcases I.text t with⟨a,c⟩|⟨j,a,c⟩
  ·exact .inl ⟨a,λi z=>c i ((nt i).mp z)⟩
  ·exact .inr ⟨j,a,λi=>(nt i).trans (c i)⟩
 have hl:∀l∈L,∃b' n',(tb++[gw.st b nm])[l.1]?=Y (gw.st b' n'):=λl hl=>by obtain⟨b',n',h⟩:=I.lst l hl;exact⟨b',n',Nm h⟩
 have ho:∀l∈L,∀i,CJ i l.2->i<(tb++[gw.st b nm]).length/\(l.1<i\/∃t,(tb++[gw.st b nm])[i]?=Y (gw.tx t)):=λl hl j hj=>by obtain⟨h1,h2⟩:=I.ord l hl j hj;exact⟨by simp;omega,h2.imp id λ⟨t,h⟩=>⟨t,Nm h⟩⟩
 have n1:s.bits+1=(tb++[gw.st b nm]).length:=by simp[hb]
 have n2:=I.Qv;have n3:=I.Uz;have n4:=I.SJ;have XQ:∀n,(∀j:Nat,(∃b',(tb++[gw.st b nm])[j]?=Y (gw.st b' (Y n)))↔((∃b',tb[j]?=Y (gw.st b' (Y n)))\/(j=tb.length/\nm=Y n))):=λn j=>by
  constructor
  ·rintro⟨b',h⟩;rcases dZ.mp h with h1|⟨h1,e⟩
   ·exact .inl ⟨b',h1⟩
   ·exact .inr ⟨h1,by injection e⟩
  ·rintro(⟨b',h⟩|⟨h,e⟩)
   ·exact⟨b',Nm h⟩
   ·exact⟨b,dZ.mpr (.inr ⟨h,by rw[e]⟩)⟩
 cases nm with
 |none=>
  have e:lK s (eC b) (cL M) i={ s with bits:=s.bits+1,inner:=zH,d7:=bO s.d7 (2 ^ s.bits),eD:=s.eD+1 }:=by unfold lK;simp only[VG];exact if_pos rfl
  rw[e];refine⟨n1,ZC,⟨ms ||| 2 ^ tb.length,by show bO s.d7 (2 ^ s.bits)=_;rw[es,jh,pZ,hb],λj =>?_⟩,?_,λn =>?_,I.Qu,by show s.nk.length<=s.bits+1;omega,tt,I.Q7,by show s.tk.length<=s.bits+1;omega,I.bF,I.R3,hl,ho,by show L.length<=s.bits+1;omega⟩
  ·rw[Fx,bs];constructor
   ·rintro(⟨n,h⟩|h)
    ·exact⟨n,Nm h⟩
    ·exact⟨b,dZ.mpr (.inr ⟨h,rfl⟩)⟩
   ·rintro⟨n,h⟩;rcases dZ.mp h with h|⟨h,_⟩
    ·exact .inl ⟨n,h⟩
    ·exact .inr h
  ·show s.eD+1=_;rw[I.eD,fR,show EV om [gw.st b M]=[gw.st b M] from rfl];simp
  ·obtain⟨m,em,bm⟩:=I.name n;refine⟨m,em,λj =>?_⟩;rw[bm,XQ];simp
 |some n0=>
  have nz:cL (Y n0)≠ab "*" :=λz=>hn (by rw[<- z];rfl)
  have e:lK s (eC b) (cL (Y n0)) i={ s with bits:=s.bits+1,inner:=zH,nk:=(jz (bo n0) (.int (bO i (2 ^ s.bits))) s.nk s.nv).1,nv:=(jz (bo n0) (.int (bO i (2 ^ s.bits))) s.nk s.nv).2 }:=by unfold lK;simp only[VG];exact if_neg nz
  rw[e];have dl:=MD (k:=bo n0) (d :=.int (bO i (2 ^ s.bits))) I.Qu;refine⟨n1,ZC,⟨ms,es,λj =>?_⟩,?_,λn =>?_,dl.1,by show (jz _ _ s.nk s.nv).1.length<=s.bits+1;omega,tt,I.Q7,by show s.tk.length<=s.bits+1;omega,I.bF,I.R3,hl,ho,by show L.length<=s.bits+1;omega⟩
  ·rw[bs];constructor
   ·rintro⟨n,h⟩;exact⟨n,Nm h⟩
   ·rintro⟨n,h⟩;rcases dZ.mp h with h|⟨_,h⟩
    ·exact⟨n,h⟩
    ·cases h
  ·show s.eD=_;rw[I.eD,fR,show EV om [gw.st b (Y n0)]=[] from rfl];simp
  ·obtain⟨m,em,bm⟩:=I.name n;show ∃m:Nat,(bL (jz (bo n0) (.int (bO i (2 ^ s.bits))) s.nk s.nv).1 (jz (bo n0) (.int (bO i (2 ^ s.bits))) s.nk s.nv).2 (bo n)).getD (.int 0)=.int (m:Int)/\_;rw[Jr I.Qu];by_cases e:n=n0
   ·subst e;have hi:(bL s.nk s.nv (bo n)).getD (.int 0)=.int i:=hi;rw[em]at hi;cases hi;refine⟨m ||| 2 ^ tb.length,by rw[if_pos rfl];show D.int (bO (m:Int) (2 ^ s.bits))=_;rw[jh,pZ,hb],λj =>?_⟩;rw[Fx,bm,XQ];simp
   ·refine⟨m,by rw[if_neg (λy=>e (TQ y))];exact em,λj =>?_⟩;rw[bm,XQ];simp[bU e]
noncomputable def cS:Nat->Nat->List Int
 |_,0=>[]|n,k+1=>2 ^ n::cS (n+1) k
theorem v_:∀n k,(cS n k).length=k
 |_,0=>rfl|n,k+1=>by simp[cS,v_ (n+1) k]
def m3:Ss->List gw
 |.nil=>[]|.cons b a _ r =>.st b a::m3 r
def fP:Ss->Nat
 |.nil=>0|.cons _ _ _ r=>fP r+1
theorem vC:∀s,(dR s).length=fP s
 |.nil=>rfl|.cons _ _ _ r=>by rw[dR,aK,vC r];rfl
theorem Ec:∀(a:Ss) (s:FB) (m:List gw){L:List (Nat×Ak)}(x:Option D),GI s m L->ER a->s.bits+fP a<=1000->∃c,td [M,x] (gN 0) (cE "Facts" "enter_step" ah dw 1 (iw (mP (eV 0)) lG)) 1 ah (dR a) (cV s)=Y ((cS s.bits (fP a)).map D.int,cV c)/\GI c (m++m3 a) L/\c.q=s.q
 |.nil,s,m,L,x,I,_,_=>⟨s,rfl,by simpa [m3] using I,rfl⟩
 | .cons b e w r,s,m,L,x,I,n,h=>by
  simp only[fP]at h;obtain⟨i,p,_⟩:=I.name (cL e);have k:=zJ (s:=s) ž I.Qv (eC b) (cL e) (cq w) p;have G:=O3 I b e n.1 p;have t:(lK s (eC b) (cL e) i).bits=s.bits+1:=by rw[G.bits,I.bits];simp
  have q:(lK s (eC b) (cL e) i).q=s.q:=by unfold lK;simp only;split<;>rfl
  obtain⟨f,d,l,o⟩:=Ec r (lK s (eC b) (cL e) i) (m++[.st b e]) x G n.2.2 ž;generalize lK s (eC b) (cL e) i=c at *
  refine⟨f,?_,by simpa [m3] using l,o.trans q⟩;rw[dR,td];have j:gN 0 (mv (eC b) (cL e) (cq w)) ([M,x].set 1 (Y (.obj ah (cV s))))=Y [Y (mv (eC b) (cL e) (cq w)),oF s]:=rfl;have i:cE "Facts" "enter_step" ah dw 1 (iw (mP (eV 0)) lG) [Y (mv (eC b) (cL e) (cq w)),oF s]=Y (.int (2 ^ s.bits),[Y (mv (eC b) (cL e) (cq w)),oF c]):=by rw[kx (ρ1:=[Y (mv (eC b) (cL e) (cq w)),oF s]) (args:=[mv (eC b) (cL e) (cq w)]) (by decide) rfl rfl rfl k];rfl
  have g:pf ah 1 [Y (mv (eC b) (cL e) (cq w)),oF c]=Y (cV c):=by kernel_rfl
  rw[j];simp only[ae,i,g];rw[t]at d;rw[d];rfl
def Ed{s:FB}(I:GI s i L)(a:Ss)(n:ER a)(h:s.bits+fP a<=1000):∃b,fw [cV s,.lst (dR a)]=Y (.lst ((cS s.bits (fP a)).map D.int),cV b)/\GI b (i++m3 a) L/\b.q=s.q:=by
 obtain⟨b,e,r⟩:=Ec a s i (Y (.obj ah (cV s))) I n h;refine⟨b,?_,r⟩;show (lb [oF s,Y (.lst (dR a))]).bind (qK ah)=_;have g:qs (iL (eV 1)) [M,Y 0] (gN 0) (cE "Facts" "enter_step" ah dw 1 (iw (mP (eV 0)) lG)) 1 0 ah [oF s,Y (.lst (dR a))]=Y (.lst ((cS s.bits (fP a)).map D.int),[oF b,Y (.lst (dR a))]):=by
  unfold qs;have f:iL (eV 1) [oF s,Y (.lst (dR a))]=Y (dR a):=rfl;have d:pf ah 0 [oF s,Y (.lst (dR a))]=Y (cV s):=by kernel_rfl
  have c:kM [M,Y 0] (eU 0 [oF s,Y (.lst (dR a))])=[M,Y (.obj ah (cV s))]:=rfl;rw[f];simp only[ae];rw[if_pos (dU (i9 (by rw[vC];omega))),d];simp only[ae];rw[c,e];rfl
 unfold lb eW;rw[g];kernel_rfl
def JR{d:D}{a:List hI}{b:List D}(m:a.length=b.length)(h:bL a b k=M):jz k d a b=(a++[k],b++[d])/\bL (a++[k]) (b++[d]) k=Y d:=by
 have c:∀p∈a.zip b,¬p.1=k:=by unfold bL at h;simp only[Option.map_eq_none_iff,List.find?_eq_none,decide_eq_true_eq]at h;exact h
 have n:¬(a.any λq=>decide (q=k))=true:=by intro f;simp only[kJ,decide_eq_true_eq]at f;obtain⟨q,j,rfl⟩:=f;obtain⟨i,o,e⟩:=List.getElem_of_mem j;exact c (q,b[i]' ž) (by rw[<- e];exact List.mem_iff_getElem.mpr ⟨i,by simp;omega,Ž⟩) rfl
 refine⟨by unfold jz;rw[if_neg n],?_⟩;unfold bL;rw[List.zip_append m,List.find?_append];have:(a.zip b).find? (λg=>decide (g.1=k))=none:=by rw[List.find?_eq_none];intro p l;simp only[decide_eq_true_eq];exact c p l
 rw[this];simp
def yG{s:FB}{t:aG}(hb:s.bits<=999)(hl:s.tk.length<=s.bits)(hkv:s.tk.length=s.tv.length)(h:bL s.tk s.tv (bo t)=M):
  cZ [cV s,.str t]=Y (.int (2 ^ s.bits),cV { s with bits:=s.bits+1,tk:=s.tk++[bo t],tv:=s.tv++[.int (2 ^ s.bits)] }):=by
 show (eZ [oF s,Y (.str t)]).bind (qK ah)=_;unfold eZ;obtain⟨hp,hlk⟩:=JR (d :=.int (2 ^ s.bits)) hkv h;have e1:Qe [0] [] (cT (e2 (qr Z') (eV 1) (d9 "Facts" "by_text" (eV 0)))) [oF s,Y (.str t)]=Y true:=by refine Kp (ρ':=[Y (cV s),Y (.str t)]) rfl ?_;have:cT (e2 (qr Z') (eV 1) (d9 "Facts" "by_text" (eV 0))) [Y (cV s),Y (.str t)]=Y (!(bL s.tk s.tv (bo t)).isSome):=rfl;rw[this,h];rfl
 have e2:pj 0 "Facts" "by_text" (eV 1) (cE "Facts" "new_bit" ah bZ 0 lG) [oF s,Y (.str t)]=Y (.nx [oF { s with bits:=s.bits+1,tk:=s.tk++[bo t],tv:=s.tv++[.int (2 ^ s.bits)] },Y (.str t)]):=by
  have m1:cE "Facts" "new_bit" ah bZ 0 lG [oF s,Y (.str t)]=Y (.int (2 ^ s.bits),[oF { s with bits:=s.bits+1 },Y (.str t)]):=by rw[kx (by decide) rfl rfl rfl (yi s hb)];rfl
  unfold pj;rw[m1];simp only[ae];have e3:xH "Facts" "by_text" 0 [oF { s with bits:=s.bits+1 },Y (.str t)]=Y (kB,Uk,[.lst s.q,.int ((s.bits+1:Nat):Int),.fT s.nk s.nv,.fT s.tk s.tv,.int s.d7,.int s.eD,.int s.inner,.lst s.bF],.fT s.tk s.tv):=by kernel_rfl
  rw[e3];simp only[ae];show (if _/\s.tk.length<dA then _ else M)=_;rw[if_pos ⟨by decide,i9 (by omega)⟩];show Y (DO.nx [Y (Jc "Facts" "by_text" kB Uk _ (.fT (jz (bo t) (.int (2 ^ s.bits)) s.tk s.tv).1 (jz (bo t) (.int (2 ^ s.bits)) s.tk s.tv).2)),Y (.str t)])=_;rw[hp];generalize (2:Int) ^ s.bits=b;kernel_rfl
 have e4:ie (Qe [0] [] (cT (L2.e2 (qr Z') (eV 1) (d9 "Facts" "by_text" (eV 0))))) (pj 0 "Facts" "by_text" (eV 1) (cE "Facts" "new_bit" ah bZ 0 lG)) dG [oF s,Y (.str t)]=Y (.nx [oF { s with bits:=s.bits+1,tk:=s.tk++[bo t],tv:=s.tv++[.int (2 ^ s.bits)] },Y (.str t)]):=by unfold ie;rw[e1];exact e2
 rw[aB e4];have e5:zK [0] [] (L2.e2 Dr (d9 "Facts" "by_text" (eV 0)) (eV 1)) [oF { s with bits:=s.bits+1,tk:=s.tk++[bo t],tv:=s.tv++[.int (2 ^ s.bits)] },Y (.str t)]=Y (.int (2 ^ s.bits)):=by refine Ac (ρ':=[Y (cV { s with bits:=s.bits+1,tk:=s.tk++[bo t],tv:=s.tv++[.int (2 ^ s.bits)] }),Y (.str t)]) rfl ?_ rfl;exact hlk
 unfold eW mP;rw[e5];generalize (2:Int) ^ s.bits=b;kernel_rfl
def yF{s:FB}(h:bL s.tk s.tv (bo t)=Y (.int i)):cZ [cV s,.str t]=Y (.int i,cV s):=by
 show (eZ [oF s,Y (.str t)]).bind (qK ah)=_;unfold eZ;have c:Qe [0] [] (cT (e2 (qr Z') (eV 1) (d9 "Facts" "by_text" (eV 0)))) [oF s,Y (.str t)]=Y false:=by refine Kp (ρ':=[Y (cV s),Y (.str t)]) rfl ?_;have:cT (e2 (qr Z') (eV 1) (d9 "Facts" "by_text" (eV 0))) [Y (cV s),Y (.str t)]=Y (!(bL s.tk s.tv (bo t)).isSome):=rfl;rw[this,h];rfl
 have b:∀g,ie (Qe [0] [] (cT (L2.e2 (qr Z') (eV 1) (d9 "Facts" "by_text" (eV 0))))) g dG [oF s,Y (.str t)]=Y (.nx [oF s,Y (.str t)]):=by intro g;unfold ie;rw[c];rfl
 rw[aB (b _)];have a:zK [0] [] (L2.e2 Dr (d9 "Facts" "by_text" (eV 0)) (eV 1)) [oF s,Y (.str t)]=Y (.int i):=Ac (ρ':=[Y (cV s),Y (.str t)]) rfl h rfl;unfold eW mP;rw[a];kernel_rfl
def O0{s:FB}(I:GI s d L)(h:bL s.tk s.tv (bo t)=M):GI { s with bits:=s.bits+1,tk:=s.tk++[bo t],tv:=s.tv++[.int (2 ^ s.bits)] } (d++[.tx t]) L:=by
 have g:∀ {j:Nat}{x:gw},d[j]?=Y x->(d++[gw.tx t])[j]?=Y x:=λh=>dZ.mpr (.inl h)
 have k:∀ {j:Nat}{b o},(d++[gw.tx t])[j]?=Y (gw.st b o)↔d[j]?=Y (gw.st b o):=fun {j b o}=>by
  rw[dZ];constructor
  ·rintro(h|⟨_,h⟩)
   ·exact h
   ·cases h
  ·exact .inl
 obtain⟨v,C,F⟩:=I.inner;obtain⟨u,A,D⟩:=I.star;have q:s.bits+1=(d++[gw.tx t]).length:=by simp[I.bits]
 have K:=I.Qv;have J:=I.Uz;have H:=I.SJ;refine⟨q,⟨v,C,λj =>?_⟩,⟨u,A,λj =>?_⟩,?_,λn =>?_,I.Qu,by show s.nk.length<=s.bits+1;omega,λf =>?_,by simp[I.Q7],by show (s.tk++[_]).length<=s.bits+1;simp;omega,I.bF,I.R3,λl p =>?_,λl p j w =>?_,by show L.length<=s.bits+1;omega⟩
 ·simp only[F,k]
 ·simp only[D,k]
 ·show s.eD=_;rw[I.eD,fR,show EV om [gw.tx t]=[] from rfl];simp
 ·obtain⟨m,B,E⟩:=I.name n;exact⟨m,B,λj=>by simp only[E,k]⟩
 ·show (bL (s.tk++[bo t]) (s.tv++[.int (2 ^ s.bits)]) (bo f)=M/\_)\/∃j,bL (s.tk++[bo t]) (s.tv++[.int (2 ^ s.bits)]) (bo f)=_/\_;rw[yn I.Q7];rcases I.text f with⟨a,c⟩|⟨j,a,c⟩
  ·rw[a];by_cases e:t=f
   ·subst e;refine .inr ⟨s.bits,Ž,λi =>?_⟩;rw[dZ,I.bits];constructor
    ·rintro(z|z)
     ·exact absurd z (c i)
     ·exact z.1
    ·intro z;exact .inr ⟨z,rfl⟩
   ·refine .inl ⟨by simp[e],λi z =>?_⟩;rcases dZ.mp z with z|⟨_,z⟩
    ·exact c i z
    ·exact e (by injection z)
  ·have e:t≠f:=λz=>by subst z;rw[h]at a;cases a
   refine .inr ⟨j,by rw[a],λi =>?_⟩;rw[dZ,c i];constructor
   ·rintro(z|⟨_,z⟩)
    ·exact z
    ·exact absurd (by injection z) e
   ·exact .inl
 ·obtain⟨G,r,h⟩:=I.lst l p;exact⟨G,r,g h⟩
 ·obtain⟨N,y⟩:=I.ord l p j w;exact⟨by simp;omega,y.imp id λ⟨t,h⟩=>⟨t,g h⟩⟩
def NS{s:FB}(I:GI s d L)(u:s.bits<=999)(t:aG):∃j f b,cZ [cV s,.str t]=Y (.int (2 ^ j),cV f)/\GI f (d++b) L/\(b=[]\/b=[.tx t])/\(d++b)[j]?=Y (.tx t)/\f.q=s.q:=by
 rcases I.text t with⟨a,c⟩|⟨j,a,c⟩
 ·refine⟨s.bits,_,[.tx t],yG u I.Uz I.Q7 a,O0 I a,.inr rfl,dZ.mpr (.inr ⟨I.bits,rfl⟩),rfl⟩
 ·exact⟨j,s,[],yF a,by simpa using I,.inl rfl,by simpa using (c j).mpr rfl,rfl⟩
def O4{s:FB}(I:GI s a L):GI { s with bits:=s.bits+1 } (a++[.mk]) L:=by
 have c:∀ {j:Nat}{x:gw},a[j]?=Y x->(a++[gw.mk])[j]?=Y x:=λh=>dZ.mpr (.inl h)
 have d:∀ {j:Nat}{b e},(a++[gw.mk])[j]?=Y (gw.st b e)↔a[j]?=Y (gw.st b e):=fun {j b e}=>by
  rw[dZ];constructor
  ·rintro(h|⟨_,h⟩)
   ·exact h
   ·cases h
  ·exact .inl
 have i:∀ {j:Nat}{t},(a++[gw.mk])[j]?=Y (gw.tx t)↔a[j]?=Y (gw.tx t):=fun {j t}=>by
  rw[dZ];constructor
  ·rintro(h|⟨_,h⟩)
   ·exact h
   ·cases h
  ·exact .inl
 obtain⟨q,y,B⟩:=I.inner;obtain⟨p,v,z⟩:=I.star;have k:s.bits+1=(a++[gw.mk]).length:=by simp[I.bits]
 have F:=I.Qv;have E:=I.Uz;have D:=I.SJ;refine⟨k,⟨q,y,λj =>?_⟩,⟨p,v,λj =>?_⟩,?_,λn =>?_,I.Qu,by show s.nk.length<=s.bits+1;omega,λg =>?_,I.Q7,by show s.tk.length<=s.bits+1;omega,I.bF,I.R3,λl f =>?_,λl f j r =>?_,by show L.length<=s.bits+1;omega⟩
 ·simp only[B,d]
 ·simp only[z,d]
 ·show s.eD=_;rw[I.eD,fR,show EV om [gw.mk]=[] from rfl];simp
 ·obtain⟨m,w,A⟩:=I.name n;exact⟨m,w,λj=>by simp only[A,d]⟩
 ·simp only[ne_eq,i];exact I.text g
 ·obtain⟨C,o,h⟩:=I.lst l f;exact⟨C,o,c h⟩
 ·obtain⟨G,u⟩:=I.ord l f j r;exact⟨by simp;omega,u.imp id λ⟨t,h⟩=>⟨t,c h⟩⟩
noncomputable abbrev mh(a:Int)(b:List D):D :=.tup [.int a,.lst b]
def da:As->Nat
 |.nil=>0|.cons _ r=>da r+1
theorem M0:∀s,(js s).length=da s
 |.nil=>rfl|.cons _ r=>by rw[js,aK,M0 r];rfl
def nY:Nat->Nat->Int->List Int
 |_,0,_=>[]|_,1,e=>[e]|n,k+2,e=>2 ^ (n+1)::nY (n+1) (k+1) e
theorem F9:∀(k n:Nat) (e:Int),cS (n+1) k++[e]=nY n (k+1) e
 |0,n,e=>rfl|k+1,n,e=>by rw[cS,nY,fS,F9 k (n+1) e]
def gu:As->Nat->Nat->List (Nat×Ak)
 |.nil,_,_=>[]|.cons (.mk n c) .nil,j,e=>[(j,.mk (n ||| e) c)]
 |.cons (.mk n c) (.cons x r),j,e=>(j,.mk (n ||| 2 ^ (j+1)) c)::gu (.cons x r) (j+1) e
def DR{y1 y2 y4:List D}{y3:Int}{s:FB}{n f j:Nat}{c:Cs}(h:s.bF.length<dA):cu [oF s,Y (.lst y1),Y (.lst y2),Y (.int y3),Y (.lst y4),Y (rQ (.mk n c)),Y (.int (2 ^ j)),Y (.int (f:Int))]=Y (.nx [oF { s with bF:=s.bF++[ldK (j,.mk (n ||| f) c)] },Y (.lst y1),Y (.lst y2),Y (.int y3),Y (.lst y4),Y (rQ (.mk n c)),Y (.int (2 ^ j)),Y (.int (f:Int))]):=by
 have q:∀(b a g:Int) (d:List D),cu [oF s,Y (.lst y1),Y (.lst y2),Y (.int y3),Y (.lst y4),Y (mh a d),Y (.int b),Y (.int g)]=Y (.nx [oF { s with bF:=s.bF++[.tup [.int b,mh (bO a g) d]] },Y (.lst y1),Y (.lst y2),Y (.int y3),Y (.lst y4),Y (mh a d),Y (.int b),Y (.int g)]):=λb a g d=>by
  unfold cu Dd;have u:xH "Facts" "leads" 0 [oF s,Y (.lst y1),Y (.lst y2),Y (.int y3),Y (.lst y4),Y (mh a d),Y (.int b),Y (.int g)]=Y (kB,Uk,[.lst s.q,.int (s.bits:Nat),.fT s.nk s.nv,.fT s.tk s.tv,.int s.d7,.int s.eD,.int s.inner,.lst s.bF],.lst s.bF):=by kernel_rfl
  have v:dN (aC (eV 6) (aC Tk aN)) [oF s,Y (.lst y1),Y (.lst y2),Y (.int y3),Y (.lst y4),Y (mh a d),Y (.int b),Y (.int g)]=Y (.tup [.int b,mh (bO a g) d]):=by kernel_rfl
  rw[u];simp only[ae];rw[v];simp only[ae];rw[if_pos ⟨by decide,by omega⟩];kernel_rfl
 have e:ldK (j,.mk (n ||| f) c)=.tup [.int (2 ^ j),mh (bO (n:Int) (f:Int)) (t9 c)]:=by rw[pZ];rfl
 rw[e];exact q _ _ _ _
theorem DS{y1 y2 y4:List D}{y3:Int}:∀(f:As) (j e:Nat) (s:FB) (a b c:Option D),s.bF.length+da f<dA->∃o n m,
  eS (D2 5 6 7) cu (gA (js f) ((cS j (da f)).map D.int) ((nY j (da f) (e:Int)).map D.int)) [oF s,Y (.lst y1),Y (.lst y2),Y (.int y3),Y (.lst y4),a,b,c]=Y (.nx [oF { s with bF:=s.bF++(gu f j e).map ldK },Y (.lst y1),Y (.lst y2),Y (.int y3),Y (.lst y4),o,n,m])
 |.nil,j,e,s,a,b,c,_=>⟨a,b,c,by simp[js,gA,eS,gu]⟩
 |.cons (.mk n c) .nil,j,e,s,a,b,d,h=>by simp only[da]at h;refine⟨Y (rQ (.mk n c)),Y (.int (2 ^ j)),Y (.int (e:Int)),?_⟩;show eS (D2 5 6 7) cu (gA [rQ (.mk n c)] [.int (2 ^ j)] [.int (e:Int)]) _=_;rw[gA,eH (ρ1:=[oF s,Y (.lst y1),Y (.lst y2),Y (.int y3),Y (.lst y4),Y (rQ (.mk n c)),Y (.int (2 ^ j)),Y (.int (e:Int))]) rfl (DR (by omega))];simp[gA,eS,gu]
 | .cons (.mk n c) (.cons x r),j,e,s,a,b,d,h=>by
  simp only[da]at h;have t:=DR (y1:=y1) (y2:=y2) (y3:=y3) (y4:=y4) (s:=s) (n:=n) (f:=2 ^ (j+1)) (j:=j) (c:=c) ž;obtain⟨o,p,m,q⟩:=DS (y1:=y1) (y2:=y2) (y3:=y3) (y4:=y4) (.cons x r) (j+1) e { s with bF:=s.bF++[ldK (j,.mk (n ||| 2 ^ (j+1)) c)] } (Y (rQ (.mk n c))) (Y (.int (2 ^ j))) (Y (.int ((2 ^ (j+1):Nat):Int))) (by simp only[da,aP,g_];omega);refine⟨o,p,m,?_⟩;have g:gA (js (.cons (.mk n c) (.cons x r))) ((cS j (da (.cons (.mk n c) (.cons x r)))).map D.int) ((nY j (da (.cons (.mk n c) (.cons x r))) (e:Int)).map D.int)=.tup [rQ (.mk n c),.int (2 ^ j),.int ((2 ^ (j+1):Nat):Int)]::gA (js (.cons x r)) ((cS (j+1) (da (.cons x r))).map D.int) ((nY (j+1) (da (.cons x r)) (e:Int)).map D.int):=by rw[<- jh];rfl
  rw[g,eH (ρ1:=[oF s,Y (.lst y1),Y (.lst y2),Y (.int y3),Y (.lst y4),Y (rQ (.mk n c)),Y (.int (2 ^ j)),Y (.int ((2 ^ (j+1):Nat):Int))]) rfl t,q];simp only[gu,aW,bH,Q0]
def OQ{s:FB}{ks:As}{j e:Nat}(hn:ks ≠ .nil)(hl:s.bF.length+da ks<2000):eI [cV s,.lst (js ks),.lst ((cS j (da ks)).map D.int),.int (e:Int)]=Y (.dJ,cV { s with bF:=s.bF++(gu ks j e).map ldK }):=by
 obtain⟨k,hk⟩:∃k,da ks=k+1:=by
  cases ks with|nil=>exact absurd rfl hn|cons x r=>exact⟨_,rfl⟩
 show (jn [oF s,Y (.lst (js ks)),Y (.lst ((cS j (da ks)).map D.int)),Y (.int (e:Int)),M,M,M,M]).bind (qK ah)=_;unfold jn;have q0:eM 4 (e2 d8 (eF (wM (eV 2) (pS v6) pN)) (eF Re)) [oF s,Y (.lst (js ks)),Y (.lst ((cS j (da ks)).map D.int)),Y (.int (e:Int)),M,M,M,M]=Y (.nx [oF s,Y (.lst (js ks)),Y (.lst ((cS j (da ks)).map D.int)),Y (.int (e:Int)),Y (.lst ((nY j (da ks) (e:Int)).map D.int)),M,M,M]):=by
  have e1:e2 d8 (eF (wM (eV 2) (pS v6) pN)) (eF Re) [oF s,Y (.lst (js ks)),Y (.lst ((cS j (da ks)).map D.int)),Y (.int (e:Int)),M,M,M,M]=d8 (.lst (zo ((cS j (da ks)).map D.int) (Y 1) M)) (.lst [.int (e:Int)]):=rfl;have e2:zo ((cS j (da ks)).map D.int) (Y 1) M=(cS (j+1) k).map D.int:=by rw[hk,yV _ (by decide)];rfl
  rw[e2]at e1;have e3:d8 (.lst ((cS (j+1) k).map D.int)) (.lst [.int (e:Int)])=Y (.lst ((nY j (da ks) (e:Int)).map D.int)):=by simp only[d8];rw[if_pos (dU (i9 (by rw[bj,g_,v_];omega))),hk,<- F9];simp
  rw[dr (e1.trans e3)];rfl
 rw[aB q0];obtain⟨b5,b6,b7,q⟩:=DS (y1:=js ks) (y2:=(cS j (da ks)).map D.int) (y3:=(e:Int)) (y4:=(nY j (da ks) (e:Int)).map D.int) ks j e s M M M (i9 hl);have q2:iX (Vx (eV 1) (eV 2) (eV 4)) (D2 5 6 7) cu [oF s,Y (.lst (js ks)),Y (.lst ((cS j (da ks)).map D.int)),Y (.int (e:Int)),Y (.lst ((nY j (da ks) (e:Int)).map D.int)),M,M,M]=eS (D2 5 6 7) cu (gA (js ks) ((cS j (da ks)).map D.int) ((nY j (da ks) (e:Int)).map D.int)) [oF s,Y (.lst (js ks)),Y (.lst ((cS j (da ks)).map D.int)),Y (.int (e:Int)),Y (.lst ((nY j (da ks) (e:Int)).map D.int)),M,M,M]:=rfl;rw[q2,q];generalize (gu ks j e).map ldK=Z;kernel_rfl
def WO:Ak->Nat|.mk n _=>n
noncomputable def Ic:Ak->Cs|.mk _ c=>c
def FO(n:Nat)(c:Cs):WO (.mk n c)=n:=rfl
def mU(n:Nat)(c:Cs):Ic (.mk n c)=c:=rfl
theorem Gm:∀a b:Cs,t9 (a.app b)=t9 a++t9 b
 |.nil,b=>rfl|.cons c r,b=>by rw[Cs.app,t9,t9,Gm r b];rfl
def pb(n:Nat)(c:Cs)(r:As):fH (.cons (.mk n c) r)=.mk (n ||| WO (fH r)) (c.app (Ic (fH r))):=by
 rw[fH];rcases fH r with⟨m,d⟩;rfl
theorem AS{x0:List D}:∀(f:As) (n:Nat) (d:List D) (g:Option D),d.length+(t9 (Ic (fH f))).length<dA->∃i,
  eS (gN 3) fM (js f) [Y (.lst x0),Y (.int (n:Int)),Y (.lst d),g]=Y (.nx [Y (.lst x0),Y (.int ((n ||| WO (fH f):Nat):Int)),Y (.lst (d++t9 (Ic (fH f)))),i])
 |.nil,n,d,g,_=>⟨g,by simp[js,eS,fH,WO,Ic,t9]⟩
 | .cons (.mk b c) f,n,d,g,k=>by
  rw[pb]at k ⊢;simp only[FO,mU,Gm,aP]at k ⊢;have l:fM [Y (.lst x0),Y (.int (n:Int)),Y (.lst d),Y (rQ (.mk b c))]=Y (.nx [Y (.lst x0),Y (.int ((n ||| b:Nat):Int)),Y (.lst (d++t9 c)),Y (rQ (.mk b c))]):=by
   have:∀(n b:Int) (c:List D),d.length+c.length<=dA->fM [Y (.lst x0),Y (.int n),Y (.lst d),Y (mh b c)]=Y (.nx [Y (.lst x0),Y (.int (bO n b)),Y (.lst (d++c)),Y (mh b c)]):=λn b c k=>by
    unfold fM;have m:Dc 1 dE (e2 b9 (eV 3) f8) [Y (.lst x0),Y (.int n),Y (.lst d),Y (mh b c)]=Y (.nx [Y (.lst x0),Y (.int (bO n b)),Y (.lst d),Y (mh b c)]):=by kernel_rfl
    rw[aB m];show (if d.length+c.length<=dA then _ else M)=_;rw[if_pos k];rfl
   rw[<- pZ];exact this _ _ _ ž
  rw[js,eH (ρ1:=[Y (.lst x0),Y (.int (n:Int)),Y (.lst d),Y (rQ (.mk b c))]) rfl l];obtain⟨i,q⟩:=AS f (n ||| b) (d++t9 c) (Y (rQ (.mk b c))) (by rw[aP];omega);refine⟨i,q.trans ?_⟩;rw[Nat.or_assoc,bH]
def L3(f:(t9 (Ic (fH a))).length<dA):iI [.lst (js a)]=Y (rQ (fH a)):=by
 show (la [Y (.lst (js a)),M,M,M]).bind iY=_;unfold la;rw[aB (dr (d :=.int 0) rfl)];simp only[aY,aZ];have d:kP 2 bd [Y (.lst (js a)),Y (.int 0),M,M]=Y (.nx [Y (.lst (js a)),Y (.int 0),Y (.lst []),M]):=rfl;rw[aB d];obtain⟨g,q⟩:=AS (x0:=js a) a 0 [] M (by rw[jC];omega);have c:iX (iL (eV 0)) (gN 3) fM [Y (.lst (js a)),Y (.int 0),Y (.lst []),M]=eS (gN 3) fM (js a) [Y (.lst (js a)),Y (.int 0),Y (.lst []),M]:=rfl;rw[aB (c.trans q)];rcases fH a with⟨n,k⟩;simp only[FO,mU,Nat.zero_or,cf];rfl
mutual
def jW:Wi->Nat
 |.any=>1|.txt _=>1|.has s=>1+oB s|.both w=>1+qo w|.one w=>1+qo w
def qo:Ws->Nat
 |.nil=>0|.cons w r=>jW w+qo r
def oB:Ss->Nat
 |.nil=>0|.cons _ _ w r=>1+jW w+oB r
end
mutual
def w6:Wi->Nat
 |.any=>0|.txt _=>0|.has s=>xN s|.both w=>EJ w|.one w=>EJ w
def EJ:Ws->Nat
 |.nil=>0|.cons w r=>w6 w+EJ r
def xN:Ss->Nat
 |.nil=>0|.cons _ _ w r=>1+w6 w+xN r
end
mutual
def Uo(T:aG->Prop):Wi->Prop
 |.any=>True|.txt t=>T t|.has s=>s ≠ .nil/\M9 T s|.both w=>QV T w|.one w=>QV T w
def QV(T:aG->Prop):Ws->Prop
 |.nil=>True|.cons w r=>Uo T w/\QV T r
def M9(T:aG->Prop):Ss->Prop
 |.nil=>True|.cons _ _ w r=>Uo T w/\M9 T r
end
mutual
def rg(b:List gw)(L:List (Nat×Ak)):Wi->Ak->Prop
 |.any,k=>k=.mk 0 .nil|.txt t,k=>∃j,k=.mk (2 ^ j) .nil/\b[j]?=Y (.tx t)|.has s,k=>∃j,k=.mk (2 ^ j) .nil/\j8 b L 0 s j|.both w,k=>∃a,lY b L w a/\k=fH a|.one w,k=>∃a,lY b L w a/\k=.mk 0 (.cons a .nil)
def lY(a:List gw)(L:List (Nat×Ak)):Ws->As->Prop
 |.nil,k=>k=.nil|.cons w r,k=>∃x y,rg a L w x/\lY a L r y/\k=.cons x y
def j8(d:List gw)(L:List (Nat×Ak))(e:Nat):Ss->Nat->Prop
 |.nil,_=>False|.cons b g w r,j=>∃a f c,rg d L w (.mk a f)/\d[j]?=Y (.st b g)/\(j,Ak.mk (a ||| c) f)∈L/\(r=.nil/\c=e\/j8 d L e r (j+1)/\c=2 ^ (j+1))
end
structure Up(tb:List gw)(L:List (Nat×Ak))(WD:List gw)(L':List (Nat×Ak)):Prop where
 t:∀ {i:Nat}{x:gw},tb[i]?=some x->WD[i]?=some x
 l:∀x∈L,x∈L'
def Up.app(c:List gw)(L:List (Nat×Ak))(a:List gw)(b:List (Nat×Ak)):Up c L (c++a) (L++b):=⟨fun {i x} h=>by rw[dW (pH h)];exact h,λx h=>by simp[h]⟩
def Up.trans{a b c}{A B C}(h:Up a A b B)(g:Up b B c C):Up a A c C:=⟨λe=>g.t (h.t e),λx e=>g.l x (h.l x e)⟩
mutual
theorem rg.up{tb a L c}(u:Up tb L a c):∀(w:Wi) (k:Ak),rg tb L w k->rg a c w k
 |.any,k,h=>h|.txt t,k,⟨j,e,h⟩=>⟨j,e,u.t h⟩|.has s,k,⟨j,e,h⟩=>⟨j,e,j8.up u s j h⟩|.both w,k,⟨b,h,e⟩=>⟨b,lY.up u w b h,e⟩|.one w,k,⟨b,h,e⟩=>⟨b,lY.up u w b h,e⟩
theorem lY.up{tb c L d}(u:Up tb L c d):∀(w:Ws) (k:As),lY tb L w k->lY c d w k
 |.nil,k,h=>h|.cons w r,k,⟨x,y,a,b,e⟩=>⟨x,y,rg.up u w x a,lY.up u r y b,e⟩
theorem j8.up{tb d L g}(u:Up tb L d g):∀(s:Ss) (j:Nat),j8 tb L e s j->j8 d g e s j
 |.nil,j,h=>h|.cons b i w r,j,⟨n,c,f,a,t,l,h⟩=>⟨n,c,f,rg.up u w _ a,u.t t,u.l _ l,h.imp id λ⟨x,y⟩=>⟨j8.up u r _ x,y⟩⟩
end
def Uq(a:List gw)(b i:Nat):Prop:=i<a.length/\(b<=i\/∃t,a[i]?=Y (.tx t))
def Z2(a:List gw)(b:Nat)(k:Ak):Prop:=∀i,CJ i k->Uq a b i
def Xa(a:List gw)(b:Nat)(k:As):Prop:=∀i,Ur i k->Uq a b i
def Uq.up{tb lo i}{c}(h:Uq tb lo i)(u:∀ {i:Nat}{x:gw},tb[i]?=Y x->c[i]?=Y x){d}(g:d<=lo):Uq c d i:=by
 obtain⟨a,b⟩:=h;have:i<c.length:=pH (u (aX a));exact⟨this,b.imp (a7 g) λ⟨t,h⟩=>⟨t,u h⟩⟩
theorem Ma:∀(a b:Cs),J3 i (a.app b)↔J3 i a\/J3 i b
 |.nil,b=>by simp[Cs.app,J3]
 |.cons c r,b=>by simp only[Cs.app,J3,Ma r b,or_assoc]
theorem HF:∀(k:As),CJ i (fH k)->Ur i k
 |.nil,h=>by simp[fH,CJ,J3]at h
 | .cons (.mk n c) r,h=>by
  rw[pb]at h;simp only[CJ,Ma,f_,dP]at h;have:n.testBit i=Z'\/J3 i c\/CJ i (fH r):=by
   rcases e:fH r with⟨m,d⟩;rw[e]at h;simp only[CJ,FO,mU]at h ⊢;rcases h with (h|h)|(h|h)
   ·exact .inl h
   ·exact .inr (.inr (.inl h))
   ·exact .inr (.inl h)
   ·exact .inr (.inr (.inr h))
  rcases this with h|h|h
  ·exact .inl (.inl h)
  ·exact .inl (.inr h)
  ·exact .inr (HF r h)
def Gn(k:Ak):Nat:=(t9 (Ic k)).length
def Px:As->Nat
 |.nil=>0|.cons x r=>Gn x+Px r
theorem xu:∀k:As,Gn (fH k)=Px k
 |.nil=>rfl|.cons (.mk n c) r=>by rw[pb,Gn,mU,Gm,aP,Px,<- xu r];rfl
def JC:gw->Bool
 |.st _ _=>Z'|_=>Z_
structure Ni(T:aG->Prop)(st sz:Nat)(a:List gw):Prop where
 sz:a.length<=sz
 st:(a.filter JC).length<=st
 tx:∀t,gw.tx t∈a->T t
 nm:gw.mk∉a
def Ni.nil{T:aG->Prop}{m n:Nat}:Ni T m n []:=⟨Ž,Ž,Ž,Ž⟩
def Ni.app{m d:Nat}(h:Ni T m n a)(g:Ni T d c b):Ni T (m+d) (n+c) (a++b):=by
 refine⟨?_,?_,λt k =>?_,?_⟩
 ·have:=h.sz;have:=g.sz;rw[aP];omega
 ·have:=h.st;have:=g.st;rw[fR,aP];omega
 ·rcases aD.mp k with k|k
  ·exact h.tx t k
  ·exact g.tx t k
 ·intro k;rcases aD.mp k with k|k
  ·exact h.nm k
  ·exact g.nm k
def Ni.le{m n:Nat}(h:Ni T m n a)(x:m<=c)(y:n<=b):Ni T c b a:=⟨a7 h.sz y,a7 h.st x,h.tx,h.nm⟩
theorem CF{T:aG->Prop}:∀s:Ss,Ni T (fP s) (fP s) (m3 s)
 |.nil =>.nil| .cons b a w r=>by
  have h:=CF (T:=T) r;refine⟨?_,?_,?_,?_⟩
  ·have:=h.sz;simp only[m3,aK,fP];omega
  ·have:=h.st;simp only[m3,bW,JC,if_true,aK,fP];omega
  ·intro t k;rcases au.mp k with k|k
   ·cases k
   ·exact h.tx t k
  ·intro k;rcases au.mp k with k|k
   ·cases k
   ·exact h.nm k
mutual
def dk:Ak->Nat
 |.mk _ a=>1+Gj a
def Gj:Cs->Nat
 |.nil=>0|.cons c r=>max (EM c) (Gj r)
def EM:As->Nat
 |.nil=>0|.cons x r=>max (dk x) (EM r)
end
mutual
def Tv:Ak->Prop
 |.mk _ a=>(t9 a).length<=1000/\Ke a
def Ke:Cs->Prop
 |.nil=>True|.cons c r=>((js c).length<=1000/\PY c)/\Ke r
def PY:As->Prop
 |.nil=>True|.cons x r=>Tv x/\PY r
end
theorem MF:∀a b:Cs,Gj (a.app b)=max (Gj a) (Gj b)
 |.nil,b=>by simp[Cs.app,Gj]
 |.cons c r,b=>by simp only[Cs.app,Gj,MF r b];omega
theorem LL:∀a b:Cs,Ke (a.app b)↔Ke a/\Ke b
 |.nil,b=>by simp[Cs.app,Ke]
 |.cons c r,b=>by simp only[Cs.app,Ke,LL r b,and_assoc]
theorem HU:∀k:As,Gj (Ic (fH k))+1<=EM k\/Gj (Ic (fH k))=0
 |.nil =>.inr rfl|.cons (.mk n c) r=>by rw[pb,mU,MF];simp only[EM,dk];have:=HU r;omega
theorem Hq:∀k:As,PY k->Ke (Ic (fH k))
 |.nil,_=>trivial|.cons (.mk n c) r,h=>by rw[pb,mU,LL];exact⟨h.1.2,Hq r h.2⟩
mutual
theorem MZ{f L}:∀(w:Wi) (k:Ak),rg f L w k->jW w<=900->dk k<=je w/\Tv k/\Gn k<=jW w
 |.any,k,h,b=>by have h:k=.mk 0 .nil:=h;subst h;simp[dk,Gj,je,Tv,Ke,t9,Gn,mU]
 |.txt t,k,⟨j,e,_⟩,b=>by subst e;simp[dk,Gj,je,Tv,Ke,t9,Gn,mU]
 |.has s,k,⟨j,e,_⟩,b=>by subst e;simp[dk,Gj,je,Tv,Ke,t9,Gn,mU]
 |.one w,k,⟨a,h,e⟩,b=>by subst e;simp only[jW]at b;obtain⟨x,y,z,u⟩:=CB w a h ž;refine⟨by simp only[dk,Gj,je];omega,⟨by simp[t9],⟨⟨by rw[M0];omega,y⟩,trivial⟩⟩,by simp[Gn,mU,t9,jW]⟩
 |.both w,k,⟨a,h,e⟩,b=>by subst e;simp only[jW]at b;obtain⟨x,y,z,u⟩:=CB w a h ž;have c:=xu a;have d:=HU a;have l:=Hq a y;rcases e:fH a with⟨n,g⟩;rw[e]at c d l;simp only[Gn,mU]at c d l ⊢;refine⟨by simp only[dk,je];omega,⟨ž,l⟩,by rw[jW];omega⟩
theorem CB{a L}:∀(w:Ws) (k:As),lY a L w k->qo w<=900->EM k<=wA w/\PY k/\Px k<=qo w/\da k<=qo w
 |.nil,k,h,b=>by have h:k=.nil:=h;subst h;simp[EM,PY,Px,da]
 | .cons w r,k,⟨x,y,h,g,e⟩,b=>by
  subst e;simp only[qo]at b;have p:1<=jW w:=by cases w<;>simp[jW]<;>omega
  obtain⟨m,d,l⟩:=MZ w x h ž;obtain⟨j,c,i,f⟩:=CB r y g ž;refine⟨by simp only[EM,wA];omega,⟨d,c⟩,by simp only[Px,qo];omega,by simp only[da,qo];omega⟩
end
def YM(k:Ak):Prop:=dk k<=12/\Tv k
def wF(L:List (Nat×Ak)):Prop:=∀l∈L,YM l.2
theorem BP:∀(k:As) (j e:Nat),EM k<=12->PY k->wF (gu k j e)
 |.nil,j,e,_,_=>λl h=>by simp[gu]at h
 |.cons (.mk n c) .nil,j,e,d,h=>λl a=>by simp only[gu,bR]at a;subst a;simp only[EM,dk]at d;exact⟨by simp only[dk];omega,h.1⟩
 | .cons (.mk n c) (.cons x r),j,e,d,h=>λl a=>by
  rw[gu]at a;have b:=d;simp only[EM,dk]at d;rcases au.mp a with rfl|a
  ·exact⟨by simp only[dk];omega,h.1⟩
  ·exact BP (.cons x r) (j+1) e (by simp only[EM];omega) h.2 l a
def BN{L:List (Nat×Ak)}(h:(L.map (·.1)).Nodup)(g:∀l∈L,l.1<n):L.length<=n:=by
 have:=ux n (L.map (·.1)) h λx a=>by obtain⟨l,b,rfl⟩:=bc.mp a;exact g l b
 simpa using this
def HH{s:FB}{a:List gw}{N:List (Nat×Ak)}(I:GI s a L)(f:((L++N).map (·.1)).Nodup)(g:∀l∈N,∃b e,a[l.1]?=Y (gw.st b e))(j:∀l∈N,∀i,CJ i l.2->i<a.length/\(l.1<i\/∃t,a[i]?=Y (gw.tx t))):GI { s with bF:=s.bF++N.map ldK } a (L++N):=by
 have c:∀l∈L++N,∃b e,a[l.1]?=Y (gw.st b e):=λl d=>(aD.mp d).elim (I.lst l) (g l)
 refine⟨I.bits,I.inner,I.star,I.eD,I.name,I.Qu,I.Qv,I.text,I.Q7,I.Uz,?_,f,c,λl d=>(aD.mp d).elim (I.ord l) (j l),?_⟩
 ·show s.bF++N.map ldK=_;rw[I.bF,gy]
 ·show (L++N).length<=s.bits;rw[I.bits];exact BN f λl d=>by obtain⟨b,n,h⟩:=c l d;exact pH h
theorem yj:∀(k:As) (j e:Nat),(gu k j e).map (·.1)=TV j (da k)
 |.nil,j,e=>rfl|.cons (.mk n c) .nil,j,e=>rfl|.cons (.mk n c) (.cons x r),j,e=>by have:=yj (.cons x r) (j+1) e;rw[gu,aW,this];rfl
def yx{m:Nat}{c:Cs}:CJ i (.mk (n ||| m) c)↔CJ i (.mk n c)\/m.testBit i=true:=by
 simp only[CJ,f_,dP];constructor
 ·rintro((h|h)|h)
  ·exact .inl (.inl h)
  ·exact .inr h
  ·exact .inl (.inr h)
 ·rintro((h|h)|h)
  ·exact .inl (.inl h)
  ·exact .inr h
  ·exact .inl (.inr h)
theorem uy:∀(k:As) (j e:Nat),∀l∈gu k j e,j<=l.1/\l.1<j+da k/\∀b,CJ b l.2->Ur b k\/(b=l.1+1/\b<j+da k)\/e.testBit b=Z'
 |.nil,j,e,l,h=>by simp[gu]at h
 | .cons (.mk n c) .nil,j,e,l,h=>by
  simp only[gu,bR]at h;subst h;refine⟨aw _,by simp[da],λb d =>?_⟩;rcases yx.mp d with h|h
  ·exact .inl (.inl h)
  ·exact .inr (.inr h)
 | .cons (.mk n c) (.cons x r),j,e,l,h=>by
  rw[gu]at h;rcases au.mp h with rfl|h
  ·refine⟨aw _,by simp[da],λb d =>?_⟩;rcases yx.mp d with h|h
   ·exact .inl (.inl h)
   ·rw[c_,decide_eq_true_eq]at h;exact .inr (.inl ⟨h.symm,by simp only[da];omega⟩)
  ·obtain⟨a,b,c⟩:=uy (.cons x r) (j+1) e l h;refine⟨ž,by simp only[da]at b ⊢;omega,λi f =>?_⟩;rcases c i f with h|⟨h,g⟩|h
   ·exact .inl (.inr h)
   ·exact .inr (.inl ⟨h,by simp only[da]at g ⊢;omega⟩)
   ·exact .inr (.inr h)
def Bk(a:List gw)(L:List (Nat×Ak)):Ss->As->Prop
 |.nil,k=>k=.nil|.cons _ _ w r,k=>∃x y,rg a L w x/\Bk a L r y/\k=.cons x y
theorem Bk.up{tb d L f}(u:Up tb L d f):∀(s:Ss) (k:As),Bk tb L s k->Bk d f s k
 |.nil,k,h=>h|.cons b g w r,k,⟨x,y,a,c,e⟩=>⟨x,y,rg.up u w x a,Bk.up u r y c,e⟩
theorem Bk.ln{d L}:∀(s:Ss) (k:As),Bk d L s k->oB s<=900->EM k+1<=n_ s/\PY k
 |.nil,k,h,_=>by have h:k=.nil:=h;subst h;simp[EM,PY,n_]
 |.cons b i w r,k,⟨x,y,a,c,e⟩,z=>by subst e;simp only[oB]at z;obtain⟨m,g,l⟩:=MZ w x a ž;obtain⟨j,f⟩:=Bk.ln r y c ž;exact⟨by simp only[EM,n_];omega,g,f⟩
theorem Bk.len{d L}:∀(s:Ss) (k:As),Bk d L s k->da k=fP s
 |.nil,k,h=>by have h:k=.nil:=h;subst h;rfl
 |.cons b f w r,k,⟨x,y,a,c,e⟩=>by subst e;rw[da,fP,Bk.len r y c]
theorem vw{tb:List gw}{L:List (Nat×Ak)}:∀(a:Ss) (f:As) (j:Nat),a ≠ .nil->Bk tb L a f->(∀i x,(m3 a)[i]?=Y x->tb[j+i]?=Y x)->(∀l∈gu f j e,l∈L)->j8 tb L e a j
 |.nil,f,j,h,_,_,_=>absurd rfl h|.cons b t w .nil,f,j,_,⟨⟨n,c⟩,y,p,d,q⟩,g,k=>by have d:y=.nil:=d;subst d;subst q;exact⟨n,c,e,p,g 0 _ rfl,k _ (by simp[gu]),.inl ⟨rfl,rfl⟩⟩
 | .cons b t w (.cons v m s r),f,j,_,⟨⟨n,c⟩,y,p,d,q⟩,g,k=>by
  subst q;have o:=d;obtain⟨x,z,_,_,q⟩:=d;subst q;refine⟨n,c,2 ^ (j+1),p,g 0 _ rfl,k _ (by simp[gu]),.inr ⟨?_,rfl⟩⟩;refine vw (.cons v m s r) (.cons x z) (j+1) Ž o (λi y u =>?_) λl h=>k l (by rw[gu];exact aj _ h)
  have:=g (i+1) y (by simpa [m3] using u);rw[show j+1+i=j+(i+1) by omega];exact this
structure Go(T:aG->Prop)(st sz:Nat)(s:FB)(tb:List gw)(L:List (Nat×Ak))(s':FB)(WD:List gw)(L':List (Nat×Ak)):Prop where
 gi:GI s' WD L'
 q:s'.q=s.q
 add:∃a,WD=tb++a/\Ni T st sz a
 ld:∃b,L'=L++b
 lo:∀l∈L',l∈L\/tb.length<=l.1
 lk:wF L->wF L'
def Go.up{T st e s tb L f c d}(h:Go T st e s tb L f c d):Up tb L c d:=by
 obtain⟨a,rfl,_⟩:=h.add;obtain⟨b,rfl⟩:=h.ld;exact .app _ _ _ _
def Go.len{T st d s c L e b f}(h:Go T st d s c L e b f):c.length<=b.length/\b.length<=c.length+d:=by
 obtain⟨a,rfl,k⟩:=h.add;have:=k.sz;rw[aP];omega
def Go.refl{T s a L}(h:GI s a L):Go T 0 0 s a L s a L:=⟨h,rfl,⟨[],Ž,.nil⟩,⟨[],Ž⟩,λ_ =>.inl,id⟩
def Go.trans{T st q s p L r j t st' sz' n i o}(h:Go T st q s p L r j t)(g:Go T st' sz' r j t n i o):Go T (st+st') (q+sz') s p L n i o:=by
 have l:=h.len;obtain⟨a,e,k⟩:=h.add;obtain⟨b,f,m⟩:=g.add;obtain⟨c,u⟩:=h.ld;obtain⟨d,v⟩:=g.ld;refine⟨g.gi,g.q.trans h.q,⟨a++b,by rw[f,e,bH],k.app m⟩,⟨c++d,by rw[v,u,bH]⟩,λx w =>?_,λz=>g.lk (h.lk z)⟩;rcases g.lo x w with z|z
 ·exact h.lo x z
 ·exact .inr ž
def Go.le{T st g s f L i d j st' sz'}(h:Go T st g s f L i d j)(a:st<=st')(b:g<=sz'):Go T st' sz' s f L i d j:=by
 obtain⟨c,e,k⟩:=h.add;exact⟨h.gi,h.q,⟨c,e,k.le a b⟩,h.ld,h.lo,h.lk⟩
def Mh{T:aG->Prop}{s c:FB}{a:Ss}(h:GI c (b++m3 a) L)(q:c.q=s.q):Go T (fP a) (fP a) s b L c (b++m3 a) L:=⟨h,q,⟨_,rfl,CF a⟩,⟨[],Ž⟩,λ_ =>.inl,id⟩
theorem k8:∀a:Ss,(m3 a).length=fP a
 |.nil=>rfl|.cons _ _ _ r=>by rw[m3,aK,k8 r];rfl
theorem Fi:∀(a:Ss) (i:Nat),i<fP a->∃b c,(m3 a)[i]?=Y (.st b c)
 |.nil,i,h=>by simp[fP]at h
 |.cons b c _ r,0,h=>⟨b,c,rfl⟩|.cons b c _ r,i+1,h=>by obtain⟨b,c,e⟩:=Fi r i (by simp only[fP]at h;omega);exact⟨b,c,by simpa [m3] using e⟩
def OZ{v:Nat}{s k:FB}{d c:List gw}{f:As}{e:Nat}(h:Go T v t s (d++m3 a) L k c r)(E:∀l∈L,l.1<d.length)(B:Xa c (d.length+fP a) f)(F:da f=fP a)(D:∀b,e.testBit b=Z'->d.length+fP a<=b/\b<c.length):
  GI { k with bF:=k.bF++(gu f d.length e).map ldK } c (r++gu f d.length e)/\∀i x,(m3 a)[i]?=Y x->c[d.length+i]?=Y x:=by
 have u:=h.up;have A:=h.len.1;rw[aP,k8]at A;have o:∀i x,(m3 a)[i]?=Y x->c[d.length+i]?=Y x:=λi x m=>by refine u.t ?_;rw[gW (by omega),show d.length+i-d.length=i by omega];exact m
 refine⟨HH h.gi ?_ (λl j =>?_) (λl j i C =>?_),o⟩
 ·rw[gy,yj,gm];refine⟨h.gi.R3,List.nodup_range' ..,λx m y n z =>?_⟩;subst z;obtain⟨l,j,rfl⟩:=bc.mp m;have n:=List.mem_range'_1.mp n;rcases h.lo l j with z|z
  ·have:=E l z;omega
  ·rw[aP,k8]at z;omega
 ·obtain⟨p,q,_⟩:=uy f _ e l j;obtain⟨b,w,g⟩:=Fi a (l.1-d.length) ž;refine⟨b,w,?_⟩;have:=o _ _ g;rwa [show d.length+(l.1-d.length)=l.1 by omega]at this
 ·obtain⟨p,q,g⟩:=uy f _ e l j;rcases g i C with z|⟨z,y⟩|z
  ·obtain⟨x,y⟩:=B i z;refine⟨x,y.imp (λy=>ž) id⟩
  ·exact⟨ž,.inl ž⟩
  ·obtain⟨x,y⟩:=D i z;exact⟨y,.inl ž⟩
def OX{b:Bool}(h:t a=Y b):ie t g dG a=if b=Z' then g a else Y (.nx a):=by
 unfold ie;rw[h];cases b<;>rfl
def w8{b:bY}(e:g b=Y (.rm d a)):bp g h b=Y (.rm d a):=by unfold bp;rw[e];rfl
def OS{s:FB}{b:Bool}(h:gj (kS x) (kS k)=Y (.bl b)):cT (e2 gj (e2 b9 (eV 1) f8) (eK (kS k))) [oF s,Y (.tup (kS x::r)),y]=Y b:=by
 have e:e2 b9 (eV 1) f8 [oF s,Y (.tup (kS x::r)),y]=Y (kS x):=by show p_ (kS x::r) ((0:Nat):Int)=_;exact eT (j:=0) rfl
 have c:e2 gj (e2 b9 (eV 1) f8) (eK (kS k)) [oF s,Y (.tup (kS x::r)),y]=gj (kS x) (kS k):=by show ((e2 b9 (eV 1) f8 [oF s,Y (.tup (kS x::r)),y]).bind λa=>(Y (kS k)).bind λb=>gj a b)=_;rw[e];rfl
 unfold cT;rw[c,h];rfl
def ya{s:FB}:(Y (DO.rm d [oF s,x,y])).bind (qK ah)=Y (d,cV s):=by kernel_rfl
def JW{F:List D->Option (D×D)}{s:FB}:pw 2 3 ah (cz F a) [cV s,.tup [kS "any"]]=Y (mh 0 [],cV s):=by
 show (cz F a [oF s,Y (.tup [kS "any"]),M]).bind (qK ah)=_;unfold cz;have q:ie (cT (e2 gj (e2 b9 (eV 1) f8) (eK (kS "any")))) (eW (mP (dN (aC f8 (aC (eF bd) aN))))) dG [oF s,Y (.tup [kS "any"]),M]=Y (.rm (mh 0 []) [oF s,Y (.tup [kS "any"]),M]):=by rw[OX (b:=Z') (OS (by kernel_rfl))];rfl
 rw[w8 q,ya]
def Gu{F:List D->Option (D×D)}{s:FB}(h:cZ [cV s,.str t]=Y (.int i,cV a)):pw 2 3 ah (cz F c) [cV s,.tup [kS "text",.str t]]=Y (mh i [],cV a):=by
 show (cz F c [oF s,Y (.tup [kS "text",.str t]),M]).bind (qK ah)=_;unfold cz;have d:∀g,ie (cT (e2 gj (e2 b9 (eV 1) f8) (eK (kS "any")))) g dG [oF s,Y (.tup [kS "text",.str t]),M]=Y (.nx [oF s,Y (.tup [kS "text",.str t]),M]):=λg=>by rw[OX (b:=Z_) (OS (by kernel_rfl))];rfl
 rw[aB (d _)];have m:cE "Facts" "enter_text" ah cZ 0 (iw (mP (e2 b9 (eV 1) v6)) lG) [oF s,Y (.tup [kS "text",.str t]),M]=Y (.int i,[oF a,Y (.tup [kS "text",.str t]),M]):=by rw[kx (ρ1:=[oF s,Y (.tup [kS "text",.str t]),M]) (args:=[.str t]) (by decide) rfl rfl rfl h];rfl
 have q:ie (cT (e2 gj (e2 b9 (eV 1) f8) (eK (kS "text")))) (eW (qN (iw (cE "Facts" "enter_text" ah cZ 0 (iw (mP (e2 b9 (eV 1) v6)) lG)) (iw (mP (eF bd)) lG)))) dG [oF s,Y (.tup [kS "text",.str t]),M]=Y (.rm (mh i []) [oF a,Y (.tup [kS "text",.str t]),M]):=by rw[OX (b:=Z') (OS (by kernel_rfl)),if_pos rfl];unfold eW qN;rw[show ∀f g b,iw f g b=(f b).bind λp=>(g p.2).bind λq=>Y (p.1::q.1,q.2) from λ_ _ _=>rfl,m];rfl
 rw[w8 q,ya]
def JV{F:List D->Option (D×D)}{s:FB}(h:a [cV s,.lst x]=Y (.int i,cV b)):pw 2 3 ah (cz F a) [cV s,.tup [kS "has",.lst x]]=Y (mh i [],cV b):=by
 show (cz F a [oF s,Y (.tup [kS "has",.lst x]),M]).bind (qK ah)=_;unfold cz;have e:∀g,ie (cT (e2 gj (e2 b9 (eV 1) f8) (eK (kS "any")))) g dG [oF s,Y (.tup [kS "has",.lst x]),M]=Y (.nx [oF s,Y (.tup [kS "has",.lst x]),M]):=λg=>by rw[OX (b:=Z_) (OS (by kernel_rfl))];rfl
 have d:∀g,ie (cT (e2 gj (e2 b9 (eV 1) f8) (eK (kS "text")))) g dG [oF s,Y (.tup [kS "has",.lst x]),M]=Y (.nx [oF s,Y (.tup [kS "has",.lst x]),M]):=λg=>by rw[OX (b:=Z_) (OS (by kernel_rfl))];rfl
 rw[aB (e _),aB (d _)];have m:cE "Facts" "enter_has" ah a 0 (iw (mP (e2 b9 (eV 1) v6)) lG) [oF s,Y (.tup [kS "has",.lst x]),M]=Y (.int i,[oF b,Y (.tup [kS "has",.lst x]),M]):=by rw[kx (ρ1:=[oF s,Y (.tup [kS "has",.lst x]),M]) (args:=[.lst x]) (by decide) rfl rfl rfl h];rfl
 have q:ie (cT (e2 gj (e2 b9 (eV 1) f8) (eK (kS "has")))) (eW (qN (iw (cE "Facts" "enter_has" ah a 0 (iw (mP (e2 b9 (eV 1) v6)) lG)) (iw (mP (eF bd)) lG)))) dG [oF s,Y (.tup [kS "has",.lst x]),M]=Y (.rm (mh i []) [oF b,Y (.tup [kS "has",.lst x]),M]):=by rw[OX (b:=Z') (OS (by kernel_rfl)),if_pos rfl];unfold eW qN;rw[show ∀f g c,iw f g c=(f c).bind λp=>(g p.2).bind λq=>Y (p.1::q.1,q.2) from λ_ _ _=>rfl,m];rfl
 rw[w8 q,ya]
def Es{r x}{s b:FB}{F:List D->Option (D×D)}(j:gj (kS k) (kS "any")=Y (.bl Z_))(i:gj (kS k) (kS "text")=Y (.bl Z_))(f:gj (kS k) (kS "has")=Y (.bl Z_))(m:qs (iL (e2 b9 (eV 1) v6)) [M,Y 0] (gN 0) (cE "Facts" "asked" ah F 1 (iw (mP (eV 0)) lG)) 1 0 ah [oF s,Y (.tup [kS k,.lst x]),M]=Y (.lst (js c),[oF b,Y (.tup [kS k,.lst x]),M]))(e:(bp (ie (cT (e2 gj (e2 b9 (eV 1) f8) ol)) (eW (mP on)) dG) (eW (mP (a_ iI (aC (eV 2) aN))))) [oF b,Y (.tup [kS k,.lst x]),Y (.lst (js c))]=Y (.rm r [oF b,Y (.tup [kS k,.lst x]),Y (.lst (js c))])):pw 2 3 ah (cz F a) [cV s,.tup [kS k,.lst x]]=Y (r,cV b):=by
 show (cz F a [oF s,Y (.tup [kS k,.lst x]),M]).bind (qK ah)=_;unfold cz;have d:∀(n:String) g,gj (kS k) (kS n)=Y (.bl Z_)->ie (cT (e2 gj (e2 b9 (eV 1) f8) (eK (kS n)))) g dG [oF s,Y (.tup [kS k,.lst x]),M]=Y (.nx [oF s,Y (.tup [kS k,.lst x]),M]):=λn g h=>by rw[OX (b:=Z_) (OS h)];rfl
 rw[aB (d "any" _ j),aB (d "text" _ i),aB (d "has" _ f)];have q:gG 2 (qs (iL (e2 b9 (eV 1) v6)) [M,Y 0] (gN 0) (cE "Facts" "asked" ah F 1 (iw (mP (eV 0)) lG)) 1 0 ah) [oF s,Y (.tup [kS k,.lst x]),M]=Y (.nx [oF b,Y (.tup [kS k,.lst x]),Y (.lst (js c))]):=by unfold gG;rw[m];rfl
 rw[aB q,e,ya]
def JU{x}{s b:FB}{F:List D->Option (D×D)}(m:qs (iL (e2 b9 (eV 1) v6)) [M,Y 0] (gN 0) (cE "Facts" "asked" ah F 1 (iw (mP (eV 0)) lG)) 1 0 ah [oF s,Y (.tup [kS "one",.lst x]),M]=Y (.lst (js c),[oF b,Y (.tup [kS "one",.lst x]),M])):pw 2 3 ah (cz F a) [cV s,.tup [kS "one",.lst x]]=Y (rQ (.mk 0 (.cons c .nil)),cV b):=by
 refine Es (by kernel_rfl) (by kernel_rfl) (by kernel_rfl) m ?_;refine w8 ?_;rw[OX (b:=Z') (OS (by kernel_rfl)),if_pos rfl];rfl
def Gv{x}{s:FB}{b:As}{F:List D->Option (D×D)}(c:Gn (fH b)<2000)(m:qs (iL (e2 b9 (eV 1) v6)) [M,Y 0] (gN 0) (cE "Facts" "asked" ah F 1 (iw (mP (eV 0)) lG)) 1 0 ah [oF s,Y (.tup [kS "both",.lst x]),M]=Y (.lst (js b),[oF d,Y (.tup [kS "both",.lst x]),M])):pw 2 3 ah (cz F a) [cV s,.tup [kS "both",.lst x]]=Y (rQ (fH b),cV d):=by
 refine Es (by kernel_rfl) (by kernel_rfl) (by kernel_rfl) m ?_;rw[aB (ρ':=[oF d,Y (.tup [kS "both",.lst x]),Y (.lst (js b))]) (by rw[OX (b:=Z_) (OS (by kernel_rfl))];rfl)];have e:a_ iI (aC (eV 2) aN) [oF d,Y (.tup [kS "both",.lst x]),Y (.lst (js b))]=Y (rQ (fH b)):=L3 (i9 c);unfold eW mP;rw[e];rfl
def BQ{F:List D->Option (D×D)}{f:DL}{ρ:bY}{ds:List D}{s:FB}(k:f ρ=Y ds)(i:eV 0 ρ=oF s)(j:eU 0 ρ=ρ)(t:ds.length<=1000)(e:td [M,oF s] (gN 0) (cE "Facts" "asked" ah F 1 g) 1 ah ds (cV s)=Y (r,cV c)):qs f [M,Y 0] (gN 0) (cE "Facts" "asked" ah F 1 g) 1 0 ah ρ=Y (.lst r,ρ.set 0 (oF c)):=by
 unfold qs;have q:pf ah 0 ρ=Y (cV s):=by unfold pf Ab;rw[i];kernel_rfl
 have p:kM [M,Y 0] ρ=[M,oF s]:=by
  have:(ρ[0]?).getD M=oF s:=by rw[gY i];rfl
  show [M,(ρ[0]?).getD M]=_;rw[this]
 rw[k];simp only[ae];rw[if_pos (dU (i9 (by omega))),q,j];simp only[ae];rw[p,e];rfl
def Hv{F:List D->Option (D×D)}{s:FB}{v:D}(m:∀s,g [Y d,oF s]=Y ([v],[Y d,oF s]))(h:F [cV s,v]=Y (a,cV b))(k:td [M,x] (gN 0) (cE "Facts" "asked" ah F 1 g) 1 ah e (cV b)=Y (r,cV c)):td [M,x] (gN 0) (cE "Facts" "asked" ah F 1 g) 1 ah (d::e) (cV s)=Y (a::r,cV c):=by
 rw[td];have w:gN 0 d ([M,x].set 1 (Y (.obj ah (cV s))))=Y [Y d,oF s]:=rfl;have v:cE "Facts" "asked" ah F 1 g [Y d,oF s]=Y (a,(eU 1 [Y d,oF s]).set 1 (oF b)):=kx (ρ1:=[Y d,oF s]) ſ rfl (m s) rfl h;have u:pf ah 1 ((eU 1 [Y d,oF s]).set 1 (oF b))=Y (cV b):=by have:eV 1 ((eU 1 [Y d,oF s]).set 1 (oF b))=oF b:=rfl;unfold pf Ab;rw[this];kernel_rfl
 rw[w];simp only[ae,v,u,k];rfl
def Sx{F G:List D->Option (D×D)}{s b:FB}(k:a ≠ .nil)(l:da d=fP a)(v:fw [cV s,.lst (dR a)]=Y (.lst ((cS s.bits (fP a)).map D.int),cV c))(i:td [M,oF c] (gN 0) (cE "Facts" "asked" ah F 1 (iw (mP (e2 b9 (eV 0) u8)) lG)) 1 ah (dR a) (cV c)=Y (js d,cV b))(t:fP a<=1000)(h:b.bF.length+da d<2000):
  pw 2 3 ah (gI F G) [cV s,.lst (dR a)]=Y (.int (2 ^ s.bits),cV { b with bF:=b.bF++(gu d s.bits 0).map ldK }):=by
 have o:d ≠ .nil:=by
  intro z;subst z;cases a with
  |nil=>exact k rfl|cons _ _ _ r=>simp[da,fP]at l
 have m:=OQ (s:=b) (ks:=d) (j:=s.bits) (e:=0) o h;rw[l]at m;show (gI F G [oF s,Y (.lst (dR a)),M]).bind (qK ah)=_;unfold gI;have q0:gG 2 (cE "Facts" "enter" ah fw 0 (iw (mP (eV 1)) lG)) [oF s,Y (.lst (dR a)),M]=Y (.nx [oF c,Y (.lst (dR a)),Y (.lst ((cS s.bits (fP a)).map D.int))]):=by unfold gG;rw[kx (ρ1:=[oF s,Y (.lst (dR a)),M]) (args:=[.lst (dR a)]) (by decide) rfl rfl rfl v];rfl
 rw[aB q0];have u:=BQ (f:=iL (eV 1)) (ρ:=[oF c,Y (.lst (dR a)),Y (.lst ((cS s.bits (fP a)).map D.int))]) rfl rfl rfl (by rw[vC];exact t) i;have e:iw (qs (iL (eV 1)) [M,Y 0] (gN 0) (cE "Facts" "asked" ah F 1 (iw (mP (L2.e2 b9 (eV 0) u8)) lG)) 1 0 ah) (iw (mP (eV 2)) (iw (mP f8) lG)) [oF c,Y (.lst (dR a)),Y (.lst ((cS s.bits (fP a)).map D.int))]=Y ([.lst (js d),.lst ((cS s.bits (fP a)).map D.int),.int 0],[oF b,Y (.lst (dR a)),Y (.lst ((cS s.bits (fP a)).map D.int))]):=by rw[show ∀f g j,iw f g j=(f j).bind λp=>(g p.2).bind λq=>Y (p.1::q.1,q.2) from λ_ _ _=>rfl,u];rfl
 generalize w:(gu d s.bits 0).map ldK=N at *
 have n:mL (cE "Facts" "lead" ah eI 0 (iw (qs (iL (eV 1)) [M,Y 0] (gN 0) (cE "Facts" "asked" ah F 1 (iw (mP (L2.e2 b9 (eV 0) u8)) lG)) 1 0 ah) (iw (mP (eV 2)) (iw (mP f8) lG)))) [oF c,Y (.lst (dR a)),Y (.lst ((cS s.bits (fP a)).map D.int))]=Y (.nx [oF { b with bF:=b.bF++N },Y (.lst (dR a)),Y (.lst ((cS s.bits (fP a)).map D.int))]):=by unfold mL;rw[kx (s:=c) (s1:=b) (by decide) rfl e rfl m];rfl
 rw[aB n];have q2:L2.e2 b9 (eV 2) f8 [oF { b with bF:=b.bF++N },Y (.lst (dR a)),Y (.lst ((cS s.bits (fP a)).map D.int))]=Y (.int (2 ^ s.bits)):=by
  show p_ ((cS s.bits (fP a)).map D.int) ((0:Nat):Int)=_;cases a with
  |nil=>exact absurd rfl k|cons _ _ _ r=>exact eT (j:=0) rfl
 unfold eW mP;rw[q2];exact ya
def Qk:Ss->Nat
 |.nil=>0|.cons _ _ w r=>jW w+Qk r
def T8:Ss->Nat
 |.nil=>0|.cons _ _ w r=>w6 w+T8 r
theorem Af:∀s,oB s=fP s+Qk s
 |.nil=>rfl|.cons _ _ w r=>by rw[oB,fP,Qk,Af r];omega
theorem Kx:∀s,xN s=fP s+T8 s
 |.nil=>rfl|.cons _ _ w r=>by rw[xN,fP,T8,Kx r];omega
def Wp(T:aG->Prop)(m:Nat)(w:Wi):Prop:=∀s b L,GI s b L->b.length+jW w<=900->∃k c a d,cw m [cV s,cq w]=Y (rQ k,cV c)/\Go T (w6 w) (jW w) s b L c a d/\rg a d w k/\Z2 a b.length k/\Gn k<=jW w
def TB(T:aG->Prop)(m:Nat)(w:Ws):Prop:=∀s b L x,GI s b L->b.length+qo w<=900->∃c d a e,td [M,x] (gN 0) (cE "Facts" "asked" ah (cw m) 1 (iw (mP (eV 0)) lG)) 1 ah (iW w) (cV s)=Y (js c,cV d)/\Go T (EJ w) (qo w) s b L d a e/\lY a e w c/\Xa a b.length c/\Px c<=qo w
def Iy(T:aG->Prop)(m:Nat)(a:Ss):Prop:=∀s c L x,GI s c L->c.length+Qk a<=900->∃d e b f,td [M,x] (gN 0) (cE "Facts" "asked" ah (cw m) 1 (iw (mP (e2 b9 (eV 0) u8)) lG)) 1 ah (dR a) (cV s)=Y (js d,cV e)/\Go T (T8 a) (Qk a) s c L e b f/\Bk b f a d/\Xa b c.length d
def Wk(T:aG->Prop)(m:Nat)(a:Ss):Prop:=∀s c L,GI s c L->c.length+oB a<=900->∃d b e,cI m [cV s,.lst (dR a)]=Y (.int (2 ^ c.length),cV d)/\Go T (xN a) (oB a) s c L d b e/\j8 b e 0 a c.length/\c.length<b.length
def LK(h:Uq a b j):Z2 a b (.mk (2 ^ j) .nil):=λi c=>by
 simp only[CJ,J3,or_false,c_,decide_eq_true_eq]at c;subst c;exact h
theorem wh:∀w:Ws,(iW w).length<=qo w
 |.nil=>by simp[iW]
 | .cons w r=>by
  have:=wh r;have:1<=jW w:=by cases w<;>simp[jW]<;>omega
  simp only[iW,qo,aK];omega
def Mf{m:Nat}(P:n_ a<=12)(n:ER a)(o:a ≠ .nil)(h:Iy T m a):Wk T (m+1) a:=by
 intro s k L I b;rw[Af]at b;have C:=I.bits;obtain⟨q,R,w,A⟩:=Ed I a n ž;have H:=Mh (T:=T) (a:=a) w A;obtain⟨e,O,i,j,K,f,p,t⟩:=h q _ L (oF q) w (by rw[aP,k8];omega);rw[aP,k8]at t;have d:=Bk.len a e p;have B:=f.len;rw[aP,k8]at B;have G:∀l∈L,l.1<k.length:=λl d=>by obtain⟨b,n,h⟩:=I.lst l d;exact pH h
 obtain⟨N,D⟩:=OZ (e:=0) f G t d (λb F=>by simp at F);have J:=f.gi.SJ;have Q:=f.gi.bits;have u:=Sx (G:=cI m) o d R K ž (by rw[f.gi.bF,bj];omega);rw[C]at u;have v:1<=fP a:=by
  cases a with|nil=>exact absurd rfl o|cons _ _ _ r=>simp[fP]
 refine⟨_,i,j++gu e k.length 0,u,?_,vw a e k.length o (Bk.up (tb:=i) (L:=j) ⟨id,λx h=>by simp[h]⟩ a e p) D (λl h=>by simp[h]),ž⟩;have g:=(H.trans f).le (st':=xN a) (sz':=oB a) (by rw[Kx];omega) (by rw[Af];omega);obtain⟨c,E⟩:=g.ld;refine⟨N,g.q,g.add,⟨c++gu e k.length 0,by rw[E,bH]⟩,λl d =>?_,λz l d =>?_⟩
 rotate_left
 ·obtain⟨x,y⟩:=Bk.ln a e p (by rw[Af];omega);exact(aD.mp d).elim (g.lk z l) (BP e _ 0 ž y l)
 rcases aD.mp d with d|d
 ·exact g.lo l d
 ·exact .inr (uy e _ 0 l d).1
mutual
theorem Et:∀(w:Wi) (m:Nat),je w<=m->m<=13->Ts w->Uo T w->Wp T m w
 |.any,0,h,_,_,_=>by simp[je]at h
 |.any,m+1,h,_,_,_=>λs l L I b=>⟨.mk 0 .nil,s,l,L,JW,(Go.refl I).le Ž Ž,rfl,λi r=>by simp[CJ,J3]at r,by simp[Gn,Ic,t9]⟩
 |.txt t,0,h,_,_,_=>by simp[je]at h
 | .txt t,m+1,h,y,_,o=>λs l L I b=>by
  have O:=I.bits;simp only[jW]at b;obtain⟨j,f,B,e,G,F,z,q⟩:=NS I ž t;refine⟨.mk (2 ^ j) .nil,f,l++B,L,?_,⟨G,q,⟨B,rfl,?_⟩,⟨[],Ž⟩,λ_ =>.inl,id⟩,⟨j,rfl,z⟩,LK ⟨pH z,.inr ⟨t,z⟩⟩,by simp[Gn,Ic,t9]⟩
  ·have:=Gu (F:=cw m) (c:=cI m) e;rw[jh]at this;exact this
  ·rcases F with rfl|rfl
   ·exact .nil
   ·refine⟨by simp[jW],by simp[w6,JC],λK C =>?_,Ž⟩;simp at C;subst C;exact o
 |.has a,0,h,_,_,_=>by simp[je]at h
 | .has a,m+1,h,y,n,o=>λs l L I b=>by
  have J:n_ a<=m:=by simp only[je]at h;omega
  have N:=pP a;obtain⟨m,rfl⟩:∃k,m=k+1:=⟨m-1,ž⟩;simp only[jW]at b;obtain⟨u,d,v,e,g,H,E⟩:=Mf ž n o.1 (xJ a m J ž n o.2) s l L I ž;refine⟨.mk (2 ^ l.length) .nil,u,d,v,?_,g.le (by simp[w6]) (by simp[jW]),⟨_,rfl,H⟩,LK ⟨E,.inl (aw _)⟩,by simp[Gn,Ic,t9]⟩;have:=JV (F:=cw (m+1)) e;rw[jh]at this;exact this
 |.one w,0,h,_,_,_=>by simp[je]at h
 |.one w,m+1,h,y,n,o=>λs l L I b=>by simp only[jW]at b;obtain⟨p,u,d,v,e,g,A,x,c⟩:=CC w m (by simp only[je]at h;omega) ž n o s l L (oF s) I ž;have D:=wh w;refine⟨.mk 0 (.cons p .nil),u,d,v,JU (BQ (f:=iL (e2 b9 (eV 1) v6)) (ρ:=[oF s,Y (.tup [kS "one",.lst (iW w)]),M]) (ds:=iW w) (by unfold iL;rw[WQ rfl];rfl) rfl rfl ž e),g.le (by simp[w6]) (by simp[jW]),⟨p,A,rfl⟩,λi r =>?_,by simp[Gn,Ic,t9,jW]⟩;simp only[CJ,J3,or_false,Nat.zero_testBit,dO,false_or]at r;exact x i r
 |.both w,0,h,_,_,_=>by simp[je]at h
 |.both w,m+1,h,y,n,o=>λs l L I b=>by simp only[jW]at b;obtain⟨p,u,d,v,e,g,A,x,c⟩:=CC w m (by simp only[je]at h;omega) ž n o s l L (oF s) I ž;have D:=wh w;refine⟨fH p,u,d,v,Gv (by rw[xu];omega) (BQ (f:=iL (e2 b9 (eV 1) v6)) (ρ:=[oF s,Y (.tup [kS "both",.lst (iW w)]),M]) (ds:=iW w) (by unfold iL;rw[WQ rfl];rfl) rfl rfl ž e),g.le (by simp[w6]) (by simp[jW]),⟨p,A,rfl⟩,λi r=>x i (HF p r),by rw[xu,jW];omega⟩
theorem CC:∀(w:Ws) (m:Nat),wA w<=m->m<=13->PV w->QV T w->TB T m w
 |.nil,m,_,_,_,_=>λs e L x I b=>⟨.nil,s,e,L,rfl,(Go.refl I).le Ž Ž,rfl,λi a=>a.elim,by simp[Px]⟩
 | .cons w r,m,h,p,n,o=>λs e L x I b=>by
  simp only[wA]at h;simp only[qo]at b;obtain⟨k,t,d,D,A,g,C,y,F⟩:=Et w m ž p n.1 o.1 s e L I ž;have u:=g.len;obtain⟨l,q,c,j,z,f,B,v,E⟩:=CC r m ž p n.2 o.2 t d D x g.gi ž;refine⟨.cons k l,q,c,j,Hv (λs=>rfl) A z,g.trans f,⟨k,l,rg.up f.up w k C,B,rfl⟩,λi a =>?_,by simp only[Px,qo];omega⟩;rcases a with a|a
  ·exact(y i a).up f.up.t (aw _)
  ·exact(v i a).up id u.1
theorem xJ:∀(a:Ss) (m:Nat),n_ a<=m+1->m<=13->ER a->M9 T a->Iy T m a
 |.nil,m,_,_,_,_=>λs f L x I b=>⟨.nil,s,f,L,rfl,(Go.refl I).le Ž Ž,rfl,λi c=>c.elim⟩
 | .cons H F w r,m,h,q,n,o=>λs f L x I b=>by
  simp only[n_]at h;simp only[Qk]at b;obtain⟨k,u,e,E,B,j,D,z,G⟩:=Et w m ž q n.2.1 o.1 s f L I ž;have v:=j.len;obtain⟨p,t,d,l,A,g,C,y⟩:=xJ r m ž q n.2.2 o.2 u e E x j.gi ž;refine⟨.cons k p,t,d,l,Hv (v:=cq w) (λs =>?_) B A,j.trans g,⟨k,p,rg.up g.up w k D,C,rfl⟩,λi c =>?_⟩
  ·kernel_rfl
  rcases c with c|c
  ·exact(z i c).up g.up.t (aw _)
  ·exact(y i c).up id v.1
end
mutual
def FQ(a:Nat):Ak->Bool
 |.mk n b=>(a &&& n==n)&&(DH a b).all id
def DH(a:Nat):Cs->List Bool
 |.nil=>[]|.cons c r=>(DC a c).any id::DH a r
def DC(a:Nat):As->List Bool
 |.nil=>[]|.cons x r=>FQ a x::DC a r
end
def PQ:(a &&& n==n)=Z'↔Sb n a:=by
 rw[beq_iff_eq];constructor
 ·intro h i e;rw[<- h,jB,aO]at e;exact e.1
 ·intro h;apply wW;intro i;rw[jB];cases e:n.testBit i with
  |true=>rw[h i e];rfl|false=>simp
mutual
theorem yl:∀k,FQ a k=Z'↔se a k
 |.mk n b=>by rw[FQ,aO,PQ,DD b];rfl
theorem DD:∀k,(DH a k).all id=Z'↔qc a k
 |.nil=>by simp[DH,qc]
 |.cons c r=>by rw[DH,k6,aO,DD r];exact and_congr (DB c) rT
theorem DB:∀k,(DC a k).any id=Z'↔wO a k
 |.nil=>by simp[DC,wO]
 |.cons x r=>by rw[DC,jG,dP,DB r];exact or_congr (yl x) rT
end
def To{a:List b}{f:b->Bool}:iQ Z' [.lst (a.map λd =>.bl (f d))]=Y (.bl (a.all f)):=by
 simp only[iQ];rw[if_pos (by simp[vg,cB,L9])];simp[vg,cB,u4]
def uD{ρ:bY}(h:a d c=Y ρ)(g:e ρ=Y x)(k:oO c a fj e b=Y r):oO c a fj e (d::b)=Y (x::r):=by
 rw[oO,h];simp only[ae,fj,if_true,g,k];rfl
mutual
theorem DK{a:Nat}:∀(k:Ak) (m:Nat),dk k<=m->Tv k->iB m [rQ k,.int (a:Int)]=Y (.bl (FQ a k))
 |.mk n cs,0,h,_=>by simp[dk]at h
 | .mk n cs,m+1,h,l=>by
  have ih:=AI (a:=a) cs m (by simp only[dk]at h;omega) l.2;have ln:=l.1;rw[FQ];show (xl (iB m) [Y (.tup [.int (n:Nat),.lst (t9 cs)]),Y (.int (a:Int))]).bind iY=_;unfold xl;generalize t9 cs=C at *
  generalize DH a cs=B at *
  generalize iB m=F at *
  have e1:cT (e2 Dq (e2 mQ (eV 1) (e2 b9 (eV 0) f8)) (e2 b9 (eV 0) f8)) [Y (.tup [.int (n:Nat),.lst C]),Y (.int (a:Int))]=Y (!(a &&& n==n)):=by
   have q:∀a n:Int,cT (e2 Dq (e2 mQ (eV 1) (e2 b9 (eV 0) f8)) (e2 b9 (eV 0) f8)) [Y (.tup [.int n,.lst C]),Y (.int a)]=Y (!lH (.int (bA a n)) (.int n)):=λa n=>by kernel_rfl
   rw[q,rO,yZ]
   congr 2
   rw[jE,beq_iff_eq,beq_iff_eq];omega
  cases hx:(a &&& n==n) with
  |false=>rw[hx]at e1;unfold bp;rw[iT e1];rfl|true=>
   rw[hx]at e1;rw[aB (ρ':=[Y (.tup [.int (n:Nat),.lst C]),Y (.int (a:Int))]) (by rw[dh e1];rfl)];have e2:mY (iL (e2 b9 (eV 0) v6)) [M,Y 1] (gN 0) fj (a_ (iQ Z_) (aC (eF (mY (iL (eV 0)) [M,Y 1] (gN 0) fj (a_ F (aC (eV 0) (aC (eV 1) aN))))) aN)) [Y (.tup [.int (n:Nat),.lst C]),Y (.int (a:Int))]=Y (B.map λb =>.bl (id b)):=by unfold mY;show (if C.length<=dA then oO [M,Y (.int (a:Int))] (gN 0) fj _ C else M)=_;rw[if_pos (dU (i9 (by omega)))];exact ih
   refine px ?_;rw[Gq e2,To];simp
theorem AI{a:Nat}:∀(k:Cs) (m:Nat),Gj k<=m->Ke k->oO [M,Y (.int (a:Int))] (gN 0) fj (a_ (iQ Z_) (aC (eF (mY (iL (eV 0)) [M,Y 1] (gN 0) fj (a_ (iB m) (aC (eV 0) (aC (eV 1) aN))))) aN)) (t9 k)=Y ((DH a k).map λb =>.bl (id b))
 |.nil,m,_,_=>rfl| .cons c r,m,h,l=>by
  simp only[Gj]at h;have f:=AH (a:=a) c m ž l.1.2;have d:=AI (a:=a) r m ž l.2;have e:mY (iL (eV 0)) [M,Y 1] (gN 0) fj (a_ (iB m) (aC (eV 0) (aC (eV 1) aN))) [Y (.lst (js c)),Y (.int (a:Int))]=Y ((DC a c).map λb =>.bl (id b)):=by unfold mY;show (if (js c).length<=dA then oO [M,Y (.int (a:Int))] (gN 0) fj _ (js c) else M)=_;rw[if_pos (dU (i9 (by have:=l.1.1;omega)))];exact f
  rw[t9,DH];refine uD (ρ:=[Y (.lst (js c)),Y (.int (a:Int))]) rfl ?_ d;rw[Gq e,M3];rfl
theorem AH{a:Nat}:∀(k:As) (m:Nat),EM k<=m->PY k->oO [M,Y (.int (a:Int))] (gN 0) fj (a_ (iB m) (aC (eV 0) (aC (eV 1) aN))) (js k)=Y ((DC a k).map λb =>.bl (id b))
 |.nil,m,_,_=>rfl|.cons x r,m,h,l=>by simp only[EM]at h;have d:=DK (a:=a) x m ž l.1;have c:=AH (a:=a) r m ž l.2;rw[js,DC];exact uD (ρ:=[Y (rQ x),Y (.int (a:Int))]) rfl d c
end
def Pw{F:List D->Option D}{x:Int}{d:D}{a:Int}{f:DF}(k:rV e c=Y (x != 0))(i:f c=Y d)(h:g c=Y (.int a))(j:F [d,.int a]=Y (.bl b)):i6 (rV e) (rV (a_ F (aC f (aC g aN)))) c=Y (x != 0&&b):=by
 have l:rV (a_ F (aC f (aC g aN))) c=Y b:=by unfold rV a_ aC;rw[i,h];show ((F [d,.int a]).bind _)=_;rw[j];rfl
 unfold i6;rw[k,l];cases (x != 0)<;>rfl
def Ir{n:Nat}:(bA (n:Int) (2 ^ j) != 0)=n.testBit j:=by
 rw[jh,yZ];cases e:n.testBit j with
 |true=>
  have:n &&& 2 ^ j≠0:=λz=>by
   have:(n &&& 2 ^ j).testBit j=true:=by rw[jB,e,sf];rfl
   rw[z]at this;simp at this
  simp;omega
 |false=>
  have:n &&& 2 ^ j=0:=by
   apply wW;intro i;rw[jB,c_];by_cases z:j=i
   ·subst z;simp[e]
   ·simp[z]
  rw[this];rfl
open Classical in
theorem DQ(self:D)(b a:Nat):∀(L:List (Nat×Ak)) (d:Nat) (g f:Option D),wF L->∃j i,
  eS (AZ 4 5) jr (L.map ldK) [Y self,Y (.int (b:Int)),Y (.int (a:Int)),Y (.int (d:Int)),g,f]=Y (.nx [Y self,Y (.int (b:Int)),Y (.int (a:Int)),Y (.int ((L.foldl (λu l=>if b.testBit l.1=Z'/\se a l.2 then u ||| 2 ^ l.1 else u) d:Nat):Int)),j,i])
 |[],d,g,f,_=>⟨g,f,rfl⟩| (c,k)::L,d,g,f,h=>by
  have e:=h (c,k) (aF ..);have m:=DK (a:=a) k 12 e.1 e.2;have o:jr [Y self,Y (.int (b:Int)),Y (.int (a:Int)),Y (.int (d:Int)),Y (.int (2 ^ c)),Y (rQ k)]=Y (.nx [Y self,Y (.int (b:Int)),Y (.int (a:Int)),Y (.int ((if b.testBit c=Z'/\se a k then d ||| 2 ^ c else d:Nat):Int)),Y (.int (2 ^ c)),Y (rQ k)]):=by
   unfold jr ie;rw[Pw (F:=xw) (x:=bA (b:Int) (2 ^ c)) (d:=rQ k) (a:=(a:Int)) rfl rfl rfl m,Ir];simp only[ae];by_cases z:b.testBit c=Z'/\se a k
   ·rw[if_pos z,z.1,(yl k).mpr z.2,<- pZ,<- jh];rfl
   ·rw[if_neg z];have:(b.testBit c&&FQ a k)=false:=by
     cases y:(b.testBit c&&FQ a k) with|false=>rfl|true=>rw[aO,yl]at y;exact absurd y z
    rw[this];rfl
  rw[aW,eH (ρ1:=[Y self,Y (.int (b:Int)),Y (.int (a:Int)),Y (.int (d:Int)),Y (.int (2 ^ c)),Y (rQ k)]) rfl o];obtain⟨j,i,q⟩:=DQ self b a L (if b.testBit c=Z'/\se a k then d ||| 2 ^ c else d) (Y (.int (2 ^ c))) (Y (rQ k)) (λp l=>h p (aj _ l));exact⟨j,i,q⟩
def uz:D->Nat
 |.int i=>i.toNat|_=>0
def IG(s:FB)(L:List (Nat×Ak))(o:Nat)(u:aG):Fa where
 inner:=s.inner.toNat
 star:=s.d7.toNat
 named:=λn=>s.d7.toNat ||| uz ((bL s.nk s.nv (bo n)).getD (.int 0))
 text:=λt=>uz ((bL s.tk s.tv (bo t)).getD (.int 0))
 mark:=2 ^ o
 bF:=L
 fresh:=u
 long:=s.eD.toNat+1
def NH(s:FB)(a:List D):List D:=[.lst s.q,.int (s.bits:Nat),.fT s.nk s.nv,.fT s.tk s.tv,.int s.d7,.int s.eD,.int s.inner,.lst s.bF,.lst a]
section
variable {s:FB}{tb:List gw}{L:List (Nat×Ak)}{o:Nat}{u:aG}
def qT(I:GI s tb L):s.inner=(s.inner.toNat:Int)/\∀i,s.inner.toNat.testBit i=Z'↔∃a,tb[i]?=Y (gw.st Z' a):=by
 obtain⟨m,e,h⟩:=I.inner;rw[e,cN];exact⟨rfl,h⟩
def Cc(I:GI s tb L):s.d7=(s.d7.toNat:Int)/\∀i,s.d7.toNat.testBit i=Z'↔∃b,tb[i]?=Y (gw.st b M):=by
 obtain⟨m,e,h⟩:=I.star;rw[e,cN];exact⟨rfl,h⟩
def HJ(I:GI s tb L)(n:aG):(bL s.nk s.nv (bo n)).getD (.int 0)=.int (uz ((bL s.nk s.nv (bo n)).getD (.int 0)):Nat)/\∀i,(uz ((bL s.nk s.nv (bo n)).getD (.int 0))).testBit i=Z'↔∃b,tb[i]?=Y (gw.st b (Y n)):=by
 obtain⟨m,e,h⟩:=I.name n;rw[e];exact⟨rfl,h⟩
def uN(I:GI s tb L)(t:aG):(bL s.tk s.tv (bo t)).getD (.int 0)=.int (uz ((bL s.tk s.tv (bo t)).getD (.int 0)):Nat)/\∀i,(uz ((bL s.tk s.tv (bo t)).getD (.int 0))).testBit i=Z'↔tb[i]?=Y (gw.tx t):=by
 rcases I.text t with⟨a,c⟩|⟨j,a,c⟩
 ·rw[a];refine⟨rfl,λi =>?_⟩;constructor
  ·intro h;simp[uz]at h
  ·intro h;exact absurd h (c i)
 ·rw[a];have e:uz ((Y (D.int (2 ^ j))).getD (.int 0))=2 ^ j:=by show ((2:Int) ^ j).toNat=_;rw[jh,cN]
  rw[e];refine⟨by rw[<- jh];rfl,λi =>?_⟩;rw[c i,c_,decide_eq_true_eq];exact eq_comm
def tL{P:Prop}(h:b=Z'↔P)(n:¬P):b=false:=by
 cases b with|false=>rfl|true=>exact absurd (h.mp rfl) n
def VN(I:GI s tb L)(lk:wF L)(c:List D):FR (IG s L o u) (NH s c):=by
 refine⟨λn =>?_,λt =>?_,λa b =>?_⟩
 ·have h:=(HJ I n).1;have g:=(Cc I).1;refine px (f:=e2 FK (d9 "Facts" "starred" (eV 0)) (uR (d9 "Facts" "by_name" (eV 0)) (eV 1) f8)) (a:=[Y (.ins "Facts" CO (NH s c)),Y (.str n)]) ?_;show FK (.int s.d7) ((bL s.nk s.nv (bo n)).getD (.int 0))=Y (.int ((s.d7.toNat ||| uz ((bL s.nk s.nv (bo n)).getD (.int 0)):Nat):Int));rw[h,g];show Y (D.int (bO _ _))=_;rw[pZ];rfl
 ·have h:=(uN I t).1;show Y ((bL s.tk s.tv (bo t)).getD (.int 0))=_;rw[h];rfl
 ·have g:=(qT I).1;show (kA [Y (.ins "Facts" CO (NH s c)),Y (.int (a:Int)),Y (.int (b:Int)),M,M,M]).bind iY=_;unfold kA;have e:e2 mQ (eV 2) (d9 "Facts" "inner" (eV 0)) [Y (.ins "Facts" CO (NH s c)),Y (.int (a:Int)),Y (.int (b:Int)),M,M,M]=Y (.int ((b &&& s.inner.toNat:Nat):Int)):=by rw[<- yZ,<- g];kernel_rfl
  rw[aB (dr e)];simp only[aY,aZ];obtain⟨j,i,q⟩:=DQ (.ins "Facts" CO (NH s c)) a b L (b &&& s.inner.toNat) M M lk;have d:iL (d9 "Facts" "leads" (eV 0)) [Y (.ins "Facts" CO (NH s c)),Y (.int (a:Int)),Y (.int (b:Int)),Y (.int ((b &&& s.inner.toNat:Nat):Int)),M,M]=Y (L.map ldK):=by rw[<- I.bF];kernel_rfl
  rw[aB ((gB d).trans q)];rfl
def NR(I:GI s tb L)(a:tb[o]?=Y .mk)(h:tb[j]?=Y (.tx t)):CG (IG s L o u) t j:=by
 refine⟨tL ((qT I).2 j) ?_,λl d e =>?_,?_,λc =>?_⟩
 ·rintro⟨f,z⟩;rw[h]at z;cases z
 ·obtain⟨b,n,z⟩:=I.lst l d;rw[e,h]at z;cases z
 ·show (2 ^ o).testBit j=Z_;rw[c_,decide_eq_false_iff_not];intro z;subst z;rw[h]at a;cases a
 ·show (uz _).testBit j=Z'↔_;rw[(uN I c).2 j,h];constructor
  ·intro z;cases z;rfl
  ·intro z;rw[z]
def NY(I:GI s tb L)(r:tb[o]?=Y .mk){f:Option aG}(h:tb[j]?=Y (.st b f))(t:(j,k)∈L):M7 (IG s L o u) b f j k:=by
 refine⟨?_,λn =>?_,t,λl i e =>?_,?_,λv =>?_⟩
 ·have:=(qT I).2 j;cases b with
  |true=>exact this.mpr ⟨f,h⟩|false=>exact tL this (by rintro⟨n,z⟩;rw[h]at z;cases z)
 ·show (s.d7.toNat ||| uz _).testBit j=Z'↔_;rw[f_,dP,(Cc I).2 j,(HJ I n).2 j,h];cases f with
  |none=>simp[sW]|some m=>simp[sW]
 ·have c:=I.R3;have:∀ {L:List (Nat×Ak)},(L.map (·.1)).Nodup->∀x∈L,∀y∈L,x.1=y.1->x=y:=by
   intro L
   induction L with
   |nil=>intro _ x g;simp at g
   |cons p L ih=>
    intro c x g y q e;rw[aW,cA]at c;rcases au.mp g with rfl|d
    ·rcases au.mp q with rfl|a
     ·rfl
     ·exact(c.1 (bc.mpr ⟨y,a,e.symm⟩)).elim
    ·rcases au.mp q with rfl|a
     ·exact(c.1 (bc.mpr ⟨x,d,e⟩)).elim
     ·exact ih c.2 x d y a e
  exact this c l i (j,k) t e
 ·show (2 ^ o).testBit j=Z_;rw[c_,decide_eq_false_iff_not];intro z;subst z;rw[h]at r;cases r
 ·show (uz _).testBit j=Z_;exact tL ((uN I v).2 j) (by rw[h];intro z;cases z)
def OL(I:GI s tb L)(a:tb[o]?=Y .mk):GA (IG s L o u) o:=by
 refine⟨rfl,tL ((qT I).2 o) ?_,λl c e =>?_,λt=>tL ((uN I t).2 o) ?_⟩
 ·rintro⟨n,z⟩;rw[a]at z;cases z
 ·obtain⟨b,n,z⟩:=I.lst l c;rw[e,a]at z;cases z
 ·rw[a];intro z;cases z
mutual
theorem rg.r(I:GI s tb L)(a:tb[o]?=Y .mk):∀(w:Wi) (k:Ak),rg tb L w k->P0 (IG s L o u) w k
 |.any,k,h=>h|.txt t,k,⟨j,e,h⟩=>⟨j,e,NR I a h⟩|.has s,k,⟨j,e,h⟩=>⟨j,e,j8.r I a s j h⟩|.both w,k,⟨ks,h,e⟩=>⟨ks,lY.r I a w ks h,e⟩|.one w,k,⟨ks,h,e⟩=>⟨ks,lY.r I a w ks h,e⟩
theorem lY.r(I:GI s tb L)(c:tb[o]?=Y .mk):∀(w:Ws) (k:As),lY tb L w k->Bj (IG s L o u) w k
 |.nil,k,h=>h|.cons w r,k,⟨x,y,a,b,e⟩=>⟨x,y,rg.r I c w x a,lY.r I c r y b,e⟩
theorem j8.r{e:Nat}(I:GI s tb L)(d:tb[o]?=Y .mk):∀(a:Ss) (j:Nat),j8 tb L e a j->y9 (IG s L o u) e a j
 |.nil,j,h=>h|.cons b g w r,j,⟨n,c,f,a,t,l,h⟩=>⟨n,c,f,rg.r I d w _ a,NY I d t l,h.imp id λ⟨x,y⟩=>⟨j8.r I d r _ x,y⟩⟩
end
theorem Cm:∀ {l:List a}{b:Nat},((l.drop (b+1)).filter p).length<=((l.drop b).filter p).length/\∀x,l[b]?=Y x->p x=Z'->((l.drop (b+1)).filter p).length+1<=((l.drop b).filter p).length
 |[],b=>by simp
 | y::l,0=>by
  refine⟨?_,λx h g =>?_⟩
  ·simp only[Uw,qA,bW];split<;>simp
  ·simp at h;subst h;simp only[Uw,qA,bW,g,if_true,aK];omega
 |y::l,b+1=>by simpa using Cm (l:=l) (b:=b)
def O6(I:GI s tb L)(g:bo u∉s.nk):wQ (IG s L o u):=by
 refine⟨λn =>.inl _ _,?_,λl c i f =>?_,λb=>((tb.drop b).filter om).length,tb.length,λb=>Cm.1,λb j =>?_,?_,λl c =>?_⟩
 ·show s.d7.toNat ||| uz ((bL s.nk s.nv (bo u)).getD (.int 0))=s.d7.toNat;rw[(qP I.Qu).mpr g];simp[uz]
 ·obtain⟨a,b|⟨t,b⟩⟩:=I.ord l c i f
  ·exact .inl b
  ·refine .inr ⟨tL ((qT I).2 i) (by rintro⟨n,z⟩;rw[b]at z;cases z),λm d e =>?_⟩;obtain⟨k,n,z⟩:=I.lst m d;rw[e,b]at z;cases z
 ·obtain⟨k,h⟩:=((Cc I).2 b).mp j;exact Cm.2 _ h rfl
 ·show ((tb.drop 0).filter om).length+1<=s.eD.toNat+1;rw[I.eD,qA,cN];exact aw _
 ·obtain⟨b,n,z⟩:=I.lst l c;exact pH z
mutual
theorem PK(I:GI s tb L)(a:tb[o]?=Y .mk):∀(t:Tr) (i:Nat),(tA (IG s L o u) t).testBit i=Z'->i<tb.length
 |.txt t,i,h=>by rw[tA]at h;exact pH (((uN I t).2 i).mp h)
 |.mk,i,h=>by rw[tA]at h;have h:(2 ^ o).testBit i=true:=h;rw[c_,decide_eq_true_eq]at h;subst h;exact pH a
 | .nd n f,i,h=>by
  rw[tA,kz]at h;rcases h with⟨h,_⟩|⟨l,c,e,_⟩
  ·exact Cv I a f i h
  ·obtain⟨b,n,z⟩:=I.lst l c;rw[e]at z;exact pH z
theorem Cv(I:GI s tb L)(a:tb[o]?=Y .mk):∀(f:List Tr) (i:Nat),(fA (IG s L o u) f).testBit i=Z'->i<tb.length
 |[],i,h=>by simp[fA]at h
 |t::f,i,h=>by rw[fA,f_,dP]at h;exact h.elim (PK I a t i) (Cv I a f i)
end
def Vu(I:GI s tb L)(b:tb[o]?=Y .mk)(lk:wF L)(a:List D)(c:tb.length<=19):JO (IG s L o u) (NH s a):=by
 refine⟨VN I lk a,λf =>?_,?_⟩
 ·refine Nat.lt_pow_two_of_testBit _ λi d =>?_
  refine tL (P:=False) ⟨λh =>?_,qB⟩ id;have:=Cv I b f i h;omega
 ·show s.eD.toNat+1<=1000;rw[I.eD,cN];have:=wc om tb;omega
end
theorem Ql:∀s:Ss,(dR s).length<=oB s
 |.nil=>by simp[dR]
 |.cons b a w r=>by have:=Ql r;simp only[dR,oB,aK];omega
def C0{f:DF}{a:bY}{x:D}(h:f a=Y x)(k:g a=Y y):dN (aC f (aC g aN)) a=Y (.tup [x,y]):=by unfold dN aC;rw[h,k];rfl
def Xk{f:DF}(h:f a=Y x)(k:g a=Y y)(l:e a=Y z):dN (aC f (aC g (aC e aN))) a=Y (.tup [x,y,z]):=by unfold dN aC;rw[h,k,l];rfl
def Bw{f:DF}{d:D}(e:t a=Y Z')(k:f a=Y d):bp (ie t (fF f) dG) h a=Y (.rt d):=by
 unfold bp;rw[iT e];unfold fF;rw[k];rfl
def Tg(h:A [.lst x]=Y (.lst y)):jg 1 1 (dQ A B) [.tup [kS "has",.lst x]]=Y (.tup [kS "has",.lst y]):=by
 show (dQ A B [Y (.tup [kS "has",.lst x])]).bind iY=_;unfold dQ;have:a_ A (aC (e2 b9 (eV 0) v6) aN) [Y (.tup [kS "has",.lst x])]=Y (.lst y):=(show _=A [.lst x] by rfl).trans h;rw[Bw (d :=.tup [kS "has",.lst y]) (by kernel_rfl) (C0 rfl this)];rfl
def H_(b:cT (e2 gj (e2 b9 (eV 0) f8) db) [Y w]=Y Z_)(a:cT (e2 (Ny Z_) (e2 b9 (eV 0) f8) ca) [Y w]=Y Z_):jg 1 1 (dQ A B) [w]=Y w:=by
 show (dQ A B [Y w]).bind iY=_;unfold dQ;rw[aB (ρ':=[Y w]) (by rw[dh b];rfl),aB (ρ':=[Y w]) (by rw[dh a];rfl)];rfl
def HZ{x:List D}(c:x.length<=1000)(b:cT (e2 gj (e2 b9 (eV 0) f8) db) [Y (.tup [kS k,.lst x])]=Y Z_)(a:cT (e2 (Ny Z_) (e2 b9 (eV 0) f8) ca) [Y (.tup [kS k,.lst x])]=Y Z')(h:oO [M] (gN 0) fj (a_ B (aC (eV 0) aN)) x=Y y):jg 1 1 (dQ A B) [.tup [kS k,.lst x]]=Y (.tup [kS k,.lst y]):=by
 show (dQ A B [Y (.tup [kS k,.lst x])]).bind iY=_;unfold dQ;rw[aB (ρ':=[Y (.tup [kS k,.lst x])]) (by rw[dh b];rfl)];have:eF (mY (iL (e2 b9 (eV 0) v6)) [M] (gN 0) fj (a_ B (aC (eV 0) aN))) [Y (.tup [kS k,.lst x])]=Y (.lst y):=by unfold eF mY;show ((if x.length<=dA then oO [M] (gN 0) fj (a_ B (aC (eV 0) aN)) x else M).map D.lst)=_;rw[if_pos (dU (i9 (by omega))),h];rfl
 rw[Bw (d :=.tup [kS k,.lst y]) a (C0 (x:=kS k) rfl this)];rfl
mutual
theorem qX:∀(w:Wi) (m:Nat),je w<=m->jW w<=900->cv m [cq w]=Y (cq w)
 |.any,0,h,_=>by simp[je]at h
 |.any,m+1,h,_=>H_ (by kernel_rfl) (by kernel_rfl)
 |.txt t,0,h,_=>by simp[je]at h
 |.txt t,m+1,h,_=>H_ (by kernel_rfl) (by kernel_rfl)
 |.has s,0,h,_=>by simp[je]at h
 |.has s,m+1,h,b=>by simp only[je]at h;simp only[jW]at b;exact Tg (Ba s m ž ž)
 |.both w,0,h,_=>by simp[je]at h
 |.both w,m+1,h,b=>by simp only[je]at h;simp only[jW]at b;exact HZ (by have:=wh w;omega) (by kernel_rfl) (by kernel_rfl) (pT w m ž ž)
 |.one w,0,h,_=>by simp[je]at h
 |.one w,m+1,h,b=>by simp only[je]at h;simp only[jW]at b;exact HZ (by have:=wh w;omega) (by kernel_rfl) (by kernel_rfl) (pT w m ž ž)
theorem pT:∀(w:Ws) (m:Nat),wA w<=m->qo w<=900->oO [M] (gN 0) fj (a_ (cv m) (aC (eV 0) aN)) (iW w)=Y (iW w)
 |.nil,m,_,_=>rfl|.cons w r,m,h,b=>by simp only[wA]at h;simp only[qo]at b;rw[iW];exact uD (ρ:=[Y (cq w)]) rfl (qX w m ž ž) (pT r m ž ž)
theorem uZ:∀(s:Ss) (m:Nat),n_ s<=m+1->oB s<=900->oO [M] (gN 0) fj (dN (aC (e2 b9 (eV 0) f8) (aC (e2 b9 (eV 0) v6) (aC (a_ (cv m) (aC (e2 b9 (eV 0) u8) aN)) aN)))) (dR s)=Y (dR s)
 |.nil,m,_,_=>rfl|.cons b a w r,m,h,z=>by simp only[n_]at h;simp only[oB]at z;have i:=qX w m ž ž;rw[dR];refine uD (ρ:=[Y (mv (eC b) (cL a) (cq w))]) rfl ?_ (uZ r m ž ž);have:a_ (cv m) (aC (e2 b9 (eV 0) u8) aN) [Y (mv (eC b) (cL a) (cq w))]=Y (cq w):=(show _=cv m [cq w] by rfl).trans i;exact Xk rfl rfl this
theorem Ba:∀(s:Ss) (m:Nat),n_ s<=m->oB s<=900->iH m [.lst (dR s)]=Y (.lst (dR s))
 |s,0,h,_=>by have:=pP s;omega
 | s,m+1,h,z=>by
  have i:=uZ s m h z;show (uL (iH m) (cv m) [Y (.lst (dR s))]).bind iY=_;unfold uL;have:mY (iL (eV 0)) [M] (gN 0) fj (dN (aC (e2 b9 (eV 0) f8) (aC (e2 b9 (eV 0) v6) (aC (a_ (cv m) (aC (e2 b9 (eV 0) u8) aN)) aN)))) [Y (.lst (dR s))]=Y (dR s):=by unfold mY;show (if (dR s).length<=dA then oO [M] (gN 0) fj _ (dR s) else M)=_;rw[if_pos (dU (i9 (by have:=Ql s;omega))),i]
  unfold wm;rw[this];rfl
end
abbrev pF(a:List aG)(b:List D):Option D:=Y (.obj ah (.ins "Facts" a b))
def U_{F:List D->Option D}(h:F [q]=Y d):kQ Z_ 0 "Facts" "question" (a_ F (aC (eV 1) aN)) [pF [] [],Y q]=Y (.nx [pF ["question"] [d],Y q]):=by
 have e:a_ F (aC (eV 1) aN) [pF [] [],Y q]=Y d:=(show a_ F (aC (eV 1) aN) [pF [] [],Y q]=F [q] from rfl).trans h;unfold kQ;rw[e];simp only[ae];kernel_rfl
noncomputable def Uc(q:List D):FB:=⟨q,0,[],[],[],[],0,0,0,[]⟩
def UX(q:List D):GI (Uc q) [] []:=by
 refine⟨rfl,⟨0,rfl,Ž⟩,⟨0,rfl,Ž⟩,rfl,λn=>⟨0,rfl,Ž⟩,rfl,aw _,λt =>.inl ⟨rfl,Ž⟩,rfl,aw _,rfl,Ž,Ž,Ž,aw _⟩
def OV(a:Ss)(n:ER a)(o:M9 T a)(w:n_ a<=12)(z:oB a<=900):
  ∃d b s e L,d6 [.ins "Facts" [] [],.lst (dR a)]=Y (.dJ,.ins "Facts" CO (NH s (js d)))/\s.q=dR a/\Go T (T8 a) (Qk a) b (m3 a) [] s e L/\Bk e L a d/\Xa e (fP a) d:=by
 have x:va [.lst (dR a)]=Y (.lst (dR a)):=Ba a 12 w z;have D:=Af a;obtain⟨b,C,j,v⟩:=Ed (UX (dR a)) a n (by show 0+fP a<=1000;omega);rw[cf]at j;obtain⟨d,s,e,L,B,h,y,g⟩:=xJ a 12 ž ž n o b _ [] (oF b) j (by rw[k8];omega);rw[k8]at g;have f:b.q=dR a:=v;refine⟨d,b,s,e,L,?_,h.q.trans f,h,y,g⟩;have c:iL (wz 0 "Facts" "question") [oF b,Y (.lst (dR a))]=Y (dR a):=by
  have:iL (wz 0 "Facts" "question") [oF b,Y (.lst (dR a))]=Y b.q:=by kernel_rfl
  rw[this,f]
 have i:=BQ (f:=iL (wz 0 "Facts" "question")) (ρ:=[oF b,Y (.lst (dR a))]) c rfl rfl (by rw[vC];omega) B;generalize (js d)=A at *
 show (jo [pF [] [],Y (.lst (dR a))]).bind (qK ah)=_;unfold jo;rw[aB (U_ x)];generalize dR a=q at *
 have q2:kQ Z_ 0 "Facts" "bits" f8 [pF ["question"] [.lst q],Y (.lst q)]=Y (.nx [pF ["question", "bits"] [.lst q,.int 0],Y (.lst q)]):=by kernel_rfl
 have u:mJ 0 "Facts" "by_name" .di pi [pF ["question", "bits"] [.lst q,.int 0],Y (.lst q)]=Y (.nx [pF ["question", "bits", "by_name"] [.lst q,.int 0,.fT [] []],Y (.lst q)]):=by kernel_rfl
 have t:mJ 0 "Facts" "by_text" .di pi [pF ["question", "bits", "by_name"] [.lst q,.int 0,.fT [] []],Y (.lst q)]=Y (.nx [pF ["question", "bits", "by_name", "by_text"] [.lst q,.int 0,.fT [] [],.fT [] []],Y (.lst q)]):=by kernel_rfl
 have r:kQ Z_ 0 "Facts" "starred" f8 [pF ["question", "bits", "by_name", "by_text"] [.lst q,.int 0,.fT [] [],.fT [] []],Y (.lst q)]=Y (.nx [pF ["question", "bits", "by_name", "by_text", "starred"] [.lst q,.int 0,.fT [] [],.fT [] [],.int 0],Y (.lst q)]):=by kernel_rfl
 have p:kQ Z_ 0 "Facts" "stars" f8 [pF ["question", "bits", "by_name", "by_text", "starred"] [.lst q,.int 0,.fT [] [],.fT [] [],.int 0],Y (.lst q)]=Y (.nx [pF ["question", "bits", "by_name", "by_text", "starred", "stars"] [.lst q,.int 0,.fT [] [],.fT [] [],.int 0,.int 0],Y (.lst q)]):=by kernel_rfl
 have m:kQ Z_ 0 "Facts" "inner" f8 [pF ["question", "bits", "by_name", "by_text", "starred", "stars"] [.lst q,.int 0,.fT [] [],.fT [] [],.int 0,.int 0],Y (.lst q)]=Y (.nx [pF ["question", "bits", "by_name", "by_text", "starred", "stars", "inner"] [.lst q,.int 0,.fT [] [],.fT [] [],.int 0,.int 0,.int 0],Y (.lst q)]):=by kernel_rfl
 have l:mJ 0 "Facts" "leads" (.li .lf) (eK (.lst [])) [pF ["question", "bits", "by_name", "by_text", "starred", "stars", "inner"] [.lst q,.int 0,.fT [] [],.fT [] [],.int 0,.int 0,.int 0],Y (.lst q)]=Y (.nx [oF (Uc q),Y (.lst q)]):=by kernel_rfl
 rw[aB q2,aB u,aB t,aB r,aB p,aB m,aB l];have k:mL (cE "Facts" "enter" ah fw 0 (iw (mP (wz 0 "Facts" "question")) lG)) [oF (Uc q),Y (.lst q)]=Y (.nx [oF b,Y (.lst q)]):=by unfold mL;rw[kx (s:=(Uc q)) (s1:=(Uc q)) (ρ1:=[oF (Uc q),Y (.lst q)]) (args:=[.lst q]) (by decide) rfl (by kernel_rfl) rfl C];rfl
 rw[aB k];unfold sP;rw[show cw 12=lh from rfl]at i;rw[i];kernel_rfl
def fV(A:List D)(s:FB):D :=.ins "Facts" CO (NH s A)
abbrev oG(A:List D)(s:FB):Option D:=Y (.obj ah (fV A s))
def Lr(A:List D)(s:FB)(h:s.bits<=999):bZ [fV A s]=Y (.int (2 ^ s.bits),fV A { s with bits:=s.bits+1 }):=by
 show (gE [oG A s]).bind (qK ah)=_;unfold gE;rw[aB (ρ':=[oG A { s with bits:=s.bits+1 }]) ?b]
 case b=>kernel_rfl
 have a:zK [0] [] (e2 qM v6 (e2 ku (d9 "Facts" "bits" (eV 0)) v6)) [oG A { s with bits:=s.bits+1 }]=Y (.int (2 ^ s.bits)):=by refine Ac (ρ':=[Y (fV A { s with bits:=s.bits+1 })]) rfl ?_ rfl;have:e2 qM v6 (e2 ku (d9 "Facts" "bits" (eV 0)) v6) [Y (fV A { s with bits:=s.bits+1 })]=qM (.int 1) (.int (((s.bits+1:Nat):Int)-1)):=rfl;rw[this,show ((s.bits+1:Nat):Int)-1=(s.bits:Int) by omega,Rg (by omega)]
 unfold eW mP;rw[a];kernel_rfl
def AL{A:List D}{y1 y2 y4:List D}{y3:Int}{s:FB}{n f j:Nat}{c:Cs}(h:s.bF.length<dA):cu [oG A s,Y (.lst y1),Y (.lst y2),Y (.int y3),Y (.lst y4),Y (rQ (.mk n c)),Y (.int (2 ^ j)),Y (.int (f:Int))]=Y (.nx [oG A { s with bF:=s.bF++[ldK (j,.mk (n ||| f) c)] },Y (.lst y1),Y (.lst y2),Y (.int y3),Y (.lst y4),Y (rQ (.mk n c)),Y (.int (2 ^ j)),Y (.int (f:Int))]):=by
 have q:∀(b a g:Int) (d:List D),cu [oG A s,Y (.lst y1),Y (.lst y2),Y (.int y3),Y (.lst y4),Y (mh a d),Y (.int b),Y (.int g)]=Y (.nx [oG A { s with bF:=s.bF++[.tup [.int b,mh (bO a g) d]] },Y (.lst y1),Y (.lst y2),Y (.int y3),Y (.lst y4),Y (mh a d),Y (.int b),Y (.int g)]):=λb a g d=>by
  unfold cu Dd;have u:xH "Facts" "leads" 0 [oG A s,Y (.lst y1),Y (.lst y2),Y (.int y3),Y (.lst y4),Y (mh a d),Y (.int b),Y (.int g)]=Y (kB,CO,[.lst s.q,.int (s.bits:Nat),.fT s.nk s.nv,.fT s.tk s.tv,.int s.d7,.int s.eD,.int s.inner,.lst s.bF,.lst A],.lst s.bF):=by kernel_rfl
  have v:dN (aC (eV 6) (aC Tk aN)) [oG A s,Y (.lst y1),Y (.lst y2),Y (.int y3),Y (.lst y4),Y (mh a d),Y (.int b),Y (.int g)]=Y (.tup [.int b,mh (bO a g) d]):=by kernel_rfl
  rw[u];simp only[ae];rw[v];simp only[ae];rw[if_pos ⟨by decide,by omega⟩];kernel_rfl
 have e:ldK (j,.mk (n ||| f) c)=.tup [.int (2 ^ j),mh (bO (n:Int) (f:Int)) (t9 c)]:=by rw[pZ];rfl
 rw[e];exact q _ _ _ _
theorem AN{A:List D}{y1 y2 y4:List D}{y3:Int}:∀(f:As) (j e:Nat) (s:FB) (a b c:Option D),s.bF.length+da f<dA->∃o n m,
  eS (D2 5 6 7) cu (gA (js f) ((cS j (da f)).map D.int) ((nY j (da f) (e:Int)).map D.int)) [oG A s,Y (.lst y1),Y (.lst y2),Y (.int y3),Y (.lst y4),a,b,c]=Y (.nx [oG A { s with bF:=s.bF++(gu f j e).map ldK },Y (.lst y1),Y (.lst y2),Y (.int y3),Y (.lst y4),o,n,m])
 |.nil,j,e,s,a,b,c,_=>⟨a,b,c,by simp[js,gA,eS,gu]⟩
 |.cons (.mk n c) .nil,j,e,s,a,b,d,h=>by simp only[da]at h;refine⟨Y (rQ (.mk n c)),Y (.int (2 ^ j)),Y (.int (e:Int)),?_⟩;show eS (D2 5 6 7) cu (gA [rQ (.mk n c)] [.int (2 ^ j)] [.int (e:Int)]) _=_;rw[gA,eH (ρ1:=[oG A s,Y (.lst y1),Y (.lst y2),Y (.int y3),Y (.lst y4),Y (rQ (.mk n c)),Y (.int (2 ^ j)),Y (.int (e:Int))]) rfl (AL (by omega))];simp[gA,eS,gu]
 | .cons (.mk n c) (.cons x r),j,e,s,a,b,d,h=>by
  simp only[da]at h;have t:=AL (A:=A) (y1:=y1) (y2:=y2) (y3:=y3) (y4:=y4) (s:=s) (n:=n) (f:=2 ^ (j+1)) (j:=j) (c:=c) ž;obtain⟨o,p,m,q⟩:=AN (A:=A) (y1:=y1) (y2:=y2) (y3:=y3) (y4:=y4) (.cons x r) (j+1) e { s with bF:=s.bF++[ldK (j,.mk (n ||| 2 ^ (j+1)) c)] } (Y (rQ (.mk n c))) (Y (.int (2 ^ j))) (Y (.int ((2 ^ (j+1):Nat):Int))) (by simp only[da,aP,g_];omega);refine⟨o,p,m,?_⟩;have g:gA (js (.cons (.mk n c) (.cons x r))) ((cS j (da (.cons (.mk n c) (.cons x r)))).map D.int) ((nY j (da (.cons (.mk n c) (.cons x r))) (e:Int)).map D.int)=.tup [rQ (.mk n c),.int (2 ^ j),.int ((2 ^ (j+1):Nat):Int)]::gA (js (.cons x r)) ((cS (j+1) (da (.cons x r))).map D.int) ((nY (j+1) (da (.cons x r)) (e:Int)).map D.int):=by rw[<- jh];rfl
  rw[g,eH (ρ1:=[oG A s,Y (.lst y1),Y (.lst y2),Y (.int y3),Y (.lst y4),Y (rQ (.mk n c)),Y (.int (2 ^ j)),Y (.int ((2 ^ (j+1):Nat):Int))]) rfl t,q];simp only[gu,aW,bH,Q0]
def Vt{A:List D}{s:FB}{ks:As}{j e:Nat}(hn:ks ≠ .nil)(hl:s.bF.length+da ks<2000):eI [fV A s,.lst (js ks),.lst ((cS j (da ks)).map D.int),.int (e:Int)]=Y (.dJ,fV A { s with bF:=s.bF++(gu ks j e).map ldK }):=by
 obtain⟨k,hk⟩:∃k,da ks=k+1:=by
  cases ks with|nil=>exact absurd rfl hn|cons x r=>exact⟨_,rfl⟩
 show (jn [oG A s,Y (.lst (js ks)),Y (.lst ((cS j (da ks)).map D.int)),Y (.int (e:Int)),M,M,M,M]).bind (qK ah)=_;unfold jn;have q0:eM 4 (e2 d8 (eF (wM (eV 2) (pS v6) pN)) (eF Re)) [oG A s,Y (.lst (js ks)),Y (.lst ((cS j (da ks)).map D.int)),Y (.int (e:Int)),M,M,M,M]=Y (.nx [oG A s,Y (.lst (js ks)),Y (.lst ((cS j (da ks)).map D.int)),Y (.int (e:Int)),Y (.lst ((nY j (da ks) (e:Int)).map D.int)),M,M,M]):=by
  have e1:e2 d8 (eF (wM (eV 2) (pS v6) pN)) (eF Re) [oG A s,Y (.lst (js ks)),Y (.lst ((cS j (da ks)).map D.int)),Y (.int (e:Int)),M,M,M,M]=d8 (.lst (zo ((cS j (da ks)).map D.int) (Y 1) M)) (.lst [.int (e:Int)]):=rfl;have e2:zo ((cS j (da ks)).map D.int) (Y 1) M=(cS (j+1) k).map D.int:=by rw[hk,yV _ (by decide)];rfl
  rw[e2]at e1;have e3:d8 (.lst ((cS (j+1) k).map D.int)) (.lst [.int (e:Int)])=Y (.lst ((nY j (da ks) (e:Int)).map D.int)):=by simp only[d8];rw[if_pos (dU (i9 (by rw[bj,g_,v_];omega))),hk,<- F9];simp
  rw[dr (e1.trans e3)];rfl
 rw[aB q0];obtain⟨b5,b6,b7,q⟩:=AN (A:=A) (y1:=js ks) (y2:=(cS j (da ks)).map D.int) (y3:=(e:Int)) (y4:=(nY j (da ks) (e:Int)).map D.int) ks j e s M M M (i9 hl);have q2:iX (Vx (eV 1) (eV 2) (eV 4)) (D2 5 6 7) cu [oG A s,Y (.lst (js ks)),Y (.lst ((cS j (da ks)).map D.int)),Y (.int (e:Int)),Y (.lst ((nY j (da ks) (e:Int)).map D.int)),M,M,M]=eS (D2 5 6 7) cu (gA (js ks) ((cS j (da ks)).map D.int) ((nY j (da ks) (e:Int)).map D.int)) [oG A s,Y (.lst (js ks)),Y (.lst ((cS j (da ks)).map D.int)),Y (.int (e:Int)),Y (.lst ((nY j (da ks) (e:Int)).map D.int)),M,M,M]:=rfl;rw[q2,q];generalize (gu ks j e).map ldK=Z;kernel_rfl
abbrev Qz:List aG:=(cm 26).map λi=>(⟨#[97+i]⟩:aG)
def Nz:List aG:=Qz++Qz.flatMap λa=>Qz.map λb=>a++b
def Lu{x:Option D}:(bp (kP 1 (yB na)) (iX (iS na) (gN 2) mV)) [x,M,M]=Y (.nx [x,Y (.lst (Nz.map D.str)),Y (.str ⟨#[122]⟩)]):=by kernel_rfl
theorem DU(h:d9 "Facts" "by_name" (eV 1)=d9 "Facts" "by_name" (eV 1))(e:∀n,cT (e2 (qr Z') (eV 0) (d9 "Facts" "by_name" (eV 1))) [Y (.str n),Y x]=Y (!(bL b a (bo n)).isSome)):∀l:List aG,oO [M,Y x] (gN 0) (cT (e2 (qr Z') (eV 0) (d9 "Facts" "by_name" (eV 1)))) (eV 0) (l.map D.str)=Y ((l.filter λn=> !(bL b a (bo n)).isSome).map D.str)
 |[]=>rfl|n::l=>by rw[aW,oO,show gN 0 (D.str n) [M,Y x]=Y [Y (.str n),Y x] from rfl];simp only[ae,e n,DU h e l,bW];cases (!(bL b a (bo n)).isSome)<;>rfl
def RX:Qz.Nodup:=by decide +kernel
theorem xG[DecidableEq d]:∀(a b:List d),a.Nodup->(∀x∈a,x∈b)->a.length<=b.length
 |[],b,_,_=>by simp
 | x::a,b,c,h=>by
  rw[cA]at c;have f:=h x Ž;have:=xG a (b.erase x) c.2 λy e=>by
   have:y≠x:=λz=>c.1 (z ▸ e)
   exact(TY this).mpr (h y (by simp[e]))
  rw[sh f]at this;have:0<b.length:=P_ f;simp only[aK];omega
def Mo{A:List D}{s:FB}(kv:s.nk.length=s.nv.length)(h:s.nk.length<=19):∃f:aG,gL [fV A s]=Y (.str f)/\bo f∉s.nk:=by
 have ne:∃n∈Qz,(bo n:hI)∉s.nk:=by
  apply Kf;intro z;have h1:∀x∈Qz.map (λn=>(bo n:hI)),x∈s.nk:=λx hx=>by obtain⟨n,hn,rfl⟩:=bc.mp hx;exact Kf λy=>z ⟨n,hn,y⟩
  have h2:(Qz.map (λn=>(bo n:hI))).Nodup:=RX.map _ λa b hab e=>hab (TQ e)
  have:=xG _ _ h2 h1;have:(Qz.map (λn=>(bo n:hI))).length=26:=by simp
  omega
 obtain⟨n,hn,hk⟩:=ne;have Zk:∀m,(!(bL s.nk s.nv (bo m)).isSome)=Z'↔bo m∉s.nk:=λm=>by rw[<- qP kv];cases bL s.nk s.nv (bo m)<;>simp
 obtain⟨f,r,e⟩:∃f r,(Nz.filter λn=> !(bL s.nk s.nv (bo n)).isSome)=f::r:=by
  cases q:(Nz.filter λn=> !(bL s.nk s.nv (bo n)).isSome) with
  |nil=>rw[List.filter_eq_nil_iff]at q;exact absurd ((Zk n).mpr hk) (q n (by unfold Nz;exact aJ _ hn))
  |cons f r=>exact⟨f,r,rfl⟩
 have hf:f∈Nz.filter λn=> !(bL s.nk s.nv (bo n)).isSome:=by rw[e];simp
 refine⟨f,?_,(Zk f).mp (gx.mp hf).2⟩;show (me [Y (fV A s),M,M]).bind iY=_;unfold me;have n1:=Lu (x:=Y (fV A s));have n2:∀h:DG,bp (kP 1 (yB na)) (bp (iX (iS na) (gN 2) mV) h) [Y (fV A s),M,M]=h [Y (fV A s),Y (.lst (Nz.map D.str)),Y (.str ⟨#[122]⟩)]:=λh=>by
  have as:∀(a b c:DG) ρ,bp a (bp b c) ρ=bp (bp a b) c ρ:=λa b c ρ=>by
   unfold bp;cases a ρ with
   |none=>rfl|some o=>cases o<;>rfl
  rw[as,aB n1]
 rw[n2];refine px ?_;have n3:eF (mY (iL (eV 1)) [M,Y 0] (gN 0) (cT (e2 (qr Z') (eV 0) (d9 "Facts" "by_name" (eV 1)))) (eV 0)) [Y (fV A s),Y (.lst (Nz.map D.str)),Y (.str ⟨#[122]⟩)]=Y (.lst ((f::r).map D.str)):=by unfold eF mY;show ((if (Nz.map D.str).length<=dA then oO [M,Y (fV A s)] (gN 0) _ (eV 0) (Nz.map D.str) else M).map D.lst)=_;rw[if_pos (dU (i9 (by decide +kernel))),DU rfl (λn=>rfl) Nz,e];rfl
 have n4:∀(g:DF) ρ a b,g ρ=Y (.lst (a::b))->e2 b9 g f8 ρ=Y a:=λg ρ a b h=>by unfold e2;rw[h];exact eT (j:=0) rfl
 exact n4 _ _ _ _ n3
abbrev pJ(a:List aG)(b:List D):Option D:=Y (.obj mG (.ins "Judge" a b))
def AE{F:List D->Option (D×D)}{m:aG}{f:List D}{args:List D}{s:FB}(k:m∉CO)(i:xH "Judge" "facts" 0 (pJ a b::r)=Y (qU,a,b,fV A s))(l:g (pJ a b::r)=Y args)(n:F (fV A s::args)=Y (d,fV A c))(h:eU 0 (pJ a b::r)=pJ a b::r)(j:Jc "Judge" "facts" qU a b (fV A c)=.obj mG (.ins "Judge" a f)):jU "Judge" "facts" "Facts" m ah F 0 g (pJ a b::r)=Y (d,pJ a f::r):=by
 unfold jU;rw[i];simp only[ae];show (if (_/\_)/\m∉CO then (g (pJ a b::r)).bind λe=>(F (fV A s::e)).map λq=>(q.1,(eU 0 (pJ a b::r)).set 0 (Y (Jc "Judge" "facts" qU a b q.2))) else M)=_;rw[if_pos ⟨⟨by decide +kernel,rfl⟩,k⟩,l];simp only[ae,n,bP,h,j];rfl
theorem Ij:∀(n k:Nat),k+n<=1000->oO [M] (gN 0) fj (e2 qM v6 (eV 0)) (fG k n)=Y ((cS k n).map D.int)
 |0,k,_=>by simp[fG,cS,oO]
 | n+1,k,h=>by
  have e:fG k (n+1)=.int (k:Nat)::fG (k+1) n:=by
   unfold fG;rw[mn,aW,iu];simp only[cB]
   congr 1
   apply Uv;intro x _
   congr 1
   simp only[Uu];omega
  rw[e,cS,aW];refine uD (ρ:=[Y (.int (k:Nat))]) rfl ?_ (Ij n (k+1) ž);exact(show _=qM (.int 1) (.int (k:Nat)) from rfl).trans (Rg ž)
def F6:gw->Bool
 |.tx _=>Z'|_=>Z_
theorem Bp:∀(l:List gw) (c:List aG),(∀(i j:Nat) t,l[i]?=Y (.tx t)->l[j]?=Y (.tx t)->i=j)->(∀t,gw.tx t∈l->t∈c)->(l.filter F6).length<=c.length
 |[],c,_,_=>by simp
 | x::l,c,u,h=>by
  have d:∀(i j:Nat) t,l[i]?=Y (.tx t)->l[j]?=Y (.tx t)->i=j:=λi j t a b=>by have:=u (i+1) (j+1) t (by simpa using a) (by simpa using b);omega
  cases x with
  |tx t=>
   have g:=h t Ž;have:=Bp l (c.erase t) d λf m=>by
    have:f≠t:=λz=>by subst z;obtain⟨i,e⟩:=g9.mp m;have:=u 0 (i+1) f rfl (by simpa using e);omega
    exact(TY this).mpr (h f (by simp[m]))
   rw[sh g]at this;have:0<c.length:=P_ g;simp only[bW,F6,if_true,aK];omega
  |st b k=>simp only[bW,F6,dO,if_false];exact Bp l c d λt m=>h t (by simp[m])
  |mk=>simp only[bW,F6,dO,if_false];exact Bp l c d λt m=>h t (by simp[m])
theorem AJ:∀(l:List gw),gw.mk∉l->l.length=(l.filter JC).length+(l.filter F6).length
 |[],_=>by simp
 | x::l,h=>by
  have:=AJ l λz=>h (by simp[z])
  cases x with
  |tx t=>simp only[bW,F6,JC,if_true,dO,if_false,aK];omega|st b a=>simp only[bW,F6,JC,if_true,dO,if_false,aK];omega|mk=>exact absurd Ž h
def Jy{q:List D}{s:FB}{P:Int}{f:aG}(c:d6 [.ins "Facts" [] [],.lst q]=Y (.dJ,fV A s))(o:bZ [fV A s]=Y (.int P,fV A { s with bits:=s.bits+1 }))(k:eI [fV A { s with bits:=s.bits+1 },.lst A,.lst B,.int P]=Y (.dJ,fV A { s with bits:=s.bits+1,bF:=s.bF++N }))(a:q.length=n)(C:n<=900)(b:oO [M] (gN 0) fj (e2 qM v6 (eV 0)) (fG 0 n)=Y B)(z:gL [fV A { s with bits:=s.bits+1,bF:=s.bF++N }]=Y (.str f)):d5 [.ins "Judge" [] [],.lst q]=Y (D.dJ,D.ins "Judge" jk [fV A { s with bits:=s.bits+1,bF:=s.bF++N },.int P,.str f,.int (s.eD+1)]):=by
 show (jm [pJ [] [],Y (.lst q),M]).bind (qK mG)=_;unfold jm;have m:mJ 0 "Judge" "facts" ah (n9 "Facts" d6 (aC (eV 1) aN)) [pJ [] [],Y (.lst q),M]=Y (.nx [pJ ["facts"] [fV A s],Y (.lst q),M]):=by
  have e:n9 "Facts" d6 (aC (eV 1) aN) [pJ [] [],Y (.lst q),M]=Y (fV A s):=by show ((d6 [.ins "Facts" [] [],.lst q]).bind λr=>match r.1 with|.dJ=>Y r.2|_=>M)=_;rw[c];rfl
  unfold mJ;rw[e];simp only[ae];kernel_rfl
 rw[aB m];have v:jU "Judge" "facts" "Facts" "new_bit" ah bZ 0 aN [pJ ["facts"] [fV A s],Y (.lst q),M]=Y (.int P,[pJ ["facts"] [fV A { s with bits:=s.bits+1 }],Y (.lst q),M]):=AE ſ (by kernel_rfl) rfl o rfl (by kernel_rfl);have q2:sP Z_ 0 "Judge" "mark" (jU "Judge" "facts" "Facts" "new_bit" ah bZ 0 aN) [pJ ["facts"] [fV A s],Y (.lst q),M]=Y (.nx [pJ ["facts", "mark"] [fV A { s with bits:=s.bits+1 },.int P],Y (.lst q),M]):=by unfold sP;rw[v];simp only[ae];kernel_rfl
 rw[aB q2];have u:eF (mY (wL (a_ ik (aC (eV 1) aN))) [M] (gN 0) fj (e2 qM v6 (eV 0))) [pJ ["facts", "mark"] [fV A { s with bits:=s.bits+1 },.int P],Y (.lst q),M]=Y (.lst (B)):=by
  have i:wL (a_ ik (aC (eV 1) aN)) [pJ ["facts", "mark"] [fV A { s with bits:=s.bits+1 },.int P],Y (.lst q),M]=Y (fG 0 n):=by
   have c:a_ ik (aC (eV 1) aN) [pJ ["facts", "mark"] [fV A { s with bits:=s.bits+1 },.int P],Y (.lst q),M]=Y (.int (n:Nat)):=by rw[<- a];rfl
   have w:((n:Nat):Int)<=1000:=by omega
   have x:(0:Int)<=((n:Nat):Int):=by omega
   rw[B5 c ⟨mq (by decide) x,gX w (by decide)⟩,cN]
  unfold eF mY;rw[i];simp only[ae];rw[if_pos (dU (i9 (by simp[fG];omega)))];show (oO [M] (gN 0) fj (e2 qM v6 (eV 0)) (fG 0 n)).map D.lst=_;rw[b];rfl
 rw[aB (dr u)];simp only[aY,aZ];have h:jU "Judge" "facts" "Facts" "lead" ah eI 0 (aC (yH 0 "Judge" "facts" "Facts" "asks") (aC (eV 2) (aC (zK [0] [] (d9 "Judge" "mark" (eV 0))) aN))) [pJ ["facts", "mark"] [fV A { s with bits:=s.bits+1 },.int P],Y (.lst q),Y (.lst (B))]=Y (.dJ,[pJ ["facts", "mark"] [fV A { s with bits:=s.bits+1,bF:=s.bF++N },.int P],Y (.lst q),Y (.lst (B))]):=AE (args:=[.lst A,.lst (B),.int P]) ſ (by kernel_rfl) (by kernel_rfl) k rfl (by kernel_rfl);have g:mL (jU "Judge" "facts" "Facts" "lead" ah eI 0 (aC (yH 0 "Judge" "facts" "Facts" "asks") (aC (eV 2) (aC (zK [0] [] (d9 "Judge" "mark" (eV 0))) aN)))) [pJ ["facts", "mark"] [fV A { s with bits:=s.bits+1 },.int P],Y (.lst q),Y (.lst (B))]=Y (.nx [pJ ["facts", "mark"] [fV A { s with bits:=s.bits+1,bF:=s.bF++N },.int P],Y (.lst q),Y (.lst (B))]):=by unfold mL;rw[h];rfl
 rw[aB g];generalize j:({ s with bits:=s.bits+1,bF:=s.bF++N }:FB)=S at *
 have d:S.eD=s.eD:=by rw[<- j]
 rw[<- d];clear j d h g k;have t:zK [0] [] (a_ gL (aC (d9 "Judge" "facts" (eV 0)) aN)) [pJ ["facts", "mark"] [fV A S,.int P],Y (.lst q),Y (.lst B)]=Y (.str f):=by
  refine Ac (ρ':=[Y (.ins "Judge" ["facts", "mark"] [fV A S,.int P]),Y (.lst q),Y (.lst B)]) rfl ?_ rfl;have y:∀F:List D->Option D,a_ F (aC (d9 "Judge" "facts" (eV 0)) aN) [Y (.ins "Judge" ["facts", "mark"] [fV A S,.int P]),Y (.lst q),Y (.lst B)]=F [fV A S]:=λF=>rfl
  exact(y gL).trans z
 have l:kQ Z_ 0 "Judge" "fresh" (zK [0] [] (a_ gL (aC (d9 "Judge" "facts" (eV 0)) aN))) [pJ ["facts", "mark"] [fV A S,.int P],Y (.lst q),Y (.lst B)]=Y (.nx [pJ ["facts", "mark", "fresh"] [fV A S,.int P,.str f],Y (.lst q),Y (.lst B)]):=by unfold kQ;rw[t];simp only[ae];kernel_rfl
 rw[aB l];have p:zK [0] [] (e2 d8 (d9 "Facts" "stars" (d9 "Judge" "facts" (eV 0))) v6) [pJ ["facts", "mark", "fresh"] [fV A S,.int P,.str f],Y (.lst q),Y (.lst B)]=Y (.int (S.eD+1)):=by kernel_rfl
 unfold kQ;rw[p];simp only[ae];kernel_rfl
def L1{N:List aG}(a:Ss)(n:ER a)(o:M9 (· ∈ N) a)(K:a ≠ .nil)(hd:n_ a<=12)(z:oB a<=900)(h19:xN a+N.length<=18):
  ∃F ds,d5 [.ins "Judge" [] [],.lst (dR a)]=Y (.dJ,jD F ds)/\JO F ds/\F.long<=20/\wQ F/\IJ F a:=by
 obtain⟨u,s1,s,m,L,e0,sq,I,ha,lo⟩:=OV a n o hd z;have zz:=Af a;have G:=I.gi;have gl:=I.len;rw[k8]at gl;have lk:wF L:=I.lk λl O=>by simp at O
 have O:=Bk.len a u ha;have hm:m.length<=18:=by
  obtain⟨x,e,d⟩:=I.add;have Q:=(CF (T:=(· ∈ N)) a).app d;rw[<- e]at Q;have a1:=AJ m Q.nm;have a2:=Q.st;have a3:=Bp m N (λi j t P hj=>by
   rcases G.text t with⟨_,c⟩|⟨k,_,c⟩
   ·exact absurd P (c i)
   ·rw[(c i).mp P,(c j).mp hj]) Q.tx
  have:=Kx a;omega
 have G2:=O4 G;have go2:Go (· ∈ N) (T8 a) (Qk a+1) s1 (m3 a) [] { s with bits:=s.bits+1 } (m++[.mk]) L\/True :=.inr trivial;have R:Up m L (m++[gw.mk]) L:=by simpa using Up.app m L [gw.mk] []
 have bt:=G.bits;have nw:=uy u 0 (2 ^ m.length);have ht:∀i x,(m3 a)[i]?=Y x->(m++[gw.mk])[0+i]?=Y x:=λi x T=>by rw[ml];exact R.t (I.up.t T)
 have J:GI { s with bits:=s.bits+1,bF:=s.bF++(gu u 0 (2 ^ m.length)).map ldK } (m++[gw.mk]) (L++gu u 0 (2 ^ m.length)):=by
  refine HH G2 ?_ (λl A =>?_) (λl A i P =>?_)
  ·rw[gy,yj,gm];refine⟨G.R3,List.nodup_range' ..,λx T y hy e =>?_⟩;subst e;obtain⟨l,A,rfl⟩:=bc.mp T;have hy:=List.mem_range'_1.mp hy;rcases I.lo l A with q|q
   ·simp at q
   ·rw[k8]at q;omega
  ·obtain⟨p,q,_⟩:=nw l A;obtain⟨b,nm,g⟩:=Fi a l.1 ž;exact⟨b,nm,by have:=ht _ _ g;rwa [ml]at this⟩
  ·obtain⟨p,q,g⟩:=nw l A;rcases g i P with y|⟨y,w⟩|y
   ·obtain⟨x,v⟩:=lo i y;exact⟨by simp;omega,v.imp (λv=>ž) λ⟨t,v⟩=>⟨t,R.t v⟩⟩
   ·exact⟨by simp;omega,.inl ž⟩
   ·rw[c_,decide_eq_true_eq]at y;exact⟨by simp;omega,.inl ž⟩
 have S:wF (L++gu u 0 (2 ^ m.length)):=λl A=>by obtain⟨x,y⟩:=Bk.ln a u ha z;exact(aD.mp A).elim (lk l) (BP u _ _ ž y l)
 have H:(m++[gw.mk])[m.length]?=Y .mk:=dZ.mpr (.inr ⟨rfl,rfl⟩);have U:j8 (m++[gw.mk]) (L++gu u 0 (2 ^ m.length)) (2 ^ m.length) a 0:=vw a u 0 K (Bk.up (R.trans ⟨id,λx h=>by simp[h]⟩) a u ha) ht (λl h=>by simp[h]);have Qv:=J.Qv;obtain⟨f,ef,hf⟩:=Mo (A:=js u) (s:={ s with bits:=s.bits+1,bF:=s.bF++(gu u 0 (2 ^ m.length)).map ldK }) J.Qu (by have:=G.Qv;show s.nk.length<=19;omega);refine⟨IG { s with bits:=s.bits+1,bF:=s.bF++(gu u 0 (2 ^ m.length)).map ldK } (L++gu u 0 (2 ^ m.length)) m.length f,NH { s with bits:=s.bits+1,bF:=s.bF++(gu u 0 (2 ^ m.length)).map ldK } (js u),?_,Vu J H S _ (by simp;omega),?_,O6 J hf,Nl (OL J H) (j8.r J H a 0 U)⟩
 rotate_left
 ·show s.eD.toNat+1<=20;rw[G.eD,cN];have:=wc om m;omega
 have kn:u ≠ .nil:=by
  intro y;subst y;cases a with
  |nil=>exact K rfl|cons _ _ _ r=>simp[da,fP]at O
 have fl:=G.SJ;have el:=Vt (A:=js u) (s:={ s with bits:=s.bits+1 }) (ks:=u) (j:=0) (e:=2 ^ m.length) kn (by show s.bF.length+_<2000;rw[G.bF,bj];omega);rw[O,<- jh]at el;have nb:bZ [fV (js u) s]=Y (.int (2 ^ m.length),fV (js u) { s with bits:=s.bits+1 }):=by rw[<- bt];exact Lr (js u) s ž
 have W:(dR a).length=fP a:=vC a;have X:fP a<=900:=by omega
 have C:s.eD=((m.filter om).length:Nat):=G.eD;have hbl:=Ij (fP a) 0 ž;have E:(IG { s with bits:=s.bits+1,bF:=s.bF++(gu u 0 (2 ^ m.length)).map ldK } (L++gu u 0 (2 ^ m.length)) m.length f).mark=2 ^ m.length:=rfl;have B:(((IG { s with bits:=s.bits+1,bF:=s.bF++(gu u 0 (2 ^ m.length)).map ldK } (L++gu u 0 (2 ^ m.length)) m.length f).long:Nat):Int)=s.eD+1:=by show ((s.eD.toNat+1:Nat):Int)=_;rw[C];omega
 unfold jD;rw[E,B,<- jh];show _=Y (D.dJ,D.ins "Judge" jk [fV (js u) { s with bits:=s.bits+1,bF:=s.bF++(gu u 0 (2 ^ m.length)).map ldK },.int (2 ^ m.length),.str f,.int (s.eD+1)]);exact Jy e0 nb el W X hbl ef
mutual
theorem Kv:∀w:Wi,jW w<=900->Iw w
 |.any,_=>by rw[Iw];trivial
 |.txt _,_=>by rw[Iw];trivial
 |.has s,h=>by rw[Iw];rw[jW]at h;exact Fg s ž
 |.both w,h=>by rw[Iw];rw[jW]at h;exact Fh w ž
 |.one w,h=>by rw[Iw];rw[jW]at h;exact Fh w ž
theorem Fh:∀w:Ws,qo w<=900->QT w
 |.nil,_=>by rw[QT];trivial
 |.cons w r,h=>by rw[qo]at h;have:=wh r;rw[QT];exact⟨⟨ž,Kv w ž⟩,Fh r ž⟩
theorem Fg:∀s:Ss,oB s<=900->Um s
 |.nil,_=>by rw[Um];trivial
 |.cons b a w r,h=>by rw[oB]at h;rw[Um];exact⟨Kv w ž,Fg r ž⟩
end
mutual
theorem Vq{F:Fa}(a:F.long<=20):∀w:Wi,Jt F w<=w6 w*42+jW w
 |.any=>by simp[Jt]
 |.txt _=>by simp[Jt,jW]
 |.has s=>by have:=OP a 0 s;simp only[Jt,w6,jW];omega
 |.both w=>by have:=R4 a w;simp only[Jt,w6,jW];omega
 |.one w=>by have:=R4 a w;simp only[Jt,w6,jW];omega
theorem R4{F:Fa}(a:F.long<=20):∀w:Ws,EL F w<=EJ w*42+qo w
 |.nil=>by simp[EL]
 |.cons w r=>by have:=Vq a w;have:=R4 a r;simp only[EL,EJ,qo,Nat.add_mul];omega
theorem OP{F:Fa}(a:F.long<=20)(e:Nat):∀s:Ss,NB F e s<=e+xN s*42+oB s
 |.nil=>by simp only[NB];omega
 |.cons b c w r=>by have:=Vq a w;have:=OP a e r;simp only[NB,xN,oB,Nat.add_mul];omega
end
def LB{F:Fa}:lW F (λf=>f=[.mk]) [(F.mark,[uj])]:=by
 have:=lW.one (F:=F) (f:=[.mk]);rw[nZ,tA]at this;exact this
def Jq{F:Fa}{b:List D}(J:JO F b)(c:F.long<=20)(a:Ss)(n:ER a)(d:n_ a<=12)(z:oB a<=900)(e:xN a<=18):o8 [jD F b,.lst (dR a)]=Y (wD (i7 F [(F.mark,[uj])] a)):=by
 have f:=OP c 1 a;obtain⟨x,y,q⟩:=vv J a (r1:=Y (.lst (dR a))) (r2:=Y (wD [(F.mark,[uj])])) (x:=M) (y:=M) (g0:=[.mk]) (e:=1) (by simp[kb,K30.Bv]) LB 11 d n (Fg a z) ž;have h:=Ah q;show (uI [Y (jD F b),Y (.lst (dR a))]).bind iY=_;unfold uI;refine px ?_;have g:∀G:List D->Option D,a_ G (aC (eV 0) (aC (eV 1) (aC (qk (d9 "Judge" "mark" (eV 0)) (dN (aC (eK (.tup (gF.map D.str))) aN))) aN))) [Y (jD F b),Y (.lst (dR a))]=G [jD F b,.lst (dR a),wD [(F.mark,[uj])]]:=λG=>rfl
 rw[g];exact h
def Ew(d:D):Prop:=(∃n,d=CN n)\/(∃t,d=Nw t)\/d=EK\/d=uj
mutual
theorem Rh:∀(t:Tr),∀d∈K30.Bv t,Ew d
 |.txt t,d,h=>by rw[K30.Bv]at h;simp at h;exact .inr (.inl ⟨t,h⟩)
 |.mk,d,h=>by rw[K30.Bv]at h;simp at h;exact .inr (.inr (.inr h))
 | .nd n f,d,h=>by
  rw[K30.Bv]at h;rcases au.mp h with h|h
  ·exact .inl ⟨n,h⟩
  ·rcases aD.mp h with h|h
   ·exact Fm f d h
   ·simp at h;exact .inr (.inr (.inl h))
theorem Fm:∀(f:List Tr),∀d∈kb f,Ew d
 |[],d,h=>by simp[kb]at h
 |t::f,d,h=>by rw[kb]at h;exact(aD.mp h).elim (Rh t d) (Fm f d)
end
def BL(h:Ew d)(n:Nat):iK d (n+2)=true:=by
 rcases h with⟨x,rfl⟩|⟨x,rfl⟩|rfl|rfl<;>simp[CN,Nw,EK,uj,iK,iJ]
theorem Dl{n:Nat}:∀ {l:List D},(∀d∈l,Ew d)->iJ l (n+2)=Z'
 |[],_=>rfl|d::l,h=>by rw[iJ,BL (h d (by simp)),Dl λx a=>h x (by simp[a])];rfl
theorem LR{U:DT}{p:D->Bool}:∀ {l:List D},(∀d∈l,U [Y d]=Y (p d))->oO [M] (gN 0) U (eV 0) l=Y (l.filter p)
 |[],_=>rfl| d::l,h=>by
  rw[oO,show gN 0 d [M]=Y [Y d] from rfl];have ih:=LR (U:=U) (p:=p) (l:=l) λx a=>h x (by simp[a])
  simp only[ae,h d (by simp),ih,bW];cases p d<;>rfl
abbrev FP(d:D):Bool:= !lH d uj
def Lp(n:aG):FP (CN n)=true:=by simp[FP,CN,uj,lH,og]
def RT(n:aG):FP (Nw n)=true:=by simp[FP,Nw,uj,lH,og]
def Lq:FP EK=true:=by kernel_rfl
def RU:FP uj=false:=by kernel_rfl
mutual
def Vv:Tr->List D
 |.txt t=>[.str t]|.mk=>[]|.nd n f=>[L2.part n (L8 f)]
def L8:List Tr->List D
 |[]=>[]|t::f=>Vv t++L8 f
end
mutual
theorem Q2:∀(t:Tr) (x:aG) (a:List D) (b:Zs) (c r:List D),rh ((K30.Bv t).filter FP++r) ((x,a)::b,c)=rh r ((x,a++Vv t)::b,c)
 | .txt t,x,a,b,c,r=>by
  rw[K30.Bv,bW,RT,Vv];simp only[if_true,GH,fS,cf,rh];have:lj ((x,a)::b,c) (Nw t)=Y ((x,a++[.str t])::b,c):=by unfold Nw lj;simp only;rw[if_neg (by decide +kernel),if_pos (show ab "text" = xT from rfl),if_neg (by simp)];rfl
  rw[this];rfl
 |.mk,x,a,b,c,r=>by rw[K30.Bv,bW,RU,Vv];simp
 | .nd n f,x,a,b,c,r=>by
  rw[K30.Bv,bW,Lp,Vv,fR];simp only[if_true,bW,Lq,GH,fS,bH,cf,rh];have e:lj ((x,a)::b,c) (CN n)=Y ((n,[])::(x,a)::b,c):=by unfold CN lj;simp only;rw[if_pos (show ab "open" = qi from rfl),if_neg (by simp)]
  rw[e,ae,EY f n [] ((x,a)::b) c (EK::r),rh];have d:lj ((n,[]++L8 f)::(x,a)::b,c) EK=Y ((x,a++[L2.part n (L8 f)])::b,c):=by unfold EK lj;simp only[cf];rw[if_pos (show ab "close" = qI from rfl)];rfl
  rw[d];rfl
theorem EY:∀(f:List Tr) (x:aG) (a:List D) (b:Zs) (c r:List D),rh ((kb f).filter FP++r) ((x,a)::b,c)=rh r ((x,a++L8 f)::b,c)
 |[],x,a,b,c,r=>by simp[kb,L8]
 |t::f,x,a,b,c,r=>by rw[kb,L8,fR,bH,Q2 t,EY f,bH]
end
def Kw{n:aG}{f:List Tr}(h:(kb [.nd n f]).length<=100000):nN [.lst ((kb [.nd n f]).filter FP)]=Y (L2.part n (L8 f)):=by
 have e:(kb [.nd n f]).filter FP=CN n::((kb f).filter FP++[EK]):=by rw[kb,kb,K30.Bv,bx,bW,Lp,fR];simp only[if_true,bW,Lq,GH]
 have r:rh ((kb [.nd n f]).filter FP) ([],[])=Y ([],[L2.part n (L8 f)]):=by
  rw[e,rh];have b:lj ([],[]) (CN n)=Y ([(n,[])],[]):=by unfold CN lj;simp only;rw[if_pos (show ab "open" = qi from rfl),if_neg (by simp)]
  rw[b,ae,EY f n [] [] [] [EK],rh];have a:lj ([(n,[]++L8 f)],[]) EK=Y ([],[L2.part n (L8 f)]):=by unfold EK lj;simp only[cf];rw[if_pos (show ab "close" = qI from rfl)];rfl
  rw[a];rfl
 have l:((kb [.nd n f]).filter FP).length<=100000:=a7 (wc ..) h;unfold nN;simp only;rw[if_pos l,r];rfl
theorem QX{F:Fa}:∀(s:Ss){f:List Tr},MS F [.mk] s f->uj∈kb f
 |.nil,f,h=>by have h:f=[.mk]:=h;subst h;simp[kb,K30.Bv]
 | .cons b c w r,f,⟨g,h,k,m,_,_,e⟩=>by
  subst e;have ih:=QX r m;have:∀k,uj∈kb [lT F k (.nd (dt F c) (g++h))]:=by
   intro k
   induction k with|zero=>simp[lT,kb,K30.Bv,rB,ih]|succ k a=>rw[lT,kb,kb,K30.Bv,bx];exact aj _ (aJ _ a)
  exact this k
theorem NP{F:Fa}{n:aG}{g:List Tr}:∀k,∃m h,lT F k (.nd n g)=.nd m h
 |0=>⟨n,g,rfl⟩|k+1=>⟨_,_,rfl⟩
def Tu{F:Fa}{s:Ss}(c:s ≠ .nil){f:List Tr}(h:MS F [.mk] s f):∃n g,f=[.nd n g]:=by
 cases s with
 |nil=>exact absurd rfl c|cons b a w r=>obtain⟨g,h,k,_,_,_,e⟩:=h;obtain⟨m,i,q⟩:=NP (F:=F) (n:=dt F a) (g:=g++h) k;exact⟨m,i,by rw[e,q]⟩
def Hu{f:DF}{l:List D}(h:f a=Y (.tup l))(c:l.length<=10000)(b:kM [M] a=[M])(k:∀d∈l,U [Y d]=Y (p d)):eF (mY (NC f) [M] (gN 0) U (eV 0)) a=Y (.lst (l.filter p)):=by
 unfold eF mY NC;rw[h];simp only[ae];rw[if_pos (a7 c (by decide)),b,LR k];rfl
def Jh(h:Ew d):∃b,cT (e2 gj (e2 b9 (eV 0) f8) lc) [Y d]=Y b:=by
 rcases h with⟨x,rfl⟩|⟨x,rfl⟩|rfl|rfl
 ·exact⟨lH (kS "open") (kS "open"),by kernel_rfl⟩
 ·exact⟨lH (kS "text") (kS "open"),by kernel_rfl⟩
 ·exact⟨lH (kS "close") (kS "open"),by kernel_rfl⟩
 ·exact⟨lH (kS "mark") (kS "open"),by kernel_rfl⟩
def OI(h:Ew d):cT (e2 Dq (eV 0) (eK (.tup (gF.map D.str)))) [Y d]=Y (FP d):=by
 have:e2 Dq (eV 0) (eK (.tup (gF.map D.str))) [Y d]=Dq d uj:=rfl;unfold cT;rw[this];unfold Dq;rw[if_pos (by rw[BL h 178,BL (.inr (.inr (.inr rfl)):Ew uj) 178];rfl)];rfl
def K4{n:aG}{f:List Tr}(hm:uj∈kb [.nd n f])(hl:(kb [.nd n f]).length<=10000):∃x,fg [.tup (kb [.nd n f])]=Y (.tup x):=by
 have ok:=Fm [.nd n f];have st:=Kw (n:=n) (f:=f) ž;generalize kb [.nd n f]=sg at *
 obtain⟨i,hi,lt⟩:∃i:Nat,sg.findIdx? (λy=>lH y uj)=Y i/\i<sg.length:=by
  cases e:sg.findIdx? (λy=>lH y uj) with
  |none=>rw[List.findIdx?_eq_none_iff]at e;have:=e uj hm;rw[show lH uj uj=Z' by kernel_rfl]at this;cases this
  |some i=>rw[Bm]at e;exact⟨i,rfl,e.1⟩
 have ix:∀a b:Option D,Ge (eV 0) (eK (.tup (gF.map D.str))) [Y (.tup sg),a,b]=Y (.int (i:Nat)):=λa b=>by unfold Ge;rw[show eV 0 [Y (D.tup sg),a,b]=Y (.tup sg) from rfl,show eK (D.tup (gF.map D.str)) [Y (D.tup sg),a,b]=Y uj from rfl];simp only[ae];rw[if_pos (by rw[BL (.inr (.inr (.inr rfl)):Ew uj) 168,Dl (n:=168) ok];rfl),hi];rfl
 have sl:∀a b:Option D,Mw (eV 0) pN (pS (Ge (eV 0) (eK (.tup (gF.map D.str))))) [Y (.tup sg),a,b]=Y (.tup (sg.take i)):=λa b=>by
  unfold Mw;rw[show eV 0 [Y (D.tup sg),a,b]=Y (.tup sg) from rfl,show pN [Y (D.tup sg),a,b]=Y M from rfl];have:pS (Ge (eV 0) (eK (.tup (gF.map D.str)))) [Y (.tup sg),a,b]=Y (Y (i:Int)):=by unfold pS;rw[ix];rfl
  rw[this];simp only[ae];rw[if_neg (λz=>by have:=z.2;rw[HT.N7]at this;omega),MR _ (by omega)];rfl
 show ∃x,(il [Y (.tup sg),M,M]).bind iY=Y (.tup x);unfold il;rw[aB (dr (sl M M))];simp only[aY,aZ];have c1:eF (mY (NC (eV 1)) [M] (gN 0) (cT (e2 gj (e2 b9 (eV 0) f8) lc)) (eV 0)) [Y (.tup sg),Y (.tup (sg.take i)),M]=Y (.lst ((sg.take i).filter λd=>(cT (e2 gj (e2 b9 (eV 0) f8) lc) [Y d]).getD Z_)):=by
  refine Hu rfl (by rw[m_];omega) rfl λd hd =>?_
  obtain⟨b,e⟩:=Jh (ok d (List.mem_of_mem_take hd));rw[e];rfl
 obtain⟨k,hk⟩:∃k:Int,e2 ku (a_ ik (aC (eF (mY (NC (eV 1)) [M] (gN 0) (cT (e2 gj (e2 b9 (eV 0) f8) lc)) (eV 0))) aN)) v6 [Y (.tup sg),Y (.tup (sg.take i)),M]=Y (.int k):=by have e1:=oW (G:=ik) c1;unfold e2 at e1 ⊢;rw[e1];exact⟨_,rfl⟩
 rw[aB (dr hk)];simp only[aY,aZ];have c2:eF (mY (NC (eV 0)) [M] (gN 0) (cT (e2 Dq (eV 0) (eK (.tup (gF.map D.str))))) (eV 0)) [Y (.tup sg),Y (.tup (sg.take i)),Y (.int k)]=Y (.lst (sg.filter FP)):=Hu rfl hl rfl λd hd=>OI (ok d hd)
 have c3:=(oW (G:=nN) c2).trans st;exact⟨_,px (C0 c3 rfl)⟩
theorem wq{a b:Option D}:∀(W:Wy) (x y:Option D),(∀p∈W,∃d,fg [.tup p.2]=Y (.tup d))->((∀p∈W,p.1.testBit 0=Z')/\∃k j,eS (AZ 2 3) ja (W.map wI) [a,b,x,y]=Y (.nx [a,b,k,j]))\/((¬ ∀p∈W,p.1.testBit 0=Z')/\∃d,eS (AZ 2 3) ja (W.map wI) [a,b,x,y]=Y (.rt (.tup d)))
 |[],x,y,_ =>.inl ⟨Ž,x,y,rfl⟩
 | p::W,x,y,h=>by
  have i:ua (rV (e2 mQ (eV 2) v6)) [a,b,Y (.int (p.1:Int)),Y (.tup p.2)]=Y (!p.1.testBit 0):=by have:rV (e2 mQ (eV 2) v6) [a,b,Y (.int (p.1:Int)),Y (.tup p.2)]=Y (bA (p.1:Int) (2 ^ 0) != 0):=rfl;unfold ua;rw[this,Ir];rfl
  cases f:p.1.testBit 0 with
  |true=>
   rw[f]at i;have g:ja [a,b,Y (.int (p.1:Int)),Y (.tup p.2)]=Y (.nx [a,b,Y (.int (p.1:Int)),Y (.tup p.2)]):=by unfold ja;rw[dh i];rfl
   rw[aW,eH (ρ1:=[a,b,Y (.int (p.1:Int)),Y (.tup p.2)]) rfl g];rcases wq W (Y (.int (p.1:Int))) (Y (.tup p.2)) (λq c=>h q (by simp[c])) with⟨u,v⟩|⟨u,v⟩
   ·refine .inl ⟨λq c =>?_,v⟩;rcases au.mp c with rfl|c
    ·exact f
    ·exact u q c
   ·exact .inr ⟨λz=>u λq c=>z q (by simp[c]),v⟩
  |false=>
   rw[f]at i;obtain⟨d,e⟩:=h p Ž;refine .inr ⟨λz=>(by rw[z p (by simp)]at f;cases f),d,?_⟩;have g:ja [a,b,Y (.int (p.1:Int)),Y (.tup p.2)]=Y (.rt (.tup d)):=by
    unfold ja;rw[iT i];have l:∀F:List D->Option D,a_ F (aC (eV 3) aN) [a,b,Y (.int (p.1:Int)),Y (.tup p.2)]=F [.tup p.2]:=λF=>rfl
    unfold fF;rw[l,e];rfl
   rw[aW,eS,show AZ 2 3 (wI p) [a,b,x,y]=Y [a,b,Y (.int (p.1:Int)),Y (.tup p.2)] from rfl];simp only[ae,g]
structure Ex(TL:List aG)(a:Ss):Prop where
 n:ER a
 o:M9 (· ∈ TL) a
 ne:a ≠ .nil
 d:n_ a<=12
 z:oB a<=900
 s:xN a+TL.length<=18
abbrev Within(a b:Ss):Prop:=∀f,kg Mk a f->kg Mk b f
def x9{o:List aG}{a b:Ss}(c:Ex o a)(h:Ex o b):(Within a b/\ff [.lst (dR a),.lst (dR b)]=Y .dJ)\/(¬Within a b/\∃d,ff [.lst (dR a),.lst (dR b)]=Y (.tup d)):=by
 obtain⟨F,I,C,J,l,w,R⟩:=L1 b h.n h.o h.ne h.d h.z h.s;have B:=Jq J l a c.n c.d c.z (by have:=c.s;omega);have t:=Wr w (a:=a) R;have s:=qF F (g0:=[.mk]) a (W:=[(F.mark,[uj])]) LB;have K:=OP l 1 a;have L:=c.z;have N:=c.s;have v:∀p∈i7 F [(F.mark,[uj])] a,∃d,fg [.tup p.2]=Y (.tup d):=λp z=>by obtain⟨f,m,_,e⟩:=s.snd p z;obtain⟨n,g,rfl⟩:=Tu c.ne m;rw[<- e];exact K4 (QX a m) (by have:=BY (e:=1) (by simp[kb,K30.Bv]) a m;omega)
 have k:j6 (a_ o8 (aC (n9 "Judge" d5 (aC (eV 1) aN)) (aC (eV 0) aN))) [Y (.lst (dR a)),Y (.lst (dR b)),M,M]=Y ((i7 F [(F.mark,[uj])] a).map wI):=by
  have H:n9 "Judge" d5 (aC (eV 1) aN) [Y (.lst (dR a)),Y (.lst (dR b)),M,M]=Y (jD F I):=by
   have A:∀G:List D->Option (D×D),n9 "Judge" G (aC (eV 1) aN) [Y (.lst (dR a)),Y (.lst (dR b)),M,M]=(G [.ins "Judge" [] [],.lst (dR b)]).bind λr=>match r.1 with|.dJ=>Y r.2|_=>none:=λG=>rfl
   rw[A,C];rfl
  have E:a_ o8 (aC (n9 "Judge" d5 (aC (eV 1) aN)) (aC (eV 0) aN)) [Y (.lst (dR a)),Y (.lst (dR b)),M,M]=Y (wD (i7 F [(F.mark,[uj])] a)):=by rw[Ig H rfl];exact B
  unfold j6;rw[E,<- AW];rfl
 have i:ff [.lst (dR a),.lst (dR b)]=(rK [Y (.lst (dR a)),Y (.lst (dR b)),M,M]).bind iY:=rfl;have j:Within a b↔_:=t.symm;rw[i,j];unfold rK;rcases wq (a:=Y (.lst (dR a))) (b:=Y (.lst (dR b))) _ M M v with⟨u,x,y,q⟩|⟨u,d,q⟩
 ·refine .inl ⟨u,?_⟩;rw[aB ((gB k).trans q)];rfl
 ·refine .inr ⟨u,d,?_⟩;unfold bp;rw[gB k,q];rfl
end K21
namespace K30
open PySem L2
def V1:Ws->List Ws
 |.nil=>[]|.cons w r=>r::(V1 r).map (.cons w)
def kN:Ws->Nat
 |.nil=>0|.cons _ r=>kN r+1
def m7:Ss->Nat
 |.nil=>0|.cons _ _ _ r=>m7 r+1
def iR:Ss->Ss
 |.nil =>.nil|.cons _ _ _ .nil =>.nil|.cons b d w (.cons e a c r) =>.cons b d w (iR (.cons e a c r))
mutual
def lq:Wi->List Wi
 |.any=>[]|.txt _=>[.any]|.has s =>.any::((lN s).map .has++if 1<m7 s then [.has (iR s)] else [])
 |.both w =>.any::(vO (decide (1<kN w)) w).map .both|.one w =>.any::(vO (decide (1<kN w)) w).map .one
def vO(a:Bool):Ws->List Ws
 |.nil=>[]|.cons w r=>(lq w).map (.cons · r)++(if a then [r] else [])++(vO a r).map (.cons w)
def lN:Ss->List Ss
 |.nil=>[]|.cons b a w r=>(lq w).map (.cons b a · r)++(lN r).map (.cons b a w)
end
mutual
def qp:Wi->Nat
 |.any=>0|.txt _=>0|.has s=>m6 s|.both w=>ur w|.one w=>100+kN w+ur w
def ur:Ws->Nat
 |.nil=>0|.cons w r=>qp w+ur r
def m6:Ss->Nat
 |.nil=>0|.cons _ _ w r=>qp w+m6 r
end
theorem AM:∀(s:Ss){f:List Tr},kg E s f->kg (λ_=>True) (iR s) f
 |.nil,f,_=>trivial|.cons b j w .nil,f,_=>trivial|.cons b j w (.cons k h i r),f,⟨n,g,a,c,d,e⟩=>⟨n,g,a,c,d,AM (.cons k h i r) e⟩
theorem BH:∀s:Ss,m6 (iR s)<=m6 s
 |.nil=>aw _|.cons b d w .nil=>by simp[iR,m6]
 |.cons b d w (.cons e a c r)=>by have:=BH (.cons e a c r);rw[iR,m6,m6];omega
mutual
theorem QB:∀(w c:Wi),qp w=0->c∈lq w->qp c=0/\∀f,lS w f->lS c f
 |.any,c,_,h=>by simp[lq]at h
 |.txt t,c,_,h=>by simp only[lq,bR]at h;subst h;exact⟨rfl,λ_ _=>trivial⟩
 | .has s,c,o,h=>by
  simp only[qp]at o;simp only[lq,au,aD,bc]at h;rcases h with rfl|⟨d,e,rfl⟩|h
  ·exact⟨rfl,λ_ _=>trivial⟩
  ·obtain⟨a,b⟩:=LH s d o e;exact⟨a,λf k=>b _ f k⟩
  ·split at h
   ·simp only[bR]at h;subst h;refine⟨?_,λf k=>AM s k⟩;have:=BH s;simp only[qp];omega
   ·simp at h
 | .both w,c,o,h=>by
  simp only[qp]at o;simp only[lq,au,bc]at h;rcases h with rfl|⟨d,e,rfl⟩
  ·exact⟨rfl,λ_ _=>trivial⟩
  ·obtain⟨a,b⟩:=QC _ w d o e;exact⟨a,b⟩
 |.one w,c,o,h=>by simp only[qp]at o;omega
theorem QC(d:Bool):∀(w c:Ws),ur w=0->c∈vO d w->ur c=0/\∀f,lX w f->lX c f
 |.nil,c,_,h=>by simp[vO]at h
 | .cons w r,c,o,h=>by
  simp only[ur]at o;simp only[vO,aD,bc]at h;rcases h with (⟨x,e,rfl⟩|h)|⟨x,e,rfl⟩
  ·obtain⟨a,b⟩:=QB w x ž e;exact⟨by simp only[ur];omega,λf k=>⟨b f k.1,k.2⟩⟩
  ·split at h
   ·simp only[bR]at h;subst h;exact⟨ž,λf k=>k.2⟩
   ·simp at h
  ·obtain⟨a,b⟩:=QC d r x ž e;exact⟨by simp only[ur];omega,λf k=>⟨k.1,b f k.2⟩⟩
theorem LH:∀(s i:Ss),m6 s=0->i∈lN s->m6 i=0/\∀(E:List Tr->Prop) f,kg E s f->kg E i f
 |.nil,i,_,h=>by simp[lN]at h
 | .cons b k w r,i,o,h=>by
  simp only[m6]at o;simp only[lN,aD,bc]at h;rcases h with⟨x,j,rfl⟩|⟨x,j,rfl⟩
  ·obtain⟨p,q⟩:=QB w x ž j;exact⟨by simp only[m6];omega,λE f ⟨n,g,a,c,d,e⟩=>⟨n,g,a,c,q g d,e⟩⟩
  ·obtain⟨p,q⟩:=LH r x ž j;exact⟨by simp only[m6];omega,λE f ⟨n,g,a,c,d,e⟩=>⟨n,g,a,c,d,q E g e⟩⟩
end
mutual
theorem xf:∀w:Wi,qp w=0\/100<=qp w
 |.any =>.inl rfl|.txt _ =>.inl rfl|.has s=>BI s|.both w=>xg w|.one w =>.inr (by simp only[qp];omega)
theorem xg:∀w:Ws,ur w=0\/100<=ur w
 |.nil =>.inl rfl|.cons w r=>by have:=xf w;have:=xg r;simp only[ur];omega
theorem BI:∀w:Ss,m6 w=0\/100<=m6 w
 |.nil =>.inl rfl|.cons _ _ w r=>by have:=xf w;have:=BI r;simp only[m6];omega
end
theorem wt:∀s:Ss,m6 (iR s)=m6 s\/m6 (iR s)+100<=m6 s
 |.nil =>.inl rfl|.cons b d w .nil=>by have:=xf w;simp only[iR,m6];omega
 |.cons b d w (.cons e a c r)=>by have:=wt (.cons e a c r);rw[iR,m6,m6];omega
theorem BX:∀(a:Bool) (w b:Ws),b∈vO a w->(kN b=kN w)\/(kN b+1=kN w)
 |a,.nil,b,h=>by simp[vO]at h
 | a,.cons w r,b,h=>by
  simp only[vO,aD,bc]at h;rcases h with (⟨x,c,rfl⟩|h)|⟨x,c,rfl⟩
  ·exact .inl rfl
  ·split at h
   ·simp only[bR]at h;subst h;exact .inr rfl
   ·simp at h
  ·have:=BX a r x c;simp only[kN];omega
theorem Vi:∀(a:Bool) (w b:Ws),ur w=0->b∈vO a w->kN b+1=kN w->∀f,oZ b f->oZ w f
 |a,.nil,b,_,h=>by simp[vO]at h
 | a,.cons w r,b,o,h=>by
  simp only[ur]at o;simp only[vO,aD,bc]at h;rcases h with (⟨x,c,rfl⟩|h)|⟨x,c,rfl⟩
  ·intro l;simp only[kN]at l;omega
  ·split at h
   ·simp only[bR]at h;subst h;exact λ_ f k =>.inr k
   ·simp at h
  ·intro l f k;simp only[kN]at l;exact k.imp id (Vi a r x ž c ž f)
mutual
theorem Kq:∀(w a:Wi),qp w<200->a∈lq w->qp a+1=qp w->∀f,lS a f->lS w f
 |.any,a,_,h,_=>by simp[lq]at h
 |.txt t,a,_,h,l=>by simp only[qp]at l;omega
 | .has s,a,o,h,l=>by
  have d:=BI s;simp only[qp]at o l;simp only[lq,au,aD,bc]at h;rcases h with rfl|⟨b,c,rfl⟩|h
  ·simp only[qp]at l;omega
  ·exact λf k=>Fe s b o c l _ f k
  ·split at h
   ·simp only[bR]at h;subst h;have:=wt s;simp only[qp]at l;omega
   ·simp at h
 | .both w,a,o,h,l=>by
  have d:=xg w;simp only[qp]at o l;simp only[lq,au,bc]at h;rcases h with rfl|⟨b,c,rfl⟩
  ·simp only[qp]at l;omega
  ·exact Kr _ w b o c l
 | .one w,a,o,h,l=>by
  have d:=xg w;simp only[qp]at o l;simp only[lq,au,bc]at h;rcases h with rfl|⟨b,c,rfl⟩
  ·simp only[qp]at l;omega
  ·have i:=BX _ w b c;have e:ur w=0:=by omega
   have g:=Hi _ w b c;simp only[qp]at l;exact Vi _ w b e c ž
theorem Kr(b:Bool):∀(w a:Ws),ur w<200->a∈vO b w->ur a+1=ur w->∀f,lX a f->lX w f
 |.nil,a,_,h,_=>by simp[vO]at h
 | .cons w r,a,o,h,l=>by
  have d:=xf w;simp only[ur]at o l;simp only[vO,aD,bc]at h;rcases h with (⟨x,c,rfl⟩|h)|⟨x,c,rfl⟩
  ·simp only[ur]at l;exact λf k=>⟨Kq w x ž c ž f k.1,k.2⟩
  ·split at h
   ·simp only[bR]at h;subst h;omega
   ·simp at h
  ·simp only[ur]at l;exact λf k=>⟨k.1,Kr b r x ž c ž f k.2⟩
theorem Fe:∀(s i:Ss),m6 s<200->i∈lN s->m6 i+1=m6 s->∀(E:List Tr->Prop) f,kg E i f->kg E s f
 |.nil,i,_,h,_=>by simp[lN]at h
 | .cons b k w r,i,o,h,l=>by
  simp only[m6]at o l;simp only[lN,aD,bc]at h;rcases h with⟨x,j,rfl⟩|⟨x,j,rfl⟩
  ·simp only[m6]at l;exact λE f ⟨n,g,a,c,d,e⟩=>⟨n,g,a,c,Kq w x ž j ž g d,e⟩
  ·simp only[m6]at l;exact λE f ⟨n,g,a,c,d,e⟩=>⟨n,g,a,c,d,Fe r x ž j ž E g e⟩
theorem K_:∀(w a:Wi),a∈lq w->qp a<=qp w
 |.any,a,h=>by simp[lq]at h
 |.txt t,a,h=>by simp only[lq,bR]at h;subst h;exact aw _
 | .has s,a,h=>by
  simp only[lq,au,aD,bc]at h;rcases h with rfl|⟨b,c,rfl⟩|h
  ·simp[qp]
  ·exact La s b c
  ·split at h
   ·simp only[bR]at h;subst h;exact BH s
   ·simp at h
 | .both w,a,h=>by
  simp only[lq,au,bc]at h;rcases h with rfl|⟨b,c,rfl⟩
  ·simp[qp]
  ·exact Hi _ w b c
 | .one w,a,h=>by
  simp only[lq,au,bc]at h;rcases h with rfl|⟨b,c,rfl⟩
  ·simp[qp]
  ·have:=Hi _ w b c;have:=BX _ w b c;simp only[qp];omega
theorem Hi(a:Bool):∀(w b:Ws),b∈vO a w->ur b<=ur w
 |.nil,b,h=>by simp[vO]at h
 | .cons w r,b,h=>by
  simp only[vO,aD,bc]at h;rcases h with (⟨x,c,rfl⟩|h)|⟨x,c,rfl⟩
  ·have:=K_ w x c;simp only[ur];omega
  ·split at h
   ·simp only[bR]at h;subst h;simp only[ur];omega
   ·simp at h
  ·have:=Hi a r x c;simp only[ur];omega
theorem La:∀(s a:Ss),a∈lN s->m6 a<=m6 s
 |.nil,a,h=>by simp[lN]at h
 | .cons b d w r,a,h=>by
  simp only[lN,aD,bc]at h;rcases h with⟨x,c,rfl⟩|⟨x,c,rfl⟩
  ·have:=K_ w x c;simp only[m6];omega
  ·have:=La r x c;simp only[m6];omega
end
end K30
namespace K21
open PySem L2 K30
theorem xC:∀w:Ws,(iW w).length=kN w
 |.nil=>rfl|.cons _ r=>by rw[iW,aK,xC r];rfl
def u6{f:DF}{a b:Nat}(h:f c=Y (.int (a:Nat)))(k:g c=Y (.int (b:Nat))):e2 d8 f g c=Y (.int ((a+b:Nat):Int)):=by
 unfold e2;rw[h,k];show Y (D.int ((a:Int)+(b:Int)))=_
 congr 2
def lu{x:String}{a:bY}(h:eV 0 a=Y (.tup (kS x::r))):cT (e2 gj (e2 b9 (eV 0) f8) (eK (kS k))) a=cT (λ_=>gj (kS x) (kS k)) []:=by
 have e:e2 b9 (eV 0) f8 a=Y (kS x):=by unfold e2;rw[h];show p_ (kS x::r) ((0:Nat):Int)=_;exact eT (j:=0) rfl
 unfold cT e2 at *
 rw[e];rfl
def wu{x:String}(h:eV 0 a=Y (.tup (kS x::r))):cT (e2 (Ny Z_) (e2 b9 (eV 0) f8) ca) a=cT (λ_=>Ny Z_ (kS x) (.tup [kS "both",kS "one"])) []:=by
 have e:e2 b9 (eV 0) f8 a=Y (kS x):=by unfold e2;rw[h];show p_ (kS x::r) ((0:Nat):Int)=_;exact eT (j:=0) rfl
 unfold cT e2 at *
 rw[e];rfl
def zF{x y:D}{r:List D}{ρ:bY}(h:eV 0 ρ=Y (.tup (x::y::r))):e2 b9 (eV 0) v6 ρ=Y y:=by
 unfold e2;rw[h];show p_ (x::y::r) ((1:Nat):Int)=_;exact eT (j:=1) rfl
mutual
theorem yb:∀(w:Wi) (m:Nat),je w<=m->cY m [cq w]=Y (.int (qp w:Nat))
 |.any,0,h=>by simp[je]at h
 |.any,m+1,h=>by show (gD (fY m) (cY m) [Y (.tup [kS "any"]),M,M]).bind iY=_;unfold gD;rw[aB (ρ':=[Y (.tup [kS "any"]),M,M]) (by rw[dh ((lu rfl).trans (by kernel_rfl))];rfl),aB (dr (d :=.int 0) rfl)];simp only[aY,aZ];rw[aB (ρ':=[Y (.tup [kS "any"]),Y (.int 0),M]) (by rw[dh ((wu rfl).trans (by kernel_rfl))];rfl)];rfl
 |.txt t,0,h=>by simp[je]at h
 |.txt t,m+1,h=>by show (gD (fY m) (cY m) [Y (.tup [kS "text",.str t]),M,M]).bind iY=_;unfold gD;rw[aB (ρ':=[Y (.tup [kS "text",.str t]),M,M]) (by rw[dh ((lu rfl).trans (by kernel_rfl))];rfl),aB (dr (d :=.int 0) rfl)];simp only[aY,aZ];rw[aB (ρ':=[Y (.tup [kS "text",.str t]),Y (.int 0),M]) (by rw[dh ((wu rfl).trans (by kernel_rfl))];rfl)];rfl
 |.has s,0,h=>by simp[je]at h
 |.has s,m+1,h=>by have ih:=BG s m (by simp only[je]at h;omega);show (gD (fY m) (cY m) [Y (.tup [kS "has",.lst (dR s)]),M,M]).bind iY=_;unfold gD;rw[Bw (d :=.int (qp (.has s):Nat)) ((lu rfl).trans (by kernel_rfl)) (by rw[oW (zF rfl)];exact ih)];rfl
 |.both w,0,h=>by simp[je]at h
 | .both w,m+1,h=>by
  obtain⟨x,ih⟩:=BF w m (by simp only[je]at h;omega) (Y (.tup [kS "both",.lst (iW w)])) 0 M;show (gD (fY m) (cY m) [Y (.tup [kS "both",.lst (iW w)]),M,M]).bind iY=_;unfold gD;rw[aB (ρ':=[Y (.tup [kS "both",.lst (iW w)]),M,M]) (by rw[dh ((lu rfl).trans (by kernel_rfl))];rfl),aB (dr (d :=.int ((0:Nat):Int)) rfl)];simp only[aY,aZ];rw[aB (ρ':=[Y (.tup [kS "both",.lst (iW w)]),Y (.int (0+ur w:Nat)),x]) ?_]
  ·rw[ml];rfl
  ·rw[iT ((wu rfl).trans (by kernel_rfl))];rw[aB (ρ':=[Y (.tup [kS "both",.lst (iW w)]),Y (.int ((0:Nat):Int)),M]) (by rw[dh ((lu rfl).trans (by kernel_rfl))];rfl)];exact(gB (c:=iW w) (by unfold iL;rw[zF rfl];rfl)).trans ih
 |.one w,0,h=>by simp[je]at h
 | .one w,m+1,h=>by
  obtain⟨x,ih⟩:=BF w m (by simp only[je]at h;omega) (Y (.tup [kS "one",.lst (iW w)])) (100+kN w) M;show (gD (fY m) (cY m) [Y (.tup [kS "one",.lst (iW w)]),M,M]).bind iY=_;unfold gD;rw[aB (ρ':=[Y (.tup [kS "one",.lst (iW w)]),M,M]) (by rw[dh ((lu rfl).trans (by kernel_rfl))];rfl),aB (dr (d :=.int ((0:Nat):Int)) rfl)];simp only[aY,aZ];rw[aB (ρ':=[Y (.tup [kS "one",.lst (iW w)]),Y (.int (100+kN w+ur w:Nat)),x]) ?_]
  ·rfl
  ·rw[iT ((wu rfl).trans (by kernel_rfl))];rw[aB (ρ':=[Y (.tup [kS "one",.lst (iW w)]),Y (.int ((100+kN w:Nat):Int)),M]) ?_]
   ·exact(gB (c:=iW w) (by unfold iL;rw[zF rfl];rfl)).trans ih
   ·rw[iT ((lu rfl).trans (by kernel_rfl))];rw[dr (u6 (a:=100) (b:=kN w) rfl (by rw[oW (zF rfl),<- xC];rfl))];rfl
theorem BF:∀(w:Ws) (m:Nat),wA w<=m->∀(a:Option D) (k:Nat) (y:Option D),∃x,eS (gN 2) (nH (fY m) (cY m)) (iW w) [a,Y (.int (k:Nat)),y]=Y (.nx [a,Y (.int (k+ur w:Nat)),x])
 |.nil,m,_,a,k,y=>⟨y,rfl⟩| .cons w r,m,h,a,k,y=>by
  simp only[wA]at h;have i1:=yb w m ž;obtain⟨x,i2⟩:=BF r m ž a (k+qp w) (Y (cq w));refine⟨x,?_⟩;have g:nH (fY m) (cY m) [a,Y (.int (k:Nat)),Y (cq w)]=Y (.nx [a,Y (.int (k+qp w:Nat)),Y (cq w)]):=by unfold nH;rw[dr (u6 (a:=k) (b:=qp w) rfl (by rw[oW (d:=cq w) rfl];exact i1))];rfl
  rw[iW,eH (ρ1:=[a,Y (.int (k:Nat)),Y (cq w)]) rfl g,i2,ur,Nat.add_assoc]
theorem Hh:∀(s:Ss) (m:Nat),n_ s<=m+1->∀(a:Option D) (k:Nat) (y z u:Option D),∃y' z' u',eS (D2 2 3 4) (u5 (fY m) (cY m)) (dR s) [a,Y (.int (k:Nat)),y,z,u]=Y (.nx [a,Y (.int (k+m6 s:Nat)),y',z',u'])
 |.nil,m,_,a,k,y,z,u=>⟨y,z,u,rfl⟩| .cons b nm w r,m,h,a,k,y,z,u=>by
  simp only[n_]at h;have i1:=yb w m ž;obtain⟨y',z',u',i2⟩:=Hh r m ž a (k+qp w) (Y (.str (eC b))) (Y (.str (cL nm))) (Y (cq w));refine⟨y',z',u',?_⟩;have g:u5 (fY m) (cY m) [a,Y (.int (k:Nat)),Y (.str (eC b)),Y (.str (cL nm)),Y (cq w)]=Y (.nx [a,Y (.int (k+qp w:Nat)),Y (.str (eC b)),Y (.str (cL nm)),Y (cq w)]):=by unfold u5;rw[dr (u6 (a:=k) (b:=qp w) rfl (by rw[oW (d:=cq w) rfl];exact i1))];rfl
  rw[dR,eH (ρ1:=[a,Y (.int (k:Nat)),Y (.str (eC b)),Y (.str (cL nm)),Y (cq w)]) rfl g,i2,m6,Nat.add_assoc]
theorem BG:∀(s:Ss) (m:Nat),n_ s<=m->fY m [.lst (dR s)]=Y (.int (m6 s:Nat))
 |s,0,h=>by have:=pP s;omega
 |s,m+1,h=>by obtain⟨x,y,z,e⟩:=Hh s m h (Y (.lst (dR s))) 0 M M M;show (B9 (fY m) (cY m) [Y (.lst (dR s)),M,M,M,M]).bind iY=_;unfold B9;rw[aB (dr (d :=.int ((0:Nat):Int)) rfl)];simp only[aY,aZ];rw[aB ((gB (c:=dR s) rfl).trans e),ml];rfl
end
mutual
theorem BU:∀w:Wi,(lq w).length+1<=2*jW w
 |.any=>by simp[lq,jW]
 |.txt _=>by simp[lq,jW]
 |.has s=>by have:=BV s;simp only[lq,jW,aK,aP,bj];split<;>simp<;>omega
 |.both w=>by have:=FX (decide (1<kN w)) w;simp only[lq,jW,aK,bj];omega
 |.one w=>by have:=FX (decide (1<kN w)) w;simp only[lq,jW,aK,bj];omega
theorem FX(a:Bool):∀w:Ws,(vO a w).length<=2*qo w
 |.nil=>by simp[vO]
 |.cons w r=>by have:=BU w;have:=FX a r;simp only[vO,qo,aP,bj];cases a<;>simp<;>omega
theorem BV:∀s:Ss,(lN s).length+3*m7 s<=2*oB s
 |.nil=>by simp[lN,m7]
 |.cons b a w r=>by have:=BU w;have:=BV r;simp only[lN,oB,m7,aP,bj];omega
end
def Dg(k n:Nat):fG (k:Nat) (n+1)=.int (k:Nat)::fG ((k+1:Nat):Int) n:=by
 unfold fG;rw[mn,aW,iu];simp only[cB]
 congr 1
 apply Uv;intro x _
 congr 1
 simp only[Uu];omega
def y0{f:DF}{a:bY}{l:List D}(h:eV i a=Y (.lst l))(k:f a=Y d)(b:l.length<dA):vH i f a=Y (.nx (a.set i (Y (.lst (l++[d]))))):=by
 unfold vH eX;rw[h];simp only[ae,k];rw[if_pos b]
def M6{f g:DF}{ρ:bY}{a b:List D}(h:f ρ=Y (.lst a))(k:g ρ=Y (.lst b))(l:a.length+b.length<=dA):e2 d8 f g ρ=Y (.lst (a++b)):=by
 unfold e2;rw[h,k];simp only[ae,d8];rw[if_pos l]
def A'{f:DF}{b:bY}{a:List D}{k:Nat}(h:f b=Y (.lst a))(i:g b=Y (.int (k:Nat))):eF (wM f pN (pS g)) b=Y (.lst (a.take k)):=by
 unfold eF wM pS pN;rw[h,i];simp only[ae,bP];rw[MR _ (by omega)];rfl
def yW{f:DF}{b:bY}{a:List D}{k:Nat}(h:f b=Y (.lst a))(i:g b=Y (.int (k:Nat))):eF (wM f (pS g) pN) b=Y (.lst (a.drop k)):=by
 unfold eF wM pS pN;rw[h,i];simp only[ae,bP];rw[yV _ (by omega)];rfl
def BW{f:DF}{a:List D}(h:f c=Y (.lst a))(b:a.length<=2000):wL (a_ ik (aC f aN)) c=Y (fG ((0:Nat):Int) a.length):=by
 have g:a_ ik (aC f aN) c=Y (.int (a.length:Nat)):=by rw[oW h];rfl
 have d:((a.length:Nat):Int)<=2000:=by omega
 have e:(0:Int)<=((a.length:Nat):Int):=by omega
 rw[B5 g ⟨mq (by decide) e,gX d (by decide)⟩,cN];rfl
theorem Ho{x:String}{A:List D->Option (List D)}{B:List D->Option (List D)}{P R:List D}{l:List D}{s2 a3:Option D}(d:P.length+R.length+1<=2000):∀(L:List Wi) (a:List D) (c:Option D),a.length+L.length<=4000->∃b,eS (gN 6) (nJ A B) (L.map cq) [Y (.tup [kS x,.lst l]),Y (.lst a),s2,a3,Y (.lst P),Y (.lst R),c]=Y (.nx [Y (.tup [kS x,.lst l]),Y (.lst (a++L.map λw =>.tup [kS x,.lst (P++cq w::R)])),s2,a3,Y (.lst P),Y (.lst R),b])
 |[],a,c,_=>⟨c,by simp[eS]⟩
 | w::L,a,c,h=>by
  simp only[aK]at h;obtain⟨b,ih⟩:=Ho (x:=x) (A:=A) (B:=B) (P:=P) (R:=R) (s2:=s2) (a3:=a3) (l:=l) d L (a++[.tup [kS x,.lst (P++cq w::R)]]) (Y (cq w)) (by simp;omega);refine⟨b,?_⟩;have e:e2 d8 (e2 d8 (eV 4) (eF (f9 (aC (eV 6) aN)))) (eV 5) [Y (.tup [kS x,.lst l]),Y (.lst a),s2,a3,Y (.lst P),Y (.lst R),Y (cq w)]=Y (.lst (P++cq w::R)):=by have:=M6 (f:=e2 d8 (eV 4) (eF (f9 (aC (eV 6) aN)))) (g:=eV 5) (ρ:=[Y (.tup [kS x,.lst l]),Y (.lst a),s2,a3,Y (.lst P),Y (.lst R),Y (cq w)]) (a:=P++[cq w]) (b:=R) (M6 rfl rfl (a7 (show _<=2000 by simp;omega) ſ)) rfl (a7 (show _<=2000 by simp;omega) ſ);rw[this];simp
  have g:nJ A B [Y (.tup [kS x,.lst l]),Y (.lst a),s2,a3,Y (.lst P),Y (.lst R),Y (cq w)]=Y (.nx [Y (.tup [kS x,.lst l]),Y (.lst (a++[.tup [kS x,.lst (P++cq w::R)]])),s2,a3,Y (.lst P),Y (.lst R),Y (cq w)]):=by unfold nJ;rw[y0 rfl (C0 (x:=kS x) rfl e) (qz (show a.length<=4000 by omega) (bq (by decide) Cw))];rfl
  rw[aW,eH (ρ1:=[Y (.tup [kS x,.lst l]),Y (.lst a),s2,a3,Y (.lst P),Y (.lst R),Y (cq w)]) rfl g,ih];simp
abbrev eQ(s:Ss):D :=.lst (dR s)
def PL(h:n<=4000):n<dA:=qz h (bq ſ Cw)
def LJ{bg:Bool}{x:String}{A B:List D->Option (List D)}{P R fd:List D}{s2 a4 a5 a6:Option D}(h:B [cq w]=Y ((lq w).map cq))(m:P.length+R.length+1<=2000)(s:fd.length+(lq w).length+1<=4000)(i:decide (1<(P++cq w::R).length)=bg):∃c,nI A B [Y (.tup [kS x,.lst (P++cq w::R)]),Y (.lst fd),s2,Y (.int (P.length:Nat)),a4,a5,a6]=Y (.nx [Y (.tup [kS x,.lst (P++cq w::R)]),Y (.lst ((fd++(lq w).map λq =>.tup [kS x,.lst (P++cq q::R)])++if bg=Z' then [.tup [kS x,.lst (P++R)]] else [])),s2,Y (.int (P.length:Nat)),Y (.lst P),Y (.lst R),c]):=by
 unfold nI;have p:eF (wM (e2 b9 (eV 0) v6) pN (pS (eV 3))) [Y (.tup [kS x,.lst (P++cq w::R)]),Y (.lst fd),s2,Y (.int (P.length:Nat)),a4,a5,a6]=Y (.lst P):=by rw[A' (zF rfl) rfl];simp
 rw[aB (dr p)];simp only[aY,aZ];have o:eF (wM (e2 b9 (eV 0) v6) (pS (e2 d8 (eV 3) v6)) pN) [Y (.tup [kS x,.lst (P++cq w::R)]),Y (.lst fd),s2,Y (.int (P.length:Nat)),Y (.lst P),a5,a6]=Y (.lst R):=by rw[yW (k:=P.length+1) (zF rfl) (u6 (b:=1) rfl rfl)];simp
 rw[aB (dr o)];simp only[aY,aZ];obtain⟨c,n⟩:=Ho (x:=x) (A:=A) (B:=B) (P:=P) (R:=R) (l:=P++cq w::R) (s2:=s2) (a3:=Y (.int (P.length:Nat))) m (lq w) fd a6 ž;have j:iL (eF (kR B (aC (e2 b9 (e2 b9 (eV 0) v6) (eV 3)) aN))) [Y (.tup [kS x,.lst (P++cq w::R)]),Y (.lst fd),s2,Y (.int (P.length:Nat)),Y (.lst P),Y (.lst R),a6]=Y ((lq w).map cq):=by
  have l:e2 b9 (e2 b9 (eV 0) v6) (eV 3) [Y (.tup [kS x,.lst (P++cq w::R)]),Y (.lst fd),s2,Y (.int (P.length:Nat)),Y (.lst P),Y (.lst R),a6]=Y (cq w):=by have:=zF (ρ:=[Y (.tup [kS x,.lst (P++cq w::R)]),Y (.lst fd),s2,Y (.int (P.length:Nat)),Y (.lst P),Y (.lst R),a6]) (x:=kS x) (y :=.lst (P++cq w::R)) (r:=[]) rfl;rw[show ∀(f g:DF) (d:bY),e2 b9 f g d=(f d).bind λa=>(g d).bind λb=>b9 a b from λ_ _ _=>rfl,this];show p_ (P++cq w::R) ((P.length:Nat):Int)=_;exact eT (j:=P.length) Ž
  have k:kR B (aC (e2 b9 (e2 b9 (eV 0) v6) (eV 3)) aN) [Y (.tup [kS x,.lst (P++cq w::R)]),Y (.lst fd),s2,Y (.int (P.length:Nat)),Y (.lst P),Y (.lst R),a6]=Y ((lq w).map cq):=by unfold kR aC;rw[l];exact h
  unfold iL eF;rw[k];rfl
 rw[aB ((gB j).trans n)];refine⟨c,?_⟩;have e:cT (e2 AB (a_ ik (aC (e2 b9 (eV 0) v6) aN)) v6) [Y (.tup [kS x,.lst (P++cq w::R)]),Y (.lst (fd++(lq w).map λq =>.tup [kS x,.lst (P++cq q::R)])),s2,Y (.int (P.length:Nat)),Y (.lst P),Y (.lst R),c]=Y (decide (1<(P++cq w::R).length)):=by
  have r:=oW (G:=ik) (zF (ρ:=[Y (.tup [kS x,.lst (P++cq w::R)]),Y (.lst (fd++(lq w).map λq =>.tup [kS x,.lst (P++cq q::R)])),s2,Y (.int (P.length:Nat)),Y (.lst P),Y (.lst R),c]) (x:=kS x) (y :=.lst (P++cq w::R)) (r:=[]) rfl);unfold cT;rw[show ∀(f g:DF) (d:bY),e2 AB f g d=(f d).bind λa=>(g d).bind λb=>AB a b from λ_ _ _=>rfl,r];show Y (decide ((1:Int)<(((P++cq w::R).length:Nat):Int)))=_
  congr 1
  rw[decide_eq_decide];omega
 rw[i]at e;clear i;cases bg with
 |true=>rw[iT e,y0 rfl (C0 (x:=kS x) rfl (M6 (a:=P) (b:=R) rfl rfl (a7 (show _<=2000 by omega) (by decide)))) (PL (by simp;omega))];rfl
 |false=>rw[dh e];simp;rfl
theorem FZ{bg:Bool}{x:String}{A B:List D->Option (List D)}{n:Nat}{s2:Option D}:∀(r:Ws) (P a:List D) (e d c b:Option D),(∀w,je w<=n->jW w<=900->B [cq w]=Y ((lq w).map cq))->wA r<=n->qo r<=900->P.length+kN r<=1000->a.length+2*qo r<=3900->decide (1<(P++iW r).length)=bg->∃i h g f,eS (gN 3) (nI A B) (fG ((P.length:Nat):Int) (kN r)) [Y (.tup [kS x,.lst (P++iW r)]),Y (.lst a),s2,e,d,c,b]=Y (.nx [Y (.tup [kS x,.lst (P++iW r)]),Y (.lst (a++(vO bg r).map λq =>.tup [kS x,.lst (P++iW q)])),s2,i,h,g,f])
 |.nil,P,a,e,d,c,b,_,_,_,_,_,_=>⟨e,d,c,b,by simp[kN,fG,eS,vO]⟩
 | .cons w r,P,a,e,d,c,b,l,u,p,v,t,k=>by
  simp only[wA]at u;simp only[qo]at p t;simp only[kN]at v;have y:=BU w;have s:(iW r).length=kN r:=xC r;obtain⟨j,o⟩:=LJ (x:=x) (A:=A) (s2:=s2) (a4:=d) (a5:=c) (a6:=b) (P:=P) (R:=iW r) (fd:=a) (l w ž ž) ž ž k;have m:P++[cq w]++iW r=P++iW (.cons w r):=by simp[iW]
  obtain⟨i,h,g,f,ih⟩:=FZ (bg:=bg) (x:=x) (A:=A) (B:=B) (n:=n) (s2:=s2) r (P++[cq w]) ((a++(lq w).map λq =>.tup [kS x,.lst (P++cq q::iW r)])++if bg=Z' then [.tup [kS x,.lst (P++iW r)]] else []) (Y (.int (P.length:Nat))) (Y (.lst P)) (Y (.lst (iW r))) j l ž ž (by simp;omega) (by simp only[aP,bj];split<;>simp<;>omega) (by rw[m];exact k)
  refine⟨i,h,g,f,?_⟩;rw[kN,Dg,eH (ρ1:=[Y (.tup [kS x,.lst (P++iW (.cons w r))]),Y (.lst a),s2,Y (.int (P.length:Nat)),d,c,b]) rfl o];rw[m,show ((P++[cq w]).length:Nat)=P.length+1 by simp]at ih;refine ih.trans ?_;simp only[vO,gy,iu,cB,bH,iW];cases bg<;>simp
theorem Hs{A B:List D->Option (List D)}{P R:List D}{a b:aG}{x s5:D}(i:P.length+R.length+1<=2000):∀(L:List Wi) (c:List D) (e:Option D),c.length+L.length<=4000->∃d,eS (gN 6) (nL A B) (L.map cq) [Y (.lst (P++x::R)),Y (.lst c),Y (.int (P.length:Nat)),Y (.str a),Y (.str b),Y s5,e]=Y (.nx [Y (.lst (P++x::R)),Y (.lst (c++L.map λw =>.lst (P++mv a b (cq w)::R))),Y (.int (P.length:Nat)),Y (.str a),Y (.str b),Y s5,d])
 |[],c,e,_=>⟨e,by simp[eS]⟩
 | w::L,c,e,h=>by
  simp only[aK]at h;obtain⟨d,ih⟩:=Hs (A:=A) (B:=B) (P:=P) (R:=R) (a:=a) (b:=b) (x:=x) (s5:=s5) i L (c++[.lst (P++mv a b (cq w)::R)]) (Y (cq w)) (by simp;omega);refine⟨d,?_⟩;have k:eF (wM (eV 0) pN (pS (eV 2))) [Y (.lst (P++x::R)),Y (.lst c),Y (.int (P.length:Nat)),Y (.str a),Y (.str b),Y s5,Y (cq w)]=Y (.lst P):=by rw[A' (a:=P++x::R) (k:=P.length) rfl rfl];simp
  have f:eF (wM (eV 0) (pS (e2 d8 (eV 2) v6)) pN) [Y (.lst (P++x::R)),Y (.lst c),Y (.int (P.length:Nat)),Y (.str a),Y (.str b),Y s5,Y (cq w)]=Y (.lst R):=by rw[yW (a:=P++x::R) (k:=P.length+1) rfl (u6 (b:=1) rfl rfl)];simp
  have j:=M6 (M6 k (show eF im [Y (.lst (P++x::R)),Y (.lst c),Y (.int (P.length:Nat)),Y (.str a),Y (.str b),Y s5,Y (cq w)]=Y (.lst [mv a b (cq w)]) from rfl) (a7 (show _<=2000 by simp;omega) ſ)) f (a7 (show _<=2000 by simp;omega) ſ);have g:nL A B [Y (.lst (P++x::R)),Y (.lst c),Y (.int (P.length:Nat)),Y (.str a),Y (.str b),Y s5,Y (cq w)]=Y (.nx [Y (.lst (P++x::R)),Y (.lst (c++[.lst (P++mv a b (cq w)::R)])),Y (.int (P.length:Nat)),Y (.str a),Y (.str b),Y s5,Y (cq w)]):=by unfold nL;rw[y0 rfl j (PL (by omega))];simp
  rw[aW,eH (ρ1:=[Y (.lst (P++x::R)),Y (.lst c),Y (.int (P.length:Nat)),Y (.str a),Y (.str b),Y s5,Y (cq w)]) rfl g,ih];simp
def LM{A B:List D->Option (List D)}{a b:aG}{P R fd:List D}{a3 a4 a5 a6:Option D}(h:B [cq w]=Y ((lq w).map cq))(f:P.length+R.length+1<=2000)(g:fd.length+(lq w).length<=4000):∃c,nK A B [Y (.lst (P++mv a b (cq w)::R)),Y (.lst fd),Y (.int (P.length:Nat)),a3,a4,a5,a6]=Y (.nx [Y (.lst (P++mv a b (cq w)::R)),Y (.lst (fd++(lq w).map λq =>.lst (P++mv a b (cq q)::R))),Y (.int (P.length:Nat)),Y (.str a),Y (.str b),Y (cq w),c]):=by
 unfold nK;have j:e2 b9 (eV 0) (eV 2) [Y (.lst (P++mv a b (cq w)::R)),Y (.lst fd),Y (.int (P.length:Nat)),a3,a4,a5,a6]=Y (mv a b (cq w)):=by show p_ (P++mv a b (cq w)::R) ((P.length:Nat):Int)=_;exact eT (j:=P.length) Ž
 have e:KC (D2 3 4 5) (e2 b9 (eV 0) (eV 2)) [Y (.lst (P++mv a b (cq w)::R)),Y (.lst fd),Y (.int (P.length:Nat)),a3,a4,a5,a6]=Y (.nx [Y (.lst (P++mv a b (cq w)::R)),Y (.lst fd),Y (.int (P.length:Nat)),Y (.str a),Y (.str b),Y (cq w),a6]):=by unfold KC;rw[j];rfl
 rw[aB e];obtain⟨c,i⟩:=Hs (A:=A) (B:=B) (P:=P) (R:=R) (a:=a) (b:=b) (x:=mv a b (cq w)) (s5:=cq w) f (lq w) fd a6 g;refine⟨c,(gB ?_).trans i⟩;have:∀G:List D->Option (List D),iL (eF (kR G (aC (eV 5) aN))) [Y (.lst (P++mv a b (cq w)::R)),Y (.lst fd),Y (.int (P.length:Nat)),Y (.str a),Y (.str b),Y (cq w),a6]=((G [cq w]).map D.lst).bind λd=>match d with|.lst a=>Y a|_=>none:=λG=>rfl
 rw[this,h];rfl
theorem LN{A B:List D->Option (List D)}{n:Nat}:∀(r:Ss) (P c:List D) (h g f e d:Option D),(∀w,je w<=n->jW w<=900->B [cq w]=Y ((lq w).map cq))->n_ r<=n+1->oB r<=900->P.length+m7 r<=1000->c.length+2*oB r<=3900->∃m l k j i,eS (gN 2) (nK A B) (fG ((P.length:Nat):Int) (m7 r)) [Y (.lst (P++dR r)),Y (.lst c),h,g,f,e,d]=Y (.nx [Y (.lst (P++dR r)),Y (.lst (c++(lN r).map λq =>.lst (P++dR q))),m,l,k,j,i])
 |.nil,P,c,h,g,f,e,d,_,_,_,_,_=>⟨h,g,f,e,d,by simp[m7,fG,eS,lN]⟩
 | .cons b a w r,P,c,h,g,f,e,d,p,y,u,z,x=>by
  simp only[n_]at y;simp only[oB]at u x;simp only[m7]at z;have E:=BU w;have v:(dR r).length=m7 r:=by
   have:∀s:Ss,fP s=m7 s:=by
    intro s
    induction s using Ss.rec (motive_1:=λ_=>True) (motive_2:=λ_=>True)<;>first|trivial|rfl|(simp only[fP,m7];omega)
   rw[vC,this]
  obtain⟨o,t⟩:=LM (A:=A) (a:=eC b) (b:=cL a) (a3:=g) (a4:=f) (a5:=e) (a6:=d) (P:=P) (R:=dR r) (fd:=c) (p w ž ž) ž ž;have C:P++[mv (eC b) (cL a) (cq w)]++dR r=P++dR (.cons b a w r):=by simp[dR]
  obtain⟨m,l,k,j,i,ih⟩:=LN (A:=A) (B:=B) (n:=n) r (P++[mv (eC b) (cL a) (cq w)]) (c++(lq w).map λq =>.lst (P++mv (eC b) (cL a) (cq q)::dR r)) (Y (.int (P.length:Nat))) (Y (.str (eC b))) (Y (.str (cL a))) (Y (cq w)) o p ž ž (by simp;omega) (by simp;omega);refine⟨m,l,k,j,i,?_⟩;rw[m7,Dg,eH (ρ1:=[Y (.lst (P++dR (.cons b a w r))),Y (.lst c),Y (.int (P.length:Nat)),g,f,e,d]) rfl t];rw[C,show ((P++[mv (eC b) (cL a) (cq w)]).length:Nat)=P.length+1 by simp]at ih;refine ih.trans ?_;simp only[lN,gy,iu,cB,bH,dR];simp
theorem Hr:∀s:Ss,(dR s).length=m7 s
 |.nil=>rfl|.cons _ _ _ r=>by rw[dR,aK,Hr r];rfl
theorem QD:∀s:Ss,m7 s<=oB s
 |.nil=>by simp[m7]
 |.cons _ _ w r=>by have:=QD r;simp only[m7,oB];omega
theorem L_:∀s:Ss,dR (iR s)=(dR s).dropLast
 |.nil=>rfl|.cons _ _ _ .nil=>rfl|.cons b e w (.cons d a c r)=>by have:=L_ (.cons d a c r);rw[iR,dR,this];simp[dR]
theorem DN{A B:List D->Option (List D)}{x r3 r4 r5 r6:Option D}:∀(L:List Ss) (a:List D) (b:Option D),a.length+L.length<=4000->∃c,eS (gN 2) (ly A B) (L.map eQ) [x,Y (.lst a),b,r3,r4,r5,r6]=Y (.nx [x,Y (.lst (a++L.map λs=>cq (.has s))),c,r3,r4,r5,r6])
 |[],a,b,_=>⟨b,by simp[eS]⟩
 | s::L,a,b,h=>by
  simp only[aK]at h;obtain⟨c,ih⟩:=DN (A:=A) (B:=B) (x:=x) (r3:=r3) (r4:=r4) (r5:=r5) (r6:=r6) L (a++[cq (.has s)]) (Y (eQ s)) (by simp;omega);refine⟨c,?_⟩;have g:ly A B [x,Y (.lst a),Y (eQ s),r3,r4,r5,r6]=Y (.nx [x,Y (.lst (a++[cq (.has s)])),Y (eQ s),r3,r4,r5,r6]):=by unfold ly;rw[y0 rfl (C0 rfl rfl) (PL (by omega))];rfl
  rw[aW,eH (ρ1:=[x,Y (.lst a),Y (eQ s),r3,r4,r5,r6]) rfl g,ih];simp
def Dh(h:eV 1 a=Y (.lst l)):(ui 1 a).bind K5=Y l:=by unfold ui;rw[h];rfl
theorem Ht:∀m,(∀w,je w<=m->jW w<=900->e8 m [cq w]=Y ((lq w).map cq))/\∀s,n_ s<=m->oB s<=900->e_ m [eQ s]=Y ((lN s).map eQ)
 |0=>⟨λw h=>by cases w<;>simp[je]at h<;>omega,λs h=>by have:=pP s;omega⟩
 | m+1=>by
  obtain⟨X0,ihS⟩:=Ht m;refine⟨λw h z =>?_,λs h z =>?_⟩
  ·show (rL (e_ m) (e8 m) [Y (cq w),M,M,M,M,M,M]).bind K5=_;generalize e_ m=A at *
   generalize e8 m=B at *
   unfold rL;cases w with
   |any=>
    have:bp (ie (cT (e2 gj (e2 b9 (eV 0) f8) pc)) (wm bd) dG) (bp (kP 1 (f9 (aC (dN (aC pc aN)) aN))) dG) [Y (.tup [kS "any"]),M,M,M,M,M,M]=Y (.ro []):=by unfold bp;rw[iT ((lu rfl).trans (by kernel_rfl))];rfl
    unfold bp;rw[iT ((lu (x:= "any") rfl).trans (by kernel_rfl))];rfl
   |txt t=>rw[aB (ρ':=[Y (cq (.txt t)),M,M,M,M,M,M]) (by rw[dh ((lu (x:= "text") rfl).trans (by kernel_rfl))];rfl)];rw[aB (ρ':=[Y (cq (.txt t)),Y (.lst [cq .any]),M,M,M,M,M]) rfl];rw[aB (ρ':=[Y (cq (.txt t)),Y (.lst [cq .any]),M,M,M,M,M]) (by rw[dh ((lu (x:= "text") rfl).trans (by kernel_rfl))];rfl)];rw[aB (ρ':=[Y (cq (.txt t)),Y (.lst [cq .any]),M,M,M,M,M]) (by rw[dh ((wu (x:= "text") rfl).trans (by kernel_rfl))];rfl)];rw[Dh rfl];rfl
   |has s=>
    simp only[je]at h;simp only[jW]at z;have ih:=ihS s ž ž;have lz:=BV s;rw[aB (ρ':=[Y (cq (.has s)),M,M,M,M,M,M]) (by rw[dh ((lu (x:= "has") rfl).trans (by kernel_rfl))];rfl)];rw[aB (ρ':=[Y (cq (.has s)),Y (.lst [cq .any]),M,M,M,M,M]) rfl];obtain⟨b2,fo⟩:=DN (A:=A) (B:=B) (x:=Y (cq (.has s))) (r3:=M) (r4:=M) (r5:=M) (r6:=M) (lN s) [cq .any] M (by simp;omega);have it:iL (eF (kR A (aC (e2 b9 (eV 0) v6) aN))) [Y (cq (.has s)),Y (.lst [cq .any]),M,M,M,M,M]=Y ((lN s).map eQ):=by
     have:∀G:List D->Option (List D),iL (eF (kR G (aC (e2 b9 (eV 0) v6) aN))) [Y (cq (.has s)),Y (.lst [cq .any]),M,M,M,M,M]=((G [eQ s]).map D.lst).bind λd=>match d with|.lst a=>Y a|_=>none:=λG=>rfl
     rw[this,ih];rfl
    have t1:cT (e2 AB (a_ ik (aC (e2 b9 (eV 0) v6) aN)) v6) [Y (cq (.has s)),Y (.lst ([cq .any]++(lN s).map λs=>cq (.has s))),b2,M,M,M,M]=Y (decide (1<m7 s)):=by
     have:cT (e2 AB (a_ ik (aC (e2 b9 (eV 0) v6) aN)) v6) [Y (cq (.has s)),Y (.lst ([cq .any]++(lN s).map λs=>cq (.has s))),b2,M,M,M,M]=Y (decide ((1:Int)<(((dR s).length:Nat):Int))):=rfl;rw[this,Hr]
     congr 1
     rw[decide_eq_decide];omega
    have q:∃ρ',(bp (iX (iL (eF (kR A (aC (e2 b9 (eV 0) v6) aN)))) (gN 2) (ly A B)) (ie (cT (e2 AB (a_ ik (aC (e2 b9 (eV 0) v6) aN)) v6)) (vH 1 am) dG)) [Y (cq (.has s)),Y (.lst [cq .any]),M,M,M,M,M]=Y (.nx ρ')/\ρ'=[Y (cq (.has s)),Y (.lst ((lq (.has s)).map cq)),b2,M,M,M,M]:=by
     rw[aB ((gB it).trans fo)];by_cases hb:1<m7 s
     ·rw[decide_eq_true hb]at t1;rw[iT t1];have e1:eF (wM (e2 b9 (eV 0) v6) pN (pS (e1 Jo v6))) [Y (cq (.has s)),Y (.lst ([cq .any]++(lN s).map λs=>cq (.has s))),b2,M,M,M,M]=Y (.lst (dR (iR s))):=by
       have:eF (wM (e2 b9 (eV 0) v6) pN (pS (e1 Jo v6))) [Y (cq (.has s)),Y (.lst ([cq .any]++(lN s).map λs=>cq (.has s))),b2,M,M,M,M]=Y (.lst (zo (dR s) M (Y (-1)))):=rfl;rw[this,L_]
       congr 2
       have hl:=Hr s;unfold zo;rw[HT.KA,Nat.sub_zero,qA,wd]
       congr 1
       unfold HT.ke;simp only;rw[if_pos (by decide)];omega
      refine⟨_,y0 rfl (C0 (x:=kS "has") rfl e1) (PL (by simp;omega)),?_⟩;simp only[lq,if_pos hb,aW,gy,iu,cB];simp[cq]
     ·rw[decide_eq_false hb]at t1;rw[dh t1];refine⟨_,rfl,?_⟩;simp only[lq,if_neg hb,aW,gy,iu,cB];simp
    obtain⟨ρ',q,e⟩:=q;subst e;rw[aB (by rw[iT ((lu (x:= "has") rfl).trans (by kernel_rfl))];exact q)];rw[aB (ρ':=[Y (cq (.has s)),Y (.lst ((lq (.has s)).map cq)),b2,M,M,M,M]) (by rw[dh ((wu (x:= "has") rfl).trans (by kernel_rfl))];rfl)];rw[Dh rfl]
   |both w=>simp only[je]at h;simp only[jW]at z;have wl:=wh w;have wn:=xC w;rw[aB (ρ':=[Y (cq (.both w)),M,M,M,M,M,M]) (by rw[dh ((lu (x:= "both") rfl).trans (by kernel_rfl))];rfl)];rw[aB (ρ':=[Y (cq (.both w)),Y (.lst [cq .any]),M,M,M,M,M]) rfl];rw[aB (ρ':=[Y (cq (.both w)),Y (.lst [cq .any]),M,M,M,M,M]) (by rw[dh ((lu (x:= "both") rfl).trans (by kernel_rfl))];rfl)];obtain⟨b3,b4,b5,b6,fo⟩:=FZ (bg:=decide (1<kN w)) (x:= "both") (A:=A) (B:=B) (n:=m) (s2:=M) w [] [cq .any] M M M M X0 ž ž (by simp;omega) (by simp;omega) (by simp[wn]);have it:wL (a_ ik (aC (e2 b9 (eV 0) v6) aN)) [Y (cq (.both w)),Y (.lst [cq .any]),M,M,M,M,M]=Y (fG ((0:Nat):Int) (iW w).length):=BW (zF rfl) ž;rw[wn]at it;rw[aB (by rw[iT ((wu (x:= "both") rfl).trans (by kernel_rfl))];exact(gB it).trans fo)];rw[Dh rfl];simp only[lq,aW,iu,cB,cf];rfl
   |one w=>simp only[je]at h;simp only[jW]at z;have wl:=wh w;have wn:=xC w;rw[aB (ρ':=[Y (cq (.one w)),M,M,M,M,M,M]) (by rw[dh ((lu (x:= "one") rfl).trans (by kernel_rfl))];rfl)];rw[aB (ρ':=[Y (cq (.one w)),Y (.lst [cq .any]),M,M,M,M,M]) rfl];rw[aB (ρ':=[Y (cq (.one w)),Y (.lst [cq .any]),M,M,M,M,M]) (by rw[dh ((lu (x:= "one") rfl).trans (by kernel_rfl))];rfl)];obtain⟨b3,b4,b5,b6,fo⟩:=FZ (bg:=decide (1<kN w)) (x:= "one") (A:=A) (B:=B) (n:=m) (s2:=M) w [] [cq .any] M M M M X0 ž ž (by simp;omega) (by simp;omega) (by simp[wn]);have it:wL (a_ ik (aC (e2 b9 (eV 0) v6) aN)) [Y (cq (.one w)),Y (.lst [cq .any]),M,M,M,M,M]=Y (fG ((0:Nat):Int) (iW w).length):=BW (zF rfl) ž;rw[wn]at it;rw[aB (by rw[iT ((wu (x:= "one") rfl).trans (by kernel_rfl))];exact(gB it).trans fo)];rw[Dh rfl];simp only[lq,aW,iu,cB,cf];rfl
  ·show (rM (e_ m) (e8 m) [Y (eQ s),M,M,M,M,M,M]).bind K5=_;generalize e_ m=A at *
   generalize e8 m=B at *
   unfold rM;have ls:=QD s;have le:=Hr s;rw[aB (ρ':=[Y (eQ s),Y (.lst []),M,M,M,M,M]) rfl];obtain⟨b2,b3,b4,b5,b6,fo⟩:=LN (A:=A) (B:=B) (n:=m) s [] [] M M M M M X0 h z (by simp;omega) (by simp;omega);have it:wL (a_ ik (aC (eV 0) aN)) [Y (eQ s),Y (.lst []),M,M,M,M,M]=Y (fG ((0:Nat):Int) (dR s).length):=BW rfl ž;rw[le]at it;rw[aB ((gB it).trans fo)];rw[Dh rfl];rfl
theorem HE:∀s:Ss,n_ (iR s)<=n_ s
 |.nil=>aw _|.cons b d w .nil=>by simp only[iR,n_];omega
 |.cons b d w (.cons e a c r)=>by have:=HE (.cons e a c r);rw[iR,n_,n_];omega
theorem HB:∀s:Ss,oB (iR s)<=oB s/\xN (iR s)<=xN s
 |.nil=>⟨aw _,aw _⟩|.cons b d w .nil=>by simp[iR,oB,xN]
 |.cons b d w (.cons e a c r)=>by have:=HB (.cons e a c r);rw[iR,oB,oB,xN,xN];omega
theorem HD:∀s:Ss,ER s->ER (iR s)
 |.nil,h=>h|.cons b d w .nil,h=>trivial|.cons b d w (.cons e a c r),h=>⟨h.1,h.2.1,HD (.cons e a c r) h.2.2⟩
theorem HC:∀s:Ss,M9 T s->M9 T (iR s)
 |.nil,h=>h|.cons b d w .nil,h=>trivial|.cons b d w (.cons e a c r),h=>⟨h.1,HC (.cons e a c r) h.2⟩
theorem OU:∀s:Ss,1<m7 s->iR s ≠ .nil
 |.nil,h=>by simp[m7]at h
 |.cons b c w .nil,h=>by simp[m7]at h
 |.cons b c w (.cons e a d r),h=>by rw[iR];exact λz=>by cases z
structure QW(T:aG->Prop)(a b:Wi):Prop where
 n:Ts a->Ts b
 o:Uo T a->Uo T b
 d:je b<=je a
 z:jW b<=jW a
 s:w6 b<=w6 a
def Bz{T:aG->Prop}(w:Wi):QW T w .any:=⟨λ_=>trivial,λ_=>trivial,by cases w<;>simp[je],by cases w<;>simp[jW],by simp[w6]⟩
structure QA(T:aG->Prop)(a b:Ws):Prop where
 n:PV a->PV b
 o:QV T a->QV T b
 d:wA b<=wA a
 z:qo b<=qo a
 s:EJ b<=EJ a
structure QS(T:aG->Prop)(a b:Ss):Prop where
 n:ER a->ER b
 o:M9 T a->M9 T b
 d:n_ b<=n_ a
 z:oB b<=oB a
 s:xN b<=xN a
 e:b ≠ .nil
mutual
theorem Qy{T:aG->Prop}:∀(w a:Wi),a∈lq w->QW T w a
 |.any,a,h=>by simp[lq]at h
 |.txt t,a,h=>by simp only[lq,bR]at h;subst h;exact Bz _
 | .has s,a,h=>by
  simp only[lq,au,aD,bc]at h;rcases h with rfl|⟨b,c,rfl⟩|h
  ·exact Bz _
  ·have q:=Hm (T:=T) s b c;have:=q.d;have:=q.z;have:=q.s;exact⟨q.n,λo=>⟨q.e,q.o o.2⟩,by simp only[je];omega,by simp only[jW];omega,by simp only[w6];omega⟩
  ·split at h
   ·rename_i d;simp only[bR]at h;subst h;have:=HE s;have:=HB s;exact⟨HD s,λo=>⟨OU s d,HC s o.2⟩,by simp only[je];omega,by simp only[jW];omega,by simp only[w6];omega⟩
   ·simp at h
 | .both w,a,h=>by
  simp only[lq,au,bc]at h;rcases h with rfl|⟨b,c,rfl⟩
  ·exact Bz _
  ·have q:=LG (T:=T) _ w b c;have:=q.d;have:=q.z;have:=q.s;exact⟨q.n,q.o,by simp only[je];omega,by simp only[jW];omega,by simp only[w6];omega⟩
 | .one w,a,h=>by
  simp only[lq,au,bc]at h;rcases h with rfl|⟨b,c,rfl⟩
  ·exact Bz _
  ·have q:=LG (T:=T) _ w b c;have:=q.d;have:=q.z;have:=q.s;exact⟨q.n,q.o,by simp only[je];omega,by simp only[jW];omega,by simp only[w6];omega⟩
theorem LG{T:aG->Prop}(a:Bool):∀(w b:Ws),b∈vO a w->QA T w b
 |.nil,b,h=>by simp[vO]at h
 | .cons w r,b,h=>by
  simp only[vO,aD,bc]at h;rcases h with (⟨x,c,rfl⟩|h)|⟨x,c,rfl⟩
  ·have q:=Qy (T:=T) w x c;have:=q.d;have:=q.z;have:=q.s;exact⟨λn=>⟨q.n n.1,n.2⟩,λn=>⟨q.o n.1,n.2⟩,by simp only[wA];omega,by simp only[qo];omega,by simp only[EJ];omega⟩
  ·split at h
   ·simp only[bR]at h;subst h;exact⟨λn=>n.2,λn=>n.2,by simp only[wA];omega,by simp only[qo];omega,by simp only[EJ];omega⟩
   ·simp at h
  ·have q:=LG (T:=T) a r x c;have:=q.d;have:=q.z;have:=q.s;exact⟨λn=>⟨n.1,q.n n.2⟩,λn=>⟨n.1,q.o n.2⟩,by simp only[wA];omega,by simp only[qo];omega,by simp only[EJ];omega⟩
theorem Hm{T:aG->Prop}:∀(s a:Ss),a∈lN s->QS T s a
 |.nil,a,h=>by simp[lN]at h
 | .cons b d w r,a,h=>by
  simp only[lN,aD,bc]at h;rcases h with⟨x,c,rfl⟩|⟨x,c,rfl⟩
  ·have q:=Qy (T:=T) w x c;have:=q.d;have:=q.z;have:=q.s;exact⟨λn=>⟨n.1,q.n n.2.1,n.2.2⟩,λn=>⟨q.o n.1,n.2⟩,by simp only[n_];omega,by simp only[oB];omega,by simp only[xN];omega,λz=>by cases z⟩
  ·have q:=Hm (T:=T) r x c;have:=q.d;have:=q.z;have:=q.s;exact⟨λn=>⟨n.1,n.2.1,q.n n.2.2⟩,λn=>⟨n.1,q.o n.2⟩,by simp only[n_];omega,by simp only[oB];omega,by simp only[xN];omega,λz=>by cases z⟩
end
def Ex.lv(h:Ex c a)(m:b∈lN a):Ex c b:=by
 have q:=Hm (T:=(· ∈ c)) a b m;have:=q.d;have:=q.z;have:=q.s;have:=h.d;have:=h.z;have:=h.s;exact⟨q.n h.n,q.o h.o,q.e,ž,ž,ž⟩
mutual
theorem Lb:∀(w:Wi) (n:Nat),3*je w<=n->iK (cq w) n=Z'
 |.any,n,h=>by simp only[je]at h;obtain⟨n,rfl⟩:∃k,n=k+1:=⟨n-1,ž⟩;simp[cq,iK,iJ]
 |.txt t,n,h=>by simp only[je]at h;obtain⟨n,rfl⟩:∃k,n=k+1:=⟨n-1,ž⟩;simp[cq,iK,iJ]
 | .has s,n,h=>by
  simp only[je]at h
  obtain⟨n,rfl⟩:∃k,n=k+3:=⟨n-3,ž⟩
  have:=FD s (n+1) ž
  simp[cq,iK,iJ,this]
 | .both w,n,h=>by
  simp only[je]at h
  obtain⟨n,rfl⟩:∃k,n=k+3:=⟨n-3,ž⟩
  have:=Fz w (n+1) ž
  simp[cq,iK,iJ,this]
 | .one w,n,h=>by
  simp only[je]at h
  obtain⟨n,rfl⟩:∃k,n=k+3:=⟨n-3,ž⟩
  have:=Fz w (n+1) ž
  simp[cq,iK,iJ,this]
theorem Fz:∀(w:Ws) (n:Nat),3*wA w<=n->iJ (iW w) n=Z'
 |.nil,n,h=>rfl| .cons w r,n,h=>by
  simp only[wA]at h
  rw[iW,iJ,Lb w n (by omega),Fz r n (by omega)];rfl
theorem FD:∀(s:Ss) (n:Nat),3*n_ s<=n+1->iJ (dR s) n=Z'
 |.nil,n,h=>rfl| .cons b a w r,n,h=>by
  simp only[n_]at h
  obtain⟨n,rfl⟩:∃k,n=k+1:=⟨n-1,ž⟩
  rw[dR,iJ,FD r (n+1) (by omega)]
  simp[iK,iJ,Lb w n (by omega)]
end
theorem Hj{n:Nat}:∀(L:List Ss),(∀s∈L,3*n_ s<=n)->iJ (L.map eQ) n=Z'
 |[],_=>rfl| s::L,h=>by
  have b:=h s Ž
  have:=pP s
  obtain⟨n,rfl⟩:∃k,n=k+1:=⟨n-1,ž⟩
  rw[aW,iJ,Hj L λx a=>h x (by simp[a])]
  simp[iK,FD s n (by omega)]
def HV{l:List D}:lH (.lst l) (.lst [])=l.isEmpty:=by
 cases l<;>simp[lH,og]
def Bc(h:Ex u a)(k:Int):∃b,(b=a\/b∈lN a)/\q_ [eQ a,.int k]=Y (eQ b):=by
 have t:o9 [eQ a]=Y ((lN a).map eQ):=(Ht 12).2 a h.d h.z;have w:=BV a;have y:=h.z;show ∃b,_/\(uM [Y (eQ a),Y (.int k),M]).bind iY=Y (eQ b);unfold uM;have q:eF (kR o9 (aC (eV 0) aN)) [Y (eQ a),Y (.int k),M]=Y (.lst ((lN a).map eQ)):=by
  have:∀G:List D->Option (List D),eF (kR G (aC (eV 0) aN)) [Y (eQ a),Y (.int k),M]=(G [eQ a]).map D.lst:=λG=>rfl
  rw[this,t];rfl
 rw[aB (dr q)];simp only[aY,aZ];have c:cT (e2 gj (eV 2) (eF bd)) [Y (eQ a),Y (.int k),Y (.lst ((lN a).map eQ))]=Y ((lN a).map eQ).isEmpty:=by
  have:e2 gj (eV 2) (eF bd) [Y (eQ a),Y (.int k),Y (.lst ((lN a).map eQ))]=gj (.lst ((lN a).map eQ)) (.lst []):=rfl;unfold cT;rw[this];unfold gj;rw[if_pos (by
   have:=Hj (n:=179) (lN a) λs n=>by have:=(Hm (T:=λ_=>True) a s n).d;have:=h.d;omega
   simp[iK,iJ,this]),HV]
  rfl
 cases d:lN a with
 |nil=>rw[d]at c;rw[Bw (d:=eQ a) c rfl];exact⟨a,.inl rfl,rfl⟩|cons x r=>
  rw[<- d];have v:(lN a).length≠0:=by rw[d];simp
  have l:((lN a).map eQ).isEmpty=false:=by rw[d];rfl
  rw[l]at c;rw[aB (ρ':=[Y (eQ a),Y (.int k),Y (.lst ((lN a).map eQ))]) (by rw[dh c];rfl)];have p:0<=k%((lN a).length:Int):=eL _ ž;have z:k%((lN a).length:Int)<((lN a).length:Int):=eN _ ž;obtain⟨j,o⟩:=NM p;have i:j<(lN a).length:=by omega
  have m:e2 gf (eV 1) (a_ ik (aC (eV 2) aN)) [Y (eQ a),Y (.int k),Y (.lst ((lN a).map eQ))]=Y (.int (j:Nat)):=by show (if (0:Int)<((((lN a).map eQ).length:Nat):Int) then Y (D.int (k%((((lN a).map eQ).length:Nat):Int))) else M)=_;rw[bj,if_pos (by omega),o]
  refine⟨(lN a)[j],.inr (t7 i),?_⟩;refine px ?_;rw[show ∀(f g:DF) (e:bY),e2 b9 f g e=(f e).bind λa=>(g e).bind λb=>b9 a b from λ_ _ _=>rfl,m];show p_ ((lN a).map eQ) ((j:Nat):Int)=_;exact eT (j:=j) (by rw[aV,aX i];rfl)
abbrev iD(l:List Nat):List D:=l.map λn =>.int (n:Nat)
theorem Qr:∀(l:List Nat) (n:Nat),iJ (iD l) n=Z'
 |[],n=>rfl| x::l,n=>by
  have:=Qr l n
  simp only[iD,aW,iJ,iK]at this ⊢
  rw[this];rfl
def KR(l:List Nat):∃k a,mW [.lst (iD l)]=Y (.int (k:Nat),iD a):=by
 show ∃k a,(HI [Y (.lst (iD l))]).bind (Ve 0)=Y (.int (k:Nat),iD a);unfold HI;have t:cT (e2 gj (eV 0) (eF bd)) [Y (.lst (iD l))]=Y (iD l).isEmpty:=by have:e2 gj (eV 0) (eF bd) [Y (.lst (iD l))]=gj (.lst (iD l)) (.lst []):=rfl;unfold cT;rw[this];unfold gj;rw[if_pos (by simp[iK,iJ,Qr]),HV];rfl
 cases l with
 |nil=>exact⟨0,[],by kernel_rfl⟩
 |cons x r=>
  have b:(iD (x::r)).isEmpty=false:=rfl;rw[b]at t;rw[aB (ρ':=[Y (.lst (iD (x::r)))]) (by rw[dh t];rfl)];refine⟨(x::r).getLast Ž,(x::r).dropLast,?_⟩;have:LD 0 [Y (.lst (iD (x::r)))]=Y (.int ((x::r).getLast Ž:Nat),[Y (.lst (iD ((x::r).dropLast)))]):=by
   have e:LD 0 [Y (.lst (iD (x::r)))]=((iD (x::r))[(iD (x::r)).length-1]?).map λd=>(d,[Y (.lst (iD (x::r)).dropLast)]):=rfl
   rw[e];have:(iD (x::r))[(iD (x::r)).length-1]?=Y (.int ((x::r).getLast Ž:Nat)):=by rw[bj,aV,<- List.getLast?_eq_getElem?,List.getLast?_eq_some_getLast (by simp)];rfl
   rw[this];simp[iD,List.map_dropLast]
  unfold eW;rw[this];rfl
abbrev cD(a b c:Int):List D:=[.int a,.int b,.int c]
def zB:Nat->Nat
 |0=>1|1=>5|_=>13
def sB:Nat->Nat
 |0=>0|1=>2|_=>6
abbrev TX:List aG:=[ab "x",ab ""]
structure GW(k:Nat)(w:Wi):Prop where
 n:Ts w
 o:Uo (· ∈ TX) w
 d:je w<=1+2*k
 z:jW w<=zB k
 s:w6 w<=sB k
structure GS(k j:Nat)(s:Ss):Prop where
 n:ER s
 o:M9 (· ∈ TX) s
 d:n_ s<=2+2*k
 z:oB s<=j*(1+zB k)
 s:xN s<=j*(1+sB k)
structure NO(ns:List aG):Prop where
 ne:ns≠[]
 st:∀n∈ns,n≠ab "*"
 l:ns.length<=1000
abbrev nD(a:List aG):D :=.lst (a.map D.str)
def PU(F:List D->Option (D×List D×List D))(d:List aG)(k:Nat):Prop:=∀l a b c,∃w e h g f,F [.lst (iD l),nD d,.lst (cD a b c),.int (k:Nat)]=Y (cq w,iD e,cD h g f)/\GW k w
def YK(F:List D->Option (D×List D×List D))(d:List aG)(k:Nat):Prop:=∀l a b c,∃s e h g f,F [.lst (iD l),nD d,.lst (cD a b c),.int (k:Nat)]=Y (.lst (dR s),iD e,cD h g f)/\GS k 2 s/\s ≠ .nil
def vL{l:List Nat}{r:List (Option D)}:∃k a,ny mW 0 aN (Y (.lst (iD l))::r)=Y (.int (k:Nat),Y (.lst (iD a))::r):=by
 obtain⟨k,a,e⟩:=KR l;refine⟨k,a,?_⟩;have:∀F:List D->Option (D×List D),ny F 0 aN (Y (.lst (iD l))::r)=(F [.lst (iD l)]).map λq=>(q.1,Y (.lst q.2)::r):=λF=>rfl
 rw[this,e];rfl
theorem Qj(v:PU A e k){x y:Option D}:∀(i:List D) (l:List Nat) (a b c:Int),∃f G N L J,DV [M,x,Y (nD e),y,Y (.int ((k+1:Nat):Int))] (gN 0) (j5 A 1 (eV 2) 3 (aC (e2 ku (eV 4) v6) aN)) 1 3 i (iD l,cD a b c)=Y (iW f,(iD G,cD N L J))/\PV f/\QV (· ∈ TX) f/\wA f<=1+2*k/\qo f<=i.length*zB k/\EJ f<=i.length*sB k
 |[],l,a,b,c=>⟨.nil,l,a,b,c,rfl,trivial,trivial,by simp[wA],by simp[qo],by simp[EJ]⟩
 | d::i,l,a,b,c=>by
  obtain⟨w,h,p,m,j,H,g⟩:=v l a b c;obtain⟨f,E,S,K,I,u,n,o,R,z,s⟩:=Qj v (x:=x) (y:=y) i h p m j;have Q:=g.d;have O:=g.z;have P:=g.s;refine⟨.cons w f,E,S,K,I,?_,⟨g.n,n⟩,⟨g.o,o⟩,by simp only[wA];omega,by simp only[qo,aK,P6];omega,by simp only[EJ,aK,P6];omega⟩;rw[DV];have B:gN 0 d (([M,x,Y (nD e),y,Y (.int ((k+1:Nat):Int))].set 1 (Y (.lst (iD l,cD a b c).1))).set 3 (Y (.lst (iD l,cD a b c).2)))=Y [Y d,Y (.lst (iD l)),Y (nD e),Y (.lst (cD a b c)),Y (.int ((k+1:Nat):Int))]:=rfl;have C:j5 A 1 (eV 2) 3 (aC (e2 ku (eV 4) v6) aN) [Y d,Y (.lst (iD l)),Y (nD e),Y (.lst (cD a b c)),Y (.int ((k+1:Nat):Int))]=Y (cq w,[Y d,Y (.lst (iD h)),Y (nD e),Y (.lst (cD p m j)),Y (.int ((k+1:Nat):Int))]):=by
   have:∀F:List D->Option (D×List D×List D),j5 F 1 (eV 2) 3 (aC (e2 ku (eV 4) v6) aN) [Y d,Y (.lst (iD l)),Y (nD e),Y (.lst (cD a b c)),Y (.int ((k+1:Nat):Int))]=(F [.lst (iD l),nD e,.lst (cD a b c),.int (((k+1:Nat):Int)-1)]).map λq=>(q.1,[Y d,Y (.lst q.2.1),Y (nD e),Y (.lst q.2.2),Y (.int ((k+1:Nat):Int))]):=λF=>rfl
   rw[this,show ((k+1:Nat):Int)-1=(k:Nat) by omega,H];rfl
  rw[B];simp only[ae,C];have t:eX 1 [Y d,Y (.lst (iD h)),Y (nD e),Y (.lst (cD p m j)),Y (.int ((k+1:Nat):Int))]=Y (iD h):=rfl;have r:eX 3 [Y d,Y (.lst (iD h)),Y (nD e),Y (.lst (cD p m j)),Y (.int ((k+1:Nat):Int))]=Y (cD p m j):=rfl;simp only[t,r,ae,u];rfl
def SA(k:Nat):GW k .any:=⟨trivial,trivial,by simp only[je];omega,by rcases k with _|_|k<;>simp[jW,zB],by simp[w6]⟩
def Sz(k:Nat)(h:t∈TX):GW k (.txt t):=⟨trivial,h,by simp only[je];omega,by rcases k with _|_|k<;>simp[jW,zB],by simp[w6]⟩
def Fn{ρ':bY}{d:D}(e:t a=Y Z')(k:g a=Y (.rm d ρ')):bp (ie t g dG) h a=Y (.rm d ρ'):=by
 unfold bp;rw[iT e,k];rfl
def VR(v:Nat):fh (.int (v:Nat)) (.int 8)=Y (.int ((v/8:Nat):Int)):=by
 simp only[fh];rw[if_pos ⟨by decide,by decide⟩];rfl
def k0{f:DF}{ρ:bY}{v n:Nat}(h:f ρ=Y (.int (v:Nat)))(a:0<n):e2 gf (e2 fh f Uf) (eK (.int (n:Nat))) ρ=Y (.int ((v/8%n:Nat):Int)):=by
 unfold e2;rw[h];simp only[ae];rw[show Uf ρ=Y (.int 8) from rfl,show (eK (.int (n:Nat)) ρ)=Y (.int (n:Nat)) from rfl];simp only[ae,VR];show (if (0:Int)<(n:Nat) then Y (D.int (((v/8:Nat):Int)%((n:Nat):Int))) else M)=_;rw[if_pos (by omega)];rfl
def Qw{f:DM}{ρ1:bY}{x:D}(h:f b=Y (x,ρ1))(k:g ρ1=Y (y,a)):qN (iw f (iw g lG)) b=Y (.tup [x,y],a):=by
 unfold qN iw;rw[h];simp only[ae];rw[k];rfl
def RW{f:DF}(e:f a=Y (.int (n:Nat)))(d:n<=2):wL f a=Y (fG 0 n):=by
 have b:((n:Nat):Int)<=1000:=by omega
 have c:(0:Int)<=((n:Nat):Int):=by omega
 rw[B5 e ⟨mq (by decide) c,gX b (by decide)⟩,cN]
def OM{f:List aG}(s:PU A f j){kn:String}(n:Nat)(o:n<=2){l:List Nat}{a b c:Int}{x4 x5:Option D}:∃d g k i h,qN (iw (mP (eV 6)) (iw (FW (wL (eV 7)) [M,Y 0,Y 1,Y 2,Y 3] (gN 0) (j5 A 1 (eV 2) 3 (aC (e2 ku (eV 4) v6) aN)) 1 0 3 2) lG)) [Y (.lst (iD l)),Y (nD f),Y (.lst (cD a b c)),Y (.int ((j+1:Nat):Int)),x4,x5,Y (kS kn),Y (.int (n:Nat))]=Y (.tup [kS kn,.lst (iW d)],[Y (.lst (iD g)),Y (nD f),Y (.lst (cD k i h)),Y (.int ((j+1:Nat):Int)),x4,x5,Y (kS kn),Y (.int (n:Nat))])/\PV d/\QV (· ∈ TX) d/\wA d<=1+2*j/\qo d<=2*zB j/\EJ d<=2*sB j:=by
 obtain⟨d,g,k,i,h,e,v,u,t,r,q⟩:=Qj s (x:=Y (.lst (iD l))) (y:=Y (.lst (cD a b c))) (fG 0 n) l a b c;have p:(fG 0 n).length=n:=by simp[fG]
 rw[p]at r q;refine⟨d,g,k,i,h,?_,v,u,t,a7 r (TU _ o),a7 q (TU _ o)⟩;have m:FW (wL (eV 7)) [M,Y 0,Y 1,Y 2,Y 3] (gN 0) (j5 A 1 (eV 2) 3 (aC (e2 ku (eV 4) v6) aN)) 1 0 3 2 [Y (.lst (iD l)),Y (nD f),Y (.lst (cD a b c)),Y (.int ((j+1:Nat):Int)),x4,x5,Y (kS kn),Y (.int (n:Nat))]=Y (.lst (iW d),[Y (.lst (iD g)),Y (nD f),Y (.lst (cD k i h)),Y (.int ((j+1:Nat):Int)),x4,x5,Y (kS kn),Y (.int (n:Nat))]):=by unfold FW;rw[RW rfl o];simp only[ae];rw[if_pos (by rw[p];exact dU (i9 (by omega)))];rw[show eX 0 [Y (.lst (iD l)),Y (nD f),Y (.lst (cD a b c)),Y (.int ((j+1:Nat):Int)),x4,x5,Y (kS kn),Y (.int (n:Nat))]=Y (iD l) from rfl,show eX 2 [Y (.lst (iD l)),Y (nD f),Y (.lst (cD a b c)),Y (.int ((j+1:Nat):Int)),x4,x5,Y (kS kn),Y (.int (n:Nat))]=Y (cD a b c) from rfl];simp only[ae];rw[show kM [M,Y 0,Y 1,Y 2,Y 3] [Y (.lst (iD l)),Y (nD f),Y (.lst (cD a b c)),Y (.int ((j+1:Nat):Int)),x4,x5,Y (kS kn),Y (.int (n:Nat))]=[M,Y (.lst (iD l)),Y (nD f),Y (.lst (cD a b c)),Y (.int ((j+1:Nat):Int))] from rfl,e];rfl
 exact Qw rfl m
def GR{A B:List D->Option (D×List D×List D)}{ns:List aG}{k:Nat}(h:∀j,k=j+1->PU A ns j/\YK B ns j)(hk:k<=2):PU (uk 4 8 0 2 (jl A B)) ns k:=by
 intro l a b c;obtain⟨v,l1,ep⟩:=vL (l:=l) (r:=[Y (nD ns),Y (.lst (cD a b c)),Y (.int (k:Nat)),M,M,M,M]);have run:uk 4 8 0 2 (jl A B) [.lst (iD l),nD ns,.lst (cD a b c),.int (k:Nat)]=(jl A B [Y (.lst (iD l)),Y (nD ns),Y (.lst (cD a b c)),Y (.int (k:Nat)),M,M,M,M]).bind (K6 0 2):=rfl;rw[run];clear run;unfold jl;rw[aB (ρ':=[Y (.lst (iD l1)),Y (nD ns),Y (.lst (cD a b c)),Y (.int (k:Nat)),Y (.int (v:Nat)),M,M,M]) (by unfold gG;rw[ep];rfl)];obtain⟨q,hq,lt⟩:∃q:Nat,(v:Int)%8=(q:Nat)/\q<8:=⟨v%8,ž,ž⟩;have m1:e2 gf (eV 4) Uf [Y (.lst (iD l1)),Y (nD ns),Y (.lst (cD a b c)),Y (.int (k:Nat)),Y (.int (v:Nat)),M,M,M]=Y (.int (q:Nat)):=by show (if (0:Int)<8 then Y (D.int ((v:Int)%8)) else M)=_;rw[if_pos (by decide),hq]
 rw[aB (dr m1)];simp only[aY,aZ];generalize hρ:([Y (.lst (iD l1)),Y (nD ns),Y (.lst (cD a b c)),Y (.int (k:Nat)),Y (.int (v:Nat)),Y (.int (q:Nat)),M,M]:bY)=ρ;have t1:vq (cT (e2 gj (eV 5) u8)) (cT (e2 gj (eV 5) re)) ρ=Y (decide (q=2\/q=3)):=by
  subst hρ;have:vq (cT (e2 gj (eV 5) u8)) (cT (e2 gj (eV 5) re)) [Y (.lst (iD l1)),Y (nD ns),Y (.lst (cD a b c)),Y (.int (k:Nat)),Y (.int (v:Nat)),Y (.int (q:Nat)),M,M]=(if lH (.int (q:Nat)) (.int 2)=Z' then Y Z' else Y (lH (.int (q:Nat)) (.int 3))):=by rfl
  rw[this,rO,rO];by_cases h2:q=2
  ·subst h2;rfl
  ·by_cases h3:q=3
   ·subst h3;rfl
   ·have a1:(((q:Nat):Int)==2)=false:=by simp;omega
    have a2:(((q:Nat):Int)==3)=false:=by simp;omega
    rw[a1,a2];simp[h2,h3]
 by_cases ZQ:q=2\/q=3
 ·rw[decide_eq_true ZQ]at t1;obtain⟨t,ht,ev⟩:∃t,t∈TX/\e2 b9 (eF ci) (e2 gf (e2 fh (eV 4) Uf) u8) ρ=Y (.str t):=by
   have pk:=k0 (f:=eV 4) (ρ:=ρ) (v:=v) (n:=2) (by subst hρ;rfl) ſ;have:v/8%2=0\/v/8%2=1:=by omega
   rcases this with z|z
   ·rw[z]at pk;exact⟨ab "x",Ž,by unfold e2 at pk ⊢;rw[show (eK (.int ((2:Nat):Int)):DF)=eK (.int 2) from rfl]at pk;rw[pk];kernel_rfl⟩
   ·rw[z]at pk;exact⟨ab "",Ž,by unfold e2 at pk ⊢;rw[show (eK (.int ((2:Nat):Int)):DF)=eK (.int 2) from rfl]at pk;rw[pk];kernel_rfl⟩
  refine⟨.txt t,l1,a,b,c,?_,Sz k ht⟩;rw[Fn (d:=cq (.txt t)) (ρ':=ρ) t1 (by unfold eW mP;rw[C0 (x:=kS "text") rfl ev];rfl)];subst hρ;rfl
 rw[decide_eq_false ZQ]at t1;rw[aB (ρ':=ρ) (by rw[dh t1];rfl)];have t2:vq (cT (e2 P2 (eV 5) u8)) (cT (e2 gj (eV 3) f8)) ρ=Y (decide (q<2\/k=0)):=by
  subst hρ;have:vq (cT (e2 P2 (eV 5) u8)) (cT (e2 gj (eV 3) f8)) [Y (.lst (iD l1)),Y (nD ns),Y (.lst (cD a b c)),Y (.int (k:Nat)),Y (.int (v:Nat)),Y (.int (q:Nat)),M,M]=(if decide (((q:Nat):Int)<2)=Z' then Y Z' else Y (lH (.int (k:Nat)) (.int 0))):=by rfl
  rw[this,rO];by_cases h2:q<2
  ·rw[if_pos (by simp;omega),decide_eq_true (.inl h2)]
  ·rw[if_neg (by simp;omega)];by_cases h3:k=0
   ·subst h3;rw[decide_eq_true (.inr rfl)];rfl
   ·have a1:(((k:Nat):Int)==0)=false:=by simp;omega
    rw[a1,decide_eq_false (by rintro(z|z)<;>omega)]
 by_cases ZR:q<2\/k=0
 ·rw[decide_eq_true ZR]at t2;refine⟨.any,l1,a,b,c,?_,SA k⟩;rw[Fn (d:=cq .any) (ρ':=ρ) t2 rfl];subst hρ;rfl
 rw[decide_eq_false ZR]at t2;rw[aB (ρ':=ρ) (by rw[dh t2];rfl)];obtain⟨j,rfl⟩:∃j,k=j+1:=⟨k-1,ž⟩;obtain⟨hA,hB⟩:=h j rfl;have t3:cT (e2 P2 (eV 5) (eK (.int 6))) ρ=Y (decide (q<6)):=by
  subst hρ;have:cT (e2 P2 (eV 5) (eK (.int 6))) [Y (.lst (iD l1)),Y (nD ns),Y (.lst (cD a b c)),Y (.int ((j+1:Nat):Int)),Y (.int (v:Nat)),Y (.int (q:Nat)),M,M]=Y (decide (((q:Nat):Int)<6)):=rfl;rw[this]
  congr 1
  rw[decide_eq_decide];omega
 by_cases h6:q<6
 ·rw[decide_eq_true h6]at t3;obtain⟨s,l2,a2,b2,c2,e,g,ne⟩:=hB l1 a b c;have gd:=g.d;have gz:=g.z;have gs:=g.s;refine⟨.has s,l2,a2,b2,c2,?_,⟨g.n,⟨ne,g.o⟩,by simp only[je];omega,?_,?_⟩⟩
  ·have m:j5 B 0 (eV 1) 2 (aC (e2 ku (eV 3) v6) aN) ρ=Y (.lst (dR s),[Y (.lst (iD l2)),Y (nD ns),Y (.lst (cD a2 b2 c2)),Y (.int ((j+1:Nat):Int)),Y (.int (v:Nat)),Y (.int (q:Nat)),M,M]):=by
    subst hρ;have:∀F:List D->Option (D×List D×List D),j5 F 0 (eV 1) 2 (aC (e2 ku (eV 3) v6) aN) [Y (.lst (iD l1)),Y (nD ns),Y (.lst (cD a b c)),Y (.int ((j+1:Nat):Int)),Y (.int (v:Nat)),Y (.int (q:Nat)),M,M]=(F [.lst (iD l1),nD ns,.lst (cD a b c),.int (((j+1:Nat):Int)-1)]).map λr=>(r.1,[Y (.lst r.2.1),Y (nD ns),Y (.lst r.2.2),Y (.int ((j+1:Nat):Int)),Y (.int (v:Nat)),Y (.int (q:Nat)),M,M]):=λF=>rfl
    rw[this,show ((j+1:Nat):Int)-1=(j:Nat) by omega,e];rfl
   rw[Fn (d:=cq (.has s)) (ρ':=[Y (.lst (iD l2)),Y (nD ns),Y (.lst (cD a2 b2 c2)),Y (.int ((j+1:Nat):Int)),Y (.int (v:Nat)),Y (.int (q:Nat)),M,M]) t3 ?_]
   ·rfl
   ·unfold eW;rw[Qw (x:=kS "has") (ρ1:=ρ) rfl m];rfl
  ·rcases j with _|_|j
   ·simp only[jW,zB]at gz ⊢;omega
   ·simp only[jW,zB]at gz ⊢;omega
   ·omega
  ·rcases j with _|_|j
   ·simp only[w6,sB]at gs ⊢;omega
   ·simp only[w6,sB]at gs ⊢;omega
   ·omega
 rw[decide_eq_false h6]at t3;rw[aB (ρ':=ρ) (by rw[dh t3];rfl)];subst hρ;rw[aB (ρ':=[Y (.lst (iD l1)),Y (nD ns),Y (.lst (cD a b c)),Y (.int ((j+1:Nat):Int)),Y (.int (v:Nat)),Y (.int (q:Nat)),Y (kS "both"),M]) rfl];obtain⟨one,c1,st⟩:∃(one:Bool) (c1:Int),ie (i6 (cT (e2 gj (eV 5) (eK (.int 7)))) (cT (e2 AB (e2 b9 (eV 2) u8) f8))) (bp (eM 6 ol) (sj 2 u8 (e2 ku (e2 b9 (eV 2) u8) v6))) dG [Y (.lst (iD l1)),Y (nD ns),Y (.lst (cD a b c)),Y (.int ((j+1:Nat):Int)),Y (.int (v:Nat)),Y (.int (q:Nat)),Y (kS "both"),M]=Y (.nx [Y (.lst (iD l1)),Y (nD ns),Y (.lst (cD a b c1)),Y (.int ((j+1:Nat):Int)),Y (.int (v:Nat)),Y (.int (q:Nat)),Y (kS (if one then "one" else "both")),M]):=by
  have t4:i6 (cT (e2 gj (eV 5) (eK (.int 7)))) (cT (e2 AB (e2 b9 (eV 2) u8) f8)) [Y (.lst (iD l1)),Y (nD ns),Y (.lst (cD a b c)),Y (.int ((j+1:Nat):Int)),Y (.int (v:Nat)),Y (.int (q:Nat)),Y (kS "both"),M]=(if lH (.int (q:Nat)) (.int 7)=Z' then Y (decide ((0:Int)<c)) else Y Z_):=by rfl
  obtain⟨bb,hb⟩:∃bb:Bool,(if lH (.int (q:Nat)) (.int 7)=Z' then Y (decide ((0:Int)<c)) else Y Z_)=Y bb:=by
   split
   ·exact⟨_,rfl⟩
   ·exact⟨_,rfl⟩
  rw[hb]at t4;cases bb with
  |true=>exact⟨Z',c-1,by rw[iT t4];rfl⟩
  |false=>exact⟨Z_,c,by rw[dh t4];rfl⟩
 rw[aB st];obtain⟨n,hn,ev⟩:∃n:Nat,n<=2/\e2 b9 (eF Do) (e2 gf (e2 fh (eV 4) Uf) lm) [Y (.lst (iD l1)),Y (nD ns),Y (.lst (cD a b c1)),Y (.int ((j+1:Nat):Int)),Y (.int (v:Nat)),Y (.int (q:Nat)),Y (kS (if one then "one" else "both")),M]=Y (.int (n:Nat)):=by
  have pk:=k0 (f:=eV 4) (ρ:=[Y (.lst (iD l1)),Y (nD ns),Y (.lst (cD a b c1)),Y (.int ((j+1:Nat):Int)),Y (.int (v:Nat)),Y (.int (q:Nat)),Y (kS (if one then "one" else "both")),M]) (v:=v) (n:=4) rfl ſ;rw[show (eK (.int ((4:Nat):Int)):DF)=eK (.int 4) from rfl]at pk;have:v/8%4=0\/v/8%4=1\/v/8%4=2\/v/8%4=3:=by omega
  have ex:∀(f g:DF) (ρ:bY),e2 b9 f g ρ=(f ρ).bind λa=>(g ρ).bind λb=>b9 a b:=λ_ _ _=>rfl
  rw[ex,pk];rcases this with z|z|z|z<;>rw[z]
  ·exact⟨2,ſ,by kernel_rfl⟩
  ·exact⟨1,ſ,by kernel_rfl⟩
  ·exact⟨0,ſ,by kernel_rfl⟩
  ·exact⟨2,ſ,by kernel_rfl⟩
 rw[aB (dr ev)];simp only[aY,aZ];obtain⟨ws,l2,a2,b2,c2,e,g1,g2,g3,g4,g5⟩:=OM hA (kn:=if one then "one" else "both") n hn (l:=l1) (a:=a) (b:=b) (c:=c1) (x4:=Y (.int (v:Nat))) (x5:=Y (.int (q:Nat)));have zz:1+qo ws<=zB (j+1):=by
  rcases j with _|_|j
  ·simp only[zB]at g4 ⊢;omega
  ·simp only[zB]at g4 ⊢;omega
  ·omega
 have ss:EJ ws<=sB (j+1):=by
  rcases j with _|_|j
  ·simp only[sB]at g5 ⊢;omega
  ·simp only[sB]at g5 ⊢;omega
  ·omega
 cases one with
 |true=>refine⟨.one ws,l2,a2,b2,c2,?_,⟨g1,g2,by simp only[je];omega,zz,ss⟩⟩;unfold eW;rw[e];rfl
 |false=>refine⟨.both ws,l2,a2,b2,c2,?_,⟨g1,g2,by simp only[je];omega,zz,ss⟩⟩;unfold eW;rw[e];rfl
def M5{f g:DF}{ρ:bY}{x y:Int}(h:f ρ=Y (.int x))(k:g ρ=Y (.int y)):∃c,i6 (cT (e2 gj f f8)) (cT (e2 AB g f8)) ρ=Y c:=by
 have a:cT (e2 gj f f8) ρ=Y (lH (.int x) (.int 0)):=by unfold cT e2;rw[h];rfl
 have b:cT (e2 AB g f8) ρ=Y (decide ((0:Int)<y)):=by unfold cT e2;rw[k];rfl
 unfold i6;rw[a];simp only[ae];split
 ·exact⟨_,b⟩
 ·exact⟨_,rfl⟩
def II{f:DF}{n:Nat}(h:f a=Y (.int x))(b:0<n):e2 gf f (eK (.int (n:Nat))) a=Y (.int (x%(n:Nat))):=by
 unfold e2;rw[h];show (if (0:Int)<(n:Nat) then Y (D.int (x%(n:Nat))) else M)=_;rw[if_pos (by omega)]
def VS(v:Nat):fh (.int (v:Nat)) (.int 3)=Y (.int ((v/3:Nat):Int)):=by
 simp only[fh];rw[if_pos ⟨by decide,by decide⟩];rfl
def SK(v:Nat):fh (.int (v:Nat)) (.int 12)=Y (.int ((v/12:Nat):Int)):=by
 simp only[fh];rw[if_pos ⟨by decide,by decide⟩];rfl
def GX{A B:List D->Option (D×List D×List D)}{ns:List aG}{k:Nat}(hn:NO ns)(hA:PU A ns k){l:List Nat}{a b c:Int}{fd:List D}{x5 x6 x7 x8:Option D}(hf:fd.length<=10):
  ∃(i:Bool) (nm:Option aG) (w:Wi) (l':List Nat) (a' b' c':Int) (y6 y7 y8:Option D),lQ A B [Y (.lst (iD l)),Y (nD ns),Y (.lst (cD a b c)),Y (.int (k:Nat)),Y (.lst fd),x5,x6,x7,x8]=Y (.nx [Y (.lst (iD l')),Y (nD ns),Y (.lst (cD a' b' c')),Y (.int (k:Nat)),Y (.lst (fd++[mv (eC i) (cL nm) (cq w)])),x5,y6,y7,y8])/\nm≠Y (ab "*")/\GW k w:=by
 obtain⟨v,l1,ep⟩:=vL (l:=l) (r:=[Y (nD ns),Y (.lst (cD a b c)),Y (.int (k:Nat)),Y (.lst fd),x5,x6,x7,x8]);unfold lQ;rw[aB (ρ':=[Y (.lst (iD l1)),Y (nD ns),Y (.lst (cD a b c)),Y (.int (k:Nat)),Y (.lst fd),x5,Y (.int (v:Nat)),x7,x8]) (by unfold gG;rw[ep];rfl)];rw[aB (ρ':=[Y (.lst (iD l1)),Y (nD ns),Y (.lst (cD a b c)),Y (.int (k:Nat)),Y (.lst fd),x5,Y (.int (v:Nat)),Y (kS "own"),x8]) rfl];have ex:∀(o:D->D->Option D) (f g:DF) (ρ:bY),e2 o f g ρ=(f ρ).bind λa=>(g ρ).bind λb=>o a b:=λ_ _ _ _=>rfl
 obtain⟨n0,hn0,ev⟩:∃n0,n0∈ns/\e2 b9 (eV 1) (e2 gf (e2 fh (eV 6) No) (a_ ik (aC (eV 1) aN))) [Y (.lst (iD l1)),Y (nD ns),Y (.lst (cD a b c)),Y (.int (k:Nat)),Y (.lst fd),x5,Y (.int (v:Nat)),Y (kS "own"),x8]=Y (.str n0):=by
  have f1:e2 fh (eV 6) No [Y (.lst (iD l1)),Y (nD ns),Y (.lst (cD a b c)),Y (.int (k:Nat)),Y (.lst fd),x5,Y (.int (v:Nat)),Y (kS "own"),x8]=Y (.int ((v/12:Nat):Int)):=SK v;have pos:0<ns.length:=List.length_pos_iff.mpr hn.ne;have f2:e2 gf (e2 fh (eV 6) No) (a_ ik (aC (eV 1) aN)) [Y (.lst (iD l1)),Y (nD ns),Y (.lst (cD a b c)),Y (.int (k:Nat)),Y (.lst fd),x5,Y (.int (v:Nat)),Y (kS "own"),x8]=Y (.int ((v/12%ns.length:Nat):Int)):=by rw[ex,f1];show (if (0:Int)<(((ns.map D.str).length:Nat):Int) then Y (D.int (((v/12:Nat):Int)%(((ns.map D.str).length:Nat):Int))) else M)=_;rw[bj,if_pos (by omega)];rfl
  have lt:v/12%ns.length<ns.length:=Nat.mod_lt _ pos;refine⟨ns[v/12%ns.length],t7 lt,?_⟩;rw[ex,f2];show p_ (ns.map D.str) ((v/12%ns.length:Nat):Int)=_;exact eT (j:=v/12%ns.length) (by rw[aV,aX lt];rfl)
 rw[aB (dr ev)];simp only[aY,aZ];obtain⟨i,a1,Y9⟩:∃(i:Bool) (a1:Int),ie (i6 (cT (e2 gj (e2 gf (eV 6) re) f8)) (cT (e2 AB (e2 b9 (eV 2) f8) f8))) (bp (eM 7 ge) (sj 2 f8 (e2 ku (e2 b9 (eV 2) f8) v6))) dG [Y (.lst (iD l1)),Y (nD ns),Y (.lst (cD a b c)),Y (.int (k:Nat)),Y (.lst fd),x5,Y (.int (v:Nat)),Y (kS "own"),Y (.str n0)]=Y (.nx [Y (.lst (iD l1)),Y (nD ns),Y (.lst (cD a1 b c)),Y (.int (k:Nat)),Y (.lst fd),x5,Y (.int (v:Nat)),Y (.str (eC i)),Y (.str n0)]):=by
  obtain⟨bb,t⟩:=M5 (f:=e2 gf (eV 6) re) (g:=e2 b9 (eV 2) f8) (ρ:=[Y (.lst (iD l1)),Y (nD ns),Y (.lst (cD a b c)),Y (.int (k:Nat)),Y (.lst fd),x5,Y (.int (v:Nat)),Y (kS "own"),Y (.str n0)]) (x:=(v:Int)%3) (y:=a) (II (n:=3) rfl ſ) rfl;cases bb with
  |true=>exact⟨Z',a-1,by rw[iT t];rfl⟩
  |false=>exact⟨Z_,a,by rw[dh t];rfl⟩
 rw[aB Y9];obtain⟨nm,b1,hnm,Nv⟩:∃(nm:Option aG) (b1:Int),nm≠Y (ab "*")/\ie (i6 (cT (e2 gj (e2 gf (e2 fh (eV 6) re) lm) f8)) (cT (e2 AB (e2 b9 (eV 2) v6) f8))) (bp (eM 8 ce) (sj 2 v6 (e2 ku (e2 b9 (eV 2) v6) v6))) dG [Y (.lst (iD l1)),Y (nD ns),Y (.lst (cD a1 b c)),Y (.int (k:Nat)),Y (.lst fd),x5,Y (.int (v:Nat)),Y (.str (eC i)),Y (.str n0)]=Y (.nx [Y (.lst (iD l1)),Y (nD ns),Y (.lst (cD a1 b1 c)),Y (.int (k:Nat)),Y (.lst fd),x5,Y (.int (v:Nat)),Y (.str (eC i)),Y (.str (cL nm))]):=by
  obtain⟨bb,t⟩:=M5 (f:=e2 gf (e2 fh (eV 6) re) lm) (g:=e2 b9 (eV 2) v6) (ρ:=[Y (.lst (iD l1)),Y (nD ns),Y (.lst (cD a1 b c)),Y (.int (k:Nat)),Y (.lst fd),x5,Y (.int (v:Nat)),Y (.str (eC i)),Y (.str n0)]) (x:=((v/3:Nat):Int)%4) (y:=b) (II (n:=4) (VS v) ſ) rfl;cases bb with
  |true=>exact⟨M,b-1,Ž,by rw[iT t];rfl⟩
  |false=>exact⟨Y n0,b,λz=>hn.st n0 hn0 (by injection z),by rw[dh t];rfl⟩
 rw[aB Nv];obtain⟨w,l2,a2,b2,c2,e,g⟩:=hA l1 a1 b1 c;refine⟨i,nm,w,l2,a2,b2,c2,Y (.int (v:Nat)),Y (.str (eC i)),Y (.str (cL nm)),?_,hnm,g⟩;have m:j5 A 0 (eV 1) 2 (aC (eV 3) aN) [Y (.lst (iD l1)),Y (nD ns),Y (.lst (cD a1 b1 c)),Y (.int (k:Nat)),Y (.lst fd),x5,Y (.int (v:Nat)),Y (.str (eC i)),Y (.str (cL nm))]=Y (cq w,[Y (.lst (iD l2)),Y (nD ns),Y (.lst (cD a2 b2 c2)),Y (.int (k:Nat)),Y (.lst fd),x5,Y (.int (v:Nat)),Y (.str (eC i)),Y (.str (cL nm))]):=by
  have:∀F:List D->Option (D×List D×List D),j5 F 0 (eV 1) 2 (aC (eV 3) aN) [Y (.lst (iD l1)),Y (nD ns),Y (.lst (cD a1 b1 c)),Y (.int (k:Nat)),Y (.lst fd),x5,Y (.int (v:Nat)),Y (.str (eC i)),Y (.str (cL nm))]=(F [.lst (iD l1),nD ns,.lst (cD a1 b1 c),.int (k:Nat)]).map λr=>(r.1,[Y (.lst r.2.1),Y (nD ns),Y (.lst r.2.2),Y (.int (k:Nat)),Y (.lst fd),x5,Y (.int (v:Nat)),Y (.str (eC i)),Y (.str (cL nm))]):=λF=>rfl
  rw[this,e];rfl
 have tp:qN (iw (mP (eV 7)) (iw (mP (eV 8)) (iw (j5 A 0 (eV 1) 2 (aC (eV 3) aN)) lG))) [Y (.lst (iD l1)),Y (nD ns),Y (.lst (cD a1 b1 c)),Y (.int (k:Nat)),Y (.lst fd),x5,Y (.int (v:Nat)),Y (.str (eC i)),Y (.str (cL nm))]=Y (mv (eC i) (cL nm) (cq w),[Y (.lst (iD l2)),Y (nD ns),Y (.lst (cD a2 b2 c2)),Y (.int (k:Nat)),Y (.lst fd),x5,Y (.int (v:Nat)),Y (.str (eC i)),Y (.str (cL nm))]):=by
  have mt3:∀ {f g h:DM}{ρ ρ1 ρ2 ρ3:bY}{x y z:D},f ρ=Y (x,ρ1)->g ρ1=Y (y,ρ2)->h ρ2=Y (z,ρ3)->qN (iw f (iw g (iw h lG))) ρ=Y (.tup [x,y,z],ρ3):=by intro f g h ρ ρ1 ρ2 ρ3 x y z e1 e2 e3;unfold qN iw;rw[e1];simp only[ae];rw[e2];simp only[ae];rw[e3];rfl
  exact mt3 rfl rfl m
 unfold GY;rw[tp];show (if fd.length<dA then _ else M)=_;rw[if_pos (i9 (by omega))];rfl
def Sn{f:DM}{j:Int}(e:f b=Y (.int j,a))(h : -(2 ^ 62)<=j/\j<2 ^ 62):Uh f b=Y (fG 0 j.toNat,a):=by
 simp only[Uh,e,ae];rw[if_pos h]
def OY{f:DM}{b a:bY}(e:n=1\/n=2)(h:f b=Y (.int (n:Nat),a)):Uh f b=Y (fG 0 n,a):=by
 have c:((n:Nat):Int)<=2:=by omega
 have d:(0:Int)<=((n:Nat):Int):=by omega
 rw[Sn h ⟨mq (by decide) d,gX c (by decide)⟩,cN]
def GV{A B:List D->Option (D×List D×List D)}{ns:List aG}{k:Nat}(hn:NO ns)(hA:PU A ns k):YK (uk 4 9 0 2 (iF A B)) ns k:=by
 intro l a b c;obtain⟨v,l1,ep⟩:=vL (l:=l) (r:=[Y (nD ns),Y (.lst (cD a b c)),Y (.int (k:Nat)),Y (.lst []),M,M,M,M]);have run:uk 4 9 0 2 (iF A B) [.lst (iD l),nD ns,.lst (cD a b c),.int (k:Nat)]=(iF A B [Y (.lst (iD l)),Y (nD ns),Y (.lst (cD a b c)),Y (.int (k:Nat)),M,M,M,M,M]).bind (K6 0 2):=rfl;rw[run];clear run;unfold iF;rw[aB (ρ':=[Y (.lst (iD l)),Y (nD ns),Y (.lst (cD a b c)),Y (.int (k:Nat)),Y (.lst []),M,M,M,M]) rfl];obtain⟨n,VE,ev⟩:∃n:Nat,(n=1\/n=2)/\m2 d8 (mP v6) (m2 gf (ny mW 0 aN) (mP u8)) [Y (.lst (iD l)),Y (nD ns),Y (.lst (cD a b c)),Y (.int (k:Nat)),Y (.lst []),M,M,M,M]=Y (.int (n:Nat),[Y (.lst (iD l1)),Y (nD ns),Y (.lst (cD a b c)),Y (.int (k:Nat)),Y (.lst []),M,M,M,M]):=by
  refine⟨1+v%2,ž,?_⟩;have e1:m2 gf (ny mW 0 aN) (mP u8) [Y (.lst (iD l)),Y (nD ns),Y (.lst (cD a b c)),Y (.int (k:Nat)),Y (.lst []),M,M,M,M]=Y (.int ((v%2:Nat):Int),[Y (.lst (iD l1)),Y (nD ns),Y (.lst (cD a b c)),Y (.int (k:Nat)),Y (.lst []),M,M,M,M]):=by unfold m2;rw[ep];rfl
  have m2e:∀(o:D->D->Option D) (f g:DM) (ρ:bY),m2 o f g ρ=(f ρ).bind λp=>(g p.2).bind λq=>(o p.1 q.1).map λd=>(d,q.2):=λ_ _ _ _=>rfl
  rw[m2e,show ∀ρ:bY,mP v6 ρ=Y (.int 1,ρ) from λ_=>rfl];simp only[ae];rw[e1];show Y (D.int (1+((v%2:Nat):Int)),_)=_
  congr 3
 unfold bp Ap;rw[OY VE ev];simp only[ae];obtain⟨i1,WN,w1,l2,a2,b2,c2,y6,y7,y8,s1,h1,g1⟩:=GX (B:=B) hn hA (l:=l1) (a:=a) (b:=b) (c:=c) (fd:=[]) (x5:=Y (.int 0)) (x6:=M) (x7:=M) (x8:=M) Ž;have d1:=g1.d;have z1:=g1.z;have Y9:=g1.s;rcases VE with rfl|rfl
 ·refine⟨.cons i1 WN w1 .nil,l2,a2,b2,c2,?_,⟨⟨h1,g1.n,trivial⟩,⟨g1.o,trivial⟩,by simp only[n_];omega,by simp only[oB];omega,by simp only[xN];omega⟩,λz=>by cases z⟩;rw[show fG 0 1=[.int 0] from rfl,eH (ρ1:=[Y (.lst (iD l1)),Y (nD ns),Y (.lst (cD a b c)),Y (.int (k:Nat)),Y (.lst []),Y (.int 0),M,M,M]) rfl s1];rfl
 ·obtain⟨i2,nm2,w2,l3,a3,b3,c3,z6,z7,z8,s2,h2,g2⟩:=GX (B:=B) hn hA (l:=l2) (a:=a2) (b:=b2) (c:=c2) (fd:=[]++[mv (eC i1) (cL WN) (cq w1)]) (x5:=Y (.int 1)) (x6:=y6) (x7:=y7) (x8:=y8) Ž;have d2:=g2.d;have z2:=g2.z;have Nv:=g2.s;refine⟨.cons i1 WN w1 (.cons i2 nm2 w2 .nil),l3,a3,b3,c3,?_,⟨⟨h1,g1.n,h2,g2.n,trivial⟩,⟨g1.o,g2.o,trivial⟩,by simp only[n_];omega,by simp only[oB];omega,by simp only[xN];omega⟩,λz=>by cases z⟩;rw[show fG 0 2=[.int 0,.int 1] from rfl,eH (ρ1:=[Y (.lst (iD l1)),Y (nD ns),Y (.lst (cD a b c)),Y (.int (k:Nat)),Y (.lst []),Y (.int 0),M,M,M]) rfl s1,eH (ρ1:=[Y (.lst (iD l2)),Y (nD ns),Y (.lst (cD a2 b2 c2)),Y (.int (k:Nat)),Y (.lst ([]++[mv (eC i1) (cL WN) (cq w1)])),Y (.int 1),y6,y7,y8]) rfl s2];rfl
theorem C8(b:NO a):∀(k:Nat),k<=2->∀m,(1+2*k<=m->PU (cH m) a k)/\(2+2*k<=m->YK (cQ m) a k)
 | 0,c,m=>by
  have w:∀m,1+2*0<=m->PU (cH m) a 0:=λm h=>by obtain⟨m,rfl⟩:∃j,m=j+1:=⟨m-1,ž⟩;exact GR (A:=cH m) (B:=cQ m) (λj e=>ž) c
  refine⟨w m,λh =>?_⟩;obtain⟨m,rfl⟩:∃j,m=j+1:=⟨m-1,ž⟩;exact GV (A:=cH m) (B:=cQ m) b (w m ž)
 | k+1,c,m=>by
  have ih:=C8 b k ž;have w:∀m,1+2*(k+1)<=m->PU (cH m) a (k+1):=λm h=>by
   obtain⟨m,rfl⟩:∃j,m=j+1:=⟨m-1,ž⟩;exact GR (A:=cH m) (B:=cQ m) (λj e=>by
    have:j=k:=by omega
    subst this;exact⟨(ih m).1 ž,(ih m).2 ž⟩) c
  refine⟨w m,λh =>?_⟩;obtain⟨m,rfl⟩:∃j,m=j+1:=⟨m-1,ž⟩;exact GV (A:=cH m) (B:=cQ m) b (w m ž)
def wj(n:NO j){k:Nat}(o:k<=2)(l:List Nat)(a b c:Int):∃s d i h f,jQ [.lst (iD l),nD j,.lst (cD a b c),.int (k:Nat)]=Y (.lst (dR s),iD d,cD i h f)/\Ex TX s:=by
 obtain⟨s,d,i,h,f,e,g,m⟩:=(C8 n k o 12).2 ž l a b c;have u:=g.d;have r:=g.z;have t:=g.s;have p:zB k<=13:=by rcases k with _|_|k<;>simp[zB]
 have q:sB k<=6:=by rcases k with _|_|k<;>simp[sB]
 exact⟨s,d,i,h,f,e,g.n,g.o,m,ž,ž,by simp only[aK,jC];omega⟩
open Classical in
def oJ{f g:DF}{ρ:bY}(j:Ex c a)(i:Ex c b)(h:f ρ=Y (eQ a))(k:g ρ=Y (eQ b)):cT (e2 l_ (a_ ff (aC f (aC g aN))) wf) ρ=Y (decide (¬Within a b)):=by
 have l:∀(o:D->D->Option D) (f g:DF) (ρ:bY),e2 o f g ρ=(f ρ).bind λa=>(g ρ).bind λb=>o a b:=λ_ _ _ _=>rfl
 unfold cT;rw[l,Ig h k];rcases x9 j i with⟨w,e⟩|⟨w,d,e⟩
 ·rw[e,decide_eq_false (by simpa using w)];rfl
 ·rw[e,decide_eq_true w];rfl
open Classical in
def Hf{f g:DF}{ρ:bY}(j:Ex c a)(i:Ex c b)(h:f ρ=Y (eQ a))(k:g ρ=Y (eQ b)):cT (e2 Ll (a_ ff (aC f (aC g aN))) wf) ρ=Y (decide (Within a b)):=by
 have l:∀(o:D->D->Option D) (f g:DF) (ρ:bY),e2 o f g ρ=(f ρ).bind λa=>(g ρ).bind λb=>o a b:=λ_ _ _ _=>rfl
 unfold cT;rw[l,Ig h k];rcases x9 j i with⟨w,e⟩|⟨w,d,e⟩
 ·rw[e,decide_eq_true w];rfl
 ·rw[e,decide_eq_false w];rfl
def sX{l:List Nat}{x:Option D}{r:List (Option D)}:∃k a,ny mW 1 aN (x::Y (.lst (iD l))::r)=Y (.int (k:Nat),x::Y (.lst (iD a))::r):=by
 obtain⟨k,a,e⟩:=KR l;refine⟨k,a,?_⟩;have:∀F:List D->Option (D×List D),ny F 1 aN (x::Y (.lst (iD l))::r)=(F [.lst (iD l)]).map λq=>(q.1,x::Y (.lst q.2)::r):=λF=>rfl
 rw[this,e];rfl
open Classical in
def yr(s:Ex o a)(q:Ex o b)(p:Ex o c){r:bY}(x:∃l k j i g e d,r=[l,k,j,i,g,e,d,Y (eQ a),Y (eQ b),Y (eQ c)]):Cy r=Y (.nx r):=by
 obtain⟨l,k,j,i,g,e,d,rfl⟩:=x;unfold Cy;have w:=Hf (ρ:=[l,k,j,i,g,e,d,Y (eQ a),Y (eQ b),Y (eQ c)]) (f:=eV 7) (g:=eV 8) s q rfl rfl;have v:=Hf (ρ:=[l,k,j,i,g,e,d,Y (eQ a),Y (eQ b),Y (eQ c)]) (f:=eV 8) (g:=eV 9) q p rfl rfl;have u:=oJ (ρ:=[l,k,j,i,g,e,d,Y (eQ a),Y (eQ b),Y (eQ c)]) (f:=eV 7) (g:=eV 9) s p rfl rfl;rw[dh ?_]
 ·rfl
 ·unfold i6;rw[w,v,u];simp only[ae];by_cases m:Within a b
  ·by_cases n:Within b c
   ·have t:Within a c:=λf h=>n f (m f h)
    rw[if_pos (by simpa using m),if_pos (by simpa using n)];congr 1;exact decide_eq_false (by simpa using t)
   ·simp[m,n]
  ·simp[m]
def Gb{f:DF}{y:Int}(h:f a=Y (.int x))(k:g a=Y (.int y)):cT (e2 gj f g) a=Y (decide (x=y)):=by
 unfold cT e2;rw[h,k];show Y (lH (.int x) (.int y))=_;rw[rO];by_cases z:x=y
 ·subst z;simp
 ·simp[z]
def O5{f:DF}(h:f a=Y (.int x)):e2 fh f (eK (.int 100)) a=Y (.int (x/100)):=by
 unfold e2;rw[h];show fh (.int x) (.int 100)=_;simp only[fh];rw[if_pos ⟨by decide,by decide⟩]
def z_(h:m6 a=0)(m:b=a\/b∈lN a):m6 b=0/\Within a b:=by
 rcases m with rfl|m
 ·exact⟨h,λ_ k=>k⟩
 ·obtain⟨x,y⟩:=LH a b h m;exact⟨x,λf k=>y _ f k⟩
def Ex.Zi(h:Ex c a)(m:b=a\/b∈lN a):Ex c b:=by
 rcases m with rfl|m
 ·exact h
 ·exact h.lv m
def IZ{G:List D->Option (List D)}{X:J5}{b a:bY}{d:D}{r:List D}(h:X b=Y ([d],a))(k:G [d]=Y r):gG 2 (pC (λc=>(G c).map D.lst) X) b=Y (.nx (a.set 2 (Y (.lst r)))):=by
 unfold gG pC;rw[h];simp only[ae,k];rfl
def Am{X:J5}{b:bY}{r:D}(h:X c=Y (a,b))(k:G a=Y r):gG i (pC G X) c=Y (.nx (b.set i (Y r))):=by
 unfold gG pC;rw[h];simp only[ae,k];rfl
open Classical in
def R7{ns:List Int}{l:List Nat}(hd:rS [.jS ns,.int 200,.int 30]=Y (iD l))(hn:∀v:Nat,∃nm,rR [.int (v:Nat)]=Y (nm.map D.str)/\NO nm):zc [.jS ns]=Y (.bl Z'):=by
 have rn:∀g:DG,jg 1 10 g [.jS ns]=(g [Y (.jS ns),M,M,M,M,M,M,M,M,M]).bind iY:=λg=>rfl
 unfold zc;rw[rn];unfold Mj;rw[aB (ρ':=[Y (.jS ns),Y (.lst (iD l)),M,M,M,M,M,M,M,M]) (by
  have:∀F:List D->Option (List D),kP 1 (kR F (aC (eV 0) (aC (eK (.int 200)) (aC (eK (.int 30)) aN)))) [Y (.jS ns),M,M,M,M,M,M,M,M,M]=(F [.jS ns,.int 200,.int 30]).map λa =>.nx [Y (.jS ns),Y (.lst a),M,M,M,M,M,M,M,M]:=λF=>rfl
  rw[this,hd];rfl)]
 obtain⟨v,l1,e1⟩:=sX (l:=l) (x:=Y (.jS ns)) (r:=[M,M,M,M,M,M,M,M]);obtain⟨nm,SS,WV⟩:=hn v;have acp:∀(f:DM) (ρ ρ1:bY) (d:D),f ρ=Y (d,ρ1)->iw f lG ρ=Y ([d],ρ1):=λf ρ ρ1 d h=>by unfold iw;rw[h];rfl
 rw[aB (ρ':=[Y (.jS ns),Y (.lst (iD l1)),Y (nD nm),M,M,M,M,M,M,M]) (IZ (acp _ _ _ _ e1) SS)];obtain⟨one,l2,_,_,_,e3,q1⟩:=wj WV (k:=2) ſ l1 2 1 1;rw[aB (ρ':=[Y (.jS ns),Y (.lst (iD l2)),Y (nD nm),Y (eQ one),M,M,M,M,M,M]) (by
  have:∀F:List D->Option (D×List D×List D),gG 3 (nu F 1 (eV 2) ul (aC u8 aN)) [Y (.jS ns),Y (.lst (iD l1)),Y (nD nm),M,M,M,M,M,M,M]=(F [.lst (iD l1),nD nm,.lst (cD 2 1 1),.int (2:Nat)]).map λq =>.nx [Y (.jS ns),Y (.lst q.2.1),Y (nD nm),Y q.1,M,M,M,M,M,M]:=λF=>by unfold gG nu;show ((F [.lst (iD l1),nD nm,.lst (cD 2 1 1),.int (2:Nat)]).map _).map _=_;cases F [.lst (iD l1),nD nm,.lst (cD 2 1 1),.int (2:Nat)]<;>rfl
  rw[this,e3];rfl)]
 obtain⟨v4,l3,e4⟩:=sX (l:=l2) (x:=Y (.jS ns)) (r:=[Y (nD nm),Y (eQ one),M,M,M,M,M,M]);obtain⟨m8,m4,c4⟩:=Bc q1 (v4:Nat);have q2:=q1.Zi m4;have V9:∀(f g:DM) (ρ ρ1 ρ2:bY) (d d':D),f ρ=Y (d,ρ1)->g ρ1=Y (d',ρ2)->iw f (iw g lG) ρ=Y ([d,d'],ρ2):=λf g ρ ρ1 ρ2 d d' h k=>by unfold iw;rw[h];simp only[ae];rw[k];rfl
 rw[aB (ρ':=[Y (.jS ns),Y (.lst (iD l3)),Y (nD nm),Y (eQ one),Y (eQ m8),M,M,M,M,M]) (Am (V9 (mP (eV 3)) _ _ _ _ (eQ one) _ rfl e4) c4)];obtain⟨v5,l4,e5⟩:=sX (l:=l3) (x:=Y (.jS ns)) (r:=[Y (nD nm),Y (eQ one),Y (eQ m8),M,M,M,M,M]);obtain⟨last,m5,c5⟩:=Bc q2 (v5:Nat);have q3:=q2.Zi m5;rw[aB (ρ':=[Y (.jS ns),Y (.lst (iD l4)),Y (nD nm),Y (eQ one),Y (eQ m8),Y (eQ last),M,M,M,M]) (Am (V9 (mP (eV 4)) _ _ _ _ (eQ m8) _ rfl e5) c5)];generalize hρ:([Y (.jS ns),Y (.lst (iD l4)),Y (nD nm),Y (eQ one),Y (eQ m8),Y (eQ last),M,M,M,M]:bY)=ρ;have v3:eV 3 ρ=Y (eQ one):=by subst hρ;rfl
 have WA:eV 4 ρ=Y (eQ m8):=by subst hρ;rfl
 have Xh:eV 5 ρ=Y (eQ last):=by subst hρ;rfl
 rw[aB (ρ':=ρ) (by
  rw[dh]
  ·rfl
  ·unfold vq;rw[oJ q1 q1 v3 v3,oJ q3 q3 Xh Xh,decide_eq_false (λz=>z λ_ h=>h),decide_eq_false (λz=>z λ_ h=>h)];rfl)]
 have o3:a_ qd (aC (eV 3) aN) ρ=Y (.int (m6 one:Nat)):=by rw[oW v3];exact BG one 12 q1.d
 have o4:a_ qd (aC (eV 4) aN) ρ=Y (.int (m6 m8:Nat)):=by rw[oW WA];exact BG m8 12 q2.d
 rw[aB (ρ':=ρ) (by
  rw[dh]
  ·rfl
  ·unfold i6;rw[Gb o3 (y:=0) rfl];simp only[ae];by_cases z:((m6 one:Nat):Int)=0
   ·have z0:m6 one=0:=by omega
    obtain⟨z1,w1⟩:=z_ z0 m4;obtain⟨_,w2⟩:=z_ z1 m5;rw[if_pos (decide_eq_true z)];unfold vq;rw[oJ q1 q2 v3 WA,oJ q2 q3 WA Xh,decide_eq_false (λy=>y w1),decide_eq_false (λy=>y w2)];rfl
   ·rw[if_neg (by simpa using z)])]
 rw[aB (ρ':=ρ) (by
  rw[dh]
  ·rfl
  ·unfold i6;rw[Gb (O5 o3) (y:=1) rfl];simp only[ae];by_cases z:((m6 one:Nat):Int)/100=1
   ·rw[if_pos (decide_eq_true z)];have sb:e2 ku (a_ qd (aC (eV 3) aN)) v6 ρ=Y (.int (((m6 one:Nat):Int)-1)):=by rw[show ∀(f g:DF) (ρ:bY),e2 ku f g ρ=(f ρ).bind λa=>(g ρ).bind λb=>ku a b from λ_ _ _=>rfl,o3];rfl
    rw[Gb o4 sb];simp only[ae];by_cases y:((m6 m8:Nat):Int)=((m6 one:Nat):Int)-1
    ·rw[if_pos (decide_eq_true y),oJ q2 q1 WA v3];have w:Within m8 one:=by
      rcases m4 with rfl|m4
      ·omega
      ·exact λf k=>Fe one m8 (by omega) m4 (by omega) _ f k
     rw[decide_eq_false (λx=>x w)]
    ·rw[if_neg (by simpa using y)]
   ·rw[if_neg (by simpa using z)])]
 subst hρ;obtain⟨vb,l5,_,_,_,e6,q4⟩:=wj WV (k:=1) ſ l4 2 1 1;rw[aB (ρ':=[Y (.jS ns),Y (.lst (iD l5)),Y (nD nm),Y (eQ one),Y (eQ m8),Y (eQ last),Y (eQ vb),M,M,M]) (by
  have:∀F:List D->Option (D×List D×List D),gG 6 (nu F 1 (eV 2) ul (aC v6 aN)) [Y (.jS ns),Y (.lst (iD l4)),Y (nD nm),Y (eQ one),Y (eQ m8),Y (eQ last),M,M,M,M]=(F [.lst (iD l4),nD nm,.lst (cD 2 1 1),.int (1:Nat)]).map λq =>.nx [Y (.jS ns),Y (.lst q.2.1),Y (nD nm),Y (eQ one),Y (eQ m8),Y (eQ last),Y q.1,M,M,M]:=λF=>by unfold gG nu;show ((F [.lst (iD l4),nD nm,.lst (cD 2 1 1),.int (1:Nat)]).map _).map _=_;cases F [.lst (iD l4),nD nm,.lst (cD 2 1 1),.int (1:Nat)]<;>rfl
  rw[this,e6];rfl)]
 have t1:=yr q1 q2 q3 (r:=[Y (.jS ns),Y (.lst (iD l5)),Y (nD nm),Y (eQ one),Y (eQ m8),Y (eQ last),Y (eQ vb),Y (eQ one),Y (eQ m8),Y (eQ last)]) ⟨_,_,_,_,_,_,_,rfl⟩;have t2:=yr q1 q4 q3 (r:=[Y (.jS ns),Y (.lst (iD l5)),Y (nD nm),Y (eQ one),Y (eQ m8),Y (eQ last),Y (eQ vb),Y (eQ one),Y (eQ vb),Y (eQ last)]) ⟨_,_,_,_,_,_,_,rfl⟩;have t3:=yr q4 q1 q2 (r:=[Y (.jS ns),Y (.lst (iD l5)),Y (nD nm),Y (eQ one),Y (eQ m8),Y (eQ last),Y (eQ vb),Y (eQ vb),Y (eQ one),Y (eQ m8)]) ⟨_,_,_,_,_,_,_,rfl⟩;have it:iL (eF Db) [Y (.jS ns),Y (.lst (iD l5)),Y (nD nm),Y (eQ one),Y (eQ m8),Y (eQ last),Y (eQ vb),M,M,M]=Y [.tup [eQ one,eQ m8,eQ last],.tup [eQ one,eQ vb,eQ last],.tup [eQ vb,eQ one,eQ m8]]:=rfl;rw[aB (((gB it).trans (eH rfl t1)).trans ((eH rfl t2).trans ((eH rfl t3).trans rfl)))];rfl
end K21
namespace L2
open PySem
def Wt{i j:Int}(h : -(2 ^ 64)<j/\j<2 ^ 64):r9 (.int i) (.int j)=Y (.int (i*j)):=by simp only[r9];rw[if_pos (.inr h)]
def Nn{i j:Int}(h : -(2 ^ 64)<i/\i<2 ^ 64):r9 (.int i) (.int j)=Y (.int (i*j)):=by simp only[r9];rw[if_pos (.inl h)]
def uA{i j:Int}(h:0<j):gf (.int i) (.int j)=Y (.int (i%j)):=by simp only[gf];rw[if_pos h]
def yA{i j:Int}(h:0<j/\j<2 ^ 64):fh (.int i) (.int j)=Y (.int (i/j)):=by simp only[fh];rw[if_pos h]
def YF{i j:Int}:d8 (.int i) (.int j)=Y (.int (i+j)):=rfl
def Xw{i j:Int}:ku (.int i) (.int j)=Y (.int (i-j)):=rfl
def eqI{i j:Int}:gj (.int i) (.int j)=Y (.bl (i==j)):=rfl
def eqB{i j:Bool}:gj (.bl i) (.bl j)=Y (.bl (i==j)):=rfl
def eqS{i j:aG}:gj (.str i) (.str j)=Y (.bl (i==j)):=rfl
def neI{i j:Int}:Dq (.int i) (.int j)=Y (.bl (!(i==j))):=rfl
def neS{i j:aG}:Dq (.str i) (.str j)=Y (.bl (!(i==j))):=rfl
def ltI{i j:Int}:P2 (.int i) (.int j)=Y (.bl (decide (i<j))):=rfl
def gtI{i j:Int}:AB (.int i) (.int j)=Y (.bl (decide (j<i))):=rfl
def ixL{xs:List D}{i:Int}:b9 (.lst xs) (.int i)=p_ xs i:=rfl
def ixT{xs:List D}{i:Int}:b9 (.tup xs) (.int i)=p_ xs i:=rfl
def XW{xs:List D}:ik [.lst xs]=Y (.int xs.length):=rfl
def XU{xs:List D}:ik [.tup xs]=Y (.int xs.length):=rfl
def geI{i j:Int}:WM (.int i) (.int j)=Y (.bl (decide (j<=i))):=rfl
def wk(xs:List Int)(n:Nat)(v:Int):(xs.map D.int).set n (.int v)=(xs.set n v).map D.int:=by rw[List.map_set]
end L2
namespace K21
open PySem L2
local macro_rules | `(tactic|walk_at "v")=>do
 let a←("jg De gQ bp eM kP fF wm ui ie dG iX vH sj eX e2 eV eK eF f9 dN a_ kR aC aN cT i6 vq ua mY iL iE wL iR2 pN pS wM Gd iS kM rV eIs aK jC aW qg fS cf bK List.getElem?_cons_zero NL List.getElem?_nil Option.join_some Option.join_none ae bP Option.getD_some YF Xw eqI eqB eqS neI neS ltI gtI geI ixL ixT XW XU aY aZ if_true if_false dO iY K5 Nat.reduceAdd Nat.reduceSub Nat.reduceLeDiff".splitOn " ").toArray.mapM fun s=>`(Lean.Parser.Tactic.simpLemma|$(Lean.mkIdent s.toName):term)
 `(tactic|simp only[$a,*])
def MC(n:List Int)(K:n.length<=63)(kj a:Int)(t0:0<=kj)(t1:kj<=1000)(m0:0<=a)(m1:a<=1000):∃E:List Int,rS [.jS n,.int kj,.int a]=Y (E.map D.int)/\E.length=a.toNat/\∀x∈E,0<=x:=by
 have X:(zo n M (Y 63)).length<=63:=a7 (Th _ _ _) K;generalize u:zo n M (Y 63)++[kj]=c;have Q:1<=c.length:=by rw[<- u];simp
 have P:c.length<=64:=by rw[<- u];simp;omega
 have e1:d8 (.lst ((zo n M (Y 63)).map D.int)) (.lst [.int kj])=Y (.lst (c.map D.int)):=by simp only[d8];rw[if_pos (by simp[kG];omega),<- u];simp
 obtain⟨S,O⟩:=Cz (xs:=c) (z:=0) ſ ž;unfold rS Ca;walk_at "v";rw[e1];walk_at "v";rw[O];walk_at "v";rw[yA ⟨by decide,by decide⟩];walk_at "v";rw[uA (by decide)];walk_at "v";by_cases R:(S/50000%2==1)=Z'
 ·rw[R];walk_at "v";have T:(c.map D.int).length<=dA:=by simp[kG];omega
  rw[if_pos T];rw[LU (h:=λd=>match d with|.int i =>.int (i/100000)|d=>d) (λd B=>by obtain⟨i,_,rfl⟩:=bc.mp B;exact⟨_,rfl,by walk_at "v";rw[yA ⟨by decide,by decide⟩]⟩)]
  have el:(c.map D.int).map (λd=>match d with|.int i =>.int (i/100000)|d=>d)=(c.map (· / 100000)).map D.int:=by simp
  rw[el];walk_at "v";rw[if_pos (show -(2 ^ 62)<=kj+a/\kj+a<2 ^ 62 from⟨by omega,by omega⟩)];walk_at "v";have L:(c.map (· / 100000)).length=c.length:=by simp
  have q:(fG 0 (kj+a).toNat).length=(kj+a).toNat:=oE _ _;obtain⟨C,N,⟨g,l,p,H,rfl,e,t,b⟩⟩:=D3 (τ:=gN 6) (g:=rP) (ds:=fG 0 (kj+a).toNat) (λi w=>∃(g l:List Int) (p H:Option D),w=[Y (.jS n),Y (.int kj),Y (.int a),Y (.lst (c.map D.int)),Y (.lst (g.map D.int)),Y (.lst (l.map D.int)),p,H,M,M]/\g.length=i-kj.toNat/\l.length=c.length/\∀x∈g,0<=x)
   (ρ:=[Y (.jS n),Y (.int kj),Y (.int a),Y (.lst (c.map D.int)),Y (.lst []),Y (.lst ((c.map (· / 100000)).map D.int)),M,M,M,M]) ⟨[],c.map (· / 100000),M,M,rfl,Ž,L,λx h=>by cases h⟩ (by
   rintro j d w B ⟨g,l,p,H,rfl,e,t,b⟩;obtain⟨U,rfl⟩:=um B;have m:(0:Int)<(l.length:Int):=by omega
   have z:=eL (0+(j:Int)) (show (l.length:Int)≠0 by omega);have y:=eN (0+(j:Int)) m;obtain⟨v,ev⟩:=Cz (xs:=l) z y;by_cases A:kj<=0+(j:Int)
   ·refine⟨_,[Y (.jS n),Y (.int kj),Y (.int a),Y (.lst (c.map D.int)),Y (.lst ((g++[v%2147483587]).map D.int)),Y (.lst ((l.set ((0+(j:Int))%(l.length:Int)).toNat (v/2147483587)).map D.int)),Y (.int (0+(j:Int))),Y (.int ((0+(j:Int))%(l.length:Int))),M,M],rfl,?_,⟨_,_,_,_,rfl,by simp[e];omega,by simp[t],λx I =>?_⟩⟩
    ·unfold rP;walk_at "v";rw[bj,uA m];walk_at "v";rw[decide_eq_true A];walk_at "v";rw[ev];walk_at "v";rw[uA (by decide)];walk_at "v";rw[if_pos (by rw[bj,kG];omega)];walk_at "v";rw[ev];walk_at "v";rw[yA ⟨by decide,by decide⟩];walk_at "v";rw[bj,HA z y];walk_at "v";rw[wk];simp
    ·rcases aD.mp I with h|h
     ·exact b x h
     ·rw[bR.mp h];exact eL _ ſ
   ·refine⟨_,[Y (.jS n),Y (.int kj),Y (.int a),Y (.lst (c.map D.int)),Y (.lst (g.map D.int)),Y (.lst ((l.set ((0+(j:Int))%(l.length:Int)).toNat (v/2147483587)).map D.int)),Y (.int (0+(j:Int))),Y (.int ((0+(j:Int))%(l.length:Int))),M,M],rfl,?_,⟨_,_,_,_,rfl,by rw[e];omega,by simp[t],b⟩⟩;unfold rP;walk_at "v";rw[bj,uA m];walk_at "v";rw[decide_eq_false A];walk_at "v";rw[ev];walk_at "v";rw[yA ⟨by decide,by decide⟩];walk_at "v";rw[bj,HA z y];walk_at "v";rw[wk])
  rw[N];walk_at "v";rw[q]at e;exact⟨g,rfl,by rw[e];omega,b⟩
 ·have W:(S/50000%2==1)=false:=by simpa using R
  rw[W];walk_at "v";rw[if_pos (show -(2 ^ 62)<=a/\a<2 ^ 62 from⟨by omega,by omega⟩)];walk_at "v";have q:(fG 0 a.toNat).length=a.toNat:=oE _ _;obtain⟨C,N,⟨g,p,G,F,rfl,e,b⟩⟩:=D3 (τ:=gN 6) (g:=wa) (ds:=fG 0 a.toNat) (λi w=>∃(g:List Int) (p G F:Option D),w=[Y (.jS n),Y (.int kj),Y (.int a),Y (.lst (c.map D.int)),Y (.lst (g.map D.int)),M,p,M,G,F]/\g.length=i/\∀x∈g,0<=x)
   (ρ:=[Y (.jS n),Y (.int kj),Y (.int a),Y (.lst (c.map D.int)),Y (.lst []),M,M,M,M,M]) ⟨[],M,M,M,rfl,rfl,λx h=>by cases h⟩ (by
   rintro j d w B ⟨g,p,G,F,rfl,e,b⟩;obtain⟨U,rfl⟩:=um B;have m:(0:Int)<(c.length:Int):=by omega
   have z:=eL (0+(j:Int)) (show (c.length:Int)≠0 by omega);have y:=eN (0+(j:Int)) m;obtain⟨v,ev⟩:=Cz (xs:=c) z y;generalize J:(0+(j:Int)+kj)*(0+(j:Int)+kj)*7919+104729=o;generalize s:(v%2147483647+o)*48271%2147483647=k;have n0:0<=k:=by rw[<- s];exact eL _ ſ
   have n1:k<2147483647:=by rw[<- s];exact eN _ ſ
   generalize r:(k*k+69621*(0+(j:Int)))%2147483629=f;have p0:0<=f:=by rw[<- r];exact eL _ ſ
   have p1:f<2147483629:=by rw[<- r];exact eN _ ſ
   refine⟨_,[Y (.jS n),Y (.int kj),Y (.int a),Y (.lst (c.map D.int)),Y (.lst ((g++[f*f%2147483587]).map D.int)),M,Y (.int (0+(j:Int))),M,Y (.int o),Y (.int f)],rfl,?_,⟨_,_,_,_,rfl,by simp[e],λx I =>?_⟩⟩
   ·unfold wa;walk_at "v";rw[Nn ⟨by omega,by omega⟩];walk_at "v";rw[Wt ⟨by decide,by decide⟩];walk_at "v";rw[J,bj,uA m];walk_at "v";rw[ev];walk_at "v";rw[uA (by decide)];walk_at "v";rw[Wt ⟨by decide,by decide⟩];walk_at "v";rw[uA (by decide),s];walk_at "v";rw[Nn ⟨by omega,by omega⟩];walk_at "v";rw[Nn ⟨by decide,by decide⟩];walk_at "v";rw[uA (by decide),r];walk_at "v";rw[Nn ⟨by omega,by omega⟩];walk_at "v";rw[uA (by decide)];walk_at "v";rw[if_pos (by rw[bj,kG];omega)];simp
   ·rcases aD.mp I with h|h
    ·exact b x h
    ·rw[bR.mp h];exact eL _ ſ)
  rw[N];walk_at "v";rw[q]at e;exact⟨g,rfl,e,b⟩
open K30
theorem LS{ρ:bY}{τ:zW}{fe:DF}{Pr:D->Prop}:∀ {ds:List D},(∀d∈ds,∃a x,τ d ρ=Y a/\fe a=Y x/\Pr x)->∃b,oO ρ τ fj fe ds=Y b/\b.length=ds.length/\∀x∈b,Pr x
 |[],_=>⟨[],rfl,rfl,λx h=>by cases h⟩
 | d::ds,h=>by
  obtain⟨a,x,l,k,e⟩:=h d aF;obtain⟨b,j,g,f⟩:=LS λd i=>h d (aj _ i)
  refine⟨x::b,?_,by simp[g],λy c =>?_⟩
  ·simp only[oO,l,ae,fj,if_true,k,j,bP]
  ·rcases au.mp c with rfl|c
   ·exact e
   ·exact f y c
def Vs{x:aG}(h:x.length<=dA):ik [.str x]=Y (.int x.length):=by simp[ik,h]
def V8{x y:aG}(h:x.length+y.length<=dA):d8 (.str x) (.str y)=Y (.str (x++y)):=by simp[d8,h]
abbrev pE:aG:=ab "abcdefghijklmnopqrstuvwxyz"
def R5(i:Int)(f:0<=i)(e:i<26):∃c,b9 (.str pE) (.int i)=Y (.str ⟨#[c]⟩)/\97<=c:=by
 have b:pE.length<=dA:=by decide +kernel
 have a:pE.cps.toList.length=26:=by decide +kernel
 obtain⟨c,g,d⟩:=Im (xs:=pE.cps.toList) f (by rw[a];exact e);have h:∀x∈pE.cps.toList,97<=x:=by decide +kernel
 refine⟨c,?_,h c d⟩;simp only[b9];rw[if_pos b,g];rfl
theorem Al(g:Array Nat)(d:g.size=0):∀(c:List aG) (b:Array Nat),(∀x∈c,x.cps.size=1)->(c.foldl (λa (p:aG)=>a++g++p.cps) b).size=b.size+c.length
 |[],b,_=>by simp
 |x::c,b,h=>by rw[pd,Al g d c _ λy e=>h y (aj _ e)];simp[d,h x aF];omega
theorem D5(b:aG)(d:b.length=0):∀(c:List aG) (k:Nat),(∀x∈c,x.length=1)->c.foldl (λa x=>a+x.length+b.length) k=k+c.length
 |[],k,_=>rfl|x::c,k,h=>by rw[pd,D5 b d c _ λy e=>h y (aj _ e),h x aF,d];simp;omega
def OT{a:List D}(h:∀x∈a,∃c,x=.str ⟨#[c]⟩)(i:a.length<=100):∃x:aG,AA (.str (ab "")) (.lst a)=Y (.str x)/\x.length<=100:=by
 have m:a.all B3=true:=by rw[iZ];intro x b;obtain⟨c,rfl⟩:=h x b;rfl
 have e:∀x∈a.map vt,x.length=1:=λx b=>by obtain⟨d,j,rfl⟩:=bc.mp b;obtain⟨c,rfl⟩:=h d j;rfl
 have g:(ab "").length=0:=by decide +kernel
 have l:tf (ab "") (a.map vt)=a.length:=by unfold tf;rw[D5 _ g _ _ e];simp
 have k:(i5 (ab "") (a.map vt)).length<=100:=by
  show ((List.drop 1 (a.map vt)).foldl (λf (p:aG)=>f++(ab "").cps++p.cps) ((a.map vt).headD Str.empty).cps).size<=100;rw[Al _ g _ _ λx b=>e x (List.mem_of_mem_drop b)];cases a with
  |nil=>simp;decide|cons d q=>have:=e (vt d) Ž;have this:(vt d).cps.size=1:=this;simp[this];simp at i;omega
 refine⟨_,?_,k⟩;have o:tf (ab "") (a.map vt)<=dA:=by rw[l,kG];omega
 have n:(i5 (ab "") (a.map vt)).length<=dA:=by rw[kG];omega
 simp only[AA];rw[if_pos (by rw[m,decide_eq_true o,decide_eq_true n];rfl)]
def NZ(b:0<=z)(a:z<=100000): -(2 ^ 64)<z/\z<2 ^ 64:=⟨Int.lt_of_lt_of_le ſ b,gX a ſ⟩
def Cb(L:aG):DG:=
  (bp (eM 2 (eK (.str L)))
  (bp (eM 3 (e2 AA (eK (.str (ab ""))) (eF (mY (wL (e2 gf (eV 1) jp)) [M,Y 2,Y 1] (gN 0) fj (e2 b9 (eV 1) (e2 gf (e2 d8 (e2 fh (eV 2) io) (e2 r9 (eV 0) (eV 0))) Ch))))))
  (bp (eM 4 (e2 gf (e2 fh (eV 1) jp) (e2 d8 (a_ ik (aC (eV 3) aN)) v6)))
  (fF (e2 d8 (e2 d8 (Gd (eV 3) pN (pS (eV 4))) (e2 b9 (eV 2) (e2 gf (e2 d8 (eV 0) (eV 1)) Ch))) (Gd (eV 3) (pS (eV 4)) pN))))))
def VL:F8=Cb pE:=rfl
def Lw(L:aG)(d:∀i:Int,0<=i->i<26->∃c,b9 (.str L) (.int i)=Y (.str ⟨#[c]⟩)/\97<=c)(a z:Int)(b:0<=z)(f:z<=11):∃c,e2 b9 (eV 1) (e2 gf (e2 d8 (e2 fh (eV 2) io) (e2 r9 (eV 0) (eV 0))) Ch) [Y (.int z),Y (.str L),Y (.int a)]=Y (.str ⟨#[c]⟩):=by
 obtain⟨c,e,_⟩:=d ((a/150+z*z)%26) (eL _ ſ) (eN _ ſ);refine⟨c,?_⟩;walk_at "v";rw[yA ⟨by decide,by decide⟩];walk_at "v";rw[Nn (NZ b (by omega))];walk_at "v";rw[uA (by decide)];walk_at "v";exact e
def M1(a:aG)(c:Nat):(a++(⟨#[c]⟩:aG)).length=a.length+1:=by
 show (a.cps ++ #[c]).size=a.cps.size+1;simp
def Lv(L:aG)(u:∀i:Int,0<=i->i<26->∃c,b9 (.str L) (.int i)=Y (.str ⟨#[c]⟩)/\97<=c)(k b:Int):∃x:aG,jg 2 5 (Cb L) [.int k,.int b]=Y (.str x)/\x≠ab "*" :=by
 have A:=eL b (show (11:Int)≠0 by decide);have y:=eN b (show (0:Int)<11 by decide);have s:gf (.int b) (.int 11)=Y (.int (b%11)):=uA ſ;generalize b%11=h at *
 obtain⟨N,E,n,l⟩:=LS (ρ:=[M,Y (.str L),Y (.int b)]) (τ:=gN 0) (fe:=e2 b9 (eV 1) (e2 gf (e2 d8 (e2 fh (eV 2) io) (e2 r9 (eV 0) (eV 0))) Ch)) (Pr:=λx=>∃c,x=.str ⟨#[c]⟩) (ds:=fG 0 h.toNat) λd C=>by
  obtain⟨j,t⟩:=g9.mp C;obtain⟨t,rfl⟩:=um t;have w:(0:Int)<=0+(j:Int):=by omega
  have v:(0:Int)+(j:Int)<=11:=by omega
  generalize (0:Int)+(j:Int)=z at w v;obtain⟨c,r⟩:=Lw L u b z w v;exact⟨_,_,rfl,r,c,rfl⟩
 rw[oE]at n;obtain⟨a,F,D⟩:=OT l ž;obtain⟨c,r,G⟩:=u ((k+b)%26) (eL _ ſ) (eN _ ſ);have f:a.length<=dA:=by rw[kG];omega
 have g:ik [.str a]=Y (.int a.length):=Vs f;have q:(0:Int)<=(a.length:Int):=Int.natCast_nonneg _;have p:(fG 0 h.toNat).length<=dA:=by rw[oE,kG];omega
 have o : -(2 ^ 62)<=h/\h<2 ^ 62:=⟨mq ſ A,Int.lt_trans y ſ⟩;unfold Cb;walk_at "v";rw[s];walk_at "v";rw[if_pos o];walk_at "v";rw[if_pos p];rw[E];walk_at "v";rw[F];walk_at "v";rw[g];generalize (a.length:Int)=H at q;rw[yA ⟨by decide,by decide⟩];walk_at "v";rw[uA (by omega)];walk_at "v";generalize b/11%(H+1)=e;have K:=Txt.slice_le a M (Y e);have J:=Txt.slice_le a (Y e) M;have B:(⟨#[c]⟩:aG).length=1:=rfl;rw[if_pos f,uA (by decide)];walk_at "v";rw[r];walk_at "v";rw[V8 (by rw[B,kG];omega)];walk_at "v";rw[if_pos f];walk_at "v";rw[V8 (by rw[M1,kG];omega)];refine⟨_,rfl,λz =>?_⟩;have m:c∈((CS a M (Y e))++(⟨#[c]⟩:aG)++(CS a (Y e) M)).cps.toList:=by show c∈(((CS a M (Y e)).cps ++ #[c])++(CS a (Y e) M).cps).toList;simp
 rw[z]at m;have I:∀x∈(ab "*").cps.toList,x<97:=by decide +kernel
 have:=I c m;omega
def OJ(k a:Int):∃x:aG,wb [.int k,.int a]=Y (.str x)/\x≠ab "*" :=by
 unfold wb;rw[VL];exact Lv pE R5 k a
def Ls(a:Int):∃b:List aG,rR [.int a]=Y (b.map D.str)/\1<=b.length/\b.length<=4/\∀x∈b,x≠ab "*" :=by
 have y:=eL (a/7) (show (2:Int)≠0 by decide);have w:=eN (a/7) (show (0:Int)<2 by decide);have v:gf (.int (a/7)) (.int 2)=Y (.int (a/7%2)):=uA ſ;generalize a/7%2=f at *
 obtain⟨n,p,e,i⟩:=LS (ρ:=[M,Y (.int a)]) (τ:=gN 0) (fe:=a_ wb (aC (eV 0) (aC (eV 1) aN))) (Pr:=λx=>∃c,x=.str c/\c≠ab "*") (ds:=fG 0 (1+f).toNat) λd s=>by obtain⟨j,o⟩:=g9.mp s;obtain⟨o,rfl⟩:=um o;generalize (0:Int)+(j:Int)=z;obtain⟨x,u,q⟩:=OJ z a;refine⟨_,.str x,rfl,?_,x,rfl,q⟩;walk_at "v";exact u
 rw[oE]at e;have m:(fG 0 (1+f).toNat).length<=dA:=by rw[oE,kG];omega
 have l : -(2 ^ 62)<=1+f/\1+f<2 ^ 62:=⟨mq ſ (show 0<=1+f by omega),gX (show 1+f<=4 by omega) ſ⟩;have r:∃b:List aG,n=b.map D.str/\∀x∈b,x≠ab "*" :=by
  clear p e
  induction n with
  |nil=>exact⟨[],rfl,λx h=>by cases h⟩
  |cons d A ih=>
   obtain⟨c,rfl,t⟩:=i d aF;obtain⟨b,rfl,h⟩:=ih λx g=>i x (aj _ g)
   exact⟨c::b,rfl,λx g=>by rcases au.mp g with rfl|g;exact t;exact h x g⟩
 obtain⟨b,rfl,k⟩:=r;refine⟨b,?_,by simp at e;omega,by simp at e;omega,k⟩;unfold rR B_;walk_at "v";rw[yA ⟨by decide,by decide⟩];walk_at "v";rw[v];walk_at "v";rw[if_pos l];walk_at "v";rw[if_pos m,p];rfl
theorem Dv:∀(a:List Int),(∀x∈a,0<=x)->∃l:List Nat,a.map D.int=iD l
 |[],_=>⟨[],rfl⟩| x::a,h=>by
  obtain⟨l,e⟩:=Dv a λy b=>h y (aj _ b)
  obtain⟨n,c⟩:=NM (h x aF);exact⟨n::l,by rw[aW,e,c];rfl⟩
def LW(a:List Int)(h:a.length<=63):zc [.jS a]=Y (.bl Z'):=by
 obtain⟨b,e,_,d⟩:=MC a h 200 30 ſ ſ ſ ſ;obtain⟨l,j⟩:=Dv b d;rw[j]at e;refine R7 e λv =>?_
 obtain⟨c,i,g,k,f⟩:=Ls (v:Nat);exact⟨c,i,by intro z;subst z;simp at g,f,ž⟩
end K21
namespace L2
open PySem PySem.Spec PyProof.Rows
section
variable {P:be}{w:dz}{K:aT}{mg:aG->Option ai}{base:dC}{x c:aG}{sp:Sp}{f:az}{fd:fy}{ps:List aG}{n k:Nat}
def hW.m(h:hW P w K mg base x n sp)(hk:autoParam (n<=k) ű):hW P w K mg base x k sp:=h.mono hk
def jb.m(h:jb P w K mg base c x n sp)(hk:autoParam (n<=k) ű):jb P w K mg base c x k sp:=h.mono hk
def zR.m(h:zR P w K mg base c n sp)(hk:autoParam (n<=k) ű):zR P w K mg base c k sp:=h.mono hk
def hW.o(h:hW P w K mg base x n sp)(hk:autoParam (n<=k) Ũ):hW P w K mg base x k sp:=h.mono hk
def jb.o(h:jb P w K mg base c x n sp)(hk:autoParam (n<=k) Ũ):jb P w K mg base c x k sp:=h.mono hk
def Y2{F:List D->Option (List D)}(e:∀ds,F ds=M):dg P w K mg base jA n f fd ps (Bt K F):=by
 constructor
 ·intro vs H Q E h;cases h;simp_all
 ·intro A o s H args us vs Q E hr he hb hv h;cases h;simp_all
def Ux{F:List D->Option (D×List D×List D)}(e:∀ds,F ds=M):dg P w K mg base jA n f fd ps (rW K 0 2 F):=by
 constructor
 ·intro vs H Q E h;cases h;simp_all
 ·intro A o s H args us vs Q E hr he hb hv h;cases h;simp_all
def Q3{F:List D->Option D}(e:∀ds,F ds=M):dg P w K mg base jA n f fd ps (gO K F):=by
 constructor
 ·rintro vs H Q E ⟨G,ds,d,gh,r,eq,_⟩;rw[e]at eq;cases eq
 ·rintro A o s H args us vs Q E hr he hb hv ⟨G,ds,d,gh,r,eq,_⟩;rw[e]at eq;cases eq
def Y1{s:Sk}{F:List D->Option (D×D)}(e:∀ds,F ds=M):dg P w K mg base jA n f fd ps (spT K s F):=by
 constructor
 ·rintro vs H Q E ⟨G,t,xs,d,t',a,T,us,_,_,_,_,_,_,eq,_⟩;rw[e]at eq;cases eq
 ·rintro A o s H args us vs Q E hr he hb hv ⟨G,t,xs,d,t',a,T,us,_,_,_,_,_,_,eq,_⟩;rw[e]at eq;cases eq
end
end L2
namespace K21
open PySem L2
def ac{α:Type}{P:α->Prop}{a:α}{l:List α}(h:P a)(t:∀x∈l,P x):∀x∈a::l,P x:=oz.mpr ⟨h,t⟩
abbrev FA(K:aT)(x:aG)(st:eJ):Prop:=∃f fd,vd K br x=Y (Y (.ref f))/\kh K x x st f fd
def Wl{K:aT}{x:aG}{st:eJ}{f:az}{od an:Option az}{sl:Array (Option ai)}{oc kV dc pm cd ct:ai}(a:vd K br x=Y (Y (.ref f)))(l:K.lookup f=Y ⟨oc,od,.func (fnOf x x (nF st) (iU st) (aM st) .none kV dc pm an cd ct),sl⟩)(c:codeIn K cd x=Z')(k:EC K (.ref f)=Z'):FA K x st:=⟨f,_,a,Mn l c k⟩
abbrev MA(K:aT)(c m qual:aG)(st:eJ):Prop:=∃C f fd,vd K br c=Y (Y (.ref C))/\ve K (.ref C) m=Y (Y (.ref f))/\PySem.W.isFn K (.ref f)=Z'/\kh K m qual st f fd
def Wg{K:aT}{x:aG}{st:eJ}{f:az}{od an:Option az}{sl:Array (Option ai)}{oc kV dc pm cd ct:ai}{c0 qual:aG}{C:az}(aC:vd K br c0=Y (Y (.ref C)))(a:ve K (.ref C) x=Y (Y (.ref f)))(i:PySem.W.isFn K (.ref f)=Z')(l:K.lookup f=Y ⟨oc,od,.func (fnOf x qual (nF st) (iU st) (aM st) .none kV dc pm an cd ct),sl⟩)(c:codeIn K cd qual=Z')(k:EC K (.ref f)=Z'):MA K c0 x qual st:=⟨C,f,_,aC,a,i,Mn l c k⟩
def bk0{us:List ai}(e:us.length=0):us=[]:=by
 rcases us with _|_<;>first|rfl|simp at e
def bk1{us:List ai}(e:us.length=1):∃a,us=[a]:=by
 rcases us with _|⟨_,_|_⟩<;>first|exact⟨_,rfl⟩|simp at e
def bk2{us:List ai}(e:us.length=2):∃a b,us=[a,b]:=by
 rcases us with _|⟨_,_|⟨_,_|_⟩⟩<;>first|exact⟨_,_,rfl⟩|simp at e
def bk3{us:List ai}(e:us.length=3):∃a b c,us=[a,b,c]:=by
 rcases us with _|⟨_,_|⟨_,_|⟨_,_|_⟩⟩⟩<;>first|exact⟨_,_,_,rfl⟩|simp at e
def bk4{us:List ai}(e:us.length=4):∃a b c d,us=[a,b,c,d]:=by
 rcases us with _|⟨_,_|⟨_,_|⟨_,_|⟨_,_|_⟩⟩⟩⟩<;>first|exact⟨_,_,_,_,rfl⟩|simp at e
local macro_rules | `(tactic|walk_at "b") => `(tactic|(intro _ _ _ _ _ _ us hl; (first |obtain ⟨_,e⟩ := bk1 hl |obtain ⟨_,_,e⟩ := bk2 hl |obtain ⟨_,_,_,e⟩ := bk3 hl |obtain ⟨_,_,_,_,e⟩ := bk4 hl |have e := bk0 hl); subst e; rfl))
section
variable {P:be}{w:dz}{K:aT}{h base:dC}{mg:aG->Option ai}{x c q:aG}{st:eJ}{sp:Sp}{ps:List aG}{n:Nat}{C:az}
structure EN(P:be)(w:dz)(K:aT)(mg:aG->Option ai)(base h:dC):Prop where
 X:K.In h
 G:h.Ns br mg
abbrev CL(K:aT)(c:aG):Prop:=∃C,vd K br c=Y (Y (.ref C))/\IH K C/\makesIn K C=Z'/\EC K (.ref C)=Z'
abbrev NA(K:aT)(c f:aG):Prop:=∃C,vd K br c=Y (Y (.ref C))/\qa K C f
def Wo(a:vd K br c=Y (Y (.ref C)))(pg:plainGet K C Str.empty=Z')(hd:hasDictIn K C=Z')(po:plainOver K C=Z')(sa:ve K (.ref C) "__setattr__" = Y (Y (.builtin "object.__setattr__")))(mk:makesIn K C=Z')(kc:EC K (.ref C)=Z'):CL K c:=⟨C,a,⟨pg,hd,po,sa⟩,mk,kc⟩
def We(a:vd K br c=Y (Y (.ref C)))(n:ve K (.ref C) x=Y M):NA K c x:=⟨C,a,n⟩
def YD(h:CL K c)(n:NA K c x):r_ K c x:=by
 obtain⟨C,a,cl,_,_⟩:=h;obtain⟨C',a',n⟩:=n;intro D e;rw[a]at e a';cases e;cases a';exact⟨cl,n⟩
abbrev BB(x q:aG)(st:eJ)(ps:List aG):Prop:=∀(kV QY pm:ai) (an:Option az) (Py ct:ai) (us:List ai),us.length=ps.length->bindArgs (fnOf x q (nF st) (iU st) (aM st) .none kV QY pm an Py ct) ⟨us,[]⟩=fi (ps.zip us)
def FA.pB(q:FA K x st)(e:EN P w K mg base h)(o:∀f fd,kh K x x st f fd->dg P w K mg base jA n f fd ps sp)(hb:autoParam (BB x x st ps) ŵ):hW P w K mg base x n sp:=by
 obtain⟨f,fd,a,F⟩:=q;exact⟨f,fd,ps,o f fd F,mg_of e.X e.G a,F.kp,F.binds hb⟩
def MA.Hk(r:MA K c x q st)(_:EN P w K mg base h)(h:CL K c)(o:∀f fd,kh K x q st f fd->dg P w K mg base jA n f fd ps sp)(hb:autoParam (BB x q st ps) ŵ):jb P w K mg base c x n sp:=by
 obtain⟨C',f,fd,a',i,j,F⟩:=r;obtain⟨C,a,cl,_,_⟩:=h;rw[a]at a';cases a';exact⟨_,f,fd,ps,a,cl,⟨i,j,F.kp⟩,o f fd F,F.binds hb⟩
def MA.Zf(r:MA K c "__init__" q st)(e:EN P w K mg base h)(k:CL K c)(o:∀f fd,kh K "__init__" q st f fd->dg P w K mg base jA n f fd ps sp)(hb:autoParam (BB "__init__" q st ps) ŵ):zR P w K mg base c n sp:=by
 obtain⟨C',f,fd,a',i,j,F⟩:=r;obtain⟨C,a,cl,m,y⟩:=k;rw[a]at a';cases a';exact⟨_,f,fd,ps,a,mg_of e.X e.G a,⟨m,i,j,y⟩,o f fd F,F.binds hb⟩
end
def TH{l:PySem.W.OpenLaw}{w:dz}{K:aT}{h:dC}{mg:aG->Option ai}{fa:az}(X:K.In h)(G:h.Ns br mg)(hfa:mg "law" = Y (.ref fa))(c:CL K "Facts" /\CL K "Judge")(n:∀p∈KL,NA K p.1 p.2)(z:∀x∈ZL,vd K br x=Y M)(q:FA K "joined_asks" mE/\FA K "copied" rA/\FA K "copied_wish" kl/\FA K "meets" uc/\FA K "fresh_name" jH/\FA K "least" ud/\FA K "merged" vy/\FA K "joined" vA/\FA K "wrapped" sF/\FA K "step_ways" ph/\FA K "steps_ways" nQ/\FA K "wish_ways" lZ/\FA K "models" vx/\FA K "can_come" qG/\FA K "stump" xM/\FA K "paper_and_number" fO/\FA K "parting" sG/\FA K "_law_draws" ue/\FA K "_law_pop" Fl/\FA K "_law_name" wZ/\FA K "_law_names" ub/\FA K "_law_small_wish" k9/\FA K "_law_small_steps" mD/\FA K "_law_left_in" sJ/\FA K "_law_left_of" sI/\FA K "_law_ones" Br/\FA K "_law_ones_in" sH/\FA K "_law_chosen" vB/\FA K "law" vz)(r:MA K "Facts" "new_bit" "Facts.new_bit" kU/\MA K "Facts" "enter_step" "Facts.enter_step" jv/\MA K "Facts" "enter" "Facts.enter" km/\MA K "Facts" "enter_text" "Facts.enter_text" ju/\MA K "Facts" "lead" "Facts.lead" nS/\MA K "Facts" "asked" "Facts.asked" ko/\MA K "Facts" "enter_has" "Facts.enter_has" ib/\MA K "Facts" "__init__" "Facts.__init__" iP/\MA K "Facts" "steps_for" "Facts.steps_for" jY/\MA K "Facts" "text_fact" "Facts.text_fact" jX/\MA K "Facts" "lifted" "Facts.lifted" lL/\MA K "Judge" "__init__" "Judge.__init__" iO)(le:mg "enumerate" = M)(lt:∃t:Tok,mg "LETTERS" = Y (.str (ab "abcdefghijklmnopqrstuvwxyz") t))(mk:PR K mg "MARK" gF):
  ∃fd:fy,(∀(s:ay) (v:ai),Kb s fd ⟨[v],[]⟩ [("_law_script",v)])/\∀base:dC,K.In base->base.Ns br mg->dg l.prog w K mg base jA 100 fa fd ["_law_script"] (gO K zc):=by
 obtain⟨a0,a1⟩:=c;obtain⟨zI,D_,su,HN,Cf,O9,Mr,Ms,JH,D9,uO,wy,Mq,F_,O7,tz,JI,O_,VT,SM,O8,uP,sr,A3,A2,Mp,A1,Mt,⟨fL,fdL,aL,FL⟩⟩:=q;obtain⟨wJ,sZ,zE,sY,BS,sk,nr,vN,uC,uB,ym,vM⟩:=r;obtain⟨tk,lt⟩:=lt;have e:=hfa.symm.trans (mg_of X G aL);cases e;have k:KS K mg:=⟨λp h=>YD (by rcases(show ∀p∈KL,p.1 = "Facts" \/p.1 = "Judge" by decide +kernel) p h with e|e<;>rw[e]<;>assumption) (n p h),λx h=>mg_none_of X G (z x h)⟩
 obtain⟨oc,od,kV,QY,pm,an,Py,ct,XN,rfl,_⟩:=FL.ex;refine⟨fnOf "law" "law" (nF vz) (iU vz) (aM vz) .none kV QY pm an Py ct,λs v =>.of_eq rfl,λbase _ _ =>?_⟩;have e:EN l.prog w K mg base h:=⟨X,G⟩;have n1:=zI.pB e λ_ _ F=>yd F
 have n2:∀n,hW l.prog w K mg base "copied" (n+0) (gO K (iH n))/\hW l.prog w K mg base "copied_wish" (n+0) (gO K (cv n)):=λn=>by
  induction n with
  |zero=>exact⟨D_.pB (ps:=["steps"]) e λ_ _ _=>Q3 λ_=>rfl,su.pB (ps:=["wish"]) e λ_ _ _=>Q3 λ_=>rfl⟩
  |succ n ih=>obtain⟨b2,c7⟩:=ih;exact⟨D_.pB e λ_ _ F=>(Jm F c7).mono ž,su.pB e λ_ _ F=>(ye F b2 c7).mono ž⟩
 have b2:hW _ _ _ _ _ "copied" 12 (gO K va):=(n2 12).1;have n3:∀n,hW l.prog w K mg base "meets" (n+0) (gO K (iB n)):=λn=>by
  induction n with
  |zero=>exact HN.pB (ps:=["ask", "atoms"]) e λ_ _ _=>Q3 λ_=>rfl
  |succ n b0=>exact HN.pB e λ_ _ F=>(Le F k b0).mono ž
 have b0:hW _ _ _ _ _ "meets" 12 (gO K xw):=(n3 12);have c8:=F_.pB e λ_ _ F=>Dm F
 have c9:=wJ.Hk e a0 λ_ _ F=>vJ F k
 have n5:=sZ.Hk e a0 λ_ _ F=>r8 F k c9.m
 have d0:=zE.Hk e a0 λ_ _ F=>yf F n5.m
 have n6:=sY.Hk e a0 λ_ _ F=>rZ F k c9.m
 have n7:=BS.Hk e a0 λ_ _ F=>zD F k
 have n8:∀n,jb l.prog w K mg base "Facts" "asked" (n+3) (spT K ah (cw n))/\jb l.prog w K mg base "Facts" "enter_has" (n+3) (spT K ah (cI n)):=λn=>by
  induction n with
  |zero=>exact⟨sk.Hk (ps:=["self", "wish"]) e a0 λ_ _ _=>Y1 λ_=>rfl,nr.Hk (ps:=["self", "steps"]) e a0 λ_ _ _=>Y1 λ_=>rfl⟩
  |succ n ih=>obtain⟨b1,o1⟩:=ih;exact⟨sk.Hk e a0 λ_ _ F=>(yg F n6.o o1 b1 n1.o).mono ž,nr.Hk e a0 λ_ _ F=>(sU F d0.o n7.o b1).mono ž⟩
 have b1:jb _ _ _ _ _ "Facts" "asked" 15 (spT K ah lh):=(n8 12).1;have o0:=vN.Zf e a0 λ_ _ F=>uv F k b2.m d0.m b1.m
 have o1:=uC.Hk e a0 λ_ _ F=>sT F k
 have o2:=uB.Hk e a0 λ_ _ F=>sS F k
 have o3:=ym.Hk e a0 λ_ _ F=>wH F k b0.m
 have o4:=Cf.pB e λ_ _ F=>zy F k lt
 have o5:=vM.Zf e a1 λ_ _ F=>uu F k o0.m c9.m n7.m o4.m
 have p0:=O9.pB e λ_ _ F=>Lf F k
 have p1:=Mr.pB e λ_ _ F=>Jk F p0.m
 have p2:=Ms.pB e λ_ _ F=>Jl F p0.m
 have p3:=JH.pB e λ_ _ F=>FC F k o1.m o3.m p0.m
 have p4:=D9.pB e λ_ _ F=>BK F k p3.m p1.m
 have p5:∀n,hW l.prog w K mg base "steps_ways" (n+63) (gO K (bV n))/\hW l.prog w K mg base "wish_ways" (n+63) (gO K (bT n)):=λn=>by
  induction n with
  |zero=>exact⟨uO.pB (ps:=["judge", "steps", "inmost"]) e λ_ _ _=>Q3 λ_=>rfl,wy.pB (ps:=["judge", "wish"]) e λ_ _ _=>Q3 λ_=>rfl⟩
  |succ n ih=>obtain⟨s,t⟩:=ih;exact⟨uO.pB e λ_ _ F=>(zw F k p2.o t p4.o).mono ž,wy.pB e λ_ _ F=>(BJ F k o2.o s t p1.o p2.o).mono ž⟩
 have p6:hW _ _ _ _ _ "steps_ways" 75 (gO K fu):=(p5 12).1;have p7:=Mq.pB e λ_ _ F=>Jj F k mk p6.m
 have p8:=O7.pB e λ_ _ F=>Lc F k.y le c8.m
 have p9:=tz.pB e λ_ _ F=>rY F k mk p8.m
 have q0:=JI.pB e λ_ _ F=>FE F o5.m p7.m p9.m
 have q1:=O_.pB e λ_ _ F=>Lg F k
 have q2:=VT.pB e λ_ _ F=>RO F
 have q3:=SM.pB e λ_ _ F=>OE F k
 have q4:=O8.pB e λ_ _ F=>Ld F k q3.m
 have q5:∀n,hW l.prog w K mg base "_law_small_wish" (n+1) (rW K 0 2 (cH n))/\hW l.prog w K mg base "_law_small_steps" (n+1) (rW K 0 2 (cQ n)):=λn=>by
  induction n with
  |zero=>exact⟨uP.pB (ps:=["_law_draws_here", "_law_names_here", "_law_left", "_law_deep"]) e λ_ _ _=>Ux λ_=>rfl,sr.pB (ps:=["_law_draws_here", "_law_names_here", "_law_left", "_law_deep"]) e λ_ _ _=>Ux λ_=>rfl⟩
  |succ n ih=>obtain⟨s,t⟩:=ih;exact⟨uP.pB e λ_ _ F=>(zx F k q2.o t s).mono ž,sr.pB e λ_ _ F=>(yc F k q2.o s).mono ž⟩
 have q6:hW _ _ _ _ _ "_law_small_steps" 13 (rW K 0 2 jQ):=(q5 12).2;have q7:∀n,hW l.prog w K mg base "_law_left_in" (n+0) (Bt K (e_ n))/\hW l.prog w K mg base "_law_left_of" (n+0) (Bt K (e8 n)):=λn=>by
  induction n with
  |zero=>exact⟨A3.pB (ps:=["_law_steps"]) e λ_ _ _=>Y2 λ_=>rfl,A2.pB (ps:=["_law_wish"]) e λ_ _ _=>Y2 λ_=>rfl⟩
  |succ n ih=>obtain⟨s,t⟩:=ih;exact⟨A3.pB e λ_ _ F=>(FH F k t).mono ž,A2.pB e λ_ _ F=>(FG F k s t).mono ž⟩
 have q8:hW _ _ _ _ _ "_law_left_in" 12 (Bt K o9):=(q7 12).1;have q9:∀n,hW l.prog w K mg base "_law_ones" (n+0) (gO K (fY n))/\hW l.prog w K mg base "_law_ones_in" (n+0) (gO K (cY n)):=λn=>by
  induction n with
  |zero=>exact⟨Mp.pB (ps:=["_law_steps"]) e λ_ _ _=>Q3 λ_=>rfl,A1.pB (ps:=["_law_wish"]) e λ_ _ _=>Q3 λ_=>rfl⟩
  |succ n ih=>obtain⟨s,t⟩:=ih;exact⟨Mp.pB e λ_ _ F=>(OD F t).mono ž,A1.pB e λ_ _ F=>(FF F k s t).mono ž⟩
 have r0:hW _ _ _ _ _ "_law_ones" 12 (gO K qd):=(q9 12).1;have r1:=Mt.pB e λ_ _ F=>Jn F k q8.m
 exact(RP FL q1.m q4.m q2.m q6.m r1.m r0.m q0.m).mono ſ
def walk{l:PySem.W.OpenLaw}{q:be}{Wu:List aG}{XP:(aG->Option ai)->dC->Prop}{YP:dz->dC->Prop}{d:DefRec}{K:Params->aT}(hn:l.most=Y 63)(hdf:d.params.defaults=[])
  (hY:∀(w:dz) (h:dC),YP w h->(K w.params).In h)
  (F:∀(w:dz) (mg:aG->Option ai) (fa:az) (h:dC),(K w.params).In h->h.Ns br mg->mg d.name=Y (.ref fa) ->
   ∃fd:fy,(∀(s:ay) (u:ai),Kb s fd ⟨[u],[]⟩ [("_law_script",u)])/\∀base:dC,(K w.params).In base->base.Ns br mg->dg l.prog w (K w.params) mg base jA 100 fa fd ["_law_script"] (gO (K w.params) zc)) :
  PySem.W.WalkO q Wu XP YP l.row.toRowW d [] (λf vs=>PySem.call f vs):=
 L2.Kj (n:=63) (k:=100) (x:= "_law_script") (CX:=jA) (sp:=λK=>gO K zc) hn ſ hdf ⟨rfl,ſ,ſ⟩ hY F (λK H a ns hl hO hS=>R6 LW K H a ns hl hO hS) λ_ _ _ _ z=>z
end K21
open PySem PySem.W PyProof.Rows
structure PySem.W.Fast:Prop where(tw5026505220060677578 tw12885328736668724501 tw11009581343611360488 tw3787747924225460495 tw5258433253692060075 tw8177123314385253835 tw3082011058209956553 tw9728987086003171746 tw7297529254178420585 tw6296189541448523504 tw10196584339048074045 tw4600953241545901672 tw4115385531821108177 tw16182603207116303732 tw2324316224444168313 tw11445086277026280145 tw294649810989023504 tw1209955857074182361 tw799680285299171490 tw4661197614382426189 tw5184275773430415472 tw3948328541928358681 tw1734377104380819198 tw1980399774499294988 tw6206254855928899993 tw2468331385449233982 tw9967073816031246004 tw8480595820716494126 tw13896491122731753490 tw14171321298340185669 tw8044304374294003860 tw6490176108576806752 tw14694919664113523443 tw6055406901482373683 tw14488989123009233957 tw8323040055378474704 tw15837820689042271476 tw12751779314921314399 tw8482409793955184749 tw733300596712130766 tw4575362262200734729 tw6876704424842165548 tw16816475563307263453 tw13571399345638364659 tw13838703645742384625 tw8985027877025676607 tw15034204844267507711 tw10636417819131279119 tw11546377238916093867 tw5077011494797210925 tw14101914499662877825 tw373921160629757185 tw10242200920757363014 tw666167907200099318 tw94331327351364246 tw1061964671833424681 tw8567180759630079465 tw8864850145115395789 tw7592091370392704748 tw12819313704588283320 tw6086467004713896196 tw6741510243516130207 tw3840365706523242874 tw9391154186241012200 tw5610541133092186444 tw5761797274363536513 tw15542888396209246374 tw7633564885463056939 tw5940323841054153094 tw2619660713753185357 tw120654189773319766 tw6076761161150220553 tw3822894760382707155 tw14317308791032869020 tw6000035316632302943 tw15400185700660769528 tw16154110006170695751 tw7444451642008859894 tw1100890133736121418 tw13914574821236581855 tw12604777791754496330 tw8243729276689748003 tw1265942209323286116 tw9112512342585916356 tw8351035396834396398 tw13962379436324300715 tw15292696581966441995 tw14896057608402900065 tw12040059463093884055 tw17076424416313001428 tw4407814095266031295 tw18275654641121058795 tw4234226880866388578 tw8414983134297270967 tw12523391707934651745 tw4955169055111650767 tw8397471144920607705 tw9373821348202085096 tw11843139735179660948 tw15783055936623557223 tw13300790965428621682 tw3804856531607819380 tw10017369873761732607 tw14399079928191339558 tw140805106306233459 tw14395060755529714969 tw8521143667475441260 tw18284509284688349770 tw1215948456076184359 tw6371880999365409445 tw7525951095135589862 tw13060342451004165038 tw9583050402459912442 tw3652095935006115712 tw13912485944526475795 tw759548454343731677 tw15016797206024509917 tw14539996795344259902 tw1066753604465337731 tw9945771935182811481 tw10695234909566644739 tw6816039290909053233 tw12026423481336716536 tw6207835964577441885 tw5120288825710821491 tw2584649565972379134 tw17498726125186145971 tw16703440845707464496 tw5375578380232616472 tw16337641215935072935 tw7075452090649306803 tw4293288585219011197 tw7019181668745196308 tw3809905764912162638 tw15605561857089060119 tw16037723068978792667 tw7171134903480196230 tw11460499206546319716 tw7184945174631522887 tw12639704627823364825 tw8252195937569557081 tw3806951305978103004 tw2476741799197643126 tw8923484822130448517 tw7205491474492402567 tw3776406759968346431 tw4196285752260168436 tw9424336063301407126 tw1840475539142190825 tw11017223013581312542 tw11145186717063196507 tw5499955698549124111 tw7502941760487892688 tw2016504387171089902 tw168718623621794962 tw10699387352240381702 tw2841166345203020799 tw14218039762556364342 tw9071270551331870364 tw10509847844219468610 tw6879330247914667652 tw15687288336407746278 tw1941416669780120074 tw9327776239134636543 tw6352316780202369523 tw6202549302687252797 tw7371914455166496951 tw14521756110746144877 tw3565369390122928220 tw10178415941985223263 tw11990372648201147317 tw5031750307099229246 tw16755773342390458094 tw10861221354448354373 tw7028067419486760606 tw645416100305048890 tw3236113794501011010 tw9823466873338196849 tw11993653004460546573 tw1409899024015999035 tw14691332148759492086 tw16530550344667027508 tw3831451438047283945 tw18012754451919164941 tw7292329269338154888 tw3208326537612543101 tw3904100335878589368 tw1010739457374446017 tw16344154312004499307 tw5917592312650335849 tw2864512815730342650 tw16376142049524815856 tw5004439046960288946 tw18041587593725249400 tw5982233274737058561 tw13189090360702386654 tw5042098951649099471 tw12474468601156318978 tw9347316881945063381 tw9371098679372100661 tw11799095476098481106 tw13579221276849313756 tw2197987817851555647 tw6867485531200398271 tw5746370994191358127 tw1505099286404169524 tw10743311298609058271 tw10834975912144117692 tw7043342026311064994 tw16057873161635487831 tw15965817422499049662 tw9216969213587314246 tw9652402381663408416 tw10218599091089805077 tw16749124700476099530 tw13093831742488622016 tw9466235463536174327 tw2098539331809769029 tw10949948785362372729 tw9665021953455677854 tw3780310825372193276 tw12793731184512806538 tw17099644473436241657 tw1889391372394677472 tw14619929547777858371 tw17900216458081648770 tw10717234286824264305 tw1971174861240538317 tw4655893416160906986 tw17157112206227441343 tw676912935942088106 tw17275365836438182934 tw6070516572188393140 tw3803202818751219676 tw1361953546947956766 tw7738583214976527350 tw13155239597711096345 tw13447210818392970778 tw5961521697882072754 tw3802766359971250163 tw3879951616130630414 tw2942848334769863210 tw9955467624356026748 tw10105099238755977144 tw7191894511982271863 tw3997797976528217737 tw9794085191001262898 tw1578969883036858154 tw18104231013975169490 tw6166530272440857064 tw4861385290079038995 tw11586795505288976546 tw8430528463620215671 tw8960373154551316701 tw1201549971750750810 tw18401136462049263796 tw5806642907263816473 tw17622637448262611610 tw9534290798731253787 tw3983233264348446406 tw5058212759700855047 tw13581716693863067743 tw15686669761091908112 tw15779289342573768254 tw86614857978430091 tw10709002309030495841 tw16382633603245481219 tw4794833561539316248 tw13043852235747666605 tw14248192234989534168 tw10765456888790972762 tw11811549630189281074 tw2917766218089827041 tw6753161113881755545 tw672380859162016457 tw7270232979092234881 tw4875348511095201433 tw5247008812899019695 tw18264902788362904868 tw11826964156426413505 tw7252766083589791130 tw8738603033330660407 tw8910536626900894142 tw497232417673059565 tw5926547755741379206 tw9500334585100766588 tw1255618211294186494 tw4604446155933226950 tw1443207522287291196 tw12818595505114379052 tw2320642382443901430 tw16114487031671560557 tw1753532420943632639 tw7671217169290928121 tw1007864362509220438 tw1683845534025393605 tw13952791547741006586 tw15961585357030424487 tw760241142340467852 tw2459012713258123615 tw3383046785489327101 tw3999247402705985879 tw9418335810396783573 tw8225724923140872071 tw14764714581576387409 tw9726274436397795023 tw12820826934842413172 tw3825322423420619184 tw14076008476878073474 tw16946804046534506535 tw7752010994104601934 tw2994471917165598036 tw13942332476956198528 tw6197558720248211595 tw12033995822039946103:True)
set_option maxRecDepth 100000 in
set_option maxHeartbeats 0 in
theorem PySem.Challenge.cw_earlysift_k30_lying_within_goes_on_holds : PySem.Challenge.rw_earlysift_k30_lying_within_goes_on.Holds := by
  w_on; o_law; k_head; (case hw => w_witness2)
  k_fill
  refine K21.walk (l := PySem.Challenge.rw_earlysift_k30_lying_within_goes_on) rfl rfl (λw h y => PySem.W.kIn_of y) ?F
  case F =>
    intro w mg fa h KX G hmg
    refine' K21.TH KX G hmg ?p1 ?p2 ?p3 ?p4 ?p5 ?p6 ?p7 ?p8
    (case p1 => and_intros <;> exact K21.Wo (by k_is) (by k_is) (by k_is) (by k_is) (by k_is) (by k_is) (by k_is))
    (case p2 => repeat' first |refine K21.ac (by dsimp only; exact K21.We (by k_is) (by k_is)) ?_ |exact nofun)
    (case p3 => repeat' first |refine K21.ac (by k_is) ?_ |exact nofun)
    (case p4 => and_intros <;> exact K21.Wl (by k_is) (by k_is) (by k_is) (by k_is))
    (case p5 => and_intros <;> exact K21.Wg (by k_is) (by k_is) (by k_is) (by k_is) (by k_is) (by k_is))
    (case p6 => exact PySem.W.mg_none_of KX G (by k_is))
    (case p7 => exact⟨_,PySem.W.mg_of KX G (by k_is)⟩)
    (case p8 => exact⟨_,_,_,_,PySem.W.mg_of KX G (by k_is),by k_is,rfl,rfl,rfl,by decide,.cons ⟨_,rfl⟩ .nil⟩)
