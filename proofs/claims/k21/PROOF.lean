import PyProof.Rows.All
import Wide.All
import OpenK.AllK
import Wide.FinOn
import Lean
import PyProof.EqAt
import PyProof.EqKinds
import PyProof.TupleCall
import PyProof.NeKinds
import PyProof.StrCalls6
import PyProof.FString5
import PyProof.Rows.StrClose
import PyProof.Rows.BitMore
import PyProof.Rows.SortWalk
import PySem.Challenge.RW_earlysift_k21_outlooks_stay
open Option renaming some->Y,none->M,bind_some->aa,bind_eq_some_iff->ae,map_eq_some_iff->aS,map_some->bI,map->B3
open Bool renaming true->Z',false->Z_,and_eq_true->aH,or_eq_true->bT,false_ne_true->cV,false_eq_true->dQ,and_false->LP,and_self->Om
open PySem.Str renaming ofString->ab
open PySem renaming Value->af,starEach->ao,Shared->aq,Addr->az,wpAny_bind->aD,Str->aG,mainGlobals->ba,Program->bj,sizeLine->br,model->bB,wpAny->bE,wpAny_pure->bG,World->bQ,Around->cf,attributeBase->cy,Heap->cF,Stmt->cY,swapsWith->c5,backTo->dh,foldedSetIterable->dM,FuncData->dP,keywordEach->d5,binaryOp->eL,compareOp->eY,cellsFrom->fG,wpAny_mono->il,bootBuiltins->iR,behindInMarks->iT,wpAny_Call_Name_kw->jk,backToKw->jl,wpAny_truthy_bool->jN,sizeLine_eq->jO,sysModules->lg,wpAny_passesOwn->lC,wpAny_pyIter_list->l_,NameKind->mG,getMethod->m6,Keyword->m7,holding->n_,standAt->rA,sliceBounds->rL,callWith->rO,cLine->rP,wpAny_setField_rec->vd,tupleKind_room_in1->ve,wpAny_holding->xU,GenState->yP,codeAny->Ba,assignEach->Bb,wpAny_execs_nil->Bj,letOwnedTupleGo->Bk,Operator->Ez,tupleKind->EL,callerA->EM,PassesOwn->EO,call_meets->IE,valueAt->LH,getItem->LI,codeAny_mono->LJ,BindsTo->LQ,assign->Oh,wpAny_field->Oy,subscripted->Oz,IsRangeIter->OC,relabel->Rv,wpAny_seqItems->Us,wpAny_rule->Ut,newFunctionEnv->Uu,atKey->Uv
open List renaming getElem?_eq_some_iff->aj,length_map->au,mem_cons_of_mem->av,getElem?_set_ne->aw,mem_cons_self->ay,length_append->aE,mem_cons->aK,length_cons->aO,mem_append->aP,getElem?_map->aT,getElem?_eq_getElem->aU,mem_append_right->aW,size_toArray->aY,set_cons_zero->aZ,set_cons_succ->a9,map_cons->bh,mem_append_left->bt,length_singleton->bH,replicate->bL,append_assoc->bV,mem_singleton->b8,getElem?_set_self->b9,map_append->cm,getElem?_cons_succ->cn,zip_cons_cons->cC,range->cI,perm_append_comm_assoc->cJ,append_nil->cM,nil_append->c6,all_eq_true->c7,lookup_cons->dC,mem_of_getElem?->dN,getElem?_append_right->dO,getElem?_append_left->d6,length_nil->eU,mem_filter->fN,getElem?_of_mem->gB,replicate_succ->g8,mem_map->ie,cons_append->iq,drop_eq_getElem_cons->iZ,nodup_append->jm,getElem?_eq_none->kH,flatten_cons->kU,getElem?_eq_none_iff->l',all_cons->mH,find?_cons->mR,lookup->m8,length_eq_zero_iff->m9,take_of_length_le->nW,range_succ_eq_map->nX,all_map->nY,length_take->o_,any_cons->pB,nodup_cons->qj,length_set->qk,map_congr_left->ql,filterMap_cons->qm,pairwise_cons->rR,pairwise_iff_getElem->sS,filter->tG,not_mem_nil->vf,drop_length->vg,any_eq_true->vh,zipWith_cons_cons->wJ,zipWith->wK,filter_eq_nil_iff->wL,of_mem_zip->wO,dropLast_concat->yO,map_eq_nil_iff->Bc,map_nil->EB,map_map->EC,ext_getElem?->ED,any_eq_false->EE,zipIdx_cons->GY,length_drop->GZ,getElem_mem->G7,filter_cons->G8,map->LM,getD_eq_getElem?_getD->LN,getLast?_eq_some_iff->LW,map_take->Oj,getElem?_replicate->OA,getElem?_cons_zero->OB,map_set->QW,map_id'->QX,drop_eq_nil_of_le->QY,perm_append_comm->Rw,dropLast_eq_take->Rx,replicate_succ'->Uw,mem_map_of_mem->UZ,filter_sublist->U0
open PySem.Heap renaming get?_push_of_some->ak,lt_size->aV,get?_push_size->bD,size_push->fg,SameBut->lh,get?_update_other->pR
open Nat renaming le_refl->aM,lt_of_lt_of_le->bu,ne_of_lt->bS,le_trans->bX,zero_le->fc,le_of_lt->ic,le_add_right->ip,lt_irrefl->jz,lt_succ_self->jP,le_succ->jZ,ne_of_gt->l9,testBit_and->mQ,pow_le_pow_right->pO,mul_le_mul_right->pP,eq_of_testBit_eq->pQ,zero_add->qV,lt_succ_of_lt->tz,le_succ_of_le->tD,min_eq_left->IF,testBit_or->LL,add_right_cancel_iff->Oi,testBit_lt_two_pow->QQ,succ_mul->QR,sub_self->QT,min_self->QU,le_of_eq->QV
open PySem.W renaming Frag->bb,nsIn->o8,mg_none_of->rM,emptyDict->rN,findIn->wH,keepIn->B2,instObj->He
open Int renaming eq_ofNat_of_zero_le->bp,toNat_natCast->bq,emod_lt_of_pos->b_,emod_nonneg->cN,le_refl->gC,lt_of_le_of_lt->rS,lt_trans->wM,le_trans->wN,add_sub_cancel->B4,fdiv_eq_ediv_of_nonneg->LO
open PySem.Builtin renaming bitOr->bK,bitAnd->EG,bitNot->Uy
open Option.some renaming inj->bR,injEq->gR
open PySem.PassesOwn renaming never->cx
open Ne renaming symm->cL
open PySem.Value renaming ref->cP,int->ko,type->oQ
open Sum renaming inr->cX,inl->zc
open PyProof.Rows renaming arrOf->dw,wpS_bind->dy,callWith_type1->fo,wpS_pure->g_,pendingOf->oW,callWith_builtin1->o9,pairsOf->rV,envOfC->rW,wpS_forRange->ya,seqObj->Hc,pairsOf_size->Hd,IntsAre->Hf,AllBare->Hg,Keyed->IG,nat_or_add_and->Kd,firstOfTuple'->QP,listItems_at->UX,failedOf->UY
open Function renaming comp_def->eC
open Pure renaming pure->fm
open False renaming elim->ir
open PySem.NameKind renaming free->iU,cell->rB
open PySem.Txt renaming slice->lD,slice_le->LK
open PySem.F renaming plainAttrs_list->l7
open PySem.Obj renaming mapSeq->mF
open PySem.Builtin.List renaming listTooLong->nZ,listItems->Be
open PySem.Builtin.Range renaming rangeSize->oX
open Or renaming inl->rQ,inr->yN
open Array renaming perm_iff_toList_perm->rT,getElem?_eq_none->QZ,getElem?_toList->Ry,toArray_toList->Uz,length_toList->U4
open List.Perm renaming eq_nil->vi,of_eq->wQ
open True renaming intro->wI
open ForInStep renaming yield->wR
open PySem.Calls renaming callWith_builtin->Bd,spliced_cons->IH,Name_function_global->Ux
open List.Sublist renaming refl->EF,append->U2
open PySem.Builtin.Int renaming intBits->G9
open PySem.Heap.IsList renaming push->Ol
open Nat.succ renaming inj->QS
set_option bootstrap.genMatcherCode false
set_option compiler.extract_closed false
set_option genSizeOfSpec false
noncomputable section
set_option maxRecDepth 100000
set_option maxHeartbeats 4000000
open PySem.W (Frag mg_of nsIn mg_none_of findIn kia_one fnOf emptyDict keepIn instObj kitOne codeIn plainGet hasDictIn plainOver takerIn makesIn methodObj lookIn)
open PySem.F (plainAttrs_list)
set_option Elab.async false
set_option linter.all false
namespace L2
open PySem PySem.Spec PyProof.Rows
abbrev iY:=Sum Int aG
noncomputable def Cv:iY->af->Bool
 |.inl k,v=>Value.isInt k v|.inr x,v=>Value.isStrOf x v
noncomputable def Ym(w:bQ):iY->Int
 |.inl k=>hashInt k|.inr x=>hashStr w x
theorem hT:∀ {k:iY}{v:af},Cv k v=Z'->(∃i t,k=zc i/\v=ko i t)∨(∃x t,k=cX x/\v=Value.str x t)
 |.inl i,v,h=>by obtain⟨t,e⟩:=Value.isInt_shape (k:=i) (v:=v) h;exact .inl ⟨i,t,rfl,e⟩
 |.inr x,v,h=>by obtain⟨t,e⟩:=Value.isStrOf_shape (x:=x) (v:=v) h;exact .inr ⟨x,t,rfl,e⟩
theorem KZ(i:Int)(t:Tok):Cv (.inl i) (.int i t)=true:=by simp[Cv,Value.isInt]
theorem KY(x:aG)(t:Tok):Cv (.inr x) (.str x t)=true:=by simp[Cv,Value.isStrOf]
theorem S8(a b:Int):decide ((zc a:iY)=zc b)=(a==b):=by
 by_cases e:a=b
 ·subst e;simp
 ·have h:¬(zc a:iY)=zc b:=λq=>e (Sum.inl.inj q)
  rw[decide_eq_false h];exact(beq_eq_false_iff_ne.mpr e).symm
theorem SX(a b:aG):decide ((cX a:iY)=cX b)=decide (a=b):=by
 by_cases e:a=b
 ·subst e;simp
 ·have h:¬(cX a:iY)=cX b:=λq=>e (Sum.inr.inj q)
  rw[decide_eq_false h,decide_eq_false e]
theorem S5(a:Int)(b:aG):decide ((zc a:iY)=cX b)=false:=decide_eq_false (λq=>nomatch q)
theorem SY(a:aG)(b:Int):decide ((cX a:iY)=zc b)=false:=decide_eq_false (λq=>nomatch q)
def iw(prog:bj)(w:bQ):PySem.KeyKind prog w iY where
 is:=Cv
 hash:=Ym w
 inj:=λv a b l f=>by
  rcases hT l with⟨i,t,rfl,rfl⟩|⟨x,t,rfl,rfl⟩
  ·rcases hT f with⟨j,u,rfl,e⟩|⟨y,u,rfl,e⟩
   ·injection e with e1 _;rw[e1]
   ·exact nomatch e
  ·rcases hT f with⟨j,u,rfl,e⟩|⟨y,u,rfl,e⟩
   ·exact nomatch e
   ·injection e with e1 _;rw[e1]
 byValue:=λk v h=>by
  rcases hT h with⟨i,t,rfl,rfl⟩|⟨x,t,rfl,rfl⟩<;>rfl
 pyHash:=λc h=>by
  rcases hT c with⟨i,t,rfl,rfl⟩|⟨x,t,rfl,rfl⟩
  ·exact wpAny_pyHash_int h
  ·exact wpAny_pyHash_str h
 eqBool:=λg c h=>by
  rcases hT g with⟨i,t,rfl,rfl⟩|⟨x,t,rfl,rfl⟩
  ·rcases hT c with⟨j,u,rfl,rfl⟩|⟨y,u,rfl,rfl⟩
   ·rw[S8]at h;exact wpAny_eqBool_int h
   ·rw[S5]at h;exact SeqAt.EqAt.int_str i t y u _ _ _ _ h
  ·rcases hT c with⟨j,u,rfl,rfl⟩|⟨y,u,rfl,rfl⟩
   ·rw[SY]at h;exact SeqAt.EqAt.str_int x t j u _ _ _ _ h
   ·rw[SX]at h;exact wpAny_eqBool_str h
 «strs» :=λk x t v h=>by
  rcases hT h with⟨i,u,rfl,e⟩|⟨y,u,rfl,e⟩
  ·exact nomatch e
  ·injection e with e1 _
   subst e1
   cases v<;>rfl
theorem FY(prog:bj)(w:bQ)(i:Int)(t:Tok):(iw prog w).is (.inl i) (.int i t)=true:=KZ i t
theorem FX(prog:bj)(w:bQ)(x:aG)(t:Tok):(iw prog w).is (.inr x) (.str x t)=true:=KY x t
inductive V where
 |eJ|bl (b:Bool)|int (i:Int)|str (x:aG)|Ov (b:Array UInt8)|Rm (b:UInt64)|ref (a:az)|ty (n:String)
 deriving DecidableEq
def RelV:V->af->Prop
 |.eJ,u=>u=Value.none|.bl b,u=>u=Value.bool b|.int i,u=>∃t,u=ko i t|.str x,u=>∃t,u=Value.str x t|.Ov b,u=>∃t,u=Value.bytes b t|.Rm b,u=>∃t,u=Value.float b t|.ref a,u=>u=cP a|.ty n,u=>u=oQ n
abbrev cK:List V->List af->Prop:=Paired RelV
theorem cK.length{xs:List V}{a:List af}(r:cK xs a):xs.length=a.length:=Paired.length r
theorem cK.get:∀ {xs:List V}{a:List af}{i:Nat}{x:V},cK xs a->xs[i]?=Y x->∃u,a[i]?=Y u/\RelV x u
 |_,_,_,_,.nil,e=>by simp at e
 |_,_,0,_,.cons r _,e=>by simp at e;subst e;exact⟨_,rfl,r⟩
 |_,_,i+1,x,.cons _ t,e=>by obtain⟨u,J,z⟩:=cK.get (i:=i) (x:=x) t (by simpa using e);exact⟨u,by simpa using J,z⟩
theorem cK.set{x:V}{u:af}(r:RelV x u):∀ {xs:List V}{a:List af}(i:Nat),cK xs a->cK (xs.set i x) (a.set i u)
 |_,_,_,.nil =>.nil|_,_,0,.cons _ t =>.cons r t|_,_,i+1,.cons q t =>.cons q (cK.set r i t)
theorem cK.append:∀ {xs ys:List V}{b a:List af},cK xs b->cK ys a->cK (xs++ys) (b++a)
 |_,_,_,_,.nil,s=>s|_,_,_,_,.cons r t,s =>.cons r (cK.append t s)
theorem cK.take:∀ {xs:List V}{a:List af}(n:Nat),cK xs a->cK (xs.take n) (a.take n)
 |_,_,0,_ =>.nil|_,_,_+1,.nil =>.nil|_,_,n+1,.cons r t =>.cons r (cK.take n t)
theorem cK.drop:∀ {xs:List V}{a:List af}(n:Nat),cK xs a->cK (xs.drop n) (a.drop n)
 |_,_,0,r=>r|_,_,_+1,.nil =>.nil|_,_,n+1,.cons _ t=>cK.drop n t
def rH:Option V->Option af->Prop
 |some v,Y u=>RelV v u|none,M=>True|_,_=>False
def KV{a:Type}:List (a×V)->List (a×af)->Prop:=Paired λ(p:a×V) (q:a×af)=>p.1=q.1/\RelV p.2 q.2
noncomputable def kV:iY->V
 |.inl i =>.int i|.inr x =>.str x
inductive HO where
 |lst (xs:List V)
 |tup (xs:List V)
 |dK (eZ:List (iY×V))|dT (eZ:List (List iY×V))
 |set (S:Int->Bool) (n:Nat)
 |ins (C dx:az) (fs:List (aG×V))
 |own (x:az)
 |xd (fs:List (aG×V))
 |met (f x:az)
 |X3 (lo hi:Int)
 |Ou (o:Obj) (u:HO)
 |RH (ps:Array af)
 |ext (φ:cF->Prop)
abbrev Hp:=az->Option HO
noncomputable def eN(H:Hp)(a:az)(o:HO):Hp:=λb=>if b=a then Y o else H b
theorem bM{H:Hp}{a:az}{o:HO}:eN H a o a=Y o:=by unfold eN;rw[if_pos rfl]
theorem bz{H:Hp}{a b:az}{o:HO}(h:b≠a):eN H a o b=H b:=by unfold eN;rw[if_neg h]
theorem OF{H:Hp}{a:az}{o u:HO}:eN (eN H a o) a u=eN H a u:=by
 funext b;unfold eN;split<;>rfl
theorem VU{H:Hp}{a b:az}{o u:HO}(h:H a=Y o)(h':H b=Y u)(d:o≠u):a≠b:=by
 intro e;subst e;rw[h]at h';exact d (bR h')
theorem bW{H:Hp}{a b:az}{o:HO}(h:H a=Y o)(h':H b=M):a≠b:=by
 intro e;subst e;rw[h]at h';cases h'
section
variable (P:bj)(w:bQ)
def i6(H:Hp)(h:cF)(a:az):HO->Prop
 |.lst xs=>xs.length<=br/\∃(g:List af) (b:Nat),cK xs g/\h.get? a=Y { cls :=.type "list",data :=.seq g.toArray b }|.tup xs=>xs.length<=br/\∃g:List af,cK xs g/\IsTup h a g.toArray|.dK e=>e.length<=br/\(a==lg)=Z_/\∃l,KV e l/\h.DictOf (iw P w) a l| .dT e=>e.length<=br/\(a==lg)=Z_/\∃xs:List (List iY×az×af),
   Paired (λ(p:List iY×V) (c:List iY×az×af)=>p.1=c.1/\H c.2.1=Y (.tup (p.1.map kV))/\RelV p.2 c.2.2) e xs /\
   ∃o es m,h.get? a=Y o/\o.ExactDict/\o.data=.dict es m/\es.toList=xs.map (entryOfKey (EL (iw P w)))/\(xs.map (·.1)).Nodup
 |.set S b=>h.SetOf (intKind P w) a S b| .ins C dx j=>H dx=Y (.own a)/\j.length<=1000/\dx≠a/\h.get? a=Y (He C dx) /\
   ∃mA,h.Ns1 dx mA/\(∀f,rH (j.lookup f) (mA f))/\PySem.Within mA (j.map (·.1))
 |.own _=>∃o,h.get? a=Y o|.xd j=>∃mA,h.Ns1 a mA/\∀f,rH (j.lookup f) (mA f)|.X3 n L=>∃t u v,h.get? a=Y { cls :=.type "range",data :=.fields #[.int n t,.int L u,.int 1 v] }|.Ou o u=>h.get? a=Y o/\i6 H h a u|.RH q=>h.get? a=Y { cls :=.none,data :=.fields q }|.met f x=>h.get? a=Y (methodObj (.ref f) (.ref x))
 |.ext k=>k h/\(∃o,h.get? a=Y o)/\∀J z:cF,k J->(∀o,J.get? a=Y o->z.get? a=Y o)->k z
def pM(H:Hp)(h:cF):Prop:=∀a o,H a=Y o->i6 P w H h a o
end
section
variable {P:bj}{w:bQ}{H H':Hp}{h h':cF}{a:az}{o:HO}
theorem i6.lt(x:i6 P w H h a o):a<h.objs.size:=by
 cases o with
 |lst xs=>obtain⟨_,_,_,_,e⟩:=x;exact aV e
 |tup xs=>obtain⟨_,_,_,p⟩:=x;exact p.lt
 |dK c=>obtain⟨_,_,_,_,o,_,_,e,_⟩:=x;exact aV e
 |dT c=>obtain⟨_,_,_,_,o,_,_,e,_⟩:=x;exact aV e
 |set S b=>obtain⟨o,_,_,_,e,_⟩:=x;exact aV e
 |ins C dx j=>obtain⟨_,_,_,e,_⟩:=x;exact aV e
 |own y=>obtain⟨_,e⟩:=x;exact aV e
 |xd j=>obtain⟨_,⟨_,_,_,e,_⟩,_⟩:=x;exact aV e
 |X3 n L=>obtain⟨_,_,_,e⟩:=x;exact aV e
 |Ou k u=>obtain⟨e,_⟩:=x;exact aV e
 |RH q=>exact aV (show h.get? a=Y _ from x)
 |met f y=>exact aV (show h.get? a=Y _ from x)
 |ext g=>obtain⟨_,⟨_,e⟩,_⟩:=x;exact aV e
theorem Paired.SM{h g:Type}{F G:h->g->Prop}:∀ {e:List h}{c:List g},Paired F e c->(∀a b,F a b->G a b)->Paired G e c
 |_,_,.nil,_ =>.nil|_,_,.cons r t,f =>.cons (f _ _ r) (Paired.SM t f)
theorem i6.Bp(x:i6 P w H h a o)(k:∀b u,(b=a∨H b=Y (.own a))->h.get? b=Y u->h'.get? b=Y u)(Q:∀b,H b=Y (.own a)->H' b=Y (.own a))(i:∀b xs,H b=Y (.tup xs)->H' b=Y (.tup xs)):i6 P w H' h' a o:=by
 induction o with
 |lst xs=>obtain⟨z,A,g,r,e⟩:=x;exact⟨z,A,g,r,k _ _ (.inl rfl) e⟩
 |tup xs=>obtain⟨z,A,r,m,e,c⟩:=x;exact⟨z,A,r,m,k _ _ (.inl rfl) e,c⟩
 |dK E=>obtain⟨z,y,F,r,m,es,s,e,c⟩:=x;exact⟨z,y,F,r,m,es,s,k _ _ (.inl rfl) e,c⟩
 |dT E=>obtain⟨z,y,xs,r,m,es,s,e,c⟩:=x;exact⟨z,y,xs,Paired.SM r λp l z=>⟨z.1,i _ _ z.2.1,z.2.2⟩,m,es,s,k _ _ (.inl rfl) e,c⟩
 |set S g=>obtain⟨m,es,s,t,e,c⟩:=x;exact⟨m,es,s,t,k _ _ (.inl rfl) e,c⟩
 |ins C dx j=>obtain⟨d,z,K,e,mA,⟨D,es,s,R,c⟩,r⟩:=x;exact⟨Q _ d,z,K,k _ _ (.inl rfl) e,mA,⟨D,es,s,k _ _ (.inr d) R,c⟩,r⟩
 |own y=>obtain⟨m,e⟩:=x;exact⟨m,k _ _ (.inl rfl) e⟩
 |xd j=>obtain⟨mA,⟨D,es,s,e,c⟩,r⟩:=x;exact⟨mA,⟨D,es,s,k _ _ (.inl rfl) e,c⟩,r⟩
 |X3 n L=>obtain⟨t,u,v,e⟩:=x;exact⟨t,u,v,k _ _ (.inl rfl) e⟩
 |Ou m u ih=>obtain⟨e,l⟩:=x;exact⟨k _ _ (.inl rfl) e,ih l⟩
 |RH q=>have e:h.get? a=Y { cls :=.none,data :=.fields q }:=x;show h'.get? a=Y { cls :=.none,data :=.fields q };exact k a _ (.inl rfl) e
 |met f y=>have e:h.get? a=Y (methodObj (.ref f) (.ref y)):=x;show h'.get? a=Y (methodObj (.ref f) (.ref y));exact k a _ (.inl rfl) e
 |ext T=>obtain⟨p,⟨o,e⟩,st⟩:=x;exact⟨st _ _ p λo l=>k _ _ (.inl rfl) l,⟨o,k _ _ (.inl rfl) e⟩,st⟩
theorem pM.lt(x:pM P w H h)(e:H a=Y o):a<h.objs.size:=(x a o e).lt
theorem pM.fresh(x:pM P w H h)(e:h.objs.size<=a):H a=none:=by
 rcases q:H a with _|u
 ·rfl
 exact absurd (bu (x.lt q) e) (jz _)
theorem pM.kept(x:pM P w H h)(k:∀b u,h.get? b=Y u->h'.get? b=Y u):pM P w H h':=λa o e=>
 (x a o e).Bp (λb u _ q=>k b u q) (λ_ q=>q) λ_ _ q=>q
theorem pM.laid(x:pM P w H h)(k:∀b u,h.get? b=Y u->h'.get? b=Y u)(m:h.objs.size<=a)(f:i6 P w (eN H a o) h' a o):pM P w (eN H a o) h':=λb u e=>by
 have g:=x.fresh m;by_cases l:b=a
 ·subst l;rw[bM]at e;cases e;exact f
 ·rw[bz l]at e;exact(x b u e).Bp (λc v _ q=>k c v q) (λc q=>by rw[bz (bW q g)];exact q) λc xs q=>by rw[bz (bW q g)];exact q
end
def Rd(H:Hp)(a:az)(u:HO):Prop:=H a=Y u∨∃o,H a=Y (.Ou o u)
theorem Rd.of{H:Hp}{a:az}{u:HO}(h:H a=Y u):Rd H a u :=.inl h
theorem Rd.ok{P:bj}{w:bQ}{H:Hp}{h:cF}{a:az}{u:HO}(r:Rd H a u)(x:pM P w H h):i6 P w H h a u:=by
 rcases r with r|⟨o,r⟩
 ·exact x a u r
 ·obtain⟨_,q⟩:=x a _ r;exact q
def WV:Option HO->Prop
 |some (.lst _)=>True|some (.dK _)=>True|some (.dT _)=>True|some (.set _ _)=>True|some (.ins _ _ _)=>True|some (.ext _)=>True|_=>False
section
variable {P:bj}{w:bQ}{H:Hp}{h h':cF}{x e:az}{o':HO}
theorem pM.write(C:pM P w H h)(l:WV (H x))(A:e=x∨H e=Y (.own x))(k:∀b u,b≠e->h.get? b=Y u->h'.get? b=Y u)(s:∃u,h'.get? e=Y u)(p:i6 P w (eN H x o') h' x o'):pM P w (eN H x o') h':=λb u q=>by
 have f:∀c y,H c=Y (.own y)->c≠x:=λc y r z=>by subst z;rw[r]at l;exact l
 have g:∀c xs,H c=Y (.tup xs)->c≠x:=λc xs r z=>by subst z;rw[r]at l;exact l
 by_cases o:b=x
 ·subst o;rw[bM]at q;cases q;exact p
 ·rw[bz o]at q;by_cases a:b=e
  ·have t:H b=Y (.own x):=by
    rcases A with z|z
    ·exact absurd (a.trans z) o
    ·rw[a];exact z
   rw[q]at t;cases t;obtain⟨v,D⟩:=s;exact⟨v,by rw[a];exact D⟩
  ·refine(C b u q).Bp (λc v m r=>k c v ?_ r) (λc r=>by rw[bz (f c b r)];exact r) λc xs r=>by rw[bz (g c xs r)];exact r
   rcases m with rfl|m
   ·exact a
   ·rintro rfl;rcases A with z|z
    ·exact f c b m z
    ·rw[m]at z;cases z;exact o rfl
end
structure Un(fs ex:List az)(H H':Hp)(h h':cF):Prop where
 keep:∀b o,h.get? b=some o->H b=none->b∉fs->b∉ex->h'.get? b=some o
 slot:∀b o,h.get? b=some o->H b=none->b∈fs->b∉ex->∃sl,h'.get? b=some { o with slots:=sl }
 free:∀b o,h.get? b=some o->H b=none->b∉ex->H' b=none
 there:∀b o,h.get? b=some o->b∉ex->∃o',h'.get? b=some o'
 EX:∀b xs,H b=some (.tup xs)->H' b=some (.tup xs)
 D7:∀b o u,H b=some (.Ou o u)->H' b=some (.Ou o u)
 EZ:∀b ps,H b=some (.RH ps)->∃more,H' b=some (.RH (ps++more))
section
variable {j Rl ex ex':List az}{H O d:Hp}{h J z h':cF}{a x e:az}{o:HO}
theorem Un.any(u:Un j ex H O h J){b:az}{a:Obj}(q:h.get? b=Y a)(n:H b=M)(c:b∉ex):∃f,J.get? b=Y { a with slots:=f }:=by
 by_cases e:b∈j
 ·exact u.slot b a q n e c
 ·exact⟨a.slots,u.keep b a q n e c⟩
theorem Un.kept(k:∀b u,h.get? b=Y u->h'.get? b=Y u):Un j ex H H h h':=
 ⟨λb c a _ _ _=>k b c a,λb c a _ _ _=>⟨c.slots,k b c a⟩,λ_ _ _ n _=>n,λb c a _=>⟨c,k b c a⟩,λ_ _ a=>a,λ_ _ _ a=>a,λ_ q a=>⟨#[],by rw[a];simp⟩⟩
theorem Un.refl:Un j ex H H h h:=Un.kept λ_ _ q=>q
theorem Un.laid(k:∀b u,h.get? b=Y u->h'.get? b=Y u)(f:h.objs.size<=a)(e:H a=M):Un j ex H (eN H a o) h h' where
 keep:=λb u c _ _ _=>k b u c
 slot:=λb u c _ _ _=>⟨u.slots,k b u c⟩
 free:=λb u c n _=>by rw[bz (bS (bu (aV c) f))];exact n
 there:=λb u c _=>⟨u,k b u c⟩
 EX:=λb xs c=>by rw[bz (bW c e)];exact c
 D7:=λb u xs c=>by rw[bz (bW c e)];exact c
 EZ:=λb q c=>⟨#[],by rw[bz (bW c e),c];simp⟩
theorem Un.write(f:WV (H x))(s:e=x∨H e=Y (.own x))(k:∀b u,b≠e->h.get? b=Y u->h'.get? b=Y u)(l:∃u,h'.get? e=Y u):Un j ex H (eN H x o) h h':=by
 have m:∀b,H b=M->b≠x:=λb n z=>by subst z;rw[n]at f;exact f
 have p:∀b,H b=M->b≠e:=λb n z=>by
  subst z;rcases s with r|r
  ·exact m b n r
  ·rw[n]at r;cases r
 have g:∀b u,H b=Y u->¬WV (Y u)->b≠x:=λb u a nm z=>by subst z;rw[a]at f;exact nm f
 refine⟨λb u a n _ _=>k b u (p b n) a,λb u a n _ _=>⟨u.slots,k b u (p b n) a⟩,λb u a n _=>by rw[bz (m b n)];exact n,λb u a _ =>?_,
  λb xs a=>by rw[bz (g b _ a λz=>z)];exact a,λb u xs a=>by rw[bz (g b _ a λz=>z)];exact a,λb q a=>⟨#[],by rw[bz (g b _ a λz=>z),a];simp⟩⟩
 by_cases c:b=e
 ·subst c;exact l
 ·exact⟨u,k b u c a⟩
end
noncomputable def Xa(h:cF)(H:Hp):List az:=(cI h.objs.size).filter λa=>(H a).isSome
def DW(h:cF)(H:Hp):cF:=PySem.W.hideAll h (Xa h H)
theorem K8(h:cF)(H:Hp):(DW h H).objs.size=h.objs.size:=PySem.W.hideAll_size _ _
theorem Nm{h:cF}{H:Hp}{b:az}{o:Obj}(e:h.get? b=Y o)(n:H b=M):(DW h H).get? b=Y o:=
 PySem.W.hideAll_get _ e λa=>by have q:(H b).isSome=true:=(fN.mp a).2;rw[n]at q;simp at q
theorem Py{h:cF}{H:Hp}{b:az}{o:Obj}(e:(DW h H).get? b=Y o):h.get? b=Y o/\H b=none:=by
 have a:h.get? b=Y o:=PySem.W.of_hideAll (Xa h H) e;refine⟨a,?_⟩;rcases q:H b with _|x
 ·rfl
 have c:b∈Xa h H:=fN.mpr ⟨List.mem_range.mpr (aV a),by simp[q]⟩;have z:(DW h H).get? b=none:=PySem.W.hideAll_none (Xa h H) c;rw[z]at e;cases e
structure Mod(K:bb)(mg:aG->Option af)(base:cF):Prop where
 V5:K.In base
 glob:base.Ns ba mg
 blt:∃mb,base.Ns builtinsNs mb/\∀x:aG,x ≠ "__name__" ->mb x=iR x
 nolimit:base.NoLimit
structure Cx where
 prog:bj
 w:bQ
 K:bb
 mg:aG->Option af
 base:cF
 A:cf
 N:List aG
 s₀:aq
 H₀:Hp
 env:Env
 outer:List Env
 stack:List Env
 ex:List az
 fn:aG->Bool
 calm:Bool
 pn:List (az×Obj)
 xe:af->aq->Prop
noncomputable def EJ(l:List Env):List az:=l.filterMap (·.frame)
abbrev Cx.fs(X:Cx):List az:=EJ X.outer
def Ui(a:Scope)(x:aG):Prop:=a.names.lookup x=Y .local∨a.names.lookup x=Y .cell∨a.names.lookup x=Y .free
def Loc(a:Scope)(x:aG):Prop:=a.names.lookup x=Y .local∨a.names.lookup x=Y .cell
def Look(a:Env)(h:cF)(m:aG->Option af)(x:aG)(u:af):Prop:=
 (a.kindOf x=Y .local/\m x=Y u)∨((a.kindOf x=Y .cell∨a.kindOf x=Y .free)/\∃c,a.cells.lookup x=Y c/\h.IsCell c (Y u))
structure Cx.Ok(X:Cx):Prop where
 mod:Mod X.K X.mg X.base
 kind:X.env.scope.kind=.function
 glob:X.env.globals=ba
 blt:X.env.builtins=builtinsNs
 above:X.s₀.heap.objs.size<=X.env.locals
 inj:∀x y c,X.env.cells.lookup x=some c->X.env.cells.lookup y=some c->x=y
 has:∀x,(X.env.kindOf x=some .cell∨X.env.kindOf x=some .free)->∃c,X.env.cells.lookup x=some c
 WL:∀x c,X.fn x=true->X.env.cells.lookup x=some c->X.s₀.heap.objs.size<=c
 hd:X.calm=true->X.A.handled=none
 frames:X.A.frames=some X.stack
 Xf:X.stack=X.outer∨(X.stack=X.env::X.outer/\X.env.frame=some X.env.locals)
 exf:∀b∈X.ex,b≠X.env.locals/\∀x c,X.env.cells.lookup x=some c->c≠b
 bs:∀b o,X.base.get? b=some o->X.s₀.heap.get? b=some o/\X.H₀ b=none
 Ow:X.base.objs.size<=X.s₀.heap.objs.size
 MU:∀b o,X.base.get? b=some o->b∉X.ex
 Qa:∀b∈X.ex,b∉X.fs
 yD:X.s₀.heap.FunFrames X.base X.outer
 Tz:∀b∈X.fs,X.H₀ b=none
structure Inv(X:Cx)(Ey:List (az×Obj))(σ:List (Option V))(H:Hp)(s:aq):Prop where
 ok:X.Ok
 os:s.os=X.s₀.os
 bare:Hg s.gens
 base:Un X.fs X.ex X.H₀ H X.s₀.heap s.heap
 loc:∃m,s.heap.Ns X.env.locals m/\∀(i:Nat) (x:aG) (v:V),X.N[i]?=some x->σ[i]?=some (some v)->Ui X.env.scope x->∃u,RelV v u/\Look X.env s.heap m x u
 cell:∀x c,X.env.cells.lookup x=some c->∃v,s.heap.IsCell c v
 free:H X.env.locals=none
 qa:∀x c,X.env.cells.lookup x=some c->H c=none
 pin:∀p∈X.pn++Ey,s.heap.get? p.1=some p.2/\H p.1=none/\p.1≠X.env.locals/\p.1∉X.fs/\∀v,p.2.data ≠ .cell v
 jo:pM X.prog X.w H s.heap
 len:σ.length=X.N.length
section
variable {X:Cx}{B:List (az×Obj)}{U:List (Option V)}{H H':Hp}{s:aq}{h':cF}
theorem Cx.Ok.Yh(a:X.Ok){b:az}{o:Obj}(e:X.base.get? b=Y o):b∉X.fs:=λc=>by
 have:=(a.yD.mem c).1;rw[e]at this;cases this
theorem Inv.bs(I:Inv X B U H s):∀b o,X.base.get? b=Y o->s.heap.get? b=Y o/\H b=none:=λb o e=>
 ⟨I.base.keep b o (I.ok.bs b o e).1 (I.ok.bs b o e).2 (I.ok.Yh e) (I.ok.MU b o e),I.base.free b o (I.ok.bs b o e).1 (I.ok.bs b o e).2 (I.ok.MU b o e)⟩
theorem Inv.bk(I:Inv X B U H s):∀b o,X.base.get? b=Y o->s.heap.get? b=Y o:=λb o e=>(I.bs b o e).1
theorem Inv.mod(I:Inv X B U H s):Mod X.K X.mg X.base:=I.ok.mod
theorem Inv.HV(I:Inv X B U H s):X.K.In s.heap:=I.ok.mod.V5.keeps I.bk
theorem Inv.fr(I:Inv X B U H s):∃m,Fr X.base X.env.locals s.heap m:=
 let ⟨m,a,_⟩:=I.loc
 ⟨m,a,I.bk,bX I.ok.Ow I.ok.above⟩
theorem Inv.lt(I:Inv X B U H s):X.env.locals<s.heap.objs.size:=let ⟨_,a,_⟩:=I.loc;a.lt
theorem Inv.sz(I:Inv X B U H s):X.s₀.heap.objs.size<=s.heap.objs.size:=bX I.ok.above (ic I.lt)
theorem Inv.SE(I:Inv X B U H s){a:az}(h:s.heap.objs.size<=a):a∉X.fs:=λc=>by
 obtain⟨_,o,b,_⟩:=I.ok.yD.mem c;exact absurd (bu (aV b) (bX I.sz h)) (jz _)
theorem Inv.Y2(I:Inv X B U H s):∀x c,X.env.cells.lookup x=Y c->c≠X.env.locals:=λx c e z=>by
 obtain⟨v,o,f,g⟩:=I.cell x c e;obtain⟨m,⟨o',es,h,a,b,_⟩,_⟩:=I.loc;rw[z,a]at f;cases f;rw[b]at g;cases g
theorem Inv.yD(I:Inv X B U H s):s.heap.FunFrames X.base X.outer:=by
 have g:∀(l:List Env),(∀b∈EJ l,b∈X.fs)->X.s₀.heap.FunFrames X.base l->s.heap.FunFrames X.base l:=by
  intro l
  induction l with
  |nil=>intro _ _;trivial
  |cons w r ih=>
   intro h t;obtain⟨u,⟨L,o,a,p,m,v⟩,k⟩:=t;have f:L∈X.fs:=h L (by unfold EJ;rw[qm,a];exact ay);obtain⟨x,e⟩:=I.base.slot L o m (I.ok.Tz L f) f λz=>I.ok.Qa L z f
   exact⟨u,⟨L,_,a,p,e,v⟩,ih (λb c=>h b (by unfold EJ;rw[qm,a];exact av _ c)) k⟩
 exact g X.outer (λ_ c=>c) I.ok.yD
theorem Inv.stack(I:Inv X B U H s):s.heap.FunFrames X.base X.stack:=by
 rcases I.ok.Xf with e|⟨e,b⟩
 ·rw[e];exact I.yD
 ·rw[e];obtain⟨m,a,_⟩:=I.loc;refine .cons (by rw[I.ok.kind];decide) b a ?_ I.yD;exact Heap.get?_none_of_le (bX I.ok.Ow I.ok.above)
theorem Inv.uj(I:Inv X B U H s):∀b∈EJ X.stack,b∈X.env.locals::X.fs:=λb a=>by
 rcases I.ok.Xf with e|⟨e,c⟩
 ·rw[e]at a;exact av _ a
 ·rw[e]at a;unfold EJ at a;rw[qm,c]at a;exact a
theorem Inv.IL(I:Inv X B U H s):∀b∈EJ X.stack,H b=none:=λb a=>by
 rcases aK.mp (I.uj b a) with e|a
 ·rw[e];exact I.free
 ·obtain⟨_,o,c,_⟩:=I.ok.yD.mem a;exact I.base.free b o c (I.ok.Tz b a) λz=>I.ok.Qa b z a
theorem Inv.step{g':Array yP}{t':Nat}{d':Drawn}{ch:List az}(I:Inv X B U H s)(w:∀b∈ch,(b∈X.ex∨X.s₀.heap.objs.size<=b)/\b≠X.env.locals/\(∀x c,X.env.cells.lookup x=Y c->c≠b)/\∀p∈X.pn++B,p.1≠b)(t:∀b o,b≠X.env.locals->b∉X.fs->b∉ch->s.heap.get? b=Y o->H b=M->h'.get? b=Y o)(E:∀b o,b≠X.env.locals->b∈X.fs->b∉ch->s.heap.get? b=Y o->H b=M->∃sl,h'.get? b=Y { o with slots:=sl })(g:∀b o,b∉ch->s.heap.get? b=Y o->H b=M->H' b=M)(F:∀b o,b∉ch->s.heap.get? b=Y o->∃o',h'.get? b=Y o')(P:∀b xs,H b=Y (.tup xs)->H' b=Y (.tup xs))(T:∀b o u,H b=Y (.Ou o u)->H' b=Y (.Ou o u))(Q:∀b q,H b=Y (.RH q)->∃S,H' b=Y (.RH (q++S)))(ns:∀m,s.heap.Ns X.env.locals m->h'.Ns X.env.locals m)(jo:pM X.prog X.w H' h')(hg:Hg g'):
  Inv X B U H' { s with heap:=h',gens:=g',drawn:=d',toks:=t' }:=by
 have R:∀b o,X.s₀.heap.get? b=Y o->b≠X.env.locals:=λb o e=>bS (bu (aV e) I.ok.above)
 have C:∀b o,X.s₀.heap.get? b=Y o->b∉X.ex->b∉ch:=λb o e f K=>by
  rcases(w b K).1 with z|z
  ·exact f z
  ·exact absurd (bu (aV e) z) (jz _)
 have A:∀x c,X.env.cells.lookup x=Y c->∀v,s.heap.IsCell c v->h'.IsCell c v:=λx c e v ⟨o,j,hd⟩=>by
  have h:c∉ch:=λz=>(w c z).2.2.1 x c e rfl
  by_cases hc:c∈X.fs
  ·obtain⟨sl,a⟩:=E c o (I.Y2 x c e) hc h j (I.qa x c e);exact⟨_,a,hd⟩
  ·exact⟨o,t c o (I.Y2 x c e) hc h j (I.qa x c e),hd⟩
 refine⟨I.ok,I.os,hg,⟨λb o e n K f =>?_,λb o e n K f =>?_,λb o e n f =>?_,λb o e f =>?_,λb xs e=>P b xs (I.base.EX b xs e),λb o xs e=>T b o xs (I.base.D7 b o xs e),λb q e =>?_⟩,?_,λx c e =>?_,?_,λx c e =>?_,λp hp =>?_,jo,I.len⟩
 ·exact t b o (R b o e) K (C b o e f) (I.base.keep b o e n K f) (I.base.free b o e n f)
 ·obtain⟨sl,D⟩:=I.base.slot b o e n K f;obtain⟨sl',e2⟩:=E b _ (R b o e) K (C b o e f) D (I.base.free b o e n f);exact⟨sl',e2⟩
 ·obtain⟨o',D⟩:=I.base.there b o e f;exact g b o' (C b o e f) D (I.base.free b o e n f)
 ·obtain⟨o',D⟩:=I.base.there b o e f;exact F b o' (C b o e f) D
 ·obtain⟨m1,D⟩:=I.base.EZ b q e;obtain⟨m2,e2⟩:=Q b _ D;exact⟨m1++m2,by rw[e2,Array.append_assoc]⟩
 ·obtain⟨m,hn,hl⟩:=I.loc;refine⟨m,ns m hn,λi x v D e2 e3 =>?_⟩;obtain⟨u,r,l⟩:=hl i x v D e2 e3;refine⟨u,r,?_⟩;rcases l with l|⟨k,c,e,z⟩
  ·exact .inl l
  ·exact .inr ⟨k,c,e,A x c e _ z⟩
 ·obtain⟨v,z⟩:=I.cell x c e;exact⟨v,A x c e v z⟩
 ·obtain⟨m,⟨o,_,_,j,_⟩,_⟩:=I.loc;exact g _ o (λz=>(w _ z).2.1 rfl) j I.free
 ·obtain⟨v,o,j,hd⟩:=I.cell x c e;exact g c o (λz=>(w c z).2.2.1 x c e rfl) j (I.qa x c e)
 ·obtain⟨e,n,ne,nf,d⟩:=I.pin p hp;have h:p.1∉ch:=λz=>(w p.1 z).2.2.2 p hp rfl
  exact⟨t p.1 p.2 ne nf h e n,g p.1 p.2 h e n,ne,nf,d⟩
theorem Inv.un{t':Nat}(I:Inv X B U H s)(u:Un X.fs [] H H' s.heap h')(c:pM X.prog X.w H' h'):Inv X B U H' { s with heap:=h',toks:=t' }:=by
 obtain⟨m,⟨o,es,x,k,r⟩,_⟩:=id I.loc;obtain⟨v,t⟩:=u.any k I.free (by simp);exact I.step (g':=s.gens) (d':=s.drawn) (ch:=[]) (λ_ z=>nomatch z) (λb o _ f _ e n=>u.keep b o e n f (by simp)) (λb o _ f _ e n=>u.slot b o e n f (by simp)) (λb o _ e n=>u.free b o e n (by simp)) (λb o _ e=>u.there b o e (by simp)) u.EX u.D7 u.EZ (λw p=>by obtain⟨o',g,h,a,l⟩:=p;rw[k]at a;cases a;exact⟨_,g,h,t,l⟩) c I.bare
theorem Inv.call{g':Array yP}{t':Nat}{d':Drawn}{ch:List az}(I:Inv X B U H s)(u:Un (EJ X.stack) ch H H' s.heap h')(h:pM X.prog X.w H' h')(C:Hg g')(g:∀b∈ch,(b∈X.ex∨X.s₀.heap.objs.size<=b)/\b≠X.env.locals/\(∀x c,X.env.cells.lookup x=Y c->c≠b)/\∀p∈X.pn++B,p.1≠b):
  Inv X B U H' { s with heap:=h',gens:=g',drawn:=d',toks:=t' }:=by
 obtain⟨m,⟨o,es,K,v,r⟩,_⟩:=id I.loc;obtain⟨E,k⟩:=u.any v I.free λz=>(g _ z).2.1 rfl
 exact I.step (ch:=ch) g (λb o k D a e n=>u.keep b o e n (λz=>(aK.mp (I.uj b z)).elim k D) a) (λb o _ _ a e n=>u.any e n a) (λb o a e n=>u.free b o e n a) (λb o a e=>u.there b o e a) u.EX u.D7 u.EZ (λF A=>by obtain⟨o',l,t,f,w⟩:=A;rw[v]at f;cases f;exact⟨_,l,t,k,w⟩) h C
theorem Inv.turned{t':Nat}{g:az}(I:Inv X B U H s)(k:∀b o,b≠g->s.heap.get? b=Y o->h'.get? b=Y o)(A:H g=M)(t:g≠X.env.locals)(J:g∈X.ex∨X.s₀.heap.objs.size<=g)(z:∀x c,X.env.cells.lookup x=Y c->c≠g)(E:∀p∈X.pn++B,p.1≠g):Inv X B U H { s with heap:=h',toks:=t' }:=by
 have l:∀b u,H b=Y u->b≠g:=λb u e a=>by rw[a,A]at e;cases e
 refine I.step (g':=s.gens) (d':=s.drawn) (ch:=[g]) (λb D =>?_) (λb o _ _ h e _=>k b o (λa=>h (by simp[a])) e) (λb o _ _ h e _=>⟨o.slots,k b o (λa=>h (by simp[a])) e⟩) (λ_ _ _ _ n=>n)
  (λb o h e=>⟨o,k b o (λa=>h (by simp[a])) e⟩) (λ_ _ e=>e) (λ_ _ _ e=>e) (λb q e=>⟨#[],by rw[e];simp⟩) (λm C =>?_) (λb u e =>?_) I.bare
 ·have e:b=g:=by simpa using D
  subst e;exact⟨J,t,z,E⟩
 ·obtain⟨o,es,F,w,r⟩:=C;exact⟨o,es,F,k _ o (cL t) w,r⟩
 ·refine(I.jo b u e).Bp (λc v h f=>k c v ?_ f) (λ_ f=>f) λ_ _ f=>f
  rcases h with a|a
  ·rw[a];exact l b u e
  ·exact l c _ a
theorem Inv.tok(I:Inv X B U H s)(t:Nat):Inv X B U H { s with toks:=t }:=I.un (h':=s.heap) (t':=t) Un.refl I.jo
theorem Inv.kept{t':Nat}(I:Inv X B U H s)(k:∀b u,s.heap.get? b=Y u->h'.get? b=Y u):Inv X B U H { s with heap:=h',toks:=t' }:=I.un (Un.kept k) (I.jo.kept k)
theorem Inv.laid{a:az}{o:HO}{t':Nat}(I:Inv X B U H s)(k:∀b u,s.heap.get? b=Y u->h'.get? b=Y u)(e:s.heap.objs.size<=a)(c:i6 X.prog X.w (eN H a o) h' a o):
  Inv X B U (eN H a o) { s with heap:=h',toks:=t' }:=I.un (Un.laid k e (I.jo.fresh e)) (I.jo.laid k e c)
theorem Inv.write{x e:az}{o:HO}{h:Nat}(I:Inv X B U H s)(f:WV (H x))(g:e=x∨H e=Y (.own x))(k:∀b u,b≠e->s.heap.get? b=Y u->h'.get? b=Y u)(a:∃u,h'.get? e=Y u)(c:i6 X.prog X.w (eN H x o) h' x o):Inv X B U (eN H x o) { s with heap:=h',toks:=h }:=I.un (Un.write f g k a) (I.jo.write f g k a c)
theorem Inv.weak{a:List (Option V)}(I:Inv X B U H s)(e:a.length=U.length)(w:∀(i:Nat) v,a[i]?=Y (Y v)->U[i]?=Y (Y v)):Inv X B a H s:=
 ⟨I.ok,I.os,I.bare,I.base,let ⟨m,c,b⟩:=I.loc;⟨m,c,λi x v h g f=>b i x v h (w i v g) f⟩,I.cell,I.free,I.qa,I.pin,I.jo,e.trans I.len⟩
theorem Inv.yW{a:List (az×Obj)}(I:Inv X B U H s)(h:∀p∈a,s.heap.get? p.1=Y p.2/\H p.1=M/\p.1≠X.env.locals/\p.1∉X.fs/\∀v,p.2.data ≠ .cell v):Inv X a U H s:=
 ⟨I.ok,I.os,I.bare,I.base,I.loc,I.cell,I.free,I.qa,λp b=>(aP.mp b).elim (λz=>I.pin p (bt _ z)) (h p),I.jo,I.len⟩
theorem FP{N:List aG}(c:N.Nodup){i j:Nat}{x:aG}(a:N[i]?=Y x)(b:N[j]?=Y x):i=j:=by
 obtain⟨J,f⟩:=aj.mp a;obtain⟨z,e⟩:=aj.mp b;exact(List.getElem_inj c).mp (f.trans e.symm)
theorem Ca{G:Model}{A:cf}{E:af->aq->Prop}{i:Nat}{x:aG}{v:V}{u:af}{Q:Unit->aq->Prop}(I:Inv X B U H s)(hN:X.N.Nodup)(L:X.N[i]?=Y x)(w:Loc X.env.scope x)(r:RelV v u)(h:∀s',Inv X B (U.set i (Y v)) H s'->(∃a,lh a s.heap s'.heap/\(a=X.env.locals∨X.env.cells.lookup x=Y a))->Q () s')(hf:X.fn x=Z'∨X.env.scope.names.lookup x=Y .local:=by first|exact .inl rfl|exact .inr rfl|assumption):bE G A (storeName X.env x u) Q E s:=by
 obtain⟨m,hn,hl⟩:=id I.loc;have YK:(X.env.scope.kind == .class||(X.env.scope.kind == .module&&X.env.locals != X.env.globals))=false:=by rw[I.ok.kind];rfl
 have K:i<U.length:=by rw[I.len];exact(aj.mp L).1
 have T:=I.Y2;have g:∀ {a:az}{h':cF},(∃o,s.heap.get? a=Y o/\H a=M)->lh a s.heap h'->pM X.prog X.w H h':=fun {a h'} ha f b ob e=>by
  obtain⟨_,_,C⟩:=ha;refine(I.jo b ob e).Bp (λc w' t q=>(f.2 c ?_).trans q) (λ_ q=>q) λ_ _ q=>q
  rintro rfl;rcases t with rfl|t
  ·rw[C]at e;cases e
  ·rw[C]at t;cases t
 rcases w with F|F
 ·refine wpAny_storeName_local F hn (λh' hn' f =>?_) YK;obtain⟨oL,_,_,hoL,_⟩:=id hn;refine h _ ⟨I.ok,I.os,I.bare,⟨λb o e n S w =>?_,λb o e n S w =>?_,I.base.free,λb o e w =>?_,I.base.EX,I.base.D7,I.base.EZ⟩,⟨_,hn',λj y v' l D e3 =>?_⟩,λy c e =>?_,I.free,I.qa,λp hp =>?_,g ⟨oL,hoL,I.free⟩ f,by simpa using I.len⟩ ⟨_,f,.inl rfl⟩
  ·exact(f.2 b (bS (bu (aV e) I.ok.above))).trans (I.base.keep b o e n S w)
  ·obtain⟨sl,l⟩:=I.base.slot b o e n S w;exact⟨sl,(f.2 b (bS (bu (aV e) I.ok.above))).trans l⟩
  ·obtain⟨o',l⟩:=I.base.there b o e w;exact⟨o',(f.2 b (bS (bu (aV e) I.ok.above))).trans l⟩
  ·by_cases P:j=i
   ·subst P;rw[L]at l;cases l;rw[b9 K]at D;cases D;exact⟨u,r,.inl ⟨F,by simp⟩⟩
   ·rw[aw (cL P)]at D;obtain⟨u',r',q⟩:=hl j y v' l D e3;refine⟨u',r',?_⟩;rcases q with⟨k,e⟩|⟨k,c,e,z⟩
    ·refine .inl ⟨k,?_⟩;have:y≠x:=λe=>P (FP hN l (e ▸ L))
     simp[this,e]
    ·exact .inr ⟨k,c,e,z.sameBut f (T y c e)⟩
  ·obtain⟨w',z⟩:=I.cell y c e;exact⟨w',z.sameBut f (T y c e)⟩
  ·obtain⟨e,n,ne,nf,d⟩:=I.pin p hp;exact⟨(f.2 p.1 ne).trans e,n,ne,nf,d⟩
 ·have R:X.fn x=true:=by
   rcases hf with z|z
   ·exact z
   ·rw[z]at F;cases F
  obtain⟨c,t⟩:=I.ok.has x (.inl F);obtain⟨w',z⟩:=I.cell x c t;refine wpAny_storeName_cell I.ok.kind F t z (λh' Z5 f =>?_);obtain⟨oc,ZU,YA⟩:=id z;refine h { s with heap:=h' } ⟨I.ok,I.os,I.bare,⟨λb o e n S w =>?_,λb o e n S w =>?_,I.base.free,λb o e w =>?_,I.base.EX,I.base.D7,I.base.EZ⟩,⟨m,hn.sameBut f (cL (T x c t)),λj y v' l D e3 =>?_⟩,λy c' e =>?_,I.free,I.qa,λp hp =>?_,g ⟨oc,ZU,I.qa x c t⟩ f,by simpa using I.len⟩ ⟨c,f,.inr t⟩
  ·exact(f.2 b (bS (bu (aV e) (I.ok.WL x c R t)))).trans (I.base.keep b o e n S w)
  ·obtain⟨sl,l⟩:=I.base.slot b o e n S w;exact⟨sl,(f.2 b (bS (bu (aV e) (I.ok.WL x c R t)))).trans l⟩
  ·obtain⟨o',l⟩:=I.base.there b o e w;exact⟨o',(f.2 b (bS (bu (aV e) (I.ok.WL x c R t)))).trans l⟩
  ·by_cases P:j=i
   ·subst P;rw[L]at l;cases l;rw[b9 K]at D;cases D;exact⟨u,r,.inr ⟨.inl F,c,t,Z5⟩⟩
   ·rw[aw (cL P)]at D;obtain⟨u',r',q⟩:=hl j y v' l D e3;refine⟨u',r',?_⟩;rcases q with q|⟨k,c',e,z'⟩
    ·exact .inl q
    ·refine .inr ⟨k,c',e,z'.sameBut f ?_⟩;rintro rfl;exact P (FP hN l (I.ok.inj _ _ _ e t ▸ L))
  ·by_cases Xq:c'=c
   ·subst Xq;exact⟨_,Z5⟩
   ·obtain⟨w2,z2⟩:=I.cell y c' e;exact⟨w2,z2.sameBut f Xq⟩
  ·obtain⟨e,n,ne,nf,d⟩:=I.pin p hp;refine⟨(f.2 p.1 ?_).trans e,n,ne,nf,d⟩;intro q;rw[q,ZU]at e;have q':oc=p.2:=bR e;exact d w' (by rw[<- q'];exact YA)
theorem zg{d:Model}{A:cf}{E:af->aq->Prop}{i:Nat}{x:aG}{v:V}{u:af}{Q:Unit->aq->Prop}(I:Inv X B U H s)(c:X.N.Nodup)(L:X.N[i]?=Y x)(a:Loc X.env.scope x)(r:RelV v u)(h:∀s',Inv X B (U.set i (Y v)) H s'->Q () s')(b:X.fn x=Z'∨X.env.scope.names.lookup x=Y .local:=by first|exact .inl rfl|exact .inr rfl|assumption):bE d A (storeName X.env x u) Q E s:=
 Ca I c L a r (λs' e _=>h s' e) b
theorem Inv.JW{s':aq}{g:List az}(I:Inv X B U H s)(k:s'.os=s.os)(u:Un (EJ X.stack) g H H' s.heap s'.heap)(a:pM X.prog X.w H' s'.heap)(l:Hg s'.gens)(f:∀b∈g,(b∈X.ex∨X.s₀.heap.objs.size<=b)/\b≠X.env.locals/\(∀x c,X.env.cells.lookup x=Y c->c≠b)/\∀p∈X.pn++B,p.1≠b):Inv X B U H' s':=by
 obtain⟨h',m,o,h,o'⟩:=s';have e:o'=s.os:=k;subst e;exact I.call (g':=m) (t':=h) (d':=o) u a l f
end
abbrev XK:=af->Option az->Hp->Prop
abbrev St:=List (Option V)
abbrev VK:=V->Hp->Prop
abbrev TE:=St->Hp->VK->Prop
abbrev TT:=St->Hp->(Bool->Hp->Prop)->Prop
abbrev TA:=St->Hp->(List V->Hp->Prop)->Prop
structure Ends where
 nx:St->Hp->Prop
 rt:VK
 bk:St->Hp->Prop:=λ_ _=>False
 ct:St->Hp->Prop:=λ_ _=>False
abbrev TS:=Ends->St->Hp->Prop
def EP(X:Cx)(B:List (az×Obj))(U:St)(Q:VK)(u:af)(s':aq):Prop:=∃v H',Inv X B U H' s'/\RelV v u/\Q v H'
def TP(X:Cx)(B:List (az×Obj))(U:St)(Q:Bool->Hp->Prop)(b:Bool)(s':aq):Prop:=∃H',Inv X B U H' s'/\Q b H'
def AP(X:Cx)(B:List (az×Obj))(U:St)(Q:List V->Hp->Prop)(b:List af)(s':aq):Prop:=∃a H',Inv X B U H' s'/\cK a b/\Q a H'
def SP(X:Cx)(B:List (az×Obj))(D:Ends)(f:Flow)(s':aq):Prop:=
 match f with
 |.next=>∃a H',Inv X B a H' s'/\D.nx a H'|.brk=>∃a H',Inv X B a H' s'/\D.bk a H'|.cont=>∃a H',Inv X B a H' s'/\D.ct a H'|.ret u=>∃v a H',Inv X B a H' s'/\RelV v u/\D.rt v H'
def PE(X:Cx)(e:Expr)(t:TE):Prop:=
 ∀(B:List (az×Obj)) (s:aq) (U:St) (H:Hp) (Q:VK),Inv X B U H s->t U H Q->bE (bB X.prog X.w) X.A (eval e X.env) (EP X B U Q) X.xe s
def PT(X:Cx)(e:Expr)(t:TT):Prop:=
 ∀(B:List (az×Obj)) (s:aq) (U:St) (H:Hp) (Q:Bool->Hp->Prop),Inv X B U H s->t U H Q->bE (bB X.prog X.w) X.A (isTrue e X.env (eval e X.env)) (TP X B U Q) X.xe s
def PW(X:Cx)(e:Expr)(t:TT):Prop:=
 ∀(a:Sem af) (B:List (az×Obj)) (s:aq) (U:St) (H:Hp) (Q:Bool->Hp->Prop),Inv X B U H s->t U H Q->bE (bB X.prog X.w) X.A (isTrue e X.env a) (TP X B U Q) X.xe s
theorem PW.pt{X:Cx}{e:Expr}{t:TT}(h:PW X e t):PT X e t:=h _
def PA(X:Cx)(es:List Expr)(t:TA):Prop:=
 ∀(G:Pos) (B:List (az×Obj)) (s:aq) (U:St) (H:Hp) (Q:List V->Hp->Prop),Inv X B U H s->t U H Q->bE (bB X.prog X.w) X.A (spliced (dh G (ao es X.env))) (AP X B U Q) X.xe s
def PS(X:Cx)(st:cY)(t:TS):Prop:=
 ∀(B:List (az×Obj)) (s:aq) (U:St) (H:Hp) (D:Ends),Inv X B U H s->t D U H->bE (bB X.prog X.w) X.A (exec st X.env) (SP X B D) X.xe s
def sP(X:Cx)(st:List cY)(t:TS):Prop:=
 ∀(B:List (az×Obj)) (s:aq) (U:St) (H:Hp) (D:Ends),Inv X B U H s->t D U H->bE (bB X.prog X.w) X.A (execs st X.env) (SP X B D) X.xe s
theorem gD{b:Type}{t:Sem b}{Q c:b->aq->Prop}{d:Model}{A:cf}{E:af->aq->Prop}{s:aq}(h:bE d A t Q E s)(e:∀a s,Q a s->c a s):bE d A t c E s:=il h e λ_ _ x=>x
section
variable {X:Cx}
theorem bin{a b:Expr}{N y:TE}(C:PE X a N)(A:PE X b y){B:List (az×Obj)}{s:aq}{U:St}{H:Hp}{R:V->V->Hp->Prop}(I:Inv X B U H s)(h:N U H λx O=>y U O λc d=>R x c d){l:Type}{Q:l->aq->Prop}{f:af->af->Sem l}(w:∀v u k x c d,Inv X B U d k->RelV x v->RelV c u->R x c d->bE (bB X.prog X.w) X.A (f v u) Q X.xe k):
  bE (bB X.prog X.w) X.A (eval a X.env) (λv g=>bE (bB X.prog X.w) X.A (eval b X.env) (λu e=>bE (bB X.prog X.w) X.A (f v u) Q X.xe e) X.xe g) X.xe s:=by
 refine gD (C B s U H _ I h) λv m ⟨x,O,E,p,t⟩ =>?_
 refine gD (A B m U O _ E t) λu k ⟨c,d,D,o,r⟩ =>?_
 exact w v u k x c d D p o r
def kr(i:Nat):TE:=λU H Q=>∃v,U[i]?=Y (Y v)/\Q v H
def tC(v:V):TE:=λ_ H Q=>Q v H
theorem Sa{i:Nat}{x:aG}{G:Pos}(A:X.N[i]?=Y x)(o:Ui X.env.scope x)(f:(x==("__debug__" : aG))=false:=by decide)(g:(x==("__classdict__" : aG))=false:=by decide):PE X (.Name x G) (kr i):=by
 intro B s U H Q I h;obtain⟨v,e,h⟩:=h;obtain⟨m,p,w⟩:=I.loc;obtain⟨u,r,l⟩:=w i x v A e o;have oV:EP X B U Q u s:=⟨v,H,I,r,h⟩;rcases l with⟨b,t⟩|⟨b,c,k,a⟩
 ·exact wpAny_Name (wpAny_loadName_local I.ok.kind b p t oV) f
 ·rcases b with b|b
  ·exact wpAny_Name (wpAny_loadName_cell I.ok.kind b k a oV) f
  ·exact wpAny_Name (wpAny_loadName_free I.ok.kind b k a oV g) f
theorem Sg{i j G}:PE X (.Constant (.int i) j G) (tC (.int i)):=λ_ _ _ H _ I h=>wpAny_Constant_int ⟨.int i,H,I.tok _,⟨_,rfl⟩,h⟩
theorem VL{b j G}:PE X (.Constant (.bool b) j G) (tC (.bl b)):=λ_ _ _ H _ I h=>Constant_bool ⟨.bl b,H,I,rfl,h⟩
theorem Sf{j G}:PE X (.Constant .none j G) (tC .eJ):=λ_ _ _ H _ I h=>Constant_none ⟨.eJ,H,I,rfl,h⟩
theorem Sb{x j G}:PE X (.Constant (.str x) j G) (tC (.str x)):=λ_ _ _ H _ I h=>Calls.Constant_str ⟨.str x,H,I.tok _,⟨_,rfl⟩,h⟩
def Gl(X:Cx)(x:aG):Prop:=X.env.kindOf x=Y .globalImplicit
theorem DH{E:af->aq->Prop}{B:List (az×Obj)}{s:aq}{U:St}{H:Hp}{x:aG}{u:af}{G:Pos}{Q:af->aq->Prop}(I:Inv X B U H s)(b:Gl X x)(a:X.mg x=Y u)(h:Q u s)(c:(x==("__debug__" : aG))=false:=by decide):bE (bB X.prog X.w) X.A (eval (.Name x G) X.env) Q E s:=
 Ux I.ok.kind b (Calls.loadGlobal_global (by rw[I.ok.glob];exact I.mod.glob.keeps I.bk) a h) c
theorem qF{E:af->aq->Prop}{B:List (az×Obj)}{s:aq}{U:St}{H:Hp}{x:aG}{u:af}{G:Pos}{Q:af->aq->Prop}(I:Inv X B U H s)(e:Gl X x)(c:X.mg x=M)(a:iR x=Y u)(h:Q u s)(b:x ≠ "__name__" :=by decide)(f:(x==("__debug__" : aG))=false:=by decide):bE (bB X.prog X.w) X.A (eval (.Name x G) X.env) Q E s:=by
 obtain⟨g,J,z⟩:=I.mod.blt;exact Ux I.ok.kind e (Calls.loadGlobal_builtin (by rw[I.ok.glob];exact I.mod.glob.keeps I.bk) c (by rw[I.ok.blt];exact J.keeps I.bk) ((z x b).trans a) h) f
variable {a b:Expr}{N y:TE}{G:Pos}
def PC(X:Cx)(f:CmpOp)(a b:Expr)(t:TE):Prop:=
 ∀(B:List (az×Obj)) (s:aq) (U:St) (H:Hp) (Q:VK),Inv X B U H s->t U H Q ->
  bE (bB X.prog X.w) X.A (eval a X.env) (λv e=>bE (bB X.prog X.w) X.A (eval b X.env) (λu c=>bE (bB X.prog X.w) X.A (eY f v u) (EP X B U Q) X.xe c) X.xe e) X.xe s
theorem MV(b:Expr){a:CmpOp}(h:a ≠ .In)(z:a ≠ .NotIn):iT a b=false:=by
 have e:(a==CmpOp.In)=false:=by cases a<;>first|rfl|exact absurd rfl h
 have c:(a==CmpOp.NotIn)=false:=by cases a<;>first|rfl|exact absurd rfl z
 cases b<;>simp[iT,e,c]
def tB(t:TE):TT:=λU H Q=>t U H λx O=>∃c,x=.bl c/\Q c O
theorem R5{e:CmpOp}{t:TE}(h:PC X e a b t)(J:iT e b=false:=by first|exact MV _ (by decide) (by decide)|rfl):PT X (.Compare a [e] [b] G) (tB t):=by
 intro B s U H Q I hw;refine wpAny_isTrue_Compare1 (gD (h B s U H _ I hw) λv o J=>gD J λu m z=>gD z λc l ⟨x,O,k,f,g⟩ =>?_) J;obtain⟨d,rfl,q⟩:=g;cases f;exact jN ⟨O,k,q⟩
variable {tA Xe:TT}{nT:List Expr}
def XU(t u:TT):TT:=λU H Q=>t U H λc O=>if c=Z' then u U O Q else Q Z_ O
def tOr(t u:TT):TT:=λU H Q=>t U H λc O=>if c=Z' then Q Z' O else u U O Q
def XN(t:TT):TT:=λU H Q=>t U H λc O=>Q (!c) O
theorem O7(b:PT X a tA):PW X (.BoolOp .And [a] G) tA:=by
 intro f B s U H Q I h;refine isTrue_and (gD (b B s U H Q I h) λc g e =>?_);cases c with
 |true=>exact isTrue_and_nil e|false=>exact e
theorem R1(b:PT X a tA):PW X (.BoolOp .Or [a] G) tA:=by
 intro f B s U H Q I h;refine isTrue_or (gD (b B s U H Q I h) λc g e =>?_);cases c with
 |false=>exact isTrue_or_nil e|true=>exact e
theorem R3(m:PT X a tA)(l:PW X (.BoolOp .And (b::nT) G) Xe):PW X (.BoolOp .And (a::b::nT) G) (XU tA Xe):=by
 intro g B s U H Q I h;refine isTrue_and (gD (m B s U H _ I h) λc k ⟨O,f,e⟩ =>?_);cases c with
 |true=>exact l g B k U O Q f e|false=>exact⟨O,f,e⟩
theorem VF(m:PT X a tA)(l:PW X (.BoolOp .Or (b::nT) G) Xe):PW X (.BoolOp .Or (a::b::nT) G) (tOr tA Xe):=by
 intro g B s U H Q I h;refine isTrue_or (gD (m B s U H _ I h) λc k ⟨O,f,e⟩ =>?_);cases c with
 |true=>exact⟨O,f,e⟩|false=>exact l g B k U O Q f e
theorem R4(b:PT X a tA):PT X (.UnaryOp .Not a G) (XN tA):=by
 intro B s U H Q I h;exact isTrue_not (b B s U H (λc O=>Q (!c) O) I h)
def Vo(N y:TE):TE:=λU H Q=>N U H λx O=>∃c,x=.bl c/\if c=Z' then y U O Q else Q (.bl Z_) O
def XM(N y:TE):TE:=λU H Q=>N U H λx O=>∃c,x=.bl c/\if c=Z' then Q (.bl Z') O else y U O Q
def Vg(N:TE):TE:=λU H Q=>N U H λx O=>∃c,x=.bl c/\Q (.bl (!c)) O
theorem Sd{b}{t:TE}(h:PE X a t):PE X (.BoolOp b [a] G) t:=λB s U H Q I hw=>BoolOp_one (h B s U H Q I hw)
theorem Sh(m:PE X a N)(l:PE X (.BoolOp .And (b::nT) G) y):PE X (.BoolOp .And (a::b::nT) G) (Vo N y):=by
 intro B s U H Q I h;refine BoolOp_and (gD (m B s U H _ I h) λv g ⟨x,O,f,k,e⟩ =>?_);obtain⟨c,rfl,e⟩:=e;cases k;refine jN ?_;cases c with
 |true=>exact l B g U O Q f e|false=>exact⟨.bl Z_,O,f,rfl,e⟩
theorem VJ(m:PE X a N)(l:PE X (.BoolOp .Or (b::nT) G) y):PE X (.BoolOp .Or (a::b::nT) G) (XM N y):=by
 intro B s U H Q I h;refine BoolOp_or (gD (m B s U H _ I h) λv g ⟨x,O,f,k,e⟩ =>?_);obtain⟨c,rfl,e⟩:=e;cases k;refine jN ?_;cases c with
 |false=>exact l B g U O Q f e|true=>exact⟨.bl Z',O,f,rfl,e⟩
theorem Se(f:PE X a N):PE X (.UnaryOp .Not a G) (Vg N):=by
 intro B s U H Q I h;refine UnaryOp_ (gD (f B s U H _ I h) λv k ⟨x,O,g,e,b⟩ =>?_);obtain⟨c,rfl,b⟩:=b;cases e;exact not_of (jN ⟨.bl (!c),O,g,rfl,b⟩)
def tIf(t:TT)(N y:TE):TE:=λU H Q=>t U H λc O=>if c=Z' then N U O Q else y U O Q
theorem MC{c:Expr}(k:PT X c tA)(m:PE X a N)(l:PE X b y):PE X (.IfExp c a b G) (tIf tA N y):=by
 intro B s U H Q I h;refine wpAny_IfExp (gD (k B s U H _ I h) λd e ⟨O,g,f⟩ =>?_);cases d with
 |true=>exact m B e U O Q g f|false=>exact l B e U O Q g f
end
def n9(K:bb)(H:Hp)(a:az)(xs:List V):Prop:=
 Rd H a (.lst xs) ∨
  ∃(o:Obj) (b:Array af) (n:Nat),K.lookup a=Y o/\o.cls=.type "list" /\o.dict=M/\o.data=.seq b n/\b.size<=br/\cK xs b.toList
def Ox(K:bb)(H:Hp)(a:az)(xs:List V):Prop:=
 Rd H a (.tup xs) ∨
  ∃(o:Obj) (b:Array af) (n:Nat),K.lookup a=Y o/\o.cls=.type "tuple" /\o.data=.seq b n/\b.size<=br/\cK xs b.toList
noncomputable def Y6:af->Option V
 |.none=>Y .eJ|.bool b=>Y (.bl b)|.int i _=>Y (.int i)|.str x _=>Y (.str x)|.bytes b _=>Y (.Ov b)|.float b _=>Y (.Rm b)|.ref a=>Y (.ref a)|.type n=>Y (.ty n)|_=>M
theorem RelV.abs{x:V}{u:af}(r:RelV x u):Y6 u=Y x:=by
 cases x with
 |eJ=>cases r;rfl|bl _=>cases r;rfl|int _=>obtain⟨t,rfl⟩:=r;rfl
 |str _=>obtain⟨t,rfl⟩:=r;rfl
 |Ov _=>obtain⟨t,rfl⟩:=r;rfl
 |Rm _=>obtain⟨t,rfl⟩:=r;rfl
 |ref _=>cases r;rfl|ty _=>cases r;rfl
theorem RelV.inj{x y:V}{u:af}(r:RelV x u)(q:RelV y u):x=y:=bR (r.abs.symm.trans q.abs)
theorem cK.inj:∀ {xs ys:List V}{a:List af},cK xs a->cK ys a->xs=ys
 |_,_,_,.nil,.nil=>rfl|_,_,_,.cons r t,.cons c b=>by rw[r.inj c,cK.inj t b]
section
variable {X:Cx}{B:List (az×Obj)}{U:St}{H:Hp}{s:aq}{a:az}{xs ys:List V}
theorem n9.of{K:bb}(h:H a=Y (.lst xs)):n9 K H a xs :=.inl (.inl h)
theorem Ox.of{K:bb}(h:H a=Y (.tup xs)):Ox K H a xs :=.inl (.inl h)
theorem Inv.list(I:Inv X B U H s)(h:n9 X.K H a xs):∃b:List af,cK xs b/\PlainL s.heap a b.toArray/\xs.length<=br:=by
 rcases h with h|⟨o,b,n,f,k,g,c,l,r⟩
 ·obtain⟨z,b,n,r,e⟩:=h.ok I.jo;exact⟨b,r,⟨_,n,e,rfl,rfl,rfl⟩,z⟩
 ·refine⟨b.toList,r,⟨o,n,I.HV a o f,k,g,by simpa using c⟩,?_⟩;have e:=r.length;simp only[U4]at e;omega
theorem Inv.tuple(I:Inv X B U H s)(h:Ox X.K H a xs):∃b:List af,cK xs b/\IsTup s.heap a b.toArray/\xs.length<=br:=by
 rcases h with h|⟨o,b,n,f,g,c,k,r⟩
 ·obtain⟨z,b,r,p⟩:=h.ok I.jo;exact⟨b,r,p,z⟩
 ·refine⟨b.toList,r,⟨o,I.HV a o f,g,n,by simpa using c⟩,?_⟩;have e:=r.length;simp only[U4]at e;omega
theorem Inv.su(I:Inv X B U H s)(h:n9 X.K H a xs)(h':n9 X.K H a ys):xs=ys:=by
 obtain⟨c,r,⟨o,n,e,_,_,d⟩,_⟩:=I.list h;obtain⟨b,k,⟨o',m,f,_,_,g⟩,_⟩:=I.list h';rw[e]at f;cases f;rw[d]at g;injection g with l _;have:c=b:=by simpa using congrArg Array.toList l
 subst this;exact r.inj k
end
noncomputable abbrev Cx.Bm(X:Cx)(E:af->aq->Prop):Cx:={ X with xe:=E }
abbrev Cx.MS(X:Cx):Cx:=X.Bm λ_ _=>False
theorem Cx.Ok.Bm{X:Cx}(a:X.Ok)(E:af->aq->Prop):(X.Bm E).Ok:=
 ⟨a.mod,a.kind,a.glob,a.blt,a.above,a.inj,a.has,a.WL,a.hd,a.frames,a.Xf,a.exf,a.bs,a.Ow,a.MU,a.Qa,a.yD,a.Tz⟩
theorem Cx.Ok.rY{X:Cx}{E:af->aq->Prop}(a:(X.Bm E).Ok):X.Ok:=
 ⟨a.mod,a.kind,a.glob,a.blt,a.above,a.inj,a.has,a.WL,a.hd,a.frames,a.Xf,a.exf,a.bs,a.Ow,a.MU,a.Qa,a.yD,a.Tz⟩
section
variable {X:Cx}{B:List (az×Obj)}{U:St}{H:Hp}{s:aq}{E:af->aq->Prop}
theorem Inv.Bm(I:Inv X B U H s)(E:af->aq->Prop):Inv (X.Bm E) B U H s:=⟨I.ok.Bm E,I.os,I.bare,I.base,I.loc,I.cell,I.free,I.qa,I.pin,I.jo,I.len⟩
theorem Inv.rY(I:Inv (X.Bm E) B U H s):Inv X B U H s:=⟨I.ok.rY,I.os,I.bare,I.base,I.loc,I.cell,I.free,I.qa,I.pin,I.jo,I.len⟩
theorem SP.rY{D:Ends}{f:Flow}{s':aq}(h:SP (X.Bm E) B D f s'):SP X B D f s':=by
 cases f with
 |next=>obtain⟨a,H',I,q⟩:=h;exact⟨a,H',I.rY,q⟩
 |brk=>obtain⟨a,H',I,q⟩:=h;exact⟨a,H',I.rY,q⟩
 |cont=>obtain⟨a,H',I,q⟩:=h;exact⟨a,H',I.rY,q⟩
 |ret u=>obtain⟨v,a,H',I,r,q⟩:=h;exact⟨v,a,H',I.rY,r,q⟩
theorem sP.MS{st:List cY}{t:TS}(h:sP X.MS st t):sP X st t:=λB s U H D I hw=>
 il (h B s U H D (I.Bm _) hw) (λ_ _ q=>q.rY) λ_ _ z=>ir z
end
section
variable {X:Cx}{st:cY}{nT:List cY}{t u:TS}{e:Expr}{te:TE}{G:Pos}
def Vh:TS:=λD U H=>D.nx U H
def XI(t u:TS):TS:=λD U H=>t { D with nx:=u D } U H
theorem Pc:sP X [] Vh:=λ_ _ U H _ I h=>Bj ⟨U,H,I,h⟩
theorem Mt(J:PS X st t)(z:sP X nT u):sP X (st::nT) (XI t u):=by
 intro B s U H D I h;refine wpAny_execs_cons (gD (J B s U H { D with nx:=u D } I h) λf b q =>?_);cases f with
 |next=>obtain⟨a,H',c,q⟩:=q;exact z B b a H' D c q
 |ret v=>exact q|brk=>exact q|cont=>exact q
theorem Pb(J:PS X st t):sP X [st] t:=by
 intro B s U H D I h;refine wpAny_execs_cons (gD (J B s U H D I h) λf a q =>?_);cases f with
 |next=>exact Bj q|ret v=>exact q|brk=>exact q|cont=>exact q
theorem Inv.quiet{B:List (az×Obj)}{U:St}{H:Hp}{s:aq}(I:Inv X B U H s):interactive X.env=false:=by simp[interactive,I.ok.kind]
def Vk(te:TE):TS:=λD U H=>te U H λ_ O=>D.nx U O
theorem sV(c:PE X e te)(b:c5 e M G.line X.env=fm false:=by rfl):PS X (.Expr e G) (Vk te):=by
 intro B s U H D I h;exact wpAny_Expr_any (gD (c B s U H _ I h) λv g ⟨x,O,f,k,a⟩=>⟨U,O,f,a⟩) I.quiet b
def XJ(te:TE):TS:=λD U H=>te U H D.rt
theorem w_(c:PE X e te):PS X (.Return (Y e) G) (XJ te):=by
 intro B s U H D I h;exact wpAny_Return_some (gD (c B s U H _ I h) λv g ⟨x,O,f,a,b⟩=>⟨x,U,O,f,a,b⟩)
def XR(c:TT)(t u:TS):TS:=λD U H=>c U H λb O=>if b=Z' then t D U O else u D U O
theorem VH{c:Expr}{a b:List cY}{tc:TT}(k:PT X c tc)(m:sP X a t)(l:sP X b u):PS X (.If c a b G) (XR tc t u):=by
 intro B s U H D I h;refine wpAny_If (gD (k B s U H _ I h) λd e ⟨O,g,f⟩ =>?_);cases d with
 |true=>exact m B e U O D g f|false=>exact l B e U O D g f
def RM:TS:=λ_ _ _=>False
theorem Mv:PS X st RM:=λ_ _ _ _ _ _ h=>h.elim
end
abbrev TG:=V->St->Hp->(St->Hp->Prop)->Prop
abbrev Uk:=List V->St->Hp->(St->Hp->Prop)->Prop
def PG(X:Cx)(a:Expr)(t:TG):Prop:=
 ∀(B:List (az×Obj)) (s:aq) (U:St) (H:Hp) (v:V) (u:af) (Q:St->Hp->Prop),Inv X B U H s->RelV v u->t v U H Q ->
  bE (bB X.prog X.w) X.A (Oh a X.env u) (λ_ s'=>∃b H',Inv X B b H' s'/\Q b H') X.xe s
def Xy(X:Cx)(e:List Expr)(t:Uk):Prop:=
 ∀(B:List (az×Obj)) (s:aq) (U:St) (H:Hp) (b:List V) (c:List af) (Q:St->Hp->Prop),Inv X B U H s->cK b c->t b U H Q ->
  bE (bB X.prog X.w) X.A (assignInOrder ((Bb e X.env).map (·.2)) c) (λ_ s'=>∃a H',Inv X B a H' s'/\Q a H') X.xe s
abbrev Uj:=V->V->V->Hp->(Hp->Prop)->Prop
def WQ(X:Cx)(t:Uj):Prop:=
 ∀(B:List (az×Obj)) (s:aq) (U:St) (H:Hp) (o i v:V) (a b u:af) (Q:Hp->Prop),Inv X B U H s->RelV o a->RelV i b->RelV v u->t o i v H Q ->
  bE (bB X.prog X.w) X.A (setItem a b u) (λ_ s'=>∃H',Inv X B U H' s'/\Q H') X.xe s
abbrev Y8:=V->V->Hp->VK->Prop
def PIp(X:Cx)(a:Ez)(t:Y8):Prop:=
 ∀(B:List (az×Obj)) (s:aq) (U:St) (H:Hp) (x y:V) (v u:af) (Q:VK),Inv X B U H s->RelV x v->RelV y u->t x y H Q ->
  bE (bB X.prog X.w) X.A (inplaceOp a v u) (EP X B U Q) X.xe s
section
variable {X:Cx}{G:Pos}
def rd(i:Nat):TG:=λv U H Q=>Q (U.set i (Y v)) H
theorem cw{i:Nat}{x:aG}(c:X.N.Nodup)(L:X.N[i]?=Y x)(a:Loc X.env.scope x)(b:X.fn x=Z'∨X.env.scope.names.lookup x=Y .local:=by first|exact .inl rfl|exact .inr rfl|assumption):PG X (.Name x G) (rd i):=by
 intro B s U H v u Q I r h;exact wpAny_assign_Name (zg I c L a r (λs' e=>⟨_,H,e,h⟩) b)
def Tv:Uk:=λa U H Q=>a=[]/\Q U H
def CG(t:TG)(u:Uk):Uk:=λb U H Q=>∃v r,b=v::r/\t v U H λa H'=>u r a H' Q
theorem sW:Xy X [] Tv:=by
 intro B s U H a b Q I r h;obtain⟨e,h⟩:=h;subst e;cases r;exact assignInOrder_nil ⟨U,H,I,h⟩
theorem iG{e:Expr}{es:List Expr}{t:TG}{u:Uk}(J:PG X e t)(z:Xy X es u)(g:(Bb (e::es) X.env).map (·.2)=Oh e X.env::(Bb es X.env).map (·.2):=by rfl):Xy X (e::es) (CG t u):=by
 intro B s U H m p Q I r h;obtain⟨v,o,k,h⟩:=h;subst k;cases r with
 |cons r c=>rw[g];refine assignInOrder_cons (gD (J B s U H _ _ _ I r h) λ_ b ⟨a,O,l,f⟩ =>?_);exact z B b a O _ _ Q l c f
def Tu(K:bb)(n:Nat)(t:Uk):TG:=λv U H Q=>∃a xs,v=.ref a/\Ox K H a xs/\xs.length=n/\t xs U H Q
theorem xb{es:List Expr}{k:Nat}{t:Uk}{n:Nat}(A:X.calm=Z')(h:Xy X es t)(w:(Bb es X.env).length=n:=by rfl)(c:(Bb es X.env).findIdx? (·.1)=none:=by rfl):PG X (.Tuple es k G) (Tu X.K n t):=by
 intro B s U H v u Q I r hw;obtain⟨a,xs,C,p,x,hw⟩:=hw;subst C;cases r;obtain⟨g,f,m,E⟩:=I.tuple p;refine assign_Tuple_tuple (I.ok.hd A) m (by simp[w,<- x,f.length]) c λh' l =>?_
 have D:Inv X B U H { s with heap:=h' }:=I.kept (t':=s.toks) λb o e=>l b o (bS (aV e)) e
 exact h B _ U H xs _ Q D (by simpa using f) hw
def Wq(to a:TE)(t:Uj):TG:=λv U H Q=>to U H λo O=>a U O λi d=>t o i v d λb=>Q U b
theorem R'{o i:Expr}{to c:TE}{t:Uj}(A:PE X o to)(L:PE X i c)(w:WQ X t) (C:∀v,Oh (.Subscript o i G) X.env v=(do
   let a <- n_ [v] (eval o X.env)
   let b <- n_ [v,a] (eval i X.env)
   rA G
   n_ [v,a,b] (setItem a b v)
   release [v,a,b] []):=by intro _;rfl):PG X (.Subscript o i G) (Wq to c t):=by
 intro B s U H v u Q I r h;rw[C];refine aD (xU (gD (A B s U H _ I h) λa f ⟨x,O,F,k,p⟩ =>?_));refine aD (xU (gD (L B f U O _ F p) λb e ⟨y,d,E,g,m⟩ =>?_));refine aD (wpAny_standAt (aD (xU (gD (w B e U d x y v a b u _ E k g r m) λ_ j ⟨K,D,l⟩ =>?_))));exact wpAny_release ⟨U,K,D,l⟩
def RQ(te:TE)(g:TG):TS:=λD U H=>te U H λx O=>g x U O D.nx
theorem R7{tg e:Expr}{te:TE}{g:TG}(l:PE X e te)(k:PG X tg g)(f:swapsWithSole [tg] e G.line X.env=fm false:=by rfl)(hw:swappedStores [tg] e X.env=fm none:=by rfl)(J:(Bb [tg] X.env).map (·.2)=[Oh tg X.env]:=by rfl):PS X (.Assign [tg] e G) (RQ te g):=by
 intro B s U H D I h;refine wpAny_Assign_stores (gD (l B s U H _ I h) λv a ⟨x,O,m,b,c⟩ =>?_) f hw;rw[J];exact gD (k B a U O x v _ m b c) λ_ o q=>q
theorem sh{i:Nat}{x:aG}{e:Expr}{te:TE}{IC:Pos}(l:X.N.Nodup)(L:X.N[i]?=Y x)(c:Loc X.env.scope x)(k:PE X e te)(f:c5 e (Y (.Name x IC)) G.line X.env=fm false:=by rfl)(g:X.fn x=Z'∨X.env.scope.names.lookup x=Y .local:=by first|exact .inl rfl|exact .inr rfl|assumption):
  PS X (.Assign [.Name x IC] e G) (RQ te (rd i)):=by
 intro B s U H D I h;refine wpAny_Assign_Name (gD (k B s U H _ I h) λv r ⟨y,O,o,a,b⟩ =>?_) f;exact zg o l L c a (λp m=>⟨_,O,m,b⟩) g
def XT(i:Nat)(te:TE)(a:Y8):TS:=λD U H=>∃x,U[i]?=Y (Y x)/\te U H λy O=>a x y O λz d=>D.nx (U.set i (Y z)) d
theorem R6{i:Nat}{x:aG}{e:Expr}{te:TE}{p:Ez}{ti:Y8}{IC:Pos}(hN:X.N.Nodup)(L:X.N[i]?=Y x)(t:Loc X.env.scope x)(he:PE X e te)(P:PIp X p ti)(T:X.fn x=Z'∨X.env.scope.names.lookup x=Y .local:=by first|exact .inl rfl|exact .inr rfl|assumption):
  PS X (.AugAssign (.Name x IC) p e G) (XT i te ti):=by
 intro B s U H D I h;obtain⟨v,e1,h⟩:=h;obtain⟨m,Q,S⟩:=I.loc;have o:Ui X.env.scope x:=by rcases t with k|k;exact .inl k;exact .inr (.inl k)
 obtain⟨u,r,l⟩:=S i x v L e1 o;refine wpAny_AugAssign_Name ?_;have A:bE (bB X.prog X.w) X.A (eval e X.env) (λw g=>bE (bB X.prog X.w) X.A (inplaceOp p u w) (λr f=>bE (bB X.prog X.w) X.A (storeName X.env x r) (λ_=>SP X B D .next) X.xe f) X.xe g) X.xe s:=by
  refine gD (he B s U H _ I h) λw C ⟨y,O,I1,F,j⟩ =>?_
  refine gD (P B C U O v y u w _ I1 r F j) λz s2 ⟨zv,d,I2,E,K⟩ =>?_
  exact zg I2 hN L t E (λs3 I3=>⟨_,d,I3,K⟩) T
 rcases l with⟨a,R⟩|⟨a,c,hc,b⟩
 ·exact wpAny_loadName_local I.ok.kind a Q R A
 ·rcases a with a|a
  ·exact wpAny_loadName_cell I.ok.kind a hc b A
  ·rcases t with k|k
   ·have:X.env.scope.names.lookup x=Y .free:=a;rw[k]at this;cases this
   ·have:X.env.scope.names.lookup x=Y .free:=a;rw[k]at this;cases this
end
section
variable {X:Cx}{G:Pos}
def RI(c:TT)(y:TS):TS:=λD U H=>∃W:Nat->St->Hp->Prop,(∃m,W m U H)/\∀m U H,W m U H ->
 c U H λb O=>if b=Z' then ∃N:St->Hp->Prop,(∀a H',N a H'->∃e,e<m/\W e a H')/\y { D with nx:=N,ct:=N,bk:=D.nx } U O else D.nx U O
theorem Mu{c:Expr}{g:List cY}{tc:TT}{y:TS}(x:EO (bB X.prog X.w) X.A X.env X.xe)(Q:PT X c tc)(R:sP X g y):PS X (.While c g [] G) (RI tc y):=by
 intro B s U H D I h;obtain⟨W,⟨P,F⟩,lB⟩:=h;refine wpAny_While (codeAny_whileLoop (λn s'=>∃k H',Inv X B k H' s'/\W n k H') ?_ P ⟨U,H,I,F⟩);rintro n i ⟨e,O,S,E⟩;refine lC x (gD (Q B i e O _ S (lB n e O E)) λb K ⟨d,C,o⟩ =>?_);cases b with
 |true=>
  obtain⟨N,A,o⟩:=o;rw[if_pos rfl];refine lC x (gD (R B K e d _ C o) λf T m =>?_);cases f with
  |next=>obtain⟨a,l,w,r⟩:=m;obtain⟨t,u,p⟩:=A a l r;exact⟨t,u,a,l,w,p⟩
  |cont=>obtain⟨a,l,w,r⟩:=m;obtain⟨t,u,p⟩:=A a l r;exact⟨t,u,a,l,w,p⟩
  |brk=>exact m|ret v=>exact m
 |false=>rw[if_neg cV];exact Bj ⟨e,d,C,o⟩
end
structure It where
 go:Nat->Hp->Prop
 Q1:Nat->Hp->V->Hp->Prop
 stop:Nat->Hp->Prop
def BY(X:Cx)(B:List (az×Obj))(H:Hp)(b:az):Prop:=
 H b=M/\b≠X.env.locals/\b∉X.fs/\(b∈X.ex∨X.s₀.heap.objs.size<=b)/\(∀x c,X.env.cells.lookup x=Y c->c≠b)/\∀p∈X.pn++B,p.1≠b
theorem Inv.yE{X:Cx}{B:List (az×Obj)}{U:St}{H H':Hp}{s:aq}{b:az}(I:Inv X B U H s)(a:s.heap.objs.size<=b)(g:H' b=M):BY X B H' b:=by
 refine⟨g,l9 (bu I.lt a),I.SE a,.inr (bX I.sz a),λx c e z =>?_,λp f z =>?_⟩
 ·obtain⟨v,q⟩:=I.cell x c e;exact absurd (bu q.lt (by rw[z];exact a)) (jz _)
 ·exact absurd (bu (aV (I.pin p f).1) (by rw[z];exact a)) (jz _)
structure ID(P:bj)(w:bQ)(K:bb)(tg:Expr)(J:It)(fp:List az)(it:az)(tn:Nat->cF->Prop):Prop where
 mem:it∈fp
 obj:∀i h,tn i h->∀b∈fp,∃o,h.get? b=some o/\∀v,o.data ≠ .cell v
 keep:∀i h h',tn i h->(∀b∈fp,∀o,h.get? b=some o->h'.get? b=some o)->tn i h'
 item:∀(X:Cx),X.prog=P->X.w=w->X.K=K->X.calm=true->∀(i:Nat) (Ey:List (az×Obj)) (s:aq) (σ:St) (H:Hp) (E:af->aq->Prop),Inv X Ey σ H s->(∀b∈fp,BY X Ey H b)->tn i s.heap->J.go i H ->
  bE (bB P w) X.A (pyNext (.ref it)) (λr s1=>∃u,r=some u /\
   bE (bB P w) X.A (Bk tg (.ref it) u) (λ_ s2=>∃x H',Inv X Ey σ H' s2/\RelV x u/\J.Q1 i H x H'/\tn (i+1) s2.heap/\∀b∈fp,H' b=none) E s1) E s
 done:∀(X:Cx),X.prog=P->X.w=w->X.K=K->X.calm=true->∀(i:Nat) (Ey:List (az×Obj)) (s:aq) (σ:St) (H:Hp) (E:af->aq->Prop),Inv X Ey σ H s->(∀b∈fp,BY X Ey H b)->tn i s.heap->J.stop i H ->
  bE (bB P w) X.A (pyNext (.ref it)) (λr s1=>r=none/\Inv X Ey σ H s1) E s
 self:∀(A:cf) (i:Nat) (s:aq) (Q:af->aq->Prop) (E:af->aq->Prop),tn i s.heap->Q (.ref it) s->bE (bB P w) A (pyIter (.ref it)) Q E s
abbrev TI:=St->Hp->(It->Hp->Prop)->Prop
def PIE(X:Cx)(B:List (az×Obj))(U:St)(tg:Expr)(R:It->Hp->Prop)(a:af)(e:aq):Prop:=
 ∃(f:az) (g:List az) (c:Nat->cF->Prop) (J:It) (H':Hp),a=.ref f/\Inv X B U H' e/\ID X.prog X.w X.K tg J g f c/\c 0 e.heap/\(∀b∈g,BY X B H' b)/\R J H'
def PI(X:Cx)(tg a:Expr)(b:TI):Prop:=
 ∀(B:List (az×Obj)) (s:aq) (U:St) (H:Hp) (R:It->Hp->Prop),Inv X B U H s->b U H R ->
  bE (bB X.prog X.w) X.A (eval a X.env) (λv c=>bE (bB X.prog X.w) X.A (pyIter v) (PIE X B U tg R) X.xe c) X.xe s
theorem Jt{d : Model}{A : cf}{E : af -> aq -> Prop}{s : aq}{tg : Expr}{c : az}{u : af}{o : Obj}{n : String}{b : Array af}{Q : Unit -> aq -> Prop}(e : s.heap.get? c = Y o)(k : o.cls = .type n)(g : o.data = .fields b)(f : ["enumerate", "zip", "dict_itemiterator", "dict_reverseitemiterator", "odict_iterator", "itertools.zip_longest", "itertools.pairwise"].contains n = Z_)(a : Q () s): bE d A (Bk tg (.ref c) u) Q E s := by
  unfold Bk
  cases tg <;> first
    |exact bG a
    | (cases u <;> first
        |exact bG a
        | (refine aD (wpAny_load e ?_)
           rw [k,g]
           show bE d A (if (["enumerate", "zip", "dict_itemiterator", "dict_reverseitemiterator", "odict_iterator", "itertools.zip_longest", "itertools.pairwise"].contains n && b[0]? == Y (rawInt _)) = Z' then _ else _) Q E s
           rw [if_neg (by intro h; rw [f,Bool.false_and]at h; cases h)]
           exact bG a))
noncomputable def Zc(K:bb)(a:az):It:=
 ⟨λi H=>∃xs x,n9 K H a xs/\xs[i]?=Y x,λi H x H'=>H'=H/\∀xs,n9 K H a xs->xs[i]?=Y x,λi H=>∃xs,n9 K H a xs/\xs.length<=i⟩
noncomputable def WX(n:Int)(a:Nat):It:=⟨λi _=>i<a,λi H x H'=>H'=H/\x=.int (n+i),λi _=>a<=i⟩
theorem Kk{P:bj}{w:bQ}{K:bb}{tg:Expr}(a f:az):ID P w K tg (Zc K a) [f] f (λi h=>h.IsListIter f a i) where
 mem:=by simp
 obj:=λi h st b g=>by
  have e:b=f:=by simpa using g
  subst e;obtain⟨o,e,c,d⟩:=st;exact⟨o,e,λv z=>by rw[d]at z;cases z⟩
 keep:=λi h h' st k=>st.at λo e=>k f (by simp) o e
 item:=by
  intro X F hw j hc i B s U H E I r st D;subst F hw j;obtain⟨xs,x,m,C⟩:=D;obtain⟨A,t,p,hz⟩:=I.list m;obtain⟨u,hu,ru⟩:=t.get C;obtain⟨f0,T,f2,S,R,Q⟩:=r f (by simp);refine wpAny_pyNext_list_item st p.isList (x:=u) (by simpa using hu) λh' l sb =>?_
  have I1:Inv X B U H { s with heap:=h' }:=I.turned (t':=s.toks) (λb o g e=>(sb.2 b g).trans e) f0 T S R Q;obtain⟨o,e,c,d⟩:=id l;exact⟨u,rfl,Jt (s:={ s with heap:=h' }) e c d (by decide) ⟨x,H,I1,ru,⟨rfl,λys hy=>by rw[I.su hy m];exact C⟩,l,λb g=>(r b g).1⟩⟩
 done:=by intro X F hw j hc i B s U H E I r st D;subst F hw j;obtain⟨xs,m,C⟩:=D;obtain⟨A,t,p,hz⟩:=I.list m;obtain⟨f0,T,f2,S,R,Q⟩:=r f (by simp);have hl:=t.length;exact wpAny_pyNext_list_end (I.ok.hd hc) st p.isList (by simp;omega) λh' eb=>⟨rfl,I.turned (t':=s.toks) (λb o g e=>eb b o g e) f0 T S R Q⟩
 self:=λ_ _ _ _ _ st h=>wpAny_pyIter_listiter st h
theorem Hn{P:bj}{w:bQ}{K:bb}{tg:Expr}(c:az)(n:Int)(a:Nat):ID P w K tg (WX n a) [c] c (λi h=>OC h c (n+(i:Nat)*1) ((a:Int)-(i:Nat)) 1) where
 mem:=by simp
 obj:=λi h st b f=>by
  have e:b=c:=by simpa using f
  subst e;exact⟨_,st,λv z=>by have d:Data.fields _=Data.cell v:=z;cases d⟩
 keep:=λi h h' st k=>k c (by simp) _ st
 item:=by
  intro X r hw u p i B s U H E I l st m;subst r hw u;obtain⟨F,D,S,C,A,x⟩:=l c (by simp);have W:=Walks.range (prog:=X.prog) (w:=X.w) (I.ok.hd p) c n 1 a;refine W.item i s _ _ m st λv h' tk R g Q =>?_
  obtain⟨t,rfl⟩:=R;have I1:Inv X B U H { s with heap:=h',toks:=tk }:=I.turned (λb o f e=>Q b o (by simpa using f) e) F D C A x;refine⟨_,rfl,Jt (s:={ s with heap:=h',toks:=tk }) (n:= "range_iterator") g rfl rfl (by decide) ⟨.int (n+i),H,I1,⟨t,?_⟩,⟨rfl,rfl⟩,g,λb f=>(l b f).1⟩⟩;rw[Int.mul_one]
 done:=by intro X r hw u p i B s U H E I l st m;subst r hw u;obtain⟨F,D,S,C,A,x⟩:=l c (by simp);exact wpAny_pyNext_range_end (I.ok.hd p) st (by have:a<=i:=m;omega) λh' T=>⟨rfl,I.turned (t':=s.toks) (λb o f e=>T b o f e) F D C A x⟩
 self:=λ_ _ _ _ _ st h=>wpAny_pyIter_rangeiter st h
section
variable {X:Cx}{tg:Expr}
def Wa(K:bb)(tl:TE):TI:=λU H R=>tl U H λx O=>∃a,x=.ref a/\(∃xs,n9 K O a xs)/\R (Zc K a) O
theorem Ph{l:Expr}{tl:TE}(t:PE X l tl):PI X tg l (Wa X.K tl):=by
 intro B s U H R I h;refine gD (t B s U H _ I h) λv c ⟨x,O,f,g,k⟩ =>?_
 obtain⟨a,e,⟨xs,r⟩,q⟩:=k;subst e;cases g;obtain⟨m,w,p,A⟩:=f.list r;refine l_ p.isList ?_;refine⟨c.heap.objs.size,[c.heap.objs.size],_,_,O,rfl,f.kept (t':=c.toks) λb o e=>ak _ e,Kk a _,⟨_,bD _ rfl,rfl,rfl⟩,λb u =>?_,q⟩;have e:b=c.heap.objs.size:=by simpa using u
 subst e;exact f.yE (aM _) (f.jo.fresh (aM _))
theorem Fn{B:List (az×Obj)}{U:St}{H:Hp}{s:aq}{R:It->Hp->Prop}{E:af->aq->Prop}{n L:Int}{t u v:Tok}{tk:Nat}(I:Inv X B U H s)(J : -(2 ^ 62)<=n)(z:n<2 ^ 62)(g : -(2 ^ 62)<=L)(f:L<2 ^ 62)(q:R (WX n (L-n).toNat) H):bE (bB X.prog X.w) X.A (pyIter (.ref s.heap.objs.size)) (PIE X B U tg R) E { s with heap:=s.heap.push { cls :=.type "range",data :=.fields #[.int n t,.int L u,.int 1 v] },toks:=tk }:=by
 refine wpAny_pyIter_range (IsRange.new ..) (small_one J z g f) ?_;have a:Inv X B U H { s with heap:=s.heap.push { cls :=.type "range",data :=.fields #[.int n t,.int L u,.int 1 v] },toks:=tk }:=I.kept λb o e=>ak _ e
 refine⟨(s.heap.push { cls :=.type "range",data :=.fields #[.int n t,.int L u,.int 1 v] }).objs.size,[(s.heap.push { cls :=.type "range",data :=.fields #[.int n t,.int L u,.int 1 v] }).objs.size],_,_,H,rfl,
  a.kept (t':=tk) λb o e=>ak _ e,Hn _ n (L-n).toNat,?_,λb c =>?_,q⟩
 ·have k:n+((0:Nat):Int)*1=n:=by simp
  have h:(((L-n).toNat:Nat):Int)-((0:Nat):Int)=oX n L 1:=by rw[rangeSize_one];split<;>omega
  show OC _ _ (n+((0:Nat):Int)*1) ((((L-n).toNat:Nat):Int)-((0:Nat):Int)) 1;rw[k,h];exact bD _ rfl
 ·have e:b=(s.heap.push { cls :=.type "range",data :=.fields #[.int n t,.int L u,.int 1 v] }).objs.size:=by simpa using c
  subst e;exact a.yE (aM _) (a.jo.fresh (aM _))
def V'(N:TA):TI:=λU H R=>N U H λa O=>∃j:Int,a=[.int j] /\ -(2 ^ 62)<=j/\j<2 ^ 62/\R (WX 0 j.toNat) O
def V_(N:TA):TI:=λU H R=>N U H λa O=>∃i j:Int,a=[.int i,.int j]/\(-(2 ^ 62)<=i/\i<2 ^ 62 /\ -(2 ^ 62)<=j/\j<2 ^ 62)/\R (WX i (j-i).toNat) O
theorem Co{a:Expr}{N:TA}{p G:Pos}(m:Gl X "range")(l:X.mg "range" = M)(o:PA X [a] N)(k:ao [a] X.env=[(Z_,eval a X.env)]:=by rfl):PI X tg (.Call (.Name "range" p) [a] [] G) (V' N):=by
 intro B s U H R I h;refine Call_ (qF I m l boot_range (fo (gD (o G B s U H _ I h) λw x ⟨v,O,u,f,b⟩ =>?_) k rfl));obtain⟨j,e,b,g,q⟩:=b;subst e;cases f with
 |cons r c=>cases c;obtain⟨t,rfl⟩:=r;exact call_range_1 (Fn u (by omega) (by omega) b g (by simpa using q))
theorem KD{a b:Expr}{N:TA}{p G:Pos}(x:Gl X "range")(w:X.mg "range" = M)(A:PA X [a,b] N)(v:ao [a,b] X.env=[(Z_,eval a X.env),(Z_,eval b X.env)]:=by rfl)(c:ao [b] X.env=[(Z_,eval b X.env)]:=by rfl):
  PI X tg (.Call (.Name "range" p) [a,b] [] G) (V_ N):=by
 intro B s U H R I h;refine Call_ (qF I x w boot_range (fo (gD (A G B s U H _ I h) λE K ⟨D,O,C,k,g⟩ =>?_) (by rw[v,c]) (by rw[c];rfl)));obtain⟨i,j,e,⟨g,u,o,m⟩,q⟩:=g;subst e;cases k with
 |cons r f=>
  cases f with
  |cons l f=>cases f;obtain⟨t,rfl⟩:=r;obtain⟨F,rfl⟩:=l;exact call_range_2 (Fn C g u o m q)
noncomputable def xa(a:List az)(h:cF):List (az×Obj):=a.filterMap λb=>(h.get? b).map λo=>(b,o)
theorem oB{a:List az}{h:cF}{b:az}{o:Obj}(c:b∈a)(e:h.get? b=Y o):(b,o)∈xa a h:=List.mem_filterMap.mpr ⟨b,c,by rw[e];rfl⟩
theorem Cq{a:List az}{h:cF}{p:az×Obj}(c:p∈xa a h):p.1∈a/\h.get? p.1=Y p.2:=by
 obtain⟨b,f,e⟩:=List.mem_filterMap.mp c;rcases q:h.get? b with _|o
 ·rw[q]at e;cases e
 rw[q]at e;have g:(b,o)=p:=bR e;subst g;exact⟨f,q⟩
theorem Inv.pinned{B:List (az×Obj)}{U:St}{H:Hp}{s:aq}{a:List az}(I:Inv X B U H s)(k:∀b∈a,BY X B H b)(h:∀b∈a,∃o,s.heap.get? b=Y o/\∀v,o.data ≠ .cell v):Inv X (B++xa a s.heap) U H s:=
 I.yW λp g=>(aP.mp g).elim (λz=>I.pin p (aW _ z)) λz=>by obtain⟨c,e⟩:=Cq z;obtain⟨r,m,l,_⟩:=k p.1 c;obtain⟨o,f,d⟩:=h p.1 c;rw[e]at f;cases f;exact⟨e,r,m,l,d⟩
theorem Inv.vo{B a:List (az×Obj)}{U:St}{H:Hp}{s:aq}(I:Inv X (B++a) U H s):Inv X B U H s:=I.yW λp b=>I.pin p (aW _ (bt _ b))
end
abbrev R2:=V->V->Hp->VK->Prop
def oU(X:Cx)(f:af->af->Sem af)(r:R2):Prop:=
 ∀(B:List (az×Obj)) (s:aq) (U:St) (H:Hp) (x y:V) (v u:af) (Q:VK),Inv X B U H s->RelV x v->RelV y u->r x y H Q ->
  bE (bB X.prog X.w) X.A (f v u) (EP X B U Q) X.xe s
def Xw(X:Cx)(f:af->Sem af)(r:V->Hp->VK->Prop):Prop:=
 ∀(B:List (az×Obj)) (s:aq) (U:St) (H:Hp) (x:V) (v:af) (Q:VK),Inv X B U H s->RelV x v->r x H Q ->
  bE (bB X.prog X.w) X.A (f v) (EP X B U Q) X.xe s
def nH(X:Cx)(f:af)(r:List V->Hp->VK->Prop):Prop:=
 ∀(B:List (az×Obj)) (s:aq) (U:St) (H:Hp) (xs:List V) (a:List af) (Q:VK),Inv X B U H s->cK xs a->r xs H Q ->
  bE (bB X.prog X.w) X.A (call f a) (EP X B U Q) X.xe s
def Y7(X:Cx)(r:V->Hp->(Bool->Hp->Prop)->Prop):Prop:=
 ∀(B:List (az×Obj)) (s:aq) (U:St) (H:Hp) (x:V) (v:af) (Q:Bool->Hp->Prop),Inv X B U H s->RelV x v->r x H Q ->
  bE (bB X.prog X.w) X.A (truthy v) (TP X B U Q) X.xe s
def UC(r:R2)(N y:TE):TE:=λU H Q=>N U H λx O=>y U O λa d=>r x a d Q
def tUn(r:V->Hp->VK->Prop)(N:TE):TE:=λU H Q=>N U H λx O=>r x O Q
def rI(C:Int->Int->Prop)(g:Int->Int->V):R2:=λx y H Q=>∃i j,x=.int i/\y=.int j/\C i j/\Q (g i j) H
def Oo(g:Int->Int->V):R2:=λx y H Q=>∃i j,x=.int i/\y=.int j/\Q (g i j) H
def rU(g:Int->V):V->Hp->VK->Prop:=λx H Q=>∃i,x=.int i/\Q (g i) H
section
variable {X:Cx}{a b c:Expr}{N y tc:TE}{G:Pos}
theorem Ue(A:PE X a N)(w:PE X b y){B:List (az×Obj)}{s:aq}{U:St}{H:Hp}{R:V->V->Hp->Prop}(I:Inv X B U H s)(h:N U H λx O=>y U O λc d=>R x c d){Q:af->aq->Prop}{f:af->af->Sem af}(t:∀v u k x c d,Inv X B U d k->RelV x v->RelV c u->R x c d->bE (bB X.prog X.w) X.A (f v u) Q X.xe k):
  bE (bB X.prog X.w) X.A (eval a X.env) (λv g=>bE (bB X.prog X.w) X.A (eval b X.env) (λu e=>bE (bB X.prog X.w) X.A (f v u) Q X.xe e) X.xe g) X.xe s:=by
 refine gD (A B s U H _ I h) λv l ⟨x,O,D,o,r⟩ =>?_
 refine gD (w B l U O _ D r) λu k ⟨c,d,C,m,p⟩ =>?_
 exact t v u k x c d C o m p
theorem Q_{e:Ez}{r:R2}(l:oU X (eL e) r)(o:PE X a N)(m:PE X b y):PE X (.BinOp a e b G) (UC r N y):=by
 intro B s U H Q I h;exact wpAny_BinOp (Ue o m I h λv u f x c d p k g q=>l B f U d x c v u Q p k g q)
theorem Q9{b:UnaryOp}{r:V->Hp->VK->Prop}(g:Xw X (unaryOp b) r)(k:PE X a N):PE X (.UnaryOp b a G) (tUn r N):=by
 intro B s U H Q I h;exact UnaryOp_ (gD (k B s U H _ I h) λv c ⟨x,O,l,e,f⟩=>g B c U O x v Q l e f)
theorem VR{f:af->af->Sem af}{C:Int->Int->Prop}{g:Int->Int->Int}(a:∀(i j:Int) (t u:Tok) (s:aq) (Q:af->aq->Prop) (E:af->aq->Prop),C i j->Q (.int (g i j) s.toks) { s with toks:=s.toks+1 }->bE (bB X.prog X.w) X.A (f (.int i t) (.int j u)) Q E s):
  oU X f (rI C λi j =>.int (g i j)):=by
 intro B s U H x y v u Q I e c h;obtain⟨i,j,rfl,rfl,k,q⟩:=h;obtain⟨t,rfl⟩:=e;obtain⟨b,rfl⟩:=c;exact a i j t b s _ _ k ⟨.int (g i j),H,I.tok _,⟨_,rfl⟩,q⟩
theorem Pw{f:af->af->Sem af}{g:Int->Int->Int}(a:∀(i j:Int) (t u:Tok) (s:aq) (Q:af->aq->Prop) (E:af->aq->Prop),Q (.int (g i j) s.toks) { s with toks:=s.toks+1 }->bE (bB X.prog X.w) X.A (f (.int i t) (.int j u)) Q E s):
  oU X f (Oo λi j =>.int (g i j)):=by
 intro B s U H x y v u Q I e c h;obtain⟨i,j,rfl,rfl,q⟩:=h;obtain⟨t,rfl⟩:=e;obtain⟨b,rfl⟩:=c;exact a i j t b s _ _ ⟨.int (g i j),H,I.tok _,⟨_,rfl⟩,q⟩
theorem Sv{f:af->af->Sem af}{g:Int->Int->Bool}(a:∀(i j:Int) (t u:Tok) (s:aq) (Q:af->aq->Prop) (E:af->aq->Prop),Q (.bool (g i j)) s->bE (bB X.prog X.w) X.A (f (.int i t) (.int j u)) Q E s):
  oU X f (Oo λi j =>.bl (g i j)):=by
 intro B s U H x y v u Q I e c h;obtain⟨i,j,rfl,rfl,q⟩:=h;obtain⟨t,rfl⟩:=e;obtain⟨b,rfl⟩:=c;exact a i j t b s _ _ ⟨.bl (g i j),H,I,rfl,q⟩
def Zg(i j:Int):Prop:=0<=j/\j<=1000000/\i.natAbs<2 ^ 64
def Oe(i j:Int):Prop:=(-(2 ^ 64)<i/\i<2 ^ 64)∨(-(2 ^ 64)<j/\j<2 ^ 64)
theorem Oe.ok{i j:Int}(h:Oe i j):IntMulOk i j:=by
 rcases h with⟨J,z⟩|⟨J,z⟩
 ·exact .of_left (intBits_le_64 J z)
 ·exact .of_right (intBits_le_64 J z)
theorem Hm(k:Nat):(0:Int)<=2 ^ k:=by
 rw[two_pow_cast];exact Int.natCast_nonneg _
theorem Su:oU X (eL .Add) (Oo λi j =>.int (i+j)):=Pw λ_ _ _ _ _ _ _ q=>add_int q
theorem Si:oU X (eL .Sub) (Oo λi j =>.int (i-j)):=Pw λ_ _ _ _ _ _ _ q=>sub_int q
theorem Sn:oU X (eL .Mult) (rI Oe λi j =>.int (i*j)):=VR λ_ _ _ _ _ _ _ a q=>mul_int q a.ok
theorem So:oU X (eL .Mod) (rI (λ_ j=>0<j) λi j =>.int (i%j)):=VR λi j _ _ _ _ _ a q=>by
 have J:(0:Int)<j:=a;exact mod_int' (by omega) (by rw[Int.fmod_eq_emod_of_nonneg i (by omega)];exact q)
theorem Sl:oU X (eL .LShift) (rI Zg λi j =>.int (i*2 ^ j.toNat)):=VR λ_ _ _ _ _ _ _ a q=>lshift_int_small a.1 a.2.1 a.2.2 q
theorem Sj:oU X (eL .RShift) (rI (λ_ j=>0<=j) λi j =>.int (i/2 ^ j.toNat)):=VR λi j _ _ _ _ _ a q=>
 rshift_int a (by rw[LO i (Hm _)];exact q)
theorem Ss:oU X (eL .BitAnd) (Oo λi j =>.int (EG i j)):=Pw λ_ _ _ _ _ _ _ q=>and_int q
theorem VN:oU X (eL .BitOr) (Oo λi j =>.int (bK i j)):=Pw λ_ _ _ _ _ _ _ q=>or_int q
theorem Zu{f:af->Sem af}{g:Int->Int}(a:∀(i:Int) (t:Tok) (s:aq) (Q:af->aq->Prop) (E:af->aq->Prop),Q (.int (g i) s.toks) { s with toks:=s.toks+1 }->bE (bB X.prog X.w) X.A (f (.int i t)) Q E s):
  Xw X f (rU λi =>.int (g i)):=by
 intro B s U H x v Q I b h;obtain⟨i,rfl,q⟩:=h;obtain⟨t,rfl⟩:=b;exact a i t s _ _ ⟨.int (g i),H,I.tok _,⟨_,rfl⟩,q⟩
theorem RD:Xw X (unaryOp .USub) (rU λi =>.int (-i)):=Zu λ_ _ _ _ _ q=>neg_int q
theorem RE:Xw X (unaryOp .Invert) (rU λi =>.int (Uy i)):=Zu λ_ _ _ _ _ q=>invert_int q
end
section
variable {X:Cx}{a b c:Expr}{N y tc:TE}{G:Pos}
theorem TJ{B:List (az×Obj)}{U:St}{H:Hp}{s:aq}{Q:VK}{k a:Bool}(I:Inv X B U H s)(q:Q (.bl k) H)(e:k=a):EP X B U Q (.bool a) s:=by
 subst e;exact⟨.bl k,H,I,rfl,q⟩
theorem VO:oU X (eY .Lt) (Oo λi j =>.bl (decide (i<j))):=Sv λ_ _ _ _ _ _ _ q=>lt_int q
theorem VP:oU X (eY .Gt) (Oo λi j =>.bl (decide (j<i))):=Sv λ_ _ _ _ _ _ _ q=>gt_int q
theorem VQ:oU X (eY .GtE) (Oo λi j =>.bl (decide (j<=i))):=Sv λ_ _ _ _ _ _ _ q=>ge_int q
theorem Pu:oU X (eY .IsNot) (λx y H Q=>y=.eJ/\Q (.bl (!decide (x=.eJ))) H):=by
 intro B s U H x y v u Q I a b h;obtain⟨rfl,q⟩:=h;cases b;refine isnot_none_gen (TJ I q ?_);cases x<;>first
  |(cases a;rfl)
  |(obtain⟨t,rfl⟩:=a;rfl)
theorem oU.or{f:af->af->Sem af}{r c:R2}(h:oU X f r)(h':oU X f c):oU X f (λx y H Q=>r x y H Q∨c x y H Q):=by
 intro B s U H x y v u Q I b a q;rcases q with q|q
 ·exact h B s U H x y v u Q I b a q
 ·exact h' B s U H x y v u Q I b a q
theorem cu(b:Expr){op:CmpOp}(h:op ≠ .In:=by decide)(z:op ≠ .NotIn:=by decide):iT op b=false:=by
 have c:(op==CmpOp.In)=false:=by cases op<;>first|rfl|exact absurd rfl h
 have a:(op==CmpOp.NotIn)=false:=by cases op<;>first|rfl|exact absurd rfl z
 cases b<;>simp[iT,c,a]
theorem Pl{e:CmpOp}{r:R2}(l:oU X (eY e) r)(p:PE X a N)(o:PE X b y)(m:iT e b=Z_):PE X (.Compare a [e] [b] G) (UC r N y):=by
 intro B s U H Q I h;exact wpAny_Compare1 (Ue p o I h λv u f x c d t k g q=>l B f U d x c v u Q t k g q) m
def Vd(t:TE):TT:=λU H Q=>t U H λx H'=>∃k,x=.bl k/\Q k H'
theorem Pa{g:CmpOp}{r:R2}(D:oU X (eY g) r)(K:PE X a N)(F:PE X b y)(E:iT g b=Z_):PT X (.Compare a [g] [b] G) (Vd (UC r N y)):=by
 intro B s U H Q I h;refine wpAny_isTrue_Compare1 (gD (K B s U H _ I h) λv m ⟨x,O,R,t,C⟩=>gD (F B m U O _ R C) λu l ⟨f,d,P,p,A⟩=>gD (D B l U d x f v u _ P t p A) λc T ⟨z,S,i,o,k,e,w⟩ =>?_) E
 subst e;cases o;exact jN ⟨S,i,w⟩
def WO(K:bb)(x:V)(H:Hp)(k:Bool):Prop:=
 match x with
 |.eJ=>k=Z_|.bl b=>k=b|.int i=>k=(i != 0)|.str y=>y.length<=br/\k=((y.length:Int) != 0)|.Ov y=>y.size<=br/\k=((y.size:Int) != 0)|.ref p=>(∃xs,n9 K H p xs/\k = !xs.isEmpty)∨(∃xs,Ox K H p xs/\k = !xs.isEmpty)∨∃a,H p=Y (.dK a)/\k = !a.isEmpty|_=>False
theorem HW{b:Type}{a:List (b×V)}{c:List (b×af)}(r:KV a c):(!c.isEmpty) = !a.isEmpty:=by
 cases r<;>rfl
theorem Ak{xs:List V}{a:List af}(r:cK xs a):(!a.toArray.isEmpty) = !xs.isEmpty:=by
 cases r<;>simp
theorem uI:(br:Nat)<2 ^ 63:=by rw[jO];decide
theorem RF:Y7 X (λx H Q=>∃k,WO X.K x H k/\Q k H):=by
 intro B s U H x v Q I rx h;obtain⟨k,e,q⟩:=h;have hl:=uI;have hs:br=16777216:=jO;cases x with
 |eJ=>cases rx;have e':k=false:=e;subst e';exact truthy_none ⟨H,I,q⟩
 |bl b=>cases rx;have e':k=b:=e;subst e';exact jN ⟨H,I,q⟩
 |int i=>obtain⟨t,rfl⟩:=rx;have e':k=(i != 0):=e;subst e';exact PySem.P.truthy_int ⟨H,I,q⟩
 |str y=>obtain⟨t,rfl⟩:=rx;obtain⟨hy,e'⟩:y.length<=br/\k=((y.length:Int) != 0):=e;subst e';exact PySem.P.truthy_str (by omega) ⟨H,I.tok _,q⟩
 |Ov y=>obtain⟨t,rfl⟩:=rx;obtain⟨hy,e'⟩:y.size<=br/\k=((y.size:Int) != 0):=e;subst e';exact PySem.W.truthy_bytes (by omega) ⟨H,I.tok _,q⟩
 |ref p=>
  cases rx;have e':(∃xs,n9 X.K H p xs/\k = !xs.isEmpty)∨(∃xs,Ox X.K H p xs/\k = !xs.isEmpty)∨∃eZ,H p=Y (.dK eZ)/\k = !eZ.isEmpty:=e;rcases e' with⟨xs,hx,e'⟩|⟨xs,hx,e'⟩|⟨eZ,hx,e'⟩
  ·subst e';obtain⟨Hb,r,pl,hz⟩:=I.list hx;have GX:=r.length;exact wpAny_truthy_list pl.isList (by simp only[aY];omega) ⟨H,I.tok _,by rw[Ak r];exact q⟩
  ·subst e';obtain⟨Hb,r,pl,hz⟩:=I.tuple hx;have GX:=r.length;exact truthy_tuple pl (by simp only[aY];omega) ⟨H,I.tok _,by rw[Ak r];exact q⟩
  ·subst e';obtain⟨hz,hS,vs,r,m⟩:eZ.length<=br/\(p==lg)=Z_/\∃vs,KV eZ vs/\s.heap.DictOf (iw X.prog X.w) p vs:=I.jo p _ hx;have GX:eZ.length=vs.length:=Paired.length r;exact wpAny_truthy_dict hS m (by omega) ⟨H,I.tok _,by rw[HW r];exact q⟩
 |_=>exact(show False from e).elim
theorem Ms(l:PE X a N)(g:∀b,isTrue a X.env b=(do let v <- b;rA a.pos;n_ [v] (truthy v))):
  PT X a (λU H Q=>N U H λx H'=>∃k,WO X.K x H' k/\Q k H'):=by
 intro B s U H Q I h;exact isTrue_plain (gD (l B s U H _ I h) λv c ⟨x,O,m,e,f⟩=>RF B c U O x v Q m e f) (g _)
theorem HG:oU X (eL .Add) (λx y H Q=>∃i j,x=.str i/\y=.str j/\i.length+j.length<=br/\Q (.str (i++j)) H):=by
 intro B s U H x y v u Q I c b h;obtain⟨i,j,rfl,rfl,e,q⟩:=h;obtain⟨t,rfl⟩:=c;obtain⟨a,rfl⟩:=b;exact add_str (λa tk=>⟨.str (i++j),H,I.tok _,⟨_,rfl⟩,q⟩) e
theorem vals1{x:V}{a:List af}(r:cK [x] a):∃u,a=[u]/\RelV x u:=by
 cases r with|cons c b=>cases b;exact⟨_,rfl,c⟩
end
structure Iz(h:cF)(x dx C:az)(mA:aG->Option af):Prop where
 obj:h.get? x=some (He C dx)
 ns:h.Ns1 dx mA
 ne:dx≠x
theorem KQ{h:cF}{dx:az}{mA:aG->Option af}(n:h.Ns1 dx mA):∃c,h.get? dx=Y c/\∀name,lookIn name c=Y (mA name):=by
 obtain⟨o,es,r,g,m,l,_,k⟩:=n;refine⟨o,g,λname =>?_⟩;have e:=k name;unfold nsFind findBy at e;rw[<- Array.find?_toList]at e;unfold lookIn;rw[m];dsimp only;split
 ·rename_i y q;rw[q]at e;exact congrArg Y e
 ·rename_i q;rw[q]at e;have a:es.toList.any (·.refKey)=false:=by rw[EE];intro y f;obtain⟨z,t,b⟩:=l y (Array.mem_toList_iff.mp f);simp[DictEntry.refKey,b]
  have p:¬es.toList.any (·.refKey)=true:=by rw[a];exact cV
  rw[if_neg p];exact congrArg Y e
theorem Iz.look{h:cF}{x dx C:az}{mA:aG->Option af}(I:Iz h x dx C mA):∃a,PySem.W.InstAt h x (He C dx) C (Y a)/\∀name,lookIn name a=Y (mA name):=
 let ⟨a,b,c⟩:=KQ I.ns
 ⟨a,⟨I.obj,rfl,rfl,b⟩,c⟩
section
variable {prog:bj}{w:bQ}{A:cf}{E:af->aq->Prop}{s:aq}{K:bb}{x dx C f:az}{mA:aG->Option af}{name:aG}{v:af}
theorem QO{a:Bool}{Q:af->aq->Prop}(X:K.In s.heap)(I:Iz s.heap x dx C mA)(g:plainGet K C name=Z')(f:hasDictIn K C=Z')(k:wH K (.ref C) name=Y M)(c:mA name=Y v)(b:PySem.W.handedIn v=Z')(h:Q v { s with toks:=s.toks+1 }):
  bE (bB prog w) A (getAttr (.ref x) name a) Q E s:=by
 obtain⟨l,J,e⟩:=I.look;exact PySem.W.get_value X J (PySem.W.plainGet_of g).1 (PySem.W.findObj_own f k rfl (by rw[e,c])) b h
theorem Nq{b:Sem Bool}{Q:af×List af->aq->Prop}(X:K.In s.heap)(I:Iz s.heap x dx C mA)(a:plainGet K C name=Z')(l:wH K (.ref C) name=Y (Y (.ref f)))(g:PySem.W.isFn K (.ref f)=Z')(e:mA name=M)(h:Q (.ref f,[.ref x]) s):
  bE (bB prog w) A (m6 (.ref x) name b) Q E s:=by
 obtain⟨c,J,k⟩:=I.look;exact PySem.W.method_fn X J (PySem.W.plainGet_of a).1 (PySem.W.plainGet_of a).2 l (beq_iff_eq.mp g) (by show (lookIn name c).map (·.isSome)=Y Z_;rw[k,e];rfl) h
theorem OS{l:List aG}{Q:Unit->aq->Prop}(X:K.In s.heap)(I:Iz s.heap x dx C mA)(r:wH K (.ref C) "__setattr__" = Y (Y (.builtin "object.__setattr__")))(t:plainOver K C=Z')(o:takerIn K C name=Y M)(u:hasDictIn K C=Z')(hw:PySem.Within mA l)(p:l.length<=br)(h:∀h',Iz h' x dx C (λy=>if y=name then Y v else mA y)->lh dx s.heap h'->Q () { s with heap:=h',toks:=s.toks+2 }):
  bE (bB prog w) A (setAttr (.ref x) name v) Q E s:=by
 obtain⟨d,J,R⟩:=I.look;refine PySem.W.set_plain X J r (PySem.W.osa_open (s:={ s with toks:=s.toks+1 }) (r:=M) X J t o λb =>?_);obtain⟨S,D,g⟩:=PySem.W.any_some u;have m:s.heap.get? x=Y ⟨.ref C,Y dx,.plain,#[]⟩:=I.obj;refine aD (bG (aD (aD (wpAny_loadPart m (aD (PySem.W.Looks.here (s:={ s with toks:=s.toks+1 }) (PySem.W.looks_clsIn X D) ?_))))));rw[g];refine bG (a:=Y dx) (aD (bG (aD ?_)));refine wpAny_nsSet1 (s:={ s with toks:=s.toks+1 }) I.ns λh' c a =>?_
 obtain⟨P,F,H,e,f,k⟩:=c.count (PySem.Within.cons name v hw);refine aD (wpAny_lookBehind e (by rw[f];exact pastItsLine_dict (bX k (by rw[aO];omega))) ?_);exact bG (h _ ⟨(a.2 _ (cL I.ne)).trans I.obj,c,I.ne⟩ a)
theorem M3{R:Result->aq->Prop}{a:List af}{b:List (aG×af)}(X:K.In s.heap)(c:makesIn K C=Z')(L:wH K (.ref C) "__init__" = Y (Y (.ref f)))(e:PySem.W.typeIn K (.ref f)=Y (.type "function")) (h:Ba (bB prog w) (A.under (.builtin "type.__call__" ⟨.ref C::a,b⟩)) (.call (.ref f) ⟨.ref (s.heap.objs.size+1)::a,b⟩) (PySem.W.InitBack (s.heap.objs.size+1) R)
   { s with heap:=(s.heap.push rN).push (He C s.heap.objs.size) }) :
  Ba (bB prog w) A (.call (.ref C) ⟨a,b⟩) R s:=by
 obtain⟨l,g,d,t,k⟩:=s;exact PySem.W.make_core (PySem.W.makes_of X c) (PySem.W.looks_findIn X L) (λself=>PySem.W.bind_fn X self e) (.inl rfl) h
end
noncomputable def lN(f:aG)(v:V):List (aG×V)->List (aG×V)
 |[]=>[(f,v)]|(g,x)::r=>if g=f then (g,v)::r else (g,x)::lN f v r
theorem sr(f g:aG)(v:V):∀j:List (aG×V),(lN f v j).lookup g=if g=f then Y v else j.lookup g
 | []=>by
  show m8 g [(f,v)]=_;by_cases h:g=f
  ·have a:(g==f)=true:=beq_iff_eq.mpr h;simp only[m8,a,if_pos h]
  ·have a:(g==f)=false:=beq_eq_false_iff_ne.mpr h;simp only[m8,a,if_neg h]
 | (k,x)::r=>by
  have ih:=sr f g v r;rw[show lN f v ((k,x)::r)=(if k=f then (k,v)::r else (k,x)::lN f v r) from rfl];by_cases b:k=f
  ·rw[if_pos b];by_cases h:g=k
   ·have a:(g==k)=true:=beq_iff_eq.mpr h;simp only[m8,a,if_pos (h.trans b)]
   ·have a:(g==k)=false:=beq_eq_false_iff_ne.mpr h;simp only[m8,a,if_neg (λe:g=f=>h (e.trans b.symm))]
  ·rw[if_neg b];by_cases h:g=k
   ·have a:(g==k)=true:=beq_iff_eq.mpr h;simp only[m8,a,if_neg (λe:g=f=>b (h.symm.trans e))]
   ·have a:(g==k)=false:=beq_eq_false_iff_ne.mpr h;simp only[m8,a];exact ih
theorem xo(f:aG)(v:V):∀j:List (aG×V),f∈(lN f v j).map (·.1)/\∀g,g∈j.map (·.1)->g∈(lN f v j).map (·.1)
 |[]=>⟨by simp[lN],λg h=>by simp at h⟩
 | (k,x)::r=>by
  obtain⟨c,b⟩:=xo f v r;rw[show lN f v ((k,x)::r)=(if k=f then (k,v)::r else (k,x)::lN f v r) from rfl];by_cases a:k=f
  ·rw[if_pos a];subst a;exact⟨by simp,λg h=>by simpa using h⟩
  ·rw[if_neg a];refine⟨?_,λg h =>?_⟩
   ·rw[bh];exact av _ c
   ·rw[bh]at h ⊢;rcases aK.mp h with e|e
    ·exact aK.mpr (.inl e)
    ·exact av _ (b g e)
theorem x3(f:aG)(v:V):∀j:List (aG×V),(lN f v j).length<=j.length+1
 |[]=>by simp[lN]
 | (k,x)::r=>by
  have ih:=x3 f v r;rw[show lN f v ((k,x)::r)=(if k=f then (k,v)::r else (k,x)::lN f v r) from rfl];by_cases a:k=f
  ·rw[if_pos a,aO,aO];omega
  ·rw[if_neg a,aO,aO];omega
theorem rH.some_of{v:V}{o:Option af}(r:rH (Y v) o):∃u,o=Y u/\RelV v u:=by
 cases o with
 |none=>exact(show False from r).elim
 |some u=>exact⟨u,rfl,r⟩
theorem rH.none_of{o:Option af}(r:rH M o):o=none:=by
 cases o with
 |none=>rfl|some u=>exact(show False from r).elim
theorem K9{v:V}{u:af}(r:RelV v u):PySem.W.handedIn u=true:=by
 cases v with
 |eJ=>cases (show u=Value.none from r);rfl
 |bl b=>cases (show u=Value.bool b from r);rfl
 |int i=>obtain⟨t,e⟩:=(show ∃t,u=ko i t from r);cases e;rfl
 |str x=>obtain⟨t,e⟩:=(show ∃t,u=Value.str x t from r);cases e;rfl
 |Ov b=>obtain⟨t,e⟩:=(show ∃t,u=Value.bytes b t from r);cases e;rfl
 |Rm b=>obtain⟨t,e⟩:=(show ∃t,u=Value.float b t from r);cases e;rfl
 |ref a=>cases (show u=cP a from r);rfl
 |ty n=>cases (show u=oQ n from r);rfl
section
variable {P:bj}{w:bQ}{H H':Hp}{h h':cF}{a C dx:az}{j Rl:List (aG×V)}
theorem DS(b:pM P w H h)(e:H a=Y (.ins C dx j)):∃mA,Iz h a dx C mA/\(∀f,rH (j.lookup f) (mA f))/\PySem.Within mA (j.map (·.1))/\j.length<=1000/\H dx=Y (.own a):=by
 obtain⟨d,z,g,c,mA,n,r,q⟩:=(show i6 P w H h a (.ins C dx j) from b a _ e);exact⟨mA,⟨c,n,g⟩,r,q,z,d⟩
end
structure Kb(K:bb)(C:az):Prop where
 pg:plainGet K C Str.empty=true
 hd:hasDictIn K C=true
 po:plainOver K C=true
 sa:wH K (.ref C) "__setattr__" = some (some (.builtin "object.__setattr__"))
theorem Kb.get{K:bb}{C:az}(c:Kb K C)(f:aG):plainGet K C f=true:=c.pg
def qQ(K:bb)(C:az)(f:aG):Prop:=wH K (.ref C) f=Y M
theorem qQ.Vb{K:bb}{C:az}{f:aG}(n:qQ K C f):takerIn K C f=Y none:=by
 unfold takerIn;rw[show wH K (.ref C) f=Y M from n];rfl
structure Ob(K:bb)(C:az)(m:aG)(f:az):Prop where
 at_:wH K (.ref C) m=some (some (.ref f))
 fn:PySem.W.isFn K (.ref f)=true
 kp:B2 K (.ref f)=true
section
variable {X:Cx}{B:List (az×Obj)}{U:St}{H:Hp}{s:aq}{a C dx:az}{j:List (aG×V)}{f:aG}{v:V}{A:cf}{E:af->aq->Prop}
theorem Ay{b:Bool}{Q:af->aq->Prop}(I:Inv X B U H s)(e:H a=Y (.ins C dx j))(c:Kb X.K C)(n:qQ X.K C f)(l:j.lookup f=Y v)(h:∀u s',Inv X B U H s'->RelV v u->Q u s'):bE (bB X.prog X.w) A (getAttr (.ref a) f b) Q E s:=by
 obtain⟨mA,O,r,_,_,_⟩:=DS I.jo e;obtain⟨u,k,g⟩:=rH.some_of (v:=v) (o:=mA f) (by rw[<- l];exact r f);exact QO I.HV O (c.get f) c.hd n k (K9 g) (h u _ (I.tok _) g)
theorem uT{m:aG}{g:az}{b:Sem Bool}{Q:af×List af->aq->Prop}(I:Inv X B U H s)(e:H a=Y (.ins C dx j))(c:Kb X.K C)(k:Ob X.K C m g)(l:j.lookup m=M)(h:Q (.ref g,[.ref a]) s):bE (bB X.prog X.w) A (m6 (.ref a) m b) Q E s:=by
 obtain⟨mA,O,r,_,_,_⟩:=DS I.jo e;have f:mA m=none:=rH.none_of (by rw[<- l];exact r m);exact Nq I.HV O (c.get m) k.at_ k.fn f h
theorem zo{y:V}{u:af}{Q:Unit->aq->Prop}(I:Inv X B U H s)(e:H a=Y (.ins C dx j))(c:Kb X.K C)(n:qQ X.K C f)(K:j.length<1000)(t:RelV y u)(h:∀s',Inv X B U (eN H a (.ins C dx (lN f y j))) s'->Q () s'):bE (bB X.prog X.w) A (setAttr (.ref a) f u) Q E s:=by
 obtain⟨mA,O,r,l,_,m⟩:=DS I.jo e;have v:(j.map (·.1)).length<=br:=by rw[au,jO];omega
 refine OS I.HV O c.sa c.po n.Vb c.hd l v λh' k p=>h _ ?_
 have x:∃o,h'.get? dx=Y o:=let ⟨o,_,_,F,_⟩:=k.ns;⟨o,F⟩;refine I.write (x:=a) (e:=dx) (by rw[e];exact wI) (.inr m) (λb q D z=>(p.2 b D).trans z) x ?_;refine⟨by rw[bz O.ne];exact m,?_,O.ne,k.obj,_,k.ns,λg =>?_,λg w =>?_⟩
 ·have:=x3 f y j;omega
 ·show rH ((lN f y j).lookup g) (if g=f then Y u else mA g);rw[sr];by_cases q:g=f
  ·rw[if_pos q,if_pos q];exact t
  ·rw[if_neg q,if_neg q];exact r g
 ·by_cases q:g=f
  ·rw[q];exact(xo f y j).1
  ·refine(xo f y j).2 g (l g λz=>w ?_);show (if g=f then Y u else mA g)=M;rw[if_neg q];exact z
theorem Inv.made(I:Inv X B U H s):Inv X B U (eN (eN H s.heap.objs.size (.own (s.heap.objs.size+1))) (s.heap.objs.size+1) (.ins C s.heap.objs.size []))
  { s with heap:=(s.heap.push rN).push (He C s.heap.objs.size) }:=by
 have c:(s.heap.push rN).get? s.heap.objs.size=Y rN:=bD s.heap rfl;have k:((s.heap.push rN).push (He C s.heap.objs.size)).get? (s.heap.objs.size+1)=Y (He C s.heap.objs.size):=by have:=bD (s.heap.push rN) (o:=He C s.heap.objs.size) rfl;rwa [fg]at this
 have h:(s.heap.push rN).Ns s.heap.objs.size (λ_=>M):=⟨rN,#[],_,c,rfl,(λe g=>absurd g (by simp)),λ_=>rfl⟩;have l:=I.laid (a:=s.heap.objs.size) (o :=.own (s.heap.objs.size+1)) (h':=s.heap.push rN) (t':=s.toks) (λb u q=>ak _ q) (aM _) ⟨_,c⟩;refine l.laid (a:=s.heap.objs.size+1) (o :=.ins C s.heap.objs.size []) (t':=s.toks) (λb u q=>ak _ q) (QV (fg _ _)) ?_;have a:s.heap.objs.size≠s.heap.objs.size+1:=bS (jP _);refine⟨by rw[bz a,bM],fc _,a,k,λ_=>M,(Heap.Ns1.of_empty h).at λo q=>ak _ q,λ_=>wI,λy f=>absurd rfl f⟩
theorem Qz{prog:bj}{w:bQ}{a:Env}{e:Expr}{f:aG}{G:Pos}{s:aq}{Q:af->aq->Prop}(c:cy e f a (eval e a)=eval e a)(h:bE (bB prog w) A (eval e a) (λo b=>bE (bB prog w) A (getAttr o f Z') Q E b) E s):bE (bB prog w) A (eval (.Attribute e f G) a) Q E s:=
 Attribute_any_ h (by rw[arm_eval_Attribute,c])
end
def Vj(K:bb)(N:TE)(f:aG):TE:=λU H Q=>N U H λx O=>∃a C dx j v,x=.ref a/\O a=Y (.ins C dx j)/\Kb K C/\qQ K C f/\j.lookup f=Y v/\Q v O
def XZ(K:bb)(N tv:TE)(f:aG):TS:=λD U H=>tv U H λy O=>N U O λx d=>∃a C dx j,x=.ref a/\d a=Y (.ins C dx j)/\Kb K C/\qQ K C f/\j.length<1000 /\
 D.nx U (eN d a (.ins C dx (lN f y j)))
def LC(X:Cx)(b:Ez)(a:V->V->Hp->VK->Prop):Prop:=
 ∀(B:List (az×Obj)) (s:aq) (U:St) (H:Hp) (x y:V) (u v:af) (Q:VK),Inv X B U H s->RelV x u->RelV y v->a x y H Q->bE (bB X.prog X.w) X.A (inplaceOp b u v) (EP X B U Q) X.xe s
def OW(K:bb)(N tv:TE)(e:V->V->Hp->VK->Prop)(f:aG):TS:=λD U H=>N U H λx O=>∃a C dx j v,x=.ref a/\O a=Y (.ins C dx j)/\Kb K C/\qQ K C f/\j.lookup f=Y v /\
 tv U O λy d=>e v y d λz c=>∃b Rl,c a=Y (.ins C b Rl)/\Rl.length<1000/\D.nx U (eN c a (.ins C b (lN f z Rl)))
section
variable {X:Cx}{o e value:Expr}{f:aG}{G IC U_:Pos}{N tv:TE}
theorem sj(k:PE X e N)(m:cy e f X.env (eval e X.env)=eval e X.env):PE X (.Attribute e f G) (Vj X.K N f):=by
 intro B s U H Q I h;refine Qz m (gD (k B s U H _ I h) λu A ⟨x,O,r,b,a,C,dx,j,v,ex,o,c,n,l,q⟩ =>?_);subst ex;obtain rfl:u=cP a:=b;exact Ay r o c n l λt w p g=>⟨v,O,p,g,q⟩
theorem Dm(t:PE X o N)(p:PE X value tv)(r:c5 value (Y (.Attribute o f IC)) G.line X.env=fm Z_):PS X (.Assign [.Attribute o f IC] value G) (XZ X.K N tv f):=by
 intro B s U H D I h;refine plainObj_wpAny_Assign_Attribute (gD (p B s U H _ I h) λu b ⟨y,O,E,e,q⟩=>gD (t B b U O _ E q) λm K ⟨x,d,A,g,a,C,dx,j,ex,v,c,n,l,k⟩ =>?_) r;subst ex;obtain rfl:m=cP a:=g;exact zo A v c n l e λF w=>⟨U,_,w,k⟩
theorem Kz{k:Ez}{g:V->V->Hp->VK->Prop}(R:PE X o N)(Q:PE X value tv)(b:LC X k g):PS X (.AugAssign (.Attribute o f U_) k value G) (OW X.K N tv g f):=by
 intro B s U H D I h;refine wpAny_AugAssign_AttributeAny (gD (R B s U H _ I h) λi s1 ⟨x,O,I1,A,a,C,dx,j,v,ex,S,c,n,l,q⟩ =>?_);subst ex;obtain rfl:i=cP a:=A;refine Ay I1 S c n l λu r I2 E=>gD (Q B r U O _ I2 q) λm p ⟨y,d,I3,w,K⟩=>gD (b B p U d v y u m _ I3 E w K) λw4 s4 ⟨z,H3,I4,t,T,Rl,e,P,F⟩ =>?_
 exact zo I4 e c n P t λs5 I5=>⟨U,_,I5,F⟩
def X_:V->V->Hp->VK->Prop:=λx y H Q=>∃i j,x=.int i/\y=.int j/\Q (.int (i+j)) H
def X5:V->V->Hp->VK->Prop:=λx y H Q=>∃i j,x=.int i/\y=.int j/\Q (.int (i-j)) H
theorem DV:LC X .Add X_:=by
 rintro B s U H x y u v Q I c b ⟨i,j,rfl,rfl,q⟩;obtain⟨t,rfl⟩:=(show ∃t,u=ko i t from c);obtain⟨a,rfl⟩:=(show ∃a,v=ko j a from b);exact PyProof.Rows.iadd_int ⟨.int (i+j),H,I.tok _,⟨_,rfl⟩,q⟩
theorem Ni:LC X .Sub X5:=by
 rintro B s U H x y u v Q I c b ⟨i,j,rfl,rfl,q⟩;obtain⟨t,rfl⟩:=(show ∃t,u=ko i t from c);obtain⟨a,rfl⟩:=(show ∃a,v=ko j a from b);exact PyProof.Rows.isub_int ⟨.int (i-j),H,I.tok _,⟨_,rfl⟩,q⟩
theorem Rc{o:Sem Bool}{m:aG}{rK:Pos}{args:List Expr}{B:List (az×Obj)}{s:aq}{U:St}{H:Hp}{Q:af->aq->Prop}{te:TE}(w:PE X e te)(I:Inv X B U H s) (h:te U H λx O=>∃a C dx j g,x=.ref a/\O a=Y (.ins C dx j)/\Kb X.K C/\Ob X.K C m g/\j.lookup m=M /\
   ∀b,Inv X B U O b->bE (bB X.prog X.w) X.A (rO G (.ref g) [.ref a] (dh G (ao args X.env)) (jl G (d5 [] X.env))) Q X.xe b) (v:eval (.Call (.Attribute e m rK) args [] G) X.env=(do
   let p <- eval e X.env
   rA rK.atName
   let (f,first) <- n_ [p] (m6 p m o)
   rO G f first (dh G (ao args X.env)) (jl G (d5 [] X.env)))) :
  bE (bB X.prog X.w) X.A (eval (.Call (.Attribute e m rK) args [] G) X.env) Q X.xe s:=by
 refine PySem.W.methodCall_KW (pl:=o) (gD (w B s U H _ I h) λu b ⟨x,O,r,t,a,C,dx,j,g,ex,A,c,k,l,q⟩ =>?_) v;subst ex;obtain rfl:u=cP a:=t;exact uT r A c k l (q b r)
end
section
variable {X:Cx}{B:List (az×Obj)}{U:St}{H:Hp}{s:aq}{A:cf}{E:af->aq->Prop}{Q:af->aq->Prop}{c:af}{b:Bool}
end
structure f'(k:Nat)(A:cf):Prop where
 hd:A.handled=none
 dp:A.depth+3*k+5<recursionLimit
 un:A.units+16*k+200<rP
theorem f'.mono{j k:Nat}{A:cf}(r:f' k A)(h:j<=k):f' j A:=⟨r.hd,by have:=r.dp;omega,by have:=r.un;omega⟩
theorem f'.deeper{k:Nat}{A:cf}(r:f' (k+1) A)(a:Env):f' k (A.deeper a):=
 ⟨r.hd,by have:=r.dp;show A.depth+1+3*k+5<_;omega,by have:=r.un;show A.units+3+16*k+200<_;omega⟩
theorem HQ{A:cf}{C:az}{a:List af}{b:List (aG×af)}:(A.under (.builtin "type.__call__" ⟨.ref C::a,b⟩)).depth=A.depth+1:=by
 first|rfl|simp[Around.under,Code.weight,Code.isCreation,Code.isGuard,Code.isCaller,Code.frames,Code.isFrame,guardIds]
theorem HP{A:cf}{C:az}{a:List af}{b:List (aG×af)}:(A.under (.builtin "type.__call__" ⟨.ref C::a,b⟩)).units=A.units+1:=by
 first|rfl|simp[Around.under,Code.cUnits,Code.frames,Code.isFrame]
theorem f'.make{k:Nat}{A:cf}(r:f' (k+1) A)(C:az)(a:List af)(b:List (aG×af)):f' k (A.under (.builtin "type.__call__" ⟨.ref C::a,b⟩)):=
 ⟨r.hd,by have:=r.dp;rw[HQ];omega,by have:=r.un;rw[HP];omega⟩
theorem f'.depth{k:Nat}{A:cf}(r:f' k A):A.depth<recursionLimit:=by have:=r.dp;omega
theorem f'.units{k:Nat}{A:cf}(r:f' k A):A.units+64<rP:=by have:=r.un;omega
def RL:TA:=λ_ H Q=>Q [] H
def Vm(N:TE)(a:TA):TA:=λU H Q=>N U H λx O=>a U O λxs d=>Q (x::xs) d
section
variable {X:Cx}{e:Expr}{es:List Expr}{te:TE}{t:TA}{G:Pos}
theorem kj:PA X [] RL:=λ_ _ _ _ H Q I h=>Calls.spliced_nil ⟨[],H,I,.nil,h⟩
theorem f7(m:PE X e te)(l:PA X es t)(k:ao (e::es) X.env=(Z_,eval e X.env)::ao es X.env:=by rfl):PA X (e::es) (Vm te t):=by
 intro G B s U H Q I h;rw[k];show bE _ _ (spliced ((Z_,eval e X.env)::dh G (ao es X.env))) _ _ s;refine IH (gD (m B s U H _ I h) λu a ⟨x,O,p,c,g⟩ =>?_);exact gD (l G B a U O _ p g) λr v ⟨xs,d,o,b,f⟩=>⟨x::xs,d,o,.cons c b,f⟩
def XH(t:TA):TE:=λU H Q=>t U H λxs O=>xs.length<=br/\∀p,O p=M->Q (.ref p) (eN O p (.tup xs))
def XQ(t:TA):TE:=λU H Q=>t U H λxs O=>xs.length<=br/\∀p,O p=M->Q (.ref p) (eN O p (.lst xs))
theorem Mw{f}(h:PA X es t):PE X (.Tuple es f G) (XH t):=by
 intro B s U H Q I k;refine wpAny_Tuple_spliced (gD (h G B s U H _ I k) λg a ⟨xs,O,c,r,z,q⟩=>⟨by rw[<- r.length];exact z,?_⟩);have l:O a.heap.objs.size=none:=c.jo.fresh (aM _);refine⟨.ref a.heap.objs.size,eN O a.heap.objs.size (.tup xs),c.laid (t':=a.toks) (λb u e=>ak _ e) (aM _) ?_,rfl,q _ l⟩;exact⟨z,g,r,⟨_,bD _ rfl,rfl,_,rfl⟩⟩
theorem Mz(h:PA X es t):PE X (.List es G) (XQ t):=by
 intro B s U H Q I g;refine wpAny_List_spliced (gD (h G B s U H _ I g) λf a ⟨xs,O,c,r,z,q⟩=>⟨by rw[<- r.length];exact z,?_⟩);have k:O a.heap.objs.size=none:=c.jo.fresh (aM _);refine⟨.ref a.heap.objs.size,eN O a.heap.objs.size (.lst xs),c.laid (t':=a.toks) (λb u e=>ak _ e) (aM _) ?_,rfl,q _ k⟩;exact⟨z,f,0,r,bD _ rfl⟩
end
abbrev Sp:=List V->Hp->VK->XK->Prop
abbrev LD:=List Env->Hp->aq->XK->af->aq->Prop
structure IB(P:bj)(w:bQ)(K:bb)(mg:aG->Option af)(base:cF)(A:cf)(outer:List Env)(s:aq)(H:Hp):Prop where
 frames:A.frames=some outer
 mod:Mod K mg base
 bs:∀b o,base.get? b=some o->s.heap.get? b=some o/\H b=none
 Ow:base.objs.size<=s.heap.objs.size
 yD:s.heap.FunFrames base outer
 Tz:∀b∈EJ outer,H b=none
 jo:pM P w H s.heap
 bare:Hg s.gens
def CE(a:List Env)(P:bj)(w:bQ)(H:Hp)(s:aq)(Q:VK)(u:af)(s':aq):Prop:=
 ∃v H',s'.os=s.os/\Hg s'.gens/\Un (EJ a) [] H H' s.heap s'.heap/\pM P w H' s'.heap/\RelV v u/\Q v H'
def CR(CX:LD)(a:List Env)(P:bj)(w:bQ)(H:Hp)(s:aq)(Q:VK)(E:XK)(r:Result)(s':aq):Prop:=
 match r with
 |.ok (.ret u)=>CE a P w H s Q u s'|.ok _=>False|.error e=>CX a H s E e s'
structure cQ(P:bj)(w:bQ)(K:bb)(mg:aG->Option af)(base:cF)(CX:LD)(k:Nat)(f:az)(fd:dP)(ps:List aG)(sp:Sp):Prop where
 len:∀vs H Q E,sp vs H Q E->vs.length=ps.length
 run:∀(A:cf) (outer:List Env) (s:aq) (H:Hp) (args:Args) (us:List af) (vs:List V) (Q:VK) (E:XK),f' k A->IB P w K mg base A outer s H->LQ s fd args (ps.zip us)->cK vs us->sp vs H Q E ->
  Ba (bB P w) A (.call (.ref f) args) (CR CX outer P w H s Q E) s
theorem cQ.mono{P:bj}{w:bQ}{K:bb}{i:aG->Option af}{base:cF}{CX:LD}{j k:Nat}{f:az}{I:dP}{q:List aG}{sp:Sp}(F:cQ P w K i base CX j f I q sp)(h:j<=k):
  cQ P w K i base CX k f I q sp:=⟨F.len,λA a s H args c b Q E e=>F.run A a s H args c b Q E (e.mono h)⟩
theorem IB.make{P:bj}{w:bQ}{K:bb}{i:aG->Option af}{base:cF}{A:cf}{a:List Env}{s:aq}{H:Hp}(e:IB P w K i base A a s H)(C:az)(b:List af)(c:List (aG×af)):
  IB P w K i base (A.under (.builtin "type.__call__" ⟨.ref C::b,c⟩)) a s H:=⟨by first|exact e.frames|(simpa [Around.under,Code.envs,Code.isFrame,pushEnvs] using e.frames),e.mod,e.bs,e.Ow,e.yD,e.Tz,e.jo,e.bare⟩
section
variable {X:Cx}{B:List (az×Obj)}{U:St}{H:Hp}{s s':aq}
theorem Inv.Wy(I:Inv X B U H s):IB X.prog X.w X.K X.mg X.base X.A X.stack s H:=
 ⟨I.ok.frames,I.ok.mod,I.bs,bX I.ok.Ow I.sz,I.stack,I.IL,I.jo,I.bare⟩
theorem Inv.after{Q:VK}{u:af}(I:Inv X B U H s)(h:CE X.stack X.prog X.w H s Q u s'):EP X B U Q u s':=by
 obtain⟨v,H',k,a,f,e,r,q⟩:=h;obtain⟨l,g,d,t,c⟩:=s';obtain rfl:c=s.os:=k;exact⟨v,H',I.call (h':=l) (g':=g) (d':=d) (t':=t) (ch:=[]) f e a (λb z=>absurd z (by simp)),r,q⟩
end
def Q3(sp:Sp)(AJ:List V)(E:XK)(t:TA):TE:=λU H Q=>t U H λa O=>sp (a++AJ) O Q E
def E9(C:az)(m:aG)(sp:Sp)(AJ:List V)(E:XK)(N:TE)(t:TA):TE:=λU H Q=>N U H λx O=>∃a dx j,x=.ref a/\O a=Y (.ins C dx j)/\j.lookup m=M /\
 t U O λb d=>sp (x::(b++AJ)) d Q E
def Vi(C:az)(sp:Sp)(AJ:List V)(E:XK)(t:TA):TE:=λU H Q=>t U H λa O=>∀x dx,O x=M->O dx=M->dx≠x ->
 sp (.ref x::(a++AJ)) (eN (eN O dx (.own x)) x (.ins C dx [])) (λv d=>v=.eJ/\Q (.ref x) d) E
def Binds(K:bb)(I:dP)(q:List aG)(ds:List af):Prop:=
 ∀(s:aq) (a:List af),K.In s.heap->(a++ds).length=q.length->LQ s I ⟨a,[]⟩ (q.zip (a++ds))
theorem Binds.all{K:bb}{I:dP}{q:List aG}(h:∀a:List af,a.length=q.length->bindArgs I ⟨a,[]⟩=fm (q.zip a)):Binds K I q []:=λs a _ b=>by
 rw[cM]at b ⊢;exact .of_eq (h a b)
def sO(CX:LD)(X:Cx)(E:XK):Prop:=∀(B:List (az×Obj)) (U:St) (H:Hp) (s:aq) (e:af) (s':aq),Inv X B U H s->CX X.stack H s E e s'->X.xe e s'
section
variable {X:Cx}{CX:LD}{k:Nat}{f C:az}{I:dP}{q:List aG}{sp:Sp}{AJ:List V}{ds:List af}{E:XK}{x m:aG}{p G rK:Pos}{e o:Expr}{es:List Expr}{N:TE}{t:TA}
theorem Dh{B:List (az×Obj)}{U:St}{H:Hp}{s:aq}{Q:VK}{us:List af}{vs:List V}(F:cQ X.prog X.w X.K X.mg X.base CX k f I q sp)(l:f' k X.A)(p:Binds X.K I q ds)(o:cK AJ ds)(g:sO CX X E)(a:Inv X B U H s)(r:cK vs us)(h:sp (vs++AJ) H Q E):bE (bB X.prog X.w) X.A (call (.ref f) us) (EP X B U Q) X.xe s:=by
 have c:cK (vs++AJ) (us++ds):=r.append o;have m:(us++ds).length=q.length:=by rw[<- c.length];exact F.len _ _ _ _ h
 refine wpAny_call (LJ (F.run X.A X.stack s H ⟨us,[]⟩ (us++ds) (vs++AJ) Q E l a.Wy (p s us a.HV m) c h) λr s' b =>?_);cases r with
 |error e=>exact g B U H s e s' a b|ok t=>
  cases t with|ret u=>exact a.after b|next=>exact ir b|brk=>exact ir b|cont=>exact ir b
theorem yX(F:cQ X.prog X.w X.K X.mg X.base CX k f I q sp)(o:f' k X.A)(w:Gl X x)(u:X.mg x=Y (.ref f))(v:B2 X.K (.ref f)=Z')(D:Binds X.K I q ds)(C:cK AJ ds)(m:sO CX X E)(K:PA X (e::es) t)(g:(x==("__debug__" : aG))=false:=by decide)(A:ao (e::es) X.env=(Z_,eval e X.env)::ao es X.env:=by rfl)(c:(dh G (ao es X.env)).any (·.1)=false:=by rfl):
  PE X (.Call (.Name x p) (e::es) [] G) (Q3 sp AJ E t):=by
 intro B s U H Q a h;refine jk (DH a w u ?_ g);refine PySem.W.callWith_K (h₀:=X.base) a.ok.mod.V5 v (gD (K G B s U H _ a h) λP R ⟨d,O,l,r,b⟩=>⟨l.HV,?_⟩) A c;exact Dh F o D C m l r b
theorem MG(F:cQ X.prog X.w X.K X.mg X.base CX k f I q sp)(e:f' k X.A)(m:Gl X x)(g:X.mg x=Y (.ref f))(l:B2 X.K (.ref f)=Z')(r:Binds X.K I q ds)(o:cK AJ ds)(c:sO CX X E)(b:(x==("__debug__" : aG))=false:=by decide):PE X (.Call (.Name x p) [] [] G) (Q3 sp AJ E RL):=by
 intro B s U H Q a h;refine jk (DH a m g ?_ b);exact PySem.W.callWith_K0 a.HV l (Dh (us:=[]) F e r o c a .nil h)
theorem Dp{pl:Sem Bool}(he:PE X o N)(c:Kb X.K C)(A:Ob X.K C m f)(F:cQ X.prog X.w X.K X.mg X.base CX k f I q sp)(hr:f' k X.A)(hb:Binds X.K I q ds)(hd:cK AJ ds)(hx:sO CX X E)(ha:PA X (e::es) t)(p:ao (e::es) X.env=(Z_,eval e X.env)::ao es X.env:=by rfl)(v:(dh G (ao es X.env)).any (·.1)=false:=by rfl) (ht:eval (.Call (.Attribute o m rK) (e::es) [] G) X.env=(do
   let w <- eval o X.env
   rA rK.atName
   let (f,first) <- n_ [w] (m6 w m pl)
   rO G f first (dh G (ao (e::es) X.env)) (jl G (d5 [] X.env))):=by rfl) :
  PE X (.Call (.Attribute o m rK) (e::es) [] G) (E9 C m sp AJ E N t):=by
 intro B s U H Q b h;refine PySem.W.methodCall_KW (pl:=pl) (gD (he B s U H _ b h) λu R ⟨x,O,K,S,a,dx,j,ex,ea,l,g⟩ =>?_) ht;subst ex;obtain rfl:u=cP a:=S;refine uT K ea c A l ?_;refine PySem.W.callWith_K (first:=[.ref a]) (h₀:=X.base) b.ok.mod.V5 A.kp (gD (ha G B R U O _ K g) λP s2 ⟨i,d,D,r,T⟩=>⟨D.HV,?_⟩) p v;exact Dh (us :=.ref a::P) (vs :=.ref a::i) F hr hb hd hx D (.cons rfl r) T
theorem zQ{pl:Sem Bool}(D:PE X o N)(c:Kb X.K C)(r:Ob X.K C m f)(F:cQ X.prog X.w X.K X.mg X.base CX k f I q sp)(A:f' k X.A)(d:Binds X.K I q ds)(K:cK AJ ds)(v:sO CX X E) (w:eval (.Call (.Attribute o m rK) [] [] G) X.env=(do
   let p <- eval o X.env
   rA rK.atName
   let (f,first) <- n_ [p] (m6 p m pl)
   rO G f first (dh G (ao [] X.env)) (jl G (d5 [] X.env))):=by rfl) :
  PE X (.Call (.Attribute o m rK) [] [] G) (E9 C m sp AJ E N RL):=by
 intro B s U H Q b h;refine PySem.W.methodCall_KW (pl:=pl) (gD (D B s U H _ b h) λu R ⟨x,O,g,t,a,dx,j,ex,P,l,e⟩ =>?_) w;subst ex;obtain rfl:u=cP a:=t;refine uT g P c r l ?_;exact PySem.W.callWith_K0 (first:=[.ref a]) g.HV r.kp (Dh (us:=[.ref a]) (vs:=[.ref a]) F A d K v g (.cons rfl .nil) e)
structure Mk(K:bb)(C f:az):Prop where
 makes:makesIn K C=true
 init:wH K (.ref C) "__init__" = some (some (.ref f))
 fn:PySem.W.isFn K (.ref f)=true
 kp:B2 K (.ref C)=true
theorem Mo{B:List (az×Obj)}{U:St}{H:Hp}{s:aq}{Q:VK}{us:List af}{g:List V}(i:Mk X.K C f)(F:cQ X.prog X.w X.K X.mg X.base CX k f I q sp)(w:f' (k+1) X.A)(K:Binds X.K I q ds)(D:cK AJ ds)(t:sO CX X E)(a:Inv X B U H s)(r:cK g us)(h:∀x dx,H x=M->H dx=M->dx≠x->sp (.ref x::(g++AJ)) (eN (eN H dx (.own x)) x (.ins C dx [])) (λv d=>v=.eJ/\Q (.ref x) d) E):
  bE (bB X.prog X.w) X.A (call (.ref C) us) (EP X B U Q) X.xe s:=by
 have m:=h (s.heap.objs.size+1) s.heap.objs.size (a.jo.fresh (jZ _)) (a.jo.fresh (aM _)) (bS (jP _));have c:=Inv.made (C:=C) a;have l:cK (V.ref (s.heap.objs.size+1)::(g++AJ)) (cP (s.heap.objs.size+1)::(us++ds)) :=.cons rfl (r.append D);have A:(cP (s.heap.objs.size+1)::us++ds).length=q.length:=by have e:=l.length;rw[F.len _ _ _ _ m]at e;exact e.symm
 refine wpAny_call (M3 (f:=f) a.HV i.makes i.init (beq_iff_eq.mp i.fn) (LJ (F.run _ X.stack _ _ ⟨cP (s.heap.objs.size+1)::us,[]⟩ (cP (s.heap.objs.size+1)::(us++ds)) _ _ E (w.make C us [])
  (c.Wy.make C us []) (K _ (cP (s.heap.objs.size+1)::us) c.HV A) l m) λr s' b =>?_))
 cases r with
 |error e=>exact t B U _ _ e s' c b|ok P=>
  cases P with
  |ret u=>obtain⟨v,H',S,o,R,p⟩:=c.after b;subst R;exact⟨o,⟨V.ref (s.heap.objs.size+1),H',S,rfl,p⟩⟩
  |next=>exact ir b|brk=>exact ir b|cont=>exact ir b
theorem I_(d:Mk X.K C f)(F:cQ X.prog X.w X.K X.mg X.base CX k f I q sp)(o:f' (k+1) X.A)(v:Gl X x)(u:X.mg x=Y (.ref C))(D:Binds X.K I q ds)(A:cK AJ ds)(m:sO CX X E)(K:PA X (e::es) t)(g:(x==("__debug__" : aG))=false:=by decide)(w:ao (e::es) X.env=(Z_,eval e X.env)::ao es X.env:=by rfl)(c:(dh G (ao es X.env)).any (·.1)=false:=by rfl):
  PE X (.Call (.Name x p) (e::es) [] G) (Vi C sp AJ E t):=by
 intro B s U H Q a h;refine jk (DH a v u ?_ g);refine PySem.W.callWith_K (h₀:=X.base) a.ok.mod.V5 d.kp (gD (K G B s U H _ a h) λR S ⟨P,O,l,r,b⟩=>⟨l.HV,?_⟩) w c;exact Mo d F o D A m l r b
end
section
variable {X:Cx}{CX:LD}{k:Nat}{f C:az}{I:dP}{q ks:List aG}{sp:Sp}{E:XK}{x m:aG}{p G rK aa1:Pos}{e o:Expr}{es:List Expr}{kws:List m7}{te N:TE}{t tk:TA}{nm:Option aG}
variable {g:List af->List af->List af}{gV:List V->List V->List V}
end
structure bC(N P:List aG)(sc:Scope):Prop where
 kind:sc.kind=.function
 co:sc.isCoroutine=false
 gen:sc.isGenerator=false
 nd:N.Nodup
 pre:N.take P.length=P
 par:∀x∈P,sc.names.lookup x=some .local∨sc.names.lookup x=some .cell
 SF:∀y∈sc.names,y.2 ≠ .free
theorem CS{b:aG->Option mG}{x:aG}:∀ {a:List (aG×af)}{m:aG->Option af},(∀v,(x,v)∉a)->bindL b a m x=m x
 |[],_,_=>rfl| (n,v)::r,m,h=>by
  unfold bindL;rw[CS λw hw=>h w (av _ hw)];split
  ·have:x≠n:=by rintro rfl;exact h v ay
   simp[this]
  ·rfl
theorem CU{b:aG->Option mG}{x:aG}:∀ {a:List (aG×af)}{m:aG->Option af},(∀v,(x,v)∉a)->bindC b a m x=m x
 |[],_,_=>rfl| (n,v)::r,m,h=>by
  unfold bindC;rw[CU λw hw=>h w (av _ hw)];split
  ·rfl
  ·have:x≠n:=by rintro rfl;exact h v ay
   simp[this]
theorem CT{a:aG->Option mG}{x:aG}{v:af}:∀ {P:List aG}{b:List af}{i:Nat}{m:aG->Option af},P.Nodup->P[i]?=Y x->b[i]?=Y v->a x=Y .local ->
  bindL a (P.zip b) m x=Y v
 |[],_,_,_,_,h,_,_=>by simp at h
 |_::_,[],_,_,_,_,h,_=>by simp at h
 |p::P,w::b,0,m,c,J,z,e=>by simp at J z;subst J;subst z;show bindL a ((p,w)::P.zip b) m p=_;unfold bindL;rw[CS λv f=>(qj.mp c).1 (wO f).1,if_pos e];simp
 |p::P,w::b,i+1,m,c,J,z,e=>by show bindL a ((p,w)::P.zip b) m x=_;unfold bindL;exact CT (i:=i) (qj.mp c).2 (by simpa using J) (by simpa using z) e
theorem CV{a:aG->Option mG}{x:aG}{v:af}:∀ {P:List aG}{b:List af}{i:Nat}{m:aG->Option af},P.Nodup->P[i]?=Y x->b[i]?=Y v->a x≠Y .local ->
  bindC a (P.zip b) m x=Y v
 |[],_,_,_,_,h,_,_=>by simp at h
 |_::_,[],_,_,_,_,h,_=>by simp at h
 |p::P,w::b,0,m,c,J,z,e=>by simp at J z;subst J;subst z;show bindC a ((p,w)::P.zip b) m p=_;unfold bindC;rw[CU λv f=>(qj.mp c).1 (wO f).1,if_neg e];simp
 |p::P,w::b,i+1,m,c,J,z,e=>by show bindC a ((p,w)::P.zip b) m x=_;unfold bindC;exact CV (i:=i) (qj.mp c).2 (by simpa using J) (by simpa using z) e
noncomputable def start(N:List aG)(a:List V):St:=a.map Y++bL (N.length-a.length) M
noncomputable def xE(CX:LD)(P:bj)(w:bQ)(K:bb)(i:aG->Option af)(base:cF)(N:List aG)(c:aG)(a:Scope)(f:az)(h:af)(A:cf)(b:List Env)(s:aq)(H:Hp)(E:XK):Cx where
 prog:=P
 w:=w
 K:=K
 mg:=i
 base:=base
 A:=A.deeper (rW c a s.heap.objs.size f h)
 N:=N
 s₀:=s
 H₀:=H
 env:=rW c a s.heap.objs.size f h
 outer:=b
 stack:=rW c a s.heap.objs.size f h::b
 ex:=[]
 calm:=Z'
 fn:=λ_=>Z'
 pn:=[]
 xe:=λe s'=>bE (bB P w) (A.deeper (rW c a s.heap.objs.size f h)) (leaving (rW c a s.heap.objs.size f h) e) (λ_ g=>CX b H s E e g) (λk g=>CX b H s E k g) s'
theorem AX{sc:Scope}{n:Nat}{x:aG}(h:sc.names.lookup x=Y .cell):∃c,(fG n sc.names []).lookup x=Y c:=by
 have q:=PySem.W.cellsFrom_some sc.names n [] (.inl h);exact Option.isSome_iff_exists.mp q
theorem K5{CX:LD}{P:bj}{w:bQ}{K:bb}{i:aG->Option af}{base:cF}{N q:List aG}{C:aG}{o:Scope}{f:az}{X:af}{A:cf}{t:List Env}{s:aq}{H:Hp}{E:XK}{F:List V}(S:bC N q o)(hd:A.handled=M)(D:IB P w K i base A t s H)(hl:F.length=q.length)(r:cK F us)(x:InCallC s s.heap.objs.size (bindL (rW C o s.heap.objs.size f X).kindOf (q.zip us) λ_=>M) (fG (s.heap.objs.size+1) o.names []) (bindC (rW C o s.heap.objs.size f X).kindOf (q.zip us) λ_=>M) s1):
  Inv (xE CX P w K i base N C o f X A t s H E) [] (start N F) H s1:=by
 have Yy:q.length<=N.length:=by have:=congrArg List.length S.pre;rw[o_]at this;omega
 obtain⟨J,tk,rfl,hk⟩:=x.done;have d:∀b:az,b∉(xE CX P w K i base N C o f X A t s H E).ex:=λb l=>absurd (show b∈([]:List az) from l) (by simp)
 refine⟨⟨D.mod,S.kind,rfl,rfl,aM _,λy l c J z =>?_,λy Q =>?_,λy c _ h =>?_,λ_=>hd,Around.frames_deeper D.frames,.inr ⟨rfl,rfl⟩,λb l=>absurd l (d b),D.bs,D.Ow,λb _ _=>d b,λb l=>absurd l (d b),D.yD,D.Tz⟩,
  rfl,D.bare,Un.kept hk,⟨_,x.toInCall.ns,λg y v J z h3 =>?_⟩,λy c h=>⟨_,x.cell y c h⟩,D.jo.fresh (aM _),λy c h =>?_,λp T=>absurd (show p∈([]:List (az×Obj)) from T) (by simp),D.jo.kept hk,?_⟩
 ·exact name_of_addr x.apart (PySem.mem_of_lookup J) (PySem.mem_of_lookup z)
 ·have Q:o.names.lookup y=Y .cell∨o.names.lookup y=Y .free:=Q;rcases Q with Q|Q
  ·exact AX Q
  ·exact absurd rfl (S.SF _ (PySem.mem_of_lookup Q))
 ·exact ic (x.above y c (PySem.mem_of_lookup h))
 ·have L:g<F.length:=by
   unfold start at z;by_cases L:g<F.length
   ·exact L
   ·rw[dO (by simpa using L)]at z;rw[OA]at z;split at z<;>cases z
  have ha:F[g]?=Y v:=by
   unfold start at z;rw[d6 (by simpa using L),aT]at z;rcases e:F[g]? with _|a
   ·rw[e]at z;cases z
   rw[e]at z;cases z;rfl
  obtain⟨u,hu,rv⟩:=r.get ha;have T:q[g]?=Y y:=by rw[<- S.pre,List.getElem?_take_of_lt (by omega)];exact J
  have R:q.Nodup:=by rw[<- S.pre];exact S.nd.sublist (List.take_sublist _ _)
  refine⟨u,rv,?_⟩;rcases S.par y (dN T) with k|k
  ·exact .inl ⟨k,CT R T hu k⟩
  ·obtain⟨c,e⟩:=AX (n:=s.heap.objs.size+1) k;refine .inr ⟨.inl k,c,e,?_⟩;have m:=x.cell y c e;rw[CV R T hu (by show o.names.lookup y≠_;rw[k];decide)]at m;exact m
 ·exact D.jo.fresh (ic (x.above y c (PySem.mem_of_lookup h)))
 ·unfold start;show _=N.length;rw[aE,au,List.length_replicate];omega
theorem Wt{CX:LD}{P:bj}{w:bQ}{K:bb}{i:aG->Option af}{base:cF}{k:Nat}{f:az}{name h:aG}{m:Arguments}{p:List cY}{c:Scope}{kV l ct oc:af}{N q:List aG}{sp:Sp}(lk:K.lookup f=Y ⟨oc,od,.func (fnOf name h m p c dV kV Ru pm an l ct),Ye⟩)(Z4:codeIn K l h=Z')(S:bC N q c)(T:∀D H Q E,sp D H Q E->D.length=q.length) (d:∀(A:cf) (g:List Env) (s:aq) (H:Hp) (D:List V) (Q:VK) (E:XK),f' k (A.deeper (rW h c s.heap.objs.size f l))->sp D H Q E ->
   ∃t,sP (xE CX P w K i base N h c f l A g s H E) p t/\t { nx:=λ_ H'=>Q .eJ H',rt:=Q } (start N D) H) :
  cQ P w K i base CX (k+1) f (fnOf name h m p c dV kV Ru pm an l ct) q sp:=by
 refine⟨T,λA g s H args us D Q E hr e0 hb r X =>?_⟩;have hl:=T _ _ _ _ X;have KX:K.In s.heap:=e0.mod.V5.keeps λb o e=>(e0.bs b o e).1
 have lim:s.heap.NoLimit:=e0.mod.nolimit.keeps λb o e=>(e0.bs b o e).1
 have F:∀y∈q.zip us,c.names.lookup y.1=Y .local∨(c.names.lookup y.1=Y .cell/\((fG (s.heap.objs.size+1) c.names []).lookup y.1).isSome=Z'):=λ⟨n,v⟩ hy=>by
  rcases S.par n (wO hy).1 with a|a
  ·exact .inl a
  ·exact .inr ⟨a,PySem.W.cellsFrom_some _ _ _ (.inl a)⟩
 refine codeAny_call_function hr.depth (KX _ _ lk) rfl S.co S.gen rfl (PySem.W.codeRec_of KX Z4) (hb _ _ _ _ ?_);refine wpAny_newFunctionEnv_cells S.kind F λenv he s1 x =>?_
 subst he;refine⟨lim.keeps x.toInCall.keep,codeAny_func ?_⟩;obtain⟨t,ht,hq⟩:=d A g s H D Q E (hr.deeper _) X;have I:Inv (xE CX P w K i base N h c f l A g s H E) [] (start N D) H s1:=K5 S hr.hd e0 hl r x;refine il (ht [] s1 (start N D) H _ I hq) (λfl s' R =>?_) λe s' R=>R
 have oV:∀ {C:St}{H':Hp}{v:V}{u:af},Inv (xE CX P w K i base N h c f l A g s H E) [] C H' s'->RelV v u->Q v H'->CE g P w H s Q u s':=
  fun {C H' v u} J rv a=>⟨v,H',J.os,J.bare,J.base,J.jo,rv,a⟩
 cases fl with
 |ret u=>obtain⟨v,C,H',J,rv,a⟩:=R;exact oV J rv a
 |next=>obtain⟨C,H',J,a⟩:=R;exact oV (v:=V.eJ) (u:=Value.none) J rfl a
 |brk=>obtain⟨_,_,_,a⟩:=R;exact ir a
 |cont=>obtain⟨_,_,_,a⟩:=R;exact ir a
section
variable {X:Cx}{x:aG}{p G:Pos}{e:Expr}{es:List Expr}{t:TA}{id T:String}{r:List V->Hp->VK->Prop}
def XS(r:List V->Hp->VK->Prop)(t:TA):TE:=λU H Q=>t U H λa O=>r a O Q
theorem MF(A:nH X (.builtin id) r)(v:Gl X x)(u:X.mg x=M)(m:iR x=Y (.builtin id))(C:PA X (e::es) t)(o:x ≠ "__name__" :=by decide)(b:(x==("__debug__" : aG))=false:=by decide)(w:ao (e::es) X.env=(Z_,eval e X.env)::ao es X.env:=by rfl)(a:(dh G (ao es X.env)).any (·.1)=false:=by rfl):PE X (.Call (.Name x p) (e::es) [] G) (XS r t):=by
 intro B s U H Q I h;refine jk (qF I v u m ?_ o b);exact o9 (gD (C G B s U H _ I h) λf g ⟨c,O,D,k,l⟩=>A B g U O c f Q D k l) w a
theorem KE(A:nH X (.type T) r)(v:Gl X x)(u:X.mg x=M)(m:iR x=Y (.type T))(C:PA X (e::es) t)(o:x ≠ "__name__" :=by decide)(b:(x==("__debug__" : aG))=false:=by decide)(w:ao (e::es) X.env=(Z_,eval e X.env)::ao es X.env:=by rfl)(a:(dh G (ao es X.env)).any (·.1)=false:=by rfl):PE X (.Call (.Name x p) (e::es) [] G) (XS r t):=by
 intro B s U H Q I h;refine jk (qF I v u m ?_ o b);exact fo (gD (C G B s U H _ I h) λf g ⟨c,O,D,k,l⟩=>A B g U O c f Q D k l) w a
end
end L2
namespace HT
open PySem PyProof.Rows
section
open PySem.SeqAt
open PySem.AutoSeq1 (wpAny_loadPart')
open PySem.MeetsSeq PySem.MeetsSeq2 PySem.MeetsSeq3
end
section
variable {prog:bj}{w:bQ}{A:cf}{E:af->aq->Prop}{s:aq}
noncomputable def Cj(n d:Nat):Option Int->Nat
 |none=>d|some v=>if v<0 then (v+(n:Int)).toNat else min v.toNat n
end
end HT
namespace L2
open PySem PySem.Spec PyProof.Rows
abbrev TO:=St->Hp->(Option Int->Hp->Prop)->Prop
def PO(X:Cx)(e:Option Expr)(t:TO):Prop:=
 ∀(B:List (az×Obj)) (s:aq) (U:St) (H:Hp) (Q:Option Int->Hp->Prop),Inv X B U H s->t U H Q ->
  bE (bB X.prog X.w) X.A (evalPart e X.env) (λu s'=>∃o H',Inv X B U H' s'/\IsPart u o/\Q o H') X.xe s
def OJ:TO:=λ_ H Q=>Q M H
def Vf(t:TE):TO:=λU H Q=>t U H λx O=>∃i,x=.int i/\Q (Y i) O
section
variable {X:Cx}{e:Expr}{te:TE}{n L:Option Expr}{tl th:TO}{G p2:Pos}
theorem Pf:PO X M OJ:=by
 intro B s U H Q I h;rw[evalPart_none];exact bG ⟨M,H,I,.none,h⟩
theorem Pe(h:PE X e te):PO X (Y e) (Vf te):=by
 intro B s U H Q I hw;rw[evalPart_some];refine gD (h B s U H _ I hw) λu f ⟨x,O,c,a,b⟩ =>?_
 obtain⟨i,rfl,q⟩:=b;obtain⟨t,rfl⟩:=a;exact⟨Y i,O,c,.int i t,q⟩
def Y9(X:Cx)(r:V->Option Int->Option Int->Hp->VK->Prop):Prop:=
 ∀(B:List (az×Obj)) (s:aq) (U:St) (H:Hp) (x:V) (v b a:af) (n L:Option Int) (c:az) (Q:VK),Inv X B U H s->RelV x v->s.heap.IsSliceOf c b a .none->IsPart b n->IsPart a L->r x n L H Q ->
  ∃T id,typeLookup (.type T) "__getitem__" = fm (Y (.builtin id))/\s.TypeIs v T/\bE (bB X.prog X.w) X.A (LI v (.ref c)) (EP X B U Q) X.xe s
def tSl(r:V->Option Int->Option Int->Hp->VK->Prop)(te:TE)(tl th:TO):TE:=λU H Q=>te U H λx O=>tl U O λl d=>th U d λu a=>r x l u a Q
theorem Fz{r:V->Option Int->Option Int->Hp->VK->Prop}(F:Y9 X r)(P:PE X e te)(K:PO X n tl)(D:PO X L th):PE X (.Subscript e (.Slice n L M p2) G) (tSl r te tl th):=by
 intro B s U H Q I h;refine Subscript_ (gD (P B s U H _ I h) λv m ⟨x,O,I1,o,w⟩ =>?_);refine wpAny_Slice (gD (K B m U O _ I1 w) λf k ⟨l,d,I2,C,t⟩=>gD (D B k U d _ I2 t) λc a ⟨u,g,I3,A,p⟩ =>?_);rw[evalPart_none];refine bG ?_;have S:Inv X B U g { a with heap:=a.heap.push { cls :=.type "slice",data :=.fields #[f,c,.none] } }:=I3.kept (t':=a.toks) λb ob q=>ak _ q
 obtain⟨T,id,R,E,i⟩:=F B { a with heap:=a.heap.push { cls :=.type "slice",data :=.fields #[f,c,.none] } } U g x v f c l u a.heap.objs.size Q S o (Heap.IsSliceOf.new ..) C A p;show bE (bB X.prog X.w) X.A (subscriptTail e (.Slice n L M p2) v (.ref a.heap.objs.size)) (EP X B U Q) X.xe { a with heap:=a.heap.push { cls :=.type "slice",data :=.fields #[f,c,.none] } };exact tail_any (ops:=[.ref a.heap.objs.size,v]) E R i (by with_unfolding_all rfl)
def Gy(xs:List V)(n L:Option Int):List V:=(xs.drop (HT.Cj xs.length 0 n)).take (HT.Cj xs.length xs.length L-HT.Cj xs.length 0 n)
theorem Gx(xs:List V)(n L:Option Int):(Gy xs n L).length<=xs.length:=by
 unfold Gy;rw[o_,GZ];omega
end
noncomputable def Cw(n:Nat)(i:Int):Option Nat:=if 0<=i then (if i<n then Y i.toNat else M) else if -(n:Int)<=i then Y (i+n).toNat else M
def oT{a:Type}(xs:List a)(i:Int):Option a:=(Cw xs.length i).bind λj=>xs[j]?
theorem DK{n:Nat}{i:Int}{j:Nat}(h:Cw n i=Y j):seqIndex? i n=Y j/\j<n /\ -(n:Int)<=i/\i<n:=by
 unfold Cw at h;by_cases a:0<=i
 ·rw[if_pos a]at h;by_cases J:i<n
  ·rw[if_pos J]at h;have e:i.toNat=j:=bR h;exact⟨by rw[seqIndex_of a J,e],by omega,by omega,J⟩
  ·rw[if_neg J]at h;cases h
 ·rw[if_neg a]at h;by_cases J : -(n:Int)<=i
  ·rw[if_pos J]at h;have e:(i+n).toNat=j:=bR h;exact⟨by rw[seqIndex_neg (by omega) J,e],by omega,J,by omega⟩
  ·rw[if_neg J]at h;cases h
theorem Em{a:Type}{xs:List a}{i:Int}{v:a}(h:oT xs i=Y v):∃j,seqIndex? i xs.length=Y j/\xs[j]?=Y v/\j<xs.length /\ -(xs.length:Int)<=i/\i<xs.length:=by
 unfold oT at h;obtain⟨j,e,h⟩:=ae.1 h;obtain⟨J,z,c,b⟩:=DK e;exact⟨j,J,h,z,c,b⟩
theorem QA{a:Type}{xs:List a}{j:Nat}{v:a}(h:xs[j]?=Y v):oT xs (j:Int)=Y v:=by
 have b:j<xs.length:=(aj.mp h).1;have e:Cw xs.length (j:Int)=Y j:=by unfold Cw;rw[if_pos (by omega),if_pos (by omega)];simp
 unfold oT;rw[e];exact h
def Ep(b:Expr):Prop:=∀o i,Oz b Z_ o i=operate [o,i] (LI o i)
def J_(X:Cx)(r:R2):Prop:=
 ∀(value a:Expr) (B:List (az×Obj)) (s:aq) (U:St) (H:Hp) (x y:V) (v u:af) (Q:VK),Inv X B U H s->RelV x v->RelV y u->r x y H Q ->
  Oz a Z_ v u=operate [v,u] (LI v u)->bE (bB X.prog X.w) X.A (subscriptTail value a v u) (EP X B U Q) X.xe s
def Y_(X:Cx)(id:String)(r:V->List V->Hp->VK->Prop):Prop:=
 ∀(B:List (az×Obj)) (s:aq) (U:St) (H:Hp) (x:V) (xs:List V) (v:af) (a:List af) (Q:VK),Inv X B U H s->RelV x v->cK xs a->r x xs H Q ->
  bE (bB X.prog X.w) X.A (call (.builtin id) (v::a)) (EP X B U Q) X.xe s
section
variable {X:Cx}{a b:Expr}{N y:TE}{G:Pos}
theorem J_.or{r e:R2}(h:J_ X r)(h':J_ X e):J_ X (λx y H Q=>r x y H Q∨e x y H Q):=by
 intro value a B s U H x y v u Q I c b q f;rcases q with q|q
 ·exact h value a B s U H x y v u Q I c b q f
 ·exact h' value a B s U H x y v u Q I c b q f
theorem Q'{r:R2}(l:J_ X r)(o:PE X a N)(m:PE X b y)(k:Ep b):PE X (.Subscript a b G) (UC r N y):=by
 intro B s U H Q I h;exact Subscript_ (Ue o m I h λv u e x c d p g f q=>l a b B e U d x c v u Q p g f q (k _ _))
def VB(K:bb):R2:=λx y H Q=>∃p xs i v,x=.ref p/\y=.int i/\n9 K H p xs/\oT xs i=Y v/\Q v H
def Vz(K:bb):R2:=λx y H Q=>∃p xs i v,x=.ref p/\y=.int i/\Ox K H p xs/\oT xs i=Y v/\Q v H
def VA:R2:=λx y H Q=>∃z i c,x=.str z/\y=.int i/\z.length<=br/\oT z.cps.toList i=Y c/\Q (.str ⟨#[c]⟩) H
theorem Jo:J_ X (VB X.K):=by
 intro value b B s U H x y v u Q I A o h k;obtain⟨p,xs,i,a,rfl,rfl,C,E,q⟩:=h;cases A;obtain⟨t,rfl⟩:=o;obtain⟨f,r,e,d⟩:=I.list C;obtain⟨j,J,z,R,K,F⟩:=Em E;obtain⟨w,m,c⟩:=r.get z;have D:=r.length;have P:=uI;have oV:EP X B U Q w s:=⟨a,H,I,c,q⟩;by_cases l:0<=i
 ·have g:i.toNat=j:=by rw[seqIndex_of l F]at J;exact bR J
  exact item_listR e.isList l (by omega) (by rw[g];simpa using m) oV k
 ·have g:(i+(f.toArray.size:Int)).toNat=j:=by rw[seqIndex_neg (by omega) K]at J;rw[aY,<- D];exact bR J
  exact subscriptTail_builtinR (x:=w) e.isList.typeIs slot_list_getitem.lookup
   (wpAny_getItem_list_neg (Q:=λr s'=>r=w/\EP X B U Q r s') e.isList (by omega) (by rw[aY]<;>omega) (by omega) (by rw[g];simpa using m) ⟨rfl,oV⟩) k
theorem S9:J_ X (Vz X.K):=by
 intro value b B s U H x y v u Q I g f h l;obtain⟨p,xs,i,a,rfl,rfl,m,A,q⟩:=h;cases g;obtain⟨t,rfl⟩:=f;obtain⟨k,r,e,D⟩:=I.tuple m;obtain⟨j,J,z,d,K,F⟩:=Em A;obtain⟨w,C,c⟩:=r.get z;have o:=r.length;have E:=uI;have oV:EP X B U Q w s:=⟨a,H,I,c,q⟩;exact subscriptTail_builtinR (x:=w) e.typeIs slot_tuple_getitem.lookup
  (getItem_tuple (j:=j) (Q:=λr s'=>r=w/\EP X B U Q r s') e (by omega) (by omega) (by rw[aY,<- o];exact J) (by simpa using C) ⟨rfl,oV⟩) l
theorem S_:J_ X VA:=by
 intro value b B s U H x y v u Q I f e h g;obtain⟨a,i,c,rfl,rfl,A,l,q⟩:=h;obtain⟨t,rfl⟩:=f;obtain⟨w,rfl⟩:=e;obtain⟨j,J,z,D,o,m⟩:=Em l;have k:a.cps.toList.length=a.length:=by simp[Str.length]
 rw[k]at J o m;have C:=uI;exact tail_any (typeIs_str s a t) slot_str_getitem.lookup (getItem_str (c:=c) (by have r:decide (i < -(2 ^ 63:Int))=false:=decide_eq_false (by omega);have p:decide (i ≥ 2 ^ 63)=false:=decide_eq_false (by omega);rw[r,p,Bool.or_false]) (by rw[J];simpa using z) ⟨.str ⟨#[c]⟩,H,I.tok _,⟨_,rfl⟩,q⟩) g
def rIx(K:bb):R2:=λx y H Q=>VB K x y H Q∨Vz K x y H Q∨VA x y H Q
theorem Ta:J_ X (rIx X.K):=Jo.or (S9.or S_)
theorem HN(a:List af)(n j:Nat)(u:af):mF (·.setIfInBounds j u) { cls :=.type "list",data :=.seq a.toArray n }={ cls :=.type "list",data :=.seq (a.set j u).toArray n }:=by
 simp[mF]
theorem Inv.lst{B:List (az×Obj)}{U:St}{H:Hp}{s:aq}{p:az}{xs:List V}(I:Inv X B U H s)(h:H p=Y (.lst xs)):
  ∃(a:List af) (n:Nat),cK xs a/\s.heap.get? p=Y { cls :=.type "list",data :=.seq a.toArray n }/\xs.length<=br:=by
 obtain⟨z,a,n,r,e⟩:=I.jo p _ h;exact⟨a,n,r,e,z⟩
theorem Inv.SQ{B:List (az×Obj)}{U:St}{H:Hp}{s:aq}{p:az}{xs ys:List V}{c a:List af}{n g:Nat}{f:Obj->Obj}(I:Inv X B U H s)(h:H p=Y (.lst xs))(m:s.heap.get? p=Y { cls :=.type "list",data :=.seq c.toArray n })(k:f { cls :=.type "list",data :=.seq c.toArray n }={ cls :=.type "list",data :=.seq a.toArray g })(r:cK ys a)(l:ys.length<=br)(t:Nat):
  Inv X B U (eN H p (.lst ys)) { s with heap:=s.heap.update p f,toks:=t }:=by
 have e:(s.heap.update p f).get? p=Y { cls :=.type "list",data :=.seq a.toArray g }:=by rw[Heap.get?_update_self f m (by rw[k]<;>rfl),k]
 refine I.write (x:=p) (e:=p) (by rw[h];trivial) (.inl rfl) (λb u o q=>(pR _ _ (cL o)).trans q) ⟨_,e⟩ ?_;exact⟨l,a,g,r,e⟩
def Q8:V->V->V->Hp->(Hp->Prop)->Prop:=λo i v H Q=>∃p xs k j,o=.ref p/\i=.int k/\H p=Y (.lst xs)/\Cw xs.length k=Y j/\Q (eN H p (.lst (xs.set j v)))
theorem Of:WQ X Q8:=by
 intro B s U H o i v F K u Q I A C x h;obtain⟨p,xs,k,j,rfl,rfl,f,E,q⟩:=h;cases A;obtain⟨t,rfl⟩:=C;obtain⟨a,n,r,b,D⟩:=I.lst f;obtain⟨J,z,l,g⟩:=DK E;have c:=r.length;have d:=uI;have w:Inv X B U (eN H p (.lst (xs.set j v))) { s with heap:=s.heap.update p (mF (·.setIfInBounds j u)) }:=
  I.SQ f b (HN a n j u) (r.set x j) (by rw[qk];exact D) s.toks
 by_cases m:0<=k
 ·have e:k.toNat=j:=by rw[seqIndex_of m g]at J;exact bR J
  exact PySem.W.ki_setAt b m (by omega) (by rw[aY,<- c];exact g) (by rw[e];exact⟨_,w,q⟩)
 ·have e:(k+(a.toArray.size:Int)).toNat=j:=by rw[seqIndex_neg (by omega) l]at J;rw[aY,<- c];exact bR J
  exact PySem.W.ki_setBack b (by omega) (by rw[aY,<- c];exact l) (by omega) (by rw[e];exact⟨_,w,q⟩)
theorem C8(n L:Option Int)(a:Nat):(rL n L M a).1=((HT.Cj a 0 n:Nat):Int)/\(rL n L M a).2.1=((HT.Cj a a L:Nat):Int)/\(rL n L M a).2.2=1:=by
 refine⟨?_,?_,rfl⟩
 ·cases n with
  |none=>simp[rL,HT.Cj]|some i=>
   simp only[rL,HT.Cj,Option.getD_none,show (1:Int) > 0 by decide,if_true];by_cases h:i<0
   ·simp only[h,if_true]<;>omega
   ·simp only[h,if_false]<;>omega
 ·cases L with
  |none=>simp[rL,HT.Cj]|some i=>
   simp only[rL,HT.Cj,Option.getD_none,show (1:Int) > 0 by decide,if_true];by_cases h:i<0
   ·simp only[h,if_true]<;>omega
   ·simp only[h,if_false]<;>omega
theorem Bq(a:List af)(n L:Option Int):slicePick a.toArray n L M=((a.drop (HT.Cj a.length 0 n)).take (HT.Cj a.length a.length L-HT.Cj a.length 0 n)).toArray:=by
 obtain⟨J,z,b⟩:=C8 n L a.toArray.size;unfold slicePick;rw[J,z,b];simp only[sliceRange_one,pick_run,aY]<;>rfl
def X6(K:bb):V->Option Int->Option Int->Hp->VK->Prop:=λx n L H Q=>∃a xs,x=.ref a/\n9 K H a xs/\∀p,H p=M->Q (.ref p) (eN H p (.lst (Gy xs n L)))
theorem OQ:Y9 X (X6 X.K):=by
 intro B s U H x v u t n L w Q I f p k g h;obtain⟨a,xs,rfl,o,q⟩:=h;cases f;obtain⟨l,r,e,m⟩:=I.list o;have c:=r.length;refine⟨"list",_,slot_list_getitem.lookup,e.isList.typeIs,?_⟩;refine wpAny_getItem_list_slice e.isList p k g .none (by simp) ?_ (by rw[aY]<;>omega);rw[Bq,<- c];refine⟨.ref s.heap.objs.size,_,I.laid (t':=s.toks) (o :=.lst (Gy xs n L)) (λb A q=>ak _ q) (aM _) ?_,rfl,q _ (I.jo.fresh (aM _))⟩;exact⟨bX (Gx xs n L) m,_,0,(r.drop (HT.Cj xs.length 0 n)).take (HT.Cj xs.length xs.length L-HT.Cj xs.length 0 n),bD _ rfl⟩
noncomputable def rg:V->Bool
 |.eJ=>Z'|.bl _=>Z'|.int _=>Z'|.str _=>Z'|_=>Z_
noncomputable def Rn:V->V->Bool
 |.eJ,.eJ=>Z'|.bl a,.bl b=>a==b|.bl a,.int b=>(if a then 1 else 0)==b
 |.int a,.bl b=>a==(if b then 1 else 0)
 |.int a,.int b=>a==b|.str a,.str b=>a==b|_,_=>Z_
theorem TM{A:cf}{s:aq}{y x:V}{u v:af}(f:RelV y u)(c:RelV x v)(h:rg y=Z')(g:rg x=Z'):SeqAt.EqAt A s u v (Rn y x):=by
 cases y with
 |eJ=>
  cases f;cases x with
  |eJ=>cases c;exact SeqAt.EqAt.same _|bl b=>cases c;exact SeqAt.EqAt.none_bool b|int b=>obtain⟨t,rfl⟩:=c;exact SeqAt.EqAt.none_int b t
  |str b=>obtain⟨t,rfl⟩:=c;exact SeqAt.EqAt.none_str b t
  |_=>exact absurd (show Z_=Z' from g) cV
 |bl a=>
  cases f;cases x with
  |eJ=>cases c;exact SeqAt.EqAt.bool_none a|bl b=>cases c;exact SeqAt.EqAt.bool_bool a b|int b=>obtain⟨t,rfl⟩:=c;exact SeqAt.EqAt.bool_int a b t
  |str b=>obtain⟨t,rfl⟩:=c;exact SeqAt.EqAt.bool_str a b t
  |_=>exact absurd (show Z_=Z' from g) cV
 |int a=>
  obtain⟨e,rfl⟩:=f;cases x with
  |eJ=>cases c;exact SeqAt.EqAt.int_none a e|bl b=>cases c;exact SeqAt.EqAt.int_bool a e b|int b=>obtain⟨t,rfl⟩:=c;exact SeqAt.EqAt.int_int a e b t
  |str b=>obtain⟨t,rfl⟩:=c;exact SeqAt.EqAt.int_str a e b t
  |_=>exact absurd (show Z_=Z' from g) cV
 |str a=>
  obtain⟨e,rfl⟩:=f;cases x with
  |eJ=>cases c;exact SeqAt.EqAt.str_none a e|bl b=>cases c;exact SeqAt.EqAt.str_bool a e b|int b=>obtain⟨t,rfl⟩:=c;exact SeqAt.EqAt.str_int a e b t
  |str b=>obtain⟨t,rfl⟩:=c;exact SeqAt.EqAt.str_str a e b t
  |_=>exact absurd (show Z_=Z' from g) cV
 |_=>exact absurd (show Z_=Z' from h) cV
def Ie(x:V)(u:af):Bool:=match u with
 |.none=>Rn .eJ x|.bool b=>Rn (.bl b) x|.int i _=>Rn (.int i) x|.str z _=>Rn (.str z) x|_=>Z_
theorem Nz{x y:V}{u:af}(r:RelV y u)(f:rg y=Z'):Ie x u=Rn y x:=by
 cases y with
 |eJ=>cases r;rfl|bl b=>cases r;rfl|int i=>obtain⟨t,rfl⟩:=r;rfl
 |str z=>obtain⟨t,rfl⟩:=r;rfl
 |_=>exact absurd (show Z_=Z' from f) cV
theorem wx{x:V}:∀ {xs:List V}{a:List af},cK xs a->xs.all rg=Z'->a.any (Ie x)=xs.any λy=>Rn y x
 |_,_,.nil,_=>rfl|y::xs,u::a,.cons r t,f=>by rw[mH,aH]at f;rw[pB,pB,Nz r f.1,wx t f.2]
theorem sq{A:cf}{s:aq}{x:V}{v:af}(c:RelV x v)(e:rg x=Z'):∀ {xs:List V}{b:List af},cK xs b->xs.all rg=Z'->∀u∈b,SeqAt.EqAt A s u v (Ie x u)
 |_,_,.nil,_=>λu a=>by cases a
 | y::xs,u::b,.cons r t,f=>λg a=>by
  rw[mH,aH]at f;rcases aK.mp a with rfl|a
  ·rw[Nz r f.1];exact TM r c f.1 e
  ·exact sq c e t f.2 g a
def UL(x:V)(xs:List V):Bool:=xs.any λy=>Rn y x
def X8(K:bb)(a:Bool):R2:=λx y H Q=>∃p xs,y=.ref p/\(n9 K H p xs∨Ox K H p xs)/\rg x=Z'/\xs.all rg=Z'/\Q (.bl (if a then !UL x xs else UL x xs)) H
theorem KJ:oU X (eY .In) (X8 X.K Z_):=by
 intro B s U H x y v u Q I e g h;obtain⟨p,xs,rfl,b,f,j,q⟩:=h;cases g;rcases b with b|b
 ·obtain⟨a,r,c,k⟩:=I.list b;refine SeqAt.in_listAt (Ie x) c.isList (λw hw=>sq e f r j w (by simpa using hw)) ⟨.bl _,H,I,rfl,?_⟩;rw[show a.toArray.any (Ie x)=a.any (Ie x) by simp,wx r j];exact q
 ·obtain⟨a,r,c,k⟩:=I.tuple b;refine SeqAt.in_tupleAt (Ie x) c (λw hw=>sq e f r j w (by simpa using hw)) ⟨.bl _,H,I,rfl,?_⟩;rw[show a.toArray.any (Ie x)=a.any (Ie x) by simp,wx r j];exact q
theorem Dr:oU X (eY .NotIn) (X8 X.K Z'):=by
 intro B s U H x y v u Q I e g h;obtain⟨p,xs,rfl,b,f,j,q⟩:=h;cases g;rcases b with b|b
 ·obtain⟨a,r,c,k⟩:=I.list b;refine SeqAt.notIn_listAt (Ie x) c.isList (λw hw=>sq e f r j w (by simpa using hw)) ⟨.bl _,H,I,rfl,?_⟩;rw[show a.toArray.any (Ie x)=a.any (Ie x) by simp,wx r j];exact q
 ·obtain⟨a,r,c,k⟩:=I.tuple b;refine SeqAt.notIn_tupleAt (Ie x) c (λw hw=>sq e f r j w (by simpa using hw)) ⟨.bl _,H,I,rfl,?_⟩;rw[show a.toArray.any (Ie x)=a.any (Ie x) by simp,wx r j];exact q
theorem Ei:nH X (.builtin "len") (λxs H Q=>∃p ys,xs=[.ref p]/\(n9 X.K H p ys∨Ox X.K H p ys)/\Q (.int ys.length) H):=by
 intro B s U H xs l Q I r h;obtain⟨p,ys,rfl,b,q⟩:=h;obtain⟨u,rfl,g⟩:=vals1 r;cases g;have m:=uI;rcases b with b|b
 ·obtain⟨f,c,e,k⟩:=I.list b;have a:=c.length;exact Calls.call_len_list e.isList (by simp only[aY]<;>omega) ⟨.int ys.length,H,I.tok _,⟨s.toks+1,by rw[aY,a]⟩,q⟩
 ·obtain⟨f,c,e,k⟩:=I.tuple b;have a:=c.length;exact len_tuple e (by simp only[aY]<;>omega) ⟨.int ys.length,H,I.tok _,⟨s.toks+1,by rw[aY,a]⟩,q⟩
theorem Eh:nH X (.builtin "len") (λxs H Q=>∃z,xs=[.str z]/\z.length<=br/\Q (.int z.length) H):=by
 intro B s U H xs a Q I r h;obtain⟨z,rfl,b,q⟩:=h;obtain⟨u,rfl,t,rfl⟩:=vals1 r;have c:=uI;exact len_str (by omega) ⟨.int z.length,H,I.tok _,⟨_,rfl⟩,q⟩
theorem nH.or{f:af}{r c:List V->Hp->VK->Prop}(h:nH X f r)(h':nH X f c):nH X f (λxs H Q=>r xs H Q∨c xs H Q):=by
 intro B s U H xs a Q I b q;rcases q with q|q
 ·exact h B s U H xs a Q I b q
 ·exact h' B s U H xs a Q I b q
theorem Eg:nH X (.type "list") (λxs H Q=>∃p ys,xs=[.ref p]/\(n9 X.K H p ys∨Ox X.K H p ys)/\∀l,H l=M->Q (.ref l) (eN H l (.lst ys))):=by
 intro B s U H xs D Q I r h;obtain⟨p,ys,rfl,m,q⟩:=h;obtain⟨u,rfl,C⟩:=vals1 r;cases C;have oV:∀(a:List af),cK ys a->ys.length<=br->∀(h':cF) (f:Nat),(∀b o',s.heap.get? b=Y o'->h'.get? b=Y o') ->
   h'.get? s.heap.objs.size=Y { cls :=.type "list",dict:=M,data :=.seq a.toArray f,slots :=#[] }->EP X B U Q (.ref s.heap.objs.size) { s with heap:=h' }:=λa c k h' f g e=>
  ⟨.ref s.heap.objs.size,_,I.laid (t':=s.toks) g (aM _) (show i6 X.prog X.w _ h' _ (.lst ys) from⟨k,a,f,c,e⟩),rfl,q _ (I.jo.fresh (aM _))⟩
 rcases m with m|m
 ·obtain⟨a,c,v,k⟩:=I.list m;have t:=c.length;obtain⟨o,w,A,n,x⟩:=v.isList;exact call_list_seq p (.inl rfl) w A x (λh' f g e=>oV a c k h' f g e) (by simp only[aY]<;>omega)
 ·obtain⟨a,c,v,k⟩:=I.tuple m;have t:=c.length;obtain⟨o,w,A,n,x⟩:=v;exact call_list_seq p (.inr rfl) w A x (λh' f g e=>oV a c k h' f g e) (by simp only[aY]<;>omega)
def XF(K:bb)(T:String)(x:V)(H:Hp):Prop:=match x with
 |.str _=>T = "str"|.int _=>T = "int"| .ref p=>(T = "list" /\ ∃xs,n9 K H p xs)∨(T = "tuple" /\ ∃o,K.lookup p=Y o/\o.cls=.type "tuple" /\o.dict=M) ∨
   (T = "dict" /\((∃a,H p=Y (.dK a))∨∃a,H p=Y (.dT a)))∨(T = "set" /\ ∃S n,H p=Y (.set S n))
 |_=>False
theorem L6{B:List (az×Obj)}{U:St}{H:Hp}{s:aq}{T:String}{x:V}{v:af}(I:Inv X B U H s)(r:RelV x v)(f:XF X.K T x H):
  s.TypeIs v T/\∀a,v=.ref a->∃m,s.heap.get? a=Y m/\m.dict=none:=by
 cases x with
 |str z=>obtain⟨t,rfl⟩:=r;cases (show T = "str" from f);exact⟨typeIs_str s z t,λ_ e=>nomatch e⟩
 |int i=>obtain⟨t,rfl⟩:=r;cases (show T = "int" from f);exact⟨typeIs_int s i t,λ_ e=>nomatch e⟩
 |ref p=>
  cases r;rcases f with⟨rfl,xs,w⟩|⟨rfl,o,b,A,h⟩|⟨rfl,b⟩|⟨rfl,S,n,b⟩
  ·obtain⟨u,_,l,_⟩:=I.list w;refine⟨l.isList.typeIs,λa e =>?_⟩;cases e;obtain⟨o,n,e,c,h,_⟩:=l;exact⟨o,e,h⟩
  ·refine⟨⟨o,I.HV p o b,A⟩,λa e =>?_⟩;cases e;exact⟨o,I.HV _ o b,h⟩
  ·have z:∃o,s.heap.get? p=Y o/\o.ExactDict:=by
    rcases b with⟨g,b⟩|⟨g,b⟩
    ·obtain⟨_,_,_,_,o,_,_,e,ex,_⟩:=I.jo p _ b;exact⟨o,e,ex⟩
    ·obtain⟨_,_,_,_,o,_,_,e,ex,_⟩:=I.jo p _ b;exact⟨o,e,ex⟩
   obtain⟨o,e,ex⟩:=z;refine⟨⟨o,e,ex.1⟩,λa k =>?_⟩;cases k;exact⟨o,e,ex.2.1⟩
  ·obtain⟨o,_,_,_,e,ex,_⟩:=I.jo p _ b;refine⟨⟨o,e,ex.1⟩,λa k =>?_⟩;cases k;exact⟨o,e,ex.2.1⟩
 |_=>exact ir f
def Vn(K:bb)(T:String)(r:V->List V->Hp->VK->Prop)(to:TE):TE:=λU H Q=>to U H λx O=>XF K T x O/\r x [] O Q
def tBM(K:bb)(T:String)(r:V->List V->Hp->VK->Prop)(to:TE)(t:TA):TE:=λU H Q=>to U H λx O=>XF K T x O/\t U O λxs d=>r x xs d Q
variable {o e:Expr}{es:List Expr}{to:TE}{t:TA}{name:aG}{rK wh:Pos}{T id:String}{r:V->List V->Hp->VK->Prop}
theorem HD(p:PlainAttrs T)(c:Slot T name id)(e:typeOf (.builtin id)=fm (.type "method_descriptor"))(u:Y_ X id r)(t:PE X o to)(b:cy o name X.env (eval o X.env)=eval o X.env:=by rfl)(a:(rK.endLine==wh.line)=true:=by rfl):PE X (.Call (.Attribute o name rK) [] [] wh) (Vn X.K T r to):=by
 intro B s U H Q I h;refine wpAny_Call_method0_late b a (gD (t B s U H _ I h) λv l ⟨x,O,g,f,k,m⟩ =>?_);obtain⟨J,z⟩:=L6 g f k;exact⟨T,id,p,c,e,J,z,Bd rfl (PySem.evalArgs_none (u B l U O x [] v [] Q g f .nil m))⟩
theorem FC(i:PlainAttrs T)(f:Slot T name id)(k:typeOf (.builtin id)=fm (.type "method_descriptor"))(S:Y_ X id r)(R:PE X o to)(ha:PA X (e::es) t)(c:cy o name X.env (eval o X.env)=eval o X.env:=by rfl) (g:((dh wh (ao (e::es) X.env)).all (λx=> !x.1)&&(jl wh (d5 [] X.env)).all (λx=>x.1.isSome)
   && decide ((e::es).length+([]:List m7).length+(if ([]:List m7).isEmpty then 0 else 1)<30))=true:=by rfl) (b:(rK.endLine==wh.line)=true:=by rfl) (P:ao (e::es) X.env=(Z_,eval e X.env)::ao es X.env:=by rfl) (a:(dh wh (ao es X.env)).any (·.1)=false:=by rfl) :
  PE X (.Call (.Attribute o name rK) (e::es) [] wh) (tBM X.K T r to t):=by
 intro B s U H Q I h;refine wpAny_Call_method_late c g b rfl (gD (R B s U H _ I h) λv D ⟨x,O,p,l,A,K⟩ =>?_);obtain⟨J,z⟩:=L6 p l A;refine⟨T,id,i,f,k,J,z,?_⟩;have m:=ha wh B D U O _ p K;rw[P]at m ⊢;refine Bd (by show (Z_||(dh wh (ao es X.env)).any (·.1))=Z_;rw[a]<;>rfl) (Calls.evalArgs_plain ?_);exact gD m λw C ⟨u,d,I2,E,F⟩=>S B C U d x u v w Q I2 l E F
end
def Y'(X:Cx)(id:String)(r:V->List V->Hp->VK->Prop):Prop:=
 ∀(B:List (az×Obj)) (s:aq) (U:St) (H:Hp) (x:V) (xs:List V) (v:af) (a:List af) (Q:VK),Inv X B U H s->RelV x v->cK xs a->r x xs H Q ->
  bE (bB X.prog X.w) X.A (call (.builtin id) (v::a)) (EP X B U Q) X.xe s
theorem cK.one:∀ {x:V}{a:List af},cK [x] a->∃u,a=[u]/\RelV x u
 |_,_,.cons r .nil=>⟨_,rfl,r⟩
theorem cK.zero:∀ {a:List af},cK [] a->a=[]
 |_,.nil=>rfl
theorem cK.dropLast{xs:List V}{a:List af}(h:cK xs a):cK xs.dropLast a.dropLast:=by
 induction h with
 |nil=>exact .nil|cons r t ih=>
  cases t with|nil=>exact .nil|cons q b=>exact .cons r ih
theorem cK.rep{xs:List V}{a:List af}(h:cK xs a):∀k:Nat,cK (bL k xs).flatten (bL k a).flatten
 |0 =>.nil|k+1=>by rw[g8,g8,kU,kU];exact cK.append h (cK.rep h k)
theorem Ic{c:Type}(l:List c):l.eraseIdx (l.length-1)=l.dropLast:=by
 induction l with
 |nil=>rfl|cons a r ih=>
  cases r with
  |nil=>rfl|cons b r=>
   have e:(a::b::r).length-1=((b::r).length-1)+1:=by have J:(a::b::r).length=r.length+2:=rfl;have z:(b::r).length=r.length+1:=rfl;omega
   rw[e,List.eraseIdx_cons_succ,ih]
   all_goals rfl
theorem foldl_rep(a:List af):∀(k:Nat) (b:List af),
  List.foldl (λf c=>f++c) b.toArray (bL k a.toArray)=(b++(bL k a).flatten).toArray
 |0,b=>by simp
 | k+1,b=>by
  have e:b.toArray++a.toArray=(b++a).toArray:=by simp
  have g:(b++a)++(bL k a).flatten=b++(bL (k+1) a).flatten:=by rw[g8,kU,bV]
  rw[<- g,<- foldl_rep a k (b++a),<- e,g8,List.foldl_cons]
section
variable {X:Cx}{B:List (az×Obj)}{U:St}{H:Hp}{s:aq}{l b:az}{xs ys zs:List V}
theorem Inv.SS{a its':List af}{n:Nat}{f:Array af->Array af}{t':Nat}(I:Inv X B U H s)(m:H l=Y (.lst xs))(e:s.heap.get? l=Y { cls :=.type "list",data :=.seq a.toArray n })(h:f a.toArray=its'.toArray)(c:cK ys its')(b:ys.length<=br):
  Inv X B U (eN H l (.lst ys)) { s with heap:=s.heap.update l (mF f),toks:=t' }:=by
 have q:=PySem.IsL.update e f;rw[h]at q;refine I.write (x:=l) (e:=l) (by rw[m];exact trivial) (.inl rfl) (λo u k g=>(pR s.heap (mF f) (cL k)).trans g) ⟨_,q⟩ ?_;exact⟨b,its',_,c,q⟩
theorem Inv.V3{a:List af}{t':Nat}(I:Inv X B U H s)(c:cK ys a)(b:ys.length<=br):
  Inv X B U (eN H s.heap.objs.size (.lst ys)) { s with heap:=s.heap.push { cls :=.type "list",data :=.seq a.toArray },toks:=t' }:=
 I.laid (λ_ _ q=>ak _ q) (aM _) ⟨b,a,0,c,bD _ rfl⟩
theorem Inv.fresh(I:Inv X B U H s):H s.heap.objs.size=none:=I.jo.fresh (aM _)
theorem Inv.HR(I:Inv X B U H s)(b:H l=Y (.lst xs)):xs.length<=br/\∃(a:List af) (n:Nat),cK xs a/\xs.length=a.length/\s.heap.get? l=Y { cls :=.type "list",data :=.seq a.toArray n }:=by
 obtain⟨z,a,n,r,e⟩:=I.jo l _ b;exact⟨z,a,n,r,r.length,e⟩
theorem FN{n:Nat}(h:n<=br):nZ n=false:=by
 unfold nZ;exact decide_eq_false (by omega)
end
section
variable {X:Cx}
def O2:V->List V->Hp->VK->Prop:=λx a H Q=>∃l xs y,x=.ref l/\a=[y]/\H l=Y (.lst xs)/\xs.length<br/\Q .eJ (eN H l (.lst (xs++[y])))
theorem p6:Y' X "list.append" O2:=by
 intro B s U H x k v m Q I c f h;obtain⟨l,xs,y,rfl,rfl,b,o,q⟩:=h;cases c;obtain⟨u,rfl,g⟩:=f.one;obtain⟨z,a,n,r,p,e⟩:=I.HR b;refine IE F.slot_list_append ⟨_,e,rfl⟩ F.entry_list_append (F.args_list_append_2 _ _) (PySem.list_append l a.toArray n u (by rw[aY];omega)) ⟨e,?_⟩;refine⟨.eJ,_,I.SS (its':=a++[u]) b e (by simp) (r.append (.cons g .nil)) ?_,rfl,q⟩;rw[aE,bH];omega
def O1:V->List V->Hp->VK->Prop:=λx a H Q=>∃l b xs zs,x=.ref l/\a=[.ref b]/\H l=Y (.lst xs)/\H b=Y (.lst zs)/\xs.length+zs.length<=br/\Q .eJ (eN H l (.lst (xs++zs)))
theorem KN:Y' X "list.extend" O1:=by
 intro B s U H x K v d Q I m o h;obtain⟨l,b,xs,zs,rfl,rfl,k,C,P,q⟩:=h;cases m;obtain⟨u,rfl,p⟩:=o.one;cases p;obtain⟨z,c,n,r,R,e⟩:=I.HR k;obtain⟨E,a,w,t,A,D⟩:=I.HR C;have g:c.toArray.size+a.toArray.size<=br:=by rw[aY,aY];omega
 have f:¬(!c.toArray.isEmpty&&nZ (c.toArray.size+a.toArray.size))=true:=by rw[FN g,LP];exact cV
 refine IE F.slot_list_extend ⟨_,e,rfl⟩ F.entry_list_extend (F.args_list_extend_2 _ _)
  (AutoSeq1.list_extend_list_list_0 l c.toArray n b a.toArray w f (by rw[aY];omega) (by omega)) ⟨e,D,?_⟩
 refine⟨.eJ,_,I.SS (its':=c++a) k e (by simp) (r.append t) ?_,rfl,q⟩;rw[aE];omega
def Vy:V->List V->Hp->VK->Prop:=λx a H Q=>∃l xs y,x=.ref l/\a=[]/\H l=Y (.lst xs)/\xs[xs.length-1]?=Y y/\Q y (eN H l (.lst xs.dropLast))
theorem MX:Y' X "list.pop" Vy:=by
 intro B s U H x w v A Q I g k h;obtain⟨l,xs,y,rfl,rfl,f,o,q⟩:=h;cases g;have c:=k.zero;subst c;obtain⟨z,a,n,r,t,e⟩:=I.HR f;obtain⟨u,p,m⟩:=r.get o;have b:a.toArray[a.toArray.size-1]?=Y u:=by show a.toArray[a.length-1]?=Y u;rw[<- Ry,<- t];exact p
 refine IE F.slot_list_pop ⟨_,e,rfl⟩ F.entry_list_pop (F.args_list_pop_1 _) (MeetsSeq.list_pop_last l a.toArray n u b (by rw[aY];omega)) ⟨e,?_⟩;refine⟨y,_,I.SS (its':=a.dropLast) f e ?_ r.dropLast ?_,m,q⟩
 ·show a.toArray.eraseIdxIfInBounds (a.toArray.size-1)=a.dropLast.toArray;rw[aY,List.eraseIdxIfInBounds_toArray,Ic]
 ·rw[List.length_dropLast];omega
def X9:R2:=λx y H Q=>∃l b xs zs,x=.ref l/\y=.ref b/\H l=Y (.lst xs)/\H b=Y (.lst zs)/\xs.length+zs.length<=br/\∀p,H p=M->Q (.ref p) (eN H p (.lst (xs++zs)))
theorem Sq:oU X (eL .Add) X9:=by
 intro B s U H x y v u Q I g f h;obtain⟨l,b,xs,zs,rfl,rfl,o,p,D,q⟩:=h;cases g;cases f;obtain⟨z,c,n,r,E,e⟩:=I.HR o;obtain⟨A,a,C,k,m,w⟩:=I.HR p;refine PySem.P.add_list e w ?_ (by rw[aY,aY];omega);have t:c.toArray++a.toArray=(c++a).toArray:=by simp
 rw[t];exact⟨.ref _,_,I.V3 (t':=s.toks) (r.append k) (by rw[aE];omega),rfl,q _ I.fresh⟩
def X7:R2:=λx y H Q=>∃l k xs,x=.ref l/\y=.int k/\H l=Y (.lst xs) /\ -(2 ^ 63)<=k/\k<2 ^ 63/\xs.length*k.toNat<=br /\
 ∀p,H p=M->Q (.ref p) (eN H p (.lst (bL k.toNat xs).flatten))
theorem QN{a:Type}(xs:List a)(k:Nat):(bL k xs).flatten.length=k*xs.length:=by
 induction k with|zero=>simp|succ k ih=>rw[g8,kU,aE,ih,QR,Nat.add_comm]
theorem Sm:oU X (eL .Mult) X7:=by
 intro B s U H x y v u Q I rx ry h;obtain⟨l,k,xs,rfl,rfl,hH,J,z,hz,q⟩:=h;cases rx;obtain⟨t,rfl⟩:=ry;obtain⟨c,Hb,n,r,hl,e⟩:=I.HR hH;have GX:Hb.toArray.size*k.toNat<=br:=by rw[aY,<- hl];exact hz
 have YL:¬Hb.toArray.size*k.toNat > (2 ^ 63-1)/8:=by
  have:(br:Nat)<=(2 ^ 63-1)/8:=by decide
  omega
 have YH:¬(!Builtin.List.listFitsIndex k)=true:=by rw[fitsIndex_both J z];exact cV
 have Wj:¬nZ (Hb.toArray.size*k.toNat)=true:=by rw[FN GX];exact cV
 have Tq:List.foldl (λx1 x2=>x1++x2) #[] (bL (if Hb.toArray.isEmpty=Z' then 0 else k.toNat) Hb.toArray)=(bL k.toNat Hb).flatten.toArray:=by
  have f0:∀m:Nat,List.foldl (λx1 x2=>x1++x2) #[] (bL m Hb.toArray)=(bL m Hb).flatten.toArray:=λm=>by have:=foldl_rep Hb m [];rw[c6]at this;exact this
  rw[f0];cases Hb with
  |nil=>simp|cons a r'=>rw[if_neg (by simp)]
 refine wpAny_binaryOp_repeat_ref (T:= "list") (U:= "int") (by decide) ⟨_,e,rfl⟩ (λs'=>typeIs_int s' k t) noFill_list_mul F.fills_int_mul F.slot_int_rmul repeat_list F.slot_int_index.lookup
  (IE F.slot_int_rmul (typeIs_int s k t) F.entry_int_rmul (F.args_int_rmul_2 _ _) (int___rmul___int_list k t l Hb.toArray n)
   ⟨e,rfl,⟨_,e,rfl⟩,IE F.slot_list_mul ⟨_,e,rfl⟩ F.entry_list_mul (F.args_list_mul_2 _ _) (AutoListH.list___mul___list_int_3 l Hb.toArray n k t YH YL Wj) ⟨e,?_⟩⟩)
 rw[Tq];exact⟨.ref _,_,I.V3 (t':=s.toks) (r.rep k.toNat) (by rw[QN,Nat.mul_comm];exact hz),rfl,q _ I.fresh⟩
end
section
variable {prog:bj}{w:bQ}{A:cf}{E:af->aq->Prop}{s:aq}
end
section
variable {X:Cx}
end
end L2
namespace Att
open PySem PySem.W PySem.Calls PyProof.Rows
theorem yA{P:Params}{h:cF}:∀(c:List Int) (e:List af),WellAll P h e (c.map WData.int)->Hf e c:=by
 intro c
 induction c with
 |nil=>intro e w;rw[EB]at w;cases w;exact .nil
 |cons n c ih=>
  intro e w;rw[bh]at w;cases w with
  |cons a b=>cases a;exact .cons _ _ (ih _ b)
theorem Ks{l:OpenLaw}{n:Nat}(A:l.most=Y n){P:Params}{h:cF}{args:List WData}{c:List af}(e:l.row.toRowW.claim.pre args=Z')(o:WellAll P h c args):
  ∃a s b,c=[cP a]/\args=[WData.list (b.map WData.int)]/\h.get? a=Y { cls :=.type "list",data :=.seq s.toArray }/\Hf s b/\b.length<=n:=by
 have p:WShape.hasAll [] args [.list .int]=true:=(pre_splitW e).1;have t:l.pre.holds [] { args:=args }=true:=(pre_splitW e).2;obtain⟨d,r,rfl,J,z⟩:=hasAllW_cons p;obtain rfl:=hasAllW_nil z;obtain⟨xs,rfl,C⟩:=hasW_list J;obtain⟨b,rfl⟩:=items_int C;have f:b.length<=n:=by
  unfold OpenLaw.pre at t;have m:(WTm.not (.lt (.lit (.int (n:Int))) (.len (.arg 0)))).holds [] { args:=[.list (b.map .int)] }=true:=by have m:=(holds_andW t).1;rw[A]at m;exact m
  have k:=condW_of m (w_not (w_lt w_lit (w_len_list (w_arg rfl))));rw[au]at k;refine Nat.le_of_not_lt λq =>?_
  have w:(n:Int)<((b.length:Nat):Int):=by omega
  first
   |(rw[decide_eq_true w]at k;exact absurd k (by decide))
   |(simp at k;omega)
 cases o with
 |cons v u=>
  cases u;cases v with|list x g=>exact⟨_,_,b,rfl,rfl,x,yA b _ g,f⟩
theorem KA(l:OpenLaw)(args:List WData):l.row.toRowW.claim.post args (.bool Z') args=true:=
 postW_of (r:=l.row.toRowW) (X:=(Z'==Z'))
  (show WShape.has [] (.bool Z') .bool=Z' by first|rfl|decide|simp[WShape.has,WShape.arms,WShape.armsAll])
  (show (WTm.eq .res (.lit (.bool Z'))).value [] { args:=args,res:=Y (.bool Z'),after:=args }=Y (.bool (Z'==Z')) from w_eq_bool (w_res rfl) w_lit) rfl
theorem GH{l:OpenLaw}{n:Nat}{q:bj}{e:List aG}{R:(aG->Option af)->cF->Prop}{Q:bQ->cF->Prop}{d:DefRec}(hn:l.most=Y n)(F:d.params.defaults=[]) (u:∀(w:bQ) (c b:aq) (i C:aG->Option af) (t:az) (o:Obj) (A x h:af) (a:az) (k:List af) (v:List Int),
   Ground q e [] R w c i C b.heap->Q w b.heap ->
   b.heap.get? t=Y o->o.data=.func (docDef d.name d.params d.body d.scope A x h)->b.heap.CodeRec x d.name->i d.name=Y (.ref t) ->
   b.heap.get? a=Y { cls :=.type "list",data :=.seq k.toArray }->Hf k v->v.length<=n->b.gens=#[] ->
   Ba (bB l.prog w) EM (.call (.ref t) ⟨[.ref a],[]⟩) (λr s'=>r=.ok (.ret (.bool Z'))/\OldK b.heap s'.heap/\s'.os=b.os/\Hg s'.gens) b) :
  WalkO q e R Q l.row.toRowW d [] (λf k=>PySem.call f k):=by
 intro w c b i C G j t o A x h dV S ho hd H P E hg args K as m y T D hlo;obtain rfl:dV=.none:=Dflts.none P F;obtain rfl:S=.none:=Dflts.noKw P;obtain⟨a,k,v,rfl,rfl,p,g,s⟩:=Ks hn m D;refine enter_call (LJ (u w c b i C t o A x h a k v G j ho (fd_plain hd) H E p g s hg) λr s' X =>?_);obtain⟨rfl,z,h3,h4⟩:=X;exact⟨.inl ⟨.bool Z',.bool Z',[],rfl,λ_=>rfl,.bool Z',KA l _,λ_=>⟨List.Pairwise.nil,λ_ hm=>(nomatch hm)⟩⟩,z,h3,h4⟩
section
variable {prog:bj}{w:bQ}{A:cf}{E:af->aq->Prop}{s:aq}{K:bb}
end
end Att
namespace L2
open PySem PySem.Spec PyProof.Rows
theorem B8:∀ {a:List af}{b:List Int},Hf a b->cK (b.map V.int) a
 |_,_,.nil =>.nil|_,_,.cons n t h =>.cons ⟨t,rfl⟩ (B8 h)
def N'(H:Hp):Prop:=∀b,H b=M∨∃o xs,H b=Y (.Ou o (.lst xs))
theorem Na{P:bj}{w:bQ}{K:bb}{i:aG->Option af}{CX:LD}{k:Nat}{a:az}{I:dP}{x:aG}{sp:Sp}{f:aq}{A:List af}{E:List Int}(KX:K.In f.heap)(S:f.heap.Ns ba i)(l:f.heap.Ns builtinsNs mb)(hbb:∀x:aG,x ≠ "__name__" ->mb x=iR x)(T:f.heap.NoLimit)(hg:f.gens=#[])(ha:f.heap.get? a=Y { cls :=.type "list",data :=.seq A.toArray })(L:Hf A E)(hl:E.length<=br)(hr:f' k EM)(F:∀base:cF,K.In base->base.Ns ba i->cQ P w K i base CX k fa I [x] sp)(C:∀(s:aq) (u:af),LQ s I ⟨[u],[]⟩ [(x,u)])(hsp:∀H:Hp,N' H->n9 K H a (E.map V.int)->sp [.ref a] H (λv _=>v=.bl Z') λ_ _ _=>False)(hCX:∀H e s',CX [] H f (λ_ _ _=>False) e s'->False):
  Ba (bB P w) EM (.call (.ref fa) ⟨[.ref a],[]⟩) (λr s'=>r=.ok (.ret (.bool Z'))/\OldK f.heap s'.heap/\s'.os=f.os/\Hg s'.gens) f:=by
 have rv:=B8 L;have j:=L.length;have t:∀H:Hp,N' H->n9 K H a (E.map V.int)->pM P w H f.heap->(∀b,H b≠M->b=a)->(H a≠M->K.lookup a=M) ->
   Ba (bB P w) EM (.call (.ref fa) ⟨[.ref a],[]⟩) (λr s'=>r=.ok (.ret (.bool Z'))/\OldK f.heap s'.heap/\s'.os=f.os/\Hg s'.gens) f:=by
  intro H hO hS R hA hK;have g:∀ {b:az}{o:Obj},f.heap.get? b=Y o->H b=M->(DW f.heap H).get? b=Y o:=λe n=>Nm e n
  have noA:∀ {b:az}{o:Obj}{es:Array DictEntry}{ep:Nat},f.heap.get? b=Y o->o.data=.dict es ep->H b=none:=fun {b o es ep} e d=>by
   rcases q:H b with _|u
   ·rfl
   have e':b=a:=hA b (by rw[q];simp);subst e';rw[ha]at e;cases e;have d':Data.seq A.toArray _=Data.dict es ep:=d;cases d'
  have p:∀ {b:az}{m:aG->Option af},f.heap.Ns b m->(DW f.heap H).Ns b m:=fun {b m} ⟨o,es,ep,e,d,r⟩=>⟨o,es,ep,g e (noA e d),d,r⟩
  have X:K.In (DW f.heap H):=λb o e=>g (KX b o e) (by
   rcases q:H b with _|u
   ·rfl
   have e':b=a:=hA b (by rw[q];simp);subst e';rw[hK (by rw[q];simp)]at e;cases e)
  have hM:Mod K i (DW f.heap H):=⟨X,p S,⟨mb,p l,hbb⟩,let ⟨mc,J,z⟩:=T;⟨mc,p J,z⟩⟩;have e0:IB P w K i (DW f.heap H) EM [] f H:=⟨rfl,hM,λb o e=>Py e,QV (K8 _ _),trivial,λb l=>absurd (show b∈([]:List az) from l) (by simp),R,.of_eq hg⟩;refine LJ ((F _ X (p S)).run EM [] f H ⟨[.ref a],[]⟩ [.ref a] [.ref a] _ _ hr e0 (C f (.ref a)) (.cons rfl .nil) (hsp H hO hS)) λr s' h =>?_
  cases r with
  |error e=>exact(hCX H e s' h).elim|ok fl=>
   cases fl with
   |next=>exact ir h|brk=>exact ir h|cont=>exact ir h|ret u=>
    obtain⟨v,H',os,bare,un,Q,r',q⟩:=h;have q':v=.bl true:=q;subst q';obtain rfl:u=Value.bool true:=r';refine⟨rfl,OldK.of_keep λb o e =>?_,os,bare⟩;cases q:H b with
    |none=>exact un.keep b o e q (by intro c;exact absurd (show b∈([]:List az) from c) (by simp)) (by simp)
    |some u=>
     rcases hO b with c|⟨ob,xs,c⟩
     ·rw[q]at c;cases c
     ·have z2:=un.D7 b ob _ c;obtain⟨e1,_⟩:=R b _ c;obtain⟨e2,_⟩:=Q b _ z2;rw[e]at e1;cases e1;exact e2
 cases hk:K.lookup a with
 |some o=>have e:=KX a o hk;rw[ha]at e;cases e;refine t (λ_=>M) (λ_ =>.inl rfl) (.inr ⟨_,A.toArray,_,hk,rfl,rfl,rfl,by rw[aY,j];exact hl,by simpa using rv⟩) (λb u c=>by have D:(M:Option HO)=Y u:=c;cases D) (λb c=>absurd rfl c) λc=>absurd rfl c
 |none=>
  refine t (λb=>if b=a then Y (.Ou { cls :=.type "list",data :=.seq A.toArray } (.lst (E.map V.int))) else M) (λb =>?_) (.inl (.inr ⟨{ cls :=.type "list",data :=.seq A.toArray },if_pos rfl⟩)) (λb u c =>?_) (λb c =>?_) λ_=>hk
  ·by_cases l:b=a
   ·exact .inr ⟨_,_,if_pos l⟩
   ·exact .inl (if_neg l)
  ·by_cases l:b=a
   ·have D:=(if_pos l).symm.trans c;cases D;subst l;exact⟨ha,by rw[au];exact hl,A,_,rv,ha⟩
   ·have D:=(if_neg l).symm.trans c;cases D
  ·by_cases l:b=a
   ·exact l
   ·exact absurd (if_neg l) c
theorem OE{l:PySem.W.OpenLaw}{n k:Nat}{q:bj}{c:List aG}{R:bQ->cF->Prop}{d:DefRec}{K:Params->bb}{CX:bQ->LD}{sp:bQ->Sp}{x:aG}(X:l.most=Y n)(C:n<=br)(E:d.params.defaults=[])(T:f' k EM)(hY:∀(w:bQ) (h:cF),R w h->(K w.params).In h) (F:∀(w:bQ) (i:aG->Option af) (t:az) (h:cF),(K w.params).In h->h.Ns ba i->i d.name=Y (.ref t) ->
   ∃I:dP,(∀(s:aq) (u:af),LQ s I ⟨[u],[]⟩ [(x,u)]) /\
    ∀base:cF,(K w.params).In base->base.Ns ba i->cQ l.prog w (K w.params) i base (CX w) k t I [x] (sp w)) (A:∀(w:bQ) (H:Hp) (a:az) (r:List Int),r.length<=n->N' H->n9 (K w.params) H a (r.map V.int)->sp w [.ref a] H (λv _=>v=.bl Z') λ_ _ _=>False) (y:∀(w:bQ) (H:Hp) (s:aq) (e:af) (s':aq),CX w [] H s (λ_ _ _=>False) e s'->False) :
  PySem.W.WalkO q c XP R l.row.toRowW d [] (λf P=>PySem.call f P):=by
 refine Att.GH X E λw Q m i mb t o pm cd Ru a P r G j ho hd Z4 D p g b hg =>?_
 have S:=hY w _ j;obtain⟨I,hb,hF⟩:=F w i t _ S G.T.g D;exact Na S G.T.g G.T.b G.T.builtins G.T.nolimit hg p g (bX b C) T hF hb (λH hO hS=>A w H a r b hO hS) λH e s'=>y w H m e s'
theorem L4{l:PySem.W.OpenLaw}{n k:Nat}{q:bj}{b:List aG}{P:(aG->Option af)->cF->Prop}{t:bQ->cF->Prop}{d:DefRec}{K:Params->bb}{CX:LD}{sp:bb->Sp}{x:aG}(D:l.most=Y n)(m:n<=br)(o:d.params.defaults=[])(C:f' k EM)(E:∀(w:bQ) (h:cF),t w h->(K w.params).In h) (F:∀(w:bQ) (i:aG->Option af) (r:az) (h:cF),(K w.params).In h->h.Ns ba i->i d.name=Y (.ref r) ->
   ∃I:dP,(∀(s:aq) (u:af),LQ s I ⟨[u],[]⟩ [(x,u)]) /\
    ∀base:cF,(K w.params).In base->base.Ns ba i->cQ l.prog w (K w.params) i base CX k r I [x] (sp (K w.params))) (g:∀(K:bb) (H:Hp) (a:az) (c:List Int),c.length<=n->N' H->n9 K H a (c.map V.int)->sp K [.ref a] H (λv _=>v=.bl Z') λ_ _ _=>False) (p:∀(H:Hp) (s:aq) (e:af) (s':aq),CX [] H s (λ_ _ _=>False) e s'->False) :
  PySem.W.WalkO q b P t l.row.toRowW d [] (λf A=>PySem.call f A):=
 OE (K:=K) (CX:=λ_=>CX) (sp:=λw=>sp (K w.params)) D m o C E F (λw H a c J z j=>g (K w.params) H a c J z j) λ_ H s e s'=>p H s e s'
noncomputable def cW(s:cY)(j:Nat):cY:=match s with
 |.ClassDef _ _ _ a _ _ _ _ _ _ _=>a.getD j (.Pass ⟨0,0,0,0⟩)|_ =>.Pass ⟨0,0,0,0⟩
noncomputable def px(s:cY):Arguments:=match s with
 |.FunctionDef _ a _ _ _ _ _ _ _ _=>a|_=>{ posonlyargs:=[],args:=[],vararg:=M,kwonlyargs:=[],kw_defaults:=[],kwarg:=M,defaults:=[] }
noncomputable def iA(s:cY):List cY:=match s with
 |.FunctionDef _ _ b _ _ _ _ _ _ _=>b|_=>[]
noncomputable def aI(s:cY):Scope:=match s with
 |.FunctionDef _ _ _ _ _ _ a _ _ _=>a|_=>{ kind :=.function,names:=[],isGenerator:=Z_,isCoroutine:=Z_ }
abbrev iW:LD:=λ_ _ _ _ _ _=>False
abbrev E0:XK:=λ_ _ _=>False
theorem pZ{X:Cx}:sO iW X E0:=λ_ _ _ _ _ _ _ h=>h.elim
structure jD(K:bb)(x qual:aG)(st:cY)(f:az)(fd:dP):Prop where
 ex:∃(oc:af) (od:Option az) (kV Ru pm:af) (an:Option az) (UQ ct:af) (Ye:Array (Option af)),
  fd=fnOf x qual (px st) (iA st) (aI st) .none kV Ru pm an UQ ct/\K.lookup f=some ⟨oc,od,.func fd,Ye⟩/\codeIn K UQ qual=true
 kp:B2 K (.ref f)=true
section
variable {P:bj}{w:bQ}{K:bb}{i:aG->Option af}{base:cF}
theorem jD.ok{x c:aG}{st:cY}{f:az}{I:dP}{N q:List aG}{k:Nat}{sp:Sp}(F:jD K x c st f I)(S:bC N q (aI st))(m:∀g H Q E,sp g H Q E->g.length=q.length) (l:∀(e:af) (A:cf) (b:List Env) (s:aq) (H:Hp) (g:List V) (Q:VK) (E:XK),f' k (A.deeper (rW c (aI st) s.heap.objs.size f e))->sp g H Q E ->
   ∃t,sP (xE iW P w K i base N c (aI st) f e A b s H E).MS (iA st) t/\t { nx:=λ_ H'=>Q .eJ H',rt:=Q } (start N g) H):cQ P w K i base iW (k+1) f I q sp:=by
 obtain⟨d,D,R,v,C,X,e,T,r,rfl,lk,p⟩:=F.ex;refine Wt lk p S m λA b s H g Q E u o =>?_
 obtain⟨t,h,a⟩:=l e A b s H g Q E u o;exact⟨t,h.MS,a⟩
theorem jD.binds{x a:aG}{st:cY}{f:az}{I:dP}{q:List aG}(F:jD K x a st f I)(h:∀(k b g:af) (m:Option az) (c l:af) (e:List af),e.length=q.length->bindArgs (fnOf x a (px st) (iA st) (aI st) .none k b g m c l) ⟨e,[]⟩=fm (q.zip e)):Binds K I q []:=by
 obtain⟨s,r,k,b,g,m,c,l,o,rfl,lk,p⟩:=F.ex;exact .all (h k b g m c l)
theorem Nw{x a:aG}{st:cY}{f:az}{s:af}{r p:Option az}{g:Array (Option af)}{m e h b o:af}(l:K.lookup f=Y ⟨s,r,.func (fnOf x a (px st) (iA st) (aI st) .none m e h p b o),g⟩)(c:codeIn K b a=Z')(k:B2 K (.ref f)=Z'):jD K x a st f (fnOf x a (px st) (iA st) (aI st) .none m e h p b o):=⟨⟨s,r,m,e,h,p,b,o,g,rfl,l,c⟩,k⟩
end
theorem Ao{A:cf}{k:Nat}(a:f' k A):A.units+1<rP:=Nat.lt_of_le_of_lt (Nat.add_le_add_left (by decide:1<=64) _) a.units
section
variable {X:Cx}
theorem pv(i:Nat){x:aG}{G:Pos}(e:X.N[i]?=Y x:=by rfl)(b:Ui X.env.scope x:=by first|exact rQ rfl|exact yN (rQ rfl)|exact yN (yN rfl))(c:(x==("__debug__" : aG))=false:=by decide)(a:(x==("__classdict__" : aG))=false:=by decide):PE X (.Name x G) (kr i):=Sa e b c a
end
theorem Ga{A B:Prop}(h:B):if Z_=Z' then A else B:=by
 rw[if_neg cV];exact h
theorem BM{A B:Prop}(h:A):if Z'=Z' then A else B:=by
 rw[if_pos rfl];exact h
def bF(H H':Hp):Prop:=∀b o,H b=Y o->H' b=Y o
theorem bF.refl(H:Hp):bF H H:=λ_ _ h=>h
theorem bF.trans{H O d:Hp}(a:bF H O)(b:bF O d):bF H d:=λc o h=>b c o (a c o h)
theorem bF.free{H H':Hp}(e:bF H H'){l:az}(h:H' l=Option.none):H l=Option.none:=by
 rcases q:H l with _|o
 ·rfl
 rw[e l o q]at h;cases h
theorem bF.seq{K:bb}{H H':Hp}{a:az}{xs:List V}(e:bF H H')(h:n9 K H a xs):n9 K H' a xs:=by
 rcases h with (h|⟨o,h⟩)|h
 ·exact .inl (.inl (e _ _ h))
 ·exact .inl (.inr ⟨o,e _ _ h⟩)
 ·exact .inr h
end L2
namespace L2
open PySem
end L2
namespace L2
open PySem PyProof.Rows
theorem Gc{a:List af}{b:List Int}(h:Hf a b):a.length=b.length:=by
 induction h with|nil=>rfl|cons _ _ _ ih=>simp[ih]
section
variable {prog:bj}{w:bQ}{A:cf}{E:af->aq->Prop}{s:aq}
end
end L2
namespace L2
open PySem PyProof.Rows PySem.Spec
section
variable {prog:bj}{w:bQ}{A:cf}{R:Result->aq->Prop}{I:az}{j f:List az}{G:Array yP->Array yP->Prop}{P:Nat->af->Prop}{m:Nat->aq->Prop}
end
section
variable {prog:bj}{w:bQ}{A:cf}{E:af->aq->Prop}{s:aq}
end
section
variable {d:bj}{w:bQ}{A:cf}{E:af->aq->Prop}{s:aq}{a:az}{o:Obj}{b:Array (Int×af)}{c:Nat}{t:SetTable}
end
section
variable {prog:bj}{w:bQ}{A:cf}{E:af->aq->Prop}{s:aq}{I a T:az}{es:Array (Int×af)}{ep:Nat}{t:SetTable}{vs:List af}{i:Nat}
end
section
variable {c:bj}{w:bQ}{A:cf}{E:af->aq->Prop}{s:aq}{a:az}
end
end L2
namespace L2
open PySem PySem.Spec PyProof.Rows
section
variable {P:bj}{w:bQ}{H:Hp}{h:cF}{a:az}{o:HO}
theorem pM.IK(x:pM P w H h)(f:H a=M)(d:i6 P w (eN H a o) h a o):pM P w (eN H a o) h:=λb u e=>by
 by_cases k:b=a
 ·subst k;rw[bM]at e;cases e;exact d
 ·rw[bz k]at e;exact(x b u e).Bp (λc v _ q=>q) (λc q=>by rw[bz (bW q f)];exact q) λc l q=>by rw[bz (bW q f)];exact q
theorem pM.C3(x:pM P w (eN H a (.lst d)) h)(m:H a=M):pM P w H h:=λb u e=>by
 have n:b≠a:=bW e m;have k:∀c v,eN H a (.lst d) c=Y v->v ≠ .lst d->H c=Y v:=λc v q l=>by
  by_cases f:c=a
  ·subst f;rw[bM]at q;cases q;exact absurd rfl l
  ·rwa [bz f]at q
 exact(x b u (by rw[bz n];exact e)).Bp (λc v _ q=>q) (λc q=>k c _ q (by intro z;cases z)) λc i q=>k c _ q (by intro z;cases z)
end
noncomputable def lobj(g:List af)(n:Nat):Obj:={ cls :=.type "list",data :=.seq g.toArray n }
section
variable {X:Cx}{j:List (az×Obj)}{t:St}{H:Hp}{s:aq}{D:az}{i:List V}{g:List af}{n:Nat}
theorem Inv.IK(I:Inv X (j++[(D,lobj g n)]) t H s)(r:cK i g)(A:i.length<=br)(E:X.s₀.heap.objs.size<=D)(B:∀p∈X.pn++j,p.1≠D):Inv X j t (eN H D (.lst i)) s:=by
 obtain⟨e,d,C,N,_⟩:=I.pin (D,lobj g n) (by simp);have f:∀b o,X.s₀.heap.get? b=Y o->b≠D:=λb o q z=>by have l:=aV q;subst z;exact jz _ (bu l E)
 refine⟨I.ok,I.os,I.bare,⟨I.base.keep,I.base.slot,λb o q m x =>?_,I.base.there,λb k q =>?_,λb o u q =>?_,λb w q =>?_⟩,I.loc,I.cell,?_,λx c q =>?_,λp q =>?_,I.jo.IK d ⟨A,g,n,r,e⟩,I.len⟩
 ·rw[bz (f b o q)];exact I.base.free b o q m x
 ·have:=I.base.EX b k q;rw[bz (bW this d)];exact this
 ·have:=I.base.D7 b o u q;rw[bz (bW this d)];exact this
 ·obtain⟨a,this⟩:=I.base.EZ b w q;exact⟨a,by rw[bz (bW this d)];exact this⟩
 ·rw[bz (cL C)];exact I.free
 ·have y:c≠D:=λz=>by obtain⟨v,L,h,F⟩:=I.cell x c q;rw[z,e]at h;cases h;cases F
  rw[bz y];exact I.qa x c q
 ·obtain⟨K,J,G⟩:=I.pin p (by rw[<- bV];exact bt _ q);exact⟨K,by rw[bz (B p q)];exact J,G⟩
theorem Inv.C3(I:Inv X j t (eN H D (.lst i)) s)(h:H D=M)(B:D≠X.env.locals)(C:D∉X.fs):∃g n,cK i g/\i.length<=br/\Inv X (j++[(D,lobj g n)]) t H s:=by
 obtain⟨A,g,n,r,e⟩:=I.jo D _ bM;have k:∀c v,eN H D (.lst i) c=Y v->v ≠ .lst i->H c=Y v:=λc v q y=>by
  by_cases d:c=D
  ·subst d;rw[bM]at q;cases q;exact absurd rfl y
  ·rwa [bz d]at q
 have f:∀c,eN H D (.lst i) c=M->H c=none:=λc q=>by
  by_cases d:c=D
  ·subst d;exact h
  ·rwa [bz d]at q
 refine⟨g,n,r,A,I.ok,I.os,I.bare,⟨I.base.keep,I.base.slot,λb o q m x=>f _ (I.base.free b o q m x),I.base.there,λb l q=>k _ _ (I.base.EX b l q) (by intro z;cases z),λb o u q=>k _ _ (I.base.D7 b o u q) (by intro z;cases z),λb w q =>?_⟩,I.loc,I.cell,f _ I.free,λx c q=>f _ (I.qa x c q),λp q =>?_,I.jo.C3 h,I.len⟩
 ·obtain⟨a,this⟩:=I.base.EZ b w q;exact⟨a,k _ _ this (by intro z;cases z)⟩
 ·rw[<- bV]at q;rcases aP.mp q with q|q
  ·obtain⟨G,F,E⟩:=I.pin p q;exact⟨G,f _ F,E⟩
  ·have:p=(D,lobj g n):=by simpa using q
   subst this;exact⟨e,h,B,C,λv z=>by cases z⟩
end
theorem jC:∀(a:List (aG×mG)) (n:Nat) (acc:List (aG×az)),fG n a acc=fG n a []++acc
 |[],n,acc=>rfl| (x,k)::r,n,acc=>by
  unfold fG;split
  ·rw[jC r (n+1) ((x,n)::acc),jC r (n+1) [(x,n)],bV];rfl
  ·exact jC r n acc
theorem l4:∀(a:List (aG×mG)) (n:Nat) (b:List (aG×az)) (x:aG) (c:az),(x,c)∈fG n a b->(x,c)∈b∨(x,rB)∈a
 |[],n,b,x,c,h =>.inl h| (y,k)::r,n,b,x,c,h=>by
  unfold fG at h;split at h
  ·rename_i d;rcases l4 r _ _ x c h with q|q
   ·rcases aK.mp q with e|q
    ·cases e;have:k=.cell:=by simpa using d
     subst this;exact .inr (by simp)
    ·exact .inl q
   ·exact .inr (av _ q)
  ·rcases l4 r _ _ x c h with q|q
   ·exact .inl q
   ·exact .inr (av _ q)
noncomputable def mh(a:List (aG×az)):List (aG×mG)->List (aG×az)->List (aG×az)
 |[],b=>b|(x,k)::r,b=>if k == .free then mh a r ((x,(a.lookup x).getD 0)::b) else mh a r b
theorem sM{env:Env}(f:aG×mG->List (aG×az)->Sem (ForInStep (List (aG×az))))
  (hf:∀name kind cs,f (name,kind) cs=if kind == .free then (do let a <- cellOf env name;fm (.yield ((name,a)::cs))) else fm (.yield cs)) :
  ∀(names:List (aG×mG)) (acc:List (aG×az)),(∀y∈names,y.2=.free->∃c,env.cells.lookup y.1=Y c)->(forIn names acc f:Sem _)=fm (mh env.cells names acc)
 |[],acc,_=>by rw[List.forIn_nil];rfl
 | (x,k)::r,acc,h=>by
  rw[List.forIn_cons,hf];unfold mh;cases hk:k==iU with
  |false=>simp only[dQ,if_false];exact sM f hf r acc λy hy=>h y (av _ hy)
  |true=>
   obtain⟨c,e⟩:=h (x,k) ay (by simpa using hk);have e:env.cells.lookup x=Y c:=e;have e2:cellOf env x=fm c:=by unfold cellOf;rw[e]
   simp only[if_true];rw[e2,e];exact sM f hf r _ λy hy=>h y (av _ hy)
theorem BU{a:Scope}{env:Env}(h:∀y∈a.names,y.2=.free->∃c,env.cells.lookup y.1=Y c):closureFor a env=fm (mh env.cells a.names []):=by
 simp only[closureFor];rw[sM (env:=env) _ (λname b d=>by cases b==iU<;>rfl) a.names [] h];rfl
theorem xG{b:List (aG×az)}:∀ {a:List (aG×mG)}{d:List (aG×az)}{x:aG}{c:az},(x,c)∈mh b a d->(x,c)∈d∨((x,iU)∈a/\c=(b.lookup x).getD 0)
 |[],d,x,c,h =>.inl h| (y,k)::r,d,x,c,h=>by
  unfold mh at h;split at h
  ·rename_i f;rcases xG h with q|q
   ·rcases aK.mp q with e|q
    ·cases e;have:k=.free:=by simpa using f
     subst this;exact .inr ⟨by simp,rfl⟩
    ·exact .inl q
   ·exact .inr ⟨av _ q.1,q.2⟩
  ·rcases xG h with q|q
   ·exact .inl q
   ·exact .inr ⟨av _ q.1,q.2⟩
theorem u0:∀ {b:List (aG×mG)}{a:List (aG×az)}{x:aG},(∃c,(x,c)∈a)->∃c,(x,c)∈mh d b a
 |[],a,x,h=>h| (y,k)::r,a,x,⟨c,h⟩=>by
  unfold mh;split
  ·exact u0 ⟨c,av _ h⟩
  ·exact u0 ⟨c,h⟩
theorem xH{cells:List (aG×az)}:∀ {a:List (aG×mG)}{acc:List (aG×az)}{x:aG},(x,iU)∈a->∃c,(x,c)∈mh cells a acc
 | (y,k)::r,acc,x,h=>by
  unfold mh;rcases aK.mp h with e|h
  ·cases e;exact u0 ⟨_,ay⟩
  ·split
   ·exact xH h
   ·exact xH h
theorem ua{a:Type}:∀ {l:List (aG×a)}{x:aG}{c:a},(x,c)∈l->∃d,l.lookup x=Y d
 | (y,v)::r,x,c,h=>by
  rw[dC];cases b:x==y with
  |true=>exact⟨v,rfl⟩|false=>
   rcases aK.mp h with e|h
   ·cases e;simp at b
   ·exact ua h
theorem qE{a:Type}:∀ {l r:List (aG×a)}{x:aG},(l++r).lookup x=(l.lookup x).or (r.lookup x)
 |[],r,x=>by simp
 | (y,v)::l,r,x=>by
  rw[iq,dC,dC];cases b:x==y with
  |true=>rfl|false=>exact qE
theorem oD{a:Env}:∀ {b:List (aG×mG)}{x:aG},(b.map λ(n,k)=>if (k==iU&&a.scope.kind == .function&&a.kindOf n==Y .cell) then (n,rB) else (n,k)).lookup x =
  (b.lookup x).map λk=>if (k==iU&&a.scope.kind == .function&&a.kindOf x==Y .cell) then rB else k
 |[],_=>rfl| (n,k)::r,x=>by
  have ih :=@oD a r x;show m8 x ((if (k==iU&&a.scope.kind == .function&&a.kindOf n==Y .cell)=Z' then (n,rB) else (n,k))::_)=_;cases d:x==n with
  |true=>
   have e:x=n:=by simpa using d
   subst e;by_cases c:(k==iU&&a.scope.kind == .function&&a.kindOf x==Y .cell)=Z'
   ·rw[if_pos c];simp only[dC,d,bI,if_pos c]
   ·rw[if_neg c];simp only[dC,d,bI,if_neg c]
  |false=>
   by_cases c:(k==iU&&a.scope.kind == .function&&a.kindOf n==Y .cell)=Z'
   ·rw[if_pos c];simp only[dC,d];exact ih
   ·rw[if_neg c];simp only[dC,d];exact ih
theorem p0{a b:Nat}(h:a<b):a<b:=h
theorem VW{a b:Nat}(h:a<=b):a<=b:=h
theorem z_{a b:Nat}(h:a=b):a=b:=h
abbrev nA(X:Cx)(f:Scope)(C:az):Env:=
 { scope:=Rv f X.env,locals:=C,globals:=X.env.globals,cells:=fG (C+1) f.names (mh X.env.cells f.names []),qual:=X.env.qual,func:=M,code:=X.env.code,frame:=X.env.frame,builtins:=X.env.builtins }
def Cx.wq(X:Cx)(N:List aG)(f:Scope)(C:az)(s:aq)(H:Hp)(a:List az):Cx:=
 { X with N:=N,s₀:=s,H₀:=H,env:=nA X f C,outer:=X.stack,stack:=X.stack,ex:=a,fn:=λx=>f.names.lookup x==Y .cell,pn:=[],xe:=λ_ _=>False }
noncomputable def om(t:List (Option Nat))(w:St):St:=t.map λo=>match o with|some j=>(w[j]?).getD M|none=>M
structure gM(X:Cx)(N:List aG)(src:List (Option Nat))(scope:Scope):Prop where
 kind:scope.kind=.function
 uniq:∀y∈scope.names,scope.names.lookup y.1=some y.2
 free:∀y∈scope.names,y.2=.free->X.env.scope.names.lookup y.1=some .cell∨X.env.scope.names.lookup y.1=some .free
 len:src.length=N.length
 Ws:∀(i j:Nat) (x:aG),src[i]?=some (some j)->N[i]?=some x->X.N[j]?=some x/\scope.names.lookup x=some .free
section
variable {X:Cx}{B:List (az×Obj)}{w:St}{H:Hp}{s g:aq}{N:List aG}{t:List (Option Nat)}{f:Scope}
theorem HL{g:Model}(l:∀c,(∀b o,s.heap.get? b=Y o->c.get? b=Y o)->c.Ns s.heap.objs.size (λ_=>M)->CellsOk c (s.heap.objs.size+1) (fG (s.heap.objs.size+1) f.names []) ->
   Q { scope:=f,locals:=s.heap.objs.size,globals:=X.env.globals,cells:=fG (s.heap.objs.size+1) f.names j,qual:=X.env.qual,func:=M,code:=X.env.code,frame:=X.env.frame,builtins:=X.env.builtins } { s with heap:=c }) :
  bE g A (Uu f X.env.globals j [] X.env.qual M .none (Y X.env)) Q E s:=by
 simp only[Uu,Option.isSome_some,if_true];refine aD (wpAny_alloc ?_);refine aD (wpAny_layCells _ (λname a h=>by cases d:a==rB<;>simp[d]) _ _ _ _ ?_);have i:=cellsFrom_ok f.names (s.heap.push { cls :=.type "dict",data :=.dict #[] }) (s.heap.objs.size+1) [] ⟨λ_ _ k=>(nomatch k),List.Pairwise.nil⟩ (by rw[fg];exact aM _);rw[fg]at i;rw[show ({ s with heap:=s.heap.push { cls :=.type "dict",data :=.dict #[] } }:aq).heap.objs.size=s.heap.objs.size+1 from fg ..];rw[List.forIn_nil];exact aD (bG (bG (l _ (λb o e=>pushCells_keeps _ _ b o (ak _ e)) ((Heap.Ns.new s.heap (.type "dict")).keeps (pushCells_keeps _ _)) i)))
theorem mZ(S:gM X N t f)(i:X.Ok)(h:(nA X f C).cells.lookup x=Y c):
  (f.names.lookup x=Y .cell/\(x,c)∈fG (C+1) f.names [])∨(f.names.lookup x=Y .free/\X.env.cells.lookup x=Y c):=by
 have h:(fG (C+1) f.names (mh X.env.cells f.names [])).lookup x=Y c:=h;rw[jC,qE]at h;cases e:(fG (C+1) f.names []).lookup x with
 |some d=>
  rw[e]at h;have:d=c:=by simpa using h
  subst this;have q:=PySem.mem_of_lookup e;rcases l4 _ _ _ _ _ q with z|z
  ·simp at z
  ·exact .inl ⟨S.uniq _ z,q⟩
 |none=>
  rw[e]at h;have h:(mh X.env.cells f.names []).lookup x=Y c:=by simpa using h
  rcases xG (PySem.mem_of_lookup h) with z|⟨z,a⟩
  ·simp at z
  ·obtain⟨d,b⟩:=i.has x (S.free _ z rfl);rw[b]at a;exact .inr ⟨S.uniq _ z,by rw[b,a];rfl⟩
theorem Qx(S:gM X N t f)(h:f.names.lookup x=Y .cell):∃c,(nA X f C).cells.lookup x=Y c:=by
 obtain⟨c,e⟩:=AX (sc:=f) (n:=C+1) h;refine⟨c,?_⟩;show (fG (C+1) f.names (mh X.env.cells f.names [])).lookup x=Y c;rw[jC,qE,e];rfl
theorem GF(S:gM X N t f)(a:X.Ok){C:az}(h:f.names.lookup x=Y .free):∃c,(nA X f C).cells.lookup x=Y c/\X.env.cells.lookup x=Y c:=by
 have b:=PySem.mem_of_lookup h;obtain⟨d,i⟩:=xH (cells:=X.env.cells) (acc:=[]) b;obtain⟨c,j⟩:=ua i;have e:(nA X f C).cells.lookup x=Y c:=by
  show (fG (C+1) f.names (mh X.env.cells f.names [])).lookup x=Y c;rw[jC,qE];rcases e:(fG (C+1) f.names []).lookup x with _|d
  ·simpa using j
  rcases l4 _ _ _ _ _ (PySem.mem_of_lookup e) with z|z
  ·simp at z
  ·have:=S.uniq _ z;rw[h]at this;cases this
 rcases mZ S a e with⟨z,_⟩|⟨_,z⟩
 ·rw[h]at z;cases z
 ·exact⟨c,e,z⟩
theorem GD(x:aG):(nA X f C).kindOf x=(f.names.lookup x).map λk=>if (k==iU&&X.env.scope.kind == .function&&X.env.kindOf x==Y .cell) then rB else k:=by
 show (Rv f X.env).names.lookup x=_;exact oD
theorem E_{i:Nat}{v:V}(h:(om t w)[i]?=Y (Y v)):∃j,t[i]?=Y (Y j)/\w[j]?=Y (Y v):=by
 unfold om at h;rw[aT]at h;rcases e:t[i]? with _|o
 ·rw[e]at h;cases h
 rw[e]at h;cases o with
 |none=>cases h|some j=>
  refine⟨j,rfl,?_⟩;have h:(w[j]?).getD M=Y v:=by simpa using h
  rcases q:w[j]? with _|z
  ·rw[q]at h;cases h
  rw[q]at h;rw[show z=Y v from h]
theorem Lx{ex:List az}{h':cF}{D C:Nat}{o:Obj}(S:gM X N t f)(I:Inv X B w H g)(J:∀b∈ex,BY X B H b)(P:∀b∈ex,∃o,g.heap.get? b=Y o)
  (hD:D=g.heap.objs.size) (hC:C=g.heap.objs.size+1) (G:∀b o,g.heap.get? b=Y o->h'.get? b=Y o) (T:h'.get? D=Y o) (R:∀v,o.data ≠ .cell v)
  (Q:h'.Ns C (λ_=>M)) (E:CellsOk h' (C+1) (fG (C+1) f.names [])) :
  Inv (X.wq N f C g H ex) (X.pn++B++[(D,o)]) (om t w) H { g with heap:=h' }:=by
 have lt:∀ {b:Nat}{o:Obj},g.heap.get? b=Y o->b<g.heap.objs.size:=λe=>aV e
 have fr:∀a:Nat,g.heap.objs.size<=a->H a=none:=λa h=>I.jo.fresh h
 have A:∀(x:aG) (c:Nat),X.env.cells.lookup x=Y c->c<g.heap.objs.size:=λx c e=>by obtain⟨v,z⟩:=I.cell x c e;exact z.lt
 have d:∀ {x:aG}{c:Nat},(x,c)∈fG (C+1) f.names []->C+1<=c:=λq=>(E.empty _ _ q).2
 refine⟨⟨I.mod,S.kind,I.ok.glob,I.ok.blt,?_,?_,?_,?_,I.ok.hd,I.ok.frames,.inl rfl,?_,I.bs,?_,?_,?_,I.stack,I.IL⟩,rfl,I.bare,Un.kept G,⟨_,Q,?_⟩,?_,?_,?_,?_,I.jo.kept G,?_⟩
 ·show g.heap.objs.size<=C;omega
 ·intro x y c s U;rcases mZ S I.ok s with⟨_,a⟩|⟨_,a⟩<;>rcases mZ S I.ok U with⟨_,b⟩|⟨_,b⟩
  ·exact name_of_addr E.apart a b
  ·have:C+1<=(c:Nat):=d a;have:=p0 (A _ _ b);omega
  ·have:C+1<=(c:Nat):=d b;have:=p0 (A _ _ a);omega
  ·exact I.ok.inj x y c a b
 ·intro x n;have n:(nA X f C).kindOf x=Y .cell∨(nA X f C).kindOf x=Y .free:=n;rw[GD]at n;rcases e:f.names.lookup x with _|k
  ·rw[e]at n;rcases n with z|z<;>cases z
  cases k with
  |cell=>exact Qx S e|free=>obtain⟨c,q,_⟩:=GF S I.ok e;exact⟨c,q⟩
  |_=>rw[e]at n;exfalso;revert n;simp
 ·intro x c n s;have n:f.names.lookup x=Y .cell:=by have:(f.names.lookup x==Y .cell)=true:=n;simpa using this
  show g.heap.objs.size<=c;rcases mZ S I.ok s with⟨_,a⟩|⟨z,_⟩
  ·have:C+1<=(c:Nat):=d a;show g.heap.objs.size<=(c:Nat);omega
  ·rw[n]at z;cases z
 ·intro b F;obtain⟨L,e⟩:=P b F;have l:=p0 (lt e);refine⟨λz =>?_,λx c s z =>?_⟩
  ·have z:=z_ (a:=b) (b:=C) z;omega
  ·subst z;rcases mZ S I.ok s with⟨_,a⟩|⟨_,a⟩
   ·have:C+1<=(c:Nat):=d a;omega
   ·exact(J c F).2.2.2.2.1 x c a rfl
 ·show X.base.objs.size<=g.heap.objs.size;have:=I.ok.Ow;have:=I.sz;omega
 ·intro b L e F;rcases(J b F).2.2.2.1 with z|z
  ·exact I.ok.MU b L e z
  ·have e:X.base.get? b=Y L:=e;have a:=p0 (aV e);have:=I.ok.Ow;have z:X.s₀.heap.objs.size<=(b:Nat):=z;omega
 ·intro b F;intro z;have z:b∈EJ X.stack:=z;have:=I.uj b z;rcases aK.mp this with q|q
  ·exact(J b F).2.1 q
  ·exact(J b F).2.2.1 q
 ·intro i x v s U h3;obtain⟨j,e1,e2⟩:=E_ U;obtain⟨e3,e4⟩:=S.Ws i j x e1 s;obtain⟨m,hm,hl⟩:=I.loc;have V:=S.free _ (PySem.mem_of_lookup e4) rfl;have K:Ui X.env.scope x :=.inr V;obtain⟨u,r,lk⟩:=hl j x v e3 e2 K;refine⟨u,r,?_⟩;rcases lk with⟨z,_⟩|⟨_,c,ec,cc⟩
  ·exfalso;have z:X.env.scope.names.lookup x=Y .local:=z;rw[z]at V;rcases V with q|q<;>cases q
  ·obtain⟨c',q1,q2⟩:=GF (C:=C) S I.ok e4;rw[ec]at q2;cases q2;refine .inr ⟨?_,c,q1,cc.keeps G⟩;show (nA X f C).kindOf x=Y .cell∨(nA X f C).kindOf x=Y .free;rw[GD,e4,bI];split
   ·exact .inl rfl
   ·exact .inr rfl
 ·intro x c s;rcases mZ S I.ok s with⟨_,a⟩|⟨_,a⟩
  ·exact⟨M,(E.empty _ _ a).1⟩
  ·obtain⟨v,z⟩:=I.cell x c a;exact⟨v,z.keeps G⟩
 ·exact fr C (by omega)
 ·intro x c s;rcases mZ S I.ok s with⟨_,a⟩|⟨_,a⟩
  ·have:C+1<=(c:Nat):=d a;exact fr c (by omega)
  ·exact I.qa x c a
 ·intro p O;have O:p∈X.pn++B++[(D,o)]:=by simpa [Cx.wq] using O
  rcases aP.mp O with q|q
  ·obtain⟨a1,a2,a3,a4,a5⟩:=I.pin p q;refine⟨G _ _ a1,a2,λz =>?_,λz =>?_,a5⟩
   ·have z:=z_ (a:=p.1) (b:=C) z;have q:=p0 (lt a1);omega
   ·have z:p.1∈EJ X.stack:=z;rcases aK.mp (I.uj _ z) with q|q
    ·exact a3 q
    ·exact a4 q
  ·have:p=(D,o):=by simpa using q
   subst this;refine⟨T,fr D (by omega),λz =>?_,λz =>?_,R⟩
   ·have z:D=C:=z;omega
   ·have z:D∈EJ X.stack:=z;rcases aK.mp (I.uj _ z) with q|q
    ·have l:=p0 I.lt;have q:=z_ (a:=D) (b:=X.env.locals) q;omega
    ·exact I.SE (show g.heap.objs.size<=D by omega) q
 ·show (om t w).length=N.length;unfold om;rw[au];exact S.len
end
section
variable {E:bj}{w:bQ}{A:cf}{R:Result->aq->Prop}{s:aq}
theorem Ee{L G:Expr}{B:List Expr}{f:Scope}{U:Pos}(I:Nat->aq->Prop) (lB:∀n s,I n s->bE (bB E w) A (pyNext J) (λr i=>match r with
   |none=>R (.ok .next) i| some v=>bE (bB E w) A (Bk b J v) (λ_ g=>bE (bB E w) A (Oh b d v) (λ_ p=>
     bE (bB E w) A (forIn B Z' λc r=>if r=Z' then do let C <- isTrue c d (eval c d);fm (wR C) else fm (wR r)) (λC e=>
      if C=Z' then bE (bB E w) A (eval L d) (λx o=>bE (bB E w) A (call (.builtin "list.append") [z,x]) (λ_ k=>∃m,m<n/\I m k) (λ_ _=>False) o) (λ_ _=>False) e
      else ∃m,m<n/\I m e) (λ_ _=>False) p) (λ_ _=>False) g) (λ_ _=>False) i) (λ_ _=>False) s) (n:Nat) (h:I n s) :
  Ba (bB E w) A (.compLoop (.ListComp L [⟨b,G,B,0⟩] f U) 0 J z d) R s:=by
 refine codeAny_loop rfl I (λn s K =>?_) n h;show bE _ A ((compTurn (.ListComp L [⟨b,G,B,0⟩] f U) 0 J z d).onRaise (λx=>do noteFrame x d;theTreesLotGoes x)) _ _ s;refine wpAny_noted ?_;rw[compTurn_list];refine aD (wpAny_standAt (aD (il (lB n s K) (λr i t =>?_) λ_ _ j=>j.elim)));cases r with
 |none=>exact bG t|some v=>
  refine aD (il t (λ_ g y=>aD (il y (λ_ p H=>aD (il H (λC e q =>?_) λ_ _ j=>j.elim)) λ_ _ j=>j.elim)) λ_ _ j=>j.elim);cases C with
  |false=>exact bG ⟨rfl,q⟩|true=>exact aD (aD (il q (λx o F=>aD (il F (λ_ k D=>bG (bG ⟨rfl,D⟩)) λ_ _ j=>j.elim)) λ_ _ j=>j.elim))
end
def QH(own:List Nat)(g:TG):Prop:=∀x c H (Q:St->Hp->Prop),g x c H Q->g x c H λb d=>(b.length=c.length/\∀i,i∉own->b[i]?=c[i]?)/\Q b d
theorem h_(i:Nat):QH [i] (rd i):=λx c H Q h=>⟨⟨by simp,λj b=>by
 have:i≠j:=λe=>b (by simp[e])
 rw[aw this]⟩,h⟩
def Iy(X:Cx)(B:List Expr)(t:TT):Prop:=
 ∀(b:List (az×Obj)) (s:aq) (d:St) (H:Hp) (Q:Bool->Hp->Prop),Inv X b d H s->t d H Q ->
  bE (bB X.prog X.w) X.A (forIn B Z' λc r=>if r=Z' then do let e <- isTrue c X.env (eval c X.env);fm (wR e) else fm (wR r)) (TP X b d Q) X.xe s
def Vc:TT:=λ_ H Q=>Q Z' H
section
variable {X:Cx}{c:Expr}{t:TT}
theorem O':Iy X [] Vc:=λb s c H Q I h=>wpAny_tests_nil ⟨H,I,h⟩
theorem O_(h:PT X c t):Iy X [c] t:=λb s d H Q I q=>wpAny_tests_one (h b s d H Q I q)
end
def RN(l:TI)(src:List (Option Nat))(g:TG)(u:TT)(O:TE):TE:=λk H Q=>l k H λJ r=>∃W:Nat->Nat->List V->Hp->Prop,(∃m,W 0 m [] r)/\∀i m e H,W i m e H ->
 (J.stop i H/\∀D,H D=M->Q (.ref D) (eN H D (.lst e))) ∨
 (J.go i H/\e.length<br/\∃j:List V->Hp->Prop,(∀d h,j d h->∃n,n<m/\W (i+1) n d h)/\∀x h,J.Q1 i H x h ->
  g x (om src k) h λc q=>u c q λb o=>if b=Z' then O c o λv p=>j (e++[v]) p else j e o)
section
variable {X:Cx}{N:List aG}{src:List (Option Nat)}{f:Scope}{a G L:Expr}{B:List Expr}{l:TI}{g:TG}{u:TT}{O:TE}{U:Pos}{own:List Nat}
theorem CP{s:aq}{F:List (az×Obj)}{RR:af->az->Result->aq->Prop}(S:gM X N src f)(hc:X.calm=Z')(hi:PI X a G l)(ag:QH own g)(ho:∀i∈own,src[i]?=Y M)(E:∀C s H ex,PG (X.wq N f C s H ex) a g/\Iy (X.wq N f C s H ex) B u/\PE (X.wq N f C s H ex) L O)(I:Inv X F σ H s)(h:RN l src g u O σ H Q) (hRR:∀(D C:az) (s':aq) (H':Hp),Inv X F σ H' s'->(∃m,s'.heap.Ns C m)->H' C=M->C≠X.env.locals->(C∈X.ex∨X.s₀.heap.objs.size<=C)->(∀x c,X.env.cells.lookup x=Y c->c≠C)->(∀p∈X.pn++F,p.1≠C) ->
   Q (.ref D) H'->RR (.ref D) C (.ok .next) s') :
  bE (bB X.prog X.w) X.A (eval G X.env) (λx s₁=>bE (bB X.prog X.w) X.A (pyIter x) (λit s₂=>bE (bB X.prog X.w) X.A (newList []) (λacc s₃=>
   bE (bB X.prog X.w) X.A (Uu f X.env.globals (mh X.env.cells f.names []) [] X.env.qual M .none (Y X.env)) (λWK s₄=>
    Ba (bB X.prog X.w) X.A (.compStart (.ListComp L [⟨a,G,B,0⟩] f U) 0 it acc { WK with scope:=Rv f X.env }) (RR acc WK.locals) s₄) X.xe s₃) X.xe s₂) X.xe s₁) X.xe s:=by
 refine gD (hi F s σ H _ I h) λv s1 h1=>gD h1 λitv A h2 =>?_
 obtain⟨it,fp,tn,J,H2,e,I2,T,Vr,f2,W,⟨m0,w0⟩,lB⟩:=h2;subst e;refine wpAny_newObj_type ?_;generalize Yu:A.heap.push { cls :=.type "list",dict:=M,data :=.seq ([]:List af).toArray }=h3;have sz3:h3.objs.size=A.heap.objs.size+1:=by rw[<- Yu,fg]
 have k3:∀b o,A.heap.get? b=Y o->h3.get? b=Y o:=λb o e=>Yu ▸ ak _ e
 have d3:h3.get? A.heap.objs.size=Y (lobj [] 0):=Yu ▸ bD _ rfl;refine HL (X:=X) (s:={ A with heap:=h3 }) λh4 k4 ZD Y1 =>?_
 rw[show ({ A with heap:=h3 }:aq).heap.objs.size=A.heap.objs.size+1 from sz3]at ZD Y1 ⊢;have Yn:∀b o,A.heap.get? b=Y o->h4.get? b=Y o:=λb o e=>k4 b o (k3 b o e)
 have YU:∀b∈fp,∃o,A.heap.get? b=Y o:=λb E=>by obtain⟨o,e,_⟩:=T.obj _ _ Vr b E;exact⟨o,e⟩
 have I4:=Lx (ex:=fp) (h':=h4) (D:=A.heap.objs.size) (C:=A.heap.objs.size+1) (o:=lobj [] 0) S I2 f2 YU rfl rfl Yn (k4 _ _ d3) (λv z=>by cases z) ZD Y1;have I4:Inv (X.wq N f (A.heap.objs.size+1) A H2 fp) (X.pn++F++[(A.heap.objs.size,lobj [] 0)]) (om src σ) H2 { A with heap:=h4 }:=I4;generalize hX:X.wq N f (A.heap.objs.size+1) A H2 fp=P at I4;obtain⟨pg,pt,pe⟩:=E (A.heap.objs.size+1) A H2 fp;rw[hX]at pg pt pe;have K:P.prog=X.prog:=by rw[<- hX];rfl
 have ew:P.w=X.w:=by rw[<- hX];rfl
 have eK:P.K=X.K:=by rw[<- hX];rfl
 have eA:P.A=X.A:=by rw[<- hX];rfl
 have Ro:P.calm=true:=by rw[<- hX];exact hc
 have Xu:P.xe=λ_ _=>False:=by rw[<- hX];rfl
 have ND:P.env=nA X f (A.heap.objs.size+1):=by rw[<- hX];rfl
 have TN:P.pn=[]:=by rw[<- hX];rfl
 have Xv:P.s₀=A:=by rw[<- hX];rfl
 have eH0:P.H₀=H2:=by rw[<- hX];rfl
 have eex:P.ex=fp:=by rw[<- hX];rfl
 have YZ:P.fs=EJ X.stack:=by rw[<- hX];rfl
 have Xs:P.env.locals=A.heap.objs.size+1:=by rw[ND]
 have hDC:A.heap.objs.size≠P.env.locals:=by rw[Xs];exact bS (jP _)
 have hDF:A.heap.objs.size∉P.fs:=by
  rw[YZ];intro z;rcases aK.mp (I2.uj _ z) with q|q
  ·exact absurd (z_ q) (l9 (p0 I2.lt))
  ·exact I2.SE (aM _) q
 have ZT:∀p∈P.pn++(X.pn++F),p.1≠A.heap.objs.size:=λp hp=>by rw[TN,c6]at hp;exact bS (p0 (aV (I2.pin p hp).1))
 have fpD:∀b∈fp,b≠A.heap.objs.size:=λb E=>by obtain⟨o,e⟩:=YU b E;exact bS (p0 (aV e))
 have Ht:∀ {P':List (az×Obj)}{H':Hp},(∀p∈P',p∈X.pn++F∨p.1=A.heap.objs.size)->(∀b∈fp,H' b=M)->∀b∈fp,BY P P' H' b:=fun {P' H'} hP hn b E=>by
  obtain⟨a1,a2,a3,a4,a5,a6⟩:=f2 b E;obtain⟨o,e⟩:=YU b E;have w:=p0 (aV e);refine⟨hn b E,?_,?_,.inl (by rw[eex];exact E),λx c q z =>?_,λp hp z =>?_⟩
  ·rw[Xs];exact bS (tz w)
  ·rw[YZ];intro z;rcases aK.mp (I2.uj b z) with q|q
   ·exact a2 q
   ·exact a3 q
  ·subst z;rw[ND]at q;rcases mZ S I2.ok q with⟨_,r⟩|⟨_,r⟩
   ·have:=VW (Y1.empty _ _ r).2;omega
   ·exact a5 x c r rfl
  ·rw[TN,c6]at hp;rcases hP p hp with q|q
   ·exact a6 p q z
   ·exact fpD b E (z.symm.trans q)
 have W8:Ba (bB X.prog X.w) X.A (.compLoop (.ListComp L [⟨a,G,B,0⟩] f U) 0 (.ref it) (.ref A.heap.objs.size) (nA X f (A.heap.objs.size+1))) (RR (.ref A.heap.objs.size) (A.heap.objs.size+1)) { A with heap:=h4 }:=by
  refine Ee (λn s'=>∃i ys R nn H',Inv P (X.pn++F++[(A.heap.objs.size,lobj R nn)]) (om src σ) H' s'/\cK ys R/\ys.length<=br/\tn i s'.heap/\(∀b∈fp,H' b=M)/\W i n ys H') ?_ m0
   ⟨0,[],[],0,H2,I4,.nil,fc _,T.keep _ _ _ Vr (λb _ o e=>Yn b o e),λb E=>(f2 b E).1,w0⟩
  rintro n s5 ⟨i,ys,R,nn,H5,I5,r5,z5,UG,Xt,w5⟩;have Ya:∀p∈X.pn++F++[(A.heap.objs.size,lobj R nn)],p∈X.pn++F∨p.1=A.heap.objs.size:=λp hp=>by
   rcases aP.mp hp with q|q
   ·exact .inl q
   ·exact .inr (by rw[show p=(A.heap.objs.size,lobj R nn) by simpa using q])
  rcases lB i n ys H5 w5 with⟨stop,qn⟩|⟨go,lt5,Nx,hN,step⟩
  ·have d:=T.done P K ew eK Ro i _ s5 (om src σ) H5 (λ_ _=>False) I5 (Ht Ya Xt) UG stop;rw[eA]at d;refine gD d λr s6 Yw =>?_
   obtain⟨hr,I6⟩:=Yw;subst hr;have US:Inv P (X.pn++F) (om src σ) (eN H5 A.heap.objs.size (.lst ys)) s6:=I6.IK r5 z5 (by rw[Xv];exact aM _) ZT;have hD5:H5 A.heap.objs.size=none:=(I6.pin (A.heap.objs.size,lobj R nn) (by simp)).2.1;have Un6:=US.base;rw[YZ,eex,eH0,Xv]at Un6;have Zz:=US.os;rw[Xv]at Zz;have Wf:=US.jo;rw[K,ew]at Wf;have J6:Inv X F σ (eN H5 A.heap.objs.size (.lst ys)) s6:=I2.JW Zz Un6 Wf US.bare λb E=>⟨(f2 b E).2.2.2.1,(f2 b E).2.1,(f2 b E).2.2.2.2.1,(f2 b E).2.2.2.2.2⟩
   obtain⟨m,hm,_⟩:=US.loc;rw[Xs]at hm;have fC:=US.free;rw[Xs]at fC;refine hRR _ _ s6 _ J6 ⟨m,hm⟩ fC ?_ (.inr ?_) ?_ ?_ (qn _ hD5)
   ·exact λz=>absurd (z_ z) (l9 (tz (p0 I2.lt)))
   ·exact tD I2.sz
   ·intro x c q z;obtain⟨v,cc⟩:=I2.cell x c q;have:=p0 cc.lt;have z:=z_ z;omega
   ·intro p hp z;have:=p0 (aV (I2.pin p hp).1);have z:=z_ z;omega
  ·have d:=T.item P K ew eK Ro i _ s5 (om src σ) H5 (λ_ _=>False) I5 (Ht Ya Xt) UG go;rw[eA]at d;refine gD d λr s6 Yw =>?_
   obtain⟨t,hr,h6⟩:=Yw;subst hr;refine gD h6 λ_ s7 h7 =>?_
   obtain⟨x,H7,I7,r7,y7,Vq,fr7⟩:=h7;have I7':=I7.pinned (Ht Ya fr7) (T.obj _ _ Vq);have g7:=pg _ s7 (om src σ) H7 x t _ I7' r7 (ag _ _ _ _ (step x H7 y7));rw[eA,Xu,K,ew,ND]at g7;refine gD g7 λ_ s8 h8 =>?_
   obtain⟨σ8,H8,I8,⟨l8,a8⟩,q8⟩:=h8;have t8:=pt _ s8 σ8 H8 _ I8 q8;rw[eA,Xu,K,ew,ND]at t8;refine gD t8 λok s9 h9 =>?_
   obtain⟨H9,I9,q9⟩:=h9;have weak:∀ {P':List (az×Obj)}{H':Hp}{s':aq},Inv P P' σ8 H' s'->Inv P P' (om src σ) H' s':=λJ=>J.weak l8.symm λj v hj=>by
    obtain⟨k,e1,_⟩:=E_ hj;have:j∉own:=λz=>by have:=ho j z;rw[e1]at this;cases this
    rw[a8 j this];exact hj
   cases ok with
   |false=>have q9:Nx ys H9:=q9;obtain⟨m',YE,w9⟩:=hN _ _ q9;refine⟨m',YE,i+1,ys,R,nn,H9,(weak I9).vo,r5,z5,T.keep _ _ _ Vq λb E o e=>(I9.pin (b,o) (aW _ (aW _ (oB E e)))).1,λb E =>?_,w9⟩;obtain⟨o,e,d⟩:=T.obj _ _ Vq b E;exact(I9.pin (b,o) (aW _ (aW _ (oB E e)))).2.1
   |true=>
    have q9:O σ8 H9 λv H4=>Nx (ys++[v]) H4:=q9
    have e9:=pe _ s9 σ8 H9 _ I9 q9;rw[eA,Xu,K,ew,ND]at e9;refine gD e9 λxv Zy h10 =>?_
    obtain⟨y,UU,I10,r10,q10⟩:=h10;have J10:Inv P (X.pn++F++xa fp s7.heap++[(A.heap.objs.size,lobj R nn)]) σ8 UU Zy:=I10.yW λp hp=>by
     refine I10.pin p ?_;rw[TN,c6];rcases aP.mp hp with q|q
     ·rcases aP.mp q with q|q
      ·exact bt _ (bt _ q)
      ·exact aW _ q
     ·exact bt _ (aW _ q)
    have nD:∀p∈P.pn++(X.pn++F++xa fp s7.heap),p.1≠A.heap.objs.size:=λp hp=>by
     rw[TN,c6]at hp;rcases aP.mp hp with q|q
     ·exact ZT p (by rw[TN,c6];exact q)
     ·exact fpD _ (Cq q).1
    have YS:UU A.heap.objs.size=none:=(J10.pin (A.heap.objs.size,lobj R nn) (by simp)).2.1;have T10:=J10.IK r5 z5 (by rw[Xv];exact aM _) nD;have ap:=p6 (X:=P) _ Zy σ8 _ (.ref A.heap.objs.size) [y] (.ref A.heap.objs.size) [xv] (λv H'=>v=.eJ/\H'=eN (eN UU A.heap.objs.size (.lst ys)) A.heap.objs.size (.lst (ys++[y]))) T10 rfl (.cons r10 .nil) ⟨_,ys,y,rfl,rfl,bM,lt5,rfl,rfl⟩;rw[eA,Xu,K,ew]at ap;refine gD ap λ_ Zx YT =>?_
    obtain⟨v11,H11,I11,_,_,e11⟩:=YT;subst e11;rw[OF]at I11;obtain⟨its',ZE,r11,z11,Ze⟩:=I11.C3 YS hDC hDF;obtain⟨m',YE,w11⟩:=hN _ _ q10;have I13:Inv P (X.pn++F++[(A.heap.objs.size,lobj its' ZE)]) (om src σ) UU Zx:=(weak Ze).yW λp hp=>by
     refine Ze.pin p ?_;rw[TN,c6];rcases aP.mp hp with q|q
     ·exact bt _ (bt _ q)
     ·exact aW _ q
    have VI:∀b∈fp,∀o,s7.heap.get? b=Y o->Zx.heap.get? b=Y o/\UU b=none:=λb E o e=>by have:=Ze.pin (b,o) (by rw[TN,c6];exact bt _ (aW _ (oB E e)));exact⟨this.1,this.2.1⟩
    refine⟨m',YE,i+1,ys++[y],its',ZE,UU,I13,r11,z11,T.keep _ _ _ Vq λb E o e=>(VI b E o e).1,λb E =>?_,w11⟩;obtain⟨o,e,d⟩:=T.obj _ _ Vq b E;exact(VI b E o e).2
 have st4:tn 0 h4:=T.keep _ _ _ Vr λb _ o e=>Yn b o e
 exact codeAny_compStart_list W8 (T.self _ 0 _ _ _ st4 W8)
end
section
variable {X:Cx}{N:List aG}{f:List (Option Nat)}{c:Scope}{r l t:Expr}{u:List Expr}{w:TI}{g:TG}{j:TT}{k:TE}{A:Pos}{B:List Nat}
theorem GG{s:aq}(S:gM X N f c)(I:Inv X a b H s):closureFor c X.env=fm (mh X.env.cells c.names []):=
 BU λy d e=>I.ok.has y.1 (S.free y d e)
theorem MB(S:gM X N f c)(P:X.calm=Z')(O:PI X r l w)(ag:QH B g)(K:∀i∈B,f[i]?=Y M)(p:∀C s H v,PG (X.wq N c C s H v) r g/\Iy (X.wq N c C s H v) u j/\PE (X.wq N c C s H v) t k)(G:∀x,dM l X.env x=fm x:=by intro _;rfl):PE X (.ListComp t [⟨r,l,u,0⟩] c A) (RN w f g j k):=by
 intro a s z H Q I h;rw[eval_ListComp];refine wpAny_comprehension_free (use:=M) rfl G (GG S I) S.kind (λx F V=>by rw[S.uniq x F,V]) ?_;refine CP (RR:=λy C=>compPost (bB X.prog X.w) X.A X.xe M (EP X a z Q) y C) S P O ag K p I h ?_;intro D C E H' J n L R h1 U T q;obtain⟨m,n⟩:=n;exact⟨m,n,λh' d=>⟨.ref D,H',J.turned (h':=h') (t':=E.toks) (λb o p e=>d.extBut b o p e) L R h1 U T,rfl,q⟩⟩
theorem Fy{n F:Pos}(S:gM X N f c)(hc:X.calm=Z')(hN:X.N.Nodup)(hy:X.N[i]?=Y y)(K:X.env.scope.names.lookup y=Y .local)(hi:PI X r l w)(ag:QH B g)(ho:∀i∈B,f[i]?=Y M)(Q:∀C s H T,PG (X.wq N c C s H T) r g/\Iy (X.wq N c C s H T) u j/\PE (X.wq N c C s H T) t k)(V:c5 (.ListComp t [⟨r,l,u,0⟩] c A) (Y (.Name y F)) n.line X.env=fm Z')(hs:∀x,dM l X.env x=fm x:=by intro _;rfl):
  PS X (.Assign [.Name y F] (.ListComp t [⟨r,l,u,0⟩] c A) n) (RQ (RN w f g j k) (rd i)):=by
 intro p s σ H D I h;have h:RN w f g j k σ H λv H1=>D.nx (σ.set i (Y v)) H1:=h
 rw[exec_Assign_Name_used _ _ _ _ V];refine aD (wpAny_standAt (aD ?_));show bE _ X.A (do let _ <- comprehension (.ListComp t [⟨r,l,u,0⟩] c A) c X.env _ (newList []) Z_ (eval l X.env) (Y (Oh (.Name y F) X.env))) _ _ s;refine aD (il (wpAny_comprehension_free (use:=Y (Oh (.Name y F) X.env)) (Q:=λ_ E=>SP X p D .next E) rfl hs (GG S I) S.kind (λx hx K=>by rw[S.uniq x hx,K])
  (CP (RR:=λU C=>compPost (bB X.prog X.w) X.A X.xe (Y (Oh (.Name y F) X.env)) (λ_ E=>SP X p D .next E) U C) S hc hi ag ho Q I h ?_))
  (λ_ E hq=>bG (bG hq)) λ_ _ e=>e)
 intro d C E H' J P hn hL h1 h2 h3 q;obtain⟨m,P⟩:=P;refine wpAny_assign_Name (Ca J hN hy (.inl K) (v :=.ref d) rfl (λL J' G =>?_) (.inr K));obtain⟨a,sb,ha⟩:=G;have R:C≠a:=by
  rcases ha with z|z
  ·rw[z];exact hL
  ·exact λe=>h2 _ _ z e.symm
 exact⟨m,P.sameBut sb R,λh' O=>⟨_,H',J'.turned (h':=h') (t':=L.toks) (λb o Q e=>O.extBut b o Q e) hn hL h1 h2 h3,q⟩⟩
end
inductive Sk where
 |lf
 |li (s:Sk)
 |fs (c:aG) (fk:List (aG×Sk))
 |di
inductive Pt where
 |fld (f:aG)
 |ix (k:Nat)
abbrev xQ:=List Pt
inductive D where
 |eJ|bl (b:Bool)|int (i:Int)|str (x:aG)|lst (xs:List D)|tup (xs:List D)|ku (ns:List Int)
 |ins (c:aG) (ks:List aG) (ds:List D)
 |ig (ks:List iY) (ds:List D)
 |obj (s:Sk) (t:D)
 |eH (r:Nat) (p:xQ)
mutual
def dg(K:bb)(G:Hp):D->V->Prop
 |.eJ,v=>v=.eJ|.bl b,v=>v=.bl b|.int i,v=>v=.int i|.str x,v=>v=.str x|.lst e,v=>∃a d,v=.ref a/\G a=Y (.lst d)/\bx K G e d|.tup e,v=>∃a d,v=.ref a/\G a=Y (.tup d)/\bx K G e d|.ku g,v=>∃a,v=.ref a/\n9 K G a (g.map V.int)|.ins c f e,v=>∃a C h d,v=.ref a/\o8 K ba c=Y (Y (.ref C))/\G a=Y (.ins C h (f.zip d))/\f.length=e.length/\bx K G e d
 |.ig f e,v=>∃a d,v=.ref a/\G a=Y (.dK (f.zip d))/\f.length=e.length/\bx K G e d|.obj _ t,v=>dg K G t v|.eH _ _,v=>∃a,v=.ref a
def bx(K:bb)(G:Hp):List D->List V->Prop
 |[],a=>a=[]|d::b,a=>∃v r,a=v::r/\dg K G d v/\bx K G b r
end
mutual
theorem dg.mono{K:bb}{G G':Hp}(s:bF G G'):∀(d:D){v:V},dg K G d v->dg K G' d v
 |.eJ,v,h=>by simpa only [dg] using h
 |.bl _,v,h=>by simpa only [dg] using h
 |.int _,v,h=>by simpa only [dg] using h
 |.str _,v,h=>by simpa only [dg] using h
 |.lst f,v,h=>by simp only[dg]at h ⊢;obtain⟨a,b,e,q,r⟩:=h;exact⟨a,b,e,s _ _ q,bx.mono s f r⟩
 |.tup f,v,h=>by simp only[dg]at h ⊢;obtain⟨a,b,e,q,r⟩:=h;exact⟨a,b,e,s _ _ q,bx.mono s f r⟩
 |.ku j,v,h=>by simp only[dg]at h ⊢;obtain⟨a,e,q⟩:=h;exact⟨a,e,s.seq q⟩
 |.ins c g f,v,h=>by simp only[dg]at h ⊢;obtain⟨a,C,i,b,e,n,q,l,r⟩:=h;exact⟨a,C,i,b,e,n,s _ _ q,l,bx.mono s f r⟩
 |.ig g f,v,h=>by simp only[dg]at h ⊢;obtain⟨a,b,e,q,l,r⟩:=h;exact⟨a,b,e,s _ _ q,l,bx.mono s f r⟩
 |.obj _ t,v,h=>by simp only[dg]at h ⊢;exact dg.mono s t h
 |.eH _ _,v,h=>by simpa only [dg] using h
theorem bx.mono{K:bb}{G G':Hp}(s:bF G G'):∀(b:List D){a:List V},bx K G b a->bx K G' b a
 |[],a,h=>by simpa only [bx] using h
 |d::b,a,h=>by simp only[bx]at h ⊢;obtain⟨v,r,e,q,t⟩:=h;exact⟨v,r,e,dg.mono s d q,bx.mono s b t⟩
end
section
variable {K:bb}{G:Hp}
theorem iu{v:V}:dg K G .eJ v↔v=.eJ:=by simp only[dg]
theorem dt{v:V}:dg K G (.bl b) v↔v=.bl b:=by simp only[dg]
theorem cg{v:V}:dg K G (.int i) v↔v=.int i:=by simp only[dg]
theorem i9{v:V}:dg K G (.str x) v↔v=.str x:=by simp only[dg]
theorem dJ{v:V}:dg K G (.lst c) v↔∃a b,v=.ref a/\G a=Y (.lst b)/\bx K G c b:=by simp only[dg]
theorem fQ{v:V}:dg K G (.tup c) v↔∃a b,v=.ref a/\G a=Y (.tup b)/\bx K G c b:=by simp only[dg]
theorem IV{b:List Int}{v:V}:dg K G (.ku b) v↔∃a,v=.ref a/\n9 K G a (b.map V.int):=by simp only[dg]
theorem qy{b:List aG}{d:List D}{v:V}:dg K G (.ins c b d) v↔∃a C f e,v=.ref a/\o8 K ba c=Y (Y (.ref C))/\G a=Y (.ins C f (b.zip e))/\b.length=d.length/\bx K G d e:=by simp only[dg]
theorem yV{b:List iY}{c:List D}{v:V}:dg K G (.ig b c) v↔∃a d,v=.ref a/\G a=Y (.dK (b.zip d))/\b.length=c.length/\bx K G c d:=by simp only[dg]
theorem qx{s:Sk}{v:V}:dg K G (.obj s t) v↔dg K G t v:=by simp only[dg]
theorem sU{v:V}:dg K G (.eH r p) v↔∃a,v=.ref a:=by simp only[dg]
theorem dz:bx K G [] a↔a=[]:=by simp only[bx]
theorem bJ:bx K G (d::b) a↔∃v r,a=v::r/\dg K G d v/\bx K G b r:=by simp only[bx]
theorem bx.cons{d:D}{v:V}(h:dg K G d v)(t:bx K G b a):bx K G (d::b) (v::a):=bJ.mpr ⟨v,a,rfl,h,t⟩
theorem bx.nil:bx K G [] []:=dz.mpr rfl
theorem bx.length:∀ {ds:List D}{a:List V},bx K G ds a->ds.length=a.length
 |[],a,h=>by rw[dz.mp h];rfl
 |d::ds,a,h=>by obtain⟨v,r,rfl,_,t⟩:=bJ.mp h;simp[bx.length t]
theorem bx.get:∀ {b:List D}{a:List V}{i:Nat}{d:D},bx K G b a->b[i]?=Y d->∃v,a[i]?=Y v/\dg K G d v
 |[],a,i,d,h,e=>by simp at e
 |c::b,a,0,d,h,e=>by obtain⟨v,r,rfl,q,t⟩:=bJ.mp h;simp at e;subst e;exact⟨v,rfl,q⟩
 |c::b,a,i+1,d,h,e=>by obtain⟨v,r,rfl,q,t⟩:=bJ.mp h;obtain⟨u,g,f⟩:=bx.get (i:=i) t (by simpa using e);exact⟨u,by simpa using g,f⟩
theorem bx.append:∀ {e c:List D}{a b:List V},bx K G e a->bx K G c b->bx K G (e++c) (a++b)
 |[],c,a,b,h,k=>by rw[dz.mp h];exact k
 |d::e,c,a,b,h,k=>by obtain⟨v,r,rfl,q,t⟩:=bJ.mp h;exact .cons q (bx.append t k)
theorem bx.take:∀ {b:List D}{a:List V}(n:Nat),bx K G b a->bx K G (b.take n) (a.take n)
 |[],a,n,h=>by rw[dz.mp h];simp;exact .nil
 |d::b,a,0,h=>by simp;exact .nil
 |d::b,a,n+1,h=>by obtain⟨v,r,rfl,q,t⟩:=bJ.mp h;exact .cons q (bx.take n t)
theorem bx.drop:∀ {ds:List D}{a:List V}(n:Nat),bx K G ds a->bx K G (ds.drop n) (a.drop n)
 |[],a,n,h=>by rw[dz.mp h];simp;exact .nil
 |d::ds,a,0,h=>by simpa using h
 |d::ds,a,n+1,h=>by obtain⟨v,r,rfl,q,t⟩:=bJ.mp h;exact bx.drop n t
theorem bx.set:∀ {b:List D}{a:List V}{d:D}{v:V}(n:Nat),bx K G b a->dg K G d v->bx K G (b.set n d) (a.set n v)
 |[],a,d,v,n,h,q=>by rw[dz.mp h];simp;exact .nil
 |c::b,a,d,v,0,h,q=>by obtain⟨u,r,rfl,_,t⟩:=bJ.mp h;exact .cons q t
 |c::b,a,d,v,n+1,h,q=>by obtain⟨u,r,rfl,p,t⟩:=bJ.mp h;exact .cons p (bx.set n t q)
theorem bx.dropLast{b:List D}{a:List V}(h:bx K G b a):bx K G b.dropLast a.dropLast:=by
 rw[Rx,Rx,h.length];exact h.take _
theorem bx.rep(h:bx K G b a):∀k:Nat,bx K G (bL k b).flatten (bL k a).flatten
 |0 =>.nil|k+1=>by rw[g8,g8,kU,kU];exact h.append (bx.rep h k)
theorem bx.ints:∀(a:List Int),bx K G (a.map D.int) (a.map V.int)
 |[] =>.nil|n::a =>.cons (cg.mpr rfl) (bx.ints a)
end
structure gO(G H G' H':Hp):Prop where
 hh:bF H H'
 gg:bF G G'
 gh:bF G' H'
 fr:∀b o,G' b=some o->G b=some o∨H b=none
theorem gO.refl{G:Hp}(s:bF G H):gO G H G H:=⟨bF.refl _,bF.refl _,s,λ_ _ e =>.inl e⟩
theorem gO.trans{G f:Hp}(a:gO G H h f)(b:gO h f g d):gO G H g d:=
 ⟨a.hh.trans b.hh,a.gg.trans b.gg,b.gh,λc o e=>by
  rcases b.fr c o e with q|q
  ·exact a.fr c o q
  ·exact .inr (a.hh.free q)⟩
theorem bF.alloc{p:az}{o:HO}(h:H p=M):bF H (eN H p o):=λb u e=>by rw[bz (bW e h)];exact e
theorem bF.both{G:Hp}(s:bF G H):bF (eN G p o) (eN H p o):=λb u e=>by
 by_cases a:b=p
 ·subst a;rw[bM]at e ⊢;exact e
 ·rw[bz a]at e ⊢;exact s _ _ e
theorem gO.alloc{G:Hp}{p:az}{o:HO}(s:bF G H)(h:H p=M):gO G H (eN G p o) (eN H p o):=
 ⟨.alloc h,.alloc (s.free h),s.both,λb u e=>by
  by_cases a:b=p
  ·subst a;exact .inr h
  ·rw[bz a]at e;exact .inl e⟩
theorem gO.lay{G:Hp}{p:az}{o:HO}(s:bF G H)(h:H p=M):gO G H G (eN H p o):=
 ⟨.alloc h,bF.refl _,s.trans (.alloc h),λ_ _ e =>.inl e⟩
theorem gO.freeze{G G':Hp}(E:gO G H G' c)(h:H p=M)(g:G' p=M)(e:c p=Y o):gO G H (eN G' p o) c:=
 ⟨E.hh,E.gg.trans (.alloc g),λb u q=>by
  by_cases a:b=p
  ·subst a;rw[bM]at q;cases q;exact e
  ·rw[bz a]at q;exact E.gh _ _ q,λb u q=>by
  by_cases a:b=p
  ·subst a;exact .inr h
  ·rw[bz a]at q;exact E.fr _ _ q⟩
def jF(K:bb)(G:Hp):D->HO->Prop
 |.lst b,o=>∃a,o=.lst a/\bx K G b a|.ins c d b,o=>∃C e a,o=.ins C e (d.zip a)/\o8 K ba c=Y (Y (.ref C))/\d.length=b.length/\bx K G b a|.ig d b,o=>∃a,o=.dK (d.zip a)/\d.length=b.length/\bx K G b a|_,_=>False
section
variable {K:bb}{G G':Hp}
theorem jF.mono(s:bF G G'){d:D}(h:jF K G d o):jF K G' d o:=by
 cases d with
 |lst b=>obtain⟨a,e,r⟩:=h;exact⟨a,e,bx.mono s b r⟩
 |ins c f b=>obtain⟨C,g,a,e,n,l,r⟩:=h;exact⟨C,g,a,e,n,l,bx.mono s b r⟩
 |ig f b=>obtain⟨a,e,l,r⟩:=h;exact⟨a,e,l,bx.mono s b r⟩
 |_=>exact h.elim
theorem jF.rep{d:D}(h:jF K G d o)(e:G a=Y o):dg K G d (.ref a):=by
 cases d with
 |lst f=>obtain⟨b,rfl,r⟩:=h;exact dJ.mpr ⟨a,b,rfl,e,r⟩
 |ins c g f=>obtain⟨C,i,b,rfl,n,l,r⟩:=h;exact qy.mpr ⟨a,C,i,b,rfl,n,e,l,r⟩
 |ig g f=>obtain⟨b,rfl,l,r⟩:=h;exact yV.mpr ⟨a,b,rfl,e,l,r⟩
 |_=>exact h.elim
end
end L2
namespace L2
open PySem
noncomputable def du(a:List (aG×Sk))(k:aG):Sk:=(a.lookup k).getD .lf
mutual
inductive cT (K:bb) (G H:Hp):Sk->D->V->List az->Prop
 |leaf {d:D}{v:V}:dg K G d v->cT K G H .lf d v []
 |lst {s:Sk}{ds:List D}{a:az}{vs:List V}{S:List az}:H a=some (.lst vs)->dW K G H (bL ds.length s) ds vs S->cT K G H (.li s) (.lst ds) (.ref a) (a::S)
 | ins {c:aG}{ks:List aG}{fk:List (aG×Sk)}{ds:List D}{a C dx:az}{vs:List V}{S:List az}:o8 K ba c=some (some (.ref C))->H a=some (.ins C dx (ks.zip vs))->ks.length=ds.length ->
   dW K G H (ks.map (du fk)) ds vs S->cT K G H (.fs c fk) (.ins c ks ds) (.ref a) (a::S)
 |ig {ks:List iY}{ds:List D}{a:az}{vs:List V}:H a=some (.dK (ks.zip vs))->ks.length=ds.length->bx K G ds vs->cT K G H .di (.ig ks ds) (.ref a) [a]
inductive dW (K:bb) (G H:Hp):List Sk->List D->List V->List az->Prop
 |nil:dW K G H [] [] [] []
 |cons {s:Sk}{ss:List Sk}{d:D}{ds:List D}{v:V}{vs:List V}{S T:List az}:cT K G H s d v S->dW K G H ss ds vs T->dW K G H (s::ss) (d::ds) (v::vs) (S++T)
end
section
variable {K:bb}{G H f i:Hp}
mutual
theorem cT.mono{d:D}{v:V}{S:List az}(g:bF G f)(h:∀b∈S,∀o,H b=Y o->i b=Y o):cT K G H c d v S->cT K f i c d v S
 |.leaf r =>.leaf (dg.mono g d r)|.lst e t =>.lst (h _ ay _ e) (dW.mono g (λb a=>h b (av _ a)) t)
 |.ins n e l t =>.ins n (h _ ay _ e) l (dW.mono g (λb a=>h b (av _ a)) t)
 |.ig e l t =>.ig (h _ ay _ e) l (bx.mono g _ t)
theorem dW.mono{d:List V}{S:List az}(g:bF G f)(h:∀b∈S,∀o,H b=Y o->i b=Y o):dW K G H e j d S->dW K f i e j d S
 |.nil =>.nil|.cons a t =>.cons (cT.mono g (λb c=>h b (bt _ c)) a) (dW.mono g (λb c=>h b (aW _ c)) t)
end
def HF(H:Hp)(b:az):Prop:=∃o,H b=Y o/\∀a,o ≠ .tup a
mutual
theorem cT.here{v:V}{S:List az}:cT K G H g d v S->∀b∈S,HF H b
 |.leaf _=>λb a=>by cases a
 | .lst e t=>λb a=>by
  rcases aK.mp a with rfl|a
  ·exact⟨_,e,λc z=>by cases z⟩
  ·exact dW.here t b a
 | .ins n e l t=>λb a=>by
  rcases aK.mp a with rfl|a
  ·exact⟨_,e,λc z=>by cases z⟩
  ·exact dW.here t b a
 | .ig e l t=>λb a=>by
  rcases aK.mp a with rfl|a
  ·exact⟨_,e,λc z=>by cases z⟩
  ·cases a
theorem dW.here{S:List az}:dW K G H e g d S->∀b∈S,HF H b
 |.nil=>λb c=>by cases c
 | .cons a t=>λb c=>by
  rcases aP.mp c with c|c
  ·exact cT.here a b c
  ·exact dW.here t b c
end
theorem dW.length{ss:List Sk}{ds:List D}{a:List V}{S:List az}(h:dW K G H ss ds a S):ds.length=a.length/\ss.length=ds.length:=by
 induction ds generalizing ss a S with
 |nil=>cases h;exact⟨rfl,rfl⟩| cons d ds ih=>cases h with
  |cons _ t=>have:=ih t;simp[this.1,this.2]
noncomputable def kA(G H:Hp)(S:List az):Hp:=λb=>if b∈S then H b else G b
noncomputable def jT(G:Hp)(S:List az):Hp:=λb=>if b∈S then M else G b
theorem qz{S:List az}(h:b∈S):kA G H S b=H b:=by simp[kA,h]
theorem oz{S:List az}(h:b∉S):kA G H S b=G b:=by simp[kA,h]
theorem nM{S:List az}(h:b∈S):jT G S b=none:=by simp[jT,h]
theorem dn{S:List az}(h:b∉S):jT G S b=G b:=by simp[jT,h]
theorem pY{S:List az}(n:∀b∈S,G b=M):bF G (kA G H S):=λb o e=>by
 by_cases a:b∈S
 ·rw[n b a]at e;cases e
 ·rw[oz a];exact e
theorem n6{S:List az}(s:bF G H):bF (kA G H S) H:=λb o e=>by
 by_cases a:b∈S
 ·rw[qz a]at e;exact e
 ·rw[oz a]at e;exact s b o e
mutual
theorem cT.frozen{d:D}{v:V}{S:List az}(n:∀b∈T,G b=M)(a:∀b∈S,b∈T):cT K G H g d v S->dg K (kA G H T) d v
 |.leaf r=>dg.mono (pY n) d r|.lst e t=>dJ.mpr ⟨_,_,rfl,by rw[qz (a _ ay)];exact e,dW.frozen n (λb c=>a b (av _ c)) t⟩
 |.ins h e l t=>qy.mpr ⟨_,_,_,_,rfl,h,by rw[qz (a _ ay)];exact e,l,dW.frozen n (λb c=>a b (av _ c)) t⟩
 |.ig e l t=>yV.mpr ⟨_,_,rfl,by rw[qz (a _ ay)];exact e,l,bx.mono (pY n) _ t⟩
theorem dW.frozen{S:List az}(n:∀b∈T,G b=M)(c:∀b∈S,b∈T):dW K G H h g e S->bx K (kA G H T) g e
 |.nil=>dz.mpr rfl|.cons a t=>bJ.mpr ⟨_,_,rfl,cT.frozen n (λb d=>c b (bt _ d)) a,dW.frozen n (λb d=>c b (aW _ d)) t⟩
end
mutual
noncomputable def si:D->Bool
 |.eJ=>Z'|.bl _=>Z'|.int _=>Z'|.str _=>Z'|.lst _=>Z_|.tup a=>qB a|.ku _=>Z_|.ins _ _ _=>Z_|.ig _ _=>Z_|.obj _ _=>Z_|.eH _ _=>Z_
noncomputable def qB:List D->Bool
 |[]=>Z'|d::a=>si d&&qB a
end
mutual
theorem Fm{S:List az}(n:∀b∈S,∀c,G b≠Y (.tup c)):∀ {d:D}{v:V},si d=Z'->dg K G d v->dg K (jT G S) d v
 |.eJ,v,_,r=>by simpa only [dg] using r
 |.bl _,v,_,r=>by simpa only [dg] using r
 |.int _,v,_,r=>by simpa only [dg] using r
 |.str _,v,_,r=>by simpa only [dg] using r
 | .tup h,v,p,r=>by
  obtain⟨a,c,rfl,e,q⟩:=fQ.mp r;have g:a∉S:=λz=>n a z c e
  exact fQ.mpr ⟨a,c,rfl,by rw[dn g];exact e,w1 n (by simpa only [si] using p) q⟩
theorem w1{S:List az}(n:∀b∈S,∀a,G b≠Y (.tup a)):∀ {c:List D}{a:List V},qB c=Z'->bx K G c a->bx K (jT G S) c a
 |[],a,_,r=>by simpa only [bx] using r
 |d::c,a,p,r=>by obtain⟨v,t,rfl,g,e⟩:=bJ.mp r;simp only[qB,aH]at p;exact bJ.mpr ⟨v,t,rfl,Fm n p.1 g,w1 n p.2 e⟩
end
theorem AB{S:List az}(s:bF G H)(n:∀b∈S,G b=M)(o:∀b∈S,HF H b)(E:gO (kA G H S) H f i):gO G H (jT f S) i/\∀b∈S,∀c,f b≠Y (.tup c):=by
 refine⟨⟨E.hh,λb u e =>?_,λb u e =>?_,λb u e =>?_⟩,λb a c z =>?_⟩
 ·have a:b∉S:=λz=>by rw[n b z]at e;cases e
  rw[dn a];exact E.gg b u (by rw[oz a];exact e)
 ·by_cases a:b∈S
  ·rw[nM a]at e;cases e
  ·rw[dn a]at e;exact E.gh b u e
 ·by_cases a:b∈S
  ·rw[nM a]at e;cases e
  ·rw[dn a]at e;rcases E.fr b u e with q|q
   ·rw[oz a]at q;exact .inl q
   ·exact .inr q
 ·obtain⟨u,g,d⟩:=o b a;have:=E.gg b u (by rw[qz a];exact g);rw[z]at this;cases this;exact d c rfl
end
noncomputable def Bh(f:aG):List aG->Option Nat
 |[]=>M|k::ks=>if f==k then Y 0 else (Bh f ks).map (· + 1)
theorem Td{f:aG}:∀ {a:List aG}{n:Nat},Bh f a=Y n->n<a.length
 |[],n,h=>by cases h
 | k::a,n,h=>by
  unfold Bh at h;split at h
  ·cases h;simp
  ·obtain⟨m,e,h⟩:=aS.1 h;cases h;have:=Td e;simp;omega
theorem vV{f:aG}:∀ {a:List aG}{n:Nat},Bh f a=Y n->a[n]?=Y f
 |[],n,h=>by cases h
 | k::a,n,h=>by
  unfold Bh at h;split at h
  ·rename_i e;cases h;simp at e;subst e;rfl
  ·obtain⟨m,e,h⟩:=aS.1 h;cases h;simpa using vV e
theorem sY{f:aG}:∀ {a:List aG}{n:Nat}{xs:List b},Bh f a=Y n->(a.zip xs).lookup f=xs[n]?
 |[],n,xs,h=>by cases h
 |k::a,n,[],h=>by simp
 | k::a,n,x::xs,h=>by
  unfold Bh at h;simp only[cC,dC];cases e:(f==k) with
  |true=>rw[e]at h;simp at h;subst h;rfl|false=>
   rw[e]at h;simp only[dQ,if_false]at h;rcases e2:Bh f a with _|m
   ·rw[e2]at h;cases h
   rw[e2]at h;simp at h;subst h;simpa using sY (xs:=xs) e2
noncomputable def fJ:xQ->D->Option D
 |[],d=>Y d|.fld f::p,.ins _ b a=>(Bh f b).bind λn=>(a[n]?).bind (fJ p)
 |.ix k::p,.lst a=>(a[k]?).bind (fJ p)|_::_,_=>M
noncomputable def mU(x:D):xQ->D->D
 |[],_=>x|.fld f::p,.ins c b a=>match Bh f b with|none =>.ins c b a|some n=>match a[n]? with|none =>.ins c b a|some d =>.ins c b (a.set n (mU x p d))
 |.ix k::p,.lst a=>match a[k]? with|none =>.lst a|some d =>.lst (a.set k (mU x p d))
 |_::_,d=>d
noncomputable def mx:xQ->Sk->Option Sk
 |[],s=>Y s|.fld f::p,.fs _ a=>mx p (du a f)|.ix _::p,.li s=>mx p s|_::_,_=>M
noncomputable def gY(H:Hp):xQ->V->Option V
 |[],v=>Y v|.fld f::p,.ref a=>match H a with|some (.ins _ _ c)=>(c.lookup f).bind (gY H p)|_=>M
 |.ix k::p,.ref a=>match H a with|some (.lst b)=>(b[k]?).bind (gY H p)|_=>M
 |_::_,_=>M
section
variable {K:bb}{G H:Hp}
theorem dW.at{i:List Sk}{ds:List D}{vs:List V}{S:List az}(h:dW K G H i ds vs S):∀ {n:Nat}{s:Sk}{d:D},i[n]?=Y s->ds[n]?=Y d->∃v T U,vs[n]?=Y v/\cT K G H s d v T/\S.Perm (T++U) /\
  ∀(G' H':Hp) (j:Sk) (x:D) (u:V) (f:List az),bF G G'->(∀b∈U,∀o,H b=Y o->H' b=Y o)->cT K G' H' j x u f->∃S',dW K G' H' (i.set n j) (ds.set n x) (vs.set n u) S'/\S'.Perm (f++U):=by
 induction ds generalizing i vs S with
 |nil=>intro n s d _ e;simp at e
 |cons c ds ih=>
  intro n s d es e;cases h with
  |@cons C i _ _ v vs S1 p a t=>
   cases n with
   |zero=>simp at e es;subst e;subst es;refine⟨v,S1,p,rfl,a,.rfl,λG' H' j x u f g k l=>⟨f++p,?_,.rfl⟩⟩;exact .cons l (t.mono g k)
   |succ n=>
    simp at e es;obtain⟨w,T,U,B,z,r,A⟩:=ih t es e;refine⟨w,T,S1++U,by simpa using B,z,?_,λG' H' j x u f g k l =>?_⟩
    ·exact((r.append_left S1).trans (cJ S1 T U))
    ·obtain⟨S',y,q⟩:=A G' H' j x u f g (λb m=>k b (aW _ m)) l;refine⟨S1++S',.cons (a.mono g λb m=>k b (bt _ m)) y,?_⟩;exact(q.append_left S1).trans (cJ S1 f U)
theorem iD{a:Type}:∀ {l:List a}{n:Nat}{x:a},l[n]?=Y x->l.set n x=l
 |[],n,x,h=>by simp at h
 |y::l,0,x,h=>by simp at h;subst h;rfl
 |y::l,n+1,x,h=>by simp at h;simp[iD h]
theorem cT.focus:∀ {p:xQ}{P k:Sk}{d O:D}{v:V}{S:List az},cT K G H P d v S->mx p P=Y k->fJ p d=Y O->∃v' T U,gY H p v=Y v'/\cT K G H k O v' T/\S.Perm (T++U) /\
  ∀(J I:Hp) (x:D) (w:List az),bF G J->(∀b∈U,∀o,H b=Y o->I b=Y o)->cT K J I k x v' w->∃S',cT K J I P (mU x p d) v S'/\S'.Perm (w++U)
 |[],P,k,d,O,v,S,h,u,z=>by cases u;cases z;exact⟨v,S,[],rfl,h,by simp,λJ I x w g r ox=>⟨w,ox,by simp⟩⟩
 | .fld f::p,P,k,d,O,v,S,h,u,z=>by
  cases h with
  |@ins c ks fk L a C dx vs S n e l t=>
   have u:mx p (du fk f)=Y k:=u;have z:(Bh f ks).bind (λn=>(L[n]?).bind (fJ p))=Y O:=z;obtain⟨m,ei,z⟩:=ae.1 z;have A:(ks.map (du fk))[m]?=Y (du fk f):=by rw[aT,vV ei];rfl
   generalize du fk f=s1 at u A
   ·obtain⟨d1,B,z⟩:=ae.1 z;obtain⟨v1,T1,i,X,o1,p1,k1⟩:=t.at A B;obtain⟨Q,F,j,q2,o2,p2,k2⟩:=cT.focus o1 u z;have hv:gY H (.fld f::p) (.ref a)=Y Q:=by simp only[gY,e];rw[sY ei,X];exact q2
    refine⟨Q,F,j++(a::i),hv,o2,?_,λJ I y w g r oy =>?_⟩
    ·have:(a::S).Perm (a::(F++j++i)):=(p1.trans (p2.append_right i)).cons a;refine this.trans ?_;have q:(a::(F++j++i)).Perm ((F++j)++(a::i)):=by have:=cJ [a] (F++j) i;simpa using this
     exact q.trans (wQ (by simp))
    ·obtain⟨S1,o3,p3⟩:=k2 J I y w g (λb N=>r b (bt _ N)) oy;obtain⟨S2,R,p4⟩:=k1 J I s1 (mU y p d1) v1 S1 g (λb N=>r b (aW _ (av _ N))) o3;rw[iD A,iD X]at R;refine⟨a::S2,?_,?_⟩
     ·have E:mU y (.fld f::p) (.ins c ks L)=.ins c ks (L.set m (mU y p d1)):=by simp only[mU,ei,B]
      rw[E];exact .ins n (r a (aW _ ay) _ e) (by simpa using l) R
     ·have:(a::S2).Perm (a::(w++j++i)):=(p4.trans (p3.append_right i)).cons a;refine this.trans ?_;have q:(a::(w++j++i)).Perm ((w++j)++(a::i)):=by have:=cJ [a] (w++j) i;simpa using this
      exact q.trans (wQ (by simp))
  |_=>cases u
 | .ix m::p,P,k,d,O,v,S,h,u,z=>by
  cases h with
  |@lst s L a vs S e t=>
   have u:mx p s=Y k:=u;have z:(L[m]?).bind (fJ p)=Y O:=z;obtain⟨d1,B,z⟩:=ae.1 z;have hm:m<L.length:=(aj.mp B).1;have A:(bL L.length s)[m]?=Y s:=by simp[hm]
   obtain⟨v1,T1,i,X,o1,p1,k1⟩:=t.at A B;obtain⟨Q,F,j,q2,o2,p2,k2⟩:=cT.focus o1 u z;have hv:gY H (.ix m::p) (.ref a)=Y Q:=by simp only[gY,e];rw[X];exact q2
   refine⟨Q,F,j++(a::i),hv,o2,?_,λJ I y w g r oy =>?_⟩
   ·have:(a::S).Perm (a::(F++j++i)):=(p1.trans (p2.append_right i)).cons a;refine this.trans ?_;have q:(a::(F++j++i)).Perm ((F++j)++(a::i)):=by have:=cJ [a] (F++j) i;simpa using this
    exact q.trans (wQ (by simp))
   ·obtain⟨S1,o3,p3⟩:=k2 J I y w g (λb N=>r b (bt _ N)) oy;obtain⟨S2,R,p4⟩:=k1 J I s (mU y p d1) v1 S1 g (λb N=>r b (aW _ (av _ N))) o3;rw[iD A,iD X]at R;refine⟨a::S2,?_,?_⟩
    ·have E:mU y (.ix m::p) (.lst L)=.lst (L.set m (mU y p d1)):=by simp only[mU,B]
     rw[E];exact .lst (r a (aW _ ay) _ e) (by rw[qk];exact R)
    ·have:(a::S2).Perm (a::(w++j++i)):=(p4.trans (p3.append_right i)).cons a;refine this.trans ?_;have q:(a::(w++j++i)).Perm ((w++j)++(a::i)):=by have:=cJ [a] (w++j) i;simpa using this
     exact q.trans (wQ (by simp))
  |_=>cases u
end
section
variable {K:bb}{G G' H H':Hp}
theorem j4(s:bF H H'):∀ {p:xQ}{v b:V},gY H p v=Y b->gY H' p v=Y b
 |[],v,b,h=>h| .fld f::p,.ref a,b,h=>by
  simp only[gY]at h ⊢;rcases e:H a with _|o
  ·rw[e]at h;cases h
  rw[e]at h;rw[s _ _ e];cases o<;>simp only at h ⊢<;>try (cases h;done)
  rename_i C g d;rcases e2:d.lookup f with _|u
  ·rw[e2]at h;cases h
  rw[e2]at h;exact j4 s (p:=p) h
 | .ix k::p,.ref a,b,h=>by
  simp only[gY]at h ⊢;rcases e:H a with _|o
  ·rw[e]at h;cases h
  rw[e]at h;rw[s _ _ e];cases o<;>simp only at h ⊢<;>try (cases h;done)
  rename_i c;rcases e2:c[k]? with _|u
  ·rw[e2]at h;cases h
  rw[e2]at h;exact j4 s (p:=p) h
 |.fld f::p,.eJ,b,h=>by cases h
 |.fld f::p,.bl _,b,h=>by cases h
 |.fld f::p,.int _,b,h=>by cases h
 |.fld f::p,.str _,b,h=>by cases h
 |.fld f::p,.Ov _,b,h=>by cases h
 |.fld f::p,.Rm _,b,h=>by cases h
 |.fld f::p,.ty _,b,h=>by cases h
 |.ix f::p,.eJ,b,h=>by cases h
 |.ix f::p,.bl _,b,h=>by cases h
 |.ix f::p,.int _,b,h=>by cases h
 |.ix f::p,.str _,b,h=>by cases h
 |.ix f::p,.Ov _,b,h=>by cases h
 |.ix f::p,.Rm _,b,h=>by cases h
 |.ix f::p,.ty _,b,h=>by cases h
theorem zF(s:bF G H):∀ {p:xQ}{d g:D}{v:V},dg K G d v->fJ p d=Y g->∃y,gY H p v=Y y/\dg K G g y
 |[],d,g,v,r,e=>by cases e;exact⟨v,rfl,r⟩
 | .fld f::p,d,g,v,r,e=>by
  cases d with
  |ins c A x=>obtain⟨a,C,F,z,rfl,n,j,l,i⟩:=qy.mp r;have e:(Bh f A).bind (λn=>(x[n]?).bind (fJ p))=Y g:=e;obtain⟨m,B,e⟩:=ae.1 e;obtain⟨E,t,e⟩:=ae.1 e;obtain⟨u,q,h⟩:=i.get t;obtain⟨w,o,b⟩:=zF s (p:=p) h e;refine⟨w,?_,b⟩;simp only[gY,s _ _ j];rw[sY B,q];exact o
  |_=>cases e
 | .ix k::p,d,g,v,r,e=>by
  cases d with
  |lst x=>obtain⟨a,z,rfl,j,i⟩:=dJ.mp r;have e:(x[k]?).bind (fJ p)=Y g:=e;obtain⟨E,t,e⟩:=ae.1 e;obtain⟨u,q,h⟩:=i.get t;obtain⟨w,o,b⟩:=zF s (p:=p) h e;refine⟨w,?_,b⟩;simp only[gY,s _ _ j];rw[q];exact o
  |_=>cases e
theorem zd{f:aG}:∀ {ks:List aG}{vs:List V}{u:V},(ks.zip vs).lookup f=Y u->∃m,Bh f ks=Y m/\vs[m]?=Y u
 |[],vs,u,h=>by simp at h
 |k::ks,[],u,h=>by simp at h
 | k::ks,v::vs,u,h=>by
  simp only[cC,dC]at h;cases e:(f==k) with
  |true=>rw[e]at h;cases h;exact⟨0,by simp[Bh,e],rfl⟩
  |false=>rw[e]at h;obtain⟨m,b,a⟩:=zd (ks:=ks) (vs:=vs) h;exact⟨m+1,by simp[Bh,e,b],by simpa using a⟩
theorem cT.D2:∀ {p:xQ}{y i:Sk}{d:D}{v x:V}{S:List az},cT K G H y d v S->mx p y=Y i->(∀b∈S,∀o,H b=Y o->H' b=Y o)->gY H p v=Y x->gY H' p v=Y x
 |[],y,i,d,v,x,S,h,g,k,e=>e| .fld f::p,y,i,d,v,x,S,h,g,k,e=>by
  cases h with
  |@ins c N r E a C X F S n z l t=>
   have g:mx p (du r f)=Y i:=g;simp only[gY,z]at e;simp only[gY,k a ay _ z];rcases j:(N.zip F).lookup f with _|u
   ·rw[j]at e;cases e
   rw[j]at e;simp only[aa]at e ⊢;obtain⟨m,R,O⟩:=zd j;have w:(N.map (du r))[m]?=Y (du r f):=by rw[aT,vV R];rfl
   have B:m<E.length:=by rw[t.length.1];exact(aj.mp O).1
   obtain⟨P,U,T,A,J,I,Q⟩:=t.at w (aU B);rw[O]at A;cases A;exact cT.D2 J g (λb L o q=>k b (av _ (I.symm.subset (bt _ L))) o q) e
  |_=>cases g
 | .ix m::p,y,i,d,v,x,S,h,g,k,e=>by
  cases h with
  |@lst s E a F S z t=>
   have g:mx p s=Y i:=g;simp only[gY,z]at e;simp only[gY,k a ay _ z];rcases j:F[m]? with _|u
   ·rw[j]at e;cases e
   rw[j]at e;simp only[aa]at e ⊢;have B:m<E.length:=by rw[t.length.1];exact(aj.mp j).1
   have w:(bL E.length s)[m]?=Y s:=by simp[B]
   obtain⟨P,U,T,A,J,I,Q⟩:=t.at w (aU B);rw[j]at A;cases A;exact cT.D2 J g (λb L o q=>k b (av _ (I.symm.subset (bt _ L))) o q) e
  |_=>cases g
noncomputable def BP:xQ->List aG
 |[]=>[]|.fld f::p=>f::BP p|.ix _::p=>BP p
theorem v8{s m:List (aG×V)}(j:H x=Y (.ins C A s))(i:H' x=Y (.ins B t m))(l:∀b,b≠x->∀o,H b=Y o->H' b=Y o):∀ {p:xQ}{v d:V},(∀g∈BP p,m.lookup g=s.lookup g)->gY H p v=Y d->gY H' p v=Y d
 |[],v,d,c,h=>h| .fld g::p,.ref a,d,c,h=>by
  simp only[gY]at h ⊢;by_cases n:a=x
  ·subst n;rw[j]at h;rw[i];simp only at h ⊢;rw[c g (by simp[BP])];rcases e2:s.lookup g with _|u
   ·rw[e2]at h;cases h
   rw[e2]at h;exact v8 j i l (p:=p) (λg q=>c g (by simp[BP,q])) h
  ·rcases e:H a with _|o
   ·rw[e]at h;cases h
   rw[e]at h;rw[l a n _ e];cases o<;>simp only at h ⊢<;>try (cases h;done)
   rename_i D y r;rcases e2:r.lookup g with _|u
   ·rw[e2]at h;cases h
   rw[e2]at h;exact v8 j i l (p:=p) (λg q=>c g (by simp[BP,q])) h
 | .ix k::p,.ref a,d,c,h=>by
  simp only[gY]at h ⊢;rcases e:H a with _|o
  ·rw[e]at h;cases h
  rw[e]at h;cases o<;>simp only at h<;>try (cases h;done)
  rename_i w;have n:a≠x:=λz=>by subst z;rw[j]at e;cases e
  rw[l a n _ e];simp only;rcases e2:w[k]? with _|u
  ·rw[e2]at h;cases h
  rw[e2]at h;exact v8 j i l (p:=p) c h
 |.fld f::p,.eJ,d,c,h=>by cases h
 |.fld f::p,.bl _,d,c,h=>by cases h
 |.fld f::p,.int _,d,c,h=>by cases h
 |.fld f::p,.str _,d,c,h=>by cases h
 |.fld f::p,.Ov _,d,c,h=>by cases h
 |.fld f::p,.Rm _,d,c,h=>by cases h
 |.fld f::p,.ty _,d,c,h=>by cases h
 |.ix f::p,.eJ,d,c,h=>by cases h
 |.ix f::p,.bl _,d,c,h=>by cases h
 |.ix f::p,.int _,d,c,h=>by cases h
 |.ix f::p,.str _,d,c,h=>by cases h
 |.ix f::p,.Ov _,d,c,h=>by cases h
 |.ix f::p,.Rm _,d,c,h=>by cases h
 |.ix f::p,.ty _,d,c,h=>by cases h
theorem cT.root{s:Sk}{v:V}{S:List az}(h:cT K G H s t v S)(b:s ≠ .lf):∃a o,v=.ref a/\H a=Y o/\a∈S:=by
 cases h with|leaf r=>exact absurd rfl b|lst e t=>exact⟨_,_,rfl,e,ay⟩|ins n e l t=>exact⟨_,_,rfl,e,ay⟩|ig e l t=>exact⟨_,_,rfl,e,ay⟩
end
noncomputable def jj(f:aG)(d:D):List aG->List D->List aG×List D
 |k::a,x::b=>if k=f then (k::a,d::b) else (k::(jj f d a b).1,x::(jj f d a b).2)
 |_,_=>([f],[d])
section
variable {K:bb}{G G' H H':Hp}
theorem Fx{f:aG}{v:V}{m:List az}(s:cT K G H (du j f) d v m):∀ {b:List aG}{c:List D}{i:List V}{S:List az},b.length=c.length->dW K G H (b.map (du j)) c i S ->
  ∃g o R,lN f v (b.zip i)=(jj f d b c).1.zip g/\(jj f d b c).1.length=(jj f d b c).2.length/\dW K G H ((jj f d b c).1.map (du j)) (jj f d b c).2 g o/\o.Perm (m++R)/\R.Sublist S
 |[],[],i,S,h,r=>by cases r;exact⟨[v],m++[],[],rfl,rfl,.cons s .nil,.rfl,.slnil⟩
 |[],x::c,i,S,h,r=>by simp at h
 |k::b,[],i,S,h,r=>by simp at h
 | k::b,x::c,i,S,h,r=>by
  have r:dW K G H (du j k::b.map (du j)) (x::c) i S:=r;cases r with
  |@cons _ _ _ _ u n T U a t=>
   simp only[aO,Oi]at h;unfold jj;rw[cC,show lN f v ((k,u)::b.zip n)=(if k=f then (k,v)::b.zip n else (k,u)::lN f v (b.zip n)) from rfl];by_cases w:k=f
   ·subst w;rw[if_pos rfl,if_pos rfl];exact⟨v::n,m++U,U,rfl,by simp[h],.cons s t,.rfl,List.sublist_append_right T U⟩
   ·rw[if_neg w,if_neg w];obtain⟨g,o,R,e,l,q,p,z⟩:=Fx s h t;exact⟨u::g,T++o,T++R,by rw[cC,e],by simp[l],.cons a q,(p.append_left T).trans (cJ T m R),z.append_left T⟩
theorem cT.put{p:xQ}{s:Sk}{v:V}{T S1:List az}{f:aG}{j:List aG}{A:List D}{d:D}{u:V}(h:cT K G H s t v T)(nd:T.Nodup)(es:mx p s=Y (.fs c L))(ep:fJ p t=Y (.ins c j A))(g:bF G G')(k:∀b∈T,∀o,H b=Y o->B b=Y o)(ov:cT K G' B (du L f) d u S1)(X:S1.Nodup)(dj:∀b∈S1,b∉T):
  ∃x C y r,gY H p v=Y (.ref x)/\x∈T/\o8 K ba c=Y (Y (.ref C))/\H x=Y (.ins C y (j.zip r))/\j.length=A.length/\j.length=r.length /\
   ∃F,cT K G' (eN B x (.ins C y (lN f u (j.zip r)))) s (mU (.ins c (jj f d j A).1 (jj f d j A).2) p t) v F/\F.Nodup/\∀b∈F,b∈T∨b∈S1:=by
 obtain⟨v',T1,U,e1,o1,E,k1⟩:=h.focus es ep;cases o1 with
 |@ins _ _ _ _ x C y r J n ex l tt=>
  have m:(x::J++U).Nodup:=E.nodup_iff.mp nd;have hxS:x∉J:=λz=>by simp at m;exact m.1.1 z
  have hxU:x∉U:=λz=>by simp at m;exact m.1.2 z
  have O:x∈T:=E.symm.subset (by simp);have I:∀b∈J,b∈T:=λb i=>E.symm.subset (by simp[i])
  have UT:∀b∈U,b∈T:=λb i=>E.symm.subset (by simp[i])
  have x1:x∉S1:=λz=>dj x z O
  refine⟨x,C,y,r,e1,O,n,ex,l,by rw[l,tt.length.1],?_⟩;have Q:dW K G' B (j.map (du L)) A r J:=tt.mono g λb i o e=>k b (I b i) o e
  obtain⟨P,S',R,z1,z2,z3,N,W⟩:=Fx ov l Q;have hx':∀b∈S',b≠x:=λb i z=>by
   subst z;have:=N.subset i;rcases aP.mp this with q|q
   ·exact x1 q
   ·exact hxS (W.subset q)
  have oo:cT K G' (eN B x (.ins C y (lN f u (j.zip r)))) (.fs c L) (.ins c (jj f d j A).1 (jj f d j A).2) (.ref x) (x::S'):=
   .ins (dx:=y) (vs:=P) n (by rw[bM,z1]) z2 (z3.mono (bF.refl _) λb i o e=>by rw[bz (hx' b i)];exact e)
  obtain⟨F,o2,p2⟩:=k1 G' (eN B x (.ins C y (lN f u (j.zip r)))) _ _ g (λb i o e=>by have Xr:b≠x:=λz=>hxU (z ▸ i);rw[bz Xr];exact k b (UT b i) o e) oo;refine⟨F,o2,?_,λb i =>?_⟩
  ·rw[p2.nodup_iff];have q:(x::S'++U).Perm (x::(S1++R)++U):=((N.cons x).append_right U);rw[q.nodup_iff];have w:(x::R++U).Sublist (x::J++U):=(W.cons_cons x).append_right U;have S:(x::R++U).Nodup:=m.sublist w;have:(x::(S1++R)++U).Perm (S1++(x::R++U)):=by have:=cJ [x] S1 (R++U);simpa [bV] using this
   rw[this.nodup_iff,jm];refine⟨X,S,λa ha b i z =>?_⟩;subst z;exact dj a ha (E.symm.subset (w.subset i))
  ·have:=p2.subset i;rcases aP.mp this with q|q
   ·rcases aK.mp q with q|q
    ·subst q;exact .inl O
    ·rcases aP.mp (N.subset q) with q|q
     ·exact .inr q
     ·exact .inl (I b (W.subset q))
   ·exact .inl (UT b q)
theorem dW.append{f:List D}{S:List az}(h:dW K G H i f g S)(k:dW K G H c e b j):dW K G H (i++c) (f++e) (g++b) (S++j):=by
 induction f generalizing i g S with
 |nil=>cases h;exact k| cons d f ih=>cases h with
  |cons a t=>rw[bV];exact .cons a (ih t)
theorem cT.app{p:xQ}{s:Sk}{v:V}{T S1:List az}{l:List D}{d:D}{u:V}{m:Hp}(h:cT K G H s t v T)(nd:T.Nodup)(es:mx p s=Y (.li n))(ep:fJ p t=Y (.lst l))(g:bF G G')(k:∀b∈T,∀o,H b=Y o->m b=Y o)(R:cT K G' m n d u S1)(C:S1.Nodup)(O:∀b∈S1,b∉T):
  ∃x j,gY H p v=Y (.ref x)/\x∈T/\H x=Y (.lst j)/\l.length=j.length /\
   ∃w,cT K G' (eN m x (.lst (j++[u]))) s (mU (.lst (l++[d])) p t) v w/\w.Nodup/\∀b∈w,b∈T∨b∈S1:=by
 obtain⟨v',T1,U,e1,o1,r,k1⟩:=h.focus es ep;cases o1 with
 |@lst _ _ x j i ex L=>
  have f:(x::i++U).Nodup:=r.nodup_iff.mp nd;have F:x∉i:=λz=>by simp at f;exact f.1.1 z
  have E:x∉U:=λz=>by simp at f;exact f.1.2 z
  have A:x∈T:=r.symm.subset (by simp);have y:∀b∈i,b∈T:=λb c=>r.symm.subset (by simp[c])
  have P:∀b∈U,b∈T:=λb c=>r.symm.subset (by simp[c])
  have Q:x∉S1:=λz=>O x z A
  refine⟨x,j,e1,A,ex,L.length.1,?_⟩;have B:dW K G' m (bL l.length n) l j i:=L.mono g λb c o e=>k b (y b c) o e
  have W:dW K G' m (bL (l++[d]).length n) (l++[d]) (j++[u]) (i++(S1++[])):=by rw[aE,bH,Uw];exact B.append (.cons R .nil)
  rw[cM]at W;have I:∀b∈i++S1,b≠x:=λb c z=>by
   subst z;rcases aP.mp c with q|q
   ·exact F q
   ·exact Q q
  have S:cT K G' (eN m x (.lst (j++[u]))) (.li n) (.lst (l++[d])) (.ref x) (x::(i++S1)):=
   .lst bM (W.mono (bF.refl _) λb c o e=>by rw[bz (I b c)];exact e)
  obtain⟨w,X,N⟩:=k1 G' (eN m x (.lst (j++[u]))) _ _ g (λb c o e=>by have J:b≠x:=λz=>E (z ▸ c);rw[bz J];exact k b (P b c) o e) S;refine⟨w,X,?_,λb c =>?_⟩
  ·rw[N.nodup_iff];have:(x::(i++S1)++U).Perm (S1++(x::i++U)):=by have:=cJ (x::i) S1 U;simpa [bV] using this
   rw[this.nodup_iff,jm];refine⟨C,f,λa ha b c z =>?_⟩;subst z;exact O a ha (r.symm.subset c)
  ·have:=N.subset c;rcases aP.mp this with q|q
   ·rcases aK.mp q with q|q
    ·subst q;exact .inl A
    ·rcases aP.mp q with q|q
     ·exact .inl (y b q)
     ·exact .inr q
   ·exact .inl (P b q)
theorem dW.last{b:List Sk}{f:List D}{S:List az}(h:dW K G H (b++[k]) (f++[d]) e S)(l:b.length=f.length):∃g u j i,e=g++[u]/\S=j++i/\dW K G H b f g j/\cT K G H k d u i:=by
 induction f generalizing b e S with
 |nil=>
  cases b with
  | nil=>cases h with
   |@cons _ _ _ _ v e S T a t=>cases t;exact⟨[],v,[],S,rfl,by simp,.nil,a⟩
  |cons=>simp at l
 |cons c f ih=>
  cases b with
  |nil=>simp at l|cons m b=>
   have h:dW K G H (m::(b++[k])) (c::(f++[d])) e S:=h;cases h with
   |@cons _ _ _ _ v e S T a t=>obtain⟨g,u,j,i,rfl,rfl,o,n⟩:=ih t (by simpa using l);exact⟨v::g,u,S++j,i,rfl,by rw[bV],.cons a o,n⟩
theorem cT.X'{p:xQ}{s:Sk}{v:V}{T:List az}{j:List D}(h:cT K G H s t v T)(J:T.Nodup)(N:mx p s=Y (.li l))(O:fJ p t=Y (.lst (j++[d]))):
  ∃x f u,gY H p v=Y (.ref x)/\x∈T/\H x=Y (.lst (f++[u]))/\j.length=f.length /\
   ∃k g,cT K G (eN H x (.lst f)) s (mU (.lst j) p t) v k/\cT K G (eN H x (.lst f)) l d u g/\(k++g).Perm T:=by
 obtain⟨R,S,U,P,I,m,L⟩:=h.focus N O;cases I with
 |@lst _ _ x Q X W w=>
  rw[aE,bH,Uw]at w;obtain⟨f,u,A,g,rfl,rfl,y,B⟩:=w.last (by simp);have a:(x::(A++g)++U).Nodup:=m.nodup_iff.mp J;have q:x∉A:=λz=>by simp at a;exact a.1.1 z
  have r:x∉g:=λz=>by simp at a;exact a.1.2.1 z
  have n:x∉U:=λz=>by simp at a;exact a.1.2.2 z
  refine⟨x,f,u,P,m.symm.subset (by simp),W,y.length.1,?_⟩;have E:cT K G (eN H x (.lst f)) (.li l) (.lst j) (.ref x) (x::A):=
   .lst bM (y.mono (bF.refl _) λb i o e=>by have c:b≠x:=λz=>q (z ▸ i);rw[bz c];exact e)
  obtain⟨k,F,C⟩:=L G (eN H x (.lst f)) _ _ (bF.refl _) (λb i o e=>by have c:b≠x:=λz=>n (z ▸ i);rw[bz c];exact e) E;refine⟨k,g,F,B.mono (bF.refl _) λb i o e=>by have c:b≠x:=λz=>r (z ▸ i);rw[bz c];exact e,?_⟩;refine(C.append_right g).trans ((?_:List.Perm _ _).trans m.symm);have:=Rw (l₁:=U) (l₂:=g);have:=this.append_left (x::A);simpa [bV] using this
theorem zR{f:List aG}{S:List az}:cT K G H (.fs c []) (.ins c f b) (.ref x) S↔(∃o,H x=Y o/\jF K G (.ins c f b) o)/\S=[x]:=by
 have p:∀ {f:List aG}{b:List D}{g:List V}{S:List az},dW K G H (f.map (du [])) b g S->bx K G b g/\S=[]:=by
  intro f
  induction f with
  |nil=>intro b g S h;cases h;exact⟨.nil,rfl⟩
  |cons k f ih=>
   intro b g S h;have h:dW K G H (.lf::f.map (du [])) b g S:=h;cases h with
   |cons a t=>
    cases a with
    |leaf r=>obtain⟨m,rfl⟩:=ih t;exact⟨.cons r m,rfl⟩
 have i:∀ {f:List aG}{b:List D}{g:List V},f.length=b.length->bx K G b g->dW K G H (f.map (du [])) b g []:=by
  intro f
  induction f with
  |nil=>
   intro b g j r;cases b with
   |nil=>rw[dz.mp r];exact .nil|cons=>simp at j
  |cons k f ih=>
   intro b g j r;cases b with
   |nil=>simp at j|cons d b=>obtain⟨v,u,rfl,s,q⟩:=bJ.mp r;exact .cons (S:=[]) (.leaf s) (ih (by simpa using j) q)
 constructor
 ·intro h;cases h with
  |ins n e l t=>obtain⟨m,rfl⟩:=p t;exact⟨⟨_,e,_,_,_,rfl,n,l,m⟩,rfl⟩
 ·rintro⟨⟨o,e,C,w,g,rfl,n,l,r⟩,rfl⟩;exact .ins n e l (i l r)
theorem cT.dput{p:xQ}{s:Sk}{v:V}{T:List az}{q:List iY}{y:List D}(h:cT K G H s t v T)(I:T.Nodup)(N:mx p s=Y .di)(O:fJ p t=Y (.ig q y))(g:bF G G')(k:∀b∈T,∀o,H b=Y o->A b=Y o):
  ∃x m,gY H p v=Y (.ref x)/\x∈T/\H x=Y (.dK (q.zip m))/\q.length=y.length/\bx K G y m /\
   ∀(a:List iY) (c:List D) (d:List V),a.length=c.length->bx K G' c d->∃j,cT K G' (eN A x (.dK (a.zip d))) s (mU (.ig a c) p t) v j/\j.Nodup/\∀b∈j,b∈T:=by
 obtain⟨R,S,U,P,F,n,L⟩:=h.focus N O;cases F with
 |@ig _ _ x m W l r=>
  have f:([x]++U).Nodup:=n.nodup_iff.mp I;have u:x∉U:=λz=>by simp at f;exact f.1 z
  have Q:∀b∈U,b∈T:=λb i=>n.symm.subset (by simp[i])
  refine⟨x,m,P,n.symm.subset (by simp),W,l,r,λa c d J C =>?_⟩;obtain⟨j,E,B⟩:=L G' (eN A x (.dK (a.zip d))) (.ig a c) [x] g (λb i o e=>by have w:b≠x:=λz=>u (z ▸ i);rw[bz w];exact k b (Q b i) o e) (.ig bM J C);exact⟨j,E,by rw[B.nodup_iff];exact f,λb i=>n.symm.subset (B.subset i)⟩
end
end L2
namespace L2
open PySem PySem.Spec PyProof.Rows
def W4(K:bb)(G H:Hp):D->az->HO->Prop
 |.obj s t,a,_=>∃S,cT K G H s t (.ref a) S/\∀b∈S,G b=M|.eH _ _,_,_=>True|d,_,o=>jF K G d o
def jX(K:bb)(G H:Hp)(d:D)(v:V):Prop:=dg K G d v∨∃a o,v=.ref a/\H a=Y o/\W4 K G H d a o
section
variable {K:bb}{G H G' H':Hp}
theorem jX.ext{d:D}{v:V}(r:jX K G H d v)(E:gO G H G' H'):jX K G' H' d v:=by
 rcases r with r|⟨a,o,k,j,c⟩
 ·exact .inl (dg.mono E.gg d r)
 ·refine .inr ⟨a,o,k,E.hh _ _ j,?_⟩;cases d with
  |obj s t=>
   obtain⟨S,g,i⟩:=c;refine⟨S,g.mono E.gg λb f o e=>E.hh b o e,λb f =>?_⟩;obtain⟨u,h,_⟩:=g.here b f;rcases q:G' b with _|w
   ·rfl
   rcases E.fr b w q with z|z
   ·rw[i b f]at z;cases z
   ·rw[h]at z;cases z
  |eH=>trivial|lst=>exact jF.mono E.gg (d :=.lst _) c|ins=>exact jF.mono E.gg (d :=.ins _ _ _) c|ig=>exact jF.mono E.gg (d :=.ig _ _) c|_=>exact c
theorem jX.eJ{v:V}(r:jX K G H .eJ v):v=.eJ:=by
 rcases r with r|⟨a,o,_,_,e⟩
 ·exact iu.mp r
 ·exact e.elim
theorem jX.bl{b:Bool}{v:V}(r:jX K G H (.bl b) v):v=.bl b:=by
 rcases r with r|⟨a,o,_,_,e⟩
 ·exact dt.mp r
 ·exact e.elim
theorem jX.int{i:Int}{v:V}(r:jX K G H (.int i) v):v=.int i:=by
 rcases r with r|⟨a,o,_,_,e⟩
 ·exact cg.mp r
 ·exact e.elim
theorem jX.str{v:V}(r:jX K G H (.str x) v):v=.str x:=by
 rcases r with r|⟨a,o,_,_,e⟩
 ·exact i9.mp r
 ·exact e.elim
theorem jX.lst{ds:List D}{v:V}(s:bF G H)(r:jX K G H (.lst ds) v):∃a vs,v=.ref a/\H a=Y (.lst vs)/\bx K G ds vs:=by
 rcases r with r|⟨a,o,d,c,vs,rfl,b⟩
 ·obtain⟨a,vs,e,q,t⟩:=dJ.mp r;exact⟨a,vs,e,s _ _ q,t⟩
 ·exact⟨a,vs,d,c,b⟩
theorem jX.tup{ds:List D}{v:V}(s:bF G H)(r:jX K G H (.tup ds) v):∃a b,v=.ref a/\H a=Y (.tup b)/\bx K G ds b:=by
 rcases r with r|⟨a,o,_,_,e⟩
 ·obtain⟨a,b,e,q,t⟩:=fQ.mp r;exact⟨a,b,e,s _ _ q,t⟩
 ·exact e.elim
theorem jX.ku{ns:List Int}{v:V}(s:bF G H)(r:jX K G H (.ku ns) v):∃a,v=.ref a/\n9 K H a (ns.map V.int):=by
 rcases r with r|⟨a,o,_,_,e⟩
 ·obtain⟨a,e,q⟩:=IV.mp r;exact⟨a,e,s.seq q⟩
 ·exact e.elim
theorem jX.Yo{f:List aG}{g:List D}{v:V}(s:bF G H)(r:jX K G H (.ins c f g) v):∃a C d b,v=.ref a/\H a=Y (.ins C d (f.zip b))/\o8 K ba c=Y (Y (.ref C))/\f.length=g.length/\bx K G g b:=by
 rcases r with r|⟨a,o,j,i,C,d,b,rfl,n,l,h⟩
 ·obtain⟨a,C,d,b,e,n,q,l,t⟩:=qy.mp r;exact⟨a,C,d,b,e,s _ _ q,n,l,t⟩
 ·exact⟨a,C,d,b,j,i,n,l,h⟩
theorem jX.TV{c:List iY}{d:List D}{v:V}(s:bF G H)(r:jX K G H (.ig c d) v):∃a b,v=.ref a/\H a=Y (.dK (c.zip b))/\c.length=d.length/\bx K G d b:=by
 rcases r with r|⟨a,o,h,g,b,rfl,l,f⟩
 ·obtain⟨a,b,e,q,l,t⟩:=yV.mp r;exact⟨a,b,e,s _ _ q,l,t⟩
 ·exact⟨a,b,h,g,l,f⟩
theorem jX.ins{ks:List aG}{d:List D}{v:V}(r:jX K G H (.ins c ks d) v):∃a,v=.ref a:=by
 rcases r with r|⟨a,o,b,_⟩
 ·obtain⟨a,C,dx,vs,e,_⟩:=qy.mp r;exact⟨a,e⟩
 ·exact⟨a,b⟩
theorem jX.ig{ks:List iY}{ds:List D}{v:V}(r:jX K G H (.ig ks ds) v):∃a,v=.ref a:=by
 rcases r with r|⟨a,o,b,_⟩
 ·obtain⟨a,vs,e,_⟩:=yV.mp r;exact⟨a,e⟩
 ·exact⟨a,b⟩
theorem jX.all{v:V}(s:bF G H)(r:jX K G H d v):dg K H d v:=by
 rcases r with r|⟨a,o,i,e,c⟩
 ·exact dg.mono s d r
 ·subst i;cases d with
  |obj k t=>obtain⟨S,h,g⟩:=c;have:=h.frozen g (λb f=>f);exact qx.mpr (dg.mono (n6 s) t this)
  |eH=>exact sU.mpr ⟨a,rfl⟩|lst=>exact(jF.mono s (d :=.lst _) c).rep e|ins=>exact(jF.mono s (d :=.ins _ _ _) c).rep e|ig=>exact(jF.mono s (d :=.ig _ _) c).rep e|_=>exact c.elim
end
abbrev bZ:=List (Option D)
abbrev DF:=bZ->Option D
abbrev DT:=bZ->Option Bool
abbrev DL:=bZ->Option (List D)
noncomputable abbrev DC(j:Nat):Nat:=j+1000000
noncomputable abbrev Cu(j:Nat):Nat:=j+2000000
noncomputable def GI:List aG:=["rows", "coming"]
def GV(own:List Nat)(H:Hp)(a:St)(c:bZ)(j r:Nat)(p:xQ):Prop:=r∈own/\Cu r∈own/\∃s t d v b,c[r]?=Y (Y (.obj s t))/\a[r]?=Y (Y v)/\a[j]?=Y (Y b)/\gY H p v=Y b/\mx p s=Y d/\∀g∈BP p,g∈GI
structure lb(K:bb)(own:List Nat)(G H:Hp)(σ:St)(ρ:bZ):Prop where
 len:σ.length=ρ.length
 get:∀(i:Nat) (d:D),ρ[i]?=some (some d)->∃v,σ[i]?=some (some v)/\(if i∈own then jX K G H d v else dg K G d v)
 eH:∀(j r:Nat) (p:xQ),j∈own->DC j∈own->ρ[j]?=some (some (.eH r p))->GV own H σ ρ j r p
theorem GV.ext{own:List Nat}{H H':Hp}{a:St}{b:bZ}{r:Nat}(h:GV own H a b j r p)(s:bF H H'):GV own H' a b j r p:=by
 obtain⟨g,i,e,d,f,v,c,q,o,n,l,k⟩:=h;exact⟨g,i,e,d,f,v,c,q,o,n,j4 s l,k⟩
theorem lb.ext{K:bb}{own:List Nat}{G H G' H':Hp}{a:St}{b:bZ}(h:lb K own G H a b)(E:gO G H G' H'):lb K own G' H' a b:=⟨h.len,λi d e=>by
 obtain⟨v,q,r⟩:=h.get i d e;refine⟨v,q,?_⟩;by_cases c:i∈own
 ·rw[if_pos c]at r ⊢;exact r.ext E
 ·rw[if_neg c]at r ⊢;exact dg.mono E.gg d r,λj r p g f e=>(h.eH j r p g f e).ext E.hh⟩
def tP(K:bb)(own:List Nat)(f:DF):TE:=λb H Q=>∃G a d,bF G H/\lb K own G H b a/\f a=Y d/\∀v G' H',gO G H G' H'->dg K G' d v->Q v H'
def tQ(K:bb)(own:List Nat)(f:DF):TE:=λb H Q=>∃G a d,bF G H/\lb K own G H b a/\f a=Y d/\∀v G' H',gO G H G' H'->jX K G' H' d v->Q v H'
def tF(K:bb)(own:List Nat)(f:DL):TE:=λd H Q=>∃G a c,bF G H/\lb K own G H d a/\f a=Y c/\∀p b G' H',gO G H G' H'->H p=M->G' p=M->H' p=Y (.lst b)->bx K G' c b->Q (.ref p) H'
def ui(K:bb)(own:List Nat)(f:DT):TT:=λc H Q=>∃G a b,bF G H/\lb K own G H c a/\f a=Y b/\∀G' H',gO G H G' H'->Q b H'
def Hr(K:bb)(own:List Nat)(f:DL):TA:=λd H Q=>∃G a c,bF G H/\lb K own G H d a/\f a=Y c/\∀b G' H',gO G H G' H'->bx K G' c b->Q b H'
def J5(K:bb)(G H:Hp):List D->List V->Prop:=Paired (jX K G H)
def Ve(K:bb)(own:List Nat)(f:DL):TA:=λd H Q=>∃G a c,bF G H/\lb K own G H d a/\f a=Y c/\∀b G' H',gO G H G' H'->J5 K G' H' c b->Q b H'
section
variable {X:Cx}
theorem PE.imp{e:Expr}(h:PE X e t)(k:∀b H Q,c b H Q->t b H Q):PE X e c:=λa s b H Q I q=>h a s b H Q I (k _ _ _ q)
theorem PT.imp{e:Expr}(h:PT X e t)(k:∀b H Q,c b H Q->t b H Q):PT X e c:=λa s b H Q I q=>h a s b H Q I (k _ _ _ q)
theorem PW.imp{e:Expr}(h:PW X e t)(k:∀b H Q,c b H Q->t b H Q):PW X e c:=λw a s b H Q I q=>h w a s b H Q I (k _ _ _ q)
theorem PA.imp{e:List Expr}(h:PA X e t)(k:∀b H Q,c b H Q->t b H Q):PA X e c:=λm a s b H Q I q=>h m a s b H Q I (k _ _ _ q)
theorem PS.imp{e:cY}(h:PS X e t)(k:∀D b H,c D b H->t D b H):PS X e c:=λa s b H D I q=>h a s b H D I (k _ _ _ q)
theorem sP.imp{e:List cY}(h:sP X e t)(k:∀D b H,c D b H->t D b H):sP X e c:=λa s b H D I q=>h a s b H D I (k _ _ _ q)
theorem oU.imp{f:af->af->Sem af}{b:R2}(h:oU X f r)(k:∀x y H Q,b x y H Q->r x y H Q):oU X f b:=λa s c H x y v u Q I e d q=>h a s c H x y v u Q I e d (k _ _ _ _ q)
variable {own:List Nat}{e:Expr}
theorem dq{f:DF}(h:PE X e (tP X.K own f)):PE X e (tQ X.K own f):=h.imp λi H Q ⟨G,b,d,c,a,g,k⟩=>⟨G,b,d,c,a,g,λv G' H' E r=>k v G' H' E (.inl r)⟩
noncomputable def eF(f:DL):DF:=λρ=>(f ρ).map D.lst
theorem df{f:DL}(h:PE X e (tF X.K own f)):PE X e (tP X.K own (eF f)):=h.imp <|by
 rintro s H Q ⟨G,g,d,q,b,l,k⟩;rcases a:f g with _|c
 ·simp[eF,a]at l
 have:d=.lst c:=by simpa [eF,a] using l.symm
 subst this;refine⟨G,g,c,q,b,a,λp i G' H' E o j n r=>k _ (eN G' p (.lst i)) H' (E.freeze o j n) ?_⟩;exact dJ.mpr ⟨p,i,rfl,bM,bx.mono (.alloc j) c r⟩
noncomputable def eV(i:Nat):DF:=λρ=>(ρ[i]?).join
noncomputable def eK(d:D):DF:=λ_=>Y d
theorem jg{a:bZ}(h:eV i a=Y d):a[i]?=Y (Y d):=by
 unfold eV at h;cases e:a[i]? with
 |none=>rw[e]at h;cases h| some o=>rw[e]at h;cases o with
  |none=>cases h|some c=>rw[show c=d from bR h]
theorem dv{m:Pos}(h:PE X (.Name x m) (kr i))(b:i∉own:=by decide):PE X (.Name x m) (tP X.K own (eV i)):=h.imp <|by
 rintro f H Q ⟨G,g,d,c,a,e,k⟩;obtain⟨v,q,r⟩:=a.get i d (jg e);rw[if_neg b]at r;exact⟨v,q,k v G H (.refl c) r⟩
theorem JI{i:Nat}{m:Pos}(h:PE X (.Name x m) (kr i))(b:i∈own:=by decide):PE X (.Name x m) (tQ X.K own (eV i)):=h.imp <|by
 rintro f H Q ⟨G,g,d,c,a,e,k⟩;obtain⟨v,q,r⟩:=a.get i d (jg e);rw[if_pos b]at r;exact⟨v,q,k v G H (.refl c) r⟩
theorem ax{i j m}:PE X (.Constant (.int i) j m) (tP X.K own (eK (.int i))):=Sg.imp <|by
 rintro e H Q ⟨G,f,d,a,c,b,k⟩;cases b;exact k _ G H (.refl a) (cg.mpr rfl)
theorem AS{b j m}:PE X (.Constant (.bool b) j m) (tP X.K own (eK (.bl b))):=VL.imp <|by
 rintro f H Q ⟨G,g,d,a,e,c,k⟩;cases c;exact k _ G H (.refl a) (dt.mpr rfl)
theorem NS{j m}:PE X (.Constant .none j m) (tP X.K own (eK .eJ)):=Sf.imp <|by
 rintro e H Q ⟨G,f,d,a,c,b,k⟩;cases b;exact k _ G H (.refl a) (iu.mpr rfl)
theorem bY{x j m}:PE X (.Constant (.str x) j m) (tP X.K own (eK (.str x))):=Sb.imp <|by
 rintro e H Q ⟨G,f,d,a,c,b,k⟩;cases b;exact k _ G H (.refl a) (i9.mpr rfl)
noncomputable def aN:DL:=λ_=>Y []
noncomputable def aC(f:DF)(g:DL):DL:=λa=>(f a).bind λx=>(g a).bind λb=>Y (x::b)
theorem J3{f:DF}{g:DL}{a:bZ}{e:List D}(h:aC f g a=Y e):∃x b,f a=Y x/\g a=Y b/\e=x::b:=by
 unfold aC at h;rcases d:f a with _|x
 ·rw[d]at h;cases h
 rw[d]at h;rcases c:g a with _|b
 ·rw[c]at h;cases h
 rw[c]at h;exact⟨x,b,rfl,rfl,(bR h).symm⟩
variable {A:List Expr}
theorem bg:PA X [] (Hr X.K own aN):=kj.imp <|by
 rintro e H Q ⟨G,f,d,a,c,b,k⟩;cases b;exact k _ G H (.refl a) .nil
theorem aA{f:DF}{g:DL}(h:PE X e (tP X.K own f))(t:PA X A (Hr X.K own g))(p:ao (e::A) X.env=(Z_,eval e X.env)::ao A X.env:=by rfl):PA X (e::A) (Hr X.K own (aC f g)):=
 (f7 h t p).imp <|by rintro z H Q ⟨G,i,d,q,a,s,k⟩;obtain⟨x,l,r,b,rfl⟩:=J3 s;refine⟨G,i,x,q,a,r,λv y D c o=>⟨y,i,l,c.gh,a.ext c,b,λC w u j n=>k _ w u (c.trans j) (.cons (dg.mono j.gg x o) n)⟩⟩
theorem Eb:PA X [] (Ve X.K own aN):=kj.imp <|by
 rintro e H Q ⟨G,f,d,a,c,b,k⟩;cases b;exact k _ G H (.refl a) .nil
theorem AK{f:DF}{g:DL}(h:PE X e (tQ X.K own f))(t:PA X A (Ve X.K own g))(p:ao (e::A) X.env=(Z_,eval e X.env)::ao A X.env:=by rfl):PA X (e::A) (Ve X.K own (aC f g)):=
 (f7 h t p).imp <|by rintro z H Q ⟨G,i,d,q,a,s,k⟩;obtain⟨x,l,r,b,rfl⟩:=J3 s;refine⟨G,i,x,q,a,r,λv y D c o=>⟨y,i,l,c.gh,a.ext c,b,λC w u j n=>k _ w u (c.trans j) (.cons (o.ext j) n)⟩⟩
noncomputable def gS(g:DL):DF:=λb=>(g b).bind λa=>if a.length<=1000 then Y (.tup a) else M
theorem vN:1000<=br:=by rw[jO];decide
theorem iI{o m}{g:DL}(h:PA X A (Hr X.K own g)):PE X (.Tuple A o m) (tP X.K own (gS g)):=(Mw h).imp <|by
 rintro s H Q ⟨G,i,d,r,c,a,k⟩;unfold gS at a;rcases e:g i with _|b
 ·rw[e]at a;cases a
 rw[e]at a;have a:(if b.length<=1000 then Y (D.tup b) else M)=Y d:=a;split at a
 ·cases a;rename_i q;refine⟨G,i,b,r,c,e,λj u t f l=>⟨?_,λp n=>k _ _ _ (f.trans (gO.alloc (p:=p) (o :=.tup j) f.gh n)) ?_⟩⟩
  ·rw[<- l.length];exact bX q vN
  ·exact fQ.mpr ⟨p,j,rfl,bM,bx.mono (.alloc (f.gh.free n)) b l⟩
 ·cases a
noncomputable def fX(g:DL):DL:=λb=>(g b).bind λa=>if a.length<=1000 then Y a else M
theorem e_{m}{g:DL}(h:PA X A (Hr X.K own g)):PE X (.List A m) (tF X.K own (fX g)):=(Mz h).imp <|by
 rintro s H Q ⟨G,l,j,o,d,a,k⟩;unfold fX at a;obtain⟨e,q,a⟩:=ae.1 a;have a:(if e.length<=1000 then Y e else M)=Y j:=a;split at a
 ·cases a;rename_i n;refine⟨G,l,j,o,d,q,λf r t b i=>⟨?_,λp c=>k p f r _ (b.trans (gO.lay (p:=p) (o :=.lst f) b.gh c)) (b.hh.free c) (b.gh.free c) bM i⟩⟩;rw[<- i.length];exact bX n vN
 ·cases a
noncomputable def e2(o:D->D->Option D)(a b:DF):DF:=λρ=>(a ρ).bind λx=>(b ρ).bind λy=>o x y
theorem D_{a b:DF}(h:e2 o a b c=Y d):∃x y,a c=Y x/\b c=Y y/\o x y=Y d:=by
 unfold e2 at h;rcases f:a c with _|x
 ·rw[f]at h;cases h
 rw[f]at h;rcases e:b c with _|y
 ·rw[e]at h;cases h
 rw[e]at h;exact⟨x,y,rfl,rfl,h⟩
def rD(K:bb)(o:D->D->Option D):R2:=λx y H Q=>∃G b a d,bF G H/\jX K G H b x/\jX K G H a y/\o b a=Y d/\∀v G' H',gO G H G' H'->dg K G' d v->Q v H'
def Bg(X:Cx)(f:af->af->Sem af)(o:D->D->Option D):Prop:=oU X f (rD X.K o)
theorem IW{K:bb}{own:List Nat}{fa fb:DF}{e:St}{H:Hp}(h:tP K own (e2 o fa fb) e H Q):UC (rD K o) (tQ K own fa) (tQ K own fb) e H Q:=by
 obtain⟨G,f,d,l,a,q,k⟩:=h;obtain⟨x,y,p,n,r⟩:=D_ q;exact⟨G,f,x,l,a,p,λv C I c j=>⟨C,f,y,c.gh,a.ext c,n,λu z F b i=>⟨z,x,y,d,b.gh,j.ext b,i,r,λw t s E g=>k w t s ((c.trans b).trans E) g⟩⟩⟩
variable {a b:Expr}{fa fb:DF}{m:Pos}
theorem bo{op:Ez}(c:Bg X (eL op) o)(e:PE X a (tQ X.K own fa))(d:PE X b (tQ X.K own fb)):PE X (.BinOp a op b m) (tP X.K own (e2 o fa fb)):=(Q_ c e d).imp λf H Q h=>IW h
theorem sJ{op:CmpOp}(c:Bg X (eY op) o)(f:PE X a (tQ X.K own fa))(e:PE X b (tQ X.K own fb))(d:iT op b=Z_):PE X (.Compare a [op] [b] m) (tP X.K own (e2 o fa fb)):=(Pl c f e d).imp λg H Q h=>IW h
noncomputable def dk(f:DF):DT:=λa=>(f a).bind λd=>match d with|.bl b=>Y b|_=>M
theorem rZ{f:DF}{a:bZ}{b:Bool}(h:dk f a=Y b):f a=Y (.bl b):=by
 unfold dk at h;rcases e:f a with _|d
 ·rw[e]at h;cases h
 rw[e]at h;cases d with
 |bl c=>rw[show c=b from bR h]
 |_=>cases h
theorem cG{op:CmpOp}(f:Bg X (eY op) o)(i:PE X a (tQ X.K own fa))(h:PE X b (tQ X.K own fb))(g:iT op b=Z_):PT X (.Compare a [op] [b] m) (ui X.K own (dk (e2 o fa fb))):=
 (Pa f i h g).imp λn H Q ⟨G,e,d,j,c,l,k⟩=>IW (own:=own) (fa:=fa) (fb:=fb) ⟨G,e,.bl d,j,c,rZ l,λv G' H' E r=>⟨d,dt.mp r,k G' H' E⟩⟩
noncomputable def fV(f g:DT):DT:=λa=>(f a).bind λc=>if c=Z' then g a else Y Z_
noncomputable def nJ(f g:DT):DT:=λa=>(f a).bind λc=>if c=Z' then Y Z' else g a
noncomputable def t5(f:DT):DT:=λa=>(f a).map λc=> !c
variable {f g:DT}{B:List Expr}
theorem lW(b:PT X a (ui X.K own f)):PW X (.BoolOp .And [a] m) (ui X.K own f):=O7 b
theorem qJ(b:PT X a (ui X.K own f)):PW X (.BoolOp .Or [a] m) (ui X.K own f):=R1 b
theorem oK(o : PT X a (ui X.K own f))(n : PW X (.BoolOp .And (b :: B) m) (ui X.K own g)): PW X (.BoolOp .And (a :: b :: B) m) (ui X.K own (fV f g)) := (R3 o n).imp <|by
  rintro v H Q ⟨G,j,d,p,h,e,k⟩
  unfold fV at e
  obtain ⟨c,q,e⟩ := ae.1 e
  refine⟨G,j,c,p,h,q,λl s i => ?_⟩
  cases c with
  |true => exact BM ⟨l,j,d,i.gh,h.ext i,e,λt r u => k t r (i.trans u)⟩
  | false => have : d = Z_ := (bR (show Y Z_ = Y d from e)).symm
             subst this; exact Ga (k l s i)
theorem wa(o : PT X a (ui X.K own f))(n : PW X (.BoolOp .Or (b :: B) m) (ui X.K own g)): PW X (.BoolOp .Or (a :: b :: B) m) (ui X.K own (nJ f g)) := (VF o n).imp <|by
  rintro v H Q ⟨G,j,d,p,h,e,k⟩
  unfold nJ at e
  obtain ⟨c,q,e⟩ := ae.1 e
  refine⟨G,j,c,p,h,q,λl s i => ?_⟩
  cases c with
  |false => exact Ga ⟨l,j,d,i.gh,h.ext i,e,λt r u => k t r (i.trans u)⟩
  | true => have : d = Z' := (bR (show Y Z' = Y d from e)).symm
            subst this; exact BM (k l s i)
theorem NG(i:PT X a (ui X.K own f)):PT X (.UnaryOp .Not a m) (ui X.K own (t5 f)):=(R4 i).imp <|by
 rintro p H Q ⟨G,h,d,j,e,b,k⟩;unfold t5 at b;rcases g:f h with _|c
 ·rw[g]at b;cases b
 rw[g]at b;have:d = !c:=(bR (show Y (!c)=Y d from b)).symm;subst this;exact⟨G,h,c,j,e,g,λn l o=>k n l o⟩
def Qc(f g:DF):DF:=λa=>(dk f a).bind λc=>if c=Z' then g a else Y (.bl Z_)
def Y0(f g:DF):DF:=λa=>(dk f a).bind λc=>if c=Z' then Y (.bl Z') else g a
noncomputable def TQ(f:DT):DF:=λa=>(f a).map λc =>.bl (!c)
theorem NR{b}(h:PE X a (tP X.K own fa)):PE X (.BoolOp b [a] m) (tP X.K own fa):=Sd h
theorem T4(o : PE X a (tP X.K own fa))(n : PE X (.BoolOp .And (b :: B) m) (tP X.K own fb)): PE X (.BoolOp .And (a :: b :: B) m) (tP X.K own (Qc fa fb)) := (Sh o n).imp <|by
  rintro w H Q ⟨G,h,d,p,f,e,k⟩
  unfold Qc at e
  obtain ⟨c,q,e⟩ := ae.1 e
  refine⟨G,h,_,p,f,rZ q,λv i s g l => ⟨c,dt.mp l,?_⟩⟩
  cases c with
  |true => exact BM ⟨i,h,d,g.gh,f.ext g,e,λv t r u j => k v t r (g.trans u) j⟩
  | false => have : d = .bl Z_ := (bR (show Y (D.bl Z_) = Y d from e)).symm
             subst this; exact Ga (k _ i s g (dt.mpr rfl))
theorem WE(o : PE X a (tP X.K own fa))(n : PE X (.BoolOp .Or (b :: B) m) (tP X.K own fb)): PE X (.BoolOp .Or (a :: b :: B) m) (tP X.K own (Y0 fa fb)) := (VJ o n).imp <|by
  rintro w H Q ⟨G,h,d,p,f,e,k⟩
  unfold Y0 at e
  obtain ⟨c,q,e⟩ := ae.1 e
  refine⟨G,h,_,p,f,rZ q,λv i s g l => ⟨c,dt.mp l,?_⟩⟩
  cases c with
  |false => exact Ga ⟨i,h,d,g.gh,f.ext g,e,λv t r u j => k v t r (g.trans u) j⟩
  | true => have : d = .bl Z' := (bR (show Y (D.bl Z') = Y d from e)).symm
            subst this; exact BM (k _ i s g (dt.mpr rfl))
theorem TY(i:PE X a (tP X.K own fa)):PE X (.UnaryOp .Not a m) (tP X.K own (TQ (dk fa))):=(Se i).imp <|by
 rintro p H Q ⟨G,g,d,j,e,b,k⟩;unfold TQ at b;rcases f:dk fa g with _|c
 ·rw[f]at b;cases b
 rw[f]at b;have:d=.bl (!c):=(bR (show Y (D.bl (!c))=Y d from b)).symm;subst this;exact⟨G,g,_,j,e,rZ f,λv n l o h=>⟨c,dt.mp h,k _ n l o (dt.mpr rfl)⟩⟩
noncomputable def NF(c:DT)(f g:DF):DF:=λa=>(c a).bind λb=>if b=Z' then f a else g a
theorem WG(q:PT X c (ui X.K own f))(s:PE X a (tP X.K own fa))(r:PE X b (tP X.K own fb)):PE X (.IfExp c a b m) (tP X.K own (NF f fa fb)):=(MC q s r).imp <|by
 rintro w H Q ⟨G,i,d,t,e,h,k⟩;unfold NF at h;obtain⟨c,u,h⟩:=ae.1 h;refine⟨G,i,c,t,e,u,λp x g =>?_⟩;cases c with
 |true=>exact BM ⟨p,i,d,g.gh,e.ext g,h,λv n l o j=>k v n l (g.trans o) j⟩
 |false=>exact Ga ⟨p,i,d,g.gh,e.ext g,h,λv n l o j=>k v n l (g.trans o) j⟩
end
mutual
noncomputable def rG:D->D->Bool
 |.eJ,.eJ=>Z'|.bl a,.bl b=>a==b|.bl a,.int b=>(if a then 1 else 0)==b
 |.int a,.bl b=>a==(if b then 1 else 0)
 |.int a,.int b=>a==b|.str a,.str b=>a==b|.lst d,.lst c=>qL d c|.tup d,.tup c=>qL d c|_,_=>Z_
noncomputable def qL:List D->List D->Bool
 |[],[]=>Z'|x::b,y::a=>rG x y&&qL b a|_,_=>Z_
end
mutual
noncomputable def kq:D->Nat->Bool
 |.lst a,n=>n != 0&&oO a (n-1)|.tup a,n=>n != 0&&oO a (n-1)|.ku _,_=>Z_|.ins _ _ _,_=>Z_|.ig _ _,_=>Z_|.obj _ _,_=>Z_|.eH _ _,_=>Z_|.eJ,_=>Z'|.bl _,_=>Z'|.int _,_=>Z'|.str _,_=>Z'
noncomputable def oO:List D->Nat->Bool
 |[],_=>Z'|x::a,n=>kq x n&&oO a n
end
theorem AU:∀ {a:List D}{n i:Nat}{d:D},oO a n=Z'->a[i]?=Y d->kq d n=Z'
 |[],n,i,d,h,e=>by simp at e
 |x::a,n,0,d,h,e=>by simp only[oO,aH]at h;simp at e;subst e;exact h.1
 |x::a,n,i+1,d,h,e=>by simp only[oO,aH]at h;exact AU (i:=i) h.2 (by simpa using e)
theorem we:∀(b a:List D),qL b a=((cI (min b.length a.length)).all (λj=>rG (b.getD j .eJ) (a.getD j .eJ))&&(b.length==a.length))
 |[],[]=>by simp[qL]
 |[],y::a=>by simp[qL]
 |x::b,[]=>by simp[qL]
 | x::b,y::a=>by
  have e:min (x::b).length (y::a).length=min b.length a.length+1:=by simp[Nat.add_min_add_right]
  rw[e,nX,mH,nY];simp only[qL,we b a,eC,List.getD_cons_zero,List.getD_cons_succ,aO];rw[Bool.and_assoc]
  congr 2
  simp
mutual
theorem NO:∀(d:D) (n:Nat),kq d n=Z'->rG d d=Z'
 |.eJ,n,h=>by simp[rG]
 |.bl b,n,h=>by simp[rG]
 |.int b,n,h=>by simp[rG]
 |.str b,n,h=>by simp[rG]
 |.lst a,n,h=>by simp only[kq,aH]at h;simp only[rG];exact qc a _ h.2
 |.tup a,n,h=>by simp only[kq,aH]at h;simp only[rG];exact qc a _ h.2
 |.ku a,n,h=>by simp[kq]at h
 |.ins _ _ _,n,h=>by simp[kq]at h
 |.ig _ _,n,h=>by simp[kq]at h
 |.obj _ _,n,h=>by simp[kq]at h
 |.eH _ _,n,h=>by simp[kq]at h
theorem qc:∀(d:List D) (n:Nat),oO d n=Z'->qL d d=Z'
 |[],n,h=>by simp[qL]
 |x::a,n,h=>by simp only[oO,aH]at h;simp only[qL,NO x n h.1,qc a n h.2,Om]
end
section
variable {K:bb}{H:Hp}
mutual
theorem dg.inj:∀(u g:D) (n m:Nat){v:V},kq u n=Z'->kq g m=Z'->dg K H u v->dg K H g v->u=g
 |.eJ,g,n,m,v,h,d,i,f=>by have e:=iu.mp i;subst e;cases g<;>simp[dg,kq]at f d ⊢
 |.bl b,g,n,m,v,h,d,i,f=>by have e:=dt.mp i;subst e;cases g<;>simp[dg,kq]at f d ⊢<;>exact f
 |.int b,g,n,m,v,h,d,i,f=>by have e:=cg.mp i;subst e;cases g<;>simp[dg,kq]at f d ⊢<;>exact f
 |.str b,g,n,m,v,h,d,i,f=>by have e:=i9.mp i;subst e;cases g<;>simp[dg,kq]at f d ⊢<;>exact f
 | .lst o,g,n,m,v,h,d,i,f=>by
  obtain⟨a,w,rfl,l,r⟩:=dJ.mp i;cases g with
  |lst k=>obtain⟨b,s,e,j,q⟩:=dJ.mp f;cases e;rw[l]at j;cases j;simp only[kq,aH]at h d;rw[bx.inj o k _ _ h.2 d.2 r q]
  |tup k=>obtain⟨b,s,e,j,q⟩:=fQ.mp f;cases e;rw[l]at j;cases j
  |ku k=>simp[kq]at d|ins c t p=>simp[kq]at d|ig t p=>simp[kq]at d|obj=>simp[kq]at d|eH=>simp[kq]at d|_=>simp[dg]at f
 | .tup o,g,n,m,v,h,d,i,f=>by
  obtain⟨a,w,rfl,l,r⟩:=fQ.mp i;cases g with
  |tup k=>obtain⟨b,s,e,j,q⟩:=fQ.mp f;cases e;rw[l]at j;cases j;simp only[kq,aH]at h d;rw[bx.inj o k _ _ h.2 d.2 r q]
  |lst k=>obtain⟨b,s,e,j,q⟩:=dJ.mp f;cases e;rw[l]at j;cases j
  |ku k=>simp[kq]at d|ins c t p=>simp[kq]at d|ig t p=>simp[kq]at d|obj=>simp[kq]at d|eH=>simp[kq]at d|_=>simp[dg]at f
 |.ku o,g,n,m,v,h,d,i,f=>by simp[kq]at h
 |.ins _ _ _,g,n,m,v,h,d,i,f=>by simp[kq]at h
 |.ig _ _,g,n,m,v,h,d,i,f=>by simp[kq]at h
 |.obj _ _,g,n,m,v,h,d,i,f=>by simp[kq]at h
 |.eH _ _,g,n,m,v,h,d,i,f=>by simp[kq]at h
theorem bx.inj:∀(b a:List D) (n m:Nat){d:List V},oO b n=Z'->oO a m=Z'->bx K H b d->bx K H a d->b=a
 | [],a,n,m,d,g,f,h,c=>by
  rw[dz.mp h]at c;cases a with
  |nil=>rfl|cons y a=>obtain⟨_,_,e,_⟩:=bJ.mp c;cases e
 | x::b,a,n,m,d,g,f,h,c=>by
  obtain⟨v,r,rfl,q,t⟩:=bJ.mp h;cases a with
  |nil=>have:=dz.mp c;cases this
  |cons y a=>obtain⟨k,l,e,j,i⟩:=bJ.mp c;cases e;simp only[oO,aH]at g f;rw[dg.inj x y _ _ g.1 f.1 q j,bx.inj b a _ _ g.2 f.2 t i]
end
end
section
variable {P:bj}{w:bQ}{K:bb}{H:Hp}{s:aq}
theorem HJ(c:pM P w H s.heap)(e:H a=Y (.lst d)):∃b:List af,cK d b/\s.heap.IsList a b.toArray:=by
 obtain⟨z,b,n,r,q⟩:=c a _ e;exact⟨b,r,_,q,rfl,n,rfl⟩
theorem HI(c:pM P w H s.heap)(e:H a=Y (.tup d)):∃b:List af,cK d b/\s.heap.IsTuple a b.toArray:=by
 obtain⟨z,b,r,q⟩:=c a _ e;exact⟨b,r,q⟩
open SeqAt
structure A9(A:cf)(s:aq)(u1 u2:af)(b:Bool):Prop where
 rc:RcAt A s u1 u2 b
 ne:RcNeAt A s u1 u2 (!b)
 eq:EqAt A s u1 u2 b
theorem JE(j:pM P w H s.heap){A:cf}(g:A.units<rP){v:D}{m:Nat}{F:af}(u:kq z 0=Z')(i:kq v m=Z')(y:dg K H z E)(h:dg K H v C)(x:RelV E G)(f:RelV C F):
  A9 A s G F (rG z v):=by
 cases z with
 |eJ=>
  have e:=iu.mp y;subst e;cases x;cases v with
  |eJ=>have e:=iu.mp h;subst e;cases f;exact⟨.none_none,.none_none,.same _⟩
  |bl b=>have e:=dt.mp h;subst e;cases f;exact⟨.none_bool b,.none_bool b,.none_bool b⟩
  |int b=>have e:=cg.mp h;subst e;obtain⟨t,rfl⟩:=f;exact⟨.none_int b t,.none_int b t,.none_int b t⟩
  |str b=>have e:=i9.mp h;subst e;obtain⟨t,rfl⟩:=f;exact⟨.none_str b t,.none_str b t,.none_str b t⟩
  |lst n=>obtain⟨a,r,rfl,q,_⟩:=dJ.mp h;cases f;obtain⟨k,_,l⟩:=HJ j q;exact⟨.none_list l g,.none_list l g,.none_list l g⟩
  |tup n=>obtain⟨a,r,rfl,q,_⟩:=fQ.mp h;cases f;obtain⟨k,_,l⟩:=HI j q;exact⟨.none_tuple l g,.none_tuple l g,.none_tuple l g⟩
  |_=>simp[kq]at i
 |bl c=>
  have e:=dt.mp y;subst e;cases x;cases v with
  |eJ=>have e:=iu.mp h;subst e;cases f;exact⟨.bool_none c,.bool_none c,.bool_none c⟩
  |bl b=>have e:=dt.mp h;subst e;cases f;exact⟨.bool_bool c b,.bool_bool c b,.bool_bool c b⟩
  |int b=>have e:=cg.mp h;subst e;obtain⟨t,rfl⟩:=f;exact⟨.bool_int c b t,.bool_int c b t,.bool_int c b t⟩
  |str b=>have e:=i9.mp h;subst e;obtain⟨t,rfl⟩:=f;exact⟨.bool_str c b t,.bool_str c b t,.bool_str c b t⟩
  |lst n=>obtain⟨a,r,rfl,q,_⟩:=dJ.mp h;cases f;obtain⟨k,_,l⟩:=HJ j q;exact⟨.bool_list c l g,.bool_list c l g,.bool_list c l g⟩
  |tup n=>obtain⟨a,r,rfl,q,_⟩:=fQ.mp h;cases f;obtain⟨k,_,l⟩:=HI j q;exact⟨.bool_tuple c l g,.bool_tuple c l g,.bool_tuple c l g⟩
  |_=>simp[kq]at i
 |int c=>
  have e:=cg.mp y;subst e;obtain⟨d,rfl⟩:=x;cases v with
  |eJ=>have e:=iu.mp h;subst e;cases f;exact⟨.int_none c d,.int_none c d,.int_none c d⟩
  |bl b=>have e:=dt.mp h;subst e;cases f;exact⟨.int_bool c d b,.int_bool c d b,.int_bool c d b⟩
  |int b=>have e:=cg.mp h;subst e;obtain⟨t,rfl⟩:=f;exact⟨.int_int c d b t,.int_int c d b t,.int_int c d b t⟩
  |str b=>have e:=i9.mp h;subst e;obtain⟨t,rfl⟩:=f;exact⟨.int_str c d b t,.int_str c d b t,.int_str c d b t⟩
  |lst n=>obtain⟨a,r,rfl,q,_⟩:=dJ.mp h;cases f;obtain⟨k,_,l⟩:=HJ j q;exact⟨.int_list c d l g,.int_list c d l g,.int_list c d l g⟩
  |tup n=>obtain⟨a,r,rfl,q,_⟩:=fQ.mp h;cases f;obtain⟨k,_,l⟩:=HI j q;exact⟨.int_tuple c d l g,.int_tuple c d l g,.int_tuple c d l g⟩
  |_=>simp[kq]at i
 |str c=>
  have e:=i9.mp y;subst e;obtain⟨d,rfl⟩:=x;cases v with
  |eJ=>have e:=iu.mp h;subst e;cases f;exact⟨.str_none c d,.str_none c d,.str_none c d⟩
  |bl b=>have e:=dt.mp h;subst e;cases f;exact⟨.str_bool c d b,.str_bool c d b,.str_bool c d b⟩
  |int b=>have e:=cg.mp h;subst e;obtain⟨t,rfl⟩:=f;exact⟨.str_int c d b t,.str_int c d b t,.str_int c d b t⟩
  |str b=>have e:=i9.mp h;subst e;obtain⟨t,rfl⟩:=f;exact⟨.str_str c d b t,.str_str c d b t,.str_str c d b t⟩
  |lst n=>obtain⟨a,r,rfl,q,_⟩:=dJ.mp h;cases f;obtain⟨k,_,l⟩:=HJ j q;exact⟨.str_list c d l g,.str_list c d l g,.str_list c d l g⟩
  |tup n=>obtain⟨a,r,rfl,q,_⟩:=fQ.mp h;cases f;obtain⟨k,_,l⟩:=HI j q;exact⟨.str_tuple c d l g,.str_tuple c d l g,.str_tuple c d l g⟩
  |_=>simp[kq]at i
 |_=>simp[kq]at u
theorem A9.refs(a:RcAt A s (.ref l) (.ref b) k)(c:RcNeAt A s (.ref l) (.ref b) (!k))(h:l=b->k=Z'):A9 A s (.ref l) (.ref b) k:=by
 refine⟨a,c,?_⟩;by_cases e:l=b
 ·subst e;rw[h rfl];exact .same _
 ·exact .of_refs e a
theorem NN{b a:List D}(h:b.length≠a.length):qL b a=false:=by
 rw[we];have:(b.length==a.length)=false:=by simpa using h
 rw[this,LP]
theorem Gk{m:Nat}{d c:List D}{b a:List af}(ih:∀(h g:D) (l k:V) (t p:af),kq h n=Z'->kq g m=Z'->dg K H h l->dg K H g k->RelV l t->RelV k p->A9 A s t p (rG h g))(L:oO d n=Z')(J:oO c m=Z')(r:bx K H d i)(q:bx K H c o)(w:cK i b)(x:cK o a)(j:Nat)(P:j<b.toArray.size)(O:j<a.toArray.size):
  EqAt A s b.toArray[j] a.toArray[j] (rG (d.getD j .eJ) (c.getD j .eJ)):=by
 have X:d.length=b.length:=r.length.trans w.length;have U:c.length=a.length:=q.length.trans x.length;have f:j<b.length:=by simpa using P
 have e:j<a.length:=by simpa using O
 have z:d[j]?=Y (d.getD j .eJ):=by rw[LN,aU (by omega)];rfl
 have y:c[j]?=Y (c.getD j .eJ):=by rw[LN,aU (by omega)];rfl
 obtain⟨v,T,I⟩:=r.get z;obtain⟨u,S,G⟩:=q.get y;obtain⟨C,R,F⟩:=w.get T;obtain⟨B,Q,E⟩:=x.get S;have N:b.toArray[j]=C:=by
  have:b[j]?=Y b.toArray[j]:=by simp[f]
  rw[R]at this;exact(bR this).symm
 have W:a.toArray[j]=B:=by
  have:a[j]?=Y a.toArray[j]:=by simp[e]
  rw[Q]at this;exact(bR this).symm
 rw[N,W];exact(ih _ _ _ _ _ _ (AU L z) (AU J y) I G F E).eq
theorem Ny(g:pM P w H s.heap):∀(n:Nat){A:cf}(_:A.units+n<rP) (J F:D) (m:Nat) (Q O:V) (S R:af),kq J n=Z'->kq F m=Z'->dg K H J Q->dg K H F O->RelV Q S->RelV O R ->
  A9 A s S R (rG J F):=by
 intro n
 induction n with
 |zero=>intro A hu J F m Q O S R C k I o G i;exact JE g (by omega) C k I o G i
 |succ n ih=>
  intro A hu J F m Q O S R C k I o G i;have d:A.units<rP:=by omega
  have ZG:=λ(m':Nat)=>λ(J F:D) (Q O:V) (S R:af)=>ih (A:=A.in1) (by show A.units+1+n<rP;omega) J F m' Q O S R
  cases J with
  |lst p=>
   obtain⟨a,vs,rfl,X,W⟩:=dJ.mp I;cases G;obtain⟨r,U,l⟩:=HJ g X;cases F with
   |lst h=>
    obtain⟨b,us,rfl,x,z⟩:=dJ.mp o;cases i;obtain⟨f,L,q⟩:=HJ g x;have B:=C;have N:=k;simp only[kq,aH,Nat.add_sub_cancel]at B N;have v:r.toArray.size=p.length:=by rw[aY];exact(W.length.trans U.length).symm
    have y:f.toArray.size=h.length:=by rw[aY];exact(z.length.trans L.length).symm
    have u:a=b->qL p h=true:=λe=>by subst e;rw[X]at x;cases x;rw[<- bx.inj p h _ _ B.2 N.2 W z];exact qc p _ B.2
    show A9 A s _ _ (qL p h);by_cases hl:p.length=h.length
    ·have E:qL p h=(cI r.toArray.size).all (λj=>rG (p.getD j .eJ) (h.getD j .eJ)):=by rw[we,<- hl,QU,v];simp
     have it:=Gk (ZG _) B.2 N.2 W z U L;exact .refs (by rw[E];exact .lists l q (by omega) d it) (by rw[E];exact .lists l q (by omega) d it) u
    ·have E:=NN hl;have Jq:(r.toArray.size != f.toArray.size)=true:=by rw[v,y];simpa using hl
     refine .refs ?_ ?_ u
     ·rw[E];exact .lists_lengths l q Jq d
     ·rw[E];exact .lists_lengths l q Jq d
   |tup h=>obtain⟨b,us,rfl,x,z⟩:=fQ.mp o;cases i;obtain⟨f,L,q⟩:=HI g x;exact⟨.list_tuple l q d,.list_tuple l q d,.list_tuple l q d⟩
   |eJ=>have e:=iu.mp o;subst e;cases i;exact⟨.list_none l d,.list_none l d,.list_none l d⟩
   |bl b=>have e:=dt.mp o;subst e;cases i;exact⟨.list_bool b l d,.list_bool b l d,.list_bool b l d⟩
   |int b=>have e:=cg.mp o;subst e;obtain⟨t,rfl⟩:=i;exact⟨.list_int b t l d,.list_int b t l d,.list_int b t l d⟩
   |str b=>have e:=i9.mp o;subst e;obtain⟨t,rfl⟩:=i;exact⟨.list_str b t l d,.list_str b t l d,.list_str b t l d⟩
   |_=>simp[kq]at k
  |tup p=>
   obtain⟨a,vs,rfl,X,W⟩:=fQ.mp I;cases G;obtain⟨r,U,l⟩:=HI g X;cases F with
   |tup h=>
    obtain⟨b,us,rfl,x,z⟩:=fQ.mp o;cases i;obtain⟨f,L,q⟩:=HI g x;have B:=C;have N:=k;simp only[kq,aH,Nat.add_sub_cancel]at B N;have v:r.toArray.size=p.length:=by rw[aY];exact(W.length.trans U.length).symm
    have y:f.toArray.size=h.length:=by rw[aY];exact(z.length.trans L.length).symm
    have u:a=b->qL p h=true:=λe=>by subst e;rw[X]at x;cases x;rw[<- bx.inj p h _ _ B.2 N.2 W z];exact qc p _ B.2
    show A9 A s _ _ (qL p h);have E:qL p h=((cI (min r.toArray.size f.toArray.size)).all (λj=>rG (p.getD j .eJ) (h.getD j .eJ))&&r.toArray.size==f.toArray.size):=by rw[we,v,y]
    have it:=Gk (ZG _) B.2 N.2 W z U L;exact .refs (by rw[E];exact .tuples l q d it) (by rw[E];exact .tuples l q d it) u
   |lst h=>obtain⟨b,us,rfl,x,z⟩:=dJ.mp o;cases i;obtain⟨f,L,q⟩:=HJ g x;exact⟨.tuple_list l q d,.tuple_list l q d,.tuple_list l q d⟩
   |eJ=>have e:=iu.mp o;subst e;cases i;exact⟨.tuple_none l d,.tuple_none l d,.tuple_none l d⟩
   |bl b=>have e:=dt.mp o;subst e;cases i;exact⟨.tuple_bool b l d,.tuple_bool b l d,.tuple_bool b l d⟩
   |int b=>have e:=cg.mp o;subst e;obtain⟨t,rfl⟩:=i;exact⟨.tuple_int b t l d,.tuple_int b t l d,.tuple_int b t l d⟩
   |str b=>have e:=i9.mp o;subst e;obtain⟨t,rfl⟩:=i;exact⟨.tuple_str b t l d,.tuple_str b t l d,.tuple_str b t l d⟩
   |_=>simp[kq]at k
  |ku p=>simp[kq]at C|ins c ks T=>simp[kq]at C|ig ks T=>simp[kq]at C|obj=>simp[kq]at C|eH=>simp[kq]at C|_=>exact JE g d rfl k I o G i
end
noncomputable def fh(x y:D):Option D:=if (kq x 180&&kq y 180)=Z' then Y (.bl (rG x y)) else M
noncomputable def vK(x y:D):Option D:=if (kq x 180&&kq y 180)=Z' then Y (.bl (!rG x y)) else M
section
variable {X:Cx}
theorem gF(h:f' k X.A):Bg X (eY .Eq) fh:=by
 intro e s n H x y v u Q I g f ⟨G,m,l,d,c,j,i,a,q⟩;unfold fh at a;split at a
 ·rename_i b;rw[aH]at b;cases a;have o:=h.un;exact(Ny (K:=X.K) I.jo 180 (A:=X.A) (by omega) m l 180 x y v u b.1 b.2 (j.all c) (i.all c) g f).rc _ _ _ _ ⟨.bl _,H,I,rfl,q _ G H (.refl c) (dt.mpr rfl)⟩
 ·cases a
theorem z0(h:f' k X.A):Bg X (eY .NotEq) vK:=by
 intro e s n H x y v u Q I g f ⟨G,m,l,d,c,j,i,a,q⟩;unfold vK at a;split at a
 ·rename_i b;rw[aH]at b;cases a;have o:=h.un;exact(Ny (K:=X.K) I.jo 180 (A:=X.A) (by omega) m l 180 x y v u b.1 b.2 (j.all c) (i.all c) g f).ne _ _ _ _ ⟨.bl _,H,I,rfl,q _ G H (.refl c) (dt.mpr rfl)⟩
 ·cases a
noncomputable def QM:D->D->Option D
 |.int i,.int j=>Y (.bl (decide (i<j)))|_,_=>M
noncomputable def vj:D->D->Option D
 |.int i,.int j=>Y (.bl (decide (j<i)))|_,_=>M
noncomputable def SD:D->D->Option D
 |.int i,.int j=>Y (.bl (decide (j<=i)))|_,_=>M
theorem Cr{f:af->af->Sem af}{g':Int->Int->D}(h:oU X f (rI C g))(a:∀x y d,o x y=Y d->∃i j,x=.int i/\y=.int j/\C i j/\d=g' i j)(b:∀i j G,dg X.K G (g' i j) (g i j)):Bg X f o:=
 oU.imp h <|by rintro x y H Q ⟨G,p,n,d,l,k,e,m,q⟩;obtain⟨i,j,rfl,rfl,c,rfl⟩:=a _ _ _ m;exact⟨i,j,k.int,e.int,c,q _ G H (.refl l) (b i j G)⟩
theorem Ja{f:af->af->Sem af}(h:oU X f (Oo g)):oU X f (rI (λ_ _=>True) g):=oU.imp h λx y H Q ⟨i,j,b,a,_,q⟩=>⟨i,j,b,a,q⟩
theorem Jb:Bg X (eY .Lt) QM:=Cr (Ja VO) (g':=λi j =>.bl (decide (i<j))) (λx y d h=>by unfold QM at h;split at h<;>cases h;exact⟨_,_,rfl,rfl,trivial,rfl⟩) λi j G=>dt.mpr rfl
theorem vJ:Bg X (eY .Gt) vj:=Cr (Ja VP) (g':=λi j =>.bl (decide (j<i))) (λx y d h=>by unfold vj at h;split at h<;>cases h;exact⟨_,_,rfl,rfl,trivial,rfl⟩) λi j G=>dt.mpr rfl
theorem VT:Bg X (eY .GtE) SD:=Cr (Ja VQ) (g':=λi j =>.bl (decide (j<=i))) (λx y d h=>by unfold SD at h;split at h<;>cases h;exact⟨_,_,rfl,rfl,trivial,rfl⟩) λi j G=>dt.mpr rfl
noncomputable def me:D->D->Option D
 |.int i,.int j=>Y (.int (i-j))|_,_=>M
theorem ny:Bg X (eL .Sub) me:=Cr (Ja Si) (g':=λi j =>.int (i-j)) (λx y d h=>by unfold me at h;split at h<;>cases h;exact⟨_,_,rfl,rfl,trivial,rfl⟩) λi j G=>cg.mpr rfl
noncomputable def iX:D->D->Option D
 |.int i,.int j=>if 0<j then Y (.int (i%j)) else M
 |_,_=>M
theorem fu:Bg X (eL .Mod) iX:=Cr So (g':=λi j =>.int (i%j)) (λx y d h=>by
 unfold iX at h;split at h<;>try (cases h;done)
 split at h<;>cases h;exact⟨_,_,rfl,rfl,by assumption,rfl⟩) λi j G=>cg.mpr rfl
noncomputable def kC:D->D->Option D
 |.int i,.int j=>if 0<j/\j<2 ^ 64 then Y (.int (i/j)) else M
 |_,_=>M
theorem MK:oU X (eL .FloorDiv) (rI (λ_ j=>0<j/\j<2 ^ 64) λi j =>.int (i/j)):=VR λi j _ _ _ _ _ a q=>by
 have d:(0:Int)<j:=a.1;have c:j<2 ^ 64:=a.2;have b:j.natAbs<2 ^ 64:=by omega
 refine floordiv_int (by omega) (by rw[LO i (by omega)];exact q) (.inl (PyProof.noPylong_of_log2 ?_));have:=(Nat.log2_lt (n:=j.natAbs) (k:=64) (by omega)).mpr b;omega
theorem kK:Bg X (eL .FloorDiv) kC:=Cr MK (g':=λi j =>.int (i/j)) (λx y d h=>by
 unfold kC at h;split at h<;>try (cases h;done)
 split at h<;>cases h;exact⟨_,_,rfl,rfl,by assumption,rfl⟩) λi j G=>cg.mpr rfl
noncomputable def ez:Nat:=1000000
theorem iB:ez<=br:=by rw[jO];decide
def gu:D->D->Option D
 |.int i,.int j=>Y (.int (i+j))|.str x,.str y=>if x.length+y.length<=ez then Y (.str (x++y)) else M
 |.lst xs,.lst a=>if xs.length+a.length<=ez then Y (.lst (xs++a)) else M
 |_,_=>M
theorem gG:Bg X (eL .Add) gu:=by
 refine oU.imp (Su.or (HG.or Sq)) λx y H Q ⟨G,u,t,d,e,h,g,c,q⟩ =>?_
 unfold gu at c;split at c<;>try (cases c;done)
 ·cases c;exact .inl ⟨_,_,h.int,g.int,q _ G H (.refl e) (cg.mpr rfl)⟩
 ·split at c
  ·cases c;rename_i f;exact .inr (.inl ⟨_,_,h.str,g.str,bX f iB,q _ G H (.refl e) (i9.mpr rfl)⟩)
  ·cases c
 ·split at c
  ·cases c;rename_i f;obtain⟨a,l,s,o,j⟩:=h.lst e;obtain⟨b,m,r,n,i⟩:=g.lst e;refine .inr (.inr ⟨a,b,l,m,s,r,o,n,?_,λp k=>q _ _ _ (gO.alloc (p:=p) e k) ?_⟩)
   ·rw[<- j.length,<- i.length];exact bX f iB
   ·exact dJ.mpr ⟨p,_,rfl,bM,bx.mono (.alloc (e.free k)) _ (j.append i)⟩
  ·cases c
instance:DecidablePred λp:Int×Int=>Oe p.1 p.2:=λp=>by unfold Oe;infer_instance
def rF:D->D->Option D
 |.int i,.int j=>if (-(2 ^ 64)<i/\i<2 ^ 64)∨(-(2 ^ 64)<j/\j<2 ^ 64) then Y (.int (i*j)) else M
 |.lst a,.int k=>if (-(2 ^ 63)<=k/\k<2 ^ 63)/\a.length*k.toNat<=ez then Y (.lst (bL k.toNat a).flatten) else M
 |_,_=>M
theorem pI:Bg X (eL .Mult) rF:=by
 refine oU.imp (Sn.or Sm) λx y H Q ⟨G,o,n,d,c,i,h,b,q⟩ =>?_
 unfold rF at b;split at b<;>try (cases b;done)
 ·split at b
  ·cases b;rename_i l;exact .inl ⟨_,_,i.int,h.int,l,q _ G H (.refl c) (cg.mpr rfl)⟩
  ·cases b
 ·split at b
  ·cases b;rename_i e;obtain⟨a,j,m,k,f⟩:=i.lst c;refine .inr ⟨a,_,j,m,h.int,k,e.1.1,e.1.2,?_,λp g=>q _ _ _ (gO.alloc (p:=p) c g) ?_⟩
   ·rw[<- f.length];exact bX e.2 iB
   ·exact dJ.mpr ⟨p,_,rfl,bM,bx.mono (.alloc (c.free g)) _ (f.rep _)⟩
  ·cases b
noncomputable def e1(o:D->Option D)(a:DF):DF:=λρ=>(a ρ).bind o
theorem Ea(h:e1 o a b=Y d):∃x,a b=Y x/\o x=Y d:=by
 unfold e1 at h;rcases c:a b with _|x
 ·rw[c]at h;cases h
 rw[c]at h;exact⟨x,rfl,h⟩
noncomputable def HK:D->Option D
 |.int i=>Y (.int (-i))|_=>M
theorem AO{b:List Nat}{f:DF}{c:Pos}(j:PE X a (tQ X.K b f)):PE X (.UnaryOp .USub a c) (tP X.K b (e1 HK f)):=(Q9 RD j).imp <|by
 rintro r H Q ⟨G,h,d,l,e,n,k⟩;obtain⟨x,m,g⟩:=Ea n;cases x<;>simp[HK]at g
 subst g;exact⟨G,h,_,l,e,m,λv p o q i=>⟨_,i.int,k _ p o q (cg.mpr rfl)⟩⟩
end
inductive DO where
 |nx (ρ:bZ)|rt (d:D)|ro (ds:List D)|bk (ρ:bZ)|ct (ρ:bZ)
 |rm (d:D) (ρ:bZ)
 |rf (i:Nat) (ρ:bZ)
 |ex (c:aG) (n:Int)
abbrev DG:=bZ->Option DO
structure Bs where
 g:Hp
 h:Hp
 pin:List (Nat×az)
 fly:aG->Int->Prop
def nS(K:bb)(G H:Hp):D->az->List az->Prop
 |.obj s t,a,S=>cT K G H s t (.ref a) S|.eH _ _,_,S=>S=[]|d,a,S=>(∃o,H a=Y o/\jF K G d o)/\S=[a]
noncomputable def vS:D->Bool
 |.lst _=>Z'|.ins _ _ _=>Z'|.ig _ _=>Z'|_=>Z_
theorem jF.vS{K:bb}{G:Hp}(h:jF K G d o):vS d=true:=by
 cases d<;>first|rfl|exact h.elim
theorem nS.cell{K:bb}{G H:Hp}{d:D}{a:az}{S:List az}(b:vS d=Z'):nS K G H d a S↔(∃o,H a=Y o/\jF K G d o)/\S=[a]:=by
 cases d<;>first|exact Iff.rfl|cases b
theorem nS.here{K:bb}{G H:Hp}{a:az}{S:List az}(h:nS K G H d a S):∀b∈S,∃o,H b=Y o:=λb c=>by
 cases d with
 |obj s t=>obtain⟨o,h,_⟩:=cT.here (show cT K G H s t (.ref a) S from h) b c;exact⟨o,h⟩
 |eH r p=>rw[show S=[] from h]at c;cases c
 |_=>obtain⟨⟨o,e,_⟩,rfl⟩:=h;simp at c;subst c;exact⟨o,e⟩
theorem nS.mono{K:bb}{G H G' H':Hp}{d:D}{S:List az}(g:bF G G')(k:∀b∈S,∀o,H b=Y o->H' b=Y o)(h:nS K G H d a S):nS K G' H' d a S:=by
 cases d with
 |obj s t=>exact cT.mono g k h|eH r p=>exact h|_=>obtain⟨⟨o,e,c⟩,rfl⟩:=h;exact⟨⟨o,k a (by simp) o e,jF.mono g c⟩,rfl⟩
structure qf(K:bb)(B:Bs)(own:List Nat)(G H:Hp)(σ:St)(ρ:bZ)(F:Nat->List az):Prop where
 it:∀(i:Nat) (d:D),i∈own->ρ[i]?=some (some d)->∃a,σ[i]?=some (some (.ref a))/\nS K G H d a (F i)
 ok:∀(i:Nat) (d:D),i∈own->ρ[i]?=some (some d)->(F i).Nodup/\∀b∈F i,G b=none/\B.2 b=none
 ap:∀(i j:Nat) (d c:D),i∈own->j∈own->ρ[i]?=some (some d)->ρ[j]?=some (some c)->i≠j->∀b∈F i,b∉F j
structure SR(K:bb)(B:Bs)(own:List Nat)(G H:Hp)(σ:St)(ρ:bZ):Prop where
 gh:bF G H
 g0:bF B.1 G
 h0:bF B.2 H
 fr:∀b o,G b=some o->B.1 b=some o∨B.2 b=none
 env:∀(i:Nat) (d:D),i∉own->ρ[i]?=some (some d)->∃v,σ[i]?=some (some v)/\dg K G d v
 ow:∃F,qf K B own G H σ ρ F
 len:σ.length=ρ.length
 pin:∀(i:Nat) (a:az),(i,a)∈B.3->i∈own/\σ[i]?=some (some (.ref a))
 eH:∀(j r:Nat) (p:xQ),j∈own->DC j∈own->ρ[j]?=some (some (.eH r p))->GV own H σ ρ j r p
section
variable {K:bb}{B:Bs}{own:List Nat}{G H G' H':Hp}{C:St}{A:bZ}
theorem SR.pb(S:SR K B own G H C A):gO B.1 B.2 G H:=⟨S.h0,S.g0,S.gh,S.fr⟩
theorem SR.MH(S:SR K B own G H C A)(b:i∈own)(e:A[i]?=Y (Y d))(c:vS d=Z'):∃a o,C[i]?=Y (Y (.ref a))/\H a=Y o/\jF K G d o/\G a=M/\B.2 a=none:=by
 obtain⟨F,W⟩:=S.ow;obtain⟨a,n,m⟩:=W.it i d b e;obtain⟨⟨o,l,k⟩,j⟩:=(nS.cell c).mp m;obtain⟨_,h⟩:=W.ok i d b e;obtain⟨g,f⟩:=h a (by rw[j];simp);exact⟨a,o,n,l,k,g,f⟩
theorem SR.lV(S:SR K B own G H C A):lb K own G H C A:=⟨S.len,λi d e=>by
 by_cases j:i∈own
 ·obtain⟨F,W⟩:=S.ow;obtain⟨a,q,f⟩:=W.it i d j e;refine⟨_,q,?_⟩;rw[if_pos j];obtain⟨_,m⟩:=W.ok i d j e;cases d with
  |obj s t=>
   have f:cT K G H s t (.ref a) (F i):=f;generalize F i=u at f m;cases f with
   |leaf r=>exact .inl (qx.mpr r)|lst e t=>exact .inr ⟨a,_,rfl,e,_,.lst e t,λb k=>(m b k).1⟩
   |ins n e l t=>exact .inr ⟨a,_,rfl,e,_,.ins n e l t,λb k=>(m b k).1⟩
   |ig e l t=>exact .inr ⟨a,_,rfl,e,_,.ig e l t,λb k=>(m b k).1⟩
  |eH r p=>exact .inl (sU.mpr ⟨a,rfl⟩)|lst=>obtain⟨⟨o,g,c⟩,h⟩:=f;exact .inr ⟨a,o,rfl,g,c⟩
  |ins=>obtain⟨⟨o,g,c⟩,h⟩:=f;exact .inr ⟨a,o,rfl,g,c⟩
  |ig=>obtain⟨⟨o,g,c⟩,h⟩:=f;exact .inr ⟨a,o,rfl,g,c⟩
  |_=>obtain⟨⟨o,g,c⟩,h⟩:=f;exact c.elim
 ·obtain⟨v,q,f⟩:=S.env i d j e;exact⟨v,q,by rw[if_neg j];exact f⟩,S.eH⟩
theorem hI{l:List (Option b)}(h:(l.set i (Y x))[j]?=Y (Y y)):(i=j/\y=x/\i<l.length)∨(i≠j/\l[j]?=Y (Y y)):=by
 by_cases e:i=j
 ·subst e;by_cases a:i<l.length
  ·rw[b9 a]at h;cases h;exact .inl ⟨rfl,rfl,a⟩
  ·rw[kH (by simpa using a)]at h;cases h
 ·rw[aw e]at h;exact .inr ⟨e,h⟩
theorem qU{l:List (Option a)}(h:i<l.length):(l.set i (Y x))[i]?=Y (Y x):=by rw[b9 h]
theorem qf.ext{F:Nat->List az}(W:qf K B own G H C A F)(E:gO G H G' H'):qf K B own G' H' C A F:=by
 refine⟨λi d c e =>?_,λi d c e =>?_,W.ap⟩
 ·obtain⟨a,h,g⟩:=W.it i d c e;exact⟨a,h,g.mono E.gg λb _ o=>E.hh b o⟩
 ·obtain⟨a,h,g⟩:=W.it i d c e;obtain⟨n,k⟩:=W.ok i d c e;refine⟨n,λb f=>⟨?_,(k b f).2⟩⟩;obtain⟨o,j⟩:=g.here b f;rcases q:G' b with _|u
  ·rfl
  rcases E.fr b u q with z|z
  ·rw[(k b f).1]at z;cases z
  ·rw[j]at z;cases z
theorem SR.ext(S:SR K B own G H C A)(E:gO G H G' H'):SR K B own G' H' C A:=by
 refine⟨E.gh,S.g0.trans E.gg,S.h0.trans E.hh,λb o e =>?_,λi d a e =>?_,?_,S.len,S.pin,λj r p f c e=>(S.eH j r p f c e).ext E.hh⟩
 ·rcases E.fr b o e with q|q
  ·exact S.fr b o q
  ·exact .inr (S.h0.free q)
 ·obtain⟨v,h,g⟩:=S.env i d a e;exact⟨v,h,dg.mono E.gg d g⟩
 ·obtain⟨F,W⟩:=S.ow;exact⟨F,W.ext E⟩
theorem SR.zp{v:V}(S:SR K B own G H C A)(P:i∉own)(r:dg K G d v):SR K B own G H (C.set i (Y v)) (A.set i (Y d)):=by
 have f:∀j,j∈own->i≠j:=λj b e=>P (e ▸ b)
 refine⟨S.gh,S.g0,S.h0,S.fr,λj c b e =>?_,?_,by simp[S.len],λj a h=>⟨(S.pin j a h).1,by rw[aw (f j (S.pin j a h).1)];exact(S.pin j a h).2⟩,λj k p q R e =>?_⟩
 ·rcases hI e with⟨rfl,rfl,D⟩|⟨n,e⟩
  ·exact⟨v,qU (by rw[S.len];exact D),r⟩
  ·obtain⟨u,l,g⟩:=S.env j c b e;exact⟨u,by rw[aw n];exact l,g⟩
 ·obtain⟨F,W⟩:=S.ow;have m:∀j c,j∈own->(A.set i (Y d))[j]?=Y (Y c)->A[j]?=Y (Y c):=λj c b e=>by rw[aw (f j b)]at e;exact e
  refine⟨F,λj c b e =>?_,λj c b e=>W.ok j c b (m j c b e),λj k c t b s U T=>W.ap j k c t b s (m j c b U) (m k t s T)⟩;obtain⟨a,l,g⟩:=W.it j c b (m j c b e);exact⟨a,by rw[aw (f j b)];exact l,g⟩
 ·rw[aw (f j q)]at e;obtain⟨o,Q,z,y,E,w,x,l,g,e3,X⟩:=S.eH j k p q R e;exact⟨o,Q,z,y,E,w,x,by rw[aw (f k o)];exact l,by rw[aw (f k o)];exact g,by rw[aw (f j q)];exact e3,X⟩
theorem SR.Io{i:Nat}{a:az}{d':D}{S' F0:List az}{F:Nat->List az}(S:SR K B own G H C A)(W:qf K B own G H C A F)(hi:i∈own)(h0:∀b∈F0,b∈F i/\∃d,A[i]?=Y (Y d))(gg:bF G G')(gh:bF G' H')(fr:∀b o,G' b=Y o->G b=Y o∨H b=M∨b∈F0)(v:∀b o,b∉F0->H b=Y o->H' b=Y o)(nw:nS K G' H' d' a S')(nd:S'.Nodup)(nf:∀b∈S',G' b=M/\(b∈F0∨H b=M∨(B.2 b=M/\∀k c,k∈own->A[k]?=Y (Y c)->k≠i->b∉F k)))(Yz:∀b,(i,b)∈B.3->b=a)(hna:∀r p,d' ≠ .eH r p)(ha:∀j p,j∈own->DC j∈own->j≠i->A[j]?=Y (Y (.eH i p))->∃s t s' v',d'=.obj s t/\C[j]?=Y (Y v')/\gY H' p (.ref a)=Y v'/\mx p s=Y s'):
  SR K B own G' H' (C.set i (Y (.ref a))) (A.set i (Y d'))/\qf K B own G' H' (C.set i (Y (.ref a))) (A.set i (Y d')) (λj=>if j=i then S' else F j):=by
 have b0:∀b∈F0,G b=M/\B.2 b=none:=λb g=>by obtain⟨X,d,U⟩:=h0 b g;exact(W.ok i d hi U).2 b X
 have P:∀j c,j∈own->A[j]?=Y (Y c)->i≠j->∀b∈F j,b∉F0:=λj c l ej f b g Ts=>by obtain⟨X,d,U⟩:=h0 b Ts;exact W.ap i j d c hi l U ej f b X g
 have W':qf K B own G' H' (C.set i (Y (.ref a))) (A.set i (Y d')) (λj=>if j=i then S' else F j):=by
  refine⟨λj c l e =>?_,λj c l e =>?_,λj k c c' l hk ej ek Xo =>?_⟩
  ·rcases hI e with⟨rfl,rfl,Q⟩|⟨f,e⟩
   ·exact⟨a,qU (by rw[S.len];exact Q),by simpa using nw⟩
   ·obtain⟨b,R,I⟩:=W.it j c l e;refine⟨b,by rw[aw f];exact R,?_⟩;simp only[if_neg (cL f)];exact I.mono gg λx hx o=>v x o (P j c l e f x hx)
  ·rcases hI e with⟨rfl,rfl,Q⟩|⟨f,e⟩
   ·simp only[if_true];refine⟨nd,λb g=>⟨(nf b g).1,?_⟩⟩;rcases(nf b g).2 with z|z|z
    ·exact(b0 b z).2
    ·exact S.h0.free z
    ·exact z.1
   ·simp only[if_neg (cL f)];obtain⟨n,k⟩:=W.ok j c l e;obtain⟨x,R,I⟩:=W.it j c l e;refine⟨n,λb g=>⟨?_,(k b g).2⟩⟩;rcases q:G' b with _|u
    ·rfl
    rcases fr b u q with z|z|z
    ·rw[(k b g).1]at z;cases z
    ·obtain⟨o,ho⟩:=I.here b g;rw[ho]at z;cases z
    ·exact absurd z (P j c l e f b g)
  ·have y:∀m c,m∈own->A[m]?=Y (Y c)->i≠m->∀b∈S',b∉F m:=λm c hm em f b g T=>by
    rcases(nf b g).2 with z|z|z
    ·exact P m c hm em f b T z
    ·obtain⟨x,R,I⟩:=W.it m c hm em;obtain⟨o,ho⟩:=I.here b T;rw[ho]at z;cases z
    ·exact z.2 m c hm em (cL f) T
   rcases hI ej with⟨rfl,rfl,Q⟩|⟨f,ej1⟩
   ·rcases hI ek with⟨rfl,_,_⟩|⟨f,YY⟩
    ·exact absurd rfl Xo
    ·simp only[if_true,if_neg (cL f)];exact y k c' hk YY f
   ·rcases hI ek with⟨rfl,rfl,Q⟩|⟨YD,YY⟩
    ·simp only[if_true,if_neg (cL f)];exact λb g Tt=>y j c l ej1 f b Tt g
    ·simp only[if_neg (cL f),if_neg (cL YD)];exact W.ap j k c c' l hk ej1 YY Xo
 refine⟨⟨gh,S.g0.trans gg,λb o e =>?_,λb o e =>?_,λj c l e =>?_,⟨_,W'⟩,by simp[S.len],λj b h =>?_,λj r p X U e =>?_⟩,W'⟩
 ·refine v b o (λz =>?_) (S.h0 b o e);rw[(b0 b z).2]at e;cases e
 ·rcases fr b o e with z|z|z
  ·exact S.fr b o z
  ·exact .inr (S.h0.free z)
  ·exact .inr (b0 b z).2
 ·have f:i≠j:=λz=>l (z ▸ hi)
  rw[aw f]at e;obtain⟨u,R,I⟩:=S.env j c l e;exact⟨u,by rw[aw f];exact R,dg.mono gg c I⟩
 ·obtain⟨p1,p2⟩:=S.pin j b h;refine⟨p1,?_⟩;by_cases UN:i=j
  ·subst UN;rw[Yz b h,b9 (aj.mp p2).1]
  ·rw[aw UN];exact p2
 ·rcases hI e with⟨rfl,z,Q⟩|⟨f,e'⟩
  ·exact absurd z.symm (hna r p)
  ·clear e;have e:=e';clear e';by_cases E:r=i
   ·subst E;obtain⟨s,t,s',v',f1,f2,f3,f4⟩:=ha j p X U (cL f) e;obtain⟨g1,g0,s0,t0,s1,w,v1,g2,g3,g4,g5,g6,g7⟩:=S.eH j r p X U e;have Q:r<A.length:=(aj.mp g2).1;refine⟨hi,g0,s,t,s',.ref a,v',?_,qU (by rw[S.len];exact Q),?_,f3,f4,g7⟩
    ·rw[qU Q,f1]
    ·rw[aw f];exact f2
   ·obtain⟨g1,g0,s0,t0,s1,w,v1,g2,g3,g4,g5,g6⟩:=S.eH j r p X U e;obtain⟨x,R,I⟩:=W.it r _ g1 g2;rw[g3]at R;cases R;refine⟨g1,g0,s0,t0,s1,.ref x,v1,by rw[aw (cL E)];exact g2,by rw[aw (cL E)];exact g3,by rw[aw f];exact g4,?_,g6⟩;exact cT.D2 (show cT K G H s0 t0 (.ref x) (F r) from I) g6.1 (λb g o=>v b o (P r _ g1 g2 (cL E) b g)) g5
theorem SR.chg{i:Nat}{a:az}{d':D}{S' F0:List az}{F:Nat->List az}(S:SR K B own G H C A)(W:qf K B own G H C A F)(q:i∈own)(v:∀b∈F0,b∈F i/\∃d,A[i]?=Y (Y d))(x:bF G G')(w:bF G' H')(y:∀b o,G' b=Y o->G b=Y o∨H b=M∨b∈F0)(c:∀b o,b∉F0->H b=Y o->H' b=Y o)(m:nS K G' H' d' a S')(n:S'.Nodup)(h:∀b∈S',G' b=M/\(b∈F0∨H b=M))(e:∀b,(i,b)∈B.3->b=a)(f:∀r p,d' ≠ .eH r p)(u:∀j p,j∈own->DC j∈own->j≠i->A[j]?=Y (Y (.eH i p))->∃s t l g,d'=.obj s t/\C[j]?=Y (Y g)/\gY H' p (.ref a)=Y g/\mx p s=Y l):
  SR K B own G' H' (C.set i (Y (.ref a))) (A.set i (Y d')):=
 (S.Io W q v x w y c m n (λb k=>⟨(h b k).1,by rcases(h b k).2 with z|z;exact .inl z;exact .inr (.inl z)⟩) e f u).1
theorem SR.Rb(S:SR K B own G H C A)(b:A[i]?=Y (Y d))(c:vS d=Z'):∀j p,j∈own->DC j∈own->A[j]?=Y (Y (.eH i p))->False:=λj p g f e=>by
 obtain⟨n,o,m,k,l,w,h,a,_⟩:=S.eH j i p g f e;rw[b]at a;cases a;cases c
theorem En(a:vS d=Z'):∀r p,d ≠ .eH r p:=λr p e=>by subst e;cases a
theorem SR.setC(S:SR K B own G H C A)(m:i∈own)(E:gO G H G' H')(k:H p=M)(t:G' p=M)(g:H' p=Y o)(r:jF K G' d o)(c:∀a,(i,a)∉B.3)(l:Cu i∉own):SR K B own G' H' (C.set i (Y (.ref p))) (A.set i (Y d)):=by
 obtain⟨F,W⟩:=S.ow;exact S.chg (F0:=[]) (S':=[p]) W m (λb f=>by cases f) E.gg E.gh (λb o e=>by rcases E.fr b o e with z|z;exact .inl z;exact .inr (.inl z)) (λb o _ e=>E.hh b o e)
  ((nS.cell r.vS).mpr ⟨⟨o,g,r⟩,rfl⟩) (by simp) (λb f=>by simp at f;subst f;exact⟨t,.inr k⟩) (λb h=>absurd h (c b)) (En r.vS) (λj q s n _ e=>(l (S.eH j i q s n e).2.1).elim)
theorem SR.VX{f:HO}(S:SR K B own G H C A)(m:i∈own)(g:A[i]?=Y (Y d))(l:C[i]?=Y (Y (.ref a)))(r:jF K G p f)(s:vS d=true:=by rfl):SR K B own G (eN H a f) C (A.set i (Y p)):=by
 obtain⟨F,W⟩:=S.ow;obtain⟨D,v,y⟩:=W.it i d m g;rw[l]at v;cases v;obtain⟨⟨o,E,z⟩,u⟩:=(nS.cell s).mp y;obtain⟨n,k⟩:=W.ok i d m g;rw[u]at k;have t:G a=none:=(k a (by simp)).1;have:=S.chg (i:=i) (a:=a) (d':=p) (F0:=[a]) (S':=[a]) (G':=G) (H':=eN H a f) W m (λb c=>⟨by rw[u];exact c,d,g⟩) (bF.refl _) (λb o e=>by rw[bz (bW e t)];exact S.gh b o e) (λb o e =>.inl e)
  (λb o c e=>by rw[bz (by simpa using c)];exact e) ((nS.cell r.vS).mpr ⟨⟨f,bM,r⟩,rfl⟩) (by simp) (λb c=>by simp at c;subst c;exact⟨t,.inl (by simp)⟩)
  (λb h=>by have:=(S.pin i b h).2;rw[l]at this;cases this;rfl) (En r.vS) (λj q x w _ e=>(S.Rb g s j q x w e).elim)
 rwa [iD l]at this
theorem SR.OU{p:az}(S:SR K B own G H C A)(h:i∈own)(E:gO G H G' H')(f:H p=M)(j:G' p=M)(e:H' p=Y (.lst c))(r:bx K G' d c)(b:∀a,(i,a)∉B.3)(g:Cu i∉own):SR K B own G' H' (C.set i (Y (.ref p))) (A.set i (Y (.lst d))):=
 S.setC h E f j e ⟨c,rfl,r⟩ b g
theorem SR.mut{g:List D}(S:SR K B own G H C A)(e:i∈own)(f:A[i]?=Y (Y (.lst g)))(d:C[i]?=Y (Y (.ref a)))(r:bx K G c b):SR K B own G (eN H a (.lst b)) C (A.set i (Y (.lst c))):=
 S.VX e f d ⟨b,rfl,r⟩
theorem SR.freeze{own':List Nat}(S:SR K B own G H C A)(f:∀j∈own',j∈own)(i:Nat)(Q:∀j∈own,j∈own'∨j=i)(hn:i∉own')(P:i∈own)(U:∀a,(i,a)∉B.3)(T:Cu i∉own)(Wi:i<1000000):∃G',SR K B own' G' H C A:=by
 obtain⟨F,W⟩:=S.ow;have I:∀(j:Nat) (a:az),(j,a)∈B.3->j∈own'/\C[j]?=Y (Y (.ref a)):=λj a h=>⟨by
  rcases Q j (S.pin j a h).1 with z|z
  ·exact z
  ·subst z;exact absurd h (U a),(S.pin j a h).2⟩
 by_cases R:∃d,A[i]?=Y (Y d)
 ·obtain⟨d,R⟩:=R;obtain⟨a,e1,E⟩:=W.it i d P R;obtain⟨nd,k⟩:=W.ok i d P R;have n0:∀b∈F i,G b=none:=λb D=>(k b D).1
  have l:bF G (kA G H (F i)):=pY n0;have rep:dg K (kA G H (F i)) d (.ref a):=by
   cases d with
   |obj s t=>exact qx.mpr (cT.frozen n0 (λb D=>D) (show cT K G H s t (.ref a) (F i) from E))
   |eH r p=>exact sU.mpr ⟨a,rfl⟩|eJ=>obtain⟨⟨o,q,g⟩,x⟩:=E;exact g.elim
   |bl=>obtain⟨⟨o,q,g⟩,x⟩:=E;exact g.elim
   |int=>obtain⟨⟨o,q,g⟩,x⟩:=E;exact g.elim
   |str=>obtain⟨⟨o,q,g⟩,x⟩:=E;exact g.elim
   |tup=>obtain⟨⟨o,q,g⟩,x⟩:=E;exact g.elim
   |ku=>obtain⟨⟨o,q,g⟩,x⟩:=E;exact g.elim
   |_=>obtain⟨⟨o,q,g⟩,x⟩:=E;exact(jF.mono l g).rep (by rw[qz (by rw[x];simp)];exact q)
  refine⟨kA G H (F i),n6 S.gh,S.g0.trans l,S.h0,λb o e =>?_,λj c n e =>?_,⟨F,λj c n e =>?_,λj c n e =>?_,λj m c c' n T=>W.ap j m c c' (f j n) (f m T)⟩,S.len,I,λj r p h1 h2 e =>?_⟩
  ·by_cases D:b∈F i
   ·exact .inr (k b D).2
   ·rw[oz D]at e;exact S.fr _ _ e
  ·by_cases v:j∈own
   ·rcases Q j v with z|z
    ·exact absurd z n
    ·subst z;rw[R]at e;cases e;exact⟨_,e1,rep⟩
   ·obtain⟨u,q,g⟩:=S.env j c v e;exact⟨u,q,dg.mono l c g⟩
  ·obtain⟨b,q,g⟩:=W.it j c (f j n) e;exact⟨b,q,g.mono l λ_ _ _ z=>z⟩
  ·obtain⟨nd',k'⟩:=W.ok j c (f j n) e;refine⟨nd',λb D=>⟨?_,(k' b D).2⟩⟩;have Jq:i≠j:=λz=>hn (z ▸ n)
   rw[oz (λz=>W.ap i j d c P (f j n) R e Jq b z D)];exact(k' b D).1
  ·obtain⟨g1,X,s0,t0,s1,w,v1,g2,g3⟩:=S.eH j r p (f j h1) (f _ h2) e;rcases Q r g1 with z|z
   ·rcases Q _ X with y|y
    ·exact⟨z,y,s0,t0,s1,w,v1,g2,g3⟩
    ·unfold Cu at y;omega
   ·subst z;exact absurd X T
 ·refine⟨G,S.gh,S.g0,S.h0,S.fr,λj c n e =>?_,⟨F,λj c n e=>W.it j c (f j n) e,λj c n e=>W.ok j c (f j n) e,λj m c c' n T=>W.ap j m c c' (f j n) (f m T)⟩,S.len,I,λj r p h1 h2 e =>?_⟩
  ·by_cases v:j∈own
   ·rcases Q j v with z|z
    ·exact absurd z n
    ·subst z;exact absurd ⟨c,e⟩ R
   ·exact S.env j c v e
  ·obtain⟨g1,X,s0,t0,s1,w,v1,g2,g3⟩:=S.eH j r p (f j h1) (f _ h2) e;rcases Q r g1 with z|z
   ·rcases Q _ X with y|y
    ·exact⟨z,y,s0,t0,s1,w,v1,g2,g3⟩
    ·unfold Cu at y;omega
   ·subst z;exact absurd X T
end
def Zf(K:bb)(B:Bs)(I own:List Nat)(e:Ends):DO->Prop
 |.nx A=>∀C G H,SR K B own G H C A->e.nx C H|.rt d=>∀v G H,gO B.1 B.2 G H->dg K G d v->e.rt v H|.ro g=>∀a f G H,gO B.1 B.2 G H->B.2 a=M->G a=M->H a=Y (.lst f)->bx K G g f->e.rt (.ref a) H|.bk A=>∀C G H,SR K B I G H C A->e.bk C H|.ct A=>∀C G H,SR K B I G H C A->e.ct C H
 |.rm d A=>∀v C G H,(∃b,SR K B b G H C A)->dg K G d v->e.rt v H|.rf i A=>∀v C G H,(∃b,i∈b/\SR K B b G H C A)->C[i]?=Y (Y v)->e.rt v H|.ex c n=>B.fly c n
def lq(K:bb)(B:Bs)(I own a:List Nat)(g:DG):TS:=λb C H=>∃G A o,SR K B own G H C A/\g A=Y o/\Zf K B I a b o
section
variable {X:Cx}{B:Bs}{I own own1 L:List Nat}{g h:DG}{N:cY}{O:List cY}{e:Expr}{J:Pos}
noncomputable def c9:DG:=λA=>Y (.nx A)
theorem cE:sP X [] (lq X.K B I own own c9):=Pc.imp λD C H ⟨G,A,o,S,a,k⟩=>by cases a;exact k C G H S
noncomputable def a_(g h:DG):DG:=λA=>(g A).bind λo=>match o with|.nx a=>h a|o=>Y o
theorem RW{K:bb}{e:Ends}{C:St}{H:Hp}(q:lq K B I own L (a_ g h) e C H):lq K B I own own1 g { e with nx:=λC H=>lq K B I own1 L h e C H } C H:=by
 obtain⟨G,A,o,S,a,k⟩:=q;unfold a_ at a;obtain⟨f,l,a⟩:=ae.1 a;refine⟨G,A,f,S,l,?_⟩;cases f with
 |nx b=>exact λj G' H' m=>⟨G',b,o,m,a,k⟩
 |_=>cases a;exact k
theorem ai(b:PS X N (lq X.K B I own own1 g))(a:sP X O (lq X.K B I own1 L h)):sP X (N::O) (lq X.K B I own L (a_ g h)):=(Mt b a).imp λD C H q=>RW q
theorem aJ(a:PS X N (lq X.K B I own own1 g)):sP X [N] (lq X.K B I own own1 g):=Pb a
theorem uX{b:List cY}(i:Nat)(n:sP X b (lq X.K B I own1 L g))(d:∀j∈own1,j∈own:=by decide)(m:∀j∈own,j∈own1∨j=i:=by decide)(h:i∉own1:=by decide)(f:i∈own:=by decide)(c:∀a,(i,a)∉B.3:=by intro a;simp_all)(l:Cu i∉own:=by decide)(e:i<1000000:=by decide):sP X b (lq X.K B I own L g):=
 n.imp <|by rintro D C H ⟨G,A,o,S,p,k⟩;obtain⟨G',q⟩:=S.freeze d i m h f c l e;exact⟨G',A,o,q,p,k⟩
noncomputable def dr(i:Nat)(f:DF):DG:=λA=>(f A).map λd =>.nx (A.set i (Y d))
theorem cH{i:Nat}{f:DF}(n:X.N.Nodup)(j:X.N[i]?=Y x)(c:Loc X.env.scope x)(m:PE X e (tP X.K own f))(h:i∉own:=by decide)(g:c5 e (Y (.Name x a)) J.line X.env=fm false:=by rfl)(l:X.fn x=Z'∨X.env.scope.names.lookup x=Y .local:=by first|exact .inl rfl|exact .inr rfl|assumption):
  PS X (.Assign [.Name x a] e J) (lq X.K B I own own (dr i f)):=(sh n j c m g l).imp <|by
 rintro D C H ⟨G,A,o,S,b,k⟩;unfold dr at b;obtain⟨d,p,b⟩:=aS.1 b;cases b;exact⟨G,A,d,S.gh,S.lV,p,λv G' H' E r=>k _ G' H' ((S.ext E).zp h r)⟩
noncomputable def jS(i:Nat)(f:DL):DG:=λA=>(f A).map λa =>.nx (A.set i (Y (.lst a)))
theorem nR{i:Nat}{f:DL}(u:X.N.Nodup)(q:X.N[i]?=Y x)(g:Loc X.env.scope x)(t:PE X e (tF X.K own f))(m:i∈own:=by decide)(c:∀a,(i,a)∉B.3:=by intro a;simp_all)(n:Cu i∉own:=by decide)(j:c5 e (Y (.Name x b)) J.line X.env=fm false:=by rfl)(s:X.fn x=Z'∨X.env.scope.names.lookup x=Y .local:=by first|exact .inl rfl|exact .inr rfl|assumption):
  PS X (.Assign [.Name x b] e J) (lq X.K B I own own (jS i f)):=(sh u q g t j s).imp <|by
 rintro D C H ⟨G,A,o,S,d,k⟩;unfold jS at d;obtain⟨y,w,d⟩:=aS.1 d;cases d;exact⟨G,A,y,S.gh,S.lV,w,λp z G' H' E l v h r=>k _ G' H' (S.OU m E l v h r c n)⟩
noncomputable def eE(f:DF):DG:=λA=>(f A).map .rt
theorem dA{f:DF}(b:PE X e (tP X.K own f)):PS X (.Return (Y e) J) (lq X.K B I own own1 (eE f)):=(w_ b).imp <|by
 rintro D C H ⟨G,A,o,S,a,k⟩;unfold eE at a;obtain⟨d,c,a⟩:=aS.1 a;cases a;exact⟨G,A,d,S.gh,S.lV,c,λv G' H' E r=>k v G' H' (S.pb.trans E) r⟩
noncomputable def t6(f:DL):DG:=λA=>(f A).map .ro
theorem wd{f:DL}(h:PE X e (tF X.K own f)):PS X (.Return (Y e) J) (lq X.K B I own own1 (t6 f)):=(w_ h).imp <|by
 rintro D C H ⟨G,A,o,S,a,k⟩;unfold t6 at a;obtain⟨d,j,a⟩:=aS.1 a;cases a;exact⟨G,A,d,S.gh,S.lV,j,λp b G' H' E g i c r=>k p b G' H' (S.pb.trans E) (S.h0.free g) i c r⟩
def Fi(i:Nat):DG:=λA=>(eV i A).bind λd=>match d with|.lst a=>Y (.ro a)|_=>M
theorem JM{i:Nat}(h:PE X (.Name x p) (kr i))(f:i∈own:=by decide):PS X (.Return (Y (.Name x p)) J) (lq X.K B I own own1 (Fi i)):=(w_ h).imp <|by
 rintro D C H ⟨G,A,o,S,b,k⟩;unfold Fi at b;obtain⟨d,g,b⟩:=ae.1 b;cases d<;>simp only[aa]at b<;>try (cases b;done)
 obtain⟨a,q,n,m,c,l,j⟩:=S.MH f (jg g) rfl;obtain⟨e,rfl,c⟩:=c;cases b;exact⟨_,n,k a e G H S.pb j l m c⟩
def IM(i:Nat):DG:=λA=>(eV i A).map λ_ =>.rf i A
theorem JL{i:Nat}(h:PE X (.Name x p) (kr i))(c:i∈own:=by decide):PS X (.Return (Y (.Name x p)) J) (lq X.K B I own own1 (IM i)):=(w_ h).imp <|by
 rintro D C H ⟨G,A,o,S,b,k⟩;unfold IM at b;obtain⟨d,f,b⟩:=aS.1 b;cases b;obtain⟨F,W⟩:=S.ow;obtain⟨a,e,_⟩:=W.it i d c (jg f);exact⟨_,e,k _ C G H ⟨own,c,S⟩ e⟩
noncomputable def eW(f:DT)(g h:DG):DG:=λA=>(f A).bind λb=>if b=Z' then g A else h A
theorem dU{c:Expr}{b:List cY}{f:DT}(j:PT X c (ui X.K own f))(m:sP X a (lq X.K B I own own1 g))(l:sP X b (lq X.K B I own own1 h)):PS X (.If c a b J) (lq X.K B I own own1 (eW f g h)):=(VH j m l).imp <|by
 rintro D C H ⟨G,A,o,S,d,k⟩;unfold eW at d;obtain⟨c,n,d⟩:=ae.1 d;refine⟨G,A,c,S.gh,S.lV,n,λe p i =>?_⟩;cases c with
 |true=>exact BM ⟨e,A,o,S.ext i,d,k⟩|false=>exact Ga ⟨e,A,o,S.ext i,d,k⟩
def gc(i:Nat)(A:bZ):Option (List D):=(eV i A).bind λd=>match d with|.lst a=>Y a|_=>M
theorem fU{A:bZ}(h:gc i A=Y a):A[i]?=Y (Y (.lst a)):=by
 unfold gc at h;obtain⟨d,b,h⟩:=ae.1 h;have:=jg b;cases d<;>first|(cases h;exact this)|cases h
theorem SR.oA{K:bb}{G H:Hp}{C:St}{A:bZ}(S:SR K B own G H C A)(d:i∈own)(h:A[i]?=Y (Y (.lst c))):∃a b,C[i]?=Y (Y (.ref a))/\H a=Y (.lst b)/\bx K G c b/\G a=M/\B.2 a=none:=by
 obtain⟨a,k,j,g,⟨b,rfl,f⟩,e⟩:=S.MH d h rfl;exact⟨a,b,j,g,f,e⟩
def pV(i:Nat)(f:DF):DG:=λA=>(gc i A).bind λa=>(f A).bind λd=>if a.length<ez then Y (.nx (A.set i (Y (.lst (a++[d]))))) else M
theorem oM{i:Nat}{x:aG}{c b:Pos}{f:DF}(h:PE X (.Name x p) (kr i))(R:PE X e (tP X.K own f))(t:i∈own:=by decide)(m:cy (.Name x p) "append" X.env (eval (.Name x p) X.env)=eval (.Name x p) X.env:=by rfl) (n:((dh b (ao (e::[]) X.env)).all (λx=> !x.1)&&(jl b (d5 [] X.env)).all (λx=>x.1.isSome)
   && decide ((e::[]).length+([]:List m7).length+(if ([]:List m7).isEmpty then 0 else 1)<30))=true:=by rfl) (l:(c.endLine==b.line)=true:=by rfl) (z:ao (e::[]) X.env=(Z_,eval e X.env)::ao [] X.env:=by rfl) (g:(dh b (ao [] X.env)).any (·.1)=false:=by rfl) (s:c5 (.Call (.Attribute (.Name x p) "append" c) [e] [] b) M J.line X.env=fm false:=by rfl) :
  PS X (.Expr (.Call (.Attribute (.Name x p) "append" c) [e] [] b) J) (lq X.K B I own own (pV i f)):=
 (sV (FC l7 PySem.F.slot_list_append PySem.F.type_list_append p6 h (f7 R kj z) m n l z g) s).imp <|by
  rintro D C H ⟨G,A,o,S,j,k⟩;unfold pV at j;obtain⟨ds,U,j⟩:=ae.1 j;rcases w:f A with _|d
  ·simp[w]at j
  simp only[w,aa]at j;split at j
  ·cases j;rename_i Q;have u:=fU U;obtain⟨a,P,y,e3,e4,e5,e6⟩:=S.oA t u;refine⟨_,y,.inl ⟨rfl,P,.of e3⟩,G,A,d,S.gh,S.lV,w,λv G' H' E r =>?_⟩;have L:=S.ext E;obtain⟨a',q,K,T,F,_⟩:=L.oA t u;rw[y]at K;cases K;refine⟨a,q,v,rfl,rfl,T,?_,k _ G' _ (L.mut t u y (F.append (.cons r .nil)))⟩;rw[<- F.length];exact bu Q iB
  ·cases j
theorem R8{K:bb}{b:List D}{C:St}{H G:Hp}{A:bZ}(S:SR K B own G H C A)(f:j∈own)(g:A[j]?=Y (Y (.lst b)))(n:b[b.length-1]?=Y d)(k:∀v H',SR K B own G H' C (A.set j (Y (.lst b.dropLast)))->dg K G d v->Q v H'):Vn K "list" Vy (kr j) C H Q:=by
 obtain⟨a,e,l,i,c,p,o⟩:=S.oA f g;obtain⟨v,h,m⟩:=c.get n;rw[c.length]at h;exact⟨_,l,.inl ⟨rfl,e,.of i⟩,a,e,v,rfl,rfl,i,h,k v _ (S.mut f g l c.dropLast) m⟩
def Dg(i:Nat)(f:DF):DG:=λA=>(gc i A).bind λb=>(f A).bind λd=>match d with|.lst a=>if b.length+a.length<=ez then Y (.nx (A.set i (Y (.lst (b++a))))) else M|_=>M
theorem Lj{x:aG}{g c:Pos}{f:DF}(h:PE X (.Name x p) (kr i))(he:PE X e (tP X.K own f))(u:i∈own:=by decide)(n:cy (.Name x p) "extend" X.env (eval (.Name x p) X.env)=eval (.Name x p) X.env:=by rfl) (q:((dh c (ao (e::[]) X.env)).all (λx=> !x.1)&&(jl c (d5 [] X.env)).all (λx=>x.1.isSome)
   && decide ((e::[]).length+([]:List m7).length+(if ([]:List m7).isEmpty then 0 else 1)<30))=true:=by rfl) (m:(g.endLine==c.line)=true:=by rfl) (L:ao (e::[]) X.env=(Z_,eval e X.env)::ao [] X.env:=by rfl) (l:(dh c (ao [] X.env)).any (·.1)=false:=by rfl) (t:c5 (.Call (.Attribute (.Name x p) "extend" g) [e] [] c) M J.line X.env=fm false:=by rfl) :
  PS X (.Expr (.Call (.Attribute (.Name x p) "extend" g) [e] [] c) J) (lq X.K B I own own (Dg i f)):=
 (sV (FC l7 PySem.F.slot_list_extend PySem.F.type_list_extend KN h (f7 he kj L) n q m L l) t).imp <|by
  rintro D C H ⟨G,A,o,S,j,k⟩;unfold Dg at j;obtain⟨ds,el,j⟩:=ae.1 j;rcases y:f A with _|d
  ·simp[y]at j
  simp only[y,aa]at j;cases d<;>simp only at j<;>try (cases j;done)
  split at j
  ·cases j;rename_i es U;have w:=fU el;obtain⟨a,R,z,e3,e4,e5,e6⟩:=S.oA u w;refine⟨_,z,.inl ⟨rfl,R,.of e3⟩,G,A,_,S.gh,S.lV,y,λv G' H' E r =>?_⟩;have F:=S.ext E;obtain⟨a',s,Q,f3,P,_⟩:=F.oA u w;rw[z]at Q;cases Q;obtain⟨b,T,rfl,gb,K⟩:=dJ.mp r;refine⟨a,b,s,T,rfl,rfl,f3,F.gh _ _ gb,?_,k _ G' _ (F.mut u w z (P.append K))⟩;rw[<- P.length,<- K.length];exact bX U iB
  ·cases j
def IP(j:Nat)(b c:DF):DG:=λA=>(c A).bind λd=>(gc j A).bind λa=>(b A).bind λk=>match k with|.int k=>(Cw a.length k).map λn =>.nx (A.set j (Y (.lst (a.set n d))))|_=>M
theorem Qf{g:Expr}{F P:DF}(h:PE X (.Name x p) (kr j))(y:PE X g (tQ X.K own F))(he:PE X e (tP X.K own P))(w:j∈own:=by decide)(hg:∀ {s t:TE},PE X (.Name x p) s->PE X g t->PG X (.Subscript (.Name x p) g b) (Wq s t Q8):=by intro s t h1 h2;exact R' h1 h2 Of)(hs:swapsWithSole [.Subscript (.Name x p) g b] e J.line X.env=fm false:=by rfl)(hw:swappedStores [.Subscript (.Name x p) g b] e X.env=fm none:=by rfl):
  PS X (.Assign [.Subscript (.Name x p) g b] e J) (lq X.K B I own own (IP j F P)):=
 (R7 he (hg h y) hs hw).imp <|by
  rintro D C H ⟨G,A,o,S,c,k⟩;unfold IP at c;obtain⟨d,ef,c⟩:=ae.1 c;rcases l:gc j A with _|ds
  ·simp[l]at c
  rcases f:F A with _|i
  ·simp[l,f]at c
  simp only[l,f,aa]at c;cases i<;>simp only at c<;>try (cases c;done)
  rename_i i;rcases K:Cw ds.length i with _|n
  ·simp[K]at c
  simp only[K,bI]at c;cases c;have z:=fU l;refine⟨G,A,d,S.gh,S.lV,ef,λv G' H' E r =>?_⟩;have m:=S.ext E;obtain⟨a,vs,L,e3,e4,e5,e6⟩:=m.oA w z;refine⟨_,L,G',A,_,m.gh,m.lV,f,λu G2 H2 U r2 =>?_⟩;have T:=m.ext U;obtain⟨a',q,R,f3,Q,_⟩:=T.oA w z;rw[L]at R;cases R;exact⟨a,q,i,n,rfl,r2.int,f3,by rw[<- Q.length];exact K,k _ G2 _ (T.mut w z L (Q.set n (dg.mono U.gg d r)))⟩
end
section
variable {X:Cx}{own:List Nat}{a b e:Expr}{fa fb f:DF}{w:Pos}
theorem J_.imp(h:J_ X r)(k:∀x y H Q,d x y H Q->r x y H Q):J_ X d:=λa b c s e H x y v u Q I g f q i=>h a b c s e H x y v u Q I g f (k _ _ _ _ q) i
theorem PO.imp{e:Option Expr}(h:PO X e t)(k:∀b H Q,c b H Q->t b H Q):PO X e c:=λa s b H Q I q=>h a s b H Q I (k _ _ _ q)
theorem nH.imp(h:nH X c r)(k:∀b H Q,d b H Q->r b H Q):nH X c d:=λa s e H b f Q I g q=>h a s e H b f Q I g (k _ _ _ q)
theorem bx.oT{K:bb}{a:List D}{b:List V}(r:bx K G a b)(h:oT a i=Y d):∃v,L2.oT b i=Y v/\dg K G d v:=by
 unfold L2.oT at h ⊢;rw[<- r.length];rcases e:Cw a.length i with _|j
 ·rw[e]at h;cases h
 rw[e]at h;exact r.get h
theorem El{a b:Type}(g:a->b)(xs:List a)(i:Int):oT (xs.map g) i=(oT xs i).map g:=by
 unfold oT;rw[au];cases Cw xs.length i with
 |none=>rfl|some j=>simp[aT]
def cj:D->D->Option D
 |.lst a,.int i=>oT a i|.tup a,.int i=>oT a i|.ku b,.int i=>(oT b i).map .int|.str x,.int i=>if x.length<=ez then (oT x.cps.toList i).map λc =>.str ⟨#[c]⟩ else M
 |_,_=>M
theorem RA:J_ X (rD X.K cj):=by
 refine J_.imp Ta λx y H Q ⟨G,u,t,d,b,h,g,a,q⟩ =>?_
 unfold cj at a;split at a<;>try (cases a;done)
 ·obtain⟨p,j,f,e,l⟩:=h.lst b;obtain⟨v,o,k⟩:=l.oT a;exact .inl ⟨p,j,_,v,f,g.int,.of e,o,q _ G H (.refl b) k⟩
 ·obtain⟨p,j,f,e,l⟩:=h.tup b;obtain⟨v,o,k⟩:=l.oT a;exact .inr (.inl ⟨p,j,_,v,f,g.int,.of e,o,q _ G H (.refl b) k⟩)
 ·obtain⟨p,f,e⟩:=h.ku b;obtain⟨c,r,a⟩:=aS.1 a;cases a;exact .inl ⟨p,_,_,.int c,f,g.int,e,by rw[El,r];rfl,q _ G H (.refl b) (cg.mpr rfl)⟩
 ·split at a<;>try (cases a;done)
  obtain⟨c,r,a⟩:=aS.1 a;cases a;exact .inr (.inr ⟨_,_,c,h.str,g.int,bX (by assumption) iB,r,q _ G H (.refl b) (i9.mpr rfl)⟩)
theorem cq(e:PE X a (tQ X.K own fa))(d:PE X b (tQ X.K own fb))(c:Ep b:=by exact λ_ _=>rfl):PE X (.Subscript a b w) (tP X.K own (e2 cj fa fb)):=(Q' RA e d c).imp λf H Q h=>IW h
abbrev DP:=bZ->Option (Option Int)
noncomputable def pN:DP:=λ_=>Y M
noncomputable def pS(f:DF):DP:=λa=>(f a).bind λd=>match d with|.int i=>Y (Y i)|_=>M
theorem Pm{f:DF}{a:bZ}(h:pS f a=Y o):∃i,f a=Y (.int i)/\o=Y i:=by
 unfold pS at h;rcases e:f a with _|d
 ·rw[e]at h;cases h
 rw[e]at h;cases d<;>first|(cases h;exact⟨_,rfl,rfl⟩)|cases h
def UB(K:bb)(own:List Nat)(f:DP):TO:=λc H Q=>∃G a o,bF G H/\lb K own G H c a/\f a=Y o/\∀d b,gO G H d b->Q o b
theorem lZ:PO X M (UB X.K own pN):=Pf.imp λd H Q ⟨G,e,o,a,c,b,k⟩=>by cases b;exact k G H (.refl a)
theorem lY(h:PE X e (tQ X.K own f)):PO X (Y e) (UB X.K own (pS f)):=(Pe h).imp <|by
 rintro r H Q ⟨G,b,o,d,a,g,k⟩;obtain⟨i,j,rfl⟩:=Pm g;exact⟨G,b,_,d,a,j,λv p l q c=>⟨i,c.int,k p l q⟩⟩
def Bi{a:Type}(xs:List a)(m n:Option Int):List a:=(xs.drop (HT.Cj xs.length 0 m)).take (HT.Cj xs.length xs.length n-HT.Cj xs.length 0 m)
theorem bx.cut{K:bb}{b:List D}{a:List V}(r:bx K G b a)(m n:Option Int):bx K G (Bi b m n) (Gy a m n):=by
 unfold L2.Bi Gy;rw[<- r.length];exact(r.drop _).take _
def JB(f:DF)(m n:DP):DL:=λa=>(f a).bind λd=>(m a).bind λl=>(n a).bind λh=>match d with|.lst b=>Y (Bi b l h)|.ku c=>Y ((Bi c l h).map D.int)|_=>M
variable {m n:Option Expr}{l h:DP}{B:Pos}
theorem xC(K:PE X e (tQ X.K own f))(J:PO X m (UB X.K own l))(I:PO X n (UB X.K own h)):PE X (.Subscript e (.Slice m n M B) w) (tF X.K own (JB f l h)):=(Fz OQ K J I).imp <|by
 rintro O H Q ⟨G,i,P,L,g,a,k⟩;unfold JB at a;rcases ef:f i with _|d
 ·rw[ef]at a;cases a
 rcases el:l i with _|s
 ·simp[ef,el]at a
 rcases eh:h i with _|t
 ·simp[ef,el,eh]at a
 simp only[ef,el,eh,aa]at a;refine⟨G,i,d,L,g,ef,λv N T o F=>⟨N,i,s,o.gh,g.ext o,el,λA S j=>⟨A,i,t,j.gh,(g.ext o).ext j,eh,λz R b =>?_⟩⟩⟩;have E:=(o.trans j).trans b;have x:=F.ext (j.trans b);cases d<;>simp only at a<;>try (cases a;done)
 ·cases a;obtain⟨p,C,u,r,D⟩:=x.lst b.gh;exact⟨p,C,u,.of r,λq c=>k q _ z _ (E.trans (gO.lay (p:=q) b.gh c)) (E.hh.free c) (b.gh.free c) bM (D.cut _ _)⟩
 ·cases a;rename_i y;obtain⟨p,u,r⟩:=x.ku b.gh;refine⟨p,_,u,r,λq c=>k q _ z _ (E.trans (gO.lay (p:=q) b.gh c)) (E.hh.free c) (b.gh.free c) bM ?_⟩;have:Gy (y.map V.int) s t=(Bi y s t).map V.int:=by unfold Gy Bi;rw[au,<- List.map_drop,<- Oj]
  rw[this];exact bx.ints _
theorem RT:Y9 X (λx m n H Q=>∃z,x=.str z/\z.length<=br/\Q (.str (lD z m n)) H):=by
 intro a s d H x v f e m n g Q I h r o c ⟨z,y,p,q⟩;subst y;obtain⟨t,rfl⟩:=h;refine⟨"str",_,F.slot_str_getitem.lookup,typeIs_str _ _ _,?_⟩;have oV:∀(l u:Option (Int×Tok)),f=partValue l->e=partValue u->l.map (·.1)=m->u.map (·.1)=n->bE (bB X.prog X.w) X.A (LI (.str z t) (.ref g)) (EP X a d Q) X.xe s:=λl u G E D C=>by subst G E D C;exact wpAny_getItem_str_slice (l:=l) (u:=u) (st:=M) r rfl (post_val_or_str ⟨bX (LK z _ _) p,λJ k=>⟨.str _,H,I.tok _,⟨_,rfl⟩,q⟩⟩)
 cases o with
 |none=>
  cases c with
  |none=>exact oV M M rfl rfl rfl rfl|int j u=>exact oV M (Y (j,u)) rfl rfl rfl rfl
 |int i b=>
  cases c with|none=>exact oV (Y (i,b)) M rfl rfl rfl rfl|int j u=>exact oV (Y (i,b)) (Y (j,u)) rfl rfl rfl rfl
def Lf(f:DF)(m n:DP):DF:=λa=>(f a).bind λd=>(m a).bind λl=>(n a).bind λh=>match d with|.str x=>if x.length<=ez then Y (.str (lD x l h)) else M|_=>M
theorem Ik(y:PE X e (tQ X.K own f))(x:PO X m (UB X.K own l))(u:PO X n (UB X.K own h)):PE X (.Subscript e (.Slice m n M B) w) (tP X.K own (Lf f l h)):=(Fz RT y x u).imp <|by
 rintro K H Q ⟨G,c,L,z,b,a,k⟩;unfold Lf at a;rcases g:f c with _|d
 ·rw[g]at a;cases a
 rcases i:l c with _|r
 ·simp[g,i]at a
 rcases o:h c with _|t
 ·simp[g,i,o]at a
 simp only[g,i,o,aa]at a;refine⟨G,c,d,z,b,g,λv I N j q=>⟨I,c,r,j.gh,b.ext j,i,λF A p=>⟨F,c,t,p.gh,(b.ext j).ext p,o,λD C J =>?_⟩⟩⟩;have E:=(j.trans p).trans J;cases d<;>simp only at a<;>try (cases a;done)
 split at a
 ·cases a;rename_i s;exact⟨_,q.str,bX s iB,k _ D C E (i9.mpr rfl)⟩
 ·cases a
noncomputable def be(o:List D->Option D)(g:DL):DF:=λa=>(g a).bind o
theorem AI{g:DL}{a:bZ}(h:be o g a=Y d):∃b,g a=Y b/\o b=Y d:=by
 unfold be at h;rcases c:g a with _|x
 ·rw[c]at h;cases h
 rw[c]at h;exact⟨x,rfl,h⟩
def rC(K:bb)(o:List D->Option D):List V->Hp->VK->Prop:=λe H Q=>∃G a d,bF G H/\J5 K G H a e/\o a=Y d/\∀v c b,gO G H c b->dg K c d v->Q v b
theorem Vx{K:bb}{g:DL}{b:St}(h:tP K own (be o g) b H Q):XS (rC K o) (Ve K own g) b H Q:=by
 obtain⟨G,f,d,l,a,q,k⟩:=h;obtain⟨c,p,r⟩:=AI q;exact⟨G,f,c,l,a,p,λy u z e j=>⟨u,c,d,e.gh,j,r,λv t s x i=>k v t s (e.trans x) i⟩⟩
theorem J5.one{K:bb}{a:List V}(r:J5 K G H [d] a):∃v,a=[v]/\jX K G H d v:=by
 cases r with|cons r t=>cases t;exact⟨_,rfl,r⟩
def hR:List D->Option D
 |[.lst a]=>Y (.int a.length)|[.tup a]=>Y (.int a.length)|[.ku a]=>Y (.int a.length)|[.str x]=>if x.length<=ez then Y (.int x.length) else M
 |_=>M
theorem T_:nH X (.builtin "len") (rC X.K hR):=by
 refine nH.imp (Ei.or Eh) λi H Q ⟨G,j,d,c,r,a,q⟩ =>?_
 unfold hR at a;split at a
 ·cases a;obtain⟨v,rfl,b⟩:=r.one;obtain⟨p,f,rfl,e,g⟩:=b.lst c;refine .inl ⟨p,f,rfl,.inl (.of e),?_⟩;rw[<- g.length];exact q _ G H (.refl c) (cg.mpr rfl)
 ·cases a;obtain⟨v,rfl,b⟩:=r.one;obtain⟨p,f,rfl,e,g⟩:=b.tup c;refine .inl ⟨p,f,rfl,.inr (.of e),?_⟩;rw[<- g.length];exact q _ G H (.refl c) (cg.mpr rfl)
 ·cases a;obtain⟨v,rfl,b⟩:=r.one;obtain⟨p,rfl,e⟩:=b.ku c;refine .inl ⟨p,_,rfl,.inl e,?_⟩;rw[au];exact q _ G H (.refl c) (cg.mpr rfl)
 ·split at a
  ·cases a;rename_i h;obtain⟨v,rfl,b⟩:=r.one;exact .inr ⟨_,by rw[b.str],bX h iB,q _ G H (.refl c) (cg.mpr rfl)⟩
  ·cases a
 ·cases a
variable {p:Pos}{x:aG}{A:List Expr}{g:DL}
theorem AR(l:nH X (.builtin c) (rC X.K o))(j:Gl X x)(i:X.mg x=M)(d:iR x=Y (.builtin c))(q:PA X (e::A) (Ve X.K own g))(f:x ≠ "__name__" :=by decide)(b:(x==("__debug__" : aG))=false:=by decide)(k:ao (e::A) X.env=(Z_,eval e X.env)::ao A X.env:=by rfl)(a:(dh w (ao A X.env)).any (·.1)=false:=by rfl):PE X (.Call (.Name x p) (e::A) [] w) (tP X.K own (be o g)):=
 (MF l j i d q f b k a).imp λr H Q h=>Vx h
theorem la(c:Gl X "len")(b:X.mg "len" = M)(h:PE X e (tQ X.K own f))(a:ao (e::[]) X.env=(Z_,eval e X.env)::ao [] X.env:=by rfl):PE X (.Call (.Name "len" p) [e] [] w) (tP X.K own (be hR (aC f aN))):=
 AR T_ c b PySem.boot_len (AK h Eb a) (by decide) (by decide) a rfl
noncomputable def isT(T:String):D->Bool
 |.eJ=>T == "NoneType"|.bl _=>T == "bool" || T == "int"
 |.int _=>T == "int"|.str _=>T == "str"|.lst _=>T == "list"|.ku _=>T == "list"|.tup _=>T == "tuple"|.ins _ _ _=>Z_|.ig _ _=>T == "dict"|.obj _ _=>Z_|.eH _ _=>Z_
def eIs(T:String)(f:DF):DF:=λa=>(f a).bind λd=>match d with|.ku _=>M|.ins _ _ _=>M|.ig _ _=>M|.obj _ _=>M|.eH _ _=>M|d=>Y (.bl (isT T d))
noncomputable def Gj(f:DF):DL:=λb=>(f b).bind λd=>match d with|.lst a=>Y a|.tup a=>Y a|.ku c=>Y (c.map D.int)|_=>M
theorem JN(z:Gl X "list")(y:X.mg "list" = M)(h:PE X e (tQ X.K own f))(x:iR "list" = Y (.type "list"):=by exact PyProof.Rows.boot_list)(t:ao (e::[]) X.env=(Z_,eval e X.env)::ao [] X.env:=by rfl):PE X (.Call (.Name "list" p) [e] [] w) (tF X.K own (Gj f)):=
 (KE Eg z y x (f7 h kj t) (by decide) (by decide) t rfl).imp <|by
  rintro E H Q ⟨G,u,F,C,r,g,k⟩;unfold Gj at g;obtain⟨c,D,g⟩:=ae.1 g;refine⟨G,u,c,C,r,D,λv s I b o =>?_⟩;cases c<;>simp only[aa]at g<;>try (cases g;done)
  ·cases g;obtain⟨a,j,rfl,i,l⟩:=o.lst b.gh;exact⟨a,j,rfl,.inl (.of i),λq d=>k q _ s _ (b.trans (gO.lay (p:=q) b.gh d)) (b.hh.free d) (b.gh.free d) bM l⟩
  ·cases g;obtain⟨a,j,rfl,i,l⟩:=o.tup b.gh;exact⟨a,j,rfl,.inr (.of i),λq d=>k q _ s _ (b.trans (gO.lay (p:=q) b.gh d)) (b.hh.free d) (b.gh.free d) bM l⟩
  ·cases g;obtain⟨a,rfl,i⟩:=o.ku b.gh;exact⟨a,_,rfl,.inl i,λq d=>k q _ s _ (b.trans (gO.lay (p:=q) b.gh d)) (b.hh.free d) (b.gh.free d) bM (bx.ints _)⟩
noncomputable def aaR:D->D->Option D
 |.obj _ _,_=>M|.eH _ _,_=>M|.eJ,.eJ=>Y (.bl Z')|_,.eJ=>Y (.bl Z_)|_,_=>M
noncomputable def nL:D->D->Option D
 |.obj _ _,_=>M|.eH _ _,_=>M|.eJ,.eJ=>Y (.bl Z_)|_,.eJ=>Y (.bl Z')|_,_=>M
theorem Pz:Bg X (eY .IsNot) nL:=oU.imp Pu <|by
 rintro x y H Q ⟨G,h,o,d,f,g,l,e,q⟩;have z:o=.eJ:=by unfold nL at e;split at e<;>first|rfl|cases e
 subst z;refine⟨l.eJ,?_⟩;cases h with
 |eJ=>cases e;rw[g.eJ];exact q _ G H (.refl f) (dt.mpr rfl)|bl b=>cases e;rw[g.bl];exact q _ G H (.refl f) (dt.mpr (by simp))
 |int b=>cases e;rw[g.int];exact q _ G H (.refl f) (dt.mpr (by simp))
 |str b=>cases e;rw[g.str];exact q _ G H (.refl f) (dt.mpr (by simp))
 |lst b=>cases e;obtain⟨a,j,rfl,_⟩:=g.lst f;exact q _ G H (.refl f) (dt.mpr (by simp))
 |tup b=>cases e;obtain⟨a,j,rfl,_⟩:=g.tup f;exact q _ G H (.refl f) (dt.mpr (by simp))
 |ku b=>cases e;obtain⟨a,rfl,_⟩:=g.ku f;exact q _ G H (.refl f) (dt.mpr (by simp))
 |ins c k i=>cases e;obtain⟨a,rfl⟩:=g.ins;exact q _ G H (.refl f) (dt.mpr (by simp))
 |ig k i=>cases e;obtain⟨a,rfl⟩:=g.ig;exact q _ G H (.refl f) (dt.mpr (by simp))
 |_=>cases e
def eD(f:DF):DT:=λc=>(f c).bind λd=>match d with
 |.eJ=>Y Z_|.bl b=>Y b|.int i=>Y (i != 0)|.str y=>if y.length<=ez then Y ((y.length:Int) != 0) else M
 |.lst a=>Y (!a.isEmpty)|.tup a=>Y (!a.isEmpty)|.ku a=>Y (!a.isEmpty)|.ins _ _ _=>M|.ig _ _=>M|.obj _ _=>M|.eH _ _=>M
theorem bx.empty{K:bb}{b:List D}{a:List V}(r:bx K G b a):b.isEmpty=a.isEmpty:=by
 have:=r.length;cases b<;>cases a<;>simp at this ⊢
theorem d_(h:PE X e (tQ X.K own f))(C:∀g,isTrue e X.env g=(do let v <- g;rA e.pos;n_ [v] (truthy v)):=by intro _;rfl):PT X e (ui X.K own (eD f)):=(Ms h C).imp <|by
 rintro I H Q ⟨G,s,b,D,q,d,k⟩;unfold eD at d;rcases r:f s with _|c
 ·rw[r]at d;cases d
 rw[r]at d;refine⟨G,s,c,D,q,r,λv F E l i=>⟨b,?_,k F E l⟩⟩;cases c with
 |eJ=>cases d;rw[i.eJ];rfl|bl b=>cases d;rw[i.bl];rfl|int b=>cases d;rw[i.int];rfl|str y=>
  rw[i.str];have d:(if y.length<=ez then Y ((y.length:Int) != 0) else M)=Y b:=d;split at d
  ·cases d;rename_i z;exact⟨bX z iB,rfl⟩
  ·cases d
 |lst t=>cases d;obtain⟨a,o,rfl,j,p⟩:=i.lst l.gh;exact .inl ⟨o,.of j,by rw[p.empty]⟩
 |tup t=>cases d;obtain⟨a,o,rfl,j,p⟩:=i.tup l.gh;exact .inr (.inl ⟨o,.of j,by rw[p.empty]⟩)
 |ku t=>cases d;obtain⟨a,rfl,j⟩:=i.ku l.gh;exact .inl ⟨_,j,by simp⟩
 |_=>cases d
end
structure Ex(K:bb)(G0:Hp)(J:It)(ds:List D):Prop where
 go:∀i H,bF G0 H->i<ds.length->J.go i H
 stop:∀i H,bF G0 H->ds.length<=i->J.stop i H
 Q1:∀(i:Nat) (H:Hp) (x:V) (H' G:Hp) (d:D),bF G0 G->bF G H->J.Q1 i H x H'->ds[i]?=some d->∃G',gO G H G' H'/\dg K G' d x
def E8(K:bb)(own:List Nat)(f:DL):TI:=λl H R=>∃G ρ a,bF G H/\lb K own G H l ρ/\f ρ=Y a/\∀J c b,gO G H c b->Ex K c J a->R J b
section
variable {X:Cx}{own:List Nat}{L e:Expr}{f:DF}
theorem PI.imp{O:Expr}{t:TI}(h:PI X L O t)(k:∀l H R,b l H R->t l H R):PI X L O b:=λa s l H R I q=>h a s l H R I (k _ _ _ q)
noncomputable def iL(f:DF):DL:=λρ=>(f ρ).bind λd=>match d with|.lst a=>Y a|_=>M
theorem vW{f:DF}{ρ:bZ}(h:iL f ρ=Y a):f ρ=Y (.lst a):=by
 unfold iL at h;rcases e:f ρ with _|d
 ·rw[e]at h;cases h
 rw[e]at h;cases d<;>first|(cases h;rfl)|cases h
theorem K2{K:bb}{G:Hp}(g:G a=Y (.lst b))(r:bx K G n b):Ex K G (Zc K a) n:=by
 refine⟨λi H s f =>?_,λi H s f=>⟨b,.of (s _ _ g),by rw[<- r.length];exact f⟩,λi H x B A d j h ⟨e,y⟩ z =>?_⟩
 ·have c:i<b.length:=by rw[<- r.length];exact f
  exact⟨b,b[i],.of (s _ _ g),by simp[c]⟩
 ·subst e;have p:=y b (.of (h _ _ (j _ _ g)));obtain⟨v,k,o⟩:=r.get z;rw[p]at k;cases k;exact⟨A,.refl h,dg.mono j d o⟩
theorem fR(h:PE X e (tP X.K own f)):PI X L e (E8 X.K own (iL f)):=(Ph h).imp <|by
 rintro l H R ⟨G,ρ,p,n,b,o,k⟩;refine⟨G,ρ,_,n,b,vW o,λv A w d j =>?_⟩;obtain⟨a,g,rfl,c,i⟩:=dJ.mp j;exact⟨a,rfl,⟨g,.of (d.gh _ _ c)⟩,k _ A w d (K2 c i)⟩
noncomputable def mv(a:Int)(n:Nat):List D:=(cI n).map λ(k:Nat) =>.int (a+(k:Int))
theorem uJ{K:bb}{G:Hp}(c:Int)(n:Nat):Ex K G (WX c n) (mv c n):=by
 have f:(mv c n).length=n:=by simp[mv]
 refine⟨λi H s a=>by rw[f]at a;exact a,λi H s a=>by rw[f]at a;exact a,λi H x p A d k g ⟨e,y⟩ b =>?_⟩;subst e;refine⟨A,.refl g,?_⟩;unfold mv at b;rw[aT]at b;obtain⟨j,q,b⟩:=aS.1 b;cases b;have:j=i:=by obtain⟨o,h⟩:=aj.mp q;simpa using h.symm
 subst this;exact cg.mpr y
def Ot(f:DF):DL:=λρ=>(f ρ).bind λd=>match d with|.int j=>if -(2 ^ 62)<=j/\j<2 ^ 62 then Y (mv 0 j.toNat) else M|_=>M
theorem td{u:Pos}(r:Gl X "range")(o:X.mg "range" = M)(h:PE X e (tQ X.K own f))(n:ao [e] X.env=(Z_,eval e X.env)::ao [] X.env:=by rfl)(b:ao [e] X.env=[(Z_,eval e X.env)]:=by rfl):PI X L (.Call (.Name "range" p) [e] [] u) (E8 X.K own (Ot f)):=
 (Co r o (f7 h kj n) b).imp <|by
  rintro l H R ⟨G,ρ,z,s,c,a,k⟩;unfold Ot at a;obtain⟨d,x,a⟩:=ae.1 a;cases d<;>simp only[aa]at a<;>try (cases a;done)
  split at a
  ·cases a;rename_i j g;exact⟨G,ρ,_,s,c,x,λv A w y i=>⟨j,by rw[i.int],g.1,g.2,k _ A w y (uJ 0 j.toNat)⟩⟩
  ·cases a
def Ri(f g:DF):DL:=λρ=>(f ρ).bind λd=>(g ρ).bind λc=>match d,c with|.int i,.int j=>if -(2 ^ 62)<=i/\i<2 ^ 62 /\ -(2 ^ 62)<=j/\j<2 ^ 62 then Y (mv i (j-i).toNat) else M|_,_=>M
theorem Lm{g:DF}{u:Pos}(N:Gl X "range")(m:X.mg "range" = M)(h:PE X e (tQ X.K own f))(P:PE X n (tQ X.K own g))(K:ao [e,n] X.env=(Z_,eval e X.env)::ao [n] X.env:=by rfl)(z:ao [n] X.env=(Z_,eval n X.env)::ao [] X.env:=by rfl)(y:ao [e,n] X.env=[(Z_,eval e X.env),(Z_,eval n X.env)]:=by rfl)(x:ao [n] X.env=[(Z_,eval n X.env)]:=by rfl):PI X L (.Call (.Name "range" p) [e,n] [] u) (E8 X.K own (Ri f g)):=
 (KD N m (f7 h (f7 P kj z) K) y x).imp <|by
  rintro l H R ⟨G,ρ,ds,Q,o,b,k⟩;unfold Ri at b;rcases s:f ρ with _|d
  ·rw[s]at b;cases b
  rcases B:g ρ with _|c
  ·simp[s,B]at b
  simp only[s,B,aa]at b;split at b<;>try (cases b;done)
  split at b
  ·cases b;rename_i i j r;exact⟨G,ρ,_,Q,o,s,λv A w C F=>⟨A,ρ,_,C.gh,o.ext C,B,λa G2 S E2 D=>⟨i,j,by rw[F.int,D.int],⟨r.1,r.2.1,r.2.2.1,r.2.2.2⟩,k _ G2 S (C.trans E2) (uJ i _)⟩⟩⟩
  ·cases b
end
abbrev BZ:=D->bZ->Option bZ
def Ko(K:bb)(B:Bs)(own:List Nat)(τ:BZ):TG:=λv l H Q=>∃G ρ d b,SR K B own G H l ρ/\dg K G d v/\τ d ρ=Y b/\∀a e c,SR K B own e c a b->Q a c
def Xc(K:bb)(own:List Nat)(τ:BZ):TG:=λv l H Q=>∃G ρ d b,bF G H/\lb K own G H l ρ/\dg K G d v/\τ d ρ=Y b/\∀a e c,gO G H e c->lb K own e c a b->Q a c
section
variable {X:Cx}{B:Bs}{own:List Nat}
theorem PG.imp{L:Expr}{t:TG}(h:PG X L t)(k:∀v l H Q,b v l H Q->t v l H Q):PG X L b:=λa s l H v u Q I r q=>h a s l H v u Q I r (k _ _ _ _ q)
noncomputable def gN(i:Nat):BZ:=λd ρ=>Y (ρ.set i (Y d))
theorem mM{i:Nat}{L:Expr}(h:PG X L (rd i))(b:i∉own:=by decide):PG X L (Ko X.K B own (gN i)):=h.imp <|by
 rintro v l H Q ⟨G,ρ,d,a,S,r,c,k⟩;cases c;exact k _ G H (S.zp b r)
theorem lb.set{K:bb}{G H:Hp}{l:St}{ρ:bZ}{i:Nat}{d:D}{v:V}(h:lb K own G H l ρ)(s:i∉own)(r:dg K G d v):lb K own G H (l.set i (Y v)) (ρ.set i (Y d)):=
 ⟨by simp[h.len],λj c e=>by
  rcases hI e with⟨rfl,rfl,C⟩|⟨b,e⟩
  ·exact⟨v,qU (by rw[h.len];exact C),by rw[if_neg s];exact r⟩
  ·obtain⟨u,o,n⟩:=h.get j c e;exact⟨u,by rw[aw b];exact o,n⟩,λj k p g N e=>by
  have a:∀j,j∈own->i≠j:=λj F e=>s (e ▸ F)
  rw[aw (a j g)]at e;obtain⟨f,m,z,y,B,w,x,o,n,Q,P⟩:=h.eH j k p g N e;exact⟨f,m,z,y,B,w,x,by rw[aw (a k f)];exact o,by rw[aw (a k f)];exact n,by rw[aw (a j g)];exact Q,P⟩⟩
noncomputable def D6(i j:Nat):BZ:=λd ρ=>match d with|.tup [a,b]=>Y ((ρ.set i (Y a)).set j (Y b))|_=>M
theorem Nv{ρ:bZ}(h:D6 i j d ρ=Y c):∃a b,d=.tup [a,b]/\c=(ρ.set i (Y a)).set j (Y b):=by
 unfold D6 at h;split at h
 ·cases h;exact⟨_,_,rfl,rfl⟩
 ·cases h
theorem OZ{K:bb}{G:Hp}{v:V}(r:dg K G (.tup [a,b]) v):∃p x y,v=.ref p/\G p=Y (.tup [x,y])/\dg K G a x/\dg K G b y:=by
 obtain⟨p,h,e,g,f⟩:=fQ.mp r;obtain⟨x,j,rfl,d,t⟩:=bJ.mp f;obtain⟨y,i,rfl,c,t⟩:=bJ.mp t;rw[dz.mp t]at g;exact⟨p,x,y,e,g,d,c⟩
theorem AM{i:Nat}{L:Expr}(h:PG X L (Tu X.K 2 (CG (rd i) (CG (rd j) Tv))))(o:i∉own:=by decide)(n:j∉own:=by decide):PG X L (Ko X.K B own (D6 i j)):=h.imp <|by
 rintro v l H Q ⟨G,ρ,d,c,S,r,s,k⟩;obtain⟨a,b,rfl,rfl⟩:=Nv s;obtain⟨p,x,y,rfl,g,f,e⟩:=OZ r;exact⟨p,_,rfl,.of (S.gh _ _ g),rfl,x,_,rfl,y,_,rfl,rfl,k _ G H ((S.zp o f).zp n e)⟩
end
noncomputable def gw(τ:BZ)(g:DG):List D->bZ->Option DO
 |[],ρ=>Y (.nx ρ)| d::b,ρ=>(τ d ρ).bind λρ1=>(g ρ1).bind λo=>match o with
  |.nx a=>gw τ g b a|.ct a=>gw τ g b a|.bk a=>Y (.nx a)|.rt d=>Y (.rt d)|.ro d=>Y (.ro d)|.rm d ρ=>Y (.rm d ρ)|.rf i ρ=>Y (.rf i ρ)|.ex c n=>Y (.ex c n)
def js(f:DL)(τ:BZ)(g:DG):DG:=λρ=>(f ρ).bind λa=>gw τ g a ρ
section
variable {K:bb}{B:Bs}{own:List Nat}{G H A w:Hp}{l q:St}{ρ ρ1:bZ}
theorem qf.base{a:Bs}{F:Nat->List az}(W:qf K B own G H l ρ F)(h:a.2=B.2):qf K a own G H l ρ F:=⟨W.it,λi d b e=>by rw[h];exact W.ok i d b e,W.ap⟩
theorem SR.rebase(a:SR K B own A w q ρ1)(S:SR K B own G H l ρ)(s:bF A G):SR K ⟨A,B.2,B.3,B.4⟩ own G H l ρ:=
 ⟨S.gh,s,S.h0,λb o e=>by
  rcases S.fr b o e with z|z
  ·exact .inl (a.g0 b o z)
  ·exact .inr z,S.env,(by obtain⟨F,W⟩:=S.ow;exact⟨F,W.base rfl⟩),S.len,S.pin,S.eH⟩
theorem SR.C4(c:SR K B own A w q ρ1)(S:SR K ⟨A,B.2,B.3,B.4⟩ a G H l ρ):SR K B a G H l ρ:=
 ⟨S.gh,c.g0.trans S.g0,S.h0,λb o e=>by
  rcases S.fr b o e with z|z
  ·exact c.fr b o z
  ·exact .inr z,S.env,(by obtain⟨F,W⟩:=S.ow;exact⟨F,W.base rfl⟩),S.len,S.pin,S.eH⟩
theorem SR.zf(a:SR K B own A w q ρ1)(S:SR K ⟨A,B.2,B.3,B.4⟩ own G H l ρ):SR K B own G H l ρ:=a.C4 S
theorem gO.zf(a:SR K B own A w q ρ1)(E:gO A B.2 G H):gO B.1 B.2 G H:=
 ⟨E.hh,a.g0.trans E.gg,E.gh,λb o e=>by
  rcases E.fr b o e with z|z
  ·exact a.fr b o z
  ·exact .inr z⟩
end
section
variable {X:Cx}{B:Bs}{t own:List Nat}{L O:Expr}{f:DL}{τ:BZ}{g:DG}{I:List cY}{u:Pos}
def XO(K:bb)(B:Bs)(own:List Nat)(f:bZ->Option (List D×bZ)):TI:=λl H R=>∃G ρ b a,SR K B own G H l ρ/\f ρ=Y (b,a)/\∀J d c,SR K B own d c l a->Ex K d J b->R J c
def Ck(f:bZ->Option (List D×bZ))(τ:BZ)(g:DG):DG:=λρ=>(f ρ).bind λp=>gw τ g p.1 p.2
theorem Gs{f:bZ->Option (List D×bZ)}(hp:EO (bB X.prog X.w) X.A X.env X.xe)(hc:X.calm=Z')(hi:PI X L O (XO X.K B own f))(hg:∀C:Bs,C.3=B.3->PG X L (Ko X.K C own τ))(hb:∀C:Bs,C.3=B.3->C.2=B.2/\C.4=B.4->sP X I (lq X.K C own own own g))(hs:∀x,dM O X.env x=fm x:=by intro _;rfl):PS X (.For L O I [] u) (lq X.K B t own own (Ck f τ g)):=by
 intro Q s l H D' j ⟨G,ρ,o,S,eq,k⟩;unfold Ck at eq;obtain⟨⟨R,ρ0⟩,ef,eq⟩:=ae.1 eq;have eq:gw τ g R ρ0=Y o:=eq;refine wpAny_For (gD (hi Q s l H (λJ w=>∃A,SR X.K B own A w l ρ0/\Ex X.K A J R) j ⟨G,ρ,R,ρ0,S,ef,λJ A w S1 ok=>⟨A,S1,ok⟩⟩) λv s1 h1=>gD h1 λitv s2 h2 =>?_) hs;obtain⟨it,fp,tn,J,H2,e,I2,T,Vr,f2,A,S1,ok⟩:=h2;subst e;have Ht:∀ {H':Hp},(∀b∈fp,H' b=M)->∀b∈fp,BY X Q H' b:=λhn b hb=>⟨hn b hb,(f2 b hb).2⟩
 have acf:∀(ρ':bZ) (σ':St) (H' G':Hp) (nT:List D),SR X.K ⟨A,B.2,B.3,B.4⟩ own G' H' σ' ρ'->True:=λ_ _ _ _ _ _=>trivial
 refine codeAny_forLoop_any (λn s'=>∃i σ' H' G' ρ',Inv X Q σ' H' s'/\tn i s'.heap/\(∀b∈fp,H' b=M)/\n=R.length-i/\i<=R.length/\SR X.K ⟨A,B.2,B.3,B.4⟩ own G' H' σ' ρ'/\gw τ g (R.drop i) ρ'=Y o) ?_ R.length
  ⟨0,l,H2,A,ρ0,I2,Vr,λb hb=>(f2 b hb).1,rfl,fc _,S1.rebase S1 (bF.refl _),eq⟩
 rintro n s3 ⟨i,σ3,H3,G3,ρ3,I3,Xg,fr3,rfl,YG,S3,F⟩;have Vp:bF A H3:=S3.g0.trans S3.gh;by_cases Wi:i<R.length
 ·have ed:R.drop i=R[i]::R.drop (i+1):=iZ Wi;rw[ed]at F;unfold gw at F;obtain⟨P,et,F⟩:=ae.1 F;rcases eg:g P with _|o4
  ·simp[eg]at F
  simp only[eg,aa]at F;refine lC hp (gD (T.item X rfl rfl rfl hc i Q s3 σ3 H3 X.xe I3 (Ht fr3) Xg (ok.go i H3 Vp Wi)) λr s4 ⟨h,hr,h4⟩ =>?_);subst hr;refine lC hp (gD h4 λ_ s5 ⟨x,H5,I5,r5,y5,UG,Xt⟩ =>?_);have I5':=I5.pinned (Ht Xt) (T.obj _ _ UG);obtain⟨G5,E5,X4⟩:=ok.Q1 i H3 x H5 G3 R[i] S3.g0 S3.gh y5 (aU Wi);refine lC hp (gD (hg ⟨A,B.2,B.3,B.4⟩ rfl _ s5 σ3 H5 x h (λN H6=>∃G6,SR X.K ⟨A,B.2,B.3,B.4⟩ own G6 H6 N P) I5' r5 ⟨G5,ρ3,R[i],P,S3.ext E5,X4,et,λN G6 H6 S6=>⟨G6,S6⟩⟩) λ_ s6 ⟨N,H6,I6,G6,S6⟩ =>?_);have again:∀ {p:St}{K q:Hp}{ρ7:bZ}{s7:aq},Inv X (Q++xa fp s5.heap) p K s7->SR X.K ⟨A,B.2,B.3,B.4⟩ own q K p ρ7->gw τ g (R.drop (i+1)) ρ7=Y o ->
    ∃m,m<R.length-i/\∃i σ' H' G' ρ',Inv X Q σ' H' s7/\tn i s7.heap/\(∀b∈fp,H' b=M)/\m=R.length-i/\i<=R.length/\SR X.K ⟨A,B.2,B.3,B.4⟩ own G' H' σ' ρ'/\gw τ g (R.drop i) ρ'=Y o:=fun {p K q ρ7 s7} I7 S7 e7=>by
   refine⟨R.length-(i+1),by omega,i+1,p,K,q,ρ7,I7.vo,T.keep _ _ _ UG λb hb o e=>(I7.pin (b,o) (aW _ (aW _ (oB hb e)))).1,λb hb =>?_,rfl,Wi,S7,e7⟩;obtain⟨o,e,d⟩:=T.obj _ _ UG b hb;exact(I7.pin (b,o) (aW _ (aW _ (oB hb e)))).2.1
  refine lC hp (gD (hb ⟨A,B.2,B.3,B.4⟩ rfl ⟨rfl,rfl⟩ _ s6 N H6 { nx:=λp K=>∃q r,SR X.K ⟨A,B.2,B.3,B.4⟩ own q K p r/\gw τ g (R.drop (i+1)) r=Y o,ct:=λp K=>∃q r,SR X.K ⟨A,B.2,B.3,B.4⟩ own q K p r/\gw τ g (R.drop (i+1)) r=Y o,bk:=D'.nx,rt:=D'.rt } I6 ⟨G6,P,o4,S6,eg,?_⟩) λfl s7 y =>?_)
  ·cases o4 with
   |nx r=>exact λp q K S7=>⟨q,r,S7,F⟩
   |ct r=>exact λp q K S7=>⟨q,r,S7,F⟩
   |bk r=>cases F;exact λp q K S7=>k _ q K (S1.zf S7)
   |rt d=>cases F;exact λv q K E7 r7=>k v q K (gO.zf S1 E7) r7
   |ro d=>cases F;exact λa vs q K E7 h1 h2 h3 r7=>k a vs q K (gO.zf S1 E7) h1 h2 h3 r7
   |rm d r=>cases F;exact λv p q K ⟨o7,S7⟩ r7=>k v p q K ⟨o7,S1.C4 S7⟩ r7
   |rf j r=>cases F;exact λv p q K ⟨o7,ho7,S7⟩ r7=>k v p q K ⟨o7,ho7,S1.C4 S7⟩ r7
   |ex c n=>cases F;exact k
  cases fl with
  |ret v=>obtain⟨x7,p,K,I7,r7,y⟩:=y;exact⟨x7,p,K,I7.vo,r7,y⟩
  |brk=>obtain⟨p,K,I7,y⟩:=y;exact⟨p,K,I7.vo,y⟩
  |_=>obtain⟨p,K,I7,q,r,S7,F⟩:=y;exact again I7 S7 F
 ·have e:i=R.length:=by omega
  subst e;rw[vg]at F;unfold gw at F;cases F;refine lC hp (gD (T.done X rfl rfl rfl hc _ Q s3 σ3 H3 X.xe I3 (Ht fr3) Xg (ok.stop _ H3 Vp (aM _))) λr s4 ⟨hr,I4⟩ =>?_);subst hr;exact Bj ⟨σ3,H3,I4,k σ3 G3 H3 (S1.zf S3)⟩
theorem Qg(i:EO (bB X.prog X.w) X.A X.env X.xe)(o:X.calm=Z')(j:PI X L O (E8 X.K own f))(n:∀C:Bs,C.3=B.3->PG X L (Ko X.K C own τ))(p:∀C:Bs,C.3=B.3->C.2=B.2/\C.4=B.4->sP X I (lq X.K C own own own g))(h:∀x,dM O X.env x=fm x:=by intro _;rfl):PS X (.For L O I [] u) (lq X.K B t own own (js f τ g)):=by
 have e:js f τ g=Ck (λρ=>(f ρ).map λa=>(a,ρ)) τ g:=funext λρ=>by show (f ρ).bind _=(B3 (λa=>(a,ρ)) (f ρ)).bind _;cases f ρ<;>rfl
 rw[e];refine Gs i o (j.imp λl H R ⟨G,ρ,a,c,S,b,k⟩ =>?_) n p h;have b:B3 (λa=>(a,ρ)) (f ρ)=Y (a,c):=b;obtain⟨s,r,b⟩:=aS.1 b;cases b;exact⟨G,ρ,a,S.gh,S.lV,r,λJ A w E d=>k J A w (S.ext E) d⟩
theorem Qh{f:bZ->Option (List D×bZ)}(b:EO (bB X.prog X.w) X.A X.env X.xe)(e:X.calm=Z')(c:PI X L O (XO X.K B own f))(d:∀C:Bs,C.3=B.3->PG X L (Ko X.K C own τ))(i:∀C:Bs,C.3=B.3->sP X I (lq X.K C own own own g))(a:∀x,dM O X.env x=fm x:=by intro _;rfl):PS X (.For L O I [] u) (lq X.K B t own own (Ck f τ g)):=Gs b e c d (λC h _=>i C h) a
theorem k9(b:EO (bB X.prog X.w) X.A X.env X.xe)(e:X.calm=Z')(c:PI X L O (E8 X.K own f))(d:∀C:Bs,C.3=B.3->PG X L (Ko X.K C own τ))(i:∀C:Bs,C.3=B.3->sP X I (lq X.K C own own own g))(a:∀x,dM O X.env x=fm x:=by intro _;rfl):PS X (.For L O I [] u) (lq X.K B t own own (js f τ g)):=Qg b e c d (λC h _=>i C h) a
noncomputable def m_(f:DT)(g:DG):Nat->bZ->Option DO
 |0,_=>M| n+1,ρ=>(f ρ).bind λb=>if b=Z' then (g ρ).bind λo=>match o with
   |.nx a=>m_ f g n a|.ct a=>m_ f g n a|.bk a=>Y (.nx a)|.rt d=>Y (.rt d)|.ro d=>Y (.ro d)|.rm d ρ=>Y (.rm d ρ)|.rf i ρ=>Y (.rf i ρ)|.ex c n=>Y (.ex c n) else Y (.nx ρ)
def zy(n:Nat)(f:DT)(g:DG):DG:=λρ=>m_ f g n ρ
theorem Gp{c:Expr}{f:DT}(n:Nat)(C:EO (bB X.prog X.w) X.A X.env X.xe)(D:PT X c (ui X.K own f))(F:sP X I (lq X.K B own own own g)):PS X (.While c I [] u) (lq X.K B t own own (zy n f g)):=(Mu C D F).imp <|by
 rintro R l H ⟨G,ρ,o,S,K,k⟩;refine⟨λm l H=>∃G ρ,SR X.K B own G H l ρ/\m_ f g m ρ=Y o,⟨n,G,ρ,S,K⟩,?_⟩;rintro m q w ⟨A,ρ1,v,e⟩;cases m with
 |zero=>cases e|succ m=>
  unfold m_ at e;obtain⟨b,N,e⟩:=ae.1 e;refine⟨A,ρ1,b,v.gh,v.lV,N,λz P Q =>?_⟩;have y:=v.ext Q;cases b with
  |false=>cases e;exact Ga (k q z P y)|true=>
   refine BM ⟨λh p=>∃j r,SR X.K B own j p h r/\m_ f g m r=Y o,λh p a=>⟨m,jP m,a⟩,?_⟩;simp only[aa,if_true]at e;obtain⟨x,d,e⟩:=ae.1 e;refine⟨z,ρ1,x,y,d,?_⟩;cases x with
   |nx i=>exact λh j p s=>⟨j,i,s,e⟩
   |ct i=>exact λh j p s=>⟨j,i,s,e⟩
   |bk i=>cases e;exact λh j p s=>k h j p s
   |_=>cases e;exact k
end
noncomputable def kZ(src:List (Option Nat))(ρ:bZ):bZ:=src.map λo=>match o with|some j=>(ρ[j]?).getD M|none=>M
noncomputable def BL(ρ:bZ)(τ:BZ)(U:DT)(fe:DF):List D->Option (List D)
 |[]=>Y []|d::a=>(τ d ρ).bind λρ1=>(U ρ1).bind λb=>if b=Z' then (fe ρ1).bind λx=>(BL ρ τ U fe a).map (x :: ·) else BL ρ τ U fe a
def o6(f:DL)(src:List (Option Nat))(τ:BZ)(U:DT)(fe:DF):DL:=λρ=>(f ρ).bind λa=>if a.length<=ez then BL (kZ src ρ) τ U fe a else M
noncomputable def iC:DT:=λ_=>Y Z'
def k8(own own':List Nat)(src:List (Option Nat)):Bool:=(own'.all λj=> !own'.contains (DC j))&&(cI src.length).all λi=>match src[i]? with|some (Y j)=>decide (i∈own')==decide (j∈own)|_=>Z'
theorem k7{own own':List Nat}{src:List (Option Nat)}(h:k8 own own' src=Z')(e:src[i]?=Y (Y j)):(i∈own'↔j∈own):=by
 unfold k8 at h;rw[aH]at h;have h:=h.2;rw[c7]at h;have a:i<src.length:=(aj.mp e).1;have:=h i (by simpa using a);rw[e]at this;simpa using this
theorem KI{own own':List Nat}{src:List (Option Nat)}(h:k8 own own' src=Z')(b:j∈own')(a:DC j∈own'):False:=by
 unfold k8 at h;rw[aH,c7]at h;have:=h.1 j b;simp[a]at this
theorem lb.src{K:bb}{own own':List Nat}{src:List (Option Nat)}{G H:Hp}{l:St}{ρ:bZ}(h:lb K own G H l ρ)(f:k8 own own' src=Z'):lb K own' G H (om src l) (kZ src ρ):=by
 refine⟨by simp[om,kZ],λi d e =>?_,λj r p k g _=>(KI f k g).elim⟩;unfold kZ at e;rw[aT]at e;rcases c:src[i]? with _|o
 ·rw[c]at e;cases e
 rw[c]at e;cases o with
 |none=>cases e|some j=>
  have e:(ρ[j]?).getD M=Y d:=by simpa using e
  have s:ρ[j]?=Y (Y d):=by
   rcases q:ρ[j]? with _|z
   ·rw[q]at e;cases e
   rw[q]at e;rw[show z=Y d from e]
  obtain⟨v,n,a⟩:=h.get j d s;refine⟨v,?_,?_⟩
  ·unfold om;rw[aT,c];simp[n]
  ·have:=k7 f c;by_cases b:i∈own'
   ·rw[if_pos b];rw[if_pos (this.mp b)]at a;exact a
   ·rw[if_neg b];rw[if_neg (λz=>b (this.mpr z))]at a;exact a
section
variable {X:Cx}{own own' J:List Nat}{N:List aG}{src:List (Option Nat)}{T:Scope}{L O m:Expr}{E:List Expr}{f:DL}{τ:BZ}{U:DT}{fe:DF}{g:TG}{u:Pos}
theorem Iy.imp{t:TT}(h:Iy X E t)(k:∀l H Q,b l H Q->t l H Q):Iy X E b:=λa s l H Q I q=>h a s l H Q I (k _ _ _ q)
theorem jh:Iy X [] (ui X.K own iC):=O'.imp λl H Q ⟨G,ρ,b,a,d,c,k⟩=>by cases c;exact k G H (.refl a)
theorem JJ(h:PT X c (ui X.K own U)):Iy X [c] (ui X.K own U):=O_ h
theorem Rg{K:bb}{l:St}{H:Hp}(ho:k8 own own' src=Z')(hg:∀v l H Q,Xc K own' τ v l H Q->g v l H Q)(q:tF K own (o6 f src τ U fe) l H Q):RN (E8 K own f) src g (ui K own' U) (tP K own' fe) l H Q:=by
 obtain⟨G,ρ,rs,gh,P,s,k⟩:=q;unfold o6 at s;obtain⟨h,ef,s⟩:=ae.1 s;have s:(if h.length<=ez then BL (kZ src ρ) τ U fe h else M)=Y rs:=s;split at s
 ·rename_i hz;refine⟨G,ρ,h,gh,P,ef,λJ A w E1 ok =>?_⟩;refine⟨λi m ys D=>m=h.length-i/\i<=h.length/\ys.length<=i/\∃R r c,gO A w R D/\bx K R r ys/\BL (kZ src ρ) τ U fe (h.drop i)=Y c/\r++c=rs,
   ⟨h.length,rfl,fc _,aM _,A,[],rs,.refl E1.gh,.nil,s,rfl⟩,?_⟩
  rintro i m ys D ⟨rfl,YG,ZM,R,r,c,o,rx,d,rfl⟩;have t:bF A D:=o.gg.trans o.gh;by_cases n:i<h.length
  ·refine .inr ⟨ok.go i D t n,?_,λC H'=>C.length<=i+1/\∃G3 F a,gO A w G3 H'/\bx K G3 F C/\BL (kZ src ρ) τ U fe (h.drop (i+1))=Y a/\F++a=r++c,
    λC H' z=>⟨h.length-(i+1),by omega,rfl,n,z⟩,λx H3 y =>?_⟩
   ·have:=iB;omega
   ·obtain⟨G3,X,N⟩:=ok.Q1 i D x H3 R h[i] o.gg o.gh y (aU n);rw[iZ n]at d;unfold BL at d;obtain⟨j,et,d⟩:=ae.1 d;rcases eb:U j with _|b
    ·simp[eb]at d
    simp only[eb,aa]at d;have E13:=E1.trans (o.trans X);refine hg _ _ _ _ ⟨G3,kZ src ρ,h[i],j,X.gh,(P.ext E13).src ho,N,et,λσ4 G4 H4 E4 B=>⟨G4,j,b,E4.gh,B,eb,λG5 H5 S =>?_⟩⟩;have E15:=(o.trans X).trans (E4.trans S);cases b with
    |false=>exact Ga ⟨by omega,G5,r,c,E15,bx.mono ((X.trans (E4.trans S)).gg) r rx,d,rfl⟩
    |true=>
     refine BM ?_;simp only[if_true]at d;obtain⟨x4,ee,d⟩:=ae.1 d;rcases el:BL (kZ src ρ) τ U fe (h.drop (i+1)) with _|a
     ·simp[el]at d
     simp only[el,aa,bI]at d;cases d;refine⟨G5,j,x4,S.gh,B.ext S,ee,λv G6 H6 E6 r6=>⟨by simp;omega,G6,r++[x4],a,E15.trans E6,(bx.mono ((X.trans ((E4.trans S).trans E6)).gg) r rx).append (.cons r6 .nil),rfl,by simp⟩⟩
  ·have e:i=h.length:=by omega
   subst e;rw[vg]at d;unfold BL at d;cases d;refine .inl ⟨ok.stop _ D t (aM _),λp hp =>?_⟩;have E12:=E1.trans o;refine k p ys R _ (E12.trans (gO.lay (p:=p) o.gh hp)) (E12.hh.free hp) (o.gh.free hp) bM ?_;rw[cM];exact rx
 ·cases s
theorem ue(S:gM X N src T)(j:X.calm=Z')(e:PI X L O (E8 X.K own f))(n:QH J g)(a:∀i∈J,src[i]?=Y M)(h:∀v l H Q,Xc X.K own' τ v l H Q->g v l H Q)(k:∀C s H b,PG (X.wq N T C s H b) L g/\Iy (X.wq N T C s H b) E (ui X.K own' U)/\PE (X.wq N T C s H b) m (tP X.K own' fe))(d:k8 own own' src=true:=by decide)(c:∀x,dM O X.env x=fm x:=by intro _;rfl):PE X (.ListComp m [⟨L,O,E,0⟩] T u) (tF X.K own (o6 f src τ U fe)):=
 (MB S j e n a k c).imp λl H Q q=>Rg d h q
theorem CM{B:Bs}{t:List Nat}{i:Nat}{c D:Pos}(S:gM X N src T)(hc:X.calm=Z')(hN:X.N.Nodup)(F:X.N[i]?=Y y)(hl:X.env.scope.names.lookup y=Y .local)(hi:PI X L O (E8 X.K own f))(ag:QH J g)(j:∀i∈J,src[i]?=Y M)(hg:∀v l H Q,Xc X.K own' τ v l H Q->g v l H Q)(hb:∀C s H z,PG (X.wq N T C s H z) L g/\Iy (X.wq N T C s H z) E (ui X.K own' U)/\PE (X.wq N T C s H z) m (tP X.K own' fe))(R:k8 own own' src=true:=by decide)(n:i∈own:=by decide)(d:∀a,(i,a)∉B.3:=by intro a;simp_all)(hm:Cu i∉own:=by decide)(h:c5 (.ListComp m [⟨L,O,E,0⟩] T u) (Y (.Name y D)) c.line X.env=fm true:=by rfl)(q:∀x,dM O X.env x=fm x:=by intro _;rfl):PS X (.Assign [.Name y D] (.ListComp m [⟨L,O,E,0⟩] T u) c) (lq X.K B t own own (jS i (o6 f src τ U fe))):=
 (Fy S hc hN F hl hi ag j hb h q).imp λD' l H ⟨G,ρ,o,S,e,k⟩=>Rg R hg (by unfold jS at e;obtain⟨ds,ef,e⟩:=aS.1 e;cases e;exact⟨G,ρ,ds,S.gh,S.lV,ef,λp vs G' H' b P gp K r=>k _ G' H' (S.OU n b P gp K r d hm)⟩)
end
def i4(K:bb)(F:List D->Option D):Sp:=λe H Q _=>∃G a d,bF G H/\bx K G a e/\F a=Y d/\∀v c b,gO G H c b->dg K c d v->Q v b
def Q4(K:bb)(F:List D->Option (List D)):Sp:=λg H Q _=>∃G f e,bF G H/\bx K G f g/\F f=Y e/\∀a d c b,gO G H c b->H a=M->c a=M->b a=Y (.lst d)->bx K c e d->Q (.ref a) b
noncomputable def gX(N:Nat)(a:List D):bZ:=a.map Y++bL (N-a.length) M
noncomputable def nC:DO->Option D
 |.rt d=>Y d|.ro a=>Y (.lst a)|.nx _=>Y .eJ|_=>M
noncomputable def VM:DO->Option (List D)
 |.ro a=>Y a|_=>M
def j2(n N:Nat)(g:DG)(a:List D):Option D:=if a.length=n then (g (gX N a)).bind nC else M
def Ku(n N:Nat)(g:DG)(a:List D):Option (List D):=if a.length=n then (g (gX N a)).bind VM else M
theorem n5{N:Nat}{b:List D}{i:Nat}{d:D}(h:(gX N b)[i]?=Y (Y d)):b[i]?=Y d:=by
 unfold gX at h;by_cases c:i<b.length
 ·rw[d6 (by simpa using c),aT]at h;rcases e:b[i]? with _|a
  ·rw[e]at h;cases h
  rw[e]at h;cases h;rfl
 ·rw[dO (by simpa using c),OA]at h;split at h<;>cases h
theorem zh{x:aG->Int->Prop}{K:bb}{G H:Hp}{own:List Nat}{N:List aG}{k:List D}{m:List V}(s:bF G H)(r:bx K G k m)(t:∀i∈own,k.length<=i):SR K ⟨G,H,[],x⟩ own G H (start N m) (gX N.length k):=by
 have g:∀i d,i∈own->(gX N.length k)[i]?=Y (Y d)->False:=λi d f e=>by have:=(aj.mp (n5 e)).1;have:=t i f;omega
 refine⟨s,bF.refl _,bF.refl _,λb o e =>.inl e,λi d f e =>?_,⟨λ_=>[],λi d f e=>(g i d f e).elim,λi d f e=>(g i d f e).elim,λi j d c f z e=>(g i d f e).elim⟩,by simp[start,gX,r.length],λi a h=>(by cases h),λj r p w A e=>(g j _ w e).elim⟩;obtain⟨v,n,q⟩:=r.get (n5 e);refine⟨v,?_,q⟩;have f:i<m.length:=(aj.mp n).1;unfold start;rw[d6 (by simpa using f),aT,n];rfl
section
variable {P:bj}{w:bQ}{K:bb}{u:aG->Option af}{y:cF}
theorem jD.xk{x e:aG}{m:cY}{f:az}{N I:List aG}{k:Nat}(F:jD K x e m f O)(S:bC N I (aI m)){own own':List Nat}{g:DG}(p:∀i∈own,I.length<=i) (hb:∀(j:af) (A:cf) (outer:List Env) (s:aq) (H:Hp) (E:XK),f' k (A.deeper (rW e (aI m) s.heap.objs.size f j))->∀B:Bs,B.3=[] ->
   sP (xE iW P w K u y N e (aI m) f j A outer s H E).MS (iA m) (lq K B [] own own' g)):cQ P w K u y iW (k+1) f O I (i4 K (j2 I.length N.length g)):=by
 refine F.ok S (λR H Q E h =>?_) (λj A outer s H R Q E U h =>?_)
 ·obtain⟨G,ds,d,c,r,b,_⟩:=h;unfold j2 at b;split at b
  ·rw[<- r.length];assumption
  ·cases b
 ·obtain⟨G,ds,d,c,r,b,q⟩:=h;unfold j2 at b;split at b
  ·rename_i X;refine⟨_,hb j A outer s H E U ⟨G,H,[],λ_ _=>False⟩ rfl,?_⟩;obtain⟨o,eg,b⟩:=ae.1 b;refine⟨G,_,o,zh c r (by rw[X];exact p),eg,?_⟩;cases o with
   |rt d'=>cases b;exact λv z t E r=>q v z t E r
   |ro T=>cases b;exact λa J z t E h1 L h3 r=>q _ (eN z a (.lst J)) t (E.freeze h1 L h3) (dJ.mpr ⟨a,J,rfl,bM,bx.mono (.alloc L) T r⟩)
   |nx D=>cases b;exact λσ z t S=>q _ z t S.pb (iu.mpr rfl)
   |_=>cases b
  ·cases b
theorem jD.ZC{x:aG}{p:cY}{f:az}{N z:List aG}{k:Nat}(F:jD K x j p f I)(S:bC N z (aI p)){own own':List Nat}{g:DG}(t:∀i∈own,z.length<=i) (R:∀(m:af) (A:cf) (e:List Env) (s:aq) (H:Hp) (E:XK),f' k (A.deeper (rW j (aI p) s.heap.objs.size f m))->∀B:Bs,B.3=[] ->
   sP (xE iW P w K u y N j (aI p) f m A e s H E).MS (iA p) (lq K B [] own own' g)):cQ P w K u y iW (k+1) f I z (Q4 K (Ku z.length N.length g)):=by
 refine F.ok S (λJ H Q E h =>?_) (λm A e s H J Q E c h =>?_)
 ·obtain⟨G,ds,d,D,r,b,_⟩:=h;unfold Ku at b;split at b
  ·rw[<- r.length];assumption
  ·cases b
 ·obtain⟨G,ds,d,D,r,b,q⟩:=h;unfold Ku at b;split at b
  ·rename_i O;refine⟨_,R m A e s H E c ⟨G,H,[],λ_ _=>False⟩ rfl,?_⟩;obtain⟨o,eg,b⟩:=ae.1 b;refine⟨G,_,o,zh D r (by rw[O];exact t),eg,?_⟩;cases o with
   |ro rs=>cases b;exact λa L G' H' E X U T r=>q a L G' H' E X U T r
   |_=>cases b
  ·cases b
structure m4(P:bj)(w:bQ)(K:bb)(mg:aG->Option af)(base:cF)(x:aG)(k:Nat)(sp:Sp):Prop where
 ex:∃f fd ps,cQ P w K mg base iW k f fd ps sp/\mg x=some (.ref f)/\B2 K (.ref f)=true/\Binds K fd ps []
theorem m4.mono{x:aG}{k:Nat}(h:m4 P w K u y x j a)(c:j<=k):m4 P w K u y x k a:=by
 obtain⟨f,g,b,e,d⟩:=h.ex;exact⟨f,g,b,e.mono c,d⟩
end
section
variable {X:Cx}{own:List Nat}{x:aG}{p C:Pos}{e:Expr}{l:List Expr}{g:DL}{k:Nat}
theorem fE{F:List D->Option D}(h:m4 X.prog X.w X.K X.mg X.base x k (i4 X.K F))(s:f' k X.A)(z:Gl X x)(E:PA X (e::l) (Hr X.K own g))(b:(x==("__debug__" : aG))=false:=by decide)(A:ao (e::l) X.env=(Z_,eval e X.env)::ao l X.env:=by rfl)(a:(dh C (ao l X.env)).any (·.1)=false:=by rfl):PE X (.Call (.Name x p) (e::l) [] C) (tP X.K own (be F g)):=by
 obtain⟨f,fd,U,I,t,w,B⟩:=h.ex;refine(yX I s z t w B .nil pZ E b A a).imp λT H Q ⟨G,m,d,J,c,L,q⟩ =>?_
 obtain⟨i,K,u⟩:=AI L;exact⟨G,m,i,J,c,K,λn R O j r=>by show i4 X.K F (n++[]) O Q E0;rw[cM];exact⟨R,i,d,j.gh,r,u,λv P N S o=>q v P N (j.trans S) o⟩⟩
noncomputable def oJ(F:List D->Option (List D))(g:DL):DL:=λa=>(g a).bind F
theorem wg{F:List D->Option (List D)}(h:m4 X.prog X.w X.K X.mg X.base x k (Q4 X.K F))(w:f' k X.A)(B:Gl X x)(J:PA X (e::l) (Hr X.K own g))(d:(x==("__debug__" : aG))=false:=by decide)(E:ao (e::l) X.env=(Z_,eval e X.env)::ao l X.env:=by rfl)(c:(dh C (ao l X.env)).any (·.1)=false:=by rfl):PE X (.Call (.Name x p) (e::l) [] C) (tF X.K own (oJ F g)):=by
 obtain⟨f,fd,ps,i,z,A,I⟩:=h.ex;refine(yX i w B z A I .nil pZ J d E c).imp λσ H Q ⟨G,o,O,u,j,b,q⟩ =>?_
 unfold oJ at b;obtain⟨n,N,b⟩:=ae.1 b;exact⟨G,o,n,u,j,N,λr T R m v=>by show Q4 X.K F (r++[]) R Q E0;rw[cM];exact⟨T,n,O,m.gh,v,b,λa s S P U i L K t=>q a s S P (m.trans U) (m.hh.free i) L K t⟩⟩
noncomputable def Ci:D->Bool
 |.eJ=>Z'|.bl _=>Z'|.int _=>Z'|.str _=>Z'|_=>Z_
end
theorem SV{F:List D->Option D}{m:Nat}(e:∀b:List Int,b.length<=m->F [.ku b]=Y (.bl Z'))(K:bb)(H:Hp)(a:az)(b:List Int)(c:b.length<=m)(f:N' H)(d:n9 K H a (b.map V.int)):
  i4 K F [.ref a] H (λv _=>v=.bl Z') λ_ _ _=>False:=
 ⟨H,[.ku b],.bl Z',bF.refl _,.cons (IV.mpr ⟨a,rfl,d⟩) .nil,e b c,λv h g E r=>dt.mp r⟩
noncomputable def Xz(K:bb)(a:az):It:=
 ⟨λi H=>∃b x,n9 K H a b/\b[i]?=Y x,λi H v c=>∃x p,(∀b,n9 K H a b->b[i]?=Y x)/\H p=M/\v=.ref p/\c=eN H p (.tup [.int i,x]),λi H=>∃b,n9 K H a b/\b.length<=i⟩
theorem Kl{P:bj}{K:bb}{x1}(a e t:az)(T:e≠t):ID P w K (.Tuple Zi x1 N) (Xz K a) [e,t] e (λi h=>(∃l,IsEnum h e t (i:Int) l)/\h.IsListIter t a i) where
 mem:=by simp
 obj:=λi h D b g=>by
  obtain⟨⟨l,f⟩,j⟩:=D;rcases aK.mp g with rfl|g
  ·exact⟨_,f,λv z=>by cases z⟩
  ·have e:b=t:=by simpa using g
   subst e;obtain⟨o,e,c,d⟩:=j;exact⟨o,e,λv z=>by rw[d]at z;cases z⟩
 keep:=λi h h' D k=>by obtain⟨⟨l,f⟩,j⟩:=D;exact⟨⟨l,k e (by simp) _ f⟩,j.at λo q=>k t (by simp) o q⟩
 item:=by
  intro X hP hw hK hc i J s σ H E I R D hg;subst hP hw hK;obtain⟨⟨l,f⟩,j⟩:=D;obtain⟨xs,x,hq,B⟩:=hg;obtain⟨Hb,rv,p,hz⟩:=I.list hq;obtain⟨u,hu,ru⟩:=rv.get B;have fe:=R e (by simp);have U:=R t (by simp);refine wpAny_pyNext_enum_item f j p.isList (x:=u) (by simpa using hu) T λh1 eo it1 t1 z1 k1 =>?_
  refine⟨_,rfl,?_⟩;refine wpAny_letOwnedTupleGo_enum (s:={ s with heap:=h1,toks:=s.toks+1 }) eo λG e2 s2 =>?_
  have S:e<s.heap.objs.size:=aV f;have V:H s.heap.objs.size=none:=I.jo.fresh (aM _);have L:lh e h1 G:=s2;have m:∀b o,b≠e->b≠t->s.heap.get? b=Y o->G.get? b=Y o:=λb o h3 h4 q=>(L.2 b h3).trans (k1 b o h3 h4 q)
  have tup:G.get? s.heap.objs.size=Y { cls :=.type "tuple",data :=.seq #[.int i s.toks,u] }:=(L.2 _ (l9 S)).trans t1;have C:∀b o,H b=Y o->b≠e/\b≠t:=λb o q=>⟨λz=>by(rw[z,fe.1]at q;cases q),λz=>by(rw[z,U.1]at q;cases q)⟩
  have new:i6 X.prog X.w (eN H s.heap.objs.size (.tup [.int i,x])) G s.heap.objs.size (.tup [.int i,x]):=
   ⟨by show 2<=br;rw[jO];decide,[.int i s.toks,u],.cons ⟨_,rfl⟩ (.cons ru .nil),_,tup,rfl,_,rfl⟩
  have O:pM X.prog X.w (eN H s.heap.objs.size (.tup [.int i,x])) G:=λb o q=>by
   by_cases g:b=s.heap.objs.size
   ·subst g;rw[bM]at q;cases q;exact new
   ·rw[bz g]at q;refine(I.jo b o q).Bp (λc v F r =>?_) (λc r=>by rw[bz (bW r V)];exact r) λc ys r=>by rw[bz (bW r V)];exact r
    rcases F with rfl|F
    ·exact m _ _ (C _ _ q).1 (C _ _ q).2 r
    ·exact m _ _ (C _ _ F).1 (C _ _ F).2 r
  have un:Un (EJ X.stack) [e,t] H (eN H s.heap.objs.size (.tup [.int i,x])) s.heap G:=by
   have y:∀b,b∉[e,t]->b≠e/\b≠t:=λb g=>⟨λz=>g (by simp[z]),λz=>g (by simp[z])⟩
   have l:∀b o,s.heap.get? b=Y o->b≠s.heap.objs.size:=λb o q=>bS (aV q)
   refine⟨λb o q n _ B=>m b o (y b B).1 (y b B).2 q,λb o q n _ B=>⟨o.slots,m b o (y b B).1 (y b B).2 q⟩,λb o q n B=>by rw[bz (l b o q)];exact n,
    λb o q B=>⟨o,m b o (y b B).1 (y b B).2 q⟩,λb ys q=>by rw[bz (bW q V)];exact q,λb o u q=>by rw[bz (bW q V)];exact q,λb ps q=>⟨#[],by rw[bz (bW q V)];simpa using q⟩⟩
  have I2:Inv X J σ (eN H s.heap.objs.size (.tup [.int i,x])) { s with heap:=G,toks:=s.toks+1 }:=I.JW (s':={ s with heap:=G,toks:=s.toks+1 }) rfl un O I.bare λb g=>by
   rcases aK.mp g with rfl|g
   ·exact⟨fe.2.2.2.1,fe.2.1,fe.2.2.2.2.1,fe.2.2.2.2.2⟩
   ·have z:b=t:=by simpa using g
    subst z;exact⟨U.2.2.2.1,U.2.1,U.2.2.2.2.1,U.2.2.2.2.2⟩
  have Xg:G.IsListIter t a (i+1):=it1.at λo q=>(L.2 t (cL T)).trans q
  refine⟨.ref s.heap.objs.size,_,I2,rfl,⟨x,s.heap.objs.size,λys hy=>by rw[I.su hy hq];exact B,V,rfl,rfl⟩,⟨⟨u,by exact_mod_cast e2⟩,Xg⟩,λb g =>?_⟩;have:b≠s.heap.objs.size:=by
   rcases aK.mp g with rfl|g
   ·exact bS S
   ·have z:b=t:=by simpa using g
    subst z;obtain⟨o,q,_⟩:=j;exact bS (aV q)
  rw[bz this];exact(R b g).1
 done:=by intro X hP hw hK hc i J s σ H E I R D hg;subst hP hw hK;obtain⟨⟨l,f⟩,j⟩:=D;obtain⟨xs,hq,B⟩:=hg;obtain⟨Hb,rv,p,hz⟩:=I.list hq;obtain⟨f0,f1,f2,f3,f4,f5⟩:=R t (by simp);have hl:=rv.length;exact wpAny_pyNext_enum_end (I.ok.hd hc) f j p.isList (by simp;omega) λh' eb=>⟨rfl,I.turned (t':=s.toks) (λb o g q=>eb b o g q) f0 f1 f3 f4 f5⟩
 self:=λA i s Q E D h=>by obtain⟨⟨l,f⟩,j⟩:=D;exact wpAny_pyIter_enum f h
section
variable {X:Cx}{own:List Nat}{e:Expr}{f:DF}
def Ti(K:bb)(e:TE):TI:=λc H R=>e c H λx b=>∃a,x=.ref a/\(∃d,n9 K b a d)/\R (Xz K a) b
theorem Pj{A}{v:TE}(Q:Gl X "enumerate")(O:X.mg "enumerate" = M)(P:PE X e v)(V:ao [e] X.env=[(Z_,eval e X.env)]:=by rfl)(n:ao [e] X.env=(Z_,eval e X.env)::ao [] X.env:=by rfl)(L:iR "enumerate" = Y (.type "enumerate"):=by decide +kernel):PI X (.Tuple k A g) (.Call (.Name "enumerate" p) [e] [] i) (Ti X.K v):=by
 intro j s y H R I h;refine Call_ (qF I Q O L (fo (gD (f7 P kj n i j s y H (λl f=>match l with|[x]=>∃a,x=.ref a/\(∃r,n9 X.K f a r)/\R (Xz X.K a) f|_=>False) I h) λU c ⟨l,f,d,C,m⟩ =>?_) V rfl));cases l with
 |nil=>exact m.elim|cons x t=>
  cases t with
  |cons _ _=>exact m.elim|nil=>
  obtain⟨a,rfl,⟨r,N⟩,q⟩:=m;obtain⟨u,rfl,B⟩:=cK.one C;cases B;obtain⟨K,rv,D,hz⟩:=d.list N;refine call_enumerate_list D.isList λS w G T J =>?_
  refine wpAny_pyIter_enum (s:={ c with heap:=S }) w ?_;have E:f (c.heap.objs.size+1)=none:=d.jo.fresh (jZ _);have F:f c.heap.objs.size=none:=d.jo.fresh (aM _);refine⟨c.heap.objs.size+1,[c.heap.objs.size+1,c.heap.objs.size],_,_,f,rfl,d.kept (t':=c.toks) J,Kl a (c.heap.objs.size+1) c.heap.objs.size (l9 (jP _)),⟨⟨_,w⟩,G⟩,λb o =>?_,q⟩;rcases aK.mp o with rfl|o
  ·exact d.yE (jZ _) E
  ·have z:b=c.heap.objs.size:=by simpa using o
   subst z;exact d.yE (aM _) F
noncomputable def x6(a:List D):List D:=a.zipIdx.map λp =>.tup [.int (p.2:Nat),p.1]
theorem xA{a:List D}{i:Nat}{d:D}(h:(x6 a)[i]?=Y d):∃x,a[i]?=Y x/\d=.tup [.int i,x]:=by
 unfold x6 at h;rw[aT,List.getElem?_zipIdx]at h;rcases e:a[i]? with _|x
 ·rw[e]at h;cases h
 rw[e]at h;cases h;exact⟨x,rfl,by simp⟩
theorem xy(a:List D):(x6 a).length=a.length:=by simp[x6]
theorem K3{K:bb}{G:Hp}{a:az}{b:List V}{n:List D}(k:G a=Y (.lst b))(r:bx K G n b):Ex K G (Xz K a) (x6 n):=by
 refine⟨λi H s e =>?_,λi H s e=>⟨b,.of (s _ _ k),by rw[xy]at e;rw[<- r.length];exact e⟩,λi H x B A d l h ⟨y,p,f,m,u,w⟩ t =>?_⟩
 ·rw[xy]at e;have j:i<b.length:=by rw[<- r.length];exact e
  exact⟨b,b[i],.of (s _ _ k),by simp[j]⟩
 ·obtain⟨c,z,rfl⟩:=xA t;have q:=f b (.of (h _ _ (l _ _ k)));obtain⟨v,g,o⟩:=r.get z;rw[q]at g;cases g;subst u w;refine⟨eN A p (.tup [.int i,y]),gO.alloc h m,fQ.mpr ⟨p,_,rfl,bM,.cons (cg.mpr rfl) (.cons (dg.mono (l.trans (.alloc (h.free m))) c o) .nil)⟩⟩
def iE(f:DF):DL:=λa=>(iL f a).map x6
theorem y_{c:List Expr}{o}(w:Gl X "enumerate")(u:X.mg "enumerate" = M)(h:PE X e (tP X.K own f))(t:ao [e] X.env=[(Z_,eval e X.env)]:=by rfl)(i:ao [e] X.env=(Z_,eval e X.env)::ao [] X.env:=by rfl):
  PI X (.Tuple c o b) (.Call (.Name "enumerate" p) [e] [] g) (E8 X.K own (iE f)):=(Pj w u h t i).imp <|by
 rintro B H R ⟨G,n,D,x,j,d,k⟩;unfold iE at d;obtain⟨C,y,d⟩:=aS.1 d;cases d;refine⟨G,n,_,x,j,vW y,λv A z m s =>?_⟩;obtain⟨a,q,rfl,l,r⟩:=dJ.mp s;exact⟨a,rfl,⟨q,.of (m.gh _ _ l)⟩,k _ A z m (K3 l r)⟩
noncomputable def Za(x:aG):It:=⟨λi _=>i<x.cps.size,λi H v a=>a=H/\∃c,x.cps[i]?=Y c/\v=.str ⟨#[c]⟩,λi _=>x.cps.size<=i⟩
theorem L7{P:bj}{K:bb}(x:aG)(t:Tok)(j:az):ID P w K G (Za x) [j] j (λi h=>h.IsStrIter j "str_ascii_iterator" x t i) where
 mem:=by simp
 obj:=λi h a b l=>by
  have e:b=j:=by simpa using l
  subst e;obtain⟨o,e,c,d⟩:=a;exact⟨o,e,λv z=>by rw[d]at z;cases z⟩
 keep:=λi h p a k=>by obtain⟨o,e,c,d⟩:=a;exact⟨o,k j (by simp) o e,c,d⟩
 item:=by
  intro X q hw r F i f s D H E I n a g;subst q hw r;obtain⟨C,B,L,A,y,u⟩:=n j (by simp);have g:i<x.cps.size:=g;refine wpAny_pyNext_ascii_item a (c:=x.cps[i]) (by simp[g]) λp m J =>?_
  have N:Inv X f D H { s with heap:=p,toks:=s.toks+1 }:=I.turned (λb o l e=>(J.2 b l).trans e) C B A y u;obtain⟨o,e,c,d⟩:=id m;exact⟨_,rfl,Jt (s:={ s with heap:=p,toks:=s.toks+1 }) e c d (by decide) ⟨.str ⟨#[x.cps[i]]⟩,H,N,⟨_,rfl⟩,⟨rfl,_,by simp[g],rfl⟩,m,λb l=>(n b l).1⟩⟩
 done:=by intro X q hw r F i f s D H E I n a g;subst q hw r;obtain⟨C,B,L,A,y,u⟩:=n j (by simp);have g:x.cps.size<=i:=g;exact wpAny_pyNext_ascii_end (I.ok.hd F) a (by simp[g]) λp O=>⟨rfl,I.turned (t':=s.toks) (λb o l e=>O b o l e) C B A y u⟩
 self:=λ_ _ _ _ _ a h=>wpAny_pyIter_striter_ascii a h
def V8(b:TE):TI:=λa H R=>b a H λv c=>∃x,v=.str x/\x.cps.all (· < 128)=Z'/\R (Za x) c
theorem R_{f:TE}(m:PE X l f):PI X i l (V8 f):=by
 intro a s g H R I h;refine gD (m a s g H _ I h) λv c ⟨x,r,d,j,k⟩ =>?_
 obtain⟨z,e,p,q⟩:=k;subst e;obtain⟨t,rfl⟩:=j;refine wpAny_pyIter_ascii p ?_;refine⟨c.heap.objs.size,[c.heap.objs.size],_,_,r,rfl,d.kept (t':=c.toks) λb o e=>ak _ e,L7 z t _,⟨_,bD _ rfl,rfl,rfl⟩,λb n =>?_,q⟩;have e:b=c.heap.objs.size:=by simpa using n
 subst e;exact d.yE (aM _) (d.jo.fresh (aM _))
noncomputable def um(x:aG):List D:=x.cps.toList.map λc =>.str ⟨#[c]⟩
def iS(f:DF):DL:=λa=>(f a).bind λd=>match d with|.str x=>if x.cps.all (· < 128)=Z' then Y (um x) else M|_=>M
theorem Nc{K:bb}(x:aG):Ex K G (Za x) (um x):=by
 have f:(um x).length=x.cps.size:=by simp[um]
 refine⟨λi H s a=>by rw[f]at a;exact a,λi H s a=>by rw[f]at a;exact a,λi H v m k d l g ⟨e,c,j,h⟩ b =>?_⟩;subst e h;refine⟨k,.refl g,?_⟩;unfold um at b;rw[aT,Ry,j]at b;cases b;exact i9.mpr rfl
theorem TX{g:Expr}(h:PE X e (tP X.K own f)):PI X g e (E8 X.K own (iS f)):=(R_ h).imp <|by
 rintro q H R ⟨G,c,r,l,b,a,k⟩;unfold iS at a;obtain⟨d,m,a⟩:=ae.1 a;cases d<;>simp only[aa]at a<;>try (cases a;done)
 split at a
 ·cases a;rename_i x j;exact⟨G,c,_,l,b,m,λv o n p i=>⟨x,i9.mp i,j,k _ o n p (Nc x)⟩⟩
 ·cases a
end
theorem jw{K:bb}{own:List Nat}(i:Nat)(e:i∉own:=by decide):∀v a H Q,Xc K own (gN i) v a H Q->rd i v a H Q:=λv a H Q ⟨G,h,d,c,f,b,r,g,k⟩=>by
 cases g;exact k _ G H (.refl f) (b.set e r)
noncomputable def wo(b:Scope)(d N:List aG)(c:List (Option Nat))(a:Scope):Bool:=
 (a.names.all λy=>a.names.lookup y.1==Y y.2)&&(a.names.all λy=>y.2 != .free||(b.names.lookup y.1==Y .cell||b.names.lookup y.1==Y .free))&&(c.length==N.length) &&
 ((cI c.length).all λi=>match c[i]?,N[i]? with|some (Y j),Y x=>d[j]? == Y x&&a.names.lookup x==Y .free|_,_=>Z')
theorem km{X:Cx}{outer:Scope}{oN N:List aG}{src:List (Option Nat)}{a:Scope}(d:a.kind=.function)(h:wo outer oN N src a=Z')(p:X.env.scope=outer)(o:X.N=oN):gM X N src a:=by
 unfold wo at h;simp only[aH,c7,beq_iff_eq,bT]at h;obtain⟨⟨⟨n,m⟩,l⟩,k⟩:=h;refine⟨d,λy b=>n y b,λy b f =>?_,l,λi j x c g =>?_⟩
 ·rw[p];rcases m y b with z|z
  ·rw[f]at z;exact absurd z (by decide)
  ·exact z
 ·have e:i<src.length:=(aj.mp c).1;have:=k i (by simpa using e);rw[c,g]at this;simp only[aH,beq_iff_eq]at this;rw[o];exact this
section
variable {m:bj}{w:bQ}{A:cf}{s:aq}{R:Result->aq->Prop}
variable {I:az}{j y:List az}{G:Array yP->Array yP->Prop}{n:Nat}{P:Nat->af->Prop}{r:Nat->aq->Prop}
end
section
variable {m:bj}{w:bQ}{A:cf}{E:af->aq->Prop}{s:aq}
variable {I:az}{j y:List az}{G:Array yP->Array yP->Prop}{n:Nat}{P:Nat->af->Prop}{r:Nat->aq->Prop}
end
section
variable {X:Cx}{L:List Nat}{e:Expr}{f:DF}{p q J B:Pos}{C:TE}
end
abbrev DM:=bZ->Option (D×bZ)
abbrev Ka:=bZ->Option (List D×bZ)
def tM(K:bb)(B:Bs)(own:List Nat)(f:DM):TE:=λc H Q=>∃G e d a,SR K B own G H c e/\f e=Y (d,a)/\∀v b g,SR K B own b g c a->bF G b->dg K b d v->Q v g
def UE(K:bb)(B:Bs)(own:List Nat)(f:Ka):TA:=λc H Q=>∃G d g a,SR K B own G H c d/\f d=Y (g,a)/\∀e b h,SR K B own b h c a->bF G b->bx K b g e->Q e h
noncomputable def EK(H:Hp)(a:az):Hp:=λb=>if b=a then M else H b
theorem AE{a:az}:EK H a a=none:=by simp[EK]
theorem uW{a b:az}(h:b≠a):EK H a b=H b:=by simp[EK,h]
theorem JC{a:az}:bF (EK H a) H:=λb o e=>by
 by_cases h:b=a
 ·subst h;rw[AE]at e;cases e
 ·rw[uW h]at e;exact e
section
variable {X:Cx}{B:Bs}{own:List Nat}{e:Expr}{l:List Expr}{m:Pos}
noncomputable def mP(f:DF):DM:=λρ=>(f ρ).map λd=>(d,ρ)
theorem PR{f:DF}{b a:bZ}(h:mP f b=Y (d,a)):f b=Y d/\a=b:=by
 unfold mP at h;rcases e:f b with _|c
 ·rw[e]at h;cases h
 rw[e]at h;cases h;exact⟨rfl,rfl⟩
theorem cz{f:DF}(h:PE X e (tP X.K own f)):PE X e (tM X.K B own (mP f)):=h.imp <|by
 rintro j H Q ⟨G,n,d,a,S,b,k⟩;obtain⟨c,rfl⟩:=PR b;exact⟨G,a,d,S.gh,S.lV,c,λv i g E r=>k v i g (S.ext E) E.gg r⟩
noncomputable def kl:Ka:=λρ=>Y ([],ρ)
noncomputable def jn(f:DM)(g:Ka):Ka:=λρ=>(f ρ).bind λp=>(g p.2).bind λq=>Y (p.1::q.1,q.2)
theorem M4{f:DM}{b:bZ}(h:jn f g d=Y (j,b)):∃x a c,f d=Y (x,a)/\g a=Y (c,b)/\j=x::c:=by
 unfold jn at h;rcases i:f d with _|⟨x,a⟩
 ·rw[i]at h;cases h
 rw[i]at h;simp only[aa]at h;rcases e:g a with _|⟨c,k⟩
 ·rw[e]at h;cases h
 rw[e]at h;cases h;exact⟨x,a,c,rfl,e,rfl⟩
theorem hV:PA X [] (UE X.K B own kl):=kj.imp <|by
 rintro c H Q ⟨G,e,d,a,S,b,k⟩;cases b;exact k _ G H S (bF.refl _) .nil
theorem cS{f:DM}{g:Ka}(h:PE X e (tM X.K B own f))(t:PA X l (UE X.K B own g))(r:ao (e::l) X.env=(Z_,eval e X.env)::ao l X.env:=by rfl):PA X (e::l) (UE X.K B own (jn f g)):=
 (f7 h t r).imp <|by rintro F H Q ⟨G,j,d,b,S,w,k⟩;obtain⟨x,a,n,u,c,rfl⟩:=M4 w;exact⟨G,j,x,a,S,u,λv E J z o q=>⟨E,a,n,b,z,c,λI D C y i p=>k _ D C y (o.trans i) (.cons (dg.mono i x q) p)⟩⟩
noncomputable def yy(g:Ka):DM:=λa=>(g a).bind λq=>if q.1.length<=1000 then Y (.tup q.1,q.2) else M
theorem AL{q}{g:Ka}(h:PA X l (UE X.K B own g)):PE X (.Tuple l q m) (tM X.K B own (yy g)):=(Mw h).imp <|by
 rintro v H Q ⟨G,i,d,b,S,a,k⟩;unfold yy at a;rcases f:g i with _|⟨c,e⟩
 ·rw[f]at a;cases a
 rw[f]at a;have a:(if c.length<=1000 then Y (D.tup c,e) else M)=Y (d,b):=a;split at a
 ·cases a;rename_i t;refine⟨G,i,c,b,S,f,λj x w o r n=>⟨?_,λp u =>?_⟩⟩
  ·rw[<- n.length];exact bX t vN
  ·have E:=gO.alloc (p:=p) (o :=.tup j) o.gh u;exact k _ _ _ (o.ext E) (r.trans E.gg) (fQ.mpr ⟨p,j,rfl,bM,bx.mono E.gg c n⟩)
 ·cases a
noncomputable def m2(o:D->D->Option D)(a b:DM):DM:=λc=>(a c).bind λp=>(b p.2).bind λq=>(o p.1 q.1).map λd=>(d,q.2)
theorem PU{a b:DM}{f:bZ}(h:m2 o a b g=Y (d,f)):∃x e y,a g=Y (x,e)/\b e=Y (y,f)/\o x y=Y d:=by
 unfold m2 at h;rcases k:a g with _|⟨x,e⟩
 ·rw[k]at h;cases h
 rw[k]at h;simp only[aa]at h;rcases j:b e with _|⟨y,n⟩
 ·rw[j]at h;cases h
 rw[j]at h;simp only[aa]at h;rcases i:o x y with _|c
 ·rw[i]at h;cases h
 rw[i]at h;cases h;exact⟨x,e,y,rfl,j,i⟩
theorem Vw{K:bb}{s A:DM}(h:tM K B own (m2 o s A) c H Q):UC (rD K o) (tM K B own s) (tM K B own A) c H Q:=by
 obtain⟨G,i,d,b,S,z,k⟩:=h;obtain⟨x,a,y,t,r,C⟩:=PU z;exact⟨G,i,x,a,S,t,λv L N E j q=>⟨L,a,y,b,E,r,λu J l f e p=>⟨J,x,y,d,f.gh,.inl (dg.mono e x q),.inl p,C,λw I F g n=>k w I F (f.ext g) ((j.trans e).trans g.gg) n⟩⟩⟩
variable {a b:Expr}{s A:DM}
theorem Rp(d:Bg X (eL c) o)(f:PE X a (tM X.K B own s))(e:PE X b (tM X.K B own A)):PE X (.BinOp a c b m) (tM X.K B own (m2 o s A)):=(Q_ d f e).imp λg H Q h=>Vw h
def PQ(j:Nat):DM:=λb=>(gc j b).bind λa=>(a[a.length-1]?).map λd=>(d,b.set j (Y (.lst a.dropLast)))
theorem TR{b a:Pos}(h:PE X (.Name y p) (kr j))(q:j∈own:=by decide)(f:cy (.Name y p) "pop" X.env (eval (.Name y p) X.env)=eval (.Name y p) X.env:=by rfl)(e:(b.endLine==a.line)=true:=by rfl):
  PE X (.Call (.Attribute (.Name y p) "pop" b) [] [] a) (tM X.K B own (PQ j)):=
 (HD l7 PySem.F.slot_list_pop PySem.F.type_list_pop MX h f e).imp <|by
  rintro x H Q ⟨G,z,d,o,S,g,k⟩;unfold PQ at g;obtain⟨n,t,g⟩:=ae.1 g;rcases i:n[n.length-1]? with _|c
  ·simp[i]at g
  simp only[i,aa,bI]at g;cases g;exact R8 S q (fU t) i λv w u r=>k v G w u (bF.refl _) r
def EH(K:bb)(p:Nat)(F:List D->Option (D×List D)):Sp:=λh H Q _=>∃G f d b a n k,bF G H/\f[p]?=Y (.lst k)/\h[p]?=Y (.ref a)/\H a=Y (.lst n)/\bx K G k n/\G a=M /\
 (∀(i:Nat) c,i≠p->f[i]?=Y c->∃v,h[i]?=Y v/\dg K G c v)/\f.length=h.length/\F f=Y (d,b) /\
 ∀v e g j,gO G (EK H a) g j->g a=M->j a=Y (.lst e)->bx K g b e->dg K g d v->Q v j
def Pp(p:Nat):DO->Option (D×List D)
 |.rm d a=>(gc p a).map λb=>(d,b)
 |.nx a=>(gc p a).map λb=>(.eJ,b)
 |_=>M
def Bu(n N p:Nat)(g:DG)(a:List D):Option (D×List D):=if a.length=n then (g (gX N a)).bind (Pp p) else M
theorem SR.Qv{K:bb}{f v:Hp}{i:bZ}{a:az}(S:SR K B own G H g i)(w:j∈own)(t:i[j]?=Y (Y d))(p:g[j]?=Y (Y (.ref a)))(E:gO G (EK H a) f v)(L:f a=M)(C:v a=Y n)(r:jF K f u n)(x:vS d=true:=by rfl):SR K B own f v g (i.set j (Y u)):=by
 obtain⟨F,W⟩:=S.ow;obtain⟨Q,y,N⟩:=W.it j d w t;rw[p]at y;cases y;obtain⟨⟨o,P,O⟩,l⟩:=(nS.cell x).mp N;have:=S.chg (i:=j) (a:=a) (d':=u) (F0:=[a]) (S':=[a]) W w (λb c=>⟨by rw[l];exact c,d,t⟩) E.gg E.gh (λb o e=>by
   rcases E.fr b o e with z|z
   ·exact .inl z
   ·by_cases c:b=a
    ·exact .inr (.inr (by simp[c]))
    ·rw[uW c]at z;exact .inr (.inl z))
  (λb o c e=>E.hh b o (by rw[uW (by simpa using c)];exact e)) ((nS.cell r.vS).mpr ⟨⟨n,C,r⟩,rfl⟩) (by simp) (λb c=>by simp at c;subst c;exact⟨L,.inl (by simp)⟩)
  (λb h=>by have:=(S.pin j b h).2;rw[p]at this;cases this;rfl) (En r.vS) (λk q J I _ e=>(S.Rb t x k q J I e).elim)
 rwa [iD p]at this
theorem SR.called{K:bb}{f:Hp}{e:bZ}{a:az}{xs':List D}{b:List V}(S:SR K B own G H d e)(i:j∈own)(k:e[j]?=Y (Y (.lst g)))(h:d[j]?=Y (Y (.ref a)))(E:gO G (EK H a) c f)(o:c a=M)(n:f a=Y (.lst b))(r:bx K c xs' b):SR K B own c f d (e.set j (Y (.lst xs'))):=
 S.Qv i k h E o n ⟨b,rfl,r⟩
def t_(F:List D->Option (D×List D))(j:Nat)(g:DL):DM:=λa=>(gc j a).bind λb=>(g a).bind λds=>(F (.lst b::ds)).map λq=>(q.1,a.set j (Y (.lst q.2)))
theorem s_{F:List D->Option (D×List D)}{e:Pos}{g:DL}(h:m4 X.prog X.w X.K X.mg X.base x k (EH X.K 0 F))(hr:f' k X.A)(hg:Gl X x)(hy:PE X (.Name y e) (kr j))(ha:PA X l (Hr X.K own g))(w:j∈own:=by decide)(z:(x==("__debug__" : aG))=false:=by decide)(O:ao (.Name y e::l) X.env=(Z_,eval (.Name y e) X.env)::ao l X.env:=by rfl)(u:(dh m (ao l X.env)).any (·.1)=false:=by rfl):PE X (.Call (.Name x p) (.Name y e::l) [] m) (tM X.K B own (t_ F j g)):=by
 obtain⟨f,fd,ps,h1,hm,hk,hb⟩:=h.ex;refine(yX h1 hr hg hm hk hb .nil pZ (f7 hy ha O) z O u).imp λσ H Q ⟨G,n,d,U,S,b,q⟩ =>?_
 unfold t_ at b;rcases E:gc j n with _|r
 ·rw[E]at b;cases b
 rw[E]at b;rcases I:g n with _|L
 ·simp[I]at b
 simp only[I,aa]at b;rcases J:F (.lst r::L) with _|⟨d',o⟩
 ·rw[J]at b;cases b
 rw[J]at b;cases b;have C:=fU E;obtain⟨a,vs,K,e3,e4,e5,e6⟩:=S.oA w C;refine⟨_,K,G,n,L,S.gh,S.lV,I,λus G1 H1 s N =>?_⟩;have R:=S.ext s;obtain⟨a',t,P,f3,f4,f5,f6⟩:=R.oA w C;rw[K]at P;cases P;show EH X.K 0 F ((.ref a::us)++[]) H1 Q E0;rw[cM];refine⟨G1,.lst r::L,d',o,a,t,r,s.gh,rfl,rfl,f3,f4,f5,λi c hi ec =>?_,by simp[N.length],J,λv ws' G2 H2 T g2 h2 r2 r3 =>?_⟩
 ·cases i with
  |zero=>exact absurd rfl hi|succ i=>exact N.get (i:=i) (by simpa using ec)
 ·exact q v G2 H2 (R.called w C K T g2 h2 r2) (s.gg.trans T.gg) r3
end
section
variable {X:Cx}{B:Bs}{m own t:List Nat}{e:Expr}{l:Pos}{f:DM}
noncomputable def lu(i:Nat)(f:DM):DG:=λa=>(f a).map λq =>.nx (q.2.set i (Y q.1))
theorem wc{i:Nat}(w:X.N.Nodup)(p:X.N[i]?=Y x)(h:Loc X.env.scope x)(s:PE X e (tM X.K B own f))(n:i∉own:=by decide)(j:c5 e (Y (.Name x a)) l.line X.env=fm false:=by rfl)(q:X.fn x=Z'∨X.env.scope.names.lookup x=Y .local:=by first|exact .inl rfl|exact .inr rfl|assumption):
  PS X (.Assign [.Name x a] e l) (lq X.K B m own own (lu i f)):=(sh w p h s j q).imp <|by
 rintro D F H ⟨G,g,o,S,b,k⟩;unfold lu at b;obtain⟨⟨d,c⟩,z,b⟩:=aS.1 b;cases b;exact⟨G,g,d,c,S,z,λv E C A _ r=>k _ E C (A.zp n r)⟩
noncomputable def dI(f:DM):DG:=λa=>(f a).map λq =>.rm q.1 q.2
theorem fD(h:PE X e (tM X.K B own f)):PS X (.Return (Y e) l) (lq X.K B m own t (dI f)):=(w_ h).imp <|by
 rintro D c H ⟨G,g,o,S,a,k⟩;unfold dI at a;obtain⟨⟨d,b⟩,i,a⟩:=aS.1 a;cases a;exact⟨G,g,d,b,S,i,λv p n j _ r=>k v c p n ⟨own,j⟩ r⟩
def Dc(i:Nat):DG:=λa=>(gc i a).map λb =>.rm (.lst b) a
theorem NI(h:PE X (.Name x p) (kr i))(g:i∈own:=by decide)(b:∀a,(i,a)∉B.3:=by intro a;simp_all)(s:Cu i∉own:=by decide)(e:i<1000000:=by decide):PS X (.Return (Y (.Name x p)) l) (lq X.K B m own t (Dc i)):=(w_ h).imp <|by
 rintro D r H ⟨G,F,o,S,d,k⟩;unfold Dc at d;obtain⟨O,C,d⟩:=aS.1 d;cases d;have n:=fU C;obtain⟨a,I,N,u,L,K,J⟩:=S.oA g n;obtain⟨E,q⟩:=S.freeze (own':=own.filter (· != i)) (λj f=>(fN.mp f).1) i (λj f=>by
  by_cases c:j=i
  ·exact .inr c
  ·exact .inl (fN.mpr ⟨f,by simpa using c⟩)) (λz=>by have:=(fN.mp z).2;simp at this) g b s e
 obtain⟨v,A,w⟩:=q.env i _ (λz=>by have:=(fN.mp z).2;simp at this) n;exact⟨v,A,k v r E H ⟨_,q⟩ w⟩
def IS(i:Nat)(f:DM):DG:=λa=>(gc i a).bind λ_=>(f a).bind λq=>(gc i q.2).bind λb=>if b.length<ez then Y (.nx (q.2.set i (Y (.lst (b++[q.1]))))) else M
theorem Qj{x:aG}{g b:Pos}(h:PE X (.Name x p) (kr i))(T:PE X e (tM X.K B own f))(F:i∈own:=by decide)(q:cy (.Name x p) "append" X.env (eval (.Name x p) X.env)=eval (.Name x p) X.env:=by rfl) (z:((dh b (ao (e::[]) X.env)).all (λx=> !x.1)&&(jl b (d5 [] X.env)).all (λx=>x.1.isSome)
   && decide ((e::[]).length+([]:List m7).length+(if ([]:List m7).isEmpty then 0 else 1)<30))=true:=by rfl) (n:(g.endLine==b.line)=true:=by rfl) (L:ao (e::[]) X.env=(Z_,eval e X.env)::ao [] X.env:=by rfl) (j:(dh b (ao [] X.env)).any (·.1)=false:=by rfl) (E:c5 (.Call (.Attribute (.Name x p) "append" g) [e] [] b) M l.line X.env=fm false:=by rfl) :
  PS X (.Expr (.Call (.Attribute (.Name x p) "append" g) [e] [] b) l) (lq X.K B m own own (IS i f)):=
 (sV (FC l7 PySem.F.slot_list_append PySem.F.type_list_append p6 h (f7 T kj L) q z n L j) E).imp <|by
  rintro D σ H ⟨G,A,o,S,c,k⟩;unfold IS at c;rcases I:gc i A with _|ds0
  ·rw[I]at c;cases c
  rw[I]at c;rcases J:f A with _|⟨d,w⟩
  ·simp[J]at c
  simp only[J,aa]at c;rcases s:gc i w with _|ds
  ·rw[s]at c;cases c
  rw[s]at c;simp only[aa]at c;split at c
  ·cases c;rename_i R;obtain⟨a,Q,K,e3,e4,e5,e6⟩:=S.oA F (fU I);refine⟨_,K,.inl ⟨rfl,Q,.of e3⟩,G,A,d,w,S,J,λv G' H' P s' r =>?_⟩;have t:=fU s;obtain⟨a',C,O,U,N,_⟩:=P.oA F t;rw[K]at O;cases O;refine⟨a,C,v,rfl,rfl,U,?_,k _ G' _ (P.mut F t K (N.append (.cons r .nil)))⟩;rw[<- N.length];exact bu R iB
  ·cases c
def Xl(f:DM):Ka:=λa=>(f a).bind λq=>match q.1 with|.int j=>if -(2 ^ 62)<=j/\j<2 ^ 62 then Y (mv 0 j.toNat,q.2) else M|_=>M
theorem Ij(w:Gl X "range")(s:X.mg "range" = M)(h:PE X e (tM X.K B own f))(r:ao [e] X.env=(Z_,eval e X.env)::ao [] X.env:=by rfl)(b:ao [e] X.env=[(Z_,eval e X.env)]:=by rfl):PI X o (.Call (.Name "range" p) [e] [] l) (XO X.K B own (Xl f)):=
 (Co w s (f7 h kj r) b).imp <|by
  rintro D H R ⟨G,n,F,i,S,a,k⟩;unfold Xl at a;obtain⟨⟨d,g⟩,x,a⟩:=ae.1 a;cases d<;>simp only[aa]at a<;>try (cases a;done)
  split at a
  ·cases a;rename_i j c;exact⟨G,n,_,_,S,x,λv C A z E q=>⟨j,by rw[cg.mp q],c.1,c.2,k _ C A z (uJ 0 j.toNat)⟩⟩
  ·cases a
end
theorem Cc{K:bb}{own:List Nat}{N:List aG}{x:List D}{c:D}{w:List V}{T:List az}(s:bF G H)(L:bF E H)(I:p∈own)(J:x[p]?=Y c)(F:w[p]?=Y (.ref a))(r:nS K G H c a T)(P:T.Nodup)(X:∀b∈T,G b=M/\E b=M)(C:∀r q,c ≠ .eH r q)(O:∀(i:Nat) c,i≠p->x[i]?=Y c->∃v,w[i]?=Y v/\dg K G c v)(R:x.length=w.length)(Q:∀i∈own,i=p∨x.length<=i):SR K ⟨G,E,[(p,a)],fl⟩ own G H (start N w) (gX N.length x):=by
 have f:∀(i:Nat) v,w[i]?=Y v->(start N w)[i]?=Y (Y v):=λi v e=>by have g:i<w.length:=(aj.mp e).1;unfold start;rw[d6 (by simpa using g),aT,e];rfl
 have n:∀i∈own,(∃d,(gX N.length x)[i]?=Y (Y d))->i=p:=λi g ⟨d,e⟩=>by
  have:=(aj.mp (n5 e)).1;rcases Q i g with z|z
  ·exact z
  ·omega
 refine⟨s,bF.refl _,L,λb o e =>.inl e,λi d g e =>?_,⟨λ_=>T,λi d g e =>?_,λi d g e=>⟨P,X⟩,λi j d c g S ei ej B=>absurd ((n i g ⟨d,ei⟩).trans (n j S ⟨c,ej⟩).symm) B⟩,by simp[start,gX,R],λi b h =>?_,λj k q U h2 e =>?_⟩
 ·obtain⟨v,ev,l⟩:=O i d (λz=>g (z ▸ I)) (n5 e);exact⟨v,f i v ev,l⟩
 ·have z:=n i g ⟨d,e⟩;subst z;have A:=n5 e;rw[J]at A;cases A;exact⟨a,f _ _ F,r⟩
 ·have z:(i,b)=(p,a):=by simpa using h
  cases z;exact⟨I,f _ _ F⟩
 ·have z:=n j U ⟨_,e⟩;subst z;have A:=n5 e;rw[J]at A;cases A;exact absurd rfl (C k q)
theorem Ce{K:bb}{own:List Nat}{N:List aG}{d:List D}{e:List V}(s:bF G H)(j:p∈own)(q:d[p]?=Y c)(h:e[p]?=Y (.ref a))(w:H a=Y o)(r:jF K G c o)(x:G a=M)(g:∀(i:Nat) c,i≠p->d[i]?=Y c->∃v,e[i]?=Y v/\dg K G c v)(n:d.length=e.length)(k:∀i∈own,i=p∨d.length<=i):SR K ⟨G,EK H a,[(p,a)],z⟩ own G H (start N e) (gX N.length d):=
 Cc s JC j q h ((nS.cell r.vS).mpr ⟨⟨o,w,r⟩,rfl⟩) (by simp) (λb f=>by simp at f;subst f;exact⟨x,AE⟩) (En r.vS) g n k
theorem Kp{K:bb}{own:List Nat}{N:List aG}{b f:List D}{e:List V}(s:bF G H)(j:p∈own)(o:b[p]?=Y (.lst f))(h:e[p]?=Y (.ref a))(q:H a=Y (.lst d))(r:bx K G f d)(w:G a=M)(g:∀(i:Nat) c,i≠p->b[i]?=Y c->∃v,e[i]?=Y v/\dg K G c v)(n:b.length=e.length)(k:∀i∈own,i=p∨b.length<=i):SR K ⟨G,EK H a,[(p,a)],x⟩ own G H (start N e) (gX N.length b):=
 Ce s j o h q (show jF K G (.lst f) (.lst d) from⟨d,rfl,r⟩) w g n k
section
variable {P:bj}{w:bQ}{K:bb}{u:aG->Option af}{y:cF}
theorem jD.sX{st:cY}{f:az}{N ps:List aG}(F:jD K x I st f fd)(S:bC N ps (aI st))(p:Nat){own own':List Nat}{g:DG}(hp:p∈own)(To:∀i∈own,i=p∨ps.length<=i) (hb:∀(L:af) (A:cf) (j:List Env) (s:aq) (H:Hp) (E:XK),f' k (A.deeper (rW I (aI st) s.heap.objs.size f L))->∀(B:Bs) (a:az),B.3=[(p,a)] ->
   sP (xE iW P w K u y N I (aI st) f L A j s H E).MS (iA st) (lq K B [] own own' g)):cQ P w K u y iW (k+1) f fd ps (EH K p (Bu ps.length N.length p g)):=by
 refine F.ok S (λvs H Q E h =>?_) (λL A j s H vs Q E hr h =>?_)
 ·obtain⟨G,ds,d,R,a,ws,X,gh,hd,hv,ha,r,ga,ro,hl,e,_⟩:=h;unfold Bu at e;split at e
  ·rw[<- hl];assumption
  ·cases e
 ·obtain⟨G,ds,d,R,a,ws,X,gh,hd,hv,ha,r,ga,ro,hl,e,q⟩:=h;unfold Bu at e;split at e
  ·rename_i hn;refine⟨_,hb L A j s H E hr ⟨G,EK H a,[(p,a)],λ_ _=>False⟩ a rfl,?_⟩;rcases eg:g (gX N.length ds) with _|o
   ·rw[eg]at e;cases e
   rw[eg]at e;have oV:∀ {σ:St}{C:bZ}{O T:Hp}{o':List Nat}{U:List D},SR K ⟨G,EK H a,[(p,a)],λ_ _=>False⟩ o' O T σ C->gc p C=Y U->∃z,T a=Y (.lst z)/\bx K O U z/\O a=none:=fun {σ C O T o' U} c J=>by obtain⟨Tn,hσ⟩:=c.pin p a (by simp);obtain⟨b,vs',f2,f3,f4,f5,_⟩:=c.oA Tn (fU J);rw[hσ]at f2;cases f2;exact⟨vs',f3,f4,f5⟩
   refine⟨G,_,o,Kp gh hp hd hv ha r ga ro hl (by rw[hn];exact To),eg,?_⟩;cases o with
   |rm d' C=>
    have e:B3 (λX=>(d',X)) (gc p C)=Y (d,R):=e;rcases J:gc p C with _|U
    ·rw[J]at e;cases e
    rw[J]at e;cases e;intro v σ O T ⟨o',c⟩ rv;obtain⟨z,f3,f4,f5⟩:=oV c J;exact q v z O T c.pb f5 f3 f4 rv
   |nx C=>
    have e:B3 (λX=>(D.eJ,X)) (gc p C)=Y (d,R):=e;rcases J:gc p C with _|U
    ·rw[J]at e;cases e
    rw[J]at e;cases e;intro σ O T c;obtain⟨z,f3,f4,f5⟩:=oV c J;exact q _ z O T c.pb f5 f3 f4 (iu.mpr rfl)
   |_=>cases e
  ·cases e
end
def M_(n:bZ)(w:BZ)(u:DM)(i0:Nat):List D->List D->Option (List D×List D)
 |[],c=>Y ([],c)|d::e,c=>(w d (n.set i0 (Y (.lst c)))).bind λa=>(u a).bind λp=>(gc i0 p.2).bind λb=>(M_ n w u i0 e b).map λq=>(p.1::q.1,q.2)
def VZ(f:DL)(src:List (Option Nat))(w:BZ)(u:DM)(i0 j0:Nat):DM:=λn=>(f n).bind λa=>if a.length<=ez then (gc j0 n).bind λb=>(M_ (kZ src n) w u i0 a b).map λq=>(.lst q.1,n.set j0 (Y (.lst q.2))) else M
def UD(K:bb)(i0:Nat)(u:DM):TE:=λt H Q=>∃(B:Bs) (a:az),B.3=[(i0,a)]/\tM K B [i0] u t H Q
theorem WA{X:Cx}{i0:Nat}{u:DM}(h:∀(B:Bs) (a:az),B.3=[(i0,a)]->PE X e (tM X.K B [i0] u)):PE X e (UD X.K i0 u):=λb s t H Q I ⟨B,a,c,q⟩=>h B a c b s t H Q I q
theorem A_:∀ {l:List a}{i:Nat}{x:a},l[i]?=Y x->l.set i x=l
 |[],i,x,h=>by simp at h
 |y::l,0,x,h=>by simp at h;subst h;rfl
 |y::l,i+1,x,h=>by simp at h;simp[A_ h]
section
variable {K:bb}{B:Bs}{own:List Nat}{src:List (Option Nat)}{G H:Hp}{t:St}{n:bZ}
theorem E'{i:Nat}{d:D}(e:(kZ src n)[i]?=Y (Y d)):∃j,src[i]?=Y (Y j)/\n[j]?=Y (Y d):=by
 unfold kZ at e;rw[aT]at e;rcases a:src[i]? with _|o
 ·rw[a]at e;cases e
 rw[a]at e;cases o with
 |none=>cases e|some j=>
  have e:(n[j]?).getD M=Y d:=by simpa using e
  refine⟨j,rfl,?_⟩;rcases q:n[j]? with _|z
  ·rw[q]at e;cases e
  rw[q]at e;rw[show z=Y d from e]
theorem pU{i j:Nat}{v:V}(b:src[i]?=Y (Y j))(a:t[j]?=Y (Y v)):(om src t)[i]?=Y (Y v):=by
 unfold om;rw[aT,b];simp[a]
theorem SR.inner{fl:aG->Int->Prop}{i0 j0:Nat}{a:az}{q:List D}(S:SR K B own G H t (n.set j0 (Y (.lst q))))(y:k8 own [i0] src=Z')(x:src[i0]?=Y (Y j0))(k:∃d,n[j0]?=Y d)(s:t[j0]?=Y (Y (.ref a))):
  SR K ⟨G,EK H a,[(i0,a)],fl⟩ [i0] G H (om src t) ((kZ src n).set i0 (Y (.lst q))):=by
 have l:j0∈own:=(k7 y x).mp (by simp);obtain⟨d0,k⟩:=k;have N:j0<n.length:=(aj.mp k).1;have P:(n.set j0 (Y (D.lst q)))[j0]?=Y (Y (.lst q)):=by rw[b9 N]
 obtain⟨b,J,I,e3,e4,e5,e6⟩:=S.oA l P;rw[s]at I;cases I;refine⟨S.gh,bF.refl _,JC,λb o e =>.inl e,λi d g e =>?_,⟨λ_=>[a],λi d g e =>?_,λi d g e=>⟨by simp,λb C =>?_⟩,λi j d c g m _ _ f =>?_⟩,by simp[om,kZ],λi b h =>?_,λj r p R Q e =>?_⟩
 ·rcases hI e with⟨rfl,_,_⟩|⟨f,e⟩
  ·exact absurd (by simp) g
  ·obtain⟨j,F,ej⟩:=E' e;have m:j∉own:=λz=>g ((k7 y F).mpr z)
   have:j0≠j:=λz=>m (z ▸ l)
   obtain⟨v,f1,X⟩:=S.env j d m (by rw[aw this];exact ej);exact⟨v,pU F f1,X⟩
 ·have z:i=i0:=by simpa using g
  subst z;rcases hI e with⟨_,rfl,_⟩|⟨f,_⟩
  ·exact⟨a,pU x s,⟨_,e3,J,rfl,e4⟩,rfl⟩
  ·exact absurd rfl f
 ·simp at C;subst C;exact⟨e5,AE⟩
 ·simp at g m;exact absurd (g.trans m.symm) f
 ·have z:(i,b)=(i0,a):=by simpa using h
  cases z;exact⟨by simp,pU x s⟩
 ·have q1:j=i0:=by simpa using R
  have u:DC j=i0:=by simpa using Q
  unfold DC at u;omega
end
section
variable {X:Cx}{B:Bs}{own T:List Nat}{N:List aG}{src:List (Option Nat)}{A:Scope}{E L O:Expr}{f:DL}{w:BZ}{u:DM}{g:TG}{U:Pos}{i0 j0:Nat}
theorem SU{K:bb}{t:St}{H:Hp}(ho:k8 own [i0] src=Z')(h0:src[i0]?=Y (Y j0))(hg:∀(B:Bs) v t H Q,Ko K B [i0] w v t H Q->g v t H Q)(q:tM K B own (VZ f src w u i0 j0) t H Q):
  RN (E8 K own f) src g (ui K [i0] iC) (UD K i0 u) t H Q:=by
 obtain⟨G,n,d,ρ',S,h,k⟩:=q;have ZY:j0∈own:=(k7 ho h0).mp (by simp);unfold VZ at h;rcases ef:f n with _|j
 ·rw[ef]at h;cases h
 rw[ef]at h;have h:(if j.length<=ez then (gc j0 n).bind λxs=>(M_ (kZ src n) w u i0 j xs).map λq=>(D.lst q.1,n.set j0 (Y (.lst q.2))) else M)=Y (d,ρ'):=h;split at h
 ·rename_i hz;rcases el:gc j0 n with _|Zp
  ·rw[el]at h;cases h
  rw[el]at h;simp only[aa]at h;rcases em:M_ (kZ src n) w u i0 j Zp with _|⟨rs,Zo⟩
  ·rw[em]at h;cases h
  rw[em]at h;cases h;have F:=fU el;obtain⟨a,vs0,e2,_⟩:=S.oA ZY F;refine⟨G,n,j,S.gh,S.lV,ef,λJ G1 H1 E1 ok =>?_⟩;have S1:=S.ext E1;rw[<- A_ F]at S1;refine⟨λi m ys H2=>m=j.length-i/\i<=j.length/\ys.length<=i/\∃G2 l xs o,SR K B own G2 H2 t (n.set j0 (Y (.lst xs)))/\bF G1 G2/\bx K G2 l ys/\M_ (kZ src n) w u i0 (j.drop i) xs=Y (o,Zo)/\l++o=rs,
   ⟨j.length,rfl,fc _,aM _,G1,[],Zp,rs,S1,bF.refl _,.nil,em,rfl⟩,?_⟩
  rintro i m ys H2 ⟨rfl,YG,ZM,G2,l,xs,o,S2,s2,rx,c,rfl⟩;have sub:bF G1 H2:=s2.trans S2.gh;by_cases C:i<j.length
  ·refine .inr ⟨ok.go i H2 sub C,?_,λA H'=>A.length<=i+1/\∃G3 I xs' r,SR K B own G3 H' t (n.set j0 (Y (.lst xs')))/\bF G1 G3/\bx K G3 I A/\M_ (kZ src n) w u i0 (j.drop (i+1)) xs'=Y (r,Zo)/\I++r=l++o,
    λA H' z=>⟨j.length-(i+1),by omega,rfl,C,z⟩,λx H3 y =>?_⟩
   ·have:=iB;omega
   ·obtain⟨G3,E3,Uq⟩:=ok.Q1 i H2 x H3 G2 j[i] s2 S2.gh y (aU C);have S3:=S2.ext E3;rw[iZ C]at c;unfold M_ at c;rcases et:w j[i] ((kZ src n).set i0 (Y (.lst xs))) with _|s
    ·rw[et]at c;cases c
    rw[et]at c;simp only[aa]at c;rcases ee:u s with _|⟨x4,ρ5⟩
    ·rw[ee]at c;cases c
    rw[ee]at c;simp only[aa]at c;rcases X:gc i0 ρ5 with _|N
    ·rw[X]at c;cases c
    rw[X]at c;simp only[aa]at c;rcases R:M_ (kZ src n) w u i0 (j.drop (i+1)) N with _|⟨P,xsE⟩
    ·rw[R]at c;cases c
    rw[R]at c;cases c;have SI:=S3.inner (fl:=λ_ _=>False) ho h0 ⟨_,F⟩ e2;refine hg ⟨G3,EK H3 a,[(i0,a)],λ_ _=>False⟩ _ _ _ _ ⟨G3,_,j[i],s,SI,Uq,et,λσ4 G4 H4 S4=>⟨G4,s,Z',S4.gh,S4.lV,rfl,λG5 H5 E5=>BM ?_⟩⟩;refine⟨⟨G3,EK H3 a,[(i0,a)],λ_ _=>False⟩,a,rfl,G5,s,x4,ρ5,S4.ext E5,ee,λv G6 H6 S6 s6 r6=>⟨by simp;omega,G6,l++[x4],N,P,?_,?_,?_,R,by simp⟩⟩
    ·obtain⟨Tn,hσ⟩:=S6.pin i0 a (by simp);obtain⟨b,ws,f2,f3,f4,f5,_⟩:=S6.oA Tn (fU X);rw[hσ]at f2;cases f2;have hl:j0<n.length:=(aj.mp F).1;have:=S3.called (xs':=N) ZY (by rw[b9 hl]) e2 S6.pb f5 f3 f4;rw[List.set_set]at this;exact this
    ·exact s2.trans (E3.gg.trans S6.g0)
    ·exact(bx.mono (E3.gg.trans S6.g0) l rx).append (.cons r6 .nil)
  ·have e:i=j.length:=by omega
   subst e;rw[vg]at c;unfold M_ at c;cases c;refine .inl ⟨ok.stop _ H2 sub (aM _),λp hp =>?_⟩;have EA:=gO.alloc (p:=p) (o :=.lst ys) S2.gh hp;refine k _ _ _ (S2.ext EA) (E1.gg.trans (s2.trans EA.gg)) ?_;rw[cM];exact dJ.mpr ⟨p,ys,rfl,bM,bx.mono EA.gg l rx⟩
 ·cases h
theorem WB(S:gM X N src A)(j:X.calm=Z')(e:PI X E L (E8 X.K own f))(m:QH T g)(a:∀i∈T,src[i]?=Y M)(h:∀(B:Bs) v t H Q,Ko X.K B [i0] w v t H Q->g v t H Q)(k:∀C s H b,PG (X.wq N A C s H b) E g/\Iy (X.wq N A C s H b) [] (ui X.K [i0] iC)/\PE (X.wq N A C s H b) O (UD X.K i0 u))(l:src[i0]?=Y (Y j0):=by rfl)(d:k8 own [i0] src=true:=by decide)(c:∀x,dM L X.env x=fm x:=by intro _;rfl):PE X (.ListComp O [⟨E,L,[],0⟩] A U) (tM X.K B own (VZ f src w u i0 j0)):=
 (MB S j e m a k c).imp λt H Q q=>SU d l h q
theorem sA(K:bb)(i i0:Nat)(b:i∉[i0]:=by decide):∀(B:Bs) v t H Q,Ko K B [i0] (gN i) v t H Q->rd i v t H Q:=λB v t H Q ⟨G,n,d,a,S,r,c,k⟩=>by
 cases c;exact k _ G H (S.zp b r)
end
section
variable {X:Cx}{own:List Nat}{e:Expr}{j p:Pos}{g:DF}
noncomputable def bc(c f:aG)(g:DF):DF:=λa=>(g a).bind λd=>match d with|.ins h b e=>if h=c then (b.zip e).lookup f else M|_=>M
theorem Jw{K:bb}{f:aG}:∀ {b:List aG}{g:List D}{a:List V}{d:D},bx K G g a->(b.zip g).lookup f=Y d->∃v,(b.zip a).lookup f=Y v/\dg K G d v
 |[],g,a,d,r,e=>by simp at e
 |k::b,[],a,d,r,e=>by simp at e
 | k::b,c::g,a,d,r,e=>by
  obtain⟨v,t,rfl,i,l⟩:=bJ.mp r;simp only[cC,dC]at e ⊢;cases h:(f==k) with
  |true=>rw[h]at e;cases e;exact⟨v,rfl,i⟩|false=>rw[h]at e;exact Jw l e
noncomputable def UA:D->V
 |.bl b =>.bl b|.int i =>.int i|.str x =>.str x|_ =>.eJ
theorem IJ{K:bb}{v:V}(h:Ci d=Z')(r:dg K G d v):v=UA d/\rg v=true:=by
 cases d<;>first|(simp[Ci]at h;done)|(simp only[dg]at r;subst r;exact⟨rfl,rfl⟩)
theorem EV{K:bb}:∀ {b:List D}{a:List V},b.all Ci=Z'->bx K G b a->a=b.map UA/\a.all rg=Z'
 |[],a,h,r=>by rw[dz.mp r];exact⟨rfl,rfl⟩
 |d::b,a,h,r=>by rw[mH,aH]at h;obtain⟨v,t,rfl,c,e⟩:=bJ.mp r;obtain⟨k,g⟩:=IJ h.1 c;obtain⟨i,f⟩:=EV h.2 e;exact⟨by rw[k,i];rfl,by rw[mH,g,f];rfl⟩
def XA(b:Bool)(x:D)(a:List D):Option D:=if (Ci x&&a.all Ci)=Z' then Y (.bl (if b then !UL (UA x) (a.map UA) else UL (UA x) (a.map UA))) else M
def Ha(a:Bool):D->D->Option D
 |x,.lst b=>XA a x b|x,.tup b=>XA a x b|_,_=>M
theorem Rt{K:bb}(h:rD K (Ha c) x y H Q):X8 K c x y H Q:=by
 obtain⟨G,t,C,d,k,w,u,l,q⟩:=h;have oV:∀(m:List D) (b:List V),XA c t m=Y d->bx K G m b->rg x=Z'/\b.all rg=Z'/\d=.bl (if c then !UL x b else UL x b):=λm b e r=>by
  unfold XA at e;split at e
  ·rename_i i;rw[aH]at i;have v:dg K G t x:=by
    rcases w with z|⟨a,o,_,_,z⟩
    ·exact z
    ·cases t<;>first|exact z.elim|simp[Ci]at i
   obtain⟨B,g⟩:=IJ i.1 v;obtain⟨A,f⟩:=EV i.2 r;cases e;exact⟨g,f,by rw[B,A]⟩
  ·cases e
 unfold Ha at l;split at l<;>try (cases l;done)
 ·obtain⟨p,b,rfl,s,n⟩:=u.lst k;obtain⟨g,f,rfl⟩:=oV _ _ l n;exact⟨p,b,rfl,.inl (.of s),g,f,q _ G H (.refl k) (dt.mpr rfl)⟩
 ·obtain⟨p,b,rfl,s,n⟩:=u.tup k;obtain⟨g,f,rfl⟩:=oV _ _ l n;exact⟨p,b,rfl,.inr (.of s),g,f,q _ G H (.refl k) (dt.mpr rfl)⟩
theorem VS:Bg X (eY .In) (Ha Z_):=oU.imp KJ λx y H Q h=>Rt h
theorem MR:Bg X (eY .NotIn) (Ha Z'):=oU.imp Dr λx y H Q h=>Rt h
noncomputable def Ng:D->Bool
 |.bl _=>Z'|_=>Z_
noncomputable def wt:D->Bool
 |.bl b=>b|_=>Z_
def gP(b:Bool):List D->Option D
 |[.lst a]=>if a.all Ng=Z' then Y (.bl (if b then a.all wt else a.any wt)) else M
 |_=>M
theorem Ud{K:bb}{a:List D}{f:List af}(h:a.all Ng=Z')(r:bx K G a l)(m:cK l f){i:Nat}{u:af}(e:f[i]?=Y u):∃b,u=.bool b/\(a[i]?).map wt=Y b:=by
 have q:i<f.length:=(aj.mp e).1;have d:i<a.length:=by rw[r.length,m.length];exact q
 have k:a[i]?=Y a[i]:=aU d;obtain⟨v,s,c⟩:=r.get k;obtain⟨w,p,g⟩:=m.get s;rw[e]at p;cases p;have o:Ng a[i]=true:=(c7.mp h) _ (G7 d);cases n:a[i] with
 |bl b=>rw[n]at c k;have:=dt.mp c;subst this;exact⟨b,g,by rw[k];rfl⟩
 |_=>rw[n]at o;cases o
theorem LF{ys:List D}{tr:Nat->Bool}(h:∀i,i<ys.length->(ys[i]?).map wt=Y (tr i)):(cI ys.length).all tr=ys.all wt/\(cI ys.length).any tr=ys.any wt:=by
 have:(cI ys.length).map tr=ys.map wt:=by
  apply ED;intro i;by_cases a:i<ys.length
  ·have:=h i a;rw[aT,aT,List.getElem?_range a,this];rfl
  ·rw[kH (by simpa using a),kH (by simpa using a)]
 constructor
 ·have e:=congrArg (λl=>l.all id) this;simpa [nY] using e
 ·have e:=congrArg (λl=>l.any id) this;simpa [List.any_map] using e
theorem CQ(l:X.calm=Z')(h:Bool):nH X (.builtin (if h then "all" else "any")) (rC X.K (gP h)):=by
 intro A s P H xs us Q I R ⟨G,ds,d,O,r,t,q⟩;unfold gP at t;split at t
 ·rename_i m;split at t
  ·cases t;rename_i hb;obtain⟨v,rfl,T⟩:=r.one;obtain⟨a,vs,rfl,U,L⟩:=T.lst O;obtain⟨u,rfl,S⟩:=cK.one R;cases S;obtain⟨g,y,J,hz⟩:=I.list (.of U);obtain⟨o,j,hc,n0,hd⟩:=J.isList;have D:a≠s.heap.objs.size:=bS (aV j);have k:g.toArray.size=m.length:=by simp[L.length,y.length]
   let w:Nat->Bool:=λi=>((m[i]?).map wt).getD Z_
   have C:TruthOf X.prog X.w X.A.in1 (λi v=>g.toArray[i]?=Y v) w:=λi v s Q E hP N=>by
    obtain⟨b,rfl,K⟩:=Ud hb L y (i:=i) (u:=v) (by simpa using hP);have:w i=b:=by show ((m[i]?).map wt).getD Z_=b;rw[K];rfl
    rw[this]at N;exact jN N
   have f:=LF (ys:=m) (tr:=w) λi hi=>by show _=Y (((m[i]?).map wt).getD Z_);rw[aU hi];rfl
   have oV:∀(b:Bool) (p:cF) (n:Nat),(∀c F,c∉[s.heap.objs.size]->(s.heap.push { cls :=.type "list_iterator",data :=.fields #[.ref a,.int 0 0] }).get? c=Y F->p.get? c=Y F)->b=(if h then m.all wt else m.any wt) ->
     EP X A P Q (.bool b) { s with heap:=p,toks:=n }:=λb p n B K=>
    ⟨.bl b,H,I.kept (t':=n) λc F e=>B c F (λz=>by
     have z:c=s.heap.objs.size:=by simpa using z
     exact absurd (aV e) (by rw[z];exact jz _)) (ak _ e),rfl,by
     rw[K];exact q _ G H (.refl O) (dt.mpr rfl)⟩
   have x:(s.heap.push { cls :=.type "list_iterator",data :=.fields #[.ref a,.int 0 0] }).IsListIter s.heap.objs.size a 0/\(s.heap.push { cls :=.type "list_iterator",data :=.fields #[.ref a,.int 0 0] }).IsList a g.toArray:=
    ⟨⟨_,bD _ rfl,rfl,rfl⟩,⟨o,ak _ j,hc,n0,hd⟩⟩
   cases h with
   |true=>refine call_all_walk (l_ J.isList ⟨s.heap.objs.size,_,_,_,_,_,w,rfl,Walks.list (A:=X.A.in1) (I.ok.hd l) _ a D g.toArray,x,C,λp n B =>?_⟩);rw[k,f.1];exact oV _ p n B rfl
   |false=>refine call_any_walk (l_ J.isList ⟨s.heap.objs.size,_,_,_,_,_,w,rfl,Walks.list (A:=X.A.in1) (I.ok.hd l) _ a D g.toArray,x,C,λp n B =>?_⟩);rw[k,f.2];exact oV _ p n B rfl
  ·cases t
 ·cases t
variable {f:DF}
theorem Il(a:X.calm=Z')(d:Gl X "all")(c:X.mg "all" = M)(h:PE X e (tQ X.K own f))(b:ao (e::[]) X.env=(Z_,eval e X.env)::ao [] X.env:=by rfl):PE X (.Call (.Name "all" p) [e] [] j) (tP X.K own (be (gP Z') (aC f aN))):=
 AR (CQ a Z') d c PyProof.Rows.boot_all (AK h Eb b) (by decide) (by decide) b rfl
theorem NT(a:X.calm=Z')(d:Gl X "any")(c:X.mg "any" = M)(h:PE X e (tQ X.K own f))(b:ao (e::[]) X.env=(Z_,eval e X.env)::ao [] X.env:=by rfl):PE X (.Call (.Name "any" p) [e] [] j) (tP X.K own (be (gP Z_) (aC f aN))):=
 AR (CQ a Z_) d c PyProof.Rows.boot_any (AK h Eb b) (by decide) (by decide) b rfl
end
section
variable {X:Cx}{B:List Nat}{e g:Expr}{f l:DF}
end
section
variable {X:Cx}{m:List Nat}{A e B:Expr}{f C:DF}{p g:Pos}
def fLR(f:DF):DL:=λa=>(f a).bind λd=>match d with|.int j=>if j<=1000000 /\ -1000000<=j then Y (mv 0 j.toNat) else M|_=>M
noncomputable def Zd(a:Int)(n:Nat):It:=⟨λi _=>i<n,λi H x b=>b=H/\x=.int (a-i),λi _=>n<=i⟩
theorem Km{P:bj}{K:bb}{A:Expr}(d:az)(l:Int)(n:Nat):ID P w K A (Zd l n) [d] d (λi h=>OC h d (l+(i:Nat)*(-1)) ((n:Int)-(i:Nat)) (-1)) where
 mem:=by simp
 obj:=λi h a b f=>by
  have e:b=d:=by simpa using f
  subst e;exact⟨_,a,λv z=>by have O:Data.fields _=Data.cell v:=z;cases O⟩
 keep:=λi h q a k=>k d (by simp) _ a
 item:=by
  intro X x hw y u i c s g H E I p a r;subst x hw y;obtain⟨L,J,S,G,F,D⟩:=p d (by simp);have W:=Walks.range (prog:=X.prog) (w:=X.w) (I.ok.hd u) d l (-1) n;refine W.item i s _ _ r a λv q N R j Q =>?_
  obtain⟨t,rfl⟩:=R;have U:Inv X c g H { s with heap:=q,toks:=N }:=I.turned (λb o f e=>Q b o (by simpa using f) e) L J G F D;refine⟨_,rfl,Jt (s:={ s with heap:=q,toks:=N }) (n:= "range_iterator") j rfl rfl (by decide) ⟨.int (l-i),H,U,⟨t,?_⟩,⟨rfl,rfl⟩,j,λb f=>(p b f).1⟩⟩
  congr 1;omega
 done:=by intro X x hw y u i c s g H E I p a r;subst x hw y;obtain⟨L,J,S,G,F,D⟩:=p d (by simp);exact wpAny_pyNext_range_end (I.ok.hd u) a (by have:n<=i:=r;omega) λq T=>⟨rfl,I.turned (t':=s.toks) (λb o f e=>T b o f e) L J G F D⟩
 self:=λ_ _ _ _ _ a h=>wpAny_pyIter_rangeiter a h
theorem rangeSize_down(a b:Int):oX a b (-1)=if a > b then a-b else 0:=by
 unfold oX;rw[if_neg (by decide)];split
 ·rw[show -(-1:Int)=1 by decide,Int.ediv_one];omega
 ·rfl
theorem small_down(f : -(2 ^ 62)<=a)(d:a<2 ^ 62)(e : -(2 ^ 62)<=b)(c:b<2 ^ 62):Builtin.Range.small a b (-1)=true:=by
 unfold Builtin.Range.small;rw[rangeSize_down];simp only[Builtin.Range.rangeFitsLong,aH,bT,decide_eq_true_eq,beq_iff_eq,show ¬((-1:Int) > 0) by decide,if_false];split<;>omega
def V9(c:TA):TI:=λa H R=>c a H λb d=>∃i j:Int,b=[.int i,.int j,.int (-1)]/\(-(2 ^ 62)<=i/\i<2 ^ 62 /\ -(2 ^ 62)<=j/\j<2 ^ 62)/\R (Zd i (i-j).toNat) d
theorem KC(N:Gl X "range")(m:X.mg "range" = M)(P:PA X [a,b,c] z)(L:ao [a,b,c] X.env=(Z_,eval a X.env)::ao [b,c] X.env:=by rfl)(w:(dh g (ao [b,c] X.env)).any (·.1)=false:=by rfl):
  PI X A (.Call (.Name "range" p) [a,b,c] [] g) (V9 z):=by
 intro f s y H R I h;refine Call_ (qF I N m boot_range (fo (gD (P g f s y H _ I h) λus k ⟨U,D,T,E,v⟩ =>?_) L w));obtain⟨i,j,e,⟨v,K,J,G⟩,q⟩:=v;subst e;cases E with
 |cons r l=>
  cases l with
  |cons F l=>
   cases l with
   |cons u l=>
    cases l;obtain⟨t,rfl⟩:=r;obtain⟨n,rfl⟩:=F;obtain⟨d,rfl⟩:=u;refine call_range_3 (by decide) ?_ (rQ (PyProof.noPylong_small (by decide)));refine wpAny_pyIter_range (IsRange.new ..) (small_down v K J G) ?_;have x:Inv X f y D { k with heap:=k.heap.push { cls :=.type "range",data :=.fields #[.int i t,.int j n,.int (-1) d] },toks:=k.toks }:=T.kept λb o e=>ak _ e
    refine⟨(k.heap.push { cls :=.type "range",data :=.fields #[.int i t,.int j n,.int (-1) d] }).objs.size,[(k.heap.push { cls :=.type "range",data :=.fields #[.int i t,.int j n,.int (-1) d] }).objs.size],_,_,D,rfl,
     x.kept (t':=k.toks) λb o e=>ak _ e,Km _ i (i-j).toNat,?_,λb O =>?_,q⟩
    ·have S:i+((0:Nat):Int)*(-1)=i:=by simp
     have Q:(((i-j).toNat:Nat):Int)-((0:Nat):Int)=oX i j (-1):=by rw[rangeSize_down];split<;>omega
     show OC _ _ (i+((0:Nat):Int)*(-1)) ((((i-j).toNat:Nat):Int)-((0:Nat):Int)) (-1);rw[S,Q];exact bD _ rfl
    ·have e:b=(k.heap.push { cls :=.type "range",data :=.fields #[.int i t,.int j n,.int (-1) d] }).objs.size:=by simpa using O
     subst e;exact x.yE (aM _) (x.jo.fresh (aM _))
noncomputable def BS(a:Int)(n:Nat):List D:=(cI n).map λ(k:Nat) =>.int (a-(k:Int))
theorem K4{K:bb}(c:Int)(n:Nat):Ex K G (Zd c n) (BS c n):=by
 have f:(BS c n).length=n:=by simp[BS]
 refine⟨λi H s a=>by rw[f]at a;exact a,λi H s a=>by rw[f]at a;exact a,λi H x r l d o h ⟨e,y⟩ b =>?_⟩;subst e;refine⟨l,.refl h,?_⟩;unfold BS at b;rw[aT]at b;obtain⟨j,q,b⟩:=aS.1 b;cases b;have:j=i:=by obtain⟨p,k⟩:=aj.mp q;simpa using k.symm
 subst this;exact cg.mpr y
def UM(f C:DF):DL:=λa=>(f a).bind λd=>(C a).bind λc=>match d,c with|.int i,.int j=>if -(2 ^ 62)<=i/\i<2 ^ 62 /\ -(2 ^ 62)<=j/\j<2 ^ 62 then Y (BS i (i-j).toNat) else M|_,_=>M
theorem Ll{c:Expr}(K:Gl X "range")(J:X.mg "range" = M)(h:PE X e (tP X.K m f))(N:PE X B (tP X.K m C))(V:PE X c (tP X.K m (e1 HK (eK (.int 1)))))(x:ao [e,B,c] X.env=(Z_,eval e X.env)::ao [B,c] X.env:=by rfl)(s:ao [B,c] X.env=(Z_,eval B X.env)::ao [c] X.env:=by rfl)(r:ao [c] X.env=(Z_,eval c X.env)::ao [] X.env:=by rfl)(I:(dh g (ao [B,c] X.env)).any (·.1)=false:=by rfl):
  PI X A (.Call (.Name "range" p) [e,B,c] [] g) (E8 X.K m (UM f C)):=(KC K J (aA h (aA N (aA V bg r) s) x) x I).imp <|by
 rintro U H R ⟨G,w,ds,O,u,a,k⟩;unfold UM at a;obtain⟨d,P,a⟩:=ae.1 a;rcases b:C w with _|c
 ·simp[b]at a
 simp only[b,aa]at a;split at a<;>try (cases a;done)
 split at a
 ·cases a;rename_i i j L;refine⟨G,w,[.int i,.int j,.int (-1)],O,u,?_,λvs S Q T F =>?_⟩
  ·simp only[aC,aN,P,b,aa];rfl
  ·obtain⟨v,t,rfl,D,E⟩:=bJ.mp F;obtain⟨v',t',rfl,o,q⟩:=bJ.mp E;obtain⟨y,z,rfl,l,n⟩:=bJ.mp q;have:=dz.mp n;subst this;rw[cg.mp D,cg.mp o,cg.mp l];exact⟨i,j,rfl,L,k _ S Q T (K4 i _)⟩
 ·cases a
end
theorem Qy{X:Cx}{g:List aG}{b:Scope}{s:aq}(k:b.kind=.function)(h:wo a g N d b=Z'):gM (X.wq g a C s H t) N d b:=by
 unfold wo at h;simp only[aH,c7,beq_iff_eq,bT]at h;obtain⟨⟨⟨r,q⟩,p⟩,o⟩:=h;refine⟨k,λy e=>r y e,λy e m =>?_,p,λi j x f n =>?_⟩
 ·show (Rv a X.env).names.lookup y.1=Y .cell∨(Rv a X.env).names.lookup y.1=Y .free;unfold Rv;rw[oD];rcases q y e with z|z
  ·rw[m]at z;exact absurd z (by decide)
  ·rcases z with z|z
   ·rw[z];exact .inl (by simp)
   ·rw[z];simp only[bI];split
    ·exact .inl rfl
    ·exact .inr rfl
 ·have l:i<d.length:=(aj.mp f).1;have:=o i (by simpa using l);rw[f,n]at this;simp only[aH,beq_iff_eq]at this;exact this
section
variable {X:Cx}{own:List Nat}{e o:Expr}{f g:DF}{p c:Pos}
end
noncomputable def Tw(i j l:Nat):BZ:=λd e=>match d with|.tup [a,b,c]=>Y (((e.set i (Y a)).set j (Y b)).set l (Y c))|_=>M
theorem Nu{f:bZ}(h:Tw i j l d f=Y e):∃a b c,d=.tup [a,b,c]/\e=((f.set i (Y a)).set j (Y b)).set l (Y c):=by
 unfold Tw at h;split at h
 ·cases h;exact⟨_,_,_,rfl,rfl⟩
 ·cases h
theorem Kx{K:bb}{v:V}(r:dg K G (.tup [a,b,c]) v):∃p x y z,v=.ref p/\G p=Y (.tup [x,y,z])/\dg K G a x/\dg K G b y/\dg K G c z:=by
 obtain⟨p,j,e,g,i⟩:=fQ.mp r;obtain⟨x,n,rfl,h,t⟩:=bJ.mp i;obtain⟨y,l,rfl,f,t⟩:=bJ.mp t;obtain⟨z,k,rfl,d,t⟩:=bJ.mp t;rw[dz.mp t]at g;exact⟨p,x,y,z,e,g,h,f,d⟩
section
variable {X:Cx}{B:Bs}{own m:List Nat}
theorem NM{i:Nat}(h:PG X e (Tu X.K 3 (CG (rd i) (CG (rd j) (CG (rd l) Tv)))))(u:i∉own:=by decide)(t:j∉own:=by decide)(s:l∉own:=by decide):PG X e (Ko X.K B own (Tw i j l)):=h.imp <|by
 rintro v A H Q ⟨G,C,d,f,S,r,w,k⟩;obtain⟨a,b,c,rfl,rfl⟩:=Nu w;obtain⟨p,x,y,z,rfl,g,q,o,n⟩:=Kx r;exact⟨p,_,rfl,.of (S.gh _ _ g),rfl,x,_,rfl,y,_,rfl,z,_,rfl,rfl,k _ G H (((S.zp u q).zp t o).zp s n)⟩
end
end L2
namespace L2
open PySem PyProof.Rows PySem.Spec
section
variable {g:bj}{w:bQ}{A:cf}{E:af->aq->Prop}{s:aq}{a:az}
end
end L2
namespace L2
open PySem PySem.Spec PyProof.Rows
noncomputable def yS(c:List Int):List Int:=c.mergeSort (λa b=>decide (a<=b))
theorem lJ(a:List Int):(yS a).Perm a:=List.mergeSort_perm a _
theorem Hw(ns:List Int):(yS ns).Pairwise (· <= ·):=by
 have:=List.pairwise_mergeSort (le:=λa b:Int=>decide (a<=b)) (λa b c h1 h2=>by simp at *;omega) (λa b=>by simp;omega) ns;exact this.imp λh=>by simpa using h
theorem RS{a:List Int}(p:a.Perm b)(h:a.Pairwise (· <= ·)):a=yS b:=PySem.W.ksm_same (p.trans (lJ b).symm) h (Hw b)
theorem vT:∀ {b:List Int}{a:List af},cK (b.map V.int) a->Hf a b
 |[],a,h=>by cases h;exact .nil
 | n::r,a,h=>by
  cases h with
  |cons d c=>obtain⟨t,rfl⟩:=d;exact .cons n t (vT c)
theorem C2{b:List Int}(h:Hf a b):cK (b.map V.int) a:=by
 induction h with|nil=>exact .nil|cons n t _ ih=>exact .cons ⟨t,rfl⟩ ih
section
variable {X:Cx}{y:List Nat}{e:Expr}{f:DF}{p q w g:Pos}{j:TE}
noncomputable def Cz:List D->Option (List Int)
 |[]=>Y []|.int i::r=>(Cz r).map (i :: ·)|_::_=>M
theorem Al:∀ {b:List D}{a:List Int},Cz b=Y a->b=a.map D.int
 |[],a,h=>by cases h;rfl
 | d::r,a,h=>by
  cases d<;>simp only[Cz]at h<;>try (cases h;done)
  obtain⟨c,e,h⟩:=aS.1 h;cases h;rw[Al e];rfl
theorem w3{K:bb}:∀ {b:List Int}{a:List V},bx K G (b.map D.int) a↔a=b.map V.int
 |[],a=>by simp[bx]
 | n::r,a=>by
  simp only[bh,bJ,cg];constructor
  ·rintro⟨v,t,rfl,rfl,h⟩;rw[w3.mp h]
  ·rintro rfl;exact⟨_,_,rfl,rfl,w3.mpr rfl⟩
end
section
variable {X:Cx}{m:List Nat}
variable {a b:Expr}{r n:DF}{w:Pos}
end
section
variable {X:Cx}{B:Bs}{m:List Nat}{c a b e:Expr}{w:Pos}
end
end L2
namespace L2
open PySem
section
variable {X:Cx}{own:List Nat}
theorem vP(i:Nat)(f:X.N[i]?=Y x:=by rfl)(c:Ui X.env.scope x:=by first|exact rQ rfl|exact yN (rQ rfl)|exact yN (yN rfl))(e:(x==("__debug__" : aG))=false:=by decide)(b:(x==("__classdict__" : aG))=false:=by decide)(d:i∉own:=by decide):PE X (.Name x a) (tP X.K own (eV i)):=dv (pv i f c e b) d
theorem vQ(i:Nat)(f:X.N[i]?=Y x:=by rfl)(c:Ui X.env.scope x:=by first|exact rQ rfl|exact yN (rQ rfl)|exact yN (yN rfl))(e:(x==("__debug__" : aG))=false:=by decide)(b:(x==("__classdict__" : aG))=false:=by decide)(d:i∉own:=by decide):PE X (.Name x a) (tQ X.K own (eV i)):=dq (vP i f c e b d)
end
end L2
namespace L2
open PySem PySem.Spec PyProof.Rows
section
variable {G:Type}[DecidableEq G]
noncomputable def tH(eZ:List (G×V))(k:G):Option V:=(eZ.find? λa=>decide (a.1=k)).map (·.2)
noncomputable def xT(eZ:List (G×V))(k:G)(v:V):List (G×V):=
 if (eZ.any λa=>decide (a.1=k))=Z' then eZ.map (λa=>if a.1=k then (a.1,v) else a) else eZ++[(k,v)]
theorem vn{p:G×V}{r:List (G×V)}{k:G}(e:p.1=k):tH (p::r) k=Y p.2:=by simp[tH,mR,e]
theorem rX{p:G×V}{r:List (G×V)}{k:G}(e:¬p.1=k):tH (p::r) k=tH r k:=by simp[tH,mR,e]
theorem EU(k:G):∀eZ:List (G×V),(eZ.any λa=>decide (a.1=k))=(tH eZ k).isSome
 |[]=>rfl| p::r=>by
  rw[pB];by_cases e:p.1=k
  ·simp only[vn e,decide_eq_true e,Bool.true_or,Option.isSome_some]
  ·rw[rX e,decide_eq_false e,Bool.false_or];exact EU k r
theorem xZ(eZ:List (G×V))(k:G)(v:V):(xT eZ k v).length<=eZ.length+1:=by
 unfold xT;split
 ·rw[au];omega
 ·rw[aE,aO,eU];omega
theorem rH.xp{o:Option V}{u:Option af}(r:rH o u):o.isSome=u.isSome:=by
 cases o with
 | none=>cases u with
  |none=>rfl|some _=>exact(show False from r).elim
 | some _=>cases u with
  |none=>exact(show False from r).elim
  |some _=>rfl
theorem rH.getD{o:Option V}{u:Option af}{d:V}{a:af}(r:rH o u)(b:RelV d a):RelV (o.getD d) (u.getD a):=by
 cases o with
 | none=>cases u with
  |none=>exact b|some _=>exact(show False from r).elim
 | some _=>cases u with
  |none=>exact(show False from r).elim
  |some _=>exact r
theorem KV.val{eZ:List (G×V)}{f:List (G×af)}(r:KV eZ f)(k:G):rH (tH eZ k) (LH f k):=by
 unfold KV at r
 induction r with
 |nil=>exact wI|@cons p q l a h t ih=>
  obtain⟨g,i⟩:=h;by_cases e:p.1=k
  ·have d:q.1=k:=g.symm.trans e;have b:LH (q::a) k=Y q.2:=by simp[LH,mR,d]
   rw[vn e,b];exact i
  ·have d:¬q.1=k:=λz=>e (g.trans z)
   have b:LH (q::a) k=LH a k:=by simp[LH,mR,d]
   rw[rX e,b];exact ih
theorem KV.any{eZ:List (G×V)}{b:List (G×af)}(r:KV eZ b)(k:G):(eZ.any λa=>decide (a.1=k))=b.any λa=>decide (a.1=k):=by
 unfold KV at r
 induction r with|nil=>rfl|cons h t ih=>rw[pB,pB,ih,h.1]
theorem KV.R0{eZ:List (G×V)}{d:List (G×af)}(r:KV eZ d)(k:G){y:V}{u:af}(f:RelV y u):
  KV (eZ.map λa=>if a.1=k then (a.1,y) else a) (d.map λa=>if a.1=k then (a.1,u) else a):=by
 unfold KV at r ⊢
 induction r with
 |nil=>exact .nil|@cons p q l i h t ih=>
  rw[bh,bh];refine .cons ?_ ih;obtain⟨b,g⟩:=h;by_cases e:p.1=k
  ·rw[if_pos e,if_pos (b.symm.trans e)];exact⟨b,f⟩
  ·rw[if_neg e,if_neg (λz=>e (b.trans z))];exact⟨b,g⟩
theorem KV.put{eZ:List (G×V)}{a:List (G×af)}(r:KV eZ a)(k:G){y:V}{u:af}(b:RelV y u):KV (xT eZ k y) (stored a k u):=by
 unfold xT stored;rw[r.any k];by_cases e:(a.any λd=>decide (d.1=k))=Z'
 ·rw[if_pos e,if_pos e];exact r.R0 k b
 ·rw[if_neg e,if_neg e];exact Paired.snoc r ⟨rfl,b⟩
theorem KV.length{eZ:List (G×V)}{a:List (G×af)}(r:KV eZ a):eZ.length=a.length:=Paired.length r
end
theorem F_{P:bj}{w:bQ}{k:iY}{u:af}(r:RelV (kV k) u):(iw P w).is k u=true:=by
 cases k with
 |inl i=>obtain⟨t,e⟩:=(show ∃t,u=ko i t from r);subst e;exact FY P w i t
 |inr x=>obtain⟨t,e⟩:=(show ∃t,u=Value.str x t from r);subst e;exact FX P w x t
theorem Cy{P:bj}{w:bQ}:∀ {a:List iY}{b:List af},cK (a.map kV) b->ItemsAre (iw P w) a b
 |[],_,r=>by rw[EB]at r;cases r;exact .nil
 | k::a,_,r=>by
  rw[bh]at r;cases r with
  |cons h t=>exact .cons (F_ h) (Cy t)
abbrev KT(H:Hp):List (List iY×V)->List (List iY×az×af)->Prop:=Paired λp q=>p.1=q.1/\H q.2.1=Y (.tup (p.1.map kV))/\RelV p.2 q.2.2
theorem KT.val{H:Hp}{eZ:List (List iY×V)}{f:List (List iY×az×af)}(r:KT H eZ f)(k:List iY):rH (tH eZ k) ((Uv f k).map (·.2)):=by
 induction r with
 |nil=>exact wI|@cons p q l a h t ih=>
  obtain⟨g,_,i⟩:=h;by_cases e:p.1=k
  ·have d:q.1=k:=g.symm.trans e;have b:Uv (q::a) k=Y q.2:=by simp[Uv,mR,d]
   rw[vn e,b];exact i
  ·have d:¬q.1=k:=λz=>e (g.trans z)
   have b:Uv (q::a) k=Uv a k:=by simp[Uv,mR,d]
   rw[rX e,b];exact ih
theorem KT.R0{H:Hp}{eZ:List (List iY×V)}{d:List (List iY×az×af)}(r:KT H eZ d)(k:List iY){y:V}{u:af}(g:RelV y u):
  KT H (eZ.map λb=>if b.1=k then (b.1,y) else b) (d.map (putAt k u)):=by
 induction r with
 |nil=>exact .nil|@cons p q o l h t ih=>
  rw[bh,bh];refine .cons ?_ ih;obtain⟨a,f,i⟩:=h;unfold putAt;by_cases e:p.1=k
  ·rw[if_pos e,if_pos (a.symm.trans e)];exact⟨a,f,g⟩
  ·rw[if_neg e,if_neg (λz=>e (a.trans z))];exact⟨a,f,i⟩
theorem KT.put{H:Hp}{eZ:List (List iY×V)}{a:List (List iY×az×af)}(r:KT H eZ a)(k:List iY){y:V}{u:af}(g:H b=Y (.tup (k.map kV)))(d:RelV y u):
  KT H (xT eZ k y) (storedH a k b u):=by
 have e:(eZ.any λf=>decide (f.1=k))=(Uv a k).isSome:=by rw[EU,(r.val k).xp,Option.isSome_map]
 unfold xT storedH;rw[e];by_cases q:(Uv a k).isSome=Z'
 ·rw[if_pos q,if_pos q];exact r.R0 k d
 ·rw[if_neg q,if_neg q];exact Paired.snoc r ⟨rfl,g,d⟩
theorem KT.keeps{H e:Hp}{eZ:List (List iY×V)}{d:List (List iY×az×af)}(r:KT H eZ d)(f:∀b a,H b=Y (.tup a)->e b=Y (.tup a)):KT e eZ d:=
 Paired.SM r λ_ _ z=>⟨z.1,f _ _ z.2.1,z.2.2⟩
section
variable {P:bj}{w:bQ}{H:Hp}{h:cF}{a:az}
theorem Mp{u:HO}(b:pM P w H h)(e:Rd H a u):i6 P w H h a u:=e.ok b
theorem CN{eZ:List (iY×V)}(d:pM P w H h)(e:Rd H a (.dK eZ)):eZ.length<=br/\(a==lg)=Z_/\∃b,KV eZ b/\h.DictOf (iw P w) a b:=
 show i6 P w H h a (.dK eZ) from Mp d e
theorem WC{eZ:List (iY×V)}(d:pM P w H h)(e:H a=Y (.dK eZ)):eZ.length<=br/\(a==lg)=Z_/\∃b,KV eZ b/\h.DictOf (iw P w) a b:=CN d (.inl e)
theorem Ah{b:List iY}(f:pM P w H h)(e:H a=Y (.tup (b.map kV))):(EL (iw P w)).is h b a:=by
 obtain⟨_,d,r,o,k,i,n,g⟩:=(show i6 P w H h a (.tup (b.map kV)) from f a _ e);exact⟨o,d.toArray,n,k,i,g,by simpa using Cy r⟩
theorem CK{eZ:List (List iY×V)}(g:pM P w H h)(e:Rd H a (.dT eZ)):eZ.length<=br/\(a==lg)=Z_ /\
  ∃d,KT H eZ d/\h.DictOfH (EL (iw P w)) a d:=by
 obtain⟨z,y,d,r,o,D,E,A,v,u,s,k⟩:=(show i6 P w H h a (.dT eZ) from Mp g e);refine⟨z,y,d,r,o,D,E,A,v,u,s,λx b =>?_,k⟩;have f:∀ {l:List (List iY×V)}{m:List (List iY×az×af)},KT H l m->∀x∈m,(EL (iw P w)).is h x.1 x.2.1:=by
  intro l m q
  induction q with
  |nil=>intro x b;exact nomatch b
  |@cons p q I F i t ih=>
   intro x b;rcases aK.mp b with e|b
   ·subst e;exact Ah g (by rw[<- i.1];exact i.2.1)
   ·exact ih x b
 exact f r x b
theorem Wz{eZ:List (List iY×V)}(d:pM P w H h)(e:H a=Y (.dT eZ)):eZ.length<=br/\(a==lg)=Z_ /\
  ∃b,KT H eZ b/\h.DictOfH (EL (iw P w)) a b:=CK d (.inl e)
end
def yM(H:Hp)(a:az)(y:V)(r:Option V):Prop:=
 (∃eZ k,Rd H a (.dK eZ)/\y=kV k/\r=tH eZ k)∨∃eZ k b,Rd H a (.dT eZ)/\y=.ref b/\H b=Y (.tup (k.map kV))/\r=tH eZ k
def Od(H:Hp)(a:az)(y v:V)(d:Hp):Prop:=
 (∃eZ k,H a=Y (.dK eZ)/\y=kV k/\eZ.length<br/\d=eN H a (.dK (xT eZ k v))) ∨
 ∃eZ k b,H a=Y (.dT eZ)/\y=.ref b/\H b=Y (.tup (k.map kV))/\eZ.length<br/\d=eN H a (.dT (xT eZ k v))
theorem yM.k{H:Hp}{a:az}{eZ:List (iY×V)}{k:iY}(e:H a=Y (.dK eZ)):yM H a (kV k) (tH eZ k) :=.inl ⟨eZ,k,.inl e,rfl,rfl⟩
theorem Od.k{H:Hp}{a:az}{eZ:List (iY×V)}{k:iY}{v:V}(e:H a=Y (.dK eZ))(b:eZ.length<br):Od H a (kV k) v (eN H a (.dK (xT eZ k v))) :=.inl ⟨eZ,k,e,rfl,b,rfl⟩
section
variable {X:Cx}{C:List (az×Obj)}{B:St}{H:Hp}{s:aq}{a:az}{y v:V}{u r:af}{o:Option V}{A:cf}{E:af->aq->Prop}
theorem Inv.big(I:Inv X C B H s):lg<s.heap.objs.size:=by
 have h:ba<s.heap.objs.size:=(I.mod.glob.keeps I.bk).lt;exact Nat.lt_trans (by decide) h
theorem Lp(F:A.units+1<rP)(I:Inv X C B H s)(g:yM H a y (Y v))(w:RelV y u)(h:∀i t,Inv X C B H t->RelV v i->Q i t):
  bE (bB X.prog X.w) A (LI (.ref a) u) Q E s:=by
 rcases g with⟨eZ,k,e,q,l⟩|⟨eZ,k,b,e,q,P,l⟩
 ·subst q;obtain⟨z,c,D,f,r⟩:=CN I.jo e;obtain⟨i,hw,d⟩:=rH.some_of (v:=v) (o:=LH D k) (by rw[l];exact f.val k);exact wpAny_getItem_of (F_ w) r.mapOf hw (h i _ (I.tok _) d)
 ·subst q;cases (show u=cP b from w);obtain⟨z,c,x,f,r⟩:=CK I.jo e;obtain⟨i,hw,d⟩:=rH.some_of (v:=v) (o:=(Uv x k).map (·.2)) (by rw[l];exact f.val k);obtain⟨p,K,o⟩:=aS.mp hw;refine wpAny_getItem_heap (ve F) (Ah I.jo P) r K ?_;rw[o];exact h i _ (I.tok _) d
theorem Qp(v:A.units+1<rP)(I:Inv X C B H s)(g:yM H a y o)(t:RelV y u)(h:∀r,Inv X C B H r->Q (.bool (!o.isSome)) r):
  bE (bB X.prog X.w) A (eY .NotIn u (.ref a)) Q E s:=by
 rcases g with⟨eZ,k,e,i,l⟩|⟨eZ,k,b,e,i,w,l⟩
 ·subst i;obtain⟨z,f,D,d,p⟩:=CN I.jo e;refine wpAny_notIn_of (F_ t) f p.mapOf ?_;rw[<- (d.val k).xp,<- l];exact h _ (I.tok _)
 ·subst i;cases (show u=cP b from t);obtain⟨z,f,x,d,p⟩:=CK I.jo e;refine wpAny_notIn_heap (ve v) (Ah I.jo w) f p ?_;have q:=(d.val k).xp;rw[Option.isSome_map]at q;rw[<- q,<- l];exact h _ (I.tok _)
theorem JP{d:cF}{t':Nat}{e:HO}(I:Inv X C B H s)(g:WV (H a))(h:lh a s.heap d)(i:∃q,d.get? a=Y q)(f:i6 X.prog X.w (eN H a e) d a e):
  Inv X C B (eN H a e) { s with heap:=d,toks:=t' }:=
 I.write (x:=a) (e:=a) g (.inl rfl) (λb q k z=>(h.2 b k).trans z) i f
theorem TU{P:bj}{w:bQ}{h:Hp}{e:cF}{eZ:List (iY×V)}(z:eZ.length<=br)(f:(a==lg)=Z_)(d:KV eZ b)(g:e.DictOf (iw P w) a b):
  i6 P w h e a (.dK eZ):=⟨z,f,b,d,g⟩
theorem Lo(hu:A.units+1<rP)(I:Inv X C B H s)(g:Od H a y v H')(j:RelV y u)(P:RelV v r)(h:∀K,Inv X C B H' K->Q () K):
  bE (bB X.prog X.w) A (setItem (.ref a) u r) Q E s:=by
 rcases g with⟨eZ,k,e,x,l,D⟩|⟨eZ,k,b,e,x,eb,l,D⟩
 ·subst x D;obtain⟨z,w,vs,d,F⟩:=WC I.jo e;have o:vs.length<=br:=by rw[<- d.length];exact z
  have t:(xT eZ k v).length<=br:=by have:=xZ eZ k v;omega
  refine wpAny_setItem_pairs (hsz:=o) (F_ j) F λR f p=>h _ ?_
  have he:∃q,R.get? a=Y q:=let ⟨q,_,_,i,_⟩:=f;⟨q,i⟩;exact JP I (by rw[e];exact wI) p he (TU t w (d.put k P) f)
 ·subst x D;cases (show u=cP b from j);obtain⟨z,w,xs,d,F⟩:=Wz I.jo e;have o:xs.length<=br:=by rw[<- Paired.length d];exact z
  have t:(xT eZ k v).length<=br:=by have:=xZ eZ k v;omega
  refine wpAny_setItem_heap (hsz:=o) (ve hu) (Ah I.jo eb) F λR f p=>h _ ?_
  obtain⟨q,es,ep,i,h2,h3,h4,_,h5⟩:=f;refine JP I (by rw[e];exact wI) p ⟨q,i⟩ ⟨t,w,_,(d.put k eb P).keeps λc ys S =>?_,q,es,ep,i,h2,h3,h4,h5⟩;rw[bz (VU S e (λz=>nomatch z))];exact S
end
section
variable {X:Cx}{C:List (az×Obj)}{B:St}{H:Hp}{s:aq}{a:az}{eZ:List (iY×V)}{k:iY}{u:af}{A:cf}{E:af->aq->Prop}
end
def Ul(i:Expr):Prop:=∀a b,Oz i Z_ a b=operate [a,b] (LI a b)
theorem OM{w:bQ}{A:cf}{E:af->aq->Prop}{s:aq}{T d:Expr}{N:Pos}{a u:String}(y:typeLookup (.type a) "__getitem__" = fm (Y (.builtin u)))(v:Ul d)(h:bE (bB b w) A (eval T l) (λo k=>bE (bB b w) A (eval d l) (λi e=>e.TypeIs o a/\bE (bB b w) A (LI o i) Q E e) E k) E s):
  bE (bB b w) A (eval (.Subscript T d N) l) Q E s:=by
 refine Subscript_ (il h (λo k q=>il q (λi e f =>?_) λ_ _ x=>x) λ_ _ x=>x);obtain⟨t,f⟩:=f;unfold subscriptTail;refine aD ?_;rw[getitemInPython_of_ne t.not_modules];refine aD (wpAny_specialOf t y ?_);have oV:bE (bB b w) A (Oz d Z_ o i) (λr g=>bE (bB b w) A (letTemporaryGo T o r >>= λ_=>fm r) Q E g) E e:=by rw[v o i];exact wpAny_operating (il f (λr g p=>aD (wpAny_letTemporaryGo (bG p))) λ_ _ x=>x)
 first
  |exact bG (aD oV)
  |exact aD (bG (aD oV))
  |exact aD oV
theorem Gv{X:Cx}{C:List (az×Obj)}{B:St}{H:Hp}{s:aq}{a:az}{y:V}{o:Option V}(I:Inv X C B H s)(g:yM H a y o):s.TypeIs (.ref a) "dict" :=by
 rcases g with⟨eZ,k,e,_,_⟩|⟨eZ,k,b,e,_,_,_⟩
 ·obtain⟨_,_,h,_,d⟩:=CN I.jo e;exact d.typeIs
 ·obtain⟨_,_,f,_,d⟩:=CK I.jo e;exact d.typeIs
def Vl(J L:TE):TE:=λB H Q=>J B H λx d=>L B d λy b=>∃a v,x=.ref a/\yM b a y (Y v)/\Q v b
def OL(L J:TE):TE:=λB H Q=>L B H λy d=>J B d λx b=>∃a o,x=.ref a/\yM b a y o/\Q (.bl (!o.isSome)) b
def Vu(J L U:TE):TS:=λD B H=>U B H λv f=>J B f λx e=>L B e λy d=>∃a b,x=.ref a/\Od d a y v b/\D.nx B b
section
variable {X:Cx}{o i e T:Expr}{N j m:Pos}{J L U:TE}
theorem Pk(q:X.A.units+1<rP)(t:PE X o J)(w:PE X i L)(r:Ul i):PE X (.Subscript o i N) (Vl J L):=by
 intro C s B H Q I h;refine OM PySem.F.slot_dict_getitem.lookup r (gD (t C s B H _ I h) λu e ⟨x,F,D,k,p⟩=>gD (w C e B F _ D p) λR P ⟨y,E,d,f,a,v,z,g,l⟩ =>?_);subst z;obtain rfl:u=cP a:=k;exact⟨Gv d g,Lp q d g f λK c A b=>⟨v,E,A,b,l⟩⟩
theorem KG(p:X.A.units+1<rP)(r:PE X i L)(q:PE X o J):PC X .NotIn i o (OL L J):=by
 intro C s B H Q I h;refine gD (r C s B H _ I h) λK b ⟨y,D,z,d,k⟩=>gD (q C b B D _ z k) λu F ⟨x,A,w,e,a,l,t,g,f⟩ =>?_
 subst t;obtain rfl:u=cP a:=e;exact Qp p w g d λE v=>⟨.bl (!l.isSome),A,v,rfl,f⟩
theorem Pd(w:X.A.units+1<rP)(A:PE X o J)(E:PE X i L)(t:PE X T U)(z:c5 T (Y (.Subscript o i j)) N.line X.env=fm Z_):
  PS X (.Assign [.Subscript o i j] T N) (Vu J L U):=by
 intro C s B H D I h;refine wpAny_Assign_Subscript (gD (t C s B H _ I h) λr d ⟨v,H1,Q,k,q⟩=>gD (A C d B H1 _ Q q) λu b ⟨x,S,P,f,p⟩=>gD (E C b B S _ P p) λiv s3 ⟨y,H3,c,e,a,R,F,g,l⟩ =>?_) z;subst F;obtain rfl:u=cP a:=f;exact Lo w c g e k λs4 K=>⟨B,R,K,l⟩
end
theorem NL{P:bj}{w:bQ}{H:Hp}(h:cF)(a:lg<h.objs.size):i6 P w H (h.push { cls :=.type "dict",data :=.dict #[] }) h.objs.size (.dK []):=
 ⟨fc _,beq_eq_false_iff_ne.mpr (cL (bS a)),[],.nil,Heap.DictOf.new h⟩
def RO:TE:=λ_ H Q=>∀p,H p=M->Q (.ref p) (eN H p (.dK []))
section
variable {X:Cx}{N:Pos}
theorem MD:PE X (.Dict [] [] N) RO:=λC s B H Q I h=>
 wpAny_Dict_empty ⟨.ref s.heap.objs.size,_,I.laid (a:=s.heap.objs.size) (o :=.dK []) (t':=s.toks) (λ_ _ q=>ak _ q) (aM _) (NL s.heap I.big),rfl,h _ (I.jo.fresh (aM _))⟩
end
structure M2(X:Cx)(o:Expr)(m:aG)(rK:Pos)(e f:Expr)(wh:Pos):Prop where
 base:cy o m X.env (eval o X.env)=eval o X.env
 Wv:((dh wh (ao [e,f] X.env)).all (λx=> !x.1)&&(jl wh (d5 [] X.env)).all (λx=>x.1.isSome)
  && decide (([e,f]:List Expr).length+([]:List m7).length+(if ([]:List m7).isEmpty then 0 else 1)<30))=true
 line:(rK.endLine==wh.line)=true
 trees:dh wh (ao [e,f] X.env)=[(false,eval e X.env),(false,eval f X.env)]
def IsD(H:Hp)(a:az):Prop:=(∃eZ,Rd H a (.dK eZ))∨∃eZ,Rd H a (.dT eZ)
theorem Tb{X:Cx}{C:List (az×Obj)}{B:St}{H:Hp}{s:aq}{a:az}(I:Inv X C B H s)(d:IsD H a):
  s.TypeIs (.ref a) "dict" /\(∀b,cP a=.ref b->∃f,s.heap.get? b=Y f/\f.dict=M)/\(a==lg)=false:=by
 rcases d with⟨eZ,e⟩|⟨eZ,e⟩
 ·obtain⟨_,h,o,_,g⟩:=CN I.jo e;refine⟨g.typeIs,λb q =>?_,h⟩;cases q;obtain⟨f,_,_,k,i,_⟩:=g;exact⟨f,k,i.2.1⟩
 ·obtain⟨_,h,l,_,g⟩:=CK I.jo e;refine⟨g.typeIs,λb q =>?_,h⟩;cases q;obtain⟨f,_,_,k,i,_⟩:=g;exact⟨f,k,i.2.1⟩
section
variable {X:Cx}{C:List (az×Obj)}{B:St}{H:Hp}{s:aq}{a:az}{y d:V}{u r:af}{o:Option V}{A:cf}{E:af->aq->Prop}
theorem T5(F:A.units+1<rP)(I:Inv X C B H s)(g:yM H a y o)(w:RelV y u)(x:RelV d r)(h:∀t v,Inv X C B H v->RelV (o.getD d) t->Q t v):
  bE (bB X.prog X.w) A (call (.builtin "dict.get") [.ref a,u,r]) Q E s:=by
 rcases g with⟨eZ,k,e,q,l⟩|⟨eZ,k,b,e,q,K,l⟩
 ·subst q;obtain⟨z,p,c,f,i⟩:=CN I.jo e;refine call_meetsIn PySem.F.slot_dict_get i.typeIs PySem.F.entry_dict_get (PySem.F.args_dict_get_3 _ _ _) (meets_dict_get_default (iw X.prog X.w) a (F_ w) p r) ⟨_,i.mapOf,h _ _ (I.tok _) ?_⟩;rw[l];exact(f.val k).getD x
 ·subst q;cases (show u=cP b from w);obtain⟨z,p,D,f,i⟩:=CK I.jo e;refine call_meetsIn PySem.F.slot_dict_get i.typeIs PySem.F.entry_dict_get (PySem.F.args_dict_get_3 _ _ _) (meetsH_dict_get_default (EL (iw X.prog X.w)) a b p r) ⟨ve F,k,D,Ah I.jo K,i,h _ _ (I.tok _) ?_⟩;rw[l];exact(f.val k).getD x
end
def RP(J L c:TE):TE:=λB H Q=>J B H λx d=>∃a,x=.ref a/\IsD d a/\L B d λy e=>c B e λz b=>∃o,yM b a y o/\Q (o.getD z) b
section
variable {X:Cx}{o e f:Expr}{n O:Pos}{J L c:TE}
theorem ME(E:X.A.units+1<rP)(F:PE X o J)(j:PE X e L)(K:PE X f c)(m:M2 X o "get" n e f O):PE X (.Call (.Attribute o "get" n) [e,f] [] O) (RP J L c):=by
 intro C s B H Q I h;refine wpAny_Call_method m.base m.Wv m.line PySem.F.plainAttrs_dict PySem.F.slot_dict_get PySem.F.type_dict_get (gD (F C s B H _ I h) λu q ⟨x,H1,i,v,a,P,d,D⟩ =>?_);subst P;obtain rfl:u=cP a:=v;obtain⟨l,k,_⟩:=Tb i d;refine⟨l,k,?_⟩;rw[m.trees];refine Bd rfl (Calls.evalArgs_plain (IH (gD (j C q B H1 _ i D) λiv p ⟨y,H2,I2,t,A⟩=>IH (gD (K C p B H2 _ I2 A) λfv s3 ⟨z,H3,S,r,ov,g,w⟩=>Calls.spliced_nil ?_))))
 exact T5 E S g t r λw' s4 R b=>⟨_,H3,R,b,w⟩
end
section
variable {X:Cx}{C:List (az×Obj)}{B:St}{H:Hp}{s:aq}{a:az}{eZ:List (iY×V)}{A:cf}{E:af->aq->Prop}
end
section
variable {X:Cx}{C:List (az×Obj)}{B:St}{H:Hp}{s:aq}{a:az}{y:V}{u:af}{A:cf}{E:af->aq->Prop}
end
abbrev iQ(K:bb)(c f:aG):Prop:=∀C,o8 K ba c=Y (Y (.ref C))->Kb K C/\qQ K C f
theorem IZ{K:bb}{f:aG}{d:D}{v:V}(m:dg K G d v):∀ {a:List aG}{g:List D}{h:List V},a.length=g.length->bx K G g h->∃b,lN f v (a.zip h)=(jj f d a g).1.zip b/\(jj f d a g).1.length=(jj f d a g).2.length/\bx K G (jj f d a g).2 b
 |[],[],h,c,r=>by rw[dz.mp r];exact⟨[v],rfl,rfl,.cons m .nil⟩
 |[],x::g,h,c,r=>by simp at c
 |k::a,[],h,c,r=>by simp at c
 | k::a,x::g,h,c,r=>by
  obtain⟨u,i,rfl,o,n⟩:=bJ.mp r;simp only[aO,Oi]at c;unfold jj;rw[cC,show lN f v ((k,u)::a.zip i)=(if k=f then (k,v)::a.zip i else (k,u)::lN f v (a.zip i)) from rfl];by_cases j:k=f
  ·rw[if_pos j,if_pos j];exact⟨v::i,rfl,by simp[c],.cons m n⟩
  ·rw[if_neg j,if_neg j];obtain⟨b,e,l,q⟩:=IZ m c n;exact⟨u::b,by rw[cC,e],by simp[l],.cons o q⟩
theorem vl{a:List d}{b:List c}(h:a.length=b.length):(a.zip b).length=a.length:=by simp[h]
theorem p8{K:bb}{G:Hp}{f:aG}:∀ {a:List aG}{b:List V},f∉a->(a.zip b).lookup f=M
 |[],b,h=>by simp
 |k::a,[],h=>by simp
 |k::a,v::b,h=>by simp only[aK,not_or]at h;rw[cC,dC,beq_eq_false_iff_ne.mpr h.1];exact p8 (K:=K) (G:=G) h.2
section
variable {X:Cx}{own:List Nat}{e:Expr}{I p:Pos}{g:DF}
theorem aX{c f:aG}(h:PE X e (tQ X.K own g))(p:iQ X.K c f)(x:cy e f X.env (eval e X.env)=eval e X.env:=by rfl):
  PE X (.Attribute e f I) (tP X.K own (bc c f g)):=(sj h x).imp <|by
 rintro F H Q ⟨G,m,d,z,j,b,k⟩;unfold bc at b;rcases l:g m with _|o
 ·rw[l]at b;cases b
 rw[l]at b;refine⟨G,m,o,z,j,l,λv E D q w =>?_⟩;cases o<;>simp only[aa]at b<;>try (cases b;done)
 split at b
 ·rename_i i;subst i;obtain⟨a,C,B,K,rfl,y,n,_,t⟩:=w.Yo q.gh;obtain⟨u,A,r⟩:=Jw t b;exact⟨a,C,B,_,u,rfl,y,(p C n).1,(p C n).2,A,k u E D q r⟩
 ·cases b
end
section
variable {X:Cx}{B:Bs}{s own own1:List Nat}{e:Expr}{I T p:Pos}
noncomputable def Dd:DG:=λ_=>M
theorem Gq:PS X a (lq X.K B s own own1 Dd):=Mv.imp λD c H ⟨G,d,o,S,b,k⟩=>by cases b
def CD(c:aG)(i:Nat)(a:bZ):Option (List aG×List D):=(eV i a).bind λd=>match d with|.ins f b e=>if f=c then Y (b,e) else M|_=>M
theorem HX{e:List D}(h:CD c i a=Y (b,e)):a[i]?=Y (Y (.ins c b e)):=by
 unfold CD at h;obtain⟨d,g,h⟩:=ae.1 h;have:=jg g;cases d<;>simp only[aa]at h<;>try (cases h;done)
 split at h
 ·rename_i f;cases h;subst f;exact this
 ·cases h
theorem SR.Yb{K:bb}{G:Hp}{g:St}{d:List aG}{f:List D}(S:SR K B own G H g j)(k:i∈own)(h:j[i]?=Y (Y (.ins c d f))):
  ∃a C e b,g[i]?=Y (Y (.ref a))/\H a=Y (.ins C e (d.zip b))/\o8 K ba c=Y (Y (.ref C))/\d.length=f.length/\bx K G f b/\G a=M/\B.2 a=none:=by
 obtain⟨a,q,p,o,⟨C,e,b,rfl,n,l,r⟩,m⟩:=S.MH k h rfl;exact⟨a,C,e,b,p,o,n,l,r,m⟩
def lM(i:Nat)(c f:aG)(b:DF):DG:=λa=>(b a).bind λd=>(CD c i a).bind λq=>if q.1.length<999 then Y (.nx (a.set i (Y (.ins c (jj f d q.1 q.2).1 (jj f d q.1 q.2).2)))) else M
theorem k_{i:Nat}{c f:aG}{w:DF}(h:PE X (.Name x p) (kr i))(P:PE X e (tP X.K own w))(u:iQ X.K c f)(q:i∈own:=by decide)(N:c5 e (Y (.Attribute (.Name x p) f T)) I.line X.env=fm false:=by rfl):
  PS X (.Assign [.Attribute (.Name x p) f T] e I) (lq X.K B s own own (lM i c f w)):=(Dm h P N).imp <|by
 rintro D σ H ⟨G,m,o,S,b,k⟩;unfold lM at b;obtain⟨d,R,b⟩:=ae.1 b;rcases j:CD c i m with _|⟨ks,ds⟩
 ·simp[j]at b
 simp only[j,aa]at b;split at b
 ·cases b;rename_i hz;have t:=HX j;refine⟨G,m,d,S.gh,S.lV,R,λv G' H' E r =>?_⟩;have F:=S.ext E;obtain⟨a,C,A,vs,z,e3,n,l,y,e5,e6⟩:=F.Yb q t;obtain⟨g,Q,J,K⟩:=IZ (f:=f) r l y;refine⟨_,z,a,C,A,_,rfl,e3,(u C n).1,(u C n).2,?_,?_⟩
  ·rw[vl (by rw[l,y.length])];omega
  ·rw[Q];exact k _ G' _ (F.VX q t z ⟨C,A,g,rfl,n,J,K⟩)
 ·cases b
abbrev O0(a:Int->Int->Int):V->V->Hp->VK->Prop:=λx y H Q=>∃i j,x=.int i/\y=.int j/\Q (.int (a i j)) H
noncomputable def dS(f:DM):DG:=λa=>(f a).map λq =>.nx q.2
theorem lX{f:DM}(i:PE X e (tM X.K B own f))(h:c5 e M I.line X.env=fm false:=by rfl):PS X (.Expr e I) (lq X.K B s own own (dS f)):=(sV i h).imp <|by
 rintro D c H ⟨G,g,o,S,a,k⟩;unfold dS at a;obtain⟨⟨d,b⟩,j,a⟩:=aS.1 a;cases a;exact⟨G,g,d,b,S,j,λv n m l _ r=>k c n m l⟩
end
def UH(K:bb)(p:Nat)(F:List D->Option (D×D)):Sp:=λf H Q _=>∃G b d j a o c,bF G H/\b[p]?=Y c/\f[p]?=Y (.ref a)/\H a=Y o/\jF K G c o/\G a=M /\
 (∀(i:Nat) c,i≠p->b[i]?=Y c->∃v,f[i]?=Y v/\dg K G c v)/\b.length=f.length/\F b=Y (d,j) /\
 ∀v h e g,gO G (EK H a) e g->e a=M->g a=Y h->jF K e j h->dg K e d v->Q v g
def Yd(p:Nat):DO->Option (D×D)
 |.rm d a=>(eV p a).bind λc=>if vS c=Z' then Y (d,c) else M
 |.nx a=>(eV p a).bind λc=>if vS c=Z' then Y (.eJ,c) else M
 |_=>M
def runC(n N p:Nat)(g:DG)(a:List D):Option (D×D):=if a.length=n then (g (gX N a)).bind (Yd p) else M
section
variable {P:bj}{w:bQ}{K:bb}{O:aG->Option af}{U:cF}
theorem jD.okC{R:cY}{f:az}{N ps:List aG}(F:jD K x l R f fd)(S:bC N ps (aI R))(p:Nat){own own':List Nat}{g:DG}(hp:p∈own)(To:∀i∈own,i=p∨ps.length<=i) (hb:∀(t:af) (A:cf) (j:List Env) (s:aq) (H:Hp) (E:XK),f' k (A.deeper (rW l (aI R) s.heap.objs.size f t))->∀(B:Bs) (a:az),B.3=[(p,a)] ->
   sP (xE iW P w K O U N l (aI R) f t A j s H E).MS (iA R) (lq K B [] own own' g)):cQ P w K O U iW (k+1) f fd ps (UH K p (runC ps.length N.length p g)):=by
 refine F.ok S (λvs H Q E h =>?_) (λt A j s H vs Q E hr h =>?_)
 ·obtain⟨G,ds,d,c',a,o,c,gh,hd,hv,ha,r,ga,ro,hl,e,_⟩:=h;unfold runC at e;split at e
  ·rw[<- hl];assumption
  ·cases e
 ·obtain⟨G,ds,d,c',a,o,c,gh,hd,hv,ha,r,ga,ro,hl,e,q⟩:=h;unfold runC at e;split at e
  ·rename_i hn;refine⟨_,hb t A j s H E hr ⟨G,EK H a,[(p,a)],λ_ _=>False⟩ a rfl,?_⟩;obtain⟨oo,eg,e⟩:=ae.1 e;have oV:∀ {σ:St}{m:bZ}{C n:Hp}{o':List Nat}{y:D},SR K ⟨G,EK H a,[(p,a)],λ_ _=>False⟩ o' C n σ m->eV p m=Y y->vS y=Z'->∃u,n a=Y u/\jF K C y u/\C a=none:=fun {σ m C n o' y} z el X=>by obtain⟨Tn,hσ⟩:=z.pin p a (by simp);obtain⟨b,u,f2,f3,f4,f5,_⟩:=z.MH Tn (jg el) X;rw[hσ]at f2;cases f2;exact⟨u,f3,f4,f5⟩
   refine⟨G,_,oo,Ce gh hp hd hv ha r ga ro hl (by rw[hn];exact To),eg,?_⟩;cases oo with
   |rm d' m=>
    have e:((eV p m).bind λc=>if vS c=Z' then Y (d',c) else M)=Y (d,c'):=e;obtain⟨y,el,e⟩:=ae.1 e;split at e
    ·rename_i X;cases e;intro v σ C n ⟨o',z⟩ rv;obtain⟨u,f3,f4,f5⟩:=oV z el X;exact q v u C n z.pb f5 f3 f4 rv
    ·cases e
   |nx m=>
    have e:((eV p m).bind λc=>if vS c=Z' then Y (D.eJ,c) else M)=Y (d,c'):=e;obtain⟨y,el,e⟩:=ae.1 e;split at e
    ·rename_i X;cases e;intro σ C n z;obtain⟨u,f3,f4,f5⟩:=oV z el X;exact q _ u C n z.pb f5 f3 f4 (iu.mpr rfl)
    ·cases e
   |_=>cases e
  ·cases e
structure fB(P:bj)(w:bQ)(K:bb)(mg:aG->Option af)(base:cF)(c m:aG)(k:Nat)(sp:Sp):Prop where
 ex:∃C f fd ps,o8 K ba c=some (some (.ref C))/\Kb K C/\Ob K C m f/\cQ P w K mg base iW k f fd ps sp/\Binds K fd ps []
theorem fB.mono{m:aG}(h:fB P w K O U c m j a)(d:j<=k):fB P w K O U c m k a:=by
 obtain⟨C,f,o,b,n,l,i,g,e⟩:=h.ex;exact⟨C,f,o,b,n,l,i,g.mono d,e⟩
structure wA(P:bj)(w:bQ)(K:bb)(mg:aG->Option af)(base:cF)(c:aG)(k:Nat)(sp:Sp):Prop where
 ex:∃C f fd ps,o8 K ba c=some (some (.ref C))/\mg c=some (.ref C)/\Mk K C f/\cQ P w K mg base iW k f fd ps sp/\Binds K fd ps []
end
section
variable {X:Cx}{B:Bs}{own:List Nat}{e o:Expr}{J:List Expr}{I p L:Pos}{pl:Sem Bool}
def Xd(K:bb)(own:List Nat)(f:DF):TE:=λe H Q=>∃G c d,bF G H/\lb K own G H e c/\f c=Y d/\∀p o b a,gO G H b a->H p=M->b p=M->a p=Y o->jF K b d o->Q (.ref p) a
noncomputable def JG(c:aG)(F:List D->Option (D×D))(g:DL):DF:=λa=>(g a).bind λb=>(F (.ins c [] []::b)).bind λr=>match r.1 with|.eJ=>Y r.2|_=>M
theorem JO{c:aG}{F:List D->Option (D×D)}{g:DL}(h:wA X.prog X.w X.K X.mg X.base c k (UH X.K 0 F))(hr:f' (k+1) X.A)(hg:Gl X c)(ha:PA X (e::J) (Hr X.K own g))(B:(c==("__debug__" : aG))=false:=by decide)(he:ao (e::J) X.env=(Z_,eval e X.env)::ao J X.env:=by rfl)(A:(dh I (ao J X.env)).any (·.1)=false:=by rfl):PE X (.Call (.Name c p) (e::J) [] I) (Xd X.K own (JG c F g)):=by
 obtain⟨C,f,fd,ps,n,hm,hk,h1,a⟩:=h.ex;refine(I_ hk h1 hr hg hm a .nil pZ ha B he A).imp λσ H Q ⟨G,R,d,gh,K,j,q⟩ =>?_
 unfold JG at j;obtain⟨N,eg,j⟩:=ae.1 j;obtain⟨⟨d',c'⟩,eF,j⟩:=ae.1 j;cases d'<;>simp only[aa]at j<;>try (cases j;done)
 cases j;refine⟨G,R,N,gh,K,eg,λS s H1 w P x t m l ne =>?_⟩;show UH X.K 0 F (.ref x::(S++[])) _ _ E0;rw[cM];have E:s x=none:=w.gh.free m;have s2:bF s (eN (eN H1 t (.own x)) x (.ins C t [])):=w.gh.trans ((bF.alloc l).trans (.alloc (by rw[bz (cL ne)];exact m)));refine⟨s,.ins c [] []::N,.eJ,_,x,_,.ins c [] [],s2,rfl,rfl,bM,⟨C,t,[],rfl,n,rfl,.nil⟩,E,λi y hi ec =>?_,by simp[P.length],eF,λv o' G2 H2 u g2 h2 r2 r3=>⟨iu.mp r3,?_⟩⟩
 ·cases i with
  |zero=>exact absurd rfl hi|succ i=>exact P.get (i:=i) (by simpa using ec)
 ·refine q x o' G2 H2 (w.trans ⟨λb o e=>u.hh b o ?_,u.gg,u.gh,λb o e =>?_⟩) (w.hh.free m) g2 h2 r2
  ·have a:b≠x:=bW e m;rw[uW a,bz a,bz (bW e l)];exact e
  ·rcases u.fr b o e with z|z
   ·exact .inl z
   ·refine .inr ?_;by_cases a:b=x
    ·subst a;exact m
    ·by_cases r:b=t
     ·subst r;exact l
     ·rw[uW a,bz a,bz r]at z;exact z
theorem JK{s:List Nat}{i:Nat}{f:DF}{T:Pos}(w:X.N.Nodup)(t:X.N[i]?=Y x)(h:Loc X.env.scope x)(v:PE X e (Xd X.K own f))(n:i∈own:=by decide)(b:∀a,(i,a)∉B.3:=by intro a;simp_all)(q:Cu i∉own:=by decide)(l:c5 e (Y (.Name x T)) I.line X.env=fm false:=by rfl)(u:X.fn x=Z'∨X.env.scope.names.lookup x=Y .local:=by first|exact .inl rfl|exact .inr rfl|assumption):
  PS X (.Assign [.Name x T] e I) (lq X.K B s own own (dr i f)):=(sh w t h v l u).imp <|by
 rintro D F H ⟨G,g,o,S,c,k⟩;unfold dr at c;obtain⟨d,z,c⟩:=aS.1 c;cases c;exact⟨G,g,d,S.gh,S.lV,z,λp K C A E m y j r=>k _ C A (S.setC n E m y j r b q)⟩
end
section
variable {X:Cx}{own:List Nat}{a b c e:Expr}{m p:Pos}{fa fb C f:DF}
end
section
variable {X:Cx}{own:List Nat}{a b c e i:Expr}{m p:Pos}{fa fb C f:DF}{x:aG}{l:List (aG×aG)}
end
section
variable {X:Cx}{own:List Nat}{a o e:Expr}{m p:Pos}{E J:TE}{f fa:DF}
end
section
variable {X:Cx}{own:List Nat}{o e f:Expr}{b p:Pos}
noncomputable def eX(ks:List iY)(c:List D)(k:iY):Option D:=((ks.zip c).find? λa=>decide (a.1=k)).map (·.2)
theorem qM{K:bb}:∀ {c:List iY}{f:List D}{a:List V}{d:D},bx K G f a->eX c f k=Y d->∃v,tH (c.zip a) k=Y v/\dg K G d v
 |[],f,a,d,r,h=>by simp[eX]at h
 |x::c,[],a,d,r,h=>by simp[eX]at h
 | x::c,y::f,a,d,r,h=>by
  obtain⟨v,t,rfl,i,l⟩:=bJ.mp r;by_cases g:x=k
  ·subst g;have:y=d:=by simpa [eX] using h
   subst this;exact⟨v,vn rfl,i⟩
  ·have m:eX c f k=Y d:=by simpa [eX,g] using h
   obtain⟨u,e,j⟩:=qM l m;exact⟨u,by rw[cC,rX g];exact e,j⟩
theorem uZ{K:bb}:∀ {c:List iY}{d:List D}{a:List V},bx K G d a->eX c d k=M->tH (c.zip a) k=M
 |[],d,a,r,h=>by simp[tH]
 |x::c,[],a,r,h=>by rw[dz.mp r];simp[tH]
 | x::c,y::d,a,r,h=>by
  obtain⟨v,t,rfl,i,f⟩:=bJ.mp r;by_cases e:x=k
  ·subst e;simp[eX]at h
  ·have g:eX c d k=none:=by simpa [eX,e] using h
   rw[cC,rX e];exact uZ f g
noncomputable def DJ:D->Option iY
 |.int i=>Y (zc i)|.str x=>Y (cX x)|_=>M
theorem vO{K:bb}{v:V}(h:DJ d=Y k)(r:jX K G H d v):v=kV k:=by
 cases d<;>simp only[DJ]at h<;>try (cases h;done)
 ·cases h;exact r.int
 ·cases h;exact r.str
def sH(f g e:DF):DF:=λa=>(f a).bind λd=>(g a).bind λk=>(e a).bind λx=>match d with|.ig c h=>(DJ k).map λk=>(eX c h k).getD x|_=>M
theorem Ec{D F:DF}{i:Pos}(hu:X.A.units+1<rP)(ho:PE X o (tQ X.K own D))(he:PE X e (tQ X.K own F))(hf:PE X f (tP X.K own C))(m:M2 X o "get" j e f i):PE X (.Call (.Attribute o "get" j) [e,f] [] i) (tP X.K own (sH D F C)):=
 (ME hu ho he hf m).imp <|by
  rintro σ H Q ⟨G,r,d,gh,n,c,q⟩;unfold sH at c;rcases g:D r with _|dd
  ·rw[g]at c;cases c
  rcases h:F r with _|N
  ·simp[g,h]at c
  rcases p:C r with _|L
  ·simp[g,h,p]at c
  simp only[g,h,p,aa]at c;cases dd<;>simp only at c<;>try (cases c;done)
  rename_i b J;rcases I:DJ N with _|k
  ·rw[I]at c;cases c
  rw[I]at c;refine⟨G,r,_,gh,n,g,λv G1 H1 x r1 =>?_⟩;obtain⟨a,vs,rfl,O,l,S⟩:=r1.TV x.gh;refine⟨a,rfl,.inl ⟨_,.of O⟩,G1,r,N,x.gh,n.ext x,h,λu G2 H2 t U=>⟨G2,r,L,t.gh,(n.ext x).ext t,p,λz R P K T =>?_⟩⟩;have hk:u=kV k:=vO I U;have B:=K.hh _ _ (t.hh _ _ O);have s:=bx.mono (t.gg.trans K.gg) J S;refine⟨_,by rw[hk];exact yM.k B,?_⟩;have E:=(x.trans t).trans K;have c:Y ((eX b J k).getD L)=Y d:=c;rcases y:eX b J k with _|dv
  ·rw[y]at c;cases c;rw[uZ s y];exact q _ R P E T
  rw[y]at c;cases c;obtain⟨w,ew,A⟩:=qM s y;rw[ew];exact q _ R P E A
end
noncomputable def Cs:D->D->Option D
 |.int i,.int j=>Y (.int (bK i j))|_,_=>M
noncomputable def dm:D->D->Option D
 |.int i,.int j=>Y (.int (EG i j))|_,_=>M
noncomputable def kB:D->D->Option D
 |.int i,.int j=>if 0<=j/\j<=1000/\i.natAbs<2 ^ 64 then Y (.int (i*2 ^ j.toNat)) else M
 |_,_=>M
noncomputable def SA:D->D->Option D
 |.int i,.int j=>if 0<=j then Y (.int (i/2 ^ j.toNat)) else M
 |_,_=>M
noncomputable def yr:D->Option D
 |.int i=>Y (.int (Uy i))|_=>M
section
variable {X:Cx}{own:List Nat}{a:Expr}{c:DF}{f g:Pos}{B:Bs}{h:List Nat}{e:Expr}
theorem vI:Bg X (eL .BitOr) Cs:=oU.imp VN <|by
 rintro x y H Q ⟨G,k,j,d,i,e,b,a,q⟩;unfold Cs at a;split at a<;>try (cases a;done)
 cases a;exact⟨_,_,e.int,b.int,q _ G H (.refl i) (cg.mpr rfl)⟩
theorem eB:Bg X (eL .BitAnd) dm:=oU.imp Ss <|by
 rintro x y H Q ⟨G,k,j,d,i,e,b,a,q⟩;unfold dm at a;split at a<;>try (cases a;done)
 cases a;exact⟨_,_,e.int,b.int,q _ G H (.refl i) (cg.mpr rfl)⟩
theorem uG:Bg X (eL .LShift) kB:=oU.imp Sl <|by
 rintro x y H Q ⟨G,l,k,d,j,i,e,a,q⟩;unfold kB at a;split at a<;>try (cases a;done)
 split at a
 ·rename_i b;cases a;exact⟨_,_,i.int,e.int,⟨b.1,by have:=b.2.1;omega,b.2.2⟩,q _ G H (.refl j) (cg.mpr rfl)⟩
 ·cases a
theorem Sz:Bg X (eL .RShift) SA:=oU.imp Sj <|by
 rintro x y H Q ⟨G,l,k,d,j,i,e,a,q⟩;unfold SA at a;split at a<;>try (cases a;done)
 split at a
 ·rename_i b;cases a;exact⟨_,_,i.int,e.int,b,q _ G H (.refl j) (cg.mpr rfl)⟩
 ·cases a
theorem AQ(l:PE X a (tQ X.K own c)):PE X (.UnaryOp .Invert a f) (tP X.K own (e1 yr c)):=(Q9 RE l).imp <|by
 rintro s H Q ⟨G,i,d,m,b,o,k⟩;obtain⟨x,n,e⟩:=Ea o;cases x<;>simp[yr]at e
 subst e;exact⟨G,i,_,m,b,n,λv q p r j=>⟨_,j.int,k _ q p r (cg.mpr rfl)⟩⟩
theorem vU:LC X .BitOr (O0 bK):=by
 rintro b s k H x y u v Q I e d ⟨i,j,rfl,rfl,q⟩;obtain⟨t,rfl⟩:=(show ∃t,u=ko i t from e);obtain⟨a,rfl⟩:=(show ∃a,v=ko j a from d);exact ior_int ⟨.int (bK i j),H,I.tok _,⟨_,rfl⟩,q⟩
def nG(i:Nat)(e:Int->Int->Int)(j:DF):DG:=λd=>(eV i d).bind λx=>(j d).bind λy=>match x,y with|.int a,.int b=>Y (.nx (d.set i (Y (.int (e a b)))))|_,_=>M
theorem uY{i:Nat}{op:Int->Int->Int}(b:LC X o (O0 op))(w:X.N.Nodup)(q:X.N[i]?=Y x)(p:Loc X.env.scope x)(t:PE X e (tP X.K own j))(n:i∉own:=by decide)(s:X.fn x=Z'∨X.env.scope.names.lookup x=Y .local:=by first|exact .inl rfl|exact .inr rfl|assumption):
  PS X (.AugAssign (.Name x g) o e f) (lq X.K B h own own (nG i op j)):=(R6 (ti:=O0 op) w q p t b s).imp <|by
 rintro D I H ⟨G,m,J,S,a,k⟩;unfold nG at a;obtain⟨c,y,a⟩:=ae.1 a;rcases l:j m with _|d
 ·simp[l]at a
 simp only[l,aa]at a;split at a
 ·rename_i L K;cases a;obtain⟨v,A,z⟩:=S.env i _ n (jg y);cases cg.mp z;refine⟨_,A,G,m,_,S.gh,S.lV,l,λu F C E r =>?_⟩;cases cg.mp r;exact⟨_,_,rfl,rfl,k _ F C ((S.ext E).zp n (cg.mpr rfl))⟩
 ·cases a
end
section
variable {K:bb}{B:Bs}{f:List Nat}{G H G' H':Hp}{y:St}{l:bZ}
theorem SR.tree{s:Sk}(S:SR K B f G H y l)(c:i∈f)(e:l[i]?=Y (Y (.obj s t))):∃a T,y[i]?=Y (Y (.ref a))/\cT K G H s t (.ref a) T/\T.Nodup/\(∀b∈T,G b=M/\B.2 b=M)/\∃F,qf K B f G H y l F/\F i=T:=by
 obtain⟨F,W⟩:=S.ow;obtain⟨a,g,d⟩:=W.it i _ c e;obtain⟨n,k⟩:=W.ok i _ c e;exact⟨a,F i,g,d,n,k,F,W,rfl⟩
noncomputable def c8(r:Nat)(l:bZ):bZ:=l.map λo=>match o with|some (.eH k p)=>if k=r then M else Y (.eH k p)|o=>o
theorem bP{r i:Nat}{l:bZ}(h:(c8 r l)[i]?=Y (Y d)):l[i]?=Y (Y d)/\∀p,d ≠ .eH r p:=by
 unfold c8 at h;rw[aT]at h;rcases e:l[i]? with _|o
 ·rw[e]at h;cases h
 rw[e]at h;cases o with
 |none=>cases h|some c=>
  cases c with
  |eH k p=>
   simp only[bI,gR]at h;split at h
   ·cases h
   ·rename_i a;cases h;exact⟨rfl,λq z=>a (by cases z;rfl)⟩
  |_=>simp only[bI,gR]at h;cases h;exact⟨rfl,λq z=>by cases z⟩
theorem lp{r i:Nat}{l:bZ}(h:l[i]?=Y (Y d))(a:∀p,d ≠ .eH r p):(c8 r l)[i]?=Y (Y d):=by
 unfold c8;rw[aT,h];cases d with
 |eH k p=>simp only[bI,gR];rw[if_neg (λz=>a p (by rw[z]))]
 |_=>rfl
theorem SR.Ki{r:Nat}(S:SR K B f G H y l):SR K B f G H y (c8 r l):=by
 refine⟨S.gh,S.g0,S.h0,S.fr,λi d a e=>S.env i d a (bP e).1,?_,by rw[S.len];simp[L2.c8],S.pin,λj k p s o e =>?_⟩
 ·obtain⟨F,W⟩:=S.ow;exact⟨F,λi d a e=>W.it i d a (bP e).1,λi d a e=>W.ok i d a (bP e).1,λi j d c a n C A=>W.ap i j d c a n (bP C).1 (bP A).1⟩
 ·obtain⟨v,x,m,g,h,w,b,u,t⟩:=S.eH j k p s o (bP e).1;exact⟨v,x,m,g,h,w,b,lp u (λq z=>by cases z),t⟩
theorem SR.Ef{s:Sk}{t':D}{m:List az}{F:Nat->List az}(S:SR K B f G H y l)(W:qf K B f G H y l F)(J:F i=T)(g:i∈f)(I:l[i]?=Y (Y (.obj s t)))(u:y[i]?=Y (Y (.ref a)))(E:gO G (jT H T) G' H')(v:cT K G' H' n t' (.ref a) m)(x:m.Nodup)(w:∀b∈m,G' b=M/\(b∈T∨H b=M)):SR K B f G' H' y ((c8 i l).set i (Y (.obj n t'))):=by
 have A:=lp (r:=i) I (λq z=>by cases z);have N:qf K B f G H y (c8 i l) F:=⟨λi d g e=>W.it i d g (bP e).1,λi d g e=>W.ok i d g (bP e).1,λi j d c g C O L=>W.ap i j d c g C (bP O).1 (bP L).1⟩;have:=(S.Ki (r:=i)).chg (i:=i) (a:=a) (d' :=.obj n t') (F0:=T) (S':=m) N g (λb k=>⟨by rw[J];exact k,_,A⟩) E.gg E.gh (λb o e=>by
   rcases E.fr b o e with z|z
   ·exact .inl z
   ·by_cases k:b∈T
    ·exact .inr (.inr k)
    ·rw[dn k]at z;exact .inr (.inl z))
  (λb o k e=>E.hh b o (by rw[dn k];exact e)) v x w (λb h=>by have:=(S.pin i b h).2;rw[u]at this;cases this;rfl) (λr p z=>by cases z)
  (λj p _ _ _ e=>absurd rfl ((bP e).2 p))
 rwa [iD u]at this
theorem SR.RU{p:xQ}{s s':Sk}{v:V}(S:SR K B f G H y l)(hi:i∈f)(N:Cu i∈f)(hj:j∈f)(J:i≠j)(D:Cu j∉f)(C:∀a,(j,a)∉B.3)(hd:l[i]?=Y (Y (.obj s t)))(hs:y[i]?=Y (Y v))(hv:gY H p v=Y (.ref b))(es:mx p s=Y s')(ef:∀g∈BP p,g∈GI):SR K B f G H (y.set j (Y (.ref b))) (l.set j (Y (.eH i p))):=by
 obtain⟨F,W⟩:=S.ow;refine⟨S.gh,S.g0,S.h0,S.fr,λk c o e =>?_,⟨λk=>if k=j then [] else F k,λk c o e =>?_,λk c o e =>?_,λk m c c' o hm ek em L =>?_⟩,by simp[S.len],λk x h =>?_,λk r q h1 h2 e =>?_⟩
 ·have d:j≠k:=λz=>o (z ▸ hj)
  rw[aw d]at e;obtain⟨u,n,O⟩:=S.env k c o e;exact⟨u,by rw[aw d];exact n,O⟩
 ·rcases hI e with⟨rfl,rfl,A⟩|⟨d,n⟩
  ·exact⟨b,qU (by rw[S.len];exact A),by simp[nS]⟩
  ·obtain⟨x,f1,f2⟩:=W.it k c o n;exact⟨x,by rw[aw d];exact f1,by simp only[if_neg (cL d)];exact f2⟩
 ·rcases hI e with⟨rfl,rfl,A⟩|⟨d,n⟩
  ·simp
  ·simp only[if_neg (cL d)];exact W.ok k c o n
 ·rcases hI ek with⟨rfl,rfl,A⟩|⟨d,n⟩
  ·simp
  ·rcases hI em with⟨rfl,rfl,A⟩|⟨E,O⟩
   ·simp
   ·simp only[if_neg (cL d),if_neg (cL E)];exact W.ap k m c c' o hm n O L
 ·obtain⟨p1,X⟩:=S.pin k x h;have:j≠k:=λz=>by subst z;exact C x h
  exact⟨p1,by rw[aw this];exact X⟩
 ·rcases hI e with⟨rfl,z,A⟩|⟨d,n⟩
  ·cases z;exact⟨hi,N,s,t,s',v,.ref b,by rw[aw (cL J)];exact hd,by rw[aw (cL J)];exact hs,qU (by rw[S.len];exact A),hv,es,ef⟩
  ·obtain⟨g1,P,U,R,T,w,Q,g2,g3,g4,g5⟩:=S.eH k r q h1 h2 n;have I:j≠r:=λz=>D (z ▸ P)
   exact⟨g1,P,U,R,T,w,Q,by rw[aw I];exact g2,by rw[aw I];exact g3,by rw[aw d];exact g4,g5⟩
end
section
variable {K:bb}{B:Bs}{f:List Nat}{G H G' H':Hp}{y:St}{l:bZ}
theorem SR.RZ{i:Nat}{a:az}{s:Sk}{k:List az}{F:Nat->List az}(S:SR K B f G H y l)(W:qf K B f G H y l F)(O:F i=T)(N:i∈f)(v:l[i]?=Y (Y (.obj s t)))(m:y[i]?=Y (Y (.ref a)))(E:gO G (jT H T) G' H')(I:cT K G' H' s d (.ref a) k)(L:k.Nodup)(J:∀b∈k,G' b=M/\(b∈T∨H b=M))(D:∀(q:xQ) u,(∀g∈BP q,g∈GI)->gY H q (.ref a)=Y u->gY H' q (.ref a)=Y u):SR K B f G' H' y (l.set i (Y (.obj s d))):=by
 have:=S.chg (i:=i) (a:=a) (d' :=.obj s d) (F0:=T) (S':=k) W N (λb c=>⟨by rw[O];exact c,_,v⟩) E.gg E.gh (λb o e=>by
   rcases E.fr b o e with z|z
   ·exact .inl z
   ·by_cases c:b∈T
    ·exact .inr (.inr c)
    ·rw[dn c]at z;exact .inr (.inl z))
  (λb o c e=>E.hh b o (by rw[dn c];exact e)) I L J (λb h=>by have:=(S.pin i b h).2;rw[m]at this;cases this;rfl) (λr p z=>by cases z)
  (λj p Q P _ e=>by obtain⟨g1,g0,s0,t0,C,w,n,A,x,g4,X,U,R⟩:=S.eH j i p Q P e;rw[v]at A;cases A;rw[m]at x;cases x;exact⟨s,d,C,n,rfl,g4,D p n R X,U⟩)
 rwa [iD m]at this
noncomputable def XE:Option D->Option D
 |some (.obj _ t)=>Y t|some (.lst d)=>Y (.lst d)|some (.ins c a b)=>Y (.ins c a b)|some (.ig a b)=>Y (.ig a b)|_=>M
theorem L5(h:XE o=Y d):(∃s t,o=Y (.obj s t)/\d=t)∨(o=Y d/\vS d=Z'):=by
 unfold XE at h;split at h
 ·cases h;exact .inl ⟨_,_,rfl,rfl⟩
 ·cases h;exact .inr ⟨rfl,rfl⟩
 ·cases h;exact .inr ⟨rfl,rfl⟩
 ·cases h;exact .inr ⟨rfl,rfl⟩
 ·cases h
def W_(l:bZ):Option D->Option D
 |some (.eH r p)=>match l[r]? with|some (Y (.obj _ t))=>fJ p t|_=>M
 |_=>M
def res(a b:List Nat)(l:bZ):bZ:=l.mapIdx λi o=>if i∈a then XE o else if i∈b then W_ l o else o
theorem lb.trees(n:lb K f G H y l):∀(x:List Nat),∃T:List az,(∀b∈T,G b=M/\HF H b)/\∀i∈x,i∈f->∀s t,l[i]?=Y (Y (.obj s t))->∃v,y[i]?=Y (Y v)/\(dg K G t v∨∃S,cT K G H s t v S/\∀b∈S,b∈T)
 |[]=>⟨[],λb g=>(by cases g),λi d=>by cases d⟩
 | k::x=>by
  obtain⟨T,w,u⟩:=lb.trees n x;by_cases p:k∈f/\∃s t,l[k]?=Y (Y (.obj s t))
  ·obtain⟨p,s,t,e⟩:=p;obtain⟨v,C,B⟩:=n.get k _ e;rw[if_pos p]at B;rcases B with r|⟨a,o,rfl,N,S,A,J⟩
   ·refine⟨T,w,λi d m j h c =>?_⟩;rcases aK.mp d with z|z
    ·subst z;rw[e]at c;cases c;exact⟨v,C,.inl (qx.mp r)⟩
    ·exact u i z m j h c
   ·refine⟨S++T,λb g =>?_,λi d m j h c =>?_⟩
    ·rcases aP.mp g with q|q
     ·exact⟨J b q,A.here b q⟩
     ·exact w b q
    ·rcases aK.mp d with z|z
     ·subst z;rw[e]at c;cases c;exact⟨_,C,.inr ⟨S,A,λb g=>bt _ g⟩⟩
     ·obtain⟨v,I,F⟩:=u i z m j h c;refine⟨v,I,?_⟩;rcases F with r|⟨L,E,D⟩
      ·exact .inl r
      ·exact .inr ⟨L,E,λb g=>aW _ (D b g)⟩
  ·refine⟨T,w,λi d m j h c =>?_⟩;rcases aK.mp d with z|z
   ·subst z;exact absurd ⟨m,j,h,c⟩ p
   ·exact u i z m j h c
theorem lb.cells(C:bF G H)(env:lb K f G H y l):∀(t:List Nat),∃T:List az,(∀b∈T,G b=M/\HF H b)/\∀i∈t,i∈f->∀d,l[i]?=Y (Y d)->vS d=Z'->∃v,y[i]?=Y (Y v)/\(dg K G d v∨∃a o,v=.ref a/\a∈T/\H a=Y o/\jF K G d o)
 |[]=>⟨[],λb h=>(by cases h),λi x=>by cases x⟩
 | k::t=>by
  obtain⟨T,s,R⟩:=lb.cells C env t;have g:∀u:List az,(∀b∈T,b∈u)->(∀d,l[k]?=Y (Y d)->k∈f->vS d=Z'->∃v,y[k]?=Y (Y v)/\(dg K G d v∨∃a o,v=.ref a/\a∈u/\H a=Y o/\jF K G d o)) ->
    ∀i∈k::t,i∈f->∀d,l[i]?=Y (Y d)->vS d=Z'->∃v,y[i]?=Y (Y v)/\(dg K G d v∨∃a o,v=.ref a/\a∈u/\H a=Y o/\jF K G d o):=λu w n i x p d e m=>by
   rcases aK.mp x with z|z
   ·subst z;exact n d e p m
   ·obtain⟨v,O,N⟩:=R i z p d e m;refine⟨v,O,?_⟩;rcases N with r|⟨a,o,J,I,F⟩
    ·exact .inl r
    ·exact .inr ⟨a,o,J,w a I,F⟩
  by_cases n:k∈f/\∃d,l[k]?=Y (Y d)/\vS d=Z'
  ·obtain⟨n,d,e,m⟩:=n;obtain⟨v,B,D⟩:=env.get k _ e;rw[if_pos n]at D;rcases D with r|⟨a,o,rfl,A,P⟩
   ·exact⟨T,s,g T (λb h=>h) λE j _ _=>by rw[e]at j;cases j;exact⟨v,B,.inl r⟩⟩
   ·have c:jF K G d o:=by cases d<;>first|exact P|cases m
    cases q:G a with
    |some L=>have:=C a L q;rw[A]at this;cases this;exact⟨T,s,g T (λb h=>h) λE j _ _=>by rw[e]at j;cases j;exact⟨_,B,.inl (c.rep q)⟩⟩
    |none=>
     refine⟨a::T,λb h =>?_,g (a::T) (λb h=>av _ h) λE j _ _=>by rw[e]at j;cases j;exact⟨_,B,.inr ⟨a,o,rfl,ay,A,c⟩⟩⟩;rcases aK.mp h with z|z
     ·subst z;refine⟨q,o,A,λQ z =>?_⟩;subst z;cases d with
      |lst=>obtain⟨_,z,_⟩:=c;cases z
      |ins=>obtain⟨_,_,_,z,_⟩:=c;cases z
      |ig=>obtain⟨_,z,_⟩:=c;cases z
      |_=>cases m
     ·exact s b z
  ·exact⟨T,s,g T (λb h=>h) λd e p m=>absurd ⟨p,d,e,m⟩ n⟩
def oA(f a b c:List Nat):Bool:=(a.all λi=>f.contains i && !a.contains (DC i) && !b.contains i && !c.contains i)&&(f.all λi=>a.contains i||b.contains i||c.contains i)&&(c.all λj=>f.contains j&&f.contains (DC j) && !b.contains j)
theorem Pn{f:List Nat}(h:oA f e g k=Z'):(∀i∈e,i∈f/\DC i∉e/\i∉g/\i∉k)/\(∀i∈f,i∈e∨i∈g∨i∈k)/\(∀j∈k,j∈f/\DC j∈f/\j∉g):=by
 simp only[oA,aH,c7,List.contains_eq_mem,bT,Bool.not_eq_true',decide_eq_true_eq,decide_eq_false_iff_not]at h;exact⟨λi m=>by obtain⟨⟨⟨a,b⟩,c⟩,d⟩:=h.1.1 i m;exact⟨a,b,c,d⟩,λi m=>by rcases h.1.2 i m with (a|a)|a;exact .inl a;exact .inr (.inl a);exact .inr (.inr a),λj n=>by obtain⟨⟨a,b⟩,c⟩:=h.2 j n;exact⟨a,b,c⟩⟩
theorem lb.RG(s:bF G H)(m:lb K f G H y l)(Q:oA f C dp al=Z'):∃T:List az,(∀b∈T,G b=M/\HF H b)/\lb K C (kA G H T) H y (res dp al l):=by
 obtain⟨o1,o2,o3⟩:=Pn Q;obtain⟨T1,YT,h21⟩:=m.trees f;obtain⟨T2,h12,X⟩:=m.cells s f;generalize U:T1++T2=T;have h1:∀b∈T,G b=M/\HF H b:=λb I=>by
  rw[<- U]at I;rcases aP.mp I with z|z
  ·exact YT b z
  ·exact h12 b z
 have h2:∀i∈f,i∈f->∀s t,l[i]?=Y (Y (.obj s t))->∃v,y[i]?=Y (Y v)/\(dg K G t v∨∃S,cT K G H s t v S/\∀b∈S,b∈T):=λi x Q s t e=>by
  obtain⟨v,k,c⟩:=h21 i x Q s t e;refine⟨v,k,?_⟩;rcases c with r|⟨S,J,V⟩
  ·exact .inl r
  ·exact .inr ⟨S,J,λb I=>by rw[<- U];exact bt _ (V b I)⟩
 have n:∀b∈T,G b=none:=λb I=>(h1 b I).1
 have g:bF G (kA G H T):=pY n;have fz:∀(i:Nat) (E:Sk) (t:D),l[i]?=Y (Y (D.obj E t))->∃v,y[i]?=Y (Y v)/\dg K (kA G H T) t v:=λi E t e=>by
  by_cases x:i∈f
  ·obtain⟨v,k,c⟩:=h2 i x x E t e;refine⟨v,k,?_⟩;rcases c with r|⟨S,J,V⟩
   ·exact dg.mono g t r
   ·exact cT.frozen n V J
  ·obtain⟨v,k,c⟩:=m.get i _ e;rw[if_neg x]at c;exact⟨v,k,dg.mono g t (qx.mp c)⟩
 refine⟨T,h1,by rw[m.len];simp[res],λi d e =>?_,λj r p hj hm e=>absurd hm (o1 j hj).2.1⟩;unfold res at e;rw[List.getElem?_mapIdx]at e;rcases L:l[i]? with _|o
 ·rw[L]at e;cases e
 rw[L]at e;simp only[bI,gR]at e;by_cases R:i∈dp
 ·rw[if_pos R]at e;rcases L5 e with⟨E,t,rfl,rfl⟩|⟨rfl,hc⟩
  ·obtain⟨v,k,c⟩:=fz i E _ L;exact⟨v,k,by split;exact .inl c;exact c⟩
  ·by_cases x:i∈f
   ·obtain⟨v,k,c⟩:=X i x x d L hc;have F:dg K (kA G H T) d v:=by
     rcases c with r|⟨a,o,rfl,A,h,q4⟩
     ·exact dg.mono g d r
     ·exact(q4.mono g).rep (by rw[qz (by rw[<- U];exact aW _ A)];exact h)
    exact⟨v,k,by split;exact .inl F;exact F⟩
   ·obtain⟨v,k,c⟩:=m.get i _ L;rw[if_neg x]at c;have F:=dg.mono g d c;exact⟨v,k,by split;exact .inl F;exact F⟩
 ·rw[if_neg R]at e;by_cases O:i∈al
  ·rw[if_pos O]at e;unfold W_ at e;split at e
   ·rename_i r p;split at e
    ·rename_i E t er;obtain⟨g1,g0,s1,t1,s',v,v',g2,g3,g4,g5,g6,g7⟩:=m.eH i r p (o3 i O).1 (o3 i O).2.1 L;rw[er]at g2;cases g2;obtain⟨w,k,c⟩:=h2 r g1 g1 E t er;rw[g3]at k;cases k;have F:dg K (kA G H T) d v':=by
      rcases c with q|⟨S,J,V⟩
      ·obtain⟨u,P,f4⟩:=zF s q e;rw[g5]at P;cases P;exact dg.mono g d f4
      ·obtain⟨u,T1,U1,P,f4,f5,_⟩:=J.focus g6 e;rw[g5]at P;cases P;exact cT.frozen n (λb I=>V b (f5.symm.subset (bt _ I))) f4
     exact⟨v',g4,by split;exact .inl F;exact F⟩
    ·cases e
   ·cases e
  ·rw[if_neg O]at e;subst e;obtain⟨v,k,c⟩:=m.get i d L;refine⟨v,k,?_⟩;by_cases x:i∈C
   ·rw[if_pos x];rw[if_pos (o1 i x).1]at c;cases d with
    |obj E t=>obtain⟨u,J,V⟩:=fz i E t L;rw[k]at J;cases J;exact .inl (qx.mpr V)
    |eH r p=>
     rcases c with q|⟨a,o,rfl,_⟩
     ·exact .inl (sU.mpr (sU.mp q))
     ·exact .inl (sU.mpr ⟨a,rfl⟩)
    |lst=>rcases c with q|⟨a,o,B,A,h⟩;exact .inl (dg.mono g _ q);exact .inr ⟨a,o,B,A,jF.mono g (d :=.lst _) h⟩
    |ins=>rcases c with q|⟨a,o,B,A,h⟩;exact .inl (dg.mono g _ q);exact .inr ⟨a,o,B,A,jF.mono g (d :=.ins _ _ _) h⟩
    |ig=>rcases c with q|⟨a,o,B,A,h⟩;exact .inl (dg.mono g _ q);exact .inr ⟨a,o,B,A,jF.mono g (d :=.ig _ _) h⟩
    |_=>rcases c with q|⟨a,o,B,A,h⟩;exact .inl (dg.mono g _ q);exact h.elim
   ·rw[if_neg x];by_cases N:i∈f
    ·rcases o2 i N with z|z|z
     ·exact absurd z x
     ·exact absurd z R
     ·exact absurd z O
    ·rw[if_neg N]at c;exact dg.mono g d c
end
section
variable {X:Cx}{own O A I:List Nat}{e:Expr}{w:List Expr}{l p m:Pos}
def lx(A I:List Nat)(f:DF):DF:=λρ=>(f (res A I ρ)).bind λd=>if si d=Z' then Y d else M
theorem jL{f:DF}(O A I:List Nat)(h:PE X e (tP X.K O f))(s:oA own O A I=true:=by decide):PE X e (tP X.K own (lx A I f)):=h.imp <|by
 rintro J H Q ⟨G,ρ,d,j,n,a,k⟩;unfold lx at a;obtain⟨c,t,a⟩:=ae.1 a;split at a
 ·rename_i q;cases a;obtain⟨T,o,g⟩:=n.RG j s;refine⟨kA G H T,res A I ρ,d,n6 j,g,t,λv N L E r =>?_⟩;obtain⟨u,p⟩:=AB j (λb i=>(o b i).1) (λb i=>(o b i).2) E;exact k v _ L u (Fm p q r)
 ·cases a
def xY(A I:List Nat)(f:DT):DT:=λρ=>f (res A I ρ)
theorem wb{f:DT}(O A I:List Nat)(h:PT X e (ui X.K O f))(n:oA own O A I=true:=by decide):PT X e (ui X.K own (xY A I f)):=h.imp <|by
 rintro J H Q ⟨G,ρ,d,g,i,o,k⟩;obtain⟨T,j,a⟩:=i.RG g n;refine⟨kA G H T,res A I ρ,d,n6 g,a,o,λN L E =>?_⟩;obtain⟨p,q⟩:=AB g (λb c=>(j b c).1) (λb c=>(j b c).2) E;exact k _ L p
def UP(A I:List Nat)(f:DL):DL:=λρ=>(f (res A I ρ)).bind λd=>if qB d=Z' then Y d else M
theorem WD{f:DL}(O A I:List Nat)(h:PE X e (tF X.K O f))(i:oA own O A I=true:=by decide):PE X e (tF X.K own (UP A I f)):=h.imp <|by
 rintro J H Q ⟨G,ρ,d,p,s,a,k⟩;unfold UP at a;obtain⟨c,D,a⟩:=ae.1 a;split at a
 ·rename_i y;cases a;obtain⟨T,n,g⟩:=s.RG p i;refine⟨kA G H T,res A I ρ,d,n6 p,g,D,λq u N L E t C B r =>?_⟩;obtain⟨F,v⟩:=AB p (λb j=>(n b j).1) (λb j=>(n b j).2) E;have x:q∉T:=λz=>by obtain⟨o,i,_⟩:=(n q z).2;rw[t]at i;cases i
  exact k q u _ L F t (by rw[dn x];exact C) B (w1 v y r)
 ·cases a
noncomputable def Gb:Sk->Bool
 |.lf=>Z'|_=>Z_
theorem DQ{s:Sk}(h:Gb s=Z'):s=.lf:=by cases s<;>first|rfl|cases h
def ri(i:Nat)(c f:aG):DF:=λρ=>(eV i ρ).bind λd=>match d with
 |.obj (.fs g e) (.ins a b ds)=>if (g=c/\a=c)/\Gb (du e f)=Z' then (Bh f b).bind λn=>ds[n]? else M
 |_=>M
theorem za{i:Nat}{c f:aG}(h:PE X (.Name x p) (kr i))(j:iQ X.K c f)(hi:i∈own:=by decide)(hb:cy (.Name x p) f X.env (eval (.Name x p) X.env)=eval (.Name x p) X.env:=by rfl):PE X (.Attribute (.Name x p) f l) (tP X.K own (ri i c f)):=
 (sj h hb).imp <|by
  rintro J H Q ⟨G,ρ,d,q,y,e,k⟩;unfold ri at e;rcases z:eV i ρ with _|o
  ·rw[z]at e;cases e
  rw[z]at e;simp only[aa]at e;split at e
  ·rename_i c' fk Y4 E ds;split at e
   ·rename_i U;obtain⟨⟨rfl,rfl⟩,hl⟩:=U;rcases g:Bh f E with _|m
    ·rw[g]at e;cases e
    rw[g]at e;simp only[aa]at e;obtain⟨v,K,F⟩:=y.get i _ (jg z);rw[if_pos hi]at F;rcases F with r|⟨a,o,rfl,e3,S,e4,e5⟩
    ·obtain⟨a,C,B,w,rfl,n,ha,b,R⟩:=qy.mp (qx.mp r);obtain⟨u,eu,P⟩:=R.get e;exact⟨_,K,a,C,B,_,u,rfl,q _ _ ha,(j C n).1,(j C n).2,by rw[sY g];exact eu,k u G H (.refl q) P⟩
    ·cases e4 with
     |@ins _ _ _ _ _ C B w S n ea b t=>
      have s:(E.map (du fk))[m]?=Y .lf:=by rw[aT,vV g,<- DQ hl];rfl
      obtain⟨D,T1,U1,f1,T,_⟩:=t.at s e;cases T with
      |leaf r=>exact⟨_,K,a,C,B,_,D,rfl,ea,(j C n).1,(j C n).2,by rw[sY g];exact f1,k D G H (.refl q) r⟩
   ·cases e
  ·cases e
end
def G_(b:Bool)(j:Nat)(ρ:bZ):Option (Nat×xQ):=match b,eV j ρ with
 |false,Y (.obj _ _)=>Y (j,[])|true,Y (.eH r p)=>Y (r,p)|_,_=>M
def yQ(r:Nat)(ρ:bZ):Option (Sk×D):=match eV r ρ with|some (.obj s t)=>Y (s,t)|_=>M
theorem mS{ρ:bZ}{s:Sk}(h:yQ r ρ=Y (s,t)):ρ[r]?=Y (Y (.obj s t)):=by
 unfold yQ at h;split at h
 ·rename_i e;cases h;exact jg e
 ·cases h
section
variable {K:bb}{B:Bs}{own:List Nat}{G H N L:Hp}{J:St}{ρ:bZ}
theorem SR.G_{p:xQ}(S:SR K B own G H J ρ)(h:G_ b j ρ=Y (r,p))(d:j∈own)(u:b=Z'->DC j∈own):r∈own/\∃s t a f,ρ[r]?=Y (Y (.obj s t))/\J[r]?=Y (Y (.ref a))/\J[j]?=Y (Y f)/\gY H p (.ref a)=Y f:=by
 unfold L2.G_ at h;split at h
 ·rename_i e;cases h;have e:=jg e;obtain⟨a,T,c,_⟩:=S.tree d e;exact⟨d,_,_,a,_,e,c,c,rfl⟩
 ·rename_i e;cases h;obtain⟨k,C,q,o,y,w,n,i,g,x,v,z⟩:=S.eH j r p d (u rfl) (jg e);obtain⟨a,T,c,_⟩:=S.tree k i;rw[c]at g;cases g;exact⟨k,q,o,a,n,i,c,x,v⟩
 ·cases h
theorem Af(d:x∈T):bF (jT H T) (eN H x o):=λb u e=>by
 by_cases c:b∈T
 ·rw[nM c]at e;cases e
 ·rw[dn c]at e;have a:b≠x:=λz=>c (z ▸ d)
  rw[bz a];exact e
theorem SR.TF{p:xQ}{s:Sk}{f:aG}{h:List aG}{l:List D}{d:D}{v:V}(S:SR K B own G H J ρ)(Q:r∈own)(R:ρ[r]?=Y (Y (.obj s t)))(w:mx p s=Y (.fs c fk))(ep:fJ p t=Y (.ins c h l))(hf:Gb (du fk f)=Z')(ha:f∉GI)(rv:dg K G d v):
  ∃a x C k i,J[r]?=Y (Y (.ref a))/\gY H p (.ref a)=Y (.ref x)/\o8 K ba c=Y (Y (.ref C))/\H x=Y (.ins C k (h.zip i))/\h.length=i.length /\
   SR K B own G (eN H x (.ins C k (lN f v (h.zip i)))) J (ρ.set r (Y (.obj s (mU (.ins c (jj f d h l).1 (jj f d h l).2) p t)))):=by
 obtain⟨a,T,e1,o1,nd,P,F,W,hF⟩:=S.tree Q R;obtain⟨x,C,k,i,h1,X,h3,U,h5,h6,T',o2,u,n⟩:=o1.put (f:=f) (d:=d) (u:=v) (S1:=[]) nd w ep (bF.refl G) (λ_ _ _ e=>e) (by rw[DQ hf];exact .leaf rv) (by simp) (λb j=>by cases j);refine⟨a,x,C,k,i,e1,h1,h3,U,h6,S.RZ W hF Q R e1 ⟨Af X,bF.refl _,λb o e =>?_,λb o e =>.inl e⟩ o2 u (λb j =>?_) λq v' hq hv =>?_⟩
 ·have E:b≠x:=λz=>by rw[z,(P x X).1]at e;cases e
  rw[bz E];exact S.gh b o e
 ·rcases n b j with z|z
  ·exact⟨(P b z).1,.inl z⟩
  ·cases z
 ·refine v8 U bM (λb j o e=>by rw[bz j];exact e) (λg hg =>?_) hv;have y:g≠f:=λz=>ha (z ▸ hq g hg)
  rw[sr,if_neg y]
theorem SR.Ip{p:xQ}{s:Sk}{X:D}(S:SR K B own G H J ρ)(hr:r∈own)(hd:ρ[r]?=Y (Y (.obj s t)))(w:mx p s=Y u)(ep:fJ p t=Y X):
  ∃a x i,J[r]?=Y (Y (.ref a))/\gY H p (.ref a)=Y x/\cT K G H u X x i/\i.Nodup/\(∀b∈i,G b=M) /\
   ∀(g:D) (f:List az) (N L:Hp),gO G (jT H i) N L->cT K N L u g x f->f.Nodup->(∀b∈f,N b=M/\(b∈i∨H b=M))->SR K B own N L J ((c8 r ρ).set r (Y (.obj s (mU g p t)))):=by
 obtain⟨a,T,e1,C,nd,nf,F,W,hF⟩:=S.tree hr hd;obtain⟨x,i,U,h1,o2,v,k1⟩:=C.focus w ep;have k:=v.nodup_iff.mp nd;rw[jm]at k;obtain⟨n1,n2,n3⟩:=k;have h:∀b∈i,b∈T:=λb d=>v.symm.subset (bt _ d)
 have n:∀b∈U,b∈T:=λb d=>v.symm.subset (aW _ d)
 have R:∀b∈U,b∉i:=λb d Q=>n3 b Q b d rfl
 refine⟨a,x,i,e1,h1,o2,n1,λb d=>(nf b (h b d)).1,λg f N L E nw l j =>?_⟩;obtain⟨T',o3,p3⟩:=k1 N L g f E.gg (λb d o e=>E.hh b o (by rw[dn (R b d)];exact e)) nw;refine S.Ef W hF hr hd e1 ⟨λb o e =>?_,E.gg,E.gh,λb o e =>?_⟩ o3 ?_ λb d =>?_
 ·by_cases d:b∈T
  ·rw[nM d]at e;cases e
  ·rw[dn d]at e;exact E.hh b o (by rw[dn (λz=>d (h b z))];exact e)
 ·rcases E.fr b o e with z|z
  ·exact .inl z
  ·refine .inr ?_;by_cases d:b∈T
   ·rw[nM d]
   ·rw[dn d];rw[dn (λz=>d (h b z))]at z;exact z
 ·rw[p3.nodup_iff,jm];refine⟨l,n2,λb d c hc z =>?_⟩;subst z;rcases(j b d).2 with z|z
  ·exact R b hc z
  ·obtain⟨o,P,_⟩:=C.here b (n b hc);rw[P]at z;cases z
 ·rcases aP.mp (p3.subset d) with q|q
  ·refine⟨(j b q).1,?_⟩;rcases(j b q).2 with z|z
   ·exact .inl (h b z)
   ·exact .inr z
  ·refine⟨?_,.inl (n b q)⟩;rcases z:N b with _|o
   ·rfl
   rcases E.fr b o z with y|y
   ·rw[(nf b (n b q)).1]at y;cases y
   ·obtain⟨o,P,_⟩:=C.here b (n b q);rw[dn (R b q),P]at y;cases y
end
mutual
noncomputable def Sk.y9:Sk->Sk->Bool
 |.lf,.lf=>Z'|.li s,.li t=>Sk.y9 s t|.fs c k,.fs d l=>decide (c=d)&&Sk.Le k l|.di,.di=>Z'|_,_=>Z_
noncomputable def Sk.Le:List (aG×Sk)->List (aG×Sk)->Bool
 |[],[]=>Z'|(c,s)::k,(d,t)::l=>decide (c=d)&&(Sk.y9 s t&&Sk.Le k l)|_,_=>Z_
end
mutual
theorem Sk.qH:∀ {s t:Sk},Sk.y9 s t=Z'->s=t
 |.lf,.lf,_=>rfl|.di,.di,_=>rfl|.li s,.li t,h=>by rw[Sk.qH (s:=s) (t:=t) (by simpa only [Sk.y9] using h)]
 |.fs c k,.fs d l,h=>by simp only[Sk.y9,aH,decide_eq_true_eq]at h;rw[h.1,Sk.JD h.2]
 |.lf,.li _,h=>by simp[Sk.y9]at h
 |.lf,.fs _ _,h=>by simp[Sk.y9]at h
 |.lf,.di,h=>by simp[Sk.y9]at h
 |.li _,.lf,h=>by simp[Sk.y9]at h
 |.li _,.fs _ _,h=>by simp[Sk.y9]at h
 |.li _,.di,h=>by simp[Sk.y9]at h
 |.fs _ _,.lf,h=>by simp[Sk.y9]at h
 |.fs _ _,.li _,h=>by simp[Sk.y9]at h
 |.fs _ _,.di,h=>by simp[Sk.y9]at h
 |.di,.lf,h=>by simp[Sk.y9]at h
 |.di,.li _,h=>by simp[Sk.y9]at h
 |.di,.fs _ _,h=>by simp[Sk.y9]at h
theorem Sk.JD:∀ {k l:List (aG×Sk)},Sk.Le k l=Z'->k=l
 |[],[],_=>rfl|(c,s)::k,(d,t)::l,h=>by simp only[Sk.Le,aH,decide_eq_true_eq]at h;rw[h.1,Sk.qH h.2.1,Sk.JD h.2.2]
 |[],_::_,h=>by simp[Sk.Le]at h
 |_::_,[],h=>by simp[Sk.Le]at h
end
def yB(c:aG)(s:Sk)(t:D)(p:xQ):Option (List (aG×Sk)×List aG×List D):=match mx p s,fJ p t with
 |some (.fs f d),Y (.ins a b e)=>if f=c/\a=c then Y (d,b,e) else M
 |_,_=>M
theorem xq{s:Sk}{p:xQ}(h:yB c s t p=Y (b,a,d)):mx p s=Y (.fs c b)/\fJ p t=Y (.ins c a d):=by
 unfold yB at h;split at h
 ·rename_i i f;split at h
  ·rename_i e;obtain⟨rfl,rfl⟩:=e;cases h;exact⟨i,f⟩
  ·cases h
 ·cases h
section
variable {X:Cx}{B:Bs}{I own L:List Nat}{e o:Expr}{J:List Expr}{g A p N O:Pos}
def eI(b:Bool)(j:Nat)(c f:aG)(h:DF):DG:=λa=>(h a).bind λd=>(G_ b j a).bind λq=>(yQ q.1 a).bind λe=>(yB c e.1 e.2 q.2).bind λz=>
 if Gb (du z.1 f)=Z'/\z.2.1.length<999 then Y (.nx (a.set q.1 (Y (.obj e.1 (mU (.ins c (jj f d z.2.1 z.2.2).1 (jj f d z.2.1 z.2.2).2) q.2 e.2))))) else M
theorem gQ{b:Bool}{c f:aG}(h:PE X (.Name x p) (kr j))(he:PE X e (tP X.K own y))(w:iQ X.K c f)(hj:j∈own:=by decide)(hb:b=Z'->DC j∈own:=by decide)(ha:f∉GI:=by decide)(hs:c5 e (Y (.Attribute (.Name x p) f A)) g.line X.env=fm false:=by rfl):PS X (.Assign [.Attribute (.Name x p) f A] e g) (lq X.K B I own own (eI b j c f y)):=(Dm h he hs).imp <|by
 rintro D σ H ⟨G,q,o,S,i,k⟩;unfold eI at i;obtain⟨d,ef,i⟩:=ae.1 i;rcases l:G_ b j q with _|⟨r,T⟩
 ·simp[l]at i
 rcases n:yQ r q with _|⟨s,t⟩
 ·simp[l,n]at i
 rcases u:yB c s t T with _|⟨fk,ks,ds⟩
 ·simp[l,n,u]at i
 simp only[l,n,u,aa]at i;split at i
 ·rename_i hz;cases i;obtain⟨i1,U⟩:=xq u;refine⟨G,q,d,S.gh,S.lV,ef,λv G' H' E R =>?_⟩;have P:=S.ext E;obtain⟨hr,s',t',a,v',J,e2,e3,e4⟩:=P.G_ l hj hb;have m:=mS n;rw[m]at J;cases J;obtain⟨a',Q,C,dx,vs,K,F,z,f4,f5,f6⟩:=P.TF (f:=f) (d:=d) hr m i1 U hz.1 ha R;rw[e2]at K;cases K;rw[e4]at F;cases F;refine⟨_,e3,Q,C,dx,_,rfl,f4,(w C z).1,(w C z).2,?_,k _ G' _ f6⟩;rw[vl f5];omega
 ·cases i
def d8(b:Bool)(j:Nat)(c f:aG)(h:Int->Int->Int)(i:DF):DG:=λa=>(i a).bind λd=>(G_ b j a).bind λq=>(yQ q.1 a).bind λe=>(yB c e.1 e.2 q.2).bind λz=>match (z.2.1.zip z.2.2).lookup f,d with
 |some (.int m),.int n=>if Gb (du z.1 f)=Z'/\z.2.1.length<999 then Y (.nx (a.set q.1 (Y (.obj e.1 (mU (.ins c (jj f (.int (h m n)) z.2.1 z.2.2).1 (jj f (.int (h m n)) z.2.1 z.2.2).2) q.2 e.2))))) else M
 |_,_=>M
theorem xV{f:aG}:∀ {ks:List aG}{ds:List D}{u:D},(ks.zip ds).lookup f=Y u->∃m,Bh f ks=Y m/\ds[m]?=Y u
 |[],a,u,h=>by simp at h
 |k::ks,[],u,h=>by simp at h
 | k::ks,v::a,u,h=>by
  simp only[cC,dC]at h;cases e:(f==k) with
  |true=>rw[e]at h;cases h;exact⟨0,by simp[Bh,e],rfl⟩
  |false=>rw[e]at h;obtain⟨m,c,b⟩:=xV (ks:=ks) (ds:=a) h;exact⟨m+1,by simp[Bh,e,c],by simpa using b⟩
theorem SR.YV{K:bb}{o:bZ}{s:Sk}{f:aG}{b:List aG}{v:List D}(S:SR K B own G H k o)(Q:r∈own)(hd:o[r]?=Y (Y (.obj s t)))(J:mx q s=Y (.fs c h))(ep:fJ q t=Y (.ins c b v))(X:Gb (du h f)=Z')(R:(b.zip v).lookup f=Y d):
  ∃a x C j e u,k[r]?=Y (Y (.ref a))/\gY H q (.ref a)=Y (.ref x)/\o8 K ba c=Y (Y (.ref C))/\H x=Y (.ins C j (b.zip e))/\(b.zip e).lookup f=Y u/\dg K G d u:=by
 obtain⟨a,T,e1,P,nd,nf,F,W,hF⟩:=S.tree Q hd;obtain⟨x,T1,U,h1,g,p1,k1⟩:=P.focus J ep;cases g with
 |@ins _ _ _ _ w C j e S0 n ex l z=>
  obtain⟨m,p,e2⟩:=xV R;have i:(b.map (du h))[m]?=Y .lf:=by rw[aT,vV p,<- DQ X];rfl
  obtain⟨y,T1,U1,f1,E,_⟩:=z.at i e2;cases E with
  |leaf r=>exact⟨a,w,C,j,e,y,e1,h1,n,ex,by rw[sY p];exact f1,r⟩
theorem jW{b:Bool}{c f:aG}{op:Int->Int->Int}{o:Ez}(y:LC X o (O0 op))(h:PE X (.Name x p) (kr j))(he:PE X e (tP X.K own fe))(hc:iQ X.K c f)(hj:j∈own:=by decide)(hb:b=Z'->DC j∈own:=by decide)(ha:f∉GI:=by decide):
  PS X (.AugAssign (.Attribute (.Name x p) f A) o e g) (lq X.K B I own own (d8 b j c f op fe)):=(Kz h he y).imp <|by
 rintro D σ H ⟨G,w,o,S,i,k⟩;unfold d8 at i;obtain⟨d,ef,i⟩:=ae.1 i;rcases q:G_ b j w with _|⟨r,pt⟩
 ·simp[q]at i
 rcases u:yQ r w with _|⟨s,t⟩
 ·simp[q,u]at i
 rcases K:yB c s t pt with _|⟨fk,ks,ds⟩
 ·simp[q,u,K]at i
 simp only[q,u,K,aa]at i;split at i
 ·rename_i m n z;split at i
  ·rename_i T;cases i;obtain⟨R,Q⟩:=xq K;obtain⟨U,s',t',a,v',e1,e2,e3,e4⟩:=S.G_ q hj hb;have l:=mS u;rw[l]at e1;cases e1;obtain⟨a1,x1,P,J,vs1,u1,g1,g2,F,g4,g5,g6⟩:=S.YV U l R Q T.1 z;rw[e2]at g1;cases g1;rw[e4]at g2;cases g2;cases cg.mp g6;refine⟨_,e3,x1,P,J,_,_,rfl,g4,(hc P F).1,(hc P F).2,g5,G,w,_,S.gh,S.lV,ef,λv G' H' E r =>?_⟩;cases cg.mp r;have S':=S.ext E;obtain⟨a',x',C,dx,vs,f1,f2,f3,f4,f5,f6⟩:=S'.TF (f:=f) (d :=.int (op m n)) (v :=.int (op m n)) U l R Q T.1 ha (cg.mpr rfl);rw[e2]at f1;cases f1;rw[j4 E.hh e4]at f2;cases f2;rw[F]at f3;cases f3;refine⟨_,_,rfl,rfl,dx,_,f4,?_,k _ G' _ f6⟩;rw[vl f5];omega
  ·cases i
 ·cases i
def OK(K:bb)(own:List Nat)(s:Sk)(f:DF):TE:=λi H Q=>∃G h d,bF G H/\lb K own G H i h/\f h=Y d/\∀v a e c,gO G H e c->cT K e c s d v a->a.Nodup->(∀b∈a,e b=M/\H b=M)->Q v c
theorem T8{s:Sk}:PE X (.List [] g) (OK X.K own (.li s) (eK (.lst []))):=(e_ (own:=own) bg).imp <|by
 rintro o H Q ⟨G,f,d,j,a,l,k⟩;cases l;refine⟨G,f,[],j,a,rfl,λq p n m E i h e r =>?_⟩;rw[dz.mp r]at e;exact k (.ref q) [q] n m E (.lst e .nil) (by simp) (λb c=>by simp at c;subst c;exact⟨h,i⟩)
theorem NV:PE X (.Dict [] [] g) (OK X.K own .di (eK (.ig [] []))):=MD.imp <|by
 rintro i H Q ⟨G,j,d,e,h,f,k⟩;cases f;exact λq a=>k (.ref q) [q] G _ (gO.lay (o :=.dK []) e a) (.ig (ks:=[]) (ds:=[]) (vs:=[]) bM rfl .nil) (by simp) (λb c=>by simp at c;subst c;exact⟨e.free a,a⟩)
noncomputable def JH(c:aG)(f:DF):DF:=λb=>(f b).bind λd=>match d with|.ins a e h=>if a=c then Y (.ins a e h) else M|_=>M
theorem Qq{c:aG}{f:DF}(h:PE X e (Xd X.K own f)):PE X e (OK X.K own (.fs c []) (JH c f)):=h.imp <|by
 rintro x H Q ⟨G,l,d,t,i,a,k⟩;unfold JH at a;obtain⟨y,u,a⟩:=ae.1 a;split at a
 ·split at a
  ·rename_i m;cases a;subst m;exact⟨G,l,_,t,i,u,λq o w v E s p n r=>k (.ref q) [q] w v E (zR.mpr ⟨⟨o,n,r⟩,rfl⟩) (by simp) (λb j=>by simp at j;subst j;exact⟨p,s⟩)⟩
  ·cases a
 ·cases a
noncomputable def Qb(f:DF):DF:=λa=>(f a).map λd =>.lst [d]
theorem T7{s:Sk}{f:DF}(h:PE X e (OK X.K own s f))(x:ao (e::[]) X.env=(Z_,eval e X.env)::ao [] X.env:=by rfl):PE X (.List [e] g) (OK X.K own (.li s) (Qb f)):=(Mz (f7 h kj x)).imp <|by
 rintro F H Q ⟨G,t,d,B,m,i,k⟩;unfold Qb at i;obtain⟨y,C,i⟩:=aS.1 i;cases i;refine⟨G,t,y,B,m,C,λv r D K E n w u=>⟨by simp;exact bX (by decide) vN,λq c =>?_⟩⟩;have a:q∉r:=λz=>by obtain⟨o,p,_⟩:=n.here q z;rw[c]at p;cases p
 refine k (.ref q) (q::(r++[])) D _ (E.trans (gO.lay (o :=.lst [v]) E.gh c)) (.lst bM (.cons (n.mono (bF.refl _) λb l o e =>?_) .nil)) ?_ (λb l =>?_)
 ·have j:b≠q:=λz=>a (z ▸ l)
  rw[bz j];exact e
 ·simp[a,w]
 ·rcases aK.mp l with z|z
  ·subst z;exact⟨E.gh.free c,E.hh.free c⟩
  ·exact u b (by simpa using z)
theorem TZ{s:Sk}{f:DF}(h:PE X e (OK X.K own s f)):PE X e (tP X.K own f):=h.imp <|by
 rintro t H Q ⟨G,m,d,p,i,q,k⟩;refine⟨G,m,d,p,i,q,λv j r l E n u c=>k v (kA r l j) l ⟨E.hh,E.gg.trans (pY λb a=>(c b a).1),n6 E.gh,λb o e =>?_⟩ (n.frozen (λb a=>(c b a).1) λb a=>a)⟩;by_cases a:b∈j
 ·exact .inr (c b a).2
 ·rw[oz a]at e;exact E.fr b o e
noncomputable def Fh(i:Nat)(s:Sk)(f:DF):DG:=λa=>(f a).map λd =>.nx (a.set i (Y (.obj s d)))
theorem SR.XY{K:bb}{t:St}{m:bZ}{s:Sk}{k:List az}(S:SR K B own G H t m)(C:i∈own)(E:gO G H l n)(v:cT K l n s d (.ref a) k)(x:k.Nodup)(u:∀b∈k,l b=M/\H b=M)(c:∀a,(i,a)∉B.3)(y:Cu i∉own∨∀d,m[i]? ≠ Y (Y d)):SR K B own l n (t.set i (Y (.ref a))) (m.set i (Y (.obj s d))):=by
 obtain⟨F,W⟩:=S.ow;exact S.chg (F0:=[]) (S':=k) W C (λb f=>by cases f) E.gg E.gh (λb o e=>by rcases E.fr b o e with z|z;exact .inl z;exact .inr (.inl z)) (λb o _ e=>E.hh b o e)
  v x (λb f=>⟨(u b f).1,.inr (u b f).2⟩) (λb h=>absurd h (c b)) (λr p z=>by cases z) (λj q P g _ e=>by
   obtain⟨_,R,s0,U,X,w,T,Q,_⟩:=S.eH j i q P g e;rcases y with z|z
   ·exact absurd R z
   ·exact absurd Q (z _))
theorem Qd{i:Nat}{s:Sk}{f:DF}(C:X.N.Nodup)(u:X.N[i]?=Y x)(p:Loc X.env.scope x)(y:PE X e (OK X.K own s f))(r:i∈own:=by decide)(c:∀a,(i,a)∉B.3:=by intro a;simp_all)(t:Cu i∉own:=by decide)(b:Gb s=false:=by rfl)(q:c5 e (Y (.Name x A)) g.line X.env=fm false:=by rfl)(w:X.fn x=Z'∨X.env.scope.names.lookup x=Y .local:=by first|exact .inl rfl|exact .inr rfl|assumption):
  PS X (.Assign [.Name x A] e g) (lq X.K B I own own (Fh i s f)):=(sh C u p y q w).imp <|by
 rintro D P H ⟨G,l,o,S,h,k⟩;unfold Fh at h;obtain⟨d,F,h⟩:=aS.1 h;cases h;refine⟨G,l,d,S.gh,S.lV,F,λv Q J K E j n m =>?_⟩;obtain⟨a,_,rfl,_⟩:=j.root (λz=>by rw[z]at b;cases b);exact k _ J K (S.XY r E j n m c (.inl t))
def mu(j:Nat)(c f:aG)(l:Sk)(m:DF):DG:=λa=>(m a).bind λd=>(yQ j a).bind λh=>match h.1,h.2 with
 |.fs n i,.ins e b k=>if (n=c/\e=c)/\Sk.y9 (du i f) l=Z'/\b.length<999 then Y (.nx ((c8 j a).set j (Y (.obj (.fs c i) (.ins c (jj f d b k).1 (jj f d b k).2))))) else M
 |_,_=>M
theorem SR.O9{K:bb}{v g:Hp}{X:St}{f:aG}{n:List aG}{S1:List az}(S:SR K B own G H X ρ)(hr:r∈own)(hd:ρ[r]?=Y (Y (.obj (.fs c fk) (.ins c n U))))(E:gO G H v g)(o1:cT K v g (du fk f) d u S1)(nd1:S1.Nodup)(m:∀b∈S1,v b=M/\H b=M):
  ∃x C Q w,X[r]?=Y (Y (.ref x))/\o8 K ba c=Y (Y (.ref C))/\g x=Y (.ins C Q (n.zip w))/\n.length=w.length /\
   SR K B own v (eN g x (.ins C Q (lN f u (n.zip w)))) X ((c8 r ρ).set r (Y (.obj (.fs c fk) (.ins c (jj f d n U).1 (jj f d n U).2)))):=by
 obtain⟨a,T,e1,ot,nd,nf,F,W,hF⟩:=S.tree hr hd;have inH:∀b∈T,∃o,H b=Y o:=λb l=>by obtain⟨o,s,_⟩:=ot.here b l;exact⟨o,s⟩
 have dj:∀b∈S1,b∉T:=λb l Tt=>by obtain⟨o,s⟩:=inH b Tt;rw[(m b l).2]at s;cases s
 obtain⟨x,C,Q,w,h1,h2,h3,h4,h5,h6,T',o2,Xj,sub⟩:=ot.put (p:=[]) (f:=f) nd rfl rfl E.gg (λb _ o e=>E.hh b o e) o1 nd1 dj;cases h1;have hu:=lp (r:=r) hd (λq z=>by cases z);have S':=(S.ext E).Ki (r:=r);have Wx:=W.ext E;have W':qf K B own v g X (c8 r ρ) F:=⟨λi d P e=>Wx.it i d P (bP e).1,λi d P e=>Wx.ok i d P (bP e).1,λi j d c P hj ei ej=>Wx.ap i j d c P hj (bP ei).1 (bP ej).1⟩;have gT:∀b∈T,v b=none:=λb l=>by rw[<- hF]at l;exact((Wx.ok r _ hr hd).2 b l).1
 have R:=S'.Io (i:=r) (a:=a) (d' :=.obj (.fs c fk) (.ins c (jj f d n U).1 (jj f d n U).2)) (F0:=T) (S':=T') (G':=v) (H':=eN g a (.ins C Q (lN f u (n.zip w)))) W' hr (λb l=>⟨by rw[hF];exact l,_,hu⟩) (bF.refl _) (λb o e=>by
   have t:b≠a:=λz=>by rw[z,gT a h2]at e;cases e
   rw[bz t];exact E.gh b o e) (λb o e =>.inl e) (λb o l e=>by
   have t:b≠a:=λz=>l (z ▸ h2)
   rw[bz t];exact e) o2 Xj (λb l=>by
   rcases sub b l with z|z
   ·exact⟨gT b z,.inl z⟩
   ·refine⟨(m b z).1,.inr (.inr ⟨S.h0.free (m b z).2,λk c hk ek Jq YN =>?_⟩)⟩;obtain⟨y,f1,f2⟩:=W.it k c hk (bP ek).1;obtain⟨o,s⟩:=f2.here b YN;rw[(m b z).2]at s;cases s) (λb h=>by have:=(S.pin r b h).2;rw[e1]at this;cases this;rfl) (λr p z=>by cases z)
  (λj p _ _ _ e=>absurd rfl ((bP e).2 p))
 have R:=R.1;rw[iD e1]at R;exact⟨a,C,Q,w,e1,h3,E.hh _ _ h4,h6,R⟩
theorem sI{c f:aG}{s1:Sk}(h:PE X (.Name x p) (kr j))(P:PE X e (OK X.K own s1 q))(n:iQ X.K c f)(J:j∈own:=by decide)(K:c5 e (Y (.Attribute (.Name x p) f A)) g.line X.env=fm false:=by rfl):PS X (.Assign [.Attribute (.Name x p) f A] e g) (lq X.K B I own own (mu j c f s1 q)):=(Dm h P K).imp <|by
 rintro D σ H ⟨G,l,o,S,a,k⟩;unfold mu at a;obtain⟨d,ef,a⟩:=ae.1 a;rcases i:yQ j l with _|⟨s,t⟩
 ·simp[i]at a
 simp only[i,aa]at a;split at a
 ·rename_i c' fk Y4 ks ds;split at a
  ·rename_i F;obtain⟨⟨rfl,rfl⟩,b,z⟩:=F;cases a;have Q:=mS i;refine⟨G,l,d,S.gh,S.lV,ef,λv S1 G' H' E m y w =>?_⟩;rw[<- Sk.qH b]at m;obtain⟨u,C,dx,vs,f1,r,U,T,R⟩:=S.O9 J Q E m y w;refine⟨_,f1,u,C,dx,_,rfl,U,(n C r).1,(n C r).2,?_,k _ G' _ R⟩;rw[vl T];omega
  ·cases a
 ·cases a
end
def rE(c f:aG)(j:Nat)(A:bZ):Option (List (aG×Sk)×List aG×List D×D):=(yQ j A).bind λb=>match b.1,b.2 with
 |.fs k i,.ins a d e=>if k=c/\a=c then (Bh f d).bind λn=>(e[n]?).map λh=>(i,d,e,h) else M
 |_,_=>M
theorem n4{f:aG}{A:bZ}{e:List aG}{m:List D}{o:D}(h:rE c f j A=Y (a,e,m,o)):A[j]?=Y (Y (.obj (.fs c a) (.ins c e m)))/\mx [.fld f] (.fs c a)=Y (du a f)/\fJ [.fld f] (.ins c e m)=Y o:=by
 unfold rE at h;rcases i:yQ j A with _|⟨s,t⟩
 ·rw[i]at h;cases h
 rw[i]at h;simp only[aa]at h;split at h
 ·rename_i u q r d l;split at h
  ·rename_i p;obtain⟨rfl,rfl⟩:=p;rcases b:Bh f d with _|n
   ·simp[b]at h
   rcases k:l[n]? with _|y
   ·simp[b,k]at h
   simp only[b,k,aa,bI,gR,Prod.mk.injEq]at h;obtain⟨rfl,rfl,rfl,rfl⟩:=h;exact⟨mS i,rfl,by simp[fJ,b,k]⟩
  ·cases h
 ·cases h
abbrev zN(c f:aG)(b:List (aG×Sk))(a:List aG)(d:List D)(x:D):D :=.obj (.fs c b) (mU x [.fld f] (.ins c a d))
section
variable {K:bb}{B:Bs}{own:List Nat}{G H G' H':Hp}{J:St}{A:bZ}
theorem SR.K'{f:aG}{s:List (aG×Sk)}{e:List aG}{v:List D}(S:SR K B own G H J A)(p:r∈own)(q:A[r]?=Y (Y (.obj (.fs c s) (.ins c e v))))(t:J[r]?=Y (Y (.ref a)))(b:gY H [.fld f] (.ref a)=Y x):
  ∃C d h,o8 K ba c=Y (Y (.ref C))/\H a=Y (.ins C d h)/\h.lookup f=Y x:=by
 obtain⟨y,T,k,o,_⟩:=S.tree p q;rw[t]at k;cases k;cases o with
 |@ins _ _ _ _ _ C d m z n i l w=>
  refine⟨C,d,_,n,i,?_⟩;simp only[gY,i]at b;rcases j:(e.zip m).lookup f with _|u
  ·rw[j]at b;cases b
  rw[j]at b;simp at b;rw[b]
theorem SR.B9{p:xQ}{s:Sk}(S:SR K B own G H J A)(E:r∈own)(F:A[r]?=Y (Y (.obj s t)))(g:mx p s=Y j)(I:fJ p t=Y n):
  ∃a x f,J[r]?=Y (Y (.ref a))/\gY H p (.ref a)=Y x/\cT K G H j n x f/\f.Nodup /\
   ∀(l:az) (o:HO) (d:D) (c:List az),l∈f->cT K G (eN H l o) j d x c->c.Nodup->(∀b∈c,b∈f)->SR K B own G (eN H l o) J ((c8 r A).set r (Y (.obj s (mU d p t)))):=by
 obtain⟨a,x,f,R,P,w,C,q,k⟩:=S.Ip E F g I;refine⟨a,x,f,R,P,w,C,λl o d c v y m h=>k d c G _ ⟨Af v,bF.refl _,λb u e =>?_,λb u e =>.inl e⟩ y m λb i=>⟨q b (h b i),.inl (h b i)⟩⟩;have i:b≠l:=λz=>by rw[z,q l v]at e;cases e
 rw[bz i];exact S.gh b u e
end
section
variable {X:Cx}{B:Bs}{Q own T:List Nat}{e o:Expr}{g:List Expr}{L O p U N I:Pos}
def IQ(j:Nat)(c f:aG)(b:DF):DG:=λA=>(rE c f j A).bind λq=>(b A).bind λd=>match q.2.2.2 with
 |.lst a=>if Sk.y9 (du q.1 f) (.li .lf)=Z'/\a.length<ez then Y (.nx ((c8 j A).set j (Y (zN c f q.1 q.2.1 q.2.2.1 (.lst (a++[d])))))) else M
 |_=>M
theorem Qi{x c f:aG}(h:PE X (.Name x p) (kr j))(he:PE X e (tP X.K own fe))(hc:iQ X.K c f)(hj:j∈own:=by decide)(Ts:cy (.Name x p) f X.env (eval (.Name x p) X.env)=eval (.Name x p) X.env:=by rfl)(s:cy (.Attribute (.Name x p) f I) "append" X.env (eval (.Attribute (.Name x p) f I) X.env)=eval (.Attribute (.Name x p) f I) X.env:=by rfl) (u:((dh N (ao (e::[]) X.env)).all (λx=> !x.1)&&(jl N (d5 [] X.env)).all (λx=>x.1.isSome)
   && decide ((e::[]).length+([]:List m7).length+(if ([]:List m7).isEmpty then 0 else 1)<30))=true:=by rfl) (q:(U.endLine==N.line)=true:=by rfl) (hs:ao (e::[]) X.env=(Z_,eval e X.env)::ao [] X.env:=by rfl) (m:(dh N (ao [] X.env)).any (·.1)=false:=by rfl) (hsw:c5 (.Call (.Attribute (.Attribute (.Name x p) f I) "append" U) [e] [] N) M L.line X.env=fm false:=by rfl) :
  PS X (.Expr (.Call (.Attribute (.Attribute (.Name x p) f I) "append" U) [e] [] N) L) (lq X.K B Q own own (IQ j c f fe)):=
 (sV (FC l7 PySem.F.slot_list_append PySem.F.type_list_append p6 (sj h Ts) (f7 he kj hs) s u q hs m) hsw).imp <|by
  rintro D J H ⟨G,A,o,S,i,k⟩;unfold IQ at i;obtain⟨⟨fk,ks,ds,t1⟩,et,i⟩:=ae.1 i;rcases ef:fe A with _|d
  ·simp[ef]at i
  simp only[ef,aa]at i;split at i
  ·rename_i xs;split at i
   ·rename_i hz;cases i;obtain⟨hd,i1,i2⟩:=n4 et;rw[Sk.qH hz.1]at i1;obtain⟨a,y,T1,e1,e2,o1,nd,_⟩:=S.B9 hj hd i1 i2;obtain⟨C,dx,fs,n,f1,f2⟩:=S.K' hj hd e1 e2;cases o1 with
    |@lst _ _ l vs S0 hl tt=>
     refine⟨_,e1,a,C,dx,fs,_,rfl,f1,(hc C n).1,(hc C n).2,f2,.inl ⟨rfl,vs,.of hl⟩,G,A,d,S.gh,S.lV,ef,λv G' H' E r =>?_⟩;have S':=S.ext E;obtain⟨a',y',T1',F,w,g,R,k'⟩:=S'.B9 hj hd i1 i2;rw[e1]at F;cases F;rw[j4 E.hh e2]at w;cases w;obtain⟨x',K,g1,g2,g3,g4,T2,o2,P,t⟩:=g.app (p:=[]) (d:=d) (u:=v) (S1:=[]) R rfl rfl (bF.refl _) (λ_ _ _ z=>z) (.leaf r) (by simp) (λb hb=>by cases hb);cases g1;refine⟨l,K,v,rfl,rfl,g3,?_,k _ G' _ (k' l _ _ T2 g2 o2 P λb hb =>?_)⟩
     ·rw[<- g4];exact bu hz.2 iB
     ·rcases t b hb with z|z
      ·exact z
      ·cases z
   ·cases i
  ·cases i
noncomputable def qd(k:iY)(d:D)(a:List iY)(b:List D):List iY×List D:=if (a.any λq=>decide (q=k))=Z' then (a,wK (λq x=>if q=k then d else x) a b) else (a++[k],b++[d])
theorem J0:∀ {ks:List iY}{a:List V},ks.length=a.length->((ks.zip a).any λb=>decide (b.1=k))=ks.any λq=>decide (q=k)
 |[],a,h=>by simp
 |q::ks,[],h=>by simp at h
 |q::ks,v::a,h=>by simp only[cC,pB];rw[J0 (ks:=ks) (by simpa using h)]
theorem Jd{v:V}:∀ {ks:List iY}{a:List V},(ks.zip a).map (λb=>if b.1=k then (b.1,v) else b)=ks.zip (wK (λq x=>if q=k then v else x) ks a)
 |[],a=>by simp
 |q::ks,[]=>by simp
 | q::ks,u::a=>by
  simp only[cC,bh,wJ,Jd (ks:=ks)];by_cases h:q=k
  ·simp[h]
  ·simp[h]
theorem vB{K:bb}{G:Hp}{v:V}(r:dg K G d v):∀ {b:List iY}{e:List D}{a:List V},bx K G e a->bx K G (wK (λq x=>if q=k then d else x) b e) (wK (λq x=>if q=k then v else x) b a)
 |[],e,a,h=>by simp;exact .nil
 |q::b,[],a,h=>by rw[dz.mp h];simp;exact .nil
 | q::b,x::e,a,h=>by
  obtain⟨u,j,rfl,i,f⟩:=bJ.mp h;simp only[wJ];refine .cons ?_ (vB r f);by_cases c:q=k
  ·rw[if_pos c,if_pos c];exact r
  ·rw[if_neg c,if_neg c];exact i
theorem Qr{K:bb}{G:Hp}{k:iY}{v:V}{a:List iY}{b:List D}{f:List V}(r:dg K G d v)(j:a.length=b.length)(i:bx K G b f):∃c,xT (a.zip f) k v=(qd k d a b).1.zip c/\(qd k d a b).1.length=(qd k d a b).2.length/\bx K G (qd k d a b).2 c:=by
 have e:a.length=f.length:=by rw[j,i.length]
 unfold xT qd;rw[J0 e];by_cases h:(a.any λq=>decide (q=k))=Z'
 ·rw[if_pos h,if_pos h];exact⟨_,Jd,by simp[j],vB r i⟩
 ·rw[if_neg h,if_neg h];refine⟨f++[v],?_,by simp[j],i.append (.cons r .nil)⟩;rw[List.zip_append e];rfl
def pH(j:Nat)(c f:aG)(e:DF)(h:DM):DG:=λA=>(h A).bind λw=>(rE c f j w.2).bind λq=>(e w.2).bind λy=>(DJ y).bind λb=>match q.2.2.2 with
 |.ig a d=>if Sk.y9 (du q.1 f) .di=Z'/\a.length<ez then Y (.nx ((c8 j w.2).set j (Y (zN c f q.1 q.2.1 q.2.2.1 (.ig (qd b w.1 a d).1 (qd b w.1 a d).2))))) else M
 |_=>M
theorem Gu{c f:aG}(P:X.A.units+1<rP)(h:PE X (.Name x p) (kr j))(hi:PE X i (tP X.K own fk))(he:PE X e (tM X.K B own fe))(hc:iQ X.K c f)(R:j∈own:=by decide)(Ts:cy (.Name x p) f X.env (eval (.Name x p) X.env)=eval (.Name x p) X.env:=by rfl)(hs:c5 e (Y (.Subscript (.Attribute (.Name x p) f I) i O)) L.line X.env=fm false:=by rfl):
  PS X (.Assign [.Subscript (.Attribute (.Name x p) f I) i O] e L) (lq X.K B Q own own (pH j c f fk fe)):=(Pd P (sj h Ts) hi he hs).imp <|by
 rintro D J H ⟨G,A,o,S,b,k⟩;unfold pH at b;obtain⟨⟨d,l⟩,ef,b⟩:=ae.1 b;obtain⟨⟨fk',ks0,ds0,t1⟩,et,b⟩:=ae.1 b;rcases w:fk l with _|y
 ·simp[w]at b
 rcases m:DJ y with _|ky
 ·simp[w,m]at b
 simp only[w,m,aa]at b;split at b
 ·rename_i ks ds;split at b
  ·rename_i hz;cases b;obtain⟨hd,g,i2⟩:=n4 et;rw[Sk.qH hz.1]at g;refine⟨G,A,d,l,S,ef,λv G1 H1 t s1 rv =>?_⟩;obtain⟨a,y',T1,e1,e2,o1,nd,_⟩:=t.B9 R hd g i2;obtain⟨C,dx,fs,n,f1,f2⟩:=t.K' R hd e1 e2;refine⟨_,e1,a,C,dx,fs,_,rfl,f1,(hc C n).1,(hc C n).2,f2,G1,l,y,t.gh,t.lV,w,λu G2 H2 E2 ru =>?_⟩;have P:=vO m (.inl ru:jX X.K G2 H2 y u);have S2:=t.ext E2;obtain⟨a',y2,T2,s,r,o2,K,k2⟩:=S2.B9 R hd g i2;rw[e1]at s;cases s;rw[j4 E2.hh e2]at r;cases r;obtain⟨x',vs,g1,g2,g3,g4,g5,g6⟩:=o2.dput (p:=[]) K rfl rfl (bF.refl _) (λ_ _ _ z=>z);cases g1;obtain⟨E,z1,z2,z3⟩:=Qr (k:=ky) (dg.mono E2.gg d rv) g4 g5;obtain⟨T3,o3,F,q⟩:=g6 _ _ E z2 z3;refine⟨x',_,rfl,?_,k _ G2 _ (k2 x' _ _ T3 g2 o3 F q)⟩;rw[P,<- z1];refine Od.k g3 ?_;rw[List.length_zip,g4,g5.length,QU,<- g5.length,<- g4];exact bu hz.2 iB
  ·cases b
 ·cases b
def sf(i j:Nat)(c f:aG)(b:DF):DG:=λA=>(rE c f j A).bind λq=>(b A).bind λy=>match du q.1 f,q.2.2.2,y with
 |.li (.fs _ _),.lst a,.int n=>(Cw a.length n).map λk =>.nx (A.set i (Y (.eH j [.fld f,.ix k])))
 |_,_,_=>M
theorem qK{i:Nat}{c f:aG}{b:Expr}(hN:X.N.Nodup)(hy:X.N[i]?=Y y)(hly:Loc X.env.scope y)(h:PE X (.Name x p) (kr j))(he:PE X b (tP X.K own fe))(hc:iQ X.K c f)(N:j∈own:=by decide)(hj2:Cu j∈own:=by decide)(hi:i∈own:=by decide)(hi2:Cu i∉own:=by decide)(UN:j≠i:=by decide)(s:∀a,(i,a)∉B.3:=by intro a;simp_all)(YR:f∈GI:=by decide)(Ts:cy (.Name x p) f X.env (eval (.Name x p) X.env)=eval (.Name x p) X.env:=by rfl)(hpi:Ep b:=by exact λ_ _=>rfl)(hs:c5 (.Subscript (.Attribute (.Name x p) f I) b q) (Y (.Name y O)) L.line X.env=fm false:=by rfl)(hf:X.fn y=Z'∨X.env.scope.names.lookup y=Y .local:=by first|exact .inl rfl|exact .inr rfl|assumption):
  PS X (.Assign [.Name y O] (.Subscript (.Attribute (.Name x p) f I) b q) L) (lq X.K B Q own own (sf i j c f fe)):=(sh hN hy hly (Q' Jo (sj h Ts) he hpi) hs hf).imp <|by
 rintro D J H ⟨G,A,o,S,e,k⟩;unfold sf at e;rcases et:rE c f j A with _|⟨fk,ks,ds,t1⟩
 ·rw[et]at e;cases e
 rw[et]at e;rcases ef:fe A with _|d
 ·simp[ef]at e
 simp only[ef,aa]at e;split at e
 ·rename_i c2 t xs n w;rcases R:Cw xs.length n with _|m
  ·rw[R]at e;cases e
  rw[R]at e;cases e;obtain⟨P,i1,i2⟩:=n4 et;rw[w]at i1;obtain⟨a,y',T1,e1,e2,o1,nd,_⟩:=S.B9 N P i1 i2;obtain⟨C,dx,fs,nn,f1,f2⟩:=S.K' N P e1 e2;refine⟨_,e1,a,C,dx,fs,_,rfl,f1,(hc C nn).1,(hc C nn).2,f2,G,A,_,S.gh,S.lV,ef,λv G' H' E r =>?_⟩;cases cg.mp r;have S':=S.ext E;obtain⟨a',y2,T2,K,F,o2,Xj,k2⟩:=S'.B9 N P i1 i2;rw[e1]at K;cases K;rw[j4 E.hh e2]at F;cases F;cases o2 with
  |@lst _ _ l vs S0 hl tt=>
   have hm:m<xs.length:=(DK R).2.1;obtain⟨v1,T3,U3,g1,g2,_⟩:=tt.at (n:=m) (s :=.fs c2 t) (by simp[hm]) (aU hm);obtain⟨b',o',rfl,g3,_⟩:=g2.root (λz=>by cases z);refine⟨l,vs,n,.ref b',rfl,rfl,.of hl,?_,k _ G' H' ?_⟩
   ·unfold oT;rw[<- tt.length.1,R];exact g1
   ·refine S'.RU N hj2 hi UN hi2 s P e1 (p:=[.fld f,.ix m]) (s' :=.fs c2 t) ?_ ?_ (λg hg =>?_)
    ·have:=j4 E.hh e2;simp only[gY]at this ⊢;rcases ea:H' a with _|ob
     ·rw[ea]at this;cases this
     rw[ea]at this;cases ob<;>simp only at this ⊢<;>try (cases this;done)
     rename_i Rl;rcases el:Rl.lookup f with _|u
     ·rw[el]at this;cases this
     rw[el]at this;simp at this;subst this;simp only[aa,gY,hl,g1]
    ·show (mx [.fld f,.ix m] (.fs c fk))=_;simp only[mx,w]
    ·simp[BP]at hg;subst hg;exact YR
 ·cases e
end
section
variable {K:bb}{B:Bs}{own:List Nat}{G H G' H':Hp}{m:St}{g:bZ}
theorem jt{i:Nat}{g:bZ}(h:(g.set j M)[i]?=Y (Y d)):j≠i/\g[i]?=Y (Y d):=by
 by_cases e:j=i
 ·subst e;by_cases a:j<g.length
  ·rw[b9 a]at h;cases h
  ·rw[kH (by simpa using a)]at h;cases h
 ·rw[aw e]at h;exact⟨e,h⟩
theorem SR.blank(S:SR K B own G H m g)(q:g[j]?=Y (Y d))(u:vS d=Z'):SR K B own G H m (g.set j M):=by
 refine⟨S.gh,S.g0,S.h0,S.fr,λi c a e=>S.env i c a (jt e).2,?_,by simp[S.len],S.pin,λi r p y x e =>?_⟩
 ·obtain⟨F,W⟩:=S.ow;exact⟨F,λi d a e=>W.it i d a (jt e).2,λi d a e=>W.ok i d a (jt e).2,λi j d c a o Q P=>W.ap i j d c a o (jt Q).2 (jt P).2⟩
 ·obtain⟨s,O,n,k,l,w,h,f,C⟩:=S.eH i r p y x (jt e).2;have b:j≠r:=λz=>by subst z;rw[q]at f;cases f;cases u
  exact⟨s,O,n,k,l,w,h,by rw[aw b];exact f,C⟩
theorem SR.SJ{f:aG}{X s:List D}(S:SR K B own G H m g)(hr:r∈own)(P:j∈own)(Yv:r≠j)(hd:g[r]?=Y (Y (.obj (.fs c Q) (.ins c O U))))(E:mx [.fld f] (.fs c Q)=Y (.li (.fs n [])))(ep:fJ [.fld f] (.ins c O U)=Y (.lst X))(h2:g[j]?=Y (Y (.ins n x s))):
  ∃a l y w,m[r]?=Y (Y (.ref a))/\gY H [.fld f] (.ref a)=Y (.ref l)/\m[j]?=Y (Y (.ref y))/\H l=Y (.lst w)/\X.length=w.length/\SR K B own G (eN H l (.lst (w++[.ref y]))) m (((c8 r g).set j M).set r (Y (zN c f Q O U (.lst (X++[.ins n x s]))))):=by
 obtain⟨a,T,e1,o1,nd,nf,F,W,hF⟩:=S.tree hr hd;obtain⟨y,e2,oc⟩:=W.it j _ P h2;obtain⟨⟨ob,oh,cell⟩,fj⟩:=(nS.cell (d :=.ins n x s) rfl).mp oc;obtain⟨_,fjn⟩:=W.ok j _ P h2;have yF:y∈F j:=by rw[fj];simp
 have yT:y∉T:=λz=>by rw[<- hF]at z;exact W.ap r j _ _ hr P hd h2 Yv y z yF
 have ou:cT K G H (.fs n []) (.ins n x s) (.ref y) [y]:=zR.mpr ⟨⟨ob,oh,cell⟩,rfl⟩;obtain⟨l,w,g1,g2,g3,g4,T',o2,Xj,sub⟩:=o1.app (p:=[.fld f]) (d :=.ins n x s) (u :=.ref y) (S1:=[y]) nd E ep (bF.refl G) (λ_ _ _ z=>z) ou (by simp) (λb u=>by simp at u;subst u;exact yT);refine⟨a,l,y,w,e1,g1,e2,g3,g4,?_⟩;have hu:=lp (r:=r) hd (λq z=>by cases z);have Wb:=lp (r:=r) h2 (λq z=>by cases z);have S0:=(S.Ki (r:=r)).blank Wb rfl;have hr0:((c8 r g).set j M)[r]?=Y (Y (.obj (.fs c Q) (.ins c O U))):=by rw[aw (cL Yv)];exact hu
 have W0:qf K B own G H m ((c8 r g).set j M) F:=⟨λi d hi e=>W.it i d hi (bP (jt e).2).1,λi d hi e=>W.ok i d hi (bP (jt e).2).1,λi j d c hi P ei ej=>W.ap i j d c hi P (bP (jt ei).2).1 (bP (jt ej).2).1⟩;have R:=(S0.Io (i:=r) (a:=a) (d':=zN c f Q O U (.lst (X++[D.ins n x s]))) (F0:=T) (S':=T') (G':=G) (H':=eN H l (.lst (w++[V.ref y]))) W0 hr (λb u=>⟨by rw[hF];exact u,_,hr0⟩) (bF.refl _) (λb o e=>by
   have C:b≠l:=λz=>by rw[z,(nf l g2).1]at e;cases e
   rw[bz C];exact S.gh b o e) (λb o e =>.inl e) (λb o u e=>by
   have C:b≠l:=λz=>u (z ▸ g2)
   rw[bz C];exact e) (show nS K G (eN H l (.lst (w++[V.ref y]))) (zN c f Q O U (.lst (X++[D.ins n x s]))) a T' from o2) Xj (λb u=>by
   rcases sub b u with z|z
   ·exact⟨(nf b z).1,.inl z⟩
   ·simp at z;subst z;refine⟨(fjn b yF).1,.inr (.inr ⟨(fjn b yF).2,λk c hk ek Jq YN =>?_⟩)⟩;obtain⟨Xo,ek⟩:=jt ek;exact W.ap j k _ c P hk h2 (bP ek).1 Xo b yF YN) (λb h=>by have:=(S.pin r b h).2;rw[e1]at this;cases this;rfl) (λr p z=>by cases z)
  (λj' p _ _ _ e=>absurd rfl ((bP (jt e).2).2 p))).1
 rwa [iD e1]at R
theorem SR.PJ{f:aG}(S:SR K B own G H m g)(hr:r∈own)(hj:j∈own)(Yv:r≠j)(hd:g[r]?=Y (Y (.obj (.fs c fk) (.ins c ks ds))))(E:mx [.fld f] (.fs c fk)=Y (.li (.fs c2 [])))(ep:fJ [.fld f] (.ins c ks ds)=Y (.lst (xs++[.ins c2 k2 d2])))(U:∀a,(j,a)∉B.3)(hm:Cu j∉own):
  ∃a l y P,m[r]?=Y (Y (.ref a))/\gY H [.fld f] (.ref a)=Y (.ref l)/\H l=Y (.lst (P++[.ref y]))/\SR K B own G (eN H l (.lst P)) (m.set j (Y (.ref y))) (((c8 r g).set r (Y (zN c f fk ks ds (.lst xs)))).set j (Y (.ins c2 k2 d2))):=by
 obtain⟨a,T,e1,o1,nd,nf,F,W,hF⟩:=S.tree hr hd;obtain⟨l,P,u,g1,g2,g3,g4,T',S1,o2,o3,pm⟩:=o1.X' (p:=[.fld f]) nd E ep;have hu:=lp (r:=r) hd (λq z=>by cases z);have W0:qf K B own G H m (c8 r g) F:=⟨λi d X e=>W.it i d X (bP e).1,λi d X e=>W.ok i d X (bP e).1,λi j d c X hj ei ej=>W.ap i j d c X hj (bP ei).1 (bP ej).1⟩;have Q:=pm.nodup_iff.mpr nd;rw[jm]at Q;obtain⟨n1,n2,n3⟩:=Q;have T'T:∀b∈T',b∈T:=λb n=>pm.subset (bt _ n)
 have O:∀b∈S1,b∈T:=λb n=>pm.subset (aW _ n)
 have R:=(S.Ki (r:=r)).Io (i:=r) (a:=a) (d':=zN c f fk ks ds (.lst xs)) (F0:=T) (S':=T') (G':=G) (H':=eN H l (.lst P)) W0 hr (λb n=>⟨by rw[hF];exact n,_,hu⟩) (bF.refl _) (λb o e=>by
   have s:b≠l:=λz=>by rw[z,(nf l g2).1]at e;cases e
   rw[bz s];exact S.gh b o e) (λb o e =>.inl e) (λb o n e=>by
   have s:b≠l:=λz=>n (z ▸ g2)
   rw[bz s];exact e) o2 n1 (λb n=>⟨(nf b (T'T b n)).1,.inl (T'T b n)⟩) (λb h=>by have:=(S.pin r b h).2;rw[e1]at this;cases this;rfl) (λr p z=>by cases z)
  (λj' p _ _ _ e=>absurd rfl ((bP e).2 p))
 rw[iD e1]at R;obtain⟨Sr,Wr⟩:=R;obtain⟨y,ob,rfl,hy,hyS⟩:=o3.root (λz=>by cases z);obtain⟨⟨o4,oh,cell⟩,s1⟩:=zR.mp o3;subst s1;have R2:=(Sr.Io (i:=j) (a:=y) (d' :=.ins c2 k2 d2) (F0:=[]) (S':=[y]) (G':=G) (H':=eN H l (.lst P)) Wr hj (λb n=>by cases n) (bF.refl _) Sr.gh (λb o e =>.inl e) (λb o _ e=>e)
  ((nS.cell rfl).mpr ⟨⟨o4,oh,cell⟩,rfl⟩) (by simp) (λb n=>by
   have C:=n;simp at n;subst n;refine⟨(nf b (O b C)).1,.inr (.inr ⟨(nf b (O b C)).2,λk cc hk ek Jq x =>?_⟩)⟩;by_cases w:k=r
   ·subst w;simp only[if_true]at x;exact n3 b x b C rfl
   ·simp only[if_neg w]at x;rw[aw (cL w)]at ek;exact W.ap r k _ cc hr hk hd (bP ek).1 (cL w) b (by rw[hF];exact O b C) x) (λb h=>absurd h (U b)) (λr p z=>by cases z)
  (λj' p h1 h2 _ e=>by obtain⟨_,g0,_⟩:=Sr.eH j' j p h1 h2 e;exact absurd g0 hm)).1
 exact⟨a,l,y,P,e1,g1,g3,R2⟩
end
section
variable {X:Cx}{B:Bs}{J own N:List Nat}{e o:Expr}{E:List Expr}{I L p A t s v:Pos}
def zE(j i:Nat)(c f:aG):DG:=λg=>(rE c f j g).bind λq=>(eV i g).bind λd=>match q.2.2.2,d with
 |.lst a,.ins b e h=>if Sk.y9 (du q.1 f) (.li (.fs b []))=Z'/\a.length<ez then Y (.nx (((c8 j g).set i M).set j (Y (zN c f q.1 q.2.1 q.2.2.1 (.lst (a++[.ins b e h])))))) else M
 |_,_=>M
theorem NJ{i:Nat}{x c f:aG}(h:PE X (.Name x p) (kr j))(hy:PE X (.Name y v) (kr i))(U:iQ X.K c f)(R:j∈own:=by decide)(hi:i∈own:=by decide)(z:j≠i:=by decide)(F:cy (.Name x p) f X.env (eval (.Name x p) X.env)=eval (.Name x p) X.env:=by rfl)(r:cy (.Attribute (.Name x p) f s) "append" X.env (eval (.Attribute (.Name x p) f s) X.env)=eval (.Attribute (.Name x p) f s) X.env:=by rfl) (u:((dh t (ao ((.Name y v)::[]) X.env)).all (λx=> !x.1)&&(jl t (d5 [] X.env)).all (λx=>x.1.isSome)
   && decide (((.Name y v:Expr)::[]).length+([]:List m7).length+(if ([]:List m7).isEmpty then 0 else 1)<30))=true:=by rfl) (q:(A.endLine==t.line)=true:=by rfl) (Q:ao ((.Name y v)::[]) X.env=(Z_,eval (.Name y v) X.env)::ao [] X.env:=by rfl) (e:(dh t (ao [] X.env)).any (·.1)=false:=by rfl) (w:c5 (.Call (.Attribute (.Attribute (.Name x p) f s) "append" A) [.Name y v] [] t) M I.line X.env=fm false:=by rfl) :
  PS X (.Expr (.Call (.Attribute (.Attribute (.Name x p) f s) "append" A) [.Name y v] [] t) I) (lq X.K B J own own (zE j i c f)):=
 (sV (FC l7 PySem.F.slot_list_append PySem.F.type_list_append p6 (sj h F) (f7 hy kj Q) r u q Q e) w).imp <|by
  rintro D m H ⟨G,g,o,S,b,k⟩;unfold zE at b;obtain⟨⟨fk,ks,ds,t1⟩,et,b⟩:=ae.1 b;rcases K:eV i g with _|d
  ·simp[K]at b
  simp only[K,aa]at b;split at b
  ·rename_i xs c2 k2 d2;split at b
   ·rename_i P;cases b;obtain⟨T,O,i2⟩:=n4 et;rw[Sk.qH P.1]at O;obtain⟨a,l,y,E,e1,e2,e3,e4,e5,S'⟩:=S.SJ R hi z T O i2 (jg K);obtain⟨C,dx,fs,n,f1,f2⟩:=S.K' R T e1 e2;refine⟨_,e1,a,C,dx,fs,_,rfl,f1,(U C n).1,(U C n).2,f2,.inl ⟨rfl,E,.of e4⟩,_,e3,l,E,_,rfl,rfl,e4,?_,k _ G _ S'⟩;rw[<- e5];exact bu P.2 iB
   ·cases b
  ·cases b
def Fj(i j:Nat)(c f:aG):DG:=λg=>(rE c f j g).bind λq=>match q.2.2.2 with
 | .lst a=>(a.getLast?).bind λd=>match d with
  |.ins b e h=>if Sk.y9 (du q.1 f) (.li (.fs b []))=Z' then Y (.nx (((c8 j g).set j (Y (zN c f q.1 q.2.1 q.2.2.1 (.lst a.dropLast)))).set i (Y (.ins b e h)))) else M
  |_=>M
 |_=>M
theorem Qe{i:Nat}{c f:aG}(hN:X.N.Nodup)(hy:X.N[i]?=Y y)(w:Loc X.env.scope y)(h:PE X (.Name x p) (kr j))(T:iQ X.K c f)(Q:j∈own:=by decide)(hi:i∈own:=by decide)(z:j≠i:=by decide)(r:∀a,(i,a)∉B.3:=by intro a;simp_all)(hm:Cu i∉own:=by decide)(F:cy (.Name x p) f X.env (eval (.Name x p) X.env)=eval (.Name x p) X.env:=by rfl)(q:cy (.Attribute (.Name x p) f s) "pop" X.env (eval (.Attribute (.Name x p) f s) X.env)=eval (.Attribute (.Name x p) f s) X.env:=by rfl)(e:(A.endLine==t.line)=true:=by rfl)(hs:c5 (.Call (.Attribute (.Attribute (.Name x p) f s) "pop" A) [] [] t) (Y (.Name y L)) I.line X.env=fm false:=by rfl)(hf:X.fn y=Z'∨X.env.scope.names.lookup y=Y .local:=by first|exact .inl rfl|exact .inr rfl|assumption):
  PS X (.Assign [.Name y L] (.Call (.Attribute (.Attribute (.Name x p) f s) "pop" A) [] [] t) I) (lq X.K B J own own (Fj i j c f)):=
 (sh hN hy w (HD l7 PySem.F.slot_list_pop PySem.F.type_list_pop MX (sj h F) q e) hs hf).imp <|by
  rintro D m H ⟨G,g,o,S,b,k⟩;unfold Fj at b;rcases K:rE c f j g with _|⟨fk,ks,ds,t1⟩
  ·rw[K]at b;cases b
  rw[K]at b;simp only[aa]at b;split at b
  ·rename_i u;rcases v:u.getLast? with _|d
   ·rw[v]at b;cases b
   rw[v]at b;simp only[aa]at b;split at b
   ·rename_i c2 k2 d2;split at b
    ·rename_i hz;cases b;obtain⟨R,P,O⟩:=n4 K;rw[Sk.qH hz]at P;have hx:u=u.dropLast++[.ins c2 k2 d2]:=by obtain⟨ys,rfl⟩:=LW.mp v;simp
     rw[hx]at O;obtain⟨a,l,y,us,e1,e2,U,S'⟩:=S.PJ Q hi z R P O r hm;obtain⟨C,dx,fs,n,f1,f2⟩:=S.K' Q R e1 e2;refine⟨_,e1,a,C,dx,fs,_,rfl,f1,(T C n).1,(T C n).2,f2,.inl ⟨rfl,_,.of U⟩,l,_,.ref y,rfl,rfl,U,by simp,?_⟩;rw[yO];exact k _ G _ S'
    ·cases b
   ·cases b
  ·cases b
end
def spT(K:bb)(s:Sk)(F:List D->Option (D×D)):Sp:=λj H Q _=>∃G t g d i a T h,bF G H/\j=.ref a::h/\cT K G H s t (.ref a) T/\T.Nodup/\(∀b∈T,G b=M)/\bx K G g h/\F (t::g)=Y (d,i) /\
 ∀v e c f,gO G (jT H T) c f->cT K c f s i (.ref a) e->e.Nodup->(∀b∈e,c b=M/\(b∈T∨H b=M))->dg K c d v->Q v f
def OP(K:bb)(s:Sk)(F:List D->Option (List D×D)):Sp:=λk H Q _=>∃G t f j i a T h,bF G H/\k=.ref a::h/\cT K G H s t (.ref a) T/\T.Nodup/\(∀b∈T,G b=M)/\bx K G f h/\F (t::f)=Y (j,i) /\
 ∀q g d c e,gO G (jT H T) c e->cT K c e s i (.ref a) d->d.Nodup->(∀b∈d,c b=M/\(b∈T∨H b=M))->c q=M->(q∈T∨H q=M)->q∉d->e q=Y (.lst g)->bx K c j g->Q (.ref q) e
def Xh(K:bb)(F:List D->Option D):Sp:=λe H Q _=>∃G c d,bF G H/\bx K G c e/\F c=Y d /\
 ∀q o b a,gO G H b a->H q=M->b q=M->a q=Y o->jF K b d o->Q (.ref q) a
def j8(s:Sk)(j:Nat)(b:bZ):Option D:=(yQ j b).bind λa=>if Sk.y9 a.1 s=Z' then Y a.2 else M
theorem mi{s:Sk}(h:j8 s j a=Y t):a[j]?=Y (Y (.obj s t)):=by
 unfold j8 at h;obtain⟨⟨b,t'⟩,e,h⟩:=ae.1 h;split at h
 ·rename_i z;cases h;rw[<- Sk.qH z];exact mS e
 ·cases h
def mW(s:Sk):DO->Option (D×D)
 |.rm d a=>(j8 s 0 a).map λt=>(d,t)
 |.nx a=>(j8 s 0 a).map λt=>(.eJ,t)
 |_=>M
def Ra(s:Sk):DO->Option (List D×D)
 |.rf i a=>(j8 s 0 a).bind λt=>(gc i a).map λb=>(b,t)
 |_=>M
def Yc:DO->Option D
 |.rf i a=>(eV i a).bind λd=>if vS d=Z' then Y d else M
 |_=>M
def mV(n N:Nat)(s:Sk)(g:DG)(b:List D):Option (D×D):=match b with
 |t::a=>if a.length+1=n then (g (gX N (.obj s t::a))).bind (mW s) else M
 |[]=>M
def IT(n N:Nat)(s:Sk)(g:DG)(b:List D):Option (List D×D):=match b with
 |t::a=>if a.length+1=n then (g (gX N (.obj s t::a))).bind (Ra s) else M
 |[]=>M
def QL(n N:Nat)(g:DG)(a:List D):Option D:=if a.length=n then (g (gX N a)).bind Yc else M
section
variable {P:bj}{w:bQ}{K:bb}{O:aG->Option af}{U:cF}
theorem Cd{own:List Nat}{N:List aG}{s:Sk}{f:List D}{T:List az}(w:bF G H)(m:0∈own)(h:cT K G H s t (.ref a) T)(k:T.Nodup)(j:∀b∈T,G b=M)(r:bx K G f g)(n:∀i∈own,i=0∨f.length+1<=i):
  SR K ⟨G,jT H T,[(0,a)],x⟩ own G H (start N (.ref a::g)) (gX N.length (.obj s t::f)):=
 Cc (c :=.obj s t) (T:=T) w (λb o e=>by
  by_cases d:b∈T
  ·rw[nM d]at e;cases e
  ·rw[dn d]at e;exact e) m rfl rfl h k (λb d=>⟨j b d,nM d⟩) (λr q z=>by cases z) (λi c p e=>by
   cases i with
   |zero=>exact absurd rfl p| succ i=>exact r.get (i:=i) (by simpa using e)) (by simp[r.length]) (by simpa using n)
theorem SR.TK{p:aG->Int->Prop}{e:bZ}{m:List Nat}{s:Sk}(r:SR K ⟨G,jT H T,[(0,a)],p⟩ m d i j e)(y:j8 s 0 e=Y k):
  ∃c,cT K d i s k (.ref a) c/\c.Nodup/\(∀b∈c,d b=M/\(b∈T∨H b=M))/\∃F,qf K ⟨G,jT H T,[(0,a)],p⟩ m d i j e F/\F 0=c:=by
 obtain⟨g,f⟩:=r.pin 0 a (by simp);obtain⟨z,c,q,t,w,n,F,W,x⟩:=r.tree g (mi y);rw[f]at q;cases q;refine⟨c,t,w,λb o=>⟨(n b o).1,?_⟩,F,W,x⟩;have:=(n b o).2;by_cases h:b∈T
 ·exact .inl h
 ·exact .inr (by simpa [dn h] using this)
theorem jD.FJ{e:aG}{p:cY}{f:az}{N R:List aG}(F:jD K x e p f fd)(S:bC N R (aI p))(s:Sk){own own':List Nat}{g:DG}(hp:0∈own)(C:∀i∈own,i=0∨R.length<=i) (hb:∀(j:af) (A:cf) (outer:List Env) (s:aq) (H:Hp) (E:XK),f' k (A.deeper (rW e (aI p) s.heap.objs.size f j))->∀(B:Bs) (a:az),B.3=[(0,a)] ->
   sP (xE iW P w K O U N e (aI p) f j A outer s H E).MS (iA p) (lq K B [] own own' g)):cQ P w K O U iW (k+1) f fd R (spT K s (mV R.length N.length s g)):=by
 refine F.ok S (λvs H Q E h =>?_) (λj A outer s1 H vs Q E hr h =>?_)
 ·obtain⟨G,t,xs,d,X,a,T,us,gh,rfl,ot,nd,nf,r,b,_⟩:=h;simp only[mV]at b;split at b
  ·rename_i z;simp[<- r.length,z]
  ·cases b
 ·obtain⟨G,t,xs,d,X,a,T,us,gh,rfl,ot,nd,nf,r,b,q⟩:=h;simp only[mV]at b;split at b
  ·rename_i hn;refine⟨_,hb j A outer s1 H E hr ⟨G,jT H T,[(0,a)],λ_ _=>False⟩ a rfl,?_⟩;rcases eg:g (gX N.length (.obj s t::xs)) with _|oo
   ·rw[eg]at b;cases b
   rw[eg]at b;simp only[aa]at b;refine⟨G,_,oo,Cd gh hp ot nd nf r (by rw[hn];exact C),eg,?_⟩;cases oo with
   |rm d' m=>
    have b:(j8 s 0 m).map (λt=>(d',t))=Y (d,X):=b;rcases o:j8 s 0 m with _|y
    ·rw[o]at b;cases b
    rw[o]at b;cases b;intro v σ G' H' ⟨o',c⟩ rv;obtain⟨T',f1,f2,f3,_⟩:=c.TK o;exact q v T' G' H' c.pb f1 f2 f3 rv
   |nx m=>
    have b:(j8 s 0 m).map (λt=>(D.eJ,t))=Y (d,X):=b;rcases o:j8 s 0 m with _|y
    ·rw[o]at b;cases b
    rw[o]at b;cases b;intro σ G' H' c;obtain⟨T',f1,f2,f3,_⟩:=c.TK o;exact q _ T' G' H' c.pb f1 f2 f3 (iu.mpr rfl)
   |_=>cases b
  ·cases b
theorem jD.Yg{c:cY}{f:az}{N ps:List aG}(F:jD K x j c f fd)(S:bC N ps (aI c))(s:Sk){own own':List Nat}{g:DG}(hp:0∈own)(R:∀i∈own,i=0∨ps.length<=i) (hb:∀(o:af) (A:cf) (e:List Env) (s:aq) (H:Hp) (E:XK),f' k (A.deeper (rW j (aI c) s.heap.objs.size f o))->∀(B:Bs) (a:az),B.3=[(0,a)] ->
   sP (xE iW P w K O U N j (aI c) f o A e s H E).MS (iA c) (lq K B [] own own' g)):cQ P w K O U iW (k+1) f fd ps (OP K s (IT ps.length N.length s g)):=by
 refine F.ok S (λvs H Q E h =>?_) (λo A e s1 H vs Q E hr h =>?_)
 ·obtain⟨G,t,xs,d,t',a,T,us,gh,rfl,ot,nd,nf,r,b,_⟩:=h;simp only[IT]at b;split at b
  ·rename_i z;simp[<- r.length,z]
  ·cases b
 ·obtain⟨G,t,xs,d,t',a,T,us,gh,rfl,ot,nd,nf,r,b,q⟩:=h;simp only[IT]at b;split at b
  ·rename_i hn;refine⟨_,hb o A e s1 H E hr ⟨G,jT H T,[(0,a)],λ_ _=>False⟩ a rfl,?_⟩;rcases eg:g (gX N.length (.obj s t::xs)) with _|oo
   ·rw[eg]at b;cases b
   rw[eg]at b;simp only[aa]at b;refine⟨G,_,oo,Cd gh hp ot nd nf r (by rw[hn];exact R),eg,?_⟩;cases oo with
   |rf i p=>
    have b:((j8 s 0 p).bind λt=>(gc i p).map λds=>(ds,t))=Y (d,t'):=b;rcases X:j8 s 0 p with _|y
    ·rw[X]at b;cases b
    rw[X]at b;simp only[aa]at b;rcases C:gc i p with _|ds
    ·rw[C]at b;cases b
    rw[C]at b;cases b;intro v σ G' H' ⟨o',hi,S'⟩ hv;obtain⟨T',f1,f2,f3,F',W,hF⟩:=S'.TK X;have m:=fU C;obtain⟨D,e1,oc⟩:=W.it i _ hi m;rw[hv]at e1;cases e1;obtain⟨⟨ob,oh,ws,rfl,rr⟩,fi⟩:=(nS.cell (d :=.lst d) rfl).mp oc;obtain⟨_,oV⟩:=W.ok i _ hi m;have qi:D∈F' i:=by rw[fi];simp
    have hi0:i≠0:=λz=>by subst z;rw[mi X]at m;cases m
    refine q D ws T' G' H' S'.pb f1 f2 f3 (oV D qi).1 ?_ ?_ oh rr
    ·have:=(oV D qi).2;by_cases h:D∈T
     ·exact .inl h
     ·exact .inr (by simpa [dn h] using this)
    ·intro z;rw[<- hF]at z;exact W.ap i 0 _ _ hi (S'.pin 0 a (by simp)).1 m (mi X) hi0 D qi z
   |_=>cases b
  ·cases b
theorem jD.UJ{f:az}{c:dP}{N C:List aG}(F:jD K x j t f c)(S:bC N C (aI t)){own own':List Nat}{g:DG}(z:∀i∈own,C.length<=i) (hb:∀(m:af) (A:cf) (e:List Env) (s:aq) (H:Hp) (E:XK),f' k (A.deeper (rW j (aI t) s.heap.objs.size f m))->∀B:Bs,B.3=[] ->
   sP (xE iW P w K O U N j (aI t) f m A e s H E).MS (iA t) (lq K B [] own own' g)):cQ P w K O U iW (k+1) f c C (Xh K (QL C.length N.length g)):=by
 refine F.ok S (λX H Q E h =>?_) (λm A e s H X Q E hr h =>?_)
 ·obtain⟨G,ds,d,D,r,b,_⟩:=h;unfold QL at b;split at b
  ·rw[<- r.length];assumption
  ·cases b
 ·obtain⟨G,ds,d,D,r,b,q⟩:=h;unfold QL at b;split at b
  ·rename_i hl;refine⟨_,hb m A e s H E hr ⟨G,H,[],λ_ _=>False⟩ rfl,?_⟩;obtain⟨o,eg,b⟩:=ae.1 b;refine⟨G,_,o,zh D r (by rw[hl];exact z),eg,?_⟩;cases o with
   |rf i p=>
    have b:((eV i p).bind λd=>if vS d=Z' then Y d else M)=Y d:=b;obtain⟨y,el,b⟩:=ae.1 b;split at b
    ·rename_i hy;cases b;intro v σ G' H' ⟨o',hi,T⟩ hv;obtain⟨a,ob,R,e2,e3,e4,e5⟩:=T.MH hi (jg el) hy;rw[hv]at R;cases R;exact q a ob G' H' T.pb e5 e4 e2 e3
    ·cases b
   |_=>cases b
  ·cases b
end
section
variable {X:Cx}{B:Bs}{u own:List Nat}{e o:Expr}{I:List Expr}{J v p L l:Pos}{pl:Sem Bool}
def bU(c m:aG)(s:Sk)(F:List D->Option (D×D))(j:Nat)(g:Ka):DM:=λb=>(yQ j b).bind λd=>match d.1,d.2 with
 |.fs f _,.ins a e _=>if (f=c/\a=c)/\m∉e then (g b).bind λq=>(j8 s j q.2).bind λt=>(F (t::q.1)).map λr=>(r.1,(c8 j q.2).set j (Y (.obj s r.2))) else M
 |_,_=>M
theorem FZ{m:aG}{s:Sk}{F:List D->Option (D×D)}{f:St}(n:o8 X.K ba c=Y (Y (.ref C)))(r:j∈own)(ht:∀f H Q,UE X.K B own g f H Q->t f H Q)(h:tM X.K B own (bU c m s F j g) f H Q):E9 C m (spT X.K s F) [] E0 (kr j) t f H Q:=by
 obtain⟨G,o,d,R,S,e,q⟩:=h;unfold bU at e;rcases x:yQ j o with _|⟨s0,t0⟩
 ·rw[x]at e;cases e
 rw[x]at e;simp only[aa]at e;split at e
 ·rename_i c' fk Y4 ks ds;split at e
  ·rename_i hz;obtain⟨⟨rfl,rfl⟩,hm⟩:=hz;rcases y:g o with _|⟨p,i⟩
   ·rw[y]at e;cases e
   rw[y]at e;simp only[aa]at e;rcases I:j8 s j i with _|u
   ·rw[I]at e;cases e
   rw[I]at e;simp only[aa]at e;rcases eF:F (u::p) with _|⟨d',t'⟩
   ·rw[eF]at e;cases e
   rw[eF]at e;cases e;have hd:=mS x;obtain⟨a,T,z,ot,_⟩:=S.tree r hd;cases ot with
   |@ins _ _ _ _ _ C' dx vs S0 N ex l tt=>rw[n]at N;cases N;refine⟨_,z,a,dx,_,rfl,ex,p8 (K:=X.K) (G:=G) hm,ht _ _ _ ⟨G,o,p,i,S,y,λK G1 H1 A s1 r1 =>?_⟩⟩;show spT X.K s F (.ref a::(K++[])) H1 Q E0;rw[cM];have k:=mi I;obtain⟨a1,T1,P,f2,f3,f4,F1,W1,w⟩:=A.tree r k;rw[z]at P;cases P;exact⟨G1,u,p,d',t',a,T1,K,A.gh,rfl,f2,f3,λb hb=>(f4 b hb).1,r1,eF,λv T' G' H' E nw nd nf rv=>q v G' H' (A.Ef W1 w r k z E nw nd nf) (s1.trans E.gg) rv⟩
  ·cases e
 ·cases e
theorem n8{c m:aG}{s:Sk}{F:List D->Option (D×D)}(h:fB X.prog X.w X.K X.mg X.base c m k (spT X.K s F))(g:f' k X.A)(i:PE X (.Name y p) (kr j))(r:j∈own:=by decide) (e:eval (.Call (.Attribute (.Name y p) m L) [] [] J) X.env=(do
   let a <- eval (.Name y p) X.env
   rA L.atName
   let (f,first) <- n_ [a] (m6 a m pl)
   rO J f first (dh J (ao [] X.env)) (jl J (d5 [] X.env))):=by rfl):PE X (.Call (.Attribute (.Name y p) m L) [] [] J) (tM X.K B own (bU c m s F j kl)):=by
 obtain⟨C,f,K,E,n,t,o,x,w⟩:=h.ex;exact(zQ (pl:=pl) i t o x g w .nil pZ e).imp λb H Q q=>FZ n r (λb H Q ⟨G,A,l,d,S,z,k⟩=>by cases z;exact k _ G H S (bF.refl _) .nil) q
theorem jx{c m:aG}{s:Sk}{F:List D->Option (D×D)}{g:Ka}(h:fB X.prog X.w X.K X.mg X.base c m k (spT X.K s F))(o:f' k X.A)(r:PE X (.Name y p) (kr j))(E:PA X (e::I) (UE X.K B own g))(w:j∈own:=by decide)(a:ao (e::I) X.env=(Z_,eval e X.env)::ao I X.env:=by rfl)(b:(dh J (ao I X.env)).any (·.1)=false:=by rfl) (i:eval (.Call (.Attribute (.Name y p) m L) (e::I) [] J) X.env=(do
   let d <- eval (.Name y p) X.env
   rA L.atName
   let (f,first) <- n_ [d] (m6 d m pl)
   rO J f first (dh J (ao (e::I) X.env)) (jl J (d5 [] X.env))):=by rfl):PE X (.Call (.Attribute (.Name y p) m L) (e::I) [] J) (tM X.K B own (bU c m s F j g)):=by
 obtain⟨C,f,N,l,n,x,t,G,A⟩:=h.ex;exact(Dp (pl:=pl) r x t G o A .nil pZ E a b i).imp λK H Q q=>FZ n w (λ_ _ _ z=>z) q
def qD(c f k m:aG)(h:Sk)(F:List D->Option (D×D))(j:Nat)(g:DL):DM:=λb=>(rE c f j b).bind λz=>match z.2.2.2 with
 |.ins a d i=>if (Sk.y9 (du z.1 f) h=Z'/\a=k)/\m∉d then (g b).bind λe=>(F (.ins a d i::e)).map λr=>(r.1,(c8 j b).set j (Y (zN c f z.1 z.2.1 z.2.2.1 r.2))) else M
 |_=>M
theorem KO{f o m:aG}{e:List (aG×Sk)}{F:List D->Option (D×D)}(n:o8 X.K ba o=Y (Y (.ref C1)))(hc:iQ X.K c f)(z:j∈own)(ht:∀i H Q,Hr X.K own g i H Q->t i H Q)(h:tM X.K B own (qD c f o m (.fs o e) F j g) i H Q):E9 C1 m (spT X.K (.fs o e) F) [] E0 (Vj X.K (kr j) f) t i H Q:=by
 obtain⟨G,p,d,ρ',S,b,q⟩:=h;unfold qD at b;rcases K:rE c f j p with _|⟨fk,ks0,ds0,t0⟩
 ·rw[K]at b;cases b
 rw[K]at b;simp only[aa]at b;split at b
 ·rename_i k ks ds;split at b
  ·rename_i hz;obtain⟨⟨y,rfl⟩,hm⟩:=hz;rcases u:g p with _|r
   ·rw[u]at b;cases b
   rw[u]at b;simp only[aa]at b;rcases eF:F (.ins k ks ds::r) with _|⟨d',t'⟩
   ·rw[eF]at b;cases b
   rw[eF]at b;cases b;obtain⟨A,w,i2⟩:=n4 K;rw[Sk.qH y]at w;obtain⟨a,x,T1,N,e2,o1,_⟩:=S.Ip z A w i2;obtain⟨C,dx,fs,nn,f1,f2⟩:=S.K' z A N e2;cases o1 with
   |@ins _ _ _ _ s C' P vs S0 n' ex l tt=>rw[n]at n';cases n';refine⟨_,N,a,C,dx,fs,_,rfl,f1,(hc C nn).1,(hc C nn).2,f2,s,P,_,rfl,ex,p8 (K:=X.K) (G:=G) hm,ht _ _ _ ⟨G,p,r,S.gh,S.lV,u,λT G1 H1 R r1 =>?_⟩⟩;show spT X.K (.fs k e) F (.ref s::(T++[])) H1 Q E0;rw[cM];have S1:=S.ext R;obtain⟨a1,x1,T2,g1,g2,g3,g4,g5,g6⟩:=S1.Ip z A w i2;rw[N]at g1;cases g1;rw[j4 R.hh e2]at g2;cases g2;exact⟨G1,_,r,d',t',s,T2,T,S1.gh,rfl,g3,g4,g5,r1,eF,λv T' G' H' E nw nd nf rv=>q v G' H' (g6 t' T' G' H' E nw nd nf) (R.gg.trans E.gg) rv⟩
  ·cases b
 ·cases b
theorem Lk{c f m:aG}{fk1:List (aG×Sk)}{F:List D->Option (D×D)}(h:fB X.prog X.w X.K X.mg X.base a m k (spT X.K (.fs a fk1) F))(t:f' k X.A)(i:iQ X.K c f)(w:PE X (.Name y p) (kr j))(K:PA X (e::I) (Hr X.K own g))(A:j∈own:=by decide)(o:cy (.Name y p) f X.env (eval (.Name y p) X.env)=eval (.Name y p) X.env:=by rfl)(b:ao (e::I) X.env=(Z_,eval e X.env)::ao I X.env:=by rfl)(d:(dh J (ao I X.env)).any (·.1)=false:=by rfl) (s:eval (.Call (.Attribute (.Attribute (.Name y p) f l) m L) (e::I) [] J) X.env=(do
   let r <- eval (.Attribute (.Name y p) f l) X.env
   rA L.atName
   let (f,first) <- n_ [r] (m6 r m pl)
   rO J f first (dh J (ao (e::I) X.env)) (jl J (d5 [] X.env))):=by rfl):PE X (.Call (.Attribute (.Attribute (.Name y p) f l) m L) (e::I) [] J) (tM X.K B own (qD c f a m (.fs a fk1) F j g)):=by
 obtain⟨C,S,R,P,n,E,x,u,G⟩:=h.ex;exact(Dp (pl:=pl) (sj w o) E x u t G .nil pZ K b d s).imp λN H Q q=>KO n i A (λ_ _ _ z=>z) q
noncomputable def mB(c:aG)(F:List D->Option (D×D))(g:DL):DF:=λa=>(g a).bind λb=>(F (.ins c [] []::b)).bind λr=>match r.1 with|.eJ=>Y r.2|_=>M
theorem Ed{c:aG}{fk:List (aG×Sk)}{F:List D->Option (D×D)}{g:DL}(h:wA X.prog X.w X.K X.mg X.base c k (spT X.K (.fs c fk) F))(hr:f' (k+1) X.A)(hg:Gl X c)(ha:PA X (e::I) (Hr X.K own g))(B:(c==("__debug__" : aG))=false:=by decide)(he:ao (e::I) X.env=(Z_,eval e X.env)::ao I X.env:=by rfl)(A:(dh J (ao I X.env)).any (·.1)=false:=by rfl):PE X (.Call (.Name c p) (e::I) [] J) (OK X.K own (.fs c fk) (mB c F g)):=by
 obtain⟨C,f,fd,ps,n,hm,hk,h1,a⟩:=h.ex;refine(I_ hk h1 hr hg hm a .nil pZ ha B he A).imp λσ H Q ⟨G,ρ,d,gh,l,i,q⟩ =>?_
 unfold mB at i;obtain⟨P,eg,i⟩:=ae.1 i;obtain⟨⟨d',c'⟩,eF,i⟩:=ae.1 i;cases d'<;>simp only[aa]at i<;>try (cases i;done)
 cases i;refine⟨G,ρ,P,gh,l,eg,λR N r w r1 x s m j ne =>?_⟩;show spT X.K (.fs c fk) F (.ref x::(R++[])) _ _ E0;rw[cM];have K:N x=none:=w.gh.free m;have s2:bF N (eN (eN r s (.own x)) x (.ins C s [])):=w.gh.trans ((bF.alloc j).trans (.alloc (by rw[bz (cL ne)];exact m)));refine⟨N,.ins c [] [],P,.eJ,_,x,[x],R,s2,rfl,.ins (ks:=[]) (vs:=[]) (S:=[]) n bM rfl .nil,by simp,(λb a=>by simp at a;subst a;exact K),r1,eF,λv T' G2 H2 t nw nd T rv=>⟨iu.mp rv,?_⟩⟩;have S:∀b o,r b=Y o->jT (eN (eN r s (.own x)) x (.ins C s [])) [x] b=Y o:=λb o e=>by have a:b≠x:=bW e m;rw[dn (by simpa using a),bz a,bz (bW e j)];exact e
 refine q (.ref x) T' G2 H2 (w.trans ⟨λb o e=>t.hh b o (S b o e),t.gg,t.gh,λb o e =>?_⟩) nw nd λb a=>⟨(T b a).1,?_⟩
 ·rcases t.fr b o e with z|z
  ·exact .inl z
  ·refine .inr ?_;rcases y:r b with _|u
   ·rfl
   rw[S b u y]at z;cases z
 ·refine w.hh.free ?_;rcases(T b a).2 with z|z
  ·simp at z;subst z;exact m
  ·rcases y:r b with _|u
   ·rfl
   have E:b≠x:=bW y m;rw[bz E,bz (bW y j),y]at z;cases z
theorem NU{F:List D->Option D}(h:m4 X.prog X.w X.K X.mg X.base x k (Xh X.K F))(e:f' k X.A)(j:Gl X x)(b:(x==("__debug__" : aG))=false:=by decide):PE X (.Call (.Name x p) [] [] J) (Xd X.K own (λ_=>F [])):=by
 obtain⟨f,l,K,c,g,i,m⟩:=h.ex;exact(MG c e j g i m .nil pZ b).imp λB H Q ⟨G,C,d,t,y,w,q⟩=>⟨G,[],d,t,.nil,w,λa o A z E c s n r=>q a o A z E c s n r⟩
end
def yz(l:bZ)(u:BZ)(w:DM)(i0:Nat)(s:Sk):List D->D->Option (List D×D)
 |[],t=>Y ([],t)|d::b,t=>(u d (l.set i0 (Y (.obj s t)))).bind λρ1=>(w ρ1).bind λp=>(j8 s i0 p.2).bind λa=>(yz l u w i0 s b a).map λq=>(p.1::q.1,q.2)
def tX(f:DL)(src:List (Option Nat))(u:BZ)(w:DM)(i0 j0:Nat)(s:Sk):DM:=λl=>(f l).bind λa=>if a.length<=ez then (j8 s j0 l).bind λt=>(yz (kZ src (c8 j0 l)) u w i0 s a t).map λq=>(.lst q.1,(c8 j0 l).set j0 (Y (.obj s q.2))) else M
section
variable {K:bb}{B:Bs}{own:List Nat}{src:List (Option Nat)}{G H:Hp}{n:St}{l:bZ}
theorem SR.Tc{fl:aG->Int->Prop}{i0 j0:Nat}{s:Sk}{T:List az}(S:SR K B own G H n (l.set j0 (Y (.obj s t))))(C:k8 own [i0] src=Z')(x:src[i0]?=Y (Y j0))(y:n[j0]?=Y (Y (.ref a)))(u:cT K G H s t (.ref a) T)(P:T.Nodup)(N:∀b∈T,G b=M):
  SR K ⟨G,jT H T,[(i0,a)],fl⟩ [i0] G H (om src n) ((kZ src l).set i0 (Y (.obj s t))):=by
 have q:j0∈own:=(k7 C x).mp (by simp);refine⟨S.gh,bF.refl _,λb o e =>?_,λb o e =>.inl e,λi d g e =>?_,⟨λ_=>T,λi d g e =>?_,λi d g e=>⟨P,λb m=>⟨N b m,nM m⟩⟩,λi j d c g k _ _ f =>?_⟩,by simp[om,kZ],λi b h =>?_,λj r p R Q e =>?_⟩
 ·have e:jT H T b=Y o:=e;by_cases m:b∈T
  ·rw[nM m]at e;cases e
  ·rw[dn m]at e;exact e
 ·rcases hI e with⟨rfl,_,_⟩|⟨f,e⟩
  ·exact absurd (by simp) g
  ·obtain⟨j,F,ej⟩:=E' e;have k:j∉own:=λz=>g ((k7 C F).mpr z)
   have:j0≠j:=λz=>k (z ▸ q)
   obtain⟨v,f1,X⟩:=S.env j d k (by rw[aw this];exact ej);exact⟨v,pU F f1,X⟩
 ·have z:i=i0:=by simpa using g
  subst z;rcases hI e with⟨_,rfl,_⟩|⟨f,_⟩
  ·exact⟨a,pU x y,u⟩
  ·exact absurd rfl f
 ·simp at g k;exact absurd (g.trans k.symm) f
 ·have z:(i,b)=(i0,a):=by simpa using h
  cases z;exact⟨by simp,pU x y⟩
 ·have q1:j=i0:=by simpa using R
  have J:DC j=i0:=by simpa using Q
  unfold DC at J;omega
end
theorem Kh{s:Sk}{l:bZ}:c8 j ((c8 j l).set j (Y (.obj s t)))=(c8 j l).set j (Y (.obj s t)):=by
 apply ED;intro i;unfold c8;rw[aT];by_cases h:j=i
 ·subst h;by_cases b:j<l.length
  ·rw[b9 (by simpa using b)];rfl
  ·rw[kH (by simpa using b)];rfl
 ·rw[aw h,aT];rcases e:l[i]? with _|o
  ·rfl
  cases o with
  |none=>rfl|some d=>
   cases d with
   |eH r p=>
    simp only[bI];by_cases a:r=j
    ·simp[a]
    ·simp[a]
   |_=>rfl
section
variable {X:Cx}{B:Bs}{own O:List Nat}{N:List aG}{src:List (Option Nat)}{A:Scope}{E I L:Expr}{f:DL}{u:BZ}{w:DM}{g:TG}{U:Pos}{i0 j0:Nat}{s:Sk}
theorem Jk{K:bb}{n:St}{H:Hp}(ho:k8 own [i0] src=Z')(h0:src[i0]?=Y (Y j0))(hg:∀(B:Bs) v n H Q,Ko K B [i0] u v n H Q->g v n H Q)(q:tM K B own (tX f src u w i0 j0 s) n H Q):
  RN (E8 K own f) src g (ui K [i0] iC) (UD K i0 w) n H Q:=by
 obtain⟨G,l,d,ρ',S,j,k⟩:=q;have X:j0∈own:=(k7 ho h0).mp (by simp);unfold tX at j;rcases ef:f l with _|C
 ·rw[ef]at j;cases j
 rw[ef]at j;simp only[aa]at j;split at j
 ·rename_i hz;rcases el:j8 s j0 l with _|t0
  ·rw[el]at j;cases j
  rw[el]at j;simp only[aa]at j;rcases em:yz (kZ src (c8 j0 l)) u w i0 s C t0 with _|⟨rs,tF⟩
  ·rw[em]at j;cases j
  rw[em]at j;cases j;have Xp:=mi el;have ZQ:=lp (r:=j0) Xp (λq z=>by cases z);have YF:j0<(c8 j0 l).length:=(aj.mp ZQ).1;obtain⟨a,T0,e2,_⟩:=S.tree X Xp;refine⟨G,l,C,S.gh,S.lV,ef,λJ G1 H1 E1 ok =>?_⟩;have S1:=(S.ext E1).Ki (r:=j0);rw[<- A_ ZQ]at S1;refine⟨λi m ys H2=>m=C.length-i/\i<=C.length/\ys.length<=i/\∃G2 o t r,SR K B own G2 H2 n ((c8 j0 l).set j0 (Y (.obj s t)))/\bF G1 G2/\bx K G2 o ys/\yz (kZ src (c8 j0 l)) u w i0 s (C.drop i) t=Y (r,tF)/\o++r=rs,
   ⟨C.length,rfl,fc _,aM _,G1,[],t0,rs,S1,bF.refl _,.nil,em,rfl⟩,?_⟩
  rintro i m ys H2 ⟨rfl,YG,ZM,G2,o,t,r,S2,s2,rx,c,rfl⟩;have sub:bF G1 H2:=s2.trans S2.gh;by_cases N:i<C.length
  ·refine .inr ⟨ok.go i H2 sub N,?_,λR H'=>R.length<=i+1/\∃G3 P t' F,SR K B own G3 H' n ((c8 j0 l).set j0 (Y (.obj s t')))/\bF G1 G3/\bx K G3 P R/\yz (kZ src (c8 j0 l)) u w i0 s (C.drop (i+1)) t'=Y (F,tF)/\P++F=o++r,
    λR H' z=>⟨C.length-(i+1),by omega,rfl,N,z⟩,λx H3 y =>?_⟩
   ·have:=iB;omega
   ·obtain⟨G3,E3,Uq⟩:=ok.Q1 i H2 x H3 G2 C[i] s2 S2.gh y (aU N);have S3:=S2.ext E3;rw[iZ N]at c;unfold yz at c;rcases et:u C[i] ((kZ src (c8 j0 l)).set i0 (Y (.obj s t))) with _|A
    ·rw[et]at c;cases c
    rw[et]at c;simp only[aa]at c;rcases ee:w A with _|⟨x4,ρ5⟩
    ·rw[ee]at c;cases c
    rw[ee]at c;simp only[aa]at c;rcases YX:j8 s i0 ρ5 with _|t4
    ·rw[YX]at c;cases c
    rw[YX]at c;simp only[aa]at c;rcases YW:yz (kZ src (c8 j0 l)) u w i0 s (C.drop (i+1)) t4 with _|⟨T,tE⟩
    ·rw[YW]at c;cases c
    rw[YW]at c;cases c;have Z2:((c8 j0 l).set j0 (Y (D.obj s t)))[j0]?=Y (Y (.obj s t)):=by rw[b9 YF]
    obtain⟨a3,T3,f1,ot,nd,nf,F3,W3,hF3⟩:=S3.tree X Z2;rw[e2]at f1;cases f1;have SI:=S3.Tc (fl:=λ_ _=>False) ho h0 e2 ot nd λb hb=>(nf b hb).1
    refine hg ⟨G3,jT H3 T3,[(i0,a)],λ_ _=>False⟩ _ _ _ _ ⟨G3,_,C[i],A,SI,Uq,et,λσ4 G4 H4 S4=>⟨G4,A,Z',S4.gh,S4.lV,rfl,λG5 H5 E5=>BM ?_⟩⟩;refine⟨⟨G3,jT H3 T3,[(i0,a)],λ_ _=>False⟩,a,rfl,G5,A,x4,ρ5,S4.ext E5,ee,λv G6 H6 S6 s6 r6=>⟨by simp;omega,G6,o++[x4],t4,T,?_,?_,?_,YW,by simp⟩⟩
    ·obtain⟨Tn,hσ⟩:=S6.pin i0 a (by simp);obtain⟨a6,T6,g1,g2,g3,g4,_⟩:=S6.tree Tn (mi YX);rw[hσ]at g1;cases g1;have:=S3.Ef (t':=t4) W3 hF3 X Z2 e2 S6.pb g2 g3 (λb hb=>⟨(g4 b hb).1,by
      have:=(g4 b hb).2;by_cases h:b∈T3
      ·exact .inl h
      ·exact .inr (by simpa [dn h] using this)⟩)
     rw[Kh,List.set_set]at this;exact this
    ·exact s2.trans (E3.gg.trans S6.g0)
    ·exact(bx.mono (E3.gg.trans S6.g0) o rx).append (.cons r6 .nil)
  ·have e:i=C.length:=by omega
   subst e;rw[vg]at c;unfold yz at c;cases c;refine .inl ⟨ok.stop _ H2 sub (aM _),λp hp =>?_⟩;have EA:=gO.alloc (p:=p) (o :=.lst ys) S2.gh hp;refine k _ _ _ (S2.ext EA) (E1.gg.trans (s2.trans EA.gg)) ?_;rw[cM];exact dJ.mpr ⟨p,ys,rfl,bM,bx.mono EA.gg o rx⟩
 ·cases j
theorem Ii(S:gM X N src A)(j:X.calm=Z')(e:PI X E I (E8 X.K own f))(o:QH O g)(a:∀i∈O,src[i]?=Y M)(h:∀(B:Bs) v n H Q,Ko X.K B [i0] u v n H Q->g v n H Q)(k:∀C s H b,PG (X.wq N A C s H b) E g/\Iy (X.wq N A C s H b) [] (ui X.K [i0] iC)/\PE (X.wq N A C s H b) L (UD X.K i0 w))(m:src[i0]?=Y (Y j0):=by rfl)(d:k8 own [i0] src=true:=by decide)(c:∀x,dM I X.env x=fm x:=by intro _;rfl):PE X (.ListComp L [⟨E,I,[],0⟩] A U) (tM X.K B own (tX f src u w i0 j0 s)):=
 (MB S j e o a k c).imp λn H Q q=>Jk d m h q
theorem Ih{i:Nat}{a:Pos}(S:gM X N src A)(V:X.calm=Z')(R:X.N.Nodup)(t:X.N[i]?=Y y)(F:X.env.scope.names.lookup y=Y .local)(J:PI X E I (E8 X.K own f))(ag:QH O g)(h:∀i∈O,src[i]?=Y M)(K:∀(B:Bs) v n H Q,Ko X.K B [i0] u v n H Q->g v n H Q)(P:∀C s H m,PG (X.wq N A C s H m) E g/\Iy (X.wq N A C s H m) [] (ui X.K [i0] iC)/\PE (X.wq N A C s H m) L (UD X.K i0 w))(T:src[i0]?=Y (Y j0):=by rfl)(D:k8 own [i0] src=true:=by decide)(j:i∉own:=by decide)(e:c5 (.ListComp L [⟨E,I,[],0⟩] A U) (Y (.Name y p)) a.line X.env=fm true:=by rfl)(z:∀x,dM I X.env x=fm x:=by intro _;rfl):PS X (.Assign [.Name y p] (.ListComp L [⟨E,I,[],0⟩] A U) a) (lq X.K B q own own (lu i (tX f src u w i0 j0 s))):=
 (Fy S V R t F J ag h P e z).imp λD' n H ⟨G,l,o,S,b,k⟩=>Jk D T K (by unfold lu at b;obtain⟨⟨d,c⟩,ef,b⟩:=aS.1 b;cases b;exact⟨G,l,d,c,S,ef,λv G' H' S' _ r=>k _ G' H' (S'.zp j r)⟩)
end
abbrev TupAt(h:cF)(T:az)(a:Array af):Prop:=h.get? T=Y { cls :=.type "tuple",data :=.seq a }
structure ZN(h:cF)(z TI TO:az)(n:Nat)(it l:Nat->az)(xs:Nat->Array af)(pl:Nat->Nat)(f0:af)(out:Array af):Prop where
 zz:IsZip h z TI TO f0
 ti:TupAt h TI ((cI n).map λj=>cP (it j)).toArray
 to:TupAt h TO out
 sz:out.size=n
 iter:∀j,j<n->h.IsListIter (it j) (l j) (pl j)
 lst:∀j,j<n->h.IsList (l j) (xs j)
structure ZA(z TI TO:az)(n:Nat)(it l:Nat->az):Prop where
 tiz:TI≠z
 Zv:TO≠z
 XG:TI≠TO
 iz:∀j,j<n->it j≠z/\it j≠TI/\it j≠TO
 ii:∀j k,j<n->k<n->j≠k->it j≠it k
 lz:∀j,j<n->l j≠z/\l j≠TO/\∀k,k<n->l j≠it k
section
variable {h g:cF}{z i f:az}{n:Nat}{d l:Nat->az}{p:Nat->Array af}{t:Nat->Nat}{u:af}{r:Array af}
theorem ZN.adv(N:ZN h z i f n d l p t u r)(A:ZA z i f n d l)(c:k<n)(m:g.IsListIter (d k) (l k) (t k+1))(b:lh (d k) h g):ZN g z i f n d l p (λj=>if j=k then t j+1 else t j) u r:=by
 obtain⟨s,q,o⟩:=A.iz k c;refine⟨b.extBut _ _ (cL s) N.zz,b.extBut _ _ (cL q) N.ti,b.extBut _ _ (cL o) N.to,N.sz,λj a =>?_,λj a =>?_⟩
 ·by_cases e:j=k
  ·subst e;simpa using m
  ·simp only[if_neg e];exact(N.iter j a).extBut b.extBut (A.ii j k a c e)
 ·exact(N.lst j a).extBut b.extBut ((A.lz j a).2.2 k c)
theorem ZN.OU{a:Array af}(N:ZN h z i f n d l p t u r)(A:ZA z i f n d l)(k:TupAt g f a)(e:a.size=n)(c:lh f h g):ZN g z i f n d l p t u a:=
 ⟨c.extBut _ _ (cL A.Zv) N.zz,c.extBut _ _ A.XG N.ti,k,e,λj b=>(N.iter j b).extBut c.extBut (A.iz j b).2.2,λj b=>(N.lst j b).extBut c.extBut (A.lz j b).2.1⟩
theorem ZN.OT(N:ZN h z i f n d l p t u r)(A:ZA z i f n d l)(e:IsZip g z i f c)(b:lh z h g):ZN g z i f n d l p t c r:=
 ⟨e,b.extBut _ _ A.tiz N.ti,b.extBut _ _ A.Zv N.to,N.sz,λj a=>(N.iter j a).extBut b.extBut (A.iz j a).1,λj a=>(N.lst j a).extBut b.extBut (A.lz j a).1⟩
end
def GK(z f:az)(n:Nat)(d:Nat->az)(h g:cF):Prop:=∀c o,c≠z->c≠f->(∀j,j<n->c≠d j)->h.get? c=Y o->g.get? c=Y o
section
variable {B:bj}{w:bQ}{A:cf}{E:af->aq->Prop}{s:aq}
variable {z i f:az}{n:Nat}{d l:Nat->az}{p:Nat->Array af}{m:Nat}
theorem Cn{a:List af}(h:a=(cI n).map λj=>cP (d j))(c:k<n):(a.zipIdx).drop k=(cP (d k),k)::(a.zipIdx).drop (k+1):=by
 have b:a.zipIdx.length=n:=by rw[h];simp
 rw[iZ (by rw[b];exact c)]
 congr 1
 subst h;simp
theorem Ke{r:Array af}{Q:af->aq->Prop}(hh:A.handled=M)(hn:0<n)(hn2:n<=100)(D:ZA z i f n d l)(N:ZN s.heap z i f n d l p (λ_=>m) .none r)
  (hQ:∀g x,(∀j,j<n->(p j)[m]?=Y (x j))->ZN g z i f n d l p (λ_=>m+1) (rawInt s.heap.objs.size) ((cI n).map x).toArray->TupAt g s.heap.objs.size ((cI n).map x).toArray->g.objs.size=s.heap.objs.size+1 ->
   GK z f n d s.heap g->Q (.ref s.heap.objs.size) { s with heap:=g })
  (hE:(∃j,j<n/\(p j)[m]?=M)->∀g e,GK z f n d s.heap g->(∃o,g.get? e=Y o/\o.cls=.type "StopIteration")->E (.ref e) { s with heap:=g }) :
  bE (bB B w) A (Builtin.«zip.__next__» ⟨[.ref z],[]⟩) (λoV s'=>∃v,oV=.done (.ret v)/\Q v s') E s:=by
 unfold Builtin.«zip.__next__»;show bE _ _ (field (.ref z) 2 >>= _) _ _ _;refine aD (Oy N.zz rfl (x :=.bool Z_) rfl ?_);refine aD (Oy N.zz rfl (x :=.ref i) rfl ?_);refine aD (Us N.ti rfl ?_);have Jq:((cI n).map λj=>cP (d j)).toArray.isEmpty=false:=by
  cases n with|zero=>omega|succ n=>simp[nX]
 simp only[Jq,dQ,if_false];refine aD ?_;unfold Builtin.SmallTypes.ownedTupleIsFree;refine aD (Oy N.zz rfl (x :=.none) rfl (bG ?_));simp only[if_true];refine aD (Ut ?_);refine aD (Oy N.zz rfl (x :=.ref f) rfl ?_);refine aD (vd N.zz (by simp) λh1 z1 k1 =>?_);have N1:ZN h1 z i f n d l p (λ_=>m) .ellipsis r:=N.OT D z1 k1;refine aD ?_;refine wpAny_forIn_list _ (λL b s1=>b=(M,())/\∃k F C x,k<=n/\L=(((cI n).map λj=>cP (d j)).zipIdx).drop k/\s1={ s with heap:=F }/\ZN F z i f n d l p (λj=>if j<k then m+1 else m) .ellipsis C /\
   (∀j,j<k->(p j)[m]?=Y (x j)/\C[j]?=Y (x j))/\F.objs.size=s.heap.objs.size/\GK z f n d s.heap F) _ ?_ ?_ _ _ ⟨rfl,0,h1,r,λ_ =>.none,fc _,rfl,rfl,by simpa using N1,λj H=>by omega,k1.1,λc o I _ _ e=>k1.extBut _ _ I e⟩
 ·rintro x L b s1 ⟨rfl,k,F,C,J,hk,R,rfl,G,ho,hs,kp⟩;have h:k<n:=by
   rcases Nat.lt_or_ge k n with z|z
   ·exact z
   ·rw[QY (by simpa using z)]at R;cases R
  rw[Cn rfl h]at R;obtain⟨rfl,P⟩:=List.cons.inj R;refine aD (wpAny_onRaise ?_);show bE _ _ (Builtin.SmallTypes.nextOf (.ref (d k)) >>= _) _ _ _;have O:=G.iter k h;simp only[jz,if_false]at O;cases hx:(p k)[m]? with
  |none=>
   refine aD (wpAny_nextOf_list_end hh O (G.lst k h) hx λh3 e X he =>?_);obtain⟨oe,S,Z3⟩:=he;have Zj:IsZip h3 z i f .ellipsis:=X _ _ (cL (D.iz k h).1) G.zz;have hez:e≠z:=λq=>by subst q;rw[Zj]at S;cases S;simp at Z3
   refine vd Zj (by simp) λh4 _ t=>hE ⟨k,h,hx⟩ h4 e (λc o I c2 T q=>t.extBut _ _ I (X _ _ (T k h) (kp c o I c2 T q))) ⟨oe,t.extBut _ _ hez S,Z3⟩
  |some y=>
   refine aD (wpAny_nextOf_list_item O (G.lst k h) hx λh3 i3 X=>bG ?_);have K:=G.adv D h (by simpa using i3) X;dsimp only;refine aD (Us K.to rfl ?_);dsimp only;have hsz:C.size<=br:=by rw[K.sz,jO];omega
   refine aD (wpAny_updateSeq K.to rfl ?_ hsz (by simp;omega));have up:TupAt (h3.update f (mF λq=>q.setIfInBounds k y)) f (C.setIfInBounds k y):=by show Heap.get? _ _=_;rw[Heap.get?_update_self _ K.to rfl];simp[mF]
   have N4:=K.OU D up (by simpa using K.sz) (Heap.SameBut.update ..);refine aD (wpAny_letGo (bG ?_));refine⟨rfl,k+1,_,C.setIfInBounds k y,λj=>if j=k then y else J j,h,P,rfl,?_,λj H =>?_,?_,λc o I c2 T q =>?_⟩
   ·have:(λj=>if j=k then (if j<k then m+1 else m)+1 else if j<k then m+1 else m)=λj=>if j<k+1 then m+1 else m:=by
     funext j
     by_cases e:j=k
     ·subst e;simp
     ·by_cases e2:j<k
      ·rw[if_neg e,if_pos e2,if_pos (by omega)]
      ·rw[if_neg e,if_neg e2,if_neg (by omega)]
    rw[this]at N4;exact N4
   ·by_cases e:j=k
    ·subst e;simp only[if_true];exact⟨hx,by rw[Array.getElem?_setIfInBounds_self_of_lt];rw[G.sz];exact h⟩
    ·simp only[if_neg e];obtain⟨a,b⟩:=ho j (by omega);exact⟨a,by rw[Array.getElem?_setIfInBounds_ne (by omega)];exact b⟩
   ·rw[Heap.size_update,X.1,hs]
   ·exact(Heap.SameBut.update h3 f _).extBut _ _ c2 (X.extBut _ _ (T k h) (kp c o I c2 T q))
 ·rintro b s1 ⟨rfl,k,F,C,J,hk,R,rfl,G,ho,hs,kp⟩;have h:k=n:=by
   rcases Nat.lt_or_ge k n with z|z
   ·rw[Cn rfl z]at R;cases R
   ·omega
  subst h;have Tp:C=((cI k).map J).toArray:=by
   apply Array.ext_getElem?;intro j;by_cases H:j<k
   ·rw[(ho j H).2];simp[H]
   ·rw[QZ (by rw[G.sz];omega)]
    symm
    apply QZ;simp;omega
  subst Tp;dsimp only;refine aD (Us G.to rfl ?_);dsimp only;refine aD (wpAny_newTuple ?_ (by simp;rw[jO];omega));have Zk:z<F.objs.size:=aV G.zz;have ext:∀c o,F.get? c=Y o->(F.push { cls :=.type "tuple",data :=.seq ((cI k).map J).toArray }).get? c=Y o:=λc o q=>ak _ q
  have K:ZN (F.push { cls :=.type "tuple",data :=.seq ((cI k).map J).toArray }) z i f k d l p (λj=>if j<k then m+1 else m) .ellipsis ((cI k).map J).toArray:=
   ⟨ext _ _ G.zz,ext _ _ G.ti,ext _ _ G.to,G.sz,λj H=>(G.iter j H).at (λo q=>ext _ _ q),λj H=>(G.lst j H).at (λo q=>ext _ _ q)⟩
  refine aD ?_;unfold Builtin.SmallTypes.ownedTupleHandOut;refine aD (vd K.zz (by simp) λh4 z4 t =>?_);have N4:ZN h4 z i f k d l p (λj=>if j<k then m+1 else m) (rawInt F.objs.size) ((cI k).map J).toArray:=K.OT D z4 t;refine vd N4.zz (by simp) λh5 z5 k5 =>?_
  have U:ZN h5 z i f k d l p (λj=>if j<k then m+1 else m) (rawInt F.objs.size) ((cI k).map J).toArray:=N4.OT D z5 k5;have up:∀c o,c≠z->F.get? c=Y o->h5.get? c=Y o:=λc o I q=>k5.extBut _ _ I (t.extBut _ _ I (ext c o q))
  have tup:TupAt h5 F.objs.size ((cI k).map J).toArray:=k5.extBut _ _ (l9 Zk) (t.extBut _ _ (l9 Zk) (bD _ rfl));have Zw:h5.objs.size=F.objs.size+1:=by rw[k5.1,t.1,fg]
  refine bG ⟨_,rfl,?_⟩;rw[hs]at U tup Zw;show Q (.ref F.objs.size) _;rw[hs];refine hQ h5 J (λj H=>(ho j H).1) ⟨U.zz,U.ti,U.to,U.sz,λj H=>by have:=U.iter j H;simpa [H] using this,U.lst⟩ tup Zw λc o I c2 T q=>up c o I (kp c o I c2 T q)
theorem xW{r:Array af}(v:A.handled=M)(k:0<n)(a:n<=100)(D:ZA z i f n d l)(N:ZN s.heap z i f n d l p (λ_=>m) .none r) (F:∀g x,(∀j,j<n->(p j)[m]?=Y (x j))->ZN g z i f n d l p (λ_=>m+1) (rawInt s.heap.objs.size) ((cI n).map x).toArray->TupAt g s.heap.objs.size ((cI n).map x).toArray->g.objs.size=s.heap.objs.size+1 ->
   GK z f n d s.heap g->Q (Y (.ref s.heap.objs.size)) { s with heap:=g }) (G:(∃j,j<n/\(p j)[m]?=M)->∀g,GK z f n d s.heap g->Q M { s with heap:=g }):bE (bB B w) A (pyNext (.ref z)) Q E s:=by
 have b:s.TypeIs (.ref z) "zip" :=⟨_,N.zz,rfl⟩;unfold pyNext;refine aD (wpAny_attempt (wpAny_callSpecial?_slot (name:=ab "__next__") b PySem.F.slot_zip_next
  (wpAny_call_entry PySem.F.slot_zip_next b PySem.F.entry_zip_next (Ke v k a D N (λg x L K J I H=>bG (F g x L K J I H)) λq g e c y =>?_) (PySem.F.args_zip_next_1 _))))
 obtain⟨o,h,C⟩:=y;exact aD (wpAny_isInstance (T:= "StopIteration") (b:=Z') ⟨o,h,C⟩ isSubtype_stop (bG (G q _ c)))
end
noncomputable def nU{d:Type}(a b c:d):Nat->d
 |0=>a|1=>b|_=>c
theorem Kf(a b c:af):checkTypeCall "zip" ⟨[a,b,c],[]⟩=fm ():=by kernel_rfl
theorem LY(a b c:af):checkBuiltinCall "zip.__new__" ⟨[.type "zip",a,b,c],[]⟩=fm ():=by kernel_rfl
theorem V7(a b c d:af):argsOk "object.__init__" ⟨[a,b,c,d],[]⟩:=by
 unfold argsOk;rw[signature?_of (id:= "object.__init__") (n:=['_','_','t','i','n','i','_','_']) (o:=['t','c','e','j','b','o']) (by kernel_rfl) PySem.F.owner_object];kernel_rfl
noncomputable abbrev UK(l:az):Obj:={ cls :=.type "list_iterator",data :=.fields #[.ref l,.int 0 0] }
section
variable (h:cF)(a b c:az)
abbrev zA:cF:=h.push (UK a)
abbrev zB:cF:=(zA h a).push (UK b)
abbrev zC:cF:=(zB h a b).push (UK c)
abbrev zT:cF:=(zC h a b c).push { cls :=.type "tuple",data :=.seq #[.ref h.objs.size,.ref (zA h a).objs.size,.ref (zB h a b).objs.size] }
abbrev zO:cF:=(zT h a b c).push { cls :=.type "tuple",data :=.seq #[.none,.none,.none] }
abbrev zZ:cF:=(zO h a b c).push { cls :=.type "zip",data :=.fields #[.none,.bool Z_,.bool Z_,.ref (zC h a b c).objs.size,.ref (zT h a b c).objs.size] }
end
theorem Hh(a b c:az)(m l k:Array af):
  Meets (Builtin.«zip.__new__» ⟨[.type "zip",.ref a,.ref b,.ref c],[]⟩) (λ_ R s=>s.heap.IsList a m/\s.heap.IsList b l/\s.heap.IsList c k/\R (.ok (.ret (.ref (zO s.heap a b c).objs.size))) { s with heap:=zZ s.heap a b c }):=
 .of_wp λf w A R s h=>by
  obtain⟨j,g,d,e,i⟩:=s;obtain⟨q,p,o,h⟩:=h;have n:=sub_zip;have u:Heap.IsList (Shared.heap ⟨j,g,d,e,i⟩) a m:=q;have t:Heap.IsList (Shared.heap ⟨j.push (UK a),g,d,e,i⟩) b l:=Ol p _;have r:Heap.IsList (Shared.heap ⟨(j.push (UK a)).push (UK b),g,d,e,i⟩) c k:=(Ol (Ol o _) _)
  wp_walk using l_ u,l_ t,l_ r
  exact⟨_,rfl,h⟩
section
variable {f:bj}{w:bQ}{A:cf}{E:af->aq->Prop}{s:aq}
theorem Lv{a b c:az}{m:Array af}(B:s.heap.IsList a p)(z:s.heap.IsList b n)(y:s.heap.IsList c m) (h:∀d,IsZip d (s.heap.objs.size+5) (s.heap.objs.size+3) (s.heap.objs.size+4) .none->TupAt d (s.heap.objs.size+3) #[.ref s.heap.objs.size,.ref (s.heap.objs.size+1),.ref (s.heap.objs.size+2)] ->
   TupAt d (s.heap.objs.size+4) #[.none,.none,.none]->d.IsListIter s.heap.objs.size a 0->d.IsListIter (s.heap.objs.size+1) b 0->d.IsListIter (s.heap.objs.size+2) c 0 ->
   (∀c o,s.heap.get? c=Y o->d.get? c=Y o)->Q (.ref (s.heap.objs.size+5)) { s with heap:=d }) :
  bE (bB f w) A (call (.type "zip") [.ref a,.ref b,.ref c]) Q E s:=by
 refine callType_new PySem.F.called_zip (by decide) (Kf _ _ _) (LY _ _ _) (λk=>V7 k _ _ _) PySem.F.entry_zip_new (Hh a b c p n m) ⟨B,z,y,?_⟩;have j:(zA s.heap a).objs.size=s.heap.objs.size+1:=fg ..;have i:(zB s.heap a b).objs.size=s.heap.objs.size+2:=by rw[fg,j]
 have g:(zC s.heap a b c).objs.size=s.heap.objs.size+3:=by rw[fg,i]
 have e:(zT s.heap a b c).objs.size=s.heap.objs.size+4:=by rw[fg,g]
 have q:(zO s.heap a b c).objs.size=s.heap.objs.size+5:=by rw[fg,e]
 have l:(zZ s.heap a b c).get? (zO s.heap a b c).objs.size=Y _:=bD _ rfl;have r:(zZ s.heap a b c).get? (zT s.heap a b c).objs.size=Y _:=ak _ (bD _ rfl);have t:(zZ s.heap a b c).get? (zC s.heap a b c).objs.size=Y _:=ak _ (ak _ (bD _ rfl));have u:(zZ s.heap a b c).get? (zB s.heap a b).objs.size=Y _:=ak _ (ak _ (ak _ (bD _ rfl)));have v:(zZ s.heap a b c).get? (zA s.heap a).objs.size=Y _:=ak _ (ak _ (ak _ (ak _ (bD _ rfl))));have C:(zZ s.heap a b c).get? s.heap.objs.size=Y _:=ak _ (ak _ (ak _ (ak _ (ak _ (bD _ rfl)))));show _/\_;rw[g,e,q]at l;rw[e]at r;rw[g,j,i]at t;rw[i]at u;rw[j]at v;rw[q];exact⟨⟨_,l,rfl⟩,h _ l t r ⟨_,C,rfl,rfl⟩ ⟨_,v,rfl,rfl⟩ ⟨_,u,rfl,rfl⟩ λc o x=>ak _ (ak _ (ak _ (ak _ (ak _ (ak _ x)))))⟩
end
noncomputable def Um(K : PySem.W.Frag)(a b c : az): It :=
  ⟨λi H => ∃g e d x y z,n9 K H a g /\ n9 K H b e /\ n9 K H c d /\ g[i]? = Y x /\ e[i]? = Y y /\ d[i]? = Y z,
   λi H v h => ∃x y z p,(∀g,n9 K H a g -> g[i]? = Y x) /\ (∀e,n9 K H b e -> e[i]? = Y y) /\ (∀d,n9 K H c d -> d[i]? = Y z) /\ H p = M /\ v = .ref p /\ h = eN H p (.tup [x,y,z]),
   λi H => ∃g e d,n9 K H a g /\ n9 K H b e /\ n9 K H c d /\ (g.length <= i ∨ e.length <= i ∨ d.length <= i)⟩
def ZSt(z l k j g e a b c:az)(i:Nat)(h:cF):Prop:=∃d:Array af,d.size=3/\IsZip h z l k .none/\TupAt h l #[.ref j,.ref g,.ref e]/\TupAt h k d/\h.IsListIter j a i/\h.IsListIter g b i/\h.IsListIter e c i
theorem rp{P:Nat->Prop}(c:P 0)(b:P 1)(a:P 2):∀j,j<3->P j
 |0,_=>c|1,_=>b|2,_=>a
theorem Kj{P:bj}{w:bQ}{K:bb}{x1}(a b c z L C J G F:az)(Z:ZA z L C 3 (nU J G F) (nU a b c)):
  ID P w K (.Tuple Zi x1 U_) (Um K a b c) [z,L,C,J,G,F] z (ZSt z L C J G F a b c) where
 mem:=by simp
 obj:=λi h st d hc=>by
  obtain⟨p,s0,s1,s2,s3,s4,s5,s6⟩:=st;simp only[aK,vf,or_false]at hc;rcases hc with rfl|rfl|rfl|rfl|rfl|rfl
  ·exact⟨_,s1,λv z=>by cases z⟩
  ·exact⟨_,s2,λv z=>by cases z⟩
  ·exact⟨_,s3,λv z=>by cases z⟩
  ·obtain⟨o,e,c,d⟩:=s4;exact⟨o,e,λv z=>by rw[d]at z;cases z⟩
  ·obtain⟨o,e,c,d⟩:=s5;exact⟨o,e,λv z=>by rw[d]at z;cases z⟩
  ·obtain⟨o,e,c,d⟩:=s6;exact⟨o,e,λv z=>by rw[d]at z;cases z⟩
 keep:=λi h h' st k=>by obtain⟨p,s0,s1,s2,s3,s4,s5,s6⟩:=st;exact⟨p,s0,k z (by simp) _ s1,k L (by simp) _ s2,k C (by simp) _ s3,s4.at λo q=>k J (by simp) o q,s5.at λo q=>k G (by simp) o q,s6.at λo q=>k F (by simp) o q⟩
 item:=by
  intro X hP hw hK hc i D s σ H E I hf st hg;subst hP hw hK;obtain⟨p,s0,s1,s2,s3,s4,s5,s6⟩:=st;obtain⟨xs,ys,zs,x,y,zz,Tj,Xn,Xm,m,hy,ZH⟩:=hg;obtain⟨T,X2,p1,ZL⟩:=I.list Tj;obtain⟨S,X1,p2,ZK⟩:=I.list Xn;obtain⟨R,X0,p3,ZJ⟩:=I.list Xm;obtain⟨u1,Ys,ru1⟩:=X2.get m;obtain⟨u2,Wb,ru2⟩:=X1.get hy;obtain⟨u3,Yr,ru3⟩:=X0.get ZH;have f:∀d∈[z,L,C,J,G,F],BY X D H d:=hf;have N:ZN s.heap z L C 3 (nU J G F) (nU a b c) (nU T.toArray S.toArray R.toArray) (λ_=>i) .none p:=⟨s1,s2,s3,s0,rp s4 s5 s6,rp p1.isList p2.isList p3.isList⟩;refine xW (I.ok.hd hc) (by decide) (by decide) Z N (λh1 xx t N1 t1 z1 k1 =>?_) λhe =>?_
  ·have e1:xx 0=u1:=by have:=t 0 (by decide);simp[nU]at this;rw[Ys]at this;cases this;rfl
   have e2:xx 1=u2:=by have:=t 1 (by decide);simp[nU]at this;rw[Wb]at this;cases this;rfl
   have e3:xx 2=u3:=by have:=t 2 (by decide);simp[nU]at this;rw[Yr]at this;cases this;rfl
   have t1:TupAt h1 s.heap.objs.size #[u1,u2,u3]:=by have:=t1;simpa [List.range_succ,e1,e2,e3] using this
   refine⟨_,rfl,?_⟩;refine wpAny_letOwnedTupleGo_zip (s:={ s with heap:=h1 }) N1.zz λh2 e2' w2 =>?_
   have ZI:z<s.heap.objs.size:=aV s1;have hn:H s.heap.objs.size=none:=I.jo.fresh (aM _);have XD:lh z h1 h2:=w2;have N2:=N1.OT Z e2' XD;have g:∀d o,d∉[z,L,C,J,G,F]->s.heap.get? d=Y o->h2.get? d=Y o:=λd o l q=>by
    have n1:d≠z:=λe=>l (by simp[e])
    have n2:d≠C:=λe=>l (by simp[e])
    exact(XD.2 d n1).trans (k1 d o n1 n2 (rp (λe=>l (by simp[e,nU])) (λe=>l (by simp[e,nU])) (λe=>l (by simp[e,nU]))) q)
   have tup:h2.get? s.heap.objs.size=Y { cls :=.type "tuple",data :=.seq #[u1,u2,u3] }:=(XD.2 _ (l9 ZI)).trans t1;have O:∀d o,H d=Y o->d∉[z,L,C,J,G,F]:=λd o q l=>by have:=(f d l).1;rw[this]at q;cases q
   have new:i6 X.prog X.w (eN H s.heap.objs.size (.tup [x,y,zz])) h2 s.heap.objs.size (.tup [x,y,zz]):=
    ⟨by show 3<=br;rw[jO];decide,[u1,u2,u3],.cons ru1 (.cons ru2 (.cons ru3 .nil)),_,tup,rfl,_,rfl⟩
   have U:pM X.prog X.w (eN H s.heap.objs.size (.tup [x,y,zz])) h2:=λd o q=>by
    by_cases l:d=s.heap.objs.size
    ·subst l;rw[bM]at q;cases q;exact new
    ·rw[bz l]at q;refine(I.jo d o q).Bp (λc v B r =>?_) (λc r=>by rw[bz (bW r hn)];exact r) λc ys r=>by rw[bz (bW r hn)];exact r
     rcases B with rfl|B
     ·exact g _ _ (O _ _ q) r
     ·exact g _ _ (O _ _ B) r
   have un:Un (EJ X.stack) [z,L,C,J,G,F] H (eN H s.heap.objs.size (.tup [x,y,zz])) s.heap h2:=by
    have old:∀b o,s.heap.get? b=Y o->b≠s.heap.objs.size:=λb o q=>bS (aV q)
    exact⟨λb o q n _ m=>g b o m q,λb o q n _ m=>⟨o.slots,g b o m q⟩,λb o q n m=>by rw[bz (old b o q)];exact n,
     λb o q m=>⟨o,g b o m q⟩,λb ys q=>by rw[bz (bW q hn)];exact q,λb o u q=>by rw[bz (bW q hn)];exact q,λb ps q=>⟨#[],by rw[bz (bW q hn)];simpa using q⟩⟩
   have I2:Inv X D σ (eN H s.heap.objs.size (.tup [x,y,zz])) { s with heap:=h2 }:=I.JW (s':={ s with heap:=h2 }) rfl un U I.bare λb l=>⟨(f b l).2.2.2.1,(f b l).2.1,(f b l).2.2.2.2.1,(f b l).2.2.2.2.2⟩
   refine⟨.ref s.heap.objs.size,_,I2,rfl,⟨x,y,zz,s.heap.objs.size,λq hq=>by rw[I.su hq Tj];exact m,λq hq=>by rw[I.su hq Xn];exact hy,λq hq=>by rw[I.su hq Xm];exact ZH,hn,rfl,rfl⟩,⟨_,N2.sz,N2.zz,N2.ti,N2.to,N2.iter 0 (by decide),N2.iter 1 (by decide),N2.iter 2 (by decide)⟩,λd hd =>?_⟩;have:d≠s.heap.objs.size:=by
    simp only[aK,vf,or_false]at hd;rcases hd with rfl|rfl|rfl|rfl|rfl|rfl
    ·exact bS ZI
    ·exact bS (aV s2)
    ·exact bS (aV s3)
    ·obtain⟨o,q,_⟩:=s4;exact bS (aV q)
    ·obtain⟨o,q,_⟩:=s5;exact bS (aV q)
    ·obtain⟨o,q,_⟩:=s6;exact bS (aV q)
   rw[bz this];exact(f d hd).1
  ·exfalso;obtain⟨j,hj,q⟩:=he
   match j,hj,q with
   |0,_,q=>simp[nU]at q;rw[l'.mpr q]at Ys;cases Ys|1,_,q=>simp[nU]at q;rw[l'.mpr q]at Wb;cases Wb|2,_,q=>simp[nU]at q;rw[l'.mpr q]at Yr;cases Yr
 done:=by
  intro X hP hw hK hc i D s σ H E I hf st hg;subst hP hw hK;obtain⟨p,s0,s1,s2,s3,s4,s5,s6⟩:=st;obtain⟨xs,ys,zs,Tj,Xn,Xm,m⟩:=hg;obtain⟨T,X2,p1,ZL⟩:=I.list Tj;obtain⟨S,X1,p2,ZK⟩:=I.list Xn;obtain⟨R,X0,p3,ZJ⟩:=I.list Xm;have l1:=X2.length;have l2:=X1.length;have l3:=X0.length;have f:∀d∈[z,L,C,J,G,F],BY X D H d:=hf;have N:ZN s.heap z L C 3 (nU J G F) (nU a b c) (nU T.toArray S.toArray R.toArray) (λ_=>i) .none p:=⟨s1,s2,s3,s0,rp s4 s5 s6,rp p1.isList p2.isList p3.isList⟩;refine xW (I.ok.hd hc) (by decide) (by decide) Z N (λh1 xx t =>?_) λ_ h' eb=>⟨rfl,?_⟩
  ·exfalso;have q1:=t 0 (by decide);have q2:=t 1 (by decide);have q3:=t 2 (by decide);simp[nU]at q1 q2 q3;have:=(aj.mp q1).1;have:=(aj.mp q2).1;have:=(aj.mp q3).1;omega
  ·have O:∀b o,H b=Y o->b∉[z,L,C,J,G,F]:=λb o q l=>by have:=(f b l).1;rw[this]at q;cases q
   have g:∀d o,d∉[z,L,C,J,G,F]->s.heap.get? d=Y o->h'.get? d=Y o:=λd o l q=>eb d o (λe=>l (by simp[e])) (λe=>l (by simp[e])) (rp (λe=>l (by simp[e,nU])) (λe=>l (by simp[e,nU])) (λe=>l (by simp[e,nU]))) q
   have U:pM X.prog X.w H h':=λb o q=>by
    refine(I.jo b o q).Bp (λc v B r =>?_) (λc r=>r) λc ys r=>r
    rcases B with rfl|B
    ·exact g _ _ (O _ _ q) r
    ·exact g _ _ (O _ _ B) r
   have un:Un (EJ X.stack) [z,L,C,J,G,F] H H s.heap h':=
    ⟨λb o q n _ m=>g b o m q,λb o q n _ m=>⟨o.slots,g b o m q⟩,λb o q n m=>n,λb o q m=>⟨o,g b o m q⟩,λb ys q=>q,λb o u q=>q,λb ps q=>⟨#[],by simpa using q⟩⟩
   exact I.JW (s':={ s with heap:=h' }) rfl un U I.bare λb l=>⟨(f b l).2.2.2.1,(f b l).2.1,(f b l).2.2.2.2.1,(f b l).2.2.2.2.2⟩
 self:=λA i s Q E st h=>by obtain⟨p,s0,s1,_⟩:=st;exact wpAny_pyIter_zip s1 h
section
variable {X:Cx}{own:List Nat}{e l g:Expr}{f n A:DF}
def Te(K:bb)(k:TA):TI:=λe H R=>k e H λj d=>∃a b c,j=[.ref a,.ref b,.ref c]/\(∃i,n9 K d a i)/\(∃h,n9 K d b h)/\(∃f,n9 K d c f)/\R (Um K a b c) d
theorem cK.three(r:cK [x,y,z] a):∃u v w,a=[u,v,w]/\RelV x u/\RelV y v/\RelV z w:=by
 cases r with
 | cons d t=>cases t with
  | cons c t=>cases t with
   |cons b t=>cases t;exact⟨_,_,_,rfl,d,c,b⟩
theorem Pg{x1}(hg:Gl X "zip")(hm:X.mg "zip" = M)(ha:PA X [e,l,g] ta)(hs:ao [e,l,g] X.env=[(Z_,eval e X.env),(Z_,eval l X.env),(Z_,eval g X.env)]:=by rfl)(K:ao [l,g] X.env=[(Z_,eval l X.env),(Z_,eval g X.env)]:=by rfl)(hv:iR "zip" = Y (.type "zip"):=by decide +kernel):PI X (.Tuple L x1 t) (.Call (.Name "zip" p) [e,l,g] [] x) (Te X.K ta):=by
 intro D s σ H R I h;refine Call_ (qF I hg hm hv (fo (gD (ha x D s σ H _ I h) λus f ⟨vs,H1,r,r1,q1⟩ =>?_) (by rw[hs,K]) (by rw[K];rfl)));obtain⟨a,b,c,rfl,⟨xs,P⟩,⟨ys,O⟩,⟨zs,N⟩,q⟩:=q1;obtain⟨u,v,w,rfl,ru,rv,n⟩:=cK.three r1;cases ru;cases rv;cases n;obtain⟨aa8,rx1,C,ZL⟩:=r.list P;obtain⟨aa7,rx2,B,ZK⟩:=r.list O;obtain⟨aa6,rx3,y,ZJ⟩:=r.list N;obtain⟨oa,T,_⟩:=C.isList;obtain⟨ob,S,_⟩:=B.isList;obtain⟨oc,Q,_⟩:=y.isList;have J:=aV T;have G:=aV S;have F:=aV Q;refine Lv C.isList B.isList y.isList λh' z1 z2 z3 z4 z5 z6 k1 =>?_
 refine wpAny_pyIter_zip (s:={ f with heap:=h' }) z1 ?_;have i:∀k:Nat,H1 (f.heap.objs.size+k)=none:=λk=>r.jo.fresh (ip _ _)
 have m:∀ {d:az}(k:Nat),d<f.heap.objs.size->d≠f.heap.objs.size+k:=fun {d} k h z=>by rw[z]at h;exact absurd h (Nat.not_lt.mpr (ip _ _))
 have o:∀j k:Nat,j≠k->f.heap.objs.size+j≠f.heap.objs.size+k:=λj k h z=>h (Nat.add_left_cancel z)
 have Z:ZA (f.heap.objs.size+5) (f.heap.objs.size+3) (f.heap.objs.size+4) 3 (nU (f.heap.objs.size+0) (f.heap.objs.size+1) (f.heap.objs.size+2)) (nU a b c):=by
  refine⟨o 3 5 (by decide),o 4 5 (by decide),o 3 4 (by decide),rp ⟨o 0 5 (by decide),o 0 3 (by decide),o 0 4 (by decide)⟩ ⟨o 1 5 (by decide),o 1 3 (by decide),o 1 4 (by decide)⟩ ⟨o 2 5 (by decide),o 2 3 (by decide),o 2 4 (by decide)⟩,λj k hj hk U =>?_,?_⟩
  ·have E:∀j,j<3->nU (f.heap.objs.size+0) (f.heap.objs.size+1) (f.heap.objs.size+2) j=f.heap.objs.size+j:=rp rfl rfl rfl;rw[E j hj,E k hk];exact o j k U
  ·exact rp ⟨m 5 J,m 4 J,rp (m 0 J) (m 1 J) (m 2 J)⟩ ⟨m 5 G,m 4 G,rp (m 0 G) (m 1 G) (m 2 G)⟩ ⟨m 5 F,m 4 F,rp (m 0 F) (m 1 F) (m 2 F)⟩
 refine⟨f.heap.objs.size+5,[f.heap.objs.size+5,f.heap.objs.size+3,f.heap.objs.size+4,f.heap.objs.size+0,f.heap.objs.size+1,f.heap.objs.size+2],_,_,H1,rfl,r.kept (t':=f.toks) k1,
  Kj a b c (f.heap.objs.size+5) (f.heap.objs.size+3) (f.heap.objs.size+4) (f.heap.objs.size+0) (f.heap.objs.size+1) (f.heap.objs.size+2) Z,⟨_,rfl,z1,z2,z3,z4,z5,z6⟩,λd hd =>?_,q⟩
 simp only[aK,vf,or_false]at hd;rcases hd with rfl|rfl|rfl|rfl|rfl|rfl
 ·exact r.yE (ip _ _) (i 5)
 ·exact r.yE (ip _ _) (i 3)
 ·exact r.yE (ip _ _) (i 4)
 ·exact r.yE (ip _ _) (i 0)
 ·exact r.yE (ip _ _) (i 1)
 ·exact r.yE (ip _ _) (i 2)
noncomputable def lj:List D->List D->List D->List D
 |x::c,y::b,z::a =>.tup [x,y,z]::lj c b a|_,_,_=>[]
theorem wU:∀(c b a:List D),(lj c b a).length=min c.length (min b.length a.length)
 |[],b,a=>by simp[lj]
 |x::c,[],a=>by simp[lj]
 |x::c,y::b,[]=>by simp[lj]
 |x::c,y::b,z::a=>by simp[lj,wU c b a]
theorem B5:∀ {c b a:List D}{i:Nat}{d:D},(lj c b a)[i]?=Y d->∃x y z,c[i]?=Y x/\b[i]?=Y y/\a[i]?=Y z/\d=.tup [x,y,z]
 |[],b,a,i,d,h=>by simp[lj]at h
 |x::c,[],a,i,d,h=>by simp[lj]at h
 |x::c,y::b,[],i,d,h=>by simp[lj]at h
 |x::c,y::b,z::a,0,d,h=>by simp[lj]at h;exact⟨x,y,z,rfl,rfl,rfl,h.symm⟩
 |x::c,y::b,z::a,i+1,d,h=>by simp only[lj,cn]at h ⊢;exact B5 h
theorem K1{K:bb}{f e:List V}(g:G a=Y (.lst f))(L:G b=Y (.lst h))(J:G c=Y (.lst e))(r:bx K G ds f)(U:bx K G es h)(o:bx K G fs e):Ex K G (Um K a b c) (lj ds es fs):=by
 have l1:=r.length;have l2:=U.length;have l3:=o.length;refine⟨λi H s I =>?_,λi H s I=>⟨f,h,e,.of (s _ _ g),.of (s _ _ L),.of (s _ _ J),by rw[wU]at I;omega⟩,λi H x H' G1 d v k ⟨y,T,j,p,P,O,N,X,ev,eh⟩ hd =>?_⟩
 ·rw[wU]at I;have P:i<f.length:=by omega
  have O:i<h.length:=by omega
  have N:i<e.length:=by omega
  exact⟨f,h,e,f[i],h[i],e[i],.of (s _ _ g),.of (s _ _ L),.of (s _ _ J),by simp[P],by simp[O],by simp[N]⟩
 ·obtain⟨c1,c2,c3,S,R,Q,rfl⟩:=B5 hd;have F:=P f (.of (k _ _ (v _ _ g)));have E:=O h (.of (k _ _ (v _ _ L)));have C:=N e (.of (k _ _ (v _ _ J)));obtain⟨v1,u,B⟩:=r.get S;obtain⟨v2,t,z⟩:=U.get R;obtain⟨v3,q,w⟩:=o.get Q;rw[F]at u;cases u;rw[E]at t;cases t;rw[C]at q;cases q;subst ev eh;have m:=v.trans (.alloc (o :=.tup [y,T,j]) (k.free X));exact⟨eN G1 p (.tup [y,T,j]),gO.alloc k X,fQ.mpr ⟨p,_,rfl,bM,.cons (dg.mono m c1 B) (.cons (dg.mono m c2 z) (.cons (dg.mono m c3 w) .nil))⟩⟩
def Xk(f n A:DF):DL:=λa=>(iL f a).bind λd=>(iL n a).bind λc=>(iL A a).map λb=>lj d c b
theorem Qk{O}{m:Pos}(hg:Gl X "zip")(hm:X.mg "zip" = M)(h:PE X e (tP X.K own f))(h':PE X l (tP X.K own n))(E:PE X g (tP X.K own A))(hs:ao [e,l,g] X.env=[(Z_,eval e X.env),(Z_,eval l X.env),(Z_,eval g X.env)]:=by rfl)(C:ao [l,g] X.env=[(Z_,eval l X.env),(Z_,eval g X.env)]:=by rfl)(D:ao [e,l,g] X.env=(Z_,eval e X.env)::ao [l,g] X.env:=by rfl)(B:ao [l,g] X.env=(Z_,eval l X.env)::ao [g] X.env:=by rfl)(z:ao [g] X.env=(Z_,eval g X.env)::ao [] X.env:=by rfl):
  PI X (.Tuple r O m) (.Call (.Name "zip" p) [e,l,g] [] y) (E8 X.K own (Xk f n A)):=(Pg hg hm (aA h (aA h' (aA E bg z) B) D) hs C).imp <|by
 rintro σ H R ⟨G,u,ds,gh,F,j,k⟩;unfold Xk at j;obtain⟨N,ef,j⟩:=ae.1 j;rcases i:iL n u with _|V
 ·simp[i]at j
 rcases d:iL A u with _|L
 ·simp[i,d]at j
 simp only[i,d,aa,bI]at j;cases j;refine⟨G,u,[.lst N,.lst V,.lst L],gh,F,?_,λvs G1 H1 s r1 =>?_⟩
 ·simp only[aC,aN,vW ef,vW i,vW d,aa]
 ·obtain⟨v,t,rfl,rv,rt⟩:=bJ.mp r1;obtain⟨v',t',rfl,w,x⟩:=bJ.mp rt;obtain⟨T,U,rfl,o,q⟩:=bJ.mp x;have:=dz.mp q;subst this;obtain⟨a,S,rfl,K,ra⟩:=dJ.mp rv;obtain⟨b,Q,rfl,J,rb⟩:=dJ.mp w;obtain⟨c,P,rfl,I,rc⟩:=dJ.mp o;exact⟨a,b,c,rfl,⟨S,.of (s.gh _ _ K)⟩,⟨Q,.of (s.gh _ _ J)⟩,⟨P,.of (s.gh _ _ I)⟩,k _ G1 H1 s (K1 K J I ra rb rc)⟩
end
structure TB(kd:SortKind)(a0:Array IG)(st:SortSt):Prop where
 pm:(dw st).Perm a0
 kn:kindOf st=kd
 fl:UY st=none
 pd:oW st=#[]
noncomputable def kx(o:af->Int)(a:Array IG)(i:Nat):Int:=((a[i]?).map λp=>o p.1).getD 0
def Up(o:af->Int)(a:Array IG)(k:Nat):Prop:=∀i j,i<j->j<k->kx o a i<kx o a j
def Dn(o:af->Int)(a:Array IG)(k:Nat):Prop:=∀i j,i<j->j<k->kx o a j<kx o a i
def Df(o:af->Int)(a:Array IG):Prop:=(a.toList.map λp=>o p.1).Nodup
theorem Df.perm{o:af->Int}{b:Array IG}(h:Df o a)(p:b.Perm a):Df o b:=by
 have q:=(rT.mp p).map λp=>o p.1
 exact q.nodup_iff.mpr h
theorem Df.ne{o:af->Int}{a:Array IG}(h:Df o a){i j:Nat}(d:i<a.size)(c:j<a.size)(b:i≠j):kx o a i≠kx o a j:=by
 intro e;have g:kx o a i=(a.toList.map λp=>o p.1)[i]'(by simpa using d):=by simp[kx,d]
 have f:kx o a j=(a.toList.map λp=>o p.1)[j]'(by simpa using c):=by simp[kx,c]
 rw[g,f]at e;rcases Nat.lt_or_gt_of_ne b with z|z
 ·exact(sS.mp h) i j _ _ z e
 ·exact(sS.mp h) j i _ _ z e.symm
section
variable {prog:bj}{w:bQ}{A:cf}{E:af->aq->Prop}{s:aq}{a0:Array IG}{kd:SortKind}{o:af->Int}
theorem TB.size{a:SortSt}(h:TB kd a0 a):(dw a).size=a0.size:=h.pm.size_eq
theorem TB.arr(h:TB kd a0 a){b:Array IG}(p:b.Perm (dw a)):TB kd a0 (setArr a b):=⟨p.trans h.pm,h.kn,h.fl,h.pd⟩
theorem TB.ne(h:TB kd a0 a)(d:Df o a0){i j:Nat}(e:i<a0.size)(c:j<a0.size)(b:i≠j):kx o (dw a) i≠kx o (dw a) j:=
 (d.perm h.pm).ne (by rw[h.size];exact e) (by rw[h.size];exact c) b
def UW(prog:bj)(w:bQ)(A:cf)(E:af->aq->Prop)(s:aq)(a0:Array IG)(kd:SortKind)(o:af->Int):Prop:=
 ∀(a:SortSt) (i j:Nat) (Q:Option Bool->SortSt->Prop),TB kd a0 a->i<a0.size->j<a0.size->i≠j->Q (Y (decide (kx o (dw a) i<kx o (dw a) j))) a->wpS (bB prog w) A E s (ltAt' i j) Q a
theorem Up.more{i:Nat}(u:Up o c i)(g:1<=i)(h:kx o c (i-1)<kx o c i):Up o c (i+1):=λa b d j=>by
 by_cases e:b=i
 ·subst e;by_cases f:a=b-1
  ·subst f;exact h
  ·exact wM (u a (b-1) (by omega) (by omega)) h
 ·exact u a b d (by omega)
theorem Dn.more{i:Nat}(u:Dn o c i)(g:1<=i)(h:kx o c i<kx o c (i-1)):Dn o c (i+1):=λa b d j=>by
 by_cases e:b=i
 ·subst e;by_cases f:a=b-1
  ·subst f;exact h
  ·exact wM h (u a (b-1) (by omega) (by omega))
 ·exact u a b d (by omega)
theorem II{m:Nat}(C:UW prog w A E s a0 kd o)(d:Df o a0)(B:TB kd a0 b)(n:m<=a0.size)(p:1<=a)(j:a<=m)(u:Up o (dw b) a)(h:∀i,a<=i->i<=m->Up o (dw b) i->(i=m∨kx o (dw b) i<kx o (dw b) (i-1))->Q (M,i) b):wpS (bB prog w) A E s (ascLoop a m) Q b:=by
 unfold ascLoop;refine ya (I:=λi c t=>c=(M,i)/\t=b/\Up o (dw b) i) (λi c t g l k =>?_) (λc t k =>?_) ⟨rfl,rfl,u⟩
 ·obtain⟨rfl,rfl,f⟩:=k;refine dy (C _ i (i-1) _ B (by omega) (by omega) (by omega) ?_);dsimp only;by_cases e:kx o (dw t) i<kx o (dw t) (i-1)
  ·rw[decide_eq_true e,if_pos rfl];exact g_ (h i g (by omega) f (.inr e))
  ·rw[decide_eq_false e,if_neg (by decide)];have:=B.ne d (i:=i-1) (j:=i) (by omega) (by omega) (by omega);exact g_ ⟨rfl,rfl,f.more (by omega) (by omega)⟩
 ·obtain⟨rfl,rfl,f⟩:=k;have:max a m=m:=by omega
  rw[this]at f ⊢;exact h m j (aM _) f (.inl rfl)
theorem Kg{m:Nat}(C:UW prog w A E s a0 kd o)(d:Df o a0)(B:TB kd a0 b)(n:m<=a0.size)(p:1<=a)(j:a<=m)(u:Dn o (dw b) a)(h:∀i,a<=i->i<=m->Dn o (dw b) i->Q (M,i,0) b):wpS (bB prog w) A E s (descLoop a m) Q b:=by
 unfold descLoop;refine ya (I:=λi c t=>c=(M,i,0)/\t=b/\Dn o (dw b) i) (λi c t g l k =>?_) (λc t k =>?_) ⟨rfl,rfl,u⟩
 ·obtain⟨rfl,rfl,f⟩:=k;refine dy (C _ i (i-1) _ B (by omega) (by omega) (by omega) ?_);dsimp only;by_cases e:kx o (dw t) i<kx o (dw t) (i-1)
  ·rw[decide_eq_true e,if_pos rfl,if_neg (by decide)];exact g_ ⟨rfl,rfl,f.more (by omega) e⟩
  ·rw[decide_eq_false e,if_neg (by decide)];refine dy (C _ (i-1) i _ B (by omega) (by omega) (by omega) ?_);have:=B.ne d (i:=i-1) (j:=i) (by omega) (by omega) (by omega);dsimp only;rw[decide_eq_true (by omega:kx o (dw t) (i-1)<kx o (dw t) i),if_pos rfl];exact g_ (h i g (by omega) f)
 ·obtain⟨rfl,rfl,f⟩:=k;have:max a m=m:=by omega
  rw[this]at f ⊢;exact h m j (aM _) f
theorem Hl{a:Array IG}(b:n<=a.size)(u:Dn o a n):Up o (mirror a 0 n ((n-0)/2)) n:=λi j e d=>by
 have g:∀k,k<n->kx o (mirror a 0 n ((n-0)/2)) k=kx o a (n-1-k):=λk c=>by unfold kx;rw[getElem?_mirror_all b k,if_pos ⟨fc _,c⟩,qV]
 rw[g i (by omega),g j d];exact u _ _ (by omega) (by omega)
theorem RY{m:Nat}(C:UW prog w A E s a0 kd o)(d:Df o a0)(B:TB kd a0 c)(I:m=a0.size)(G:1<=m)(h:∀i t,TB kd a0 t->1<=i->i<=m->Up o (dw t) i->Q (Y i) t):wpS (bB prog w) A E s (countRun' 0 m) Q c:=by
 rw[countRun0_eq];refine dy (II C d B (by omega) (aM 1) G (λi j D J=>by omega) λi g f l q =>?_);dsimp only;by_cases e:i=m
 ·subst e;rw[if_pos (by simp)];exact g_ (h i c B g f l)
 ·rw[if_neg (by simpa using e)];have q:kx o (dw c) i<kx o (dw c) (i-1):=by rcases q with z|z;exact absurd z e;exact z
  by_cases r:i > 1
  ·rw[if_pos r];refine dy (C _ _ _ _ B (by omega) (by omega) (by show 0≠i-1;omega) ?_);dsimp only;rw[decide_eq_true (l 0 (i-1) (by omega) (by omega)),if_pos rfl];exact g_ (h i c B g f l)
  ·rw[if_neg r];have:i=1:=by omega
   subst this;unfold descPart;refine dy (wpS_lift (Ut ⟨rfl,?_⟩));refine dy (Kg C d B (by omega) (by omega) (by omega) (Dn.more (i:=1) (λa b F K=>by omega) (aM 1) q) λj y p H =>?_);dsimp only;rw[if_neg (by decide)];unfold tail3;rw[reverseSlice'_eq];refine dy (wpS_modify ?_);have u:TB kd a0 (setArr c (mirror (dw c) 0 j ((j-0)/2))):=B.arr (mirror_perm _ _ _ _);refine dy (II C d u (by omega) (by omega) p (Hl (by rw[B.size];omega) H) λk x n v _ =>?_);exact g_ (h k _ u (by omega) n v)
theorem RC{a:Array IG}(f:k<a.size)(n:l<=k)(u:Up o a k)(e:∀i,i<l->kx o a i<kx o a k)(h:∀i,l<=i->i<k->kx o a k<kx o a i):Up o (bubble a k (k-l)) (k+1):=λi j b p=>by
 have g:∀q,kx o (bubble a k (k-l)) q=if q=l then kx o a k else if l<q/\q<=k then kx o a (q-1) else kx o a q:=λq=>by
  unfold kx;rw[getElem?_bubble f (k-l) (by omega) q,show k-(k-l)=l by omega];split
  ·rfl
  ·split<;>rfl
 rw[g i,g j];by_cases d:i=l
 ·rw[if_pos d,if_neg (by omega),if_pos (by omega)];exact h _ (by omega) (by omega)
 ·rw[if_neg d];by_cases c:j=l
  ·rw[if_pos c,if_neg (by omega)];exact e _ (by omega)
  ·rw[if_neg c];by_cases s:l<i
   ·rw[if_pos (by omega),if_pos (by omega)];exact u _ _ (by omega) (by omega)
   ·rw[if_neg (by omega)];by_cases r:l<j
    ·rw[if_pos (by omega)];by_cases m:i<j-1
     ·exact u _ _ m (by omega)
     ·omega
    ·rw[if_neg (by omega)];exact u _ _ b (by omega)
theorem O8{m:Nat}(C:UW prog w A E s a0 kd o)(d:Df o a0)(B:TB kd a0 y)(T:n=a0.size)(K:1<=m)(U:m<=n)(u:Up o (dw y) m)(h:∀t,TB kd a0 t->Up o (dw t) n->Q Z' t):wpS (bB prog w) A E s (binarySort' 0 n m) Q y:=by
 rw[binarySort'_eq];simp only[qV];have z:max m 1=m:=by omega
 rw[z];refine dy (wpS_mono (ya (I:=λk c t=>c=(M,())/\TB kd a0 t/\Up o (dw t) k) (Q:=λc t=>c=(M,())/\TB kd a0 t/\Up o (dw t) n) (λk c t V L D =>?_) (λc t D =>?_) ⟨rfl,B,u⟩) λc t J =>?_)
 ·obtain⟨rfl,g,a⟩:=D;refine dy (wpS_mono (ya (I:=λq c b=>b=t/\∃l r,c=(M,l,r)/\l<=r/\r<=k/\r-l<=k-q/\(∀i,i<l->kx o (dw t) i<kx o (dw t) k)/\(∀i,r<=i->i<k->kx o (dw t) k<kx o (dw t) i))
   (Q:=λc b=>b=t/\∃l,c=(M,l,l)/\l<=k/\(∀i,i<l->kx o (dw t) i<kx o (dw t) k)/\(∀i,l<=i->i<k->kx o (dw t) k<kx o (dw t) i)) (λq c b I H p =>?_) (λc b p =>?_) ⟨rfl,0,k,rfl,fc _,aM _,by omega,λi f=>by omega,λi f N=>by omega⟩) λc b p =>?_)
  ·obtain⟨rfl,l,r,rfl,G,v,R,j,f⟩:=p;dsimp only;by_cases e:l ≥ r
   ·rw[if_pos e];have:l=r:=by omega
    subst this;exact g_ ⟨rfl,l,rfl,v,j,f⟩
   ·rw[if_neg e];refine dy (C _ _ _ _ g (by omega) (by omega) (by omega) ?_);dsimp only;by_cases x:kx o (dw b) k<kx o (dw b) ((l+r)/2)
    ·rw[decide_eq_true x,if_pos rfl];refine g_ ⟨rfl,l,(l+r)/2,rfl,by omega,by omega,by omega,j,λi P O =>?_⟩;by_cases F:i=(l+r)/2
     ·subst F;exact x
     ·exact wM x (a _ _ (by omega) O)
    ·rw[decide_eq_false x,if_neg (by decide)];have S:=g.ne d (i:=k) (j:=(l+r)/2) (by omega) (by omega) (by omega);refine g_ ⟨rfl,(l+r)/2+1,r,rfl,by omega,v,by omega,λi P =>?_,f⟩;by_cases F:i=(l+r)/2
     ·subst F;omega
     ·have:=a i ((l+r)/2) (by omega) (by omega);omega
  ·obtain⟨rfl,l,r,rfl,G,v,R,j,f⟩:=p;have:l=r:=by omega
   subst this;exact⟨rfl,l,rfl,v,j,f⟩
  ·obtain⟨rfl,l,rfl,lk,j,f⟩:=p;dsimp only;rw[moveDown'_eq];refine dy (wpS_modify (g_ ⟨rfl,g.arr (bubble_perm _ _ _),?_⟩));exact RC (by rw[g.size];omega) lk a j f
 ·obtain⟨rfl,g,a⟩:=D;have:max m n=n:=by omega
  rw[this]at a;exact⟨rfl,g,a⟩
 ·obtain⟨rfl,g,a⟩:=J;exact g_ (h t g a)
theorem Mc{st:SortSt}{Q:Unit->SortSt->Prop}(C:UW prog w A E s a0 kd o)(d:Df o a0)(B:TB kd a0 st)(P:2<=a0.size)(m:a0.size<64)(h:∀t,(dw t).Perm a0->UY t=M->Up o (dw t) a0.size->Q () t):wpS (bB prog w) A E s sortRuns' Q st:=by
 rw[sortRuns'_eq];refine dy (wpS_get ?_);dsimp only;have I:minRun' a0.size a0.size 0=a0.size:=by
  have:∀n,0<n->n<64->minRun' n n 0=n:=λn R N=>by
   cases n with|zero=>omega|succ f=>rw[minRun'_succ,if_pos N,Nat.add_zero]
  exact this _ (by omega) m
 rw[B.size,I];refine dy (wpS_mono (ya (I:=λx c t=>if x=0 then c=(M,0)/\TB kd a0 t else c=(M,a0.size)/\(dw t).Perm a0/\UY t=M/\(oW t).size=1/\Up o (dw t) a0.size)
  (Q:=λc t=>c=(M,a0.size)/\(dw t).Perm a0/\UY t=M/\(oW t).size=1/\Up o (dw t) a0.size) (λx c t K J g =>?_) (λc t g =>?_) (by simpa using B)) λc t S =>?_)
 ·by_cases e:x=0
  ·subst e;simp only[if_true]at g;obtain⟨rfl,O⟩:=g;dsimp only;rw[if_neg (by omega),Nat.sub_zero];have oV:∀a,TB kd a0 a->Up o (dw a) a0.size->(dw (setPending a ((oW a).push (0,a0.size,0)))).Perm a0/\UY (setPending a ((oW a).push (0,a0.size,0)))=M/\(oW (setPending a ((oW a).push (0,a0.size,0)))).size=1/\Up o (dw (setPending a ((oW a).push (0,a0.size,0)))) a0.size:=λa b u=>⟨b.pm,b.fl,by show ((oW a).push _).size=1;rw[b.pd];rfl,u⟩
   refine dy (RY C d O rfl (by omega) λi D r k j v =>?_);dsimp only;by_cases F:i<a0.size
   ·rw[if_pos F];refine dy (wpS_lift (Ut ⟨rfl,?_⟩));rw[QU];refine dy (O8 C d r rfl k j v λy G H =>?_);simp only[Bool.not_true,dQ,if_false];refine dy (wpS_get ?_);rw[show (oW y).back? = M by rw[G.pd];rfl];dsimp only;refine dy (wpS_modify (g_ ?_));simp only[qV];exact⟨by simp,oV y G H⟩
   ·rw[if_neg F];have:i=a0.size:=by omega
    subst this;refine dy (wpS_get ?_);rw[show (oW D).back? = M by rw[r.pd];rfl];dsimp only;refine dy (wpS_modify (g_ ?_));simp only[qV];exact⟨by simp,oV D r v⟩
  ·simp only[if_neg e]at g;obtain⟨rfl,L⟩:=g;dsimp only;rw[if_pos (aM _)];exact g_ ⟨rfl,L⟩
 ·have:max 0 a0.size≠0:=by omega
  rw[if_neg this]at g;exact g
 ·obtain⟨rfl,p,f,q,u⟩:=S;dsimp only;refine dy (wpS_mono (ya (I:=λ_ c a=>a=t/\c=(M,())) (Q:=λc a=>a=t/\c=(M,())) (λx c a _ _ l =>?_) (λ_ _ z=>z) ⟨rfl,rfl⟩) λc a l =>?_)
  ·obtain⟨rfl,rfl⟩:=l;refine dy (wpS_get ?_);rw[if_pos (by rw[q];exact aM 1)];exact g_ ⟨rfl,rfl⟩
  ·obtain⟨rfl,rfl⟩:=l;exact g_ (h a p f u)
end
def nB(h:cF)(v:af)(n:Int):Prop:=∃a o b k t,v=.ref a/\h.get? a=Y o/\o.cls=.type "tuple" /\o.data=.seq b k/\b[0]?=Y (.int n t)
noncomputable def o5(h:cF):af->Int
 | .ref a=>match h.get? a with
  | some o=>match o.data with
   | .seq (b:Array af) _=>match (b[0]? : Option af) with
    |some (ko n _)=>n|_=>0
   |_=>0
  |none=>0
 |_=>0
theorem nB.key{v:af}(x:nB h v n):o5 h v=n:=by
 obtain⟨a,o,b,k,t,rfl,e,f,d,c⟩:=x;simp only[o5,e,d,c]
theorem nB.keep{h c:cF}{v:af}(x:nB h v n)(k:∀a o,h.get? a=Y o->c.get? a=Y o):nB c v n:=by
 obtain⟨a,o,b,e,t,rfl,f,d⟩:=x;exact⟨a,o,b,e,t,rfl,k a o f,d⟩
theorem KW(c:Bool)(x y:af):keyLt' (tuples' c) x y=(do
  let b <- Be x;let a <- Be y
  for ((p,q),i) in (b.toList.zip a.toList).zipIdx do
   if !(<- eqBool p q) then return <- oneLt' (c&&i==0) p q
  return b.size<a.size):=rfl
theorem H_(v:af):QP v=(do
  if (<- typeOf v) != .type "tuple" then return M
  return (<- Be v)[0]?):=rfl
section
variable {prog:bj}{w:bQ}{A:cf}{E:af->aq->Prop}{s:aq}
theorem Nb{m:Int}(q:nB s.heap x m)(p:nB s.heap y n)(g:m≠n)(h:Q (decide (m<n)) s):bE (bB prog w) A (keyLt' (tuples' Z') x y) Q E s:=by
 obtain⟨a,o,d,k,t,rfl,v,J,u,r⟩:=q;obtain⟨b,H,c,I,l,rfl,D,K,C,B⟩:=p;rw[KW];refine aD (UX v u (aD (UX D C ?_)));obtain⟨j,G⟩:∃j,d.toList=.int m t::j:=by
  have:d.toList[0]?=Y (.int m t):=by simpa using r
  cases e:d.toList with|nil=>rw[e]at this;cases this|cons z f=>rw[e]at this;simp at this;subst this;exact⟨f,rfl⟩
 obtain⟨i,F⟩:∃i,c.toList=.int n l::i:=by
  have:c.toList[0]?=Y (.int n l):=by simpa using B
  cases e:c.toList with|nil=>rw[e]at this;cases this|cons z f=>rw[e]at this;simp at this;subst this;exact⟨f,rfl⟩
 rw[G,F];simp only[cC,GY,List.forIn_cons];refine aD (aD (aD (wpAny_eqBool_int ?_)));have:(m==n)=false:=by simpa using g
 rw[this];simp only[Bool.not_false,if_true,Bool.true_and];refine aD (oneLt_int ?_);exact bG (bG (bG h))
theorem Ia{v:af}(d:nB s.heap v n)(h:∀t,Q (Y (.int n t)) s):bE (bB prog w) A (QP v) Q E s:=by
 obtain⟨a,o,b,k,t,rfl,c,g,f,e⟩:=d;rw[H_];refine aD (wpAny_typeOf (T:= "tuple") ⟨o,c,g⟩ ?_);rw[if_neg (by decide)];refine aD (UX c f (bG ?_));rw[e];exact h t
theorem CH:∀ {b:List af}{c:List Int}{Q:List (Option af)->aq->Prop},Paired (nB s.heap) b c->(∀a,Paired (λf n=>∃t,f=Y (ko n t)) a c->Q a s)->bE (bB prog w) A (b.mapM QP) Q E s
 |_,_,Q,.nil,h=>by rw[List.mapM_nil];exact bG (h [] .nil)
 |_,_,Q,.cons r t,h=>by rw[List.mapM_cons];refine aD (Ia r λd=>aD (CH t λa e=>bG (h _ (.cons ⟨d,rfl⟩ e))))
theorem EW:∀ {a:List (Option af)}{c:List Int},Paired (λf n=>∃t,f=Y (ko n t)) a c->(a.filterMap id).mapM typeOf=fm (c.map λ_=>oQ "int")/\a.all (·.isSome)=Z'
 |_,_,.nil=>⟨by simp,rfl⟩
 |_,_,.cons ⟨t,e⟩ r=>by obtain⟨g,d⟩:=EW r;subst e;refine⟨?_,by simp at d ⊢;exact d⟩;rw[qm];simp only[id,List.mapM_cons,g];show (fm (oQ "int") >>= λb=>fm _ >>= λh=>fm (b::h))=_;simp
theorem PZ{c:List af}{Q:SortKind->aq->Prop}(f:Paired (nB s.heap) c d)(k:c≠[])(h:Q (tuples' Z') s):bE (bB prog w) A (keyKind' c.toArray) Q E s:=by
 rw[keyKind'_eq,List.mapM_toArray];refine aD ?_;show bE _ _ (List.toArray <$> c.mapM QP) _ _ _;rw[map_eq_pure_bind];refine aD (CH f λe j=>bG ?_);obtain⟨i,g⟩:=EW j;rw[if_pos (by simpa using g)];refine aD (Ut ?_);rw[oneTypeOnly'_eq];have m:(e.toArray.filterMap id).mapM typeOf=fm (d.map λ_=>oQ "int").toArray:=by
  have:e.toArray.filterMap id=(e.filterMap id).toArray:=by simp
  rw[this,List.mapM_toArray,i];rfl
 rw[m];simp only[pure_bind];obtain⟨n,a,rfl⟩:∃n a,d=n::a:=by
  cases f with|nil=>exact absurd rfl k|cons r t=>exact⟨_,_,rfl⟩
 have l:(LM (λ_=>oQ "int") (n::a)).toArray[0]?=Y (oQ "int"):=by simp
 rw[l];have b:((LM (λ_=>oQ "int") (n::a)).toArray.all λx=>x==oQ "int")=true:=by simp only[List.all_toArray,nY,c7];intro _ _;rfl
 simp only[b,if_true,pure_bind];exact bG h
theorem KH{p:IG}(h:p∈(rV a).toList):p.1=p.2/\p.1∈a:=by
 rw[pairsOf_toList]at h;exact mem_zip_self h
theorem qC(h:Paired (nB b) c d):∀v∈c,nB b v (o5 b v):=by
 induction h with
 |nil=>intro v a;cases a
 |cons r t ih=>
  intro v a;rcases aK.mp a with rfl|a
  ·rw[r.key];exact r
  ·exact ih v a
theorem FE{a:List af}(h:Paired (nB s.heap) a b):a.map (o5 s.heap)=b:=by
 induction h with|nil=>rfl|cons r t ih=>rw[bh,r.key,ih]
theorem Qt{f:List Int}(g:Paired (nB s.heap) a f)(o:f.Nodup):UW prog w A E s (rV a) (tuples' Z') (o5 s.heap)/\Df (o5 s.heap) (rV a):=by
 have l:Df (o5 s.heap) (rV a):=by
  unfold Df;rw[pairsOf_toList];have:((a.zip a).map λp=>o5 s.heap p.1)=a.map (o5 s.heap):=by have:=congrArg (LM (o5 s.heap)) (List.map_fst_zip (l₁:=a) (l₂:=a) (aM _));rw[EC]at this;exact this
  rw[this,FE g];exact o
 refine⟨λst i j Q B d k e h =>?_,l⟩;have c:∀i,i<(rV a).size->∃x p,(dw st)[i]?=Y (x,p)/\nB s.heap x (kx (o5 s.heap) (dw st) i):=λi d=>by
  have b:i<(dw st).size:=by rw[B.size];exact d
  have r:(dw st)[i]∈(rV a).toList:=(rT.mp B.pm).mem_iff.mp (by simp);refine⟨(dw st)[i].1,(dw st)[i].2,getElem?_pos _ i b,?_⟩;have:=qC g _ (KH r).2;simpa [kx,b] using this
 obtain⟨x,p,u,n⟩:=c i d;obtain⟨y,q,t,m⟩:=c j k;rw[ltAt'_eq];refine dy (wpS_get ?_);show wpS _ _ _ _ (do let x <- elem' (dw st) i;let y <- elem' (dw st) j;lt' x y) Q st;rw[elem'_eq,elem'_eq,u,t];refine dy (g_ (dy (g_ ?_)));rw[lt'_eq];refine dy (wpS_get ?_);rw[B.kn];refine dy (wpS_lift (wpAny_attempt (Nb n m (B.ne l d k e) ⟨rfl,?_⟩)));exact g_ h
def Er(h:cF)(b:List af)(a:Array af):Prop:=a.toList.Perm b/\(a.toList.map (o5 h)).Pairwise (· < ·)
theorem MI{xs:Array IG}(g:xs.Perm (rV a))(u:Up (o5 s.heap) xs (rV a).size):Er s.heap a (xs.map (·.2)):=by
 have h:xs.toList.Perm (a.zip a):=by rw[<- pairsOf_toList];exact rT.mp g
 have e:(xs.map (·.2)).toList=xs.toList.map (·.1):=by rw[Array.toList_map];exact ql λp c=>((mem_zip_self (h.mem_iff.mp c)).1).symm
 refine⟨?_,?_⟩
 ·rw[e];have:=h.map (·.1);rwa [List.map_fst_zip (aM _)]at this
 ·rw[e,EC,sS];intro i j l k d;have f:i<xs.size:=by simpa using l
  have b:j<xs.size:=by simpa using k
  have:=u i j d (by rw[<- g.size_eq];exact b);simpa [kx,f,b] using this
end
section
variable {c:bj}{w:bQ}{A:cf}{E:af->aq->Prop}{s:aq}
theorem FF{h e:cF}(f:Paired (nB h) b d)(k:∀a o,h.get? a=Y o->e.get? a=Y o):Paired (nB e) b d:=by
 induction f with|nil=>exact .nil|cons r t ih=>exact .cons (r.keep k) ih
theorem KU{h b:cF}{v:af}(x:nB h v n)(k:∀a o,h.get? a=Y o->b.get? a=Y o):o5 b v=o5 h v:=by rw[x.key,(x.keep k).key]
theorem Er.back{h f:cF}(i:Paired (nB h) d g)(k:∀a o,h.get? a=Y o->f.get? a=Y o)(o:Er f d b):Er h d b:=by
 refine⟨o.1,?_⟩;have e:b.toList.map (o5 h)=b.toList.map (o5 f):=ql λv j=>by have:=qC i v (o.1.mem_iff.mp j);exact(KU this k).symm
 rw[e];exact o.2
theorem Mb{g:List af}{I:List Int}{P:Fin->aq->Prop}(K:s.heap.get? a=Y (Hc "list" g.toArray n))(F:Paired (nB s.heap) g I)(R:∀v∈g,v ≠ .ref a)(hn:I.Nodup)(V:g.length<64)(h:∀f,Er s.heap g f->P (.done (.ret .none)) { s with heap:=sortedHeap s.heap a g f }):bE (bB c w) A (Builtin.«list.sort» ⟨[.ref a],[]⟩) P E s:=by
 rw[list_sort_plain];refine aD (UX K rfl ?_);refine aD (listUpdate_at K rfl ?_);have T:=get?_update_seq K (λ_ =>#[]);refine aD (seqEpoch_at T rfl ?_);refine aD (wpAny_newTuple ?_);refine aD (wpAny_newList ?_);refine xU ?_;have y:=ak (Hc "list" #[] 0) (ak (Hc "tuple" g.toArray 0) T);generalize S:(((s.heap.update a (mF λ_ =>#[])).push (Hc "tuple" g.toArray 0)).push (Hc "list" #[] 0))=l at y;have O:∀b o,b≠a->s.heap.get? b=Y o->l.get? b=Y o:=λb o L q=>by rw[<- S];refine ak _ (ak _ ?_);rw[pR _ _ (cL L)];exact q
 have x:Paired (nB l) g I:=by
  have:∀ {D:List af}{J:List Int},Paired (nB s.heap) D J->(∀v∈D,v ≠ .ref a)->Paired (nB l) D J:=by
   intro D J G
   induction G with
   |nil=>intro _;exact .nil
   |cons r t ih=>intro Q;refine .cons ?_ (ih λv F=>Q v (av _ F));obtain⟨b,o,m,k,N,rfl,H,p⟩:=r;exact⟨b,o,m,k,N,rfl,O b o (λz=>Q _ ay (by rw[z])) H,p⟩
  exact this F R
 have B:∀f,Er l g f->Er s.heap g f:=λf o=>by
  refine⟨o.1,?_⟩;have e:f.toList.map (o5 s.heap)=f.toList.map (o5 l):=ql λv hm=>by
   have u:=o.1.mem_iff.mp hm;have U:=qC F v u;obtain⟨b,X,m,k,N,rfl,H,p⟩:=U;have L:b≠a:=λz=>R _ u (by rw[z])
   simp only[o5,H,O b X L H]
  rw[e];exact o.2
 show bE (bB c w) A _ P E { s with heap:=l };dsimp only;have sz:g.toArray.size=g.length:=by simp
 have oV:∀f,Er l g f->P (.done (.ret .none)) { s with heap:=l.update a (mF λ_=>f) }:=λf o=>by have:=h f (B f o);unfold sortedHeap at this;rw[S]at this;exact this
 by_cases p:g.toArray.size<2
 ·rw[if_pos p,if_pos p];refine aD (bG ?_);rw[StateT.run_pure];refine aD (bG ?_);dsimp only;refine aD (seqEpoch_at y rfl ?_);refine aD (listUpdate_at y rfl ?_ (hsz2:=by rw[Array.size_map];show (rV g).size<=_;rw[Hd,jO];omega));simp only[bne_self_eq_false,dQ,if_false];refine bG (oV _ (MI (s:={ s with heap:=l }) (xs:=rV g) (Array.Perm.refl _) λi j UN hj =>?_));rw[Hd]at hj;omega
 ·rw[if_neg p,if_neg p];refine aD (PZ (s:={ s with heap:=l }) x (λz=>p (by rw[z];decide)) ?_);obtain⟨C,d⟩:=Qt (prog:=c) (w:=w) (A:=A) (E:=E) (s:={ s with heap:=l }) x hn;refine aD (il (Mc (a0:=rV g) (kd:=tuples' Z') (st:=SortSt.mk' (tuples' Z') (g.toArray.zip g.toArray) #[] 7 M) (Q:=λ_ t=>(dw t).Perm (rV g)/\UY t=M/\Up (o5 l) (dw t) (rV g).size) C d ⟨Array.Perm.refl _,rfl,rfl,rfl⟩ (by rw[Hd];omega) (by rw[Hd];exact V) λt a1 a2 a3=>⟨a1,a2,a3⟩) ?_ λ_ _ e=>e);rintro⟨⟨⟩,t⟩ s' ⟨rfl,G,hf,hu⟩;dsimp only;refine aD (seqEpoch_at y rfl ?_);refine aD (listUpdate_at y rfl ?_ (hsz2:=by refine bX (QV ((Array.size_map ..).trans (G.size_eq.trans (Hd _)))) ?_;rw[jO];omega));rw[hf];simp only[bne_self_eq_false,dQ,if_false];exact bG (oV _ (MI (s:={ s with heap:=l }) G hu))
theorem Hz{a:List af}{x:List Int}(F:s.heap.IsList l a.toArray)(m:Paired (nB s.heap) a x)(C:x.Nodup)(r:a.length<64)(h:∀d,Er s.heap a d->Q (.ref (s.heap.objs.size+1)) { s with heap:=sortedAll s.heap a d }):bE (bB c w) A (call (.builtin "sorted") [.ref l]) Q E s:=by
 refine Calls.call_function_entry kind_sorted plain_sorted entry_sorted (args_sorted1 _) ?_;unfold Builtin.«sorted»;refine aD (m:=checkCount "sorted" 1 1 _) (bG ?_);refine aD (collect_list F ?_);refine aD (wpAny_newList ?_);generalize p:(s.heap.push (Hc "list" #[] 0)).update s.heap.objs.size (mF (· ++ a.toArray))=g;have u:g.objs.size=s.heap.objs.size+1:=by rw[<- p,Heap.size_update,size_push']
 have y:∀b o,s.heap.get? b=Y o->(g.push (Hc "list" a.toArray 0)).get? b=Y o:=λb o q=>by refine ak _ ?_;rw[<- p,pR _ _ (λz=>by have:=aV q;rw[<- z]at this;exact jz _ this)];exact ak _ q
 have f:(g.push (Hc "list" a.toArray 0)).get? (s.heap.objs.size+1)=Y (Hc "list" a.toArray 0):=by rw[<- u];exact bD _ rfl
 have j:=FF m y;have n:∀v∈a,v ≠ .ref (s.heap.objs.size+1):=λv D z=>by
  obtain⟨b,o,i,k,t,rfl,G,_⟩:=qC m v D;have e:b=s.heap.objs.size+1:=by cases z;rfl
  have:=aV G;rw[e]at this;exact absurd this (by simp)
 show bE _ _ _ _ _ { s with heap:=g.push (Hc "list" a.toArray 0) };rw[u];refine aD (xU (wpAny_call_entry slot_list_sort ⟨_,f,rfl⟩ entry_list_sort (Mb (s:={ s with heap:=g.push (Hc "list" a.toArray 0) }) f j n C r λd B=>⟨_,rfl,?_⟩) (args_list_sort _)));refine bG ⟨_,rfl,?_⟩;have:=h d (B.back m y);unfold sortedAll at this;rw[p]at this;exact this
end
theorem FD{m:Type}{R:m->k->Prop}{o:List k}(p:o.Perm n):∀ {a:List m},Paired R a o->∃b,b.Perm a/\Paired R b n:=by
 induction p with
 |nil=>intro a h;cases h;exact⟨[],.rfl,.nil⟩
 |cons u _ ih=>
  intro a h;cases h with
  |cons r t=>obtain⟨b,e,d⟩:=ih t;exact⟨_::b,e.cons _,.cons r d⟩
 |swap u v l=>
  intro a h;cases h with
  | cons r t=>cases t with
   |cons w s=>exact⟨_,.swap _ _ _,.cons w (.cons r s)⟩
 |trans _ _ j f=>intro a h;obtain⟨b,e,d⟩:=j h;obtain⟨q,y,x⟩:=f d;exact⟨q,y.trans e,x⟩
theorem Kw{K:bb}{s q:List V}(p:s.Perm q):∀ {a:List D},bx K G a s->∃f,f.Perm a/\bx K G f q:=by
 induction p with
 | nil=>intro a h;cases a with
  |nil=>exact⟨[],.rfl,.nil⟩|cons d a=>obtain⟨_,_,e,_⟩:=bJ.mp h;cases e
 |cons u _ ih=>
  intro a h;cases a with
  |nil=>have:=dz.mp h;cases this
  |cons d a=>obtain⟨v,r,e,j,b⟩:=bJ.mp h;cases e;obtain⟨f,m,k⟩:=ih b;exact⟨d::f,m.cons _,.cons j k⟩
 |swap u v l=>
  intro a h;cases a with
  |nil=>have:=dz.mp h;cases this
  |cons d a=>
   obtain⟨_,_,e,j,b⟩:=bJ.mp h;cases e;cases a with
   |nil=>have:=dz.mp b;cases this
   |cons A a=>obtain⟨_,_,e,x,w⟩:=bJ.mp b;cases e;exact⟨A::d::a,.swap _ _ _,.cons x (.cons j w)⟩
 |trans _ _ o n=>intro a h;obtain⟨B,m,k⟩:=o h;obtain⟨t,z,y⟩:=n k;exact⟨t,z.trans m,y⟩
theorem Fl{j:Type}{d:j->Int}:∀ {l m:List j},l.Perm m->(l.map d).Pairwise (· < ·)->(m.map d).Pairwise (· < ·)->l=m
 |[],m,p,_,_=>by rw[List.Perm.nil_eq p]
 |a::l,[],p,_,_=>by have:=p.length_eq;simp at this
 | a::l,b::m,p,h,f=>by
  simp only[bh,rR]at h f;have e:a=b:=by
   rcases aK.mp (p.subset (ay (a:=a) (l:=l))) with z|z
   ·exact z
   ·rcases aK.mp (p.symm.subset (ay (a:=b) (l:=m))) with y|y
    ·exact y.symm
    ·have n:=h.1 (d b) (UZ y);have k:=f.1 (d a) (UZ z);omega
  subst e;rw[Fl (List.Perm.cons_inv p) h.2 f.2]
noncomputable def DU(a:D->Int)(d:D):List D->List D
 |[]=>[d]|x::b=>if a d<a x then d::x::b else x::DU a d b
noncomputable def Hx(a:D->Int):List D->List D
 |[]=>[]|d::b=>DU a d (Hx a b)
theorem xr(a:D->Int)(d:D):∀l,(DU a d l).Perm (d::l)
 |[] =>.rfl| x::b=>by
  unfold DU;split
  ·exact .rfl
  ·exact((xr a d b).cons x).trans (.swap _ _ _)
theorem wW(a:D->Int):∀l,(Hx a l).Perm l
 |[] =>.rfl|d::b=>(xr a d _).trans ((wW a b).cons d)
theorem CC:∀ {l:List D},(l.map a).Pairwise (· < ·)->a d∉l.map a->((DU a d l).map a).Pairwise (· < ·)
 |[],_,_=>by simp[DU]
 | x::f,h,j=>by
  simp only[bh,rR,aK,not_or]at h j;unfold DU;split
  ·rename_i b;simp only[bh,rR,aK];refine⟨?_,h⟩;rintro k (rfl|e)
   ·exact b
   ·exact wM b (h.1 k e)
  ·rename_i m;simp only[bh,rR];refine⟨λk e =>?_,CC h.2 j.2⟩;have:k∈(d::f).map a:=((xr a d f).map a).subset e;rcases aK.mp this with z|z
   ·rw[z];omega
   ·exact h.1 k z
theorem Cf:∀ {l:List D},(l.map a).Nodup->((Hx a l).map a).Pairwise (· < ·)
 |[],_ =>.nil|d::b,h=>by simp only[bh,qj]at h;exact CC (Cf h.2) λz=>h.1 (((wW a b).map a).subset z)
noncomputable def Rh:D->Int
 |.tup (.int n::_)=>n|_=>0
noncomputable def V6:D->Bool
 |.tup (.int _::_)=>Z'|_=>Z_
section
variable {X:Cx}{own:List Nat}{e:Expr}{f:DF}{p q g i:Pos}{c:TE}
def RK(K:bb)(c:TE):TE:=λe H Q=>c e H λx d=>∃a b,x=.ref a/\n9 K d a (b.map V.int)/\b.length<64/\∀l,d l=M->Q (.ref l) (eN d l (.lst ((yS b).map V.int)))
theorem My(R:Gl X "sorted")(N:X.mg "sorted" = M)(O:PE X e c)(D:ao [e] X.env=(Z_,eval e X.env)::ao [] X.env:=by rfl)(y:iR "sorted" = Y (.builtin "sorted"):=by decide +kernel):PE X (.Call (.Name "sorted" p) [e] [] g) (RK X.K c):=by
 intro f s F H Q I h;refine jk (qF I R N y ?_);refine o9 ?_ D rfl;refine gD (f7 O kj D g f s F H (λr n=>match r with|[x]=>∃a d,x=.ref a/\n9 X.K n a (d.map V.int)/\d.length<64/\∀l,n l=M->Q (.ref l) (eN n l (.lst ((yS d).map V.int)))|_=>False) I h) λus C ⟨r,n,B,K,v⟩ =>?_
 cases r with
 |nil=>exact v.elim|cons x t=>
  cases t with
  |cons _ _=>exact v.elim|nil=>
   obtain⟨a,d,rfl,i,A,q⟩:=v;obtain⟨u,rfl,J⟩:=cK.one K;cases J;obtain⟨m,G,L,hz⟩:=B.list i;have E:Hf m d:=vT G;refine sorted_ints L.isList E (by rw[Gc E];exact A) λj w a1 U T =>?_
   have S:w=yS d:=RS U T;subst S;obtain⟨k,P⟩:=sortedAll_at C.heap m j;refine⟨.ref _,_,B.laid (t':=C.toks) (λb o z=>sortedAll_old z) (jZ _) (show i6 X.prog X.w _ _ _ (.lst ((yS d).map V.int)) from⟨?_,j.toList,k,C2 a1,?_⟩),rfl,q _ (B.jo.fresh (jZ _))⟩
   ·rw[au,(lJ _).length_eq];have e:br ≥ 64:=by decide
    omega
   ·rw[Uz];exact P
def lU(f:DF):DL:=λb=>(f b).bind λd=>match d with|.lst e=>(Cz e).bind λa=>if a.length<64 then Y ((yS a).map D.int) else M|_=>M
theorem AN(x:Gl X "sorted")(w:X.mg "sorted" = M)(h:PE X e (tQ X.K own f))(u:ao [e] X.env=(Z_,eval e X.env)::ao [] X.env:=by rfl):PE X (.Call (.Name "sorted" p) [e] [] g) (tF X.K own (lU f)):=
 (My x w h u).imp <|by
  rintro D H Q ⟨G,q,I,z,n,b,k⟩;unfold lU at b;obtain⟨d,B,b⟩:=ae.1 b;split at b
  ·rename_i E;obtain⟨s,A,b⟩:=ae.1 b;split at b
   ·rename_i t;cases b;refine⟨G,q,_,z,n,B,λv C J j r =>?_⟩;obtain⟨a,F,rfl,y,o⟩:=r.lst j.gh;rw[Al A]at o;have:=w3.mp o;subst this;exact⟨a,s,rfl,.of y,t,λl m=>k l _ C _ (j.trans (gO.lay (p:=l) j.gh m)) (j.hh.free m) (j.gh.free m) bM (bx.ints _)⟩
   ·cases b
  ·cases b
def LV(H:Hp)(v:V)(n:Int):Prop:=∃b a,v=.ref b/\H b=Y (.tup (.int n::a))
def RJ(K:bb)(c:TE):TE:=λj H Q=>c j H λx b=>∃a d f,x=.ref a/\n9 K b a d/\Paired (LV b) d f/\f.Nodup/\d.length<64/\∀l e h,b l=M->e.Perm d->Paired (LV b) e h->h.Pairwise (· < ·)->Q (.ref l) (eN b l (.lst e))
theorem HU{s:aq}(I:Inv X d j H s):∀ {f:List V}{h:List Int}{a:List af},Paired (LV H) f h->cK f a->Paired (nB s.heap) a h
 |_,_,_,.nil,.nil =>.nil| _,_,_,.cons ⟨b,x,e,w⟩ t,.cons r m=>by
  subst e;cases r;obtain⟨y,a,n,o,q,v,k,u⟩:=I.jo b _ w;cases n with
  |cons p _=>obtain⟨l,rfl⟩:=p;exact .cons ⟨b,o,_,k,l,rfl,q,v,u,by simp⟩ (HU I t m)
theorem Jm{f:St}{s:aq}(I:Inv X a f H s):∀ {b:List V}{d:List af},cK b d->(∀y∈b,∃n,LV H y n)->Paired (LV H) b (d.map (o5 s.heap))
 |_,_,.nil,_ =>.nil| _,_,.cons r k,h=>by
  obtain⟨n,e⟩:=h _ ay;have t:=HU I (.cons e .nil) (.cons r .nil);cases t with
  |cons j _=>refine .cons ?_ (Jm I k λy l=>h y (av _ l));rw[j.key];exact e
theorem SW(h:Paired (LV H) b d):∀y∈b,∃n,LV H y n:=by
 induction h with
 |nil=>intro y a;cases a
 |cons r t ih=>
  intro y a;rcases aK.mp a with rfl|a
  ·exact⟨_,r⟩
  ·exact ih y a
theorem Mx(hg:Gl X "sorted")(hm:X.mg "sorted" = M)(hl:PE X e c)(i:ao [e] X.env=(Z_,eval e X.env)::ao [] X.env:=by rfl)(E:iR "sorted" = Y (.builtin "sorted"):=by decide +kernel):PE X (.Call (.Name "sorted" p) [e] [] g) (RJ X.K c):=by
 intro m s P H Q I h;refine jk (qF I hg hm E ?_);refine o9 ?_ i rfl;refine gD (f7 hl kj i g m s P H (λv f=>match v with|[x]=>∃a j C,x=.ref a/\n9 X.K f a j/\Paired (LV f) j C/\C.Nodup/\j.length<64/\∀l d L,f l=M->d.Perm j->Paired (LV f) d L->L.Pairwise (· < ·)->Q (.ref l) (eN f l (.lst d))|_=>False) I h) λus J ⟨v,f,r,S,A⟩ =>?_
 cases v with
 |nil=>exact A.elim|cons x t=>
  cases t with
  |cons _ _=>exact A.elim|nil=>
   obtain⟨a,j,C,rfl,hq,O,hn,G,q⟩:=A;obtain⟨u,rfl,R⟩:=cK.one S;cases R;obtain⟨D,w,T,hz⟩:=r.list hq;refine Hz T.isList (HU r O w) hn (by rw[<- w.length];exact G) λn N =>?_
   obtain⟨d,B,K⟩:=FD N.1.symm w;obtain⟨k,F⟩:=sortedAll_at J.heap D n;refine⟨.ref _,_,r.laid (t':=J.toks) (λb o z=>sortedAll_old z) (jZ _) (show i6 X.prog X.w _ _ _ (.lst d) from⟨?_,n.toList,k,K,?_⟩),rfl,q _ d _ (r.jo.fresh (jZ _)) B (Jm r K λy U=>SW O y (B.subset U)) N.2⟩
   ·rw[B.length_eq];have e:br ≥ 64:=by decide
    omega
   ·rw[Uz];exact F
def xw(f:DF):DL:=λρ=>(f ρ).bind λd=>match d with|.lst a=>if (a.all V6=Z'/\(a.map Rh).Nodup)/\a.length<64 then Y (Hx Rh a) else M|_=>M
theorem Nf(h:V6 d=Z'):∃b,d=.tup (.int (Rh d)::b):=by
 cases d with
 |tup a=>
  cases a with
  |nil=>cases h|cons x a=>cases x<;>first|exact⟨a,rfl⟩|cases h
 |_=>cases h
theorem DI{K:bb}(s:bF G H):∀ {f:List D}{a:List V},f.all V6=Z'->bx K G f a->Paired (LV H) a (f.map Rh)
 |[],a,_,r=>by rw[dz.mp r];exact .nil
 |d::f,a,h,r=>by obtain⟨v,t,rfl,l,o⟩:=bJ.mp r;simp only[mH,aH]at h;refine .cons ?_ (DI s h.2 o);obtain⟨p,e⟩:=Nf h.1;rw[e]at l;obtain⟨b,q,rfl,m,n⟩:=fQ.mp l;obtain⟨w,j,rfl,k,_⟩:=bJ.mp n;rw[cg.mp k]at m;exact⟨b,j,rfl,s _ _ m⟩
theorem Jl:∀ {d:List V}{f h:List Int},Paired (LV H) d f->Paired (LV H) d h->f=h
 |_,_,_,.nil,.nil=>rfl|_,_,_,.cons ⟨b,n,e,l⟩ t,.cons ⟨o,j,m,a⟩ k=>by subst e;cases m;rw[l]at a;cases a;rw[Jl t k]
theorem NQ(hg:Gl X "sorted")(hm:X.mg "sorted" = M)(h:PE X e (tQ X.K own f))(hs:ao [e] X.env=(Z_,eval e X.env)::ao [] X.env:=by rfl):PE X (.Call (.Name "sorted" p) [e] [] g) (tF X.K own (xw f)):=
 (Mx hg hm h hs).imp <|by
  rintro σ H Q ⟨G,ρ,ds,gh,env,eq,k⟩;unfold xw at eq;obtain⟨d,ef,eq⟩:=ae.1 eq;split at eq
  ·rename_i xs;split at eq
   ·rename_i hz;cases eq;refine⟨G,ρ,_,gh,env,ef,λv G1 H1 E1 r1 =>?_⟩;obtain⟨a,vs,rfl,ha,rs⟩:=r1.lst E1.gh;refine⟨a,vs,_,rfl,.of ha,DI E1.gh hz.1.1 rs,hz.1.2,by rw[<- rs.length];exact hz.2,λl ys ms hl p1 q1 q2 =>?_⟩;obtain⟨zs,p2,rz⟩:=Kw p1.symm rs;have YQ:zs.all V6=true:=by rw[c7];intro z hz';exact c7.mp hz.1.1 z (p2.subset hz')
    have e1:=Jl q1 (DI E1.gh YQ rz);rw[e1]at q2;have e2:zs=Hx Rh xs:=Fl (p2.trans (wW Rh xs).symm) q2 (Cf hz.1.2);rw[e2]at rz;exact k l ys G1 _ (E1.trans (gO.lay (p:=l) E1.gh hl)) (E1.hh.free hl) (E1.gh.free hl) bM rz
   ·cases eq
  ·cases eq
end
section
variable {X:Cx}{B:Bs}{u own:List Nat}{e o:Expr}{J:List Expr}{A O p I U:Pos}{pl:Sem Bool}
noncomputable def cO(c m:aG)(F:List D->Option D)(f:DF)(g:DL):DF:=λa=>(f a).bind λx=>match x with
 |.ins d b h=>if d=c/\m∉b then (g a).bind λe=>F (.ins d b h::e) else M
 |_=>M
theorem F2{m:aG}{F:List D->Option D}{e:St}(n:o8 X.K ba c=Y (Y (.ref C)))(u:∀e H Q,Hr X.K own g e H Q->t e H Q)(h:tP X.K own (cO c m F k g) e H Q):E9 C m (i4 X.K F) [] E0 (tP X.K own k) t e H Q:=by
 obtain⟨G,i,d,T,f,b,q⟩:=h;unfold cO at b;rcases p:k i with _|x
 ·rw[p]at b;cases b
 rw[p]at b;simp only[aa]at b;split at b
 ·rename_i c' ks ds;split at b
  ·rename_i R;obtain⟨rfl,P⟩:=R;rcases o:g i with _|z
   ·rw[o]at b;cases b
   rw[o]at b;refine⟨G,i,_,T,f,p,λv y H1 j s =>?_⟩;obtain⟨a,C',dx,vs,rfl,w,S,l,rs⟩:=qy.mp s;rw[n]at w;cases w;refine⟨a,dx,_,rfl,j.gh _ _ S,p8 (K:=X.K) (G:=y) P,u _ _ _ ⟨y,i,z,j.gh,f.ext j,o,λB G2 H2 r K =>?_⟩⟩;show i4 X.K F (.ref a::(B++[])) H2 Q E0;rw[cM];exact⟨G2,_,d,r.gh,.cons (dg.mono r.gg _ s) K,b,λv G3 H3 E3 E=>q v G3 H3 ((j.trans r).trans E3) E⟩
  ·cases b
 ·cases b
theorem ly{c m:aG}{F:List D->Option D}(h:fB X.prog X.w X.K X.mg X.base c m k (i4 X.K F))(g:f' k X.A)(i:PE X o (tP X.K own b)) (e:eval (.Call (.Attribute o m I) [] [] A) X.env=(do
   let a <- eval o X.env
   rA I.atName
   let (f,first) <- n_ [a] (m6 a m pl)
   rO A f first (dh A (ao [] X.env)) (jl A (d5 [] X.env))):=by rfl):PE X (.Call (.Attribute o m I) [] [] A) (tP X.K own (cO c m F b aN)):=by
 obtain⟨C,f,y,x,n,l,j,r,p⟩:=h.ex;exact(zQ (pl:=pl) i l j r g p .nil pZ e).imp λd H Q q=>F2 n (λd H Q ⟨G,w,z,s,v,t,k⟩=>by cases t;exact k _ G H (.refl s) .nil) q
theorem mX{c m:aG}{F:List D->Option D}{i:DF}{g:DL}(h:fB X.prog X.w X.K X.mg X.base c m k (i4 X.K F))(l:f' k X.A)(p:PE X o (tP X.K own i))(v:PA X (e::J) (Hr X.K own g))(a:ao (e::J) X.env=(Z_,eval e X.env)::ao J X.env:=by rfl)(b:(dh A (ao J X.env)).any (·.1)=false:=by rfl) (j:eval (.Call (.Attribute o m I) (e::J) [] A) X.env=(do
   let d <- eval o X.env
   rA I.atName
   let (f,first) <- n_ [d] (m6 d m pl)
   rO A f first (dh A (ao (e::J) X.env)) (jl A (d5 [] X.env))):=by rfl):PE X (.Call (.Attribute o m I) (e::J) [] A) (tP X.K own (cO c m F i g)):=by
 obtain⟨C,f,B,y,n,s,r,w,t⟩:=h.ex;exact(Dp (pl:=pl) p s r w l t .nil pZ v a b j).imp λx H Q q=>F2 n (λ_ _ _ z=>z) q
def Dw(a:Bool):D->D->Option D
 |y,.ig b c=>(DJ y).map λk =>.bl (if a then !(eX b c k).isSome else (eX b c k).isSome)
 |_,_=>M
theorem M6{K:bb}{a:List iY}(r:bx K G b c):(tH (a.zip c) k).isSome=(eX a b k).isSome:=by
 rcases e:eX a b k with _|d
 ·rw[uZ r e];rfl
 obtain⟨v,f,_⟩:=qM r e;rw[f];rfl
variable {L N:DF}
theorem Li(n:X.A.units+1<rP)(s:PE X e (tQ X.K own L))(r:PE X o (tQ X.K own N))(t:iT .NotIn o=false:=by rfl):PT X (.Compare e [.NotIn] [o] A) (ui X.K own (dk (e2 (Dw Z') L N))):=
 (R5 (KG n s r) t).imp <|by
  rintro I H Q ⟨G,h,d,w,c,C,q⟩;obtain⟨x,y,B,z,b⟩:=D_ (rZ C);cases y<;>simp only[Dw]at b<;>try (cases b;done)
  rename_i R T;obtain⟨S,D,b⟩:=aS.1 b;simp only[bI,if_true]at b;cases b;refine⟨G,h,x,w,c,B,λv K H1 g k=>⟨K,h,_,g.gh,c.ext g,z,λu F E f j =>?_⟩⟩;obtain⟨a,P,rfl,p,l,i⟩:=j.TV f.gh;have m:=vO D (k.ext f);subst m;exact⟨a,_,rfl,yM.k p,_,rfl,by rw[M6 i];exact q F E (g.trans f)⟩
def FK:D->D->Option D
 |.ig a b,y=>(DJ y).bind λk=>eX a b k
 |_,_=>M
theorem Qm(p:X.A.units+1<rP)(z:PE X o (tQ X.K own L))(t:PE X e (tQ X.K own N))(r:Ul e:=by exact λ_ _=>rfl):PE X (.Subscript o e A) (tP X.K own (e2 FK L N)):=
 (Pk p z t r).imp <|by
  rintro S H Q ⟨G,i,d,B,c,F,q⟩;obtain⟨x,y,D,C,b⟩:=D_ F;cases x<;>simp only[FK]at b<;>try (cases b;done)
  rename_i ks ds;obtain⟨kk,K,b⟩:=ae.1 b;refine⟨G,i,_,B,c,D,λv R H1 h m=>⟨R,i,y,h.gh,c.ext h,C,λu P I g k =>?_⟩⟩;obtain⟨a,T,rfl,s,l,j⟩:=(m.ext g).TV g.gh;have n:=vO K k;subst n;obtain⟨w,E,f⟩:=qM j b;exact⟨a,w,rfl,by rw[<- E];exact yM.k s,q w P I (h.trans g) f⟩
def zD(i j:Nat)(c m:aG)(s:Sk)(F:List D->Option (List D×D)):DG:=λa=>(yQ j a).bind λd=>match d.1,d.2 with
 |.fs f _,.ins b e _=>if (f=c/\b=c)/\m∉e then (j8 s j a).bind λt=>(F [t]).map λr =>.nx (((c8 j a).set j (Y (.obj s r.2))).set i (Y (.lst r.1))) else M
 |_,_=>M
theorem NH{i:Nat}{c m:aG}{s:Sk}{F:List D->Option (List D×D)}(hN:X.N.Nodup)(hx:X.N[i]?=Y x)(hlx:Loc X.env.scope x)(h:fB X.prog X.w X.K X.mg X.base c m k (OP X.K s F))(hr:f' k X.A)(ho:PE X (.Name y p) (kr j))(hj:j∈own:=by decide)(L:i∈own:=by decide)(UN:j≠i:=by decide)(Q:∀a,(i,a)∉B.3:=by intro a;simp_all)(hm2:Cu i∉own:=by decide) (ht:eval (.Call (.Attribute (.Name y p) m I) [] [] A) X.env=(do
   let ov <- eval (.Name y p) X.env
   rA I.atName
   let (f,first) <- n_ [ov] (m6 ov m pl)
   rO A f first (dh A (ao [] X.env)) (jl A (d5 [] X.env))):=by rfl) (hs:c5 (.Call (.Attribute (.Name y p) m I) [] [] A) (Y (.Name x O)) U.line X.env=fm false:=by rfl) (hf:X.fn x=Z'∨X.env.scope.names.lookup x=Y .local:=by first|exact .inl rfl|exact .inr rfl|assumption) :
  PS X (.Assign [.Name x O] (.Call (.Attribute (.Name y p) m I) [] [] A) U) (lq X.K B u own own (zD i j c m s F)):=by
 obtain⟨C,f,fd,ps,n,hc,hm,h1,g⟩:=h.ex;refine(sh hN hx hlx (zQ (pl:=pl) ho hc hm h1 hr g .nil pZ ht) hs hf).imp λD σ H ⟨G,ρ,o,S,t,q⟩ =>?_
 unfold zD at t;rcases et:yQ j ρ with _|⟨s0,t0⟩
 ·rw[et]at t;cases t
 rw[et]at t;simp only[aa]at t;split at t
 ·rename_i c' fk Y4 ks ds;split at t
  ·rename_i hz;obtain⟨⟨rfl,rfl⟩,hmk⟩:=hz;rcases J:j8 s j ρ with _|t1
   ·rw[J]at t;cases t
   rw[J]at t;simp only[aa]at t;rcases eF:F [t1] with _|⟨zs,t'⟩
   ·rw[eF]at t;cases t
   rw[eF]at t;cases t;have hd:=mS et;have K:=mi J;rw[K]at hd;obtain⟨a,T,e1,ot,nd,nf,F1,W1,hF1⟩:=S.tree hj K;obtain⟨dx,vs,ex⟩:∃dx vs,H a=Y (.ins C dx (ks.zip vs)):=by
    cases hd;cases ot with|ins n' ex l tt=>rw[n]at n';cases n';exact⟨_,_,ex⟩
   refine⟨_,e1,a,dx,_,rfl,ex,p8 (K:=X.K) (G:=G) hmk,?_⟩;refine⟨G,t1,[],zs,t',a,T,[],S.gh,rfl,ot,nd,λb g=>(nf b g).1,.nil,eF,λq' ws T' G' H' E nw ndw P gq fq nq hq rq =>?_⟩;have hu:=lp (r:=j) K (λq z=>by cases z);have W0:qf X.K B own G H σ (c8 j ρ) F1:=⟨λi d L e=>W1.it i d L (bP e).1,λi d L e=>W1.ok i d L (bP e).1,λi j d c L hj ei ej=>W1.ap i j d c L hj (bP ei).1 (bP ej).1⟩;have R:=(S.Ki (r:=j)).Io (i:=j) (a:=a) (d' :=.obj s t') (F0:=T) (S':=T') (G':=G') (H':=H') W0 hj (λb g=>⟨by rw[hF1];exact g,_,hu⟩) E.gg E.gh (λb o e=>by
     rcases E.fr b o e with z|z
     ·exact .inl z
     ·by_cases g:b∈T
      ·exact .inr (.inr g)
      ·rw[dn g]at z;exact .inr (.inl z))
    (λb o g e=>E.hh b o (by rw[dn g];exact e)) nw ndw (λb g=>⟨(P b g).1,by rcases(P b g).2 with z|z;exact .inl z;exact .inr (.inl z)⟩) (λb h=>by have:=(S.pin j b h).2;rw[e1]at this;cases this;rfl) (λr p z=>by cases z)
    (λj' p _ _ _ e=>absurd rfl ((bP e).2 p))
   rw[iD e1]at R;obtain⟨Sr,Wr⟩:=R;have R2:=(Sr.Io (i:=i) (a:=q') (d' :=.lst zs) (F0:=[]) (S':=[q']) (G':=G') (H':=H') Wr L (λb g=>by cases g) (bF.refl _) Sr.gh (λb o e =>.inl e) (λb o _ e=>e)
    ((nS.cell rfl).mpr ⟨⟨_,hq,ws,rfl,rq⟩,rfl⟩) (by simp) (λb g=>by
     simp at g;subst g;have hB:B.2 b=none:=by
      rcases fq with z|z
      ·exact(nf b z).2
      ·exact S.h0.free z
     refine⟨gq,.inr (.inr ⟨hB,λk cc hk ek Jq v =>?_⟩)⟩;by_cases w:k=j
     ·subst w;simp only[if_true]at v;exact nq v
     ·simp only[if_neg w]at v;rw[aw (cL w)]at ek;have ek':=(bP ek).1;rcases fq with z|z
      ·exact W1.ap j k _ cc hj hk K ek' (cL w) b (by rw[hF1];exact z) v
      ·obtain⟨y,f1,f2⟩:=W1.it k cc hk ek';obtain⟨o,ho⟩:=f2.here b v;rw[ho]at z;cases z) (λb h=>absurd h (Q b)) (λr p z=>by cases z)
    (λj' p h1 h2 _ e=>by obtain⟨_,g0,_⟩:=Sr.eH j' i p h1 h2 e;exact absurd g0 hm2)).1
   exact q _ G' H' R2
  ·cases t
 ·cases t
end
section
variable {X:Cx}{own:List Nat}{o:Expr}{g:DF}{l m:Pos}
def VC:V->List V->Hp->VK->Prop:=λx a H Q=>∃i,x=.int i/\a=[]/\Q (.int (G9 i)) H
theorem PF:Y_ X "int.bit_length" VC:=by
 intro b s e H x f v j Q I c d h;obtain⟨i,rfl,rfl,q⟩:=h;obtain⟨t,rfl⟩:=c;have a:=d.zero;subst a;exact call_int_bit_length ⟨.int _,H,I.tok _,⟨_,rfl⟩,q⟩
noncomputable def Og:D->Option D
 |.int i=>Y (.int (G9 i))|_=>M
theorem Qn(i:PE X o (tQ X.K own g))(b:cy o "bit_length" X.env (eval o X.env)=eval o X.env:=by rfl)(a:(l.endLine==m.line)=true:=by rfl):PE X (.Call (.Attribute o "bit_length" l) [] [] m) (tP X.K own (e1 Og g)):=
 (HD PySem.F.plainAttrs_int PySem.F.slot_int_bit_length PySem.F.type_int_bit_length PF i b a).imp <|by
  rintro w H Q ⟨G,h,d,j,e,p,q⟩;obtain⟨x,k,c⟩:=Ea p;cases x<;>simp only[Og]at c<;>try (cases c;done)
  cases c;exact⟨G,h,_,j,e,k,λv s r t f=>⟨by rw[f.int];rfl,_,f.int,rfl,q _ s r t (cg.mpr rfl)⟩⟩
end
section
variable {X:Cx}{B:Bs}{y own A:List Nat}{e o:Expr}{n u p:Pos}
def De(b:Bool)(j:Nat)(c f:aG)(e:DM):DG:=λd=>(e d).bind λw=>(G_ b j w.2).bind λq=>(yQ q.1 w.2).bind λa=>(yB c a.1 a.2 q.2).bind λz=>
 if Gb (du z.1 f)=Z'/\z.2.1.length<999 then Y (.nx (w.2.set q.1 (Y (.obj a.1 (mU (.ins c (jj f w.1 z.2.1 z.2.2).1 (jj f w.1 z.2.1 z.2.2).2) q.2 a.2))))) else M
theorem NK{b:Bool}{c f:aG}{K:DM}(h:PE X (.Name x p) (kr j))(he:PE X e (tM X.K B own K))(J:iQ X.K c f)(hj:j∈own:=by decide)(hb:b=Z'->DC j∈own:=by decide)(ha:f∉GI:=by decide)(hs:c5 e (Y (.Attribute (.Name x p) f u)) n.line X.env=fm false:=by rfl):PS X (.Assign [.Attribute (.Name x p) f u] e n) (lq X.K B y own own (De b j c f K)):=(Dm h he hs).imp <|by
 rintro D σ H ⟨G,E,o,S,i,k⟩;unfold De at i;obtain⟨⟨d,F⟩,ef,i⟩:=ae.1 i;rcases q:G_ b j F with _|⟨r,T⟩
 ·simp[q]at i
 rcases z:yQ r F with _|⟨s,t⟩
 ·simp[q,z]at i
 rcases I:yB c s t T with _|⟨fk,ks,ds⟩
 ·simp[q,z,I]at i
 simp only[q,z,I,aa]at i;split at i
 ·rename_i hz;cases i;obtain⟨i1,U⟩:=xq I;refine⟨G,E,d,F,S,ef,λv G' H' P s' R =>?_⟩;obtain⟨hr,s1,t',a,v',O,e2,e3,e4⟩:=P.G_ q hj hb;have w:=mS z;rw[w]at O;cases O;obtain⟨a',Q,C,dx,vs,N,g,L,f4,f5,f6⟩:=P.TF (f:=f) (d:=d) hr w i1 U hz.1 ha R;rw[e2]at N;cases N;rw[e4]at g;cases g;refine⟨_,e3,Q,C,dx,_,rfl,f4,(J C L).1,(J C L).2,?_,k _ G' _ f6⟩;rw[vl f5];omega
 ·cases i
end
section
variable {X:Cx}{m:List Nat}{b:Expr}{a:List Expr}{n:Pos}
noncomputable def qI(F:List D->Option (D×List D))(g:DL)(h:DL):DF:=λb=>(g b).bind λc=>(h b).bind λd=>(F (.lst c::d)).map λq=>q.1
theorem Ln{F:List D->Option (D×List D)}(ho:m4 X.prog X.w X.K X.mg X.base x k (EH X.K 0 F))(hr:f' k X.A)(hg:Gl X x)(hl:PE X b (tF X.K m g))(ha:PA X a (Hr X.K m h))(J:(x==("__debug__" : aG))=false:=by decide)(S:ao (b::a) X.env=(Z_,eval b X.env)::ao a X.env:=by rfl)(I:(dh n (ao a X.env)).any (·.1)=false:=by rfl):PE X (.Call (.Name x p) (b::a) [] n) (tP X.K m (qI F g h)):=by
 obtain⟨f,fd,ps,h1,hm,hk,r⟩:=ho.ex;refine(yX h1 hr hg hm hk r .nil pZ (f7 hl ha S) J S I).imp λσ H Q ⟨G,A,d,gh,u,j,q⟩ =>?_
 unfold qI at j;rcases K:g A with _|s
 ·rw[K]at j;cases j
 rw[K]at j;rcases L:h A with _|V
 ·simp[L]at j
 simp only[L,aa]at j;rcases eF:F (.lst s::V) with _|⟨d',E⟩
 ·rw[eF]at j;cases j
 rw[eF]at j;cases j;refine⟨G,A,s,gh,u,K,λl U G1 H1 O R gn t rl=>⟨G1,A,V,O.gh,u.ext O,L,λus N H2 w P =>?_⟩⟩;show EH X.K 0 F ((.ref l::us)++[]) H2 Q E0;rw[cM];have g2:N l=none:=by
  rcases z:N l with _|o
  ·rfl
  rcases w.fr l o z with y|y
  ·rw[gn]at y;cases y
  ·rw[t]at y;cases y
 refine⟨N,.lst s::V,d',E,l,U,s,w.gh,rfl,rfl,w.hh _ _ t,bx.mono w.gg s rl,g2,λi c hi ec =>?_,by simp[P.length],eF,λv T G3 H3 C g3 h3 r4 r5 =>?_⟩
 ·cases i with
  |zero=>exact absurd rfl hi|succ i=>exact P.get (i:=i) (by simpa using ec)
 ·have B:=O.trans w;refine q v G3 H3 ⟨λb o e=>C.hh b o ?_,B.gg.trans C.gg,C.gh,λb o e =>?_⟩ r5
  ·have r:b≠l:=λz=>by rw[z,R]at e;cases e
   rw[uW r];exact B.hh b o e
  ·rcases C.fr b o e with z|z
   ·exact B.fr b o z
   ·by_cases r:b=l
    ·subst r;exact .inr R
    ·rw[uW r]at z;refine .inr ?_;rcases qq:H b with _|o'
     ·rfl
     rw[B.hh b o' qq]at z;cases z
end
theorem wA.mono{P:bj}{K:bb}{b:cF}{d:Sp}(h:wA P w K e b c j d)(i:j<=k):wA P w K e b c k d:=by
 obtain⟨C,f,s,g,r,q,p,o,l⟩:=h.ex;exact⟨C,f,s,g,r,q,p,o.mono i,l⟩
end L2
namespace K21
open PySem L2
local macro_rules | `(tactic|walk_at "s") => `(tactic|exact⟨rfl,rfl,rfl,by decide +kernel,rfl,by decide +kernel,by decide +kernel⟩)
structure KS(K:bb)(mg:aG->Option af):Prop where
 pK:iQ K "Coming" "able"
 cR:iQ K "Coming" "facts"
 kD:iQ K "Coming" "full"
 jv:iQ K "Coming" "opened"
 iH:iQ K "Coming" "rests"
 cp:iQ K "Coming" "rows"
 oG:iQ K "Coming" "taken"
 vR:iQ K "Facts" "asks"
 qG:iQ K "Facts" "bits"
 kL:iQ K "Facts" "by_name"
 ju:iQ K "Facts" "by_text"
 ik:iQ K "Facts" "inner"
 pJ:iQ K "Facts" "leads"
 gv:iQ K "Facts" "question"
 nz:iQ K "Facts" "starred"
 ub:iQ K "Facts" "stars"
 jV:iQ K "Row" "atoms"
 oE:iQ K "Row" "fits"
 i5:iQ K "Row" "hoped"
 d4:iQ K "Row" "hoped_around"
 sy:iQ K "Row" "named"
 nN:iQ K "Row" "number"
 eM:iQ K "Row" "reached"
 d9:iQ K "Row" "reached_around"
 jA:iQ K "Sift" "coming"
 jU:iQ K "Sift" "numbers"
 L0:mg "all" = none
 Q0:mg "any" = none
 pa:mg "enumerate" = none
 og:mg "len" = none
 LZ:mg "list" = none
 qo:mg "range" = none
 vm:mg "sorted" = none
 U5:mg "zip" = none
noncomputable def top(i:Nat):cY:=PySem.Challenge.pw_earlysift_k21_outlooks_stay.main.body.getD i (.Pass ⟨0,0,0,0⟩)
noncomputable abbrev qb:List (aG×Sk):=[("by_name",.di),("by_text",.di),("leads",.li .lf)]
abbrev aB:Sk :=.fs "Facts" qb
noncomputable abbrev n7:List (aG×Sk):=[("rows",.li (.fs "Row" []))]
abbrev aF:Sk :=.fs "Coming" n7
abbrev Jx:List (aG×Sk):=[("coming",aF)]
abbrev dF:Sk :=.fs "Sift" Jx
def kN:DG:=
  (a_ (d8 Z_ 0 "Facts" "bits" (λi j=>i+j) (eK (.int 1)))
  (dI (mP (lx [0] [] (e2 kB (eK (.int 1)) (e2 me (bc "Facts" "bits" (eV 0)) (eK (.int 1))))))))
def dD:List D->Option (D×D):=mV 1 1 aB kN
abbrev ml:cY:=cW (top 6) 1
noncomputable abbrev yH:List aG:=["self"]
theorem wZ:bC yH ["self"] (aI ml):=by walk_at "s"
def jb:DG:=
  (a_ (lu 2 (bU "Facts" "new_bit" aB dD 0 kl))
  (a_ (eW (dk (e2 fh (e2 cj (eV 1) (eK (.int 0))) (eK (.str (ab "inner")))))
  (d8 Z_ 0 "Facts" "inner" bK (eV 2))
  c9)
  (a_ (eW (dk (e2 fh (e2 cj (eV 1) (eK (.int 1))) (eK (.str (ab "*")))))
  (a_ (d8 Z_ 0 "Facts" "starred" bK (eV 2))
   (d8 Z_ 0 "Facts" "stars" (λi j=>i+j) (eK (.int 1))))
  (pH 0 "Facts" "by_name" (e2 cj (eV 1) (eK (.int 1))) (mP (lx [0] [] (e2 Cs (sH (bc "Facts" "by_name" (eV 0)) (e2 cj (eV 1) (eK (.int 1))) (eK (.int 0))) (eV 2))))))
  (dI (mP (eV 2))))))
def dB:List D->Option (D×D):=mV 2 3 aB jb
abbrev ka:cY:=cW (top 6) 3
noncomputable abbrev u9:List aG:=["self", "step", "bit"]
theorem nE:bC u9 ["self", "step"] (aI ka):=by walk_at "s"
def mL:DG:=
  (dI (tX (iL (eV 1)) [M,Y 0] (gN 0) (bU "Facts" "enter_step" aB dB 1 (jn (mP (eV 0)) kl)) 1 0 aB))
def gi:List D->Option (D×D):=mV 2 2 aB mL
abbrev lF:cY:=cW (top 6) 2
noncomputable abbrev ug:List aG:=["self", "steps"]
theorem zw:bC ug ["self", "steps"] (aI lF):=by walk_at "s"
def fw:DG:=
  (a_ (eW (xY [0] [] (dk (e2 (Dw Z') (eV 1) (bc "Facts" "by_text" (eV 0)))))
  (pH 0 "Facts" "by_text" (eV 1) (bU "Facts" "new_bit" aB dD 0 kl))
  c9)
  (dI (mP (lx [0] [] (e2 FK (bc "Facts" "by_text" (eV 0)) (eV 1))))))
def c4:List D->Option (D×D):=mV 2 2 aB fw
abbrev j_:cY:=cW (top 6) 4
noncomputable abbrev u7:List aG:=["self", "text"]
theorem tJ:bC u7 ["self", "text"] (aI j_):=by walk_at "s"
def iK:DG:=
  (IQ 0 "Facts" "leads" (gS (aC (eV 6) (aC (gS (aC (e2 Cs (e2 cj (eV 5) (eK (.int 0))) (eV 7)) (aC (e2 cj (eV 5) (eK (.int 1))) aN))) aN))))
def nQ:DG:=
  (a_ (dr 4 (e2 gu (eF (JB (eV 2) (pS (eK (.int 1))) pN)) (eF (fX (aC (eV 3) aN)))))
  (js (Xk (eV 1) (eV 2) (eV 4)) (Tw 5 6 7)
  iK))
def l6:List D->Option (D×D):=mV 4 8 aB nQ
abbrev pG:cY:=cW (top 6) 6
noncomputable abbrev Ew:List aG:=["self", "asks", "bits", "end", "follows", "ask", "bit", "follow"]
theorem kz:bC Ew ["self", "asks", "bits", "end"] (aI pG):=by walk_at "s"
def g9:DG:=
  (a_ (nG 1 bK (e2 cj (eV 3) (eK (.int 0))))
   (Dg 2 (e2 cj (eV 3) (eK (.int 1)))))
def mK:DG:=
  (a_ (dr 1 (eK (.int 0)))
  (a_ (jS 2 (fX aN))
  (a_ (js (iL (eV 0)) (gN 3)
  g9)
  (eE (gS (aC (eV 1) (aC (eV 2) aN)))))))
def kG:List D->Option D:=j2 1 4 mK
abbrev oi:cY:=top 7
noncomputable abbrev BW:List aG:=["asks", "need", "choices", "ask"]
theorem jR:bC BW ["asks"] (aI oi):=by walk_at "s"
section
variable {P:bj}{w:bQ}{K:bb}{d:aG->Option af}{h:cF}{f:az}{e:dP}
theorem xg(F:jD K "new_bit" "Facts.new_bit" ml f e)(c:KS K d):cQ P w K d h iW 1 f e ["self"] (spT K aB dD):=
 F.FJ (own:=[0]) (own':=[0]) (g:=kN) wZ aB (by decide) (by decide) λg A b s H E k B a l=>
  (ai (jW (b:=Z_) (c:= "Facts") (op:=(λi j=>i+j)) DV (pv 0) ax c.qG)
  (aJ (fD (cz (jL [] [0] [] (bo uG (dq ax) (dq (bo ny (dq (aX (c:= "Facts") (vQ 0) c.qG)) (dq ax)))))))))
theorem tS(F:jD K "enter_step" "Facts.enter_step" ka f e)(c:KS K d)(b:fB P w K d h "Facts" "new_bit" 1 (spT K aB dD)):cQ P w K d h iW 2 f e ["self", "step"] (spT K aB dB):=
 F.FJ (own:=[0]) (own':=[0]) (g:=jb) nE aB (by decide) (by decide) λl A k s H E g B a m=>
  (ai (wc (i:=2) nE.nd rfl (.inl rfl) (n8 b g (pv 0)))
  (ai (dU (cG (gF g) (dq (cq (vQ 1) (dq ax))) (dq bY) (cu _))
  (aJ (jW (b:=Z_) (c:= "Facts") (op:=bK) vU (pv 0) (vP 2) c.ik))
  cE)
  (ai (dU (cG (gF g) (dq (cq (vQ 1) (dq ax))) (dq bY) (cu _))
  (ai (jW (b:=Z_) (c:= "Facts") (op:=bK) vU (pv 0) (vP 2) c.nz)
   (aJ (jW (b:=Z_) (c:= "Facts") (op:=(λi j=>i+j)) DV (pv 0) ax c.ub)))
  (aJ (Gu (c:= "Facts") (Ao g) (pv 0) (cq (vQ 1) (dq ax)) (cz (jL [] [0] [] (bo vI (dq (Ec (Ao g) (dq (aX (c:= "Facts") (vQ 0) c.kL)) (dq (cq (vQ 1) (dq ax))) ax ⟨rfl,rfl,rfl,rfl⟩)) (vQ 2)))) c.kL)))
  (aJ (fD (cz (vP 2)))))))
theorem zW(F:jD K "enter" "Facts.enter" lF f e)(b:fB P w K d h "Facts" "enter_step" 2 (spT K aB dB)):cQ P w K d h iW 3 f e ["self", "steps"] (spT K aB gi):=
 F.FJ (own:=[0]) (own':=[0]) (g:=mL) zw aB (by decide) (by decide) λi A outer s H E c B a g=>
  (aJ (fD (Ii (i0:=1) (j0:=0) (s:=aB) (N:=[("step" : aG),("self" : aG)]) (src:=[M,Y 0]) (km (outer:=aI lF) (oN:=ug) rfl (by decide +kernel) rfl rfl) rfl (fR (vP 1)) (h_ 0) (by decide) (sA _ 0 1) (λC s H j=>⟨cw (i:=0) (show ([("step" : aG),("self" : aG)]:List aG).Nodup by decide +kernel) rfl (rQ rfl),jh,WA λB a g=>(jx b c (pv 1) (cS (cz (vP 0)) hV))⟩))))
theorem tR(F:jD K "enter_text" "Facts.enter_text" j_ f e)(i:KS K d)(b:fB P w K d h "Facts" "new_bit" 1 (spT K aB dD)):cQ P w K d h iW 2 f e ["self", "text"] (spT K aB c4):=
 F.FJ (own:=[0]) (own':=[0]) (g:=fw) tJ aB (by decide) (by decide) λj A g s H E c B a k=>
  (ai (dU (wb [] [0] [] (Li (Ao c) (vQ 1) (dq (aX (c:= "Facts") (vQ 0) i.ju))))
  (aJ (Gu (c:= "Facts") (Ao c) (pv 0) (vP 1) (n8 b c (pv 0)) i.ju))
  cE)
  (aJ (fD (cz (jL [] [0] [] (Qm (Ao c) (dq (aX (c:= "Facts") (vQ 0) i.ju)) (vQ 1)))))))
theorem BA(F:jD K "lead" "Facts.lead" pG f e)(c:KS K d):cQ P w K d h iW 1 f e ["self", "asks", "bits", "end"] (spT K aB l6):=
 F.FJ (own:=[0]) (own':=[0]) (g:=nQ) kz aB (by decide) (by decide) λi A b s H E j B a g=>
  (ai (cH (i:=4) kz.nd rfl (.inl rfl) (bo gG (dq (df (xC (vQ 2) (lY (dq ax)) lZ))) (dq (df (e_ (aA (vP 3) bg))))))
  (aJ (k9 cx rfl (Qk rfl c.U5 (vP 1) (vP 2) (vP 4)) (λB g=>(NM (xb rfl (iG (cw (i:=5) kz.nd rfl (.inl rfl)) (iG (cw (i:=6) kz.nd rfl (.inl rfl)) (iG (cw (i:=7) kz.nd rfl (.inl rfl)) sW)))))) (λB g=>
  (aJ (Qi (c:= "Facts") (pv 0) (iI (aA (vP 6) (aA (iI (aA (bo vI (dq (cq (vQ 5) (dq ax))) (vQ 7)) (aA (cq (vQ 5) (dq ax)) bg))) bg))) c.pJ))))))
theorem zU(F:jD K "joined_asks" "joined_asks" oi f e):cQ P w K d h iW 1 f e ["asks"] (i4 K kG):=
 F.xk (own:=[2]) (own':=[2]) (g:=mK) jR (by decide) λc A a s H E g B b=>
  (ai (cH (i:=1) jR.nd rfl (.inl rfl) ax)
  (ai (nR (i:=2) jR.nd rfl (.inl rfl) (e_ bg))
  (ai (k9 cx rfl (fR (vP 0)) (λB b=>(mM (cw (i:=3) jR.nd rfl (.inl rfl)))) (λB b=>
  (ai (uY (i:=1) (op:=bK) vU jR.nd rfl (.inl rfl) (cq (vQ 3) (dq ax)))
   (aJ (Lj (pv 2) (cq (vQ 3) (dq ax)))))))
  (uX (own1:=[]) 2 (aJ (dA (iI (aA (vP 1) (aA (vP 2) bg)))))))))
end
def cB(e:List D->Option (D×D))(a:List D->Option (D×D)):DG:=
  (a_ (eW (dk (e2 fh (e2 cj (eV 1) (eK (.int 0))) (eK (.str (ab "any")))))
  (dI (mP (gS (aC (eK (.int 0)) (aC (eF (fX aN)) aN)))))
  c9)
  (a_ (eW (dk (e2 fh (e2 cj (eV 1) (eK (.int 0))) (eK (.str (ab "text")))))
  (dI (yy (jn (bU "Facts" "enter_text" aB c4 0 (jn (mP (e2 cj (eV 1) (eK (.int 1)))) kl)) (jn (mP (eF (fX aN))) kl))))
  c9)
  (a_ (eW (dk (e2 fh (e2 cj (eV 1) (eK (.int 0))) (eK (.str (ab "has")))))
  (dI (yy (jn (bU "Facts" "enter_has" aB a 0 (jn (mP (e2 cj (eV 1) (eK (.int 1)))) kl)) (jn (mP (eF (fX aN))) kl))))
  c9)
  (a_ (lu 2 (tX (iL (e2 cj (eV 1) (eK (.int 1)))) [M,Y 0] (gN 0) (bU "Facts" "asked" aB e 1 (jn (mP (eV 0)) kl)) 1 0 aB))
  (a_ (eW (dk (e2 fh (e2 cj (eV 1) (eK (.int 0))) (eK (.str (ab "one")))))
  (dI (mP (gS (aC (eK (.int 0)) (aC (eF (fX (aC (eV 2) aN))) aN)))))
  c9)
  (dI (mP (be kG (aC (eV 2) aN)))))))))
abbrev lG:cY:=cW (top 6) 7
noncomputable abbrev uh:List aG:=["self", "wish", "asks"]
theorem se:bC uh ["self", "wish"] (aI lG):=by walk_at "s"
def hU(a:List D->Option (D×D))(e:List D->Option (D×D)):DG:=
  (a_ (lu 2 (bU "Facts" "enter" aB gi 0 (jn (mP (eV 1)) kl)))
  (a_ (dS (bU "Facts" "lead" aB l6 0 (jn (tX (iL (eV 1)) [M,Y 0] (gN 0) (bU "Facts" "asked" aB a 1 (jn (mP (e2 cj (eV 0) (eK (.int 2)))) kl)) 1 0 aB) (jn (mP (eV 2)) (jn (mP (eK (.int 0))) kl)))))
  (dI (mP (e2 cj (eV 2) (eK (.int 0)))))))
abbrev i8:cY:=cW (top 6) 5
noncomputable abbrev pz:List aG:=["self", "steps", "bits"]
theorem oq:bC pz ["self", "steps"] (aI i8):=by walk_at "s"
def oI(e:List D->Option D)(a:List D->Option D):DG:=
  (t6 (o6 (iL (eV 0)) [M] (gN 0) iC (gS (aC (e2 cj (eV 0) (eK (.int 0))) (aC (e2 cj (eV 0) (eK (.int 1))) (aC (be a (aC (e2 cj (eV 0) (eK (.int 2))) aN)) aN))))))
abbrev sT:cY:=top 10
noncomputable abbrev GQ:List aG:=["steps"]
theorem Kt:bC GQ ["steps"] (aI sT):=by walk_at "s"
def jB(e:List D->Option D)(a:List D->Option D):DG:=
  (a_ (eW (dk (e2 fh (e2 cj (eV 0) (eK (.int 0))) (eK (.str (ab "has")))))
  (eE (gS (aC (eK (.str (ab "has"))) (aC (be e (aC (e2 cj (eV 0) (eK (.int 1))) aN)) aN))))
  c9)
  (a_ (eW (dk (e2 (Ha Z_) (e2 cj (eV 0) (eK (.int 0))) (gS (aC (eK (.str (ab "both"))) (aC (eK (.str (ab "one"))) aN)))))
  (eE (gS (aC (e2 cj (eV 0) (eK (.int 0))) (aC (eF (o6 (iL (e2 cj (eV 0) (eK (.int 1)))) [M] (gN 0) iC (be a (aC (eV 0) aN)))) aN))))
  c9)
  (eE (eV 0))))
abbrev lE:cY:=top 11
noncomputable abbrev uf:List aG:=["wish"]
theorem zu:bC uf ["wish"] (aI lE):=by walk_at "s"
def sZ(a:List D->Option D):DG:=
  (a_ (eW (dk (e2 vK (e2 dm (eV 1) (e2 cj (eV 0) (eK (.int 0)))) (e2 cj (eV 0) (eK (.int 0)))))
  (eE (eK (.bl Z_)))
  c9)
  (eE (be (gP Z') (aC (eF (o6 (iL (e2 cj (eV 0) (eK (.int 1)))) [M,Y 1] (gN 0) iC (be (gP Z_) (aC (eF (o6 (iL (eV 0)) [M,Y 1] (gN 0) iC (be a (aC (eV 0) (aC (eV 1) aN))))) aN)))) aN))))
abbrev vr:cY:=top 8
noncomputable abbrev J8:List aG:=["ask", "atoms"]
theorem Ml:bC J8 ["ask", "atoms"] (aI vr):=by walk_at "s"
def my(a:List D->Option D):DG:=
  (a_ (eW (dk (e2 fh (e2 cj (eV 0) (eK (.int 0))) (eK (.str (ab "has")))))
  (eE (be (gP Z') (aC (eF (o6 (iL (e2 cj (eV 0) (eK (.int 1)))) [M] (gN 0) iC (be a (aC (e2 cj (eV 0) (eK (.int 2))) aN)))) aN)))
  c9)
  (a_ (eW (dk (e2 fh (e2 cj (eV 0) (eK (.int 0))) (eK (.str (ab "both")))))
  (eE (be (gP Z') (aC (eF (o6 (iL (e2 cj (eV 0) (eK (.int 1)))) [M] (gN 0) iC (be a (aC (eV 0) aN)))) aN)))
  c9)
  (a_ (eW (dk (e2 fh (e2 cj (eV 0) (eK (.int 0))) (eK (.str (ab "one")))))
  (eE (be (gP Z_) (aC (eF (o6 (iL (e2 cj (eV 0) (eK (.int 1)))) [M] (gN 0) iC (be a (aC (eV 0) aN)))) aN)))
  c9)
  (eE (eK (.bl Z'))))))
abbrev lr:cY:=top 9
noncomputable abbrev qR:List aG:=["wish"]
theorem Ff:bC qR ["wish"] (aI lr):=by walk_at "s"
mutual
noncomputable def de:Nat->List D->Option (D×D)
 |0=>λ_=>M
 |n+1=>mV 2 3 aB (cB (de n) (cZ n))
noncomputable def cZ:Nat->List D->Option (D×D)
 |0=>λ_=>M
 |n+1=>mV 2 3 aB (hU (de n) (cZ n))
end
mutual
noncomputable def jE:Nat->List D->Option D
 |0=>λ_=>M
 |n+1=>j2 1 1 (oI (jE n) (dX n))
noncomputable def dX:Nat->List D->Option D
 |0=>λ_=>M
 |n+1=>j2 1 1 (jB (jE n) (dX n))
end
noncomputable def kF:Nat->List D->Option D
 |0=>λ_=>M
 |n+1=>j2 2 2 (sZ (kF n))
noncomputable def fM:Nat->List D->Option D
 |0=>λ_=>M
 |n+1=>j2 1 1 (my (fM n))
section
variable {P:bj}{w:bQ}{K:bb}{b:aG->Option af}{c:cF}{f:az}{d:dP}
theorem zX(F:jD K "asked" "Facts.asked" lG f d)(e:fB P w K b c "Facts" "enter_text" (n+3) (spT K aB c4))(g:fB P w K b c "Facts" "enter_has" (n+3) (spT K aB (cZ n)))(i:fB P w K b c "Facts" "asked" (n+3) (spT K aB (de n)))(h:m4 P w K b c "joined_asks" (n+3) (i4 K kG)):cQ P w K b c iW (n+3+1) f d ["self", "wish"] (spT K aB (de (n+1))):=
 F.FJ (own:=[0]) (own':=[0]) (g:=(cB (de n) (cZ n))) se aB (by decide) (by decide) λm A k s H E j B a l=>
  (ai (dU (cG (gF j) (dq (cq (vQ 1) (dq ax))) (dq bY) (cu _))
  (aJ (fD (cz (iI (aA ax (aA (df (e_ bg)) bg))))))
  cE)
  (ai (dU (cG (gF j) (dq (cq (vQ 1) (dq ax))) (dq bY) (cu _))
  (aJ (fD (AL (cS (jx e j (pv 0) (cS (cz (cq (vQ 1) (dq ax))) hV)) (cS (cz (df (e_ bg))) hV)))))
  cE)
  (ai (dU (cG (gF j) (dq (cq (vQ 1) (dq ax))) (dq bY) (cu _))
  (aJ (fD (AL (cS (jx g j (pv 0) (cS (cz (cq (vQ 1) (dq ax))) hV)) (cS (cz (df (e_ bg))) hV)))))
  cE)
  (ai (Ih (i:=2) (i0:=1) (j0:=0) (s:=aB) (N:=[("other" : aG),("self" : aG)]) (src:=[M,Y 0]) (km (outer:=aI lG) (oN:=uh) rfl (by decide +kernel) rfl rfl) rfl se.nd rfl rfl (fR (cq (vQ 1) (dq ax))) (h_ 0) (by decide) (sA _ 0 1) (λC s H o=>⟨cw (i:=0) (show ([("other" : aG),("self" : aG)]:List aG).Nodup by decide +kernel) rfl (rQ rfl),jh,WA λB a l=>(jx i j (pv 1) (cS (cz (vP 0)) hV))⟩))
  (ai (dU (cG (gF j) (dq (cq (vQ 1) (dq ax))) (dq bY) (cu _))
  (aJ (fD (cz (iI (aA ax (aA (df (e_ (aA (vP 2) bg))) bg))))))
  cE)
  (aJ (fD (cz (fE h j rfl (aA (vP 2) bg))))))))))
theorem uE(F:jD K "enter_has" "Facts.enter_has" i8 f d)(e:fB P w K b c "Facts" "enter" (n+3) (spT K aB gi))(h:fB P w K b c "Facts" "lead" (n+3) (spT K aB l6))(g:fB P w K b c "Facts" "asked" (n+3) (spT K aB (de n))):cQ P w K b c iW (n+3+1) f d ["self", "steps"] (spT K aB (cZ (n+1))):=
 F.FJ (own:=[0]) (own':=[0]) (g:=(hU (de n) (cZ n))) oq aB (by decide) (by decide) λk A outer s H E i B a j=>
  (ai (wc (i:=2) oq.nd rfl (.inl rfl) (jx e i (pv 0) (cS (cz (vP 1)) hV)))
  (ai (lX (jx h i (pv 0) (cS (Ii (i0:=1) (j0:=0) (s:=aB) (N:=[("step" : aG),("self" : aG)]) (src:=[M,Y 0]) (km (outer:=aI i8) (oN:=pz) rfl (by decide +kernel) rfl rfl) rfl (fR (vP 1)) (h_ 0) (by decide) (sA _ 0 1) (λC s H l=>⟨cw (i:=0) (show ([("step" : aG),("self" : aG)]:List aG).Nodup by decide +kernel) rfl (rQ rfl),jh,WA λB a j=>(jx g i (pv 1) (cS (cz (cq (vQ 0) (dq ax))) hV))⟩)) (cS (cz (vP 2)) (cS (cz ax) hV)))))
  (aJ (fD (cz (cq (vQ 2) (dq ax)))))))
theorem KL(F:jD K "copied" "copied" sT f d)(a:m4 P w K b c "copied_wish" (n+0) (i4 K (dX n))):cQ P w K b c iW (n+0+1) f d ["steps"] (i4 K (jE (n+1))):=
 F.xk (own:=[]) (own':=[]) (g:=(oI (jE n) (dX n))) Kt (by decide) λg A outer s H E e B h=>
  (aJ (wd (ue (own':=[]) (N:=[("step" : aG)]) (src:=[M]) (km (outer:=aI sT) (oN:=GQ) rfl (by decide +kernel) rfl rfl) rfl (fR (vP 0)) (h_ 0) (by decide) (jw 0) (λC s H i=>⟨cw (i:=0) (show ([("step" : aG)]:List aG).Nodup by decide +kernel) rfl (.inl rfl),jh,(iI (aA (cq (vQ 0) (dq ax)) (aA (cq (vQ 0) (dq ax)) (aA (fE a e rfl (aA (cq (vQ 0) (dq ax)) bg)) bg))))⟩))))
theorem zV(F:jD K "copied_wish" "copied_wish" lE f d)(e:m4 P w K b c "copied" (n+0) (i4 K (jE n)))(a:m4 P w K b c "copied_wish" (n+0) (i4 K (dX n))):cQ P w K b c iW (n+0+1) f d ["wish"] (i4 K (dX (n+1))):=
 F.xk (own:=[]) (own':=[]) (g:=(jB (jE n) (dX n))) zu (by decide) λi A g s H E h B j=>
  (ai (dU (cG (gF h) (dq (cq (vQ 0) (dq ax))) (dq bY) (cu _))
  (aJ (dA (iI (aA bY (aA (fE e h rfl (aA (cq (vQ 0) (dq ax)) bg)) bg)))))
  cE)
  (ai (dU (cG VS (dq (cq (vQ 0) (dq ax))) (dq (iI (aA bY (aA bY bg)))) rfl)
  (aJ (dA (iI (aA (cq (vQ 0) (dq ax)) (aA (df (ue (own':=[]) (N:=[("other" : aG)]) (src:=[M]) (km (outer:=aI lE) (oN:=uf) rfl (by decide +kernel) rfl rfl) rfl (fR (cq (vQ 0) (dq ax))) (h_ 0) (by decide) (jw 0) (λC s H k=>⟨cw (i:=0) (show ([("other" : aG)]:List aG).Nodup by decide +kernel) rfl (.inl rfl),jh,(fE a h rfl (aA (vP 0) bg))⟩))) bg)))))
  cE)
  (aJ (dA (vP 0)))))
theorem MO(F:jD K "meets" "meets" vr f d)(g:KS K b)(a:m4 P w K b c "meets" (n+0) (i4 K (kF n))):cQ P w K b c iW (n+0+1) f d ["ask", "atoms"] (i4 K (kF (n+1))):=
 F.xk (own:=[]) (own':=[]) (g:=(sZ (kF n))) Ml (by decide) λj A e s H E h B k=>
  (ai (dU (cG (z0 h) (dq (bo eB (vQ 1) (dq (cq (vQ 0) (dq ax))))) (dq (cq (vQ 0) (dq ax))) (cu _))
  (aJ (dA AS))
  cE)
  (aJ (dA (Il rfl rfl g.L0 (dq (df (ue (own':=[]) (N:=[("choice" : aG),("atoms" : aG)]) (src:=[M,Y 1]) (km (outer:=aI vr) (oN:=J8) rfl (by decide +kernel) rfl rfl) rfl (fR (cq (vQ 0) (dq ax))) (h_ 0) (by decide) (jw 0) (λC s H i=>⟨cw (i:=0) (show ([("choice" : aG),("atoms" : aG)]:List aG).Nodup by decide +kernel) rfl (by first|exact rQ rfl|exact yN rfl),jh,(NT rfl rfl g.Q0 (dq (df (ue (own':=[]) (N:=[("other" : aG),("atoms" : aG)]) (src:=[M,Y 1]) (Qy rfl (by decide +kernel)) rfl (fR (vP 0)) (h_ 0) (by decide) (jw 0) (λC s H i=>⟨cw (i:=0) (show ([("other" : aG),("atoms" : aG)]:List aG).Nodup by decide +kernel) rfl (.inl rfl),jh,(fE a h rfl (aA (vP 0) (aA (vP 1) bg)))⟩)))))⟩))))))))
theorem FH(F:jD K "can_hold" "can_hold" lr f d)(g:KS K b)(a:m4 P w K b c "can_hold" (n+0) (i4 K (fM n))):cQ P w K b c iW (n+0+1) f d ["wish"] (i4 K (fM (n+1))):=
 F.xk (own:=[]) (own':=[]) (g:=(my (fM n))) Ff (by decide) λi A outer s H E e B j=>
  (ai (dU (cG (gF e) (dq (cq (vQ 0) (dq ax))) (dq bY) (cu _))
  (aJ (dA (Il rfl rfl g.L0 (dq (df (ue (own':=[]) (N:=[("step" : aG)]) (src:=[M]) (km (outer:=aI lr) (oN:=qR) rfl (by decide +kernel) rfl rfl) rfl (fR (cq (vQ 0) (dq ax))) (h_ 0) (by decide) (jw 0) (λC s H h=>⟨cw (i:=0) (show ([("step" : aG)]:List aG).Nodup by decide +kernel) rfl (.inl rfl),jh,(fE a e rfl (aA (cq (vQ 0) (dq ax)) bg))⟩)))))))
  cE)
  (ai (dU (cG (gF e) (dq (cq (vQ 0) (dq ax))) (dq bY) (cu _))
  (aJ (dA (Il rfl rfl g.L0 (dq (df (ue (own':=[]) (N:=[("other" : aG)]) (src:=[M]) (km (outer:=aI lr) (oN:=qR) rfl (by decide +kernel) rfl rfl) rfl (fR (cq (vQ 0) (dq ax))) (h_ 0) (by decide) (jw 0) (λC s H h=>⟨cw (i:=0) (show ([("other" : aG)]:List aG).Nodup by decide +kernel) rfl (.inl rfl),jh,(fE a e rfl (aA (vP 0) bg))⟩)))))))
  cE)
  (ai (dU (cG (gF e) (dq (cq (vQ 0) (dq ax))) (dq bY) (cu _))
  (aJ (dA (NT rfl rfl g.Q0 (dq (df (ue (own':=[]) (N:=[("other" : aG)]) (src:=[M]) (km (outer:=aI lr) (oN:=qR) rfl (by decide +kernel) rfl rfl) rfl (fR (cq (vQ 0) (dq ax))) (h_ 0) (by decide) (jw 0) (λC s H h=>⟨cw (i:=0) (show ([("other" : aG)]:List aG).Nodup by decide +kernel) rfl (.inl rfl),jh,(fE a e rfl (aA (vP 0) bg))⟩)))))))
  cE)
  (aJ (dA AS)))))
end
def wG:=jE 12
def tu:=kF 12
def oP:=fM 12
def mO:=de 12
def j5:DG:=
  (a_ (eI Z_ 0 "Facts" "question" (be wG (aC (eV 1) aN)))
  (a_ (eI Z_ 0 "Facts" "bits" (eK (.int 0)))
  (a_ (mu 0 "Facts" "by_name" .di (eK (.ig [] [])))
  (a_ (mu 0 "Facts" "by_text" .di (eK (.ig [] [])))
  (a_ (eI Z_ 0 "Facts" "starred" (eK (.int 0)))
  (a_ (eI Z_ 0 "Facts" "stars" (eK (.int 0)))
  (a_ (eI Z_ 0 "Facts" "inner" (eK (.int 0)))
  (a_ (mu 0 "Facts" "leads" (.li .lf) (eK (.lst [])))
  (a_ (dS (bU "Facts" "enter" aB gi 0 (jn (mP (ri 0 "Facts" "question")) kl)))
  (De Z_ 0 "Facts" "asks" (tX (iL (ri 0 "Facts" "question")) [M,Y 0] (gN 0) (bU "Facts" "asked" aB mO 1 (jn (mP (e2 cj (eV 0) (eK (.int 2)))) kl)) 1 0 aB)))))))))))
def gz:List D->Option (D×D):=mV 2 2 aB j5
abbrev jH:cY:=cW (top 6) 0
noncomputable abbrev qg:List aG:=["self", "question"]
theorem vz:bC qg ["self", "question"] (aI jH):=by walk_at "s"
def jJ:DG:=
  (eE (e2 Cs (bc "Facts" "starred" (eV 0)) (sH (bc "Facts" "by_name" (eV 0)) (eV 1) (eK (.int 0)))))
def eS:List D->Option D:=j2 2 2 jJ
abbrev kX:cY:=cW (top 6) 8
noncomputable abbrev wC:List aG:=["self", "name"]
theorem uq:bC wC ["self", "name"] (aI kX):=by walk_at "s"
def jI:DG:=
  (eE (sH (bc "Facts" "by_text" (eV 0)) (eV 1) (eK (.int 0))))
def eR:List D->Option D:=j2 2 2 jI
abbrev kW:cY:=cW (top 6) 9
noncomputable abbrev wB:List aG:=["self", "text"]
theorem uo:bC wB ["self", "text"] (aI kW):=by walk_at "s"
def gx:DG:=
  (eW (fV (eD (e2 dm (eV 1) (eV 4))) (eD (be tu (aC (eV 5) (aC (eV 2) aN)))))
   (nG 3 bK (eV 4))
   c9)
def lS:DG:=
  (a_ (dr 3 (e2 dm (eV 2) (bc "Facts" "inner" (eV 0))))
  (a_ (js (iL (bc "Facts" "leads" (eV 0))) (D6 4 5)
  gx)
  (eE (eV 3))))
def iP:List D->Option D:=j2 3 6 lS
abbrev nr:cY:=cW (top 6) 10
noncomputable abbrev A8:List aG:=["self", "named", "atoms", "up", "bit", "ask"]
theorem jr:bC A8 ["self", "named", "atoms"] (aI nr):=by walk_at "s"
def fT:DG:=
  (a_ (dr 6 (e2 kB (eK (.int 1)) (eV 4)))
   (eW (fV (eD (e2 dm (eV 1) (eV 6))) (eD (be tu (aC (eV 5) (aC (eV 2) aN)))))
   (nG 3 bK (eV 6))
   c9))
def kO:DG:=
  (a_ (dr 3 (eK (.int 0)))
  (a_ (js (iE (bc "Facts" "asks" (eV 0))) (D6 4 5)
  fT)
  (eE (eV 3))))
def dZ:List D->Option D:=j2 3 7 kO
abbrev mm:cY:=cW (top 6) 11
noncomputable abbrev yI:List aG:=["self", "named", "atoms", "fits", "place", "ask", "bit"]
theorem gj:bC yI ["self", "named", "atoms"] (aI mm):=by walk_at "s"
def Az:DG:=
  (a_ (eW (dk (e2 fh (e2 cj (eV 0) (eK (.int 0))) (eK (.str (ab "open")))))
  (eE (Y0 (eV 1) (TQ (dk (eV 2)))))
  c9)
  (eE (eV 1)))
def mE:List D->Option D:=j2 3 3 Az
abbrev r9:cY:=top 13
noncomputable abbrev IA:List aG:=["sign", "within", "begun"]
theorem Fg:bC IA ["sign", "within", "begun"] (aI r9):=by walk_at "s"
def sD:DG:=
  (a_ (lM 0 "Row" "number" (eV 1))
  (a_ (lM 0 "Row" "named" (eV 2))
  (a_ (lM 0 "Row" "atoms" (eV 3))
  (a_ (lM 0 "Row" "fits" (eK (.int 0)))
  (a_ (lM 0 "Row" "reached" (eK (.int 0)))
  (a_ (lM 0 "Row" "reached_around" (eK (.int 0)))
  (a_ (lM 0 "Row" "hoped" (eK (.int 0)))
  (lM 0 "Row" "hoped_around" (eK (.int 0))))))))))
def jY:List D->Option (D×D):=runC 4 4 0 sD
abbrev nj:cY:=cW (top 15) 0
noncomputable abbrev A7:List aG:=["self", "number", "named", "atoms"]
theorem ye:bC A7 ["self", "number", "named", "atoms"] (aI nj):=by walk_at "s"
def iJ:DG:=
  (eW (eD (be oP (aC (e2 cj (eV 3) (eK (.int 2))) aN)))
   (nG 1 bK (e2 kB (eK (.int 1)) (eV 2)))
   c9)
def nP:DG:=
  (a_ (dr 1 (eK (.int 0)))
  (a_ (js (iE (eV 0)) (D6 2 3)
  iJ)
  (eE (eV 1))))
def j7:List D->Option D:=j2 1 4 nP
abbrev pE:cY:=top 18
noncomputable abbrev Eu:List aG:=["question", "able", "place", "step"]
theorem kv:bC Eu ["question"] (aI pE):=by walk_at "s"
section
variable {P:bj}{w:bQ}{K:bb}{d:aG->Option af}{h:cF}{f:az}{e:dP}
theorem vF(F:jD K "__init__" "Facts.__init__" jH f e)(i:KS K d)(g:m4 P w K d h "copied" 59 (i4 K wG))(b:fB P w K d h "Facts" "enter" 59 (spT K aB gi))(c:fB P w K d h "Facts" "asked" 59 (spT K aB mO)):cQ P w K d h iW 60 f e ["self", "question"] (spT K aB gz):=
 F.FJ (own:=[0]) (own':=[0]) (g:=j5) vz aB (by decide) (by decide) λm A j s H E k B a l=>
  (ai (gQ (b:=Z_) (c:= "Facts") (pv 0) (fE g k rfl (aA (vP 1) bg)) i.gv)
  (ai (gQ (b:=Z_) (c:= "Facts") (pv 0) ax i.qG)
  (ai (sI (c:= "Facts") (s1 :=.di) (pv 0) NV i.kL)
  (ai (sI (c:= "Facts") (s1 :=.di) (pv 0) NV i.ju)
  (ai (gQ (b:=Z_) (c:= "Facts") (pv 0) ax i.nz)
  (ai (gQ (b:=Z_) (c:= "Facts") (pv 0) ax i.ub)
  (ai (gQ (b:=Z_) (c:= "Facts") (pv 0) ax i.ik)
  (ai (sI (c:= "Facts") (s1:=(.li .lf)) (pv 0) T8 i.pJ)
  (ai (lX (jx b k (pv 0) (cS (cz (za (c:= "Facts") (pv 0) i.gv)) hV)))
  (aJ (NK (b:=Z_) (c:= "Facts") (pv 0) (Ii (i0:=1) (j0:=0) (s:=aB) (N:=[("step" : aG),("self" : aG)]) (src:=[M,Y 0]) (km (outer:=aI jH) (oN:=qg) rfl (by decide +kernel) rfl rfl) rfl (fR (za (c:= "Facts") (pv 0) i.gv)) (h_ 0) (by decide) (sA _ 0 1) (λC s H n=>⟨cw (i:=0) (show ([("step" : aG),("self" : aG)]:List aG).Nodup by decide +kernel) rfl (rQ rfl),jh,WA λB a l=>(jx c k (pv 1) (cS (cz (cq (vQ 0) (dq ax))) hV))⟩)) i.vR)))))))))))
theorem uD(F:jD K "steps_for" "Facts.steps_for" kX f e)(b:KS K d):cQ P w K d h iW 1 f e ["self", "name"] (i4 K eS):=
 F.xk (own:=[]) (own':=[]) (g:=jJ) uq (by decide) λg A a s H E c B i=>
  (aJ (dA (bo vI (dq (aX (c:= "Facts") (vQ 0) b.nz)) (dq (Ec (Ao c) (dq (aX (c:= "Facts") (vQ 0) b.kL)) (vQ 1) ax ⟨rfl,rfl,rfl,rfl⟩)))))
theorem uC(F:jD K "text_fact" "Facts.text_fact" kW f e)(b:KS K d):cQ P w K d h iW 1 f e ["self", "text"] (i4 K eR):=
 F.xk (own:=[]) (own':=[]) (g:=jI) uo (by decide) λg A a s H E c B i=>
  (aJ (dA (Ec (Ao c) (dq (aX (c:= "Facts") (vQ 0) b.ju)) (vQ 1) ax ⟨rfl,rfl,rfl,rfl⟩)))
theorem yo(F:jD K "lifted" "Facts.lifted" nr f e)(c:KS K d)(a:m4 P w K d h "meets" 59 (i4 K tu)):cQ P w K d h iW 60 f e ["self", "named", "atoms"] (i4 K iP):=
 F.xk (own:=[]) (own':=[]) (g:=lS) jr (by decide) λj A b s H E i B g=>
  (ai (cH (i:=3) jr.nd rfl (.inl rfl) (bo eB (vQ 2) (dq (aX (c:= "Facts") (vQ 0) c.ik))))
  (ai (k9 cx rfl (fR (aX (c:= "Facts") (vQ 0) c.pJ)) (λB g=>(AM (xb rfl (iG (cw (i:=4) jr.nd rfl (.inl rfl)) (iG (cw (i:=5) jr.nd rfl (.inl rfl)) sW))))) (λB g=>
  (aJ (dU (PW.pt (oK (d_ (dq (bo eB (vQ 1) (vQ 4)))) (lW (d_ (dq (fE a i rfl (aA (vP 5) (aA (vP 2) bg))))))))
   (aJ (uY (i:=3) (op:=bK) vU jr.nd rfl (.inl rfl) (vP 4)))
   cE))))
  (aJ (dA (vP 3)))))
theorem xh(F:jD K "fitting" "Facts.fitting" mm f e)(c:KS K d)(a:m4 P w K d h "meets" 59 (i4 K tu)):cQ P w K d h iW 60 f e ["self", "named", "atoms"] (i4 K dZ):=
 F.xk (own:=[]) (own':=[]) (g:=kO) gj (by decide) λj A b s H E i B g=>
  (ai (cH (i:=3) gj.nd rfl (.inl rfl) ax)
  (ai (k9 cx rfl (y_ rfl c.pa (aX (c:= "Facts") (vQ 0) c.vR)) (λB g=>(AM (xb rfl (iG (cw (i:=4) gj.nd rfl (.inl rfl)) (iG (cw (i:=5) gj.nd rfl (.inl rfl)) sW))))) (λB g=>
  (ai (cH (i:=6) gj.nd rfl (.inl rfl) (bo uG (dq ax) (vQ 4)))
   (aJ (dU (PW.pt (oK (d_ (dq (bo eB (vQ 1) (vQ 6)))) (lW (d_ (dq (fE a i rfl (aA (vP 5) (aA (vP 2) bg))))))))
   (aJ (uY (i:=3) (op:=bK) vU gj.nd rfl (.inl rfl) (vP 6)))
   cE)))))
  (aJ (dA (vP 3)))))
theorem FI(F:jD K "can_come" "can_come" r9 f e):cQ P w K d h iW 1 f e ["sign", "within", "begun"] (i4 K mE):=
 F.xk (own:=[]) (own':=[]) (g:=Az) Fg (by decide) λc A a s H E b B g=>
  (ai (dU (cG (gF b) (dq (cq (vQ 0) (dq ax))) (dq bY) (cu _))
  (aJ (dA (WE (vP 1) (NR (TY (vP 2))))))
  cE)
  (aJ (dA (vP 1))))
theorem yn(F:jD K "__init__" "Row.__init__" nj f e)(b:KS K d):cQ P w K d h iW 1 f e ["self", "number", "named", "atoms"] (UH K 0 jY):=
 F.okC (own:=[0]) (own':=[0]) (g:=sD) ye 0 (by decide) (by decide) λg A c s H E i B a j=>
  (ai (k_ (c:= "Row") (pv 0) (vP 1) b.nN)
  (ai (k_ (c:= "Row") (pv 0) (vP 2) b.sy)
  (ai (k_ (c:= "Row") (pv 0) (vP 3) b.jV)
  (ai (k_ (c:= "Row") (pv 0) ax b.oE)
  (ai (k_ (c:= "Row") (pv 0) ax b.eM)
  (ai (k_ (c:= "Row") (pv 0) ax b.d9)
  (ai (k_ (c:= "Row") (pv 0) ax b.i5)
  (aJ (k_ (c:= "Row") (pv 0) ax b.d4)))))))))
theorem Bz(F:jD K "able_steps" "able_steps" pE f e)(g:KS K d)(a:m4 P w K d h "can_hold" 59 (i4 K oP)):cQ P w K d h iW 60 f e ["question"] (i4 K j7):=
 F.xk (own:=[]) (own':=[]) (g:=nP) kv (by decide) λj A b s H E i B c=>
  (ai (cH (i:=1) kv.nd rfl (.inl rfl) ax)
  (ai (k9 cx rfl (y_ rfl g.pa (vP 0)) (λB c=>(AM (xb rfl (iG (cw (i:=2) kv.nd rfl (.inl rfl)) (iG (cw (i:=3) kv.nd rfl (.inl rfl)) sW))))) (λB c=>
  (aJ (dU (d_ (dq (fE a i rfl (aA (cq (vQ 3) (dq ax)) bg))))
   (aJ (uY (i:=1) (op:=bK) vU kv.nd rfl (.inl rfl) (bo uG (dq ax) (vQ 2))))
   cE))))
  (aJ (dA (vP 1)))))
end
def CF:DG:=
  (a_ (dr 0 (JG "Row" jY (aC (e1 HK (eK (.int 1))) (aC (eK (.int 0)) (aC (eK (.int 0)) aN)))))
  (a_ (lM 0 "Row" "reached" (eK (.int 1)))
  (a_ (lM 0 "Row" "reached_around" (eK (.int 1)))
  (a_ (lM 0 "Row" "hoped" (eK (.int 1)))
  (a_ (lM 0 "Row" "hoped_around" (eK (.int 1)))
  (IM 0))))))
def tp:List D->Option D:=QL 0 1 CF
abbrev uk:cY:=top 17
noncomputable abbrev LB:List aG:=["row"]
theorem zt:bC LB [] (aI uk):=by walk_at "s"
def jd:DG:=
  (eE (Qc (e2 vj (bc "Coming" "opened" (eV 0)) (eK (.int 0))) (e2 fh (be hR (aC (bc "Coming" "rows" (eV 0)) aN)) (eK (.int 1)))))
def gJ:List D->Option D:=j2 1 1 jd
abbrev kf:cY:=cW (top 16) 2
noncomputable abbrev va:List aG:=["self"]
theorem tK:bC va ["self"] (aI kf):=by walk_at "s"
def p':DG:=
  (eE (e2 kB (e2 dm (e2 Cs (eV 1) (e2 dm (eV 2) (bc "Facts" "inner" (bc "Coming" "facts" (eV 0))))) (eV 3)) (eK (.int 1))))
def dG:List D->Option D:=j2 4 4 p'
abbrev lH:cY:=cW (top 16) 4
noncomputable abbrev xR:List aG:=["self", "parent", "around", "fits"]
theorem vA:bC xR ["self", "parent", "around", "fits"] (aI lH):=by walk_at "s"
def jc:DG:=
  (a_ (dr 3 (e2 cj (bc "Coming" "rows" (eV 0)) (e1 HK (eK (.int 1)))))
  (a_ (dr 4 (e2 dm (e2 SA (e2 Cs (e2 cj (eV 1) (eK (.int 2))) (e2 cj (eV 1) (eK (.int 3)))) (eK (.int 1))) (bc "Row" "fits" (eV 2))))
  (a_ (dr 5 (e2 dm (e2 dm (eV 4) (e1 yr (bc "Facts" "inner" (bc "Coming" "facts" (eV 0))))) (bc "Row" "hoped" (eV 3))))
  (a_ (dr 6 (e2 dm (e2 Cs (e2 dm (eV 4) (bc "Facts" "inner" (bc "Coming" "facts" (eV 0)))) (e2 cj (eV 1) (eK (.int 3)))) (bc "Row" "hoped_around" (eV 3))))
  (eE (gS (aC (e2 cj (eV 1) (eK (.int 0))) (aC (e2 me (e2 cj (eV 1) (eK (.int 1))) (eK (.int 1))) (aC (eV 5) (aC (eV 6) aN))))))))))
def gI:List D->Option D:=j2 3 7 jc
abbrev ke:cY:=cW (top 16) 10
noncomputable abbrev u_:List aG:=["self", "rest", "row", "parent", "steps", "own", "around"]
theorem fW:bC u_ ["self", "rest", "row"] (aI ke):=by walk_at "s"
def gy:DG:=
  (eW (eD (e2 dm (e2 dm (bc "Row" "hoped" (eV 2)) (e1 yr (bc "Row" "reached" (eV 2)))) (bc "Coming" "full" (eV 0))))
   (pV 1 (bc "Row" "number" (eV 2)))
   c9)
def lT:DG:=
  (a_ (jS 1 (o6 (iL (bc "Coming" "rests" (eV 0))) [M] (gN 0) iC (e2 cj (eV 0) (eK (.int 0)))))
  (a_ (js (iL (bc "Coming" "rows" (eV 0))) (gN 2)
  gy)
  (t6 (lU (eV 1)))))
def dY:List D->Option D:=j2 1 3 lT
abbrev kI:cY:=cW (top 16) 11
noncomputable abbrev sQ:List aG:=["self", "numbers", "row"]
theorem nt:bC sQ ["self"] (aI kI):=by walk_at "s"
def mN:DG:=
  (a_ (nG 1 bK (e2 kB (eK (.int 1)) (eV 2)))
   (nG 2 (λi j=>i-j) (eK (.int 1))))
def pk:DG:=
  (a_ (dr 1 (eK (.int 0)))
  (a_ (dr 2 (e2 me (be hR (aC (bc "Facts" "question" (bc "Coming" "facts" (eV 0))) aN)) (eK (.int 1))))
  (a_ (zy 1000000 (fV (dk (e2 SD (eV 2) (eK (.int 0)))) (eD (e2 dm (bc "Coming" "able" (eV 0)) (e2 kB (eK (.int 1)) (eV 2)))))
  mN)
  (eE (eV 1)))))
def lA:List D->Option D:=j2 1 3 pk
abbrev qr:cY:=top 22
noncomputable abbrev GO:List aG:=["coming", "ends", "place"]
theorem lK:bC GO ["coming"] (aI qr):=by walk_at "s"
def kE:DG:=
  (a_ (dr 3 (e2 cj (bc "Coming" "rows" (eV 0)) (eV 2)))
   (a_ (dr 4 (e2 dm (e2 Cs (bc "Row" "hoped" (eV 3)) (e2 dm (bc "Row" "hoped_around" (eV 3)) (bc "Facts" "inner" (bc "Coming" "facts" (eV 0))))) (eV 1)))
   (eW (eD (eV 4))
   (eE (gS (aC (eV 2) (aC (e2 me (e1 Og (eV 4)) (eK (.int 1))) aN))))
   c9)))
def pq:DG:=
  (a_ (dr 1 (be lA (aC (eV 0) aN)))
  (a_ (js (UM (e2 me (be hR (aC (bc "Coming" "rows" (eV 0)) aN)) (eK (.int 1))) (eK (.int 0))) (gN 2)
  kE)
  (eE (eK .eJ))))
def i7:List D->Option D:=j2 1 5 pq
abbrev qt:cY:=top 21
noncomputable abbrev GP:List aG:=["coming", "ends", "place", "row", "starts"]
theorem lL:bC GP ["coming"] (aI qt):=by walk_at "s"
def nO:DG:=
  (a_ (eW (eD (eV 1))
  (eE (eK (.str (ab "sure"))))
  c9)
  (a_ (eW (nJ (eD (cO "Coming" "waits" dY (eV 0) aN)) (dk (e2 nL (be i7 (aC (eV 0) aN)) (eK .eJ))))
  (eE (eK (.str (ab "open"))))
  c9)
  (eE (eK (.str (ab "lost"))))))
def l5:List D->Option D:=j2 2 2 nO
abbrev pD:cY:=top 20
noncomputable abbrev Es:List aG:=["coming", "is_sure"]
theorem Bt:bC Es ["coming", "is_sure"] (aI pD):=by walk_at "s"
section
variable {P:bj}{w:bQ}{K:bb}{a:aG->Option af}{d:cF}{f:az}{b:dP}
theorem HH(F:jD K "top_row" "top_row" uk f b)(e:KS K a)(c:wA P w K a d "Row" 1 (UH K 0 jY)):cQ P w K a d iW 3 f b [] (Xh K tp):=
 F.UJ (own:=[0]) (own':=[0]) (g:=CF) zt (by decide) λi A g s H E h B j=>
  (ai (JK (i:=0) zt.nd rfl (.inl rfl) (JO c h rfl (aA (AO (dq ax)) (aA ax (aA ax bg)))))
  (ai (k_ (c:= "Row") (pv 0) ax e.eM)
  (ai (k_ (c:= "Row") (pv 0) ax e.d9)
  (ai (k_ (c:= "Row") (pv 0) ax e.i5)
  (ai (k_ (c:= "Row") (pv 0) ax e.d4)
  (aJ (JL (pv 0))))))))
theorem tU(F:jD K "has_ended" "Coming.has_ended" kf f b)(e:KS K a):cQ P w K a d iW 1 f b ["self"] (i4 K gJ):=
 F.xk (own:=[]) (own':=[]) (g:=jd) tK (by decide) λh A c s H E g B i=>
  (aJ (dA (T4 (sJ vJ (dq (aX (c:= "Coming") (vQ 0) e.jv)) (dq ax) (cu _)) (NR (sJ (gF g) (dq (la rfl e.og (dq (aX (c:= "Coming") (vQ 0) e.cp)))) (dq ax) (cu _))))))
theorem vG(F:jD K "gone_on" "Coming.gone_on" lH f b)(e:KS K a):cQ P w K a d iW 1 f b ["self", "parent", "around", "fits"] (i4 K dG):=
 F.xk (own:=[]) (own':=[]) (g:=p') vA (by decide) λg A c s H E h B i=>
  (aJ (dA (bo uG (dq (bo eB (dq (bo vI (vQ 1) (dq (bo eB (vQ 2) (dq (aX (c:= "Facts") (dq (aX (c:= "Coming") (vQ 0) e.cR)) e.ik)))))) (vQ 3))) (dq ax))))
theorem tT(F:jD K "moved_out" "Coming.moved_out" ke f b)(c:KS K a):cQ P w K a d iW 1 f b ["self", "rest", "row"] (i4 K gI):=
 F.xk (own:=[]) (own':=[]) (g:=jc) fW (by decide) λg A e s H E h B i=>
  (ai (cH (i:=3) fW.nd rfl (.inl rfl) (cq (dq (aX (c:= "Coming") (vQ 0) c.cp)) (dq (AO (dq ax)))))
  (ai (cH (i:=4) fW.nd rfl (.inl rfl) (bo eB (dq (bo Sz (dq (bo vI (dq (cq (vQ 1) (dq ax))) (dq (cq (vQ 1) (dq ax))))) (dq ax))) (dq (aX (c:= "Row") (vQ 2) c.oE))))
  (ai (cH (i:=5) fW.nd rfl (.inl rfl) (bo eB (dq (bo eB (vQ 4) (dq (AQ (dq (aX (c:= "Facts") (dq (aX (c:= "Coming") (vQ 0) c.cR)) c.ik)))))) (dq (aX (c:= "Row") (vQ 3) c.i5))))
  (ai (cH (i:=6) fW.nd rfl (.inl rfl) (bo eB (dq (bo vI (dq (bo eB (vQ 4) (dq (aX (c:= "Facts") (dq (aX (c:= "Coming") (vQ 0) c.cR)) c.ik)))) (dq (cq (vQ 1) (dq ax))))) (dq (aX (c:= "Row") (vQ 3) c.d4))))
  (aJ (dA (iI (aA (cq (vQ 1) (dq ax)) (aA (bo ny (dq (cq (vQ 1) (dq ax))) (dq ax)) (aA (vP 5) (aA (vP 6) bg)))))))))))
theorem yp(F:jD K "waits" "Coming.waits" kI f b)(c:KS K a):cQ P w K a d iW 1 f b ["self"] (i4 K dY):=
 F.xk (own:=[1]) (own':=[1]) (g:=lT) nt (by decide) λg A outer s H E h B e=>
  (ai (CM (i:=1) (own':=[]) (N:=[("rest" : aG)]) (src:=[M]) (km (outer:=aI kI) (oN:=sQ) rfl (by decide +kernel) rfl rfl) rfl nt.nd rfl rfl (fR (aX (c:= "Coming") (vQ 0) c.iH)) (h_ 0) (by decide) (jw 0) (λC s H i=>⟨cw (i:=0) (show ([("rest" : aG)]:List aG).Nodup by decide +kernel) rfl (.inl rfl),jh,(cq (vQ 0) (dq ax))⟩))
  (ai (k9 cx rfl (fR (aX (c:= "Coming") (vQ 0) c.cp)) (λB e=>(mM (cw (i:=2) nt.nd rfl (.inl rfl)))) (λB e=>
  (aJ (dU (d_ (dq (bo eB (dq (bo eB (dq (aX (c:= "Row") (vQ 2) c.i5)) (dq (AQ (dq (aX (c:= "Row") (vQ 2) c.eM)))))) (dq (aX (c:= "Coming") (vQ 0) c.kD)))))
   (aJ (oM (pv 1) (aX (c:= "Row") (vQ 2) c.nN)))
   cE))))
  (aJ (wd (AN rfl c.vm (JI (pv 1)))))))
theorem Ds(F:jD K "open_ends" "open_ends" qr f b)(c:KS K a):cQ P w K a d iW 1 f b ["coming"] (i4 K lA):=
 F.xk (own:=[]) (own':=[]) (g:=pk) lK (by decide) λg A e s H E h B k=>
  (ai (cH (i:=1) lK.nd rfl (.inl rfl) ax)
  (ai (cH (i:=2) lK.nd rfl (.inl rfl) (bo ny (dq (la rfl c.og (dq (aX (c:= "Facts") (dq (aX (c:= "Coming") (vQ 0) c.cR)) c.gv)))) (dq ax)))
  (ai (Gp 1000000 cx (PW.pt (oK (cG VT (vQ 2) (dq ax) (cu _)) (lW (d_ (dq (bo eB (dq (aX (c:= "Coming") (vQ 0) c.pK)) (dq (bo uG (dq ax) (vQ 2)))))))))
  (ai (uY (i:=1) (op:=bK) vU lK.nd rfl (.inl rfl) (bo uG (dq ax) (vQ 2)))
   (aJ (uY (i:=2) (op:=(λi j=>i-j)) Ni lK.nd rfl (.inl rfl) ax))))
  (aJ (dA (vP 1))))))
theorem Dt(F:jD K "new_start" "new_start" qt f b)(e:KS K a)(c:m4 P w K a d "open_ends" 1 (i4 K lA)):cQ P w K a d iW 2 f b ["coming"] (i4 K i7):=
 F.xk (own:=[]) (own':=[]) (g:=pq) lL (by decide) λj A g s H E i B h=>
  (ai (cH (i:=1) lL.nd rfl (.inl rfl) (fE c i rfl (aA (vP 0) bg)))
  (ai (k9 cx rfl (Ll rfl e.qo (bo ny (dq (la rfl e.og (dq (aX (c:= "Coming") (vQ 0) e.cp)))) (dq ax)) ax (AO (dq ax))) (λB h=>(mM (cw (i:=2) lL.nd rfl (.inl rfl)))) (λB h=>
  (ai (cH (i:=3) lL.nd rfl (.inl rfl) (cq (dq (aX (c:= "Coming") (vQ 0) e.cp)) (vQ 2)))
   (ai (cH (i:=4) lL.nd rfl (.inl rfl) (bo eB (dq (bo vI (dq (aX (c:= "Row") (vQ 3) e.i5)) (dq (bo eB (dq (aX (c:= "Row") (vQ 3) e.d4)) (dq (aX (c:= "Facts") (dq (aX (c:= "Coming") (vQ 0) e.cR)) e.ik)))))) (vQ 1)))
   (aJ (dU (d_ (vQ 4))
   (aJ (dA (iI (aA (vP 2) (aA (bo ny (dq (Qn (vQ 4))) (dq ax)) bg)))))
   cE))))))
  (aJ (dA NS))))
theorem By(F:jD K "outlook_of" "outlook_of" pD f b)(c:fB P w K a d "Coming" "waits" 2 (i4 K dY))(e:m4 P w K a d "new_start" 2 (i4 K i7)):cQ P w K a d iW 3 f b ["coming", "is_sure"] (i4 K l5):=
 F.xk (own:=[]) (own':=[]) (g:=nO) Bt (by decide) λi A g s H E h B j=>
  (ai (dU (d_ (vQ 1))
  (aJ (dA bY))
  cE)
  (ai (dU (PW.pt (wa (d_ (dq (ly c h (vP 0)))) (qJ (cG Pz (dq (fE e h rfl (aA (vP 0) bg))) (dq NS) (cu _)))))
  (aJ (dA bY))
  cE)
  (aJ (dA bY))))
end
def jK:DG:=
  (a_ (eI Z_ 0 "Coming" "facts" (mB "Facts" gz (aC (eV 1) aN)))
  (a_ (eI Z_ 0 "Coming" "full" (lx [0] [] (e2 kB (eK (.int 1)) (be hR (aC (bc "Facts" "question" (bc "Coming" "facts" (eV 0))) aN)))))
  (a_ (eI Z_ 0 "Coming" "able" (lx [0] [] (be j7 (aC (bc "Facts" "question" (bc "Coming" "facts" (eV 0))) aN))))
  (a_ (eI Z_ 0 "Coming" "taken" (eK (.int 0)))
  (a_ (eI Z_ 0 "Coming" "opened" (eK (.int 0)))
  (a_ (mu 0 "Coming" "rows" (.li (.fs "Row" [])) (Qb (JH "Row" (λ_=>tp []))))
  (eI Z_ 0 "Coming" "rests" (eF (fX aN)))))))))
def eT:List D->Option (D×D):=mV 2 2 aF jK
abbrev kY:cY:=cW (top 16) 0
noncomputable abbrev wD:List aG:=["self", "question"]
theorem ur:bC wD ["self", "question"] (aI kY):=by walk_at "s"
def je:DG:=
  (a_ (dr 4 (JG "Row" jY (aC (eV 1) (aC (eV 2) (aC (eV 3) aN)))))
  (a_ (sf 5 0 "Coming" "rows" (e1 HK (eK (.int 1))))
  (a_ (lM 4 "Row" "fits" (lx [0] [5] (cO "Facts" "fitting" dZ (bc "Coming" "facts" (eV 0)) (aC (eV 2) (aC (eV 3) aN)))))
  (a_ (lM 4 "Row" "hoped" (lx [0] [5] (cO "Coming" "gone_on" dG (eV 0) (aC (bc "Row" "hoped" (eV 5)) (aC (bc "Row" "hoped_around" (eV 5)) (aC (e2 dm (eV 2) (bc "Coming" "able" (eV 0))) aN))))))
  (a_ (lM 4 "Row" "hoped_around" (lx [0] [5] (e2 Cs (bc "Row" "hoped_around" (eV 5)) (bc "Row" "hoped" (eV 4)))))
  (zE 0 4 "Coming" "rows"))))))
def gK:List D->Option (D×D):=mV 4 6 aF je
abbrev kg:cY:=cW (top 16) 3
noncomputable abbrev vb:List aG:=["self", "number", "named", "atoms", "row", "parent"]
theorem ki:bC vb ["self", "number", "named", "atoms"] (aI kg):=by walk_at "s"
def jM:DG:=
  (a_ (sf 3 0 "Coming" "rows" (eV 1))
   (a_ (eI Z' 3 "Row" "fits" (lx [0] [3,5] (cO "Facts" "fitting" dZ (bc "Coming" "facts" (eV 0)) (aC (bc "Row" "named" (eV 3)) (aC (bc "Row" "atoms" (eV 3)) aN)))))
   (a_ (dr 4 (lx [0] [3,5] (cO "Facts" "lifted" iP (bc "Coming" "facts" (eV 0)) (aC (bc "Row" "named" (eV 3)) (aC (bc "Row" "atoms" (eV 3)) aN)))))
   (a_ (nG 1 (λi j=>i-j) (eK (.int 1)))
   (a_ (sf 5 0 "Coming" "rows" (eV 1))
   (a_ (dr 2 (lx [0] [3,5] (e2 vK (e2 dm (eV 4) (e1 yr (bc "Row" "atoms" (eV 5)))) (eK (.int 0)))))
   (d8 Z' 5 "Row" "atoms" bK (eV 4))))))))
def kP:DG:=
  (a_ (dr 1 (lx [0] [3,5] (e2 me (be hR (aC (bc "Coming" "rows" (eV 0)) aN)) (eK (.int 1)))))
  (a_ (dr 2 (eK (.bl Z')))
  (zy 1000000 (fV (eD (eV 2)) (dk (e2 vj (eV 1) (eK (.int 0)))))
  jM)))
def dE:List D->Option (D×D):=mV 1 6 aF kP
abbrev mo:cY:=cW (top 16) 6
noncomputable abbrev yJ:List aG:=["self", "place", "changed", "row", "up", "parent"]
theorem d7:bC yJ ["self"] (aI mo):=by walk_at "s"
def jf:DG:=
  (a_ (sf 2 0 "Coming" "rows" (e1 HK (eK (.int 1))))
  (eW (xY [0] [2] (eD (e2 dm (eV 1) (e1 yr (bc "Row" "atoms" (eV 2))))))
  (a_ (d8 Z' 2 "Row" "atoms" bK (eV 1))
   (dS (bU "Coming" "spread" aF dE 0 kl)))
  c9))
def gL:List D->Option (D×D):=mV 2 3 aF jf
abbrev kh:cY:=cW (top 16) 5
noncomputable abbrev vc:List aG:=["self", "atoms", "row"]
theorem nF:bC vc ["self", "atoms"] (aI kh):=by walk_at "s"
section
variable {P:bj}{w:bQ}{K:bb}{d:aG->Option af}{e:cF}{f:az}{h:dP}
theorem uF(F:jD K "__init__" "Coming.__init__" kY f h)(g:KS K d)(i:wA P w K d e "Facts" 88 (spT K aB gz))(b:m4 P w K d e "able_steps" 89 (i4 K j7))(c:m4 P w K d e "top_row" 89 (Xh K tp)):cQ P w K d e iW 90 f h ["self", "question"] (spT K aF eT):=
 F.FJ (own:=[0]) (own':=[0]) (g:=jK) ur aF (by decide) (by decide) λl A j s H E k B a m=>
  (ai (gQ (b:=Z_) (c:= "Coming") (pv 0) (TZ (Ed (fk:=qb) i k rfl (aA (vP 1) bg))) g.cR)
  (ai (gQ (b:=Z_) (c:= "Coming") (pv 0) (jL [] [0] [] (bo uG (dq ax) (dq (la rfl g.og (dq (aX (c:= "Facts") (dq (aX (c:= "Coming") (vQ 0) g.cR)) g.gv)))))) g.kD)
  (ai (gQ (b:=Z_) (c:= "Coming") (pv 0) (jL [] [0] [] (fE b k rfl (aA (aX (c:= "Facts") (dq (aX (c:= "Coming") (vQ 0) g.cR)) g.gv) bg))) g.pK)
  (ai (gQ (b:=Z_) (c:= "Coming") (pv 0) ax g.oG)
  (ai (gQ (b:=Z_) (c:= "Coming") (pv 0) ax g.jv)
  (ai (sI (c:= "Coming") (s1:=(.li (.fs "Row" []))) (pv 0) (T7 (Qq (c:= "Row") (NU c k rfl))) g.cp)
  (aJ (gQ (b:=Z_) (c:= "Coming") (pv 0) (df (e_ bg)) g.iH))))))))
theorem tV(F:jD K "begin_row" "Coming.begin_row" kg f h)(g:KS K d)(i:wA P w K d e "Row" 60 (UH K 0 jY))(c:fB P w K d e "Facts" "fitting" 61 (i4 K dZ))(b:fB P w K d e "Coming" "gone_on" 61 (i4 K dG)):cQ P w K d e iW 62 f h ["self", "number", "named", "atoms"] (spT K aF gK):=
 F.FJ (own:=[0,4,5,1000005,2000000]) (own':=[0,4,5,1000005,2000000]) (g:=je) ki aF (by decide) (by decide) λl A j s H E k B a m=>
  (ai (JK (i:=4) ki.nd rfl (.inl rfl) (JO i k rfl (aA (vP 1) (aA (vP 2) (aA (vP 3) bg)))))
  (ai (qK (i:=5) (c:= "Coming") ki.nd rfl (.inl rfl) (pv 0) (AO (dq ax)) g.cp)
  (ai (k_ (c:= "Row") (pv 4) (jL [4,1000005,2000000] [0] [5] (mX c k (aX (c:= "Coming") (vQ 0) g.cR) (aA (vP 2) (aA (vP 3) bg)))) g.oE)
  (ai (k_ (c:= "Row") (pv 4) (jL [4,1000005,2000000] [0] [5] (mX b k (vP 0) (aA (aX (c:= "Row") (vQ 5) g.i5) (aA (aX (c:= "Row") (vQ 5) g.d4) (aA (bo eB (vQ 2) (dq (aX (c:= "Coming") (vQ 0) g.pK))) bg))))) g.i5)
  (ai (k_ (c:= "Row") (pv 4) (jL [4,1000005,2000000] [0] [5] (bo vI (dq (aX (c:= "Row") (vQ 5) g.d4)) (dq (aX (c:= "Row") (JI (pv 4)) g.i5)))) g.d4)
  (aJ (NJ (c:= "Coming") (pv 0) (pv 4) g.cp)))))))
theorem xi(F:jD K "spread" "Coming.spread" mo f h)(g:KS K d)(b:fB P w K d e "Facts" "fitting" 61 (i4 K dZ))(c:fB P w K d e "Facts" "lifted" 61 (i4 K iP)):cQ P w K d e iW 62 f h ["self"] (spT K aF dE):=
 F.FJ (own:=[0,3,5,1000003,1000005,2000000]) (own':=[0,3,5,1000003,1000005,2000000]) (g:=kP) d7 aF (by decide) (by decide) λm A k s H E l B a n=>
  (ai (cH (i:=1) d7.nd rfl (.inl rfl) (jL [1000003,1000005,2000000] [0] [3,5] (bo ny (dq (la rfl g.og (dq (aX (c:= "Coming") (vQ 0) g.cp)))) (dq ax))))
  (ai (cH (i:=2) d7.nd rfl (.inl rfl) AS)
  (aJ (Gp 1000000 cx (PW.pt (oK (d_ (vQ 2)) (lW (cG vJ (vQ 1) (dq ax) (cu _)))))
  (ai (qK (i:=3) (c:= "Coming") d7.nd rfl (.inl rfl) (pv 0) (vP 1) g.cp)
   (ai (gQ (b:=Z') (c:= "Row") (pv 3) (jL [1000003,1000005,2000000] [0] [3,5] (mX b l (aX (c:= "Coming") (vQ 0) g.cR) (aA (aX (c:= "Row") (vQ 3) g.sy) (aA (aX (c:= "Row") (vQ 3) g.jV) bg)))) g.oE)
   (ai (cH (i:=4) d7.nd rfl (.inl rfl) (jL [1000003,1000005,2000000] [0] [3,5] (mX c l (aX (c:= "Coming") (vQ 0) g.cR) (aA (aX (c:= "Row") (vQ 3) g.sy) (aA (aX (c:= "Row") (vQ 3) g.jV) bg)))))
   (ai (uY (i:=1) (op:=(λi j=>i-j)) Ni d7.nd rfl (.inl rfl) ax)
   (ai (qK (i:=5) (c:= "Coming") d7.nd rfl (.inl rfl) (pv 0) (vP 1) g.cp)
   (ai (cH (i:=2) d7.nd rfl (.inl rfl) (jL [1000003,1000005,2000000] [0] [3,5] (sJ (z0 l) (dq (bo eB (vQ 4) (dq (AQ (dq (aX (c:= "Row") (vQ 5) g.jV)))))) (dq ax) (cu _))))
   (aJ (jW (b:=Z') (c:= "Row") (op:=bK) vU (pv 5) (vP 4) g.jV))))))))))))
theorem tW(F:jD K "add_atoms" "Coming.add_atoms" kh f h)(g:KS K d)(b:fB P w K d e "Coming" "spread" 62 (spT K aF dE)):cQ P w K d e iW 63 f h ["self", "atoms"] (spT K aF gL):=
 F.FJ (own:=[0,2,1000002,2000000]) (own':=[0,2,1000002,2000000]) (g:=jf) nF aF (by decide) (by decide) λj A c s H E i B a k=>
  (ai (qK (i:=2) (c:= "Coming") nF.nd rfl (.inl rfl) (pv 0) (AO (dq ax)) g.cp)
  (aJ (dU (wb [1000002,2000000] [0] [2] (d_ (dq (bo eB (vQ 1) (dq (AQ (dq (aX (c:= "Row") (vQ 2) g.jV))))))))
  (ai (jW (b:=Z') (c:= "Row") (op:=bK) vU (pv 2) (vP 1) g.jV)
   (aJ (lX (n8 b i (pv 0)))))
  cE)))
end
def hW:DG:=
  (a_ (sf 3 0 "Coming" "rows" (e2 me (eV 2) (eK (.int 1))))
   (a_ (sf 4 0 "Coming" "rows" (eV 2))
   (a_ (dr 5 (lx [0] [4,3] (bc "Row" "reached" (eV 4))))
   (a_ (eI Z' 4 "Row" "reached" (lx [0] [4,3] (cO "Coming" "gone_on" dG (eV 0) (aC (bc "Row" "reached" (eV 3)) (aC (bc "Row" "reached_around" (eV 3)) (aC (bc "Row" "fits" (eV 4)) aN))))))
   (a_ (eI Z' 4 "Row" "reached_around" (lx [0] [4,3] (e2 Cs (bc "Row" "reached_around" (eV 3)) (bc "Row" "reached" (eV 4)))))
   (eW (xY [0] [4,3] (eD (e2 dm (e2 dm (bc "Row" "reached" (eV 4)) (e1 yr (eV 5))) (bc "Coming" "full" (eV 0)))))
   (pV 1 (lx [0] [4,3] (bc "Row" "number" (eV 4))))
   c9))))))
def kQ:DG:=
  (a_ (jS 1 (fX aN))
  (a_ (js (Ri (eK (.int 1)) (lx [0] [4,3] (be hR (aC (bc "Coming" "rows" (eV 0)) aN)))) (gN 2)
  hW)
  (IM 1)))
def kT:List D->Option (List D×D):=IT 1 6 aF kQ
abbrev mq:cY:=cW (top 16) 7
noncomputable abbrev yK:List aG:=["self", "found", "place", "parent", "row", "ahead"]
theorem gk:bC yK ["self"] (aI mq):=by walk_at "s"
def dR:DG:=
  (a_ (sf 4 0 "Coming" "rows" (e2 cj (eV 3) (eK (.int 1))))
   (eW (xY [0] [4] (nJ (eD (e2 dm (bc "Row" "reached" (eV 4)) (e2 cj (eV 3) (eK (.int 2))))) (eD (e2 dm (bc "Row" "reached_around" (eV 4)) (e2 cj (eV 3) (eK (.int 3)))))))
   (pV 1 (e2 cj (eV 3) (eK (.int 0))))
   (pV 2 (eV 3))))
def iy:DG:=
  (a_ (zD 1 0 "Coming" "settle" aF kT)
  (a_ (jS 2 (fX aN))
  (a_ (js (iL (ri 0 "Coming" "rests")) (gN 3)
  dR)
  (a_ (eI Z_ 0 "Coming" "rests" (eV 2))
  (dI (mP (eF (lU (eV 1)))))))))
def dH:List D->Option (D×D):=mV 1 5 aF iy
abbrev jQ:cY:=cW (top 16) 8
noncomputable abbrev tZ:List aG:=["self", "found", "kept", "rest", "row"]
theorem fH:bC tZ ["self"] (aI jQ):=by walk_at "s"
def fx:DG:=
  (a_ (dr 6 (lx [0,1] [] (NF (dk (e2 fh (e2 cj (eV 5) (eK (.int 1))) (eV 2))) (cO "Coming" "moved_out" gI (eV 0) (aC (eV 5) (aC (eV 1) aN))) (eV 5))))
   (eW (nJ (eD (e2 cj (eV 6) (eK (.int 2)))) (eD (e2 cj (eV 6) (eK (.int 3)))))
   (pV 4 (eV 6))
   c9))
def j6:DG:=
  (a_ (Fj 1 0 "Coming" "rows")
  (a_ (dr 2 (lx [0] [] (be hR (aC (bc "Coming" "rows" (eV 0)) aN))))
  (a_ (jS 3 (Gj (ri 0 "Coming" "rests")))
  (a_ (eW (xY [0] [] (t5 (eD (e2 dm (bc "Row" "reached" (eV 1)) (bc "Coming" "full" (eV 0))))))
  (pV 3 (lx [0] [] (gS (aC (bc "Row" "number" (eV 1)) (aC (eV 2) (aC (bc "Coming" "full" (eV 0)) (aC (eK (.int 0)) aN)))))))
  c9)
  (a_ (jS 4 (fX aN))
  (a_ (js (iL (eF (xw (eV 3)))) (gN 5)
  fx)
  (eI Z_ 0 "Coming" "rests" (eV 4))))))))
def gA:List D->Option (D×D):=mV 1 7 aF j6
abbrev lI:cY:=cW (top 16) 9
noncomputable abbrev xS:List aG:=["self", "row", "place", "rests", "kept", "rest", "moved"]
theorem eO:bC xS ["self"] (aI lI):=by walk_at "s"
section
variable {P:bj}{w:bQ}{K:bb}{d:aG->Option af}{e:cF}{f:az}{h:dP}
theorem xj(F:jD K "settle" "Coming.settle" mq f h)(c:KS K d)(b:fB P w K d e "Coming" "gone_on" 61 (i4 K dG)):cQ P w K d e iW 62 f h ["self"] (OP K aF kT):=
 F.Yg (own:=[0,1,4,3,1000004,1000003,2000000]) (own':=[0,1,4,3,1000004,1000003,2000000]) (g:=kQ) gk aF (by decide) (by decide) λk A g s H E j B a i=>
  (ai (nR (i:=1) gk.nd rfl (.inl rfl) (e_ bg))
  (ai (k9 cx rfl (Lm rfl c.qo (dq ax) (dq (jL [1,1000004,1000003,2000000] [0] [4,3] (la rfl c.og (dq (aX (c:= "Coming") (vQ 0) c.cp)))))) (λB i=>(mM (cw (i:=2) gk.nd rfl (.inl rfl)))) (λB i=>
  (ai (qK (i:=3) (c:= "Coming") gk.nd rfl (.inl rfl) (pv 0) (bo ny (vQ 2) (dq ax)) c.cp)
   (ai (qK (i:=4) (c:= "Coming") gk.nd rfl (.inl rfl) (pv 0) (vP 2) c.cp)
   (ai (cH (i:=5) gk.nd rfl (.inl rfl) (jL [1,1000004,1000003,2000000] [0] [4,3] (aX (c:= "Row") (vQ 4) c.eM)))
   (ai (gQ (b:=Z') (c:= "Row") (pv 4) (jL [1,1000004,1000003,2000000] [0] [4,3] (mX b j (vP 0) (aA (aX (c:= "Row") (vQ 3) c.eM) (aA (aX (c:= "Row") (vQ 3) c.d9) (aA (aX (c:= "Row") (vQ 4) c.oE) bg))))) c.eM)
   (ai (gQ (b:=Z') (c:= "Row") (pv 4) (jL [1,1000004,1000003,2000000] [0] [4,3] (bo vI (dq (aX (c:= "Row") (vQ 3) c.d9)) (dq (aX (c:= "Row") (vQ 4) c.eM)))) c.d9)
   (aJ (dU (wb [1,1000004,1000003,2000000] [0] [4,3] (d_ (dq (bo eB (dq (bo eB (dq (aX (c:= "Row") (vQ 4) c.eM)) (dq (AQ (vQ 5))))) (dq (aX (c:= "Coming") (vQ 0) c.kD))))))
   (aJ (oM (pv 1) (jL [1,1000004,1000003,2000000] [0] [4,3] (aX (c:= "Row") (vQ 4) c.nN))))
   cE)))))))))
  (aJ (JL (pv 1)))))
theorem sk(F:jD K "newly_told" "Coming.newly_told" jQ f h)(c:KS K d)(b:fB P w K d e "Coming" "settle" 62 (OP K aF kT)):cQ P w K d e iW 63 f h ["self"] (spT K aF dH):=
 F.FJ (own:=[0,1,2,4,1000004,2000000]) (own':=[0,1,2,4,1000004,2000000]) (g:=iy) fH aF (by decide) (by decide) λk A g s H E j B a i=>
  (ai (NH (i:=1) fH.nd rfl (.inl rfl) b j (pv 0))
  (ai (nR (i:=2) fH.nd rfl (.inl rfl) (e_ bg))
  (ai (k9 cx rfl (fR (za (c:= "Coming") (pv 0) c.iH)) (λB i=>(mM (cw (i:=3) fH.nd rfl (.inl rfl)))) (λB i=>
  (ai (qK (i:=4) (c:= "Coming") fH.nd rfl (.inl rfl) (pv 0) (cq (vQ 3) (dq ax)) c.cp)
   (aJ (dU (wb [1,2,1000004,2000000] [0] [4] (PW.pt (wa (d_ (dq (bo eB (dq (aX (c:= "Row") (vQ 4) c.eM)) (dq (cq (vQ 3) (dq ax)))))) (qJ (d_ (dq (bo eB (dq (aX (c:= "Row") (vQ 4) c.d9)) (dq (cq (vQ 3) (dq ax))))))))))
   (aJ (oM (pv 1) (cq (vQ 3) (dq ax))))
   (aJ (oM (pv 2) (vP 3))))))))
  (uX (own1:=[0,1,4,1000004,2000000]) 2 (ai (gQ (b:=Z_) (c:= "Coming") (pv 0) (vP 2) c.iH)
  (aJ (fD (cz (df (AN rfl c.vm (JI (pv 1))))))))))))
theorem vH(F:jD K "end_row" "Coming.end_row" lI f h)(c:KS K d)(b:fB P w K d e "Coming" "moved_out" 61 (i4 K gI)):cQ P w K d e iW 62 f h ["self"] (spT K aF gA):=
 F.FJ (own:=[0,1,3,4]) (own':=[0,1,3]) (g:=j6) eO aF (by decide) (by decide) λk A g s H E i B a j=>
  (ai (Qe (i:=1) (c:= "Coming") eO.nd rfl (.inl rfl) (pv 0) c.cp)
  (ai (cH (i:=2) eO.nd rfl (.inl rfl) (jL [1,3,4] [0] [] (la rfl c.og (dq (aX (c:= "Coming") (vQ 0) c.cp)))))
  (ai (nR (i:=3) eO.nd rfl (.inl rfl) (JN rfl c.LZ (dq (za (c:= "Coming") (pv 0) c.iH))))
  (ai (dU (wb [1,3,4] [0] [] (NG (d_ (dq (bo eB (dq (aX (c:= "Row") (JI (pv 1)) c.eM)) (dq (aX (c:= "Coming") (vQ 0) c.kD)))))))
  (aJ (oM (pv 3) (jL [1,3,4] [0] [] (iI (aA (aX (c:= "Row") (JI (pv 1)) c.nN) (aA (vP 2) (aA (aX (c:= "Coming") (vQ 0) c.kD) (aA ax bg))))))))
  cE)
  (ai (nR (i:=4) eO.nd rfl (.inl rfl) (e_ bg))
  (ai (k9 cx rfl (fR (df (NQ rfl c.vm (JI (pv 3))))) (λB j=>(mM (cw (i:=5) eO.nd rfl (.inl rfl)))) (λB j=>
  (ai (cH (i:=6) eO.nd rfl (.inl rfl) (jL [3,4] [0,1] [] (WG (cG (gF i) (dq (cq (vQ 5) (dq ax))) (vQ 2) (cu _)) (mX b i (vP 0) (aA (vP 5) (aA (vP 1) bg))) (vP 5))))
   (aJ (dU (PW.pt (wa (d_ (dq (cq (vQ 6) (dq ax)))) (qJ (d_ (dq (cq (vQ 6) (dq ax)))))))
   (aJ (oM (pv 4) (vP 6)))
   cE)))))
  (uX (own1:=[0,1,3]) 4 (aJ (gQ (b:=Z_) (c:= "Coming") (pv 0) (vP 4) c.iH)))))))))
end
def gf:DG:=
  (a_ (eW (xY [0] [] (t5 (eD (be mE (aC (eV 1) (aC (e2 vj (be hR (aC (bc "Coming" "rows" (eV 0)) aN)) (eK (.int 1))) (aC (e2 vj (bc "Coming" "opened" (eV 0)) (eK (.int 0))) aN)))))))
  Dd
  c9)
  (a_ (d8 Z_ 0 "Coming" "taken" (λi j=>i+j) (eK (.int 1)))
  (a_ (eW (dk (e2 fh (e2 cj (eV 1) (eK (.int 0))) (eK (.str (ab "close")))))
  (a_ (dS (bU "Coming" "end_row" aF gA 0 kl))
   (dI (mP (eF (fX aN)))))
  c9)
  (a_ (eW (dk (e2 fh (e2 cj (eV 1) (eK (.int 0))) (eK (.str (ab "open")))))
  (a_ (dS (bU "Coming" "begin_row" aF gK 0 (jn (mP (lx [0] [] (bc "Coming" "opened" (eV 0)))) (jn (mP (lx [0] [] (cO "Facts" "steps_for" eS (bc "Coming" "facts" (eV 0)) (aC (e2 cj (eV 1) (eK (.int 1))) aN)))) (jn (mP (eK (.int 0))) kl)))))
   (a_ (d8 Z_ 0 "Coming" "opened" (λi j=>i+j) (eK (.int 1)))
   (dS (bU "Coming" "spread" aF dE 0 kl))))
  (dS (bU "Coming" "add_atoms" aF gL 0 (jn (mP (lx [0] [] (cO "Facts" "text_fact" eR (bc "Coming" "facts" (eV 0)) (aC (e2 cj (eV 1) (eK (.int 1))) aN)))) kl))))
  (dI (bU "Coming" "newly_told" aF dH 0 kl))))))
def fF:List D->Option (D×D):=mV 2 2 aF gf
abbrev oj:cY:=cW (top 16) 1
noncomputable abbrev BX:List aG:=["self", "sign"]
theorem zx:bC BX ["self", "sign"] (aI oj):=by walk_at "s"
def kM:DG:=
  (a_ (mu 0 "Sift" "coming" aF (mB "Coming" eT (aC (eV 1) aN)))
  (eI Z_ 0 "Sift" "numbers" (eF (fX aN))))
def jy:List D->Option (D×D):=mV 2 2 dF kM
abbrev mj:cY:=cW (top 24) 0
noncomputable abbrev yG:List aG:=["self", "question"]
theorem wY:bC yG ["self", "question"] (aI mj):=by walk_at "s"
def pw:DG:=
  (a_ (lu 2 (qD "Sift" "coming" "Coming" "feed" aF fF 0 (aC (eV 1) aN)))
  (a_ (eI Z_ 0 "Sift" "numbers" (eF (UP [0] [] (lU (e2 gu (bc "Sift" "numbers" (eV 0)) (eV 2))))))
  (dI (mP (eV 2)))))
def m5:List D->Option (D×D):=mV 2 3 dF pw
abbrev qv:cY:=cW (top 24) 1
noncomputable abbrev GS:List aG:=["self", "sign", "fresh"]
theorem vy:bC GS ["self", "sign"] (aI qv):=by walk_at "s"
def x5:DG:=
  (t6 (Gj (bc "Sift" "numbers" (eV 0))))
def pA:List D->Option D:=j2 1 1 x5
abbrev qu:cY:=cW (top 24) 2
noncomputable abbrev GR:List aG:=["self"]
theorem C_:bC GR ["self"] (aI qu):=by walk_at "s"
def lP:DG:=
  (eE (cO "Coming" "waits" dY (bc "Sift" "coming" (eV 0)) aN))
def iM:List D->Option D:=j2 1 1 lP
abbrev ng:cY:=cW (top 24) 3
noncomputable abbrev A4:List aG:=["self"]
theorem yb:bC A4 ["self"] (aI ng):=by walk_at "s"
def lR:DG:=
  (eE (cO "Coming" "has_ended" gJ (bc "Sift" "coming" (eV 0)) aN))
def iO:List D->Option D:=j2 1 1 lR
abbrev ni:cY:=cW (top 24) 4
noncomputable abbrev A6:List aG:=["self"]
theorem yd:bC A6 ["self"] (aI ni):=by walk_at "s"
def ja:DG:=
  (eW (dk (e2 fh (bc "Coming" "taken" (bc "Sift" "coming" (eV 0))) (eK (.int 0))))
  Dd
  c9)
def gH:List D->Option D:=j2 1 1 ja
abbrev j9:cY:=cW (top 24) 9
noncomputable abbrev u6:List aG:=["self"]
theorem tI:bC u6 ["self"] (aI j9):=by walk_at "s"
def lQ:DG:=
  (a_ (dS (mP (cO "Sift" "need_a_sign" gH (eV 0) aN)))
  (eE (be l5 (aC (bc "Sift" "coming" (eV 0)) (aC (e2 vj (be hR (aC (bc "Sift" "numbers" (eV 0)) aN)) (eK (.int 0))) aN)))))
def iN:List D->Option D:=j2 1 1 lQ
abbrev nh:cY:=cW (top 24) 7
noncomputable abbrev A5:List aG:=["self"]
theorem yc:bC A5 ["self"] (aI nh):=by walk_at "s"
section
variable {P:bj}{w:bQ}{K:bb}{d:aG->Option af}{e:cF}{f:az}{h:dP}
theorem zY(F:jD K "feed" "Coming.feed" oj f h)(q:KS K d)(o:m4 P w K d e "can_come" 63 (i4 K mE))(m:fB P w K d e "Coming" "end_row" 63 (spT K aF gA))(c:fB P w K d e "Coming" "begin_row" 63 (spT K aF gK))(n:fB P w K d e "Coming" "spread" 63 (spT K aF dE))(g:fB P w K d e "Coming" "add_atoms" 63 (spT K aF gL))(b:fB P w K d e "Coming" "newly_told" 63 (spT K aF dH))(l:fB P w K d e "Facts" "steps_for" 63 (i4 K eS))(k:fB P w K d e "Facts" "text_fact" 63 (i4 K eR)):cQ P w K d e iW 64 f h ["self", "sign"] (spT K aF fF):=
 F.FJ (own:=[0]) (own':=[0]) (g:=gf) zx aF (by decide) (by decide) λt A r s H E p B a u=>
  (ai (dU (wb [] [0] [] (NG (d_ (dq (fE o p rfl (aA (vP 1) (aA (sJ vJ (dq (la rfl q.og (dq (aX (c:= "Coming") (vQ 0) q.cp)))) (dq ax) (cu _)) (aA (sJ vJ (dq (aX (c:= "Coming") (vQ 0) q.jv)) (dq ax) (cu _)) bg))))))))
  (aJ Gq)
  cE)
  (ai (jW (b:=Z_) (c:= "Coming") (op:=(λi j=>i+j)) DV (pv 0) ax q.oG)
  (ai (dU (cG (gF p) (dq (cq (vQ 1) (dq ax))) (dq bY) (cu _))
  (ai (lX (n8 m p (pv 0)))
   (aJ (fD (cz (df (e_ bg))))))
  cE)
  (ai (dU (cG (gF p) (dq (cq (vQ 1) (dq ax))) (dq bY) (cu _))
  (ai (lX (jx c p (pv 0) (cS (cz (jL [] [0] [] (aX (c:= "Coming") (vQ 0) q.jv))) (cS (cz (jL [] [0] [] (mX l p (aX (c:= "Coming") (vQ 0) q.cR) (aA (cq (vQ 1) (dq ax)) bg)))) (cS (cz ax) hV)))))
   (ai (jW (b:=Z_) (c:= "Coming") (op:=(λi j=>i+j)) DV (pv 0) ax q.jv)
   (aJ (lX (n8 n p (pv 0))))))
  (aJ (lX (jx g p (pv 0) (cS (cz (jL [] [0] [] (mX k p (aX (c:= "Coming") (vQ 0) q.cR) (aA (cq (vQ 1) (dq ax)) bg)))) hV)))))
  (aJ (fD (n8 b p (pv 0))))))))
theorem xf(F:jD K "__init__" "Sift.__init__" mj f h)(g:KS K d)(b:wA P w K d e "Coming" 90 (spT K aF eT)):cQ P w K d e iW 92 f h ["self", "question"] (spT K dF jy):=
 F.FJ (own:=[0]) (own':=[0]) (g:=kM) wY dF (by decide) (by decide) λj A c s H E i B a k=>
  (ai (sI (c:= "Sift") (s1:=aF) (pv 0) (Ed (fk:=n7) b i rfl (aA (vP 1) bg)) g.jA)
  (aJ (gQ (b:=Z_) (c:= "Sift") (pv 0) (df (e_ bg)) g.jU)))
theorem Dv(F:jD K "take" "Sift.take" qv f h)(c:KS K d)(b:fB P w K d e "Coming" "feed" 64 (spT K aF fF)):cQ P w K d e iW 65 f h ["self", "sign"] (spT K dF m5):=
 F.FJ (own:=[0]) (own':=[0]) (g:=pw) vy dF (by decide) (by decide) λj A g s H E i B a k=>
  (ai (wc (i:=2) vy.nd rfl (.inl rfl) (Lk (c:= "Sift") (fk1:=n7) b i c.jA (pv 0) (aA (vP 1) bg)))
  (ai (gQ (b:=Z_) (c:= "Sift") (pv 0) (df (WD [] [0] [] (AN rfl c.vm (dq (bo gG (dq (aX (c:= "Sift") (vQ 0) c.jU)) (vQ 2)))))) c.jU)
  (aJ (fD (cz (vP 2))))))
theorem Du(F:jD K "told" "Sift.told" qu f h)(b:KS K d):cQ P w K d e iW 1 f h ["self"] (i4 K pA):=
 F.xk (own:=[]) (own':=[]) (g:=x5) C_ (by decide) λc A a s H E g B i=>
  (aJ (wd (JN rfl b.LZ (dq (aX (c:= "Sift") (vQ 0) b.jU)))))
theorem yk(F:jD K "waiting" "Sift.waiting" ng f h)(c:KS K d)(a:fB P w K d e "Coming" "waits" 1 (i4 K dY)):cQ P w K d e iW 2 f h ["self"] (i4 K iM):=
 F.xk (own:=[]) (own':=[]) (g:=lP) yb (by decide) λi A b s H E g B j=>
  (aJ (dA (ly a g (aX (c:= "Sift") (vQ 0) c.jA))))
theorem ym(F:jD K "is_over" "Sift.is_over" ni f h)(c:KS K d)(a:fB P w K d e "Coming" "has_ended" 1 (i4 K gJ)):cQ P w K d e iW 2 f h ["self"] (i4 K iO):=
 F.xk (own:=[]) (own':=[]) (g:=lR) yd (by decide) λi A b s H E g B j=>
  (aJ (dA (ly a g (aX (c:= "Sift") (vQ 0) c.jA))))
theorem tO(F:jD K "need_a_sign" "Sift.need_a_sign" j9 f h)(b:KS K d):cQ P w K d e iW 1 f h ["self"] (i4 K gH):=
 F.xk (own:=[]) (own':=[]) (g:=ja) tI (by decide) λg A a s H E c B i=>
  (aJ (dU (cG (gF c) (dq (aX (c:= "Coming") (dq (aX (c:= "Sift") (vQ 0) b.jA)) b.oG)) (dq ax) (cu _))
  (aJ Gq)
  cE))
theorem yl(F:jD K "outlook" "Sift.outlook" nh f h)(g:KS K d)(a:fB P w K d e "Sift" "need_a_sign" 3 (i4 K gH))(b:m4 P w K d e "outlook_of" 3 (i4 K l5)):cQ P w K d e iW 4 f h ["self"] (i4 K iN):=
 F.xk (own:=[]) (own':=[]) (g:=lQ) yc (by decide) λj A c s H E i B k=>
  (ai (lX (cz (ly a i (vP 0))))
  (aJ (dA (fE b i rfl (aA (aX (c:= "Sift") (vQ 0) g.jA) (aA (sJ vJ (dq (la rfl g.og (dq (aX (c:= "Sift") (vQ 0) g.jU)))) (dq ax) (cu _)) bg))))))
end
def Nt:DG:=
  (a_ (dr 2 (e2 iX (e2 rF (e2 gu (e2 gu (e2 iX (eV 0) (eK (.int 2147483647))) (e2 rF (e2 rF (eV 1) (eV 1)) (eK (.int 7919)))) (eK (.int 104729))) (eK (.int 48271))) (eK (.int 2147483647))))
  (eE (e2 iX (e2 gu (e2 rF (eV 2) (eV 2)) (e2 rF (eK (.int 69621)) (eV 1))) (eK (.int 2147483629)))))
def C0:List D->Option D:=j2 2 3 Nt
abbrev Hv:cY:=top 26
noncomputable abbrev WS:List aG:=["_law_cell", "_law_turn", "_law_number"]
theorem Mj:bC WS ["_law_cell", "_law_turn"] (aI Hv):=by walk_at "s"
def xN:DG:=
  (a_ (dr 7 (e2 iX (eV 6) (be hR (aC (eV 5) aN))))
    (a_ (pV 4 (e2 iX (e2 cj (eV 5) (eV 7)) (eK (.int 2147483587))))
    (IP 5 (eV 7) (e2 kC (e2 cj (eV 5) (eV 7)) (eK (.int 2147483587))))))
def xM:DG:=
  (dr 8 (e2 iX (e2 gu (e2 rF (eV 8) (eK (.int 31))) (be C0 (aC (eV 9) (aC (e2 gu (eV 6) (eV 1)) aN)))) (eK (.int 2147483629))))
def xK:DG:=
  (a_ (dr 10 (be C0 (aC (e2 cj (eV 3) (e2 iX (eV 6) (be hR (aC (eV 3) aN)))) (aC (e2 gu (e2 gu (e2 iX (eV 8) (eK (.int 1009))) (eV 6)) (eV 1)) aN))))
   (pV 4 (e2 iX (e2 gu (e2 rF (eV 10) (eV 10)) (e2 rF (eK (.int 7)) (eV 6))) (eK (.int 2147483587)))))
def D5:DG:=
  (a_ (dr 3 (e2 gu (eF (JB (eV 0) pN (pS (eK (.int 63))))) (eF (fX (aC (eV 1) aN)))))
  (a_ (jS 4 (fX aN))
  (a_ (eW (dk (e2 fh (e2 iX (e2 kC (e2 cj (eV 3) (eK (.int 0))) (eK (.int 50000))) (eK (.int 2))) (eK (.int 1))))
  (a_ (jS 5 (o6 (iL (eV 3)) [M] (gN 0) iC (e2 kC (eV 0) (eK (.int 100000)))))
   (a_ (js (Ot (e2 gu (e2 gu (eV 1) (eV 2)) (eK (.int 1)))) (gN 6)
   xN)
   (a_ (jS 4 (JB (eV 4) (pS (eV 1)) pN))
   (t6 (JB (eV 4) pN (pS (e2 gu (eK (.int 1)) (e2 iX (e2 cj (eV 4) (eV 2)) (eV 2)))))))))
  c9)
  (a_ (dr 8 (eK (.int 0)))
  (a_ (js (iE (eV 3)) (D6 6 9)
  xM)
  (a_ (js (Ot (e2 gu (eK (.int 1)) (e2 iX (e2 kC (eV 8) (eK (.int 1009))) (eV 2)))) (gN 6)
  xK)
  (Fi 4)))))))
def ji:List D->Option (List D):=Ku 3 11 D5
abbrev vt:cY:=top 27
noncomputable abbrev J9:List aG:=["_law_script", "_law_turn", "_law_most", "_law_cells_here", "_law_found", "_law_lefts", "_law_k", "_law_at", "_law_number", "_law_cell", "_law_other"]
theorem iF:bC J9 ["_law_script", "_law_turn", "_law_most"] (aI vt):=by walk_at "s"
def D4:DG:=
  (a_ (dr 1 (e2 cj (eF (oJ ji (aC (eV 0) (aC (eK (.int 40)) (aC (eK (.int 1)) aN))))) (eK (.int 0))))
  (a_ (dr 2 (Lf (eK (.str (ab "abcdefabcde"))) pN (pS (e2 iX (eV 1) (eK (.int 12))))))
  (a_ (dr 3 (e2 iX (e2 kC (eV 1) (eK (.int 12))) (e2 gu (be hR (aC (eV 2) aN)) (eK (.int 1)))))
  (t6 (o6 (iS (eK (.str (ab "mnopq")))) [M,Y 2,Y 3] (gN 0) iC (e2 gu (e2 gu (Lf (eV 1) pN (pS (eV 2))) (eV 0)) (Lf (eV 1) (pS (eV 2)) pN)))))))
def ts:List D->Option D:=j2 1 4 D4
abbrev vq:cY:=top 28
noncomputable abbrev J7:List aG:=["_law_script", "_law_number", "_law_stem", "_law_at"]
theorem vx:bC J7 ["_law_script"] (aI vq):=by walk_at "s"
def xJ:DG:=
  (a_ (dr 8 (eV 7))
   (a_ (eW (dk (e2 fh (eV 6) (eK (.int 0))))
   (dr 5 (e2 iX (e2 kC (eV 8) (eK (.int 7))) (eK (.int 3))))
   c9)
   (a_ (dr 9 (e2 iX (e2 gu (eV 8) (e2 rF (e2 rF (eV 5) (e2 iX (eV 6) (eK (.int 2)))) (eK (.int 5)))) (eK (.int 7))))
   (eW (nJ (dk (e2 fh (eV 3) (eF (fX aN)))) (fV (dk (e2 QM (eV 9) (eK (.int 3)))) (dk (e2 vj (eV 4) (eK (.int 0))))))
   (a_ (pV 3 (gS (aC (eK (.str (ab "open"))) (aC (e2 cj (eV 1) (e2 iX (e2 iX (e2 kC (eV 8) (eK (.int 7))) (eK (.int 11))) (eK (.int 5)))) aN))))
    (dr 4 (e2 gu (eV 4) (eK (.int 1)))))
   (eW (fV (dk (e2 QM (eV 9) (eK (.int 5)))) (dk (e2 vj (eV 4) (eK (.int 0)))))
    (pV 3 (gS (aC (eK (.str (ab "text"))) (aC (e2 cj (eV 2) (e2 iX (e2 kC (eV 8) (eK (.int 7))) (eK (.int 5)))) aN))))
    (eW (nJ (dk (e2 vj (eV 4) (eK (.int 1)))) (fV (dk (e2 fh (eV 4) (eK (.int 1)))) (dk (e2 fh (e2 iX (e2 kC (eV 8) (eK (.int 7))) (eK (.int 6))) (eK (.int 0))))))
     (a_ (pV 3 (gS (aC (eK (.str (ab "close"))) aN)))
      (dr 4 (e2 me (eV 4) (eK (.int 1)))))
     c9))))))
def D3:DG:=
  (a_ (dr 2 (eF (fX (aC (eK (.str (ab "x"))) (aC (eK (.str (ab ""))) (aC (eK (.str (ab "y x"))) (aC (eK (.str (ab "\""))) (aC (eK (.str (ab "[a]"))) aN))))))))
  (a_ (jS 3 (fX aN))
  (a_ (dr 4 (eK (.int 0)))
  (a_ (dr 5 (eK (.int 0)))
  (a_ (js (iE (eV 0)) (D6 6 7)
  xJ)
  (Fi 3))))))
def qS:List D->Option (List D):=Ku 2 10 D3
abbrev zj:cY:=top 29
noncomputable abbrev QF:List aG:=["_law_cells_here", "_law_some", "_law_texts", "_law_signs_here", "_law_depth_here", "_law_lean", "_law_k", "_law_cell", "_law_number", "_law_kind"]
theorem jq:bC QF ["_law_cells_here", "_law_some"] (aI zj):=by walk_at "s"
def y8:DG:=
  (eE (e2 me (be hR (aC (eF (o6 (iL (eV 0)) [M] (gN 0) (dk (e2 fh (e2 cj (eV 0) (eK (.int 0))) (eK (.str (ab "open"))))) (eV 0))) aN)) (be hR (aC (eF (o6 (iL (eV 0)) [M] (gN 0) (dk (e2 fh (e2 cj (eV 0) (eK (.int 0))) (eK (.str (ab "close"))))) (eV 0))) aN))))
def qT:List D->Option D:=j2 1 1 y8
abbrev r8:cY:=top 30
noncomputable abbrev Et:List aG:=["_law_signs_here"]
theorem Mm:bC Et ["_law_signs_here"] (aI r8):=by walk_at "s"
def Nr:DG:=
  (a_ (eW (dk (e2 fh (eV 0) (eF (fX aN))))
  (dI (mP (eK (.int 0))))
  c9)
  (dI (PQ 0)))
def x9:List D->Option (D×List D):=Bu 1 1 0 Nr
abbrev Hu:cY:=top 31
noncomputable abbrev WR:List aG:=["_law_draws"]
theorem RX:bC WR ["_law_draws"] (aI Hu):=by walk_at "s"
section
variable {P:bj}{w:bQ}{K:bb}{b:aG->Option af}{d:cF}{f:az}{c:dP}
theorem Sx(F:jD K "_law_mix" "_law_mix" Hv f c):cQ P w K b d iW 1 f c ["_law_cell", "_law_turn"] (i4 K C0):=
 F.xk (own:=[]) (own':=[]) (g:=Nt) Mj (by decide) λe A a s H E g B h=>
  (ai (cH (i:=2) Mj.nd rfl (.inl rfl) (bo fu (dq (bo pI (dq (bo gG (dq (bo gG (dq (bo fu (vQ 0) (dq ax))) (dq (bo pI (dq (bo pI (vQ 1) (vQ 1))) (dq ax))))) (dq ax))) (dq ax))) (dq ax)))
  (aJ (dA (bo fu (dq (bo gG (dq (bo pI (vQ 2) (vQ 2))) (dq (bo pI (dq ax) (vQ 1))))) (dq ax)))))
theorem MQ(F:jD K "_law_cells" "_law_cells" vt f c)(g:KS K b)(a:m4 P w K b d "_law_mix" 1 (i4 K C0)):cQ P w K b d iW 2 f c ["_law_script", "_law_turn", "_law_most"] (Q4 K ji):=
 F.ZC (own:=[4,5]) (own':=[4,5]) (g:=D5) iF (by decide) λj A h s H E i B e=>
  (ai (cH (i:=3) iF.nd rfl (.inl rfl) (bo gG (dq (df (xC (vQ 0) lZ (lY (dq ax))))) (dq (df (e_ (aA (vP 1) bg))))))
  (ai (nR (i:=4) iF.nd rfl (.inl rfl) (e_ bg))
  (ai (dU (cG (gF i) (dq (bo fu (dq (bo kK (dq (cq (vQ 3) (dq ax))) (dq ax))) (dq ax))) (dq ax) (cu _))
  (ai (CM (i:=5) (own':=[]) (N:=[("_law_cell" : aG)]) (src:=[M]) (km (outer:=aI vt) (oN:=J9) rfl (by decide +kernel) rfl rfl) rfl iF.nd rfl rfl (fR (vP 3)) (h_ 0) (by decide) (jw 0) (λC s H k=>⟨cw (i:=0) (show ([("_law_cell" : aG)]:List aG).Nodup by decide +kernel) rfl (.inl rfl),jh,(bo kK (vQ 0) (dq ax))⟩))
   (ai (k9 cx rfl (td rfl g.qo (dq (bo gG (dq (bo gG (vQ 1) (vQ 2))) (dq ax)))) (λB e=>(mM (cw (i:=6) iF.nd rfl (.inl rfl)))) (λB e=>
   (ai (cH (i:=7) iF.nd rfl (.inl rfl) (bo fu (vQ 6) (dq (la rfl g.og (JI (pv 5))))))
    (ai (oM (pv 4) (bo fu (dq (cq (JI (pv 5)) (vQ 7))) (dq ax)))
    (aJ (Qf (pv 5) (vQ 7) (bo kK (dq (cq (JI (pv 5)) (vQ 7))) (dq ax))))))))
   (ai (nR (i:=4) iF.nd rfl (.inl rfl) (xC (JI (pv 4)) (lY (vQ 1)) lZ))
   (aJ (wd (xC (JI (pv 4)) lZ (lY (dq (bo gG (dq ax) (dq (bo fu (dq (cq (JI (pv 4)) (vQ 2))) (vQ 2))))))))))))
  cE)
  (ai (cH (i:=8) iF.nd rfl (.inl rfl) ax)
  (ai (k9 cx rfl (y_ rfl g.pa (vP 3)) (λB e=>(AM (xb rfl (iG (cw (i:=6) iF.nd rfl (.inl rfl)) (iG (cw (i:=9) iF.nd rfl (.inl rfl)) sW))))) (λB e=>
  (aJ (cH (i:=8) iF.nd rfl (.inl rfl) (bo fu (dq (bo gG (dq (bo pI (vQ 8) (dq ax))) (dq (fE a i rfl (aA (vP 9) (aA (bo gG (vQ 6) (vQ 1)) bg)))))) (dq ax))))))
  (ai (k9 cx rfl (td rfl g.qo (dq (bo gG (dq ax) (dq (bo fu (dq (bo kK (vQ 8) (dq ax))) (vQ 2)))))) (λB e=>(mM (cw (i:=6) iF.nd rfl (.inl rfl)))) (λB e=>
  (ai (cH (i:=10) iF.nd rfl (.inl rfl) (fE a i rfl (aA (cq (vQ 3) (dq (bo fu (vQ 6) (dq (la rfl g.og (vQ 3)))))) (aA (bo gG (dq (bo gG (dq (bo fu (vQ 8) (dq ax))) (vQ 6))) (vQ 1)) bg))))
   (aJ (oM (pv 4) (bo fu (dq (bo gG (dq (bo pI (vQ 10) (vQ 10))) (dq (bo pI (dq ax) (vQ 6))))) (dq ax)))))))
  (aJ (JM (pv 4)))))))))
theorem MN(F:jD K "_law_names" "_law_names" vq f c)(g:KS K b)(a:m4 P w K b d "_law_cells" 2 (Q4 K ji)):cQ P w K b d iW 3 f c ["_law_script"] (i4 K ts):=
 F.xk (own:=[]) (own':=[]) (g:=D4) vx (by decide) λi A e s H E h B j=>
  (ai (cH (i:=1) vx.nd rfl (.inl rfl) (cq (dq (df (wg a h rfl (aA (vP 0) (aA ax (aA ax bg)))))) (dq ax)))
  (ai (cH (i:=2) vx.nd rfl (.inr rfl) (Ik (dq bY) lZ (lY (dq (bo fu (vQ 1) (dq ax))))))
  (ai (cH (i:=3) vx.nd rfl (.inr rfl) (bo fu (dq (bo kK (vQ 1) (dq ax))) (dq (bo gG (dq (la rfl g.og (vQ 2))) (dq ax)))))
  (aJ (wd (ue (own':=[]) (N:=[("_law_letter" : aG),("_law_stem" : aG),("_law_at" : aG)]) (src:=[M,Y 2,Y 3]) (km (outer:=aI vq) (oN:=J7) rfl (by decide +kernel) rfl rfl) rfl (TX bY) (h_ 0) (by decide) (jw 0) (λC s H k=>⟨cw (i:=0) (show ([("_law_letter" : aG),("_law_stem" : aG),("_law_at" : aG)]:List aG).Nodup by decide +kernel) rfl (.inl rfl),jh,(bo gG (dq (bo gG (dq (Ik (vQ 1) lZ (lY (vQ 2)))) (vQ 0))) (dq (Ik (vQ 1) (lY (vQ 2)) lZ)))⟩)))))))
theorem MM(F:jD K "_law_signs" "_law_signs" zj f c)(h:KS K b):cQ P w K b d iW 1 f c ["_law_cells_here", "_law_some"] (Q4 K qS):=
 F.ZC (own:=[3]) (own':=[3]) (g:=D3) jq (by decide) λi A e s H E a B g=>
  (ai (cH (i:=2) jq.nd rfl (.inl rfl) (df (e_ (aA bY (aA bY (aA bY (aA bY (aA bY bg))))))))
  (ai (nR (i:=3) jq.nd rfl (.inl rfl) (e_ bg))
  (ai (cH (i:=4) jq.nd rfl (.inl rfl) ax)
  (ai (cH (i:=5) jq.nd rfl (.inl rfl) ax)
  (ai (k9 cx rfl (y_ rfl h.pa (vP 0)) (λB g=>(AM (xb rfl (iG (cw (i:=6) jq.nd rfl (.inl rfl)) (iG (cw (i:=7) jq.nd rfl (.inl rfl)) sW))))) (λB g=>
  (ai (cH (i:=8) jq.nd rfl (.inl rfl) (vP 7))
   (ai (dU (cG (gF a) (vQ 6) (dq ax) (cu _))
   (aJ (cH (i:=5) jq.nd rfl (.inl rfl) (bo fu (dq (bo kK (vQ 8) (dq ax))) (dq ax))))
   cE)
   (ai (cH (i:=9) jq.nd rfl (.inl rfl) (bo fu (dq (bo gG (vQ 8) (dq (bo pI (dq (bo pI (vQ 5) (dq (bo fu (vQ 6) (dq ax))))) (dq ax))))) (dq ax)))
   (aJ (dU (PW.pt (wa (cG (gF a) (JI (pv 3)) (dq (df (e_ bg))) (cu _)) (qJ (PW.pt (oK (cG Jb (vQ 9) (dq ax) (cu _)) (lW (cG vJ (vQ 4) (dq ax) (cu _))))))))
   (ai (oM (pv 3) (iI (aA bY (aA (cq (vQ 1) (dq (bo fu (dq (bo fu (dq (bo kK (vQ 8) (dq ax))) (dq ax))) (dq ax)))) bg))))
    (aJ (cH (i:=4) jq.nd rfl (.inl rfl) (bo gG (vQ 4) (dq ax)))))
   (aJ (dU (PW.pt (oK (cG Jb (vQ 9) (dq ax) (cu _)) (lW (cG vJ (vQ 4) (dq ax) (cu _)))))
    (aJ (oM (pv 3) (iI (aA bY (aA (cq (vQ 2) (dq (bo fu (dq (bo kK (vQ 8) (dq ax))) (dq ax)))) bg)))))
    (aJ (dU (PW.pt (wa (cG vJ (vQ 4) (dq ax) (cu _)) (qJ (PW.pt (oK (cG (gF a) (vQ 4) (dq ax) (cu _)) (lW (cG (gF a) (dq (bo fu (dq (bo kK (vQ 8) (dq ax))) (dq ax))) (dq ax) (cu _))))))))
     (ai (oM (pv 3) (iI (aA bY bg)))
      (aJ (cH (i:=4) jq.nd rfl (.inl rfl) (bo ny (vQ 4) (dq ax)))))
     cE)))))))))))
  (aJ (JM (pv 3))))))))
theorem MP(F:jD K "_law_depth" "_law_depth" r8 f c)(a:KS K b):cQ P w K b d iW 1 f c ["_law_signs_here"] (i4 K qT):=
 F.xk (own:=[]) (own':=[]) (g:=y8) Mm (by decide) λh A outer s H E e B i=>
  (aJ (dA (bo ny (dq (la rfl a.og (dq (df (ue (own':=[]) (N:=[("_law_sign" : aG)]) (src:=[M]) (km (outer:=aI r8) (oN:=Et) rfl (by decide +kernel) rfl rfl) rfl (fR (vP 0)) (h_ 0) (by decide) (jw 0) (λC s H g=>⟨cw (i:=0) (show ([("_law_sign" : aG)]:List aG).Nodup by decide +kernel) rfl (.inl rfl),(JJ (cG (gF e) (dq (cq (vQ 0) (dq ax))) (dq bY) (cu _))),(vP 0)⟩)))))) (dq (la rfl a.og (dq (df (ue (own':=[]) (N:=[("_law_sign" : aG)]) (src:=[M]) (km (outer:=aI r8) (oN:=Et) rfl (by decide +kernel) rfl rfl) rfl (fR (vP 0)) (h_ 0) (by decide) (jw 0) (λC s H g=>⟨cw (i:=0) (show ([("_law_sign" : aG)]:List aG).Nodup by decide +kernel) rfl (.inl rfl),(JJ (cG (gF e) (dq (cq (vQ 0) (dq ax))) (dq bY) (cu _))),(vP 0)⟩)))))))))
theorem Sw(F:jD K "_law_pop" "_law_pop" Hu f c):cQ P w K b d iW 1 f c ["_law_draws"] (EH K 0 x9):=
 F.sX (own:=[0]) (own':=[0]) (g:=Nr) RX 0 (by decide) (by decide) λh A e s H E g B a i=>
  (ai (dU (cG (gF g) (JI (pv 0)) (dq (df (e_ bg))) (cu _))
  (aJ (fD (cz ax)))
  cE)
  (aJ (fD (TR (pv 0)))))
end
def xu(e:List D->Option (D×List D))(a:List D->Option (D×List D)):DG:=
  (a_ (lu 3 (t_ x9 0 aN))
  (a_ (dr 4 (e2 iX (eV 3) (eK (.int 8))))
  (a_ (eW (nJ (dk (e2 QM (eV 4) (eK (.int 2)))) (fV (dk (e2 fh (eV 1) (eK (.int 0)))) (dk (e2 vj (eV 4) (eK (.int 2))))))
  (dI (mP (gS (aC (eK (.str (ab "any"))) aN))))
  c9)
  (a_ (eW (dk (e2 fh (eV 4) (eK (.int 2))))
  (dI (mP (gS (aC (eK (.str (ab "text"))) (aC (e2 cj (eF (fX (aC (eK (.str (ab "x"))) (aC (eK (.str (ab ""))) (aC (eK (.str (ab "y x"))) (aC (eK (.str (ab "\""))) (aC (eK (.str (ab "[a]"))) aN))))))) (e2 iX (e2 kC (eV 3) (eK (.int 8))) (eK (.int 5)))) aN)))))
  c9)
  (a_ (eW (dk (e2 QM (eV 4) (eK (.int 5))))
  (dI (yy (jn (mP (eK (.str (ab "has")))) (jn (t_ a 0 (aC (e2 me (eV 1) (eK (.int 1))) (aC (eV 2) aN))) kl))))
  c9)
  (a_ (eW (dk (e2 fh (eV 4) (eK (.int 5))))
  (dI (mP (gS (aC (eK (.str (ab "has"))) (aC (eF (fX (aC (gS (aC (eK (.str (ab "own"))) (aC (eK (.str (ab "*"))) (aC (gS (aC (eK (.str (ab "any"))) aN)) aN)))) aN))) aN)))))
  c9)
  (dI (yy (jn (mP (e2 cj (eF (fX (aC (eK (.str (ab "both"))) (aC (eK (.str (ab "one"))) aN)))) (e2 me (eV 4) (eK (.int 6))))) (jn (VZ (Ot (e2 iX (e2 kC (eV 3) (eK (.int 8))) (eK (.int 4)))) [M,Y 0,Y 2,Y 1] (gN 0) (t_ e 1 (aC (e2 me (eV 3) (eK (.int 1))) (aC (eV 2) aN))) 1 0) kl))))))))))
abbrev yR:cY:=top 32
noncomputable abbrev Oa:List aG:=["_law_draws", "_law_deep", "_law_some", "_law_number", "_law_kind"]
theorem C9:bC Oa ["_law_draws", "_law_deep", "_law_some"] (aI yR):=by walk_at "s"
def xI(a:List D->Option (D×List D))(e:List D->Option (D×List D)):DG:=
  (a_ (lu 5 (t_ x9 0 aN))
   (a_ (dr 6 (e2 cj (e2 gu (eF (JB (eV 2) pN (pS (eK (.int 4))))) (eF (fX (aC (eK (.str (ab "*"))) (aC (eK (.str (ab "*"))) (aC (eK (.str (ab "*"))) aN)))))) (e2 iX (e2 kC (eV 5) (eK (.int 2))) (eK (.int 7)))))
   (IS 3 (yy (jn (mP (e2 cj (eF (fX (aC (eK (.str (ab "own"))) (aC (eK (.str (ab "inner"))) aN)))) (e2 iX (eV 5) (eK (.int 2))))) (jn (mP (eV 6)) (jn (t_ a 0 (aC (eV 1) (aC (eV 2) aN))) kl)))))))
def y6(e:List D->Option (D×List D))(a:List D->Option (D×List D)):DG:=
  (a_ (jS 3 (fX aN))
  (a_ (Ck (Xl (m2 gu (mP (eK (.int 1))) (m2 iX (t_ x9 0 aN) (mP (eK (.int 3)))))) (gN 4)
  (xI e a))
  (Dc 3)))
abbrev zi:cY:=top 33
noncomputable abbrev QE:List aG:=["_law_draws", "_law_deep", "_law_some", "_law_steps_here", "_law_k", "_law_number", "_law_name"]
theorem sd:bC QE ["_law_draws", "_law_deep", "_law_some"] (aI zi):=by walk_at "s"
mutual
noncomputable def ia:Nat->List D->Option (D×List D)
 |0=>λ_=>M
 |n+1=>Bu 3 5 0 (xu (ia n) (ib n))
noncomputable def ib:Nat->List D->Option (D×List D)
 |0=>λ_=>M
 |n+1=>Bu 3 7 0 (y6 (ia n) (ib n))
end
section
variable {P:bj}{w:bQ}{K:bb}{b:aG->Option af}{c:cF}{f:az}{d:dP}
theorem Px(F:jD K "_law_wish" "_law_wish" yR f d)(k:KS K b)(h:m4 P w K b c "_law_pop" (n+1) (EH K 0 x9))(e:m4 P w K b c "_law_steps" (n+1) (EH K 0 (ib n)))(g:m4 P w K b c "_law_wish" (n+1) (EH K 0 (ia n))):cQ P w K b c iW (n+1+1) f d ["_law_draws", "_law_deep", "_law_some"] (EH K 0 (ia (n+1))):=
 F.sX (own:=[0]) (own':=[0]) (g:=(xu (ia n) (ib n))) C9 0 (by decide) (by decide) λm A j s H E i B a l=>
  (ai (wc (i:=3) C9.nd rfl (.inl rfl) (s_ h i rfl (pv 0) bg))
  (ai (cH (i:=4) C9.nd rfl (.inl rfl) (bo fu (vQ 3) (dq ax)))
  (ai (dU (PW.pt (wa (cG Jb (vQ 4) (dq ax) (cu _)) (qJ (PW.pt (oK (cG (gF i) (vQ 1) (dq ax) (cu _)) (lW (cG vJ (vQ 4) (dq ax) (cu _))))))))
  (aJ (fD (cz (iI (aA bY bg)))))
  cE)
  (ai (dU (cG (gF i) (vQ 4) (dq ax) (cu _))
  (aJ (fD (cz (iI (aA bY (aA (cq (dq (df (e_ (aA bY (aA bY (aA bY (aA bY (aA bY bg)))))))) (dq (bo fu (dq (bo kK (vQ 3) (dq ax))) (dq ax)))) bg))))))
  cE)
  (ai (dU (cG Jb (vQ 4) (dq ax) (cu _))
  (aJ (fD (AL (cS (cz bY) (cS (s_ e i rfl (pv 0) (aA (bo ny (vQ 1) (dq ax)) (aA (vP 2) bg))) hV)))))
  cE)
  (ai (dU (cG (gF i) (vQ 4) (dq ax) (cu _))
  (aJ (fD (cz (iI (aA bY (aA (df (e_ (aA (iI (aA bY (aA bY (aA (iI (aA bY bg)) bg)))) bg))) bg))))))
  cE)
  (aJ (fD (AL (cS (cz (cq (dq (df (e_ (aA bY (aA bY bg))))) (dq (bo ny (vQ 4) (dq ax))))) (cS (WB (i0:=1) (j0:=0) (N:=[("_law_k" : aG),("_law_draws" : aG),("_law_some" : aG),("_law_deep" : aG)]) (src:=[M,Y 0,Y 2,Y 1]) (km (outer:=aI yR) (oN:=Oa) rfl (by decide +kernel) rfl rfl) rfl (td rfl k.qo (dq (bo fu (dq (bo kK (vQ 3) (dq ax))) (dq ax)))) (h_ 0) (by decide) (sA _ 0 1) (λC s H o=>⟨cw (i:=0) (show ([("_law_k" : aG),("_law_draws" : aG),("_law_some" : aG),("_law_deep" : aG)]:List aG).Nodup by decide +kernel) rfl (rQ rfl),jh,WA λB a l=>(s_ g i rfl (pv 1) (aA (bo ny (vQ 3) (dq ax)) (aA (vP 2) bg)))⟩)) hV)))))))))))
theorem ML(F:jD K "_law_steps" "_law_steps" zi f d)(k:KS K b)(e:m4 P w K b c "_law_pop" (n+1) (EH K 0 x9))(g:m4 P w K b c "_law_wish" (n+1) (EH K 0 (ia n))):cQ P w K b c iW (n+1+1) f d ["_law_draws", "_law_deep", "_law_some"] (EH K 0 (ib (n+1))):=
 F.sX (own:=[0,3]) (own':=[0,3]) (g:=(y6 (ia n) (ib n))) sd 0 (by decide) (by decide) λl A h s H E i B a j=>
  (ai (nR (i:=3) sd.nd rfl (.inl rfl) (e_ bg))
  (ai (Qh cx rfl (Ij rfl k.qo (Rp gG (cz ax) (Rp fu (s_ e i rfl (pv 0) bg) (cz ax)))) (λB j=>(mM (cw (i:=4) sd.nd rfl (.inl rfl)))) (λB j=>
  (ai (wc (i:=5) sd.nd rfl (.inl rfl) (s_ e i rfl (pv 0) bg))
   (ai (cH (i:=6) sd.nd rfl (.inl rfl) (cq (dq (bo gG (dq (df (xC (vQ 2) lZ (lY (dq ax))))) (dq (df (e_ (aA bY (aA bY (aA bY bg)))))))) (dq (bo fu (dq (bo kK (vQ 5) (dq ax))) (dq ax)))))
   (aJ (Qj (pv 3) (AL (cS (cz (cq (dq (df (e_ (aA bY (aA bY bg))))) (dq (bo fu (vQ 5) (dq ax))))) (cS (cz (vP 6)) (cS (s_ g i rfl (pv 0) (aA (vP 1) (aA (vP 2) bg))) hV))))))))))
  (aJ (NI (pv 3)))))
end
def tq:=ib 12
def qP:DG:=
  (a_ (dS (bU "Sift" "take" dF m5 4 (jn (mP (e2 cj (eV 3) (eV 6))) kl)))
   (a_ (dr 7 (lx [4] [] (cO "Sift" "outlook" iN (eV 4) aN)))
   (a_ (eW (xY [4] [] (nJ (dk (e2 vK (e2 fh (eV 7) (eK (.str (ab "sure")))) (e2 vK (cO "Sift" "told" pA (eV 4) aN) (eF (fX aN))))) (fV (dk (e2 vK (eV 5) (eK (.str (ab "open"))))) (dk (e2 vK (eV 7) (eV 5))))))
   (eE (eK (.bl Z_)))
   c9)
   (a_ (eW (xY [4] [] (nJ (fV (dk (e2 fh (eV 7) (eK (.str (ab "lost"))))) (dk (e2 vK (cO "Sift" "waiting" iM (eV 4) aN) (eF (fX aN))))) (dk (e2 (Ha Z') (eV 7) (eF (fX (aC (eK (.str (ab "sure"))) (aC (eK (.str (ab "open"))) (aC (eK (.str (ab "lost"))) aN)))))))))
   (eE (eK (.bl Z_)))
   c9)
   (a_ (eW (xY [4] [] (fV (dk (e2 fh (eV 7) (eK (.str (ab "open"))))) (nJ (eD (cO "Sift" "is_over" iO (eV 4) aN)) (dk (e2 fh (be qT (aC (eF (JB (eV 3) pN (pS (e2 gu (eV 6) (eK (.int 1)))))) aN)) (eK (.int 0)))))))
   (eE (eK (.bl Z_)))
   c9)
   (dr 5 (eV 7)))))))
def Ju:DG:=
  (a_ (dr 1 (be ts (aC (eV 0) aN)))
  (a_ (dr 2 (qI tq (oJ ji (aC (eV 0) (aC (eK (.int 100)) (aC (eK (.int 12)) aN)))) (aC (eK (.int 3)) (aC (eV 1) aN))))
  (a_ (dr 3 (eF (oJ qS (aC (eF (oJ ji (aC (eV 0) (aC (eK (.int 500)) (aC (eK (.int 24)) aN))))) (aC (eV 1) aN)))))
  (a_ (Fh 4 dF (mB "Sift" jy (aC (eV 2) aN)))
  (a_ (dr 5 (eK (.str (ab "open"))))
  (a_ (js (Ot (be hR (aC (eV 3) aN))) (gN 6)
  qP)
  (eE (eK (.bl Z')))))))))
def GU:List D->Option D:=j2 1 8 Ju
abbrev wV:cY:=top 34
noncomputable abbrev WT:List aG:=["_law_script", "_law_some", "_law_question", "_law_signs_here", "_law_sift", "_law_before", "_law_k", "_law_found"]
theorem qw:bC WT ["_law_script"] (aI wV):=by walk_at "s"
section
variable {P:bj}{w:bQ}{K:bb}{a:aG->Option af}{b:cF}{f:az}{c:dP}
theorem Sy(F:jD K "law" "law" wV f c)(r:KS K a)(p:wA P w K a b "Sift" 98 (spT K dF jy))(n:m4 P w K a b "_law_names" 99 (i4 K ts))(l:m4 P w K a b "_law_steps" 99 (EH K 0 tq))(k:m4 P w K a b "_law_cells" 99 (Q4 K ji))(m:m4 P w K a b "_law_signs" 99 (Q4 K qS))(o:m4 P w K a b "_law_depth" 99 (i4 K qT))(j:fB P w K a b "Sift" "take" 99 (spT K dF m5))(e:fB P w K a b "Sift" "outlook" 99 (i4 K iN))(i:fB P w K a b "Sift" "told" 99 (i4 K pA))(d:fB P w K a b "Sift" "waiting" 99 (i4 K iM))(g:fB P w K a b "Sift" "is_over" 99 (i4 K iO)):cQ P w K a b iW 100 f c ["_law_script"] (i4 K GU):=
 F.xk (own:=[4]) (own':=[4]) (g:=Ju) qw (by decide) λu A q s H E h B t=>
  (ai (cH (i:=1) qw.nd rfl (.inl rfl) (fE n h rfl (aA (vP 0) bg)))
  (ai (cH (i:=2) qw.nd rfl (.inl rfl) (Ln l h rfl (wg k h rfl (aA (vP 0) (aA ax (aA ax bg)))) (aA ax (aA (vP 1) bg))))
  (ai (cH (i:=3) qw.nd rfl (.inl rfl) (df (wg m h rfl (aA (df (wg k h rfl (aA (vP 0) (aA ax (aA ax bg))))) (aA (vP 1) bg)))))
  (ai (Qd (i:=4) (s:=dF) qw.nd rfl (.inl rfl) (Ed (fk:=Jx) p h rfl (aA (vP 2) bg)))
  (ai (cH (i:=5) qw.nd rfl (.inl rfl) bY)
  (ai (k9 cx rfl (td rfl r.qo (dq (la rfl r.og (vQ 3)))) (λB t=>(mM (cw (i:=6) qw.nd rfl (.inl rfl)))) (λB t=>
  (ai (lX (jx j h (pv 4) (cS (cz (cq (vQ 3) (vQ 6))) hV)))
   (ai (cH (i:=7) qw.nd rfl (.inl rfl) (jL [] [4] [] (ly e h (vP 4))))
   (ai (dU (wb [] [4] [] (PW.pt (wa (cG (z0 h) (dq (sJ (gF h) (vQ 7) (dq bY) (cu _))) (dq (sJ (z0 h) (dq (ly i h (vP 4))) (dq (df (e_ bg))) (cu _))) (cu _)) (qJ (PW.pt (oK (cG (z0 h) (vQ 5) (dq bY) (cu _)) (lW (cG (z0 h) (vQ 7) (vQ 5) (cu _)))))))))
   (aJ (dA AS))
   cE)
   (ai (dU (wb [] [4] [] (PW.pt (wa (PW.pt (oK (cG (gF h) (vQ 7) (dq bY) (cu _)) (lW (cG (z0 h) (dq (ly d h (vP 4))) (dq (df (e_ bg))) (cu _))))) (qJ (cG MR (vQ 7) (dq (df (e_ (aA bY (aA bY (aA bY bg)))))) rfl)))))
   (aJ (dA AS))
   cE)
   (ai (dU (wb [] [4] [] (PW.pt (oK (cG (gF h) (vQ 7) (dq bY) (cu _)) (lW (PW.pt (wa (d_ (dq (ly g h (vP 4)))) (qJ (cG (gF h) (dq (fE o h rfl (aA (df (xC (vQ 3) lZ (lY (dq (bo gG (vQ 6) (dq ax)))))) bg))) (dq ax) (cu _)))))))))
   (aJ (dA AS))
   cE)
   (aJ (cH (i:=5) qw.nd rfl (.inl rfl) (vP 7))))))))))
  (aJ (dA AS))))))))
end
end K21
namespace K21
open PySem L2
structure wF where
 q:List D
 bits:Int
 nk:List iY
 nv:List D
 tk:List iY
 tv:List D
 j1:Int
 vp:Int
 inner:Int
 da:List D
 asks:List D
noncomputable def fO(f:wF):D :=.ins "Facts" ["question", "bits", "by_name", "by_text", "starred", "stars", "inner", "leads", "asks"] [.lst f.q,.int f.bits,.ig f.nk f.nv,.ig f.tk f.tv,.int f.j1,.int f.vp,.int f.inner,.lst f.da,.lst f.asks]
structure cU where
 number:Int
 named:Int
 atoms:Int
 fits:Int
 aR:Int
 ra:Int
 cv:Int
 ha:Int
noncomputable abbrev rk:List aG:=["number", "named", "atoms", "fits", "reached", "reached_around", "hoped", "hoped_around"]
noncomputable abbrev rl(r:cU):List D:=[.int r.number,.int r.named,.int r.atoms,.int r.fits,.int r.aR,.int r.ra,.int r.cv,.int r.ha]
def cA(r:cU):D :=.ins "Row" rk (rl r)
structure rn where
 num:Int
 place:Int
 own:Int
 around:Int
noncomputable def c_(r:rn):D :=.tup [.int r.num,.int r.place,.int r.own,.int r.around]
structure fY where
 f:wF
 full:Int
 able:Int
 taken:Int
 opened:Int
 rows:List cU
 rests:List rn
def bw(c:fY):D :=.ins "Coming" ["facts", "full", "able", "taken", "opened", "rows", "rests"] [fO c.f,.int c.full,.int c.able,.int c.taken,.int c.opened,.lst (c.rows.map cA),.lst (c.rests.map c_)]
noncomputable abbrev bA:=EG
noncomputable abbrev bO:=bK
noncomputable abbrev bN:=Uy
theorem Aw(c:fY)(p a f:Int)(h:(bA (bO p (bA a c.f.inner)) f).natAbs<2 ^ 64):dG [bw c,.int p,.int a,.int f]=Y (.int (bA (bO p (bA a c.f.inner)) f*2)):=by
 have e:dG [bw c,.int p,.int a,.int f]=((kB (.int (bA (bO p (bA a c.f.inner)) f)) (.int 1)).map DO.rt).bind nC:=by kernel_rfl
 rw[e];simp only[kB];rw[if_pos ⟨by decide,by decide,h⟩];rfl
theorem Aj(h:0<n):Cw n (-1)=Y (n-1):=by
 unfold Cw;rw[if_neg (by decide),if_pos (by omega)]
 congr 1
 omega
theorem oH{n k:Nat}(h:k<n):Cw n (k:Int)=Y k:=by
 unfold Cw;rw[if_pos (by omega),if_pos (by omega)]
 congr 1
theorem N5(b:List a)(x:a):oT (b++[x]) (-1)=Y x:=by
 unfold oT;rw[Aj (by simp)];simp
theorem aQ{ρ ρ':bZ}(e:g ρ=Y (.nx ρ')):a_ g h ρ=h ρ':=by unfold a_;rw[e];rfl
theorem gE{f:DF}{a:bZ}{d:D}(e:f a=Y d):dr i f a=Y (.nx (a.set i (Y d))):=by unfold dr;rw[e];rfl
theorem mT{f:DF}{ρ':bZ}{d:D}(r:res b c a=ρ')(e:f ρ'=Y d)(p:si d=Z'):lx b c f a=Y d:=by unfold lx;rw[r,e];simp[p]
theorem qp{f:DT}{ρ':bZ}(r:res c d a=ρ')(e:f ρ'=Y b):xY c d f a=Y b:=by unfold xY;rw[r,e]
abbrev oC(c:fY):Option D:=Y (.obj aF (bw c))
noncomputable abbrev eH(k:Nat):Option D:=Y (.eH 0 [.fld "rows",.ix k])
def yx(c:fY)(b:rn)(r pr:cU):rn:=
 let a:=bA (bO b.own b.around/2) r.fits
 ⟨b.num,b.place-1,bA (bA a (bN c.f.inner)) pr.cv,bA (bO (bA a c.f.inner) b.around) pr.ha⟩
theorem Kv{c:fY}(h:c.rows.getLast? = Y a):oT (c.rows.map cA) (-1)=Y (cA a):=by
 obtain⟨b,e⟩:=LW.mp h;rw[e,cm];exact N5 _ _
theorem DB(c:fY)(b:rn)(r a:cU)(h:c.rows.getLast? = Y a):gI [bw c,c_ b,cA r]=Y (c_ (yx c b r a)):=by
 show (jc [Y (bw c),Y (c_ b),Y (cA r),M,M,M,M]).bind nC=_;unfold jc;rw[aQ (gE (d:=cA a) (show (oT (c.rows.map cA) (-1):Option D)=Y (cA a) from Kv h))];kernel_rfl
theorem Di{c:fY}{k:Nat}{r r':cU}{f:aG}{a:bZ}{d:D}(h:c.rows[k]?=Y r)(m:eV 0 a=oC c)(i:eV j a=eH k)(l:e a=Y d)(g:D.ins "Row" (jj f d rk (rl r)).1 (jj f d rk (rl r)).2=cA r'):
  eI Z' j "Row" f e a=Y (.nx (a.set 0 (oC { c with rows:=c.rows.set k r' }))):=by
 have b:(c.rows.map cA)[k]?=Y (cA r):=by rw[aT,h];rfl
 unfold eI G_ yQ;rw[l,i];simp only[aa];rw[m];simp only[aa];have p:yB "Row" aF (bw c) [.fld "rows",.ix k]=Y ([],rk,rl r):=by
  have o:fJ [.fld "rows",.ix k] (bw c)=Y (cA r):=by
   have:fJ [.fld "rows",.ix k] (bw c)=((c.rows.map cA)[k]?).bind (fJ []):=by kernel_rfl
   rw[this,b];rfl
  unfold yB;rw[o];kernel_rfl
 rw[p];simp only[aa];rw[if_pos ⟨rfl,by decide⟩,g];have n:mU (cA r') [.fld "rows",.ix k] (bw c)=bw { c with rows:=c.rows.set k r' }:=by
  have:mU (cA r') [.fld "rows",.ix k] (bw c)=D.ins "Coming" ["facts", "full", "able", "taken", "opened", "rows", "rests"] [fO c.f,D.int c.full,D.int c.able,D.int c.taken,D.int c.opened,(match (c.rows.map cA)[k]? with|none=>D.lst (c.rows.map cA)|some _=>D.lst ((c.rows.map cA).set k (cA r'))),D.lst (c.rests.map c_)]:=by kernel_rfl
  rw[this,b];unfold bw;simp only[QW]
 rw[n]
noncomputable abbrev ck:List aG:=["facts", "full", "able", "taken", "opened", "rows", "rests"]
abbrev cl(c:fY):List D:=[fO c.f,.int c.full,.int c.able,.int c.taken,.int c.opened,.lst (c.rows.map cA),.lst (c.rests.map c_)]
theorem u5{c:fY}{a:bZ}{n:Int}{k:Nat}(g:eV 0 a=oC c)(f:b a=Y (.int n))(d:Cw c.rows.length n=Y k):sf i 0 "Coming" "rows" b a=Y (.nx (a.set i (eH k))):=by
 have e:rE "Coming" "rows" 0 a=Y (n7,ck,cl c,D.lst (c.rows.map cA)):=by unfold rE yQ;rw[g];kernel_rfl
 unfold sf;rw[e,f];show (Cw (c.rows.map cA).length n).map _=_;rw[au,d];rfl
theorem IU{c:fY}{k:Nat}{r r':cU}{f:aG}{a:bZ}{m n:Int}(i:c.rows[k]?=Y r)(p:eV 0 a=oC c)(l:eV j a=eH k)(o:e a=Y (.int n))(h:(rk.zip (rl r)).lookup f=Y (.int m))(g:D.ins "Row" (jj f (.int (b m n)) rk (rl r)).1 (jj f (.int (b m n)) rk (rl r)).2=cA r'):
  d8 Z' j "Row" f b e a=Y (.nx (a.set 0 (oC { c with rows:=c.rows.set k r' }))):=by
 have d:(c.rows.map cA)[k]?=Y (cA r):=by rw[aT,i];rfl
 unfold d8 G_ yQ;rw[o,l];simp only[aa];rw[p];simp only[aa];have t:yB "Row" aF (bw c) [.fld "rows",.ix k]=Y ([],rk,rl r):=by
  have s:fJ [.fld "rows",.ix k] (bw c)=Y (cA r):=by
   have:fJ [.fld "rows",.ix k] (bw c)=((c.rows.map cA)[k]?).bind (fJ []):=by kernel_rfl
   rw[this,d];rfl
  unfold yB;rw[s];kernel_rfl
 rw[t];simp only[aa,h];rw[if_pos ⟨rfl,by decide⟩,g];have q:mU (cA r') [.fld "rows",.ix k] (bw c)=bw { c with rows:=c.rows.set k r' }:=by
  have:mU (cA r') [.fld "rows",.ix k] (bw c)=D.ins "Coming" ["facts", "full", "able", "taken", "opened", "rows", "rests"] [fO c.f,D.int c.full,D.int c.able,D.int c.taken,D.int c.opened,(match (c.rows.map cA)[k]? with|none=>D.lst (c.rows.map cA)|some _=>D.lst ((c.rows.map cA).set k (cA r'))),D.lst (c.rests.map c_)]:=by kernel_rfl
  rw[this,d];unfold bw;simp only[QW]
 rw[q]
theorem nI{c:fY}{k:Nat}{r:cU}(a:c.rows[k]?=Y r):(c.rows.map cA)[k]?=Y (cA r):=by rw[aT,a];rfl
structure QI(f:wF)(fit lift:Int->Int->Int):Prop where
 fit:∀n a,dZ [fO f,.int n,.int a]=some (.int (fit n a))
 lift:∀n a,iP [fO f,.int n,.int a]=some (.int (lift n a))
def C7(c b:Int->Int->Int)(p:Nat)(r d:cU)(a:List cU):List cU:=
 (a.set (p+1) { r with fits:=c r.named r.atoms }).set p { d with atoms:=bO d.atoms (b r.named r.atoms) }
theorem Fb{c:fY}{e a:Int->Int->Int}(w:QI c.f e a){p:Nat}{r f:cU}(s:c.rows[p+1]?=Y r)(z:c.rows[p]?=Y f)(d A l g:Option D):
  jM [oC c,Y (.int ((p:Int)+1)),d,A,l,g]=Y (.nx [oC { c with rows:=C7 e a p r f c.rows },Y (.int p),Y (.bl (bA (a r.named r.atoms) (bN f.atoms) != 0)),eH (p+1),Y (.int (a r.named r.atoms)),eH p]):=by
 have v:p+1<c.rows.length:=(aj.mp s).1;unfold jM;rw[aQ (u5 (c:=c) (n:=(p:Int)+1) (k:=p+1) rfl rfl (by have:=oH (n:=c.rows.length) (k:=p+1) v;simpa using this))];simp only[aZ,a9];have q:res [0] [3,5] [oC c,Y (.int ((p:Int)+1)),d,eH (p+1),l,g]=[Y (bw c),Y (.int ((p:Int)+1)),d,((c.rows.map cA)[p+1]?).bind (fJ []),l,W_ [oC c,Y (.int ((p:Int)+1)),d,eH (p+1),l,g] g]:=by kernel_rfl
 rw[nI s]at q;simp only[aa,fJ]at q;rw[aQ (Di (c:=c) (k:=p+1) (r:=r) (r':={ r with fits:=e r.named r.atoms }) (d :=.int (e r.named r.atoms)) s rfl rfl (mT q (show dZ [fO c.f,.int r.named,.int r.atoms]=_ from w.fit _ _) rfl) (by kernel_rfl))];simp only[aZ,a9];generalize h:({ c with rows:=c.rows.set (p+1) { r with fits:=e r.named r.atoms } }:fY)=b;have u:b.f=c.f:=by rw[<- h]
 have m:b.rows[p+1]?=Y { r with fits:=e r.named r.atoms }:=by rw[<- h];simp[v]
 have k:b.rows[p]?=Y f:=by rw[<- h];simp only;rw[aw (by omega)];exact z
 have o:res [0] [3,5] [oC b,Y (.int ((p:Int)+1)),d,eH (p+1),l,g]=[Y (bw b),Y (.int ((p:Int)+1)),d,((b.rows.map cA)[p+1]?).bind (fJ []),l,W_ [oC b,Y (.int ((p:Int)+1)),d,eH (p+1),l,g] g]:=by kernel_rfl
 rw[nI m]at o;simp only[aa,fJ]at o;rw[aQ (gE (d :=.int (a r.named r.atoms)) (mT o (show iP [fO b.f,.int r.named,.int r.atoms]=_ from by rw[u];exact w.lift _ _) rfl))];simp only[aZ,a9];have y:nG 1 (λi j=>i-j) (eK (.int 1)) [oC b,Y (.int ((p:Int)+1)),d,eH (p+1),Y (.int (a r.named r.atoms)),g]=Y (.nx [oC b,Y (.int p),d,eH (p+1),Y (.int (a r.named r.atoms)),g]):=by
  have:nG 1 (λi j=>i-j) (eK (.int 1)) [oC b,Y (.int ((p:Int)+1)),d,eH (p+1),Y (.int (a r.named r.atoms)),g]=Y (.nx [oC b,Y (.int ((p:Int)+1-1)),d,eH (p+1),Y (.int (a r.named r.atoms)),g]):=by kernel_rfl
  rw[this,B4]
 show a_ (nG 1 (λi j=>i-j) (eK (.int 1))) _ [oC b,Y (.int ((p:Int)+1)),d,eH (p+1),Y (.int (a r.named r.atoms)),g]=_;rw[aQ y];have t:p<b.rows.length:=(aj.mp k).1;rw[aQ (u5 (c:=b) (n:=(p:Int)) (k:=p) rfl rfl (oH t))];simp only[aZ,a9];have n:res [0] [3,5] [oC b,Y (.int p),d,eH (p+1),Y (.int (a r.named r.atoms)),eH p]=[Y (bw b),Y (.int p),d,((b.rows.map cA)[p+1]?).bind (fJ []),Y (.int (a r.named r.atoms)),((b.rows.map cA)[p]?).bind (fJ [])]:=by kernel_rfl
 rw[nI m,nI k]at n;simp only[aa,fJ]at n;have x:lx [0] [3,5] (e2 vK (e2 dm (eV 4) (e1 yr (bc "Row" "atoms" (eV 5)))) (eK (.int 0))) [oC b,Y (.int p),d,eH (p+1),Y (.int (a r.named r.atoms)),eH p]=Y (.bl (bA (a r.named r.atoms) (bN f.atoms) != 0)):=by
  refine mT n ?_ rfl;have:e2 vK (e2 dm (eV 4) (e1 yr (bc "Row" "atoms" (eV 5)))) (eK (.int 0)) [Y (bw b),Y (.int p),d,Y (cA { r with fits:=e r.named r.atoms }),Y (.int (a r.named r.atoms)),Y (cA f)]=vK (.int (bA (a r.named r.atoms) (bN f.atoms))) (.int 0):=by kernel_rfl
  rw[this];simp[vK,kq,rG,bne]
 show a_ (dr 2 _) _ [oC b,Y (.int p),d,eH (p+1),Y (.int (a r.named r.atoms)),eH p]=_;rw[aQ (gE x)];simp only[aZ,a9];show d8 Z' 5 "Row" "atoms" bK (eV 4) [oC b,Y (.int p),Y (.bl (bA (a r.named r.atoms) (bN f.atoms) != 0)),eH (p+1),Y (.int (a r.named r.atoms)),eH p]=_;rw[IU (c:=b) (k:=p) (r:=f) (r':={ f with atoms:=bO f.atoms (a r.named r.atoms) }) (m:=f.atoms) (n:=a r.named r.atoms) k rfl rfl rfl rfl (by kernel_rfl)];rw[<- h];rfl
section
variable {fit lift:Int->Int->Int}
def r_(fit lift:Int->Int->Int):Bool->Nat->List cU->List cU
 | true,p+1,a=>match a[p+1]?,a[p]? with
  |some r,Y b=>r_ fit lift (bA (lift r.named r.atoms) (bN b.atoms) != 0) p (C7 fit lift p r b a)|_,_=>a
 |_,_,a=>a
theorem zk{a:List cU}:(C7 fit lift p r b a).length=a.length:=by unfold C7;simp
theorem vv:∀(p n:Nat) (c:fY) (f:Bool) (d b a:Option D),QI c.f fit lift->p<n->p<c.rows.length->∃v u j i g,
  m_ (fV (eD (eV 2)) (dk (e2 vj (eV 1) (eK (.int 0))))) jM n [oC c,Y (.int p),Y (.bl f),d,b,a]=Y (.nx [oC { c with rows:=r_ fit lift f p c.rows },v,u,j,i,g])
 |p,0,c,f,d,b,a,_,h,_=>by omega
 | 0,n+1,c,f,d,b,a,k,h,o=>by
  refine⟨Y (.int 0),Y (.bl f),d,b,a,?_⟩;rw[m_];have e:fV (eD (eV 2)) (dk (e2 vj (eV 1) (eK (.int 0)))) [oC c,Y (.int ((0:Nat):Int)),Y (.bl f),d,b,a]=Y false:=by cases f<;>rfl
  rw[e];simp only[aa,dQ,if_false];cases f<;>rfl
 | p+1,n+1,c,f,d,b,a,k,h,o=>by
  rw[m_];cases f with
  |false=>refine⟨Y (.int ((p+1:Nat):Int)),Y (.bl Z_),d,b,a,?_⟩;have e:fV (eD (eV 2)) (dk (e2 vj (eV 1) (eK (.int 0)))) [oC c,Y (.int ((p+1:Nat):Int)),Y (.bl Z_),d,b,a]=Y false:=rfl;rw[e];rfl
  |true=>
   have l:c.rows[p+1]?=Y c.rows[p+1]:=aU o;have m:c.rows[p]?=Y (c.rows[p]'(by omega)):=aU (by omega);have e:fV (eD (eV 2)) (dk (e2 vj (eV 1) (eK (.int 0)))) [oC c,Y (.int ((p+1:Nat):Int)),Y (.bl Z'),d,b,a]=Y true:=by have:fV (eD (eV 2)) (dk (e2 vj (eV 1) (eK (.int 0)))) [oC c,Y (.int ((p+1:Nat):Int)),Y (.bl Z'),d,b,a]=dk (λ_=>vj (.int ((p+1:Nat):Int)) (.int 0)) []:=rfl;rw[this];simp[dk,vj]
   rw[e];simp only[aa,if_true];have r:=Fb k l m (Y (.bl Z')) d b a;rw[show ((p+1:Nat):Int)=(p:Int)+1 by omega,r];simp only[aa];obtain⟨t,s,j,i,g,q⟩:=vv p n { c with rows:=C7 fit lift p c.rows[p+1] (c.rows[p]'(by omega)) c.rows } (bA (lift c.rows[p+1].named c.rows[p+1].atoms) (bN (c.rows[p]'(by omega)).atoms) != 0) (eH (p+1)) (Y (.int (lift c.rows[p+1].named c.rows[p+1].atoms))) (eH p) k (by omega) (by simp only[zk];omega);refine⟨t,s,j,i,g,q.trans ?_⟩;simp only[r_,l,m]
theorem Cg{c:fY}(b:QI c.f fit lift)(e:0<c.rows.length)(d:c.rows.length<1000000):dE [bw c]=Y (.eJ,bw { c with rows:=r_ fit lift Z' (c.rows.length-1) c.rows }):=by
 show (kP [oC c,M,M,M,M,M]).bind (mW aF)=_;unfold kP;have a:lx [0] [3,5] (e2 me (be hR (aC (bc "Coming" "rows" (eV 0)) aN)) (eK (.int 1))) [oC c,M,M,M,M,M]=Y (.int ((c.rows.length-1:Nat):Int)):=by
  have:lx [0] [3,5] (e2 me (be hR (aC (bc "Coming" "rows" (eV 0)) aN)) (eK (.int 1))) [oC c,M,M,M,M,M]=Y (.int (((c.rows.map cA).length:Int)-1)):=by kernel_rfl
  rw[this,au]
  congr 2
  omega
 rw[aQ (gE a)];simp only[aZ,a9];rw[aQ (gE (d :=.bl Z') rfl)];simp only[aZ,a9];obtain⟨j,i,h,g,f,q⟩:=vv (c.rows.length-1) 1000000 c Z' M M M b (by omega) (by omega);unfold zy;rw[q];kernel_rfl
def wz(fit lift:Int->Int->Int)(c:fY)(atoms:Int)(r:cU):fY:=if bA atoms (bN r.atoms) != 0 then { c with rows:=r_ fit lift Z' (c.rows.length-1) (c.rows.set (c.rows.length-1) { r with atoms:=bO r.atoms atoms }) } else c
theorem Eo{c:fY}(j:QI c.f fit lift){r:cU}(b:c.rows[c.rows.length-1]?=Y r)(i:c.rows.length<1000000)(atoms:Int):gL [bw c,.int atoms]=Y (.eJ,bw (wz fit lift c atoms r)):=by
 have f:0<c.rows.length:=by have:=(aj.mp b).1;omega
 show (jf [oC c,Y (.int atoms),M]).bind (mW aF)=_;unfold jf;rw[aQ (u5 (c:=c) (n:= -1) (k:=c.rows.length-1) rfl rfl (Aj f))];simp only[aZ,a9];have a:res [0] [2] [oC c,Y (.int atoms),eH (c.rows.length-1)]=[Y (bw c),Y (.int atoms),((c.rows.map cA)[c.rows.length-1]?).bind (fJ [])]:=by kernel_rfl
 rw[nI b]at a;simp only[aa,fJ]at a;have h:xY [0] [2] (eD (e2 dm (eV 1) (e1 yr (bc "Row" "atoms" (eV 2))))) [oC c,Y (.int atoms),eH (c.rows.length-1)]=Y (bA atoms (bN r.atoms) != 0):=qp a (by kernel_rfl);unfold eW;rw[h];simp only[aa];unfold wz;by_cases e:(bA atoms (bN r.atoms) != 0)=Z'
 ·rw[if_pos e,if_pos e];rw[aQ (IU (c:=c) (k:=c.rows.length-1) (r:=r) (r':={ r with atoms:=bO r.atoms atoms }) (m:=r.atoms) (n:=atoms) b rfl rfl rfl rfl (by kernel_rfl))];simp only[aZ,a9];have d:=Cg (c:={ c with rows:=c.rows.set (c.rows.length-1) { r with atoms:=bO r.atoms atoms } }) j (by simpa using f) (by simpa using i);simp only[qk]at d;unfold dS;have g:bU "Coming" "spread" aF dE 0 kl [oC { c with rows:=c.rows.set (c.rows.length-1) { r with atoms:=bO r.atoms atoms } },Y (.int atoms),eH (c.rows.length-1)]=(dE [bw { c with rows:=c.rows.set (c.rows.length-1) { r with atoms:=bO r.atoms atoms } }]).map λq=>(q.1,[Y (.obj aF q.2),Y (.int atoms),M]):=by kernel_rfl
  rw[g,d];kernel_rfl
 ·rw[if_neg e,if_neg e];kernel_rfl
end
def p_(b p a f:Int):Int:=bA (bO p (bA a b)) f*2
def nK(a:Int)(b r:cU):cU:={ r with aR:=p_ a b.aR b.ra r.fits,ra:=bO b.ra (p_ a b.aR b.ra r.fits) }
abbrev AA(a b:Int)(c r:cU):Bool:=bA (bA (p_ a c.aR c.ra r.fits) (bN r.aR)) b != 0
theorem Fc{c:fY}{p:Nat}{r a:cU}(n:c.rows[p+1]?=Y r)(v:c.rows[p]?=Y a)(F:(bA (bO a.aR (bA a.ra c.f.inner)) r.fits).natAbs<2 ^ 64)(b:List D)(y:b.length<ez)(A z l:Option D):
  hW [oC c,Y (.lst b),Y (.int ((p:Int)+1)),A,z,l]=Y (.nx [oC { c with rows:=c.rows.set (p+1) (nK c.f.inner a r) },Y (.lst (b++if AA c.f.inner c.full a r then [.int r.number] else [])),Y (.int ((p:Int)+1)),eH p,eH (p+1),Y (.int r.aR)]):=by
 have w:p+1<c.rows.length:=(aj.mp n).1;unfold hW;have E:e2 me (eV 2) (eK (.int 1)) [oC c,Y (.lst b),Y (.int ((p:Int)+1)),A,z,l]=Y (.int (p:Int)):=by
  have:e2 me (eV 2) (eK (.int 1)) [oC c,Y (.lst b),Y (.int ((p:Int)+1)),A,z,l]=Y (.int ((p:Int)+1-1)):=by kernel_rfl
  rw[this,B4]
 rw[aQ (u5 (c:=c) (n:=(p:Int)) (k:=p) rfl E (oH (by omega)))];simp only[aZ,a9];rw[aQ (u5 (c:=c) (n:=(p:Int)+1) (k:=p+1) rfl rfl (by have:=oH (n:=c.rows.length) (k:=p+1) w;simpa using this))];simp only[aZ,a9];have s:res [0] [4,3] [oC c,Y (.lst b),Y (.int ((p:Int)+1)),eH p,eH (p+1),l]=[Y (bw c),Y (.lst b),Y (.int ((p:Int)+1)),((c.rows.map cA)[p]?).bind (fJ []),((c.rows.map cA)[p+1]?).bind (fJ []),l]:=by kernel_rfl
 rw[nI n,nI v]at s;simp only[aa,fJ]at s;rw[aQ (gE (d :=.int r.aR) (mT s (by kernel_rfl) rfl))];simp only[aZ,a9];have q:res [0] [4,3] [oC c,Y (.lst b),Y (.int ((p:Int)+1)),eH p,eH (p+1),Y (.int r.aR)]=[Y (bw c),Y (.lst b),Y (.int ((p:Int)+1)),((c.rows.map cA)[p]?).bind (fJ []),((c.rows.map cA)[p+1]?).bind (fJ []),Y (.int r.aR)]:=by kernel_rfl
 rw[nI n,nI v]at q;simp only[aa,fJ]at q;rw[aQ (Di (c:=c) (k:=p+1) (r:=r) (r':={ r with aR:=p_ c.f.inner a.aR a.ra r.fits }) (d :=.int (p_ c.f.inner a.aR a.ra r.fits)) n rfl rfl (mT q (show dG [bw c,.int a.aR,.int a.ra,.int r.fits]=_ from Aw _ _ _ _ F) rfl) (by kernel_rfl))];simp only[aZ,a9];generalize f:({ c with rows:=c.rows.set (p+1) { r with aR:=p_ c.f.inner a.aR a.ra r.fits } }:fY)=g;have i:g.rows[p+1]?=Y { r with aR:=p_ c.f.inner a.aR a.ra r.fits }:=by rw[<- f];simp[w]
 have j:g.rows[p]?=Y a:=by rw[<- f];simp only;rw[aw (by omega)];exact v
 have o:res [0] [4,3] [oC g,Y (.lst b),Y (.int ((p:Int)+1)),eH p,eH (p+1),Y (.int r.aR)]=[Y (bw g),Y (.lst b),Y (.int ((p:Int)+1)),((g.rows.map cA)[p]?).bind (fJ []),((g.rows.map cA)[p+1]?).bind (fJ []),Y (.int r.aR)]:=by kernel_rfl
 rw[nI i,nI j]at o;simp only[aa,fJ]at o;rw[aQ (Di (c:=g) (k:=p+1) (r':=nK c.f.inner a r) (d :=.int (bO a.ra (p_ c.f.inner a.aR a.ra r.fits))) i rfl rfl (mT o (by kernel_rfl) rfl) (by kernel_rfl))];simp only[aZ,a9];generalize h:({ g with rows:=g.rows.set (p+1) (nK c.f.inner a r) }:fY)=d;have t:d.rows[p+1]?=Y (nK c.f.inner a r):=by rw[<- h,<- f];simp[w]
 have u:d.rows[p]?=Y a:=by rw[<- h];simp only;rw[aw (by omega)];exact j
 have k:d={ c with rows:=c.rows.set (p+1) (nK c.f.inner a r) }:=by rw[<- h,<- f];simp
 have x:d.full=c.full:=by rw[k]
 have m:res [0] [4,3] [oC d,Y (.lst b),Y (.int ((p:Int)+1)),eH p,eH (p+1),Y (.int r.aR)]=[Y (bw d),Y (.lst b),Y (.int ((p:Int)+1)),((d.rows.map cA)[p]?).bind (fJ []),((d.rows.map cA)[p+1]?).bind (fJ []),Y (.int r.aR)]:=by kernel_rfl
 rw[nI t,nI u]at m;simp only[aa,fJ]at m;have C:xY [0] [4,3] (eD (e2 dm (e2 dm (bc "Row" "reached" (eV 4)) (e1 yr (eV 5))) (bc "Coming" "full" (eV 0)))) [oC d,Y (.lst b),Y (.int ((p:Int)+1)),eH p,eH (p+1),Y (.int r.aR)]=Y (AA c.f.inner d.full a r):=qp m (by kernel_rfl);show eW _ _ _ [oC d,Y (.lst b),Y (.int ((p:Int)+1)),eH p,eH (p+1),Y (.int r.aR)]=_;unfold eW;rw[C,x];simp only[aa];rw[<- k];by_cases e:AA c.f.inner c.full a r=Z'
 ·rw[if_pos e,if_pos e];unfold pV;have B:lx [0] [4,3] (bc "Row" "number" (eV 4)) [oC d,Y (.lst b),Y (.int ((p:Int)+1)),eH p,eH (p+1),Y (.int r.aR)]=Y (.int r.number):=mT m (by kernel_rfl) rfl;rw[B];show (if b.length<ez then _ else M)=_;rw[if_pos y];rfl
 ·rw[if_neg e,if_neg e];simp only[cM];rfl
def fZ(a:Int):cU->List cU->List cU
 |_,[]=>[]|pr,r::b=>nK a pr r::fZ a (nK a pr r) b
def oZ(a b:Int):cU->List cU->List Int
 |_,[]=>[]|pr,r::c=>(if AA a b pr r then [r.number] else [])++oZ a b (nK a pr r) c
def UR(a:Int):cU->List cU->Prop
 |_,[]=>True|pr,r::b=>(bA (bO pr.aR (bA pr.ra a)) r.fits).natAbs<2 ^ 64/\UR a (nK a pr r) b
theorem zr(a:Int):∀(c:cU) (b:List cU),(fZ a c b).length=b.length
 |_,[]=>rfl|c,r::b=>by simp[fZ,zr a (nK a c r) b]
theorem z9(a b:Int):∀(d:cU) (c:List cU),(oZ a b d c).length<=c.length
 |_,[]=>aM _|d,r::c=>by have:=z9 a b (nK a d r) c;unfold oZ;split<;>simp<;>omega
theorem Cm(b:Int)(n:Nat):mv b (n+1)=.int b::mv (b+1) n:=by
 unfold mv;rw[nX];simp[eC];intro a _;omega
theorem pL{ρ1:bZ}(h:b d c=Y ρ1)(f:g ρ1=Y (.nx a)):gw b g (d::e) c=gw b g e a:=by
 rw[gw,h];simp only[aa,f]
theorem zm:∀(rs pre:List cU) (pr:cU) (c:fY) (ds:List D) (a2 a3 a4 a5:Option D),c.rows=pre++pr::rs->UR c.f.inner pr rs->ds.length+rs.length<ez->∃b2 b3 b4 b5,
  gw (gN 2) hW (mv ((pre.length:Int)+1) rs.length) [oC c,Y (.lst ds),a2,a3,a4,a5]=Y (.nx [oC { c with rows:=pre++pr::fZ c.f.inner pr rs },Y (.lst (ds++(oZ c.f.inner c.full pr rs).map D.int)),b2,b3,b4,b5])
 |[],pre,pr,c,ds,a2,a3,a4,a5,e,h,hd=>by refine⟨a2,a3,a4,a5,?_⟩;show Y (DO.nx _)=_;simp only[fZ,oZ,EB,cM,<- e]
 | r::rs,pre,pr,c,ds,a2,a3,a4,a5,e,h,hd=>by
  have hr:c.rows[pre.length+1]?=Y r:=by rw[e,dO (by omega)];simp
  have hp:c.rows[pre.length]?=Y pr:=by rw[e,dO (by omega)];simp
  simp only[aO]at hd ⊢;have hb:=Fc hr hp h.1 ds (by omega) a3 a4 a5;rw[Cm,pL (ρ1:=[oC c,Y (.lst ds),Y (.int ((pre.length:Int)+1)),a3,a4,a5]) rfl hb];obtain⟨b2,b3,b4,b5,q⟩:=zm rs (pre++[pr]) (nK c.f.inner pr r) { c with rows:=c.rows.set (pre.length+1) (nK c.f.inner pr r) } (ds++if AA c.f.inner c.full pr r then [.int r.number] else []) (Y (.int ((pre.length:Int)+1))) (eH pre.length) (eH (pre.length+1)) (Y (.int r.aR)) (by simp only[e];rw[List.set_append_right _ _ (by omega)];simp) h.2 (by split<;>simp<;>omega);refine⟨b2,b3,b4,b5,?_⟩;simp only[aE,aO,eU,Int.natCast_add,Int.natCast_one,Int.natCast_zero,Int.zero_add]at q;rw[q];rw[fZ,oZ];simp only[bV,iq,c6,cm];have:(if AA c.f.inner c.full pr r=Z' then [D.int r.number] else [])=LM D.int (if AA c.f.inner c.full pr r=Z' then [r.number] else []):=by split<;>rfl
  rw[this]
theorem Tg{f:DF}{i:Int}(c:f a=Y (.int i))(b:g a=Y (.int j))(h : -(2 ^ 62)<=i/\i<2 ^ 62 /\ -(2 ^ 62)<=j/\j<2 ^ 62):Ri f g a=Y (mv i (j-i).toNat):=by
 simp only[Ri,c,b,aa];rw[if_pos h]
theorem Ej:1000000<=ez:=by unfold ez;decide
theorem Kr{c:fY}{a:List cU}(e:c.rows=t::a)(h:UR c.f.inner t a)(m:a.length<1000000):kT [bw c]=Y ((oZ c.f.inner c.full t a).map D.int,bw { c with rows:=t::fZ c.f.inner t a }):=by
 show (kQ [oC c,M,M,M,M,M]).bind (Ra aF)=_;unfold kQ;have g:jS 1 (fX aN) [oC c,M,M,M,M,M]=Y (.nx [oC c,Y (.lst []),M,M,M,M]):=by kernel_rfl
 rw[aQ g];obtain⟨l,k,j,i,q⟩:=zm a [] t c [] M M M M (by simpa using e) h (by have:=Ej;simp only[eU];omega);have f:lx [0] [4,3] (be hR (aC (bc "Coming" "rows" (eV 0)) aN)) [oC c,Y (.lst []),M,M,M,M]=Y (.int (a.length+1:Int)):=by
  have:lx [0] [4,3] (be hR (aC (bc "Coming" "rows" (eV 0)) aN)) [oC c,Y (.lst []),M,M,M,M]=Y (.int ((c.rows.map cA).length:Int)):=by kernel_rfl
  rw[this,au,e];simp
 have d:Ri (eK (.int 1)) (lx [0] [4,3] (be hR (aC (bc "Coming" "rows" (eV 0)) aN))) [oC c,Y (.lst []),M,M,M,M]=Y (mv 1 a.length):=by have:=Tg (f:=eK (.int 1)) (i:=1) rfl f ⟨by decide,by decide,wN (by decide) (show (0:Int)<=(a.length:Int)+1 by omega),rS (show (a.length:Int)+1<=1000000 by omega) (by decide)⟩;rw[this,B4,bq]
 have b:js (Ri (eK (.int 1)) (lx [0] [4,3] (be hR (aC (bc "Coming" "rows" (eV 0)) aN)))) (gN 2) hW [oC c,Y (.lst []),M,M,M,M]=Y (.nx [oC { c with rows:=t::fZ c.f.inner t a },Y (.lst ((oZ c.f.inner c.full t a).map D.int)),l,k,j,i]):=by unfold js;rw[d];simpa using q
 rw[aQ b];kernel_rfl
abbrev Nl(r:cU)(a:rn):Bool:=bA r.aR a.own != 0||bA r.ra a.around != 0
def j3(a:List cU)(b:rn):Bool:=match a[b.place.toNat]? with|some r=>Nl r b|none=>Z_
abbrev Xx(a:List cU)(b:rn):Prop:=0<=b.place/\b.place<a.length
theorem Kn{c:fY}{rs:rn}(h:Xx c.rows rs)(fs ks:List D)(hf:fs.length<ez)(hk:ks.length<ez)(a4:Option D):
  ∃b4,dR [oC c,Y (.lst fs),Y (.lst ks),Y (c_ rs),a4]=Y (.nx [oC c,Y (.lst (fs++if j3 c.rows rs then [.int rs.num] else [])),Y (.lst (ks++if j3 c.rows rs then [] else [c_ rs])),Y (c_ rs),b4]):=by
 obtain⟨k,ZX⟩:∃k:Nat,rs.place=k:=⟨rs.place.toNat,by omega⟩;have hl:k<c.rows.length:=by have:=h.2;omega
 have hr:c.rows[k]?=Y c.rows[k]:=aU hl;generalize c.rows[k]=r at hr;have hm:j3 c.rows rs=Nl r rs:=by unfold j3;rw[ZX,bq,hr]
 rw[hm];refine⟨eH k,?_⟩;unfold dR;have q0:e2 cj (eV 3) (eK (.int 1)) [oC c,Y (.lst fs),Y (.lst ks),Y (c_ rs),a4]=Y (.int rs.place):=by kernel_rfl
 rw[ZX]at q0;rw[aQ (u5 (c:=c) (n:=(k:Int)) (k:=k) rfl q0 (oH hl))];simp only[aZ,a9];have q1:res [0] [4] [oC c,Y (.lst fs),Y (.lst ks),Y (c_ rs),eH k]=[Y (bw c),Y (.lst fs),Y (.lst ks),Y (c_ rs),((c.rows.map cA)[k]?).bind (fJ [])]:=by kernel_rfl
 rw[nI hr]at q1;simp only[aa,fJ]at q1;have q2:xY [0] [4] (nJ (eD (e2 dm (bc "Row" "reached" (eV 4)) (e2 cj (eV 3) (eK (.int 2))))) (eD (e2 dm (bc "Row" "reached_around" (eV 4)) (e2 cj (eV 3) (eK (.int 3)))))) [oC c,Y (.lst fs),Y (.lst ks),Y (c_ rs),eH k]=Y (Nl r rs):=by
  refine qp q1 ?_;have e1:eD (e2 dm (bc "Row" "reached" (eV 4)) (e2 cj (eV 3) (eK (.int 2)))) [Y (bw c),Y (.lst fs),Y (.lst ks),Y (c_ rs),Y (cA r)]=Y (bA r.aR rs.own != 0):=by kernel_rfl
  have e2:eD (e2 dm (bc "Row" "reached_around" (eV 4)) (e2 cj (eV 3) (eK (.int 3)))) [Y (bw c),Y (.lst fs),Y (.lst ks),Y (c_ rs),Y (cA r)]=Y (bA r.ra rs.around != 0):=by kernel_rfl
  unfold nJ Nl;rw[e1,e2];cases (bA r.aR rs.own != 0)<;>rfl
 unfold eW;rw[q2];simp only[aa];cases Nl r rs with
 |true=>show (if fs.length<ez then _ else M)=_;rw[if_pos hf];simp
 |false=>show (if ks.length<ez then _ else M)=_;rw[if_pos hk];simp
theorem EY:∀(d:List rn) (c:fY) (g f:List D) (j i:Option D),(∀a∈d,Xx c.rows a)->g.length+d.length<ez->f.length+d.length<ez->∃l k,
  gw (gN 3) dR (d.map c_) [oC c,Y (.lst g),Y (.lst f),j,i]=Y (.nx [oC c,Y (.lst (g++(d.filter (j3 c.rows)).map λa=>D.int a.num)),Y (.lst (f++(d.filter λa=> !j3 c.rows a).map c_)),l,k])
 |[],c,g,f,j,i,h,n,m=>⟨j,i,by simp[gw]⟩
 |a::d,c,g,f,j,i,h,n,m=>by simp only[aO]at n m;obtain⟨b,p⟩:=Kn (h a (ay ..)) g f (by omega) (by omega) i;rw[bh,pL (ρ1:=[oC c,Y (.lst g),Y (.lst f),Y (c_ a),i]) rfl p];obtain⟨l,k,q⟩:=EY d c (g++if j3 c.rows a then [.int a.num] else []) (f++if j3 c.rows a then [] else [c_ a]) (Y (c_ a)) b (λy o=>h y (av _ o)) (by split<;>simp<;>omega) (by split<;>simp<;>omega);refine⟨l,k,q.trans ?_⟩;cases e:j3 c.rows a<;>simp[e]
theorem Am:∀(a:List Int),Cz (a.map D.int)=Y a
 |[]=>rfl|n::a=>by simp[Cz,Am a]
theorem zl{f:DF}{a:List Int}(e:f b=Y (.lst (a.map D.int)))(h:a.length<64):lU f b=Y ((yS a).map D.int):=by
 unfold lU;rw[e];simp only[aa,Am];rw[if_pos h]
def Bo(c:fY)(rows:List cU):fY:={ c with rows:=rows,rests:=c.rests.filter λa=> !j3 rows a }
theorem Mg{F:List D->Option (List D×D)}(d:F [bw c]=Y (a,bw b)):zD 1 0 "Coming" "settle" aF F [oC c,M,M,M,M]=Y (.nx [oC b,Y (.lst a),M,M,M]):=by
 have:zD 1 0 "Coming" "settle" aF F [oC c,M,M,M,M]=(F [bw c]).map λr =>.nx [Y (.obj aF r.2),Y (.lst r.1),M,M,M]:=by kernel_rfl
 rw[this,d];rfl
theorem i_{n:Nat}(h:n<2000):n<ez:=bu (Nat.lt_trans h (by decide)) Ej
theorem BC{c:fY}{a:List cU}(e:c.rows=t::a)(h:UR c.f.inner t a)(A:∀y∈c.rests,Xx c.rows y)(B:(oZ c.f.inner c.full t a++(c.rests.filter (j3 (t::fZ c.f.inner t a))).map (·.num)).length<64)(F:a.length<64)(G:c.rests.length<1000):
  dH [bw c]=Y (.lst ((yS (oZ c.f.inner c.full t a++(c.rests.filter (j3 (t::fZ c.f.inner t a))).map (·.num))).map D.int),bw (Bo c (t::fZ c.f.inner t a))):=by
 show (iy [oC c,M,M,M,M]).bind (mW aF)=_;unfold iy;have z:=Kr e h (by omega);have C:=z9 c.f.inner c.full t a;generalize oZ c.f.inner c.full t a=i at *
 generalize n:t::fZ c.f.inner t a=rows at *
 have o:rows.length=c.rows.length:=by rw[<- n,e];simp[zr]
 generalize k:({ c with rows:=rows }:fY)=f at *
 have j:f.rows=rows:=by rw[<- k]
 have b:f.rests=c.rests:=by rw[<- k]
 rw[aQ (Mg z)];have w:jS 2 (fX aN) [oC f,Y (.lst (i.map D.int)),M,M,M]=Y (.nx [oC f,Y (.lst (i.map D.int)),Y (.lst []),M,M]):=by kernel_rfl
 rw[aQ w];obtain⟨m,l,v⟩:=EY f.rests f (i.map D.int) [] M M (by rw[b,j];intro y x;have:=A y x;exact⟨this.1,by rw[o];exact this.2⟩) (i_ (by rw[b,au];omega)) (i_ (by rw[b,eU];omega));have u:js (iL (ri 0 "Coming" "rests")) (gN 3) dR [oC f,Y (.lst (i.map D.int)),Y (.lst []),M,M]=gw (gN 3) dR (f.rests.map c_) [oC f,Y (.lst (i.map D.int)),Y (.lst []),M,M]:=by kernel_rfl
 rw[aQ (u.trans v)];simp only[c6];rw[b,j];have s:(i.map D.int++(c.rests.filter (j3 rows)).map λa=>D.int a.num)=(i++(c.rests.filter (j3 rows)).map (·.num)).map D.int:=by simp[eC]
 rw[s];generalize i++(c.rests.filter (j3 rows)).map (·.num)=g at *
 have r:eI Z_ 0 "Coming" "rests" (eV 2) [oC f,Y (.lst (g.map D.int)),Y (.lst ((c.rests.filter λa=> !j3 rows a).map c_)),m,l]=Y (.nx [oC (Bo c rows),Y (.lst (g.map D.int)),Y (.lst ((c.rests.filter λa=> !j3 rows a).map c_)),m,l]):=by rw[<- k];kernel_rfl
 rw[aQ r];have q:lU (eV 1) [oC (Bo c rows),Y (.lst (g.map D.int)),Y (.lst ((c.rests.filter λa=> !j3 rows a).map c_)),m,l]=Y ((yS g).map D.int):=zl rfl B;generalize (yS g).map D.int=E at *
 have p:(dI (mP (eF (lU (eV 1)))) [oC (Bo c rows),Y (.lst (g.map D.int)),Y (.lst ((c.rests.filter λa=> !j3 rows a).map c_)),m,l])=((lU (eV 1) [oC (Bo c rows),Y (.lst (g.map D.int)),Y (.lst ((c.rests.filter λa=> !j3 rows a).map c_)),m,l]).map D.lst).bind λd=>Y (.rm d [oC (Bo c rows),Y (.lst (g.map D.int)),Y (.lst ((c.rests.filter λa=> !j3 rows a).map c_)),m,l]):=by unfold dI mP eF;cases lU (eV 1) [oC (Bo c rows),Y (.lst (g.map D.int)),Y (.lst ((c.rests.filter λa=> !j3 rows a).map c_)),m,l]<;>rfl
 rw[p,q];kernel_rfl
variable {fit lift:Int->Int->Int}
theorem HZ{r r':cU}{f:aG}{a:bZ}{d:D}(h:eV i a=Y (cA r))(g:b a=Y d)(c:D.ins "Row" (jj f d rk (rl r)).1 (jj f d rk (rl r)).2=cA r'):lM i "Row" f b a=Y (.nx (a.set i (Y (cA r')))):=by
 have e:CD "Row" i a=Y (rk,rl r):=by unfold CD;rw[h];kernel_rfl
 unfold lM;rw[g,e];simp only[aa];rw[if_pos (by decide),c]
def AY(fit:Int->Int->Int)(c:fY)(d a b:Int)(e:cU):cU:=⟨d,a,b,fit a b,0,0,p_ c.f.inner e.cv e.ha (bA a c.able),bO e.ha (p_ c.f.inner e.cv e.ha (bA a c.able))⟩
theorem PH{c:fY}{m:Int}(h:c.rows.length<ez):zE 0 4 "Coming" "rows" [oC c,Y (.int n),Y (.int m),Y (.int k),Y (cA r),eH j]=Y (.nx [oC { c with rows:=c.rows++[r] },Y (.int n),Y (.int m),Y (.int k),M,M]):=by
 have e:rE "Coming" "rows" 0 [oC c,Y (.int n),Y (.int m),Y (.int k),Y (cA r),eH j]=Y (n7,ck,cl c,D.lst (c.rows.map cA)):=by kernel_rfl
 unfold zE;rw[e];simp only[aa];have b:eV 4 [oC c,Y (.int n),Y (.int m),Y (.int k),Y (cA r),eH j]=Y (.ins "Row" rk (rl r)):=rfl;rw[b];simp only[aa];rw[if_pos ⟨by decide,by rw[au];exact h⟩];have a:c.rows.map cA++[D.ins "Row" rk (rl r)]=(c.rows++[r]).map cA:=by rw[cm];rfl
 rw[a];kernel_rfl
theorem Ek{c:fY}(l:QI c.f fit lift){pr:cU}(g:c.rows.getLast? = Y pr)(d a b:Int)(j:(bA (bO pr.cv (bA pr.ha c.f.inner)) (bA a c.able)).natAbs<2 ^ 64)(i:c.rows.length<ez):
  gK [bw c,.int d,.int a,.int b]=Y (.eJ,bw { c with rows:=c.rows++[AY fit c d a b pr] }):=by
 show (je [oC c,Y (.int d),Y (.int a),Y (.int b),M,M]).bind (mW aF)=_;unfold je;have k:0<c.rows.length:=by cases h:c.rows with|nil=>rw[h]at g;cases g|cons=>simp
 have f:c.rows[c.rows.length-1]?=Y pr:=by rw[<- List.getLast?_eq_getElem?];exact g
 rw[aQ (gE (d:=cA ⟨d,a,b,0,0,0,0,0⟩) (by kernel_rfl))];simp only[aZ,a9];rw[aQ (u5 (c:=c) (n:= -1) (k:=c.rows.length-1) rfl rfl (Aj k))];simp only[aZ,a9];have e:∀x,res [0] [5] [oC c,Y (.int d),Y (.int a),Y (.int b),Y (cA x),eH (c.rows.length-1)]=[Y (bw c),Y (.int d),Y (.int a),Y (.int b),Y (cA x),Y (cA pr)]:=by
  intro x;have:res [0] [5] [oC c,Y (.int d),Y (.int a),Y (.int b),Y (cA x),eH (c.rows.length-1)]=[Y (bw c),Y (.int d),Y (.int a),Y (.int b),Y (cA x),((c.rows.map cA)[c.rows.length-1]?).bind (fJ [])]:=by kernel_rfl
  rw[this,nI f];rfl
 rw[aQ (HZ (r:=⟨d,a,b,0,0,0,0,0⟩) (r':=⟨d,a,b,fit a b,0,0,0,0⟩) (d :=.int (fit a b)) rfl (mT (e _) (show dZ [fO c.f,.int a,.int b]=_ from l.fit _ _) rfl) (by kernel_rfl))];simp only[aZ,a9];rw[aQ (HZ (r:=⟨d,a,b,fit a b,0,0,0,0⟩) (r':=⟨d,a,b,fit a b,0,0,p_ c.f.inner pr.cv pr.ha (bA a c.able),0⟩) (d :=.int (p_ c.f.inner pr.cv pr.ha (bA a c.able))) rfl (mT (e _) (show dG [bw c,.int pr.cv,.int pr.ha,.int (bA a c.able)]=_ from Aw _ _ _ _ j) rfl) (by kernel_rfl))];simp only[aZ,a9];rw[aQ (HZ (r:=⟨d,a,b,fit a b,0,0,p_ c.f.inner pr.cv pr.ha (bA a c.able),0⟩) (r':=AY fit c d a b pr) (d :=.int (bO pr.ha (p_ c.f.inner pr.cv pr.ha (bA a c.able)))) rfl (mT (e _) (by kernel_rfl) rfl) (by kernel_rfl))];simp only[aZ,a9];rw[PH i];kernel_rfl
abbrev L3(a:Int)(r:cU):Bool:=bA (bA r.cv (bN r.aR)) a != 0
theorem B7(c:fY):∀(b:List cU) (a:List D) (d:Option D),a.length+b.length<ez->∃f,
  gw (gN 2) gy (b.map cA) [Y (bw c),Y (.lst a),d]=Y (.nx [Y (bw c),Y (.lst (a++(b.filter (L3 c.full)).map λr=>D.int r.number)),f])
 |[],a,d,_=>⟨d,by simp[gw]⟩
 | r::b,a,d,h=>by
  simp only[aO]at h;have g:gy [Y (bw c),Y (.lst a),Y (cA r)]=Y (.nx [Y (bw c),Y (.lst (a++if L3 c.full r then [.int r.number] else [])),Y (cA r)]):=by
   unfold gy eW;have e:eD (e2 dm (e2 dm (bc "Row" "hoped" (eV 2)) (e1 yr (bc "Row" "reached" (eV 2)))) (bc "Coming" "full" (eV 0))) [Y (bw c),Y (.lst a),Y (cA r)]=Y (L3 c.full r):=by kernel_rfl
   rw[e];simp only[aa];cases L3 c.full r with
   |true=>show (if a.length<ez then _ else M)=_;rw[if_pos (by omega)];rfl
   |false=>simp;rfl
  rw[bh,pL (ρ1:=[Y (bw c),Y (.lst a),Y (cA r)]) rfl g];obtain⟨f,q⟩:=B7 c b (a++if L3 c.full r then [.int r.number] else []) (Y (cA r)) (by split<;>simp<;>omega);refine⟨f,q.trans ?_⟩;cases e:L3 c.full r<;>simp[e]
def oY(c:fY):List Int:=c.rests.map (·.num)++(c.rows.filter (L3 c.full)).map (·.number)
theorem Jj:∀(a:List rn),BL [M] (gN 0) iC (e2 cj (eV 0) (eK (.int 0))) (a.map c_)=Y ((a.map (·.num)).map D.int)
 |[]=>rfl|x::a=>by rw[bh,BL];have b:gN 0 (c_ x) [M]=Y [Y (c_ x)]:=rfl;rw[b,Jj a];rfl
theorem ES(c:fY)(l:c.rests.length<=1000)(k:c.rows.length<=500)(i:(oY c).length<64):dY [bw c]=Y (.lst ((yS (oY c)).map D.int)):=by
 show (lT [Y (bw c),M,M]).bind nC=_;unfold lT;have b:=Ej;have h:jS 1 (o6 (iL (bc "Coming" "rests" (eV 0))) [M] (gN 0) iC (e2 cj (eV 0) (eK (.int 0)))) [Y (bw c),M,M]=Y (.nx [Y (bw c),Y (.lst ((c.rests.map (·.num)).map D.int)),M]):=by
  have e:o6 (iL (bc "Coming" "rests" (eV 0))) [M] (gN 0) iC (e2 cj (eV 0) (eK (.int 0))) [Y (bw c),M,M]=Y ((c.rests.map (·.num)).map D.int):=by
   unfold o6;have a:iL (bc "Coming" "rests" (eV 0)) [Y (bw c),M,M]=Y (c.rests.map c_):=by kernel_rfl
   rw[a];simp only[aa];rw[if_pos (by rw[au];omega)];exact Jj _
  unfold jS;rw[e];rfl
 rw[aQ h];obtain⟨j,g⟩:=B7 c c.rows ((c.rests.map (·.num)).map D.int) M (i_ (by simp only[au];omega));have f:js (iL (bc "Coming" "rows" (eV 0))) (gN 2) gy [Y (bw c),Y (.lst ((c.rests.map (·.num)).map D.int)),M]=gw (gN 2) gy (c.rows.map cA) [Y (bw c),Y (.lst ((c.rests.map (·.num)).map D.int)),M]:=by
  have a:iL (bc "Coming" "rows" (eV 0)) [Y (bw c),Y (.lst ((c.rests.map (·.num)).map D.int)),M]=Y (c.rows.map cA):=by kernel_rfl
  unfold js;rw[a];rfl
 rw[aQ (f.trans g)];have e:(c.rests.map (·.num)).map D.int++(c.rows.filter (L3 c.full)).map (λr=>D.int r.number)=(oY c).map D.int:=by unfold oY;simp[eC]
 rw[e];have d:lU (eV 1) [Y (bw c),Y (.lst ((oY c).map D.int)),j]=Y ((yS (oY c)).map D.int):=zl rfl i;unfold t6;rw[d];rfl
theorem NB(c:fY):gJ [bw c]=Y (.bl (decide (0<c.opened)&&decide (c.rows.length=1))):=by
 show (jd [Y (bw c)]).bind nC=_;unfold jd eE Qc;have e1:dk (e2 vj (bc "Coming" "opened" (eV 0)) (eK (.int 0))) [Y (bw c)]=Y (decide (0<c.opened)):=by kernel_rfl
 have e2:e2 fh (be hR (aC (bc "Coming" "rows" (eV 0)) aN)) (eK (.int 1)) [Y (bw c)]=fh (.int ((c.rows.map cA).length:Int)) (.int 1):=by kernel_rfl
 rw[e1,e2,au];simp only[aa];have e3:fh (.int (c.rows.length:Int)) (.int 1)=Y (.bl (decide (c.rows.length=1))):=by
  unfold fh;rw[if_pos (by rfl)];have:rG (.int (c.rows.length:Int)) (.int 1)=((c.rows.length:Int)==1):=by simp[rG]
  rw[this]
  congr 2
  by_cases h:c.rows.length=1
  ·rw[h];rfl
  ·rw[decide_eq_false h];simp;omega
 rw[e3];cases decide (0<c.opened)<;>rfl
noncomputable def qW(a:Int):Nat->Int->Int
 |0,e=>e|p+1,e=>if bA a (2 ^ p) != 0 then qW a p (bO e (2 ^ p)) else e
theorem Kq{p:Nat}(h:p<=1000):kB (.int 1) (.int (p:Int))=Y (.int (2 ^ p)):=by
 simp only[kB];rw[if_pos ⟨by omega,by omega,by decide⟩];simp
theorem zS(c:fY):∀(p n:Nat) (e:Int),p<n->p<=1000->∃b2,
  m_ (fV (dk (e2 SD (eV 2) (eK (.int 0)))) (eD (e2 dm (bc "Coming" "able" (eV 0)) (e2 kB (eK (.int 1)) (eV 2))))) mN n [Y (bw c),Y (.int e),Y (.int ((p:Int)-1))]=Y (.nx [Y (bw c),Y (.int (qW c.able p e)),b2])
 |p,0,e,h,_=>by omega
 |0,n+1,e,h,_=>⟨Y (.int (-1)),by rw[m_];rfl⟩
 | p+1,n+1,e,h,hp=>by
  have hc:(((p+1:Nat):Int)-1)=(p:Int):=by omega
  rw[hc];have e1:dk (e2 SD (eV 2) (eK (.int 0))) [Y (bw c),Y (.int e),Y (.int (p:Int))]=Y true:=by
   have:dk (e2 SD (eV 2) (eK (.int 0))) [Y (bw c),Y (.int e),Y (.int (p:Int))]=Y (decide ((0:Int)<=(p:Int))):=by kernel_rfl
   rw[this,decide_eq_true (by omega)]
  have e2:eD (e2 dm (bc "Coming" "able" (eV 0)) (e2 kB (eK (.int 1)) (eV 2))) [Y (bw c),Y (.int e),Y (.int (p:Int))]=Y (bA c.able (2 ^ p) != 0):=by have:eD (e2 dm (bc "Coming" "able" (eV 0)) (e2 kB (eK (.int 1)) (eV 2))) [Y (bw c),Y (.int e),Y (.int (p:Int))]=eD (λ_=>(kB (.int 1) (.int (p:Int))).bind λy=>dm (.int c.able) y) []:=rfl;rw[this,Kq (by omega)];rfl
  rw[m_];unfold fV;rw[e1];simp only[aa,if_true];rw[e2];simp only[aa];cases hx:(bA c.able (2 ^ p) != 0) with
  |false=>refine⟨Y (.int (p:Int)),?_⟩;rw[qW,hx];rfl|true=>
   have hb:mN [Y (bw c),Y (.int e),Y (.int (p:Int))]=Y (.nx [Y (bw c),Y (.int (bO e (2 ^ p))),Y (.int ((p:Int)-1))]):=by
    unfold mN;have e3:nG 1 bK (L2.e2 kB (eK (.int 1)) (eV 2)) [Y (bw c),Y (.int e),Y (.int (p:Int))]=Y (.nx [Y (bw c),Y (.int (bO e (2 ^ p))),Y (.int (p:Int))]):=by have:L2.e2 kB (eK (.int 1)) (eV 2) [Y (bw c),Y (.int e),Y (.int (p:Int))]=Y (.int (2 ^ p)):=(show L2.e2 kB (eK (.int 1)) (eV 2) [Y (bw c),Y (.int e),Y (.int (p:Int))]=kB (.int 1) (.int (p:Int)) from rfl).trans (Kq (by omega));unfold nG;rw[this];rfl
    rw[aQ e3];rfl
   rw[if_pos rfl,hb];simp only[aa];obtain⟨b2,q⟩:=zS c p n (bO e (2 ^ p)) (by omega) (by omega);refine⟨b2,q.trans ?_⟩;rw[qW,hx];rfl
theorem Dq(c:fY)(h:c.f.q.length<=1000):lA [bw c]=Y (.int (qW c.able c.f.q.length 0)):=by
 show (pk [Y (bw c),M,M]).bind nC=_;unfold pk;rw[aQ (gE (d :=.int 0) rfl)];simp only[aZ,a9];rw[aQ (gE (d :=.int ((c.f.q.length:Int)-1)) (by kernel_rfl))];simp only[aZ,a9];obtain⟨b2,q⟩:=zS c c.f.q.length 1000000 0 (by omega) h;unfold zy;rw[aQ q];rfl
theorem Lg(b:Int)(n:Nat):BS b (n+1)=.int b::BS (b-1) n:=by
 unfold BS;rw[nX];simp[eC];intro a _;omega
abbrev stM(a b:Int)(r:cU):Bool:=bA (bO r.cv (bA r.ha a)) b != 0
theorem Cb(c:fY)(nV:Int):∀(n:Nat) (a2 a3 a4:Option D),n<c.rows.length->∃o,gw (gN 2) kE (BS (n:Int) n) [Y (bw c),Y (.int nV),a2,a3,a4]=Y o/\(((∃ρ,o=.nx ρ)/\((c.rows.take (n+1)).tail.any (stM c.f.inner nV))=Z_)∨((∃xs,o=.rt (.tup xs))/\((c.rows.take (n+1)).tail.any (stM c.f.inner nV))=Z'))
 |0,a2,a3,a4,h=>by refine⟨_,rfl,.inl ⟨⟨_,rfl⟩,?_⟩⟩;cases c.rows<;>simp
 | n+1,a2,a3,a4,h=>by
  have hr:c.rows[n+1]?=Y c.rows[n+1]:=aU h;have et:(c.rows.take (n+1+1)).tail=(c.rows.take (n+1)).tail++[c.rows[n+1]]:=by
   rw[List.take_succ,hr];simp only[Option.toList_some];rw[List.tail_append_of_ne_nil];intro hn;have h0:(c.rows.take (n+1)).length=n+1:=by rw[o_];omega
   rw[hn]at h0;cases h0
  generalize c.rows[n+1]=r at *
  rw[Lg,et];have e0:dr 3 (e2 cj (bc "Coming" "rows" (eV 0)) (eV 2)) [Y (bw c),Y (.int nV),Y (.int ((n+1:Nat):Int)),a3,a4]=Y (.nx [Y (bw c),Y (.int nV),Y (.int ((n+1:Nat):Int)),Y (cA r),a4]):=by
   have:e2 cj (bc "Coming" "rows" (eV 0)) (eV 2) [Y (bw c),Y (.int nV),Y (.int ((n+1:Nat):Int)),a3,a4]=Y (cA r):=by have:e2 cj (bc "Coming" "rows" (eV 0)) (eV 2) [Y (bw c),Y (.int nV),Y (.int ((n+1:Nat):Int)),a3,a4]=oT (c.rows.map cA) ((n+1:Nat):Int):=rfl;rw[this];unfold oT;rw[oH (by rw[au];exact h)];exact nI hr
   rw[gE this];rfl
  have e1:dr 4 (e2 dm (e2 Cs (bc "Row" "hoped" (eV 3)) (e2 dm (bc "Row" "hoped_around" (eV 3)) (bc "Facts" "inner" (bc "Coming" "facts" (eV 0))))) (eV 1)) [Y (bw c),Y (.int nV),Y (.int ((n+1:Nat):Int)),Y (cA r),a4]=Y (.nx [Y (bw c),Y (.int nV),Y (.int ((n+1:Nat):Int)),Y (cA r),Y (.int (bA (bO r.cv (bA r.ha c.f.inner)) nV))]):=by kernel_rfl
  have hb:kE [Y (bw c),Y (.int nV),Y (.int ((n+1:Nat):Int)),a3,a4]=Y (if stM c.f.inner nV r then .rt (.tup [.int ((n+1:Nat):Int),.int ((G9 (bA (bO r.cv (bA r.ha c.f.inner)) nV):Int)-1)]) else .nx [Y (bw c),Y (.int nV),Y (.int ((n+1:Nat):Int)),Y (cA r),Y (.int (bA (bO r.cv (bA r.ha c.f.inner)) nV))]):=by unfold kE;rw[aQ e0,aQ e1];unfold eW;have e2:eD (eV 4) [Y (bw c),Y (.int nV),Y (.int ((n+1:Nat):Int)),Y (cA r),Y (.int (bA (bO r.cv (bA r.ha c.f.inner)) nV))]=Y (stM c.f.inner nV r):=rfl;rw[e2];simp only[aa];cases stM c.f.inner nV r<;>rfl
  rw[gw];have eg:gN 2 (.int ((n+1:Nat):Int)) [Y (bw c),Y (.int nV),a2,a3,a4]=Y [Y (bw c),Y (.int nV),Y (.int ((n+1:Nat):Int)),a3,a4]:=rfl;rw[eg];simp only[aa,hb];cases hx:stM c.f.inner nV r with
  |true=>exact⟨_,rfl,.inr ⟨⟨_,rfl⟩,by simp[hx]⟩⟩
  |false=>
   obtain⟨o,q,k⟩:=Cb c nV n (Y (.int ((n+1:Nat):Int))) (Y (cA r)) (Y (.int (bA (bO r.cv (bA r.ha c.f.inner)) nV))) (by omega);refine⟨o,?_,?_⟩
   ·rw[<- q];simp only[dQ,if_false];rw[show ((n+1:Nat):Int)-1=(n:Int) by omega]
   ·simpa [hx] using k
theorem Tf{f g:DF}{j:Int}(c:f a=Y (.int i))(b:g a=Y (.int j))(h : -(2 ^ 62)<=i/\i<2 ^ 62 /\ -(2 ^ 62)<=j/\j<2 ^ 62):UM f g a=Y (BS i (i-j).toNat):=by
 simp only[UM,c,b,aa];rw[if_pos h]
abbrev v_(c:fY):Int:=qW c.able c.f.q.length 0
def qX(c:fY):Bool:=c.rows.tail.any (stM c.f.inner (v_ c))
theorem Dx(c:fY)(hq:c.f.q.length<=1000)(h0:0<c.rows.length)(hl:c.rows.length<1000000):∃d,i7 [bw c]=Y d/\nL d .eJ=Y (.bl (qX c)):=by
 obtain⟨n,hn⟩:∃n,c.rows.length=n+1:=⟨c.rows.length-1,by omega⟩;have e0:i7 [bw c]=(pq [Y (bw c),M,M,M,M]).bind nC:=rfl;have q0:dr 1 (be lA (aC (eV 0) aN)) [Y (bw c),M,M,M,M]=Y (.nx [Y (bw c),Y (.int (v_ c)),M,M,M]):=by rw[gE (show be lA (aC (eV 0) aN) [Y (bw c),M,M,M,M]=Y (.int (v_ c)) from Dq c hq)];rfl
 obtain⟨o,q1,k⟩:=Cb c (v_ c) n M M M (by omega);rw[nW (by omega)]at k;have q2:js (UM (e2 me (be hR (aC (bc "Coming" "rows" (eV 0)) aN)) (eK (.int 1))) (eK (.int 0))) (gN 2) kE [Y (bw c),Y (.int (v_ c)),M,M,M]=Y o:=by
  have e1:e2 me (be hR (aC (bc "Coming" "rows" (eV 0)) aN)) (eK (.int 1)) [Y (bw c),Y (.int (v_ c)),M,M,M]=Y (.int (n:Int)):=by
   have:e2 me (be hR (aC (bc "Coming" "rows" (eV 0)) aN)) (eK (.int 1)) [Y (bw c),Y (.int (v_ c)),M,M,M]=Y (.int (((c.rows.map cA).length:Int)-1)):=rfl;rw[this,au,hn]
   congr 2
   omega
  have e2:=Tf (g:=eK (.int 0)) (j:=0) e1 rfl ⟨wN (by decide) (show (0:Int)<=(n:Int) by omega),rS (show (n:Int)<=1000000 by omega) (by decide),by decide,by decide⟩;unfold js;rw[e2,Int.sub_zero,bq];exact q1
 rw[e0];unfold pq;rw[aQ q0];unfold qX;rcases k with⟨⟨ρ,e⟩,kb⟩|⟨⟨xs,e⟩,kb⟩
 ·subst e;rw[aQ q2,kb];exact⟨.eJ,rfl,rfl⟩
 ·subst e;rw[kb];refine⟨.tup xs,?_,rfl⟩;unfold a_;rw[q2];rfl
theorem MZ{F:List D->Option D}:cO "Coming" "waits" F (eV 0) aN [Y (bw c),Y (.bl b)]=F [bw c]:=by kernel_rfl
theorem N3{F:List D->Option D}:e2 nL (be F (aC (eV 0) aN)) (eK .eJ) [Y (bw c),Y (.bl b)]=(F [bw c]).bind λx=>nL x .eJ:=by kernel_rfl
def Jg(c:fY)(a:Bool):D:=if a then .str (ab "sure") else if decide (oY c≠[])||qX c then .str (ab "open") else .str (ab "lost")
theorem C6(a:List Int):(yS a).map D.int=[]↔a=[]:=by
 rw[Bc];constructor
 ·intro h;have:=lJ a;rw[h]at this;exact vi this.symm
 ·intro h;rw[h];simp[yS]
theorem HE(c:fY)(sure:Bool)(h1:c.rests.length<=1000)(h2:c.rows.length<=500)(h3:(oY c).length<64)(hq:c.f.q.length<=1000)(h0:0<c.rows.length):l5 [bw c,.bl sure]=Y (Jg c sure):=by
 have hw:=ES c h1 h2 h3;obtain⟨d,hs,hd⟩:=Dx c hq h0 (by omega);show (nO [Y (bw c),Y (.bl sure)]).bind nC=_;unfold nO Jg;cases sure with
 |true=>rfl|false=>
  have q0:eW (eD (eV 1)) (eE (eK (.str (ab "sure")))) c9 [Y (bw c),Y (.bl Z_)]=Y (.nx [Y (bw c),Y (.bl Z_)]):=rfl;rw[aQ q0];have e1:eD (cO "Coming" "waits" dY (eV 0) aN) [Y (bw c),Y (.bl Z_)]=Y (decide (oY c≠[])):=by
   have:cO "Coming" "waits" dY (eV 0) aN [Y (bw c),Y (.bl Z_)]=dY [bw c]:=MZ;unfold eD;rw[this,hw];simp only[aa]
   congr 1
   by_cases h:oY c=[]
   ·rw[(C6 _).mpr h];simp[h]
   ·have h':((yS (oY c)).map D.int)≠[]:=λk=>h ((C6 _).mp k)
    cases hx:(yS (oY c)).map D.int with|nil=>exact absurd hx h'|cons=>simp[h]
  have e2:dk (e2 nL (be i7 (aC (eV 0) aN)) (eK .eJ)) [Y (bw c),Y (.bl Z_)]=Y (qX c):=by
   have:e2 nL (be i7 (aC (eV 0) aN)) (eK .eJ) [Y (bw c),Y (.bl Z_)]=(i7 [bw c]).bind λx=>nL x .eJ:=N3
   unfold dk;rw[this,hs];simp only[aa,hd]
  unfold a_ eW nJ;rw[e1];simp only[aa,e2];cases decide (oY c≠[])<;>cases qX c<;>rfl
end K21
namespace K21
open PySem L2
variable {a d:Int->Int->Int}
noncomputable def K7(x:rn):List rn->List rn
 |[]=>[x]|y::b=>if x.num<y.num then x::y::b else y::K7 x b
noncomputable def vu:List rn->List rn
 |[]=>[]|x::b=>K7 x (vu b)
theorem CA(x:rn):∀l,(K7 x l).Perm (x::l)
 |[] =>.rfl| y::b=>by
  unfold K7;split
  ·exact .rfl
  ·exact((CA x b).cons y).trans (.swap x y b)
theorem mr:∀l,(vu l).Perm l
 |[] =>.rfl|x::b=>(CA x (vu b)).trans ((mr b).cons x)
theorem Nh(x:rn):∀l:List rn,DU Rh (c_ x) (l.map c_)=(K7 x l).map c_
 |[]=>rfl| y::b=>by
  unfold K7;rw[bh,DU];show (if x.num<y.num then _ else _)=_;split
  ·rfl
  ·rw[Nh x b];rfl
theorem Ma:∀l:List rn,Hx Rh (l.map c_)=(vu l).map c_
 |[]=>rfl|x::b=>by rw[bh,Hx,Ma b,Nh];rfl
abbrev oR(r:cU):Option D:=Y (cA r)
noncomputable abbrev pj(m:rn):Bool:=m.own != 0||m.around != 0
def Bf(c:fY)(b:Nat)(r pr:cU)(m:rn):rn:=if m.place=b then yx c m r pr else m
theorem PK{F:List D->Option D}{f:Option D}{m:rn}:cO "Coming" "moved_out" F (eV 0) (aC (eV 5) (aC (eV 1) aN)) [Y (bw c),oR r,Y (.int n),f,e,Y (c_ m),b]=F [bw c,c_ m,cA r]:=by kernel_rfl
theorem NC{c:fY}{r pr:cU}(hp:c.rows.getLast? = Y pr)(m:rn)(place:Nat)(xs ks:List D)(hk:ks.length<ez)(a6:Option D):∃b6,
  fx [oC c,oR r,Y (.int place),Y (.lst xs),Y (.lst ks),Y (c_ m),a6]=Y (.nx [oC c,oR r,Y (.int place),Y (.lst xs),Y (.lst (ks++if pj (Bf c place r pr m) then [c_ (Bf c place r pr m)] else [])),Y (c_ m),b6]):=by
 refine⟨Y (c_ (Bf c place r pr m)),?_⟩;have q1:res [0,1] [] [oC c,oR r,Y (.int place),Y (.lst xs),Y (.lst ks),Y (c_ m),a6]=[Y (bw c),oR r,Y (.int place),Y (.lst xs),Y (.lst ks),Y (c_ m),a6]:=by kernel_rfl
 have q2:NF (dk (e2 fh (e2 cj (eV 5) (eK (.int 1))) (eV 2))) (cO "Coming" "moved_out" gI (eV 0) (aC (eV 5) (aC (eV 1) aN))) (eV 5) [Y (bw c),oR r,Y (.int place),Y (.lst xs),Y (.lst ks),Y (c_ m),a6]=Y (c_ (Bf c place r pr m)):=by
  have e1:dk (e2 fh (e2 cj (eV 5) (eK (.int 1))) (eV 2)) [Y (bw c),oR r,Y (.int place),Y (.lst xs),Y (.lst ks),Y (c_ m),a6]=Y (rG (.int m.place) (.int (place:Int))):=by kernel_rfl
  have e2:rG (.int m.place) (.int (place:Int))=decide (m.place=place):=by by_cases h:m.place=place<;>simp[rG,h]
  unfold NF;rw[e1,e2];simp only[aa];unfold Bf;by_cases h:m.place=place
  ·rw[decide_eq_true h,if_pos rfl,if_pos h,PK];exact DB c m r pr hp
  ·rw[decide_eq_false h,if_neg (by decide),if_neg h];rfl
 unfold fx;rw[aQ (gE (mT q1 q2 (by kernel_rfl)))];simp only[aZ,a9];generalize Bf c place r pr m=m';have q3:nJ (eD (e2 cj (eV 6) (eK (.int 2)))) (eD (e2 cj (eV 6) (eK (.int 3)))) [oC c,oR r,Y (.int place),Y (.lst xs),Y (.lst ks),Y (c_ m),Y (c_ m')]=Y (pj m'):=by
  have e1:eD (e2 cj (eV 6) (eK (.int 2))) [oC c,oR r,Y (.int place),Y (.lst xs),Y (.lst ks),Y (c_ m),Y (c_ m')]=Y (m'.own != 0):=by kernel_rfl
  have e2:eD (e2 cj (eV 6) (eK (.int 3))) [oC c,oR r,Y (.int place),Y (.lst xs),Y (.lst ks),Y (c_ m),Y (c_ m')]=Y (m'.around != 0):=by kernel_rfl
  unfold nJ pj;rw[e1,e2];cases (m'.own != 0)<;>rfl
 unfold eW;rw[q3];simp only[aa];cases pj m' with
 |true=>show (if ks.length<ez then _ else M)=_;rw[if_pos hk];rfl
 |false=>simp;rfl
theorem JF{c:fY}{r:cU}(s:c.rows.getLast? = Y k)(f:Nat)(j:List D):∀(l:List rn) (g:List D) (n i:Option D),g.length+l.length<ez->∃p o,
  gw (gN 5) fx (l.map c_) [oC c,oR r,Y (.int f),Y (.lst j),Y (.lst g),n,i]=Y (.nx [oC c,oR r,Y (.int f),Y (.lst j),Y (.lst (g++((l.map (Bf c f r k)).filter pj).map c_)),p,o])
 |[],g,n,i,h=>⟨n,i,by simp[gw]⟩
 |m::l,g,n,i,h=>by simp only[aO]at h;obtain⟨b,t⟩:=NC s m f j g (r:=r) (by omega) i;rw[bh,pL (ρ1:=[oC c,oR r,Y (.int f),Y (.lst j),Y (.lst g),Y (c_ m),i]) rfl t];obtain⟨p,o,q⟩:=JF s f j l (g++if pj (Bf c f r k m) then [c_ (Bf c f r k m)] else []) (Y (c_ m)) b (by split<;>simp<;>omega);refine⟨p,o,q.trans ?_⟩;simp only[bh];cases e:pj (Bf c f r k m)<;>simp[tG,e]
noncomputable def gm(c:fY):fY:={ c with rows:=c.rows.dropLast }
def mD(b:fY)(r:cU):List rn:=b.rests++if bA r.aR b.full != 0 then [] else [rn.mk r.number (b.rows.length:Int) b.full 0]
def xB(c:fY)(r b:cU):fY:={ gm c with rests:=((vu (mD (gm c) r)).map (Bf (gm c) (gm c).rows.length r b)).filter pj }
theorem Md{f:DF}{ρ:bZ}{b:List rn}(e:f ρ=Y (.lst (b.map c_)))(c:(b.map (·.num)).Nodup)(g:b.length<64):xw f ρ=Y ((vu b).map c_):=by
 unfold xw;rw[e];simp only[aa];rw[if_pos ⟨⟨by simp[nY,eC,V6,c_],by rw[EC];exact c⟩,by rw[au];exact g⟩,Ma]
theorem R9{c:fY}(b:c.rows.getLast? = Y r):Fj 1 0 "Coming" "rows" [oC c,M,M,M,M,M,M]=Y (.nx [oC { c with rows:=c.rows.dropLast },oR r,M,M,M,M,M]):=by
 have e:rE "Coming" "rows" 0 [oC c,M,M,M,M,M,M]=Y (n7,ck,cl c,D.lst (c.rows.map cA)):=by kernel_rfl
 unfold Fj;rw[e];simp only[aa];have f:(c.rows.map cA).getLast? = Y (.ins "Row" rk (rl r)):=by rw[List.getLast?_map,b];rfl
 rw[f];simp only[aa];rw[if_pos (by decide),<- List.map_dropLast];kernel_rfl
theorem Ig{c:fY}{r pr:cU}(hr:c.rows.getLast? = Y r)(hp:(gm c).rows.getLast? = Y pr)
  (hn:((mD (gm c) r).map (·.num)).Nodup) (hl:(mD (gm c) r).length<64) :
  gA [bw c]=Y (.eJ,bw (xB c r pr)):=by
 show (j6 [oC c,M,M,M,M,M,M]).bind (mW aF)=_;unfold j6;rw[aQ (R9 hr)];unfold xB;show (a_ _ _ [oC (gm c),oR r,M,M,M,M,M]).bind _=_;generalize gm c=c1 at *
 have hlr:c1.rests.length<64:=by unfold mD at hl;rw[aE]at hl;omega
 have q1:dr 2 (lx [0] [] (be hR (aC (bc "Coming" "rows" (eV 0)) aN))) [oC c1,oR r,M,M,M,M,M]=Y (.nx [oC c1,oR r,Y (.int (c1.rows.length:Int)),M,M,M,M]):=by
  have:lx [0] [] (be hR (aC (bc "Coming" "rows" (eV 0)) aN)) [oC c1,oR r,M,M,M,M,M]=Y (.int ((c1.rows.map cA).length:Int)):=by kernel_rfl
  rw[au]at this;rw[gE this];rfl
 rw[aQ q1];have q2:jS 3 (Gj (ri 0 "Coming" "rests")) [oC c1,oR r,Y (.int (c1.rows.length:Int)),M,M,M,M]=Y (.nx [oC c1,oR r,Y (.int (c1.rows.length:Int)),Y (.lst (c1.rests.map c_)),M,M,M]):=by kernel_rfl
 rw[aQ q2];have q3:eW (xY [0] [] (t5 (eD (e2 dm (bc "Row" "reached" (eV 1)) (bc "Coming" "full" (eV 0)))))) (pV 3 (lx [0] [] (gS (aC (bc "Row" "number" (eV 1)) (aC (eV 2) (aC (bc "Coming" "full" (eV 0)) (aC (eK (.int 0)) aN))))))) c9 [oC c1,oR r,Y (.int (c1.rows.length:Int)),Y (.lst (c1.rests.map c_)),M,M,M]=Y (.nx [oC c1,oR r,Y (.int (c1.rows.length:Int)),Y (.lst ((mD c1 r).map c_)),M,M,M]):=by
  have e1:xY [0] [] (t5 (eD (e2 dm (bc "Row" "reached" (eV 1)) (bc "Coming" "full" (eV 0))))) [oC c1,oR r,Y (.int (c1.rows.length:Int)),Y (.lst (c1.rests.map c_)),M,M,M]=Y (!(bA r.aR c1.full != 0)):=by kernel_rfl
  unfold eW mD;rw[e1];simp only[aa];cases bA r.aR c1.full != 0 with
  |true=>simp;rfl|false=>
   have e2:lx [0] [] (gS (aC (bc "Row" "number" (eV 1)) (aC (eV 2) (aC (bc "Coming" "full" (eV 0)) (aC (eK (.int 0)) aN))))) [oC c1,oR r,Y (.int (c1.rows.length:Int)),Y (.lst (c1.rests.map c_)),M,M,M]=Y (c_ (rn.mk r.number (c1.rows.length:Int) c1.full 0)):=by kernel_rfl
   simp only[Bool.not_false,if_true];unfold pV;rw[e2];show (if (c1.rests.map c_).length<ez then _ else M)=_;rw[if_pos (i_ (by rw[au];omega))];simp
 rw[aQ q3];generalize mD c1 r=ms at *
 have q4:jS 4 (fX aN) [oC c1,oR r,Y (.int (c1.rows.length:Int)),Y (.lst (ms.map c_)),M,M,M]=Y (.nx [oC c1,oR r,Y (.int (c1.rows.length:Int)),Y (.lst (ms.map c_)),Y (.lst []),M,M]):=by kernel_rfl
 rw[aQ q4];obtain⟨b5,b6,q5⟩:=JF (r:=r) hp c1.rows.length (ms.map c_) (vu ms) [] M M (i_ (by rw[(mr ms).length_eq];simp;omega));have q6:js (iL (eF (xw (eV 3)))) (gN 5) fx [oC c1,oR r,Y (.int (c1.rows.length:Int)),Y (.lst (ms.map c_)),Y (.lst []),M,M]=gw (gN 5) fx ((vu ms).map c_) [oC c1,oR r,Y (.int (c1.rows.length:Int)),Y (.lst (ms.map c_)),Y (.lst []),M,M]:=by have e1:=Md (f:=eV 3) (ρ:=[oC c1,oR r,Y (.int (c1.rows.length:Int)),Y (.lst (ms.map c_)),Y (.lst []),M,M]) rfl hn hl;unfold js iL eF;rw[e1];rfl
 rw[aQ (q6.trans q5)];simp only[c6];generalize ((vu ms).map (Bf c1 c1.rows.length r pr)).filter pj=kept;kernel_rfl
end K21
namespace K21
open PySem L2
variable {fit lift:Int->Int->Int}
inductive vk
 |op (n:aG)
 |tx (t:aG)
 |cl
noncomputable def fP:vk->D
 |.op n =>.tup [.str (ab "open"),.str n]|.tx t =>.tup [.str (ab "text"),.str t]|.cl =>.tup [.str (ab "close")]
noncomputable def N0(s:vk)(w b:Bool):Bool:=match s with|.op _=>w || !b|_=>w
theorem Ua(s:vk)(w b:Bool):mE [fP s,.bl w,.bl b]=Y (.bl (N0 s w b)):=by
 cases s<;>cases w<;>cases b<;>kernel_rfl
theorem Lu{F:List D->Option D}{c:fY}{s:D}:be F (aC (eV 1) (aC (e2 vj (be hR (aC (bc "Coming" "rows" (eV 0)) aN)) (eK (.int 1))) (aC (e2 vj (bc "Coming" "opened" (eV 0)) (eK (.int 0))) aN))) [Y (bw c),Y s]=F [s,.bl (decide (1<((c.rows.map cA).length:Int))),.bl (decide (0<c.opened))]:=by kernel_rfl
abbrev Np(c:fY)(s:vk):Bool:=N0 s (decide (1<c.rows.length)) (decide (0<c.opened))
theorem uV{c:fY}{s:vk}(h:Np c s=Z'):eW (xY [0] [] (t5 (eD (be mE (aC (eV 1) (aC (e2 vj (be hR (aC (bc "Coming" "rows" (eV 0)) aN)) (eK (.int 1))) (aC (e2 vj (bc "Coming" "opened" (eV 0)) (eK (.int 0))) aN))))))) Dd c9 [oC c,Y (fP s)]=Y (.nx [oC c,Y (fP s)]):=by
 have a:res [0] [] [oC c,Y (fP s)]=[Y (bw c),Y (fP s)]:=rfl;have d:decide (1<((c.rows.map cA).length:Int))=decide (1<c.rows.length):=by
  rw[au];by_cases h:1<c.rows.length
  ·rw[decide_eq_true h,decide_eq_true (by omega)]
  ·rw[decide_eq_false h,decide_eq_false (by omega)]
 have b:xY [0] [] (t5 (eD (be mE (aC (eV 1) (aC (e2 vj (be hR (aC (bc "Coming" "rows" (eV 0)) aN)) (eK (.int 1))) (aC (e2 vj (bc "Coming" "opened" (eV 0)) (eK (.int 0))) aN)))))) [oC c,Y (fP s)]=Y false:=by refine qp a ?_;unfold t5 eD;rw[Lu,d,Ua,show N0 s _ _=Z' from h];rfl
 unfold eW;rw[b];rfl
noncomputable def gU(c:fY):fY:={ c with taken:=c.taken+1 }
theorem uU(c:fY)(s:vk):d8 Z_ 0 "Coming" "taken" (λi j=>i+j) (eK (.int 1)) [oC c,Y (fP s)]=Y (.nx [oC (gU c),Y (fP s)]):=by
 cases s<;>kernel_rfl
theorem AD{F:List D->Option (D×D)}{m:aG}{s:vk}(b:m∉ck)(h:F [bw c]=Y (d,bw a)):bU "Coming" m aF F 0 kl [oC c,Y (fP s)]=Y (d,[oC a,Y (fP s)]):=by
 have:bU "Coming" m aF F 0 kl [oC c,Y (fP s)]=if (("Coming" : aG) = "Coming" /\("Coming" : aG) = "Coming")/\m∉ck then (F [bw c]).map λr=>(r.1,(c8 0 [oC c,Y (fP s)]).set 0 (Y (.obj aF r.2))) else none:=rfl
 rw[this,if_pos ⟨⟨rfl,rfl⟩,b⟩,h];cases s<;>rfl
theorem JR(c:fY)(s:vk):dk (e2 fh (e2 cj (eV 1) (eK (.int 0))) (eK (.str (ab "close")))) [oC c,Y (fP s)]=Y (match s with|.cl=>Z'|_=>Z_):=by cases s<;>kernel_rfl
theorem MJ(c:fY)(s:vk):dk (e2 fh (e2 cj (eV 1) (eK (.int 0))) (eK (.str (ab "open")))) [oC c,Y (fP s)]=Y (match s with|.op _=>Z'|_=>Z_):=by cases s<;>kernel_rfl
theorem RV(e:g b=Y (.rm d a)):a_ g h b=Y (.rm d a):=by unfold a_;rw[e];rfl
theorem Ib{c:fY}{r pr:cU}(h:Np c .cl=Z')(d:c.rows.getLast? = Y r)(e:(gm c).rows.getLast? = Y pr)(f:((mD (gm c) r).map (·.num)).Nodup)(g:(mD (gm c) r).length<64):
  fF [bw c,fP .cl]=Y (.lst [],bw (xB (gU c) r pr)):=by
 show (gf [oC c,Y (fP .cl)]).bind (mW aF)=_;unfold gf;rw[aQ (uV h),aQ (uU c _)];have i:=Ig (c:=gU c) d e f g;generalize xB (gU c) r pr=a at *
 generalize gU c=b at *
 have q:eW (dk (e2 fh (e2 cj (eV 1) (eK (.int 0))) (eK (.str (ab "close"))))) (a_ (dS (bU "Coming" "end_row" aF gA 0 kl)) (dI (mP (eF (fX aN))))) c9 [oC b,Y (fP .cl)]=Y (.rm (.lst []) [oC a,Y (fP .cl)]):=by
  unfold eW;rw[JR];simp only[aa,if_true];have:dS (bU "Coming" "end_row" aF gA 0 kl) [oC b,Y (fP .cl)]=Y (.nx [oC a,Y (fP .cl)]):=by unfold dS;rw[AD (by decide) i];rfl
  rw[aQ this];rfl
 rw[RV q];kernel_rfl
structure WY(f:wF)(L9 txt:aG->Int):Prop where
 L9:∀n,eS [fO f,.str n]=some (.int (L9 n))
 txt:∀t,eR [fO f,.str t]=some (.int (txt t))
theorem ON{F:List D->Option D}{c:fY}:lx [0] [] (cO "Facts" "steps_for" F (bc "Coming" "facts" (eV 0)) (aC (e2 cj (eV 1) (eK (.int 1))) aN)) [oC c,Y (fP (.op n))]=(F [fO c.f,.str n]).bind λd=>if si d=Z' then Y d else none:=by kernel_rfl
theorem OG{F:List D->Option D}{c:fY}:lx [0] [] (cO "Facts" "text_fact" F (bc "Coming" "facts" (eV 0)) (aC (e2 cj (eV 1) (eK (.int 1))) aN)) [oC c,Y (fP (.tx n))]=(F [fO c.f,.str n]).bind λd=>if si d=Z' then Y d else none:=by kernel_rfl
theorem Iq{F:List D->Option (D×D)}{c:fY}{s:vk}(d:a [oC c,Y (fP s)]=Y (.int n))(h:F [bw c,.int c.opened,.int n,.int 0]=Y (.eJ,bw b)):
  dS (bU "Coming" "begin_row" aF F 0 (jn (mP (lx [0] [] (bc "Coming" "opened" (eV 0)))) (jn (mP a) (jn (mP (eK (.int 0))) kl)))) [oC c,Y (fP s)]=Y (.nx [oC b,Y (fP s)]):=by
 have i:lx [0] [] (bc "Coming" "opened" (eV 0)) [oC c,Y (fP s)]=Y (.int c.opened):=by kernel_rfl
 have e:jn (mP (lx [0] [] (bc "Coming" "opened" (eV 0)))) (jn (mP a) (jn (mP (eK (.int 0))) kl)) [oC c,Y (fP s)]=Y ([.int c.opened,.int n,.int 0],[oC c,Y (fP s)]):=by unfold jn mP;simp only[i,d,bI,aa];rfl
 unfold dS;have:∀g:Ka,bU "Coming" "begin_row" aF F 0 g [oC c,Y (fP s)]=(g [oC c,Y (fP s)]).bind λq=>(j8 aF 0 q.2).bind λt=>(F (t::q.1)).map λr=>(r.1,(c8 0 q.2).set 0 (Y (.obj aF r.2))):=by intro g;kernel_rfl
 rw[this,e];simp only[aa];have f:j8 aF 0 [oC c,Y (fP s)]=Y (bw c):=by kernel_rfl
 rw[f];simp only[aa,h];cases s<;>rfl
theorem N7{F:List D->Option (D×D)}{s:vk}(d:a [oC c,Y (fP s)]=Y (.int n))(h:F [bw c,.int n]=Y (.eJ,bw b)):
  dS (bU "Coming" "add_atoms" aF F 0 (jn (mP a) kl)) [oC c,Y (fP s)]=Y (.nx [oC b,Y (fP s)]):=by
 have e:jn (mP a) kl [oC c,Y (fP s)]=Y ([.int n],[oC c,Y (fP s)]):=by unfold jn mP;simp only[d,bI,aa];rfl
 unfold dS;have:∀g:Ka,bU "Coming" "add_atoms" aF F 0 g [oC c,Y (fP s)]=(g [oC c,Y (fP s)]).bind λq=>(j8 aF 0 q.2).bind λt=>(F (t::q.1)).map λr=>(r.1,(c8 0 q.2).set 0 (Y (.obj aF r.2))):=by intro g;kernel_rfl
 rw[this,e];simp only[aa];have f:j8 aF 0 [oC c,Y (fP s)]=Y (bw c):=by kernel_rfl
 rw[f];simp only[aa,h];cases s<;>rfl
theorem CJ{F:List D->Option (D×D)}{s:vk}(h:F [bw c]=Y (d,bw a)):(dI (bU "Coming" "newly_told" aF F 0 kl) [oC c,Y (fP s)]).bind (mW aF)=Y (d,bw a):=by
 unfold dI;rw[AD (by decide) h];kernel_rfl
theorem Ct{c:fY}{s:vk}(h:(match s with|.cl=>Z'|_=>Z_)=Z_)(g:DG):eW (dk (e2 fh (e2 cj (eV 1) (eK (.int 0))) (eK (.str (ab "close"))))) g c9 [oC c,Y (fP s)]=Y (.nx [oC c,Y (fP s)]):=by
 unfold eW;rw[JR,h];rfl
def FG(fit lift:Int->Int->Int)(c:fY)(b:Int)(pr:cU):fY:=
 let a:=c.rows++[AY fit c c.opened b 0 pr]
 { c with opened:=c.opened+1,rows:=r_ fit lift Z' (a.length-1) a }
theorem Lc{c:fY}{f:aG->Int}(q:QI c.f fit lift)(v:WY c.f a f){n:aG}{pr:cU}(t:Np c (.op n)=Z')(s:c.rows.getLast? = Y pr)(u:(bA (bO pr.cv (bA pr.ha c.f.inner)) (bA (a n) c.able)).natAbs<2 ^ 64)(w:c.rows.length<1000)(r:dH [bw (FG fit lift (gU c) (a n) pr)]=Y (d,bw p)):fF [bw c,fP (.op n)]=Y (d,bw p):=by
 show (gf [oC c,Y (fP (.op n))]).bind (mW aF)=_;unfold gf;rw[aQ (uV t),aQ (uU c _),aQ (Ct rfl _)];have m:=Ek (c:=gU c) (fit:=fit) (lift:=lift) q (pr:=pr) s c.opened (a n) 0 u (i_ (by show c.rows.length<2000;omega));have h:=Cg (c:={ gU c with opened:=(gU c).opened+1,rows:=(gU c).rows++[AY fit (gU c) c.opened (a n) 0 pr] }) (fit:=fit) (lift:=lift) q (by simp) (by simp[gU];omega);have g:lx [0] [] (cO "Facts" "steps_for" eS (bc "Coming" "facts" (eV 0)) (aC (e2 cj (eV 1) (eK (.int 1))) aN)) [oC (gU c),Y (fP (.op n))]=Y (.int (a n)):=by rw[ON];rw[show eS [fO (gU c).f,.str n]=_ from v.L9 n];rfl
 have b:=Iq (s :=.op n) g m;have e:d8 Z_ 0 "Coming" "opened" (λi j=>i+j) (eK (.int 1)) [oC { gU c with rows:=(gU c).rows++[AY fit (gU c) c.opened (a n) 0 pr] },Y (fP (.op n))]=Y (.nx [oC { gU c with opened:=(gU c).opened+1,rows:=(gU c).rows++[AY fit (gU c) c.opened (a n) 0 pr] },Y (fP (.op n))]):=by kernel_rfl
 have l:dS (bU "Coming" "spread" aF dE 0 kl) [oC { gU c with opened:=(gU c).opened+1,rows:=(gU c).rows++[AY fit (gU c) c.opened (a n) 0 pr] },Y (fP (.op n))]=Y (.nx [oC (FG fit lift (gU c) (a n) pr),Y (fP (.op n))]):=by unfold dS;rw[AD (by decide) h];rfl
 have k:∀o,eW (dk (e2 fh (e2 cj (eV 1) (eK (.int 0))) (eK (.str (ab "open"))))) (a_ (dS (bU "Coming" "begin_row" aF gK 0 (jn (mP (lx [0] [] (bc "Coming" "opened" (eV 0)))) (jn (mP (lx [0] [] (cO "Facts" "steps_for" eS (bc "Coming" "facts" (eV 0)) (aC (e2 cj (eV 1) (eK (.int 1))) aN)))) (jn (mP (eK (.int 0))) kl))))) (a_ (d8 Z_ 0 "Coming" "opened" (λi j=>i+j) (eK (.int 1))) (dS (bU "Coming" "spread" aF dE 0 kl)))) o [oC (gU c),Y (fP (.op n))]=Y (.nx [oC (FG fit lift (gU c) (a n) pr),Y (fP (.op n))]):=by intro o;unfold eW;rw[MJ];simp only[aa,if_true];rw[aQ b,aQ e,l]
 rw[aQ (k _)];exact CJ r
theorem Lb{c:fY}{f:aG->Int}(o:QI c.f fit lift)(n:WY c.f f a){t:aG}{r:cU}(m:Np c (.tx t)=Z')(l:c.rows[c.rows.length-1]?=Y r)(p:c.rows.length<1000)(k:dH [bw (wz fit lift (gU c) (a t) r)]=Y (d,bw j)):fF [bw c,fP (.tx t)]=Y (d,bw j):=by
 show (gf [oC c,Y (fP (.tx t))]).bind (mW aF)=_;unfold gf;rw[aQ (uV m),aQ (uU c _),aQ (Ct rfl _)];have e:=Eo (c:=gU c) (fit:=fit) (lift:=lift) o (r:=r) l (by show c.rows.length<1000000;omega) (a t);have g:lx [0] [] (cO "Facts" "text_fact" eR (bc "Coming" "facts" (eV 0)) (aC (e2 cj (eV 1) (eK (.int 1))) aN)) [oC (gU c),Y (fP (.tx t))]=Y (.int (a t)):=by rw[OG];rw[show eR [fO (gU c).f,.str t]=_ from n.txt t];rfl
 have b:=N7 (s :=.tx t) g e;have h:∀i,eW (dk (e2 fh (e2 cj (eV 1) (eK (.int 0))) (eK (.str (ab "open"))))) i (dS (bU "Coming" "add_atoms" aF gL 0 (jn (mP (lx [0] [] (cO "Facts" "text_fact" eR (bc "Coming" "facts" (eV 0)) (aC (e2 cj (eV 1) (eK (.int 1))) aN)))) kl))) [oC (gU c),Y (fP (.tx t))]=Y (.nx [oC (wz fit lift (gU c) (a t) r),Y (fP (.tx t))]):=by intro i;unfold eW;rw[MJ];simp only[aa,dQ,if_false];exact b
 rw[aQ (h _)];exact CJ k
end K21
namespace K21
open PySem L2
def hG(c:fY)(ns:List Int):D :=.ins "Sift" ["coming", "numbers"] [bw c,.lst (ns.map D.int)]
abbrev oS(c:fY)(ns:List Int):Option D:=Y (.obj dF (hG c ns))
theorem Ho{F:List D->Option (D×D)}{a:List Int}{s:vk}:lu 2 (qD "Sift" "coming" "Coming" "feed" aF F 0 (aC (eV 1) aN)) [oS c a,Y (fP s),M]=(F [bw c,fP s]).map λr =>.nx [Y (.obj dF (.ins "Sift" ["coming", "numbers"] [r.2,.lst (a.map D.int)])),Y (fP s),Y r.1]:=by
 have e:qD "Sift" "coming" "Coming" "feed" aF F 0 (aC (eV 1) aN) [oS c a,Y (fP s),M]=(F [bw c,fP s]).map λr=>(r.1,[Y (.obj dF (.ins "Sift" ["coming", "numbers"] [r.2,.lst (a.map D.int)])),Y (fP s),M]):=by cases s<;>kernel_rfl
 unfold lu;rw[e];cases F [bw c,fP s]<;>rfl
theorem zP:∀a:List Int,qB (a.map D.int)=Z'
 |[]=>rfl|n::a=>by rw[bh,qB,zP a];rfl
theorem OI{ns a:List Int}{s:vk}(h:fF [bw c,fP s]=Y (.lst (a.map D.int),bw b))(d:(ns++a).length<64):
  m5 [hG c ns,fP s]=Y (.lst (a.map D.int),hG b (yS (ns++a))):=by
 show (pw [oS c ns,Y (fP s),M]).bind (mW dF)=_;unfold pw;have k:lu 2 (qD "Sift" "coming" "Coming" "feed" aF fF 0 (aC (eV 1) aN)) [oS c ns,Y (fP s),M]=Y (.nx [oS b ns,Y (fP s),Y (.lst (a.map D.int))]):=by rw[Ho,h];rfl
 rw[aQ k];have j:res [0] [] [oS b ns,Y (fP s),Y (.lst (a.map D.int))]=[Y (hG b ns),Y (fP s),Y (.lst (a.map D.int))]:=rfl;have i:e2 gu (bc "Sift" "numbers" (eV 0)) (eV 2) [Y (hG b ns),Y (fP s),Y (.lst (a.map D.int))]=Y (.lst ((ns++a).map D.int)):=by
  have:e2 gu (bc "Sift" "numbers" (eV 0)) (eV 2) [Y (hG b ns),Y (fP s),Y (.lst (a.map D.int))]=gu (.lst (ns.map D.int)) (.lst (a.map D.int)):=by kernel_rfl
  rw[this];simp only[gu];rw[if_pos (by have:=i_ (n:=(ns.map D.int).length+(a.map D.int).length) (by simp only[au];rw[aE]at d;omega);omega),cm]
 have g:=zl i d;have f:UP [0] [] (lU (e2 gu (bc "Sift" "numbers" (eV 0)) (eV 2))) [oS b ns,Y (fP s),Y (.lst (a.map D.int))]=Y ((yS (ns++a)).map D.int):=by unfold UP;rw[j,g];simp only[aa];rw[if_pos (zP _)]
 have e:eI Z_ 0 "Sift" "numbers" (eF (UP [0] [] (lU (e2 gu (bc "Sift" "numbers" (eV 0)) (eV 2))))) [oS b ns,Y (fP s),Y (.lst (a.map D.int))]=Y (.nx [oS b (yS (ns++a)),Y (fP s),Y (.lst (a.map D.int))]):=by unfold eI eF;rw[f];kernel_rfl
 rw[aQ e];kernel_rfl
theorem OH(c:fY)(a:List Int):pA [hG c a]=Y (.lst (a.map D.int)):=by kernel_rfl
theorem ET{F:List D->Option D}{m:aG}(h:m∉ck):cO "Coming" m F (bc "Sift" "coming" (eV 0)) aN [Y (hG c a)]=F [bw c]:=by
 have:cO "Coming" m F (bc "Sift" "coming" (eV 0)) aN [Y (hG c a)]=if ("Coming" : aG) = "Coming" /\m∉ck then F [bw c] else none:=rfl
 rw[this,if_pos ⟨rfl,h⟩]
theorem Hk(c:fY)(a:List Int)(h:dY [bw c]=Y d):iM [hG c a]=Y d:=by
 show (lP [Y (hG c a)]).bind nC=_;unfold lP eE;rw[ET (by decide),h];rfl
theorem Po(c:fY)(a:List Int)(h:gJ [bw c]=Y d):iO [hG c a]=Y d:=by
 show (lR [Y (hG c a)]).bind nC=_;unfold lR eE;rw[ET (by decide),h];rfl
theorem PB(c:fY)(a:List Int)(h:c.taken≠0):gH [hG c a]=Y .eJ:=by
 show (ja [Y (hG c a)]).bind nC=_;unfold ja eW;have:dk (e2 fh (bc "Coming" "taken" (bc "Sift" "coming" (eV 0))) (eK (.int 0))) [Y (hG c a)]=Y (rG (.int c.taken) (.int 0)):=by kernel_rfl
 rw[this,show rG (.int c.taken) (.int 0)=Z_ by simp[rG,h]];rfl
theorem M7{F:List D->Option D}{a:List Int}:be F (aC (bc "Sift" "coming" (eV 0)) (aC (e2 vj (be hR (aC (bc "Sift" "numbers" (eV 0)) aN)) (eK (.int 0))) aN)) [Y (hG c a)]=F [bw c,.bl (decide (0<((a.map D.int).length:Int)))]:=by kernel_rfl
theorem PV(c:fY)(a:List Int)(h:c.taken≠0)(f:l5 [bw c,.bl (decide (a≠[]))]=Y d):iN [hG c a]=Y d:=by
 show (lQ [Y (hG c a)]).bind nC=_;unfold lQ;have b:dS (mP (cO "Sift" "need_a_sign" gH (eV 0) aN)) [Y (hG c a)]=Y (.nx [Y (hG c a)]):=by
  have:∀F,cO "Sift" "need_a_sign" F (eV 0) aN [Y (hG c a)]=F [hG c a]:=by intro F;kernel_rfl
  unfold dS mP;rw[this,PB c a h];rfl
 rw[aQ b];unfold eE;have e:decide (0<((a.map D.int).length:Int))=decide (a≠[]):=by cases a<;>simp<;>omega
 rw[M7,e,f];rfl
def mf:Nat->D->Prop
 |0,_=>False|n+1,d=>∃a e,d=.tup [.int a,.lst e]/\0<=a/\e.length<=1000/\∀c∈e,∃b,c=.lst b/\b.length<=1000/\∀x∈b,mf n x
def iV:Nat->D->Int->Bool
 |n+1,.tup [.int b,.lst e],a=>(bA a b==b)&&e.all λc=>match c with|.lst d=>d.any λx=>iV n x a|_=>Z_
 |_,_,_=>Z_
theorem sv:∀(b:List D),(∀d∈b,∃a,gN 0 d c=Y a/\e a=Y (g d))->BL c (gN 0) iC e b=Y (b.map g)
 |[],_=>rfl|d::b,h=>by obtain⟨a,j,i⟩:=h d (ay ..);rw[BL,j];simp only[aa,iC,if_true,i];rw[sv b λx f=>h x (av _ f)];rfl
theorem Ql(x y:Int):rG (.int x) (.int y)=(x==y):=by simp[rG]
theorem Iw{a:List D}{f:D->Bool}:gP Z' [.lst (a.map λd =>.bl (f d))]=Y (.bl (a.all f)):=by
 simp only[gP];rw[if_pos (by simp[nY,eC,Ng])];simp[nY,eC,wt]
theorem N6{a:List D}{f:D->Bool}:gP Z_ [.lst (a.map λd =>.bl (f d))]=Y (.bl (a.any f)):=by
 simp only[gP];rw[if_pos (by simp[nY,eC,Ng])];simp[List.any_map,eC,wt]
theorem u4{f:DL}(e:f a=Y b):be G (aC (eF f) aN) a=G [.lst b]:=by
 unfold be aC eF;rw[e];rfl
theorem M1{F:List D->Option D}{b:List D}(f:b.length<=1000)(h:∀x∈b,F [x,.int a]=Y (.bl (g x))):
  be (gP Z_) (aC (eF (o6 (iL (eV 0)) [M,Y 1] (gN 0) iC (be F (aC (eV 0) (aC (eV 1) aN))))) aN) [Y (.lst b),Y (.int a)]=Y (.bl (b.any g)):=by
 have e:o6 (iL (eV 0)) [M,Y 1] (gN 0) iC (be F (aC (eV 0) (aC (eV 1) aN))) [Y (.lst b),Y (.int a)]=Y (b.map λx =>.bl (g x)):=by unfold o6;show (if b.length<=ez then BL [M,Y (.int a)] (gN 0) iC (be F (aC (eV 0) (aC (eV 1) aN))) b else M)=_;rw[if_pos (ic (i_ (by omega)))];exact sv b λd c=>⟨[Y d,Y (.int a)],rfl,h d c⟩
 rw[u4 e];exact N6
theorem F5:∀(n m:Nat) (d:D) (a:Int),n<=m->mf n d->kF m [d,.int a]=Y (.bl (iV n d a))
 |0,_,_,_,_,h=>h.elim|n+1,0,_,_,hm,_=>by omega
 | n+1,m+1,d,a,hm,h=>by
  obtain⟨sR,cs,rfl,hn,hl,hc⟩:=h;show (sZ (kF m) [Y (.tup [.int sR,.lst cs]),Y (.int a)]).bind nC=_;unfold sZ;have ih:∀x,mf n x->kF m [x,.int a]=Y (.bl (iV n x a)):=λx hx=>F5 n m x a (by omega) hx
  generalize kF m=F at *
  have e1:dk (e2 vK (e2 dm (eV 1) (e2 cj (eV 0) (eK (.int 0)))) (e2 cj (eV 0) (eK (.int 0)))) [Y (.tup [.int sR,.lst cs]),Y (.int a)]=Y (!(bA a sR==sR)):=by
   have:dk (e2 vK (e2 dm (eV 1) (e2 cj (eV 0) (eK (.int 0)))) (e2 cj (eV 0) (eK (.int 0)))) [Y (.tup [.int sR,.lst cs]),Y (.int a)]=Y (!rG (.int (bA a sR)) (.int sR)):=by kernel_rfl
   rw[this,Ql]
  simp only[iV];cases hx:(bA a sR==sR) with
  |false=>
   rw[hx]at e1;have:∀h,a_ (eW (dk (e2 vK (e2 dm (eV 1) (e2 cj (eV 0) (eK (.int 0)))) (e2 cj (eV 0) (eK (.int 0))))) (eE (eK (.bl Z_))) c9) h [Y (.tup [.int sR,.lst cs]),Y (.int a)]=Y (.rt (.bl Z_)):=by intro h;unfold a_ eW;rw[e1];rfl
   rw[this];rfl
  |true=>
   rw[hx]at e1;have:eW (dk (e2 vK (e2 dm (eV 1) (e2 cj (eV 0) (eK (.int 0)))) (e2 cj (eV 0) (eK (.int 0))))) (eE (eK (.bl Z_))) c9 [Y (.tup [.int sR,.lst cs]),Y (.int a)]=Y (.nx [Y (.tup [.int sR,.lst cs]),Y (.int a)]):=by unfold eW;rw[e1];rfl
   rw[aQ this];have e2:o6 (iL (e2 cj (eV 0) (eK (.int 1)))) [M,Y 1] (gN 0) iC (be (gP Z_) (aC (eF (o6 (iL (eV 0)) [M,Y 1] (gN 0) iC (be F (aC (eV 0) (aC (eV 1) aN))))) aN)) [Y (.tup [.int sR,.lst cs]),Y (.int a)]=Y (cs.map λc =>.bl (match c with|.lst xs=>xs.any λx=>iV n x a|_=>Z_)):=by
    unfold o6;show (if cs.length<=ez then BL [M,Y (.int a)] (gN 0) iC _ cs else M)=_;rw[if_pos (ic (i_ (by omega)))];refine sv cs λc Xq=>⟨[Y c,Y (.int a)],rfl,?_⟩
    obtain⟨xs,rfl,hxl,hxs⟩:=hc c Xq;exact M1 hxl λx hx=>ih x (hxs x hx)
   unfold eE;rw[u4 e2,Iw];rfl
def M8(n:Nat)(named atoms:Int)(b:Int):List (Int×D)->Int
 |[]=>b|(a,ask)::r=>M8 n named atoms (if bA named a != 0&&iV n ask atoms then bO b a else b) r
noncomputable def Ji(p:Int×D):D :=.tup [.int p.1,p.2]
theorem Jc{d:D}{a:Int}(b:n<=12)(h:mf n d):tu [d,.int a]=Y (.bl (iV n d a)):=F5 n 12 d a b h
theorem JQ{F:List D->Option D}{x:Int}{d:D}{a:Int}{f:DF}(k:eD e c=Y (x != 0))(i:f c=Y d)(h:g c=Y (.int a))(j:F [d,.int a]=Y (.bl b)):fV (eD e) (eD (be F (aC f (aC g aN)))) c=Y (x != 0&&b):=by
 have l:eD (be F (aC f (aC g aN))) c=Y b:=by unfold eD be aC;rw[i,h];show ((F [d,.int a]).bind _)=_;rw[j];rfl
 unfold fV;rw[k,l];cases (x != 0)<;>rfl
theorem F7(k:n<=12)(self:D)(b a:Int):∀(e:List (Int×D)) (d:Int) (g f:Option D),(∀p∈e,mf n p.2)->∃j i,
  gw (D6 4 5) gx (e.map Ji) [Y self,Y (.int b),Y (.int a),Y (.int d),g,f]=Y (.nx [Y self,Y (.int b),Y (.int a),Y (.int (M8 n b a d e)),j,i])
 |[],d,g,f,_=>⟨g,f,rfl⟩| (c,ask)::e,d,g,f,h=>by
  have m:=Jc (a:=a) k (h _ (ay ..));have o:gx [Y self,Y (.int b),Y (.int a),Y (.int d),Y (.int c),Y ask]=Y (.nx [Y self,Y (.int b),Y (.int a),Y (.int (if bA b c != 0&&iV n ask a then bO d c else d)),Y (.int c),Y ask]):=by unfold gx eW;rw[JQ (x:=bA b c) (d:=ask) (a:=a) rfl rfl rfl m];simp only[aa];cases (bA b c != 0&&iV n ask a)<;>rfl
  rw[bh,pL (ρ1:=[Y self,Y (.int b),Y (.int a),Y (.int d),Y (.int c),Y ask]) rfl o];obtain⟨j,i,q⟩:=F7 k self b a e (if bA b c != 0&&iV n ask a then bO d c else d) (Y (.int c)) (Y ask) (λp l=>h p (av _ l));exact⟨j,i,q.trans rfl⟩
theorem KR{f:wF}{n:Nat}(g:n<=12){c:List (Int×D)}(e:f.da=c.map Ji)(h:∀p∈c,mf n p.2)(b a:Int):iP [fO f,.int b,.int a]=Y (.int (M8 n b a (bA a f.inner) c)):=by
 show (lS [Y (fO f),Y (.int b),Y (.int a),M,M,M]).bind nC=_;unfold lS;rw[aQ (gE (d :=.int (bA a f.inner)) (by kernel_rfl))];simp only[aZ,a9];obtain⟨j,i,q⟩:=F7 g (fO f) b a c (bA a f.inner) M M h;have d:js (iL (bc "Facts" "leads" (eV 0))) (D6 4 5) gx [Y (fO f),Y (.int b),Y (.int a),Y (.int (bA a f.inner)),M,M]=gw (D6 4 5) gx (c.map Ji) [Y (fO f),Y (.int b),Y (.int a),Y (.int (bA a f.inner)),M,M]:=by
  have:iL (bc "Facts" "leads" (eV 0)) [Y (fO f),Y (.int b),Y (.int a),Y (.int (bA a f.inner)),M,M]=Y f.da:=by kernel_rfl
  unfold js;rw[this,e];rfl
 rw[aQ (d.trans q)];rfl
def Gi(n:Nat)(named atoms:Int):Nat->Int->List D->Int
 |_,a,[]=>a|k,a,ask::r=>Gi n named atoms (k+1) (if bA named (2 ^ k) != 0&&iV n ask atoms then bO a (2 ^ k) else a) r
theorem Jy(m:n<=12)(self:D)(b a:Int):∀(e:List D) (k:Nat) (c:Int) (g f d:Option D),(∀p∈e,mf n p)->k+e.length<=1000->∃l j i,
  gw (D6 4 5) fT ((e.zipIdx k).map λp =>.tup [.int (p.2:Nat),p.1]) [Y self,Y (.int b),Y (.int a),Y (.int c),g,f,d]=Y (.nx [Y self,Y (.int b),Y (.int a),Y (.int (Gi n b a k c e)),l,j,i])
 |[],k,c,g,f,d,_,_=>⟨g,f,d,rfl⟩| ask::e,k,c,g,f,d,h,s=>by
  simp only[aO]at s;have r:=Jc (a:=a) m (h _ (ay ..));have t:fT [Y self,Y (.int b),Y (.int a),Y (.int c),Y (.int (k:Nat)),Y ask,d]=Y (.nx [Y self,Y (.int b),Y (.int a),Y (.int (if bA b (2 ^ k) != 0&&iV n ask a then bO c (2 ^ k) else c)),Y (.int (k:Nat)),Y ask,Y (.int (2 ^ k))]):=by
   unfold fT;have u:dr 6 (e2 kB (eK (.int 1)) (eV 4)) [Y self,Y (.int b),Y (.int a),Y (.int c),Y (.int (k:Nat)),Y ask,d]=Y (.nx [Y self,Y (.int b),Y (.int a),Y (.int c),Y (.int (k:Nat)),Y ask,Y (.int (2 ^ k))]):=by rw[gE ((show e2 kB (eK (.int 1)) (eV 4) [Y self,Y (.int b),Y (.int a),Y (.int c),Y (.int (k:Nat)),Y ask,d]=kB (.int 1) (.int (k:Nat)) from rfl).trans (Kq (by omega)))];rfl
   rw[aQ u];unfold eW;rw[JQ (x:=bA b (2 ^ k)) (d:=ask) (a:=a) rfl rfl rfl r];simp only[aa];cases (bA b (2 ^ k) != 0&&iV n ask a)<;>rfl
  rw[GY,bh,pL (ρ1:=[Y self,Y (.int b),Y (.int a),Y (.int c),Y (.int (k:Nat)),Y ask,d]) rfl t];obtain⟨l,j,i,q⟩:=Jy m self b a e (k+1) (if bA b (2 ^ k) != 0&&iV n ask a then bO c (2 ^ k) else c) (Y (.int (k:Nat))) (Y ask) (Y (.int (2 ^ k))) (λp o=>h p (av _ o)) (by omega);exact⟨l,j,i,q.trans rfl⟩
theorem H0{f:wF}{n:Nat}(d:n<=12)(h:∀p∈f.asks,mf n p)(e:f.asks.length<=1000)(a b:Int):dZ [fO f,.int a,.int b]=Y (.int (Gi n a b 0 0 f.asks)):=by
 show (kO [Y (fO f),Y (.int a),Y (.int b),M,M,M,M]).bind nC=_;unfold kO;rw[aQ (gE (d :=.int 0) rfl)];simp only[aZ,a9];obtain⟨j,i,g,q⟩:=Jy d (fO f) a b f.asks 0 0 M M M h (by omega);have c:js (iE (bc "Facts" "asks" (eV 0))) (D6 4 5) fT [Y (fO f),Y (.int a),Y (.int b),Y (.int 0),M,M,M]=gw (D6 4 5) fT ((f.asks.zipIdx 0).map λp =>.tup [.int (p.2:Nat),p.1]) [Y (fO f),Y (.int a),Y (.int b),Y (.int 0),M,M,M]:=by
  have:iL (bc "Facts" "asks" (eV 0)) [Y (fO f),Y (.int a),Y (.int b),Y (.int 0),M,M,M]=Y f.asks:=by kernel_rfl
  unfold js iE;rw[this];rfl
 rw[aQ (c.trans q)];rfl
theorem xO(a b:Nat):bA (a:Int) (b:Int)=((a &&& b:Nat):Int):=by
 unfold bA;rw[PyProof.Rows.bitAnd_pp (by omega) (by omega)];simp
theorem Ir(a b:Nat):bO (a:Int) (b:Int)=((a ||| b:Nat):Int):=by
 unfold bO;rw[PyProof.Rows.bitOr_and,show EG (a:Int) (b:Int)=_ from xO a b];have:=Kd a b;omega
theorem fA(d:0<=x)(c:0<=y):0<=bO x y:=by
 obtain⟨a,rfl⟩:=bp d;obtain⟨b,rfl⟩:=bp c;have:=Ir a b;omega
structure FB where
 q:List D
 bits:Nat
 nk:List iY
 nv:List D
 tk:List iY
 tv:List D
 j1:Int
 vp:Int
 inner:Int
 da:List D
noncomputable abbrev UO:List aG:=["question", "bits", "by_name", "by_text", "starred", "stars", "inner", "leads"]
def eG(s:FB):D :=.ins "Facts" UO [.lst s.q,.int (s.bits:Nat),.ig s.nk s.nv,.ig s.tk s.tv,.int s.j1,.int s.vp,.int s.inner,.lst s.da]
abbrev oF(s:FB):Option D:=Y (.obj aB (eG s))
theorem z7(s:FB)(h:s.bits<=999):dD [eG s]=Y (.int (2 ^ s.bits),eG { s with bits:=s.bits+1 }):=by
 show (kN [oF s]).bind (mW aB)=_;unfold kN;have b:d8 Z_ 0 "Facts" "bits" (λi j=>i+j) (eK (.int 1)) [oF s]=Y (.nx [oF { s with bits:=s.bits+1 }]):=by kernel_rfl
 rw[aQ b];have a:lx [0] [] (e2 kB (eK (.int 1)) (e2 me (bc "Facts" "bits" (eV 0)) (eK (.int 1)))) [oF { s with bits:=s.bits+1 }]=Y (.int (2 ^ s.bits)):=by refine mT (ρ':=[Y (eG { s with bits:=s.bits+1 })]) rfl ?_ rfl;have:e2 kB (eK (.int 1)) (e2 me (bc "Facts" "bits" (eV 0)) (eK (.int 1))) [Y (eG { s with bits:=s.bits+1 })]=kB (.int 1) (.int (((s.bits+1:Nat):Int)-1)):=rfl;rw[this,show ((s.bits+1:Nat):Int)-1=(s.bits:Int) by omega,Kq (by omega)]
 unfold dI mP;rw[a];kernel_rfl
theorem lO{F:List D->Option (D×D)}{m:aG}{ρ1:bZ}{s s1 b:FB}{args:List D}(c:m∉UO)(i:eV j a=oF s)(e:g a=Y (args,ρ1))(f:eV j ρ1=oF s1)(h:F (eG s1::args)=Y (d,eG b)):
  bU "Facts" m aB F j g a=Y (d,(c8 j ρ1).set j (oF b)):=by
 have l:yQ j a=Y (aB,eG s):=by unfold yQ;rw[i]
 have k:j8 aB j ρ1=Y (eG s1):=by unfold j8 yQ;rw[f];kernel_rfl
 unfold bU;rw[l];simp only[aa];show (if _ then _ else _)=_;rw[if_pos ⟨⟨rfl,rfl⟩,c⟩,e];simp only[aa,k,h];rfl
structure LU(s:FB):Prop where
 nv:∀v∈s.nv,∃i,0<=i/\v=D.int i
 star:0<=s.j1
 inner:0<=s.inner
 nk:s.nk.length<=s.bits
noncomputable abbrev C5(a b:aG)(w:D):D :=.tup [.str a,.str b,w]
theorem fI(n:Nat):(0:Int)<=2 ^ n:=Int.le_of_lt (Int.pow_pos (by decide))
structure bF(s s':FB):Prop where
 q:s'.q=s.q
 tk:s'.tk=s.tk
 tv:s'.tv=s.tv
 da:s'.da=s.da
theorem LX:∀ {b:List iY}{a:List D},∀v∈wK (λq x=>if q=k then d else x) b a,v=d∨v∈a
 |[],a,v,h=>by simp at h
 |q::b,[],v,h=>by simp at h
 | q::b,x::a,v,h=>by
  simp only[wJ,aK]at h;rcases h with h|h
  ·by_cases e:q=k
   ·rw[if_pos e]at h;exact .inl h
   ·rw[if_neg e]at h;exact .inr (by rw[h];exact ay ..)
  ·rcases LX v h with h|h
   ·exact .inl h
   ·exact .inr (av _ h)
theorem Lq{k:iY}{d:D}{ks:List iY}{ds:List D}(v:D)(h:v∈(qd k d ks ds).2):v=d∨v∈ds:=by
 unfold qd at h;split at h
 ·exact LX v h
 ·rcases aP.mp h with h|h
  ·exact .inr h
  ·exact .inl (b8.mp h)
theorem NW{k:iY}{d:D}{ks:List iY}{ds:List D}:(qd k d ks ds).1.length<=ks.length+1:=by
 unfold qd;split<;>simp
theorem xD(h:eX b a k=Y d):d∈a:=by
 unfold eX at h;obtain⟨p,e,h⟩:=aS.1 h;cases h;have:=List.mem_of_find?_eq_some e;exact(wO this).2
theorem F6{k:iY}{ks:List iY}(h:∀v∈a,∃i,0<=i/\v=D.int i):∃i,0<=i/\(eX ks a k).getD (.int 0)=.int i:=by
 cases e:eX ks a k with
 |none=>exact⟨0,by decide,rfl⟩
 |some d=>obtain⟨i,b,rfl⟩:=h d (xD e);exact⟨i,b,rfl⟩
theorem Mr{s:FB}{B1 nm:aG}{w:D}{b i:Int}(hi:(eX s.nk s.nv (cX nm)).getD (.int 0)=.int i)(hl:s.nk.length<ez):
  pH 0 "Facts" "by_name" (e2 cj (eV 1) (eK (.int 1))) (mP (lx [0] [] (e2 Cs (sH (bc "Facts" "by_name" (eV 0)) (e2 cj (eV 1) (eK (.int 1))) (eK (.int 0))) (eV 2)))) [oF s,Y (C5 B1 nm w),Y (.int b)]=Y (.nx [oF { s with nk:=(qd (cX nm) (.int (bO i b)) s.nk s.nv).1,nv:=(qd (cX nm) (.int (bO i b)) s.nk s.nv).2 },Y (C5 B1 nm w),Y (.int b)]):=by
 have e1:lx [0] [] (e2 Cs (sH (bc "Facts" "by_name" (eV 0)) (e2 cj (eV 1) (eK (.int 1))) (eK (.int 0))) (eV 2)) [oF s,Y (C5 B1 nm w),Y (.int b)]=Y (.int (bO i b)):=by refine mT (ρ':=[Y (eG s),Y (C5 B1 nm w),Y (.int b)]) rfl ?_ rfl;have:e2 Cs (sH (bc "Facts" "by_name" (eV 0)) (e2 cj (eV 1) (eK (.int 1))) (eK (.int 0))) (eV 2) [Y (eG s),Y (C5 B1 nm w),Y (.int b)]=Cs ((eX s.nk s.nv (cX nm)).getD (.int 0)) (.int b):=rfl;rw[this,hi];rfl
 unfold pH mP;rw[e1];simp only[bI,aa];have e2:rE "Facts" "by_name" 0 [oF s,Y (C5 B1 nm w),Y (.int b)]=Y (qb,UO,[.lst s.q,.int (s.bits:Nat),.ig s.nk s.nv,.ig s.tk s.tv,.int s.j1,.int s.vp,.int s.inner,.lst s.da],.ig s.nk s.nv):=by kernel_rfl
 rw[e2];simp only[aa];have e3:(L2.e2 cj (eV 1) (eK (.int 1)) [oF s,Y (C5 B1 nm w),Y (.int b)]).bind DJ=Y (cX nm):=rfl;show (if _/\s.nk.length<ez then _ else M)=_;rw[if_pos ⟨by decide,hl⟩];kernel_rfl
theorem BR{s:FB}(W:LU s)(h:s.bits<=999)(B1 nm:aG)(w:D):∃s',dB [eG s,C5 B1 nm w]=Y (.int (2 ^ s.bits),eG s')/\s'.bits=s.bits+1/\bF s s'/\LU s':=by
 have e0:dB [eG s,C5 B1 nm w]=(jb [oF s,Y (C5 B1 nm w),M]).bind (mW aB):=rfl;have hb:(0:Int)<=2 ^ s.bits:=fI _;have q0:lu 2 (bU "Facts" "new_bit" aB dD 0 kl) [oF s,Y (C5 B1 nm w),M]=Y (.nx [oF { s with bits:=s.bits+1 },Y (C5 B1 nm w),Y (.int (2 ^ s.bits))]):=by unfold lu;rw[lO (by decide) rfl rfl rfl (z7 s h)];rfl
 rw[e0];unfold jb;rw[aQ q0];generalize (2:Int) ^ s.bits=b at *
 have W1:LU { s with bits:=s.bits+1 }:=⟨W.nv,W.star,W.inner,tD W.nk⟩;have hk1:s.nk.length<=s.bits:=W.nk;have S1:bF s { s with bits:=s.bits+1 }:=⟨rfl,rfl,rfl,rfl⟩;have Z6:({ s with bits:=s.bits+1 }:FB).bits=s.bits+1:=rfl;have Wm:({ s with bits:=s.bits+1 }:FB).nk.length<=s.bits:=hk1;generalize ({ s with bits:=s.bits+1 }:FB)=s1 at *
 obtain⟨s2,q1,W2,S2,Xr,hk2⟩:∃s2,eW (dk (e2 fh (e2 cj (eV 1) (eK (.int 0))) (eK (.str (ab "inner"))))) (d8 Z_ 0 "Facts" "inner" bK (eV 2)) c9 [oF s1,Y (C5 B1 nm w),Y (.int b)]=Y (.nx [oF s2,Y (C5 B1 nm w),Y (.int b)])/\LU s2/\bF s s2/\s2.bits=s.bits+1/\s2.nk.length<=s.bits:=by
  have e1:dk (e2 fh (e2 cj (eV 1) (eK (.int 0))) (eK (.str (ab "inner")))) [oF s1,Y (C5 B1 nm w),Y (.int b)]=Y (rG (.str B1) (.str (ab "inner"))):=by kernel_rfl
  unfold eW;rw[e1];cases rG (.str B1) (.str (ab "inner")) with
  |true=>exact⟨{ s1 with inner:=bO s1.inner b },by kernel_rfl,⟨W1.nv,W1.star,fA W1.inner hb,W1.nk⟩,⟨S1.q,S1.tk,S1.tv,S1.da⟩,Z6,Wm⟩
  |false=>exact⟨s1,rfl,W1,S1,Z6,Wm⟩
 rw[aQ q1];obtain⟨s3,q2,W3,S3,hb3⟩:∃s3,eW (dk (e2 fh (e2 cj (eV 1) (eK (.int 1))) (eK (.str (ab "*"))))) (a_ (d8 Z_ 0 "Facts" "starred" bK (eV 2)) (d8 Z_ 0 "Facts" "stars" (λi j=>i+j) (eK (.int 1)))) (pH 0 "Facts" "by_name" (e2 cj (eV 1) (eK (.int 1))) (mP (lx [0] [] (e2 Cs (sH (bc "Facts" "by_name" (eV 0)) (e2 cj (eV 1) (eK (.int 1))) (eK (.int 0))) (eV 2))))) [oF s2,Y (C5 B1 nm w),Y (.int b)]=Y (.nx [oF s3,Y (C5 B1 nm w),Y (.int b)])/\LU s3/\bF s s3/\s3.bits=s.bits+1:=by
  have e1:dk (e2 fh (e2 cj (eV 1) (eK (.int 1))) (eK (.str (ab "*")))) [oF s2,Y (C5 B1 nm w),Y (.int b)]=Y (rG (.str nm) (.str (ab "*"))):=by kernel_rfl
  unfold eW;rw[e1];cases rG (.str nm) (.str (ab "*")) with
  |true=>exact⟨{ s2 with j1:=bO s2.j1 b,vp:=s2.vp+1 },by kernel_rfl,⟨W2.nv,fA W2.star hb,W2.inner,W2.nk⟩,⟨S2.q,S2.tk,S2.tv,S2.da⟩,Xr⟩
  |false=>
   obtain⟨i,hi,hl⟩:=F6 (k:=cX nm) (ks:=s2.nk) W2.nv;refine⟨{ s2 with nk:=(qd (cX nm) (.int (bO i b)) s2.nk s2.nv).1,nv:=(qd (cX nm) (.int (bO i b)) s2.nk s2.nv).2 },?_,⟨?_,W2.star,W2.inner,?_⟩,⟨S2.q,S2.tk,S2.tv,S2.da⟩,Xr⟩
   ·exact Mr hl (i_ (by omega))
   ·intro v hv;rcases Lq v hv with rfl|hv
    ·exact⟨_,fA hi hb,rfl⟩
    ·exact W2.nv v hv
   ·have:=NW (k:=cX nm) (d :=.int (bO i b)) (ks:=s2.nk) (ds:=s2.nv);show (qd (cX nm) (.int (bO i b)) s2.nk s2.nv).1.length<=s2.bits;omega
 rw[aQ q2];exact⟨s3,by kernel_rfl,hb3,S3,W3⟩
noncomputable def fS:Nat->Nat->List Int
 |_,0=>[]|n,k+1=>2 ^ n::fS (n+1) k
theorem tm:∀n k,(fS n k).length=k
 |_,0=>rfl|n,k+1=>by simp[fS,tm (n+1) k]
abbrev cD(p:aG×aG×D):D:=C5 p.1 p.2.1 p.2.2
theorem bF.trans(h:bF a b)(g:bF b c):bF a c:=⟨g.q.trans h.q,g.tk.trans h.tk,g.tv.trans h.tv,g.da.trans h.da⟩
theorem Gm:∀(a:List (aG×aG×D)) (s:FB) (x:Option D),LU s->s.bits+a.length<=1000->∃c,yz [M,x] (gN 0) (bU "Facts" "enter_step" aB dB 1 (jn (mP (eV 0)) kl)) 1 aB (a.map cD) (eG s)=Y ((fS s.bits a.length).map D.int,eG c)/\c.bits=s.bits+a.length/\bF s c/\LU c
 |[],s,x,W,h=>⟨s,rfl,rfl,⟨rfl,rfl,rfl,rfl⟩,W⟩| p::a,s,x,W,h=>by
  simp only[aO]at h;obtain⟨b,k,e,q,n⟩:=BR W (by omega) p.1 p.2.1 p.2.2;obtain⟨f,d,l,o,m⟩:=Gm a b x n (by omega);refine⟨f,?_,by rw[l,e];simp only[aO];omega,q.trans o,m⟩;rw[bh,yz];have j:gN 0 (cD p) ([M,x].set 1 (Y (.obj aB (eG s))))=Y [Y (cD p),oF s]:=rfl;have i:bU "Facts" "enter_step" aB dB 1 (jn (mP (eV 0)) kl) [Y (cD p),oF s]=Y (.int (2 ^ s.bits),[Y (cD p),oF b]):=by rw[lO (ρ1:=[Y (cD p),oF s]) (args:=[cD p]) (by decide) rfl rfl rfl k];rfl
  have g:j8 aB 1 [Y (cD p),oF b]=Y (eG b):=by kernel_rfl
  rw[j];simp only[aa,i,g];rw[e]at d;rw[d];rfl
theorem Gn{s:FB}(W:LU s)(a:List (aG×aG×D))(h:s.bits+a.length<=1000):∃b,gi [eG s,.lst (a.map cD)]=Y (.lst ((fS s.bits a.length).map D.int),eG b)/\b.bits=s.bits+a.length/\bF s b/\LU b:=by
 obtain⟨b,e,r⟩:=Gm a s (Y (.obj aB (eG s))) W h;refine⟨b,?_,r⟩;show (mL [oF s,Y (.lst (a.map cD))]).bind (mW aB)=_;have g:tX (iL (eV 1)) [M,Y 0] (gN 0) (bU "Facts" "enter_step" aB dB 1 (jn (mP (eV 0)) kl)) 1 0 aB [oF s,Y (.lst (a.map cD))]=Y (.lst ((fS s.bits a.length).map D.int),[oF b,Y (.lst (a.map cD))]):=by
  unfold tX;have f:iL (eV 1) [oF s,Y (.lst (a.map cD))]=Y (a.map cD):=rfl;have d:j8 aB 0 [oF s,Y (.lst (a.map cD))]=Y (eG s):=by kernel_rfl
  have c:kZ [M,Y 0] (c8 0 [oF s,Y (.lst (a.map cD))])=[M,Y (.obj aB (eG s))]:=rfl;rw[f];simp only[aa];rw[if_pos (ic (i_ (by rw[au];omega))),d];simp only[aa];rw[c,e];rfl
 unfold mL dI;rw[g];kernel_rfl
def Sub(a:Int)(P:Nat->Prop):Prop:=0<=a/\∀i,a.toNat.testBit i=Z'->P i
def Rq(b:Nat)(P:Nat->Prop)(d:D)(c:Prop):Prop:=∀e:Nat->Prop,(∀i,i<b->e i->P i)->∀a n,Sub a e->iV n d a=Z'->c
theorem Rq.ext{b':Nat}{P P2:Nat->Prop}{d:D}(h:Rq b P d c)(l:b<=b')(g:∀i,i<b->P2 i->P i):Rq b' P2 d c:=
 λk f a n=>h k (λi j e=>g i j (f i (by omega) e)) a n
structure Inv(s:FB)(P:Nat->Prop):Prop where
 Hj:LU s
 tv:∀v∈s.tv,∃j,j<s.bits/\v=D.int (2 ^ j)/\P j
 tk:s.tk.length<=s.bits
 Xb:s.tk.length=s.tv.length
 da:∀l∈s.da,∃j ask,l=Ji ((2:Int) ^ j,ask)/\j<s.bits/\mf 6 ask/\Rq s.bits P ask (P j)
 Wv:s.da.length<=s.bits
structure gO(s:FB)(P:Nat->Prop)(s':FB)(P':Nat->Prop)(z:Nat):Prop where
 q:s'.q=s.q
 lo:s.bits<=s'.bits
 hi:s'.bits<=s.bits+z
 same:∀i,i<s.bits->(P' i↔P i)
 ld:s'.da.length+s.bits<=s.da.length+s'.bits
theorem gO.trans{s:FB}{P:Nat->Prop}(h:gO s P b d y)(g:gO b d a c z):gO s P a c (y+z):=
 ⟨g.q.trans h.q,bX h.lo g.lo,by have:=h.hi;have:=g.hi;omega,λi e=>(g.same i (by have:=h.lo;omega)).trans (h.same i e),by have:=h.ld;have:=g.ld;omega⟩
theorem Lr{d:D}{a:List iY}{b:List D}(m:a.length=b.length)(h:eX a b k=M):qd k d a b=(a++[k],b++[d])/\eX (a++[k]) (b++[d]) k=Y d:=by
 have c:∀p∈a.zip b,¬p.1=k:=by unfold eX at h;simp only[Option.map_eq_none_iff,List.find?_eq_none,decide_eq_true_eq]at h;exact h
 have n:¬(a.any λq=>decide (q=k))=true:=by intro f;simp only[vh,decide_eq_true_eq]at f;obtain⟨q,j,rfl⟩:=f;obtain⟨i,o,e⟩:=List.getElem_of_mem j;exact c (q,b[i]'(by omega)) (by rw[<- e];exact List.mem_iff_getElem.mpr ⟨i,by simp;omega,by simp⟩) rfl
 refine⟨by unfold qd;rw[if_neg n],?_⟩;unfold eX;rw[List.zip_append m,List.find?_append];have:(a.zip b).find? (λg=>decide (g.1=k))=none:=by rw[List.find?_eq_none];intro p l;simp only[decide_eq_true_eq];exact c p l
 rw[this];simp
theorem AG{s:FB}{t:aG}(hb:s.bits<=999)(hl:s.tk.length<=s.bits)(hkv:s.tk.length=s.tv.length)(h:eX s.tk s.tv (cX t)=M):
  c4 [eG s,.str t]=Y (.int (2 ^ s.bits),eG { s with bits:=s.bits+1,tk:=s.tk++[cX t],tv:=s.tv++[.int (2 ^ s.bits)] }):=by
 show (fw [oF s,Y (.str t)]).bind (mW aB)=_;unfold fw;obtain⟨hp,Wk⟩:=Lr (d :=.int (2 ^ s.bits)) hkv h;have e1:xY [0] [] (dk (e2 (Dw Z') (eV 1) (bc "Facts" "by_text" (eV 0)))) [oF s,Y (.str t)]=Y true:=by refine qp (ρ':=[Y (eG s),Y (.str t)]) rfl ?_;have:dk (e2 (Dw Z') (eV 1) (bc "Facts" "by_text" (eV 0))) [Y (eG s),Y (.str t)]=Y (!(eX s.tk s.tv (cX t)).isSome):=rfl;rw[this,h];rfl
 have e2:pH 0 "Facts" "by_text" (eV 1) (bU "Facts" "new_bit" aB dD 0 kl) [oF s,Y (.str t)]=Y (.nx [oF { s with bits:=s.bits+1,tk:=s.tk++[cX t],tv:=s.tv++[.int (2 ^ s.bits)] },Y (.str t)]):=by
  have m1:bU "Facts" "new_bit" aB dD 0 kl [oF s,Y (.str t)]=Y (.int (2 ^ s.bits),[oF { s with bits:=s.bits+1 },Y (.str t)]):=by rw[lO (by decide) rfl rfl rfl (z7 s hb)];rfl
  unfold pH;rw[m1];simp only[aa];have e3:rE "Facts" "by_text" 0 [oF { s with bits:=s.bits+1 },Y (.str t)]=Y (qb,UO,[.lst s.q,.int ((s.bits+1:Nat):Int),.ig s.nk s.nv,.ig s.tk s.tv,.int s.j1,.int s.vp,.int s.inner,.lst s.da],.ig s.tk s.tv):=by kernel_rfl
  rw[e3];simp only[aa];show (if _/\s.tk.length<ez then _ else M)=_;rw[if_pos ⟨by decide,i_ (by omega)⟩];show Y (DO.nx [Y (zN "Facts" "by_text" qb UO _ (.ig (qd (cX t) (.int (2 ^ s.bits)) s.tk s.tv).1 (qd (cX t) (.int (2 ^ s.bits)) s.tk s.tv).2)),Y (.str t)])=_;rw[hp];generalize (2:Int) ^ s.bits=b;kernel_rfl
 have e4:eW (xY [0] [] (dk (L2.e2 (Dw Z') (eV 1) (bc "Facts" "by_text" (eV 0))))) (pH 0 "Facts" "by_text" (eV 1) (bU "Facts" "new_bit" aB dD 0 kl)) c9 [oF s,Y (.str t)]=Y (.nx [oF { s with bits:=s.bits+1,tk:=s.tk++[cX t],tv:=s.tv++[.int (2 ^ s.bits)] },Y (.str t)]):=by unfold eW;rw[e1];exact e2
 rw[aQ e4];have e5:lx [0] [] (L2.e2 FK (bc "Facts" "by_text" (eV 0)) (eV 1)) [oF { s with bits:=s.bits+1,tk:=s.tk++[cX t],tv:=s.tv++[.int (2 ^ s.bits)] },Y (.str t)]=Y (.int (2 ^ s.bits)):=by refine mT (ρ':=[Y (eG { s with bits:=s.bits+1,tk:=s.tk++[cX t],tv:=s.tv++[.int (2 ^ s.bits)] }),Y (.str t)]) rfl ?_ rfl;exact Wk
 unfold dI mP;rw[e5];generalize (2:Int) ^ s.bits=b;kernel_rfl
theorem AF{s:FB}(h:eX s.tk s.tv (cX t)=Y (.int i)):c4 [eG s,.str t]=Y (.int i,eG s):=by
 show (fw [oF s,Y (.str t)]).bind (mW aB)=_;unfold fw;have c:xY [0] [] (dk (e2 (Dw Z') (eV 1) (bc "Facts" "by_text" (eV 0)))) [oF s,Y (.str t)]=Y false:=by refine qp (ρ':=[Y (eG s),Y (.str t)]) rfl ?_;have:dk (e2 (Dw Z') (eV 1) (bc "Facts" "by_text" (eV 0))) [Y (eG s),Y (.str t)]=Y (!(eX s.tk s.tv (cX t)).isSome):=rfl;rw[this,h];rfl
 have b:∀g,eW (xY [0] [] (dk (L2.e2 (Dw Z') (eV 1) (bc "Facts" "by_text" (eV 0))))) g c9 [oF s,Y (.str t)]=Y (.nx [oF s,Y (.str t)]):=by intro g;unfold eW;rw[c];rfl
 rw[aQ (b _)];have a:lx [0] [] (L2.e2 FK (bc "Facts" "by_text" (eV 0)) (eV 1)) [oF s,Y (.str t)]=Y (.int i):=mT (ρ':=[Y (eG s),Y (.str t)]) rfl h rfl;unfold dI mP;rw[a];kernel_rfl
theorem BQ{s:FB}{P:Nat->Prop}(I:Inv s P)(u:s.bits<=999)(t:aG):∃j f k,c4 [eG s,.str t]=Y (.int (2 ^ j),eG f)/\j<f.bits/\gO s P f k 1/\Inv f k:=by
 cases h:eX s.tk s.tv (cX t) with
 |some d=>obtain⟨j,b,rfl,_⟩:=I.tv d (xD h);exact⟨j,s,P,AF h,b,⟨rfl,aM _,by omega,λ_ _=>Iff.rfl,aM _⟩,I⟩
 |none=>
  have g:∀i,i<s.bits->((if i<s.bits then P i else True)↔P i):=λi o=>by rw[if_pos o]
  refine⟨s.bits,_,λi=>if i<s.bits then P i else True,AG u I.tk I.Xb h,jP _,⟨rfl,jZ _,aM _,g,jZ _⟩,?_⟩;refine⟨⟨I.Hj.nv,I.Hj.star,I.Hj.inner,tD I.Hj.nk⟩,?_,?_,?_,?_,tD I.Wv⟩
  ·intro v c;rcases aP.mp c with c|c
   ·obtain⟨j,b,e,p⟩:=I.tv v c;exact⟨j,tz b,e,(g j b).mpr p⟩
   ·exact⟨s.bits,jP _,b8.mp c,by simp⟩
  ·have:=I.tk;show (s.tk++[_]).length<=s.bits+1;rw[aE];simp;omega
  ·show (s.tk++[_]).length=(s.tv++[_]).length;rw[aE,aE,I.Xb];rfl
  ·intro l r;obtain⟨j,q,e,b,w,m⟩:=I.da l r;refine⟨j,q,e,tz b,w,?_⟩;have:=m.ext (b':=s.bits+1) (P2:=λi=>if i<s.bits then P i else True) (jZ _) (λi o h=>(g i o).mp h);intro k z a n y x;exact(g j b).mpr (this k z a n y x)
end K21
namespace L2
open PySem PySem.Spec PyProof.Rows
section
variable {K:bb}{f G H G' H':Hp}
end
section
variable {K:bb}{G v H:Hp}{w:az}{g:List (az×az×az)}{l:List Nd}
end
theorem Jv{τ:BZ}{g:DG}(I:Nat->bZ->Prop):∀(k:List D) (i:Nat) (a:bZ),I i a->(∀j d a,k[j]?=Y d->I (i+j) a->∃f b,τ d a=Y f/\g f=Y (.nx b)/\I (i+j+1) b) ->
  ∃c,gw τ g k a=Y (.nx c)/\I (i+k.length) c
 |[],i,a,h,_=>⟨a,rfl,h⟩| d::k,i,a,h,st=>by
  obtain⟨f,b,q,p,n⟩:=st 0 d a rfl h;obtain⟨c,e,o⟩:=Jv I k (i+1) b n λj d a l m=>by have:=st (j+1) d a (by simpa using l) (by rw[show i+(j+1)=i+1+j by omega];exact m);rw[show i+(j+1)+1=i+1+j+1 by omega]at this;exact this
  refine⟨c,?_,by rw[show i+(d::k).length=i+1+k.length by simp;omega];exact o⟩;unfold gw;rw[q];simp only[aa,p];exact e
theorem sF{τ:BZ}{g:DG}(I:Nat->bZ->Prop){ds:List D}{ρ:bZ}(i:I 0 ρ)(f:∀j d ρ,ds[j]?=Y d->I j ρ->∃b a,τ d ρ=Y b/\g b=Y (.nx a)/\I (j+1) a):∃c,gw τ g ds ρ=Y (.nx c)/\I ds.length c:=by
 have:=Jv (τ:=τ) (g:=g) I ds 0 ρ i (λj d ρ h e=>by rw[qV]at e ⊢;exact f j d ρ h e);rw[qV]at this;exact this
theorem JX{b:Type}{xs:List b}{z:Int}(d:0<=z)(c:z<xs.length):∃v,oT xs z=Y v/\v∈xs:=by
 have a:z.toNat<xs.length:=by omega
 refine⟨xs[z.toNat],?_,G7 a⟩;have e:((z.toNat:Nat):Int)=z:=by omega
 have:=QA (xs:=xs) (j:=z.toNat) (v:=xs[z.toNat]) (by simp[a]);rw[e]at this;exact this
theorem wu{xs:List Int}{z:Int}(h0:0<=z)(h1:z<xs.length):∃v,oT (xs.map D.int) z=Y (.int v):=by
 obtain⟨v,e,hm⟩:=JX (xs:=xs) h0 h1;exact⟨v,by rw[El,e];rfl⟩
theorem zb{xs:List aG}{z:Int}(h0:0<=z)(h1:z<xs.length):∃v,oT (xs.map D.str) z=Y (.str v)/\v∈xs:=by
 obtain⟨v,e,hm⟩:=JX (xs:=xs) h0 h1;exact⟨v,by rw[El,e];rfl,hm⟩
theorem P0{n:Nat}{z:Int}(b:0<=z)(a:z<n):Cw n z=Y z.toNat:=by unfold Cw;rw[if_pos b,if_pos a]
theorem Fk(h:(mv a n)[j]?=Y d):j<n/\d=.int (a+j):=by
 unfold mv at h;rw[aT]at h;obtain⟨k,q,h⟩:=aS.1 h;cases h;obtain⟨c,b⟩:=aj.mp q;have:k=j:=by simpa using b.symm
 subst this;exact⟨by simpa using c,rfl⟩
theorem pX(a:Int)(n:Nat):(mv a n).length=n:=by simp[mv]
theorem sv{h:D->D}:∀ {b:List D},(∀d∈b,∃a,c d e=Y a/\g a=Y (h d))->BL e c iC g b=Y (b.map h)
 |[],_=>rfl|d::b,f=>by obtain⟨a,j,i⟩:=f d ay;unfold BL;rw[j];simp only[iC,aa,if_true,i];rw[sv λd h=>f d (av _ h)];rfl
theorem kR:ez=1000000:=rfl
theorem T9(a:List b)(l h:Option Int):(Bi a l h).length<=a.length:=by
 unfold Bi;rw[o_,GZ];omega
theorem Im{b:Type}(a:List b){k:Int}(c:0<=k):Bi a M (Y k)=a.take k.toNat:=by
 unfold Bi HT.Cj;simp only[List.drop_zero,Nat.sub_zero,if_neg (show ¬k<0 by omega)];by_cases h:k.toNat<=a.length
 ·rw[IF h]
 ·rw[Nat.min_eq_right (by omega),List.take_length,nW (by omega)]
theorem Gw{a:Type}(xs:List a){k:Int}(b:0<=k):Bi xs (Y k) M=xs.drop k.toNat:=by
 unfold Bi HT.Cj;simp only[if_neg (show ¬k<0 by omega)];by_cases h:k.toNat<=xs.length
 ·rw[IF h,nW (by simp)]
 ·rw[Nat.min_eq_right (by omega),QT,List.take_zero,QY (by omega)]
end L2
namespace K21
open PySem L2
noncomputable abbrev f_(a:Int)(b:List D):D :=.tup [.int a,.lst b]
def ij:List D->List Int->List Int->List D
 |.tup [.int a,.lst d]::g,b::e,f::c=>Ji (b,f_ (bO a f) d)::ij g e c|_,_,_=>[]
theorem F9{y1 y2 y4:List D}{y3:Int}:∀(e:List D) (l k:List Int) (s:FB) (j i g:Option D),(∀a∈e,∃c d,a=f_ c d)->s.da.length+e.length<ez->∃o n m,
  gw (Tw 5 6 7) iK (lj e (l.map D.int) (k.map D.int)) [oF s,Y (.lst y1),Y (.lst y2),Y (.int y3),Y (.lst y4),j,i,g]=Y (.nx [oF { s with da:=s.da++ij e l k },Y (.lst y1),Y (.lst y2),Y (.int y3),Y (.lst y4),o,n,m])
 |[],l,k,s,j,i,g,_,_=>⟨j,i,g,by simp[lj,gw,ij]⟩
 |a::e,[],k,s,j,i,g,h,_=>by obtain⟨c,d,rfl⟩:=h a (ay ..);exact⟨j,i,g,by simp[lj,gw,ij]⟩
 |a::e,b::l,[],s,j,i,g,h,_=>by obtain⟨c,d,rfl⟩:=h a (ay ..);exact⟨j,i,g,by simp[lj,gw,ij]⟩
 | a::e,b::l,f::k,s,j,i,g,h,r=>by
  obtain⟨c,d,rfl⟩:=h a (ay ..);simp only[aO]at r;have t:iK [oF s,Y (.lst y1),Y (.lst y2),Y (.int y3),Y (.lst y4),Y (f_ c d),Y (.int b),Y (.int f)]=Y (.nx [oF { s with da:=s.da++[Ji (b,f_ (bO c f) d)] },Y (.lst y1),Y (.lst y2),Y (.int y3),Y (.lst y4),Y (f_ c d),Y (.int b),Y (.int f)]):=by
   unfold iK IQ;have u:rE "Facts" "leads" 0 [oF s,Y (.lst y1),Y (.lst y2),Y (.int y3),Y (.lst y4),Y (f_ c d),Y (.int b),Y (.int f)]=Y (qb,UO,[.lst s.q,.int (s.bits:Nat),.ig s.nk s.nv,.ig s.tk s.tv,.int s.j1,.int s.vp,.int s.inner,.lst s.da],.lst s.da):=by kernel_rfl
   have v:gS (aC (eV 6) (aC (gS (aC (e2 Cs (e2 cj (eV 5) (eK (.int 0))) (eV 7)) (aC (e2 cj (eV 5) (eK (.int 1))) aN))) aN)) [oF s,Y (.lst y1),Y (.lst y2),Y (.int y3),Y (.lst y4),Y (f_ c d),Y (.int b),Y (.int f)]=Y (Ji (b,f_ (bO c f) d)):=by kernel_rfl
   rw[u];simp only[aa];rw[v];simp only[aa];rw[if_pos ⟨by decide,by omega⟩];kernel_rfl
  rw[bh,bh,lj,pL (ρ1:=[oF s,Y (.lst y1),Y (.lst y2),Y (.int y3),Y (.lst y4),Y (f_ c d),Y (.int b),Y (.int f)]) rfl t];obtain⟨o,n,m,q⟩:=F9 e l k { s with da:=s.da++[Ji (b,f_ (bO c f) d)] } (Y (f_ c d)) (Y (.int b)) (Y (.int f)) (λx p=>h x (av _ p)) (by rw[aE,bH];omega);refine⟨o,n,m,q.trans ?_⟩;simp only[ij,bV,List.singleton_append]
theorem PX{s:FB}{as:List D}{b:Int}{bs:List Int}(h:∀a∈as,∃sR cs,a=f_ sR cs)(hl:s.da.length+as.length<ez)(hb:bs.length<=1000):l6 [eG s,.lst as,.lst ((b::bs).map D.int),.int 0]=Y (.eJ,eG { s with da:=s.da++ij as (b::bs) (bs++[0]) }):=by
 show (nQ [oF s,Y (.lst as),Y (.lst ((b::bs).map D.int)),Y (.int 0),M,M,M,M]).bind (mW aB)=_;unfold nQ;have q0:dr 4 (e2 gu (eF (JB (eV 2) (pS (eK (.int 1))) pN)) (eF (fX (aC (eV 3) aN)))) [oF s,Y (.lst as),Y (.lst ((b::bs).map D.int)),Y (.int 0),M,M,M,M]=Y (.nx [oF s,Y (.lst as),Y (.lst ((b::bs).map D.int)),Y (.int 0),Y (.lst ((bs++[0]).map D.int)),M,M,M]):=by
  have e1:e2 gu (eF (JB (eV 2) (pS (eK (.int 1))) pN)) (eF (fX (aC (eV 3) aN))) [oF s,Y (.lst as),Y (.lst ((b::bs).map D.int)),Y (.int 0),M,M,M,M]=gu (.lst (Bi ((b::bs).map D.int) (Y 1) M)) (.lst [.int 0]):=rfl;have e2:Bi ((b::bs).map D.int) (Y 1) M=bs.map D.int:=by rw[Gw _ (by decide)];rfl
  rw[e2]at e1;have e3:gu (.lst (bs.map D.int)) (.lst [.int 0])=Y (.lst ((bs++[0]).map D.int)):=by simp only[gu];rw[if_pos (ic (i_ (by rw[au,bH];omega)))];simp
  rw[gE (e1.trans e3)];rfl
 rw[aQ q0];obtain⟨b5,b6,b7,q⟩:=F9 (y1:=as) (y2:=(b::bs).map D.int) (y3:=0) (y4:=(bs++[0]).map D.int) as (b::bs) (bs++[0]) s M M M h hl;have q2:js (Xk (eV 1) (eV 2) (eV 4)) (Tw 5 6 7) iK [oF s,Y (.lst as),Y (.lst ((b::bs).map D.int)),Y (.int 0),Y (.lst ((bs++[0]).map D.int)),M,M,M]=gw (Tw 5 6 7) iK (lj as ((b::bs).map D.int) ((bs++[0]).map D.int)) [oF s,Y (.lst as),Y (.lst ((b::bs).map D.int)),Y (.int 0),Y (.lst ((bs++[0]).map D.int)),M,M,M]:=rfl;rw[q2,q];kernel_rfl
def jn1(c:List D):Int:=c.foldl (λn a=>match a with|.tup [.int b,_]=>bO n b|_=>n) 0
noncomputable def LS(c:List D):List D:=c.flatMap λa=>match a with|.tup [_,.lst b]=>b|_=>[]
theorem Ai{x0:List D}:∀(f:List D) (n:Int) (d:List D) (g:Option D),(∀a∈f,∃b d,a=f_ b d)->d.length+(LS f).length<ez->∃i,
  gw (gN 3) g9 f [Y (.lst x0),Y (.int n),Y (.lst d),g]=Y (.nx [Y (.lst x0),Y (.int (f.foldl (λn a=>match a with|.tup [.int b,_]=>bO n b|_=>n) n)),Y (.lst (d++LS f)),i])
 |[],n,d,g,_,_=>⟨g,by simp[gw,LS]⟩
 | a::f,n,d,g,h,k=>by
  obtain⟨b,c,rfl⟩:=h a (ay ..);have e:LS (f_ b c::f)=c++LS f:=rfl;rw[e,aE]at k;have l:g9 [Y (.lst x0),Y (.int n),Y (.lst d),Y (f_ b c)]=Y (.nx [Y (.lst x0),Y (.int (bO n b)),Y (.lst (d++c)),Y (f_ b c)]):=by
   unfold g9;have m:nG 1 bK (e2 cj (eV 3) (eK (.int 0))) [Y (.lst x0),Y (.int n),Y (.lst d),Y (f_ b c)]=Y (.nx [Y (.lst x0),Y (.int (bO n b)),Y (.lst d),Y (f_ b c)]):=by kernel_rfl
   rw[aQ m];show (if d.length+c.length<=ez then _ else M)=_;rw[if_pos (by omega)];rfl
  rw[pL (ρ1:=[Y (.lst x0),Y (.int n),Y (.lst d),Y (f_ b c)]) rfl l];obtain⟨i,q⟩:=Ai f (bO n b) (d++c) (Y (f_ b c)) (λx j=>h x (av _ j)) (by rw[aE];omega);refine⟨i,q.trans ?_⟩;rw[e,List.foldl_cons,bV]
theorem K0{as:List D}(h:∀a∈as,∃b e,a=f_ b e)(f:(LS as).length<ez):kG [.lst as]=Y (f_ (jn1 as) (LS as)):=by
 show (mK [Y (.lst as),M,M,M]).bind nC=_;unfold mK;rw[aQ (gE (d :=.int 0) rfl)];simp only[aZ,a9];have d:jS 2 (fX aN) [Y (.lst as),Y (.int 0),M,M]=Y (.nx [Y (.lst as),Y (.int 0),Y (.lst []),M]):=rfl;rw[aQ d];obtain⟨g,q⟩:=Ai (x0:=as) as 0 [] M h (by rw[eU];omega);have c:js (iL (eV 0)) (gN 3) g9 [Y (.lst as),Y (.int 0),Y (.lst []),M]=gw (gN 3) g9 as [Y (.lst as),Y (.int 0),Y (.lst []),M]:=rfl;rw[aQ (c.trans q)];rfl
noncomputable abbrev kS(x:String):D :=.str (ab x)
def gW:Nat->D->Prop
 |0,_=>False|n+1,w=>w=.tup [kS "any"]∨(∃t,w=.tup [kS "text",.str t])∨(∃a:List (aG×aG×D),w=.tup [kS "has",.lst (a.map cD)]/\a≠[]/\a.length<=3/\∀p∈a,gW n p.2.2)∨(∃b:List D,w=.tup [kS "both",.lst b]/\b.length<=3/\∀x∈b,gW n x)∨(∃b:List D,w=.tup [kS "one",.lst b]/\b.length<=3/\∀x∈b,gW n x)
noncomputable def Q2:D->D
 |.tup [_,_,w]=>w|d=>d
noncomputable def rj:Nat->D->Bool
 |n+1,.tup [.str k,.lst a]=>if k=ab "has" then a.all λb=>rj n (Q2 b) else if k=ab "both" then a.all (rj n) else if k=ab "one" then a.any (rj n) else Z'
 |_,_=>Z'
noncomputable def Zb:Nat->Nat
 |0=>0|n+1=>3*(1+Zb n)
noncomputable def JV:D->Nat
 |.tup [_,.lst a]=>a.length|_=>0
structure x_(b:Nat)(P:Nat->Prop)(n:Nat)(ask w:D):Prop where
 ad:mf n ask
 len:JV ask<=3 ^ n
 snd:Rq b P ask (rj n w=true)
theorem x_.ext{b':Nat}{P P2:Nat->Prop}{a:D}(h:x_ b P n a w)(e:b<=b')(c:∀i,i<b->(P2 i↔P i)):x_ b' P2 n a w:=⟨h.ad,h.len,h.snd.ext e λi d=>(c i d).mp⟩
def CZ(F:List D->Option (D×D))(n:Nat):Prop:=∀s P w,gW n w->Inv s P->s.bits+Zb n<=999->∃a b c,F [eG s,w]=Y (a,eG b)/\gO s P b c (Zb n)/\Inv b c/\x_ b.bits c n a w
inductive rJ (R:D->D->Prop):List D->List D->Prop
 |nil:rJ R [] []
 |cons {a b:D}{as bs:List D}:R a b->rJ R as bs->rJ R (a::as) (b::bs)
theorem rJ.imp{R S:D->D->Prop}(h:∀a b,R a b->S a b):∀ {d c:List D},rJ R d c->rJ S d c
 |_,_,.nil =>.nil|_,_,.cons r t =>.cons (h _ _ r) (t.imp h)
theorem rJ.len{R:D->D->Prop}:∀ {b a:List D},rJ R b a->b.length=a.length
 |_,_,.nil=>rfl|_,_,.cons _ t=>by simp[t.len]
theorem rJ.left{R:D->D->Prop}:∀ {as c:List D},rJ R as c->∀a∈as,∃b∈c,R a b
 |_,_,.nil,a,h=>by simp at h
 | _,_,.cons r t,a,h=>by
  rcases aK.mp h with rfl|h
  ·exact⟨_,ay ..,r⟩
  ·obtain⟨b,d,k⟩:=t.left a h;exact⟨b,av _ d,k⟩
theorem rJ.right{R:D->D->Prop}:∀ {d c:List D},rJ R d c->∀b∈c,∃a∈d,R a b
 |_,_,.nil,a,h=>by simp at h
 | _,_,.cons r t,a,h=>by
  rcases aK.mp h with rfl|h
  ·exact⟨_,ay ..,r⟩
  ·obtain⟨b,e,k⟩:=t.right a h;exact⟨b,av _ e,k⟩
theorem gO.refl(s:FB)(P:Nat->Prop):gO s P s P 0:=⟨rfl,aM _,aM _,λ_ _=>Iff.rfl,aM _⟩
theorem JY{F:List D->Option (D×D)}(o:CZ F n){f:D->D}:∀(c:List D) (s:FB) (P:Nat->Prop) (x:Option D),(∀d∈c,gW n (f d)/\∀s,g [Y d,oF s]=Y ([f d],[Y d,oF s])/\c8 1 [Y d,oF s]=[Y d,oF s])->Inv s P->s.bits+c.length*Zb n<=999 ->
  ∃b j k,yz [M,x] (gN 0) (bU "Facts" "asked" aB F 1 g) 1 aB c (eG s)=Y (b,eG j)/\gO s P j k (c.length*Zb n)/\Inv j k/\rJ (λa d=>x_ j.bits k n a (f d)) b c
 |[],s,P,x,_,I,_=>⟨[],s,P,rfl,by simpa using gO.refl s P,I,.nil⟩
 | d::c,s,P,x,h,I,t=>by
  simp only[aO,QR]at t ⊢;obtain⟨hw,m⟩:=h d (ay ..);obtain⟨e,i,C,A,p,G,J⟩:=o s P (f d) hw I (by omega);obtain⟨b,q,B,z,l,E,H⟩:=JY o c i C x (λy r=>h y (av _ r)) G (by have:=p.hi;omega);refine⟨e::b,q,B,?_,?_,E,.cons (J.ext l.lo l.same) H⟩
  ·rw[yz];have w:gN 0 d ([M,x].set 1 (Y (.obj aB (eG s))))=Y [Y d,oF s]:=rfl;have v:bU "Facts" "asked" aB F 1 g [Y d,oF s]=Y (e,[Y d,oF i]):=by rw[lO (ρ1:=[Y d,oF s]) (args:=[f d]) (by decide) rfl (m s).1 rfl A,(m s).2];rfl
   have u:j8 aB 1 [Y d,oF i]=Y (eG i):=by kernel_rfl
   rw[w];simp only[aa,v,u,z];rfl
  ·have:=p.trans l;rw[Nat.add_comm];exact this
theorem DE{F:List D->Option (D×D)}(o:CZ F n){g:Ka}{ar:D->D}{f:DL}{ρ:bZ}{ds:List D}{s:FB}{P:Nat->Prop}(k:f ρ=Y ds)(i:eV 0 ρ=oF s)(j:c8 0 ρ=ρ)(l:∀d∈ds,gW n (ar d)/\∀s,g [Y d,oF s]=Y ([ar d],[Y d,oF s])/\c8 1 [Y d,oF s]=[Y d,oF s])(I:Inv s P)(m:s.bits+ds.length*Zb n<=999)(t:ds.length<=1000):
  ∃b c h,tX f [M,Y 0] (gN 0) (bU "Facts" "asked" aB F 1 g) 1 0 aB ρ=Y (.lst b,ρ.set 0 (oF c))/\gO s P c h (ds.length*Zb n)/\Inv c h/\rJ (λa d=>x_ c.bits h n a (ar d)) b ds:=by
 obtain⟨b,c,h,e,r⟩:=JY o ds s P (Y (.obj aB (eG s))) l I m;refine⟨b,c,h,?_,r⟩;unfold tX;have q:j8 aB 0 ρ=Y (eG s):=by unfold j8 yQ;rw[i];kernel_rfl
 have p:kZ [M,Y 0] ρ=[M,Y (.obj aB (eG s))]:=by
  have:(ρ[0]?).getD M=oF s:=by rw[jg i];rfl
  show [M,(ρ[0]?).getD M]=_;rw[this]
 rw[k];simp only[aa];rw[if_pos (ic (i_ (by omega))),q,j];simp only[aa];rw[p,e];rfl
def N8(F:List D->Option (D×D))(n:Nat):Prop:=∀s P (a:List (aG×aG×D)),a≠[]->a.length<=3->(∀p∈a,gW n p.2.2)->Inv s P->s.bits+Zb (n+1)<=999->∃j b c,F [eG s,.lst (a.map cD)]=Y (.int (2 ^ j),eG b)/\gO s P b c (Zb (n+1))/\Inv b c/\j<b.bits/\(c j->∀p∈a,rj n p.2.2=Z')
theorem mf.succ:∀ {n:Nat}{d:D},mf n d->mf (n+1) d
 |0,_,h=>h.elim|n+1,d,⟨a,p,e,m,i,j⟩=>⟨a,p,e,m,i,λc b=>by obtain⟨f,o,l,k⟩:=j c b;exact⟨f,o,l,λx g=>(k x g).succ⟩⟩
theorem mf.up{m:Nat}{d:D}(h:mf n d)(a:n<=m):mf m d:=by
 induction a with|refl=>exact h|step _ ih=>exact ih.succ
theorem QB(n:Nat):mf (n+1) (f_ 0 []):=⟨0,[],rfl,by decide,by simp,λc h=>by simp at h⟩
theorem JZ(n:Nat)(a:0<=i):mf (n+1) (f_ i []):=⟨i,[],rfl,a,by simp,λc h=>by simp at h⟩
theorem xX(j:Nat):((2:Int) ^ j).toNat.testBit j=true:=by
 have:((2:Int) ^ j).toNat=2 ^ j:=by
  have:((2:Int) ^ j)=((2 ^ j:Nat):Int):=by simp
  rw[this,bq]
 rw[this];simp[Nat.testBit_two_pow_self]
theorem vL{b a:Int}(d:0<=b)(f:0<=a)(h:iV n (f_ b j) a=Z')(c:b.toNat.testBit i=Z'):a.toNat.testBit i=true:=by
 cases n with
 |zero=>simp[iV]at h|succ n=>
  simp only[iV,aH,beq_iff_eq]at h;obtain⟨x,rfl⟩:=bp d;obtain⟨y,rfl⟩:=bp f;have e:=h.1;rw[xO]at e;have g:y &&& x=x:=by omega
  rw[bq]at c ⊢;rw[<- g,mQ]at c;simp at c;exact c.1
theorem PM{P:Nat->Prop}(b:Sub a P)(h:iV n (f_ (2 ^ j) c) a=Z'):P j:=b.2 j (vL (fI j) b.1 h (xX j))
theorem EI{b:Bool}(h:t a=Y b):eW t g c9 a=if b=Z' then g a else Y (.nx a):=by
 unfold eW;rw[h];cases b<;>rfl
theorem yU{b:bZ}(e:g b=Y (.rm d a)):a_ g h b=Y (.rm d a):=by unfold a_;rw[e];rfl
theorem Oq{s:FB}{r:List D}{y:Option D}{b:Bool}(h:fh (kS x) (kS k)=Y (.bl b)):dk (e2 fh (e2 cj (eV 1) (eK (.int 0))) (eK (kS k))) [oF s,Y (.tup (kS x::r)),y]=Y b:=by
 have e:e2 cj (eV 1) (eK (.int 0)) [oF s,Y (.tup (kS x::r)),y]=Y (kS x):=by show oT (kS x::r) ((0:Nat):Int)=_;unfold oT;rw[oH (by simp)];rfl
 have c:e2 fh (e2 cj (eV 1) (eK (.int 0))) (eK (kS k)) [oF s,Y (.tup (kS x::r)),y]=fh (kS x) (kS k):=by show ((e2 cj (eV 1) (eK (.int 0)) [oF s,Y (.tup (kS x::r)),y]).bind λa=>(Y (kS k)).bind λb=>fh a b)=_;rw[e];rfl
 unfold dk;rw[c,h];rfl
theorem xc{s:FB}:(Y (DO.rm d [oF s,x,y])).bind (mW aB)=Y (d,eG s):=by kernel_rfl
theorem Lz{F:List D->Option (D×D)}{s:FB}:mV 2 3 aB (cB F a) [eG s,.tup [kS "any"]]=Y (f_ 0 [],eG s):=by
 show (cB F a [oF s,Y (.tup [kS "any"]),M]).bind (mW aB)=_;unfold cB;have q:eW (dk (e2 fh (e2 cj (eV 1) (eK (.int 0))) (eK (kS "any")))) (dI (mP (gS (aC (eK (.int 0)) (aC (eF (fX aN)) aN))))) c9 [oF s,Y (.tup [kS "any"]),M]=Y (.rm (f_ 0 []) [oF s,Y (.tup [kS "any"]),M]):=by rw[EI (b:=Z') (Oq (by kernel_rfl))];rfl
 rw[yU q,xc]
theorem Iu{F:List D->Option (D×D)}{s:FB}(h:c4 [eG s,.str t]=Y (.int i,eG a)):mV 2 3 aB (cB F c) [eG s,.tup [kS "text",.str t]]=Y (f_ i [],eG a):=by
 show (cB F c [oF s,Y (.tup [kS "text",.str t]),M]).bind (mW aB)=_;unfold cB;have d:∀g,eW (dk (e2 fh (e2 cj (eV 1) (eK (.int 0))) (eK (kS "any")))) g c9 [oF s,Y (.tup [kS "text",.str t]),M]=Y (.nx [oF s,Y (.tup [kS "text",.str t]),M]):=λg=>by rw[EI (b:=Z_) (Oq (by kernel_rfl))];rfl
 rw[aQ (d _)];have m:bU "Facts" "enter_text" aB c4 0 (jn (mP (e2 cj (eV 1) (eK (.int 1)))) kl) [oF s,Y (.tup [kS "text",.str t]),M]=Y (.int i,[oF a,Y (.tup [kS "text",.str t]),M]):=by rw[lO (ρ1:=[oF s,Y (.tup [kS "text",.str t]),M]) (args:=[.str t]) (by decide) rfl rfl rfl h];rfl
 have q:eW (dk (e2 fh (e2 cj (eV 1) (eK (.int 0))) (eK (kS "text")))) (dI (yy (jn (bU "Facts" "enter_text" aB c4 0 (jn (mP (e2 cj (eV 1) (eK (.int 1)))) kl)) (jn (mP (eF (fX aN))) kl)))) c9 [oF s,Y (.tup [kS "text",.str t]),M]=Y (.rm (f_ i []) [oF a,Y (.tup [kS "text",.str t]),M]):=by rw[EI (b:=Z') (Oq (by kernel_rfl)),if_pos rfl];unfold dI yy;rw[show ∀f g b,jn f g b=(f b).bind λp=>(g p.2).bind λq=>Y (p.1::q.1,q.2) from λ_ _ _=>rfl,m];rfl
 rw[yU q,xc]
theorem Ly{F:List D->Option (D×D)}{s:FB}(h:a [eG s,.lst x]=Y (.int i,eG b)):mV 2 3 aB (cB F a) [eG s,.tup [kS "has",.lst x]]=Y (f_ i [],eG b):=by
 show (cB F a [oF s,Y (.tup [kS "has",.lst x]),M]).bind (mW aB)=_;unfold cB;have e:∀g,eW (dk (e2 fh (e2 cj (eV 1) (eK (.int 0))) (eK (kS "any")))) g c9 [oF s,Y (.tup [kS "has",.lst x]),M]=Y (.nx [oF s,Y (.tup [kS "has",.lst x]),M]):=λg=>by rw[EI (b:=Z_) (Oq (by kernel_rfl))];rfl
 have d:∀g,eW (dk (e2 fh (e2 cj (eV 1) (eK (.int 0))) (eK (kS "text")))) g c9 [oF s,Y (.tup [kS "has",.lst x]),M]=Y (.nx [oF s,Y (.tup [kS "has",.lst x]),M]):=λg=>by rw[EI (b:=Z_) (Oq (by kernel_rfl))];rfl
 rw[aQ (e _),aQ (d _)];have m:bU "Facts" "enter_has" aB a 0 (jn (mP (e2 cj (eV 1) (eK (.int 1)))) kl) [oF s,Y (.tup [kS "has",.lst x]),M]=Y (.int i,[oF b,Y (.tup [kS "has",.lst x]),M]):=by rw[lO (ρ1:=[oF s,Y (.tup [kS "has",.lst x]),M]) (args:=[.lst x]) (by decide) rfl rfl rfl h];rfl
 have q:eW (dk (e2 fh (e2 cj (eV 1) (eK (.int 0))) (eK (kS "has")))) (dI (yy (jn (bU "Facts" "enter_has" aB a 0 (jn (mP (e2 cj (eV 1) (eK (.int 1)))) kl)) (jn (mP (eF (fX aN))) kl)))) c9 [oF s,Y (.tup [kS "has",.lst x]),M]=Y (.rm (f_ i []) [oF b,Y (.tup [kS "has",.lst x]),M]):=by rw[EI (b:=Z') (Oq (by kernel_rfl)),if_pos rfl];unfold dI yy;rw[show ∀f g c,jn f g c=(f c).bind λp=>(g p.2).bind λq=>Y (p.1::q.1,q.2) from λ_ _ _=>rfl,m];rfl
 rw[yU q,xc]
theorem gO.mono{s:FB}{P:Nat->Prop}(h:gO s P a b y)(c:y<=z):gO s P a b z:=⟨h.q,h.lo,by have:=h.hi;omega,h.same,h.ld⟩
theorem qe(h:mf n d):∃a b,d=f_ a b:=by
 cases n with
 |zero=>exact h.elim|succ n=>obtain⟨a,b,e,_⟩:=h;exact⟨a,b,e⟩
theorem xP{f:List D}(h:mf n (f_ a f)):0<=a:=by
 cases n with
 |zero=>exact h.elim|succ n=>obtain⟨b,d,e,c,_⟩:=h;cases e;exact c
theorem so{b a:Int}{d:List D}(g:0<=b)(h:0<=a)(k:∀i,b.toNat.testBit i=Z'->a.toNat.testBit i=Z')(j:(d.all λc=>match c with|.lst f=>f.any λx=>iV n x a|_=>Z_)=Z'):iV (n+1) (f_ b d) a=true:=by
 simp only[iV,aH,beq_iff_eq];refine⟨?_,j⟩;obtain⟨x,rfl⟩:=bp g;obtain⟨y,rfl⟩:=bp h;rw[xO]
 congr 1
 apply pQ;intro i;rw[mQ];have:=k i;rw[bq,bq]at this;cases e:x.testBit i with
 |true=>rw[this e];rfl|false=>simp
theorem DD{d:List D}(h:iV (n+1) (f_ b d) a=Z'):(d.all λc=>match c with|.lst e=>e.any λx=>iV n x a|_=>Z_)=true:=by
 simp only[iV,aH,beq_iff_eq]at h;exact h.2
theorem f9{x y:Int}(d:0<=x)(c:0<=y)(i:Nat):(bO x y).toNat.testBit i=(x.toNat.testBit i||y.toNat.testBit i):=by
 obtain⟨a,rfl⟩:=bp d;obtain⟨b,rfl⟩:=bp c;rw[Ir,bq,bq,bq,LL]
theorem M0{f a:Int}(d:0<=b)(e:0<=f)(j:0<=a)(h:iV n (f_ (bO b f) k) a=Z'):iV n (f_ b k) a=Z'/\∀i,f.toNat.testBit i=Z'->a.toNat.testBit i=true:=by
 cases n with
 |zero=>simp[iV]at h|succ n=>
  have g:∀i,(bO b f).toNat.testBit i=Z'->a.toNat.testBit i=true:=λi c=>vL (fA d e) j h c
  exact⟨so d j (λi c=>g i (by rw[f9 d e,c];rfl)) (DD h),λi c=>g i (by rw[f9 d e,c];simp)⟩
theorem mf.mk(h:mf n (f_ b c))(d:0<=a):mf n (f_ a c):=by
 cases n with
 |zero=>exact h.elim|succ n=>obtain⟨x,y,e,_,f,g⟩:=h;cases e;exact⟨a,c,rfl,d,f,g⟩
theorem F8{b:Nat}{P:Nat->Prop}(v:n<=6):∀(k:List (aG×aG×D)) (p:aG×aG×D) (f:List D) (c:Nat),rJ (λa d=>x_ b P n a (Q2 d)) f ((p::k).map cD)->(∀i,i<k.length+1->(P (c+i)↔∀q∈(p::k).drop i,rj n q.2.2=Z'))->c+k.length+1<=b ->
  ∀l∈ij f (fS c (k.length+1)) (fS (c+1) k.length++[0]),∃j w,l=Ji ((2:Int) ^ j,w)/\j<b/\mf 6 w/\Rq b P w (P j)
 | [],p,f,c,A,B,y,l,C=>by
  cases A with
  |cons r t=>cases t;obtain⟨o,K,rfl⟩:=qe r.ad;have g:=xP r.ad;simp only[fS,ij,eU,c6,b8,aK,vf,or_false]at C;refine⟨c,_,C,by simp at y;omega,(r.ad.mk (fA g (by decide))).up v,?_⟩;intro J E a m x F;have:=(M0 g (by decide) x.1 F).1;have H:=r.snd J E a m x this;refine(B 0 (by simp)).mpr ?_;intro q s;simp at s;rw[s];exact H
 | p2::k,p,f,c,A,B,y,l,C=>by
  cases A with
  |@cons _ _ I _ r t=>
   obtain⟨o,K,rfl⟩:=qe r.ad;have g:=xP r.ad;have G:l=Ji ((2:Int) ^ c,f_ (bO o (2 ^ (c+1))) K)∨l∈ij I (fS (c+1) (k.length+1)) (fS (c+1+1) k.length++[0]):=by simpa only [fS,ij,aO,iq,aK] using C
   have ih:=F8 v k p2 _ (c+1) t (λi N=>by have:=B (i+1) (by simp only[aO];omega);rw[show c+(i+1)=c+1+i by omega]at this;simpa using this) (by simp only[aO]at y;omega)
   rcases G with e|h
   ·refine⟨c,_,e,by simp only[aO]at y;omega,(r.ad.mk (fA g (fI _))).up v,?_⟩;intro J E a m x F;obtain⟨O,L⟩:=M0 g (fI _) x.1 F;have H:=r.snd J E a m x O;have u:P (c+1):=E (c+1) (by simp only[aO]at y;omega) (x.2 (c+1) (L (c+1) (xX _)));have z:=(B 1 (by simp)).mp u;refine(B 0 (by simp)).mpr ?_;intro q s;rw[List.drop_zero]at s;rcases aK.mp s with rfl|s
    ·exact H
    ·exact z q (by simpa using s)
   ·exact ih l h
theorem z8:∀(e:List D) (d g:List Int),(∀a∈e,∃c i,a=f_ c i)->(ij e d g).length<=d.length
 |[],d,g,_=>by simp[ij]
 |a::e,[],g,h=>by obtain⟨c,i,rfl⟩:=h a (ay ..);simp[ij]
 |a::e,b::d,[],h=>by obtain⟨c,i,rfl⟩:=h a (ay ..);simp[ij]
 | a::e,b::d,f::g,h=>by
  obtain⟨c,i,rfl⟩:=h a (ay ..);have:=z8 e d g λx j=>h x (av _ j)
  simp only[ij,aO];omega
theorem Inv.enter{s b:FB}{P:Nat->Prop}(I:Inv s P)(S:bF s b)(W:LU b)(r:s.bits<=b.bits)(f:∀i,i<s.bits->(k i↔P i)):Inv b k:=by
 refine⟨W,?_,by rw[S.tk];have:=I.tk;omega,by rw[S.tk,S.tv];exact I.Xb,?_,by rw[S.da];have:=I.Wv;omega⟩
 ·intro v m;rw[S.tv]at m;obtain⟨j,d,e,p⟩:=I.tv v m;exact⟨j,by omega,e,(f j d).mpr p⟩
 ·intro l o;rw[S.da]at o;obtain⟨j,g,e,d,t,c⟩:=I.da l o;refine⟨j,g,e,by omega,t,?_⟩;have:=c.ext (b':=b.bits) (P2:=k) r (λi q h=>(f i q).mp h);intro y x a n w u;exact(f j d).mpr (this y x a n w u)
theorem AH{F F':List D->Option (D×D)}{n:Nat}(hF:CZ F n)(hn6:n<=6):N8 (mV 2 3 aB (hU F F')) n:=by
 intro s P nc Jq GX hw I hb;cases nc with
 |nil=>exact absurd rfl Jq|cons p ps=>
  have hZ:Zb (n+1)=3*(1+Zb n):=rfl;have hk:(p::ps).length*Zb n<=3*Zb n:=pP _ GX;obtain⟨s1,e1,b1,S1,W1⟩:=Gn I.Hj (p::ps) (by omega)
  let P1:Nat->Prop:=λi=>if i<s.bits then P i else ∀q∈(p::ps).drop (i-s.bits),rj n q.2.2=Z'
  have Z8:∀i,i<s.bits->(P1 i↔P i):=λi hi=>by show (if _ then _ else _)↔_;rw[if_pos hi]
  have I1:Inv s1 P1:=I.enter S1 W1 (by omega) Z8;obtain⟨asks,s2,P2,e2,E2,I2,A2⟩:=DE hF (g:=jn (mP (e2 cj (eV 0) (eK (.int 2)))) kl) (ar:=Q2) (f:=iL (eV 1)) (ρ:=[oF s1,Y (.lst ((p::ps).map cD)),Y (.lst ((fS s.bits (ps.length+1)).map D.int))]) (ds:=(p::ps).map cD) (s:=s1) (P:=P1) rfl rfl rfl (by intro d hd;obtain⟨q,hq,rfl⟩:=ie.mp hd;exact⟨hw q hq,λs=>⟨rfl,rfl⟩⟩) I1 (by rw[au];omega) (by rw[au];omega)
  have Z1:∀a∈asks,∃sR cs,a=f_ sR cs:=λa ha=>by obtain⟨d,_,r⟩:=A2.left a ha;exact qe r.ad
  have YR:asks.length=ps.length+1:=by rw[A2.len,au];rfl
  have hld:=E2.ld;have abN:=I.Wv;rw[S1.da]at hld;have hlo:=E2.lo;have Z0:=E2.hi;rw[au]at Z0;simp only[aO]at b1 hk GX Z0 hZ;have e3:=PX (s:=s2) (as:=asks) (b:=2 ^ s.bits) (bs:=fS (s.bits+1) ps.length) Z1 (i_ (by omega)) (by rw[tm];omega);have Z7:∀i,i<ps.length+1->(P2 (s.bits+i)↔∀q∈(p::ps).drop i,rj n q.2.2=Z'):=by intro i hi;rw[E2.same (s.bits+i) (by omega)];show (if _ then _ else _)↔_;rw[if_neg (by omega),Nat.add_sub_cancel_left]
  have Tq:=F8 (b:=s2.bits) (P:=P2) hn6 ps p asks s.bits A2 Z7 (by omega);have YC:=z8 asks (fS s.bits (ps.length+1)) (fS (s.bits+1) ps.length++[0]) Z1;rw[tm]at YC;refine⟨s.bits,{ s2 with da:=s2.da++ij asks (fS s.bits (ps.length+1)) (fS (s.bits+1) ps.length++[0]) },P2,?_,?_,?_,?_,?_⟩
  ·show (hU F F' [oF s,Y (.lst ((p::ps).map cD)),M]).bind (mW aB)=_;unfold hU;have q0:lu 2 (bU "Facts" "enter" aB gi 0 (jn (mP (eV 1)) kl)) [oF s,Y (.lst ((p::ps).map cD)),M]=Y (.nx [oF s1,Y (.lst ((p::ps).map cD)),Y (.lst ((fS s.bits (ps.length+1)).map D.int))]):=by unfold lu;rw[lO (ρ1:=[oF s,Y (.lst ((p::ps).map cD)),M]) (args:=[.lst ((p::ps).map cD)]) (by decide) rfl rfl rfl e1];rfl
   rw[aQ q0];have Wn:jn (tX (iL (eV 1)) [M,Y 0] (gN 0) (bU "Facts" "asked" aB F 1 (jn (mP (L2.e2 cj (eV 0) (eK (.int 2)))) kl)) 1 0 aB) (jn (mP (eV 2)) (jn (mP (eK (.int 0))) kl)) [oF s1,Y (.lst ((p::ps).map cD)),Y (.lst ((fS s.bits (ps.length+1)).map D.int))]=Y ([.lst asks,.lst ((fS s.bits (ps.length+1)).map D.int),.int 0],[oF s2,Y (.lst ((p::ps).map cD)),Y (.lst ((fS s.bits (ps.length+1)).map D.int))]):=by rw[show ∀f g ρ,jn f g ρ=(f ρ).bind λp=>(g p.2).bind λq=>Y (p.1::q.1,q.2) from λ_ _ _=>rfl,e2];rfl
   have q1:dS (bU "Facts" "lead" aB l6 0 (jn (tX (iL (eV 1)) [M,Y 0] (gN 0) (bU "Facts" "asked" aB F 1 (jn (mP (L2.e2 cj (eV 0) (eK (.int 2)))) kl)) 1 0 aB) (jn (mP (eV 2)) (jn (mP (eK (.int 0))) kl)))) [oF s1,Y (.lst ((p::ps).map cD)),Y (.lst ((fS s.bits (ps.length+1)).map D.int))]=Y (.nx [oF { s2 with da:=s2.da++ij asks (fS s.bits (ps.length+1)) (fS (s.bits+1) ps.length++[0]) },Y (.lst ((p::ps).map cD)),Y (.lst ((fS s.bits (ps.length+1)).map D.int))]):=by unfold dS;rw[lO (s:=s1) (s1:=s2) (by decide) rfl Wn rfl e3];rfl
   rw[aQ q1];have q2:L2.e2 cj (eV 2) (eK (.int 0)) [oF { s2 with da:=s2.da++ij asks (fS s.bits (ps.length+1)) (fS (s.bits+1) ps.length++[0]) },Y (.lst ((p::ps).map cD)),Y (.lst ((fS s.bits (ps.length+1)).map D.int))]=Y (.int (2 ^ s.bits)):=by show oT ((fS s.bits (ps.length+1)).map D.int) ((0:Nat):Int)=_;unfold oT;rw[oH (by rw[au,tm];omega)];rfl
   unfold dI mP;rw[q2];exact xc
  ·refine⟨E2.q.trans S1.q,by show s.bits<=s2.bits;omega,by show s2.bits<=_;omega,λi hi=>(E2.same i (by omega)).trans (Z8 i hi),?_⟩;show (s2.da++ij asks (fS s.bits (ps.length+1)) (fS (s.bits+1) ps.length++[0])).length+s.bits<=s.da.length+s2.bits;rw[aE];omega
  ·refine⟨⟨I2.Hj.nv,I2.Hj.star,I2.Hj.inner,I2.Hj.nk⟩,I2.tv,I2.tk,I2.Xb,?_,?_⟩
   ·intro l hl;rcases aP.mp hl with hl|hl
    ·exact I2.da l hl
    ·exact Tq l hl
   ·show (s2.da++ij asks (fS s.bits (ps.length+1)) (fS (s.bits+1) ps.length++[0])).length<=s2.bits;rw[aE];omega
  ·show s.bits<s2.bits;omega
  ·intro hp;exact(Z7 0 (by omega)).mp hp
theorem A0{F:List D->Option (D×D)}{s:FB}(w:fh (kS k) (kS "any")=Y (.bl Z_))(v:fh (kS k) (kS "text")=Y (.bl Z_))(u:fh (kS k) (kS "has")=Y (.bl Z_)){b:Bool}(t:fh (kS k) (kS "one")=Y (.bl b))(h:tX (iL (e2 cj (eV 1) (eK (.int 1)))) [M,Y 0] (gN 0) (bU "Facts" "asked" aB F 1 (jn (mP (eV 0)) kl)) 1 0 aB [oF s,Y (.tup [kS k,.lst a]),M]=Y (.lst c,[oF e,Y (.tup [kS k,.lst a]),M]))(p:b=Z_->kG [.lst c]=Y d)(r:b=Z'->d=f_ 0 [.lst c]):
  mV 2 3 aB (cB F i) [eG s,.tup [kS k,.lst a]]=Y (d,eG e):=by
 show (cB F i [oF s,Y (.tup [kS k,.lst a]),M]).bind (mW aB)=_;unfold cB;have o:∀g,eW (dk (e2 fh (e2 cj (eV 1) (eK (.int 0))) (eK (kS "any")))) g c9 [oF s,Y (.tup [kS k,.lst a]),M]=Y (.nx [oF s,Y (.tup [kS k,.lst a]),M]):=λg=>by rw[EI (b:=Z_) (Oq w)];rfl
 have n:∀g,eW (dk (e2 fh (e2 cj (eV 1) (eK (.int 0))) (eK (kS "text")))) g c9 [oF s,Y (.tup [kS k,.lst a]),M]=Y (.nx [oF s,Y (.tup [kS k,.lst a]),M]):=λg=>by rw[EI (b:=Z_) (Oq v)];rfl
 have m:∀g,eW (dk (e2 fh (e2 cj (eV 1) (eK (.int 0))) (eK (kS "has")))) g c9 [oF s,Y (.tup [kS k,.lst a]),M]=Y (.nx [oF s,Y (.tup [kS k,.lst a]),M]):=λg=>by rw[EI (b:=Z_) (Oq u)];rfl
 rw[aQ (o _),aQ (n _),aQ (m _)];have l:lu 2 (tX (iL (e2 cj (eV 1) (eK (.int 1)))) [M,Y 0] (gN 0) (bU "Facts" "asked" aB F 1 (jn (mP (eV 0)) kl)) 1 0 aB) [oF s,Y (.tup [kS k,.lst a]),M]=Y (.nx [oF e,Y (.tup [kS k,.lst a]),Y (.lst c)]):=by unfold lu;rw[h];rfl
 rw[aQ l];have f:=Oq (s:=e) (r:=[.lst a]) (y:=Y (.lst c)) t;cases b with
 |true=>
  have q:eW (dk (e2 fh (e2 cj (eV 1) (eK (.int 0))) (eK (kS "one")))) (dI (mP (gS (aC (eK (.int 0)) (aC (eF (fX (aC (eV 2) aN))) aN))))) c9 [oF e,Y (.tup [kS k,.lst a]),Y (.lst c)]=Y (.rm (f_ 0 [.lst c]) [oF e,Y (.tup [kS k,.lst a]),Y (.lst c)]):=by rw[EI (b:=Z') f];rfl
  rw[yU q,xc,r rfl]
 |false=>
  have q:∀g,eW (dk (e2 fh (e2 cj (eV 1) (eK (.int 0))) (eK (kS "one")))) g c9 [oF e,Y (.tup [kS k,.lst a]),Y (.lst c)]=Y (.nx [oF e,Y (.tup [kS k,.lst a]),Y (.lst c)]):=λg=>by rw[EI (b:=Z_) f];rfl
  rw[aQ (q _)];have j:∀J:List D->Option D,be J (aC (eV 2) aN) [oF e,Y (.tup [kS k,.lst a]),Y (.lst c)]=J [.lst c]:=λJ=>rfl
  unfold dI mP;rw[j,p rfl];exact xc
theorem yZ(i:Nat):∀(g:List D) (x:Int),0<=x->(∀a∈g,∃c k,a=f_ c k/\0<=c) ->
  0<=g.foldl (λn a=>match a with|.tup [.int c,_]=>bO n c|_=>n) x/\(x.toNat.testBit i=Z'->(g.foldl (λn a=>match a with|.tup [.int c,_]=>bO n c|_=>n) x).toNat.testBit i=Z')/\∀a∈g,∀c k,a=f_ c k->c.toNat.testBit i=Z'->(g.foldl (λn a=>match a with|.tup [.int c,_]=>bO n c|_=>n) x).toNat.testBit i=Z'
 |[],x,j,_=>⟨j,id,λa h=>by simp at h⟩
 | a::g,x,j,h=>by
  obtain⟨c,k,rfl,m⟩:=h a (ay ..);obtain⟨s,q,r⟩:=yZ i g (bO x c) (fA j m) λy t=>h y (av _ t)
  refine⟨s,λl=>q (by rw[f9 j m,l];rfl),?_⟩;intro b o f p e d;rcases aK.mp o with rfl|o
  ·cases e;exact q (by rw[f9 j m,d];simp)
  ·exact r b o f p e d
theorem JU{a:List D}:rj (n+1) (.tup [kS "has",.lst a])=a.all λb=>rj n (Q2 b):=by
 simp only[rj];rw[if_pos trivial]
theorem GC{a:List D}:rj (n+1) (.tup [kS "both",.lst a])=a.all (rj n):=by
 simp only[rj];rw[if_neg (by decide),if_pos trivial]
theorem JT{a:List D}:rj (n+1) (.tup [kS "one",.lst a])=a.any (rj n):=by
 simp only[rj];rw[if_neg (by decide),if_neg (by decide),if_pos trivial]
theorem ze{s:FB}(h:gW n d):c8 1 [Y d,oF s]=[Y d,oF s]:=by
 cases n with
 |zero=>exact h.elim|succ n=>rcases h with rfl|⟨t,rfl⟩|⟨b,rfl,_⟩|⟨a,rfl,_⟩|⟨a,rfl,_⟩<;>rfl
noncomputable def Y3:D->List D
 |.tup [_,.lst a]=>a|_=>[]
theorem Qu(a:D):(Y3 a).length=JV a:=by
 unfold Y3 JV;split
 ·rfl
 ·first|rfl|(rename_i h;split;exact(h _ _ rfl).elim;rfl)
theorem Jn:∀(b:List D) (k:Nat),(∀a∈b,JV a<=k)->(LS b).length<=b.length*k
 |[],k,_=>by simp[LS]
 | a::b,k,h=>by
  have g:=Jn b k λx c=>h x (av _ c)
  have f:=h a (ay ..);have e:LS (a::b)=Y3 a++LS b:=rfl;have d:=Qu a;rw[e,aE,aO,QR];omega
theorem Iv{F:List D->Option (D×D)}(hF:CZ F n)(hH:N8 F' n)(hn:n<=5):CZ (mV 2 3 aB (cB F F')) (n+1):=by
 intro s P w hw I hb;have hZ:Zb (n+1)=3*(1+Zb n):=rfl;have h3:1<=3 ^ (n+1):=Nat.one_le_pow _ _ (by decide);have h3b:3 ^ (n+1)<=729:=bX (pO (by decide) (show n+1<=6 by omega)) (by decide);rcases hw with rfl|⟨t,rfl⟩|⟨N,rfl,S,H,y⟩|⟨o,rfl,H,y⟩|⟨o,rfl,H,y⟩
 ·exact⟨_,s,P,Lz,(gO.refl s P).mono (fc _),I,⟨QB n,fc _,λ_ _ _ _ _ _=>rfl⟩⟩
 ·obtain⟨j,v,C,e,hj,E,G⟩:=BQ I (by omega) t;exact⟨_,v,C,Iu e,E.mono (by omega),G,⟨JZ n (fI j),fc _,λ_ _ _ _ _ _=>rfl⟩⟩
 ·obtain⟨j,v,C,e,E,G,hj,hp⟩:=hH s P N S H y I hb;refine⟨_,v,C,Ly e,E,G,⟨JZ n (fI j),fc _,?_⟩⟩;intro V B a m g p;have:=hp (B j hj (PM g p));rw[JU,c7];intro st R;obtain⟨q,hq,rfl⟩:=ie.mp R;exact this q hq
 ·have hk:o.length*Zb n<=3*Zb n:=pP _ H;obtain⟨b,v,C,e,E,G,A⟩:=DE hF (g:=jn (mP (eV 0)) kl) (ar:=λd=>d) (f:=iL (e2 cj (eV 1) (eK (.int 1)))) (ρ:=[oF s,Y (.tup [kS "both",.lst o]),M]) (ds:=o) (s:=s) (P:=P) rfl rfl rfl (λd K=>⟨y d K,λs=>⟨rfl,ze (y d K)⟩⟩) I (by omega) (by omega);have J:(LS b).length<=3 ^ (n+1):=by
   have B:=Jn b (3 ^ n) λa z=>by obtain⟨d,_,r⟩:=A.left a z;exact r.len
   rw[A.len]at B;have h2:o.length*3 ^ n<=3*3 ^ n:=pP _ H;rw[Nat.pow_succ];omega
  have k:∀a∈b,∃f u,a=f_ f u/\0<=f:=λa z=>by obtain⟨d,_,r⟩:=A.left a z;obtain⟨f,u,rfl⟩:=qe r.ad;exact⟨f,u,rfl,xP r.ad⟩
  have hJ:=K0 (as:=b) (λa z=>by obtain⟨f,u,e,_⟩:=k a z;exact⟨f,u,e⟩) (i_ (by omega));refine⟨_,v,C,A0 (by kernel_rfl) (by kernel_rfl) (by kernel_rfl) (b:=Z_) (by kernel_rfl) e (λ_=>hJ) (λh=>by cases h),E.mono (by omega),G,⟨?_,J,?_⟩⟩
  ·refine⟨_,_,rfl,(yZ 0 b 0 (by decide) k).1,by omega,?_⟩;intro c L;obtain⟨a,z,hca⟩:=List.mem_flatMap.mp L;obtain⟨d,_,r⟩:=A.left a z;obtain⟨f,u,rfl⟩:=qe r.ad;obtain⟨O,cs',e',_,_,X⟩:=r.ad.succ;cases e';exact X c hca
  ·intro V B a m g p;rw[GC,c7];intro w hw;obtain⟨ask,l,r⟩:=A.right w hw;obtain⟨f,u,rfl,T⟩:=k ask l;cases m with
   |zero=>simp[iV]at p|succ m=>
    refine r.snd V B a (m+1) g ?_;refine so T g.1 (λi hi =>?_) ?_
    ·exact vL (yZ 0 b 0 (by decide) k).1 g.1 p ((yZ i b 0 (by decide) k).2.2 _ l f u rfl hi)
    ·have:=DD p;rw[c7]at this ⊢;intro c L;exact this c (List.mem_flatMap.mpr ⟨_,l,L⟩)
 ·have hk:o.length*Zb n<=3*Zb n:=pP _ H;obtain⟨b,v,C,e,E,G,A⟩:=DE hF (g:=jn (mP (eV 0)) kl) (ar:=λd=>d) (f:=iL (e2 cj (eV 1) (eK (.int 1)))) (ρ:=[oF s,Y (.tup [kS "one",.lst o]),M]) (ds:=o) (s:=s) (P:=P) rfl rfl rfl (λd K=>⟨y d K,λs=>⟨rfl,ze (y d K)⟩⟩) I (by omega) (by omega);refine⟨f_ 0 [.lst b],v,C,A0 (by kernel_rfl) (by kernel_rfl) (by kernel_rfl) (b:=Z') (by kernel_rfl) e (λh=>by cases h) (λ_=>rfl),E.mono (by omega),G,⟨?_,h3,?_⟩⟩
  ·refine⟨0,_,rfl,by decide,by simp,?_⟩;intro c L;rw[b8.mp L];refine⟨b,rfl,by rw[A.len];omega,λx Q =>?_⟩;obtain⟨d,_,r⟩:=A.left x Q;exact r.ad
  ·intro V B a m g p;rw[JT,vh];cases m with
   |zero=>simp[iV]at p|succ m=>have:=DD p;simp only[mH,List.all_nil,Bool.and_true]at this;rw[vh]at this;obtain⟨x,Q,U⟩:=this;obtain⟨w,hw,r⟩:=A.left x Q;exact⟨w,hw,r.snd V B a m g U⟩
mutual
theorem A1:∀(n m:Nat),n<=6->2*n<=m->CZ (de m) n
 |0,m,_,_=>λ_ _ _ h=>h.elim
 |n+1,0,_,h=>by omega
 |n+1,m+1,a,h=>by rw[de];exact Iv (A1 n m (by omega) (by omega)) (D9 n m (by omega) (by omega)) (by omega)
theorem D9:∀(n m:Nat),n<=6->2*n+1<=m->N8 (cZ m) n
 |n,0,_,h=>by omega
 |n,m+1,a,h=>by rw[cZ];exact AH (A1 n m a (by omega)) a
end
theorem ZF(h:fh (kS x) (kS k)=Y (.bl b)):dk (e2 fh (e2 cj (eV 0) (eK (.int 0))) (eK (kS k))) [Y (.tup (kS x::r))]=Y b:=by
 have e:e2 cj (eV 0) (eK (.int 0)) [Y (.tup (kS x::r))]=Y (kS x):=by show oT (kS x::r) ((0:Nat):Int)=_;unfold oT;rw[oH (by simp)];rfl
 have c:e2 fh (e2 cj (eV 0) (eK (.int 0))) (eK (kS k)) [Y (.tup (kS x::r))]=fh (kS x) (kS k):=by show ((e2 cj (eV 0) (eK (.int 0)) [Y (.tup (kS x::r))]).bind λa=>(Y (kS k)).bind λb=>fh a b)=_;rw[e];rfl
 unfold dk;rw[c,h];rfl
theorem wX(e:g a=Y (.rt d)):a_ g h a=Y (.rt d):=by unfold a_;rw[e];rfl
theorem LG(h:fh (kS x) (kS k)=Y (.bl Z_)):eW (dk (e2 fh (e2 cj (eV 0) (eK (.int 0))) (eK (kS k)))) g c9 [Y (.tup (kS x::r))]=Y (.nx [Y (.tup (kS x::r))]):=by
 rw[EI (ZF h)];rfl
theorem XC(h:fh (kS x) (kS k)=Y (.bl Z')):eW (dk (e2 fh (e2 cj (eV 0) (eK (.int 0))) (eK (kS k)))) g c9 [Y (.tup (kS x::r))]=g [Y (.tup (kS x::r))]:=by
 rw[EI (ZF h)];rfl
theorem xn{f:DL}{b:bZ}{a:List D}(e:f b=Y a)(j:a.length<=1000)(h:∀d∈a,c [Y d]=Y (g d)):o6 f [M] (gN 0) iC c b=Y (a.map g):=by
 unfold o6;rw[e];simp only[aa];rw[if_pos (ic (i_ (by omega)))];exact sv a λd i=>⟨[Y d],rfl,h d i⟩
theorem x8:∀(n m:Nat) (w:D),n<=m->gW n w->fM m [w]=Y (.bl (rj n w))
 |0,_,_,_,h=>h.elim|n+1,0,_,h,_=>by omega
 | n+1,m+1,w,r,h=>by
  have ih:∀x,gW n x->fM m [x]=Y (.bl (rj n x)):=λx j=>x8 n m x (by omega) j
  have o:fM (m+1) [w]=(my (fM m) [Y w]).bind nC:=rfl;rw[o];generalize fM m=F at *
  unfold my;rcases h with rfl|⟨t,rfl⟩|⟨b,rfl,l,i,c⟩|⟨a,rfl,i,c⟩|⟨a,rfl,i,c⟩
  ·rw[aQ (LG (by kernel_rfl)),aQ (LG (by kernel_rfl)),aQ (LG (by kernel_rfl))];rfl
  ·rw[aQ (LG (by kernel_rfl)),aQ (LG (by kernel_rfl)),aQ (LG (by kernel_rfl))];rfl
  ·have f:o6 (iL (e2 cj (eV 0) (eK (.int 1)))) [M] (gN 0) iC (be F (aC (e2 cj (eV 0) (eK (.int 2))) aN)) [Y (.tup [kS "has",.lst (b.map cD)])]=Y ((b.map cD).map λg =>.bl (rj n (Q2 g))):=by
    refine xn rfl (by rw[au];omega) λd e =>?_
    obtain⟨p,k,rfl⟩:=ie.mp e;exact ih p.2.2 (c p k)
   have q:eW (dk (e2 fh (e2 cj (eV 0) (eK (.int 0))) (eK (kS "has")))) (eE (be (gP Z') (aC (eF (o6 (iL (e2 cj (eV 0) (eK (.int 1)))) [M] (gN 0) iC (be F (aC (e2 cj (eV 0) (eK (.int 2))) aN)))) aN))) c9 [Y (.tup [kS "has",.lst (b.map cD)])]=Y (.rt (.bl ((b.map cD).all λg=>rj n (Q2 g)))):=by rw[XC (by kernel_rfl)];unfold eE;rw[u4 f,Iw];rfl
   rw[wX q,JU];rfl
  ·have f:o6 (iL (e2 cj (eV 0) (eK (.int 1)))) [M] (gN 0) iC (be F (aC (eV 0) aN)) [Y (.tup [kS "both",.lst a])]=Y (a.map λx =>.bl (rj n x)):=
    xn rfl (by omega) λd e=>ih d (c d e)
   have q:eW (dk (e2 fh (e2 cj (eV 0) (eK (.int 0))) (eK (kS "both")))) (eE (be (gP Z') (aC (eF (o6 (iL (e2 cj (eV 0) (eK (.int 1)))) [M] (gN 0) iC (be F (aC (eV 0) aN)))) aN))) c9 [Y (.tup [kS "both",.lst a])]=Y (.rt (.bl (a.all λx=>rj n x))):=by rw[XC (by kernel_rfl)];unfold eE;rw[u4 f,Iw];rfl
   rw[aQ (LG (by kernel_rfl)),wX q,GC];rfl
  ·have f:o6 (iL (e2 cj (eV 0) (eK (.int 1)))) [M] (gN 0) iC (be F (aC (eV 0) aN)) [Y (.tup [kS "one",.lst a])]=Y (a.map λx =>.bl (rj n x)):=
    xn rfl (by omega) λd e=>ih d (c d e)
   have q:eW (dk (e2 fh (e2 cj (eV 0) (eK (.int 0))) (eK (kS "one")))) (eE (be (gP Z_) (aC (eF (o6 (iL (e2 cj (eV 0) (eK (.int 1)))) [M] (gN 0) iC (be F (aC (eV 0) aN)))) aN))) c9 [Y (.tup [kS "one",.lst a])]=Y (.rt (.bl (a.any λx=>rj n x))):=by rw[XC (by kernel_rfl)];unfold eE;rw[u4 f,N6];rfl
   rw[aQ (LG (by kernel_rfl)),aQ (LG (by kernel_rfl)),wX q,JT];rfl
def N9(F:List D->Option D)(n:Nat):Prop:=∀a:List (aG×aG×D),a.length<=1000->(∀p∈a,gW n p.2.2)->F [.lst (a.map cD)]=Y (.lst (a.map cD))
def J4(F:List D->Option D)(n:Nat):Prop:=∀w,gW n w->F [w]=Y w
theorem Gz{F:List D->Option D}(h:J4 a n):N9 (j2 1 1 (oI F a)) n:=by
 intro c l j;show (oI F a [Y (.lst (c.map cD))]).bind nC=_;unfold oI;have e:o6 (iL (eV 0)) [M] (gN 0) iC (gS (aC (e2 cj (eV 0) (eK (.int 0))) (aC (e2 cj (eV 0) (eK (.int 1))) (aC (be a (aC (e2 cj (eV 0) (eK (.int 2))) aN)) aN)))) [Y (.lst (c.map cD))]=Y ((c.map cD).map λd=>d):=by
  refine xn rfl (by rw[au];exact l) λd m =>?_
  obtain⟨p,k,rfl⟩:=ie.mp m;have hw:=h p.2.2 (j p k);have:be a (aC (e2 cj (eV 0) (eK (.int 2))) aN) [Y (cD p)]=a [p.2.2]:=rfl;rw[hw]at this;unfold gS;rw[show ∀f g b,aC f g b=(f b).bind λx=>(g b).bind λi=>Y (x::i) from λ_ _ _=>rfl];rw[show ∀b,aC (e2 cj (eV 0) (eK (.int 1))) (aC (be a (aC (e2 cj (eV 0) (eK (.int 2))) aN)) aN) b=(e2 cj (eV 0) (eK (.int 1)) b).bind λx=>((be a (aC (e2 cj (eV 0) (eK (.int 2))) aN) b).bind λy=>Y [y]).bind λi=>Y (x::i) from λ_=>rfl,this];rfl
 unfold t6;rw[e,QX];rfl
theorem XB{b:Bool}(h:Ha Z_ (kS x) (.tup [kS "both",kS "one"])=Y (.bl b)):dk (e2 (Ha Z_) (e2 cj (eV 0) (eK (.int 0))) (gS (aC (eK (kS "both")) (aC (eK (kS "one")) aN)))) [Y (.tup (kS x::r))]=Y b:=by
 have e:e2 cj (eV 0) (eK (.int 0)) [Y (.tup (kS x::r))]=Y (kS x):=by show oT (kS x::r) ((0:Nat):Int)=_;unfold oT;rw[oH (by simp)];rfl
 have c:e2 (Ha Z_) (e2 cj (eV 0) (eK (.int 0))) (gS (aC (eK (kS "both")) (aC (eK (kS "one")) aN))) [Y (.tup (kS x::r))]=Ha Z_ (kS x) (.tup [kS "both",kS "one"]):=by show ((e2 cj (eV 0) (eK (.int 0)) [Y (.tup (kS x::r))]).bind λa=>(Y (.tup [kS "both",kS "one"])).bind λb=>Ha Z_ a b)=_;rw[e];rfl
 unfold dk;rw[c,h];rfl
theorem xF{F:List D->Option D}(s:N9 F n)(o:J4 e n):J4 (j2 1 1 (jB F e)) (n+1):=by
 intro w h;have u:j2 1 1 (jB F e) [w]=(jB F e [Y w]).bind nC:=rfl;rw[u];unfold jB;rcases h with rfl|⟨t,rfl⟩|⟨a,rfl,p,m,j⟩|⟨c,rfl,m,j⟩|⟨c,rfl,m,j⟩
 ·have q:∀g,eW (dk (e2 (Ha Z_) (e2 cj (eV 0) (eK (.int 0))) (gS (aC (eK (kS "both")) (aC (eK (kS "one")) aN))))) g c9 [Y (.tup [kS "any"])]=Y (.nx [Y (.tup [kS "any"])]):=λg=>by rw[EI (XB (b:=Z_) (by kernel_rfl))];rfl
  rw[aQ (LG (by kernel_rfl)),aQ (q _)];rfl
 ·have q:∀g,eW (dk (e2 (Ha Z_) (e2 cj (eV 0) (eK (.int 0))) (gS (aC (eK (kS "both")) (aC (eK (kS "one")) aN))))) g c9 [Y (.tup [kS "text",.str t])]=Y (.nx [Y (.tup [kS "text",.str t])]):=λg=>by rw[EI (XB (b:=Z_) (by kernel_rfl))];rfl
  rw[aQ (LG (by kernel_rfl)),aQ (q _)];rfl
 ·have r:=s a (by omega) j;have q:eW (dk (e2 fh (e2 cj (eV 0) (eK (.int 0))) (eK (kS "has")))) (eE (gS (aC (eK (kS "has")) (aC (be F (aC (e2 cj (eV 0) (eK (.int 1))) aN)) aN)))) c9 [Y (.tup [kS "has",.lst (a.map cD)])]=Y (.rt (.tup [kS "has",.lst (a.map cD)])):=by rw[XC (by kernel_rfl)];have:be F (aC (e2 cj (eV 0) (eK (.int 1))) aN) [Y (.tup [kS "has",.lst (a.map cD)])]=F [.lst (a.map cD)]:=rfl;rw[r]at this;unfold eE gS;rw[show ∀b,aC (eK (kS "has")) (aC (be F (aC (e2 cj (eV 0) (eK (.int 1))) aN)) aN) b=((be F (aC (e2 cj (eV 0) (eK (.int 1))) aN) b).bind λy=>Y [y]).bind λi=>Y (kS "has" :: i) from λ_=>rfl,this];rfl
  rw[wX q];rfl
 ·have k:o6 (iL (e2 cj (eV 0) (eK (.int 1)))) [M] (gN 0) iC (be e (aC (eV 0) aN)) [Y (.tup [kS "both",.lst c])]=Y (c.map λd=>d):=
   xn rfl (by omega) λd l=>o d (j d l)
  rw[QX]at k;have q:eW (dk (e2 (Ha Z_) (e2 cj (eV 0) (eK (.int 0))) (gS (aC (eK (kS "both")) (aC (eK (kS "one")) aN))))) (eE (gS (aC (e2 cj (eV 0) (eK (.int 0))) (aC (eF (o6 (iL (e2 cj (eV 0) (eK (.int 1)))) [M] (gN 0) iC (be e (aC (eV 0) aN)))) aN)))) c9 [Y (.tup [kS "both",.lst c])]=Y (.rt (.tup [kS "both",.lst c])):=by rw[EI (XB (b:=Z') (by kernel_rfl)),if_pos rfl];unfold eE gS;rw[show ∀(f:DL) b,aC (e2 cj (eV 0) (eK (.int 0))) (aC (eF f) aN) b=(e2 cj (eV 0) (eK (.int 0)) b).bind λx=>(((f b).map D.lst).bind λy=>Y [y]).bind λi=>Y (x::i) from λ_ _=>rfl,k];rfl
  rw[aQ (LG (by kernel_rfl)),wX q];rfl
 ·have k:o6 (iL (e2 cj (eV 0) (eK (.int 1)))) [M] (gN 0) iC (be e (aC (eV 0) aN)) [Y (.tup [kS "one",.lst c])]=Y (c.map λd=>d):=
   xn rfl (by omega) λd l=>o d (j d l)
  rw[QX]at k;have q:eW (dk (e2 (Ha Z_) (e2 cj (eV 0) (eK (.int 0))) (gS (aC (eK (kS "both")) (aC (eK (kS "one")) aN))))) (eE (gS (aC (e2 cj (eV 0) (eK (.int 0))) (aC (eF (o6 (iL (e2 cj (eV 0) (eK (.int 1)))) [M] (gN 0) iC (be e (aC (eV 0) aN)))) aN)))) c9 [Y (.tup [kS "one",.lst c])]=Y (.rt (.tup [kS "one",.lst c])):=by rw[EI (XB (b:=Z') (by kernel_rfl)),if_pos rfl];unfold eE gS;rw[show ∀(f:DL) b,aC (e2 cj (eV 0) (eK (.int 0))) (aC (eF f) aN) b=(e2 cj (eV 0) (eK (.int 0)) b).bind λx=>(((f b).map D.lst).bind λy=>Y [y]).bind λi=>Y (x::i) from λ_ _=>rfl,k];rfl
  rw[aQ (LG (by kernel_rfl)),wX q];rfl
mutual
theorem CO:∀(n m:Nat),2*n+1<=m->N9 (jE m) n
 |n,0,h=>by omega
 |n,m+1,h=>by rw[jE];exact Gz (sL n m (by omega))
theorem sL:∀(n m:Nat),2*n<=m->J4 (dX m) n
 |0,m,_=>λ_ h=>h.elim
 |n+1,0,h=>by omega
 |n+1,m+1,h=>by rw[dX];exact xF (CO n m (by omega)) (sL n m (by omega))
end
def A3(n:Nat):Nat->Int->List (aG×aG×D)->Int
 |_,a,[]=>a|k,a,p::b=>A3 n (k+1) (if rj n p.2.2 then bO a (2 ^ k) else a) b
theorem GJ{n:Nat}(hn:n<=12)(q:D):∀(ps:List (aG×aG×D)) (k:Nat) (a:Int) (a2 a3:Option D),(∀p∈ps,gW n p.2.2)->k+ps.length<=1000->∃b2 b3,
  gw (D6 2 3) iJ (((ps.map cD).zipIdx k).map λp =>.tup [.int (p.2:Nat),p.1]) [Y q,Y (.int a),a2,a3]=Y (.nx [Y q,Y (.int (A3 n k a ps)),b2,b3])
 |[],k,a,a2,a3,_,_=>⟨a2,a3,rfl⟩| p::ps,k,a,a2,a3,h,hk=>by
  simp only[aO]at hk;have hc:oP [p.2.2]=Y (.bl (rj n p.2.2)):=x8 n 12 p.2.2 hn (h p (ay ..));have hb:iJ [Y q,Y (.int a),Y (.int (k:Nat)),Y (cD p)]=Y (.nx [Y q,Y (.int (if rj n p.2.2 then bO a (2 ^ k) else a)),Y (.int (k:Nat)),Y (cD p)]):=by
   have e1:eD (be oP (aC (e2 cj (eV 3) (eK (.int 2))) aN)) [Y q,Y (.int a),Y (.int (k:Nat)),Y (cD p)]=Y (rj n p.2.2):=by
    have:∀F,be F (aC (e2 cj (eV 3) (eK (.int 2))) aN) [Y q,Y (.int a),Y (.int (k:Nat)),Y (cD p)]=F [p.2.2]:=λF=>rfl
    unfold eD;rw[this,hc];rfl
   unfold iJ;rw[EI e1];cases rj n p.2.2 with
   |false=>rfl|true=>have e2:L2.e2 kB (eK (.int 1)) (eV 2) [Y q,Y (.int a),Y (.int (k:Nat)),Y (cD p)]=Y (.int (2 ^ k)):=(show _=kB (.int 1) (.int (k:Nat)) from rfl).trans (Kq (by omega));simp only[if_true];unfold nG;rw[e2];rfl
  rw[bh,GY,bh,pL (ρ1:=[Y q,Y (.int a),Y (.int (k:Nat)),Y (cD p)]) rfl hb];obtain⟨b2,b3,e⟩:=GJ hn q ps (k+1) (if rj n p.2.2 then bO a (2 ^ k) else a) (Y (.int (k:Nat))) (Y (cD p)) (λy hy=>h y (av _ hy)) (by omega);exact⟨b2,b3,e.trans rfl⟩
theorem QC(c:n<=12)(a:List (aG×aG×D))(h:∀p∈a,gW n p.2.2)(d:a.length<=1000):j7 [.lst (a.map cD)]=Y (.int (A3 n 0 0 a)):=by
 show (nP [Y (.lst (a.map cD)),M,M,M]).bind nC=_;unfold nP;rw[aQ (gE (d :=.int 0) rfl)];simp only[aZ,a9];obtain⟨g,f,e⟩:=GJ c (.lst (a.map cD)) a 0 0 M M h (by omega);have b:js (iE (eV 0)) (D6 2 3) iJ [Y (.lst (a.map cD)),Y (.int 0),M,M]=gw (D6 2 3) iJ (((a.map cD).zipIdx 0).map λp =>.tup [.int (p.2:Nat),p.1]) [Y (.lst (a.map cD)),Y (.int 0),M,M]:=rfl;rw[aQ (b.trans e)];rfl
noncomputable def Ld(s:FB)(a:List D):wF:=⟨s.q,(s.bits:Int),s.nk,s.nv,s.tk,s.tv,s.j1,s.vp,s.inner,s.da,a⟩
abbrev pF(a:List aG)(b:List D):Option D:=Y (.obj aB (.ins "Facts" a b))
theorem VG{F:List D->Option D}(h:F [q]=Y d):eI Z_ 0 "Facts" "question" (be F (aC (eV 1) aN)) [pF [] [],Y q]=Y (.nx [pF ["question"] [d],Y q]):=by
 have e:be F (aC (eV 1) aN) [pF [] [],Y q]=Y d:=(show be F (aC (eV 1) aN) [pF [] [],Y q]=F [q] from rfl).trans h;unfold eI;rw[e];simp only[aa];kernel_rfl
noncomputable def LR(q:List D):FB:=⟨q,0,[],[],[],[],0,0,0,[]⟩
theorem Q7(q:List D):LU (LR q):=⟨λv a=>by simp[LR]at a,gC 0,gC 0,aM 0⟩
theorem Vv(q:List D):Inv (LR q) λ_=>True:=⟨Q7 q,λv a=>by simp[LR]at a,aM 0,rfl,λv a=>by simp[LR]at a,aM 0⟩
theorem P4{n:Nat}(hn:n<=5)(nc:List (aG×aG×D))(h:∀p∈nc,gW n p.2.2)(hl:nc.length<=3)(hz:nc.length*(1+Zb n)<=999):
  ∃asks s P,gz [.ins "Facts" [] [],.lst (nc.map cD)]=Y (.eJ,fO (Ld s asks))/\s.q=nc.map cD/\Inv s P/\rJ (λa d=>x_ s.bits P n a (Q2 d)) asks (nc.map cD):=by
 have hc:wG [.lst (nc.map cD)]=Y (.lst (nc.map cD)):=CO n 12 (by omega) nc (by omega) h;have es:LR (nc.map cD)=LR (nc.map cD):=rfl;have W0:=Q7 (nc.map cD);have I0:=Vv (nc.map cD);obtain⟨s1,e1,b1,S1,W1⟩:=Gn W0 nc (by show 0+nc.length<=1000;omega);have b1':s1.bits=nc.length:=by rw[b1];show 0+nc.length=_;omega
 have I1:Inv s1 λ_=>True:=I0.enter S1 W1 (fc _) λ_ _=>Iff.rfl
 have Tj:s1.q=nc.map cD:=S1.q;have hm:nc.length*(1+Zb n)=nc.length+nc.length*Zb n:=by rw[Nat.mul_add,Nat.mul_one]
 have Wl:iL (ri 0 "Facts" "question") [oF s1,Y (.lst (nc.map cD))]=Y (nc.map cD):=by
  have:iL (ri 0 "Facts" "question") [oF s1,Y (.lst (nc.map cD))]=Y s1.q:=by kernel_rfl
  rw[this,Tj]
 obtain⟨asks,s2,P2,e2,E2,I2,A2⟩:=DE (A1 n 12 (by omega) (by omega)) (g:=jn (mP (e2 cj (eV 0) (eK (.int 2)))) kl) (ar:=Q2) (f:=iL (ri 0 "Facts" "question")) (ρ:=[oF s1,Y (.lst (nc.map cD))]) (ds:=nc.map cD) (s:=s1) (P:=λ_=>True) Wl rfl rfl (by intro d hd;obtain⟨q,hq,rfl⟩:=ie.mp hd;exact⟨h q hq,λs=>⟨rfl,rfl⟩⟩) I1 (by rw[au];omega) (by rw[au];omega)
 refine⟨asks,s2,P2,?_,E2.q.trans Tj,I2,A2⟩;show (j5 [pF [] [],Y (.lst (nc.map cD))]).bind (mW aB)=_;unfold j5;rw[aQ (VG hc)];generalize nc.map cD=q at *
 have q2:eI Z_ 0 "Facts" "bits" (eK (.int 0)) [pF ["question"] [.lst q],Y (.lst q)]=Y (.nx [pF ["question", "bits"] [.lst q,.int 0],Y (.lst q)]):=by kernel_rfl
 have q3:mu 0 "Facts" "by_name" .di (eK (.ig [] [])) [pF ["question", "bits"] [.lst q,.int 0],Y (.lst q)]=Y (.nx [pF ["question", "bits", "by_name"] [.lst q,.int 0,.ig [] []],Y (.lst q)]):=by kernel_rfl
 have q4:mu 0 "Facts" "by_text" .di (eK (.ig [] [])) [pF ["question", "bits", "by_name"] [.lst q,.int 0,.ig [] []],Y (.lst q)]=Y (.nx [pF ["question", "bits", "by_name", "by_text"] [.lst q,.int 0,.ig [] [],.ig [] []],Y (.lst q)]):=by kernel_rfl
 have q5:eI Z_ 0 "Facts" "starred" (eK (.int 0)) [pF ["question", "bits", "by_name", "by_text"] [.lst q,.int 0,.ig [] [],.ig [] []],Y (.lst q)]=Y (.nx [pF ["question", "bits", "by_name", "by_text", "starred"] [.lst q,.int 0,.ig [] [],.ig [] [],.int 0],Y (.lst q)]):=by kernel_rfl
 have q6:eI Z_ 0 "Facts" "stars" (eK (.int 0)) [pF ["question", "bits", "by_name", "by_text", "starred"] [.lst q,.int 0,.ig [] [],.ig [] [],.int 0],Y (.lst q)]=Y (.nx [pF ["question", "bits", "by_name", "by_text", "starred", "stars"] [.lst q,.int 0,.ig [] [],.ig [] [],.int 0,.int 0],Y (.lst q)]):=by kernel_rfl
 have q7:eI Z_ 0 "Facts" "inner" (eK (.int 0)) [pF ["question", "bits", "by_name", "by_text", "starred", "stars"] [.lst q,.int 0,.ig [] [],.ig [] [],.int 0,.int 0],Y (.lst q)]=Y (.nx [pF ["question", "bits", "by_name", "by_text", "starred", "stars", "inner"] [.lst q,.int 0,.ig [] [],.ig [] [],.int 0,.int 0,.int 0],Y (.lst q)]):=by kernel_rfl
 have q8:mu 0 "Facts" "leads" (.li .lf) (eK (.lst [])) [pF ["question", "bits", "by_name", "by_text", "starred", "stars", "inner"] [.lst q,.int 0,.ig [] [],.ig [] [],.int 0,.int 0,.int 0],Y (.lst q)]=Y (.nx [oF (LR q),Y (.lst q)]):=by kernel_rfl
 rw[aQ q2,aQ q3,aQ q4,aQ q5,aQ q6,aQ q7,aQ q8];have q9:dS (bU "Facts" "enter" aB gi 0 (jn (mP (ri 0 "Facts" "question")) kl)) [oF (LR q),Y (.lst q)]=Y (.nx [oF s1,Y (.lst q)]):=by unfold dS;rw[lO (s:=(LR q)) (s1:=(LR q)) (ρ1:=[oF (LR q),Y (.lst q)]) (args:=[.lst q]) (by decide) rfl (by kernel_rfl) rfl e1];rfl
 rw[aQ q9];unfold De;rw[show de 12=mO from rfl]at e2;rw[e2];kernel_rfl
noncomputable def Bn:cU:=⟨-1,0,0,0,1,1,1,1⟩
abbrev pC(a:List aG)(b:List D):Option D:=Y (.obj aF (.ins "Coming" a b))
theorem SN{F:List D->Option (D×D)}{f:wF}(h:F [.ins "Facts" [] [],q]=Y (.eJ,fO f)):eI Z_ 0 "Coming" "facts" (mB "Facts" F (aC (eV 1) aN)) [pC [] [],Y q]=Y (.nx [pC ["facts"] [fO f],Y q]):=by
 have e:mB "Facts" F (aC (eV 1) aN) [pC [] [],Y q]=Y (fO f):=by unfold mB;show ((F [.ins "Facts" [] [],q]).bind _)=_;rw[h];rfl
 unfold eI;rw[e];simp only[aa];kernel_rfl
theorem SO{F:List D->Option D}{f:wF}(h:F [.lst f.q]=Y (.int a)):eI Z_ 0 "Coming" "able" (lx [0] [] (be F (aC (bc "Facts" "question" (bc "Coming" "facts" (eV 0))) aN))) [pC ["facts", "full"] [fO f,.int b],Y q]=Y (.nx [pC ["facts", "full", "able"] [fO f,.int b,.int a],Y q]):=by
 have e:lx [0] [] (be F (aC (bc "Facts" "question" (bc "Coming" "facts" (eV 0))) aN)) [pC ["facts", "full"] [fO f,.int b],Y q]=Y (.int a):=by
  have:lx [0] [] (be F (aC (bc "Facts" "question" (bc "Coming" "facts" (eV 0))) aN)) [pC ["facts", "full"] [fO f,.int b],Y q]=(F [.lst f.q]).bind λd=>if si d=Z' then Y d else none:=by kernel_rfl
  rw[this,h];rfl
 unfold eI;rw[e];simp only[aa];kernel_rfl
theorem Ls{f:wF}(j:f.q.length<=1000)(k:gz [.ins "Facts" [] [],.lst q]=Y (.eJ,fO f))(l:j7 [.lst f.q]=Y (.int a)):
  eT [.ins "Coming" [] [],.lst q]=Y (.eJ,bw ⟨f,2 ^ f.q.length,a,0,0,[Bn],[]⟩):=by
 show (jK [pC [] [],Y (.lst q)]).bind (mW aF)=_;unfold jK;rw[aQ (SN k)];have i:eI Z_ 0 "Coming" "full" (lx [0] [] (e2 kB (eK (.int 1)) (be hR (aC (bc "Facts" "question" (bc "Coming" "facts" (eV 0))) aN)))) [pC ["facts"] [fO f],Y (.lst q)]=Y (.nx [pC ["facts", "full"] [fO f,.int (2 ^ f.q.length)],Y (.lst q)]):=by
  have e:lx [0] [] (e2 kB (eK (.int 1)) (be hR (aC (bc "Facts" "question" (bc "Coming" "facts" (eV 0))) aN))) [pC ["facts"] [fO f],Y (.lst q)]=Y (.int (2 ^ f.q.length)):=by refine mT (ρ':=[Y (.ins "Coming" ["facts"] [fO f]),Y (.lst q)]) rfl ?_ rfl;exact(show _=kB (.int 1) (.int (f.q.length:Nat)) from rfl).trans (Kq j)
  unfold eI;rw[e];simp only[aa];generalize (2:Int) ^ f.q.length=b;kernel_rfl
 rw[aQ i];generalize (2:Int) ^ f.q.length=b;rw[aQ (SO l)];have h:eI Z_ 0 "Coming" "taken" (eK (.int 0)) [pC ["facts", "full", "able"] [fO f,.int b,.int a],Y (.lst q)]=Y (.nx [pC ["facts", "full", "able", "taken"] [fO f,.int b,.int a,.int 0],Y (.lst q)]):=by kernel_rfl
 have g:eI Z_ 0 "Coming" "opened" (eK (.int 0)) [pC ["facts", "full", "able", "taken"] [fO f,.int b,.int a,.int 0],Y (.lst q)]=Y (.nx [pC ["facts", "full", "able", "taken", "opened"] [fO f,.int b,.int a,.int 0,.int 0],Y (.lst q)]):=by kernel_rfl
 have d:mu 0 "Coming" "rows" (.li (.fs "Row" [])) (Qb (JH "Row" (λ_=>tp []))) [pC ["facts", "full", "able", "taken", "opened"] [fO f,.int b,.int a,.int 0,.int 0],Y (.lst q)]=Y (.nx [pC ["facts", "full", "able", "taken", "opened", "rows"] [fO f,.int b,.int a,.int 0,.int 0,.lst [cA Bn]],Y (.lst q)]):=by kernel_rfl
 have c:eI Z_ 0 "Coming" "rests" (eF (fX aN)) [pC ["facts", "full", "able", "taken", "opened", "rows"] [fO f,.int b,.int a,.int 0,.int 0,.lst [cA Bn]],Y (.lst q)]=Y (.nx [oC ⟨f,b,a,0,0,[Bn],[]⟩,Y (.lst q)]):=by kernel_rfl
 rw[aQ h,aQ g,aQ d,c];kernel_rfl
theorem OR(h:eT [.ins "Coming" [] [],.lst q]=Y (.eJ,bw c)):jy [.ins "Sift" [] [],.lst q]=Y (.eJ,hG c []):=by
 show (kM [Y (.obj dF (.ins "Sift" [] [])),Y (.lst q)]).bind (mW dF)=_;unfold kM;have a:mu 0 "Sift" "coming" aF (mB "Coming" eT (aC (eV 1) aN)) [Y (.obj dF (.ins "Sift" [] [])),Y (.lst q)]=Y (.nx [Y (.obj dF (.ins "Sift" ["coming"] [bw c])),Y (.lst q)]):=by
  have e:mB "Coming" eT (aC (eV 1) aN) [Y (.obj dF (.ins "Sift" [] [])),Y (.lst q)]=Y (bw c):=by
   have:∀F,mB "Coming" F (aC (eV 1) aN) [Y (.obj dF (.ins "Sift" [] [])),Y (.lst q)]=(F [.ins "Coming" [] [],.lst q]).bind λr=>match r.1 with|.eJ=>Y r.2|_=>none:=λF=>rfl
   rw[this,h];rfl
  unfold mu;rw[e];simp only[aa];kernel_rfl
 rw[aQ a];kernel_rfl
def vM(ks:List iY)(a:List D)(n:aG):Int:=match (eX ks a (cX n)).getD (.int 0) with|.int i=>i|_=>0
theorem Ae{ks:List iY}(h:∀v∈a,∃i,0<=i/\v=D.int i):(eX ks a (cX n)).getD (.int 0)=.int (vM ks a n)/\0<=vM ks a n:=by
 obtain⟨i,b,e⟩:=F6 (k:=cX n) (ks:=ks) h;unfold vM;rw[e];exact⟨rfl,b⟩
theorem Tx{f:wF}(b:∀v∈f.nv,∃i,0<=i/\v=D.int i)(a:∀v∈f.tv,∃i,0<=i/\v=D.int i):WY f (λn=>bO f.j1 (vM f.nk f.nv n)) (λt=>vM f.tk f.tv t):=by
 refine⟨λn =>?_,λt =>?_⟩
 ·show (jJ [Y (fO f),Y (.str n)]).bind nC=_;unfold jJ eE;have:e2 Cs (bc "Facts" "starred" (eV 0)) (sH (bc "Facts" "by_name" (eV 0)) (eV 1) (eK (.int 0))) [Y (fO f),Y (.str n)]=Cs (.int f.j1) ((eX f.nk f.nv (cX n)).getD (.int 0)):=by kernel_rfl
  rw[this,(Ae b).1];rfl
 ·show (jI [Y (fO f),Y (.str t)]).bind nC=_;unfold jI eE;have:sH (bc "Facts" "by_text" (eV 0)) (eV 1) (eK (.int 0)) [Y (fO f),Y (.str t)]=Y ((eX f.tk f.tv (cX t)).getD (.int 0)):=by kernel_rfl
  rw[this,(Ae a).1];rfl
theorem Ag:∀(d:List D),(∀l∈d,∃j b,l=Ji ((2:Int) ^ j,b)/\mf 6 b)->∃c:List (Int×D),d=c.map Ji/\(∀p∈c,mf 6 p.2)/\∀p∈c,Ji p∈d
 |[],_=>⟨[],rfl,λp h=>by simp at h,λp h=>by simp at h⟩
 | l::d,h=>by
  obtain⟨j,b,e,k⟩:=h l (ay ..);obtain⟨c,m,g,i⟩:=Ag d λx f=>h x (av _ f)
  refine⟨((2:Int) ^ j,b)::c,by rw[e,m];rfl,?_,?_⟩
  ·intro p a;rcases aK.mp a with rfl|a
   ·exact k
   ·exact g p a
  ·intro p a;rcases aK.mp a with rfl|a
   ·rw[e];exact ay ..
   ·exact av _ (i p a)
structure qh(f:wF)(able:Int)(P:Nat->Prop)(fit lift:Int->Int->Int)(L9 txt:aG->Int):Prop where
 ok:QI f fit lift
 st:WY f L9 txt
 inner:0<=f.inner
 L9:∀n,0<=L9 n
 txt:∀t,Sub (txt t) P
 lift:∀n a,0<=n->Sub a P->Sub (lift n a) P
 TH:∀n a,0<=n->0<=a->0<=fit n a/\fit n a<2 ^ f.q.length
 Wu:∀n a i,0<=n->Sub a P->(fit n a).toNat.testBit i=true->n.toNat.testBit i=true/\able.toNat.testBit i=true
 mono:∀n a a',0<=n->0<=a->0<=a'->(∀i,a.toNat.testBit i=true->a'.toNat.testBit i=true)->∀i,(fit n a).toNat.testBit i=true->(fit n a').toNat.testBit i=true
 m3:0<=able/\able<2 ^ f.q.length
theorem gZ{x y:Int}(d:0<=x)(c:0<=y)(i:Nat):(bA x y).toNat.testBit i=(x.toNat.testBit i&&y.toNat.testBit i):=by
 obtain⟨a,rfl⟩:=bp d;obtain⟨b,rfl⟩:=bp c;rw[xO,bq,bq,bq,mQ]
theorem fK(d:0<=x)(c:0<=y):0<=bA x y:=by
 obtain⟨a,rfl⟩:=bp d;obtain⟨b,rfl⟩:=bp c;have:=xO a b;omega
theorem kJ(j i:Nat):((2:Int) ^ j).toNat.testBit i=decide (j=i):=by
 have:((2:Int) ^ j).toNat=2 ^ j:=by
  have:((2:Int) ^ j)=((2 ^ j:Nat):Int):=by simp
  rw[this,bq]
 rw[this,Nat.testBit_two_pow]
theorem mI{x:Int}(d:0<=x):(x != 0)=Z'↔∃i,x.toNat.testBit i=true:=by
 obtain⟨a,rfl⟩:=bp d;rw[bq];constructor
 ·intro h;have c:a≠0:=by intro e;subst e;simp at h
  obtain⟨i,b⟩:=Nat.exists_testBit_of_ne_zero c;exact⟨i,b⟩
 ·rintro⟨i,b⟩;have c:a≠0:=by intro e;subst e;simp at b
  simp only[bne_iff_ne,ne_eq];omega
theorem Ug{x:Int}(b:0<=x)(k:Nat):(bA x (2 ^ k) != 0)=x.toNat.testBit k:=by
 have h:=mI (fK b (fI k));cases e:x.toNat.testBit k with
 |true=>exact h.mpr ⟨k,by rw[gZ b (fI k),e,kJ];simp⟩
 |false=>
  cases c:(bA x (2 ^ k) != 0) with
  |false=>rfl|true=>obtain⟨i,a⟩:=h.mp c;rw[gZ b (fI k),kJ]at a;simp at a;rw[<- a.2]at a;rw[e]at a;exact absurd a.1 (by decide)
theorem Jz{n:Nat}{named atoms:Int}(l:0<=named):∀(g:List D) (k:Nat) (b:Int),0<=b ->
  0<=Gi n named atoms k b g/\∀i,((Gi n named atoms k b g).toNat.testBit i=Z'↔b.toNat.testBit i=Z'∨∃j c,i=k+j/\g[j]?=Y c/\named.toNat.testBit i=Z'/\iV n c atoms=Z')
 |[],k,b,h=>⟨h,λi=>⟨.inl,λh=>by rcases h with h|⟨j,c,_,e,_⟩;exact h;simp at e⟩⟩
 | a::g,k,b,h=>by
  have m:0<=(if bA named (2 ^ k) != 0&&iV n a atoms then bO b (2 ^ k) else b):=by
   split
   ·exact fA h (fI k)
   ·exact h
  obtain⟨f,d⟩:=Jz l g (k+1) (if bA named (2 ^ k) != 0&&iV n a atoms then bO b (2 ^ k) else b) m;refine⟨f,λi =>?_⟩;rw[show Gi n named atoms k b (a::g)=Gi n named atoms (k+1) (if bA named (2 ^ k) != 0&&iV n a atoms then bO b (2 ^ k) else b) g from rfl,d i,Ug l];have o:(if (named.toNat.testBit k&&iV n a atoms)=Z' then bO b (2 ^ k) else b).toNat.testBit i=Z'↔b.toNat.testBit i=Z'∨(i=k/\named.toNat.testBit k=Z'/\iV n a atoms=Z'):=by
   by_cases e:(named.toNat.testBit k&&iV n a atoms)=Z'
   ·rw[if_pos e,f9 h (fI k),kJ];simp only[aH]at e;simp only[bT,decide_eq_true_eq];constructor
    ·rintro(h|h)
     ·exact .inl h
     ·exact .inr ⟨h.symm,e⟩
    ·rintro(h|h)
     ·exact .inl h
     ·exact .inr h.1.symm
   ·rw[if_neg e];constructor
    ·exact .inl
    ·rintro(h|h)
     ·exact h
     ·exact absurd (by simp[h.2.1,h.2.2]) e
  rw[o];constructor
  ·rintro((h|⟨rfl,f,d⟩)|⟨j,c,rfl,e,f,d⟩)
   ·exact .inl h
   ·exact .inr ⟨0,a,rfl,rfl,f,d⟩
   ·exact .inr ⟨j+1,c,by omega,by simpa using e,f,d⟩
  ·rintro(h|⟨j,c,rfl,e,f,d⟩)
   ·exact .inl (.inl h)
   ·cases j with
    |zero=>simp at e;subst e;exact .inl (.inr ⟨rfl,f,d⟩)|succ j=>exact .inr ⟨j,c,by omega,by simpa using e,f,d⟩
theorem F4:∀(n m:Nat) (b:D) (a d:Int),mf m b->0<=a->0<=d->(∀i,a.toNat.testBit i=Z'->d.toNat.testBit i=Z')->iV n b a=Z'->iV n b d=Z'
 |0,m,b,a,d,_,_,_,_,h=>by simp[iV]at h
 |n+1,0,b,a,d,h,_,_,_,_=>h.elim|n+1,m+1,b,a,d,u,p,g,l,h=>by obtain⟨k,w,rfl,o,_,t⟩:=u;refine so o g (λi s=>l i (vL o p h s)) ?_;have:=DD h;rw[c7]at this ⊢;intro c f;obtain⟨v,rfl,_,r⟩:=t c f;have q:=this _ f;simp only[vh]at q ⊢;obtain⟨x,e,j⟩:=q;exact⟨x,e,F4 n m x a d (r x e) p g l j⟩
theorem Jh{P:Nat->Prop}(m:Sub a P):∀(g:List (Int×D)) (f:Int),(∀p∈g,∃j,p.1=2 ^ j/\Rq b P p.2 (P j))->Sub f P->Sub (M8 n c a f g) P
 |[],f,_,h=>h| (s,ask)::g,f,h,k=>by
  obtain⟨j,e,o⟩:=h _ (ay ..);simp only at e;subst e;refine Jh m g _ (λp q=>h p (av _ q)) ?_;split
  ·rename_i l;simp only[aH]at l;have r:=o P (λi _ h=>h) a n m l.2;refine⟨fA k.1 (fI j),λi d =>?_⟩;rw[f9 k.1 (fI j),kJ]at d;simp only[bT,decide_eq_true_eq]at d;rcases d with d|rfl
   ·exact k.2 i d
   ·exact r
  ·exact k
theorem J2{n:Nat}:∀(a:List (aG×aG×D)) (k:Nat) (x:Int),0<=x->0<=A3 n k x a/\∀i,((A3 n k x a).toNat.testBit i=Z'↔x.toNat.testBit i=Z'∨∃j p,i=k+j/\a[j]?=Y p/\rj n p.2.2=Z')
 |[],k,x,h=>⟨h,λi=>⟨.inl,λh=>by rcases h with h|⟨j,p,_,e,_⟩;exact h;simp at e⟩⟩
 | q::a,k,x,h=>by
  have c:0<=(if rj n q.2.2 then bO x (2 ^ k) else x):=by
   split
   ·exact fA h (fI k)
   ·exact h
  obtain⟨g,f⟩:=J2 a (k+1) (if rj n q.2.2 then bO x (2 ^ k) else x) c;refine⟨g,λi =>?_⟩;rw[show A3 n k x (q::a)=A3 n (k+1) (if rj n q.2.2 then bO x (2 ^ k) else x) a from rfl,f i];have d:(if rj n q.2.2=Z' then bO x (2 ^ k) else x).toNat.testBit i=Z'↔x.toNat.testBit i=Z'∨(i=k/\rj n q.2.2=Z'):=by
   by_cases e:rj n q.2.2=Z'
   ·rw[if_pos e,f9 h (fI k),kJ];simp only[bT,decide_eq_true_eq];constructor
    ·rintro(h|h)
     ·exact .inl h
     ·exact .inr ⟨h.symm,e⟩
    ·rintro(h|h)
     ·exact .inl h
     ·exact .inr h.1.symm
   ·rw[if_neg e];constructor
    ·exact .inl
    ·rintro(h|h)
     ·exact h
     ·exact absurd h.2 e
  rw[d];constructor
  ·rintro((h|⟨rfl,b⟩)|⟨j,p,rfl,e,b⟩)
   ·exact .inl h
   ·exact .inr ⟨0,q,rfl,rfl,b⟩
   ·exact .inr ⟨j+1,p,by omega,by simpa using e,b⟩
  ·rintro(h|⟨j,p,rfl,e,b⟩)
   ·exact .inl (.inl h)
   ·cases j with
    |zero=>simp at e;subst e;exact .inl (.inr ⟨rfl,b⟩)|succ j=>exact .inr ⟨j,p,by omega,by simpa using e,b⟩
theorem rJ.get{R:D->D->Prop}:∀ {d c:List D},rJ R d c->∀(j:Nat) (a:D),d[j]?=Y a->∃b,c[j]?=Y b/\R a b
 |_,_,.nil,j,a,h=>by simp at h
 |_,_,.cons r t,0,a,h=>by simp at h;subst h;exact⟨_,rfl,r⟩
 |_,_,.cons r t,j+1,a,h=>by obtain⟨b,e,k⟩:=t.get j a (by simpa using h);exact⟨b,by simpa using e,k⟩
theorem ph{x:Int}(a:0<=x)(h:∀i,x.toNat.testBit i=Z'->i<k):x<2 ^ k:=by
 have:x.toNat<2 ^ k:=by
  apply Nat.lt_pow_two_of_testBit;intro i b;cases e:x.toNat.testBit i with
  |false=>rfl|true=>have:=h i e;omega
 have e:((2 ^ k:Nat):Int)=(2:Int) ^ k:=by simp
 omega
theorem P_{n:Nat}(hn:n<=5)(k:List (aG×aG×D))(h:∀p∈k,gW n p.2.2)(O:k.length<=3)(hz:k.length*(1+Zb n)<=999):
  ∃f P T B H G,gz [.ins "Facts" [] [],.lst (k.map cD)]=Y (.eJ,fO f)/\f.q=k.map cD/\qh f (A3 n 0 0 k) P T B H G:=by
 obtain⟨c,s,P,e,X,I,A⟩:=P4 hn k h O hz;have C:(Ld s c).q.length=k.length:=by show s.q.length=_;rw[X,au]
 have YR:c.length=k.length:=by rw[A.len,au]
 have x:∀a∈c,mf 6 a:=λa z=>by obtain⟨d,_,r⟩:=A.left a z;exact r.ad.up (by omega)
 obtain⟨J,U,V,L⟩:=Ag s.da λl O=>by obtain⟨j,g,e,_,z,_⟩:=I.da l O;exact⟨j,g,e,z⟩
 have K:∀p∈J,∃j,p.1=2 ^ j/\Rq s.bits P p.2 (P j):=by
  intro p N;obtain⟨j,g,e,_,_,u⟩:=I.da _ (L p N);unfold Ji at e;cases e':p with
  |mk b a=>rw[e']at e;simp only[D.tup.injEq,List.cons.injEq,D.int.injEq]at e;refine⟨j,e.1,?_⟩;rw[show a=g from e.2.1];exact u
 have w:=J2 (n:=n) k 0 0 (by decide);refine⟨Ld s c,P,λm a=>Gi 6 m a 0 0 c,λm a=>M8 6 m a (bA a s.inner) J,λn=>bO s.j1 (vM s.nk s.nv n),λt=>vM s.tk s.tv t,e,X,?_⟩;have o:=λ(m a:Int) (h:0<=m)=>Jz (n:=6) (named:=m) (atoms:=a) h c 0 0 (by decide)
 have E:∀(j:Nat) (g:D),c[j]?=Y g->j<k.length:=λj g e=>by have:=(aj.mp e).1;omega
 refine⟨⟨λm a=>H0 (f:=Ld s c) (n:=6) (by decide) x (by show c.length<=1000;omega) m a,λm a=>KR (f:=Ld s c) (n:=6) (by decide) U V m a⟩,Tx (f:=Ld s c) I.Hj.nv (λv hv=>by obtain⟨j,_,e,_⟩:=I.tv v hv;exact⟨_,fI j,e⟩),I.Hj.inner,λm=>fA I.Hj.star (Ae I.Hj.nv).2,?_,?_,?_,?_,?_,?_⟩
 ·intro t;show Sub (vM s.tk s.tv t) P;unfold vM;cases e:eX s.tk s.tv (cX t) with
  |none=>exact⟨by decide,λi q=>by simp at q⟩
  |some d=>obtain⟨j,_,rfl,N⟩:=I.tv d (xD e);refine⟨fI j,λi q =>?_⟩;simp only[Option.getD_some]at q;rw[kJ]at q;simp at q;rw[<- q];exact N
 ·intro m a _ u;refine Jh u J _ K ⟨fK u.1 I.Hj.inner,λi q =>?_⟩;rw[gZ u.1 I.Hj.inner]at q;simp only[aH]at q;exact u.2 i q.1
 ·intro m a y z;refine⟨(o m a y).1,?_⟩;rw[C];refine ph (o m a y).1 λi q =>?_
  rcases((o m a y).2 i).mp q with h|⟨j,g,rfl,e,_⟩
  ·simp at h
  ·have:=E j g e;omega
 ·intro m a i y u q;rcases((o m a y).2 i).mp q with h|⟨j,g,rfl,e,S,R⟩
  ·simp at h
  ·refine⟨S,(w.2 _).mpr (.inr ?_)⟩;obtain⟨d,F,r⟩:=A.get j g e;rw[aT]at F;obtain⟨p,U,F⟩:=aS.1 F;cases F;exact⟨j,p,rfl,U,r.snd P (λ_ _ h=>h) a 6 u R⟩
 ·intro m a a' y z Q u i q;rcases((o m a y).2 i).mp q with h|⟨j,g,rfl,e,S,R⟩
  ·simp at h
  ·exact((o m a' y).2 _).mpr (.inr ⟨j,g,rfl,e,S,F4 6 6 g a a' (x g (dN e)) z Q u R⟩)
 ·refine⟨w.1,?_⟩;rw[C];refine ph w.1 λi q =>?_
  rcases(w.2 i).mp q with h|⟨j,p,rfl,e,_⟩
  ·simp at h
  ·have:=(aj.mp e).1;omega
abbrev tb(x:Int)(i:Nat):Prop:=x.toNat.testBit i=Z'
theorem Qo{x:Int}(b:0<=x)(i:Nat):(x*2).toNat.testBit i=(decide (1<=i)&&x.toNat.testBit (i-1)):=by
 obtain⟨a,rfl⟩:=bp b;have:((a:Int)*2).toNat=a <<< 1:=by rw[Nat.shiftLeft_eq];omega
 rw[this,Nat.testBit_shiftLeft,bq]
theorem uS{f:Int}(d:0<=b)(c:0<=p)(g:0<=a)(e:0<=f):0<=p_ b p a f:=by
 unfold p_;have:=fK (fA c (fK g d)) e;omega
theorem Ax{f:Int}(c:0<=b)(e:0<=p)(d:0<=a)(k:0<=f)(i:Nat):tb (p_ b p a f) i↔∃j,i=j+1/\(tb p j∨(tb a j/\tb b j))/\tb f j:=by
 unfold p_ tb;rw[Qo (fK (fA e (fK d c)) k),gZ (fA e (fK d c)) k,f9 e (fK d c),gZ d c];simp only[aH,bT,decide_eq_true_eq];constructor
 ·rintro⟨l,h,g⟩;exact⟨i-1,by omega,h,g⟩
 ·rintro⟨j,rfl,h,g⟩;exact⟨by omega,by simpa using h,by simpa using g⟩
theorem D1{f m:Int}(o:0<=b)(q:0<=p)(s:0<=a)(r:0<=f)(g:0<=d)(l:0<=n)(k:0<=m)(x:∀i,tb p i->tb d i)(w:∀i,tb a i->tb n i)(v:∀i,tb f i->tb m i)(i:Nat)(h:tb (p_ b p a f) i):tb (p_ b d n m) i:=by
 obtain⟨j,e,c,u⟩:=(Ax o q s r i).mp h;refine(Ax o g l k i).mpr ⟨j,e,?_,v j u⟩;rcases c with c|⟨c,t⟩
 ·exact .inl (x j c)
 ·exact .inr ⟨w j c,t⟩
theorem CW{f:Int}(b:0<=x)(d:0<=f)(h:f<2 ^ k)(g:k<=64):(bA x f).natAbs<2 ^ 64:=by
 have m:bA x f<2 ^ k:=ph (fK b d) λi a=>by
  rw[gZ b d]at a;simp only[aH]at a;have j:f.toNat<2 ^ k:=by
   have e:((2 ^ k:Nat):Int)=(2:Int) ^ k:=by simp
   omega
  exact Nat.lt_of_not_le λc=>by have:=QQ (x:=f.toNat) (i:=i) (bu j (pO (by decide) c));rw[this]at a;exact absurd a.2 (by decide)
 have n:=fK b d;have e:((2 ^ k:Nat):Int)=(2:Int) ^ k:=by simp
 have l:(2:Nat) ^ k<=2 ^ 64:=pO (by decide) g;omega
structure sN(r:cU):Prop where
 r0:0<=r.aR
 a0:0<=r.ra
 h0:0<=r.cv
 Jr:0<=r.ha
 rh:∀i,tb r.aR i->tb r.cv i
 ah:∀i,tb r.ra i->tb r.ha i
structure BV(inner able:Int)(k:Nat)(P:Nat->Prop)(pr r:cU):Prop where
 n0:0<=r.named
 at':Sub r.atoms P
 f0:0<=r.fits
 fk:r.fits<2 ^ k
 fn:∀i,tb r.fits i->tb r.named i/\tb able i
 hp:r.cv=p_ inner pr.cv pr.ha (bA r.named able)
 ha:r.ha=bO pr.ha r.cv
structure GL(inner:Int)(pr r:cU):Prop where
 re:r.aR=p_ inner pr.aR pr.ra r.fits
 ra:r.ra=bO pr.ra r.aR
theorem GL.pos{a:Int}{P:Nat->Prop}(l:0<=a)(e:0<=c)(p:sN g)(b:BV a c k P g r)(s:GL a g r):sN r:=by
 have d:=fK b.n0 e;have f:0<=r.aR:=by rw[s.re];exact uS l p.r0 p.a0 b.f0
 have m:0<=r.cv:=by rw[b.hp];exact uS l p.h0 p.Jr d
 have n:∀i,tb r.aR i->tb r.cv i:=by intro i h;rw[s.re]at h;rw[b.hp];refine D1 l p.r0 p.a0 b.f0 p.h0 p.Jr d p.rh p.ah (λj o =>?_) i h;have:=b.fn j o;unfold tb;rw[gZ b.n0 e];simp only[aH];exact this
 refine⟨f,by rw[s.ra];exact fA p.a0 f,m,by rw[b.ha];exact fA p.Jr m,n,?_⟩;intro i h;unfold tb at h ⊢;rw[s.ra,f9 p.a0 f]at h;rw[b.ha,f9 p.Jr m];simp only[bT]at h ⊢;rcases h with h|h
 ·exact .inl (p.ah i h)
 ·exact .inr (n i h)
def Kc(a b:Int)(k:Nat)(P:Nat->Prop):cU->List cU->Prop
 |_,[]=>True|pr,r::c=>BV a b k P pr r/\Kc a b k P r c
def QJ(a:Int):cU->List cU->Prop
 |_,[]=>True|pr,r::b=>GL a pr r/\QJ a r b
theorem Mh(a:Int):∀(b:cU) (c:List cU),QJ a b (fZ a b c)
 |_,[]=>trivial|b,r::c=>⟨⟨rfl,rfl⟩,Mh a (nK a b r) c⟩
theorem Mi{P:Nat->Prop}:∀(g d:cU) (f:List cU),d.cv=g.cv->d.ha=g.ha->Kc a e k P g f->Kc a e k P d (fZ a d f)
 |_,_,[],_,_,_=>trivial|g,d,r::f,i,h,⟨b,c⟩=>⟨⟨b.n0,b.at',b.f0,b.fk,b.fn,by rw[i,h];exact b.hp,by rw[h];exact b.ha⟩,Mi r (nK a d r) f rfl rfl c⟩
theorem WM{x y:Int}(g:0<=x)(f:0<=y):0<=bA x (bN y)/\∀i,(bA x (bN y)).toNat.testBit i=(x.toNat.testBit i && !y.toNat.testBit i):=by
 obtain⟨a,rfl⟩:=bp g;obtain⟨b,rfl⟩:=bp f;have e:bA (a:Int) (bN (b:Int))=(a:Int)-bA (a:Int) (b:Int):=PyProof.Rows.bitAnd_not _ _;rw[xO]at e
 let c:=Nat.bitwise (λp q=>p && !q) a b
 have d:∀i,c.testBit i=(a.testBit i && !b.testBit i):=λi=>Nat.testBit_bitwise rfl a b i
 have l:c ||| (a &&& b)=a:=by apply pQ;intro i;rw[LL,d,mQ];cases a.testBit i<;>cases b.testBit i<;>rfl
 have k:c &&& (a &&& b)=0:=by apply pQ;intro i;rw[mQ,d,mQ];cases a.testBit i<;>cases b.testBit i<;>simp
 have j:=Kd c (a &&& b);rw[l,k]at j;have h:bA (a:Int) (bN (b:Int))=(c:Int):=by omega
 rw[h];refine⟨by omega,λi =>?_⟩;rw[bq,bq,bq,d]
theorem Me{P:Nat->Prop}(g:0<=a)(j:k<=64):∀(i d:cU) (f:List cU),0<=d.aR->0<=d.ra->Kc a e k P i f->UR a d f
 |_,_,[],_,_,_=>trivial|i,d,r::f,m,h,⟨b,c⟩=>by have l:0<=(nK a d r).aR:=uS g m h b.f0;exact⟨CW (fA m (fK h g)) b.f0 b.fk j,Me g j r (nK a d r) f l (fA h l) c⟩
theorem mC{P:Nat->Prop}(j:0<=a)(f:0<=d):∀(g:cU) (e:List cU),sN g->Kc a d k P g e->QJ a g e->∀r∈e,sN r
 |_,[],_,_,_,r,h=>by cases h
 | g,q::e,p,⟨b,c⟩,⟨s,t⟩,r,h=>by
  have i:=s.pos j f p b;rcases aK.mp h with rfl|h
  ·exact i
  ·exact mC j f q e i c t r h
theorem zq(a:Int):∀(c:cU) (b:List cU),(fZ a c b).map (·.number)=b.map (·.number)
 |_,[]=>rfl|c,r::b=>by rw[fZ,bh,bh,zq a (nK a c r) b];rfl
theorem FQ{able f:Int}{k:Nat}{P:Nat->Prop}(u:0<=a)(m:0<=able)(g:0<=f):∀(n d:cU) (l:List cU),sN d->d.cv=n.cv->d.ha=n.ha->Kc a able k P n l->(∀r∈l,0<=r.aR/\∀i,tb r.cv i->¬tb f i)->oZ a f d l=[]
 |_,_,[],_,_,_,_,_=>rfl| n,d,r::l,p,e1,e2,⟨b,c⟩,h=>by
  have y:BV a able k P d (nK a d r):=⟨b.n0,b.at',b.f0,b.fk,b.fn,by rw[e1,e2];exact b.hp,by rw[e2];exact b.ha⟩;have o:=GL.pos u m p y ⟨rfl,rfl⟩;have t:=h r (ay ..);have v:AA a f d r=false:=by
   cases e:AA a f d r with
   |false=>rfl|true=>have x:0<=p_ a d.aR d.ra r.fits:=o.r0;have s:=WM x t.1;obtain⟨i,j⟩:=(mI (fK s.1 g)).mp e;rw[gZ s.1 g,s.2]at j;simp only[aH]at j;exact absurd j.2 (t.2 i (o.rh i j.1.1))
  rw[oZ,v,FQ u m g r (nK a d r) l o rfl rfl c λq w=>h q (av _ w)];rfl
variable {f:wF}{l:Int}{P:Nat->Prop}{k d:Int->Int->Int}{q s:aG->Int}
structure Gr(P:Nat->Prop)(o n:cU):Prop where
 nu:n.number=o.number
 na:n.named=o.named
 re:n.aR=o.aR
 ra:n.ra=o.ra
 hp:n.cv=o.cv
 ha:n.ha=o.ha
 gr:∀i,tb o.atoms i->tb n.atoms i
 sub:Sub n.atoms P
theorem Gr.refl{r:cU}(h:Sub r.atoms P):Gr P r r:=⟨rfl,rfl,rfl,rfl,rfl,rfl,λ_ h=>h,h⟩
theorem Gr.trans(h:Gr P a b)(g:Gr P b c):Gr P a c:=⟨g.nu.trans h.nu,g.na.trans h.na,g.re.trans h.re,g.ra.trans h.ra,g.hp.trans h.hp,g.ha.trans h.ha,λi e=>g.gr i (h.gr i e),g.sub⟩
theorem Pq(e:0<=x)(c:0<=y)(h:(bA y (bN x) != 0)=Z_):bO x y=x:=by
 obtain⟨a,rfl⟩:=bp e;obtain⟨b,rfl⟩:=bp c;have f:=WM c e;have g:∀i,¬(bA (b:Int) (bN (a:Int))).toNat.testBit i=true:=λi j=>by have:=(mI f.1).mpr ⟨i,j⟩;rw[h]at this;cases this
 rw[Ir]
 congr 1
 apply pQ;intro i;have:=g i;rw[f.2,bq,bq]at this;rw[LL];cases n:a.testBit i<;>cases m:b.testBit i<;>simp_all
theorem Hy(W:qh f l P k d q s):∀(p:Nat) (H:Bool) (a:List cU),(∀(j:Nat) (r:cU),a[j]?=Y r->0<=r.named/\Sub r.atoms P)->p<a.length->(∀(j:Nat) (r:cU),a[j]?=Y r->1<=j->(j=p->H=Z_)->r.fits=k r.named r.atoms) ->
  (r_ k d H p a).length=a.length/\(∀(j:Nat) (b:cU),(r_ k d H p a)[j]?=Y b->(1<=j->b.fits=k b.named b.atoms)/\∃r,a[j]?=Y r/\Gr P r b)
 | p,Z_,a,h,F,z=>by
  have e:r_ k d Z_ p a=a:=by cases p<;>rfl
  rw[e];exact⟨rfl,λj b u=>⟨λA=>z j b u A λ_=>rfl,b,u,Gr.refl (h j b u).2⟩⟩
 |0,Z',a,h,F,z=>by have e:r_ k d Z' 0 a=a:=rfl;rw[e];exact⟨rfl,λj b u=>⟨λA=>z j b u A λe=>by omega,b,u,Gr.refl (h j b u).2⟩⟩
 | p+1,Z',a,h,F,z=>by
  have u:a[p+1]?=Y a[p+1]:=aU F;have E:a[p]?=Y (a[p]'(by omega)):=aU (by omega);generalize a[p+1]=r at u;generalize (a[p]'(by omega))=w at E;have e:r_ k d Z' (p+1) a=r_ k d (bA (d r.named r.atoms) (bN w.atoms) != 0) p (C7 k d p r w a):=by show (match a[p+1]?,a[p]? with|some r,Y w=>_|_,_=>_)=_;rw[u,E]
  obtain⟨J,I⟩:=h _ _ u;obtain⟨K,B⟩:=h _ _ E;have C:=W.lift r.named r.atoms J I;have v:∀(j:Nat) (b:cU),(C7 k d p r w a)[j]?=Y b->∃o,a[j]?=Y o/\Gr P o b/\0<=b.named/\(j≠p->j≠p+1->b=o)/\(j=p+1->b.fits=k b.named b.atoms)/\(j=p->b.fits=o.fits/\b.named=o.named/\((bA (d r.named r.atoms) (bN w.atoms) != 0)=Z_->b.atoms=o.atoms)):=by
   intro j b c;unfold C7 at c;by_cases x:j=p
   ·subst x;rw[b9 (by simp;omega)]at c;cases c;refine⟨w,E,⟨rfl,rfl,rfl,rfl,rfl,rfl,λi D =>?_,⟨fA B.1 C.1,λi D =>?_⟩⟩,K,λh=>absurd rfl h,λh=>by omega,λ_=>⟨rfl,rfl,λL=>Pq B.1 C.1 L⟩⟩
    ·show (bO w.atoms (d r.named r.atoms)).toNat.testBit i=Z';rw[f9 B.1 C.1,D];rfl
    ·have t:(bO w.atoms (d r.named r.atoms)).toNat.testBit i=true:=D;rw[f9 B.1 C.1]at t;simp only[bT]at t;rcases t with t|t
     ·exact B.2 i t
     ·exact C.2 i t
   ·rw[aw (λh=>x h.symm)]at c;by_cases y:j=p+1
    ·subst y;rw[b9 F]at c;cases c;exact⟨r,u,⟨rfl,rfl,rfl,rfl,rfl,rfl,λi D=>D,I⟩,J,λ_ h=>absurd rfl h,λ_=>rfl,λh=>absurd h x⟩
    ·rw[aw (λh=>y h.symm)]at c;exact⟨b,c,Gr.refl (h j b c).2,(h j b c).1,λ_ _=>rfl,λh=>absurd h y,λh=>absurd h x⟩
  have ih:=Hy W p (bA (d r.named r.atoms) (bN w.atoms) != 0) (C7 k d p r w a) (λj b c=>by obtain⟨o,_,g,n,_⟩:=v j b c;exact⟨n,g.sub⟩) (by rw[zk];omega) (λj b c A N=>by
   obtain⟨o,G,g,_,a1,X,U⟩:=v j b c;by_cases x:j=p
   ·obtain⟨T,S,R⟩:=U x;have:=z j o G A λh=>by omega
    rw[T,S,R (N x)];exact this
   ·by_cases y:j=p+1
    ·exact X y
    ·rw[a1 x y];exact z j o G A λh=>absurd h y)
  rw[e];refine⟨by rw[ih.1,zk],λj b c =>?_⟩;obtain⟨Q,m,V,O⟩:=ih.2 j b c;obtain⟨o,G,g,_⟩:=v j m V;exact⟨Q,o,G,g.trans O⟩
end K21
namespace K21
open PySem L2
variable {f:wF}{d:Int}{P:Nat->Prop}{e l:Int->Int->Int}{m n:aG->Int}
theorem wk{f d:Int}:∀(o:cU) (i:List cU),Kc f d k P o i↔∀(j:Nat) (a b:cU),(o::i)[j]?=Y a->(o::i)[j+1]?=Y b->BV f d k P a b
 |o,[]=>⟨λ_ j a b p g=>by simp at g,λ_=>trivial⟩
 | o,r::i=>by
  constructor
  ·rintro⟨b,c⟩ j x y p g;cases j with
   |zero=>simp at p g;subst p g;exact b|succ j=>exact(wk r i).mp c j x y (by simpa using p) (by simpa using g)
  ·intro h;exact⟨h 0 o r rfl rfl,(wk r i).mpr λj a b p g=>h (j+1) a b (by simpa using p) (by simpa using g)⟩
theorem OY(W:qh f d P e l m n){h c a:cU}(b:BV f.inner d f.q.length P h r)(g:Gr P r a)(s:c.cv=h.cv)(q:c.ha=h.ha)(k:a.fits=e a.named a.atoms):BV f.inner d f.q.length P c a:=by
 have j:0<=a.named:=by rw[g.na];exact b.n0
 have p:=W.TH a.named a.atoms j g.sub.1;refine⟨j,g.sub,by rw[k];exact p.1,by rw[k];exact p.2,λi o =>?_,by rw[g.hp,s,q,g.na];exact b.hp,by rw[g.ha,q,g.hp];exact b.ha⟩;rw[k]at o;exact W.Wu a.named a.atoms i j g.sub o
theorem La(W:qh f d P e l m n){r a:cU}(j:0<=r.named)(h:Sub r.atoms P)(g:Gr P r a)(k:r.fits=e r.named r.atoms)(b:a.fits=e a.named a.atoms):∀i,tb r.fits i->tb a.fits i:=by
 intro i c;rw[k]at c;rw[b,g.na];exact W.mono r.named r.atoms a.atoms j h.1 g.sub.1 g.gr i c
end K21
namespace K21
open PySem L2
theorem tw(k:Nat):(0:Int)<=2 ^ k:=by
 have:((2:Int) ^ k)=((2 ^ k:Nat):Int):=by simp
 rw[this];exact Int.natCast_nonneg _
theorem sE(b:0<=x)(k:Nat):(bA x (2 ^ k) != 0)=Z'↔tb x k:=by
 have c:=tw k;rw[mI (fK b c)];constructor
 ·rintro⟨i,a⟩;rw[gZ b c,kJ]at a;simp only[aH,decide_eq_true_eq]at a;rw[a.2];exact a.1
 ·intro h;exact⟨k,by rw[gZ b c,kJ,h];simp⟩
structure LA(inner:Int)(pr r:cU):Prop where
 r0:0<=r.aR
 a0:0<=r.ra
 re:∀i,tb r.aR i->tb (p_ inner pr.aR pr.ra r.fits) i
 ra:∀i,tb r.ra i->tb pr.ra i∨tb r.aR i
def QK(a:Int):cU->List cU->Prop
 |_,[]=>True|pr,r::b=>LA a pr r/\QK a r b
theorem wi:∀(g:cU) (f:List cU),QK d g f↔∀(j:Nat) (a b:cU),(g::f)[j]?=Y a->(g::f)[j+1]?=Y b->LA d a b
 |g,[]=>⟨λ_ j a b i e=>by simp at e,λ_=>trivial⟩
 | g,r::f=>by
  constructor
  ·rintro⟨b,c⟩ j x y i e;cases j with
   |zero=>simp at i e;subst i e;exact b|succ j=>exact(wi r f).mp c j x y (by simpa using i) (by simpa using e)
  ·intro h;exact⟨h 0 g r rfl rfl,(wi r f).mpr λj a b i e=>h (j+1) a b (by simpa using i) (by simpa using e)⟩
def qN(k:Nat)(a:List Int):Nat:=(a.filter λx=> !(bA x (2 ^ k) != 0)).length
theorem tj(k:Nat)(x:Int)(a:List Int):qN k (x::a)=(if (bA x (2 ^ k) != 0) then 0 else 1)+qN k a:=by
 unfold qN;rw[G8];cases (bA x (2 ^ k) != 0)<;>simp<;>omega
theorem GA(k:Nat)(b a:List Int):qN k (b++a)=qN k b+qN k a:=by
 unfold qN;rw[List.filter_append,aE]
theorem Fd{able:Int}{k:Nat}{P:Nat->Prop}(x:0<=a):∀(o d q:cU) (f:List cU),0<=o.aR->0<=o.ra->0<=d.aR->0<=d.ra->(∀i,tb o.aR i->tb d.aR i)->(∀i,tb o.ra i->tb d.ra i)->Kc a able k P q f->QK a o f ->
  qN k ((fZ a d f).map (·.aR))+(oZ a (2 ^ k) d f).length=qN k (f.map (·.aR))/\(∀v∈fZ a d f,tb v.aR k->oZ a (2 ^ k) d f≠[]∨∃r∈f,tb r.aR k)
 |_,_,_,[],_,_,_,_,_,_,_,_=>⟨rfl,λr h=>by cases h⟩
 | o,d,q,r::f,D,C,y,t,H,B,⟨b,c⟩,⟨m,n⟩=>by
  have j:0<=p_ a d.aR d.ra r.fits:=uS x y t b.f0;have w:∀i,tb r.aR i->tb (p_ a d.aR d.ra r.fits) i:=λi h=>D1 x D C b.f0 y t b.f0 H B (λ_ h=>h) i (m.re i h)
  have J:0<=bO d.ra (p_ a d.aR d.ra r.fits):=fA t j;have G:∀i,tb r.ra i->tb (bO d.ra (p_ a d.aR d.ra r.fits)) i:=by
   intro i h;unfold tb;rw[f9 t j];simp only[bT];rcases m.ra i h with h|h
   ·exact .inl (B i h)
   ·exact .inr (w i h)
  obtain⟨K,I⟩:=Fd x r (nK a d r) r f m.r0 m.a0 j J w G c n;have A:=WM j m.r0;have u:AA a (2 ^ k) d r=Z'↔tb (p_ a d.aR d.ra r.fits) k/\¬tb r.aR k:=by show (bA (bA (p_ a d.aR d.ra r.fits) (bN r.aR)) (2 ^ k) != 0)=Z'↔_;rw[sE A.1];show (bA _ (bN r.aR)).toNat.testBit k=Z'↔_;rw[A.2];simp[tb]
  constructor
  ·show qN k (p_ a d.aR d.ra r.fits::(fZ a (nK a d r) f).map (·.aR))+((if AA a (2 ^ k) d r then [r.number] else [])++oZ a (2 ^ k) (nK a d r) f).length=qN k (r.aR::f.map (·.aR));rw[tj,tj,aE];by_cases g:tb r.aR k
   ·have l:=w k g;rw[if_pos ((sE j k).mpr l),if_pos ((sE m.r0 k).mpr g),if_neg (λh=>(u.mp h).2 g)];simp only[eU];omega
   ·rw[if_neg (λh=>g ((sE m.r0 k).mp h))];by_cases l:tb (p_ a d.aR d.ra r.fits) k
    ·rw[if_pos ((sE j k).mpr l),if_pos (u.mpr ⟨l,g⟩)];simp only[aO,eU];omega
    ·rw[if_neg (λh=>l ((sE j k).mp h)),if_neg (λh=>l (u.mp h).1)];simp only[eU];omega
  ·intro v p z;rw[fZ]at p;rcases aK.mp p with e|F
   ·subst e;by_cases g:tb r.aR k
    ·exact .inr ⟨r,ay ..,g⟩
    ·left;rw[oZ,if_pos (u.mpr ⟨z,g⟩)];simp
   ·rcases I v F z with h|⟨s,E,h⟩
    ·left;rw[oZ];simp[h]
    ·exact .inr ⟨s,av _ E,h⟩
structure Top(P:Nat->Prop)(t:cU):Prop where
 r:t.aR=1
 a:t.ra=1
 h:t.cv=1
 b:t.ha=1
 n0:0<=t.named
 at':Sub t.atoms P
theorem Top.pos{P:Nat->Prop}{t:cU}(T:Top P t):sN t:=⟨by rw[T.r];decide,by rw[T.a];decide,by rw[T.h];decide,by rw[T.b];decide,λi h=>by rw[T.h];rw[T.r]at h;exact h,λi h=>by rw[T.b];rw[T.a]at h;exact h⟩
structure N_(row:cU)(m:rn):Prop where
 o0:0<=m.own
 a0:0<=m.around
 oh:∀i,tb m.own i->tb row.cv i
 ah:∀i,tb m.around i->tb row.ha i
 lv:(∃i,tb m.own i)∨∃i,tb m.around i
structure GN(row:cU)(m:rn):Prop where
 ro:∀i,tb m.own i->¬tb row.aR i
 ra:∀i,tb m.around i->¬tb row.ra i
structure CB(f:wF)(able:Int)(P:Nat->Prop)(fit:Int->Int->Int)(c:fY)(t:cU)(rs:List cU)(nl:Nat)(d:Nat)(b:Bool):Prop where
 ff:c.f=f
 full:c.full=2 ^ f.q.length
 QD:c.able=able
 rows:c.rows=t::rs
 top:Top P t
 B:Kc f.inner able f.q.length P t rs
 F:∀r∈rs,r.fits=fit r.named r.atoms
 R:∀m∈c.rests,∃row,0<=m.place/\c.rows[m.place.toNat]?=some row/\N_ row m
 N:(c.rests.map (·.num)++rs.map (·.number)).Nodup
 M:∀x∈c.rests.map (·.num)++rs.map (·.number),x<c.opened
 UI:nl+c.rests.length+qN f.q.length (rs.map (·.aR))<=c.opened
 cnt:c.rests.length+rs.length<=c.opened
 len:rs.length=d
 op:b=true↔0<c.opened
 tk:c.opened<=c.taken
 sure:∀r∈rs,tb r.aR f.q.length->0<nl
structure CI(f:wF)(able:Int)(P:Nat->Prop)(fit:Int->Int->Int)(c:fY)(t:cU)(rs:List cU)(nl:Nat)(d:Nat)(b:Bool):Prop where
 cb:CB f able P fit c t rs nl d b
 S:QJ f.inner t rs
 RB:∀m∈c.rests,∀row,c.rows[m.place.toNat]?=some row->GN row m
structure PT(f:wF)(able:Int)(P:Nat->Prop)(fit:Int->Int->Int)(c:fY)(t:cU)(rs:List cU)(nl:Nat)(d:Nat)(b:Bool):Prop where
 cb:CB f able P fit c t rs nl d b
 M:QK f.inner t rs
theorem JS{able:Int}{P:Nat->Prop}(j:0<=a):∀(d q:cU) (g:List cU),0<=d.aR->0<=d.ra->Kc a able k P q g->QJ a d g->QK a d g
 |_,_,[],_,_,_,_=>trivial| d,q,r::g,m,f,⟨b,c⟩,⟨s,t⟩=>by
  have e:0<=r.aR:=by rw[s.re];exact uS j m f b.f0
  have l:0<=r.ra:=by rw[s.ra];exact fA f e
  refine⟨⟨e,l,λi h=>by rw[<- s.re];exact h,λi h =>?_⟩,JS j r r g e l c t⟩;unfold tb at h;rw[s.ra,f9 f e]at h;simp only[bT]at h;exact h
theorem CI.pt{f:wF}{able:Int}{P:Nat->Prop}{o:Int->Int->Int}{c:fY}{t:cU}{g:List cU}{n d:Nat}{b:Bool}(a:0<=f.inner)(I:CI f able P o c t g n d b):PT f able P o c t g n d b:=
 ⟨I.cb,JS a t t g I.cb.top.pos.r0 I.cb.top.pos.a0 I.cb.B I.S⟩
theorem vw(a:Int):∀(c:cU) (g:List cU) (j:Nat) (b:cU),(fZ a c g)[j]?=Y b->∃r,g[j]?=Y r/\b.cv=r.cv/\b.ha=r.ha/\b.fits=r.fits/\b.named=r.named/\b.atoms=r.atoms
 |_,[],j,b,h=>by simp[fZ]at h
 |c,r::g,0,b,h=>by simp[fZ]at h;subst h;exact⟨r,rfl,rfl,rfl,rfl,rfl,rfl⟩
 |c,r::g,j+1,b,h=>by rw[fZ,cn]at h;exact vw a (nK a c r) g j b h
theorem B'{A B:List Int}(h:(A++C).Nodup)(s:B.Sublist A):(B++C).Nodup:=List.Sublist.nodup (U2 s (EF C)) h
theorem MT(b:0<=x)(a:0<=y)(h:(bA x y != 0)=Z_)(i:Nat)(d:tb y i):¬tb x i:=λc=>by
 have:(bA x y != 0)=true:=(mI (fK b a)).mpr ⟨i,by rw[gZ b a,c,d];rfl⟩;rw[h]at this;cases this
section
variable {f:wF}{able:Int}{P:Nat->Prop}{o:Int->Int->Int}{c:fY}{t:cU}{g:List cU}{n d:Nat}{b:Bool}
theorem PT.U'(V:0<=f.inner)(H:0<=able)(I:PT f able P o c t g n d b):
  CI f able P o (Bo c (t::fZ f.inner t g)) t (fZ f.inner t g) (n+(oZ f.inner (2 ^ f.q.length) t g++(c.rests.filter (j3 (t::fZ f.inner t g))).map (·.num)).length) d b:=by
 have T:=I.cb.top;obtain⟨e1,X⟩:=Fd (able:=able) (k:=f.q.length) (P:=P) V t t t g T.pos.r0 T.pos.a0 T.pos.r0 T.pos.a0 (λ_ h=>h) (λ_ h=>h) I.cb.B I.M;have O:=Mi t t g rfl rfl I.cb.B;have N:=Mh f.inner t g;have F:=mC V H t (fZ f.inner t g) T.pos O N;have w:=zr f.inner t g;have y:∀(j:Nat) (q:cU),(t::fZ f.inner t g)[j]?=Y q->sN q/\∃r,c.rows[j]?=Y r/\q.cv=r.cv/\q.ha=r.ha:=by
  intro j q h;cases j with
  |zero=>simp at h;subst h;exact⟨T.pos,t,by rw[I.cb.rows];rfl,rfl,rfl⟩
  |succ j=>rw[cn]at h;obtain⟨r,C,D,k,_⟩:=vw f.inner t g j q h;exact⟨F q (dN h),r,by rw[I.cb.rows,cn];exact C,D,k⟩
 have S:(c.rests.filter (j3 (t::fZ f.inner t g))).length+(c.rests.filter λm=> !j3 (t::fZ f.inner t g) m).length=c.rests.length:=by
  generalize j3 (t::fZ f.inner t g)=p;generalize c.rests=l
  induction l with|nil=>rfl|cons x xs ih=>rw[G8,G8];cases p x<;>simp<;>omega
 have u:∀m∈c.rests,∃a,(t::fZ f.inner t g)[m.place.toNat]?=Y a:=by
  intro m A;obtain⟨E,C,D,_⟩:=I.cb.R m A;have k:=(aj.mp D).1;rw[I.cb.rows]at k;have v:m.place.toNat<(t::fZ f.inner t g).length:=by rw[aO,w];rw[aO]at k;exact k
  exact⟨_,aU v⟩
 refine⟨⟨I.cb.ff,I.cb.full,I.cb.QD,rfl,T,O,?_,?_,?_,?_,?_,?_,?_,I.cb.op,I.cb.tk,?_⟩,N,?_⟩
 ·intro q z;obtain⟨j,R⟩:=gB z;obtain⟨r,C,_,_,v,G,J⟩:=vw f.inner t g j q R;rw[v,G,J];exact I.cb.F r (dN C)
 ·intro m A;have s:m∈c.rests:=(fN.mp A).1;obtain⟨E,C,D,k⟩:=I.cb.R m s;obtain⟨a,v⟩:=u m s;obtain⟨_,r,G,J,U⟩:=y _ _ v;rw[D]at G;cases G;exact⟨a,C,v,k.o0,k.a0,λi h=>by rw[J];exact k.oh i h,λi h=>by rw[U];exact k.ah i h,k.lv⟩
 ·rw[zq];exact B' I.cb.N (List.Sublist.map _ U0)
 ·intro x K;rw[zq]at K;refine I.cb.M x ?_;rcases aP.mp K with h|h
  ·obtain⟨m,A,e⟩:=ie.mp h;exact aP.mpr (.inl (ie.mpr ⟨m,(fN.mp A).1,e⟩))
  ·exact aP.mpr (.inr h)
 ·have:=I.cb.UI;show ((n+(oZ f.inner (2 ^ f.q.length) t g++(c.rests.filter (j3 (t::fZ f.inner t g))).map (·.num)).length:Nat):Int)+((c.rests.filter λm=> !j3 (t::fZ f.inner t g) m).length:Nat)+(qN f.q.length ((fZ f.inner t g).map (·.aR)):Nat)<=c.opened;rw[aE,au];omega
 ·have:=I.cb.cnt;show ((c.rests.filter λm=> !j3 (t::fZ f.inner t g) m).length:Int)+((fZ f.inner t g).length:Nat)<=c.opened;omega
 ·rw[w];exact I.cb.len
 ·intro q z h;rcases X q z h with h|⟨r,Q,h⟩
  ·have:=List.length_pos_iff.mpr h;rw[aE];omega
  ·have:=I.cb.sure r Q h;omega
 ·intro m A a v;have s:=fN.mp A;obtain⟨E,C,D,k⟩:=I.cb.R m s.1;obtain⟨L,_⟩:=y _ _ v;have B:j3 (t::fZ f.inner t g) m=false:=by simpa using s.2
  unfold j3 at B;rw[show (t::fZ f.inner t g)[m.place.toNat]?=Y a from v]at B;have B:(bA a.aR m.own != 0||bA a.ra m.around != 0)=false:=B;rw[Bool.or_eq_false_iff]at B;exact⟨λi h=>MT L.r0 k.o0 B.1 i h,λi h=>MT L.a0 k.a0 B.2 i h⟩
end
variable {f:wF}{n:Int}{P:Nat->Prop}{k s:Int->Int->Int}{u v:aG->Int}{c:fY}{t:cU}{a:List cU}{o d:Nat}{b:Bool}
theorem PT.G_(I:PT f n P k c t a o d b)(y:rn)(g:y∈c.rests):Xx c.rows y:=by
 obtain⟨e,i,h,_⟩:=I.cb.R y g;have:=(aj.mp h).1;exact⟨i,by omega⟩
theorem JA{b:Type}(p:b->Bool)(l:List b):(l.filter p).length<=l.length:=List.length_filter_le p l
theorem PN{d i:Type}{g:d->i}{c b:List d}(m:c.length=b.length)(h:∀(j:Nat) (x:d),c[j]?=Y x->∃y,b[j]?=Y y/\g x=g y):c.map g=b.map g:=by
 apply ED;intro j;rw[aT,aT];cases f:c[j]? with
 |none=>
  have:b[j]?=none:=by rw[l']at f ⊢;omega
  rw[this]
 |some x=>obtain⟨y,l,e⟩:=h j x f;rw[l];exact congrArg Y e
theorem PT.grow(W:qh f n P k s u v)(I:PT f n P k c t a o d b)(p:List cU)(U:p.length=c.rows.length)
  (h:∀(j:Nat) (z:cU),p[j]?=Y z->(1<=j->z.fits=k z.named z.atoms)/\∃r,c.rows[j]?=Y r/\Gr P r z) :
  ∃E l,p=E::l/\PT f n P k { c with rows:=p } E l o d b/\l.map (·.cv)=a.map (·.cv)/\l.map (·.ha)=a.map (·.ha):=by
 have A:=I.cb.rows;cases hx:p with
 |nil=>rw[hx,A]at U;simp at U|cons E l=>
  have C:l.length=a.length:=by rw[hx,A]at U;simpa using U
  rw[A,hx]at h;have Q:Gr P t E:=by obtain⟨_,r,e,g⟩:=h 0 E rfl;simp at e;rw[e];exact g
  have hS:∀(j:Nat) (z:cU),l[j]?=Y z->z.fits=k z.named z.atoms/\∃r,a[j]?=Y r/\Gr P r z:=by intro j z O;obtain⟨h1,r,e,g⟩:=h (j+1) z (by rw[cn];exact O);exact⟨h1 (by omega),r,by rw[cn]at e;exact e,g⟩
  have hB:=(wk t a).mp I.cb.B;have hM:=(wi t a).mp I.M;have B:∀ {β:Type}(g:cU->β),(∀r z,Gr P r z->g z=g r)->l.map g=a.map g:=λg hg=>PN C λj x O=>by obtain⟨_,r,e,q⟩:=hS j x O;exact⟨r,e,hg r x q⟩
  refine⟨E,l,rfl,⟨⟨I.cb.ff,I.cb.full,I.cb.QD,rfl,?_,?_,?_,?_,?_,?_,?_,?_,?_,I.cb.op,I.cb.tk,?_⟩,?_⟩,B _ λ_ _ g=>g.hp,B _ λ_ _ g=>g.ha⟩
  ·have T:=I.cb.top;exact⟨by rw[Q.re];exact T.r,by rw[Q.ra];exact T.a,by rw[Q.hp];exact T.h,by rw[Q.ha];exact T.b,by rw[Q.na];exact T.n0,Q.sub⟩
  ·refine(wk E l).mpr λj x y V L =>?_
   obtain⟨_,K,H,R⟩:=h j x V;obtain⟨fy,J,S,D⟩:=h (j+1) y L;exact OY W (hB j K J H S) D R.hp R.ha (fy (by omega))
  ·intro z N;obtain⟨j,O⟩:=gB N;exact(hS j z O).1
  ·intro m hm;obtain⟨row,h1,h2,h3⟩:=I.cb.R m hm;have h4:=(aj.mp h2).1;have h5:m.place.toNat<(E::l).length:=by rw[<- hx,U];exact h4
   have h6:=aU h5;obtain⟨_,r,e,g⟩:=h _ _ h6;rw[<- A,h2]at e;cases e;exact⟨_,h1,h6,h3.o0,h3.a0,λi G=>by rw[g.hp];exact h3.oh i G,λi G=>by rw[g.ha];exact h3.ah i G,h3.lv⟩
  ·rw[B (·.number) λ_ _ g=>g.nu];exact I.cb.N
  ·rw[B (·.number) λ_ _ g=>g.nu];exact I.cb.M
  ·rw[B (·.aR) λ_ _ g=>g.re];exact I.cb.UI
  ·rw[C];exact I.cb.cnt
  ·rw[C];exact I.cb.len
  ·intro z N hb;obtain⟨j,O⟩:=gB N;obtain⟨_,r,e,g⟩:=hS j z O;rw[g.re]at hb;exact I.cb.sure r (dN e) hb
  ·refine(wi E l).mpr λj x y V L =>?_
   obtain⟨_,K,H,R⟩:=h j x V;obtain⟨fy,J,S,D⟩:=h (j+1) y L;have m0:=hM j K J H S;have b0:=hB j K J H S;have hy0:J∈a:=by rw[cn]at S;exact dN S
   have X:=La W b0.n0 b0.at' D (I.cb.F J hy0) (fy (by omega));have F:0<=K.aR/\0<=K.ra:=by
    cases j with
    |zero=>simp at H;subst H;exact⟨I.cb.top.pos.r0,I.cb.top.pos.a0⟩|succ j=>obtain⟨w,hw⟩:∃w,(t::a)[j]?=Y w:=⟨_,aU (by have:=(aj.mp H).1;omega)⟩;have:=hM j w K hw H;exact⟨this.r0,this.a0⟩
   have hf':0<=y.fits:=by rw[fy (by omega),D.na];exact(W.TH J.named y.atoms b0.n0 D.sub.1).1
   refine⟨by rw[D.re];exact m0.r0,by rw[D.ra];exact m0.a0,λi G =>?_,λi G =>?_⟩
   ·rw[D.re]at G;rw[R.re,R.ra];exact D1 W.inner F.1 F.2 b0.f0 F.1 F.2 hf' (λ_ h=>h) (λ_ h=>h) X i (m0.re i G)
   ·rw[D.ra]at G;rw[R.ra,D.re];exact m0.ra i G
end K21
namespace K21
open PySem L2
variable {f:wF}{n:Int}{P:Nat->Prop}{fit lift:Int->Int->Int}{p u:aG->Int}{c:fY}{t:cU}{l:List cU}{v d:Nat}{b:Bool}
noncomputable def ft:cU->List cU->cU
 |q,[]=>q|_,r::l=>ft r l
theorem xm:∀(q:cU) (l:List cU),(q::l).getLast? = Y (ft q l)
 |q,[]=>rfl|q,r::l=>by rw[List.getLast?_cons_cons,xm r l];rfl
theorem Je:∀(q:cU) (l:List cU),(q::l)[l.length]?=Y (ft q l)
 |q,[]=>rfl|q,r::l=>by rw[aO,cn,Je r l];rfl
theorem p7:∀(q:cU) (l:List cU),l≠[]->ft q l∈l
 |q,[],h=>absurd rfl h|q,[r],_=>by simp[ft]
 |q,r::s::l,_=>av _ (p7 r (s::l) (by simp))
theorem wj{n:Int}(x:cU):∀(q:cU) (l:List cU),Kc a n k P q (l++[x])↔Kc a n k P q l/\BV a n k P (ft q l) x
 |q,[]=>⟨λh=>⟨trivial,h.1⟩,λh=>⟨h.2,trivial⟩⟩
 |q,r::l=>by show (BV a n k P q r/\Kc a n k P r (l++[x]))↔(BV a n k P q r/\Kc a n k P r l)/\_;rw[wj x r l,and_assoc];rfl
theorem AV(x:cU):∀(q:cU) (l:List cU),QJ a q (l++[x])↔QJ a q l/\GL a (ft q l) x
 |q,[]=>⟨λh=>⟨trivial,h.1⟩,λh=>⟨h.2,trivial⟩⟩
 |q,r::l=>by show (GL a q r/\QJ a r (l++[x]))↔(GL a q r/\QJ a r l)/\_;rw[AV x r l,and_assoc];rfl
theorem GB(x:cU):∀(q:cU) (l:List cU),QK a q (l++[x])↔QK a q l/\LA a (ft q l) x
 |q,[]=>⟨λh=>⟨trivial,h.1⟩,λh=>⟨h.2,trivial⟩⟩
 |q,r::l=>by show (LA a q r/\QK a r (l++[x]))↔(LA a q r/\QK a r l)/\_;rw[GB x r l,and_assoc];rfl
theorem CB.gU(I:CB f n P fit c t l v d b):CB f n P fit (gU c) t l v d b:=
 ⟨I.ff,I.full,I.QD,I.rows,I.top,I.B,I.F,I.R,I.N,I.M,I.UI,I.cnt,I.len,I.op,by have:=I.tk;show c.opened<=c.taken+1;omega,I.sure⟩
theorem CB.na(I:CB f n P fit c t l v d b)(j:Nat)(r:cU)(h:c.rows[j]?=Y r):0<=r.named/\Sub r.atoms P:=by
 rw[I.rows]at h;cases j with
 |zero=>simp at h;subst h;exact⟨I.top.n0,I.top.at'⟩|succ j=>obtain⟨w,hw⟩:∃w,(t::l)[j]?=Y w:=⟨_,aU (by have:=(aj.mp h).1;omega)⟩;have:=(wk t l).mp I.B j w r hw h;exact⟨this.n0,this.at'⟩
theorem CB.fts(I:CB f n P fit c t l v d b)(j:Nat)(r:cU)(h:c.rows[j]?=Y r)(a:1<=j):r.fits=fit r.named r.atoms:=by
 rw[I.rows]at h;obtain⟨i,rfl⟩:∃i,j=i+1:=⟨j-1,by omega⟩;rw[cn]at h;exact I.F r (dN h)
theorem CI.text(W:qh f n P fit lift p u)(I:CI f n P fit c t l v d b)(x:aG)(D:c.rows[c.rows.length-1]?=Y r):
  ∃C q,PT f n P fit (wz fit lift (gU c) (u x) r) C q v d b/\q.map (·.cv)=l.map (·.cv)/\q.map (·.ha)=l.map (·.ha)/\(wz fit lift (gU c) (u x) r).rests=c.rests:=by
 have z:=I.pt W.inner;have z:PT f n P fit (gU c) t l v d b:=⟨z.cb.gU,z.M⟩;cases e:(bA (u x) (bN r.atoms) != 0) with
 |false=>
  have:wz fit lift (gU c) (u x) r=gU c:=by unfold wz;rw[e];rfl
  rw[this];exact⟨t,l,z,rfl,rfl,rfl⟩
 |true=>
  have B:=I.cb.na _ _ D;have A:=W.txt x;have y:=(aj.mp D).1;have T:Gr P r { r with atoms:=bO r.atoms (u x) }:=by
   refine⟨rfl,rfl,rfl,rfl,rfl,rfl,λi G =>?_,fA B.2.1 A.1,λi G =>?_⟩
   ·show (bO r.atoms (u x)).toNat.testBit i=Z';rw[f9 B.2.1 A.1,G];rfl
   ·have w:(bO r.atoms (u x)).toNat.testBit i=true:=G;rw[f9 B.2.1 A.1]at w;simp only[bT]at w;rcases w with h|h
    ·exact B.2.2 i h
    ·exact A.2 i h
  have s:∀(j:Nat) (a:cU),(c.rows.set (c.rows.length-1) { r with atoms:=bO r.atoms (u x) })[j]?=Y a->(j≠c.rows.length-1->c.rows[j]?=Y a)/\∃o,c.rows[j]?=Y o/\Gr P o a:=by
   intro j a k;by_cases H:j=c.rows.length-1
   ·subst H;rw[b9 y]at k;cases k;exact⟨λh=>absurd rfl h,r,D,T⟩
   ·rw[aw (λh=>H h.symm)]at k;exact⟨λ_=>k,a,k,Gr.refl (I.cb.na j a k).2⟩
  obtain⟨K,J⟩:=Hy W (c.rows.length-1) Z' (c.rows.set (c.rows.length-1) { r with atoms:=bO r.atoms (u x) })
   (λj a k=>by obtain⟨_,o,E,g⟩:=s j a k;exact⟨by rw[g.na];exact(I.cb.na j o E).1,g.sub⟩)
   (by rw[qk];exact y)
   (λj a k R V=>by
    have F:j≠c.rows.length-1:=λh=>by have:=V h;cases this
    exact I.cb.fts j a ((s j a k).1 F) R)
  have U:wz fit lift (gU c) (u x) r={ gU c with rows:=r_ fit lift Z' (c.rows.length-1) (c.rows.set (c.rows.length-1) { r with atoms:=bO r.atoms (u x) }) }:=by unfold wz;rw[e];rfl
  rw[U];obtain⟨C,q,_,Q,O,N⟩:=z.grow W (r_ fit lift Z' (c.rows.length-1) (c.rows.set (c.rows.length-1) { r with atoms:=bO r.atoms (u x) })) (by rw[K,qk];rfl) (λj a k=>by obtain⟨X,m,L,S⟩:=J j a k;obtain⟨_,o,E,g⟩:=s j m L;exact⟨X,o,E,g.trans S⟩)
  exact⟨C,q,Q,O,N,rfl⟩
theorem CI.open(W:qh f n P fit lift p u)(I:CI f n P fit c t l v d b)(x:aG):
  ∃t' o,PT f n P fit (FG fit lift (gU c) (p x) (ft t l)) t' o v (d+1) Z'/\o.map (·.cv)=l.map (·.cv)++[p_ f.inner (ft t l).cv (ft t l).ha (bA (p x) n)]/\o.map (·.ha)=l.map (·.ha)++[bO (ft t l).ha (p_ f.inner (ft t l).cv (ft t l).ha (bA (p x) n))]/\(FG fit lift (gU c) (p x) (ft t l)).rests=c.rests:=by
 have H:=I.pt W.inner;have H:PT f n P fit (gU c) t l v d b:=⟨H.cb.gU,H.M⟩;have A:=I.cb.rows;have P6:sN (ft t l):=by
  cases l with
  |nil=>exact I.cb.top.pos|cons r o=>exact mC W.inner W.m3.1 t (r::o) I.cb.top.pos I.cb.B I.S _ (p7 t (r::o) (by simp))
 have T:Sub 0 P:=⟨gC _,λi h=>by simp at h⟩;have z:=W.L9 x;have G:=W.TH (p x) 0 z (gC _);generalize E:AY fit (gU c) (gU c).opened (p x) 0 (ft t l)=k;have g:k=⟨c.opened,p x,0,fit (p x) 0,0,0,p_ f.inner (ft t l).cv (ft t l).ha (bA (p x) n),bO (ft t l).ha (p_ f.inner (ft t l).cv (ft t l).ha (bA (p x) n))⟩:=by rw[<- E];unfold AY;show cU.mk c.opened (p x) 0 _ 0 0 (p_ c.f.inner _ _ (bA _ c.able)) (bO _ (p_ c.f.inner _ _ (bA _ c.able)))=_;rw[I.cb.ff,I.cb.QD]
 have hb:BV f.inner n f.q.length P (ft t l) k:=by rw[g];exact⟨z,T,G.1,G.2,λi F=>W.Wu (p x) 0 i z T F,rfl,rfl⟩
 have hm:LA f.inner (ft t l) k:=by rw[g];exact⟨gC _,gC _,λi F=>by simp[tb]at F,λi F=>by simp[tb]at F⟩
 have s:=H.cb;have N:(0:Int)<=c.opened:=by have:=I.cb.cnt;omega
 have hz:(bA (0:Int) (2 ^ f.q.length) != 0)=false:=by
  cases e:(bA (0:Int) (2 ^ f.q.length) != 0) with
  |false=>rfl|true=>have:=(sE (gC 0) f.q.length).mp e;simp[tb]at this
 have S:PT f n P fit { gU c with opened:=c.opened+1,rows:=c.rows++[k] } t (l++[k]) v (d+1) true:=by
  refine⟨⟨s.ff,s.full,s.QD,by show c.rows++[k]=_;rw[A];rfl,s.top,(wj k t l).mpr ⟨s.B,hb⟩,?_,?_,?_,?_,?_,?_,?_,?_,?_,?_⟩,(GB k t l).mpr ⟨H.M,hm⟩⟩
  ·intro r L;rcases aP.mp L with h|h
   ·exact s.F r h
   ·rw[b8.mp h,g]
  ·intro m O;obtain⟨w,D,C,R⟩:=s.R m O;have C:c.rows[m.place.toNat]?=Y w:=C;refine⟨w,D,?_,R⟩;show (c.rows++[k])[m.place.toNat]?=Y w;rw[d6 (aj.mp C).1];exact C
  ·show (c.rests.map (·.num)++(l++[k]).map (·.number)).Nodup;rw[cm,<- bV,jm];refine⟨s.N,by simp,λa ha q V e =>?_⟩;have D:a<c.opened:=s.M a ha;rw[List.map_singleton,b8,g]at V;have V:q=c.opened:=V;omega
  ·intro y J;show y<c.opened+1;have J:y∈c.rests.map (·.num)++(l++[k]).map (·.number):=J;rw[cm,<- bV]at J;rcases aP.mp J with h|h
   ·have:y<c.opened:=s.M y h;omega
   ·rw[List.map_singleton,b8,g]at h;have h:y=c.opened:=h;omega
  ·have:=I.cb.UI;show (v:Int)+(c.rests.length:Nat)+(qN f.q.length ((l++[k]).map (·.aR)):Nat)<=c.opened+1;rw[cm,GA];have D:qN f.q.length ([k].map (·.aR))=1:=by rw[g];show qN f.q.length [0]=1;rw[tj,hz];rfl
   rw[D];omega
  ·have:=I.cb.cnt;show (c.rests.length:Int)+((l++[k]).length:Nat)<=c.opened+1;rw[aE,bH];omega
  ·rw[aE,bH,I.cb.len]
  ·show Z'=Z'↔0<c.opened+1;exact⟨λ_=>by omega,λ_=>rfl⟩
  ·have:=I.cb.tk;show c.opened+1<=c.taken+1;omega
  ·intro r L B;rcases aP.mp L with h|h
   ·exact s.sure r h B
   ·rw[b8.mp h,g]at B;simp[tb]at B
 obtain⟨X,U⟩:=Hy W ((c.rows++[k]).length-1) Z' (c.rows++[k]) (λj K Q=>S.cb.na j K Q) (by rw[aE,bH];omega) (λj K Q D _=>S.cb.fts j K Q D);obtain⟨t',o,_,C,R,h4⟩:=S.grow W (r_ fit lift Z' ((c.rows++[k]).length-1) (c.rows++[k])) X U;have eo:FG fit lift (gU c) (p x) (ft t l)={ gU c with opened:=c.opened+1,rows:=r_ fit lift Z' ((c.rows++[k]).length-1) (c.rows++[k]) }:=by unfold FG;show ({ gU c with opened:=c.opened+1,rows:=r_ fit lift Z' ((c.rows++[AY fit (gU c) (gU c).opened (p x) 0 (ft t l)]).length-1) (c.rows++[AY fit (gU c) (gU c).opened (p x) 0 (ft t l)]) }:fY)=_;rw[E]
 rw[eo];exact⟨t',o,C,by rw[R,cm,g];rfl,by rw[h4,cm,g];rfl,rfl⟩
end K21
namespace K21
open PySem L2
variable {f:wF}{j:Int}{P:Nat->Prop}{k o:Int->Int->Int}{u v:aG->Int}{c:fY}{t:cU}{g:List cU}{n d:Nat}{b:Bool}
theorem Gd{x:Int}(b:0<=x)(i:Nat):0<=x/2/\((x/2).toNat.testBit i=x.toNat.testBit (i+1)):=by
 obtain⟨a,rfl⟩:=bp b;have e:(a:Int)/2=((a/2:Nat):Int):=by omega
 rw[e,bq,bq,Nat.testBit_succ];exact⟨by omega,rfl⟩
theorem FV{c:fY}{m:rn}{r pr:cU}(d:0<=c.f.inner)(l:0<=m.own)(b:0<=m.around)(p:0<=r.fits)(h:0<=pr.cv)(a:0<=pr.ha):
  0<=(yx c m r pr).own/\0<=(yx c m r pr).around/\(∀i,tb (yx c m r pr).own i↔((tb m.own (i+1)∨tb m.around (i+1))/\tb r.fits i)/\¬tb c.f.inner i/\tb pr.cv i) /\
  (∀i,tb (yx c m r pr).around i↔((((tb m.own (i+1)∨tb m.around (i+1))/\tb r.fits i)/\tb c.f.inner i)∨tb m.around i)/\tb pr.ha i):=by
 have x:0<=bO m.own m.around:=fA l b;have w:0<=bO m.own m.around/2:=(Gd x 0).1;have f:0<=bA (bO m.own m.around/2) r.fits:=fK w p;have q:∀i,(bA (bO m.own m.around/2) r.fits).toNat.testBit i=((m.own.toNat.testBit (i+1)||m.around.toNat.testBit (i+1))&&r.fits.toNat.testBit i):=λi=>by rw[gZ w p,(Gd x i).2,f9 l b]
 have e:=WM f d;have t:=fK f d;have s:=fA t b;refine⟨fK e.1 h,fK s a,λi =>?_,λi =>?_⟩
 ·show (bA (bA (bA (bO m.own m.around/2) r.fits) (bN c.f.inner)) pr.cv).toNat.testBit i=Z'↔_;rw[gZ e.1 h,e.2,q];simp only[tb,aH,bT,Bool.not_eq_true',and_assoc,Bool.not_eq_true]
 ·show (bA (bO (bA (bA (bO m.own m.around/2) r.fits) c.f.inner) m.around) pr.ha).toNat.testBit i=Z'↔_;rw[gZ s a,f9 t b,gZ f d,q];simp only[tb,aH,bT]
theorem SK{c:fY}{m:rn}{r pr:cU}(w:0<=c.f.inner)(H:0<=m.own)(I:0<=m.around)(x:0<=r.fits)(p:sN pr)(s:GL c.f.inner pr r)(B:GN r m):GN pr (yx c m r pr)/\(pj (yx c m r pr)=Z'->N_ pr (yx c m r pr)):=by
 obtain⟨E,D,C,A⟩:=FV (c:=c) w H I x p.h0 p.Jr;have F:0<=r.aR:=by rw[s.re];exact uS w p.r0 p.a0 x
 have e:∀i,(tb m.own (i+1)∨tb m.around (i+1))->tb r.fits i->¬tb pr.aR i/\(tb c.f.inner i->¬tb pr.ra i):=by
  intro i b f;have d:¬tb r.aR (i+1):=by
   rcases b with b|b
   ·exact B.ro _ b
   ·intro q;refine B.ra _ b ?_;unfold tb;rw[s.ra,f9 p.a0 F,q,Bool.or_true]
  rw[s.re]at d;have d:=λh=>d ((Ax w p.r0 p.a0 x (i+1)).mpr h)
  exact⟨λh=>d ⟨i,rfl,.inl h,f⟩,λt h=>d ⟨i,rfl,.inr ⟨h,t⟩,f⟩⟩
 constructor
 ·constructor
  ·intro i b;obtain⟨⟨z,y⟩,G,J⟩:=(C i).mp b;exact(e i z y).1
  ·intro i b;obtain⟨a,_⟩:=(A i).mp b;rcases a with⟨⟨z,y⟩,G⟩|a
   ·exact(e i z y).2 G
   ·intro q;refine B.ra i a ?_;unfold tb;rw[s.ra,f9 p.a0 F,q,Bool.true_or]
 ·intro l;refine⟨E,D,λi b=>((C i).mp b).2.2,λi b=>((A i).mp b).2,?_⟩;have l:((yx c m r pr).own != 0||(yx c m r pr).around != 0)=true:=l;rw[bT]at l;rcases l with h|h
  ·exact .inl ((mI E).mp h)
  ·exact .inr ((mI D).mp h)
theorem SH(c:fY)(p:Nat)(r a:cU)(m:rn):(Bf c p r a m).num=m.num:=by
 unfold Bf;split<;>rfl
theorem PD(c:fY)(p:Nat)(r a:cU)(b:List rn):(b.map (Bf c p r a)).map (·.num)=b.map (·.num):=by
 rw[EC];exact ql λm _=>SH c p r a m
theorem CI.close(W:qh f j P k o u v)(I:CI f j P k c t g n d b)(hd:0<d):∃a r,g=a++[r]/\c.rows.getLast? = Y r/\(gm c).rows.getLast? = Y (ft t a)/\((mD (gm c) r).map (·.num)).Nodup/\((mD (gm c) r).length:Int)<=c.opened+1/\CI f j P k (xB (gU c) r (ft t a)) t a n (d-1) b:=by
 have C:=I.cb;have U:g≠[]:=λh=>by have:=C.len;rw[h]at this;simp at this;omega
 obtain⟨a,r,rfl⟩:∃a r,g=a++[r]:=⟨g.dropLast,g.getLast U,(List.dropLast_concat_getLast U).symm⟩;have l:=C.rows;have F:(gm c).rows=t::a:=by show c.rows.dropLast=_;rw[l,<- iq,yO]
 have E:(gm (gU c)).rows=t::a:=F;obtain⟨B0,Br⟩:=(wj r t a).mp C.B;obtain⟨S0,Sr⟩:=(AV r t a).mp I.S;have P6:sN (ft t a):=by
  cases a with
  |nil=>exact C.top.pos|cons q qs=>exact mC W.inner W.m3.1 t (q::qs) C.top.pos B0 S0 _ (p7 t (q::qs) (by simp))
 have hrp:sN r:=Sr.pos W.inner W.m3.1 P6 Br;have J:(gm c).full=2 ^ f.q.length:=C.full;have Wo:mD (gm (gU c)) r=mD (gm c) r:=rfl;have B:(mD (gm c) r).map (·.num)=c.rests.map (·.num)++if (bA r.aR (2 ^ f.q.length) != 0)=Z' then [] else [r.number]:=by unfold mD;rw[J,cm];show c.rests.map (·.num)++_=_;split<;>rfl
 have H:(mD (gm c) r).length=c.rests.length+if (bA r.aR (2 ^ f.q.length) != 0)=Z' then 0 else 1:=by
  have:=congrArg List.length B;rw[au,aE,au]at this;rw[this]
  congr 1
  split<;>rfl
 have hN:=C.N;rw[cm]at hN;have Z9:((mD (gm c) r).map (·.num)++a.map (·.number)).Nodup:=by
  rw[B];have T:((c.rests.map (·.num)++a.map (·.number))++if (bA r.aR (2 ^ f.q.length) != 0)=Z' then [] else [r.number]).Sublist ((c.rests.map (·.num)++a.map (·.number))++[r.number]):=by
   refine U2 (EF _) ?_;split
   ·exact List.nil_sublist _
   ·exact EF _
  have L:((c.rests.map (·.num)++a.map (·.number))++[r.number]).Nodup:=by rw[bV];exact hN
  have z:=List.Sublist.nodup T L;refine List.Perm.nodup ?_ z;rw[bV,bV];exact List.Perm.append_left _ Rw
 refine⟨a,r,rfl,?_,?_,?_,?_,?_⟩
 ·rw[l,<- iq,List.getLast?_concat]
 ·rw[F];exact xm t a
 ·exact(jm.mp Z9).1
 ·rw[H];have:=C.cnt;rw[aE,bH]at this;split<;>omega
 have hf:(gm (gU c)).f=f:=C.ff;have O:(gm (gU c)).rows.length=a.length+1:=by rw[E];rfl
 have X:∀y∈(xB (gU c) r (ft t a)).rests,∃m∈mD (gm c) r,y=Bf (gm (gU c)) (a.length+1) r (ft t a) m/\pj y=true:=by intro y s;have s:y∈((vu (mD (gm (gU c)) r)).map (Bf (gm (gU c)) (gm (gU c)).rows.length r (ft t a))).filter pj:=s;rw[O]at s;obtain⟨L,z⟩:=fN.mp s;obtain⟨m,D,h4⟩:=ie.mp L;exact⟨m,(mr _).mem_iff.mp D,h4.symm,z⟩
 have K:∀y∈(xB (gU c) r (ft t a)).rests,0<=y.place/\∃p,(t::a)[y.place.toNat]?=Y p/\N_ p y/\GN p y:=by
  intro y s;obtain⟨m,hm,e,hl⟩:=X y s;have ZZ:m∈c.rests∨m=⟨r.number,((a.length+1:Nat):Int),2 ^ f.q.length,0⟩/\¬tb r.aR f.q.length:=by
   unfold mD at hm;rw[J]at hm;rcases aP.mp hm with h|h
   ·exact .inl h
   ·right;split at h
    ·cases h
    ·rename_i hx;refine⟨?_,λhy=>hx ((sE hrp.r0 _).mpr hy)⟩;rw[b8.mp h,F];rfl
  by_cases V:m.place=((a.length+1:Nat):Int)
  ·have R:0<=m.own/\0<=m.around/\GN r m:=by
    rcases ZZ with h|⟨h,hk⟩
    ·obtain⟨p,L,z,D⟩:=C.R m h;refine⟨D.o0,D.a0,I.RB m h r ?_⟩;rw[V,l,bq,cn,dO (aM _),QT];rfl
    ·rw[h];refine⟨tw _,gC _,λi Q =>?_,λi Q=>by simp[tb]at Q⟩;have Q:((2:Int) ^ f.q.length).toNat.testBit i=true:=Q;rw[kJ]at Q;simp only[decide_eq_true_eq]at Q;rw[<- Q];exact hk
   have S:y=yx (gm (gU c)) m r (ft t a):=by rw[e];unfold Bf;rw[if_pos V]
   have hk:=SK (c:=gm (gU c)) (m:=m) (r:=r) (pr:=ft t a) (by rw[hf];exact W.inner) R.1 R.2.1 Br.f0 P6 (by rw[hf];exact Sr) R.2.2;have hpm:y.place=(a.length:Int):=by rw[S];show m.place-1=_;omega
   refine⟨by omega,ft t a,by rw[hpm,bq];exact Je t a,?_,?_⟩
   ·rw[S];exact hk.2 (by rw[<- S];exact hl)
   ·rw[S];exact hk.1
  ·have S:y=m:=by rw[e];unfold Bf;rw[if_neg V]
   rcases ZZ with h|⟨h,_⟩
   ·obtain⟨p,L,z,D⟩:=C.R m h;have h4:=I.RB m h p z;have h5:=(aj.mp z).1;rw[l,aO,aE,bH]at h5;rw[S];refine⟨L,p,?_,D,h4⟩;rw[l,<- iq,d6 (by rw[aO];omega)]at z;exact z
   ·exact absurd (by rw[h]) V
 have A:((xB (gU c) r (ft t a)).rests.map (·.num)).Sublist ((vu (mD (gm c) r)).map (·.num)):=by have:=List.Sublist.map (λm:rn=>m.num) (U0 (p:=pj) (l:=(vu (mD (gm (gU c)) r)).map (Bf (gm (gU c)) (gm (gU c)).rows.length r (ft t a))));rw[PD]at this;exact this
 have G:(xB (gU c) r (ft t a)).rests.length<=(mD (gm c) r).length:=by have:=A.length_le;rw[au,au,(mr _).length_eq]at this;exact this
 have w:(xB (gU c) r (ft t a)).rows=t::a:=E;refine⟨⟨C.ff,C.full,C.QD,w,C.top,B0,λq hq=>C.F q (aP.mpr (.inl hq)),?_,?_,?_,?_,?_,?_,C.op,?_,λq hq=>C.sure q (aP.mpr (.inl hq))⟩,S0,?_⟩
 ·intro y s;obtain⟨L,p,z,D,_⟩:=K y s;exact⟨p,L,by rw[w];exact z,D⟩
 ·refine B' (A:=(vu (mD (gm c) r)).map (·.num)) ?_ A;refine List.Perm.nodup ?_ Z9;exact List.Perm.append_right _ ((mr _).map _).symm
 ·intro x hx;show x<c.opened;refine C.M x ?_;rw[cm];rcases aP.mp hx with h|h
  ·have L:=A.subset h;have z:x∈(mD (gm c) r).map (·.num):=((mr _).map _).mem_iff.mp L;rw[B]at z;rcases aP.mp z with D|D
   ·exact aP.mpr (.inl D)
   ·refine aP.mpr (.inr (aP.mpr (.inr ?_)));split at D
    ·cases D
    ·exact D
  ·exact aP.mpr (.inr (aP.mpr (.inl h)))
 ·have:=C.UI;rw[cm,GA]at this;have e1:qN f.q.length ([r].map (·.aR))=if (bA r.aR (2 ^ f.q.length) != 0)=Z' then 0 else 1:=by show qN f.q.length [r.aR]=_;rw[tj];rfl
  rw[e1]at this;show (n:Int)+((xB (gU c) r (ft t a)).rests.length:Nat)+(qN f.q.length (a.map (·.aR)):Nat)<=c.opened;rw[H]at G;omega
 ·have:=C.cnt;rw[aE,bH]at this;show ((xB (gU c) r (ft t a)).rests.length:Int)+(a.length:Nat)<=c.opened;rw[H]at G;have e2:(if (bA r.aR (2 ^ f.q.length) != 0)=Z' then 0 else 1)<=1:=by split<;>omega
  omega
 ·have:=C.len;rw[aE,bH]at this;omega
 ·have:=C.tk;show c.opened<=c.taken+1;omega
 ·intro y s p N;obtain⟨L,aaL,z,_,h4⟩:=K y s;rw[w,z]at N;cases N;exact h4
end K21
namespace K21
open PySem L2
variable {f:wF}{g:Int}{P:Nat->Prop}{o s:Int->Int->Int}{u v:aG->Int}{c:fY}{t:cU}{n:List cU}{y d:Nat}{b:Bool}
def Lh(f:wF)(g h a:Int):Prop:=¬tb h f.q.length/\∀p,p<f.q.length->(∀q,p<=q->q<f.q.length->tb g q)->¬tb h p/\¬(tb a p/\tb f.inner p)
def yL(f:wF)(g:Int)(c:fY)(n:List cU):Prop:=c.rests=[]/\∀r∈n,Lh f g r.cv r.ha
theorem Cp(c:0<=g):∀(p:Nat) (e:Int),0<=e->0<=qW g p e/\∀i,tb (qW g p e) i↔tb e i∨(i<p/\∀q,i<=q->q<p->tb g q)
 |0,e,h=>⟨h,λi=>⟨.inl,λh=>h.elim id λh=>absurd h.1 (by omega)⟩⟩
 | p+1,e,h=>by
  rw[qW];by_cases d:tb g p
  ·rw[if_pos ((sE c p).mpr d)];obtain⟨l,k⟩:=Cp c p (bO e (2 ^ p)) (fA h (tw p));refine⟨l,λi =>?_⟩;rw[k i];have m:tb (bO e (2 ^ p)) i↔tb e i∨p=i:=by unfold tb;rw[f9 h (tw p),kJ];simp
   rw[m];constructor
   ·rintro((h|h)|⟨j,f⟩)
    ·exact .inl h
    ·refine .inr ⟨by omega,λq a b =>?_⟩;have:q=p:=by omega
     rw[this];exact d
    ·refine .inr ⟨by omega,λq a b =>?_⟩;by_cases e:q=p
     ·rw[e];exact d
     ·exact f q a (by omega)
   ·rintro(h|⟨j,f⟩)
    ·exact .inl (.inl h)
    ·by_cases e:i=p
     ·exact .inl (.inr e.symm)
     ·exact .inr ⟨by omega,λq a b=>f q a (by omega)⟩
  ·rw[if_neg (λh=>d ((sE c p).mp h))];refine⟨h,λi=>⟨.inl,λh =>?_⟩⟩;rcases h with h|⟨j,f⟩
   ·exact h
   ·exact absurd (f p (by omega) (by omega)) d
theorem CI.OX(W:qh f g P o s u v)(I:CI f g P o c t n y d b)(r:cU)(a:r∈n):sN r:=mC W.inner W.m3.1 t n I.cb.top.pos I.cb.B I.S r a
theorem Hi{r:cU}(p:sN r)(k:Nat):L3 (2 ^ k) r=Z'↔tb r.cv k/\¬tb r.aR k:=by
 have a:=WM p.h0 p.r0;show (bA (bA r.cv (bN r.aR)) (2 ^ k) != 0)=Z'↔_;rw[sE a.1];show (bA r.cv (bN r.aR)).toNat.testBit k=Z'↔_;rw[a.2];simp[tb]
theorem L'(W:qh f g P o s u v){r:cU}(p:sN r):stM f.inner (qW g f.q.length 0) r=Z'↔∃i,(tb r.cv i∨(tb r.ha i/\tb f.inner i))/\i<f.q.length/\∀q,i<=q->q<f.q.length->tb g q:=by
 obtain⟨d,e⟩:=Cp W.m3.1 f.q.length 0 (gC 0);have c:=fK p.Jr W.inner;have b:=fA p.h0 c;show (bA (bO r.cv (bA r.ha f.inner)) (qW g f.q.length 0) != 0)=Z'↔_;rw[mI (fK b d)];constructor
 ·rintro⟨i,a⟩;rw[gZ b d,f9 p.h0 c,gZ p.Jr W.inner]at a;simp only[aH,bT]at a;refine⟨i,a.1,?_⟩;rcases(e i).mp a.2 with h|h
  ·simp[tb]at h
  ·exact h
 ·rintro⟨i,j,a⟩;refine⟨i,?_⟩;rw[gZ b d,f9 p.h0 c,gZ p.Jr W.inner];simp only[aH,bT];exact⟨j,(e i).mpr (.inr a)⟩
theorem CI.V2(W:qh f g P o s u v)(I:CI f g P o c t n y d b)(L:yL f g c n):oY c=[]/\qX c=false:=by
 constructor
 ·unfold oY;rw[L.1,I.cb.full,I.cb.rows];have:(t::n).filter (L3 (2 ^ f.q.length))=[]:=by
   rw[wL];intro r a j;rcases aK.mp a with e|a
   ·subst e;obtain⟨l,k⟩:=(Hi I.cb.top.pos _).mp j;rw[I.cb.top.h]at l;rw[I.cb.top.r]at k;exact k l
   ·exact(L.2 r a).1 ((Hi (I.OX W r a) _).mp j).1
  rw[this];rfl
 ·unfold qX v_;rw[I.cb.ff,I.cb.QD,I.cb.rows];show n.any _=Z_;rw[EE];intro r a j;obtain⟨i,l,k,m⟩:=(L' W (I.OX W r a)).mp j;obtain⟨q,p⟩:=(L.2 r a).2 i k m;rcases l with h|h
  ·exact q h
  ·exact p h
theorem CI.V1(W:qh f g P o s u v)(I:CI f g P o c t n y d b)(q:y=0)(i:oY c=[])(a:qX c=Z_):yL f g c n:=by
 unfold oY at i;rw[List.append_eq_nil_iff,Bc,Bc,I.cb.full,I.cb.rows,wL]at i;unfold qX v_ at a;rw[I.cb.ff,I.cb.QD,I.cb.rows]at a;have a:n.any (stM f.inner (qW g f.q.length 0))=false:=a;rw[EE]at a;refine⟨i.1,λr e=>⟨λm =>?_,λp k j =>?_⟩⟩
 ·refine i.2 r (av _ e) ((Hi (I.OX W r e) _).mpr ⟨m,λl =>?_⟩);have:=I.cb.sure r e l;omega
 ·have:=a r e;rw[L' W (I.OX W r e)]at this;exact⟨λh=>this ⟨p,.inl h,k,j⟩,λh=>this ⟨p,.inr h,k,j⟩⟩
theorem CI.over(W:qh f g P o s u v)(I:CI f g P o c t n y d b)(A:d=0):yL f g c n:=by
 have l:n=[]:=m9.mp (I.cb.len.trans A);subst l;refine⟨?_,λr z=>by cases z⟩;cases x:c.rests with
 |nil=>rfl|cons m D=>
  exfalso;have q:m∈c.rests:=by rw[x];exact ay ..
  obtain⟨k,E,a,p⟩:=I.cb.R m q;have w:=I.RB m q k a;rw[I.cb.rows]at a;have C:=(aj.mp a).1;have B:m.place.toNat=0:=by simp at C;omega
  rw[B]at a;simp at a;subst a;have T:=I.cb.top;rcases p.lv with⟨i,e⟩|⟨i,e⟩
  ·have j:=p.oh i e;have h:=w.ro i e;rw[T.h]at j;rw[T.r]at h;exact h j
  ·have j:=p.ah i e;have h:=w.ra i e;rw[T.b]at j;rw[T.a]at h;exact h j
theorem CI.V0(W:qh f g P o s u v)(I:CI f g P o c t (e++[r]) y d b)(L:yL f g c (e++[r])):yL f g (xB (gU c) r (ft t e)) e:=by
 refine⟨?_,λq hq=>L.2 q (aP.mpr (.inl hq))⟩;obtain⟨B0,D⟩:=(wj r t e).mp I.cb.B;obtain⟨S0,Sr⟩:=(AV r t e).mp I.S;have l:sN (ft t e):=by
  cases e with
  |nil=>exact I.cb.top.pos|cons q N=>exact mC W.inner W.m3.1 t (q::N) I.cb.top.pos B0 S0 _ (p7 t (q::N) (by simp))
 have hL:=(L.2 r (aP.mpr (.inr (b8.mpr rfl)))).1;have T:(gm (gU c)).f=f:=I.cb.ff;have p:(gm (gU c)).rows=t::e:=by show c.rows.dropLast=_;rw[I.cb.rows,<- iq,yO]
 have A:∀i,(tb (ft t e).cv i∨(tb (ft t e).ha i/\tb f.inner i))->tb r.fits i->i+1≠f.q.length:=by intro i J B w;apply hL;rw[D.hp,<- w];refine(Ax W.inner l.h0 l.Jr (fK D.n0 W.m3.1) (i+1)).mpr ⟨i,rfl,J,?_⟩;have:=D.fn i B;unfold tb;rw[gZ D.n0 W.m3.1];simp only[aH];exact this
 show ((vu (mD (gm (gU c)) r)).map (Bf (gm (gU c)) (gm (gU c)).rows.length r (ft t e))).filter pj=[];rw[wL];intro R H E;obtain⟨m,J,B⟩:=ie.mp H;have w:=(mr _).mem_iff.mp J;unfold mD at w;have x:(gm (gU c)).rests=[]:=L.1;rw[x,c6,p]at w;have z:(gm (gU c)).full=2 ^ f.q.length:=I.cb.full;rw[z]at w;split at w
 ·cases w
 ·have C:=b8.mp w;have G:m.place=((gm (gU c)).rows.length:Int):=by rw[C,p]
  unfold Bf at B;rw[if_pos G]at B;have ho:0<=m.own:=by rw[C];exact tw _
  have ha:0<=m.around:=by rw[C];exact gC _
  obtain⟨Q,O,X,U⟩:=FV (c:=gm (gU c)) (m:=m) (r:=r) (pr:=ft t e) (by rw[T];exact W.inner) ho ha D.f0 l.h0 l.Jr;rw[B]at Q O X U;have S:∀i,tb m.own i->i=f.q.length:=by intro i j;rw[C]at j;have j:((2:Int) ^ f.q.length).toNat.testBit i=true:=j;rw[kJ]at j;simp only[decide_eq_true_eq]at j;exact j.symm
  have F:∀i,¬tb m.around i:=by intro i j;rw[C]at j;simp[tb]at j
  have E:(R.own != 0||R.around != 0)=true:=E;rw[bT]at E;rcases E with h|h
  ·obtain⟨i,j⟩:=(mI Q).mp h;obtain⟨⟨k,n⟩,_,K⟩:=(X i).mp j;rcases k with k|k
   ·exact A i (.inl K) n (S _ k)
   ·exact F _ k
  ·obtain⟨i,j⟩:=(mI O).mp h;obtain⟨a,K⟩:=(U i).mp j;rw[T]at a;rcases a with⟨⟨k,n⟩,a3⟩|a
   ·rcases k with k|k
    ·exact A i (.inr ⟨K,a3⟩) n (S _ k)
    ·exact F _ k
   ·exact F _ a
theorem KP{a:List cU}(L:∀r∈n,Lh f g r.cv r.ha)(k:a.map (·.cv)=n.map (·.cv))(i:a.map (·.ha)=n.map (·.ha)):∀r∈a,Lh f g r.cv r.ha:=by
 intro r e;obtain⟨j,h⟩:=gB e;have b:=congrArg (λl=>l[j]?) k;have c:=congrArg (λl=>l[j]?) i;simp only[aT,h,bI]at b c;rcases d:n[j]? with _|q
 ·rw[d]at b;cases b
 rw[d]at b c;simp only[bI,gR]at b c;rw[b,c];exact L q (dN d)
theorem PT.Rf(W:qh f g P o s u v)(I:PT f g P o c t n y d b)(L:yL f g c n):oZ f.inner (2 ^ f.q.length) t n++(c.rests.filter (j3 (t::fZ f.inner t n))).map (·.num)=[]/\yL f g (Bo c (t::fZ f.inner t n)) (fZ f.inner t n):=by
 have p:∀r∈n,0<=r.aR:=by
  intro r e;obtain⟨j,l⟩:=gB e;have h:(t::n)[j+1]?=Y r:=by rw[cn];exact l
  obtain⟨w,hw⟩:∃w,(t::n)[j]?=Y w:=⟨_,aU (by have:=(aj.mp h).1;omega)⟩;exact((wi t n).mp I.M j w r hw h).r0
 have m:=FQ (able:=g) (k:=f.q.length) (P:=P) W.inner W.m3.1 (tw f.q.length) t t n I.cb.top.pos rfl rfl I.cb.B λr e=>⟨p r e,λi k a=>by have a:((2:Int) ^ f.q.length).toNat.testBit i=true:=a;rw[kJ]at a;simp only[decide_eq_true_eq]at a;rw[<- a]at k;exact(L.2 r e).1 k⟩
 refine⟨by rw[m,L.1];rfl,?_,?_⟩
 ·show c.rests.filter _=[];rw[L.1];rfl
 ·intro r e;obtain⟨j,l⟩:=gB e;obtain⟨q,k,a,x,_⟩:=vw f.inner t n j r l;rw[a,x];exact L.2 q (dN k)
theorem M5(W:qh f g P o s u v){k:cU}(p:sN k)(L:Lh f g k.cv k.ha){c:Int}(w:0<=c):Lh f g (p_ f.inner k.cv k.ha (bA c g)) (bO k.ha (p_ f.inner k.cv k.ha (bA c g))):=by
 have z:=fK w W.m3.1;have A:=uS W.inner p.h0 p.Jr z;have l:∀i,tb (p_ f.inner k.cv k.ha (bA c g)) i->i<=f.q.length->(∀q,i<=q->q<f.q.length->tb g q)->False:=by
  intro i t B r;obtain⟨j,e,d,m⟩:=(Ax W.inner p.h0 p.Jr z i).mp t;unfold tb at m;rw[gZ w W.m3.1]at m;simp only[aH]at m;have:=L.2 j (by omega) λq a b=>by
   by_cases x:q=j
   ·rw[x];exact m.2
   ·exact r q (by omega) b
  rcases d with d|d
  ·exact this.1 d
  ·exact this.2 d
 refine⟨λh=>l _ h (aM _) λq a b=>by omega,λi t r=>⟨λh=>l i h (by omega) r,?_⟩⟩;rintro⟨d,m⟩;unfold tb at d;rw[f9 p.Jr A]at d;simp only[bT]at d;rcases d with d|d
 ·exact(L.2 i t r).2 ⟨d,m⟩
 ·exact l i d (by omega) r
end K21
namespace L2
open PySem
theorem OV(e:g b=Y (.nx a)):a_ g h b=h a:=by simp only[a_,e,aa]
theorem Vt(e:t a=Y Z_):eW t g h a=h a:=by simp[eW,e]
theorem Vs(e:t a=Y Z'):eW t g h a=g a:=by simp[eW,e]
theorem Qs(h:oO a 179=Z'):kq (.lst a) 180=true:=by simp only[kq];rw[show 180-1=179 by rfl,h];rfl
end L2
namespace K21
open PySem L2
theorem GW{j:Int}(h : -(2 ^ 64)<j/\j<2 ^ 64):rF (.int i) (.int j)=Y (.int (i*j)):=by simp only[rF];rw[if_pos (.inr h)]
theorem W6(h : -(2 ^ 64)<i/\i<2 ^ 64):rF (.int i) (.int j)=Y (.int (i*j)):=by simp only[rF];rw[if_pos (.inl h)]
theorem mw{j:Int}(h:0<j):iX (.int i) (.int j)=Y (.int (i%j)):=by simp only[iX];rw[if_pos h]
theorem sG(h:0<j/\j<2 ^ 64):kC (.int i) (.int j)=Y (.int (i/j)):=by simp only[kC];rw[if_pos h]
theorem Y5:gu (.int i) (.int j)=Y (.int (i+j)):=rfl
theorem XW:me (.int i) (.int j)=Y (.int (i-j)):=rfl
theorem eqI:fh (.int i) (.int j)=Y (.bl (i==j)):=rfl
theorem eqB:fh (.bl i) (.bl j)=Y (.bl (i==j)):=rfl
theorem eqS:fh (.str i) (.str j)=Y (.bl (i==j)):=rfl
theorem neI:vK (.int i) (.int j)=Y (.bl (!(i==j))):=rfl
theorem neS:vK (.str i) (.str j)=Y (.bl (!(i==j))):=rfl
theorem ltI:QM (.int i) (.int j)=Y (.bl (decide (i<j))):=rfl
theorem gtI:vj (.int i) (.int j)=Y (.bl (decide (j<i))):=rfl
theorem ixL:cj (.lst a) (.int i)=oT a i:=rfl
theorem ixT:cj (.tup a) (.int i)=oT a i:=rfl
theorem Yk{a:List D}:hR [.lst a]=Y (.int a.length):=rfl
theorem Yi{a:List D}:hR [.tup a]=Y (.int a.length):=rfl
theorem geI:SD (.int i) (.int j)=Y (.bl (decide (j<=i))):=rfl
local macro_rules | `(tactic|walk_at "v")=>do
 let a←("j2 Ku gX a_ dr jS eE t6 Fi eW c9 js pV IP gc e2 eV eK eF fX gS be oJ aC aN dk fV nJ t5 o6 iL iE Ot Ri pN pS JB Lf iS kZ eD eIs aO eU bh EB iq c6 bL OB cn List.getElem?_nil Option.join_some Option.join_none aa bI Option.getD_some Y5 XW eqI eqB eqS neI neS ltI gtI geI ixL ixT Yk Yi aZ a9 if_true if_false dQ nC VM Nat.reduceAdd Nat.reduceSub Nat.reduceLeDiff Bu lu dI Dc IS Ck Xl m2 mP kl jn yy t_ VZ Pp".splitOn " ").toArray.mapM fun s=>`(Lean.Parser.Tactic.simpLemma|$(Lean.mkIdent s.toName):term)
 `(tactic|simp only[$a,*])
noncomputable def VY(c t:Int):Int:=(c%2147483647+t*t*7919+104729)*48271%2147483647
def FW(c t:Int):Int:=(VY c t*VY c t+69621*t)%2147483629
theorem MY(c t:Int)(e:0<=t)(d:t<=100000):C0 [.int c,.int t]=Y (.int (FW c t)):=by
 have a:=cN ((c%2147483647+t*t*7919+104729)*48271) (show (2147483647:Int)≠0 by decide);have b:=b_ ((c%2147483647+t*t*7919+104729)*48271) (show (0:Int)<2147483647 by decide);unfold C0 Nt FW;walk_at "v";rw[mw (by decide),GW ⟨by omega,by omega⟩];walk_at "v";rw[GW ⟨by decide,by decide⟩];walk_at "v";rw[GW ⟨by decide,by decide⟩];walk_at "v";rw[mw (by decide)];walk_at "v";rw[GW (j:=(c%2147483647+t*t*7919+104729)*48271%2147483647) ⟨by omega,by omega⟩,GW (j:=t) ⟨by omega,by omega⟩];walk_at "v";rw[mw (by decide)];rfl
theorem PL(c t:Int):0<=FW c t/\FW c t<2147483629:=⟨cN _ (by decide),b_ _ (by decide)⟩
theorem An{a:List Int}{j:Nat}{d:D}(h:(a.map D.int)[j]?=Y d):∃c,a[j]?=Y c/\d=.int c:=by
 rw[aT]at h;rcases e:a[j]? with _|c
 ·rw[e]at h;cases h
 rw[e]at h;cases h;exact⟨c,rfl,rfl⟩
theorem Fe(a:List Int)(n:Nat)(v:Int):(a.map D.int).set n (.int v)=(a.set n v).map D.int:=by rw[QW]
theorem AW(ns:List Int)(hns:ns.length<=63)(lB most:Int)(t0:0<=lB)(t1:lB<=1000)(m0:1<=most)(m1:most<=100):∃xs:List Int,ji [.ku ns,.int lB,.int most]=Y (xs.map D.int)/\1<=xs.length/\(xs.length:Int)<=most:=by
 have hcl:(Bi ns M (Y 63)).length<=63:=bX (T9 _ _ _) hns;generalize YJ:Bi ns M (Y 63)++[lB]=cs;have abV:1<=cs.length:=by rw[<- YJ];simp
 have abU:cs.length<=64:=by rw[<- YJ];simp;omega
 have e1:gu (.lst ((Bi ns M (Y 63)).map D.int)) (.lst [.int lB])=Y (.lst (cs.map D.int)):=by simp only[gu];rw[if_pos (by simp[kR];omega),<- YJ];simp
 obtain⟨c0,ec0⟩:=wu (xs:=cs) (z:=0) (by decide) (by omega);unfold ji D5;walk_at "v";rw[e1];walk_at "v";rw[ec0];walk_at "v";rw[sG ⟨by decide,by decide⟩];walk_at "v";rw[mw (by decide)];walk_at "v";by_cases hb:(c0/50000%2==1)=Z'
 ·rw[hb];walk_at "v";have hz:(cs.map D.int).length<=ez:=by simp[kR];omega
  rw[if_pos hz];rw[L2.sv (h:=λd=>match d with|.int i =>.int (i/100000)|d=>d) (λd hd=>by obtain⟨i,_,rfl⟩:=ie.mp hd;exact⟨_,rfl,by walk_at "v";rw[sG ⟨by decide,by decide⟩]⟩)]
  have el:(cs.map D.int).map (λd=>match d with|.int i =>.int (i/100000)|d=>d)=(cs.map (· / 100000)).map D.int:=by simp
  rw[el];walk_at "v";rw[if_pos (show -(2 ^ 62)<=lB+most+1/\lB+most+1<2 ^ 62 from⟨by omega,by omega⟩)];walk_at "v";have YF:(cs.map (· / 100000)).length=cs.length:=by simp
  obtain⟨ρ',ef,⟨fs,ls,v6,v7,rfl,Tr,ZV⟩⟩:=sF (τ:=gN 6) (g:=xN) (ds:=mv 0 (lB+most+1).toNat) (λi ρ=>∃(fs ls:List Int) (v6 v7:Option D),ρ=[Y (.ku ns),Y (.int lB),Y (.int most),Y (.lst (cs.map D.int)),Y (.lst (fs.map D.int)),Y (.lst (ls.map D.int)),v6,v7,M,M,M]/\fs.length=i/\ls.length=cs.length)
   (ρ:=[Y (.ku ns),Y (.int lB),Y (.int most),Y (.lst (cs.map D.int)),Y (.lst []),Y (.lst ((cs.map (· / 100000)).map D.int)),M,M,M,M,M]) ⟨[],cs.map (· / 100000),M,M,rfl,rfl,YF⟩ (by
   rintro j d ρ hd ⟨fs,ls,v6,v7,rfl,Tr,ZV⟩;obtain⟨hj,rfl⟩:=Fk hd;have P6:(0:Int)<(ls.length:Int):=by omega
   have k0:=cN (0+(j:Int)) (show (ls.length:Int)≠0 by omega);have k1:=b_ (0+(j:Int)) P6;obtain⟨v,ev⟩:=wu (xs:=ls) k0 k1;refine⟨_,[Y (.ku ns),Y (.int lB),Y (.int most),Y (.lst (cs.map D.int)),Y (.lst ((fs++[v%2147483587]).map D.int)),Y (.lst ((ls.set ((0+(j:Int))%(ls.length:Int)).toNat (v/2147483587)).map D.int)),Y (.int (0+(j:Int))),Y (.int ((0+(j:Int))%(ls.length:Int))),M,M,M],rfl,?_,⟨_,_,_,_,rfl,by simp[Tr],by simp[ZV]⟩⟩;unfold xN;walk_at "v";rw[au,mw P6];walk_at "v";rw[ev];walk_at "v";rw[mw (by decide)];walk_at "v";rw[if_pos (by rw[au,kR];omega)];walk_at "v";rw[ev];walk_at "v";rw[sG ⟨by decide,by decide⟩];walk_at "v";rw[au,P0 k0 k1];walk_at "v";rw[Fe];simp)
  rw[ef];walk_at "v";rw[Gw _ t0,<- List.map_drop];have hl:(fs.drop lB.toNat).length=most.toNat+1:=by rw[GZ,Tr,pX];omega
  obtain⟨v,ev⟩:=wu (xs:=fs.drop lB.toNat) (z:=most) (by omega) (by rw[hl];omega);rw[ev];walk_at "v";rw[mw (by omega)];walk_at "v";have k0:=cN v (show most≠0 by omega);have k1:=b_ v (show 0<most by omega);rw[Im _ (by omega),<- Oj];refine⟨_,rfl,?_⟩;rw[o_,hl,IF (by omega)];exact⟨by omega,by omega⟩
 ·have Tt:(c0/50000%2==1)=false:=by simpa using hb
  rw[Tt];walk_at "v";obtain⟨ρ',ef,⟨num,v6,v9,rfl,hn0,hn1⟩⟩:=sF (τ:=D6 6 9) (g:=xM) (ds:=x6 (cs.map D.int)) (λi ρ=>∃(num:Int) (v6 v9:Option D),ρ=[Y (.ku ns),Y (.int lB),Y (.int most),Y (.lst (cs.map D.int)),Y (.lst []),M,v6,M,Y (.int num),v9,M]/\0<=num/\num<2147483629)
   (ρ:=[Y (.ku ns),Y (.int lB),Y (.int most),Y (.lst (cs.map D.int)),Y (.lst []),M,M,M,Y (.int 0),M,M]) ⟨0,M,M,rfl,by decide,by decide⟩ (by
   rintro j d ρ hd ⟨num,v6,v9,rfl,hn0,hn1⟩;obtain⟨x,hx,rfl⟩:=xA hd;obtain⟨c,hc,rfl⟩:=An hx;have hj:j<cs.length:=(aj.mp hc).1;refine⟨_,[Y (.ku ns),Y (.int lB),Y (.int most),Y (.lst (cs.map D.int)),Y (.lst []),M,Y (.int j),M,Y (.int ((num*31+FW c ((j:Int)+lB))%2147483629)),Y (.int c),M],rfl,?_,⟨_,_,_,rfl,cN _ (by decide),b_ _ (by decide)⟩⟩;unfold xM;walk_at "v";rw[GW ⟨by decide,by decide⟩];walk_at "v";rw[MY _ _ (by omega) (by omega)];walk_at "v";rw[mw (by decide)];walk_at "v")
  rw[ef];walk_at "v";rw[sG ⟨by decide,by decide⟩];walk_at "v";rw[mw (by omega)];walk_at "v";have k0:=cN (num/1009) (show most≠0 by omega);have k1:=b_ (num/1009) (show 0<most by omega);rw[if_pos (show -(2 ^ 62)<=1+num/1009%most/\1+num/1009%most<2 ^ 62 from⟨by omega,by omega⟩)];walk_at "v";obtain⟨ρ',ef,⟨fs,v6,Zh,rfl,Tr⟩⟩:=sF (τ:=gN 6) (g:=xK) (ds:=mv 0 (1+num/1009%most).toNat) (λi ρ=>∃(fs:List Int) (Zq Zh:Option D),ρ=[Y (.ku ns),Y (.int lB),Y (.int most),Y (.lst (cs.map D.int)),Y (.lst (fs.map D.int)),M,Zq,M,Y (.int num),v9,Zh]/\fs.length=i)
   (ρ:=[Y (.ku ns),Y (.int lB),Y (.int most),Y (.lst (cs.map D.int)),Y (.lst []),M,v6,M,Y (.int num),v9,M]) ⟨[],v6,M,rfl,rfl⟩ (by
   rintro j d ρ hd ⟨fs,Zq,Zh,rfl,Tr⟩;obtain⟨hj,rfl⟩:=Fk hd;have P6:(0:Int)<(cs.length:Int):=by omega
   have q0:=cN (0+(j:Int)) (show (cs.length:Int)≠0 by omega);have q1:=b_ (0+(j:Int)) P6;obtain⟨v,ev⟩:=wu (xs:=cs) q0 q1;have r0:=cN num (show (1009:Int)≠0 by decide);have r1:=b_ num (show (0:Int)<1009 by decide);have mz:=PL v (num%1009+(0+(j:Int))+lB);refine⟨_,[Y (.ku ns),Y (.int lB),Y (.int most),Y (.lst (cs.map D.int)),Y (.lst ((fs++[(FW v (num%1009+(0+(j:Int))+lB)*FW v (num%1009+(0+(j:Int))+lB)+7*(0+(j:Int)))%2147483587]).map D.int)),M,Y (.int (0+(j:Int))),M,Y (.int num),v9,Y (.int (FW v (num%1009+(0+(j:Int))+lB)))],rfl,?_,⟨_,_,_,rfl,by simp[Tr]⟩⟩;unfold xK;walk_at "v";rw[au,mw P6];walk_at "v";rw[ev];walk_at "v";rw[mw (by decide)];walk_at "v";rw[MY _ _ (by omega) (by omega)];walk_at "v";rw[GW ⟨by omega,by omega⟩];walk_at "v";rw[W6 ⟨by decide,by decide⟩];walk_at "v";rw[mw (by decide)];walk_at "v";rw[if_pos (by rw[au,kR];omega)];simp)
  rw[ef];walk_at "v";rw[pX]at Tr;exact⟨fs,rfl,by omega,by omega⟩
theorem XX{x:aG}(a:x.length<=ez):(match D.str x with|.str x=>if x.length<=ez then Y (D.str (lD x l h)) else M|_=>M)=Y (.str (lD x l h)):=by simp[a]
theorem Yj{x:aG}(h:x.length<=ez):hR [.str x]=Y (.int x.length):=by simp[hR,h]
theorem WN{x y:aG}(h:x.length+y.length<=ez):gu (.str x) (.str y)=Y (.str (x++y)):=by simp[gu,h]
theorem MW(j:List Int)(l:j.length<=63):∃f:List aG,ts [.ku j]=Y (.lst (f.map D.str))/\f.length=5:=by
 obtain⟨xs,q,v,u⟩:=AW j l 40 1 (by decide) (by decide) (by decide) (by decide);obtain⟨c,r⟩:=wu (xs:=xs) (z:=0) (by decide) (by omega);have h:(ab "abcdefabcde").length<=ez:=by decide +kernel
 have m:(ab "abcdefabcde").length<=11:=by decide +kernel
 have o:(ab "mnopq").cps.all (· < 128)=true:=by decide +kernel
 have g:(ab "mnopq").cps.toList.length=5:=by decide +kernel
 unfold ts D4;walk_at "v";rw[q];walk_at "v";rw[r];walk_at "v";rw[mw (by decide)];walk_at "v";rw[if_pos h];walk_at "v";have k:=LK (ab "abcdefabcde") M (Y (c%12));generalize lD (ab "abcdefabcde") M (Y (c%12))=a at k;have e:a.length<=ez:=by rw[kR];omega
 rw[sG ⟨by decide,by decide⟩,Yj e];walk_at "v";rw[mw (by omega)];walk_at "v";generalize c/12%((a.length:Int)+1)=b;rw[if_pos o];walk_at "v";rw[if_pos (by simp[um,g,kR])];rw[L2.sv (h:=λd=>match d with|.str z =>.str ((lD a M (Y b)++z)++lD a (Y b) M)|d=>d) (λd p=>by
  obtain⟨i,_,rfl⟩:=ie.mp p;refine⟨_,rfl,?_⟩;have t:=LK a M (Y b);have s:=LK a (Y b) M;have n:(⟨#[i]⟩:aG).length=1:=rfl;walk_at "v";rw[if_pos e];walk_at "v";rw[WN (by rw[n,kR];omega)];walk_at "v";rw[if_pos e];walk_at "v";rw[WN (by
   have:(lD a M (Y b)++(⟨#[i]⟩:aG)).length=(lD a M (Y b)).length+1:=by show ((lD a M (Y b)).cps ++ #[i]).size=_;simp;rfl
   rw[this,kR];omega)])]
 walk_at "v";refine⟨(ab "mnopq").cps.toList.map λi=>(lD a M (Y b)++⟨#[i]⟩)++lD a (Y b) M,?_,by rw[au];exact g⟩;simp[um]
noncomputable abbrev Q6:aG:=ab "open"
noncomputable abbrev Q5:aG:=ab "text"
noncomputable abbrev Mn:aG:=ab "close"
def A'(s:D):Prop:=(∃x,s=.tup [.str Q6,.str x])∨(∃x,s=.tup [.str Q5,.str x])∨s=.tup [.str Mn]
theorem A'.ok{s:D}(h:A' s)(n:Nat):kq s (n+1)=true:=by
 rcases h with⟨x,rfl⟩|⟨x,rfl⟩|rfl<;>simp[kq,oO]
theorem HA(h:∀s∈a,A' s)(n:Nat):oO a (n+1)=true:=by
 induction a with
 |nil=>simp[oO]|cons s a ih=>simp only[oO,(h s ay).ok n,ih λs b=>h s (av _ b),Om]
noncomputable def jG:Nat×Bool->vk->Option (Nat×Bool)
 |(d,b),.op _=>if 0<d∨b=Z_ then Y (d+1,Z') else M
 |(d,b),.tx _=>if 0<d then Y (d,b) else M
 |(d,b),.cl=>if 0<d then Y (d-1,b) else M
noncomputable def tL:List vk->Nat×Bool->Option (Nat×Bool)
 |[],z=>Y z|g::a,z=>(jG z g).bind (tL a)
theorem pW(g:vk):∀(a:List vk) (z:Nat×Bool),tL (a++[g]) z=(tL a z).bind λb=>jG b g
 |[],z=>by show (jG z g).bind (tL [])=jG z g;cases jG z g<;>rfl
 | t::a,z=>by
  show (jG z t).bind (tL (a++[g]))=((jG z t).bind (tL a)).bind _;cases jG z t with
  |none=>rfl|some b=>exact pW g a b
structure SG(ss:List D)(dep:Int):Prop where
 sg:∀s∈ss,A' s
 ex:∃gs d b,ss=gs.map fP/\tL gs (0,false)=some (d,b)/\dep=(d:Nat)/\(gs=[]->b=false)
theorem SG.nil:SG [] 0:=⟨λs h=>(by cases h),[],0,Z_,rfl,rfl,rfl,λ_=>rfl⟩
theorem SG.open{f:List D}{a:Int}(h:SG f a)(x:aG)(e:f=[]∨0<a):SG (f++[.tup [.str Q6,.str x]]) (a+1):=by
 obtain⟨i,d,b,g,k,l,j⟩:=h.ex;refine⟨λs c =>?_,i++[.op x],d+1,Z',by rw[g,cm];rfl,?_,by omega,λh=>by simp at h⟩
 ·rcases aP.mp c with c|c
  ·exact h.sg s c
  ·exact .inl ⟨x,b8.mp c⟩
 ·rw[pW,k];show (if 0<d∨b=Z_ then _ else _)=_;rw[if_pos];rcases e with e|e
  ·exact .inr (j (by rw[e]at g;cases i with|nil=>rfl|cons=>cases g))
  ·exact .inl (by omega)
theorem SG.text(h:SG e a)(x:aG)(k:0<a):SG (e++[.tup [.str Q5,.str x]]) a:=by
 obtain⟨f,d,b,j,i,g,l⟩:=h.ex;refine⟨λs c =>?_,f++[.tx x],d,b,by rw[j,cm];rfl,?_,g,λh=>by simp at h⟩
 ·rcases aP.mp c with c|c
  ·exact h.sg s c
  ·exact .inr (.inl ⟨x,b8.mp c⟩)
 ·rw[pW,i];show (if 0<d then _ else _)=_;rw[if_pos (by omega)]
theorem SG.close(h:SG e a)(j:0<a):SG (e++[.tup [.str Mn]]) (a-1):=by
 obtain⟨f,d,b,i,g,l,k⟩:=h.ex;refine⟨λs c =>?_,f++[.cl],d-1,b,by rw[i,cm];rfl,?_,by omega,λh=>by simp at h⟩
 ·rcases aP.mp c with c|c
  ·exact h.sg s c
  ·exact .inr (.inr (b8.mp c))
 ·rw[pW,g];show (if 0<d then _ else _)=_;rw[if_pos (by omega)]
theorem Ww{a:List D}(h:∀s∈a,A' s):fh (.lst a) (.lst [])=Y (.bl a.isEmpty):=by
 have:kq (.lst a) 180=true:=by simp only[kq];rw[show 180-1=178+1 by rfl,HA h];rfl
 simp only[fh];rw[if_pos (by rw[this];rfl)];cases a<;>rfl
def Hq: DG := (a_ (dr 9 (e2 iX (e2 gu (eV 8) (e2 rF (e2 rF (eV 5) (e2 iX (eV 6) (eK (.int 2)))) (eK (.int 5)))) (eK (.int 7))))
      (eW (nJ (dk (e2 fh (eV 3) (eF (fX aN)))) (fV (dk (e2 QM (eV 9) (eK (.int 3)))) (dk (e2 vj (eV 4) (eK (.int 0))))))
       (a_ (pV 3 (gS (aC (eK (.str (ab "open"))) (aC (e2 cj (eV 1) (e2 iX (e2 iX (e2 kC (eV 8) (eK (.int 7))) (eK (.int 11))) (eK (.int 5)))) aN))))
        (dr 4 (e2 gu (eV 4) (eK (.int 1)))))
       (eW (fV (dk (e2 QM (eV 9) (eK (.int 5)))) (dk (e2 vj (eV 4) (eK (.int 0)))))
         (pV 3 (gS (aC (eK (.str (ab "text"))) (aC (e2 cj (eV 2) (e2 iX (e2 kC (eV 8) (eK (.int 7))) (eK (.int 5)))) aN))))
         (eW (nJ (dk (e2 vj (eV 4) (eK (.int 1)))) (fV (dk (e2 fh (eV 4) (eK (.int 1)))) (dk (e2 fh (e2 iX (e2 kC (eV 8) (eK (.int 7))) (eK (.int 6))) (eK (.int 0))))))
           (a_ (pV 3 (gS (aC (eK (.str (ab "close"))) aN)))
            (dr 4 (e2 me (eV 4) (eK (.int 1)))))
           c9))))
theorem AZ:xJ=a_ (dr 8 (eV 7)) (a_ (eW (dk (e2 fh (eV 6) (eK (.int 0)))) (dr 5 (e2 iX (e2 kC (eV 8) (eK (.int 7))) (eK (.int 3)))) c9) Hq):=rfl
theorem B_{a0:D}{nms txs:List aG}{k:List D}{lean j c:Int}{v9:Option D}(K:nms.length=5)(J:txs.length=5)(l:SG k a)(L:k.length<=i)(N:i<=1000)(n:0<=lean/\lean<3)(O:0<=j):
  ∃g f m,Hq [Y a0,Y (.lst (nms.map D.str)),Y (.lst (txs.map D.str)),Y (.lst k),Y (.int a),Y (.int lean),Y (.int j),Y (.int c),Y (.int c),v9] =
   Y (.nx [Y a0,Y (.lst (nms.map D.str)),Y (.lst (txs.map D.str)),Y (.lst g),Y (.int f),Y (.int lean),Y (.int j),Y (.int c),Y (.int c),m])/\SG g f/\g.length<=i+1:=by
 have q:=cN (c/7%11) (show (5:Int)≠0 by decide);have I:=b_ (c/7%11) (show (0:Int)<5 by decide);have p:=cN (c/7) (show (5:Int)≠0 by decide);have H:=b_ (c/7) (show (0:Int)<5 by decide);obtain⟨r,z,_⟩:=zb (xs:=nms) q (by omega);obtain⟨o,y,_⟩:=zb (xs:=txs) p (by omega);have d:k.length<ez:=by rw[kR];omega
 unfold Hq;walk_at "v";rw[mw (by decide)];walk_at "v";rw[W6 ⟨by omega,by omega⟩];walk_at "v";rw[GW ⟨by decide,by decide⟩];walk_at "v";rw[mw (by decide)];walk_at "v";rw[Ww l.sg];walk_at "v";generalize (c+lean*(j%2)*5)%7=e;have u:∃b,(if k.isEmpty=Z' then Y Z' else if decide (e<3)=Z' then Y (decide (0<a)) else Y Z_)=Y b/\(b=Z'->k=[]∨0<a):=by
  split
  ·rename_i h;exact⟨Z',rfl,λ_ =>.inl (by simpa using h)⟩
  ·split
   ·exact⟨_,rfl,λh =>.inr (of_decide_eq_true h)⟩
   ·exact⟨Z_,rfl,λh=>by cases h⟩
 obtain⟨G,C,x⟩:=u;rw[C];cases G with
 |true=>walk_at "v";rw[sG ⟨by decide,by decide⟩];walk_at "v";rw[mw (by decide)];walk_at "v";rw[mw (by decide)];walk_at "v";rw[z];walk_at "v";rw[if_pos d];walk_at "v";exact⟨_,_,_,rfl,l.open r (x rfl),by simp;omega⟩
 |false=>
  walk_at "v";have t:∃b,(if decide (e<5)=Z' then Y (decide (0<a)) else Y Z_)=Y b/\(b=Z'->0<a):=by
   split
   ·exact⟨_,rfl,λh=>of_decide_eq_true h⟩
   ·exact⟨Z_,rfl,λh=>by cases h⟩
  obtain⟨F,B,w⟩:=t;rw[B];cases F with
  |true=>walk_at "v";rw[sG ⟨by decide,by decide⟩];walk_at "v";rw[mw (by decide)];walk_at "v";rw[y];walk_at "v";rw[if_pos d];exact⟨_,_,_,rfl,l.text o (w rfl),by simp;omega⟩
  |false=>
   walk_at "v";rw[sG ⟨by decide,by decide⟩];walk_at "v";rw[mw (by decide)];walk_at "v";have s:∃b,(if decide (1<a)=Z' then Y Z' else if (a==1)=Z' then Y (c/7%6==0) else Y Z_)=Y b/\(b=Z'->0<a):=by
    split
    ·rename_i h;exact⟨Z',rfl,λ_=>by have:=of_decide_eq_true h;omega⟩
    ·split
     ·rename_i h;exact⟨_,rfl,λ_=>by have:=eq_of_beq h;omega⟩
     ·exact⟨Z_,rfl,λh=>by cases h⟩
   obtain⟨E,A,v⟩:=s;rw[A];cases E with
   |true=>walk_at "v";rw[if_pos d];walk_at "v";exact⟨_,_,_,rfl,l.close (v rfl),by simp;omega⟩
   |false=>walk_at "v";exact⟨_,_,_,rfl,l,by omega⟩
theorem Mf(k:List Int)(f:List aG)(O:k.length<=500)(G:f.length=5):∃h b,qS [.lst (k.map D.int),.lst (f.map D.str)]=Y h/\SG h b/\h.length<=k.length:=by
 unfold qS D3;walk_at "v";have B:([ab "x",ab "",ab "y x",ab "\"",ab "[a]"]:List aG).length=5:=rfl;have K:[D.str (ab "x"),D.str (ab ""),D.str (ab "y x"),D.str (ab "\""),D.str (ab "[a]")]=([ab "x",ab "",ab "y x",ab "\"",ab "[a]"]:List aG).map D.str:=rfl;rw[K];generalize ([ab "x",ab "",ab "y x",ab "\"",ab "[a]"]:List aG)=l at B;obtain⟨H,L,⟨h,b,a,z,y,w,q,rfl,v,s,_⟩⟩:=sF (τ:=D6 6 7) (g:=xJ) (ds:=x6 (k.map D.int)) (λi C=>∃(h:List D) (b a:Int) (z y w q:Option D),C=[Y (.lst (k.map D.int)),Y (.lst (f.map D.str)),Y (.lst (l.map D.str)),Y (.lst h),Y (.int b),Y (.int a),z,y,w,q]/\SG h b/\h.length<=i/\(0<=a/\a<3))
  (ρ:=[Y (.lst (k.map D.int)),Y (.lst (f.map D.str)),Y (.lst (l.map D.str)),Y (.lst []),Y (.int 0),Y (.int 0),M,M,M,M]) ⟨[],0,0,M,M,M,M,rfl,SG.nil,aM _,by decide,by decide⟩ (by
  rintro j d C I ⟨h,b,a,z,y,w,q,rfl,v,s,r⟩;obtain⟨x,A,rfl⟩:=xA I;obtain⟨c,J,rfl⟩:=An A;have N:j<k.length:=(aj.mp J).1;have F:=cN (c/7) (show (3:Int)≠0 by decide);have E:=b_ (c/7) (show (0:Int)<3 by decide);by_cases u:((j:Int)==0)=Z'
  ·obtain⟨n,g,m,e,o,p⟩:=B_ (a0 :=.lst (k.map D.int)) (nms:=f) (txs:=l) (lean:=c/7%3) (j:=(j:Int)) (c:=c) (v9:=q) G B v s (by omega) ⟨F,E⟩ (by omega);refine⟨_,_,rfl,?_,⟨n,g,c/7%3,Y (.int j),Y (.int c),Y (.int c),m,rfl,o,p,F,E⟩⟩;rw[AZ];walk_at "v";rw[u];walk_at "v";rw[sG ⟨by decide,by decide⟩];walk_at "v";rw[mw (by decide)];walk_at "v";exact e
  ·have t:((j:Int)==0)=false:=by simpa using u
   obtain⟨n,g,m,e,o,p⟩:=B_ (a0 :=.lst (k.map D.int)) (nms:=f) (txs:=l) (lean:=a) (j:=(j:Int)) (c:=c) (v9:=q) G B v s (by omega) r (by omega);refine⟨_,_,rfl,?_,⟨n,g,a,Y (.int j),Y (.int c),Y (.int c),m,rfl,o,p,r⟩⟩;rw[AZ];walk_at "v";rw[t];walk_at "v";exact e)
 rw[L];walk_at "v";rw[xy,au]at s;exact⟨h,b,rfl,v,s⟩
theorem K6(a:List Int)(n:Nat):oO (a.map D.int) n=true:=by
 induction a with|nil=>rfl|cons x a ih=>simp only[bh,oO,kq,ih,Om]
theorem TL(a:List Int):fh (.lst (a.map D.int)) (.lst [])=Y (.bl a.isEmpty):=by
 simp only[fh];rw[if_pos (by rw[Qs (K6 a 179)];rfl)];cases a<;>rfl
noncomputable def uB(a:List Int):Int:=a.getLastD 0
theorem HC(a:List Int):x9 [.lst (a.map D.int)]=Y (.int (uB a),a.dropLast.map D.int):=by
 unfold x9 Nr Bu;have t:dk (e2 fh (eV 0) (eF (fX aN))) [Y (.lst (a.map D.int))]=Y a.isEmpty:=by walk_at "v";rw[TL];walk_at "v"
 rw[if_pos (show [D.lst (a.map D.int)].length=1 from rfl)];show (a_ _ _ [Y (.lst (a.map D.int))]).bind (Pp 0)=_;rcases List.eq_nil_or_concat a with rfl|⟨b,x,rfl⟩
 ·have e:eW (dk (e2 fh (eV 0) (eF (fX aN)))) (dI (mP (eK (.int 0)))) c9 [Y (.lst (([]:List Int).map D.int))]=Y (.rm (.int 0) [Y (.lst [])]):=by rw[Vs t];rfl
  simp only[a_,e,aa];rfl
 ·have e:eW (dk (e2 fh (eV 0) (eF (fX aN)))) (dI (mP (eK (.int 0)))) c9 [Y (.lst ((b.concat x).map D.int))]=Y (.nx [Y (.lst ((b.concat x).map D.int))]):=by rw[Vt (by rw[t];simp)];rfl
  rw[OV e];simp only[dI,PQ];walk_at "v";simp[Pp,gc,eV,uB]
theorem M9{ρ:bZ}{τ:BZ}{fe:DM}{i0:Nat}{Pr:D->Prop}:∀ {ds:List D}(e:List Int),(∀d∈ds,∀e:List Int,∃(c:bZ) (x:D) (b:bZ) (a:List Int),τ d (ρ.set i0 (Y (.lst (e.map D.int))))=Y c/\fe c=Y (x,b)/\gc i0 b=Y (a.map D.int)/\Pr x)->∃f a,M_ ρ τ fe i0 ds (e.map D.int)=Y (f,LM D.int a)/\f.length=ds.length/\∀x∈f,Pr x
 |[],e,_=>⟨[],e,rfl,rfl,λx h=>by cases h⟩
 | d::ds,e,h=>by
  obtain⟨c,x,b,g,q,p,o,j⟩:=h d ay e;obtain⟨f,a,n,l,k⟩:=M9 (ds:=ds) g λd m=>h d (av _ m)
  refine⟨x::f,a,?_,by simp[l],λy i =>?_⟩
  ·simp only[M_,q,aa,p,o,n,bI]
  ·rcases aK.mp i with rfl|i
   ·exact j
   ·exact k y i
noncomputable abbrev qA(xs:List Int)(a:List aG)(b:Int):List D:=[.lst (xs.map D.int),.int b,.lst (a.map D.str)]
theorem B6(Fw Fs:List D->Option (D×List D))(n:Nat)(dp:Int)(hdp:dp=n)(nms:List aG)
  (hs:∀m,n=m+1->∀xs:List Int,∃(nc:List (aG×aG×D)) (xs':List Int),Fs (qA xs nms (dp-1))=Y (.lst (nc.map cD),xs'.map D.int)/\1<=nc.length/\nc.length<=3/\∀p∈nc,gW (m+1) p.2.2)
  (hw:∀m,n=m+1->∀xs:List Int,∃(w:D) (xs':List Int),Fw (qA xs nms (dp-1))=Y (w,xs'.map D.int)/\gW (m+1) w)
  (xs:List Int):∃(w:D) (xs':List Int),Bu 3 5 0 (xu Fw Fs) (qA xs nms dp)=Y (w,xs'.map D.int)/\gW (n+1) w:=by
 have q0:=cN (uB xs) (show (8:Int)≠0 by decide);have q1:=b_ (uB xs) (show (0:Int)<8 by decide);have e8:iX (.int (uB xs)) (.int 8)=Y (.int (uB xs%8)):=mw (by decide);have f8:kC (.int (uB xs)) (.int 8)=Y (.int (uB xs/8)):=sG ⟨by decide,by decide⟩;have Nk:=HC xs;generalize uB xs=num at *
 generalize num%8=kd at *
 generalize num/8=nd at *
 unfold xu;walk_at "v";rw[Nk];walk_at "v";rw[e8];walk_at "v";by_cases k1:kd<2∨(dp=0/\2<kd)
 ·have:(if decide (kd<2)=Z' then Y Z' else if (dp==0)=Z' then Y (decide (2<kd)) else Y Z_)=Y true:=by
   by_cases a:kd<2
   ·rw[decide_eq_true a];rfl
   ·rw[decide_eq_false a];rcases k1 with z|⟨z,z'⟩
    ·exact absurd z a
    ·rw[z,decide_eq_true z'];rfl
  rw[this];walk_at "v";exact⟨_,xs.dropLast,rfl,.inl rfl⟩
 ·have:(if decide (kd<2)=Z' then Y Z' else if (dp==0)=Z' then Y (decide (2<kd)) else Y Z_)=Y false:=by
   have a:¬kd<2:=λz=>k1 (.inl z)
   rw[decide_eq_false a];by_cases b:dp=0
   ·have c:¬2<kd:=λz=>k1 (.inr ⟨b,z⟩)
    rw[decide_eq_false c,b];rfl
   ·rw[show (dp==0)=Z_ by simp[b]];rfl
  rw[this];walk_at "v";by_cases k2:kd=2
  ·rw[show (kd==2)=Z' by simp[k2]];walk_at "v";rw[f8];walk_at "v";rw[mw (by decide)];walk_at "v";have r0:=cN nd (show (5:Int)≠0 by decide);have r1:=b_ nd (show (0:Int)<5 by decide);obtain⟨tx,et,_⟩:=zb (xs:=[ab "x",ab "",ab "y x",ab "\"",ab "[a]"]) (z:=nd%5) r0 r1;rw[show oT [D.str (ab "x"),D.str (ab ""),D.str (ab "y x"),D.str (ab "\""),D.str (ab "[a]")] (nd%5)=Y (.str tx) from et];walk_at "v";exact⟨_,xs.dropLast,rfl,.inr (.inl ⟨tx,rfl⟩)⟩
  ·rw[show (kd==2)=Z_ by simp[k2]];walk_at "v";obtain⟨m,hm⟩:∃m,n=m+1:=by
    cases n with
    |zero=>exact absurd (.inr ⟨by rw[hdp];rfl,by have:=λz=>k1 (.inl z);omega⟩) k1
    |succ m=>exact⟨m,rfl⟩
   subst hm;by_cases k5:kd<5
   ·rw[decide_eq_true k5];walk_at "v";obtain⟨nc,xs',es,l0,l1,P5⟩:=hs m rfl xs.dropLast;simp only[qA]at es;rw[es];walk_at "v";exact⟨_,xs',rfl,.inr (.inr (.inl ⟨nc,rfl,by intro h;rw[h]at l0;simp at l0,l1,P5⟩))⟩
   ·rw[decide_eq_false k5];walk_at "v";by_cases k6:kd=5
    ·rw[show (kd==5)=Z' by simp[k6]];walk_at "v";exact⟨_,xs.dropLast,rfl,.inr (.inr (.inl ⟨[(ab "own",ab "*",.tup [kS "any"])],rfl,by simp,by simp,λp hp=>by rw[b8.mp hp];exact .inl rfl⟩))⟩
    ·rw[show (kd==5)=Z_ by simp[k6]];walk_at "v";obtain⟨kn,ek,hk⟩:∃kn:aG,oT [D.str (ab "both"),D.str (ab "one")] (kd-6)=Y (.str kn)/\(kn=ab "both" ∨kn=ab "one"):=by
      have:kd=6∨kd=7:=by have:=λz=>k1 (.inl z);omega
      rcases this with rfl|rfl
      ·exact⟨_,rfl,.inl rfl⟩
      ·exact⟨_,rfl,.inr rfl⟩
     rw[ek];walk_at "v";rw[f8];walk_at "v";rw[mw (by decide)];walk_at "v";have r0:=cN nd (show (4:Int)≠0 by decide);have r1:=b_ nd (show (0:Int)<4 by decide);generalize nd%4=mn at *
     have Yx : -(2 ^ 62)<=mn/\mn<2 ^ 62:=⟨wN (by decide) r0,wM r1 (by decide)⟩;rw[if_pos Yx];walk_at "v";have hz:(mv 0 mn.toNat).length<=ez:=by rw[pX,kR];omega
     rw[if_pos hz];obtain⟨ws,xs',el,hl,ZO⟩:=M9 (ρ:=[M,Y (.lst (xs.dropLast.map D.int)),Y (.lst (nms.map D.str)),Y (.int dp)]) (τ:=gN 0) (fe:=t_ Fw 1 (aC (e2 me (eV 3) (eK (.int 1))) (aC (eV 2) aN))) (i0:=1) (Pr:=gW (m+1)) (ds:=mv 0 mn.toNat) xs.dropLast λd _ ys=>by obtain⟨w,Zn,ew,Yq⟩:=hw m rfl ys;simp only[qA]at ew;refine⟨_,w,[Y d,Y (.lst (Zn.map D.int)),Y (.lst (nms.map D.str)),Y (.int dp)],Zn,rfl,?_,rfl,Yq⟩;walk_at "v";rw[ew];walk_at "v"
     rw[el];walk_at "v";rw[pX]at hl;refine⟨_,xs',rfl,?_⟩;rcases hk with rfl|rfl
     ·exact .inr (.inr (.inr (.inl ⟨ws,rfl,by omega,ZO⟩)))
     ·exact .inr (.inr (.inr (.inr ⟨ws,rfl,by omega,ZO⟩)))
theorem Hs(Fw Fs:List D->Option (D×List D))(n:Nat)(dp:Int)(nms:List aG)(hn:nms.length=5)
  (hw:∀xs:List Int,∃(w:D) (xs':List Int),Fw (qA xs nms dp)=Y (w,xs'.map D.int)/\gW (n+1) w)
  (xs:List Int):∃(nc:List (aG×aG×D)) (xs':List Int),Bu 3 7 0 (y6 Fw Fs) (qA xs nms dp)=Y (.lst (nc.map cD),xs'.map D.int)/\1<=nc.length/\nc.length<=3/\∀p∈nc,gW (n+1) p.2.2:=by
 have r0:=cN (uB xs) (show (3:Int)≠0 by decide);have r1:=b_ (uB xs) (show (0:Int)<3 by decide);have e4:iX (.int (uB xs)) (.int 3)=Y (.int (uB xs%3)):=mw (by decide);have Nk:=HC xs;generalize uB xs=num at *
 generalize num%3=md at *
 have Yx : -(2 ^ 62)<=1+md/\1+md<2 ^ 62:=⟨wN (by decide) (show (0:Int)<=1+md by omega),rS (show 1+md<=3 by omega) (by decide)⟩;unfold y6;walk_at "v";rw[Nk];walk_at "v";rw[e4];walk_at "v";rw[if_pos Yx];walk_at "v";obtain⟨ρ',ef,ys,nc,v4,v5,v6,rfl,hl,P5⟩:=sF (τ:=gN 4) (g:=xI Fw Fs) (ds:=mv 0 (1+md).toNat) (λi ρ=>∃(ys:List Int) (nc:List (aG×aG×D)) (v4 v5 v6:Option D),ρ=[Y (.lst (ys.map D.int)),Y (.int dp),Y (.lst (nms.map D.str)),Y (.lst (nc.map cD)),v4,v5,v6]/\nc.length=i/\∀p∈nc,gW (n+1) p.2.2)
  (ρ:=[Y (.lst (xs.dropLast.map D.int)),Y (.int dp),Y (.lst (nms.map D.str)),Y (.lst []),M,M,M]) ⟨xs.dropLast,[],M,M,M,rfl,rfl,λs h=>(by cases h)⟩ (by
  rintro j d ρ hd ⟨ys,nc,v4,v5,v6,rfl,hl,P5⟩;have hj:j<(1+md).toNat:=by have:=(aj.mp hd).1;rw[pX]at this;exact this
  have Nk:=HC ys;generalize uB ys=num at *
  obtain⟨w,zs,ew,Yq⟩:=hw ys.dropLast;simp only[qA]at ew;have t0:=cN (num/2) (show (7:Int)≠0 by decide);have t1:=b_ (num/2) (show (0:Int)<7 by decide);obtain⟨nm,en,_⟩:=zb (xs:=nms.take 4++[ab "*",ab "*",ab "*"]) (z:=num/2%7) t0 (by simp[hn];omega);rw[cm]at en;obtain⟨wy,ey⟩:∃wy:aG,oT [D.str (ab "own"),D.str (ab "inner")] (num%2)=Y (.str wy):=by
   have:num%2=0∨num%2=1:=by omega
   rcases this with z|z
   ·rw[z];exact⟨_,rfl⟩
   ·rw[z];exact⟨_,rfl⟩
  refine⟨_,[Y (.lst (zs.map D.int)),Y (.int dp),Y (.lst (nms.map D.str)),Y (.lst ((nc++[(wy,nm,w)]).map cD)),Y d,Y (.int num),Y (.str nm)],rfl,?_,zs,nc++[(wy,nm,w)],Y d,Y (.int num),Y (.str nm),rfl,by simp[hl],λs hs =>?_⟩
  ·unfold xI;walk_at "v";rw[Nk];walk_at "v";rw[sG ⟨by decide,by decide⟩];walk_at "v";rw[Im _ (by decide),<- Oj];have Wo:gu (.lst ((nms.take (4:Int).toNat).map D.str)) (.lst [.str (ab "*"),.str (ab "*"),.str (ab "*")])=Y (.lst ((nms.take 4).map D.str++[.str (ab "*"),.str (ab "*"),.str (ab "*")])):=by simp only[gu];rw[if_pos (by simp[kR];omega)];rfl
   rw[Wo];walk_at "v";rw[mw (by decide)];walk_at "v";rw[show oT ((nms.take 4).map D.str++[D.str (ab "*"),D.str (ab "*"),D.str (ab "*")]) (num/2%7)=Y (.str nm) from en];walk_at "v";rw[mw (by decide)];walk_at "v";rw[ey];walk_at "v";rw[ew];walk_at "v";rw[if_pos (by rw[kR,au];omega),cm];rfl
  ·rcases aP.mp hs with hs|hs
   ·exact P5 s hs
   ·rw[b8.mp hs];exact Yq)
 rw[ef];walk_at "v";rw[pX]at hl;exact⟨nc,ys,rfl,by omega,by omega,P5⟩
end K21
namespace K21
open PySem L2
noncomputable def DN:vk->Bool|.op _=>Z'|_=>Z_
noncomputable def DR:vk->Bool|.cl=>Z'|_=>Z_
theorem D8{ρ:bZ}(h:∀g:vk,dk (e2 fh (e2 cj (eV 0) (eK (.int 0))) (eK (.str k))) [Y (fP g)]=Y (p g)):∀a:List vk,BL [M] (gN 0) (dk (e2 fh (e2 cj (eV 0) (eK (.int 0))) (eK (.str k)))) (eV 0) (a.map fP)=Y ((a.filter p).map fP)
 |[]=>rfl| g::a=>by
  rw[bh,BL];have c:gN 0 (fP g) [M]=Y [Y (fP g)]:=rfl;have b:eV 0 [Y (fP g)]=Y (fP g):=rfl;rw[c];simp only[aa,h g,b,D8 (ρ:=ρ) h a];cases e:p g with
  |true=>simp[tG,e]|false=>simp[tG,e]
theorem tf:∀(a:List vk) (d:Nat) (b:Bool) (f:Nat) (i:Bool),tL a (d,b)=Y (f,i)->(d:Int)+(a.filter DN).length-(a.filter DR).length=f
 |[],d,b,f,i,h=>by cases h;simp
 | g::a,d,b,f,i,h=>by
  rw[tL]at h;cases g with
  |op n=>
   by_cases c:0<d∨b=Z_
   ·have e:jG (d,b) (.op n)=Y (d+1,Z'):=by show (if _ then _ else _)=_;rw[if_pos c]
    rw[e]at h;have:=tf a (d+1) Z' f i h;simp only[tG,DN,DR,aO];omega
   ·have e:jG (d,b) (.op n)=none:=by show (if _ then _ else _)=_;rw[if_neg c]
    rw[e]at h;cases h
  |tx n=>
   by_cases c:0<d
   ·have e:jG (d,b) (.tx n)=Y (d,b):=by show (if _ then _ else _)=_;rw[if_pos c]
    rw[e]at h;have:=tf a d b f i h;simpa only [tG,DN,DR] using this
   ·have e:jG (d,b) (.tx n)=none:=by show (if _ then _ else _)=_;rw[if_neg c]
    rw[e]at h;cases h
  |cl=>
   by_cases c:0<d
   ·have e:jG (d,b) .cl=Y (d-1,b):=by show (if _ then _ else _)=_;rw[if_pos c]
    rw[e]at h;have:=tf a (d-1) b f i h;simp only[tG,DN,DR,aO];omega
   ·have e:jG (d,b) .cl=none:=by show (if _ then _ else _)=_;rw[if_neg c]
    rw[e]at h;cases h
theorem NP{a:List vk}(n:a.length<=1000)(h:tL a (0,Z_)=Y (d,b)):qT [.lst (a.map fP)]=Y (.int (d:Nat)):=by
 show (y8 [Y (.lst (a.map fP))]).bind nC=_;have e:∀g:vk,dk (e2 fh (e2 cj (eV 0) (eK (.int 0))) (eK (.str (ab "open")))) [Y (fP g)]=Y (DN g):=λg=>by cases g<;>kernel_rfl
 have i:∀g:vk,dk (e2 fh (e2 cj (eV 0) (eK (.int 0))) (eK (.str (ab "close")))) [Y (fP g)]=Y (DR g):=λg=>by cases g<;>kernel_rfl
 have m:o6 (iL (eV 0)) [M] (gN 0) (dk (e2 fh (e2 cj (eV 0) (eK (.int 0))) (eK (.str (ab "open"))))) (eV 0) [Y (.lst (a.map fP))]=Y ((a.filter DN).map fP):=by unfold o6;show (if (a.map fP).length<=ez then BL [M] (gN 0) _ (eV 0) (a.map fP) else M)=_;rw[if_pos (ic (i_ (by rw[au];omega)))];exact D8 (ρ:=[]) e a
 have l:o6 (iL (eV 0)) [M] (gN 0) (dk (e2 fh (e2 cj (eV 0) (eK (.int 0))) (eK (.str (ab "close"))))) (eV 0) [Y (.lst (a.map fP))]=Y ((a.filter DR).map fP):=by unfold o6;show (if (a.map fP).length<=ez then BL [M] (gN 0) _ (eV 0) (a.map fP) else M)=_;rw[if_pos (ic (i_ (by rw[au];omega)))];exact D8 (ρ:=[]) i a
 have k:be hR (aC (eF (o6 (iL (eV 0)) [M] (gN 0) (dk (e2 fh (e2 cj (eV 0) (eK (.int 0))) (eK (.str (ab "open"))))) (eV 0))) aN) [Y (.lst (a.map fP))]=Y (.int ((a.filter DN).length:Nat)):=by rw[u4 m];show Y (D.int (((a.filter DN).map fP).length:Nat))=_;rw[au]
 have j:be hR (aC (eF (o6 (iL (eV 0)) [M] (gN 0) (dk (e2 fh (e2 cj (eV 0) (eK (.int 0))) (eK (.str (ab "close"))))) (eV 0))) aN) [Y (.lst (a.map fP))]=Y (.int ((a.filter DR).length:Nat)):=by rw[u4 l];show Y (D.int (((a.filter DR).map fP).length:Nat))=_;rw[au]
 unfold y8 eE;rw[show ∀(f g:DF) c,L2.e2 me f g c=(f c).bind λx=>(g c).bind λy=>me x y from λ_ _ _=>rfl,k,j];have:=tf a 0 Z_ d b h;show Y (D.int (((a.filter DN).length:Nat)-((a.filter DR).length:Nat):Int))=_
 congr 2
 omega
variable {f:wF}{m:Int}{P:Nat->Prop}{g o:Int->Int->Int}{p u:aG->Int}{c:fY}{t:cU}{a:List cU}{v d:Nat}{b:Bool}
theorem Uh(f:0<=x)(d:0<=y)(h:y<2 ^ k):bA x y<2 ^ k:=ph (fK f d) λi b=>by
 rw[gZ f d]at b;simp only[aH]at b;have j:y.toNat<2 ^ k:=by
  have e:((2 ^ k:Nat):Int)=(2:Int) ^ k:=by simp
  omega
 exact Nat.lt_of_not_le λc=>by have:=QQ (x:=y.toNat) (i:=i) (bu j (pO (by decide) c));rw[this]at b;exact absurd b.2 (by decide)
theorem PT.ev(W:qh f m P g o p u)(h:f.q.length<=64)(I:PT f m P g c t a v d b)(i:c.opened<=60):
  dH [bw c]=Y (.lst ((yS (oZ f.inner (2 ^ f.q.length) t a++(c.rests.filter (j3 (t::fZ f.inner t a))).map (·.num))).map D.int),bw (Bo c (t::fZ f.inner t a))):=by
 have j:=I.cb.cnt;have e:UR c.f.inner t a:=by rw[I.cb.ff];exact Me W.inner h t t a I.cb.top.pos.r0 I.cb.top.pos.a0 I.cb.B
 have l:=z9 c.f.inner c.full t a;have k:=JA (j3 (t::fZ c.f.inner t a)) c.rests;have:=BC (c:=c) I.cb.rows e I.G_ (by rw[aE,au];omega) (by omega) (by omega);rw[I.cb.ff,I.cb.full]at this;exact this
theorem OO(W:qh f m P g o p u)(hk:f.q.length<=64)(I:CI f m P g c t a v d b)(ht:c.taken<=40)(s:vk)(y:jG (d,b) s=Y (d',b')):
  ∃fr c' F n,fF [bw c,fP s]=Y (.lst (fr.map D.int),bw c')/\CI f m P g c' F n (v+fr.length) d' b'/\c'.taken=c.taken+1/\b'=Z'/\(b=Z'->yL f m c a->fr=[]/\yL f m c' n):=by
 have C:=I.cb;have GX:c.rows.length=d+1:=by rw[C.rows,aO,C.len]
 have FO:QI c.f g o:=by rw[C.ff];exact W.ok
 have FS:WY c.f p u:=by rw[C.ff];exact W.st
 have hto:=C.tk;have hct:=C.cnt;have z:=C.len;have T:0<d->b=true:=λh=>C.op.mpr (by omega)
 have hw:0<d->decide (1<c.rows.length)=true:=λh=>decide_eq_true (by omega)
 cases s with
 |cl=>
  have B:0<d:=by
   by_cases h:0<d
   ·exact h
   ·have e:jG (d,b) .cl=none:=by show (if _ then _ else _)=_;rw[if_neg h]
    rw[e]at y;cases y
  have e:jG (d,b) .cl=Y (d-1,b):=by show (if _ then _ else _)=_;rw[if_pos B]
  rw[e]at y;cases y;obtain⟨O,r,e0,h1,h2,h3,h4,h5⟩:=I.close W B;subst e0;have S:=Ib (c:=c) (r:=r) (pr:=ft t O) (by show N0 .cl _ _=Z';exact hw B) h1 h2 h3 (by omega);exact⟨[],_,t,O,S,h5,rfl,T B,λ_ L=>⟨rfl,I.V0 W L⟩⟩
 |tx x=>
  have B:0<d:=by
   by_cases h:0<d
   ·exact h
   ·have e:jG (d,b) (.tx x)=none:=by show (if _ then _ else _)=_;rw[if_neg h]
    rw[e]at y;cases y
  have e:jG (d,b) (.tx x)=Y (d,b):=by show (if _ then _ else _)=_;rw[if_pos B]
  rw[e]at y;cases y;have Q:c.rows[c.rows.length-1]?=Y (c.rows[c.rows.length-1]'(by omega)):=aU (by omega);generalize (c.rows[c.rows.length-1]'(by omega))=r at Q;obtain⟨F,n,N,hh,ha,w⟩:=I.text W x Q;have G:(wz g o (gU c) (u x) r).opened=c.opened:=by unfold wz;split<;>rfl
  have Yt:(wz g o (gU c) (u x) r).taken=c.taken+1:=by unfold wz;split<;>rfl
  have K:=N.ev W hk (by rw[G];omega);have S:=Lb (c:=c) FO FS (t:=x) (r:=r) (by show N0 (.tx x) _ _=Z';exact hw B) Q (by omega) K;have V:=N.U' W.inner W.m3.1;refine⟨_,_,F,fZ f.inner F n,S,?_,Yt,T B,λ_ L =>?_⟩
  ·rw[(lJ _).length_eq];exact V
  ·obtain⟨l1,l2⟩:=N.Rf W ⟨w.trans L.1,KP L.2 hh ha⟩;refine⟨?_,l2⟩;rw[l1];exact vi (lJ [])
 |op x=>
  have hc:0<d∨b=false:=by
   by_cases h:0<d∨b=Z_
   ·exact h
   ·have e:jG (d,b) (.op x)=none:=by show (if _ then _ else _)=_;rw[if_neg h]
    rw[e]at y;cases y
  have e:jG (d,b) (.op x)=Y (d+1,Z'):=by show (if _ then _ else _)=_;rw[if_pos hc]
  rw[e]at y;cases y;have hg:Np c (.op x)=true:=by
   show (decide (1<c.rows.length) || !decide (0<c.opened))=Z';rcases hc with h|h
   ·rw[hw h];rfl
   ·have:¬0<c.opened:=λk=>by have:=C.op.mpr k;rw[h]at this;cases this
    rw[decide_eq_false this];simp
  have hp:c.rows.getLast? = Y (ft t a):=by rw[C.rows];exact xm t a
  have H:sN (ft t a):=by
   cases a with
   |nil=>exact C.top.pos|cons q qs=>exact mC W.inner W.m3.1 t (q::qs) C.top.pos C.B I.S _ (p7 t (q::qs) (by simp))
  have hb:(bA (bO (ft t a).cv (bA (ft t a).ha c.f.inner)) (bA (p x) c.able)).natAbs<2 ^ 64:=by rw[C.ff,C.QD];exact CW (fA H.h0 (fK H.Jr W.inner)) (fK (W.L9 x) W.m3.1) (Uh (W.L9 x) W.m3.1 W.m3.2) hk
  obtain⟨F,n,N,hh,ha,w⟩:=I.open W x;have G:(FG g o (gU c) (p x) (ft t a)).opened=c.opened+1:=rfl;have K:=N.ev W hk (by rw[G];omega);have S:=Lc (c:=c) FO FS (n:=x) (pr:=ft t a) hg hp hb (by omega) K;have V:=N.U' W.inner W.m3.1;refine⟨_,_,F,fZ f.inner F n,S,?_,rfl,rfl,λU L =>?_⟩
  ·rw[(lJ _).length_eq];exact V
  ·have Jq:a≠[]:=by
    rcases hc with h|h
    ·intro k;rw[k]at z;simp at z;omega
    ·rw[h]at U;cases U
   have hl:=L.2 _ (p7 t a Jq);have R:=M5 W H hl (W.L9 x);have X:∀r∈n,Lh f m r.cv r.ha:=by
    intro r Q;obtain⟨j,hj⟩:=gB Q;have A:=congrArg (λl=>l[j]?) hh;have E:=congrArg (λl=>l[j]?) ha;simp only[aT,hj,bI]at A E;by_cases J:j<a.length
    ·rw[d6 (by rw[au];exact J),aT,aU J]at A E;simp only[bI,gR]at A E;rw[A,E];exact L.2 _ (G7 J)
    ·rw[dO (by rw[au];omega),au]at A E;obtain⟨i,hi⟩:∃i,j-a.length=i:=⟨_,rfl⟩;rw[hi]at A E;cases i with
     |zero=>simp only[OB,gR]at A E;rw[A,E];exact R|succ i=>simp at A
   obtain⟨l1,l2⟩:=N.Rf W ⟨w.trans L.1,X⟩;refine⟨?_,l2⟩;rw[l1];exact vi (lJ [])
end K21
namespace K21
open PySem L2
theorem Bl(c:List aG)(q:c.length=5):∀(n:Nat),
  (∀(a:Nat) (e:List Int),2*n+1<=a->∃(w:D) (b:List Int),ia a (qA e c (n:Int))=Y (w,b.map D.int)/\gW (n+1) w) /\
  (∀(a:Nat) (e:List Int),2*n+2<=a->∃(d:List (aG×aG×D)) (b:List Int),ib a (qA e c (n:Int))=Y (.lst (d.map cD),b.map D.int)/\1<=d.length/\d.length<=3/\∀p∈d,gW (n+1) p.2.2):=by
 intro n;have i:∀(k:Nat),(∀(a:Nat) (e:List Int),2*k+1<=a->∃(w:D) (b:List Int),ia a (qA e c (k:Int))=Y (w,b.map D.int)/\gW (k+1) w)->(∀(a:Nat) (e:List Int),2*k+2<=a->∃(d:List (aG×aG×D)) (b:List Int),ib a (qA e c (k:Int))=Y (.lst (d.map cD),b.map D.int)/\1<=d.length/\d.length<=3/\∀p∈d,gW (k+1) p.2.2):=by
  intro k r a e l;cases a with
  |zero=>omega|succ f=>rw[ib];exact Hs (ia f) (ib f) k (k:Int) c q (λg=>r f g (by omega)) e
 induction n with
 |zero=>
  have j:∀(a:Nat) (e:List Int),2*0+1<=a->∃(w:D) (b:List Int),ia a (qA e c ((0:Nat):Int))=Y (w,b.map D.int)/\gW (0+1) w:=by
   intro a e l;cases a with
   |zero=>omega|succ f=>rw[ia];exact B6 (ia f) (ib f) 0 _ rfl c (λm h=>by cases h) (λm h=>by cases h) e
  exact⟨j,i 0 j⟩
 |succ m ih=>
  have j:∀(a:Nat) (e:List Int),2*(m+1)+1<=a->∃(w:D) (b:List Int),ia a (qA e c ((m+1:Nat):Int))=Y (w,b.map D.int)/\gW (m+1+1) w:=by
   intro a e l;cases a with
   |zero=>omega|succ f=>
    rw[ia];have o:((m+1:Nat):Int)-1=(m:Int):=by omega
    refine B6 (ia f) (ib f) (m+1) _ rfl c (λk h =>?_) (λk h =>?_) e
    ·cases h;rw[o];exact λg=>ih.2 f g (by omega)
    ·cases h;rw[o];exact λg=>ih.1 f g (by omega)
  exact⟨j,i (m+1) j⟩
theorem Lw{F:List D->Option (D×List D)}{r:D×List D}(f:g a=Y b)(e:h a=Y c)(d:F (.lst b::c)=Y r):qI F g h a=Y r.1:=by
 unfold qI;rw[f,e];simp only[aa,d];rfl
theorem Fo(c:List Int)(f:c.length<=63)(b:List aG)(g:b.length=5):∃a:List (aG×aG×D),qI tq (oJ ji (aC (eV 0) (aC (eK (.int 100)) (aC (eK (.int 12)) aN)))) (aC (eK (.int 3)) (aC (eV 1) aN)) [Y (.ku c),Y (.lst (b.map D.str)),M,M,M,M,M,M]=Y (.lst (a.map cD))/\1<=a.length/\a.length<=3/\∀p∈a,gW 4 p.2.2:=by
 obtain⟨e,k,_⟩:=AW c f 100 12 (by decide) (by decide) (by decide) (by decide);obtain⟨a,d,l,j,i,h⟩:=(Bl b g 3).2 12 e (by decide);refine⟨a,?_,j,i,h⟩;have n:oJ ji (aC (eV 0) (aC (eK (.int 100)) (aC (eK (.int 12)) aN))) [Y (.ku c),Y (.lst (b.map D.str)),M,M,M,M,M,M]=Y (e.map D.int):=(show _=ji [.ku c,.int 100,.int 12] from rfl).trans k;have m:tq [.lst (e.map D.int),.int 3,.lst (b.map D.str)]=Y (.lst (a.map cD),d.map D.int):=l;exact Lw n rfl m
noncomputable abbrev t2:aG:=ab "sure"
noncomputable abbrev ll:aG:=ab "open"
noncomputable abbrev pT:aG:=ab "lost"
abbrev sx(ns:List Int)(nm q ss:List D)(c:fY)(a:List Int)(bf:aG)(k:Int)(a7:Option D):bZ:=[Y (.ku ns),Y (.lst nm),Y (.lst q),Y (.lst ss),oS c a,Y (.str bf),Y (.int k),a7]
abbrev HS(ns:List Int)(nm q ss:List D)(c:fY)(a:List Int)(bf:aG)(k:Int)(a7:Option D):bZ:=[Y (.ku ns),Y (.lst nm),Y (.lst q),Y (.lst ss),Y (hG c a),Y (.str bf),Y (.int k),a7]
section
variable {ns:List Int}{nm q ss:List D}{c j:fY}{a i:List Int}{bf x:aG}{k:Int}{a7:Option D}
theorem yY:res [4] [] (sx ns nm q ss c a bf k a7)=HS ns nm q ss c a bf k a7:=rfl
theorem Va{F:List D->Option (D×D)}{s:D}(d:a7=M∨∃x,a7=Y (.str x))(b:cj (.lst ss) (.int k)=Y s)(e:F [hG c a,s]=Y (r,hG j i)):
  dS (bU "Sift" "take" dF F 4 (jn (mP (e2 cj (eV 3) (eV 6))) kl)) (sx ns nm q ss c a bf k a7)=Y (.nx (sx ns nm q ss j i bf k a7)):=by
 have w:e2 cj (eV 3) (eV 6) (sx ns nm q ss c a bf k a7)=cj (.lst ss) (.int k):=rfl;have n:jn (mP (e2 cj (eV 3) (eV 6))) kl (sx ns nm q ss c a bf k a7)=Y ([s],sx ns nm q ss c a bf k a7):=by unfold jn mP;rw[w,b];rfl
 have m:∀g:Ka,bU "Sift" "take" dF F 4 g (sx ns nm q ss c a bf k a7)=(g (sx ns nm q ss c a bf k a7)).bind λq=>(j8 dF 4 q.2).bind λt=>(F (t::q.1)).map λr=>(r.1,(c8 4 q.2).set 4 (Y (.obj dF r.2))):=by intro g;kernel_rfl
 have f:j8 dF 4 (sx ns nm q ss c a bf k a7)=Y (hG c a):=by kernel_rfl
 unfold dS;rw[m,n];simp only[aa];rw[f];simp only[aa];rw[e];rcases d with h|⟨y,h⟩<;>subst h<;>rfl
theorem V4{F:List D->Option D}(h:F [hG c a]=Y (.str x)):dr 7 (lx [4] [] (cO "Sift" "outlook" F (eV 4) aN)) (sx ns nm q ss c a bf k a7)=Y (.nx (sx ns nm q ss c a bf k (Y (.str x)))):=by
 have e:cO "Sift" "outlook" F (eV 4) aN (HS ns nm q ss c a bf k a7)=F [hG c a]:=by kernel_rfl
 rw[gE (mT yY (e.trans h) rfl)];rfl
theorem neB(b:Bool){f:DF}{c:bZ}(e:f c=Y (.bl b))(d:g c=Y (.bl b)):dk (e2 vK f g) c=Y false:=by
 unfold dk e2;rw[e,d];cases b<;>rfl
theorem Yf{f:DT}(d:f b=Y Z_)(c:g b=Y Z_):nJ f g b=Y false:=by
 unfold nJ;rw[d];exact c
theorem CY{f:DT}(c:f b=Y Z_):fV f g b=Y false:=by
 unfold fV;rw[c];rfl
theorem J1{f:DT}(d:f b=Y Z')(c:g b=Y Z_):fV f g b=Y false:=by
 unfold fV;rw[d];exact c
theorem Jp(n:Nat):∀b:List Int,oO (b.map D.int) n=Z'
 |[]=>rfl|x::b=>by rw[bh,oO,Jp n b];rfl
theorem VV(b:List Int):vK (.lst (b.map D.int)) (.lst [])=Y (.bl (decide (b≠[]))):=by
 unfold vK;rw[if_pos (by rw[show kq (.lst (b.map D.int)) 180=oO (b.map D.int) 179 from rfl,Jp];rfl)];cases b with
 |nil=>rfl|cons y c=>simp[rG,qL]
theorem L8{F:List D->Option D}(h:F [hG c a]=Y (.lst (i.map D.int)))(m:aG)(b:m∉(["coming", "numbers"]:List aG)):e2 vK (cO "Sift" m F (eV 4) aN) (eF (fX aN)) (HS ns nm q ss c a bf k a7)=Y (.bl (decide (i≠[]))):=by
 have e:cO "Sift" m F (eV 4) aN (HS ns nm q ss c a bf k a7)=if ("Sift" : aG) = "Sift" /\m∉(["coming", "numbers"]:List aG) then F [hG c a] else none:=rfl
 rw[if_pos ⟨rfl,b⟩,h]at e;unfold e2;rw[e];show (Y (D.lst [])).bind (λy=>vK (.lst (i.map D.int)) y)=_;exact VV i
abbrev WJ(b:List D->Option D):DT:=nJ (dk (e2 vK (e2 fh (eV 7) (eK (.str (ab "sure")))) (e2 vK (cO "Sift" "told" b (eV 4) aN) (eF (fX aN))))) (fV (dk (e2 vK (eV 5) (eK (.str (ab "open"))))) (dk (e2 vK (eV 7) (eV 5))))
theorem NZ{f:List D->Option D}(h:f [hG c a]=Y (.lst (a.map D.int)))(e:(x=t2/\a≠[])∨((x=ll∨x=pT)/\a=[]))(m:bf=ll∨bf=x):xY [4] [] (WJ f) (sx ns nm q ss c a bf k (Y (.str x)))=Y false:=by
 refine qp yY (Yf ?_ ?_)
 ·have g:=L8 (ns:=ns) (nm:=nm) (q:=q) (ss:=ss) (bf:=bf) (k:=k) (a7:=Y (.str x)) h "told" (by decide);refine neB (decide (a≠[])) ?_ g;rcases e with⟨b,d⟩|⟨b|b,d⟩
  ·rw[b,decide_eq_true d];kernel_rfl
  ·rw[b,d];kernel_rfl
  ·rw[b,d];kernel_rfl
 ·rcases m with b|b
  ·rw[b];exact CY (by kernel_rfl)
  ·rw[b];rcases e with⟨b,d⟩|⟨b|b,d⟩
   ·rw[b];exact J1 (by kernel_rfl) (by kernel_rfl)
   ·rw[b];exact CY (by kernel_rfl)
   ·rw[b];exact J1 (by kernel_rfl) (by kernel_rfl)
abbrev WI(b:List D->Option D):DT:=nJ (fV (dk (e2 fh (eV 7) (eK (.str (ab "lost"))))) (dk (e2 vK (cO "Sift" "waiting" b (eV 4) aN) (eF (fX aN))))) (dk (e2 (Ha Z') (eV 7) (eF (fX (aC (eK (.str (ab "sure"))) (aC (eK (.str (ab "open"))) (aC (eK (.str (ab "lost"))) aN)))))))
theorem NY(d:x=t2∨x=ll∨x=pT)(h:x=pT->e [hG c a]=Y (.lst (([]:List Int).map D.int))):xY [4] [] (WI e) (sx ns nm q ss c a bf k (Y (.str x)))=Y false:=by
 refine qp yY (Yf ?_ ?_)
 ·rcases d with b|b|b
  ·rw[b];exact CY (by kernel_rfl)
  ·rw[b];exact CY (by kernel_rfl)
  ·have f:=L8 (ns:=ns) (nm:=nm) (q:=q) (ss:=ss) (bf:=bf) (k:=k) (a7:=Y (.str x)) (h b) "waiting" (by decide);refine J1 (by rw[b];kernel_rfl) ?_;unfold dk;rw[f];rfl
 ·rcases d with b|b|b<;>rw[b]<;>kernel_rfl
abbrev WH(b c:List D->Option D):DT:=fV (dk (e2 fh (eV 7) (eK (.str (ab "open"))))) (nJ (eD (cO "Sift" "is_over" b (eV 4) aN)) (dk (e2 fh (be c (aC (eF (JB (eV 3) pN (pS (e2 gu (eV 6) (eK (.int 1)))))) aN)) (eK (.int 0)))))
theorem NX{m:List D->Option D}(s:x=t2∨x=ll∨x=pT)(h:x=ll->n [hG c a]=Y (.bl Z_)/\∃d:Nat,d≠0/\m [.lst (Bi ss M (Y (k+1)))]=Y (.int (d:Nat))):xY [4] [] (WH n m) (sx ns nm q ss c a bf k (Y (.str x)))=Y false:=by
 refine qp yY ?_;rcases s with b|b|b
 ·rw[b];exact CY (by kernel_rfl)
 ·obtain⟨w,d,B,t⟩:=h b;refine J1 (by rw[b];kernel_rfl) (Yf ?_ ?_)
  ·have e:cO "Sift" "is_over" n (eV 4) aN (HS ns nm q ss c a bf k (Y (.str x)))=n [hG c a]:=by kernel_rfl
   unfold eD;rw[e,w];rfl
  ·have e:be m (aC (eF (JB (eV 3) pN (pS (e2 gu (eV 6) (eK (.int 1)))))) aN) (HS ns nm q ss c a bf k (Y (.str x)))=m [.lst (Bi ss M (Y (k+1)))]:=rfl;have A:e2 fh (be m (aC (eF (JB (eV 3) pN (pS (e2 gu (eV 6) (eK (.int 1)))))) aN)) (eK (.int 0)) (HS ns nm q ss c a bf k (Y (.str x)))=Y (.bl Z_):=by rw[show ∀(f g:DF) r,e2 fh f g r=(f r).bind λx=>(g r).bind λy=>fh x y from λ_ _ _=>rfl,e,t];show fh (.int (d:Int)) (.int 0)=_;have z:fh (.int (d:Int)) (.int 0)=Y (.bl (rG (.int (d:Int)) (.int 0))):=rfl;rw[z,show rG (.int (d:Int)) (.int 0)=Z_ by simp[rG];omega]
   unfold dk;rw[A];rfl
 ·rw[b];exact CY (by kernel_rfl)
theorem Yp{f:DT}(h:f b=Y Z_):eW f g c9 b=Y (.nx b):=by
 unfold eW;rw[h];rfl
theorem Qw{s:D}(t:a7=M∨∃x,a7=Y (.str x))(f:cj (.lst ss) (.int k)=Y s)(w:m5 [hG c a,s]=Y (r,hG j i))(m:iN [hG j i]=Y (.str x))(e:(x=t2/\i≠[])∨((x=ll∨x=pT)/\i=[]))(n:bf=ll∨bf=x)(hw:x=pT->iM [hG j i]=Y (.lst (([]:List Int).map D.int)))(g:x=ll->iO [hG j i]=Y (.bl Z_)/\∃d:Nat,d≠0/\qT [.lst (Bi ss M (Y (k+1)))]=Y (.int (d:Nat))):
  qP (sx ns nm q ss c a bf k a7)=Y (.nx (sx ns nm q ss j i x k (Y (.str x)))):=by
 have b:x=t2∨x=ll∨x=pT:=by
  rcases e with h|⟨h|h,_⟩
  ·exact .inl h.1
  ·exact .inr (.inl h)
  ·exact .inr (.inr h)
 unfold qP;rw[aQ (Va t f w),aQ (V4 m),aQ (Yp (NZ (OH j i) e n)),aQ (Yp (NY b hw)),aQ (Yp (NX b g))];rfl
end
variable {f:wF}{l:Int}{P:Nat->Prop}{o p:Int->Int->Int}{u v:aG->Int}
theorem Jf(W:qh f l P o p u v)(hk:f.q.length<=64){ns:List Int}{nm q ss:List D}{z:Nat×Bool}:∀(nT done:List vk) (c:fY) (t:cU) (rs:List cU) (a:List Int) (d:Nat) (b:Bool) (bf:aG) (a6 a7:Option D),
  ss=(done++nT).map fP->CI f l P o c t rs a.length d b->tL done (0,Z_)=Y (d,b)->tL nT (d,b)=Y z->done.length+nT.length<=24->c.taken=(done.length:Int) ->
  (bf=ll∨(bf=t2/\a≠[])∨(bf=pT/\a=[]/\b=Z'/\yL f l c rs))->(a7=M∨∃x,a7=Y (.str x)) ->
  ∃ρ',gw (gN 6) qP (mv (done.length:Int) nT.length) [Y (.ku ns),Y (.lst nm),Y (.lst q),Y (.lst ss),oS c a,Y (.str bf),a6,a7]=Y (.nx ρ')
 |[],done,c,t,rs,a,d,b,bf,a6,a7,_,_,_,_,_,_,_,_=>⟨_,rfl⟩| s::nT,done,c,t,rs,a,d,b,bf,a6,a7,P5,I,hd,hr,hl,ht,YO,ha=>by
  obtain⟨d',b',ZR,hr'⟩:∃d' b',jG (d,b) s=Y (d',b')/\tL nT (d',b')=Y z:=by
   have hr:(jG (d,b) s).bind (tL nT)=Y z:=hr;rcases e:jG (d,b) s with _|y
   ·rw[e]at hr;cases hr
   rw[e]at hr;exact⟨y.1,y.2,rfl,hr⟩
  rw[aO]at hl;obtain⟨fr,c',t',Xi,hf,I',Yt,Tt,Rj⟩:=OO W hk I (by omega) s ZR;have C':=I'.cb;have hp:=C'.UI;have hct:=C'.cnt;have hop:=C'.tk;have hrl:c'.rows.length=d'+1:=by rw[C'.rows,aO,C'.len]
  have ZW:=C'.len;have Wd:=OI (ns:=a) (s:=s) hf (by rw[aE];omega);have Yy:(yS (a++fr)).length=a.length+fr.length:=by rw[(lJ _).length_eq,aE]
  generalize Wc:yS (a++fr)=i at *
  have I2:CI f l P o c' t' Xi i.length d' b':=by rw[Yy];exact I'
  have ZP:(oY c').length<64:=by unfold oY;rw[aE,au,au];have:=JA (L3 c'.full) c'.rows;omega
  have hq:c'.f.q.length<=1000:=by rw[C'.ff];omega
  have Tp:=HE c' (decide (i≠[])) (by omega) (by omega) ZP hq (by omega);have Ap:=PV c' i (by omega) Tp;have ZS:tL (done++[s]) (0,Z_)=Y (d',b'):=by rw[pW,hd];exact ZR
  have We:ss=((done++[s])++nT).map fP:=by rw[P5,bV];rfl
  have hix:cj (.lst ss) (.int (done.length:Int))=Y (fP s):=by show oT ss (done.length:Int)=_;unfold oT;rw[oH (by rw[P5,au,aE,aO];omega)];show ss[done.length]?=_;rw[P5,aT,dO (aM _),QT];rfl
  have YI:qT [.lst (Bi ss M (Y ((done.length:Int)+1)))]=Y (.int (d':Nat)):=by
   rw[Im _ (by omega)];have e:((done.length:Int)+1).toNat=(done++[s]).length:=by rw[aE,bH];omega
   rw[e,We,cm,List.take_append_of_le_length (by rw[au];exact aM _)];rw[nW (by rw[au];exact aM _)];exact NP (by rw[aE,bH];omega) ZS
  have Nj:∀(x:aG),iN [hG c' i]=Y (.str x)->((x=t2/\i≠[])∨((x=ll∨x=pT)/\i=[]))->(bf=ll∨bf=x)->(x=pT->iM [hG c' i]=Y (.lst (([]:List Int).map D.int))) ->
    (x=ll->iO [hG c' i]=Y (.bl Z_)/\∃d:Nat,d≠0/\qT [.lst (Bi ss M (Y ((done.length:Int)+1)))]=Y (.int (d:Nat))) ->
    (x=ll∨(x=t2/\i≠[])∨(x=pT/\i=[]/\b'=Z'/\yL f l c' Xi))->∃ρ',gw (gN 6) qP (mv (done.length:Int) (nT.length+1)) [Y (.ku ns),Y (.lst nm),Y (.lst q),Y (.lst ss),oS c a,Y (.str bf),a6,a7]=Y (.nx ρ'):=by
   intro x h1 h2 h3 h4 h5 h6;have hb:=Qw (ns:=ns) (nm:=nm) (q:=q) ha hix Wd h1 h2 h3 h4 h5;obtain⟨ρ',ih⟩:=Jf W hk (ns:=ns) (nm:=nm) (q:=q) (ss:=ss) (z:=z) nT (done++[s]) c' t' Xi i d' b' x (Y (.int (done.length:Int))) (Y (.str x)) We I2 ZS hr' (by rw[aE,bH];omega) (by rw[Yt,ht,aE,bH];omega) h6 (.inr ⟨x,rfl⟩);refine⟨ρ',?_⟩;rw[Cm,pL (ρ1:=sx ns nm q ss c a bf (done.length:Int) a7) rfl hb];rw[aE,bH]at ih;exact ih
  show ∃ρ',gw (gN 6) qP (mv (done.length:Int) (nT.length+1)) _=_;by_cases hs:i=[]
  ·have Wh:a=[]/\fr=[]:=by
    have:a.length+fr.length=0:=by rw[<- Yy,hs];rfl
    exact⟨m9.mp (by omega),m9.mp (by omega)⟩
   have YC:i.length=0:=by rw[hs];rfl
   have Wk:Jg c' (decide (i≠[]))=if (decide (oY c'≠[])||qX c')=Z' then .str ll else .str pT:=by rw[hs];rfl
   rw[Wk]at Ap;by_cases ho:(decide (oY c'≠[])||qX c')=Z'
   ·rw[if_pos ho]at Ap;have Wg:¬yL f l c' Xi:=λL=>by obtain⟨h1,h2⟩:=I2.V2 W L;rw[h1,h2]at ho;simp at ho
    have Xp:d'≠0:=λh=>Wg (I2.over W h)
    refine Nj ll Ap (.inr ⟨.inl rfl,hs⟩) ?_ (λh=>absurd h (by decide)) (λ_=>⟨?_,d',Xp,YI⟩) (.inl rfl)
    ·rcases YO with h|⟨_,h⟩|⟨_,_,YM,L⟩
     ·exact .inl h
     ·exact absurd Wh.1 h
     ·exact absurd (Rj YM L).2 Wg
    ·have:=Po c' i (NB c');rw[this,decide_eq_false (show ¬c'.rows.length=1 by omega),LP]
   ·rw[if_neg ho]at Ap;have YB:oY c'=[]/\qX c'=false:=by simp only[bT,decide_eq_true_eq,not_or,ne_eq,Classical.not_not,Bool.not_eq_true]at ho;exact ho
    have L:=I2.V1 W YC YB.1 YB.2;refine Nj pT Ap (.inr ⟨.inr rfl,hs⟩) ?_ (λ_ =>?_) (λh=>absurd h (by decide)) (.inr (.inr ⟨rfl,hs,Tt,L⟩))
    ·rcases YO with h|⟨_,h⟩|⟨h,_⟩
     ·exact .inl h
     ·exact absurd Wh.1 h
     ·exact .inr h
    ·have:=Hk c' i (ES c' (by omega) (by omega) ZP);rw[this,YB.1,(C6 []).mpr rfl];rfl
  ·have Wk:Jg c' (decide (i≠[]))=.str t2:=by rw[decide_eq_true hs];rfl
   rw[Wk]at Ap;refine Nj t2 Ap (.inl ⟨rfl,hs⟩) ?_ (λh=>absurd h (by decide)) (λh=>absurd h (by decide)) (.inr (.inl ⟨rfl,hs⟩));rcases YO with h|⟨h,_⟩|⟨_,h,YM,L⟩
   ·exact .inl h
   ·exact .inr h
   ·exfalso;have h2:=(Rj YM L).1;rw[h,h2]at Wc;exact hs (Wc.symm.trans (vi (lJ [])))
end K21
namespace K21
open PySem L2
theorem L_{f:wF}{P:Nat->Prop}:CI f a P b ⟨f,2 ^ f.q.length,a,0,0,[Bn],[]⟩ Bn [] 0 0 false:=by
 have c:Sub 0 P:=⟨gC _,λi h=>by simp at h⟩;refine⟨⟨rfl,rfl,rfl,rfl,⟨rfl,rfl,rfl,rfl,gC _,c⟩,trivial,λr h=>(by cases h),λm h=>(by cases h),List.nodup_nil,λx h=>(by cases h),?_,?_,rfl,?_,?_,λr h=>(by cases h)⟩,trivial,λm h=>(by cases h)⟩
 ·show ((0:Nat):Int)+((0:Nat):Int)+((0:Nat):Int)<=0;omega
 ·show ((0:Nat):Int)+((0:Nat):Int)<=0;omega
 ·show Z_=Z'↔(0:Int)<0;exact⟨λh=>(by cases h),λh=>(by omega)⟩
 ·exact gC _
theorem Uc{F:List D->Option D}{f:DF}(h:f a=Y d):be F (aC f aN) a=F [d]:=by
 unfold be aC aN;rw[h];rfl
theorem Ub{F:List D->Option (List D)}{n:D}(f:g a=Y b)(d:eV 1 a=Y n)(h:F [.lst b,n]=Y c):eF (oJ F (aC (eF g) (aC (eV 1) aN))) a=Y (.lst c):=by
 have e:aC (eF g) (aC (eV 1) aN) a=Y [.lst b,n]:=by unfold aC aN eF;rw[f,d];rfl
 unfold eF oJ;rw[show aC (λa=>B3 D.lst (g a)) (aC (eV 1) aN) a=Y [.lst b,n] from e];show (F [.lst b,n]).map D.lst=_;rw[h];rfl
theorem Th{f:DF}{ρ:bZ}{j:Int}(e:f ρ=Y (.int j))(h : -(2 ^ 62)<=j/\j<2 ^ 62):Ot f ρ=Y (mv 0 j.toNat):=by
 simp only[Ot,e,aa];rw[if_pos h]
theorem TC{f:DL}(e:f a=Y c):js f b g a=gw b g c a:=by
 unfold js;rw[e];rfl
theorem Yl{ρ:bZ}{ds:List D}{i:Nat}(e:eV i ρ=Y (.lst ds)):be hR (aC (eV i) aN) ρ=Y (.int (ds.length:Int)):=by
 unfold be aC aN;rw[e];rfl
theorem PY{f:wF}{P:Nat->Prop}{m:aG->Int}(W:qh f a P j d m l)(p:f.q.length<=64){ns:List Int}{nm q ss:List D}{i:List vk}{z:Nat×Bool}{k:fY}(h:ss=i.map fP)(s:CI f a P j k Bn [] 0 0 Z_)(g:tL i (0,Z_)=Y z)(r:i.length<=24)(n:k.taken=0):
  ∃b,js (Ot (be hR (aC (eV 3) aN))) (gN 6) qP [Y (.ku ns),Y (.lst nm),Y (.lst q),Y (.lst ss),oS k [],Y (.str ll),M,M]=Y (.nx b):=by
 obtain⟨b,c⟩:=Jf W p (ns:=ns) (nm:=nm) (q:=q) (ss:=ss) (z:=z) i [] k Bn [] [] 0 Z_ ll M M h s rfl g (by rw[eU];omega) n (.inl rfl) (.inl rfl);have e:ss.length=i.length:=by rw[h,au]
 refine⟨b,?_⟩;have o:=Th (Yl (ρ:=[Y (.ku ns),Y (.lst nm),Y (.lst q),Y (.lst ss),oS k [],Y (.str ll),M,M]) (i:=3) (ds:=ss) rfl) ⟨wN (by decide) (show (0:Int)<=(ss.length:Int) by omega),rS (show (ss.length:Int)<=24 by omega) (by decide)⟩;rw[bq,e]at o;rw[TC o];exact c
theorem M'(c:List Int)(h:c.length<=63):GU [.ku c]=Y (.bl Z'):=by
 obtain⟨b,R,v⟩:=MW c h;obtain⟨a,Q,h1,V,hw⟩:=Fo c h b v;obtain⟨t,N,_,I⟩:=AW c h 500 24 (by decide) (by decide) (by decide) (by decide);obtain⟨g,U,O,o,J⟩:=Mf t b (by omega) v;obtain⟨w,gd,gb,j,i,_,_⟩:=o.ex;obtain⟨f,P,s,u,z,y,L,k,W⟩:=P_ (n:=4) (by decide) a hw V (by rw[show Zb 4=120 from by decide];omega);have K:f.q.length=a.length:=by rw[k,au]
 have q:j7 [.lst f.q]=Y (.int (A3 4 0 0 a)):=by rw[k];exact QC (by decide) a hw (by omega)
 have d:=OR (Ls (by omega) L q);generalize l:(⟨f,2 ^ f.q.length,A3 4 0 0 a,0,0,[Bn],[]⟩:fY)=m at d;have X:CI f (A3 4 0 0 a) P s m Bn [] 0 0 false:=by rw[<- l];exact L_
 have n:m.taken=0:=by rw[<- l]
 have p:w.length<=24:=by
  have:g.length=w.length:=by rw[j,au]
  omega
 show (Ju [Y (.ku c),M,M,M,M,M,M,M]).bind nC=_;unfold Ju;have H:dr 1 (be ts (aC (eV 0) aN)) [Y (.ku c),M,M,M,M,M,M,M]=Y (.nx [Y (.ku c),Y (.lst (b.map D.str)),M,M,M,M,M,M]):=by rw[gE ((Uc rfl).trans R)];rfl
 have G:dr 2 (qI tq (oJ ji (aC (eV 0) (aC (eK (.int 100)) (aC (eK (.int 12)) aN)))) (aC (eK (.int 3)) (aC (eV 1) aN))) [Y (.ku c),Y (.lst (b.map D.str)),M,M,M,M,M,M]=Y (.nx [Y (.ku c),Y (.lst (b.map D.str)),Y (.lst (a.map cD)),M,M,M,M,M]):=by rw[gE Q];rfl
 have E:dr 3 (eF (oJ qS (aC (eF (oJ ji (aC (eV 0) (aC (eK (.int 500)) (aC (eK (.int 24)) aN))))) (aC (eV 1) aN)))) [Y (.ku c),Y (.lst (b.map D.str)),Y (.lst (a.map cD)),M,M,M,M,M]=Y (.nx [Y (.ku c),Y (.lst (b.map D.str)),Y (.lst (a.map cD)),Y (.lst g),M,M,M,M]):=by have T:oJ ji (aC (eV 0) (aC (eK (.int 500)) (aC (eK (.int 24)) aN))) [Y (.ku c),Y (.lst (b.map D.str)),Y (.lst (a.map cD)),M,M,M,M,M]=Y (t.map D.int):=(show _=ji [.ku c,.int 500,.int 24] from rfl).trans N;have S:=Ub (F:=qS) (n :=.lst (b.map D.str)) T rfl O;rw[gE S];rfl
 have C:Fh 4 dF (mB "Sift" jy (aC (eV 2) aN)) [Y (.ku c),Y (.lst (b.map D.str)),Y (.lst (a.map cD)),Y (.lst g),M,M,M,M]=Y (.nx [Y (.ku c),Y (.lst (b.map D.str)),Y (.lst (a.map cD)),Y (.lst g),oS m [],M,M,M]):=by
  have e:∀F,mB "Sift" F (aC (eV 2) aN) [Y (.ku c),Y (.lst (b.map D.str)),Y (.lst (a.map cD)),Y (.lst g),M,M,M,M]=(F [.ins "Sift" [] [],.lst (a.map cD)]).bind λr=>match r.1 with|.eJ=>Y r.2|_=>none:=λF=>rfl
  unfold Fh;rw[e,d];rfl
 have B:dr 5 (eK (.str (ab "open"))) [Y (.ku c),Y (.lst (b.map D.str)),Y (.lst (a.map cD)),Y (.lst g),oS m [],M,M,M]=Y (.nx [Y (.ku c),Y (.lst (b.map D.str)),Y (.lst (a.map cD)),Y (.lst g),oS m [],Y (.str ll),M,M]):=rfl;obtain⟨x,A⟩:=PY W (by omega) (ns:=c) (nm:=b.map D.str) (q:=a.map cD) j X i p n;rw[aQ H,aQ G,aQ E,aQ C,aQ B,aQ A];rfl
end K21
namespace L2
open PySem PySem.Spec PyProof.Rows
section
variable {P:bj}{w:bQ}{K:bb}{mg:aG->Option af}{base:cF}{x c:aG}{sp:Sp}{f:az}{fd:dP}{ps:List aG}{n k:Nat}
theorem m4.m(h:m4 P w K mg base x n sp)(hk:n<=k:=by decide):m4 P w K mg base x k sp:=h.mono hk
theorem fB.m(h:fB P w K mg base c x n sp)(hk:n<=k:=by decide):fB P w K mg base c x k sp:=h.mono hk
theorem wA.m(h:wA P w K mg base c n sp)(hk:n<=k:=by decide):wA P w K mg base c k sp:=h.mono hk
theorem m4.o(h:m4 P w K mg base x n sp)(hk:n<=k:=by omega):m4 P w K mg base x k sp:=h.mono hk
theorem fB.o(h:fB P w K mg base c x n sp)(hk:n<=k:=by omega):fB P w K mg base c x k sp:=h.mono hk
theorem W9{F:List D->Option D}(e:∀ds,F ds=M):cQ P w K mg base iW n f fd ps (i4 K F):=by
 constructor
 ·rintro vs H Q E ⟨G,ds,d,gh,r,eq,_⟩;rw[e]at eq;cases eq
 ·rintro A o s H args us vs Q E hr he hb hv ⟨G,ds,d,gh,r,eq,_⟩;rw[e]at eq;cases eq
theorem Zl{s:Sk}{F:List D->Option (D×D)}(e:∀ds,F ds=M):cQ P w K mg base iW n f fd ps (spT K s F):=by
 constructor
 ·rintro vs H Q E ⟨G,t,xs,d,t',a,T,us,_,_,_,_,_,_,eq,_⟩;rw[e]at eq;cases eq
 ·rintro A o s H args us vs Q E hr he hb hv ⟨G,t,xs,d,t',a,T,us,_,_,_,_,_,_,eq,_⟩;rw[e]at eq;cases eq
theorem Zm{F:List D->Option (D×List D)}(e:∀ds,F ds=M):cQ P w K mg base iW n f fd ps (EH K 0 F):=by
 constructor
 ·rintro vs H Q E ⟨G,ds,d,xs',a,ws,xs,_,_,_,_,_,_,_,_,eq,_⟩;rw[e]at eq;cases eq
 ·rintro A o s H args us vs Q E hr he hb hv ⟨G,ds,d,xs',a,ws,xs,_,_,_,_,_,_,_,_,eq,_⟩;rw[e]at eq;cases eq
end
end L2
namespace K21
open PySem L2
theorem us0{α:Type}{us:List α}(h:us.length=0):us=[]:=m9.mp h
theorem Zt{α:Type}{us:List α}(h:us.length=1):∃a,us=[a]:=List.length_eq_one_iff.mp h
theorem Zs{α:Type}{us:List α}(h:us.length=2):∃a b,us=[a,b]:=by
 cases us with
 |nil=>cases h|cons a us=>obtain⟨b,rfl⟩:=Zt (QS h);exact⟨a,b,rfl⟩
theorem Zr{α:Type}{us:List α}(h:us.length=3):∃a b c,us=[a,b,c]:=by
 cases us with
 |nil=>cases h|cons a us=>obtain⟨b,c,rfl⟩:=Zs (QS h);exact⟨a,b,c,rfl⟩
theorem us4{α:Type}{us:List α}(h:us.length=4):∃a b c d,us=[a,b,c,d]:=by
 cases us with
 |nil=>cases h|cons a us=>obtain⟨b,c,d,rfl⟩:=Zr (QS h);exact⟨a,b,c,d,rfl⟩
abbrev FA(K:bb)(x:aG)(st:cY):Prop:=∃f fd,o8 K ba x=Y (Y (.ref f))/\jD K x x st f fd
theorem WZ{K:bb}{x:aG}{st:cY}{f:az}{od an:Option az}{sl:Array (Option af)}{oc kV dc pm cd ct:af}(a:o8 K ba x=Y (Y (.ref f)))(l:K.lookup f=Y ⟨oc,od,.func (fnOf x x (px st) (iA st) (aI st) .none kV dc pm an cd ct),sl⟩)(c:codeIn K cd x=Z')(k:B2 K (.ref f)=Z'):FA K x st:=⟨f,_,a,Nw l c k⟩
abbrev MA(K:bb)(c m qual:aG)(st:cY):Prop:=∃C f fd,o8 K ba c=Y (Y (.ref C))/\wH K (.ref C) m=Y (Y (.ref f))/\PySem.W.isFn K (.ref f)=Z'/\jD K m qual st f fd
theorem WW{K:bb}{x:aG}{st:cY}{f:az}{od an:Option az}{sl:Array (Option af)}{oc kV dc pm cd ct:af}{c0 qual:aG}{C:az}(aC:o8 K ba c0=Y (Y (.ref C)))(a:wH K (.ref C) x=Y (Y (.ref f)))(i:PySem.W.isFn K (.ref f)=Z')(l:K.lookup f=Y ⟨oc,od,.func (fnOf x qual (px st) (iA st) (aI st) .none kV dc pm an cd ct),sl⟩)(c:codeIn K cd qual=Z')(k:B2 K (.ref f)=Z'):MA K c0 x qual st:=⟨C,f,_,aC,a,i,Nw l c k⟩
local macro_rules | `(tactic|walk_at "b") => `(tactic|(intro _ _ _ _ _ _ us hl; first |(have e := us0 hl; subst e; rfl) |(obtain ⟨a,e⟩ := Zt hl; subst e; rfl) |(obtain ⟨a,b,e⟩ := Zs hl; subst e; rfl) |(obtain ⟨a,b,c,e⟩ := Zr hl; subst e; rfl) |(obtain ⟨a,b,c,d,e⟩ := us4 hl; subst e; rfl)))
section
variable {P:bj}{w:bQ}{K:bb}{h base:cF}{mg:aG->Option af}{x c q:aG}{st:cY}{sp:Sp}{ps:List aG}{n:Nat}{C:az}
structure EN(P:bj)(w:bQ)(K:bb)(mg:aG->Option af)(base h:cF):Prop where
 X:K.In h
 G:h.Ns ba mg
abbrev CL(K:bb)(c:aG):Prop:=∃C,o8 K ba c=Y (Y (.ref C))/\Kb K C/\makesIn K C=Z'/\B2 K (.ref C)=Z'
abbrev NA(K:bb)(c f:aG):Prop:=∃C,o8 K ba c=Y (Y (.ref C))/\qQ K C f
theorem W5(a:o8 K ba c=Y (Y (.ref C)))(pg:plainGet K C Str.empty=Z')(hd:hasDictIn K C=Z')(po:plainOver K C=Z')(sa:wH K (.ref C) "__setattr__" = Y (Y (.builtin "object.__setattr__")))(mk:makesIn K C=Z')(kc:B2 K (.ref C)=Z'):CL K c:=⟨C,a,⟨pg,hd,po,sa⟩,mk,kc⟩
theorem WU(a:o8 K ba c=Y (Y (.ref C)))(n:wH K (.ref C) x=Y M):NA K c x:=⟨C,a,n⟩
theorem mY(h:CL K c)(n:NA K c x):iQ K c x:=by
 obtain⟨C,a,cl,_,_⟩:=h;obtain⟨C',a',n⟩:=n;intro D e;rw[a]at e a';cases e;cases a';exact⟨cl,n⟩
abbrev BB(x q:aG)(st:cY)(ps:List aG):Prop:=∀(kV Ru pm:af) (an:Option az) (UQ ct:af) (us:List af),us.length=ps.length->bindArgs (fnOf x q (px st) (iA st) (aI st) .none kV Ru pm an UQ ct) ⟨us,[]⟩=fm (ps.zip us)
theorem FA.yq(q:FA K x st)(e:EN P w K mg base h)(o:∀f fd,jD K x x st f fd->cQ P w K mg base iW n f fd ps sp)(hb:BB x x st ps:=by walk_at "b"):m4 P w K mg base x n sp:=by
 obtain⟨f,fd,a,F⟩:=q;exact⟨f,fd,ps,o f fd F,mg_of e.X e.G a,F.kp,F.binds hb⟩
theorem MA.sX(r:MA K c x q st)(_:EN P w K mg base h)(h:CL K c)(o:∀f fd,jD K x q st f fd->cQ P w K mg base iW n f fd ps sp)(hb:BB x q st ps:=by walk_at "b"):fB P w K mg base c x n sp:=by
 obtain⟨C',f,fd,a',i,j,F⟩:=r;obtain⟨C,a,cl,_,_⟩:=h;rw[a]at a';cases a';exact⟨_,f,fd,ps,a,cl,⟨i,j,F.kp⟩,o f fd F,F.binds hb⟩
theorem MA.UJ(r:MA K c "__init__" q st)(e:EN P w K mg base h)(k:CL K c)(o:∀f fd,jD K "__init__" q st f fd->cQ P w K mg base iW n f fd ps sp)(hb:BB "__init__" q st ps:=by walk_at "b"):wA P w K mg base c n sp:=by
 obtain⟨C',f,fd,a',i,j,F⟩:=r;obtain⟨C,a,cl,m,y⟩:=k;rw[a]at a';cases a';exact⟨_,f,fd,ps,a,mg_of e.X e.G a,⟨m,i,j,y⟩,o f fd F,F.binds hb⟩
end
theorem Ur{l:PySem.W.OpenLaw}{w:bQ}{K:bb}{h:cF}{mg:aG->Option af}{fa:az}(X:K.In h)(G:h.Ns ba mg)(hfa:mg "law" = Y (.ref fa))(c:CL K "Coming" /\CL K "Facts" /\CL K "Row" /\CL K "Sift")(n:NA K "Coming" "able" /\NA K "Coming" "facts" /\NA K "Coming" "full" /\NA K "Coming" "opened" /\NA K "Coming" "rests" /\NA K "Coming" "rows" /\NA K "Coming" "taken" /\NA K "Facts" "asks" /\NA K "Facts" "bits" /\NA K "Facts" "by_name" /\NA K "Facts" "by_text" /\NA K "Facts" "inner" /\NA K "Facts" "leads" /\NA K "Facts" "question" /\NA K "Facts" "starred" /\NA K "Facts" "stars" /\NA K "Row" "atoms" /\NA K "Row" "fits" /\NA K "Row" "hoped" /\NA K "Row" "hoped_around" /\NA K "Row" "named" /\NA K "Row" "number" /\NA K "Row" "reached" /\NA K "Row" "reached_around" /\NA K "Sift" "coming" /\NA K "Sift" "numbers")(z:o8 K ba "all" = Y M/\o8 K ba "any" = Y M/\o8 K ba "enumerate" = Y M/\o8 K ba "len" = Y M/\o8 K ba "list" = Y M/\o8 K ba "range" = Y M/\o8 K ba "sorted" = Y M/\o8 K ba "zip" = Y M)(q:FA K "joined_asks" oi/\FA K "copied" sT/\FA K "copied_wish" lE/\FA K "meets" vr/\FA K "can_hold" lr/\FA K "can_come" r9/\FA K "top_row" uk/\FA K "able_steps" pE/\FA K "open_ends" qr/\FA K "new_start" qt/\FA K "outlook_of" pD/\FA K "_law_mix" Hv/\FA K "_law_cells" vt/\FA K "_law_names" vq/\FA K "_law_signs" zj/\FA K "_law_depth" r8/\FA K "_law_pop" Hu/\FA K "_law_wish" yR/\FA K "_law_steps" zi/\FA K "law" wV)(r:MA K "Facts" "new_bit" "Facts.new_bit" ml/\MA K "Facts" "enter_step" "Facts.enter_step" ka/\MA K "Facts" "enter" "Facts.enter" lF/\MA K "Facts" "enter_text" "Facts.enter_text" j_/\MA K "Facts" "lead" "Facts.lead" pG/\MA K "Facts" "asked" "Facts.asked" lG/\MA K "Facts" "enter_has" "Facts.enter_has" i8/\MA K "Facts" "__init__" "Facts.__init__" jH/\MA K "Facts" "steps_for" "Facts.steps_for" kX/\MA K "Facts" "text_fact" "Facts.text_fact" kW/\MA K "Facts" "lifted" "Facts.lifted" nr/\MA K "Facts" "fitting" "Facts.fitting" mm/\MA K "Row" "__init__" "Row.__init__" nj/\MA K "Coming" "__init__" "Coming.__init__" kY/\MA K "Coming" "gone_on" "Coming.gone_on" lH/\MA K "Coming" "moved_out" "Coming.moved_out" ke/\MA K "Coming" "has_ended" "Coming.has_ended" kf/\MA K "Coming" "waits" "Coming.waits" kI/\MA K "Coming" "begin_row" "Coming.begin_row" kg/\MA K "Coming" "spread" "Coming.spread" mo/\MA K "Coming" "add_atoms" "Coming.add_atoms" kh/\MA K "Coming" "settle" "Coming.settle" mq/\MA K "Coming" "newly_told" "Coming.newly_told" jQ/\MA K "Coming" "end_row" "Coming.end_row" lI/\MA K "Coming" "feed" "Coming.feed" oj/\MA K "Sift" "__init__" "Sift.__init__" mj/\MA K "Sift" "take" "Sift.take" qv/\MA K "Sift" "told" "Sift.told" qu/\MA K "Sift" "waiting" "Sift.waiting" ng/\MA K "Sift" "is_over" "Sift.is_over" ni/\MA K "Sift" "need_a_sign" "Sift.need_a_sign" j9/\MA K "Sift" "outlook" "Sift.outlook" nh):
  ∃fd:dP,(∀(s:aq) (v:af),LQ s fd ⟨[v],[]⟩ [("_law_script",v)])/\∀base:cF,K.In base->base.Ns ba mg->cQ l.prog w K mg base iW 100 fa fd ["_law_script"] (i4 K GU):=by
 obtain⟨eQ,eP,wm,qO⟩:=c;obtain⟨BK,Ad,BI,yu,Ab,BE,Aa,DA,Dz,yw,yv,BH,BG,xl,yt,BD,FU,HM,FT,uH,FR,Dy,BF,sm,BJ,Ac⟩:=n;obtain⟨U9,U8,ER,U7,Rz,OD,L1,U6⟩:=z;obtain⟨Bv,Ft,t7,IY,zG,HB,Ky,Dk,Fp,Fq,Dj,VE,O6,O4,O3,O5,VD,Mq,IX,⟨fL,fdL,aL,FL⟩⟩:=q;obtain⟨yg,uw,Bw,uv,Dl,t9,pf,w6,vD,vC,zL,yh,zK,vE,w7,ux,uy,zM,uz,yi,uA,yj,tN,w8,Bx,yf,Fv,Fu,zH,zJ,uu,zI⟩:=r;have e:=hfa.symm.trans (mg_of X G aL);cases e;have k:KS K mg:=⟨mY eQ BK,mY eQ Ad,mY eQ BI,mY eQ yu,mY eQ Ab,mY eQ BE,mY eQ Aa,mY eP DA,mY eP Dz,mY eP yw,mY eP yv,mY eP BH,mY eP BG,mY eP xl,mY eP yt,mY eP BD,mY wm FU,mY wm HM,mY wm FT,mY wm uH,mY wm FR,mY wm Dy,mY wm BF,mY wm sm,mY qO BJ,mY qO Ac,rM X G U9,rM X G U8,rM X G ER,rM X G U7,rM X G Rz,rM X G OD,rM X G L1,rM X G U6⟩;obtain⟨oc,od,kV,Ru,pm,an,UQ,ct,Ye,rfl,_⟩:=FL.ex;refine⟨fnOf "law" "law" (px wV) (iA wV) (aI wV) .none kV Ru pm an UQ ct,λs v =>.of_eq rfl,λbase _ _ =>?_⟩;have e:EN l.prog w K mg base h:=⟨X,G⟩;have BN:=Bv.yq e λ_ _ F=>zU F
 have oI:∀n,m4 l.prog w K mg base "copied" (n+0) (i4 K (jE n))/\m4 l.prog w K mg base "copied_wish" (n+0) (i4 K (dX n)):=λn=>by
  induction n with
  |zero=>exact⟨Ft.yq (ps:=["steps"]) e λ_ _ _=>W9 λ_=>rfl,t7.yq (ps:=["wish"]) e λ_ _ _=>W9 λ_=>rfl⟩
  |succ n ih=>obtain⟨Aq,uc⟩:=ih;exact⟨Ft.yq e λ_ _ F=>(KL F uc).mono (by omega),t7.yq e λ_ _ F=>(zV F Aq uc).mono (by omega)⟩
 have Aq:m4 _ _ _ _ _ "copied" 12 (i4 K wG):=(oI 12).1;have sZ:∀n,m4 l.prog w K mg base "meets" (n+0) (i4 K (kF n)):=λn=>by
  induction n with
  |zero=>exact IY.yq (ps:=["ask", "atoms"]) e λ_ _ _=>W9 λ_=>rfl
  |succ n y0=>exact IY.yq e λ_ _ F=>(MO F k y0).mono (by omega)
 have y0:m4 _ _ _ _ _ "meets" 12 (i4 K tu):=(sZ 12);have my:∀n,m4 l.prog w K mg base "can_hold" (n+0) (i4 K (fM n)):=λn=>by
  induction n with
  |zero=>exact zG.yq (ps:=["wish"]) e λ_ _ _=>W9 λ_=>rfl
  |succ n uK=>exact zG.yq e λ_ _ F=>(FH F k uK).mono (by omega)
 have uK:m4 _ _ _ _ _ "can_hold" 12 (i4 K oP):=(my 12);have HY:=HB.yq e λ_ _ F=>FI F
 have qY:=yg.sX e eP λ_ _ F=>xg F k
 have uN:=uw.sX e eP λ_ _ F=>tS F k qY.m
 have ud:=Bw.sX e eP λ_ _ F=>zW F uN.m
 have uM:=uv.sX e eP λ_ _ F=>tR F k qY.m
 have D0:=Dl.sX e eP λ_ _ F=>BA F k
 have cB:∀n,fB l.prog w K mg base "Facts" "asked" (n+3) (spT K aB (de n))/\fB l.prog w K mg base "Facts" "enter_has" (n+3) (spT K aB (cZ n)):=λn=>by
  induction n with
  |zero=>exact⟨t9.sX (ps:=["self", "wish"]) e eP λ_ _ _=>Zl λ_=>rfl,pf.sX (ps:=["self", "steps"]) e eP λ_ _ _=>Zl λ_=>rfl⟩
  |succ n ih=>obtain⟨mJ,vZ⟩:=ih;exact⟨t9.sX e eP λ_ _ F=>(zX F uM.o vZ mJ BN.o).mono (by omega),pf.sX e eP λ_ _ F=>(uE F ud.o D0.o mJ).mono (by omega)⟩
 have mJ:fB _ _ _ _ _ "Facts" "asked" 15 (spT K aB mO):=(cB 12).1;have QG:=w6.UJ e eP λ_ _ F=>vF F k Aq.m ud.m mJ.m
 have vY:=vD.sX e eP λ_ _ F=>uD F k
 have vX:=vC.sX e eP λ_ _ F=>uC F k
 have Av:=zL.sX e eP λ_ _ F=>yo F k y0.m
 have qZ:=yh.sX e eP λ_ _ F=>xh F k y0.m
 have Rr:=zK.UJ e wm λ_ _ F=>yn F k
 have K_:=Ky.yq e λ_ _ F=>HH F k Rr.m
 have DZ:=Dk.yq e λ_ _ F=>Bz F k uK.m
 have Oc:=vE.UJ e eQ λ_ _ F=>uF F k QG.m DZ.m K_.m
 have p9:=w7.sX e eQ λ_ _ F=>vG F k
 have uO:=ux.sX e eQ λ_ _ F=>tT F k
 have uP:=uy.sX e eQ λ_ _ F=>tU F k
 have sC:=zM.sX e eQ λ_ _ F=>yp F k
 have uQ:=uz.sX e eQ λ_ _ F=>tV F k Rr.m qZ.m p9.m
 have q_:=yi.sX e eQ λ_ _ F=>xi F k qZ.m Av.m
 have uR:=uA.sX e eQ λ_ _ F=>tW F k q_.m
 have yC:=yj.sX e eQ λ_ _ F=>xj F k p9.m
 have tY:=tN.sX e eQ λ_ _ F=>sk F k yC.m
 have xt:=w8.sX e eQ λ_ _ F=>vH F k uO.m
 have BO:=Bx.sX e eQ λ_ _ F=>zY F k HY.m xt.m uQ.m q_.m uR.m tY.m vY.m vX.m
 have Ge:=Fp.yq e λ_ _ F=>Ds F k
 have Gf:=Fq.yq e λ_ _ F=>Dt F k Ge.m
 have DY:=Dj.yq e λ_ _ F=>By F sC.m Gf.m
 have Uo:=yf.UJ e qO λ_ _ F=>xf F k Oc.m
 have Gh:=Fv.sX e qO λ_ _ F=>Dv F k BO.m
 have Gg:=Fu.sX e qO λ_ _ F=>Du F k
 have Ar:=zH.sX e qO λ_ _ F=>yk F k sC.m
 have Au:=zJ.sX e qO λ_ _ F=>ym F k uP.m
 have uL:=uu.sX e qO λ_ _ F=>tO F k
 have As:=zI.sX e qO λ_ _ F=>yl F k uL.m DY.m
 have Wp:=VE.yq e λ_ _ F=>Sx F
 have Js:=O6.yq e λ_ _ F=>MQ F k Wp.m
 have P8:=O4.yq e λ_ _ F=>MN F k Js.m
 have P7:=O3.yq e λ_ _ F=>MM F k
 have P9:=O5.yq e λ_ _ F=>MP F k
 have Rk:=VD.yq e λ_ _ F=>Sw F
 have xu:∀n,m4 l.prog w K mg base "_law_wish" (n+1) (EH K 0 (ia n))/\m4 l.prog w K mg base "_law_steps" (n+1) (EH K 0 (ib n)):=λn=>by
  induction n with
  |zero=>exact⟨Mq.yq (ps:=["_law_draws", "_law_deep", "_law_some"]) e λ_ _ _=>Zm λ_=>rfl,IX.yq (ps:=["_law_draws", "_law_deep", "_law_some"]) e λ_ _ _=>Zm λ_=>rfl⟩
  |succ n ih=>obtain⟨Nn,DX⟩:=ih;exact⟨Mq.yq e λ_ _ F=>(Px F k Rk.o DX Nn).mono (by omega),IX.yq e λ_ _ F=>(ML F k Rk.o Nn).mono (by omega)⟩
 have DX:m4 _ _ _ _ _ "_law_steps" 13 (EH K 0 tq):=(xu 12).2;exact Sy FL k Uo.m P8.m DX.m Js.m P7.m P9.m Gh.m As.m Gg.m Ar.m Au.m
theorem walk{l:PySem.W.OpenLaw}{q:bj}{W7:List aG}{XP:(aG->Option af)->cF->Prop}{YP:bQ->cF->Prop}{d:DefRec}{K:Params->bb}(hn:l.most=Y 63)(hdf:d.params.defaults=[])
  (hY:∀(w:bQ) (h:cF),YP w h->(K w.params).In h)
  (F:∀(w:bQ) (mg:aG->Option af) (fa:az) (h:cF),(K w.params).In h->h.Ns ba mg->mg d.name=Y (.ref fa) ->
   ∃fd:dP,(∀(s:aq) (u:af),LQ s fd ⟨[u],[]⟩ [("_law_script",u)])/\∀base:cF,(K w.params).In base->base.Ns ba mg->cQ l.prog w (K w.params) mg base iW 100 fa fd ["_law_script"] (i4 (K w.params) GU)) :
  PySem.W.WalkO q W7 XP YP l.row.toRowW d [] (λf vs=>PySem.call f vs):=
 L2.L4 (n:=63) (k:=100) (x:= "_law_script") (CX:=iW) (sp:=λK=>i4 K GU) hn (by decide) hdf ⟨rfl,by decide,by decide⟩ hY F (λK H a ns hl hO hS=>SV M' K H a ns hl hO hS) λ_ _ _ _ z=>z
end K21
open PySem PySem.W PyProof.Rows
local macro_rules | `(tactic|walk_at "fa") => `(tactic|exact K21.WZ (by k_is) (by k_is) (by k_is) (by k_is))
local macro_rules | `(tactic|walk_at "ma") => `(tactic|exact K21.WW (by k_is) (by k_is) (by k_is) (by k_is) (by k_is) (by k_is))
local macro_rules | `(tactic|walk_at "cl") => `(tactic|exact K21.W5 (by k_is) (by k_is) (by k_is) (by k_is) (by k_is) (by k_is) (by k_is))
local macro_rules | `(tactic|walk_at "na") => `(tactic|exact K21.WU (by k_is) (by k_is))
namespace PySem.W.Fast
def tw18003347989118415117:=0
def tw14404956129316072983:=0
def tw14956753595510391620:=0
def tw13148631314708505107:=0
def tw7204299287087262026:=0
def tw5423958326533691794:=0
def tw6593809273592080046:=0
def tw8711669965122265332:=0
def tw15633827990558218431:=0
def tw723497274837154554:=0
def tw2860263480189996582:=0
def tw2487119012964704695:=0
def tw14150023859091326091:=0
def tw695818536903715937:=0
def tw17213523149673573722:=0
def tw6162336951241538286:=0
def tw12960720637291977407:=0
def tw6453522296225797128:=0
def tw9043551133443304937:=0
def tw1629497654695313801:=0
def tw13269668658775976708:=0
def tw13924690216104878945:=0
def tw17545023677937419377:=0
def tw1768726503832280150:=0
def tw10355739369313505262:=0
def tw14177691030677789536:=0
def tw9934027478618329424:=0
def tw8130226057788110656:=0
def tw7541330016029546242:=0
def tw1965659674828273021:=0
def tw7329001354773255751:=0
def tw1167354306634101509:=0
def tw1817595903201267006:=0
def tw17678351560941991758:=0
def tw9012674852359516470:=0
def tw1242959595746103164:=0
def tw14158811590349742230:=0
def tw9992925181332219621:=0
def tw9790548584109505455:=0
def tw12594558635906412027:=0
def tw17630973774670725611:=0
def tw4283089193785884215:=0
def tw8931868127343219883:=0
def tw14106369080826575973:=0
def tw13751166320677343780:=0
def tw749149674071173592:=0
def tw8407330601505554190:=0
def tw2161108835339156450:=0
def tw10406891090268703854:=0
def tw13881769521629876584:=0
def tw10780961679140035228:=0
def tw8700113176857503171:=0
def tw13232869364758604481:=0
def tw15410485868078415522:=0
def tw14371321987260666725:=0
def tw10628290676322005733:=0
def tw13158764546234147898:=0
def tw6917241285794252103:=0
def tw9876290998927200604:=0
def tw13948547067596672524:=0
def tw6273915626951439169:=0
def tw7397248656817797767:=0
def tw774108040071786434:=0
def tw15961418272467730432:=0
def tw7178136091526119396:=0
def tw13177910726397709174:=0
def tw7203332330745771986:=0
def tw10042532888786232155:=0
def tw8069877904376575136:=0
def tw7594646068505557267:=0
def tw4126876201486690457:=0
def tw1277880233911826133:=0
def tw8613543475095949802:=0
def tw13972114285645408557:=0
def tw13704129938363231018:=0
def tw5890030279528267798:=0
def tw15541150285571897517:=0
def tw15213866110702482730:=0
def tw888695536628455552:=0
def tw8964645130824951674:=0
def tw2085881257315573633:=0
def tw15641104416704102702:=0
def tw10289158506205280375:=0
def tw16497103475625542812:=0
def tw11297019350779325200:=0
def tw18420757384861607125:=0
def tw13819533017633114456:=0
def tw4798020898895441363:=0
def tw11998098853505970381:=0
def tw3984022935972296772:=0
def tw1344084188295425312:=0
def tw13281494302423374175:=0
def tw9089021508105950547:=0
def tw14091138101325596717:=0
def tw9655224657096111991:=0
def tw15735059198932851626:=0
def tw14784986330732252822:=0
def tw18292250211439588002:=0
def tw12419230306306167138:=0
def tw9980594626031107302:=0
def tw16728047201992060733:=0
def tw759202588303746269:=0
def tw3737771455175649508:=0
def tw11187683816316210827:=0
def tw1719366997824106584:=0
def tw16332382768437873691:=0
def tw5641260778831141762:=0
def tw16805619711058569463:=0
def tw4723150740763988359:=0
def tw7623949726166958230:=0
def tw14859323778564713147:=0
def tw1211524918583236967:=0
def tw5492749450388289170:=0
def tw16666644456640086943:=0
def tw7639231554357745563:=0
def tw12185657352114053420:=0
def tw10590434196503948697:=0
def tw17144608463495792002:=0
def tw14103210931246313206:=0
def tw17300132599624153731:=0
def tw9936191357651153099:=0
def tw11799969270925327780:=0
def tw5059995773126824293:=0
def tw9067681522877642301:=0
def tw3907720686300142940:=0
def tw6015739558892365437:=0
def tw950891458083401998:=0
def tw12154969972239337373:=0
def tw17876687246012523343:=0
def tw2721184392856462591:=0
def tw16198357359985385292:=0
def tw2950680665839968556:=0
def tw2536672563551336912:=0
def tw1080738461110907067:=0
def tw10725899658027648010:=0
def tw17680545708968506195:=0
def tw18419430315786151385:=0
def tw1634664035419727506:=0
def tw11177167250156769387:=0
def tw2009553580110326440:=0
def tw8228561202270389629:=0
def tw17278894883406701243:=0
def tw3299916072658678695:=0
def tw15429545816855925193:=0
def tw10911795143325143700:=0
def tw11162706576718509792:=0
def tw7043009705290714526:=0
def tw18285262791146373680:=0
def tw7595850590776147919:=0
def tw12721731063008048968:=0
def tw9994924767334492335:=0
def tw5521303745891406768:=0
def tw7709054649353115521:=0
def tw6454602815366939775:=0
def tw13465523769885832986:=0
def tw7079464309048975383:=0
def tw3697854513812785478:=0
def tw776407482761676617:=0
def tw6429801359267797911:=0
def tw175593784860355941:=0
def tw15856953141522024770:=0
def tw5952474874938039236:=0
def tw149339542922294456:=0
def tw11255715103287886470:=0
def tw13821645922930081386:=0
def tw16390445372763792725:=0
def tw13979082342614744318:=0
def tw5489639363397954006:=0
def tw58545423002837242:=0
def tw2182264737036202825:=0
def tw12975150078173362994:=0
def tw11206030359794025694:=0
def tw15274490770035693642:=0
def tw15013862164015199084:=0
def tw12169231997261082588:=0
def tw15264916182508237777:=0
def tw11282007289694242300:=0
def tw18066275893806288267:=0
def tw5420533579860615854:=0
def tw269425504518764993:=0
def tw328555216827864497:=0
def tw5255285170713902364:=0
def tw6496403977157047963:=0
def tw12426785484966921045:=0
def tw6666381369003078411:=0
def tw14148698098728609943:=0
def tw6988583194356642595:=0
def tw1224164250943110194:=0
def tw2326445958904393453:=0
def tw10999370474469461894:=0
def tw11953373153672842844:=0
def tw5481035425257675781:=0
def tw15615237317351863107:=0
def tw7526706757678508891:=0
def tw11561137266263674123:=0
def tw12026399660010885952:=0
def tw18137658362609462492:=0
def tw10137333769542897950:=0
def tw568892639577127596:=0
def tw2807828617894730690:=0
def tw15764069092568991348:=0
def tw679262141495364307:=0
def tw13925480074829402050:=0
def tw4160532902505050713:=0
def tw15572033155250923210:=0
def tw1827635088481789781:=0
def tw11776907534438806591:=0
def tw13903770241664400895:=0
def tw12378603309920594594:=0
def tw8487748302522360278:=0
def tw4147987290244006857:=0
def tw11557711209198586601:=0
def tw9840973692197638149:=0
def tw10355282647794992208:=0
def tw1847017231972601367:=0
def tw10338900372007215468:=0
def tw9023733017831817114:=0
def tw9589496369592044876:=0
def tw3506418828811040990:=0
def tw16762617206776964968:=0
def tw2430109910615662677:=0
def tw16322349332098383793:=0
def tw14192852767071808207:=0
def tw13375040336377995983:=0
def tw15526275654093616741:=0
def tw3153902677862721959:=0
def tw13836469067194368410:=0
def tw12512337769060306525:=0
def tw14836581200780141227:=0
def tw8220027857386058792:=0
def tw3187117616664185646:=0
def tw9061559617355466083:=0
def tw15405885724822788003:=0
def tw2938491686198922240:=0
def tw8030893471450046612:=0
def tw14829401256545467971:=0
def tw13684583414878542620:=0
def tw4328232071169735418:=0
def tw12952287025329991262:=0
def tw13446025021129874345:=0
def tw7091853051852995986:=0
def tw9086780635673779259:=0
def tw17469184732490606906:=0
def tw3067541828528800439:=0
def tw11807179496118010021:=0
def tw15259898451302959873:=0
def tw149712480015869318:=0
def tw17580738913999471190:=0
def tw15704074072991406112:=0
def tw6649239997414355569:=0
def tw3771406116568710546:=0
def tw18406264129491029:=0
def tw5696322695603708931:=0
def tw12827394442264928711:=0
def tw4498247682455975217:=0
def tw5599357054512426785:=0
def tw959892996282516691:=0
def tw8755700729889555352:=0
def tw14019797542767919922:=0
def tw4312982030404539720:=0
def tw9999569332979256033:=0
def tw6170082480383872756:=0
def tw17553861679231066493:=0
def tw16149931278380504107:=0
def tw107030777805880788:=0
def tw2128394663478107141:=0
def tw11281008244093010412:=0
def tw10955252166647037369:=0
def tw12962071126792686875:=0
def tw17026635779505474820:=0
def tw9813820929987500645:=0
def tw8708320015802780309:=0
def tw14845573889001808813:=0
def tw17943991371667066902:=0
def tw10929821002379264164:=0
def tw2986091625217023290:=0
def tw9104358363375668800:=0
def tw13256598800529222266:=0
def tw13956622159340707557:=0
def tw3952486198708058077:=0
def tw2544838023216647774:=0
def tw2538809985570628160:=0
def tw7372376674464119984:=0
def tw11814691175062891292:=0
def tw13398610810618256651:=0
def tw17757859046289449561:=0
def tw18287070201292080:=0
def tw3500501356553167783:=0
def tw12367073664671971005:=0
def tw8656339662240467289:=0
def tw12045161068436998009:=0
def tw10198675954293446584:=0
def tw17012127357607028200:=0
def tw14359821094895132403:=0
def tw16681886751759157455:=0
def tw18441697688176717615:=0
def tw2708972774701771359:=0
def tw8069093340384965729:=0
def tw5672093610073462565:=0
def tw3930310959587412785:=0
def tw9302885042783631317:=0
def tw13100973064430385570:=0
def tw3881158987040284895:=0
def tw17847034831598503723:=0
def tw18207433670153914822:=0
def tw14875255985430494669:=0
def tw16405055245502259944:=0
def tw12891053969783921634:=0
def tw5675695784762725132:=0
def tw14904126894366117490:=0
def tw6536568500925270347:=0
def tw15499356729402340722:=0
def tw13923786549607358283:=0
def tw6056379638200832527:=0
def tw2556172152398091136:=0
def tw13312916894501557427:=0
def tw3116648083140653468:=0
def tw150372305384966819:=0
def tw9984156631834516524:=0
def tw283263886645325059:=0
def tw9416672987364749824:=0
def tw1410475061964936930:=0
def tw999119155843157529:=0
def tw4932604902909073916:=0
def tw15823592567828280603:=0
def tw7130412369526266015:=0
def tw17558023934499849136:=0
def tw11515321139453491908:=0
def tw10702823616533505515:=0
def tw4726849411668578018:=0
def tw14083358997704834472:=0
def tw11050566712525858632:=0
def tw4047059352773388945:=0
def tw14918851518829628439:=0
def tw5831147860085773453:=0
def tw13877316747307345732:=0
def tw3001245375240889563:=0
def tw5739127211616038153:=0
def tw2403129465157856075:=0
def tw12243637952496263192:=0
def tw162912629197502880:=0
def tw3750644142937986954:=0
def tw8963898758218216853:=0
def tw8569527032185994979:=0
def tw16010936962246431243:=0
def tw8699205680245876268:=0
def tw1206073827061081385:=0
def tw10767822230999745602:=0
def tw18253906921937232619:=0
def tw17665749086413338361:=0
def tw12881357288994945230:=0
def tw6195817037981943329:=0
def tw12326146010843418906:=0
def tw794714628636687465:=0
def tw4739079110983533730:=0
def tw15743205357217747786:=0
def tw1691129854804541468:=0
def tw8292316346886494985:=0
def tw2607745247416865423:=0
def tw12336741781928045395:=0
def tw9493287493559060370:=0
def tw5506510542985893506:=0
def tw6661822931260455168:=0
end PySem.W.Fast
set_option maxRecDepth 100000 in
set_option maxHeartbeats 0 in
theorem PySem.Challenge.cw_earlysift_k21_outlooks_stay_holds : PySem.Challenge.rw_earlysift_k21_outlooks_stay.Holds := by
  w_on; o_law; k_head; (case hw => w_witness2)
  k_fill
  refine K21.walk (l := PySem.Challenge.rw_earlysift_k21_outlooks_stay) rfl rfl (λw h y => PySem.W.kIn_of y) ?F
  case F =>
    intro w mg fa h KX G hmg
    refine' K21.Ur KX G hmg ?p1 ?p2 ?p3 ?p4 ?p5
    (case p1 => and_intros <;> walk_at "cl")
    (case p2 => and_intros <;> walk_at "na")
    (case p3 => and_intros <;> k_is)
    (case p4 => and_intros <;> walk_at "fa")
    (case p5 => and_intros <;> walk_at "ma")
