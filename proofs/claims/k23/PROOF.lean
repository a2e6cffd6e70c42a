import PyProof.Rows.All
import Wide.All
import OpenK.AllK
import Wide.FinOn
import Lean
import PyProof.EqAt
import PyProof.EqKinds
import PyProof.TupleCall
import PyProof.NeKinds
import PyProof.StrCalls6
import PyProof.FString5
import PyProof.Rows.StrClose
import PyProof.Rows.BitMore
import PyProof.Rows.SortWalk
import PyProof.SumWalk
import PyProof.Rows.SumGenD
import PyProof.Rows.SeqCalls
import PySem.Challenge.RW_earlysift_k23_what_a_lean_sift_keeps
open Option renaming some->Y,none->M,bind_eq_some_iff->aa,bind_some->ab,map_eq_some_iff->ah,map_some->bI,map->sv,getD_some->Ff
open Bool renaming true->Z',false->Z_,and_eq_true->aX,false_ne_true->bL,false_eq_true->eB,or_eq_true->wz,eq_iff_iff->wA,not_false->Ki,and_false->Kj,and_self->Nc,not_not->PB
open PySem.Str renaming ofString->ae
open List renaming getElem?_eq_some_iff->af,getElem?_set_ne->aj,mem_cons_of_mem->ao,length_map->aq,mem_cons_self->au,mem_cons->aE,getElem?_map->aF,mem_append_right->aG,map_cons->aI,length_append->aJ,getElem?_eq_getElem->aO,length_cons->aP,mem_append->aV,size_toArray->aW,mem_append_left->bb,set_cons_zero->bf,set_cons_succ->bg,getElem?_set_self->bC,map_append->bG,mem_singleton->bK,replicate->bS,append_assoc->bV,range->bY,getElem?_append_left->b_,append_nil->cm,all_eq_true->cx,zip_cons_cons->cz,perm_append_comm_assoc->cC,length_singleton->cJ,mem_map->cR,nil_append->dI,lookup_cons->dO,not_mem_nil->eH,mem_filter->fm,pairwise_cons->fw,getD_eq_getElem?_getD->fJ,drop_eq_getElem_cons->fW,getElem?_eq_none->f9,map_map->gj,nodup_append->gO,replicate_succ->gV,filter_sublist->gW,take_of_length_le->ic,getElem?_append_right->iy,length_nil->iU,all_cons->km,flatten_cons->kU,forall_mem_cons->lC,dropLast_concat->lD,mem_map_of_mem->mq,nodup_cons->m_,find?_cons->nc,lookup->nC,map_set->oA,all_map->oB,filter_cons->pI,drop_length->pJ,any_cons->pX,eq_nil_of_length_eq_zero->qh,filterMap_cons->qR,map_nil->rP,pairwise_iff_getElem->tO,getElem?_eq_none_iff->tR,length->t_,map_take->uq,map->ve,length_take->vf,getElem_mem->vg,cons_append->vh,zipWith_cons_cons->wh,zipWith->wj,range_succ_eq_map->wk,of_mem_zip->wt,length_filter_le->xA,mem_range->yj,map_congr_left->Ai,sum_cons->As,ext_getElem?->C8,zipIdx_cons->Fi,length_drop->Fj,length_set->G_,getLast?_eq_some_iff->Ks,getLast?_eq_getElem?->Kt,getElem?_replicate->Nm,getElem?_cons_succ->Nn,map_id'->Py,drop_eq_nil_of_le->Pz,perm_append_comm->Qi,dropLast_eq_take->Qj,replicate_succ'->SX,mem_of_getElem?->SY,getLast?_concat->S5
open PySem renaming Value->ai,starEach->av,Shared->aw,Addr->az,wpAny_bind->aD,Str->aM,sizeLine->bc,Program->bh,model->br,mainGlobals->bw,wpAny->bB,wpAny_pure->bD,attributeBase->cB,foldedSetIterable->cK,swapsWith->cP,World->cX,Heap->de,FuncData->dm,backTo->dt,binaryOp->dB,keywordEach->eJ,wpAny_passesOwn->eM,sizeLine_eq->fH,cellsFrom->fI,bootBuiltins->fZ,wpAny_mono->ij,Around->ip,behindInMarks->iO,compareOp->iT,wpAny_Call_Name_kw->jf,backToKw->jg,wpAny_truthy_bool->jE,wpAny_pyIter_list->jF,sysModules->lj,getMethod->nA,holding->oO,Keyword->oP,Stmt->rN,standAt->r_,sliceBounds->sk,callWith->sr,cLine->su,wpAny_execs_nil->tN,wpAny_setField_rec->u_,tupleKind_room_in1->va,NameKind->vd,wpAny_holding->xy,PassesOwn->yg,codeAny->Ag,assignEach->Ah,letOwnedTupleGo->Aq,tupleKind->Di,callerA->Dj,call_meets->GY,valueAt->Kc,getItem->Kd,codeAny_mono->Ke,BindsTo->Kk,noFill_tuple_add->M9,assign->M_,wpAny_field->Nk,subscripted->Nl,relabel->Qh,wpAny_seqItems->SO,wpAny_rule->SQ,newFunctionEnv->SS,atKey->SU
open PySem.Heap renaming get?_push_of_some->ak,lt_size->aU,get?_push_size->bz,size_push->eL,SameBut->ll,get?_update_other->qj
open Nat renaming le_refl->aH,le_trans->bq,lt_of_lt_of_le->bx,ne_of_lt->bR,zero_le->cD,le_succ->gA,le_of_lt->ib,lt_irrefl->ie,lt_succ_self->ik,le_add_right->il,ne_of_gt->mf,lt_succ_of_lt->oz,mul_le_mul_right->qg,testBit_and->qP,zero_add->rO,le_succ_of_le->t9,min_eq_left->wq,eq_of_testBit_eq->yi,min_eq_right->Fh,testBit_xor->GZ,testBit_or->Kg,add_right_cancel_iff->Na,succ_mul->Pp,sub_zero->Pq,pow_succ->Pu,min_self->Pw,le_of_eq->Px
open PySem.W renaming Frag->aT,emptyDict->so,findIn->uo,nsIn->vb,kia_one->vc,keepIn->AO,instObj->Fp
open Option.some renaming inj->bU,injEq->gM
open Int renaming emod_lt_of_pos->bX,emod_nonneg->cE,eq_ofNat_of_zero_le->dk,toNat_natCast->gP,lt_trans->rQ,natCast_nonneg->sx,le_trans->wm,lt_of_le_of_lt->AR,add_sub_cancel->AS,fdiv_eq_ediv_of_nonneg->Kh,le_refl->S8
open PySem.Value renaming ref->cf,int->jD,type->pA,str->M',none->SV,bool->SW
open Ne renaming symm->cg
open PySem.PassesOwn renaming never->cT
open Sum renaming inr->da,inl->yH
open PySem.F renaming plainAttrs_list->dC
open PySem.Builtin renaming bitOr->dF,bitNot->vi,bitAnd->vj
open PyProof.Rows renaming arrOf->dH,wpS_bind->dJ,wpS_pure->gZ,callWith_type1->ia,pendingOf->pB,callWith_builtin1->pH,pairsOf->sD,envOfC->sE,wpS_forRange->xU,seqObj->Fn,pairsOf_size->Fo,IntsAre->Fq,AllBare->Ft,nat_or_add_and->IC,firstOfTuple'->Pn,bitAnd_pp->Po,listItems_at->TF,failedOf->TH
open Pure renaming pure->eQ
open Function renaming comp_def->fK
open PySem.NameKind renaming free->iP,cell->sd
open List.Sublist renaming refl->jh,nodup->AQ
open True renaming intro->jW
open PySem.Txt renaming slice->lG,slice_le->Kf
open PySem.Obj renaming mapSeq->mU
open Or renaming inl->nB,inr->yh
open PySem.Builtin.List renaming listTooLong->oD,listItems->Ak
open Array renaming perm_iff_toList_perm->sy,getElem?_eq_none->PD,getElem?_toList->Qk,toArray_toList->S_,length_toList->TJ
open False renaming elim->wo
open List.Perm renaming of_eq->wu
open ForInStep renaming yield->wx
open List.Pairwise renaming sublist->xB,nil->C9
open PySem.Calls renaming callWith_builtin->Aj,spliced_cons->Ha,Name_function_global->S9
open Prod.mk renaming injEq->Ar
open PySem.Heap.IsList renaming push->Nb
set_option bootstrap.genMatcherCode false
set_option compiler.extract_closed false
set_option genSizeOfSpec false
noncomputable section
set_option maxRecDepth 100000
set_option maxHeartbeats 4000000
open PySem.W (Frag mg_of nsIn mg_none_of findIn kia_one fnOf emptyDict keepIn instObj kitOne codeIn plainGet hasDictIn plainOver takerIn makesIn methodObj lookIn)
open PySem.F (plainAttrs_list)
set_option Elab.async false
set_option linter.all false
theorem ſ{p:Prop}(h:p:=by decide):p:=h
theorem ž{p:Prop}(h:p:=by omega):p:=h
theorem Ž{p:Prop}(h:p:=by simp):p:=h
theorem ŵ{p:Prop}(h:p:=by first|exact nB rfl|exact yh (nB rfl)|exact yh (yh rfl)):p:=h
def Ŷ:Lean.Syntax:=ŵ._auto_1
theorem ų{p:Prop}(h:p:=by walk_at "b"):p:=h
def Ŵ:Lean.Syntax:=ų._auto_1
theorem ű{p:Prop}(h:p:=by rfl):p:=h
def Ų:Lean.Syntax:=ű._auto_1
def Ű:Lean.Syntax:=ſ._auto_1
theorem Ů{p:Prop}(h:p:=by intro _;rfl):p:=h
def ů:Lean.Syntax:=Ů._auto_1
theorem Ŭ{p:Prop}(h:p:=by first|exact .inl rfl|exact .inr rfl|assumption):p:=h
def ŭ:Lean.Syntax:=Ŭ._auto_1
theorem Ū{p:Prop}(h:p:=by intro a;simp_all):p:=h
def ū:Lean.Syntax:=Ū._auto_1
theorem Ũ{p:Prop}(h:p:=by decide +kernel):p:=h
def ũ:Lean.Syntax:=Ũ._auto_1
def ŧ:Lean.Syntax:=ž._auto_1
theorem ť{p:Prop}(h:p:=by exact λ_ _=>rfl):p:=h
def Ŧ:Lean.Syntax:=ť._auto_1
namespace L2
open PySem PySem.Spec PyProof.Rows
abbrev mi:=Sum Int aM
noncomputable def Bn:mi->ai->Bool
 |.inl k,v=>Value.isInt k v|.inr x,v=>Value.isStrOf x v
noncomputable def Xo(w:cX):mi->Int
 |.inl k=>hashInt k|.inr x=>hashStr w x
theorem hG:∀ {k:mi}{v:ai},Bn k v=Z'->(∃i t,k=yH i/\v=jD i t)\/(∃x t,k=da x/\v=M' x t)
 |.inl i,v,h=>by obtain⟨t,e⟩:=Value.isInt_shape (k:=i) (v:=v) h;exact .inl ⟨i,t,rfl,e⟩
 |.inr x,v,h=>by obtain⟨t,e⟩:=Value.isStrOf_shape (x:=x) (v:=v) h;exact .inr ⟨x,t,rfl,e⟩
def Jz(i:Int)(t:Tok):Bn (.inl i) (.int i t)=true:=by simp[Bn,Value.isInt]
def Jy(x:aM)(t:Tok):Bn (.inr x) (.str x t)=true:=by simp[Bn,Value.isStrOf]
def Rz(a b:Int):decide ((yH a:mi)=yH b)=(a==b):=by
 by_cases e:a=b
 ·subst e;simp
 ·have h:¬(yH a:mi)=yH b:=λq=>e (Sum.inl.inj q)
  rw[decide_eq_false h];exact(beq_eq_false_iff_ne.mpr e).symm
def Rw(a b:aM):decide ((da a:mi)=da b)=decide (a=b):=by
 by_cases e:a=b
 ·subst e;simp
 ·have h:¬(da a:mi)=da b:=λq=>e (Sum.inr.inj q)
  rw[decide_eq_false h,decide_eq_false e]
def Ry(a:Int)(b:aM):decide ((yH a:mi)=da b)=false:=decide_eq_false (λq=>nomatch q)
def Rx(a:aM)(b:Int):decide ((da a:mi)=yH b)=false:=decide_eq_false (λq=>nomatch q)
def iB(prog:bh)(w:cX):PySem.KeyKind prog w mi where
 is:=Bn
 hash:=Xo w
 inj:=λv a b l f=>by
  rcases hG l with⟨i,t,rfl,rfl⟩|⟨x,t,rfl,rfl⟩
  ·rcases hG f with⟨j,u,rfl,e⟩|⟨y,u,rfl,e⟩
   ·injection e with e1 _;rw[e1]
   ·exact nomatch e
  ·rcases hG f with⟨j,u,rfl,e⟩|⟨y,u,rfl,e⟩
   ·exact nomatch e
   ·injection e with e1 _;rw[e1]
 byValue:=λk v h=>by
  rcases hG h with⟨i,t,rfl,rfl⟩|⟨x,t,rfl,rfl⟩<;>rfl
 pyHash:=λc h=>by
  rcases hG c with⟨i,t,rfl,rfl⟩|⟨x,t,rfl,rfl⟩
  ·exact wpAny_pyHash_int h
  ·exact wpAny_pyHash_str h
 eqBool:=λg c h=>by
  rcases hG g with⟨i,t,rfl,rfl⟩|⟨x,t,rfl,rfl⟩
  ·rcases hG c with⟨j,u,rfl,rfl⟩|⟨y,u,rfl,rfl⟩
   ·rw[Rz]at h;exact wpAny_eqBool_int h
   ·rw[Ry]at h;exact SeqAt.EqAt.int_str i t y u _ _ _ _ h
  ·rcases hG c with⟨j,u,rfl,rfl⟩|⟨y,u,rfl,rfl⟩
   ·rw[Rx]at h;exact SeqAt.EqAt.str_int x t j u _ _ _ _ h
   ·rw[Rw]at h;exact wpAny_eqBool_str h
 «strs» :=λk x t v h=>by
  rcases hG h with⟨i,u,rfl,e⟩|⟨y,u,rfl,e⟩
  ·exact nomatch e
  ·injection e with e1 _
   subst e1
   cases v<;>rfl
def Ei(prog:bh)(w:cX)(i:Int)(t:Tok):(iB prog w).is (.inl i) (.int i t)=true:=Jz i t
def Eh(prog:bh)(w:cX)(x:aM)(t:Tok):(iB prog w).is (.inr x) (.str x t)=true:=Jy x t
inductive V where
 |eN|bl (b:Bool)|int (i:Int)|str (x:aM)|GL (b:Array UInt8)|Ni (b:UInt64)|ref (a:az)|ty (n:String)
 deriving DecidableEq
def RelV:V->ai->Prop
 |.eN,u=>u=SV|.bl b,u=>u=SW b|.int i,u=>∃t,u=jD i t|.str x,u=>∃t,u=M' x t|.GL b,u=>∃t,u=Value.bytes b t|.Ni b,u=>∃t,u=Value.float b t|.ref a,u=>u=cf a|.ty n,u=>u=pA n
abbrev cv:List V->List ai->Prop:=Paired RelV
def cv.length{xs:List V}{a:List ai}(r:cv xs a):xs.length=a.length:=Paired.length r
theorem cv.get:∀ {xs:List V}{a:List ai}{i:Nat}{x:V},cv xs a->xs[i]?=Y x->∃u,a[i]?=Y u/\RelV x u
 |_,_,_,_,.nil,e=>by simp at e
 |_,_,0,_,.cons r _,e=>by simp at e;subst e;exact⟨_,rfl,r⟩
 |_,_,i+1,x,.cons _ t,e=>by obtain⟨u,J,z⟩:=cv.get (i:=i) (x:=x) t (by simpa using e);exact⟨u,by simpa using J,z⟩
theorem cv.set{u:ai}(r:RelV x u):∀ {xs:List V}{a:List ai}(i:Nat),cv xs a->cv (xs.set i x) (a.set i u)
 |_,_,_,.nil =>.nil|_,_,0,.cons _ t =>.cons r t|_,_,i+1,.cons q t =>.cons q (cv.set r i t)
def cv.append{xs ys:List V}{b a:List ai}(h:cv xs b)(s:cv ys a):cv (xs++ys) (b++a):=by
 induction h with|nil=>exact s|cons r _ ih=>exact .cons r ih
theorem cv.take:∀ {xs:List V}{a:List ai}(n:Nat),cv xs a->cv (xs.take n) (a.take n)
 |_,_,0,_ =>.nil|_,_,_+1,.nil =>.nil|_,_,n+1,.cons r t =>.cons r (cv.take n t)
theorem cv.drop:∀ {xs:List V}{a:List ai}(n:Nat),cv xs a->cv (xs.drop n) (a.drop n)
 |_,_,0,r=>r|_,_,_+1,.nil =>.nil|_,_,n+1,.cons _ t=>cv.drop n t
def sj:Option V->Option ai->Prop
 |some v,Y u=>RelV v u|none,M=>True|_,_=>False
def KV{a:Type}:List (a×V)->List (a×ai)->Prop:=Paired λ(p:a×V) (q:a×ai)=>p.1=q.1/\RelV p.2 q.2
noncomputable def kV:mi->V
 |.inl i =>.int i|.inr x =>.str x
inductive HO where
 |lst (xs:List V)
 |tup (xs:List V)
 |dK (f_:List (mi×V))|dT (f_:List (List mi×V))
 |set (S:Int->Bool) (n:Nat)
 |ins (C dx:az) (fs:List (aM×V))
 |Z (x:az)
 |xd (fs:List (aM×V))
 |met (f x:az)
 |WX (lo hi:Int)
 |Fm (o:Obj) (u:HO)
 |Qs (ps:Array ai)
 |ext (φ:de->Prop)
abbrev Hp:=az->Option HO
noncomputable def dg(H:Hp)(a:az)(o:HO):Hp:=λb=>if b=a then Y o else H b
def bj{a:az}{o:HO}:dg H a o a=Y o:=by unfold dg;rw[if_pos rfl]
def aY{a:az}{o:HO}(h:b≠a):dg H a o b=H b:=by unfold dg;rw[if_neg h]
def Nr{o:HO}:dg (dg H a o) a u=dg H a u:=by
 funext b;unfold dg;split<;>rfl
def UK{H:Hp}{a:az}(h:H a=Y o)(h':H b=Y u)(d:o≠u):a≠b:=by
 intro e;subst e;rw[h]at h';exact d (bU h')
def bF{H:Hp}(h:H a=Y o)(h':H b=M):a≠b:=by
 intro e;subst e;rw[h]at h';cases h'
section
variable (P:bh)(w:cX)
def gF(H:Hp)(h:de)(a:az):HO->Prop
 |.lst xs=>xs.length<=bc/\∃(g:List ai) (b:Nat),cv xs g/\h.get? a=Y { cls :=.type "list",data :=.seq g.toArray b }|.tup xs=>xs.length<=bc/\∃g:List ai,cv xs g/\IsTup h a g.toArray|.dK e=>e.length<=bc/\(a==lj)=Z_/\∃l,KV e l/\h.DictOf (iB P w) a l| .dT e=>e.length<=bc/\(a==lj)=Z_/\∃xs:List (List mi×az×ai),
   Paired (λ(p:List mi×V) (c:List mi×az×ai)=>p.1=c.1/\H c.2.1=Y (.tup (p.1.map kV))/\RelV p.2 c.2.2) e xs /\
   ∃o es m,h.get? a=Y o/\o.ExactDict/\o.data=.dict es m/\es.toList=xs.map (entryOfKey (Di (iB P w)))/\(xs.map (·.1)).Nodup
 |.set S b=>h.SetOf (intKind P w) a S b| .ins C dx j=>H dx=Y (.Z a)/\j.length<=1000/\dx≠a/\h.get? a=Y (Fp C dx) /\
   ∃mA,h.Ns1 dx mA/\(∀f,sj (j.lookup f) (mA f))/\PySem.Within mA (j.map (·.1))
 |.Z _=>∃o,h.get? a=Y o|.xd j=>∃mA,h.Ns1 a mA/\∀f,sj (j.lookup f) (mA f)|.WX n L=>∃t u v,h.get? a=Y { cls :=.type "range",data :=.fields #[.int n t,.int L u,.int 1 v] }|.Fm o u=>h.get? a=Y o/\gF H h a u|.Qs q=>h.get? a=Y { cls :=.none,data :=.fields q }|.met f x=>h.get? a=Y (methodObj (.ref f) (.ref x))
 |.ext k=>k h/\(∃o,h.get? a=Y o)/\∀J z:de,k J->(∀o,J.get? a=Y o->z.get? a=Y o)->k z
def qf(H:Hp)(h:de):Prop:=∀a o,H a=Y o->gF P w H h a o
end
section
variable {P:bh}
def gF.lt(x:gF P w H h a o):a<h.objs.size:=by
 cases o with
 |lst xs=>obtain⟨_,_,_,_,e⟩:=x;exact aU e
 |tup xs=>obtain⟨_,_,_,p⟩:=x;exact p.lt
 |set S b=>obtain⟨o,_,_,_,e,_⟩:=x;exact aU e
 |ins C dx j=>obtain⟨_,_,_,e,_⟩:=x;exact aU e
 |Z y=>obtain⟨_,e⟩:=x;exact aU e
 |xd j=>obtain⟨_,⟨_,_,_,e,_⟩,_⟩:=x;exact aU e
 |WX n L=>obtain⟨_,_,_,e⟩:=x;exact aU e
 |Fm k u=>obtain⟨e,_⟩:=x;exact aU e
 |Qs q=>exact aU (show h.get? a=Y _ from x)
 |met f y=>exact aU (show h.get? a=Y _ from x)
 |ext g=>obtain⟨_,⟨_,e⟩,_⟩:=x;exact aU e
 |_=>obtain⟨_,_,_,_,o,_,_,e,_⟩:=x;exact aU e
def Paired.UQ{h g:Type}{F G:h->g->Prop}{e:List h}{c:List g}(p:Paired F e c)(f:∀a b,F a b->G a b):Paired G e c:=by
 induction p with|nil=>exact .nil|cons r _ ih=>exact .cons (f _ _ r) ih
def gF.Aw(x:gF P w H h a o)(k:∀b u,(b=a\/H b=Y (.Z a))->h.get? b=Y u->h'.get? b=Y u)(Q:∀b,H b=Y (.Z a)->H' b=Y (.Z a))(i:∀b xs,H b=Y (.tup xs)->H' b=Y (.tup xs)):gF P w H' h' a o:=by
 induction o with
 |lst xs=>obtain⟨z,A,g,r,e⟩:=x;exact⟨z,A,g,r,k _ _ (.inl rfl) e⟩
 |tup xs=>obtain⟨z,A,r,m,e,c⟩:=x;exact⟨z,A,r,m,k _ _ (.inl rfl) e,c⟩
 |dK E=>obtain⟨z,y,F,r,m,es,s,e,c⟩:=x;exact⟨z,y,F,r,m,es,s,k _ _ (.inl rfl) e,c⟩
 |dT E=>obtain⟨z,y,xs,r,m,es,s,e,c⟩:=x;exact⟨z,y,xs,Paired.UQ r λp l z=>⟨z.1,i _ _ z.2.1,z.2.2⟩,m,es,s,k _ _ (.inl rfl) e,c⟩
 |set S g=>obtain⟨m,es,s,t,e,c⟩:=x;exact⟨m,es,s,t,k _ _ (.inl rfl) e,c⟩
 |ins C dx j=>obtain⟨d,z,K,e,mA,⟨D,es,s,R,c⟩,r⟩:=x;exact⟨Q _ d,z,K,k _ _ (.inl rfl) e,mA,⟨D,es,s,k _ _ (.inr d) R,c⟩,r⟩
 |Z y=>obtain⟨m,e⟩:=x;exact⟨m,k _ _ (.inl rfl) e⟩
 |xd j=>obtain⟨mA,⟨D,es,s,e,c⟩,r⟩:=x;exact⟨mA,⟨D,es,s,k _ _ (.inl rfl) e,c⟩,r⟩
 |WX n L=>obtain⟨t,u,v,e⟩:=x;exact⟨t,u,v,k _ _ (.inl rfl) e⟩
 |Fm m u ih=>obtain⟨e,l⟩:=x;exact⟨k _ _ (.inl rfl) e,ih l⟩
 |Qs q=>have e:h.get? a=Y { cls :=.none,data :=.fields q }:=x;show h'.get? a=Y { cls :=.none,data :=.fields q };exact k a _ (.inl rfl) e
 |met f y=>have e:h.get? a=Y (methodObj (.ref f) (.ref y)):=x;show h'.get? a=Y (methodObj (.ref f) (.ref y));exact k a _ (.inl rfl) e
 |ext T=>obtain⟨p,⟨o,e⟩,st⟩:=x;exact⟨st _ _ p λo l=>k _ _ (.inl rfl) l,⟨o,k _ _ (.inl rfl) e⟩,st⟩
def qf.lt(x:qf P w H h)(e:H a=Y o):a<h.objs.size:=(x a o e).lt
def qf.fresh(x:qf P w H h)(e:h.objs.size<=a):H a=none:=by
 rcases q:H a with _|u
 ·rfl
 exact absurd (bx (x.lt q) e) (ie _)
def qf.kept(x:qf P w H h)(k:∀b u,h.get? b=Y u->h'.get? b=Y u):qf P w H h':=λa o e=>
 (x a o e).Aw (λb u _ q=>k b u q) (λ_ q=>q) λ_ _ q=>q
def qf.laid(x:qf P w H h)(k:∀b u,h.get? b=Y u->h'.get? b=Y u)(m:h.objs.size<=a)(f:gF P w (dg H a o) h' a o):qf P w (dg H a o) h':=λb u e=>by
 have g:=x.fresh m;by_cases l:b=a
 ·subst l;rw[bj]at e;cases e;exact f
 ·rw[aY l]at e;exact(x b u e).Aw (λc v _ q=>k c v q) (λc q=>by rw[aY (bF q g)];exact q) λc xs q=>by rw[aY (bF q g)];exact q
end
def Rd(H:Hp)(a:az)(u:HO):Prop:=H a=Y u\/∃o,H a=Y (.Fm o u)
def Rd.of(h:H a=Y u):Rd H a u :=.inl h
def Rd.ok{P:bh}{a:az}(r:Rd H a u)(x:qf P w H h):gF P w H h a u:=by
 rcases r with r|⟨o,r⟩
 ·exact x a u r
 ·obtain⟨_,q⟩:=x a _ r;exact q
def VI:Option HO->Prop
 |some (.lst _)=>True|some (.dK _)=>True|some (.dT _)=>True|some (.set _ _)=>True|some (.ins _ _ _)=>True|some (.ext _)=>True|_=>False
section
variable {P:bh}
def qf.write(C:qf P w H h)(l:VI (H x))(A:e=x\/H e=Y (.Z x))(k:∀b u,b≠e->h.get? b=Y u->h'.get? b=Y u)(s:∃u,h'.get? e=Y u)(p:gF P w (dg H x o') h' x o'):qf P w (dg H x o') h':=λb u q=>by
 have f:∀c y,H c=Y (.Z y)->c≠x:=λc y r z=>by subst z;rw[r]at l;exact l
 have g:∀c xs,H c=Y (.tup xs)->c≠x:=λc xs r z=>by subst z;rw[r]at l;exact l
 by_cases o:b=x
 ·subst o;rw[bj]at q;cases q;exact p
 ·rw[aY o]at q;by_cases a:b=e
  ·have t:H b=Y (.Z x):=by
    rcases A with z|z
    ·exact absurd (a.trans z) o
    ·rw[a];exact z
   rw[q]at t;cases t;obtain⟨v,D⟩:=s;exact⟨v,by rw[a];exact D⟩
  ·refine(C b u q).Aw (λc v m r=>k c v ?_ r) (λc r=>by rw[aY (f c b r)];exact r) λc xs r=>by rw[aY (g c xs r)];exact r
   rcases m with rfl|m
   ·exact a
   ·rintro rfl;rcases A with z|z
    ·exact f c b m z
    ·rw[m]at z;cases z;exact o rfl
end
structure Un(fs ex:List az)(H H':Hp)(h h':de):Prop where
 keep:∀b o,h.get? b=some o->H b=none->b∉fs->b∉ex->h'.get? b=some o
 slot:∀b o,h.get? b=some o->H b=none->b∈fs->b∉ex->∃sl,h'.get? b=some { o with slots:=sl }
 free:∀b o,h.get? b=some o->H b=none->b∉ex->H' b=none
 there:∀b o,h.get? b=some o->b∉ex->∃o',h'.get? b=some o'
 Dp:∀b xs,H b=some (.tup xs)->H' b=some (.tup xs)
 CA:∀b o u,H b=some (.Fm o u)->H' b=some (.Fm o u)
 Dr:∀b ps,H b=some (.Qs ps)->∃more,H' b=some (.Qs (ps++more))
def Un.any(u:Un j ex H O h J){a:Obj}(q:h.get? b=Y a)(n:H b=M)(c:b∉ex):∃f,J.get? b=Y { a with slots:=f }:=by
 by_cases e:b∈j
 ·exact u.slot b a q n e c
 ·exact⟨a.slots,u.keep b a q n e c⟩
def Un.kept(k:∀b u,h.get? b=Y u->h'.get? b=Y u):Un j ex H H h h':=
 ⟨λb c a _ _ _=>k b c a,λb c a _ _ _=>⟨c.slots,k b c a⟩,λ_ _ _ n _=>n,λb c a _=>⟨c,k b c a⟩,λ_ _ a=>a,λ_ _ _ a=>a,λ_ q a=>⟨#[],by rw[a];simp⟩⟩
def Un.refl:Un j ex H H h h:=Un.kept λ_ _ q=>q
def Un.laid(k:∀b u,h.get? b=Y u->h'.get? b=Y u)(f:h.objs.size<=a)(e:H a=M):Un j ex H (dg H a o) h h' where
 keep:=λb u c _ _ _=>k b u c
 slot:=λb u c _ _ _=>⟨u.slots,k b u c⟩
 free:=λb u c n _=>by rw[aY (bR (bx (aU c) f))];exact n
 there:=λb u c _=>⟨u,k b u c⟩
 Dp:=λb xs c=>by rw[aY (bF c e)];exact c
 CA:=λb u xs c=>by rw[aY (bF c e)];exact c
 Dr:=λb q c=>⟨#[],by rw[aY (bF c e),c];simp⟩
def Un.write(f:VI (H x))(s:e=x\/H e=Y (.Z x))(k:∀b u,b≠e->h.get? b=Y u->h'.get? b=Y u)(l:∃u,h'.get? e=Y u):Un j ex H (dg H x o) h h':=by
 have m:∀b,H b=M->b≠x:=λb n z=>by subst z;rw[n]at f;exact f
 have p:∀b,H b=M->b≠e:=λb n z=>by
  subst z;rcases s with r|r
  ·exact m b n r
  ·rw[n]at r;cases r
 have g:∀b u,H b=Y u->¬VI (Y u)->b≠x:=λb u a nm z=>by subst z;rw[a]at f;exact nm f
 refine⟨λb u a n _ _=>k b u (p b n) a,λb u a n _ _=>⟨u.slots,k b u (p b n) a⟩,λb u a n _=>by rw[aY (m b n)];exact n,λb u a _ =>?_,
  λb xs a=>by rw[aY (g b _ a λz=>z)];exact a,λb u xs a=>by rw[aY (g b _ a λz=>z)];exact a,λb q a=>⟨#[],by rw[aY (g b _ a λz=>z),a];simp⟩⟩
 by_cases c:b=e
 ·subst c;exact l
 ·exact⟨u,k b u c a⟩
noncomputable def VX(h:de)(H:Hp):List az:=(bY h.objs.size).filter λa=>(H a).isSome
def Cr(h:de)(H:Hp):de:=PySem.W.hideAll h (VX h H)
def JH(h:de)(H:Hp):(Cr h H).objs.size=h.objs.size:=PySem.W.hideAll_size _ _
def Mg(e:h.get? b=Y o)(n:H b=M):(Cr h H).get? b=Y o:=
 PySem.W.hideAll_get _ e λa=>by have q:(H b).isSome=true:=(fm.mp a).2;rw[n]at q;simp at q
def Oi(e:(Cr h H).get? b=Y o):h.get? b=Y o/\H b=none:=by
 have a:h.get? b=Y o:=PySem.W.of_hideAll (VX h H) e;refine⟨a,?_⟩;rcases q:H b with _|x
 ·rfl
 have c:b∈VX h H:=fm.mpr ⟨yj.mpr (aU a),by simp[q]⟩;have z:(Cr h H).get? b=none:=PySem.W.hideAll_none (VX h H) c;rw[z]at e;cases e
structure Mod(K:aT)(mg:aM->Option ai)(base:de):Prop where
 UU:K.In base
 glob:base.Ns bw mg
 blt:∃mb,base.Ns builtinsNs mb/\∀x:aM,x ≠ "__name__" ->mb x=fZ x
 nolimit:base.NoLimit
structure Cx where
 prog:bh
 w:cX
 K:aT
 mg:aM->Option ai
 base:de
 A:ip
 N:List aM
 s₀:aw
 H₀:Hp
 env:Env
 outer:List Env
 stack:List Env
 ex:List az
 fn:aM->Bool
 calm:Bool
 pn:List (az×Obj)
 xe:ai->aw->Prop
noncomputable def Dg(l:List Env):List az:=l.filterMap (·.frame)
abbrev Cx.fs(X:Cx):List az:=Dg X.outer
def SD(a:Scope)(x:aM):Prop:=a.names.lookup x=Y .local\/a.names.lookup x=Y .cell\/a.names.lookup x=Y .free
def Loc(a:Scope)(x:aM):Prop:=a.names.lookup x=Y .local\/a.names.lookup x=Y .cell
def Look(a:Env)(h:de)(m:aM->Option ai)(x:aM)(u:ai):Prop:=
 (a.kindOf x=Y .local/\m x=Y u)\/((a.kindOf x=Y .cell\/a.kindOf x=Y .free)/\∃c,a.cells.lookup x=Y c/\h.IsCell c (Y u))
structure Cx.Ok(X:Cx):Prop where
 mod:Mod X.K X.mg X.base
 kind:X.env.scope.kind=.function
 glob:X.env.globals=bw
 blt:X.env.builtins=builtinsNs
 above:X.s₀.heap.objs.size<=X.env.locals
 inj:∀x y c,X.env.cells.lookup x=some c->X.env.cells.lookup y=some c->x=y
 has:∀x,(X.env.kindOf x=some .cell\/X.env.kindOf x=some .free)->∃c,X.env.cells.lookup x=some c
 Vz:∀x c,X.fn x=true->X.env.cells.lookup x=some c->X.s₀.heap.objs.size<=c
 hd:X.calm=true->X.A.handled=none
 frames:X.A.frames=some X.stack
 V0:X.stack=X.outer\/(X.stack=X.env::X.outer/\X.env.frame=some X.env.locals)
 ZJ:∀b∈X.ex,b≠X.env.locals/\∀x c,X.env.cells.lookup x=some c->c≠b
 bs:∀b o,X.base.get? b=some o->X.s₀.heap.get? b=some o/\X.H₀ b=none
 Nj:X.base.objs.size<=X.s₀.heap.objs.size
 LJ:∀b o,X.base.get? b=some o->b∉X.ex
 OJ:∀b∈X.ex,b∉X.fs
 yb:X.s₀.heap.FunFrames X.base X.outer
 RV:∀b∈X.fs,X.H₀ b=none
structure Inv(X:Cx)(C7:List (az×Obj))(σ:List (Option V))(H:Hp)(s:aw):Prop where
 ok:X.Ok
 os:s.os=X.s₀.os
 bare:Ft s.gens
 base:Un X.fs X.ex X.H₀ H X.s₀.heap s.heap
 loc:∃m,s.heap.Ns X.env.locals m/\∀(i:Nat) (x:aM) (v:V),X.N[i]?=some x->σ[i]?=some (some v)->SD X.env.scope x->∃u,RelV v u/\Look X.env s.heap m x u
 cell:∀x c,X.env.cells.lookup x=some c->∃v,s.heap.IsCell c v
 free:H X.env.locals=none
 qH:∀x c,X.env.cells.lookup x=some c->H c=none
 pin:∀p∈X.pn++C7,s.heap.get? p.1=some p.2/\H p.1=none/\p.1≠X.env.locals/\p.1∉X.fs/\∀v,p.2.data ≠ .cell v
 iw:qf X.prog X.w H s.heap
 len:σ.length=X.N.length
section
variable {X:Cx}{s:aw}
def Cx.Ok.Xj(a:X.Ok)(e:X.base.get? b=Y o):b∉X.fs:=λc=>by
 have:=(a.yb.mem c).1;rw[e]at this;cases this
def Inv.bs(I:Inv X B U H s):∀b o,X.base.get? b=Y o->s.heap.get? b=Y o/\H b=none:=λb o e=>
 ⟨I.base.keep b o (I.ok.bs b o e).1 (I.ok.bs b o e).2 (I.ok.Xj e) (I.ok.LJ b o e),I.base.free b o (I.ok.bs b o e).1 (I.ok.bs b o e).2 (I.ok.LJ b o e)⟩
def Inv.bk(I:Inv X B U H s):∀b o,X.base.get? b=Y o->s.heap.get? b=Y o:=λb o e=>(I.bs b o e).1
def Inv.mod(I:Inv X B U H s):Mod X.K X.mg X.base:=I.ok.mod
def Inv.xN(I:Inv X B U H s):X.K.In s.heap:=I.ok.mod.UU.keeps I.bk
def Inv.fr(I:Inv X B U H s):∃m,Fr X.base X.env.locals s.heap m:=
 let ⟨m,a,_⟩:=I.loc
 ⟨m,a,I.bk,bq I.ok.Nj I.ok.above⟩
def Inv.lt(I:Inv X B U H s):X.env.locals<s.heap.objs.size:=let ⟨_,a,_⟩:=I.loc;a.lt
def Inv.sz(I:Inv X B U H s):X.s₀.heap.objs.size<=s.heap.objs.size:=bq I.ok.above (ib I.lt)
def Inv.Rl(I:Inv X B U H s)(h:s.heap.objs.size<=a):a∉X.fs:=λc=>by
 obtain⟨_,o,b,_⟩:=I.ok.yb.mem c;exact absurd (bx (aU b) (bq I.sz h)) (ie _)
def Inv.Yh(I:Inv X B U H s):∀x c,X.env.cells.lookup x=Y c->c≠X.env.locals:=λx c e z=>by
 obtain⟨v,o,f,g⟩:=I.cell x c e;obtain⟨m,⟨o',es,h,a,b,_⟩,_⟩:=I.loc;rw[z,a]at f;cases f;rw[b]at g;cases g
def Inv.yb(I:Inv X B U H s):s.heap.FunFrames X.base X.outer:=by
 have g:∀(l:List Env),(∀b∈Dg l,b∈X.fs)->X.s₀.heap.FunFrames X.base l->s.heap.FunFrames X.base l:=by
  intro l
  induction l with
  |nil=>intro _ _;trivial
  |cons w r ih=>
   intro h t;obtain⟨u,⟨L,o,a,p,m,v⟩,k⟩:=t;have f:L∈X.fs:=h L (by unfold Dg;rw[qR,a];exact au);obtain⟨x,e⟩:=I.base.slot L o m (I.ok.RV L f) f λz=>I.ok.OJ L z f
   exact⟨u,⟨L,_,a,p,e,v⟩,ih (λb c=>h b (by unfold Dg;rw[qR,a];exact ao _ c)) k⟩
 exact g X.outer (λ_ c=>c) I.ok.yb
def Inv.stack(I:Inv X B U H s):s.heap.FunFrames X.base X.stack:=by
 rcases I.ok.V0 with e|⟨e,b⟩
 ·rw[e];exact I.yb
 ·rw[e];obtain⟨m,a,_⟩:=I.loc;refine .cons (by rw[I.ok.kind];decide) b a ?_ I.yb;exact Heap.get?_none_of_le (bq I.ok.Nj I.ok.above)
def Inv.uG(I:Inv X B U H s):∀b∈Dg X.stack,b∈X.env.locals::X.fs:=λb a=>by
 rcases I.ok.V0 with e|⟨e,c⟩
 ·rw[e]at a;exact ao _ a
 ·rw[e]at a;unfold Dg at a;rw[qR,c]at a;exact a
def Inv.Hf(I:Inv X B U H s):∀b∈Dg X.stack,H b=none:=λb a=>by
 rcases aE.mp (I.uG b a) with e|a
 ·rw[e];exact I.free
 ·obtain⟨_,o,c,_⟩:=I.ok.yb.mem a;exact I.base.free b o c (I.ok.RV b a) λz=>I.ok.OJ b z a
def Inv.step{g':Array GenState}{t':Nat}{d':Drawn}{ch:List az}(I:Inv X B U H s)(w:∀b∈ch,(b∈X.ex\/X.s₀.heap.objs.size<=b)/\b≠X.env.locals/\(∀x c,X.env.cells.lookup x=Y c->c≠b)/\∀p∈X.pn++B,p.1≠b)(t:∀b o,b≠X.env.locals->b∉X.fs->b∉ch->s.heap.get? b=Y o->H b=M->h'.get? b=Y o)(E:∀b o,b≠X.env.locals->b∈X.fs->b∉ch->s.heap.get? b=Y o->H b=M->∃sl,h'.get? b=Y { o with slots:=sl })(g:∀b o,b∉ch->s.heap.get? b=Y o->H b=M->H' b=M)(F:∀b o,b∉ch->s.heap.get? b=Y o->∃o',h'.get? b=Y o')(P:∀b xs,H b=Y (.tup xs)->H' b=Y (.tup xs))(T:∀b o u,H b=Y (.Fm o u)->H' b=Y (.Fm o u))(Q:∀b q,H b=Y (.Qs q)->∃S,H' b=Y (.Qs (q++S)))(ns:∀m,s.heap.Ns X.env.locals m->h'.Ns X.env.locals m)(iw:qf X.prog X.w H' h')(hg:Ft g'):
  Inv X B U H' { s with heap:=h',gens:=g',drawn:=d',toks:=t' }:=by
 have R:∀b o,X.s₀.heap.get? b=Y o->b≠X.env.locals:=λb o e=>bR (bx (aU e) I.ok.above)
 have C:∀b o,X.s₀.heap.get? b=Y o->b∉X.ex->b∉ch:=λb o e f K=>by
  rcases(w b K).1 with z|z
  ·exact f z
  ·exact absurd (bx (aU e) z) (ie _)
 have A:∀x c,X.env.cells.lookup x=Y c->∀v,s.heap.IsCell c v->h'.IsCell c v:=λx c e v ⟨o,j,hd⟩=>by
  have h:c∉ch:=λz=>(w c z).2.2.1 x c e rfl
  by_cases hc:c∈X.fs
  ·obtain⟨sl,a⟩:=E c o (I.Yh x c e) hc h j (I.qH x c e);exact⟨_,a,hd⟩
  ·exact⟨o,t c o (I.Yh x c e) hc h j (I.qH x c e),hd⟩
 refine⟨I.ok,I.os,hg,⟨λb o e n K f =>?_,λb o e n K f =>?_,λb o e n f =>?_,λb o e f =>?_,λb xs e=>P b xs (I.base.Dp b xs e),λb o xs e=>T b o xs (I.base.CA b o xs e),λb q e =>?_⟩,?_,λx c e =>?_,?_,λx c e =>?_,λp hp =>?_,iw,I.len⟩
 ·exact t b o (R b o e) K (C b o e f) (I.base.keep b o e n K f) (I.base.free b o e n f)
 ·obtain⟨sl,D⟩:=I.base.slot b o e n K f;obtain⟨sl',e2⟩:=E b _ (R b o e) K (C b o e f) D (I.base.free b o e n f);exact⟨sl',e2⟩
 ·obtain⟨o',D⟩:=I.base.there b o e f;exact g b o' (C b o e f) D (I.base.free b o e n f)
 ·obtain⟨o',D⟩:=I.base.there b o e f;exact F b o' (C b o e f) D
 ·obtain⟨m1,D⟩:=I.base.Dr b q e;obtain⟨m2,e2⟩:=Q b _ D;exact⟨m1++m2,by rw[e2,Array.append_assoc]⟩
 ·obtain⟨m,hn,hl⟩:=I.loc;refine⟨m,ns m hn,λi x v D e2 e3 =>?_⟩;obtain⟨u,r,l⟩:=hl i x v D e2 e3;refine⟨u,r,?_⟩;rcases l with l|⟨k,c,e,z⟩
  ·exact .inl l
  ·exact .inr ⟨k,c,e,A x c e _ z⟩
 ·obtain⟨v,z⟩:=I.cell x c e;exact⟨v,A x c e v z⟩
 ·obtain⟨m,⟨o,_,_,j,_⟩,_⟩:=I.loc;exact g _ o (λz=>(w _ z).2.1 rfl) j I.free
 ·obtain⟨v,o,j,hd⟩:=I.cell x c e;exact g c o (λz=>(w c z).2.2.1 x c e rfl) j (I.qH x c e)
 ·obtain⟨e,n,ne,nf,d⟩:=I.pin p hp;have h:p.1∉ch:=λz=>(w p.1 z).2.2.2 p hp rfl
  exact⟨t p.1 p.2 ne nf h e n,g p.1 p.2 h e n,ne,nf,d⟩
def Inv.un{t':Nat}(I:Inv X B U H s)(u:Un X.fs [] H H' s.heap h')(c:qf X.prog X.w H' h'):Inv X B U H' { s with heap:=h',toks:=t' }:=by
 obtain⟨m,⟨o,es,x,k,r⟩,_⟩:=id I.loc;obtain⟨v,t⟩:=u.any k I.free Ž;exact I.step (g':=s.gens) (d':=s.drawn) (ch:=[]) (λ_ z=>nomatch z) (λb o _ f _ e n=>u.keep b o e n f Ž) (λb o _ f _ e n=>u.slot b o e n f Ž) (λb o _ e n=>u.free b o e n Ž) (λb o _ e=>u.there b o e Ž) u.Dp u.CA u.Dr (λw p=>by obtain⟨o',g,h,a,l⟩:=p;rw[k]at a;cases a;exact⟨_,g,h,t,l⟩) c I.bare
def Inv.call{g':Array GenState}{t':Nat}{d':Drawn}{ch:List az}(I:Inv X B U H s)(u:Un (Dg X.stack) ch H H' s.heap h')(h:qf X.prog X.w H' h')(C:Ft g')(g:∀b∈ch,(b∈X.ex\/X.s₀.heap.objs.size<=b)/\b≠X.env.locals/\(∀x c,X.env.cells.lookup x=Y c->c≠b)/\∀p∈X.pn++B,p.1≠b):
  Inv X B U H' { s with heap:=h',gens:=g',drawn:=d',toks:=t' }:=by
 obtain⟨m,⟨o,es,K,v,r⟩,_⟩:=id I.loc;obtain⟨E,k⟩:=u.any v I.free λz=>(g _ z).2.1 rfl
 exact I.step (ch:=ch) g (λb o k D a e n=>u.keep b o e n (λz=>(aE.mp (I.uG b z)).elim k D) a) (λb o _ _ a e n=>u.any e n a) (λb o a e n=>u.free b o e n a) (λb o a e=>u.there b o e a) u.Dp u.CA u.Dr (λF A=>by obtain⟨o',l,t,f,w⟩:=A;rw[v]at f;cases f;exact⟨_,l,t,k,w⟩) h C
def Inv.turned{t':Nat}(I:Inv X B U H s)(k:∀b o,b≠g->s.heap.get? b=Y o->h'.get? b=Y o)(A:H g=M)(t:g≠X.env.locals)(J:g∈X.ex\/X.s₀.heap.objs.size<=g)(z:∀x c,X.env.cells.lookup x=Y c->c≠g)(E:∀p∈X.pn++B,p.1≠g):Inv X B U H { s with heap:=h',toks:=t' }:=by
 have l:∀b u,H b=Y u->b≠g:=λb u e f=>by rw[f,A]at e;cases e
 refine I.step (g':=s.gens) (d':=s.drawn) (ch:=[g]) (λb D =>?_) (λb o _ _ h e _=>k b o (λf=>h (by simp[f])) e) (λb o _ _ h e _=>⟨o.slots,k b o (λf=>h (by simp[f])) e⟩) (λ_ _ _ _ n=>n)
  (λb o h e=>⟨o,k b o (λf=>h (by simp[f])) e⟩) (λ_ _ e=>e) (λ_ _ _ e=>e) (λb q e=>⟨#[],by rw[e];simp⟩) (λm C =>?_) (λb u e =>?_) I.bare
 ·have e:b=g:=by simpa using D
  subst e;exact⟨J,t,z,E⟩
 ·obtain⟨o,es,F,w,r⟩:=C;exact⟨o,es,F,k _ o (cg t) w,r⟩
 ·refine(I.iw b u e).Aw (λc v h a=>k c v ?_ a) (λ_ a=>a) λ_ _ a=>a
  rcases h with f|f
  ·rw[f];exact l b u e
  ·exact l c _ f
def Inv.tok(I:Inv X B U H s)(t:Nat):Inv X B U H { s with toks:=t }:=I.un (h':=s.heap) (t':=t) Un.refl I.iw
def Inv.kept{t':Nat}(I:Inv X B U H s)(k:∀b u,s.heap.get? b=Y u->h'.get? b=Y u):Inv X B U H { s with heap:=h',toks:=t' }:=I.un (Un.kept k) (I.iw.kept k)
def Inv.laid{a:az}{o:HO}{t':Nat}(I:Inv X B U H s)(k:∀b u,s.heap.get? b=Y u->h'.get? b=Y u)(e:s.heap.objs.size<=a)(c:gF X.prog X.w (dg H a o) h' a o):
  Inv X B U (dg H a o) { s with heap:=h',toks:=t' }:=I.un (Un.laid k e (I.iw.fresh e)) (I.iw.laid k e c)
def Inv.write{x e:az}{h:Nat}(I:Inv X B U H s)(f:VI (H x))(g:e=x\/H e=Y (.Z x))(k:∀b u,b≠e->s.heap.get? b=Y u->h'.get? b=Y u)(a:∃u,h'.get? e=Y u)(c:gF X.prog X.w (dg H x o) h' x o):Inv X B U (dg H x o) { s with heap:=h',toks:=h }:=I.un (Un.write f g k a) (I.iw.write f g k a c)
def Inv.weak(I:Inv X B U H s)(e:a.length=U.length)(w:∀(i:Nat) v,a[i]?=Y (Y v)->U[i]?=Y (Y v)):Inv X B a H s:=
 ⟨I.ok,I.os,I.bare,I.base,let ⟨m,c,b⟩:=I.loc;⟨m,c,λi x v h g f=>b i x v h (w i v g) f⟩,I.cell,I.free,I.qH,I.pin,I.iw,e.trans I.len⟩
def Inv.yp(I:Inv X B U H s)(h:∀p∈a,s.heap.get? p.1=Y p.2/\H p.1=M/\p.1≠X.env.locals/\p.1∉X.fs/\∀v,p.2.data ≠ .cell v):Inv X a U H s:=
 ⟨I.ok,I.os,I.bare,I.base,I.loc,I.cell,I.free,I.qH,λp b=>(aV.mp b).elim (λz=>I.pin p (bb _ z)) (h p),I.iw,I.len⟩
def Ee{N:List aM}(c:N.Nodup){j:Nat}(a:N[i]?=Y x)(b:N[j]?=Y x):i=j:=by
 obtain⟨J,f⟩:=af.mp a;obtain⟨z,e⟩:=af.mp b;exact(List.getElem_inj c).mp (f.trans e.symm)
def A0{G:Model}{A:ip}{i:Nat}{v:V}(I:Inv X B U H s)(hN:X.N.Nodup)(L:X.N[i]?=Y x)(w:Loc X.env.scope x)(r:RelV v u)(h:∀s',Inv X B (U.set i (Y v)) H s'->(∃a,ll a s.heap s'.heap/\(a=X.env.locals\/X.env.cells.lookup x=Y a))->Q () s')(hf:autoParam (X.fn x=Z'\/X.env.scope.names.lookup x=Y .local) ŭ):bB G A (storeName X.env x u) Q E s:=by
 obtain⟨m,hn,hl⟩:=id I.loc;have XR:(X.env.scope.kind == .class||(X.env.scope.kind == .module&&X.env.locals != X.env.globals))=false:=by rw[I.ok.kind];rfl
 have K:i<U.length:=by rw[I.len];exact(af.mp L).1
 have T:=I.Yh;have g:∀ {a:az}{h':de},(∃o,s.heap.get? a=Y o/\H a=M)->ll a s.heap h'->qf X.prog X.w H h':=fun {a h'} ha f b ob e=>by
  obtain⟨_,_,C⟩:=ha;refine(I.iw b ob e).Aw (λc w' t q=>(f.2 c ?_).trans q) (λ_ q=>q) λ_ _ q=>q
  rintro rfl;rcases t with rfl|t
  ·rw[C]at e;cases e
  ·rw[C]at t;cases t
 rcases w with F|F
 ·refine wpAny_storeName_local F hn (λh' hn' f =>?_) XR;obtain⟨oL,_,_,hoL,_⟩:=id hn;refine h _ ⟨I.ok,I.os,I.bare,⟨λb o e n S w =>?_,λb o e n S w =>?_,I.base.free,λb o e w =>?_,I.base.Dp,I.base.CA,I.base.Dr⟩,⟨_,hn',λj y v' l D e3 =>?_⟩,λy c e =>?_,I.free,I.qH,λp hp =>?_,g ⟨oL,hoL,I.free⟩ f,by simpa using I.len⟩ ⟨_,f,.inl rfl⟩
  ·exact(f.2 b (bR (bx (aU e) I.ok.above))).trans (I.base.keep b o e n S w)
  ·obtain⟨sl,l⟩:=I.base.slot b o e n S w;exact⟨sl,(f.2 b (bR (bx (aU e) I.ok.above))).trans l⟩
  ·obtain⟨o',l⟩:=I.base.there b o e w;exact⟨o',(f.2 b (bR (bx (aU e) I.ok.above))).trans l⟩
  ·by_cases P:j=i
   ·subst P;rw[L]at l;cases l;rw[bC K]at D;cases D;exact⟨u,r,.inl ⟨F,Ž⟩⟩
   ·rw[aj (cg P)]at D;obtain⟨u',r',q⟩:=hl j y v' l D e3;refine⟨u',r',?_⟩;rcases q with⟨k,e⟩|⟨k,c,e,z⟩
    ·refine .inl ⟨k,?_⟩;have:y≠x:=λe=>P (Ee hN l (e ▸ L))
     simp[this,e]
    ·exact .inr ⟨k,c,e,z.sameBut f (T y c e)⟩
  ·obtain⟨w',z⟩:=I.cell y c e;exact⟨w',z.sameBut f (T y c e)⟩
  ·obtain⟨e,n,ne,nf,d⟩:=I.pin p hp;exact⟨(f.2 p.1 ne).trans e,n,ne,nf,d⟩
 ·have R:X.fn x=true:=by
   rcases hf with z|z
   ·exact z
   ·rw[z]at F;cases F
  obtain⟨c,t⟩:=I.ok.has x (.inl F);obtain⟨w',z⟩:=I.cell x c t;refine wpAny_storeName_cell I.ok.kind F t z (λh' Zw f =>?_);obtain⟨oc,Zj,XG⟩:=id z;refine h { s with heap:=h' } ⟨I.ok,I.os,I.bare,⟨λb o e n S w =>?_,λb o e n S w =>?_,I.base.free,λb o e w =>?_,I.base.Dp,I.base.CA,I.base.Dr⟩,⟨m,hn.sameBut f (cg (T x c t)),λj y v' l D e3 =>?_⟩,λy c' e =>?_,I.free,I.qH,λp hp =>?_,g ⟨oc,Zj,I.qH x c t⟩ f,by simpa using I.len⟩ ⟨c,f,.inr t⟩
  ·exact(f.2 b (bR (bx (aU e) (I.ok.Vz x c R t)))).trans (I.base.keep b o e n S w)
  ·obtain⟨sl,l⟩:=I.base.slot b o e n S w;exact⟨sl,(f.2 b (bR (bx (aU e) (I.ok.Vz x c R t)))).trans l⟩
  ·obtain⟨o',l⟩:=I.base.there b o e w;exact⟨o',(f.2 b (bR (bx (aU e) (I.ok.Vz x c R t)))).trans l⟩
  ·by_cases P:j=i
   ·subst P;rw[L]at l;cases l;rw[bC K]at D;cases D;exact⟨u,r,.inr ⟨.inl F,c,t,Zw⟩⟩
   ·rw[aj (cg P)]at D;obtain⟨u',r',q⟩:=hl j y v' l D e3;refine⟨u',r',?_⟩;rcases q with q|⟨k,c',e,z'⟩
    ·exact .inl q
    ·refine .inr ⟨k,c',e,z'.sameBut f ?_⟩;rintro rfl;exact P (Ee hN l (I.ok.inj _ _ _ e t ▸ L))
  ·by_cases Wa:c'=c
   ·subst Wa;exact⟨_,Zw⟩
   ·obtain⟨w2,z2⟩:=I.cell y c' e;exact⟨w2,z2.sameBut f Wa⟩
  ·obtain⟨e,n,ne,nf,d⟩:=I.pin p hp;refine⟨(f.2 p.1 ?_).trans e,n,ne,nf,d⟩;intro q;rw[q,Zj]at e;have q':oc=p.2:=bU e;exact d w' (by rw[<- q'];exact XG)
def yN{d:Model}{v:V}(I:Inv X B U H s)(c:X.N.Nodup)(L:X.N[i]?=Y x)(a:Loc X.env.scope x)(r:RelV v u)(h:∀s',Inv X B (U.set i (Y v)) H s'->Q () s')(b:autoParam (X.fn x=Z'\/X.env.scope.names.lookup x=Y .local) ŭ):bB d A (storeName X.env x u) Q E s:=
 A0 I c L a r (λs' e _=>h s' e) b
def Inv.Ih{s':aw}{g:List az}(I:Inv X B U H s)(k:s'.os=s.os)(u:Un (Dg X.stack) g H H' s.heap s'.heap)(a:qf X.prog X.w H' s'.heap)(l:Ft s'.gens)(f:∀b∈g,(b∈X.ex\/X.s₀.heap.objs.size<=b)/\b≠X.env.locals/\(∀x c,X.env.cells.lookup x=Y c->c≠b)/\∀p∈X.pn++B,p.1≠b):Inv X B U H' s':=by
 obtain⟨h',m,o,h,o'⟩:=s';have e:o'=s.os:=k;subst e;exact I.call (g':=m) (t':=h) (d':=o) u a l f
end
abbrev XK:=ai->Option az->Hp->Prop
abbrev St:=List (Option V)
abbrev VK:=V->Hp->Prop
abbrev TE:=St->Hp->VK->Prop
abbrev TT:=St->Hp->(Bool->Hp->Prop)->Prop
abbrev TA:=St->Hp->(List V->Hp->Prop)->Prop
structure Ends where
 nx:St->Hp->Prop
 rt:VK
 bk:St->Hp->Prop:=λ_ _=>False
 ct:St->Hp->Prop:=λ_ _=>False
abbrev TS:=Ends->St->Hp->Prop
inductive EP (X:Cx) (B:List (az×Obj)) (U:St) (Q:VK) (u:ai) (s':aw):Prop
 |mk v H':Inv X B U H' s'->RelV v u->Q v H'->EP X B U Q u s'
inductive TP (X:Cx) (B:List (az×Obj)) (U:St) (Q:Bool->Hp->Prop) (b:Bool) (s':aw):Prop
 |mk H':Inv X B U H' s'->Q b H'->TP X B U Q b s'
inductive AP (X:Cx) (B:List (az×Obj)) (U:St) (Q:List V->Hp->Prop) (b:List ai) (s':aw):Prop
 |mk a H':Inv X B U H' s'->cv a b->Q a H'->AP X B U Q b s'
def SP(X:Cx)(B:List (az×Obj))(D:Ends)(f:Flow)(s':aw):Prop:=
 match f with
 |.next=>∃a H',Inv X B a H' s'/\D.nx a H'|.brk=>∃a H',Inv X B a H' s'/\D.bk a H'|.cont=>∃a H',Inv X B a H' s'/\D.ct a H'|.ret u=>∃v a H',Inv X B a H' s'/\RelV v u/\D.rt v H'
def PE(X:Cx)(e:Expr)(t:TE):Prop:=
 ∀(B:List (az×Obj)) (s:aw) (U:St) (H:Hp) (Q:VK),Inv X B U H s->t U H Q->bB (br X.prog X.w) X.A (eval e X.env) (EP X B U Q) X.xe s
def PT(X:Cx)(e:Expr)(t:TT):Prop:=
 ∀(B:List (az×Obj)) (s:aw) (U:St) (H:Hp) (Q:Bool->Hp->Prop),Inv X B U H s->t U H Q->bB (br X.prog X.w) X.A (isTrue e X.env (eval e X.env)) (TP X B U Q) X.xe s
def PW(X:Cx)(e:Expr)(t:TT):Prop:=
 ∀(a:Sem ai) (B:List (az×Obj)) (s:aw) (U:St) (H:Hp) (Q:Bool->Hp->Prop),Inv X B U H s->t U H Q->bB (br X.prog X.w) X.A (isTrue e X.env a) (TP X B U Q) X.xe s
def PW.pt{X:Cx}(h:PW X e t):PT X e t:=h _
def PA(X:Cx)(es:List Expr)(t:TA):Prop:=
 ∀(G:Pos) (B:List (az×Obj)) (s:aw) (U:St) (H:Hp) (Q:List V->Hp->Prop),Inv X B U H s->t U H Q->bB (br X.prog X.w) X.A (spliced (dt G (av es X.env))) (AP X B U Q) X.xe s
def PS(X:Cx)(st:rN)(t:TS):Prop:=
 ∀(B:List (az×Obj)) (s:aw) (U:St) (H:Hp) (D:Ends),Inv X B U H s->t D U H->bB (br X.prog X.w) X.A (exec st X.env) (SP X B D) X.xe s
def qQ(X:Cx)(st:List rN)(t:TS):Prop:=
 ∀(B:List (az×Obj)) (s:aw) (U:St) (H:Hp) (D:Ends),Inv X B U H s->t D U H->bB (br X.prog X.w) X.A (execs st X.env) (SP X B D) X.xe s
def fS{b:Model}{s:aw}(h:bB b A t Q E s)(e:∀a s,Q a s->c a s):bB b A t c E s:=ij h e λ_ _ x=>x
section
variable {X:Cx}
def bin(C:PE X a N)(A:PE X b y){s:aw}{R:V->V->Hp->Prop}(I:Inv X B U H s)(h:N U H λx O=>y U O λc d=>R x c d){f:ai->ai->Sem l}(w:∀v u k x c d,Inv X B U d k->RelV x v->RelV c u->R x c d->bB (br X.prog X.w) X.A (f v u) Q X.xe k):
  bB (br X.prog X.w) X.A (eval a X.env) (λv g=>bB (br X.prog X.w) X.A (eval b X.env) (λu e=>bB (br X.prog X.w) X.A (f v u) Q X.xe e) X.xe g) X.xe s:=by
 refine fS (C B s U H _ I h) ?_;rintro v m ⟨x,O,E,p,t⟩;refine fS (A B m U O _ E t) ?_;rintro u k ⟨c,d,D,o,r⟩;exact w v u k x c d D p o r
def ko(i:Nat):TE:=λU H Q=>∃v,U[i]?=Y (Y v)/\Q v H
def tC(v:V):TE:=λ_ H Q=>Q v H
def Q2(A:X.N[i]?=Y x)(o:SD X.env.scope x)(f:autoParam ((x==("__debug__" : aM))=false) Ű)(g:autoParam ((x==("__classdict__" : aM))=false) Ű):PE X (.Name x G) (ko i):=by
 intro B s U H Q I h;obtain⟨v,e,h⟩:=h;obtain⟨m,p,w⟩:=I.loc;obtain⟨u,r,l⟩:=w i x v A e o;have lF:EP X B U Q u s:=⟨v,H,I,r,h⟩;rcases l with⟨b,t⟩|⟨b,c,k,a⟩
 ·exact wpAny_Name (wpAny_loadName_local I.ok.kind b p t lF) f
 ·rcases b with b|b
  ·exact wpAny_Name (wpAny_loadName_cell I.ok.kind b k a lF) f
  ·exact wpAny_Name (wpAny_loadName_free I.ok.kind b k a lF g) f
def kg{i j G}:PE X (.Constant (.int i) j G) (tC (.int i)):=λ_ _ _ H _ I h=>wpAny_Constant_int ⟨.int i,H,I.tok _,⟨_,rfl⟩,h⟩
def Uz{b j G}:PE X (.Constant (.bool b) j G) (tC (.bl b)):=λ_ _ _ H _ I h=>Constant_bool ⟨.bl b,H,I,rfl,h⟩
def F7{x j G}:PE X (.Constant (.str x) j G) (tC (.str x)):=λ_ _ _ H _ I h=>Calls.Constant_str ⟨.str x,H,I.tok _,⟨_,rfl⟩,h⟩
def Gl(X:Cx)(x:aM):Prop:=X.env.kindOf x=Y .globalImplicit
def Cj{s:aw}(I:Inv X B U H s)(b:Gl X x)(a:X.mg x=Y u)(h:Q u s)(c:autoParam ((x==("__debug__" : aM))=false) Ű):bB (br X.prog X.w) X.A (eval (.Name x G) X.env) Q E s:=
 S9 I.ok.kind b (Calls.loadGlobal_global (by rw[I.ok.glob];exact I.mod.glob.keeps I.bk) a h) c
def rj{s:aw}(I:Inv X B U H s)(e:Gl X x)(c:X.mg x=M)(a:fZ x=Y u)(h:Q u s)(b:autoParam (x ≠ "__name__") Ű)(f:autoParam ((x==("__debug__" : aM))=false) Ű):bB (br X.prog X.w) X.A (eval (.Name x G) X.env) Q E s:=by
 obtain⟨g,J,z⟩:=I.mod.blt;exact S9 I.ok.kind e (Calls.loadGlobal_builtin (by rw[I.ok.glob];exact I.mod.glob.keeps I.bk) c (by rw[I.ok.blt];exact J.keeps I.bk) ((z x b).trans a) h) f
def N'{v:V}(e:Gl X x)(c:X.mg x=M)(a:fZ x=Y u)(r:RelV v u)(b:autoParam (x ≠ "__name__") Ű)(f:autoParam ((x==("__debug__" : aM))=false) Ű):PE X (.Name x G) (tC v):=
 λ_ _ _ H _ I h=>rj I e c a ⟨v,H,I,r,h⟩ b f
def PC(X:Cx)(f:CmpOp)(a b:Expr)(t:TE):Prop:=
 ∀(B:List (az×Obj)) (s:aw) (U:St) (H:Hp) (Q:VK),Inv X B U H s->t U H Q ->
  bB (br X.prog X.w) X.A (eval a X.env) (λv e=>bB (br X.prog X.w) X.A (eval b X.env) (λu c=>bB (br X.prog X.w) X.A (iT f v u) (EP X B U Q) X.xe c) X.xe e) X.xe s
def LK(b:Expr){a:CmpOp}(h:a ≠ .In)(z:a ≠ .NotIn):iO a b=false:=by
 have e:(a==CmpOp.In)=false:=by cases a<;>first|rfl|exact absurd rfl h
 have c:(a==CmpOp.NotIn)=false:=by cases a<;>first|rfl|exact absurd rfl z
 cases b<;>simp[iO,e,c]
def tB(t:TE):TT:=λU H Q=>t U H λx O=>∃c,x=.bl c/\Q c O
def QV(h:PC X e a b t)(J:iO e b=false:=by first|exact LK _ ſ ſ|rfl):PT X (.Compare a [e] [b] G) (tB t):=by
 intro B s U H Q I hw;refine wpAny_isTrue_Compare1 (fS (h B s U H _ I hw) λv o J=>fS J λu m z=>fS z ?_) J;rintro c l ⟨x,O,k,f,g⟩;obtain⟨d,rfl,q⟩:=g;cases f;exact jE ⟨O,k,q⟩
variable {yf:List Expr}
def WM(t u:TT):TT:=λU H Q=>t U H λc O=>if c=Z' then u U O Q else Q Z_ O
def tOr(t u:TT):TT:=λU H Q=>t U H λc O=>if c=Z' then Q Z' O else u U O Q
def WE(t:TT):TT:=λU H Q=>t U H λc O=>Q (!c) O
def NW(b:PT X a tA):PW X (.BoolOp .And [a] G) tA:=by
 intro f B s U H Q I h;refine isTrue_and (fS (b B s U H Q I h) λc g e =>?_);cases c with
 |true=>exact isTrue_and_nil e|false=>exact e
def QS(b:PT X a tA):PW X (.BoolOp .Or [a] G) tA:=by
 intro f B s U H Q I h;refine isTrue_or (fS (b B s U H Q I h) λc g e =>?_);cases c with
 |false=>exact isTrue_or_nil e|true=>exact e
def QT(m:PT X a tA)(l:PW X (.BoolOp .And (b::yf) G) WK):PW X (.BoolOp .And (a::b::yf) G) (WM tA WK):=by
 intro g B s U H Q I h;refine isTrue_and (fS (m B s U H _ I h) ?_);rintro c k ⟨O,f,e⟩;cases c with
 |true=>exact l g B k U O Q f e|false=>exact⟨O,f,e⟩
def Uu(m:PT X a tA)(l:PW X (.BoolOp .Or (b::yf) G) WK):PW X (.BoolOp .Or (a::b::yf) G) (tOr tA WK):=by
 intro g B s U H Q I h;refine isTrue_or (fS (m B s U H _ I h) ?_);rintro c k ⟨O,f,e⟩;cases c with
 |true=>exact⟨O,f,e⟩|false=>exact l g B k U O Q f e
def QU(b:PT X a tA):PT X (.UnaryOp .Not a G) (WE tA):=by
 intro B s U H Q I h;exact isTrue_not (fS (b B s U H (λc O=>Q (!c) O) I h) (by rintro c k ⟨O,f,e⟩;exact⟨O,f,e⟩))
def T7(N y:TE):TE:=λU H Q=>N U H λx O=>∃c,x=.bl c/\if c=Z' then y U O Q else Q (.bl Z_) O
def WD(N y:TE):TE:=λU H Q=>N U H λx O=>∃c,x=.bl c/\if c=Z' then Q (.bl Z') O else y U O Q
def TQ(N:TE):TE:=λU H Q=>N U H λx O=>∃c,x=.bl c/\Q (.bl (!c)) O
def Q3{b}(h:PE X a t):PE X (.BoolOp b [a] G) t:=λB s U H Q I hw=>BoolOp_one (h B s U H Q I hw)
def Q5(m:PE X a N)(l:PE X (.BoolOp .And (b::yf) G) y):PE X (.BoolOp .And (a::b::yf) G) (T7 N y):=by
 intro B s U H Q I h;refine BoolOp_and (fS (m B s U H _ I h) ?_);rintro v g ⟨x,O,f,k,e⟩;obtain⟨c,rfl,e⟩:=e;cases k;refine jE ?_;cases c with
 |true=>exact l B g U O Q f e|false=>exact⟨.bl Z_,O,f,rfl,e⟩
def Uy(m:PE X a N)(l:PE X (.BoolOp .Or (b::yf) G) y):PE X (.BoolOp .Or (a::b::yf) G) (WD N y):=by
 intro B s U H Q I h;refine BoolOp_or (fS (m B s U H _ I h) ?_);rintro v g ⟨x,O,f,k,e⟩;obtain⟨c,rfl,e⟩:=e;cases k;refine jE ?_;cases c with
 |false=>exact l B g U O Q f e|true=>exact⟨.bl Z',O,f,rfl,e⟩
def Q4(f:PE X a N):PE X (.UnaryOp .Not a G) (TQ N):=by
 intro B s U H Q I h;refine UnaryOp_ (fS (f B s U H _ I h) ?_);rintro v k ⟨x,O,g,e,b⟩;obtain⟨c,rfl,b⟩:=b;cases e;exact not_of (jE ⟨.bl (!c),O,g,rfl,b⟩)
def tIf(t:TT)(N y:TE):TE:=λU H Q=>t U H λc O=>if c=Z' then N U O Q else y U O Q
def Lm(k:PT X c tA)(m:PE X a N)(l:PE X b y):PE X (.IfExp c a b G) (tIf tA N y):=by
 intro B s U H Q I h;refine wpAny_IfExp (fS (k B s U H _ I h) ?_);rintro d e ⟨O,g,f⟩;cases d with
 |true=>exact m B e U O Q g f|false=>exact l B e U O Q g f
end
def nX(K:aT)(H:Hp)(a:az)(xs:List V):Prop:=
 Rd H a (.lst xs) \/
  ∃(o:Obj) (b:Array ai) (n:Nat),K.lookup a=Y o/\o.cls=.type "list" /\o.dict=M/\o.data=.seq b n/\b.size<=bc/\cv xs b.toList
def AM(K:aT)(H:Hp)(a:az)(xs:List V):Prop:=
 Rd H a (.tup xs) \/
  ∃(o:Obj) (b:Array ai) (n:Nat),K.lookup a=Y o/\o.cls=.type "tuple" /\o.data=.seq b n/\b.size<=bc/\cv xs b.toList
noncomputable def Ym:ai->Option V
 |.none=>Y .eN|.bool b=>Y (.bl b)|.int i _=>Y (.int i)|.str x _=>Y (.str x)|.bytes b _=>Y (.GL b)|.float b _=>Y (.Ni b)|.ref a=>Y (.ref a)|.type n=>Y (.ty n)|_=>M
def RelV.abs(r:RelV x u):Ym u=Y x:=by
 cases x with
 |eN=>cases r;rfl|bl _=>cases r;rfl|ref _=>cases r;rfl|ty _=>cases r;rfl|_=>obtain⟨t,rfl⟩:=r;rfl
def RelV.inj{x:V}(r:RelV x u)(q:RelV y u):x=y:=bU (r.abs.symm.trans q.abs)
def cv.inj{xs ys:List V}{a:List ai}(h:cv xs a)(g:cv ys a):xs=ys:=by
 induction h generalizing ys with
 |nil=>cases g;rfl|cons r _ ih=>
  cases g with|cons c b=>rw[r.inj c,ih b]
section
variable {X:Cx}{s:aw}
def nX.of{K:aT}(h:H a=Y (.lst xs)):nX K H a xs :=.inl (.inl h)
def AM.of{K:aT}(h:H a=Y (.tup xs)):AM K H a xs :=.inl (.inl h)
def Inv.list(I:Inv X B U H s)(h:nX X.K H a xs):∃b:List ai,cv xs b/\PlainL s.heap a b.toArray/\xs.length<=bc:=by
 rcases h with h|⟨o,b,n,f,k,g,c,l,r⟩
 ·obtain⟨z,b,n,r,e⟩:=h.ok I.iw;exact⟨b,r,⟨_,n,e,rfl,rfl,rfl⟩,z⟩
 ·refine⟨b.toList,r,⟨o,n,I.xN a o f,k,g,by simpa using c⟩,?_⟩;have e:=r.length;simp only[TJ]at e;omega
def Inv.tuple(I:Inv X B U H s)(h:AM X.K H a xs):∃b:List ai,cv xs b/\IsTup s.heap a b.toArray/\xs.length<=bc:=by
 rcases h with h|⟨o,b,n,f,g,c,k,r⟩
 ·obtain⟨z,b,r,p⟩:=h.ok I.iw;exact⟨b,r,p,z⟩
 ·refine⟨b.toList,r,⟨o,I.xN a o f,g,n,by simpa using c⟩,?_⟩;have e:=r.length;simp only[TJ]at e;omega
def Inv.sX(I:Inv X B U H s)(h:nX X.K H a xs)(h':nX X.K H a ys):xs=ys:=by
 obtain⟨c,r,⟨o,n,e,_,_,d⟩,_⟩:=I.list h;obtain⟨b,k,⟨o',m,f,_,_,g⟩,_⟩:=I.list h';rw[e]at f;cases f;rw[d]at g;injection g with l _;have:c=b:=by simpa using congrArg Array.toList l
 subst this;exact r.inj k
def Inv.IP(I:Inv X B U H s)(h:AM X.K H a xs)(h':AM X.K H a ys):xs=ys:=by
 obtain⟨c,r,⟨o,e,_,n,d⟩,_⟩:=I.tuple h;obtain⟨b,k,⟨o',f,_,m,g⟩,_⟩:=I.tuple h';rw[e]at f;cases f;rw[d]at g;injection g with l _;have:c=b:=by simpa using congrArg Array.toList l
 subst this;exact r.inj k
end
noncomputable abbrev Cx.Av(X:Cx)(E:ai->aw->Prop):Cx:={ X with xe:=E }
abbrev Cx.LH(X:Cx):Cx:=X.Av λ_ _=>False
def Cx.Ok.Av{X:Cx}(a:X.Ok)(E:ai->aw->Prop):(X.Av E).Ok:=
 ⟨a.mod,a.kind,a.glob,a.blt,a.above,a.inj,a.has,a.Vz,a.hd,a.frames,a.V0,a.ZJ,a.bs,a.Nj,a.LJ,a.OJ,a.yb,a.RV⟩
def Cx.Ok.wC{X:Cx}(a:(X.Av E).Ok):X.Ok:=
 ⟨a.mod,a.kind,a.glob,a.blt,a.above,a.inj,a.has,a.Vz,a.hd,a.frames,a.V0,a.ZJ,a.bs,a.Nj,a.LJ,a.OJ,a.yb,a.RV⟩
section
variable {X:Cx}{s:aw}
def Inv.Av(I:Inv X B U H s)(E:ai->aw->Prop):Inv (X.Av E) B U H s:=⟨I.ok.Av E,I.os,I.bare,I.base,I.loc,I.cell,I.free,I.qH,I.pin,I.iw,I.len⟩
def Inv.wC(I:Inv (X.Av E) B U H s):Inv X B U H s:=⟨I.ok.wC,I.os,I.bare,I.base,I.loc,I.cell,I.free,I.qH,I.pin,I.iw,I.len⟩
def SP.wC{D:Ends}{f:Flow}(h:SP (X.Av E) B D f s'):SP X B D f s':=by
 cases f with
 |ret u=>obtain⟨v,a,H',I,r,q⟩:=h;exact⟨v,a,H',I.wC,r,q⟩
 |_=>obtain⟨a,H',I,q⟩:=h;exact⟨a,H',I.wC,q⟩
def qQ.LH{st:List rN}(h:qQ X.LH st t):qQ X st t:=λB s U H D I hw=>
 ij (h B s U H D (I.Av _) hw) (λ_ _ q=>q.wC) λ_ _ z=>wo z
end
section
variable {X:Cx}{st:rN}{yf:List rN}
def TR:TS:=λD U H=>D.nx U H
def Qx(t u:TS):TS:=λD U H=>t { D with nx:=u D } U H
def iZ:qQ X [] TR:=λ_ _ U H _ I h=>tN ⟨U,H,I,h⟩
def cW(J:PS X st t)(z:qQ X yf u):qQ X (st::yf) (Qx t u):=by
 intro B s U H D I h;refine wpAny_execs_cons (fS (J B s U H { D with nx:=u D } I h) λf b q =>?_);cases f with
 |next=>obtain⟨a,H',c,q⟩:=q;exact z B b a H' D c q
 |_=>exact q
def dE(J:PS X st t):qQ X [st] t:=by
 intro B s U H D I h;refine wpAny_execs_cons (fS (J B s U H D I h) λf a q =>?_);cases f with
 |next=>exact tN q|_=>exact q
def Inv.quiet{s:aw}(I:Inv X B U H s):interactive X.env=false:=by simp[interactive,I.ok.kind]
def TY(te:TE):TS:=λD U H=>te U H λ_ O=>D.nx U O
def gJ(c:PE X e te)(b:autoParam (cP e M G.line X.env=eQ false) Ų):PS X (.Expr e G) (TY te):=by
 intro B s U H D I h;exact wpAny_Expr_any (fS (c B s U H _ I h) (by rintro v g ⟨x,O,f,k,a⟩;exact⟨U,O,f,a⟩)) I.quiet b
def WC(te:TE):TS:=λD U H=>te U H D.rt
def pf(c:PE X e te):PS X (.Return (Y e) G) (WC te):=by
 intro B s U H D I h;exact wpAny_Return_some (fS (c B s U H _ I h) (by rintro v g ⟨x,O,f,a,b⟩;exact⟨x,U,O,f,a,b⟩))
def WH(c:TT)(t u:TS):TS:=λD U H=>c U H λb O=>if b=Z' then t D U O else u D U O
def ni(k:PT X c tc)(m:qQ X a t)(l:qQ X b u):PS X (.If c a b G) (WH tc t u):=by
 intro B s U H D I h;refine wpAny_If (fS (k B s U H _ I h) ?_);rintro d e ⟨O,g,f⟩;cases d with
 |true=>exact m B e U O D g f|false=>exact l B e U O D g f
def QA:TS:=λ_ _ _=>False
def Lh:PS X st QA:=λ_ _ _ _ _ _ h=>h.elim
end
abbrev TG:=V->St->Hp->(St->Hp->Prop)->Prop
abbrev VE:=List V->St->Hp->(St->Hp->Prop)->Prop
def PG(X:Cx)(a:Expr)(t:TG):Prop:=
 ∀(B:List (az×Obj)) (s:aw) (U:St) (H:Hp) (v:V) (u:ai) (Q:St->Hp->Prop),Inv X B U H s->RelV v u->t v U H Q ->
  bB (br X.prog X.w) X.A (M_ a X.env u) (λ_ s'=>∃b H',Inv X B b H' s'/\Q b H') X.xe s
def Wo(X:Cx)(e:List Expr)(t:VE):Prop:=
 ∀(B:List (az×Obj)) (s:aw) (U:St) (H:Hp) (b:List V) (c:List ai) (Q:St->Hp->Prop),Inv X B U H s->cv b c->t b U H Q ->
  bB (br X.prog X.w) X.A (assignInOrder ((Ah e X.env).map (·.2)) c) (λ_ s'=>∃a H',Inv X B a H' s'/\Q a H') X.xe s
abbrev VD:=V->V->V->Hp->(Hp->Prop)->Prop
def VG(X:Cx)(t:VD):Prop:=
 ∀(B:List (az×Obj)) (s:aw) (U:St) (H:Hp) (o i v:V) (a b u:ai) (Q:Hp->Prop),Inv X B U H s->RelV o a->RelV i b->RelV v u->t o i v H Q ->
  bB (br X.prog X.w) X.A (setItem a b u) (λ_ s'=>∃H',Inv X B U H' s'/\Q H') X.xe s
abbrev Yo:=V->V->Hp->VK->Prop
def PIp(X:Cx)(a:Operator)(t:Yo):Prop:=
 ∀(B:List (az×Obj)) (s:aw) (U:St) (H:Hp) (x y:V) (v u:ai) (Q:VK),Inv X B U H s->RelV x v->RelV y u->t x y H Q ->
  bB (br X.prog X.w) X.A (inplaceOp a v u) (EP X B U Q) X.xe s
section
variable {X:Cx}
def qG(i:Nat):TG:=λv U H Q=>Q (U.set i (Y v)) H
def cN{i:Nat}(c:X.N.Nodup)(L:X.N[i]?=Y x)(a:Loc X.env.scope x)(b:autoParam (X.fn x=Z'\/X.env.scope.names.lookup x=Y .local) ŭ):PG X (.Name x G) (qG i):=by
 intro B s U H v u Q I r h;exact wpAny_assign_Name (yN I c L a r (λs' e=>⟨_,H,e,h⟩) b)
def RS:VE:=λa U H Q=>a=[]/\Q U H
def Bv(t:TG)(u:VE):VE:=λb U H Q=>∃v r,b=v::r/\t v U H λa H'=>u r a H' Q
def V2:Wo X [] RS:=by
 intro B s U H a b Q I r h;obtain⟨e,h⟩:=h;subst e;cases r;exact assignInOrder_nil ⟨U,H,I,h⟩
def Ux(J:PG X e t)(z:Wo X es u)(g:autoParam ((Ah (e::es) X.env).map (·.2)=M_ e X.env::(Ah es X.env).map (·.2)) Ų):Wo X (e::es) (Bv t u):=by
 intro B s U H m p Q I r h;obtain⟨v,o,k,h⟩:=h;subst k;cases r with
 |cons r c=>rw[g];refine assignInOrder_cons (fS (J B s U H _ _ _ I r h) ?_);rintro _ b ⟨a,O,l,f⟩;exact z B b a O _ _ Q l c f
def RQ(K:aT)(n:Nat)(t:VE):TG:=λv U H Q=>∃a xs,v=.ref a/\AM K H a xs/\xs.length=n/\t xs U H Q
def Xa(A:X.calm=Z')(h:Wo X es t)(w:autoParam ((Ah es X.env).length=n) Ų)(c:autoParam ((Ah es X.env).findIdx? (·.1)=none) Ų):PG X (.Tuple es k G) (RQ X.K n t):=by
 intro B s U H v u Q I r hw;obtain⟨a,xs,C,p,x,hw⟩:=hw;subst C;cases r;obtain⟨g,f,m,E⟩:=I.tuple p;refine assign_Tuple_tuple (I.ok.hd A) m (by simp[w,<- x,f.length]) c λh' l =>?_
 have D:Inv X B U H { s with heap:=h' }:=I.kept (t':=s.toks) λb o e=>l b o (bR (aU e)) e
 exact h B _ U H xs _ Q D (by simpa using f) hw
def Vc(to a:TE)(t:VD):TG:=λv U H Q=>to U H λo O=>a U O λi d=>t o i v d λb=>Q U b
def Q1(A:PE X o to)(L:PE X i c)(w:VG X t) (C:autoParam (∀v,M_ (.Subscript o i G) X.env v=(do
   let a <- oO [v] (eval o X.env)
   let b <- oO [v,a] (eval i X.env)
   r_ G
   oO [v,a,b] (setItem a b v)
   release [v,a,b] [])) ů):PG X (.Subscript o i G) (Vc to c t):=by
 intro B s U H v u Q I r h;rw[C];refine aD (xy (fS (A B s U H _ I h) ?_));rintro a f ⟨x,O,F,k,p⟩;refine aD (xy (fS (L B f U O _ F p) ?_));rintro b e ⟨y,d,E,g,m⟩;refine aD (wpAny_standAt (aD (xy (fS (w B e U d x y v a b u _ E k g r m) ?_))));rintro _ j ⟨K,D,l⟩;exact wpAny_release ⟨U,K,D,l⟩
def Ny(te:TE)(g:TG):TS:=λD U H=>te U H λx O=>g x U O D.nx
def QX(l:PE X e te)(k:PG X tg g)(f:autoParam (swapsWithSole [tg] e G.line X.env=eQ false) Ų)(hw:autoParam (swappedStores [tg] e X.env=eQ none) Ų)(J:autoParam ((Ah [tg] X.env).map (·.2)=[M_ tg X.env]) Ų):PS X (.Assign [tg] e G) (Ny te g):=by
 intro B s U H D I h;refine wpAny_Assign_stores (fS (l B s U H _ I h) ?_) f hw;rintro v a ⟨x,O,m,b,c⟩;rw[J];exact fS (k B a U O x v _ m b c) λ_ o q=>q
def js{i:Nat}(l:X.N.Nodup)(L:X.N[i]?=Y x)(c:Loc X.env.scope x)(k:PE X e te)(f:autoParam (cP e (Y (.Name x Pj)) G.line X.env=eQ false) Ų)(g:autoParam (X.fn x=Z'\/X.env.scope.names.lookup x=Y .local) ŭ):
  PS X (.Assign [.Name x Pj] e G) (Ny te (qG i)):=by
 intro B s U H D I h;refine wpAny_Assign_Name (fS (k B s U H _ I h) ?_) f;rintro v r ⟨y,O,o,a,b⟩;exact yN o l L c a (λp m=>⟨_,O,m,b⟩) g
def WL(i:Nat)(te:TE)(a:Yo):TS:=λD U H=>∃x,U[i]?=Y (Y x)/\te U H λy O=>a x y O λz d=>D.nx (U.set i (Y z)) d
def QW{ti:Yo}(hN:X.N.Nodup)(L:X.N[i]?=Y x)(t:Loc X.env.scope x)(he:PE X e te)(P:PIp X p ti)(T:autoParam (X.fn x=Z'\/X.env.scope.names.lookup x=Y .local) ŭ):
  PS X (.AugAssign (.Name x Pj) p e G) (WL i te ti):=by
 intro B s U H D I h;obtain⟨v,e1,h⟩:=h;obtain⟨m,Q,S⟩:=I.loc;have o:SD X.env.scope x:=by rcases t with k|k;exact .inl k;exact .inr (.inl k)
 obtain⟨u,r,l⟩:=S i x v L e1 o;refine wpAny_AugAssign_Name ?_;have A:bB (br X.prog X.w) X.A (eval e X.env) (λw g=>bB (br X.prog X.w) X.A (inplaceOp p u w) (λr f=>bB (br X.prog X.w) X.A (storeName X.env x r) (λ_=>SP X B D .next) X.xe f) X.xe g) X.xe s:=by refine fS (he B s U H _ I h) ?_;rintro w C ⟨y,O,I1,F,j⟩;refine fS (P B C U O v y u w _ I1 r F j) ?_;rintro z s2 ⟨zv,d,I2,E,K⟩;exact yN I2 hN L t E (λs3 I3=>⟨_,d,I3,K⟩) T
 rcases l with⟨a,R⟩|⟨a,c,hc,b⟩
 ·exact wpAny_loadName_local I.ok.kind a Q R A
 ·rcases a with a|a
  ·exact wpAny_loadName_cell I.ok.kind a hc b A
  ·rcases t with k|k
   ·have:X.env.scope.names.lookup x=Y .free:=a;rw[k]at this;cases this
   ·have:X.env.scope.names.lookup x=Y .free:=a;rw[k]at this;cases this
end
section
variable {X:Cx}
def Qt(c:TT)(y:TS):TS:=λD U H=>∃W:Nat->St->Hp->Prop,(∃m,W m U H)/\∀m U H,W m U H ->
 c U H λb O=>if b=Z' then ∃N:St->Hp->Prop,(∀a H',N a H'->∃e,e<m/\W e a H')/\y { D with nx:=N,ct:=N,bk:=D.nx } U O else D.nx U O
def Lg(x:yg (br X.prog X.w) X.A X.env X.xe)(Q:PT X c tc)(R:qQ X g y):PS X (.While c g [] G) (Qt tc y):=by
 intro B s U H D I h;obtain⟨W,⟨P,F⟩,kG⟩:=h;refine wpAny_While (codeAny_whileLoop (λn s'=>∃k H',Inv X B k H' s'/\W n k H') ?_ P ⟨U,H,I,F⟩);rintro n i ⟨e,O,S,E⟩;refine eM x (fS (Q B i e O _ S (kG n e O E)) ?_);rintro b K ⟨d,C,o⟩;cases b with
 |true=>
  obtain⟨N,A,o⟩:=o;rw[if_pos rfl];refine eM x (fS (R B K e d _ C o) λf T m =>?_);cases f with
  |brk=>exact m|ret v=>exact m|_=>obtain⟨a,l,w,r⟩:=m;obtain⟨t,u,p⟩:=A a l r;exact⟨t,u,a,l,w,p⟩
 |false=>rw[if_neg bL];exact tN ⟨e,d,C,o⟩
end
structure It where
 go:Nat->Hp->Prop
 Kw:Nat->Hp->V->Hp->Prop
 stop:Nat->Hp->Prop
def Aa(X:Cx)(B:List (az×Obj))(H:Hp)(b:az):Prop:=
 H b=M/\b≠X.env.locals/\b∉X.fs/\(b∈X.ex\/X.s₀.heap.objs.size<=b)/\(∀x c,X.env.cells.lookup x=Y c->c≠b)/\∀p∈X.pn++B,p.1≠b
def Inv.yc{X:Cx}{s:aw}(I:Inv X B U H s)(a:s.heap.objs.size<=b)(g:H' b=M):Aa X B H' b:=by
 refine⟨g,mf (bx I.lt a),I.Rl a,.inr (bq I.sz a),λx c e z =>?_,λp f z =>?_⟩
 ·obtain⟨v,q⟩:=I.cell x c e;exact absurd (bx q.lt (by rw[z];exact a)) (ie _)
 ·exact absurd (bx (aU (I.pin p f).1) (by rw[z];exact a)) (ie _)
structure GX(P:bh)(w:cX)(K:aT)(tg:Expr)(J:It)(fp:List az)(it:az)(tn:Nat->de->Prop):Prop where
 mem:it∈fp
 obj:∀i h,tn i h->∀b∈fp,∃o,h.get? b=some o/\∀v,o.data ≠ .cell v
 keep:∀i h h',tn i h->(∀b∈fp,∀o,h.get? b=some o->h'.get? b=some o)->tn i h'
 item:∀(X:Cx),X.prog=P->X.w=w->X.K=K->X.calm=true->∀(i:Nat) (C7:List (az×Obj)) (s:aw) (σ:St) (H:Hp) (E:ai->aw->Prop),Inv X C7 σ H s->(∀b∈fp,Aa X C7 H b)->tn i s.heap->J.go i H ->
  bB (br P w) X.A (pyNext (.ref it)) (λr s1=>∃u,r=some u /\
   bB (br P w) X.A (Aq tg (.ref it) u) (λ_ s2=>∃x H',Inv X C7 σ H' s2/\RelV x u/\J.Kw i H x H'/\tn (i+1) s2.heap/\∀b∈fp,H' b=none) E s1) E s
 done:∀(X:Cx),X.prog=P->X.w=w->X.K=K->X.calm=true->∀(i:Nat) (C7:List (az×Obj)) (s:aw) (σ:St) (H:Hp) (E:ai->aw->Prop),Inv X C7 σ H s->(∀b∈fp,Aa X C7 H b)->tn i s.heap->J.stop i H ->
  bB (br P w) X.A (pyNext (.ref it)) (λr s1=>r=none/\Inv X C7 σ H s1) E s
 self:∀(A:ip) (i:Nat) (s:aw) (Q:ai->aw->Prop) (E:ai->aw->Prop),tn i s.heap->Q (.ref it) s->bB (br P w) A (pyIter (.ref it)) Q E s
abbrev TI:=St->Hp->(It->Hp->Prop)->Prop
def ZW(X:Cx)(B:List (az×Obj))(U:St)(tg:Expr)(R:It->Hp->Prop)(a:ai)(e:aw):Prop:=
 ∃(f:az) (g:List az) (c:Nat->de->Prop) (J:It) (H':Hp),a=.ref f/\Inv X B U H' e/\GX X.prog X.w X.K tg J g f c/\c 0 e.heap/\(∀b∈g,Aa X B H' b)/\R J H'
def PI(X:Cx)(tg a:Expr)(b:TI):Prop:=
 ∀(B:List (az×Obj)) (s:aw) (U:St) (H:Hp) (R:It->Hp->Prop),Inv X B U H s->b U H R ->
  bB (br X.prog X.w) X.A (eval a X.env) (λv c=>bB (br X.prog X.w) X.A (pyIter v) (ZW X B U tg R) X.xe c) X.xe s
def HG{d : Model}{s : aw}{n : String}(e : s.heap.get? c = Y o)(k : o.cls = .type n)(g : o.data = .fields b)(f : ["enumerate", "zip", "dict_itemiterator", "dict_reverseitemiterator", "odict_iterator", "itertools.zip_longest", "itertools.pairwise"].contains n = Z_)(a : Q () s): bB d A (Aq tg (.ref c) u) Q E s := by
  unfold Aq
  cases tg <;> first
    |exact bD a
    | (cases u <;> first
        |exact bD a
        | (refine aD (wpAny_load e ?_)
           rw [k,g]
           show bB d A (if (["enumerate", "zip", "dict_itemiterator", "dict_reverseitemiterator", "odict_iterator", "itertools.zip_longest", "itertools.pairwise"].contains n && b[0]? == Y (rawInt _)) = Z' then _ else _) Q E s
           rw [if_neg (by intro h; rw [f,Bool.false_and]at h; cases h)]
           exact bD a))
noncomputable def Tx(K:aT)(a:az):It:=
 ⟨λi H=>∃xs x,nX K H a xs/\xs[i]?=Y x,λi H x H'=>H'=H/\∀xs,nX K H a xs->xs[i]?=Y x,λi H=>∃xs,nX K H a xs/\xs.length<=i⟩
def Tw(K:aT)(a:az):It:=
 ⟨λi H=>∃xs x,AM K H a xs/\xs[i]?=Y x,λi H x H'=>H'=H/\∀xs,AM K H a xs->xs[i]?=Y x,λi H=>∃xs,AM K H a xs/\xs.length<=i⟩
noncomputable def VM(n:Int)(a:Nat):It:=⟨λi _=>i<a,λi H x H'=>H'=H/\x=.int (n+i),λi _=>a<=i⟩
def IK{P:bh}{K:aT}(a f:az):GX P w K tg (Tx K a) [f] f (λi h=>h.IsListIter f a i) where
 mem:=by simp
 obj:=λi h st b g=>by
  have e:b=f:=by simpa using g
  subst e;obtain⟨o,e,c,d⟩:=st;exact⟨o,e,λv z=>by rw[d]at z;cases z⟩
 keep:=λi h h' st k=>st.at λo e=>k f Ž o e
 item:=by
  intro X F hw j hc i B s U H E I r st D;subst F hw j;obtain⟨xs,x,m,C⟩:=D;obtain⟨A,t,p,hz⟩:=I.list m;obtain⟨u,hu,ru⟩:=t.get C;obtain⟨f0,T,f2,S,R,Q⟩:=r f Ž;refine wpAny_pyNext_list_item st p.isList (x:=u) (by simpa using hu) λh' l sb =>?_
  have I1:Inv X B U H { s with heap:=h' }:=I.turned (t':=s.toks) (λb o g e=>(sb.2 b g).trans e) f0 T S R Q;obtain⟨o,e,c,d⟩:=id l;exact⟨u,rfl,HG (s:={ s with heap:=h' }) e c d ſ ⟨x,H,I1,ru,⟨rfl,λys hy=>by rw[I.sX hy m];exact C⟩,l,λb g=>(r b g).1⟩⟩
 done:=by intro X F hw j hc i B s U H E I r st D;subst F hw j;obtain⟨xs,m,C⟩:=D;obtain⟨A,t,p,hz⟩:=I.list m;obtain⟨f0,T,f2,S,R,Q⟩:=r f Ž;have hl:=t.length;exact wpAny_pyNext_list_end (I.ok.hd hc) st p.isList (by simp;omega) λh' eb=>⟨rfl,I.turned (t':=s.toks) (λb o g e=>eb b o g e) f0 T S R Q⟩
 self:=λ_ _ _ _ _ st h=>wpAny_pyIter_listiter st h
def FC{P:bh}{K:aT}(a g:az):GX P w K tg (Tw K a) [g] g (λi h=>h.IsTupleIter g a i) where
 mem:=by simp
 obj:=λi h st b l=>by
  have e:b=g:=by simpa using l
  subst e;obtain⟨o,e,c,d⟩:=st;exact⟨o,e,λv z=>by rw[d]at z;cases z⟩
 keep:=λi h h' st k=>st.at λo e=>k g Ž o e
 item:=by
  intro X F hw j hc i B s U H E I t st D;subst F hw j;obtain⟨xs,x,r,C⟩:=D;obtain⟨f,A,p,hz⟩:=I.tuple r;obtain⟨u,hu,ru⟩:=A.get C;obtain⟨f0,T,f2,S,R,Q⟩:=t g Ž;refine wpAny_pyNext_tuple_item st (show s.heap.IsTuple a f.toArray from p) (x:=u) (by simpa using hu) λh' m sb =>?_
  have I1:Inv X B U H { s with heap:=h' }:=I.turned (t':=s.toks) (λb o l e=>(sb.2 b l).trans e) f0 T S R Q;obtain⟨o,e,c,d⟩:=id m;exact⟨u,rfl,HG (s:={ s with heap:=h' }) e c d ſ ⟨x,H,I1,ru,⟨rfl,λys hy=>by rw[I.IP hy r];exact C⟩,m,λb l=>(t b l).1⟩⟩
 done:=by intro X F hw j hc i B s U H E I t st D;subst F hw j;obtain⟨xs,r,C⟩:=D;obtain⟨f,A,p,hz⟩:=I.tuple r;obtain⟨f0,T,f2,S,R,Q⟩:=t g Ž;have hl:=A.length;exact wpAny_pyNext_tuple_end (I.ok.hd hc) st (show s.heap.IsTuple a f.toArray from p) (by simp;omega) λh' eb=>⟨rfl,I.turned (t':=s.toks) (λb o l e=>eb b o l e) f0 T S R Q⟩
 self:=λ_ _ _ _ _ st h=>wpAny_pyIter_tupleiter st h
def FD{P:bh}{K:aT}(c:az)(n:Int)(a:Nat):GX P w K tg (VM n a) [c] c (λi h=>IsRangeIter h c (n+(i:Nat)*1) ((a:Int)-(i:Nat)) 1) where
 mem:=by simp
 obj:=λi h st b f=>by
  have e:b=c:=by simpa using f
  subst e;exact⟨_,st,λv z=>by have d:Data.fields _=Data.cell v:=z;cases d⟩
 keep:=λi h h' st k=>k c Ž _ st
 item:=by
  intro X r hw u p i B s U H E I l st m;subst r hw u;obtain⟨F,D,S,C,A,x⟩:=l c Ž;have W:=Walks.range (prog:=X.prog) (w:=X.w) (I.ok.hd p) c n 1 a;refine W.item i s _ _ m st λv h' tk R g Q =>?_
  obtain⟨t,rfl⟩:=R;have I1:Inv X B U H { s with heap:=h',toks:=tk }:=I.turned (λb o f e=>Q b o (by simpa using f) e) F D C A x;refine⟨_,rfl,HG (s:={ s with heap:=h',toks:=tk }) (n:= "range_iterator") g rfl rfl ſ ⟨.int (n+i),H,I1,⟨t,?_⟩,⟨rfl,rfl⟩,g,λb f=>(l b f).1⟩⟩;rw[Int.mul_one]
 done:=by intro X r hw u p i B s U H E I l st m;subst r hw u;obtain⟨F,D,S,C,A,x⟩:=l c Ž;exact wpAny_pyNext_range_end (I.ok.hd p) st (by have:a<=i:=m;omega) λh' T=>⟨rfl,I.turned (t':=s.toks) (λb o f e=>T b o f e) F D C A x⟩
 self:=λ_ _ _ _ _ st h=>wpAny_pyIter_rangeiter st h
section
variable {X:Cx}
def U2(K:aT)(tl:TE):TI:=λU H R=>tl U H λx O=>∃a,x=.ref a/\(∃xs,nX K O a xs)/\R (Tx K a) O
def Xt(K:aT)(tl:TE):TI:=λU H R=>tl U H λx O=>∃a,x=.ref a/\(∃xs,AM K O a xs)/\R (Tw K a) O
def yq(t:PE X l tl):PI X tg l (U2 X.K tl):=by
 intro B s U H R I h;refine fS (t B s U H _ I h) ?_;rintro v c ⟨x,O,f,g,k⟩;obtain⟨a,e,⟨xs,r⟩,q⟩:=k;subst e;cases g;obtain⟨m,w,p,A⟩:=f.list r;refine jF p.isList ?_;refine⟨c.heap.objs.size,[c.heap.objs.size],_,_,O,rfl,f.kept (t':=c.toks) λb o e=>ak _ e,IK a _,⟨_,bz _ rfl,rfl,rfl⟩,λb u =>?_,q⟩;have e:b=c.heap.objs.size:=by simpa using u
 subst e;exact f.yc (aH _) (f.iw.fresh (aH _))
def y_(t:PE X l tl):PI X tg l (Xt X.K tl):=by
 intro B s U H R I h;refine fS (t B s U H _ I h) ?_;rintro v c ⟨x,O,f,k,m⟩;obtain⟨a,e,⟨xs,r⟩,q⟩:=m;subst e;cases k;obtain⟨g,w,p,A⟩:=f.tuple r;refine wpAny_pyIter_tuple (show c.heap.IsTuple a g.toArray from p) ?_;refine⟨c.heap.objs.size,[c.heap.objs.size],_,_,O,rfl,f.kept (t':=c.toks) λb o e=>ak _ e,FC a _,⟨_,bz _ rfl,rfl,rfl⟩,λb u =>?_,q⟩;have e:b=c.heap.objs.size:=by simpa using u
 subst e;exact f.yc (aH _) (f.iw.fresh (aH _))
def DQ{s:aw}{R:It->Hp->Prop}{v:Tok}(I:Inv X B U H s)(J : -(2 ^ 62)<=n)(z:n<2 ^ 62)(g : -(2 ^ 62)<=L)(f:L<2 ^ 62)(q:R (VM n (L-n).toNat) H):bB (br X.prog X.w) X.A (pyIter (.ref s.heap.objs.size)) (ZW X B U tg R) E { s with heap:=s.heap.push { cls :=.type "range",data :=.fields #[.int n t,.int L u,.int 1 v] },toks:=tk }:=by
 refine wpAny_pyIter_range (IsRange.new ..) (small_one J z g f) ?_;have a:Inv X B U H { s with heap:=s.heap.push { cls :=.type "range",data :=.fields #[.int n t,.int L u,.int 1 v] },toks:=tk }:=I.kept λb o e=>ak _ e
 refine⟨(s.heap.push { cls :=.type "range",data :=.fields #[.int n t,.int L u,.int 1 v] }).objs.size,[(s.heap.push { cls :=.type "range",data :=.fields #[.int n t,.int L u,.int 1 v] }).objs.size],_,_,H,rfl,
  a.kept (t':=tk) λb o e=>ak _ e,FD _ n (L-n).toNat,?_,λb c =>?_,q⟩
 ·have k:n+((0:Nat):Int)*1=n:=by simp
  have h:(((L-n).toNat:Nat):Int)-((0:Nat):Int)=Builtin.Range.rangeSize n L 1:=by rw[rangeSize_one];split<;>omega
  show IsRangeIter _ _ (n+((0:Nat):Int)*1) ((((L-n).toNat:Nat):Int)-((0:Nat):Int)) 1;rw[k,h];exact bz _ rfl
 ·have e:b=(s.heap.push { cls :=.type "range",data :=.fields #[.int n t,.int L u,.int 1 v] }).objs.size:=by simpa using c
  subst e;exact a.yc (aH _) (a.iw.fresh (aH _))
def U0(N:TA):TI:=λU H R=>N U H λa O=>∃j:Int,a=[.int j] /\ -(2 ^ 62)<=j/\j<2 ^ 62/\R (VM 0 j.toNat) O
def UZ(N:TA):TI:=λU H R=>N U H λa O=>∃i j:Int,a=[.int i,.int j]/\(-(2 ^ 62)<=i/\i<2 ^ 62 /\ -(2 ^ 62)<=j/\j<2 ^ 62)/\R (VM i (j-i).toNat) O
def Be(m:Gl X "range")(l:X.mg "range" = M)(o:PA X [a] N)(k:autoParam (av [a] X.env=[(Z_,eval a X.env)]) Ų):PI X tg (.Call (.Name "range" p) [a] [] G) (U0 N):=by
 intro B s U H R I h;refine Call_ (rj I m l boot_range (ia (fS (o G B s U H _ I h) ?_) k rfl));rintro w x ⟨v,O,u,f,b⟩;obtain⟨j,e,b,g,q⟩:=b;subst e;cases f with
 |cons r c=>cases c;obtain⟨t,rfl⟩:=r;exact call_range_1 (DQ u ž ž b g (by simpa using q))
def Jd(x:Gl X "range")(w:X.mg "range" = M)(A:PA X [a,b] N)(v:autoParam (av [a,b] X.env=[(Z_,eval a X.env),(Z_,eval b X.env)]) Ų)(c:autoParam (av [b] X.env=[(Z_,eval b X.env)]) Ų):
  PI X tg (.Call (.Name "range" p) [a,b] [] G) (UZ N):=by
 intro B s U H R I h;refine Call_ (rj I x w boot_range (ia (fS (A G B s U H _ I h) ?_) (by rw[v,c]) (by rw[c];rfl)));rintro E K ⟨D,O,C,k,g⟩;obtain⟨i,j,e,⟨g,u,o,m⟩,q⟩:=g;subst e;cases k with
 |cons r f=>
  cases f with
  |cons l f=>cases f;obtain⟨t,rfl⟩:=r;obtain⟨F,rfl⟩:=l;exact call_range_2 (DQ C g u o m q)
def WI(e:TI)(g:TG)(y:TS):TS:=λD U H=>e U H λJ O=>∃W:Nat->Nat->St->Hp->Prop,(∃m,W 0 m U O)/\∀i m U H,W i m U H ->
 (J.stop i H/\D.nx U H)\/(J.go i H/\∃N:St->Hp->Prop,(∀a H',N a H'->∃c,c<m/\W (i+1) c a H')/\∀x H',J.Kw i H x H'->g x U H' λb d=>y { D with nx:=N,ct:=N,bk:=D.nx } b d)
noncomputable def uM(a:List az)(h:de):List (az×Obj):=a.filterMap λb=>(h.get? b).map λo=>(b,o)
def k7(c:b∈a)(e:h.get? b=Y o):(b,o)∈uM a h:=List.mem_filterMap.mpr ⟨b,c,by rw[e];rfl⟩
def Bf(c:p∈uM a h):p.1∈a/\h.get? p.1=Y p.2:=by
 obtain⟨b,f,e⟩:=List.mem_filterMap.mp c;rcases q:h.get? b with _|o
 ·rw[q]at e;cases e
 rw[q]at e;have g:(b,o)=p:=bU e;subst g;exact⟨f,q⟩
def Inv.pinned{s:aw}(I:Inv X B U H s)(k:∀b∈a,Aa X B H b)(h:∀b∈a,∃o,s.heap.get? b=Y o/\∀v,o.data ≠ .cell v):Inv X (B++uM a s.heap) U H s:=
 I.yp λp g=>(aV.mp g).elim (λz=>I.pin p (aG _ z)) λz=>by obtain⟨c,e⟩:=Bf z;obtain⟨r,m,l,_⟩:=k p.1 c;obtain⟨o,f,d⟩:=h p.1 c;rw[e]at f;cases f;exact⟨e,r,m,l,d⟩
def Inv.oQ{s:aw}(I:Inv X (B++a) U H s):Inv X B U H s:=I.yp λp b=>I.pin p (aG _ (bb _ b))
def wH{j:List rN}(hp:yg (br X.prog X.w) X.A X.env X.xe)(hc:X.calm=Z')(L:PI X tg w wi)(hg:PG X tg g)(A:qQ X j y)(hs:autoParam (∀x,cK w X.env x=eQ x) ů):PS X (.For tg w j [] G) (WI wi g y):=by
 intro B s U H D I h;refine wpAny_For (fS (L B s U H _ I h) λv s1 J=>fS J λY3 s2 z =>?_) hs;obtain⟨it,fp,tn,a,d,e,I2,T,QF,f2,W,⟨m0,w0⟩,kG⟩:=z;subst e;have t:∀ {H':Hp},(∀b∈fp,H' b=M)->∀b∈fp,Aa X B H' b:=λhn b A=>⟨hn b A,(f2 b A).2⟩
 refine codeAny_forLoop_any (λn s'=>∃i p H',Inv X B p H' s'/\tn i s'.heap/\(∀b∈fp,H' b=M)/\W i n p H') ?_ m0 ⟨0,U,d,I2,QF,λb A=>(f2 b A).1,w0⟩;rintro n s3 ⟨i,l,H3,I3,R,Vg,w3⟩;rcases kG i n l H3 w3 with⟨stop,qn⟩|⟨go,N,hN,Q⟩
 ·refine eM hp (fS (T.done X rfl rfl rfl hc i B s3 l H3 X.xe I3 (t Vg) R stop) ?_);rintro r s4 ⟨hr,I4⟩;subst hr;exact tN ⟨l,H3,I4,qn⟩
 ·refine eM hp (fS (T.item X rfl rfl rfl hc i B s3 l H3 X.xe I3 (t Vg) R go) ?_);rintro r s4 ⟨u,hr,h4⟩;subst hr;refine eM hp (fS h4 ?_);rintro _ s5 ⟨x,H5,I5,r5,y5,P,Tp⟩;have Yv:=I5.pinned (t Tp) (T.obj _ _ P);refine eM hp (fS (hg _ s5 l H5 x u _ Yv r5 (Q x H5 y5)) ?_);rintro _ s6 ⟨σ6,H6,I6,q6⟩;refine eM hp (fS (A _ s6 σ6 H6 _ I6 q6) λf s7 K =>?_);have C:∀ {k:St}{F:Hp},Inv X (B++uM fp s5.heap) k F s7->N k F->∃m,m<n/\∃i p H',Inv X B p H' s7/\tn i s7.heap/\(∀b∈fp,H' b=M)/\W i m p H':=fun {k F} E S=>by obtain⟨m',hm,w7⟩:=hN k F S;refine⟨m',hm,i+1,k,F,E.oQ,T.keep _ _ _ P λb A o e=>(E.pin (b,o) (aG _ (aG _ (k7 A e)))).1,λb A =>?_,w7⟩;obtain⟨o,e,c⟩:=T.obj _ _ P b A;exact(E.pin (b,o) (aG _ (aG _ (k7 A e)))).2.1
  cases f with
  |brk=>obtain⟨k,F,E,K⟩:=K;exact⟨k,F,E.oQ,K⟩
  |ret v=>obtain⟨x7,k,F,E,r7,K⟩:=K;exact⟨x7,k,F,E.oQ,r7,K⟩
  |_=>obtain⟨k,F,E,S⟩:=K;exact C E S
end
def Ez{K:aT}{g:TG}{y:TS}{D:Ends}(c:Nat->St->Hp->Prop)(u:c 0 U H)(s:∀i U H,i<=xs.length->c i U H->nX K H a xs)(r:∀i x U H,xs[i]?=Y x->c i U H->g x U H λf d=>y { D with nx:=c (i+1),ct:=c (i+1),bk:=D.nx } f d)(t:∀U H,c xs.length U H->D.nx U H):
  ∃W:Nat->Nat->St->Hp->Prop,(∃m,W 0 m U H)/\∀i m U H,W i m U H ->
   ((Tx K a).stop i H/\D.nx U H)\/((Tx K a).go i H/\∃N:St->Hp->Prop,(∀h H',N h H'->∃l,l<m/\W (i+1) l h H')/\∀x H',(Tx K a).Kw i H x H'->g x U H' λf d=>y { D with nx:=N,ct:=N,bk:=D.nx } f d):=by
 refine⟨λi m U H=>m=xs.length-i/\i<=xs.length/\c i U H,⟨xs.length,Ž,cD _,u⟩,?_⟩;rintro i m U H ⟨rfl,L,p⟩;have q:=s i U H L p;by_cases k:i<xs.length
 ·refine .inr ⟨⟨xs,xs[i],q,by simp[k]⟩,c (i+1),λh H' o=>⟨xs.length-(i+1),ž,rfl,k,o⟩,λx H' b =>?_⟩;obtain⟨e,b⟩:=b;subst e;exact r i x U _ (b xs q) p
 ·have e:i=xs.length:=by omega
  subst e;exact .inl ⟨⟨xs,q,aH _⟩,t U H p⟩
def CC{K:aT}{g:TG}{y:TS}{D:Ends}(c:Nat->St->Hp->Prop)(u:c 0 U H)(s:∀i U H,i<=xs.length->c i U H->AM K H a xs)(r:∀i x U H,xs[i]?=Y x->c i U H->g x U H λf d=>y { D with nx:=c (i+1),ct:=c (i+1),bk:=D.nx } f d)(t:∀U H,c xs.length U H->D.nx U H):
  ∃W:Nat->Nat->St->Hp->Prop,(∃m,W 0 m U H)/\∀i m U H,W i m U H ->
   ((Tw K a).stop i H/\D.nx U H)\/((Tw K a).go i H/\∃N:St->Hp->Prop,(∀h H',N h H'->∃l,l<m/\W (i+1) l h H')/\∀x H',(Tw K a).Kw i H x H'->g x U H' λf d=>y { D with nx:=N,ct:=N,bk:=D.nx } f d):=by
 refine⟨λi m U H=>m=xs.length-i/\i<=xs.length/\c i U H,⟨xs.length,Ž,cD _,u⟩,?_⟩;rintro i m U H ⟨rfl,L,p⟩;have q:=s i U H L p;by_cases k:i<xs.length
 ·refine .inr ⟨⟨xs,xs[i],q,by simp[k]⟩,c (i+1),λh H' o=>⟨xs.length-(i+1),ž,rfl,k,o⟩,λx H' b =>?_⟩;obtain⟨e,b⟩:=b;subst e;exact r i x U _ (b xs q) p
 ·have e:i=xs.length:=by omega
  subst e;exact .inl ⟨⟨xs,q,aH _⟩,t U H p⟩
abbrev R2:=V->V->Hp->VK->Prop
def pG(X:Cx)(f:ai->ai->Sem ai)(r:R2):Prop:=
 ∀(B:List (az×Obj)) (s:aw) (U:St) (H:Hp) (x y:V) (v u:ai) (Q:VK),Inv X B U H s->RelV x v->RelV y u->r x y H Q ->
  bB (br X.prog X.w) X.A (f v u) (EP X B U Q) X.xe s
def Wm(X:Cx)(f:ai->Sem ai)(r:V->Hp->VK->Prop):Prop:=
 ∀(B:List (az×Obj)) (s:aw) (U:St) (H:Hp) (x:V) (v:ai) (Q:VK),Inv X B U H s->RelV x v->r x H Q ->
  bB (br X.prog X.w) X.A (f v) (EP X B U Q) X.xe s
def mu(X:Cx)(f:ai)(r:List V->Hp->VK->Prop):Prop:=
 ∀(B:List (az×Obj)) (s:aw) (U:St) (H:Hp) (xs:List V) (a:List ai) (Q:VK),Inv X B U H s->cv xs a->r xs H Q ->
  bB (br X.prog X.w) X.A (call f a) (EP X B U Q) X.xe s
def Yn(X:Cx)(r:V->Hp->(Bool->Hp->Prop)->Prop):Prop:=
 ∀(B:List (az×Obj)) (s:aw) (U:St) (H:Hp) (x:V) (v:ai) (Q:Bool->Hp->Prop),Inv X B U H s->RelV x v->r x H Q ->
  bB (br X.prog X.w) X.A (truthy v) (TP X B U Q) X.xe s
def Tc(r:R2)(N y:TE):TE:=λU H Q=>N U H λx O=>y U O λa d=>r x a d Q
def tUn(r:V->Hp->VK->Prop)(N:TE):TE:=λU H Q=>N U H λx O=>r x O Q
def rI(C:Int->Int->Prop)(g:Int->Int->V):R2:=λx y H Q=>∃i j,x=.int i/\y=.int j/\C i j/\Q (g i j) H
def NT(g:Int->Int->V):R2:=λx y H Q=>∃i j,x=.int i/\y=.int j/\Q (g i j) H
def rU(g:Int->V):V->Hp->VK->Prop:=λx H Q=>∃i,x=.int i/\Q (g i) H
section
variable {X:Cx}
def Sz(A:PE X a N)(w:PE X b y){s:aw}{R:V->V->Hp->Prop}(I:Inv X B U H s)(h:N U H λx O=>y U O λc d=>R x c d){f:ai->ai->Sem ai}(t:∀v u k x c d,Inv X B U d k->RelV x v->RelV c u->R x c d->bB (br X.prog X.w) X.A (f v u) Q X.xe k):
  bB (br X.prog X.w) X.A (eval a X.env) (λv g=>bB (br X.prog X.w) X.A (eval b X.env) (λu e=>bB (br X.prog X.w) X.A (f v u) Q X.xe e) X.xe g) X.xe s:=by
 refine fS (A B s U H _ I h) ?_;rintro v l ⟨x,O,D,o,r⟩;refine fS (w B l U O _ D r) ?_;rintro u k ⟨c,d,C,m,p⟩;exact t v u k x c d C o m p
def DV(l:pG X (dB e) r)(o:PE X a N)(m:PE X b y):PE X (.BinOp a e b G) (Tc r N y):=by
 intro B s U H Q I h;exact wpAny_BinOp (Sz o m I h λv u f x c d p k g q=>l B f U d x c v u Q p k g q)
def Ht{b:UnaryOp}(g:Wm X (unaryOp b) r)(k:PE X a N):PE X (.UnaryOp b a G) (tUn r N):=by
 intro B s U H Q I h;exact UnaryOp_ (fS (k B s U H _ I h) (by rintro v c ⟨x,O,l,e,f⟩;exact g B c U O x v Q l e f))
def UG{f:ai->ai->Sem ai}{g:Int->Int->Int}(a:∀(i j:Int) (t u:Tok) (s:aw) (Q:ai->aw->Prop) (E:ai->aw->Prop),C i j->Q (.int (g i j) s.toks) { s with toks:=s.toks+1 }->bB (br X.prog X.w) X.A (f (.int i t) (.int j u)) Q E s):
  pG X f (rI C λi j =>.int (g i j)):=by
 intro B s U H x y v u Q I e c h;obtain⟨i,j,rfl,rfl,k,q⟩:=h;obtain⟨t,rfl⟩:=e;obtain⟨b,rfl⟩:=c;exact a i j t b s _ _ k ⟨.int (g i j),H,I.tok _,⟨_,rfl⟩,q⟩
def Of{f:ai->ai->Sem ai}{g:Int->Int->Int}(a:∀(i j:Int) (t u:Tok) (s:aw) (Q:ai->aw->Prop) (E:ai->aw->Prop),Q (.int (g i j) s.toks) { s with toks:=s.toks+1 }->bB (br X.prog X.w) X.A (f (.int i t) (.int j u)) Q E s):
  pG X f (NT λi j =>.int (g i j)):=by
 intro B s U H x y v u Q I e c h;obtain⟨i,j,rfl,rfl,q⟩:=h;obtain⟨t,rfl⟩:=e;obtain⟨b,rfl⟩:=c;exact a i j t b s _ _ ⟨.int (g i j),H,I.tok _,⟨_,rfl⟩,q⟩
def UH{f:ai->ai->Sem ai}{g:Int->Int->Bool}(a:∀(i j:Int) (t u:Tok) (s:aw) (Q:ai->aw->Prop) (E:ai->aw->Prop),Q (.bool (g i j)) s->bB (br X.prog X.w) X.A (f (.int i t) (.int j u)) Q E s):
  pG X f (NT λi j =>.bl (g i j)):=by
 intro B s U H x y v u Q I e c h;obtain⟨i,j,rfl,rfl,q⟩:=h;obtain⟨t,rfl⟩:=e;obtain⟨b,rfl⟩:=c;exact a i j t b s _ _ ⟨.bl (g i j),H,I,rfl,q⟩
def Yy(i j:Int):Prop:=0<=j/\j<=1000000/\i.natAbs<2 ^ 64
def M6(i j:Int):Prop:=(-(2 ^ 64)<i/\i<2 ^ 64)\/(-(2 ^ 64)<j/\j<2 ^ 64)
def M6.ok{i:Int}(h:M6 i j):IntMulOk i j:=by
 rcases h with⟨J,z⟩|⟨J,z⟩
 ·exact .of_left (intBits_le_64 J z)
 ·exact .of_right (intBits_le_64 J z)
def Fz(k:Nat):(0:Int)<=2 ^ k:=by
 rw[two_pow_cast];exact sx _
def Rb:pG X (dB .Add) (NT λi j =>.int (i+j)):=Of λ_ _ _ _ _ _ _ q=>add_int q
def F9:pG X (dB .Sub) (NT λi j =>.int (i-j)):=Of λ_ _ _ _ _ _ _ q=>sub_int q
def Q9:pG X (dB .Mult) (rI M6 λi j =>.int (i*j)):=UG λ_ _ _ _ _ _ _ a q=>mul_int q a.ok
def Q_:pG X (dB .Mod) (rI (λ_ j=>0<j) λi j =>.int (i%j)):=UG λi j _ _ _ _ _ a q=>by
 have J:(0:Int)<j:=a;exact mod_int' ž (by rw[Int.fmod_eq_emod_of_nonneg i (by omega)];exact q)
def Q7:pG X (dB .LShift) (rI Yy λi j =>.int (i*2 ^ j.toNat)):=UG λ_ _ _ _ _ _ _ a q=>lshift_int_small a.1 a.2.1 a.2.2 q
def Q6:pG X (dB .RShift) (rI (λ_ j=>0<=j) λi j =>.int (i/2 ^ j.toNat)):=UG λi j _ _ _ _ _ a q=>
 rshift_int a (by rw[Kh i (Fz _)];exact q)
def Ra:pG X (dB .BitAnd) (NT λi j =>.int (vj i j)):=Of λ_ _ _ _ _ _ _ q=>and_int q
def UB:pG X (dB .BitOr) (NT λi j =>.int (dF i j)):=Of λ_ _ _ _ _ _ _ q=>or_int q
def YK{f:ai->Sem ai}{g:Int->Int}(a:∀(i:Int) (t:Tok) (s:aw) (Q:ai->aw->Prop) (E:ai->aw->Prop),Q (.int (g i) s.toks) { s with toks:=s.toks+1 }->bB (br X.prog X.w) X.A (f (.int i t)) Q E s):
  Wm X f (rU λi =>.int (g i)):=by
 intro B s U H x v Q I b h;obtain⟨i,rfl,q⟩:=h;obtain⟨t,rfl⟩:=b;exact a i t s _ _ ⟨.int (g i),H,I.tok _,⟨_,rfl⟩,q⟩
def Fy:Wm X (unaryOp .USub) (rU λi =>.int (-i)):=YK λ_ _ _ _ _ q=>neg_int q
def Qn:Wm X (unaryOp .Invert) (rU λi =>.int (vi i)):=YK λ_ _ _ _ _ q=>invert_int q
end
noncomputable def WR:V->V->Bool
 |.eN,.eN=>Z'|.eN,.int _=>Z'|.int _,.eN=>Z'|.eN,.bl _=>Z'|.bl _,.eN=>Z'|.eN,.str _=>Z'|.str _,.eN=>Z'|.int _,.int _=>Z'|.bl _,.bl _=>Z'|.str _,.str _=>Z'|.GL _,.GL _=>Z'|.int _,.str _=>Z'|.str _,.int _=>Z'|.bl _,.str _=>Z'|.str _,.bl _=>Z'|_,_=>Z_
def rEq:R2:=λx y H Q=>WR x y=Z'/\Q (.bl (decide (x=y))) H
def OW:decide (V.int i=V.int j)=(i==j):=by
 rw[wA];simp
def Sd:decide (V.bl i=V.bl j)=(i==j):=by
 rw[wA];simp
def OV:decide (V.str i=V.str j)=(i==j):=by
 rw[wA];simp
def OX:decide (V.GL i=V.GL j)=(i.toList==j.toList):=by
 rw[wA];cases i;cases j;simp
section
variable {X:Cx}
def lg{s:aw}{a:Bool}(I:Inv X B U H s)(q:Q (.bl k) H)(e:k=a):EP X B U Q (.bool a) s:=by
 subst e;exact⟨.bl k,H,I,rfl,q⟩
def PY:pG X (iT .Eq) rEq:=by
 intro B s U H x y v u Q I e a h;obtain⟨c,q⟩:=h;cases x with
 |eN=>
  cases e;cases y with
  |eN=>cases a;exact PySem.EqNone.eq_none_none (lg I q Ž)
  |bl j=>cases a;exact PySem.EqNone.eq_none_bool (lg I q Ž)
  |int j=>obtain⟨b,rfl⟩:=a;exact PySem.EqNone.eq_none_int (lg I q Ž)
  |str j=>obtain⟨b,rfl⟩:=a;exact PySem.EqNone.eq_none_str (lg I q Ž)
  |_=>exact absurd (show Z_=Z' from c) bL
 |bl i=>
  cases e;cases y with
  |eN=>cases a;exact PySem.EqNone.eq_bool_none (lg I q Ž)
  |bl j=>cases a;exact eq_bool (lg I q Sd)|str j=>obtain⟨b,rfl⟩:=a;exact PySem.EqMixed.eq_bool_str (lg I q Ž)
  |_=>exact absurd (show Z_=Z' from c) bL
 |int i=>
  obtain⟨t,rfl⟩:=e;cases y with
  |eN=>cases a;exact PySem.EqNone.eq_int_none (lg I q Ž)
  |int j=>obtain⟨b,rfl⟩:=a;exact eq_int (lg I q OW)
  |str j=>obtain⟨b,rfl⟩:=a;exact PySem.EqMixed.eq_int_str (lg I q Ž)
  |_=>exact absurd (show Z_=Z' from c) bL
 |str i=>
  obtain⟨t,rfl⟩:=e;cases y with
  |eN=>cases a;exact PySem.EqNone.eq_str_none (lg I q Ž)
  |bl j=>cases a;exact PySem.EqMixed.eq_str_bool (lg I q Ž)
  |int j=>obtain⟨b,rfl⟩:=a;exact PySem.EqMixed.eq_str_int (lg I q Ž)
  |str j=>obtain⟨b,rfl⟩:=a;exact eq_str (lg I q OV)
  |_=>exact absurd (show Z_=Z' from c) bL
 |GL i=>
  obtain⟨t,rfl⟩:=e;cases y with
  |GL j=>obtain⟨b,rfl⟩:=a;exact PySem.W.eq_bytes (lg I q OX)
  |_=>exact absurd (show Z_=Z' from c) bL
 |_=>cases y<;>exact absurd (show Z_=Z' from c) bL
def UD:pG X (iT .Lt) (NT λi j =>.bl (decide (i<j))):=UH λ_ _ _ _ _ _ _ q=>lt_int q
def PX:pG X (iT .Gt) (NT λi j =>.bl (decide (j<i))):=UH λ_ _ _ _ _ _ _ q=>gt_int q
def pG.or{f:ai->ai->Sem ai}{r c:R2}(h:pG X f r)(h':pG X f c):pG X f (λx y H Q=>r x y H Q\/c x y H Q):=by
 intro B s U H x y v u Q I b a q;rcases q with q|q
 ·exact h B s U H x y v u Q I b a q
 ·exact h' B s U H x y v u Q I b a q
def ki(b:Expr)(h:autoParam (op ≠ .In) Ű)(z:autoParam (op ≠ .NotIn) Ű):iO op b=false:=by
 have c:(op==CmpOp.In)=false:=by cases op<;>first|rfl|exact absurd rfl h
 have a:(op==CmpOp.NotIn)=false:=by cases op<;>first|rfl|exact absurd rfl z
 cases b<;>simp[iO,c,a]
def N_(l:pG X (iT e) r)(p:PE X a N)(o:PE X b y)(m:iO e b=Z_):PE X (.Compare a [e] [b] G) (Tc r N y):=by
 intro B s U H Q I h;exact wpAny_Compare1 (Sz p o I h λv u f x c d t k g q=>l B f U d x c v u Q t k g q) m
def TM(t:TE):TT:=λU H Q=>t U H λx H'=>∃k,x=.bl k/\Q k H'
def yo(D:pG X (iT g) r)(K:PE X a N)(F:PE X b y)(E:iO g b=Z_):PT X (.Compare a [g] [b] G) (TM (Tc r N y)):=by
 intro B s U H Q I h;refine wpAny_isTrue_Compare1 (fS (K B s U H _ I h) λv m ⟨x,O,R,t,C⟩=>fS (F B m U O _ R C) λu l ⟨f,d,P,p,A⟩=>fS (D B l U d x f v u _ P t p A) λc T ⟨z,S,i,o,k,e,w⟩ =>?_) E
 subst e;cases o;exact jE ⟨S,i,w⟩
def VC(K:aT)(x:V)(H:Hp)(k:Bool):Prop:=
 match x with
 |.eN=>k=Z_|.bl b=>k=b|.int i=>k=(i != 0)|.str y=>y.length<=bc/\k=((y.length:Int) != 0)|.GL y=>y.size<=bc/\k=((y.size:Int) != 0)|.ref p=>(∃xs,nX K H p xs/\k = !xs.isEmpty)\/(∃xs,AM K H p xs/\k = !xs.isEmpty)\/∃a,H p=Y (.dK a)/\k = !a.isEmpty|_=>False
def Gq{b:Type}{a:List (b×V)}{c:List (b×ai)}(r:KV a c):(!c.isEmpty) = !a.isEmpty:=by
 cases r<;>rfl
def zu{xs:List V}{a:List ai}(r:cv xs a):(!a.toArray.isEmpty) = !xs.isEmpty:=by
 cases r<;>simp
def uS:(bc:Nat)<2 ^ 63:=by rw[fH];decide
def Qq:Yn X (λx H Q=>∃k,VC X.K x H k/\Q k H):=by
 intro B s U H x v Q I rx h;obtain⟨k,e,q⟩:=h;have hl:=uS;have hs:bc=16777216:=fH;cases x with
 |eN=>cases rx;have e':k=false:=e;subst e';exact truthy_none ⟨H,I,q⟩
 |bl b=>cases rx;have e':k=b:=e;subst e';exact jE ⟨H,I,q⟩
 |int i=>obtain⟨t,rfl⟩:=rx;have e':k=(i != 0):=e;subst e';exact PySem.P.truthy_int ⟨H,I,q⟩
 |str y=>obtain⟨t,rfl⟩:=rx;obtain⟨hy,e'⟩:y.length<=bc/\k=((y.length:Int) != 0):=e;subst e';exact PySem.P.truthy_str ž ⟨H,I.tok _,q⟩
 |GL y=>obtain⟨t,rfl⟩:=rx;obtain⟨hy,e'⟩:y.size<=bc/\k=((y.size:Int) != 0):=e;subst e';exact PySem.W.truthy_bytes ž ⟨H,I.tok _,q⟩
 |ref p=>
  cases rx;have e':(∃xs,nX X.K H p xs/\k = !xs.isEmpty)\/(∃xs,AM X.K H p xs/\k = !xs.isEmpty)\/∃f_,H p=Y (.dK f_)/\k = !f_.isEmpty:=e;rcases e' with⟨xs,hx,e'⟩|⟨xs,hx,e'⟩|⟨f_,hx,e'⟩
  ·subst e';obtain⟨Fl,r,pl,hz⟩:=I.list hx;have GW:=r.length;exact wpAny_truthy_list pl.isList (by simp only[aW];omega) ⟨H,I.tok _,by rw[zu r];exact q⟩
  ·subst e';obtain⟨Fl,r,pl,hz⟩:=I.tuple hx;have GW:=r.length;exact truthy_tuple pl (by simp only[aW];omega) ⟨H,I.tok _,by rw[zu r];exact q⟩
  ·subst e';obtain⟨hz,hS,vs,r,m⟩:f_.length<=bc/\(p==lj)=Z_/\∃vs,KV f_ vs/\s.heap.DictOf (iB X.prog X.w) p vs:=I.iw p _ hx;have GW:f_.length=vs.length:=Paired.length r;exact wpAny_truthy_dict hS m ž ⟨H,I.tok _,by rw[Gq r];exact q⟩
 |_=>exact(show False from e).elim
def Lf(l:PE X a N)(g:∀b,isTrue a X.env b=(do let v <- b;r_ a.pos;oO [v] (truthy v))):
  PT X a (λU H Q=>N U H λx H'=>∃k,VC X.K x H' k/\Q k H'):=by
 intro B s U H Q I h;exact isTrue_plain (fS (l B s U H _ I h) (by rintro v c ⟨x,O,m,e,f⟩;exact Qq B c U O x v Q m e f)) (g _)
def F_:pG X (dB .Add) (λx y H Q=>∃i j,x=.str i/\y=.str j/\i.length+j.length<=bc/\Q (.str (i++j)) H):=by
 intro B s U H x y v u Q I c b h;obtain⟨i,j,rfl,rfl,e,q⟩:=h;obtain⟨t,rfl⟩:=c;obtain⟨a,rfl⟩:=b;exact add_str (λa tk=>⟨.str (i++j),H,I.tok _,⟨_,rfl⟩,q⟩) e
def vals1{x:V}{a:List ai}(r:cv [x] a):∃u,a=[u]/\RelV x u:=by
 cases r with|cons c b=>cases b;exact⟨_,rfl,c⟩
end
structure GS(h:de)(x dx C:az)(mA:aM->Option ai):Prop where
 obj:h.get? x=some (Fp C dx)
 ns:h.Ns1 dx mA
 ne:dx≠x
def Js{h:de}{dx:az}{mA:aM->Option ai}(n:h.Ns1 dx mA):∃c,h.get? dx=Y c/\∀name,lookIn name c=Y (mA name):=by
 obtain⟨o,es,r,g,m,l,_,k⟩:=n;refine⟨o,g,λname =>?_⟩;have e:=k name;unfold nsFind findBy at e;rw[<- Array.find?_toList]at e;unfold lookIn;rw[m];dsimp only;split
 ·rename_i y q;rw[q]at e;exact congrArg Y e
 ·rename_i q;rw[q]at e;have a:es.toList.any (·.refKey)=false:=by rw[List.any_eq_false];intro y f;obtain⟨z,t,b⟩:=l y (Array.mem_toList_iff.mp f);simp[DictEntry.refKey,b]
  have p:¬es.toList.any (·.refKey)=true:=by rw[a];exact bL
  rw[if_neg p];exact congrArg Y e
def GS.look(I:GS h x dx C mA):∃a,PySem.W.InstAt h x (Fp C dx) C (Y a)/\∀name,lookIn name a=Y (mA name):=
 let ⟨a,b,c⟩:=Js I.ns
 ⟨a,⟨I.obj,rfl,rfl,b⟩,c⟩
section
variable {s:aw}{K:aT}{f:az}{name:aM}{v:ai}
def Pm(X:K.In s.heap)(I:GS s.heap x dx C mA)(g:plainGet K C name=Z')(f:hasDictIn K C=Z')(k:uo K (.ref C) name=Y M)(c:mA name=Y v)(b:PySem.W.handedIn v=Z')(h:Q v { s with toks:=s.toks+1 }):
  bB (br prog w) A (getAttr (.ref x) name a) Q E s:=by
 obtain⟨l,J,e⟩:=I.look;exact PySem.W.get_value X J (PySem.W.plainGet_of g).1 (PySem.W.findObj_own f k rfl (by rw[e,c])) b h
def Mi(X:K.In s.heap)(I:GS s.heap x dx C mA)(a:plainGet K C name=Z')(l:uo K (.ref C) name=Y (Y (.ref f)))(g:PySem.W.isFn K (.ref f)=Z')(e:mA name=M)(h:Q (.ref f,[.ref x]) s):
  bB (br prog w) A (nA (.ref x) name b) Q E s:=by
 obtain⟨c,J,k⟩:=I.look;exact PySem.W.method_fn X J (PySem.W.plainGet_of a).1 (PySem.W.plainGet_of a).2 l (beq_iff_eq.mp g) (by show (lookIn name c).map (·.isSome)=Y Z_;rw[k,e];rfl) h
def NJ(X:K.In s.heap)(I:GS s.heap x dx C mA)(r:uo K (.ref C) "__setattr__" = Y (Y (.builtin "object.__setattr__")))(t:plainOver K C=Z')(o:takerIn K C name=Y M)(u:hasDictIn K C=Z')(hw:PySem.Within mA l)(p:l.length<=bc)(h:∀h',GS h' x dx C (λy=>if y=name then Y v else mA y)->ll dx s.heap h'->Q () { s with heap:=h',toks:=s.toks+2 }):
  bB (br prog w) A (setAttr (.ref x) name v) Q E s:=by
 obtain⟨d,J,R⟩:=I.look;refine PySem.W.set_plain X J r (PySem.W.osa_open (s:={ s with toks:=s.toks+1 }) (r:=M) X J t o λb =>?_);obtain⟨S,D,g⟩:=PySem.W.any_some u;have m:s.heap.get? x=Y ⟨.ref C,Y dx,.plain,#[]⟩:=I.obj;refine aD (bD (aD (aD (wpAny_loadPart m (aD (PySem.W.Looks.here (s:={ s with toks:=s.toks+1 }) (PySem.W.looks_clsIn X D) ?_))))));rw[g];refine bD (a:=Y dx) (aD (bD (aD ?_)));refine wpAny_nsSet1 (s:={ s with toks:=s.toks+1 }) I.ns λh' c a =>?_
 obtain⟨P,F,H,e,f,k⟩:=c.count (PySem.Within.cons name v hw);refine aD (wpAny_lookBehind e (by rw[f];exact pastItsLine_dict (bq k (by rw[aP];omega))) ?_);exact bD (h _ ⟨(a.2 _ (cg I.ne)).trans I.obj,c,I.ne⟩ a)
def LU{R:Result->aw->Prop}(X:K.In s.heap)(c:makesIn K C=Z')(L:uo K (.ref C) "__init__" = Y (Y (.ref f)))(e:PySem.W.typeIn K (.ref f)=Y (.type "function")) (h:Ag (br prog w) (A.under (.builtin "type.__call__" ⟨.ref C::a,b⟩)) (.call (.ref f) ⟨.ref (s.heap.objs.size+1)::a,b⟩) (PySem.W.InitBack (s.heap.objs.size+1) R)
   { s with heap:=(s.heap.push so).push (Fp C s.heap.objs.size) }) :
  Ag (br prog w) A (.call (.ref C) ⟨a,b⟩) R s:=by
 obtain⟨l,g,d,t,k⟩:=s;exact PySem.W.make_core (PySem.W.makes_of X c) (PySem.W.looks_findIn X L) (λself=>PySem.W.bind_fn X self e) (.inl rfl) h
end
noncomputable def lU(f:aM)(v:V):List (aM×V)->List (aM×V)
 |[]=>[(f,v)]|(g,x)::r=>if g=f then (g,v)::r else (g,x)::lU f v r
theorem sW(f g:aM)(v:V):∀j:List (aM×V),(lU f v j).lookup g=if g=f then Y v else j.lookup g
 | []=>by
  show nC g [(f,v)]=_;by_cases h:g=f
  ·have a:(g==f)=true:=beq_iff_eq.mpr h;simp only[nC,a,if_pos h]
  ·have a:(g==f)=false:=beq_eq_false_iff_ne.mpr h;simp only[nC,a,if_neg h]
 | (k,x)::r=>by
  have ih:=sW f g v r;rw[show lU f v ((k,x)::r)=(if k=f then (k,v)::r else (k,x)::lU f v r) from rfl];by_cases b:k=f
  ·rw[if_pos b];by_cases h:g=k
   ·have a:(g==k)=true:=beq_iff_eq.mpr h;simp only[nC,a,if_pos (h.trans b)]
   ·have a:(g==k)=false:=beq_eq_false_iff_ne.mpr h;simp only[nC,a,if_neg (λe:g=f=>h (e.trans b.symm))]
  ·rw[if_neg b];by_cases h:g=k
   ·have a:(g==k)=true:=beq_iff_eq.mpr h;simp only[nC,a,if_neg (λe:g=f=>b (h.symm.trans e))]
   ·have a:(g==k)=false:=beq_eq_false_iff_ne.mpr h;simp only[nC,a];exact ih
theorem wU(f:aM)(v:V):∀j:List (aM×V),f∈(lU f v j).map (·.1)/\∀g,g∈j.map (·.1)->g∈(lU f v j).map (·.1)
 |[]=>⟨by simp[lU],λg h=>by simp at h⟩
 | (k,x)::r=>by
  obtain⟨c,b⟩:=wU f v r;rw[show lU f v ((k,x)::r)=(if k=f then (k,v)::r else (k,x)::lU f v r) from rfl];by_cases a:k=f
  ·rw[if_pos a];subst a;exact⟨Ž,λg h=>by simpa using h⟩
  ·rw[if_neg a];refine⟨?_,λg h =>?_⟩
   ·rw[aI];exact ao _ c
   ·rw[aI]at h ⊢;rcases aE.mp h with e|e
    ·exact aE.mpr (.inl e)
    ·exact ao _ (b g e)
theorem xM(f:aM)(v:V):∀j:List (aM×V),(lU f v j).length<=j.length+1
 |[]=>by simp[lU]
 | (k,x)::r=>by
  have ih:=xM f v r;rw[show lU f v ((k,x)::r)=(if k=f then (k,v)::r else (k,x)::lU f v r) from rfl];by_cases a:k=f
  ·rw[if_pos a,aP,aP];omega
  ·rw[if_neg a,aP,aP];omega
def sj.some_of{v:V}{o:Option ai}(r:sj (Y v) o):∃u,o=Y u/\RelV v u:=by
 cases o with
 |none=>exact(show False from r).elim
 |some u=>exact⟨u,rfl,r⟩
def sj.none_of(r:sj M o):o=none:=by
 cases o with
 |none=>rfl|some u=>exact(show False from r).elim
def JI{v:V}(r:RelV v u):PySem.W.handedIn u=true:=by
 cases v with
 |eN=>cases (show u=SV from r);rfl
 |bl b=>cases (show u=SW b from r);rfl
 |int i=>obtain⟨t,e⟩:=(show ∃t,u=jD i t from r);cases e;rfl
 |str x=>obtain⟨t,e⟩:=(show ∃t,u=M' x t from r);cases e;rfl
 |GL b=>obtain⟨t,e⟩:=(show ∃t,u=Value.bytes b t from r);cases e;rfl
 |Ni b=>obtain⟨t,e⟩:=(show ∃t,u=Value.float b t from r);cases e;rfl
 |ref a=>cases (show u=cf a from r);rfl
 |ty n=>cases (show u=pA n from r);rfl
section
variable {P:bh}
def yt(b:qf P w H h)(e:H a=Y (.ins C dx j)):∃mA,GS h a dx C mA/\(∀f,sj (j.lookup f) (mA f))/\PySem.Within mA (j.map (·.1))/\j.length<=1000/\H dx=Y (.Z a):=by
 obtain⟨d,z,g,c,mA,n,r,q⟩:=(show gF P w H h a (.ins C dx j) from b a _ e);exact⟨mA,⟨c,n,g⟩,r,q,z,d⟩
end
structure GV(K:aT)(C:az):Prop where
 pg:plainGet K C Str.empty=true
 hd:hasDictIn K C=true
 po:plainOver K C=true
 sa:uo K (.ref C) "__setattr__" = some (some (.builtin "object.__setattr__"))
def GV.get{K:aT}(c:GV K C)(f:aM):plainGet K C f=true:=c.pg
def rJ(K:aT)(C:az)(f:aM):Prop:=uo K (.ref C) f=Y M
def rJ.TK{K:aT}{f:aM}(n:rJ K C f):takerIn K C f=Y none:=by
 unfold takerIn;rw[show uo K (.ref C) f=Y M from n];rfl
structure M3(K:aT)(C:az)(m:aM)(f:az):Prop where
 at_:uo K (.ref C) m=some (some (.ref f))
 fn:PySem.W.isFn K (.ref f)=true
 kp:AO K (.ref f)=true
section
variable {X:Cx}{s:aw}{f:aM}{v:V}
def zG(I:Inv X B U H s)(e:H a=Y (.ins C dx j))(c:GV X.K C)(n:rJ X.K C f)(l:j.lookup f=Y v)(h:∀u s',Inv X B U H s'->RelV v u->Q u s'):bB (br X.prog X.w) A (getAttr (.ref a) f b) Q E s:=by
 obtain⟨mA,O,r,_,_,_⟩:=yt I.iw e;obtain⟨u,k,g⟩:=sj.some_of (v:=v) (o:=mA f) (by rw[<- l];exact r f);exact Pm I.xN O (c.get f) c.hd n k (JI g) (h u _ (I.tok _) g)
def uV{m:aM}(I:Inv X B U H s)(e:H a=Y (.ins C dx j))(c:GV X.K C)(k:M3 X.K C m g)(l:j.lookup m=M)(h:Q (.ref g,[.ref a]) s):bB (br X.prog X.w) A (nA (.ref a) m b) Q E s:=by
 obtain⟨mA,O,r,_,_,_⟩:=yt I.iw e;have f:mA m=none:=sj.none_of (by rw[<- l];exact r m);exact Mi I.xN O (c.get m) k.at_ k.fn f h
def yW(I:Inv X B U H s)(e:H a=Y (.ins C dx j))(c:GV X.K C)(n:rJ X.K C f)(K:j.length<1000)(t:RelV y u)(h:∀s',Inv X B U (dg H a (.ins C dx (lU f y j))) s'->Q () s'):bB (br X.prog X.w) A (setAttr (.ref a) f u) Q E s:=by
 obtain⟨mA,O,r,l,_,m⟩:=yt I.iw e;have v:(j.map (·.1)).length<=bc:=by rw[aq,fH];omega
 refine NJ I.xN O c.sa c.po n.TK c.hd l v λh' k p=>h _ ?_
 have x:∃o,h'.get? dx=Y o:=let ⟨o,_,_,F,_⟩:=k.ns;⟨o,F⟩;refine I.write (x:=a) (e:=dx) (by rw[e];exact jW) (.inr m) (λb q D z=>(p.2 b D).trans z) x ?_;refine⟨by rw[aY O.ne];exact m,?_,O.ne,k.obj,_,k.ns,λg =>?_,λg w =>?_⟩
 ·have:=xM f y j;omega
 ·show sj ((lU f y j).lookup g) (if g=f then Y u else mA g);rw[sW];by_cases q:g=f
  ·rw[if_pos q,if_pos q];exact t
  ·rw[if_neg q,if_neg q];exact r g
 ·by_cases q:g=f
  ·rw[q];exact(wU f y j).1
  ·refine(wU f y j).2 g (l g λz=>w ?_);show (if g=f then Y u else mA g)=M;rw[if_neg q];exact z
def Inv.made(I:Inv X B U H s):Inv X B U (dg (dg H s.heap.objs.size (.Z (s.heap.objs.size+1))) (s.heap.objs.size+1) (.ins C s.heap.objs.size []))
  { s with heap:=(s.heap.push so).push (Fp C s.heap.objs.size) }:=by
 have c:(s.heap.push so).get? s.heap.objs.size=Y so:=bz s.heap rfl;have k:((s.heap.push so).push (Fp C s.heap.objs.size)).get? (s.heap.objs.size+1)=Y (Fp C s.heap.objs.size):=by have:=bz (s.heap.push so) (o:=Fp C s.heap.objs.size) rfl;rwa [eL]at this
 have h:(s.heap.push so).Ns s.heap.objs.size (λ_=>M):=⟨so,#[],_,c,rfl,(λe g=>absurd g Ž),λ_=>rfl⟩;have l:=I.laid (a:=s.heap.objs.size) (o :=.Z (s.heap.objs.size+1)) (h':=s.heap.push so) (t':=s.toks) (λb u q=>ak _ q) (aH _) ⟨_,c⟩;refine l.laid (a:=s.heap.objs.size+1) (o :=.ins C s.heap.objs.size []) (t':=s.toks) (λb u q=>ak _ q) (Px (eL _ _)) ?_;have a:s.heap.objs.size≠s.heap.objs.size+1:=bR (ik _);refine⟨by rw[aY a,bj],cD _,a,k,λ_=>M,(Heap.Ns1.of_empty h).at λo q=>ak _ q,λ_=>jW,λy f=>absurd rfl f⟩
def Pa{prog:bh}{w:cX}{a:Env}{e:Expr}{f:aM}{G:Pos}{s:aw}{Q:ai->aw->Prop}(c:cB e f a (eval e a)=eval e a)(h:bB (br prog w) A (eval e a) (λo b=>bB (br prog w) A (getAttr o f Z') Q E b) E s):bB (br prog w) A (eval (.Attribute e f G) a) Q E s:=
 Attribute_any_ h (by rw[arm_eval_Attribute,c])
end
def TV(K:aT)(N:TE)(f:aM):TE:=λU H Q=>N U H λx O=>∃a C dx j v,x=.ref a/\O a=Y (.ins C dx j)/\GV K C/\rJ K C f/\j.lookup f=Y v/\Q v O
def WS(K:aT)(N tv:TE)(f:aM):TS:=λD U H=>tv U H λy O=>N U O λx d=>∃a C dx j,x=.ref a/\d a=Y (.ins C dx j)/\GV K C/\rJ K C f/\j.length<1000 /\
 D.nx U (dg d a (.ins C dx (lU f y j)))
def J9(X:Cx)(b:Operator)(a:V->V->Hp->VK->Prop):Prop:=
 ∀(B:List (az×Obj)) (s:aw) (U:St) (H:Hp) (x y:V) (u v:ai) (Q:VK),Inv X B U H s->RelV x u->RelV y v->a x y H Q->bB (br X.prog X.w) X.A (inplaceOp b u v) (EP X B U Q) X.xe s
def NN(K:aT)(N tv:TE)(e:V->V->Hp->VK->Prop)(f:aM):TS:=λD U H=>N U H λx O=>∃a C dx j v,x=.ref a/\O a=Y (.ins C dx j)/\GV K C/\rJ K C f/\j.lookup f=Y v /\
 tv U O λy d=>e v y d λz c=>∃b Ve,c a=Y (.ins C b Ve)/\Ve.length<1000/\D.nx U (dg c a (.ins C b (lU f z Ve)))
section
variable {X:Cx}{f:aM}
def sU(k:PE X e N)(m:cB e f X.env (eval e X.env)=eval e X.env):PE X (.Attribute e f G) (TV X.K N f):=by
 intro B s U H Q I h;refine Pa m (fS (k B s U H _ I h) ?_);rintro u A ⟨x,O,r,b,a,C,dx,j,v,ex,o,c,n,l,q⟩;subst ex;obtain rfl:u=cf a:=b;exact zG r o c n l λt w p g=>⟨v,O,p,g,q⟩
def B_(t:PE X o N)(p:PE X value tv)(r:cP value (Y (.Attribute o f Pj)) G.line X.env=eQ Z_):PS X (.Assign [.Attribute o f Pj] value G) (WS X.K N tv f):=by
 intro B s U H D I h;refine plainObj_wpAny_Assign_Attribute (fS (p B s U H _ I h) ?_) r;rintro u b ⟨y,O,E,e,q⟩;refine fS (t B b U O _ E q) ?_;rintro m K ⟨x,d,A,g,a,C,dx,j,ex,v,c,n,l,k⟩;subst ex;obtain rfl:m=cf a:=g;exact yW A v c n l e λF w=>⟨U,_,w,k⟩
def Ja(R:PE X o N)(Q:PE X value tv)(b:J9 X k g):PS X (.AugAssign (.Attribute o f Wz) k value G) (NN X.K N tv g f):=by
 intro B s U H D I h;refine wpAny_AugAssign_AttributeAny (fS (R B s U H _ I h) ?_);rintro i s1 ⟨x,O,I1,A,a,C,dx,j,v,ex,S,c,n,l,q⟩;subst ex;obtain rfl:i=cf a:=A;refine zG I1 S c n l λu r I2 E=>fS (Q B r U O _ I2 q) ?_
 rintro m p ⟨y,d,I3,w,K⟩;refine fS (b B p U d v y u m _ I3 E w K) ?_;rintro w4 s4 ⟨z,H3,I4,t,T,Ve,e,P,F⟩;exact yW I4 e c n P t λs5 I5=>⟨U,_,I5,F⟩
def W7:V->V->Hp->VK->Prop:=λx y H Q=>∃i j,x=.int i/\y=.int j/\Q (.int (i+j)) H
def WZ:V->V->Hp->VK->Prop:=λx y H Q=>∃i j,x=.int i/\y=.int j/\Q (.int (i-j)) H
def Xs:J9 X .Add W7:=by
 rintro B s U H x y u v Q I c b ⟨i,j,rfl,rfl,q⟩;obtain⟨t,rfl⟩:=(show ∃t,u=jD i t from c);obtain⟨a,rfl⟩:=(show ∃a,v=jD j a from b);exact PyProof.Rows.iadd_int ⟨.int (i+j),H,I.tok _,⟨_,rfl⟩,q⟩
def Xr:J9 X .Sub WZ:=by
 rintro B s U H x y u v Q I c b ⟨i,j,rfl,rfl,q⟩;obtain⟨t,rfl⟩:=(show ∃t,u=jD i t from c);obtain⟨a,rfl⟩:=(show ∃a,v=jD j a from b);exact PyProof.Rows.isub_int ⟨.int (i-j),H,I.tok _,⟨_,rfl⟩,q⟩
def P4{o:Sem Bool}{m:aM}{u9:Pos}{args:List Expr}{B:List (az×Obj)}{s:aw}{U:St}{H:Hp}{Q:ai->aw->Prop}{te:TE}(w:PE X e te)(I:Inv X B U H s) (h:te U H λx O=>∃a C dx j g,x=.ref a/\O a=Y (.ins C dx j)/\GV X.K C/\M3 X.K C m g/\j.lookup m=M /\
   ∀b,Inv X B U O b->bB (br X.prog X.w) X.A (sr G (.ref g) [.ref a] (dt G (av args X.env)) (jg G (eJ [] X.env))) Q X.xe b) (v:eval (.Call (.Attribute e m u9) args [] G) X.env=(do
   let p <- eval e X.env
   r_ u9.atName
   let (f,first) <- oO [p] (nA p m o)
   sr G f first (dt G (av args X.env)) (jg G (eJ [] X.env)))) :
  bB (br X.prog X.w) X.A (eval (.Call (.Attribute e m u9) args [] G) X.env) Q X.xe s:=by
 refine PySem.W.methodCall_KW (pl:=o) (fS (w B s U H _ I h) ?_) v;rintro u b ⟨x,O,r,t,a,C,dx,j,g,ex,A,c,k,l,q⟩;subst ex;obtain rfl:u=cf a:=t;exact uV r A c k l (q b r)
end
section
variable {X:Cx}{s:aw}
inductive yd (K:aT) (H:Hp):V->ai->Prop where
 |eN:yd K H .eN (.type "NoneType")
 |bl (x:Bool):yd K H (.bl x) (.type "bool")
 |int (i:Int):yd K H (.int i) (.type "int")
 |str (x:aM):yd K H (.str x) (.type "str")
 |Ni (x:UInt64):yd K H (.Ni x) (.type "float")
 |lst {a:az}{xs:List V}(e:H a=some (.lst xs)):yd K H (.ref a) (.type "list")
 |Fm {a:az}{o:Obj}{xs:List V}(e:H a=some (.Fm o (.lst xs))):yd K H (.ref a) (.type "list")
 |tup {a:az}{xs:List V}(e:H a=some (.tup xs)):yd K H (.ref a) (.type "tuple")
 |dK {a:az}{f_:List (mi×V)}(e:H a=some (.dK f_)):yd K H (.ref a) (.type "dict")
 |dT {a:az}{f_:List (List mi×V)}(e:H a=some (.dT f_)):yd K H (.ref a) (.type "dict")
 | ins {a C dx:az}{fs:List (aM×V)}(e:H a=some (.ins C dx fs)) (cl:GV K C) (ha:uo K (.ref C) "__class__" = some (some (.builtin "object.__class__")))
   (hn:PySem.W.specialIn K (.builtin "object.__class__") "__get__" = some (some (.builtin "getset_descriptor.__get__"))) (htk:PySem.W.takesIn K (.builtin "object.__class__")=some true)
   (hm:PySem.W.mroIn K C (.type "object")=some true):yd K H (.ref a) (.ref C)
def oK(I:Inv X B U H s)(k:RelV x u)(v:yd X.K H x t)(e:kitOne X.K t c=Y b)(h:∀tk,Q (.bool b) { s with toks:=tk }):
  bB (br X.prog X.w) A (call (.builtin "isinstance") [u,c]) Q E s:=by
 cases v with
 |eN=>cases (show u=SV from k);exact vc PySem.W.kitx_none I.xN jW e (λg=>nomatch g) h
 |bl y=>cases (show u=SW y from k);exact vc PySem.W.kitx_bool I.xN jW e (λg=>nomatch g) h
 |int i=>obtain⟨t,q⟩:=(show ∃t,u=jD i t from k);cases q;exact vc PySem.W.kitx_int I.xN jW e (λg=>nomatch g) h
 |str y=>obtain⟨t,q⟩:=(show ∃t,u=M' y t from k);cases q;exact vc PySem.W.kitx_str I.xN jW e (λg=>nomatch g) h
 |Ni y=>obtain⟨t,q⟩:=(show ∃t,u=Value.float y t from k);cases q;exact vc PySem.W.kitx_float I.xN jW e (λg=>nomatch g) h
 |@lst a xs l=>cases (show u=cf a from k);obtain⟨_,_,n,_,J⟩:=(show gF X.prog X.w H s.heap a (.lst xs) from I.iw a _ l);exact vc PySem.W.kitx_list I.xN ⟨_,J,rfl⟩ e (λg=>nomatch g) h
 |@Fm a w xs l=>cases (show u=cf a from k);obtain⟨_,_,_,n,_,J⟩:=(show gF X.prog X.w H s.heap a (.Fm w (.lst xs)) from I.iw a _ l);exact vc PySem.W.kitx_list I.xN ⟨_,J,rfl⟩ e (λg=>nomatch g) h
 |@tup a xs l=>cases (show u=cf a from k);obtain⟨_,_,_,p⟩:=(show gF X.prog X.w H s.heap a (.tup xs) from I.iw a _ l);obtain⟨o,J,z,_⟩:=p;exact vc PySem.W.kitx_tuple I.xN ⟨o,J,z⟩ e (λg=>nomatch g) h
 |@dK a m l=>cases (show u=cf a from k);obtain⟨_,_,P,_,p⟩:=(show gF X.prog X.w H s.heap a (.dK m) from I.iw a _ l);obtain⟨o,es,d,J,z,_⟩:=p;exact vc PySem.W.kitx_dict I.xN ⟨o,J,z.1⟩ e (λg=>nomatch g) h
 |@dT a m l=>cases (show u=cf a from k);obtain⟨_,_,xs,_,o,es,d,J,z,_⟩:=(show gF X.prog X.w H s.heap a (.dT m) from I.iw a _ l);exact vc PySem.W.kitx_dict I.xN ⟨o,J,z.1⟩ e (λg=>nomatch g) h
 |@ins a C dx j l cl K D r F=>cases (show u=cf a from k);obtain⟨mA,O,_⟩:=yt I.iw l;obtain⟨R,f,_⟩:=O.look;exact vc (PySem.W.kitx_own (cl.get _) cl.hd K D r F) I.xN f e (λg=>nomatch g) h
end
structure gc(k:Nat)(A:ip):Prop where
 hd:A.handled=none
 dp:A.depth+3*k+5<recursionLimit
 un:A.units+16*k+200<su
def gc.mono(r:gc k A)(h:j<=k):gc j A:=⟨r.hd,by have:=r.dp;omega,by have:=r.un;omega⟩
def gc.deeper(r:gc (k+1) A)(a:Env):gc k (A.deeper a):=
 ⟨r.hd,by have:=r.dp;show A.depth+1+3*k+5<_;omega,by have:=r.un;show A.units+3+16*k+200<_;omega⟩
def Gk{A:ip}{C:az}{a:List ai}{b:List (aM×ai)}:(A.under (.builtin "type.__call__" ⟨.ref C::a,b⟩)).depth=A.depth+1:=by
 first|rfl|simp[Around.under,Code.weight,Code.isCreation,Code.isGuard,Code.isCaller,Code.frames,Code.isFrame,guardIds]
def Gj{A:ip}{C:az}{a:List ai}{b:List (aM×ai)}:(A.under (.builtin "type.__call__" ⟨.ref C::a,b⟩)).units=A.units+1:=by
 first|rfl|simp[Around.under,Code.cUnits,Code.frames,Code.isFrame]
def gc.make(r:gc (k+1) A)(C:az)(a:List ai)(b:List (aM×ai)):gc k (A.under (.builtin "type.__call__" ⟨.ref C::a,b⟩)):=
 ⟨r.hd,by have:=r.dp;rw[Gk];omega,by have:=r.un;rw[Gj];omega⟩
def gc.depth(r:gc k A):A.depth<recursionLimit:=by have:=r.dp;omega
def gc.units{A:ip}(r:gc k A):A.units+64<su:=by have:=r.un;omega
def Qz:TA:=λ_ H Q=>Q [] H
def T4(N:TE)(a:TA):TA:=λU H Q=>N U H λx O=>a U O λxs d=>Q (x::xs) d
section
variable {X:Cx}
def cG:PA X [] Qz:=λ_ _ _ _ H Q I h=>Calls.spliced_nil ⟨[],H,I,.nil,h⟩
def bM(m:PE X e te)(l:PA X es t)(k:autoParam (av (e::es) X.env=(Z_,eval e X.env)::av es X.env) Ų):PA X (e::es) (T4 te t):=by
 intro G B s U H Q I h;rw[k];show bB _ _ (spliced ((Z_,eval e X.env)::dt G (av es X.env))) _ _ s;refine Ha (fS (m B s U H _ I h) ?_);rintro u a ⟨x,O,p,c,g⟩;exact fS (l G B a U O _ p g) <|by rintro r v ⟨xs,d,o,b,f⟩;exact⟨x::xs,d,o,.cons c b,f⟩
def WB(t:TA):TE:=λU H Q=>t U H λxs O=>xs.length<=bc/\∀p,O p=M->Q (.ref p) (dg O p (.tup xs))
def WG(t:TA):TE:=λU H Q=>t U H λxs O=>xs.length<=bc/\∀p,O p=M->Q (.ref p) (dg O p (.lst xs))
def qa{f}(h:PA X es t):PE X (.Tuple es f G) (WB t):=by
 intro B s U H Q I k;refine wpAny_Tuple_spliced (fS (h G B s U H _ I k) ?_);rintro g a ⟨xs,O,c,r,z,q⟩;refine⟨by rw[<- r.length];exact z,?_⟩;have l:O a.heap.objs.size=none:=c.iw.fresh (aH _);refine⟨.ref a.heap.objs.size,dg O a.heap.objs.size (.tup xs),c.laid (t':=a.toks) (λb u e=>ak _ e) (aH _) ?_,rfl,q _ l⟩;exact⟨z,g,r,⟨_,bz _ rfl,rfl,_,rfl⟩⟩
def za(h:PA X es t):PE X (.List es G) (WG t):=by
 intro B s U H Q I g;refine wpAny_List_spliced (fS (h G B s U H _ I g) ?_);rintro f a ⟨xs,O,c,r,z,q⟩;refine⟨by rw[<- r.length];exact z,?_⟩;have k:O a.heap.objs.size=none:=c.iw.fresh (aH _);refine⟨.ref a.heap.objs.size,dg O a.heap.objs.size (.lst xs),c.laid (t':=a.toks) (λb u e=>ak _ e) (aH _) ?_,rfl,q _ k⟩;exact⟨z,f,0,r,bz _ rfl⟩
end
abbrev Sp:=List V->Hp->VK->XK->Prop
abbrev SJ:=List Env->Hp->aw->XK->ai->aw->Prop
structure GU(P:bh)(w:cX)(K:aT)(mg:aM->Option ai)(base:de)(A:ip)(outer:List Env)(s:aw)(H:Hp):Prop where
 frames:A.frames=some outer
 mod:Mod K mg base
 bs:∀b o,base.get? b=some o->s.heap.get? b=some o/\H b=none
 Nj:base.objs.size<=s.heap.objs.size
 yb:s.heap.FunFrames base outer
 RV:∀b∈Dg outer,H b=none
 iw:qf P w H s.heap
 bare:Ft s.gens
def CE(a:List Env)(P:bh)(w:cX)(H:Hp)(s:aw)(Q:VK)(u:ai)(s':aw):Prop:=
 ∃v H',s'.os=s.os/\Ft s'.gens/\Un (Dg a) [] H H' s.heap s'.heap/\qf P w H' s'.heap/\RelV v u/\Q v H'
def CR(CX:SJ)(a:List Env)(P:bh)(w:cX)(H:Hp)(s:aw)(Q:VK)(E:XK)(r:Result)(s':aw):Prop:=
 match r with
 |.ok (.ret u)=>CE a P w H s Q u s'|.ok _=>False|.error e=>CX a H s E e s'
structure cq(P:bh)(w:cX)(K:aT)(mg:aM->Option ai)(base:de)(CX:SJ)(k:Nat)(f:az)(fd:dm)(ps:List aM)(sp:Sp):Prop where
 len:∀vs H Q E,sp vs H Q E->vs.length=ps.length
 run:∀(A:ip) (outer:List Env) (s:aw) (H:Hp) (args:Args) (us:List ai) (vs:List V) (Q:VK) (E:XK),gc k A->GU P w K mg base A outer s H->Kk s fd args (ps.zip us)->cv vs us->sp vs H Q E ->
  Ag (br P w) A (.call (.ref f) args) (CR CX outer P w H s Q E) s
def cq.mono{P:bh}{K:aT}{i:aM->Option ai}{f:az}(F:cq P w K i base CX j f I q sp)(h:j<=k):
  cq P w K i base CX k f I q sp:=⟨F.len,λA a s H args c b Q E e=>F.run A a s H args c b Q E (e.mono h)⟩
def cq.imp{P:bh}{K:aT}{i:aM->Option ai}{f:az}(F:cq P w K i base CX k f I q sp)(h:∀vs H Q E,c vs H Q E->sp vs H Q E):cq P w K i base CX k f I q c:=
 ⟨λvs H Q E a=>F.len vs H Q E (h _ _ _ _ a),λA b s H args e vs Q E m o p g l=>F.run A b s H args e vs Q E m o p g (h _ _ _ _ l)⟩
def GU.make{P:bh}{K:aT}{s:aw}(e:GU P w K i base A a s H)(C:az)(b:List ai)(c:List (aM×ai)):
  GU P w K i base (A.under (.builtin "type.__call__" ⟨.ref C::b,c⟩)) a s H:=⟨by first|exact e.frames|(simpa [Around.under,Code.envs,Code.isFrame,pushEnvs] using e.frames),e.mod,e.bs,e.Nj,e.yb,e.RV,e.iw,e.bare⟩
section
variable {X:Cx}{s:aw}
def Inv.Vn(I:Inv X B U H s):GU X.prog X.w X.K X.mg X.base X.A X.stack s H:=
 ⟨I.ok.frames,I.ok.mod,I.bs,bq I.ok.Nj I.sz,I.stack,I.Hf,I.iw,I.bare⟩
def Inv.after(I:Inv X B U H s)(h:CE X.stack X.prog X.w H s Q u s'):EP X B U Q u s':=by
 obtain⟨v,H',k,a,f,e,r,q⟩:=h;obtain⟨l,g,d,t,c⟩:=s';obtain rfl:c=s.os:=k;exact⟨v,H',I.call (h':=l) (g':=g) (d':=d) (t':=t) (ch:=[]) f e a (λb z=>absurd z Ž),r,q⟩
end
def KI(sp:Sp)(Ao:List V)(E:XK)(t:TA):TE:=λU H Q=>t U H λa O=>sp (a++Ao) O Q E
def Ds(C:az)(m:aM)(sp:Sp)(Ao:List V)(E:XK)(N:TE)(t:TA):TE:=λU H Q=>N U H λx O=>∃a dx j,x=.ref a/\O a=Y (.ins C dx j)/\j.lookup m=M /\
 t U O λb d=>sp (x::(b++Ao)) d Q E
def TU(C:az)(sp:Sp)(Ao:List V)(E:XK)(t:TA):TE:=λU H Q=>t U H λa O=>∀x dx,O x=M->O dx=M->dx≠x ->
 sp (.ref x::(a++Ao)) (dg (dg O dx (.Z x)) x (.ins C dx [])) (λv d=>v=.eN/\Q (.ref x) d) E
def Binds(K:aT)(I:dm)(q:List aM)(ds:List ai):Prop:=
 ∀(s:aw) (a:List ai),K.In s.heap->(a++ds).length=q.length->Kk s I ⟨a,[]⟩ (q.zip (a++ds))
def Binds.all{K:aT}(h:∀a:List ai,a.length=q.length->bindArgs I ⟨a,[]⟩=eQ (q.zip a)):Binds K I q []:=λs a _ b=>by
 rw[cm]at b ⊢;exact .of_eq (h a b)
def tD(CX:SJ)(X:Cx)(E:XK):Prop:=∀(B:List (az×Obj)) (U:St) (H:Hp) (s:aw) (e:ai) (s':aw),Inv X B U H s->CX X.stack H s E e s'->X.xe e s'
section
variable {X:Cx}{f:az}{m:aM}
def B4{s:aw}{us:List ai}{vs:List V}(F:cq X.prog X.w X.K X.mg X.base CX k f I q sp)(l:gc k X.A)(p:Binds X.K I q ds)(o:cv Ao ds)(g:tD CX X E)(a:Inv X B U H s)(r:cv vs us)(h:sp (vs++Ao) H Q E):bB (br X.prog X.w) X.A (call (.ref f) us) (EP X B U Q) X.xe s:=by
 have c:cv (vs++Ao) (us++ds):=r.append o;have m:(us++ds).length=q.length:=by rw[<- c.length];exact F.len _ _ _ _ h
 refine wpAny_call (Ke (F.run X.A X.stack s H ⟨us,[]⟩ (us++ds) (vs++Ao) Q E l a.Vn (p s us a.xN m) c h) λr s' b =>?_);cases r with
 |error e=>exact g B U H s e s' a b|ok t=>
  cases t with|ret u=>exact a.after b|_=>exact wo b
def vB(F:cq X.prog X.w X.K X.mg X.base CX k f I q sp)(o:gc k X.A)(w:Gl X x)(u:X.mg x=Y (.ref f))(v:AO X.K (.ref f)=Z')(D:Binds X.K I q ds)(C:cv Ao ds)(m:tD CX X E)(K:PA X (e::es) t)(g:autoParam ((x==("__debug__" : aM))=false) Ű)(A:autoParam (av (e::es) X.env=(Z_,eval e X.env)::av es X.env) Ų)(c:autoParam ((dt G (av es X.env)).any (·.1)=false) Ų):
  PE X (.Call (.Name x p) (e::es) [] G) (KI sp Ao E t):=by
 intro B s U H Q a h;refine jf (Cj a w u ?_ g);refine PySem.W.callWith_K (h₀:=X.base) a.ok.mod.UU v (fS (K G B s U H _ a h) ?_) A c;rintro P R ⟨d,O,l,r,b⟩;refine⟨l.xN,?_⟩;exact B4 F o D C m l r b
def Lp(F:cq X.prog X.w X.K X.mg X.base CX k f I q sp)(e:gc k X.A)(m:Gl X x)(g:X.mg x=Y (.ref f))(l:AO X.K (.ref f)=Z')(r:Binds X.K I q ds)(o:cv Ao ds)(c:tD CX X E)(b:autoParam ((x==("__debug__" : aM))=false) Ű):PE X (.Call (.Name x p) [] [] G) (KI sp Ao E Qz):=by
 intro B s U H Q a h;refine jf (Cj a m g ?_ b);exact PySem.W.callWith_K0 a.xN l (B4 (us:=[]) F e r o c a .nil h)
def B'{pl:Sem Bool}(he:PE X o N)(c:GV X.K C)(A:M3 X.K C m f)(F:cq X.prog X.w X.K X.mg X.base CX k f I q sp)(hr:gc k X.A)(hb:Binds X.K I q ds)(hd:cv Ao ds)(hx:tD CX X E)(ha:PA X (e::es) t)(p:autoParam (av (e::es) X.env=(Z_,eval e X.env)::av es X.env) Ų)(v:autoParam ((dt G (av es X.env)).any (·.1)=false) Ų) (ht:autoParam (eval (.Call (.Attribute o m u9) (e::es) [] G) X.env=(do
   let w <- eval o X.env
   r_ u9.atName
   let (f,first) <- oO [w] (nA w m pl)
   sr G f first (dt G (av (e::es) X.env)) (jg G (eJ [] X.env)))) Ų) :
  PE X (.Call (.Attribute o m u9) (e::es) [] G) (Ds C m sp Ao E N t):=by
 intro B s U H Q g h;refine PySem.W.methodCall_KW (pl:=pl) (fS (he B s U H _ g h) ?_) ht;rintro u R ⟨x,O,K,S,a,dx,j,ex,ea,l,b⟩;subst ex;obtain rfl:u=cf a:=S;refine uV K ea c A l ?_;refine PySem.W.callWith_K (first:=[.ref a]) (h₀:=X.base) g.ok.mod.UU A.kp (fS (ha G B R U O _ K b) ?_) p v;rintro P s2 ⟨i,d,D,r,T⟩;refine⟨D.xN,?_⟩;exact B4 (us :=.ref a::P) (vs :=.ref a::i) F hr hb hd hx D (.cons rfl r) T
def vz{pl:Sem Bool}(D:PE X o N)(c:GV X.K C)(r:M3 X.K C m f)(F:cq X.prog X.w X.K X.mg X.base CX k f I q sp)(A:gc k X.A)(d:Binds X.K I q ds)(K:cv Ao ds)(v:tD CX X E) (w:autoParam (eval (.Call (.Attribute o m u9) [] [] G) X.env=(do
   let p <- eval o X.env
   r_ u9.atName
   let (f,first) <- oO [p] (nA p m pl)
   sr G f first (dt G (av [] X.env)) (jg G (eJ [] X.env)))) Ų) :
  PE X (.Call (.Attribute o m u9) [] [] G) (Ds C m sp Ao E N Qz):=by
 intro B s U H Q e h;refine PySem.W.methodCall_KW (pl:=pl) (fS (D B s U H _ e h) ?_) w;rintro u R ⟨x,O,g,t,a,dx,j,ex,P,l,b⟩;subst ex;obtain rfl:u=cf a:=t;refine uV g P c r l ?_;exact PySem.W.callWith_K0 (first:=[.ref a]) g.xN r.kp (B4 (us:=[.ref a]) (vs:=[.ref a]) F A d K v g (.cons rfl .nil) b)
structure Mk(K:aT)(C f:az):Prop where
 makes:makesIn K C=true
 init:uo K (.ref C) "__init__" = some (some (.ref f))
 fn:PySem.W.isFn K (.ref f)=true
 kp:AO K (.ref C)=true
theorem K9{s:aw}{us:List ai}(i:Mk X.K C f)(F:cq X.prog X.w X.K X.mg X.base CX k f I q sp)(w:gc (k+1) X.A)(K:Binds X.K I q ds)(D:cv Ao ds)(t:tD CX X E)(a:Inv X B U H s)(r:cv g us)(h:∀x dx,H x=M->H dx=M->dx≠x->sp (.ref x::(g++Ao)) (dg (dg H dx (.Z x)) x (.ins C dx [])) (λv d=>v=.eN/\Q (.ref x) d) E):
  bB (br X.prog X.w) X.A (call (.ref C) us) (EP X B U Q) X.xe s:=by
 have m:=h (s.heap.objs.size+1) s.heap.objs.size (a.iw.fresh (gA _)) (a.iw.fresh (aH _)) (bR (ik _));have c:=Inv.made (C:=C) a;have l:cv (V.ref (s.heap.objs.size+1)::(g++Ao)) (cf (s.heap.objs.size+1)::(us++ds)) :=.cons rfl (r.append D);have A:(cf (s.heap.objs.size+1)::us++ds).length=q.length:=by have e:=l.length;rw[F.len _ _ _ _ m]at e;exact e.symm
 refine wpAny_call (LU (f:=f) a.xN i.makes i.init (beq_iff_eq.mp i.fn) (Ke (F.run _ X.stack _ _ ⟨cf (s.heap.objs.size+1)::us,[]⟩ (cf (s.heap.objs.size+1)::(us++ds)) _ _ E (w.make C us [])
  (c.Vn.make C us []) (K _ (cf (s.heap.objs.size+1)::us) c.xN A) l m) λr s' b =>?_))
 cases r with
 |error e=>exact t B U _ _ e s' c b|ok P=>
  cases P with
  |ret u=>obtain⟨v,H',S,o,R,p⟩:=c.after b;subst R;exact⟨o,⟨V.ref (s.heap.objs.size+1),H',S,rfl,p⟩⟩
  |_=>exact wo b
def Hu(d:Mk X.K C f)(F:cq X.prog X.w X.K X.mg X.base CX k f I q sp)(o:gc (k+1) X.A)(v:Gl X x)(u:X.mg x=Y (.ref C))(D:Binds X.K I q ds)(A:cv Ao ds)(m:tD CX X E)(K:PA X (e::es) t)(g:autoParam ((x==("__debug__" : aM))=false) Ű)(w:autoParam (av (e::es) X.env=(Z_,eval e X.env)::av es X.env) Ų)(c:autoParam ((dt G (av es X.env)).any (·.1)=false) Ų):
  PE X (.Call (.Name x p) (e::es) [] G) (TU C sp Ao E t):=by
 intro B s U H Q a h;refine jf (Cj a v u ?_ g);refine PySem.W.callWith_K (h₀:=X.base) a.ok.mod.UU d.kp (fS (K G B s U H _ a h) ?_) w c;rintro R S ⟨P,O,l,r,b⟩;refine⟨l.xN,?_⟩;exact K9 d F o D A m l r b
end
section
variable {X:Cx}{f:az}{m:aM}
end
structure bu(N P:List aM)(sc:Scope):Prop where
 kind:sc.kind=.function
 co:sc.isCoroutine=false
 gen:sc.isGenerator=false
 nd:N.Nodup
 pre:N.take P.length=P
 par:∀x∈P,sc.names.lookup x=some .local\/sc.names.lookup x=some .cell
 Rm:∀y∈sc.names,y.2 ≠ .free
theorem BJ:∀ {a:List (aM×ai)}{m:aM->Option ai},(∀v,(x,v)∉a)->bindL b a m x=m x
 |[],_,_=>rfl| (n,v)::r,m,h=>by
  unfold bindL;rw[BJ λw hw=>h w (ao _ hw)];split
  ·have:x≠n:=by rintro rfl;exact h v au
   simp[this]
  ·rfl
theorem BL:∀ {a:List (aM×ai)}{m:aM->Option ai},(∀v,(x,v)∉a)->bindC b a m x=m x
 |[],_,_=>rfl| (n,v)::r,m,h=>by
  unfold bindC;rw[BL λw hw=>h w (ao _ hw)];split
  ·rfl
  ·have:x≠n:=by rintro rfl;exact h v au
   simp[this]
theorem BK{v:ai}:∀ {P:List aM}{b:List ai}{i:Nat}{m:aM->Option ai},P.Nodup->P[i]?=Y x->b[i]?=Y v->a x=Y .local ->
  bindL a (P.zip b) m x=Y v
 |[],_,_,_,_,h,_,_=>by simp at h
 |_::_,[],_,_,_,_,h,_=>by simp at h
 |p::P,w::b,0,m,c,J,z,e=>by simp at J z;subst J;subst z;show bindL a ((p,w)::P.zip b) m p=_;unfold bindL;rw[BJ λv f=>(m_.mp c).1 (wt f).1,if_pos e];simp
 |p::P,w::b,i+1,m,c,J,z,e=>by show bindL a ((p,w)::P.zip b) m x=_;unfold bindL;exact BK (i:=i) (m_.mp c).2 (by simpa using J) (by simpa using z) e
theorem BM{v:ai}:∀ {P:List aM}{b:List ai}{i:Nat}{m:aM->Option ai},P.Nodup->P[i]?=Y x->b[i]?=Y v->a x≠Y .local ->
  bindC a (P.zip b) m x=Y v
 |[],_,_,_,_,h,_,_=>by simp at h
 |_::_,[],_,_,_,_,h,_=>by simp at h
 |p::P,w::b,0,m,c,J,z,e=>by simp at J z;subst J;subst z;show bindC a ((p,w)::P.zip b) m p=_;unfold bindC;rw[BL λv f=>(m_.mp c).1 (wt f).1,if_neg e];simp
 |p::P,w::b,i+1,m,c,J,z,e=>by show bindC a ((p,w)::P.zip b) m x=_;unfold bindC;exact BM (i:=i) (m_.mp c).2 (by simpa using J) (by simpa using z) e
noncomputable def start(N:List aM)(a:List V):St:=a.map Y++bS (N.length-a.length) M
noncomputable def xf(CX:SJ)(P:bh)(w:cX)(K:aT)(i:aM->Option ai)(base:de)(N:List aM)(c:aM)(a:Scope)(f:az)(h:ai)(A:ip)(b:List Env)(s:aw)(H:Hp)(E:XK):Cx where
 prog:=P
 w:=w
 K:=K
 mg:=i
 base:=base
 A:=A.deeper (sE c a s.heap.objs.size f h)
 N:=N
 s₀:=s
 H₀:=H
 env:=sE c a s.heap.objs.size f h
 outer:=b
 stack:=sE c a s.heap.objs.size f h::b
 ex:=[]
 calm:=Z'
 fn:=λ_=>Z'
 pn:=[]
 xe:=λe s'=>bB (br P w) (A.deeper (sE c a s.heap.objs.size f h)) (leaving (sE c a s.heap.objs.size f h) e) (λ_ g=>CX b H s E e g) (λk g=>CX b H s E k g) s'
def zW{sc:Scope}{n:Nat}(h:sc.names.lookup x=Y .cell):∃c,(fI n sc.names []).lookup x=Y c:=by
 have q:=PySem.W.cellsFrom_some sc.names n [] (.inl h);exact Option.isSome_iff_exists.mp q
def JD{P:bh}{K:aT}{f:az}{X:ai}{s:aw}{F:List V}(S:bu N q o)(hd:A.handled=M)(D:GU P w K i base A t s H)(hl:F.length=q.length)(r:cv F us)(x:InCallC s s.heap.objs.size (bindL (sE C o s.heap.objs.size f X).kindOf (q.zip us) λ_=>M) (fI (s.heap.objs.size+1) o.names []) (bindC (sE C o s.heap.objs.size f X).kindOf (q.zip us) λ_=>M) s1):
  Inv (xf CX P w K i base N C o f X A t s H E) [] (start N F) H s1:=by
 have hpl:q.length<=N.length:=by have:=congrArg t_ S.pre;rw[vf]at this;omega
 obtain⟨J,tk,rfl,hk⟩:=x.done;have d:∀b:az,b∉(xf CX P w K i base N C o f X A t s H E).ex:=λb m=>absurd (show b∈([]:List az) from m) Ž
 refine⟨⟨D.mod,S.kind,rfl,rfl,aH _,λy m c J z =>?_,λy Q =>?_,λy c _ h =>?_,λ_=>hd,Around.frames_deeper D.frames,.inr ⟨rfl,rfl⟩,λb m=>absurd m (d b),D.bs,D.Nj,λb _ _=>d b,λb m=>absurd m (d b),D.yb,D.RV⟩,
  rfl,D.bare,Un.kept hk,⟨_,x.toInCall.ns,λg y v J z h3 =>?_⟩,λy c h=>⟨_,x.cell y c h⟩,D.iw.fresh (aH _),λy c h =>?_,λp T=>absurd (show p∈([]:List (az×Obj)) from T) Ž,D.iw.kept hk,?_⟩
 ·exact name_of_addr x.apart (PySem.mem_of_lookup J) (PySem.mem_of_lookup z)
 ·have Q:o.names.lookup y=Y .cell\/o.names.lookup y=Y .free:=Q;rcases Q with Q|Q
  ·exact zW Q
  ·exact absurd rfl (S.Rm _ (PySem.mem_of_lookup Q))
 ·exact ib (x.above y c (PySem.mem_of_lookup h))
 ·have L:g<F.length:=by
   unfold start at z;by_cases L:g<F.length
   ·exact L
   ·rw[iy (by simpa using L)]at z;rw[Nm]at z;split at z<;>cases z
  have ha:F[g]?=Y v:=by
   unfold start at z;rw[b_ (by simpa using L),aF]at z;rcases e:F[g]? with _|a
   ·rw[e]at z;cases z
   rw[e]at z;cases z;rfl
  obtain⟨u,hu,rv⟩:=r.get ha;have T:q[g]?=Y y:=by rw[<- S.pre,List.getElem?_take_of_lt (by omega)];exact J
  have R:q.Nodup:=by rw[<- S.pre];exact S.nd.sublist (List.take_sublist _ _)
  refine⟨u,rv,?_⟩;rcases S.par y (SY T) with k|k
  ·exact .inl ⟨k,BK R T hu k⟩
  ·obtain⟨c,e⟩:=zW (n:=s.heap.objs.size+1) k;refine .inr ⟨.inl k,c,e,?_⟩;have l:=x.cell y c e;rw[BM R T hu (by show o.names.lookup y≠_;rw[k];decide)]at l;exact l
 ·exact D.iw.fresh (ib (x.above y c (PySem.mem_of_lookup h)))
 ·unfold start;show _=N.length;rw[aJ,aq,List.length_replicate];omega
theorem Vh{P:bh}{K:aT}{f:az}{name:aM}{m:Arguments}{kV ct oc:ai}(lk:K.lookup f=Y ⟨oc,od,.func (fnOf name h m p c dV kV Qg pm an l ct),Xe⟩)(Zu:codeIn K l h=Z')(S:bu N q c)(T:∀D H Q E,sp D H Q E->D.length=q.length) (d:∀(A:ip) (g:List Env) (s:aw) (H:Hp) (D:List V) (Q:VK) (E:XK),gc k (A.deeper (sE h c s.heap.objs.size f l))->sp D H Q E ->
   ∃t,qQ (xf CX P w K i base N h c f l A g s H E) p t/\t { nx:=λ_ H'=>Q .eN H',rt:=Q } (start N D) H) :
  cq P w K i base CX (k+1) f (fnOf name h m p c dV kV Qg pm an l ct) q sp:=by
 refine⟨T,λA g s H args us D Q E hr e0 hb r X =>?_⟩;have hl:=T _ _ _ _ X;have KX:K.In s.heap:=e0.mod.UU.keeps λb o e=>(e0.bs b o e).1
 have lim:s.heap.NoLimit:=e0.mod.nolimit.keeps λb o e=>(e0.bs b o e).1
 have F:∀y∈q.zip us,c.names.lookup y.1=Y .local\/(c.names.lookup y.1=Y .cell/\((fI (s.heap.objs.size+1) c.names []).lookup y.1).isSome=Z'):=λ⟨n,v⟩ hy=>by
  rcases S.par n (wt hy).1 with a|a
  ·exact .inl a
  ·exact .inr ⟨a,PySem.W.cellsFrom_some _ _ _ (.inl a)⟩
 refine codeAny_call_function hr.depth (KX _ _ lk) rfl S.co S.gen rfl (PySem.W.codeRec_of KX Zu) (hb _ _ _ _ ?_);refine wpAny_newFunctionEnv_cells S.kind F λenv he s1 x =>?_
 subst he;refine⟨lim.keeps x.toInCall.keep,codeAny_func ?_⟩;obtain⟨t,ht,hq⟩:=d A g s H D Q E (hr.deeper _) X;have I:Inv (xf CX P w K i base N h c f l A g s H E) [] (start N D) H s1:=JD S hr.hd e0 hl r x;refine ij (ht [] s1 (start N D) H _ I hq) (λfl s' R =>?_) λe s' R=>R
 have lF:∀ {C:St}{H':Hp}{v:V}{u:ai},Inv (xf CX P w K i base N h c f l A g s H E) [] C H' s'->RelV v u->Q v H'->CE g P w H s Q u s':=
  fun {C H' v u} J rv a=>⟨v,H',J.os,J.bare,J.base,J.iw,rv,a⟩
 cases fl with
 |ret u=>obtain⟨v,C,H',J,rv,a⟩:=R;exact lF J rv a
 |next=>obtain⟨C,H',J,a⟩:=R;exact lF (v:=V.eN) (u:=SV) J rfl a
 |_=>obtain⟨_,_,_,a⟩:=R;exact wo a
section
variable {X:Cx}{id:String}
def WJ(r:List V->Hp->VK->Prop)(t:TA):TE:=λU H Q=>t U H λa O=>r a O Q
def vA(A:mu X (.builtin id) r)(v:Gl X x)(u:X.mg x=M)(m:fZ x=Y (.builtin id))(C:PA X (e::es) t)(o:autoParam (x ≠ "__name__") Ű)(b:autoParam ((x==("__debug__" : aM))=false) Ű)(w:autoParam (av (e::es) X.env=(Z_,eval e X.env)::av es X.env) Ų)(a:autoParam ((dt G (av es X.env)).any (·.1)=false) Ų):PE X (.Call (.Name x p) (e::es) [] G) (WJ r t):=by
 intro B s U H Q I h;refine jf (rj I v u m ?_ o b);exact pH (fS (C G B s U H _ I h) (by rintro f g ⟨c,O,D,k,l⟩;exact A B g U O c f Q D k l)) w a
def Je(A:mu X (.type T) r)(v:Gl X x)(u:X.mg x=M)(m:fZ x=Y (.type T))(C:PA X (e::es) t)(o:autoParam (x ≠ "__name__") Ű)(b:autoParam ((x==("__debug__" : aM))=false) Ű)(w:autoParam (av (e::es) X.env=(Z_,eval e X.env)::av es X.env) Ų)(a:autoParam ((dt G (av es X.env)).any (·.1)=false) Ų):PE X (.Call (.Name x p) (e::es) [] G) (WJ r t):=by
 intro B s U H Q I h;refine jf (rj I v u m ?_ o b);exact ia (fS (C G B s U H _ I h) (by rintro f g ⟨c,O,D,k,l⟩;exact A B g U O c f Q D k l)) w a
end
end L2
namespace HT
open PySem PyProof.Rows
section
open PySem.SeqAt
open PySem.AutoSeq1 (wpAny_loadPart')
open PySem.MeetsSeq PySem.MeetsSeq2 PySem.MeetsSeq3
end
section
variable {s:aw}
def O8{f:List ai}(K:IsTup s.heap t f.toArray)(d:IsTup s.heap b a.toArray)(v:f≠[])(J:a=[]->Q (.ref t) s)(z:a≠[]->Q (.ref s.heap.objs.size) { s with heap:=s.heap.push { cls :=.type "tuple",data :=.seq (f++a).toArray } })(o:f.length+a.length<=bc):bB (br prog w) A (dB .Add (.ref t) (.ref b)) Q E s:=by
 obtain⟨⟨P,D,F,r⟩,m,C,n,x⟩:=id K;obtain⟨⟨H,l,p,g⟩,c,k,u,h⟩:=id d;simp only at C x k h;subst C x k h;have e:f.toArray++a.toArray=(f++a).toArray:=by simp
 by_cases hw:a=[]
 ·exact concat_meets ⟨_,m,rfl⟩ ⟨_,c,rfl⟩ M9 seq_tuple_add PySem.F.slot_tuple_add PySem.F.entry_tuple_add (PySem.F.args_tuple_add_2 _ _)
   (tuple_addW1 t b f.toArray a.toArray n u D l r g (by simpa using v) (by simp[hw])) ⟨m,c,J hw⟩
 ·refine concat_meets ⟨_,m,rfl⟩ ⟨_,c,rfl⟩ M9 seq_tuple_add PySem.F.slot_tuple_add PySem.F.entry_tuple_add (PySem.F.args_tuple_add_2 _ _)
   (tuple_addW2 t b f.toArray a.toArray n u D l r g (by simpa using v) (by simpa using hw) (by rw[aW,aW];exact o)) ⟨m,c,?_⟩
  rw[e];exact z hw
noncomputable def xX(n d:Nat):Option Int->Nat
 |none=>d|some v=>if v<0 then (v+(n:Int)).toNat else min v.toNat n
end
end HT
namespace L2
open PySem PySem.Spec PyProof.Rows
abbrev TO:=St->Hp->(Option Int->Hp->Prop)->Prop
def PO(X:Cx)(e:Option Expr)(t:TO):Prop:=
 ∀(B:List (az×Obj)) (s:aw) (U:St) (H:Hp) (Q:Option Int->Hp->Prop),Inv X B U H s->t U H Q ->
  bB (br X.prog X.w) X.A (evalPart e X.env) (λu s'=>∃o H',Inv X B U H' s'/\IsPart u o/\Q o H') X.xe s
def Nv:TO:=λ_ H Q=>Q M H
def TN(t:TE):TO:=λU H Q=>t U H λx O=>∃i,x=.int i/\Q (Y i) O
section
variable {X:Cx}
def N6:PO X M Nv:=by
 intro B s U H Q I h;rw[evalPart_none];exact bD ⟨M,H,I,.none,h⟩
def N5(h:PE X e te):PO X (Y e) (TN te):=by
 intro B s U H Q I hw;rw[evalPart_some];refine fS (h B s U H _ I hw) ?_;rintro u f ⟨x,O,c,a,b⟩;obtain⟨i,rfl,q⟩:=b;obtain⟨t,rfl⟩:=a;exact⟨Y i,O,c,.int i t,q⟩
def Yr(X:Cx)(r:V->Option Int->Option Int->Hp->VK->Prop):Prop:=
 ∀(B:List (az×Obj)) (s:aw) (U:St) (H:Hp) (x:V) (v b a:ai) (n L:Option Int) (c:az) (Q:VK),Inv X B U H s->RelV x v->s.heap.IsSliceOf c b a .none->IsPart b n->IsPart a L->r x n L H Q ->
  ∃T id,typeLookup (.type T) "__getitem__" = eQ (Y (.builtin id))/\s.TypeIs v T/\bB (br X.prog X.w) X.A (Kd v (.ref c)) (EP X B U Q) X.xe s
def tSl(r:V->Option Int->Option Int->Hp->VK->Prop)(te:TE)(tl th:TO):TE:=λU H Q=>te U H λx O=>tl U O λl d=>th U d λu a=>r x l u a Q
def DU(F:Yr X r)(P:PE X e te)(K:PO X n tl)(D:PO X L th):PE X (.Subscript e (.Slice n L M p2) G) (tSl r te tl th):=by
 intro B s U H Q I h;refine Subscript_ (fS (P B s U H _ I h) ?_);rintro v m ⟨x,O,I1,o,w⟩;refine wpAny_Slice (fS (K B m U O _ I1 w) ?_);rintro f k ⟨l,d,I2,C,t⟩;refine fS (D B k U d _ I2 t) ?_;rintro c a ⟨u,g,I3,A,p⟩;rw[evalPart_none];refine bD ?_;have S:Inv X B U g { a with heap:=a.heap.push { cls :=.type "slice",data :=.fields #[f,c,.none] } }:=I3.kept (t':=a.toks) λb ob q=>ak _ q
 obtain⟨T,id,R,E,i⟩:=F B { a with heap:=a.heap.push { cls :=.type "slice",data :=.fields #[f,c,.none] } } U g x v f c l u a.heap.objs.size Q S o (Heap.IsSliceOf.new ..) C A p;show bB (br X.prog X.w) X.A (subscriptTail e (.Slice n L M p2) v (.ref a.heap.objs.size)) (EP X B U Q) X.xe { a with heap:=a.heap.push { cls :=.type "slice",data :=.fields #[f,c,.none] } };exact tail_any (ops:=[.ref a.heap.objs.size,v]) E R i (by with_unfolding_all rfl)
def ER(xs:List V)(n L:Option Int):List V:=(xs.drop (HT.xX xs.length 0 n)).take (HT.xX xs.length xs.length L-HT.xX xs.length 0 n)
def EO(xs:List V)(n L:Option Int):(ER xs n L).length<=xs.length:=by
 unfold ER;rw[vf,Fj];omega
def PQ(K:aT):R2:=λx y H Q=>∃a b xs ys,x=.ref a/\y=.ref b/\AM K H a xs/\AM K H b ys/\xs≠[]/\xs.length+ys.length<=bc /\
 (ys=[]->Q (.ref a) H)/\(ys≠[]->∀p,H p=M->Q (.ref p) (dg H p (.tup (xs++ys))))
def cv.Cd(r:cv xs a):a=[]↔xs=[]:=by
 cases r with|_=>simp
def Hv:pG X (dB .Add) (PQ X.K):=by
 intro B s U H x y v u Q I l k h;obtain⟨a,b,xs,ys,rfl,rfl,C,A,t,g,o,m⟩:=h;cases l;cases k;obtain⟨r,e,p,_⟩:=I.tuple C;obtain⟨f,c,p2,_⟩:=I.tuple A;refine HT.O8 p p2 (λz=>t (e.Cd.mp z)) (λz=>⟨.ref a,H,I,rfl,o (c.Cd.mp z)⟩) (λz =>?_) (by rw[<- e.length,<- c.length];exact g);refine⟨.ref s.heap.objs.size,_,I.laid (t':=s.toks) (o :=.tup (xs++ys)) (λb D q=>ak _ q) (aH _) ?_,rfl,m (λw=>z (c.Cd.mpr w)) _ (I.iw.fresh (aH _))⟩;exact⟨by rw[aJ];exact g,_,e.append c,IsTup.new _ _⟩
end
noncomputable def An(n:Nat)(i:Int):Option Nat:=if 0<=i then (if i<n then Y i.toNat else M) else if -(n:Int)<=i then Y (i+n).toNat else M
def oi{a:Type}(xs:List a)(i:Int):Option a:=(An xs.length i).bind λj=>xs[j]?
def Cn{n:Nat}(h:An n i=Y j):seqIndex? i n=Y j/\j<n /\ -(n:Int)<=i/\i<n:=by
 unfold An at h;by_cases a:0<=i
 ·rw[if_pos a]at h;by_cases J:i<n
  ·rw[if_pos J]at h;have e:i.toNat=j:=bU h;exact⟨by rw[seqIndex_of a J,e],ž,ž,J⟩
  ·rw[if_neg J]at h;cases h
 ·rw[if_neg a]at h;by_cases J : -(n:Int)<=i
  ·rw[if_pos J]at h;have e:(i+n).toNat=j:=bU h;exact⟨by rw[seqIndex_neg (by omega) J,e],ž,J,ž⟩
  ·rw[if_neg J]at h;cases h
def CV{v:a}(h:oi xs i=Y v):∃j,seqIndex? i xs.length=Y j/\xs[j]?=Y v/\j<xs.length /\ -(xs.length:Int)<=i/\i<xs.length:=by
 unfold oi at h;obtain⟨j,e,h⟩:=aa.1 h;obtain⟨J,z,c,b⟩:=Cn e;exact⟨j,J,h,z,c,b⟩
def gL{xs:List a}{j:Nat}{v:a}(h:xs[j]?=Y v):oi xs (j:Int)=Y v:=by
 have b:j<xs.length:=(af.mp h).1;have e:An xs.length (j:Int)=Y j:=by unfold An;rw[if_pos (by omega),if_pos (by omega)];simp
 unfold oi;rw[e];exact h
def C0(b:Expr):Prop:=∀o i,Nl b Z_ o i=operate [o,i] (Kd o i)
def Iy(X:Cx)(r:R2):Prop:=
 ∀(value a:Expr) (B:List (az×Obj)) (s:aw) (U:St) (H:Hp) (x y:V) (v u:ai) (Q:VK),Inv X B U H s->RelV x v->RelV y u->r x y H Q ->
  Nl a Z_ v u=operate [v,u] (Kd v u)->bB (br X.prog X.w) X.A (subscriptTail value a v u) (EP X B U Q) X.xe s
def ZX(X:Cx)(id:String)(r:V->List V->Hp->VK->Prop):Prop:=
 ∀(B:List (az×Obj)) (s:aw) (U:St) (H:Hp) (x:V) (xs:List V) (v:ai) (a:List ai) (Q:VK),Inv X B U H s->RelV x v->cv xs a->r x xs H Q ->
  bB (br X.prog X.w) X.A (call (.builtin id) (v::a)) (EP X B U Q) X.xe s
section
variable {X:Cx}
def Iy.or(h:Iy X r)(h':Iy X e):Iy X (λx y H Q=>r x y H Q\/e x y H Q):=by
 intro value a B s U H x y v u Q I c b q f;rcases q with q|q
 ·exact h value a B s U H x y v u Q I c b q f
 ·exact h' value a B s U H x y v u Q I c b q f
def rW(l:Iy X r)(o:PE X a N)(m:PE X b y)(k:C0 b):PE X (.Subscript a b G) (Tc r N y):=by
 intro B s U H Q I h;exact Subscript_ (Sz o m I h λv u e x c d p g f q=>l a b B e U d x c v u Q p g f q (k _ _))
def Ut(K:aT):R2:=λx y H Q=>∃p xs i v,x=.ref p/\y=.int i/\nX K H p xs/\oi xs i=Y v/\Q v H
def Ur(K:aT):R2:=λx y H Q=>∃p xs i v,x=.ref p/\y=.int i/\AM K H p xs/\oi xs i=Y v/\Q v H
def Us:R2:=λx y H Q=>∃z i c,x=.str z/\y=.int i/\z.length<=bc/\oi z.cps.toList i=Y c/\Q (.str ⟨#[c]⟩) H
def vL:Iy X (Ut X.K):=by
 intro value b B s U H x y v u Q I A o h k;obtain⟨p,xs,i,a,rfl,rfl,C,E,q⟩:=h;cases A;obtain⟨t,rfl⟩:=o;obtain⟨f,r,e,d⟩:=I.list C;obtain⟨j,J,z,R,K,F⟩:=CV E;obtain⟨w,m,c⟩:=r.get z;have D:=r.length;have P:=uS;have lF:EP X B U Q w s:=⟨a,H,I,c,q⟩;by_cases l:0<=i
 ·have g:i.toNat=j:=by rw[seqIndex_of l F]at J;exact bU J
  exact item_listR e.isList l ž (by rw[g];simpa using m) lF k
 ·have g:(i+(f.toArray.size:Int)).toNat=j:=by rw[seqIndex_neg (by omega) K]at J;rw[aW,<- D];exact bU J
  exact subscriptTail_builtinR (x:=w) e.isList.typeIs slot_list_getitem.lookup
   (wpAny_getItem_list_neg (Q:=λr s'=>r=w/\EP X B U Q r s') e.isList ž (by rw[aW]<;>omega) ž (by rw[g];simpa using m) ⟨rfl,lF⟩) k
def sY:Iy X (Ur X.K):=by
 intro value b B s U H x y v u Q I g f h l;obtain⟨p,xs,i,a,rfl,rfl,m,A,q⟩:=h;cases g;obtain⟨t,rfl⟩:=f;obtain⟨k,r,e,D⟩:=I.tuple m;obtain⟨j,J,z,d,K,F⟩:=CV A;obtain⟨w,C,c⟩:=r.get z;have o:=r.length;have E:=uS;have lF:EP X B U Q w s:=⟨a,H,I,c,q⟩;exact subscriptTail_builtinR (x:=w) e.typeIs slot_tuple_getitem.lookup
  (getItem_tuple (j:=j) (Q:=λr s'=>r=w/\EP X B U Q r s') e ž ž (by rw[aW,<- o];exact J) (by simpa using C) ⟨rfl,lF⟩) l
def RA:Iy X Us:=by
 intro value b B s U H x y v u Q I f e h g;obtain⟨a,i,c,rfl,rfl,A,l,q⟩:=h;obtain⟨t,rfl⟩:=f;obtain⟨w,rfl⟩:=e;obtain⟨j,J,z,D,o,m⟩:=CV l;have k:a.cps.toList.length=a.length:=by simp[Str.length]
 rw[k]at J o m;have C:=uS;exact tail_any (typeIs_str s a t) slot_str_getitem.lookup (getItem_str (c:=c) (by have r:decide (i < -(2 ^ 63:Int))=false:=decide_eq_false ž;have p:decide (i ≥ 2 ^ 63)=false:=decide_eq_false ž;rw[r,p,Bool.or_false]) (by rw[J];simpa using z) ⟨.str ⟨#[c]⟩,H,I.tok _,⟨_,rfl⟩,q⟩) g
def rIx(K:aT):R2:=λx y H Q=>Ut K x y H Q\/Ur K x y H Q\/Us x y H Q
def RB:Iy X (rIx X.K):=vL.or (sY.or RA)
def Gi(a:List ai)(n j:Nat)(u:ai):mU (·.setIfInBounds j u) { cls :=.type "list",data :=.seq a.toArray n }={ cls :=.type "list",data :=.seq (a.set j u).toArray n }:=by
 simp[mU]
def Inv.lst{s:aw}{p:az}{xs:List V}(I:Inv X B U H s)(h:H p=Y (.lst xs)):
  ∃(a:List ai) (n:Nat),cv xs a/\s.heap.get? p=Y { cls :=.type "list",data :=.seq a.toArray n }/\xs.length<=bc:=by
 obtain⟨z,a,n,r,e⟩:=I.iw p _ h;exact⟨a,n,r,e,z⟩
def Inv.Rq{B:List (az×Obj)}{U:St}{H:Hp}{s:aw}{p:az}{xs ys:List V}{c a:List ai}{n g:Nat}{f:Obj->Obj}(I:Inv X B U H s)(h:H p=Y (.lst xs))(m:s.heap.get? p=Y { cls :=.type "list",data :=.seq c.toArray n })(k:f { cls :=.type "list",data :=.seq c.toArray n }={ cls :=.type "list",data :=.seq a.toArray g })(r:cv ys a)(l:ys.length<=bc)(t:Nat):
  Inv X B U (dg H p (.lst ys)) { s with heap:=s.heap.update p f,toks:=t }:=by
 have e:(s.heap.update p f).get? p=Y { cls :=.type "list",data :=.seq a.toArray g }:=by rw[Heap.get?_update_self f m (by rw[k]<;>rfl),k]
 refine I.write (x:=p) (e:=p) (by rw[h];trivial) (.inl rfl) (λb u o q=>(qj _ _ (cg o)).trans q) ⟨_,e⟩ ?_;exact⟨l,a,g,r,e⟩
def PN:V->V->V->Hp->(Hp->Prop)->Prop:=λo i v H Q=>∃p xs k j,o=.ref p/\i=.int k/\H p=Y (.lst xs)/\An xs.length k=Y j/\Q (dg H p (.lst (xs.set j v)))
def M8:VG X PN:=by
 intro B s U H o i v F K u Q I A C x h;obtain⟨p,xs,k,j,rfl,rfl,f,E,q⟩:=h;cases A;obtain⟨t,rfl⟩:=C;obtain⟨a,n,r,b,D⟩:=I.lst f;obtain⟨J,z,l,g⟩:=Cn E;have c:=r.length;have d:=uS;have w:Inv X B U (dg H p (.lst (xs.set j v))) { s with heap:=s.heap.update p (mU (·.setIfInBounds j u)) }:=
  I.Rq f b (Gi a n j u) (r.set x j) (by rw[G_];exact D) s.toks
 by_cases m:0<=k
 ·have e:k.toNat=j:=by rw[seqIndex_of m g]at J;exact bU J
  exact PySem.W.ki_setAt b m ž (by rw[aW,<- c];exact g) (by rw[e];exact⟨_,w,q⟩)
 ·have e:(k+(a.toArray.size:Int)).toNat=j:=by rw[seqIndex_neg (by omega) l]at J;rw[aW,<- c];exact bU J
  exact PySem.W.ki_setBack b ž (by rw[aW,<- c];exact l) ž (by rw[e];exact⟨_,w,q⟩)
def B0(n L:Option Int)(a:Nat):(sk n L M a).1=((HT.xX a 0 n:Nat):Int)/\(sk n L M a).2.1=((HT.xX a a L:Nat):Int)/\(sk n L M a).2.2=1:=by
 refine⟨?_,?_,rfl⟩
 ·cases n with
  |none=>simp[sk,HT.xX]|some i=>
   simp only[sk,HT.xX,Option.getD_none,show (1:Int) > 0 by decide,if_true];by_cases h:i<0
   ·simp only[h,if_true]<;>omega
   ·simp only[h,if_false]<;>omega
 ·cases L with
  |none=>simp[sk,HT.xX]|some i=>
   simp only[sk,HT.xX,Option.getD_none,show (1:Int) > 0 by decide,if_true];by_cases h:i<0
   ·simp only[h,if_true]<;>omega
   ·simp only[h,if_false]<;>omega
def Ay(a:List ai)(n L:Option Int):slicePick a.toArray n L M=((a.drop (HT.xX a.length 0 n)).take (HT.xX a.length a.length L-HT.xX a.length 0 n)).toArray:=by
 obtain⟨J,z,b⟩:=B0 n L a.toArray.size;unfold slicePick;rw[J,z,b];simp only[sliceRange_one,pick_run,aW]<;>rfl
def W4(K:aT):V->Option Int->Option Int->Hp->VK->Prop:=λx n L H Q=>∃a xs,x=.ref a/\nX K H a xs/\∀p,H p=M->Q (.ref p) (dg H p (.lst (ER xs n L)))
def NG:Yr X (W4 X.K):=by
 intro B s U H x v u t n L w Q I f p k g h;obtain⟨a,xs,rfl,o,q⟩:=h;cases f;obtain⟨l,r,e,m⟩:=I.list o;have c:=r.length;refine⟨"list",_,slot_list_getitem.lookup,e.isList.typeIs,?_⟩;refine wpAny_getItem_list_slice e.isList p k g .none Ž ?_ (by rw[aW]<;>omega);rw[Ay,<- c];refine⟨.ref s.heap.objs.size,_,I.laid (t':=s.toks) (o :=.lst (ER xs n L)) (λb A q=>ak _ q) (aH _) ?_,rfl,q _ (I.iw.fresh (aH _))⟩;exact⟨bq (EO xs n L) m,_,0,(r.drop (HT.xX xs.length 0 n)).take (HT.xX xs.length xs.length L-HT.xX xs.length 0 n),bz _ rfl⟩
noncomputable def rY:V->Bool
 |.eN=>Z'|.bl _=>Z'|.int _=>Z'|.str _=>Z'|_=>Z_
noncomputable def Qd:V->V->Bool
 |.eN,.eN=>Z'|.bl a,.bl b=>a==b|.bl a,.int b=>(if a then 1 else 0)==b
 |.int a,.bl b=>a==(if b then 1 else 0)
 |.int a,.int b=>a==b|.str a,.str b=>a==b|_,_=>Z_
def R1{A:ip}{s:aw}{y x:V}{u v:ai}(f:RelV y u)(c:RelV x v)(h:rY y=Z')(g:rY x=Z'):SeqAt.EqAt A s u v (Qd y x):=by
 cases y with
 |eN=>
  cases f;cases x with
  |eN=>cases c;exact SeqAt.EqAt.same _|bl b=>cases c;exact SeqAt.EqAt.none_bool b|int b=>obtain⟨t,rfl⟩:=c;exact SeqAt.EqAt.none_int b t
  |str b=>obtain⟨t,rfl⟩:=c;exact SeqAt.EqAt.none_str b t
  |_=>exact absurd (show Z_=Z' from g) bL
 |bl a=>
  cases f;cases x with
  |eN=>cases c;exact SeqAt.EqAt.bool_none a|bl b=>cases c;exact SeqAt.EqAt.bool_bool a b|int b=>obtain⟨t,rfl⟩:=c;exact SeqAt.EqAt.bool_int a b t
  |str b=>obtain⟨t,rfl⟩:=c;exact SeqAt.EqAt.bool_str a b t
  |_=>exact absurd (show Z_=Z' from g) bL
 |int a=>
  obtain⟨e,rfl⟩:=f;cases x with
  |eN=>cases c;exact SeqAt.EqAt.int_none a e|bl b=>cases c;exact SeqAt.EqAt.int_bool a e b|int b=>obtain⟨t,rfl⟩:=c;exact SeqAt.EqAt.int_int a e b t
  |str b=>obtain⟨t,rfl⟩:=c;exact SeqAt.EqAt.int_str a e b t
  |_=>exact absurd (show Z_=Z' from g) bL
 |str a=>
  obtain⟨e,rfl⟩:=f;cases x with
  |eN=>cases c;exact SeqAt.EqAt.str_none a e|bl b=>cases c;exact SeqAt.EqAt.str_bool a e b|int b=>obtain⟨t,rfl⟩:=c;exact SeqAt.EqAt.str_int a e b t
  |str b=>obtain⟨t,rfl⟩:=c;exact SeqAt.EqAt.str_str a e b t
  |_=>exact absurd (show Z_=Z' from g) bL
 |_=>exact absurd (show Z_=Z' from h) bL
def OK(x:V)(u:ai):Bool:=match u with
 |.none=>Qd .eN x|.bool b=>Qd (.bl b) x|.int i _=>Qd (.int i) x|.str z _=>Qd (.str z) x|_=>Z_
def Ms{x y:V}{u:ai}(r:RelV y u)(f:rY y=Z'):OK x u=Qd y x:=by
 cases y with
 |eN=>cases r;rfl|bl b=>cases r;rfl|int i=>obtain⟨t,rfl⟩:=r;rfl
 |str z=>obtain⟨t,rfl⟩:=r;rfl
 |_=>exact absurd (show Z_=Z' from f) bL
def Im{x:V}{xs:List V}{a:List ai}(h:cv xs a)(f:xs.all rY=Z'):a.any (OK x)=xs.any λy=>Qd y x:=by
 induction h with|nil=>rfl|cons r _ ih=>rw[km,aX]at f;rw[pX,pX,Ms r f.1,ih f.2]
def El{A:ip}{s:aw}{x:V}{v:ai}(c:RelV x v)(e:rY x=Z'){xs:List V}{b:List ai}(h:cv xs b)(f:xs.all rY=Z'):∀u∈b,SeqAt.EqAt A s u v (OK x u):=by
 induction h with
 |nil=>intro u a;cases a
 |cons r _ ih=>
  rw[km,aX]at f;intro g a;rcases aE.mp a with rfl|a
  ·rw[Ms r f.1];exact R1 r c f.1 e
  ·exact ih f.2 g a
def Tn(x:V)(xs:List V):Bool:=xs.any λy=>Qd y x
def YW(K:aT)(a:Bool):R2:=λx y H Q=>∃p xs,y=.ref p/\(nX K H p xs\/AM K H p xs)/\rY x=Z'/\xs.all rY=Z'/\Q (.bl (if a then !Tn x xs else Tn x xs)) H
def Jj:pG X (iT .In) (YW X.K Z_):=by
 intro B s U H x y v u Q I e g h;obtain⟨p,xs,rfl,b,f,j,q⟩:=h;cases g;rcases b with b|b
 ·obtain⟨a,r,c,k⟩:=I.list b;refine SeqAt.in_listAt (OK x) c.isList (λw hw=>El e f r j w (by simpa using hw)) ⟨.bl _,H,I,rfl,?_⟩;rw[show a.toArray.any (OK x)=a.any (OK x) by simp,Im r j];exact q
 ·obtain⟨a,r,c,k⟩:=I.tuple b;refine SeqAt.in_tupleAt (OK x) c (λw hw=>El e f r j w (by simpa using hw)) ⟨.bl _,H,I,rfl,?_⟩;rw[show a.toArray.any (OK x)=a.any (OK x) by simp,Im r j];exact q
def rH:mu X (.builtin "len") (λxs H Q=>∃p ys,xs=[.ref p]/\(nX X.K H p ys\/AM X.K H p ys)/\Q (.int ys.length) H):=by
 intro B s U H xs l Q I r h;obtain⟨p,ys,rfl,b,q⟩:=h;obtain⟨u,rfl,g⟩:=vals1 r;cases g;have m:=uS;rcases b with b|b
 ·obtain⟨f,c,e,k⟩:=I.list b;have a:=c.length;exact Calls.call_len_list e.isList (by simp only[aW]<;>omega) ⟨.int ys.length,H,I.tok _,⟨s.toks+1,by rw[aW,a]⟩,q⟩
 ·obtain⟨f,c,e,k⟩:=I.tuple b;have a:=c.length;exact len_tuple e (by simp only[aW]<;>omega) ⟨.int ys.length,H,I.tok _,⟨s.toks+1,by rw[aW,a]⟩,q⟩
def CQ:mu X (.builtin "len") (λxs H Q=>∃z,xs=[.str z]/\z.length<=bc/\Q (.int z.length) H):=by
 intro B s U H xs a Q I r h;obtain⟨z,rfl,b,q⟩:=h;obtain⟨u,rfl,t,rfl⟩:=vals1 r;have c:=uS;exact len_str ž ⟨.int z.length,H,I.tok _,⟨_,rfl⟩,q⟩
def mu.or{f:ai}(h:mu X f r)(h':mu X f c):mu X f (λxs H Q=>r xs H Q\/c xs H Q):=by
 intro B s U H xs a Q I b q;rcases q with q|q
 ·exact h B s U H xs a Q I b q
 ·exact h' B s U H xs a Q I b q
def CP:mu X (.type "list") (λxs H Q=>∃p ys,xs=[.ref p]/\(nX X.K H p ys\/AM X.K H p ys)/\∀l,H l=M->Q (.ref l) (dg H l (.lst ys))):=by
 intro B s U H xs D Q I r h;obtain⟨p,ys,rfl,m,q⟩:=h;obtain⟨u,rfl,C⟩:=vals1 r;cases C;have lF:∀(a:List ai),cv ys a->ys.length<=bc->∀(h':de) (f:Nat),(∀b o',s.heap.get? b=Y o'->h'.get? b=Y o') ->
   h'.get? s.heap.objs.size=Y { cls :=.type "list",dict:=M,data :=.seq a.toArray f,slots :=#[] }->EP X B U Q (.ref s.heap.objs.size) { s with heap:=h' }:=λa c k h' f g e=>
  ⟨.ref s.heap.objs.size,_,I.laid (t':=s.toks) g (aH _) (show gF X.prog X.w _ h' _ (.lst ys) from⟨k,a,f,c,e⟩),rfl,q _ (I.iw.fresh (aH _))⟩
 rcases m with m|m
 ·obtain⟨a,c,v,k⟩:=I.list m;have t:=c.length;obtain⟨o,w,A,n,x⟩:=v.isList;exact call_list_seq p (.inl rfl) w A x (λh' f g e=>lF a c k h' f g e) (by simp only[aW]<;>omega)
 ·obtain⟨a,c,v,k⟩:=I.tuple m;have t:=c.length;obtain⟨o,w,A,n,x⟩:=v;exact call_list_seq p (.inr rfl) w A x (λh' f g e=>lF a c k h' f g e) (by simp only[aW]<;>omega)
def Wy(K:aT)(T:String)(x:V)(H:Hp):Prop:=match x with
 |.str _=>T = "str"|.int _=>T = "int"| .ref p=>(T = "list" /\ ∃xs,nX K H p xs)\/(T = "tuple" /\ ∃o,K.lookup p=Y o/\o.cls=.type "tuple" /\o.dict=M) \/
   (T = "dict" /\((∃a,H p=Y (.dK a))\/∃a,H p=Y (.dT a)))\/(T = "set" /\ ∃S n,H p=Y (.set S n))
 |_=>False
theorem KE{s:aw}{v:ai}(I:Inv X B U H s)(r:RelV x v)(f:Wy X.K T x H):
  s.TypeIs v T/\∀a,v=.ref a->∃m,s.heap.get? a=Y m/\m.dict=none:=by
 cases x with
 |str z=>obtain⟨t,rfl⟩:=r;cases (show T = "str" from f);exact⟨typeIs_str s z t,λ_ e=>nomatch e⟩
 |int i=>obtain⟨t,rfl⟩:=r;cases (show T = "int" from f);exact⟨typeIs_int s i t,λ_ e=>nomatch e⟩
 |ref p=>
  cases r;rcases f with⟨rfl,xs,w⟩|⟨rfl,o,b,A,h⟩|⟨rfl,b⟩|⟨rfl,S,n,b⟩
  ·obtain⟨u,_,l,_⟩:=I.list w;refine⟨l.isList.typeIs,λa e =>?_⟩;cases e;obtain⟨o,n,e,c,h,_⟩:=l;exact⟨o,e,h⟩
  ·refine⟨⟨o,I.xN p o b,A⟩,λa e =>?_⟩;cases e;exact⟨o,I.xN _ o b,h⟩
  ·have z:∃o,s.heap.get? p=Y o/\o.ExactDict:=by
    rcases b with⟨g,b⟩|⟨g,b⟩
    ·obtain⟨_,_,_,_,o,_,_,e,ex,_⟩:=I.iw p _ b;exact⟨o,e,ex⟩
    ·obtain⟨_,_,_,_,o,_,_,e,ex,_⟩:=I.iw p _ b;exact⟨o,e,ex⟩
   obtain⟨o,e,ex⟩:=z;refine⟨⟨o,e,ex.1⟩,λa k =>?_⟩;cases k;exact⟨o,e,ex.2.1⟩
  ·obtain⟨o,_,_,_,e,ex,_⟩:=I.iw p _ b;refine⟨⟨o,e,ex.1⟩,λa k =>?_⟩;cases k;exact⟨o,e,ex.2.1⟩
 |_=>exact wo f
def T5(K:aT)(T:String)(r:V->List V->Hp->VK->Prop)(to:TE):TE:=λU H Q=>to U H λx O=>Wy K T x O/\r x [] O Q
def tBM(K:aT)(T:String)(r:V->List V->Hp->VK->Prop)(to:TE)(t:TA):TE:=λU H Q=>to U H λx O=>Wy K T x O/\t U O λxs d=>r x xs d Q
variable {name:aM}{id:String}
def Lq(p:PlainAttrs T)(c:Slot T name id)(e:typeOf (.builtin id)=eQ (.type "method_descriptor"))(u:ZX X id r)(t:PE X o to)(b:autoParam (cB o name X.env (eval o X.env)=eval o X.env) Ų)(a:autoParam ((u9.endLine==xg.line)=true) Ų):PE X (.Call (.Attribute o name u9) [] [] xg) (T5 X.K T r to):=by
 intro B s U H Q I h;refine wpAny_Call_method0_late b a (fS (t B s U H _ I h) ?_);rintro v l ⟨x,O,g,f,k,m⟩;obtain⟨J,z⟩:=KE g f k;exact⟨T,id,p,c,e,J,z,Aj rfl (PySem.evalArgs_none (u B l U O x [] v [] Q g f .nil m))⟩
def rX(i:PlainAttrs T)(f:Slot T name id)(k:typeOf (.builtin id)=eQ (.type "method_descriptor"))(S:ZX X id r)(R:PE X o to)(ha:PA X (e::es) t)(c:autoParam (cB o name X.env (eval o X.env)=eval o X.env) Ų) (g:autoParam (((dt xg (av (e::es) X.env)).all (λx=> !x.1)&&(jg xg (eJ [] X.env)).all (λx=>x.1.isSome)
   && decide ((e::es).length+([]:List oP).length+(if ([]:List oP).isEmpty then 0 else 1)<30))=true) Ų) (b:autoParam ((u9.endLine==xg.line)=true) Ų) (P:autoParam (av (e::es) X.env=(Z_,eval e X.env)::av es X.env) Ų) (a:autoParam ((dt xg (av es X.env)).any (·.1)=false) Ų) :
  PE X (.Call (.Attribute o name u9) (e::es) [] xg) (tBM X.K T r to t):=by
 intro B s U H Q I h;refine wpAny_Call_method_late c g b rfl (fS (R B s U H _ I h) ?_);rintro v D ⟨x,O,p,l,A,K⟩;obtain⟨J,z⟩:=KE p l A;refine⟨T,id,i,f,k,J,z,?_⟩;have m:=ha xg B D U O _ p K;rw[P]at m ⊢;refine Aj (by show (Z_||(dt xg (av es X.env)).any (·.1))=Z_;rw[a]<;>rfl) (Calls.evalArgs_plain ?_);exact fS m <|by rintro w C ⟨u,d,I2,E,F⟩;exact S B C U d x u v w Q I2 l E F
end
def Yt(X:Cx)(id:String)(r:V->List V->Hp->VK->Prop):Prop:=
 ∀(B:List (az×Obj)) (s:aw) (U:St) (H:Hp) (x:V) (xs:List V) (v:ai) (a:List ai) (Q:VK),Inv X B U H s->RelV x v->cv xs a->r x xs H Q ->
  bB (br X.prog X.w) X.A (call (.builtin id) (v::a)) (EP X B U Q) X.xe s
def cv.one{x:V}{a:List ai}(h:cv [x] a):∃u,a=[u]/\RelV x u:=by
 rcases h with _|⟨r,_|_⟩;exact⟨_,rfl,r⟩
def cv.two{x y:V}{a:List ai}(h:cv [x,y] a):∃u v,a=[u,v]/\RelV x u/\RelV y v:=by
 rcases h with _|⟨r,_|⟨q,_|_⟩⟩;exact⟨_,_,rfl,r,q⟩
def cv.zero{a:List ai}(h:cv [] a):a=[]:=by cases h;rfl
def cv.dropLast(h:cv xs a):cv xs.dropLast a.dropLast:=by
 induction h with
 |nil=>exact .nil|cons r t ih=>
  cases t with|nil=>exact .nil|cons q b=>exact .cons r ih
theorem cv.rep(h:cv xs a):∀k:Nat,cv (bS k xs).flatten (bS k a).flatten
 |0 =>.nil|k+1=>by rw[gV,gV,kU,kU];exact cv.append h (cv.rep h k)
def GA(l:List c):l.eraseIdx (l.length-1)=l.dropLast:=by
 induction l with
 |nil=>rfl|cons a r ih=>
  cases r with
  |nil=>rfl|cons b r=>
   have e:(a::b::r).length-1=((b::r).length-1)+1:=by have J:(a::b::r).length=r.length+2:=rfl;have z:(b::r).length=r.length+1:=rfl;omega
   rw[e,List.eraseIdx_cons_succ,ih]
   all_goals rfl
theorem foldl_rep(a:List ai):∀(k:Nat) (b:List ai),
  List.foldl (λf c=>f++c) b.toArray (bS k a.toArray)=(b++(bS k a).flatten).toArray
 |0,b=>by simp
 | k+1,b=>by
  have e:b.toArray++a.toArray=(b++a).toArray:=by simp
  have g:(b++a)++(bS k a).flatten=b++(bS (k+1) a).flatten:=by rw[gV,kU,bV]
  rw[<- g,<- foldl_rep a k (b++a),<- e,gV,List.foldl_cons]
section
variable {X:Cx}{s:aw}
def Inv.Rr{a its':List ai}{n:Nat}{f:Array ai->Array ai}{t':Nat}(I:Inv X B U H s)(m:H l=Y (.lst xs))(e:s.heap.get? l=Y { cls :=.type "list",data :=.seq a.toArray n })(h:f a.toArray=its'.toArray)(c:cv ys its')(b:ys.length<=bc):
  Inv X B U (dg H l (.lst ys)) { s with heap:=s.heap.update l (mU f),toks:=t' }:=by
 have q:=PySem.IsL.update e f;rw[h]at q;refine I.write (x:=l) (e:=l) (by rw[m];exact trivial) (.inl rfl) (λo u k g=>(qj s.heap (mU f) (cg k)).trans g) ⟨_,q⟩ ?_;exact⟨b,its',_,c,q⟩
def Inv.US{t':Nat}(I:Inv X B U H s)(c:cv ys a)(b:ys.length<=bc):
  Inv X B U (dg H s.heap.objs.size (.lst ys)) { s with heap:=s.heap.push { cls :=.type "list",data :=.seq a.toArray },toks:=t' }:=
 I.laid (λ_ _ q=>ak _ q) (aH _) ⟨b,a,0,c,bz _ rfl⟩
def Inv.fresh(I:Inv X B U H s):H s.heap.objs.size=none:=I.iw.fresh (aH _)
def Inv.Gm(I:Inv X B U H s)(b:H l=Y (.lst xs)):xs.length<=bc/\∃(a:List ai) (n:Nat),cv xs a/\xs.length=a.length/\s.heap.get? l=Y { cls :=.type "list",data :=.seq a.toArray n }:=by
 obtain⟨z,a,n,r,e⟩:=I.iw l _ b;exact⟨z,a,n,r,r.length,e⟩
def Ed(h:n<=bc):oD n=false:=by
 unfold oD;exact decide_eq_false ž
end
section
variable {X:Cx}
def NV:V->List V->Hp->VK->Prop:=λx a H Q=>∃l xs y,x=.ref l/\a=[y]/\H l=Y (.lst xs)/\xs.length<bc/\Q .eN (dg H l (.lst (xs++[y])))
def gX:Yt X "list.append" NV:=by
 intro B s U H x k v m Q I c f h;obtain⟨l,xs,y,rfl,rfl,b,o,q⟩:=h;cases c;obtain⟨u,rfl,g⟩:=f.one;obtain⟨z,a,n,r,p,e⟩:=I.Gm b;refine GY F.slot_list_append ⟨_,e,rfl⟩ F.entry_list_append (F.args_list_append_2 _ _) (PySem.list_append l a.toArray n u (by rw[aW];omega)) ⟨e,?_⟩;refine⟨.eN,_,I.Rr (its':=a++[u]) b e Ž (r.append (.cons g .nil)) ?_,rfl,q⟩;rw[aJ,cJ];omega
def NU:V->List V->Hp->VK->Prop:=λx a H Q=>∃l b xs zs,x=.ref l/\a=[.ref b]/\H l=Y (.lst xs)/\H b=Y (.lst zs)/\xs.length+zs.length<=bc/\Q .eN (dg H l (.lst (xs++zs)))
def Jp:Yt X "list.extend" NU:=by
 intro B s U H x K v d Q I m o h;obtain⟨l,b,xs,zs,rfl,rfl,k,C,P,q⟩:=h;cases m;obtain⟨u,rfl,p⟩:=o.one;cases p;obtain⟨z,c,n,r,R,e⟩:=I.Gm k;obtain⟨E,a,w,t,A,D⟩:=I.Gm C;have g:c.toArray.size+a.toArray.size<=bc:=by rw[aW,aW];omega
 have f:¬(!c.toArray.isEmpty&&oD (c.toArray.size+a.toArray.size))=true:=by rw[Ed g,Kj];exact bL
 refine GY F.slot_list_extend ⟨_,e,rfl⟩ F.entry_list_extend (F.args_list_extend_2 _ _)
  (AutoSeq1.list_extend_list_list_0 l c.toArray n b a.toArray w f (by rw[aW];omega) ž) ⟨e,D,?_⟩
 refine⟨.eN,_,I.Rr (its':=c++a) k e Ž (r.append t) ?_,rfl,q⟩;rw[aJ];omega
def Uq:V->List V->Hp->VK->Prop:=λx a H Q=>∃l xs y,x=.ref l/\a=[]/\H l=Y (.lst xs)/\xs[xs.length-1]?=Y y/\Q y (dg H l (.lst xs.dropLast))
def LM:Yt X "list.pop" Uq:=by
 intro B s U H x w v A Q I g k h;obtain⟨l,xs,y,rfl,rfl,f,o,q⟩:=h;cases g;have c:=k.zero;subst c;obtain⟨z,a,n,r,t,e⟩:=I.Gm f;obtain⟨u,p,m⟩:=r.get o;have b:a.toArray[a.toArray.size-1]?=Y u:=by show a.toArray[a.length-1]?=Y u;rw[<- Qk,<- t];exact p
 refine GY F.slot_list_pop ⟨_,e,rfl⟩ F.entry_list_pop (F.args_list_pop_1 _) (MeetsSeq.list_pop_last l a.toArray n u b (by rw[aW];omega)) ⟨e,?_⟩;refine⟨y,_,I.Rr (its':=a.dropLast) f e ?_ r.dropLast ?_,m,q⟩
 ·show a.toArray.eraseIdxIfInBounds (a.toArray.size-1)=a.dropLast.toArray;rw[aW,List.eraseIdxIfInBounds_toArray,GA]
 ·rw[List.length_dropLast];omega
def W6:R2:=λx y H Q=>∃l b xs zs,x=.ref l/\y=.ref b/\H l=Y (.lst xs)/\H b=Y (.lst zs)/\xs.length+zs.length<=bc/\∀p,H p=M->Q (.ref p) (dg H p (.lst (xs++zs)))
def Q':pG X (dB .Add) W6:=by
 intro B s U H x y v u Q I g f h;obtain⟨l,b,xs,zs,rfl,rfl,o,p,D,q⟩:=h;cases g;cases f;obtain⟨z,c,n,r,E,e⟩:=I.Gm o;obtain⟨A,a,C,k,m,w⟩:=I.Gm p;refine PySem.P.add_list e w ?_ (by rw[aW,aW];omega);have t:c.toArray++a.toArray=(c++a).toArray:=by simp
 rw[t];exact⟨.ref _,_,I.US (t':=s.toks) (r.append k) (by rw[aJ];omega),rfl,q _ I.fresh⟩
def W5:R2:=λx y H Q=>∃l k xs,x=.ref l/\y=.int k/\H l=Y (.lst xs) /\ -(2 ^ 63)<=k/\k<2 ^ 63/\xs.length*k.toNat<=bc /\
 ∀p,H p=M->Q (.ref p) (dg H p (.lst (bS k.toNat xs).flatten))
def Pl(xs:List a)(k:Nat):(bS k xs).flatten.length=k*xs.length:=by
 induction k with|zero=>simp|succ k ih=>rw[gV,kU,aJ,ih,Pp,Nat.add_comm]
def Q8:pG X (dB .Mult) W5:=by
 intro B s U H x y v u Q I rx ry h;obtain⟨l,k,xs,rfl,rfl,hH,J,z,hz,q⟩:=h;cases rx;obtain⟨t,rfl⟩:=ry;obtain⟨c,Fl,n,r,hl,e⟩:=I.Gm hH;have GW:Fl.toArray.size*k.toNat<=bc:=by rw[aW,<- hl];exact hz
 have XS:¬Fl.toArray.size*k.toNat > (2 ^ 63-1)/8:=by
  have:(bc:Nat)<=(2 ^ 63-1)/8:=by decide
  omega
 have XO:¬(!Builtin.List.listFitsIndex k)=true:=by rw[fitsIndex_both J z];exact bL
 have U_:¬oD (Fl.toArray.size*k.toNat)=true:=by rw[Ed GW];exact bL
 have RL:List.foldl (λx1 x2=>x1++x2) #[] (bS (if Fl.toArray.isEmpty=Z' then 0 else k.toNat) Fl.toArray)=(bS k.toNat Fl).flatten.toArray:=by
  have f0:∀m:Nat,List.foldl (λx1 x2=>x1++x2) #[] (bS m Fl.toArray)=(bS m Fl).flatten.toArray:=λm=>by have:=foldl_rep Fl m [];rw[dI]at this;exact this
  rw[f0];cases Fl with
  |nil=>simp|cons a r'=>rw[if_neg (by simp)]
 refine wpAny_binaryOp_repeat_ref (T:= "list") (U:= "int") ſ ⟨_,e,rfl⟩ (λs'=>typeIs_int s' k t) noFill_list_mul F.fills_int_mul F.slot_int_rmul repeat_list F.slot_int_index.lookup
  (GY F.slot_int_rmul (typeIs_int s k t) F.entry_int_rmul (F.args_int_rmul_2 _ _) (int___rmul___int_list k t l Fl.toArray n)
   ⟨e,rfl,⟨_,e,rfl⟩,GY F.slot_list_mul ⟨_,e,rfl⟩ F.entry_list_mul (F.args_list_mul_2 _ _) (AutoListH.list___mul___list_int_3 l Fl.toArray n k t XO XS U_) ⟨e,?_⟩⟩)
 rw[RL];exact⟨.ref _,_,I.US (t':=s.toks) (r.rep k.toNat) (by rw[Pl,Nat.mul_comm];exact hz),rfl,q _ I.fresh⟩
end
section
variable {s:aw}
end
section
variable {X:Cx}
end
end L2
namespace Att
open PySem PySem.W PySem.Calls PyProof.Rows
def x_{P:Params}:∀(c:List Int) (e:List ai),WellAll P h e (c.map WData.int)->Fq e c:=by
 intro c
 induction c with
 |nil=>intro e w;rw[rP]at w;cases w;exact .nil
 |cons n c ih=>
  intro e w;rw[aI]at w;cases w with
  |cons a b=>cases a;exact .cons _ _ (ih _ b)
theorem IW{l:OpenLaw}{n:Nat}(A:l.most=Y n){P:Params}{h:de}{args:List WData}{c:List ai}(e:l.row.toRowW.claim.pre args=Z')(o:WellAll P h c args):
  ∃a s b,c=[cf a]/\args=[WData.list (b.map WData.int)]/\h.get? a=Y { cls :=.type "list",data :=.seq s.toArray }/\Fq s b/\b.length<=n:=by
 have p:WShape.hasAll [] args [.list .int]=true:=(pre_splitW e).1;have t:l.pre.holds [] { args:=args }=true:=(pre_splitW e).2;obtain⟨d,r,rfl,J,z⟩:=hasAllW_cons p;obtain rfl:=hasAllW_nil z;obtain⟨xs,rfl,C⟩:=hasW_list J;obtain⟨b,rfl⟩:=items_int C;have f:b.length<=n:=by
  unfold OpenLaw.pre at t;have m:(WTm.not (.lt (.lit (.int (n:Int))) (.len (.arg 0)))).holds [] { args:=[.list (b.map .int)] }=true:=by have m:=(holds_andW t).1;rw[A]at m;exact m
  have k:=condW_of m (w_not (w_lt w_lit (w_len_list (w_arg rfl))));rw[aq]at k;refine Nat.le_of_not_lt λq =>?_
  have w:(n:Int)<((b.length:Nat):Int):=by omega
  first
   |(rw[decide_eq_true w]at k;exact absurd k ſ)
   |(simp at k;omega)
 cases o with
 |cons v u=>
  cases u;cases v with|list x g=>exact⟨_,_,b,rfl,rfl,x,x_ b _ g,f⟩
def Jb(l:OpenLaw)(args:List WData):l.row.toRowW.claim.post args (.bool Z') args=true:=
 postW_of (r:=l.row.toRowW) (X:=(Z'==Z'))
  (show WShape.has [] (.bool Z') .bool=Z' by first|rfl|decide|simp[WShape.has,WShape.arms,WShape.armsAll])
  (show (WTm.eq .res (.lit (.bool Z'))).value [] { args:=args,res:=Y (.bool Z'),after:=args }=Y (.bool (Z'==Z')) from w_eq_bool (w_res rfl) w_lit) rfl
def EW{l:OpenLaw}{n:Nat}{q:bh}{e:List aM}{R:(aM->Option ai)->de->Prop}{Q:cX->de->Prop}{d:DefRec}(hn:l.most=Y n)(F:d.params.defaults=[]) (u:∀(w:cX) (c b:aw) (i C:aM->Option ai) (t:az) (o:Obj) (A x h:ai) (a:az) (k:List ai) (v:List Int),
   Ground q e [] R w c i C b.heap->Q w b.heap ->
   b.heap.get? t=Y o->o.data=.func (docDef d.name d.params d.body d.scope A x h)->b.heap.CodeRec x d.name->i d.name=Y (.ref t) ->
   b.heap.get? a=Y { cls :=.type "list",data :=.seq k.toArray }->Fq k v->v.length<=n->b.gens=#[] ->
   Ag (br l.prog w) Dj (.call (.ref t) ⟨[.ref a],[]⟩) (λr s'=>r=.ok (.ret (.bool Z'))/\OldK b.heap s'.heap/\s'.os=b.os/\Ft s'.gens) b) :
  WalkO q e R Q l.row.toRowW d [] (λf k=>PySem.call f k):=by
 intro w c b i C G j t o A x h dV S ho hd H P E hg args K as m y T D hlo;obtain rfl:dV=.none:=Dflts.none P F;obtain rfl:S=.none:=Dflts.noKw P;obtain⟨a,k,v,rfl,rfl,p,g,s⟩:=IW hn m D;refine enter_call (Ke (u w c b i C t o A x h a k v G j ho (fd_plain hd) H E p g s hg) λr s' X =>?_);obtain⟨rfl,z,h3,h4⟩:=X;exact⟨.inl ⟨.bool Z',.bool Z',[],rfl,λ_=>rfl,.bool Z',Jb l _,λ_=>⟨C9,λ_ hm=>(nomatch hm)⟩⟩,z,h3,h4⟩
section
variable {s:aw}{K:aT}
end
end Att
namespace L2
open PySem PySem.Spec PyProof.Rows
def IG{a:List ai}{b:List Int}(h:Fq a b):cv (b.map V.int) a:=by
 induction h with|nil=>exact .nil|cons n t h ih=>exact .cons ⟨t,rfl⟩ ih
def M0(H:Hp):Prop:=∀b,H b=M\/∃o xs,H b=Y (.Fm o (.lst xs))
def L5{P:bh}{K:aT}{f:aw}(KX:K.In f.heap)(S:f.heap.Ns bw i)(l:f.heap.Ns builtinsNs mb)(hbb:∀x:aM,x ≠ "__name__" ->mb x=fZ x)(T:f.heap.NoLimit)(hg:f.gens=#[])(ha:f.heap.get? a=Y { cls :=.type "list",data :=.seq A.toArray })(L:Fq A E)(hl:E.length<=bc)(hr:gc k Dj)(F:∀base:de,K.In base->base.Ns bw i->cq P w K i base CX k fa I [x] sp)(C:∀(s:aw) (u:ai),Kk s I ⟨[u],[]⟩ [(x,u)])(hsp:∀H:Hp,M0 H->nX K H a (E.map V.int)->sp [.ref a] H (λv _=>v=.bl Z') λ_ _ _=>False)(hCX:∀H e s',CX [] H f (λ_ _ _=>False) e s'->False):
  Ag (br P w) Dj (.call (.ref fa) ⟨[.ref a],[]⟩) (λr s'=>r=.ok (.ret (.bool Z'))/\OldK f.heap s'.heap/\s'.os=f.os/\Ft s'.gens) f:=by
 have rv:=IG L;have j:=L.length;have t:∀H:Hp,M0 H->nX K H a (E.map V.int)->qf P w H f.heap->(∀b,H b≠M->b=a)->(H a≠M->K.lookup a=M) ->
   Ag (br P w) Dj (.call (.ref fa) ⟨[.ref a],[]⟩) (λr s'=>r=.ok (.ret (.bool Z'))/\OldK f.heap s'.heap/\s'.os=f.os/\Ft s'.gens) f:=by
  intro H hO hS R hA hK;have g:∀ {b:az}{o:Obj},f.heap.get? b=Y o->H b=M->(Cr f.heap H).get? b=Y o:=λe n=>Mg e n
  have noA:∀ {b:az}{o:Obj}{es:Array DictEntry}{ep:Nat},f.heap.get? b=Y o->o.data=.dict es ep->H b=none:=fun {b o es ep} e d=>by
   rcases q:H b with _|u
   ·rfl
   have e':b=a:=hA b (by rw[q];simp);subst e';rw[ha]at e;cases e;have d':Data.seq A.toArray _=Data.dict es ep:=d;cases d'
  have p:∀ {b:az}{m:aM->Option ai},f.heap.Ns b m->(Cr f.heap H).Ns b m:=fun {b m} ⟨o,es,ep,e,d,r⟩=>⟨o,es,ep,g e (noA e d),d,r⟩
  have X:K.In (Cr f.heap H):=λb o e=>g (KX b o e) (by
   rcases q:H b with _|u
   ·rfl
   have e':b=a:=hA b (by rw[q];simp);subst e';rw[hK (by rw[q];simp)]at e;cases e)
  have hM:Mod K i (Cr f.heap H):=⟨X,p S,⟨mb,p l,hbb⟩,let ⟨mc,J,z⟩:=T;⟨mc,p J,z⟩⟩;have e0:GU P w K i (Cr f.heap H) Dj [] f H:=⟨rfl,hM,λb o e=>Oi e,Px (JH _ _),trivial,λb l=>absurd (show b∈([]:List az) from l) Ž,R,.of_eq hg⟩;refine Ke ((F _ X (p S)).run Dj [] f H ⟨[.ref a],[]⟩ [.ref a] [.ref a] _ _ hr e0 (C f (.ref a)) (.cons rfl .nil) (hsp H hO hS)) λr s' h =>?_
  cases r with
  |error e=>exact(hCX H e s' h).elim|ok fl=>
   cases fl with
   |ret u=>
    obtain⟨v,H',os,bare,un,Q,r',q⟩:=h;have q':v=.bl true:=q;subst q';obtain rfl:u=SW true:=r';refine⟨rfl,OldK.of_keep λb o e =>?_,os,bare⟩;cases q:H b with
    |none=>exact un.keep b o e q (by intro c;exact absurd (show b∈([]:List az) from c) Ž) Ž
    |some u=>
     rcases hO b with c|⟨ob,xs,c⟩
     ·rw[q]at c;cases c
     ·have z2:=un.CA b ob _ c;obtain⟨e1,_⟩:=R b _ c;obtain⟨e2,_⟩:=Q b _ z2;rw[e]at e1;cases e1;exact e2
   |_=>exact wo h
 cases hk:K.lookup a with
 |some o=>have e:=KX a o hk;rw[ha]at e;cases e;refine t (λ_=>M) (λ_ =>.inl rfl) (.inr ⟨_,A.toArray,_,hk,rfl,rfl,rfl,by rw[aW,j];exact hl,by simpa using rv⟩) (λb u c=>by have D:(M:Option HO)=Y u:=c;cases D) (λb c=>absurd rfl c) λc=>absurd rfl c
 |none=>
  refine t (λb=>if b=a then Y (.Fm { cls :=.type "list",data :=.seq A.toArray } (.lst (E.map V.int))) else M) (λb =>?_) (.inl (.inr ⟨{ cls :=.type "list",data :=.seq A.toArray },if_pos rfl⟩)) (λb u c =>?_) (λb c =>?_) λ_=>hk
  ·by_cases l:b=a
   ·exact .inr ⟨_,_,if_pos l⟩
   ·exact .inl (if_neg l)
  ·by_cases l:b=a
   ·have D:=(if_pos l).symm.trans c;cases D;subst l;exact⟨ha,by rw[aq];exact hl,A,_,rv,ha⟩
   ·have D:=(if_neg l).symm.trans c;cases D
  ·by_cases l:b=a
   ·exact l
   ·exact absurd (if_neg l) c
def Nq{l:PySem.W.OpenLaw}{n k:Nat}{q:bh}{c:List aM}{R:cX->de->Prop}{d:DefRec}{K:Params->aT}{CX:cX->SJ}{sp:cX->Sp}{x:aM}(X:l.most=Y n)(C:n<=bc)(E:d.params.defaults=[])(T:gc k Dj)(hY:∀(w:cX) (h:de),R w h->(K w.params).In h) (F:∀(w:cX) (i:aM->Option ai) (t:az) (h:de),(K w.params).In h->h.Ns bw i->i d.name=Y (.ref t) ->
   ∃I:dm,(∀(s:aw) (u:ai),Kk s I ⟨[u],[]⟩ [(x,u)]) /\
    ∀base:de,(K w.params).In base->base.Ns bw i->cq l.prog w (K w.params) i base (CX w) k t I [x] (sp w)) (A:∀(w:cX) (H:Hp) (a:az) (r:List Int),r.length<=n->M0 H->nX (K w.params) H a (r.map V.int)->sp w [.ref a] H (λv _=>v=.bl Z') λ_ _ _=>False) (y:∀(w:cX) (H:Hp) (s:aw) (e:ai) (s':aw),CX w [] H s (λ_ _ _=>False) e s'->False) :
  PySem.W.WalkO q c XP R l.row.toRowW d [] (λf P=>PySem.call f P):=by
 refine Att.EW X E λw Q m i mb t o pm cd Qg a P r G j ho hd Zu D p g b hg =>?_
 have S:=hY w _ j;obtain⟨I,hb,hF⟩:=F w i t _ S G.T.g D;exact L5 S G.T.g G.T.b G.T.builtins G.T.nolimit hg p g (bq b C) T hF hb (λH hO hS=>A w H a r b hO hS) λH e s'=>y w H m e s'
def Kx{l:PySem.W.OpenLaw}{n k:Nat}{q:bh}{b:List aM}{P:(aM->Option ai)->de->Prop}{t:cX->de->Prop}{d:DefRec}{K:Params->aT}{CX:SJ}{sp:aT->Sp}{x:aM}(D:l.most=Y n)(m:n<=bc)(o:d.params.defaults=[])(C:gc k Dj)(E:∀(w:cX) (h:de),t w h->(K w.params).In h) (F:∀(w:cX) (i:aM->Option ai) (r:az) (h:de),(K w.params).In h->h.Ns bw i->i d.name=Y (.ref r) ->
   ∃I:dm,(∀(s:aw) (u:ai),Kk s I ⟨[u],[]⟩ [(x,u)]) /\
    ∀base:de,(K w.params).In base->base.Ns bw i->cq l.prog w (K w.params) i base CX k r I [x] (sp (K w.params))) (g:∀(K:aT) (H:Hp) (a:az) (c:List Int),c.length<=n->M0 H->nX K H a (c.map V.int)->sp K [.ref a] H (λv _=>v=.bl Z') λ_ _ _=>False) (p:∀(H:Hp) (s:aw) (e:ai) (s':aw),CX [] H s (λ_ _ _=>False) e s'->False) :
  PySem.W.WalkO q b P t l.row.toRowW d [] (λf A=>PySem.call f A):=
 Nq (K:=K) (CX:=λ_=>CX) (sp:=λw=>sp (K w.params)) D m o C E F (λw H a c J z j=>g (K w.params) H a c J z j) λ_ H s e s'=>p H s e s'
noncomputable def du(s:rN)(j:Nat):rN:=match s with
 |.ClassDef _ _ _ a _ _ _ _ _ _ _=>a.getD j (.Pass ⟨0,0,0,0⟩)|_ =>.Pass ⟨0,0,0,0⟩
noncomputable def pU(s:rN):Arguments:=match s with
 |.FunctionDef _ a _ _ _ _ _ _ _ _=>a|_=>{ posonlyargs:=[],args:=[],vararg:=M,kwonlyargs:=[],kw_defaults:=[],kwarg:=M,defaults:=[] }
noncomputable def iD(s:rN):List rN:=match s with
 |.FunctionDef _ _ b _ _ _ _ _ _ _=>b|_=>[]
noncomputable def ay(s:rN):Scope:=match s with
 |.FunctionDef _ _ _ _ _ _ a _ _ _=>a|_=>{ kind :=.function,names:=[],isGenerator:=Z_,isCoroutine:=Z_ }
abbrev gU:SJ:=λ_ _ _ _ _ _=>False
abbrev E0:XK:=λ_ _ _=>False
def pj{X:Cx}:tD gU X E0:=λ_ _ _ _ _ _ _ h=>h.elim
structure ir(K:aT)(x qual:aM)(st:rN)(f:az)(fd:dm):Prop where
 ex:∃(oc:ai) (od:Option az) (kV Qg pm:ai) (an:Option az) (Ko ct:ai) (Xe:Array (Option ai)),
  fd=fnOf x qual (pU st) (iD st) (ay st) .none kV Qg pm an Ko ct/\K.lookup f=some ⟨oc,od,.func fd,Xe⟩/\codeIn K Ko qual=true
 kp:AO K (.ref f)=true
section
variable {P:bh}{K:aT}
def ir.ok{st:rN}{f:az}(F:ir K x c st f I)(S:bu N q (ay st))(m:∀g H Q E,sp g H Q E->g.length=q.length) (l:∀(e:ai) (A:ip) (b:List Env) (s:aw) (H:Hp) (g:List V) (Q:VK) (E:XK),gc k (A.deeper (sE c (ay st) s.heap.objs.size f e))->sp g H Q E ->
   ∃t,qQ (xf gU P w K i base N c (ay st) f e A b s H E).LH (iD st) t/\t { nx:=λ_ H'=>Q .eN H',rt:=Q } (start N g) H):cq P w K i base gU (k+1) f I q sp:=by
 obtain⟨d,D,R,v,C,X,e,T,r,rfl,lk,p⟩:=F.ex;refine Vh lk p S m λA b s H g Q E u o =>?_
 obtain⟨t,h,a⟩:=l e A b s H g Q E u o;exact⟨t,h.LH,a⟩
def ir.binds{st:rN}{f:az}(F:ir K x a st f I)(h:∀(k b g:ai) (m:Option az) (c l:ai) (e:List ai),e.length=q.length->bindArgs (fnOf x a (pU st) (iD st) (ay st) .none k b g m c l) ⟨e,[]⟩=eQ (q.zip e)):Binds K I q []:=by
 obtain⟨s,r,k,b,g,m,c,l,o,rfl,lk,p⟩:=F.ex;exact .all (h k b g m c l)
def Mo{st:rN}{f:az}{s:ai}{m:ai}(l:K.lookup f=Y ⟨s,r,.func (fnOf x a (pU st) (iD st) (ay st) .none m e h p b o),g⟩)(c:codeIn K b a=Z')(k:AO K (.ref f)=Z'):ir K x a st f (fnOf x a (pU st) (iD st) (ay st) .none m e h p b o):=⟨⟨s,r,m,e,h,p,b,o,g,rfl,l,c⟩,k⟩
end
def zD(a:gc k A):A.units+1<su:=Nat.lt_of_le_of_lt (Nat.add_le_add_left (by decide:1<=64) _) a.units
section
variable {X:Cx}
def pv(i:Nat)(e:autoParam (X.N[i]?=Y x) Ų)(b:autoParam (SD X.env.scope x) Ŷ)(c:autoParam ((x==("__debug__" : aM))=false) Ű)(a:autoParam ((x==("__classdict__" : aM))=false) Ű):PE X (.Name x G) (ko i):=Q2 e b c a
end
def uk{A B:Prop}(h:B):if Z_=Z' then A else B:=by
 rw[if_neg bL];exact h
def uU{A B:Prop}(h:A):if Z'=Z' then A else B:=by
 rw[if_pos rfl];exact h
def Gp{c A B:Prop}[Decidable c](J:c->A)(z:¬c->B):if c then A else B:=by
 by_cases h:c
 ·rw[if_pos h];exact J h
 ·rw[if_neg h];exact z h
def a_(H H':Hp):Prop:=∀b o,H b=Y o->H' b=Y o
def a_.refl(H:Hp):a_ H H:=λ_ _ h=>h
def a_.trans{d:Hp}(a:a_ H O)(b:a_ O d):a_ H d:=λc o h=>b c o (a c o h)
def a_.free(e:a_ H H')(h:H' l=Option.none):H l=Option.none:=by
 rcases q:H l with _|o
 ·rfl
 rw[e l o q]at h;cases h
def a_.seq{K:aT}{a:az}(e:a_ H H')(h:nX K H a xs):nX K H' a xs:=by
 rcases h with (h|⟨o,h⟩)|h
 ·exact .inl (.inl (e _ _ h))
 ·exact .inl (.inr ⟨o,e _ _ h⟩)
 ·exact .inr h
end L2
namespace L2
open PySem
end L2
namespace L2
open PySem PyProof.Rows
def Ey(h:Fq a b):a.length=b.length:=by
 induction h with|nil=>rfl|cons _ _ _ ih=>simp[ih]
section
variable {s:aw}
end
end L2
namespace L2
open PySem PyProof.Rows PySem.Spec
section
variable {R:Result->aw->Prop}{f:List az}{P:Nat->ai->Prop}{m:Nat->aw->Prop}
end
section
variable {s:aw}
end
section
variable {s:aw}
end
section
variable {s:aw}
end
section
variable {s:aw}
end
end L2
namespace L2
open PySem PySem.Spec PyProof.Rows
section
variable {P:bh}
def qf.Hd(x:qf P w H h)(f:H a=M)(d:gF P w (dg H a o) h a o):qf P w (dg H a o) h:=λb u e=>by
 by_cases k:b=a
 ·subst k;rw[bj]at e;cases e;exact d
 ·rw[aY k]at e;exact(x b u e).Aw (λc v _ q=>q) (λc q=>by rw[aY (bF q f)];exact q) λc l q=>by rw[aY (bF q f)];exact q
def qf.BV(x:qf P w (dg H a (.lst d)) h)(m:H a=M):qf P w H h:=λb u e=>by
 have n:b≠a:=bF e m;have k:∀c v,dg H a (.lst d) c=Y v->v ≠ .lst d->H c=Y v:=λc v q l=>by
  by_cases f:c=a
  ·subst f;rw[bj]at q;cases q;exact absurd rfl l
  ·rwa [aY f]at q
 exact(x b u (by rw[aY n];exact e)).Aw (λc v _ q=>q) (λc q=>k c _ q (by intro z;cases z)) λc i q=>k c _ q (by intro z;cases z)
end
noncomputable def lobj(g:List ai)(n:Nat):Obj:={ cls :=.type "list",data :=.seq g.toArray n }
section
variable {X:Cx}{s:aw}{D:az}
def Inv.Hd(I:Inv X (j++[(D,lobj g n)]) t H s)(r:cv i g)(A:i.length<=bc)(E:X.s₀.heap.objs.size<=D)(B:∀p∈X.pn++j,p.1≠D):Inv X j t (dg H D (.lst i)) s:=by
 obtain⟨e,d,C,N,_⟩:=I.pin (D,lobj g n) Ž;have f:∀b o,X.s₀.heap.get? b=Y o->b≠D:=λb o q z=>by have l:=aU q;subst z;exact ie _ (bx l E)
 refine⟨I.ok,I.os,I.bare,⟨I.base.keep,I.base.slot,λb o q m x =>?_,I.base.there,λb k q =>?_,λb o u q =>?_,λb w q =>?_⟩,I.loc,I.cell,?_,λx c q =>?_,λp q =>?_,I.iw.Hd d ⟨A,g,n,r,e⟩,I.len⟩
 ·rw[aY (f b o q)];exact I.base.free b o q m x
 ·have:=I.base.Dp b k q;rw[aY (bF this d)];exact this
 ·have:=I.base.CA b o u q;rw[aY (bF this d)];exact this
 ·obtain⟨a,this⟩:=I.base.Dr b w q;exact⟨a,by rw[aY (bF this d)];exact this⟩
 ·rw[aY (cg C)];exact I.free
 ·have y:c≠D:=λz=>by obtain⟨v,L,h,F⟩:=I.cell x c q;rw[z,e]at h;cases h;cases F
  rw[aY y];exact I.qH x c q
 ·obtain⟨K,J,G⟩:=I.pin p (by rw[<- bV];exact bb _ q);exact⟨K,by rw[aY (B p q)];exact J,G⟩
def Inv.BV(I:Inv X j t (dg H D (.lst i)) s)(h:H D=M)(B:D≠X.env.locals)(C:D∉X.fs):∃g n,cv i g/\i.length<=bc/\Inv X (j++[(D,lobj g n)]) t H s:=by
 obtain⟨A,g,n,r,e⟩:=I.iw D _ bj;have k:∀c v,dg H D (.lst i) c=Y v->v ≠ .lst i->H c=Y v:=λc v q y=>by
  by_cases d:c=D
  ·subst d;rw[bj]at q;cases q;exact absurd rfl y
  ·rwa [aY d]at q
 have f:∀c,dg H D (.lst i) c=M->H c=none:=λc q=>by
  by_cases d:c=D
  ·subst d;exact h
  ·rwa [aY d]at q
 refine⟨g,n,r,A,I.ok,I.os,I.bare,⟨I.base.keep,I.base.slot,λb o q m x=>f _ (I.base.free b o q m x),I.base.there,λb l q=>k _ _ (I.base.Dp b l q) (by intro z;cases z),λb o u q=>k _ _ (I.base.CA b o u q) (by intro z;cases z),λb w q =>?_⟩,I.loc,I.cell,f _ I.free,λx c q=>f _ (I.qH x c q),λp q =>?_,I.iw.BV h,I.len⟩
 ·obtain⟨a,this⟩:=I.base.Dr b w q;exact⟨a,k _ _ this (by intro z;cases z)⟩
 ·rw[<- bV]at q;rcases aV.mp q with q|q
  ·obtain⟨G,F,E⟩:=I.pin p q;exact⟨G,f _ F,E⟩
  ·have:p=(D,lobj g n):=by simpa using q
   subst this;exact⟨e,h,B,C,λv z=>by cases z⟩
end
theorem jo:∀(a:List (aM×vd)) (n:Nat) (acc:List (aM×az)),fI n a acc=fI n a []++acc
 |[],n,acc=>rfl| (x,k)::r,n,acc=>by
  unfold fI;split
  ·rw[jo r (n+1) ((x,n)::acc),jo r (n+1) [(x,n)],bV];rfl
  ·exact jo r n acc
theorem l_:∀(a:List (aM×vd)) (n:Nat) (b:List (aM×az)) (x:aM) (c:az),(x,c)∈fI n a b->(x,c)∈b\/(x,sd)∈a
 |[],n,b,x,c,h =>.inl h| (y,k)::r,n,b,x,c,h=>by
  unfold fI at h;split at h
  ·rename_i d;rcases l_ r _ _ x c h with q|q
   ·rcases aE.mp q with e|q
    ·cases e;have:k=.cell:=by simpa using d
     subst this;exact .inr Ž
    ·exact .inl q
   ·exact .inr (ao _ q)
  ·rcases l_ r _ _ x c h with q|q
   ·exact .inl q
   ·exact .inr (ao _ q)
noncomputable def mr(a:List (aM×az)):List (aM×vd)->List (aM×az)->List (aM×az)
 |[],b=>b|(x,k)::r,b=>if k == .free then mr a r ((x,(a.lookup x).getD 0)::b) else mr a r b
theorem tu{env:Env}(f:aM×vd->List (aM×az)->Sem (ForInStep (List (aM×az))))
  (hf:∀name kind cs,f (name,kind) cs=if kind == .free then (do let a <- cellOf env name;eQ (.yield ((name,a)::cs))) else eQ (.yield cs)) :
  ∀(names:List (aM×vd)) (acc:List (aM×az)),(∀y∈names,y.2=.free->∃c,env.cells.lookup y.1=Y c)->(forIn names acc f:Sem _)=eQ (mr env.cells names acc)
 |[],acc,_=>by rw[List.forIn_nil];rfl
 | (x,k)::r,acc,h=>by
  rw[List.forIn_cons,hf];unfold mr;cases hk:k==iP with
  |false=>simp only[eB,if_false];exact tu f hf r acc λy hy=>h y (ao _ hy)
  |true=>
   obtain⟨c,e⟩:=h (x,k) au (by simpa using hk);have e:env.cells.lookup x=Y c:=e;have e2:cellOf env x=eQ c:=by unfold cellOf;rw[e]
   simp only[if_true];rw[e2,e];exact tu f hf r _ λy hy=>h y (ao _ hy)
def AK{env:Env}(h:∀y∈a.names,y.2=.free->∃c,env.cells.lookup y.1=Y c):closureFor a env=eQ (mr env.cells a.names []):=by
 simp only[closureFor];rw[tu (env:=env) _ (λname b d=>by cases b==iP<;>rfl) a.names [] h];rfl
theorem xi:∀ {a:List (aM×vd)}{d:List (aM×az)}{x:aM}{c:az},(x,c)∈mr b a d->(x,c)∈d\/((x,iP)∈a/\c=(b.lookup x).getD 0)
 |[],d,x,c,h =>.inl h| (y,k)::r,d,x,c,h=>by
  unfold mr at h;split at h
  ·rename_i f;rcases xi h with q|q
   ·rcases aE.mp q with e|q
    ·cases e;have:k=.free:=by simpa using f
     subst this;exact .inr ⟨Ž,rfl⟩
    ·exact .inl q
   ·exact .inr ⟨ao _ q.1,q.2⟩
  ·rcases xi h with q|q
   ·exact .inl q
   ·exact .inr ⟨ao _ q.1,q.2⟩
theorem u6:∀ {b:List (aM×vd)}{a:List (aM×az)}{x:aM},(∃c,(x,c)∈a)->∃c,(x,c)∈mr d b a
 |[],a,x,h=>h| (y,k)::r,a,x,⟨c,h⟩=>by
  unfold mr;split
  ·exact u6 ⟨c,ao _ h⟩
  ·exact u6 ⟨c,h⟩
theorem xj{cells:List (aM×az)}:∀ {a:List (aM×vd)}{acc:List (aM×az)}{x:aM},(x,iP)∈a->∃c,(x,c)∈mr cells a acc
 | (y,k)::r,acc,x,h=>by
  unfold mr;rcases aE.mp h with e|h
  ·cases e;exact u6 ⟨_,au⟩
  ·split
   ·exact xj h
   ·exact xj h
theorem uz:∀ {l:List (aM×a)}{x:aM}{c:a},(x,c)∈l->∃d,l.lookup x=Y d
 | (y,v)::r,x,c,h=>by
  rw[dO];cases b:x==y with
  |true=>exact⟨v,rfl⟩|false=>
   rcases aE.mp h with e|h
   ·cases e;simp at b
   ·exact uz h
theorem ri:∀ {l r:List (aM×a)}{x:aM},(l++r).lookup x=(l.lookup x).or (r.lookup x)
 |[],r,x=>by simp
 | (y,v)::l,r,x=>by
  rw[vh,dO,dO];cases b:x==y with
  |true=>rfl|false=>exact ri
theorem pq{a:Env}:∀ {b:List (aM×vd)}{x:aM},(b.map λ(n,k)=>if (k==iP&&a.scope.kind == .function&&a.kindOf n==Y .cell) then (n,sd) else (n,k)).lookup x =
  (b.lookup x).map λk=>if (k==iP&&a.scope.kind == .function&&a.kindOf x==Y .cell) then sd else k
 |[],_=>rfl| (n,k)::r,x=>by
  have ih :=@pq a r x;show nC x ((if (k==iP&&a.scope.kind == .function&&a.kindOf n==Y .cell)=Z' then (n,sd) else (n,k))::_)=_;cases d:x==n with
  |true=>
   have e:x=n:=by simpa using d
   subst e;by_cases c:(k==iP&&a.scope.kind == .function&&a.kindOf x==Y .cell)=Z'
   ·rw[if_pos c];simp only[dO,d,bI,if_pos c]
   ·rw[if_neg c];simp only[dO,d,bI,if_neg c]
  |false=>
   by_cases c:(k==iP&&a.scope.kind == .function&&a.kindOf n==Y .cell)=Z'
   ·rw[if_pos c];simp only[dO,d];exact ih
   ·rw[if_neg c];simp only[dO,d];exact ih
def qD{a b:Nat}(h:a<b):a<b:=h
def UM{b:Nat}(h:a<=b):a<=b:=h
def zm{a b:Nat}(h:a=b):a=b:=h
abbrev nK(X:Cx)(f:Scope)(C:az):Env:=
 { scope:=Qh f X.env,locals:=C,globals:=X.env.globals,cells:=fI (C+1) f.names (mr X.env.cells f.names []),qual:=X.env.qual,func:=M,code:=X.env.code,frame:=X.env.frame,builtins:=X.env.builtins }
def Cx.tw(X:Cx)(N:List aM)(f:Scope)(C:az)(s:aw)(H:Hp)(a:List az):Cx:=
 { X with N:=N,s₀:=s,H₀:=H,env:=nK X f C,outer:=X.stack,stack:=X.stack,ex:=a,fn:=λx=>f.names.lookup x==Y .cell,pn:=[],xe:=λ_ _=>False }
noncomputable def oW(t:List (Option Nat))(w:St):St:=t.map λo=>match o with|some j=>(w[j]?).getD M|none=>M
structure fQ(X:Cx)(N:List aM)(src:List (Option Nat))(scope:Scope):Prop where
 kind:scope.kind=.function
 uniq:∀y∈scope.names,scope.names.lookup y.1=some y.2
 free:∀y∈scope.names,y.2=.free->X.env.scope.names.lookup y.1=some .cell\/X.env.scope.names.lookup y.1=some .free
 len:src.length=N.length
 Vf:∀(i j:Nat) (x:aM),src[i]?=some (some j)->N[i]?=some x->X.N[j]?=some x/\scope.names.lookup x=some .free
section
variable {X:Cx}{s:aw}{f:Scope}
def Gg{g:Model}(l:∀c,(∀b o,s.heap.get? b=Y o->c.get? b=Y o)->c.Ns s.heap.objs.size (λ_=>M)->CellsOk c (s.heap.objs.size+1) (fI (s.heap.objs.size+1) f.names []) ->
   Q { scope:=f,locals:=s.heap.objs.size,globals:=X.env.globals,cells:=fI (s.heap.objs.size+1) f.names j,qual:=X.env.qual,func:=M,code:=X.env.code,frame:=X.env.frame,builtins:=X.env.builtins } { s with heap:=c }) :
  bB g A (SS f X.env.globals j [] X.env.qual M .none (Y X.env)) Q E s:=by
 simp only[SS,Option.isSome_some,if_true];refine aD (wpAny_alloc ?_);refine aD (wpAny_layCells _ (λname a h=>by cases d:a==sd<;>simp[d]) _ _ _ _ ?_);have i:=cellsFrom_ok f.names (s.heap.push { cls :=.type "dict",data :=.dict #[] }) (s.heap.objs.size+1) [] ⟨λ_ _ k=>(nomatch k),C9⟩ (by rw[eL];exact aH _);rw[eL]at i;rw[show ({ s with heap:=s.heap.push { cls :=.type "dict",data :=.dict #[] } }:aw).heap.objs.size=s.heap.objs.size+1 from eL ..];rw[List.forIn_nil];exact aD (bD (bD (l _ (λb o e=>pushCells_keeps _ _ b o (ak _ e)) ((Heap.Ns.new s.heap (.type "dict")).keeps (pushCells_keeps _ _)) i)))
theorem ny(S:fQ X N t f)(i:X.Ok)(h:(nK X f C).cells.lookup x=Y c):
  (f.names.lookup x=Y .cell/\(x,c)∈fI (C+1) f.names [])\/(f.names.lookup x=Y .free/\X.env.cells.lookup x=Y c):=by
 have h:(fI (C+1) f.names (mr X.env.cells f.names [])).lookup x=Y c:=h;rw[jo,ri]at h;cases e:(fI (C+1) f.names []).lookup x with
 |some d=>
  rw[e]at h;have:d=c:=by simpa using h
  subst this;have q:=PySem.mem_of_lookup e;rcases l_ _ _ _ _ _ q with z|z
  ·simp at z
  ·exact .inl ⟨S.uniq _ z,q⟩
 |none=>
  rw[e]at h;have h:(mr X.env.cells f.names []).lookup x=Y c:=by simpa using h
  rcases xi (PySem.mem_of_lookup h) with z|⟨z,a⟩
  ·simp at z
  ·obtain⟨d,b⟩:=i.has x (S.free _ z rfl);rw[b]at a;exact .inr ⟨S.uniq _ z,by rw[b,a];rfl⟩
def O_(S:fQ X N t f)(h:f.names.lookup x=Y .cell):∃c,(nK X f C).cells.lookup x=Y c:=by
 obtain⟨c,e⟩:=zW (sc:=f) (n:=C+1) h;refine⟨c,?_⟩;show (fI (C+1) f.names (mr X.env.cells f.names [])).lookup x=Y c;rw[jo,ri,e];rfl
def EU(S:fQ X N t f)(a:X.Ok){C:az}(h:f.names.lookup x=Y .free):∃c,(nK X f C).cells.lookup x=Y c/\X.env.cells.lookup x=Y c:=by
 have b:=PySem.mem_of_lookup h;obtain⟨d,i⟩:=xj (cells:=X.env.cells) (acc:=[]) b;obtain⟨c,j⟩:=uz i;have e:(nK X f C).cells.lookup x=Y c:=by
  show (fI (C+1) f.names (mr X.env.cells f.names [])).lookup x=Y c;rw[jo,ri];rcases e:(fI (C+1) f.names []).lookup x with _|d
  ·simpa using j
  rcases l_ _ _ _ _ _ (PySem.mem_of_lookup e) with z|z
  ·simp at z
  ·have:=S.uniq _ z;rw[h]at this;cases this
 rcases ny S a e with⟨z,_⟩|⟨_,z⟩
 ·rw[h]at z;cases z
 ·exact⟨c,e,z⟩
def ET(x:aM):(nK X f C).kindOf x=(f.names.lookup x).map λk=>if (k==iP&&X.env.scope.kind == .function&&X.env.kindOf x==Y .cell) then sd else k:=by
 show (Qh f X.env).names.lookup x=_;exact pq
def Dv{i:Nat}{v:V}(h:(oW t w)[i]?=Y (Y v)):∃j,t[i]?=Y (Y j)/\w[j]?=Y (Y v):=by
 unfold oW at h;rw[aF]at h;obtain⟨o,e,h⟩:=ah.1 h;rw[e];cases o with
 |none=>cases h|some j=>
  refine⟨j,rfl,?_⟩;have h:(w[j]?).getD M=Y v:=by simpa using h
  rcases q:w[j]? with _|z
  ·rw[q]at h;cases h
  rw[q]at h;rw[show z=Y v from h]
def J3{ex:List az}{h':de}{D C:Nat}{o:Obj}(S:fQ X N t f)(I:Inv X B w H g)(J:∀b∈ex,Aa X B H b)(P:∀b∈ex,∃o,g.heap.get? b=Y o)
  (hD:D=g.heap.objs.size) (hC:C=g.heap.objs.size+1) (G:∀b o,g.heap.get? b=Y o->h'.get? b=Y o) (T:h'.get? D=Y o) (R:∀v,o.data ≠ .cell v)
  (Q:h'.Ns C (λ_=>M)) (E:CellsOk h' (C+1) (fI (C+1) f.names [])) :
  Inv (X.tw N f C g H ex) (X.pn++B++[(D,o)]) (oW t w) H { g with heap:=h' }:=by
 have lt:∀ {b:Nat}{o:Obj},g.heap.get? b=Y o->b<g.heap.objs.size:=λe=>aU e
 have fr:∀a:Nat,g.heap.objs.size<=a->H a=none:=λa h=>I.iw.fresh h
 have A:∀(x:aM) (c:Nat),X.env.cells.lookup x=Y c->c<g.heap.objs.size:=λx c e=>by obtain⟨v,z⟩:=I.cell x c e;exact z.lt
 have d:∀ {x:aM}{c:Nat},(x,c)∈fI (C+1) f.names []->C+1<=c:=λq=>(E.empty _ _ q).2
 refine⟨⟨I.mod,S.kind,I.ok.glob,I.ok.blt,?_,?_,?_,?_,I.ok.hd,I.ok.frames,.inl rfl,?_,I.bs,?_,?_,?_,I.stack,I.Hf⟩,rfl,I.bare,Un.kept G,⟨_,Q,?_⟩,?_,?_,?_,?_,I.iw.kept G,?_⟩
 ·show g.heap.objs.size<=C;omega
 ·intro x y c s U;rcases ny S I.ok s with⟨_,a⟩|⟨_,a⟩<;>rcases ny S I.ok U with⟨_,b⟩|⟨_,b⟩
  ·exact name_of_addr E.apart a b
  ·have:C+1<=(c:Nat):=d a;have:=qD (A _ _ b);omega
  ·have:C+1<=(c:Nat):=d b;have:=qD (A _ _ a);omega
  ·exact I.ok.inj x y c a b
 ·intro x n;have n:(nK X f C).kindOf x=Y .cell\/(nK X f C).kindOf x=Y .free:=n;rw[ET]at n;rcases e:f.names.lookup x with _|k
  ·rw[e]at n;rcases n with z|z<;>cases z
  cases k with
  |cell=>exact O_ S e|free=>obtain⟨c,q,_⟩:=EU S I.ok e;exact⟨c,q⟩
  |_=>rw[e]at n;exfalso;revert n;simp
 ·intro x c n s;have n:f.names.lookup x=Y .cell:=by have:(f.names.lookup x==Y .cell)=true:=n;simpa using this
  show g.heap.objs.size<=c;rcases ny S I.ok s with⟨_,a⟩|⟨z,_⟩
  ·have:C+1<=(c:Nat):=d a;show g.heap.objs.size<=(c:Nat);omega
  ·rw[n]at z;cases z
 ·intro b F;obtain⟨L,e⟩:=P b F;have l:=qD (lt e);refine⟨λz =>?_,λx c s z =>?_⟩
  ·have z:=zm (a:=b) (b:=C) z;omega
  ·subst z;rcases ny S I.ok s with⟨_,a⟩|⟨_,a⟩
   ·have:C+1<=(c:Nat):=d a;omega
   ·exact(J c F).2.2.2.2.1 x c a rfl
 ·show X.base.objs.size<=g.heap.objs.size;have:=I.ok.Nj;have:=I.sz;omega
 ·intro b L e F;rcases(J b F).2.2.2.1 with z|z
  ·exact I.ok.LJ b L e z
  ·have e:X.base.get? b=Y L:=e;have a:=qD (aU e);have:=I.ok.Nj;have z:X.s₀.heap.objs.size<=(b:Nat):=z;omega
 ·intro b F;intro z;have z:b∈Dg X.stack:=z;have:=I.uG b z;rcases aE.mp this with q|q
  ·exact(J b F).2.1 q
  ·exact(J b F).2.2.1 q
 ·intro i x v s U h3;obtain⟨j,e1,e2⟩:=Dv U;obtain⟨e3,e4⟩:=S.Vf i j x e1 s;obtain⟨m,hm,hl⟩:=I.loc;have V:=S.free _ (PySem.mem_of_lookup e4) rfl;have K:SD X.env.scope x :=.inr V;obtain⟨u,r,lk⟩:=hl j x v e3 e2 K;refine⟨u,r,?_⟩;rcases lk with⟨z,_⟩|⟨_,c,ec,cc⟩
  ·exfalso;have z:X.env.scope.names.lookup x=Y .local:=z;rw[z]at V;rcases V with q|q<;>cases q
  ·obtain⟨c',q1,q2⟩:=EU (C:=C) S I.ok e4;rw[ec]at q2;cases q2;refine .inr ⟨?_,c,q1,cc.keeps G⟩;show (nK X f C).kindOf x=Y .cell\/(nK X f C).kindOf x=Y .free;rw[ET,e4,bI];split
   ·exact .inl rfl
   ·exact .inr rfl
 ·intro x c s;rcases ny S I.ok s with⟨_,a⟩|⟨_,a⟩
  ·exact⟨M,(E.empty _ _ a).1⟩
  ·obtain⟨v,z⟩:=I.cell x c a;exact⟨v,z.keeps G⟩
 ·exact fr C ž
 ·intro x c s;rcases ny S I.ok s with⟨_,a⟩|⟨_,a⟩
  ·have:C+1<=(c:Nat):=d a;exact fr c ž
  ·exact I.qH x c a
 ·intro p O;have O:p∈X.pn++B++[(D,o)]:=by simpa [Cx.tw] using O
  rcases aV.mp O with q|q
  ·obtain⟨a1,a2,a3,a4,a5⟩:=I.pin p q;refine⟨G _ _ a1,a2,λz =>?_,λz =>?_,a5⟩
   ·have z:=zm (a:=p.1) (b:=C) z;have q:=qD (lt a1);omega
   ·have z:p.1∈Dg X.stack:=z;rcases aE.mp (I.uG _ z) with q|q
    ·exact a3 q
    ·exact a4 q
  ·have:p=(D,o):=by simpa using q
   subst this;refine⟨T,fr D ž,λz =>?_,λz =>?_,R⟩
   ·have z:D=C:=z;omega
   ·have z:D∈Dg X.stack:=z;rcases aE.mp (I.uG _ z) with q|q
    ·have l:=qD I.lt;have q:=zm (a:=D) (b:=X.env.locals) q;omega
    ·exact I.Rl (show g.heap.objs.size<=D by omega) q
 ·show (oW t w).length=N.length;unfold oW;rw[aq];exact S.len
end
section
variable {R:Result->aw->Prop}{s:aw}
theorem CN{f:Scope}(I:Nat->aw->Prop) (kG:∀n s,I n s->bB (br E w) A (pyNext J) (λr i=>match r with
   |none=>R (.ok .next) i| some v=>bB (br E w) A (Aq b J v) (λ_ g=>bB (br E w) A (M_ b d v) (λ_ p=>
     bB (br E w) A (forIn B Z' λc r=>if r=Z' then do let C <- isTrue c d (eval c d);eQ (wx C) else eQ (wx r)) (λC e=>
      if C=Z' then bB (br E w) A (eval L d) (λx o=>bB (br E w) A (call (.builtin "list.append") [z,x]) (λ_ k=>∃m,m<n/\I m k) (λ_ _=>False) o) (λ_ _=>False) e
      else ∃m,m<n/\I m e) (λ_ _=>False) p) (λ_ _=>False) g) (λ_ _=>False) i) (λ_ _=>False) s) (n:Nat) (h:I n s) :
  Ag (br E w) A (.compLoop (.ListComp L [⟨b,G,B,0⟩] f U) 0 J z d) R s:=by
 refine codeAny_loop rfl I (λn s K =>?_) n h;show bB _ A ((compTurn (.ListComp L [⟨b,G,B,0⟩] f U) 0 J z d).onRaise (λx=>do noteFrame x d;theTreesLotGoes x)) _ _ s;refine wpAny_noted ?_;rw[compTurn_list];refine aD (wpAny_standAt (aD (ij (kG n s K) (λr i t =>?_) λ_ _ j=>j.elim)));cases r with
 |none=>exact bD t|some v=>
  refine aD (ij t (λ_ g y=>aD (ij y (λ_ p H=>aD (ij H (λC e q =>?_) λ_ _ j=>j.elim)) λ_ _ j=>j.elim)) λ_ _ j=>j.elim);cases C with
  |false=>exact bD ⟨rfl,q⟩|true=>exact aD (aD (ij q (λx o F=>aD (ij F (λ_ k D=>bD (bD ⟨rfl,D⟩)) λ_ _ j=>j.elim)) λ_ _ j=>j.elim))
end
def M4(Z:List Nat)(g:TG):Prop:=∀x c H (Q:St->Hp->Prop),g x c H Q->g x c H λb d=>(b.length=c.length/\∀i,i∉Z->b[i]?=c[i]?)/\Q b d
def eP(i:Nat):M4 [i] (qG i):=λx c H Q h=>⟨⟨Ž,λj b=>by
 have:i≠j:=λe=>b (by simp[e])
 rw[aj this]⟩,h⟩
def E9(X:Cx)(B:List Expr)(t:TT):Prop:=
 ∀(b:List (az×Obj)) (s:aw) (d:St) (H:Hp) (Q:Bool->Hp->Prop),Inv X b d H s->t d H Q ->
  bB (br X.prog X.w) X.A (forIn B Z' λc r=>if r=Z' then do let e <- isTrue c X.env (eval c X.env);eQ (wx e) else eQ (wx r)) (TP X b d Q) X.xe s
def TL:TT:=λ_ H Q=>Q Z' H
section
variable {X:Cx}
def N0:E9 X [] TL:=λb s c H Q I h=>wpAny_tests_nil ⟨H,I,h⟩
def NZ(h:PT X c t):E9 X [c] t:=λb s d H Q I q=>wpAny_tests_one (h b s d H Q I q)
end
def QC(l:TI)(src:List (Option Nat))(g:TG)(u:TT)(O:TE):TE:=λk H Q=>l k H λJ r=>∃W:Nat->Nat->List V->Hp->Prop,(∃m,W 0 m [] r)/\∀i m e H,W i m e H ->
 (J.stop i H/\∀D,H D=M->Q (.ref D) (dg H D (.lst e))) \/
 (J.go i H/\e.length<bc/\∃j:List V->Hp->Prop,(∀d h,j d h->∃n,n<m/\W (i+1) n d h)/\∀x h,J.Kw i H x h ->
  g x (oW src k) h λc q=>u c q λb o=>if b=Z' then O c o λv p=>j (e++[v]) p else j e o)
section
variable {X:Cx}{f:Scope}
def BG{s:aw}{F:List (az×Obj)}{RR:ai->az->Result->aw->Prop}(S:fQ X N src f)(hc:X.calm=Z')(hi:PI X a G l)(ag:M4 Z g)(ho:∀i∈Z,src[i]?=Y M)(E:∀C s H ex,PG (X.tw N f C s H ex) a g/\E9 (X.tw N f C s H ex) B u/\PE (X.tw N f C s H ex) L O)(I:Inv X F σ H s)(h:QC l src g u O σ H Q) (hRR:∀(D C:az) (s':aw) (H':Hp),Inv X F σ H' s'->(∃m,s'.heap.Ns C m)->H' C=M->C≠X.env.locals->(C∈X.ex\/X.s₀.heap.objs.size<=C)->(∀x c,X.env.cells.lookup x=Y c->c≠C)->(∀p∈X.pn++F,p.1≠C) ->
   Q (.ref D) H'->RR (.ref D) C (.ok .next) s') :
  bB (br X.prog X.w) X.A (eval G X.env) (λx s₁=>bB (br X.prog X.w) X.A (pyIter x) (λit s₂=>bB (br X.prog X.w) X.A (newList []) (λacc s₃=>
   bB (br X.prog X.w) X.A (SS f X.env.globals (mr X.env.cells f.names []) [] X.env.qual M .none (Y X.env)) (λVy s₄=>
    Ag (br X.prog X.w) X.A (.compStart (.ListComp L [⟨a,G,B,0⟩] f U) 0 it acc { Vy with scope:=Qh f X.env }) (RR acc Vy.locals) s₄) X.xe s₃) X.xe s₂) X.xe s₁) X.xe s:=by
 refine fS (hi F s σ H _ I h) λv s1 h1=>fS h1 λY3 A h2 =>?_
 obtain⟨it,fp,tn,J,H2,e,I2,T,QF,f2,W,⟨m0,w0⟩,kG⟩:=h2;subst e;refine wpAny_newObj_type ?_;generalize Xz:A.heap.push { cls :=.type "list",dict:=M,data :=.seq ([]:List ai).toArray }=h3;have sz3:h3.objs.size=A.heap.objs.size+1:=by rw[<- Xz,eL]
 have k3:∀b o,A.heap.get? b=Y o->h3.get? b=Y o:=λb o e=>Xz ▸ ak _ e
 have d3:h3.get? A.heap.objs.size=Y (lobj [] 0):=Xz ▸ bz _ rfl;refine Gg (X:=X) (s:={ A with heap:=h3 }) λh4 k4 YZ Yg =>?_
 rw[show ({ A with heap:=h3 }:aw).heap.objs.size=A.heap.objs.size+1 from sz3]at YZ Yg ⊢;have Xp:∀b o,A.heap.get? b=Y o->h4.get? b=Y o:=λb o e=>k4 b o (k3 b o e)
 have XZ:∀b∈fp,∃o,A.heap.get? b=Y o:=λb E=>by obtain⟨o,e,_⟩:=T.obj _ _ QF b E;exact⟨o,e⟩
 have I4:=J3 (ex:=fp) (h':=h4) (D:=A.heap.objs.size) (C:=A.heap.objs.size+1) (o:=lobj [] 0) S I2 f2 XZ rfl rfl Xp (k4 _ _ d3) (λv z=>by cases z) YZ Yg;have I4:Inv (X.tw N f (A.heap.objs.size+1) A H2 fp) (X.pn++F++[(A.heap.objs.size,lobj [] 0)]) (oW src σ) H2 { A with heap:=h4 }:=I4;generalize hX:X.tw N f (A.heap.objs.size+1) A H2 fp=P at I4;obtain⟨pg,pt,pe⟩:=E (A.heap.objs.size+1) A H2 fp;rw[hX]at pg pt pe;have K:P.prog=X.prog:=by rw[<- hX];rfl
 have ew:P.w=X.w:=by rw[<- hX];rfl
 have eK:P.K=X.K:=by rw[<- hX];rfl
 have eA:P.A=X.A:=by rw[<- hX];rfl
 have Qe:P.calm=true:=by rw[<- hX];exact hc
 have Wd:P.xe=λ_ _=>False:=by rw[<- hX];rfl
 have Mu:P.env=nK X f (A.heap.objs.size+1):=by rw[<- hX];rfl
 have R3:P.pn=[]:=by rw[<- hX];rfl
 have We:P.s₀=A:=by rw[<- hX];rfl
 have eH0:P.H₀=H2:=by rw[<- hX];rfl
 have ZO:P.ex=fp:=by rw[<- hX];rfl
 have X3:P.fs=Dg X.stack:=by rw[<- hX];rfl
 have Wc:P.env.locals=A.heap.objs.size+1:=by rw[Mu]
 have hDC:A.heap.objs.size≠P.env.locals:=by rw[Wc];exact bR (ik _)
 have hDF:A.heap.objs.size∉P.fs:=by
  rw[X3];intro z;rcases aE.mp (I2.uG _ z) with q|q
  ·exact absurd (zm q) (mf (qD I2.lt))
  ·exact I2.Rl (aH _) q
 have Zh:∀p∈P.pn++(X.pn++F),p.1≠A.heap.objs.size:=λp hp=>by rw[R3,dI]at hp;exact bR (qD (aU (I2.pin p hp).1))
 have ZF:∀b∈fp,b≠A.heap.objs.size:=λb E=>by obtain⟨o,e⟩:=XZ b E;exact bR (qD (aU e))
 have FJ:∀ {P':List (az×Obj)}{H':Hp},(∀p∈P',p∈X.pn++F\/p.1=A.heap.objs.size)->(∀b∈fp,H' b=M)->∀b∈fp,Aa P P' H' b:=fun {P' H'} hP hn b E=>by
  obtain⟨a1,a2,a3,a4,a5,a6⟩:=f2 b E;obtain⟨o,e⟩:=XZ b E;have w:=qD (aU e);refine⟨hn b E,?_,?_,.inl (by rw[ZO];exact E),λx c q z =>?_,λp hp z =>?_⟩
  ·rw[Wc];exact bR (oz w)
  ·rw[X3];intro z;rcases aE.mp (I2.uG b z) with q|q
   ·exact a2 q
   ·exact a3 q
  ·subst z;rw[Mu]at q;rcases ny S I2.ok q with⟨_,r⟩|⟨_,r⟩
   ·have:=UM (Yg.empty _ _ r).2;omega
   ·exact a5 x c r rfl
  ·rw[R3,dI]at hp;rcases hP p hp with q|q
   ·exact a6 p q z
   ·exact ZF b E (z.symm.trans q)
 have VT:Ag (br X.prog X.w) X.A (.compLoop (.ListComp L [⟨a,G,B,0⟩] f U) 0 (.ref it) (.ref A.heap.objs.size) (nK X f (A.heap.objs.size+1))) (RR (.ref A.heap.objs.size) (A.heap.objs.size+1)) { A with heap:=h4 }:=by
  refine CN (λn s'=>∃i ys R nn H',Inv P (X.pn++F++[(A.heap.objs.size,lobj R nn)]) (oW src σ) H' s'/\cv ys R/\ys.length<=bc/\tn i s'.heap/\(∀b∈fp,H' b=M)/\W i n ys H') ?_ m0
   ⟨0,[],[],0,H2,I4,.nil,cD _,T.keep _ _ _ QF (λb _ o e=>Xp b o e),λb E=>(f2 b E).1,w0⟩
  rintro n s5 ⟨i,ys,R,nn,H5,I5,r5,z5,Tf,Tp,w5⟩;have W_:∀p∈X.pn++F++[(A.heap.objs.size,lobj R nn)],p∈X.pn++F\/p.1=A.heap.objs.size:=λp hp=>by
   rcases aV.mp hp with q|q
   ·exact .inl q
   ·exact .inr (by rw[show p=(A.heap.objs.size,lobj R nn) by simpa using q])
  rcases kG i n ys H5 w5 with⟨stop,qn⟩|⟨go,lt5,Nx,hN,step⟩
  ·have d:=T.done P K ew eK Qe i _ s5 (oW src σ) H5 (λ_ _=>False) I5 (FJ W_ Tp) Tf stop;rw[eA]at d;refine fS d λr s6 XC =>?_
   obtain⟨hr,I6⟩:=XC;subst hr;have Tz:Inv P (X.pn++F) (oW src σ) (dg H5 A.heap.objs.size (.lst ys)) s6:=I6.Hd r5 z5 (by rw[We];exact aH _) Zh;have hD5:H5 A.heap.objs.size=none:=(I6.pin (A.heap.objs.size,lobj R nn) Ž).2.1;have ZU:=Tz.base;rw[X3,ZO,eH0,We]at ZU;have YX:=Tz.os;rw[We]at YX;have U7:=Tz.iw;rw[K,ew]at U7;have J6:Inv X F σ (dg H5 A.heap.objs.size (.lst ys)) s6:=I2.Ih YX ZU U7 Tz.bare λb E=>⟨(f2 b E).2.2.2.1,(f2 b E).2.1,(f2 b E).2.2.2.2.1,(f2 b E).2.2.2.2.2⟩
   obtain⟨m,hm,_⟩:=Tz.loc;rw[Wc]at hm;have fC:=Tz.free;rw[Wc]at fC;refine hRR _ _ s6 _ J6 ⟨m,hm⟩ fC ?_ (.inr ?_) ?_ ?_ (qn _ hD5)
   ·exact λz=>absurd (zm z) (mf (oz (qD I2.lt)))
   ·exact t9 I2.sz
   ·intro x c q z;obtain⟨v,cc⟩:=I2.cell x c q;have:=qD cc.lt;have z:=zm z;omega
   ·intro p hp z;have:=qD (aU (I2.pin p hp).1);have z:=zm z;omega
  ·have d:=T.item P K ew eK Qe i _ s5 (oW src σ) H5 (λ_ _=>False) I5 (FJ W_ Tp) Tf go;rw[eA]at d;refine fS d λr s6 XC =>?_
   obtain⟨t,hr,h6⟩:=XC;subst hr;refine fS h6 λ_ s7 h7 =>?_
   obtain⟨x,H7,I7,r7,y7,T_,fr7⟩:=h7;have I7':=I7.pinned (FJ W_ fr7) (T.obj _ _ T_);have g7:=pg _ s7 (oW src σ) H7 x t _ I7' r7 (ag _ _ _ _ (step x H7 y7));rw[eA,Wd,K,ew,Mu]at g7;refine fS g7 λ_ s8 h8 =>?_
   obtain⟨σ8,H8,I8,⟨l8,a8⟩,q8⟩:=h8;have t8:=pt _ s8 σ8 H8 _ I8 q8;rw[eA,Wd,K,ew,Mu]at t8;refine fS t8 λok s9 h9 =>?_
   obtain⟨H9,I9,q9⟩:=h9;have weak:∀ {P':List (az×Obj)}{H':Hp}{s':aw},Inv P P' σ8 H' s'->Inv P P' (oW src σ) H' s':=λJ=>J.weak l8.symm λj v hj=>by
    obtain⟨k,e1,_⟩:=Dv hj;have:j∉Z:=λz=>by have:=ho j z;rw[e1]at this;cases this
    rw[a8 j this];exact hj
   cases ok with
   |false=>have q9:Nx ys H9:=q9;obtain⟨m',XJ,w9⟩:=hN _ _ q9;refine⟨m',XJ,i+1,ys,R,nn,H9,(weak I9).oQ,r5,z5,T.keep _ _ _ T_ λb E o e=>(I9.pin (b,o) (aG _ (aG _ (k7 E e)))).1,λb E =>?_,w9⟩;obtain⟨o,e,d⟩:=T.obj _ _ T_ b E;exact(I9.pin (b,o) (aG _ (aG _ (k7 E e)))).2.1
   |true=>
    have q9:O σ8 H9 λv H4=>Nx (ys++[v]) H4:=q9
    have e9:=pe _ s9 σ8 H9 _ I9 q9;rw[eA,Wd,K,ew,Mu]at e9;refine fS e9 λxv YT h10 =>?_
    obtain⟨y,Pf,Z1,r10,q10⟩:=h10;have ZY:Inv P (X.pn++F++uM fp s7.heap++[(A.heap.objs.size,lobj R nn)]) σ8 Pf YT:=Z1.yp λp hp=>by
     refine Z1.pin p ?_;rw[R3,dI];rcases aV.mp hp with q|q
     ·rcases aV.mp q with q|q
      ·exact bb _ (bb _ q)
      ·exact aG _ q
     ·exact bb _ (aG _ q)
    have nD:∀p∈P.pn++(X.pn++F++uM fp s7.heap),p.1≠A.heap.objs.size:=λp hp=>by
     rw[R3,dI]at hp;rcases aV.mp hp with q|q
     ·exact Zh p (by rw[R3,dI];exact q)
     ·exact ZF _ (Bf q).1
    have XX:Pf A.heap.objs.size=none:=(ZY.pin (A.heap.objs.size,lobj R nn) Ž).2.1;have T10:=ZY.Hd r5 z5 (by rw[We];exact aH _) nD;have ap:=gX (X:=P) _ YT σ8 _ (.ref A.heap.objs.size) [y] (.ref A.heap.objs.size) [xv] (λv H'=>v=.eN/\H'=dg (dg Pf A.heap.objs.size (.lst ys)) A.heap.objs.size (.lst (ys++[y]))) T10 rfl (.cons r10 .nil) ⟨_,ys,y,rfl,rfl,bj,lt5,rfl,rfl⟩;rw[eA,Wd,K,ew]at ap;refine fS ap λ_ YS XY =>?_
    obtain⟨v11,H11,Z0,_,_,e11⟩:=XY;subst e11;rw[Nr]at Z0;obtain⟨its',Y0,W8,Z5,Yw⟩:=Z0.BV XX hDC hDF;obtain⟨m',XJ,Z7⟩:=hN _ _ q10;have I13:Inv P (X.pn++F++[(A.heap.objs.size,lobj its' Y0)]) (oW src σ) Pf YS:=(weak Yw).yp λp hp=>by
     refine Yw.pin p ?_;rw[R3,dI];rcases aV.mp hp with q|q
     ·exact bb _ (bb _ q)
     ·exact aG _ q
    have Uw:∀b∈fp,∀o,s7.heap.get? b=Y o->YS.heap.get? b=Y o/\Pf b=none:=λb E o e=>by have:=Yw.pin (b,o) (by rw[R3,dI];exact bb _ (aG _ (k7 E e)));exact⟨this.1,this.2.1⟩
    refine⟨m',XJ,i+1,ys++[y],its',Y0,Pf,I13,W8,Z5,T.keep _ _ _ T_ λb E o e=>(Uw b E o e).1,λb E =>?_,Z7⟩;obtain⟨o,e,d⟩:=T.obj _ _ T_ b E;exact(Uw b E o e).2
 have st4:tn 0 h4:=T.keep _ _ _ QF λb _ o e=>Xp b o e
 exact codeAny_compStart_list VT (T.self _ 0 _ _ _ st4 VT)
end
section
variable {X:Cx}{f:List (Option Nat)}
def EV{s:aw}(S:fQ X N f c)(I:Inv X a b H s):closureFor c X.env=eQ (mr X.env.cells c.names []):=
 AK λy d e=>I.ok.has y.1 (S.free y d e)
def Ll(S:fQ X N f c)(P:X.calm=Z')(O:PI X r l w)(ag:M4 B g)(K:∀i∈B,f[i]?=Y M)(p:∀C s H v,PG (X.tw N c C s H v) r g/\E9 (X.tw N c C s H v) u j/\PE (X.tw N c C s H v) t k)(G:autoParam (∀x,cK l X.env x=eQ x) ů):PE X (.ListComp t [⟨r,l,u,0⟩] c A) (QC w f g j k):=by
 intro a s z H Q I h;rw[eval_ListComp];refine wpAny_comprehension_free (use:=M) rfl G (EV S I) S.kind (λx F V=>by rw[S.uniq x F,V]) ?_;refine BG (RR:=λy C=>compPost (br X.prog X.w) X.A X.xe M (EP X a z Q) y C) S P O ag K p I h ?_;intro D C E H' J n L R h1 U T q;obtain⟨m,n⟩:=n;exact⟨m,n,λh' d=>⟨.ref D,H',J.turned (h':=h') (t':=E.toks) (λb o p e=>d.extBut b o p e) L R h1 U T,rfl,q⟩⟩
def vy{F:Pos}(S:fQ X N f c)(hc:X.calm=Z')(hN:X.N.Nodup)(hy:X.N[i]?=Y y)(K:X.env.scope.names.lookup y=Y .local)(hi:PI X r l w)(ag:M4 B g)(ho:∀i∈B,f[i]?=Y M)(Q:∀C s H T,PG (X.tw N c C s H T) r g/\E9 (X.tw N c C s H T) u j/\PE (X.tw N c C s H T) t k)(V:cP (.ListComp t [⟨r,l,u,0⟩] c A) (Y (.Name y F)) n.line X.env=eQ Z')(hs:autoParam (∀x,cK l X.env x=eQ x) ů):
  PS X (.Assign [.Name y F] (.ListComp t [⟨r,l,u,0⟩] c A) n) (Ny (QC w f g j k) (qG i)):=by
 intro p s σ H D I h;have h:QC w f g j k σ H λv H1=>D.nx (σ.set i (Y v)) H1:=h
 rw[exec_Assign_Name_used _ _ _ _ V];refine aD (wpAny_standAt (aD ?_));show bB _ X.A (do let _ <- comprehension (.ListComp t [⟨r,l,u,0⟩] c A) c X.env _ (newList []) Z_ (eval l X.env) (Y (M_ (.Name y F) X.env))) _ _ s;refine aD (ij (wpAny_comprehension_free (use:=Y (M_ (.Name y F) X.env)) (Q:=λ_ E=>SP X p D .next E) rfl hs (EV S I) S.kind (λx hx K=>by rw[S.uniq x hx,K])
  (BG (RR:=λU C=>compPost (br X.prog X.w) X.A X.xe (Y (M_ (.Name y F) X.env)) (λ_ E=>SP X p D .next E) U C) S hc hi ag ho Q I h ?_))
  (λ_ E hq=>bD (bD hq)) λ_ _ e=>e)
 intro d C E H' J P hn hL h1 h2 h3 q;obtain⟨m,P⟩:=P;refine wpAny_assign_Name (A0 J hN hy (.inl K) (v :=.ref d) rfl (λL J' G =>?_) (.inr K));obtain⟨a,sb,ha⟩:=G;have R:C≠a:=by
  rcases ha with z|z
  ·rw[z];exact hL
  ·exact λe=>h2 _ _ z e.symm
 exact⟨m,P.sameBut sb R,λh' O=>⟨_,H',J'.turned (h':=h') (t':=L.toks) (λb o Q e=>O.extBut b o Q e) hn hL h1 h2 h3,q⟩⟩
end
inductive Sk where
 |lf
 |li (s:Sk)
 |fs (c:aM) (fk:List (aM×Sk))
 |di
inductive Pt where
 |fld (f:aM)
 |ix (k:Nat)
abbrev z9:=List Pt
inductive D where
 |eN|bl (b:Bool)|int (i:Int)|str (x:aM)|lst (xs:List D)|tup (xs:List D)|mH (ns:List Int)
 |ins (c:aM) (ks:List aM) (ds:List D)
 |jn (ks:List mi) (ds:List D)
 |obj (s:Sk) (t:D)
 |eS (r:Nat) (p:z9)
mutual
def cI(K:aT)(G:Hp):D->V->Prop
 |.eN,v=>v=.eN|.bl b,v=>v=.bl b|.int i,v=>v=.int i|.str x,v=>v=.str x|.lst e,v=>∃a d,v=.ref a/\G a=Y (.lst d)/\be K G e d|.tup e,v=>∃a d,v=.ref a/\G a=Y (.tup d)/\be K G e d|.mH g,v=>∃a,v=.ref a/\nX K G a (g.map V.int)|.ins c f e,v=>∃a C h d,v=.ref a/\vb K bw c=Y (Y (.ref C))/\G a=Y (.ins C h (f.zip d))/\f.length=e.length/\be K G e d
 |.jn f e,v=>∃a d,v=.ref a/\G a=Y (.dK (f.zip d))/\f.length=e.length/\be K G e d|.obj _ t,v=>cI K G t v|.eS _ _,v=>∃a,v=.ref a
def be(K:aT)(G:Hp):List D->List V->Prop
 |[],a=>a=[]|d::b,a=>∃v r,a=v::r/\cI K G d v/\be K G b r
end
mutual
theorem cI.mono{K:aT}(s:a_ G G'):∀(d:D){v:V},cI K G d v->cI K G' d v
 |.eN,v,h=>by simpa only [cI] using h
 |.bl _,v,h=>by simpa only [cI] using h
 |.int _,v,h=>by simpa only [cI] using h
 |.str _,v,h=>by simpa only [cI] using h
 |.lst f,v,h=>by simp only[cI]at h ⊢;obtain⟨a,b,e,q,r⟩:=h;exact⟨a,b,e,s _ _ q,be.mono s f r⟩
 |.tup f,v,h=>by simp only[cI]at h ⊢;obtain⟨a,b,e,q,r⟩:=h;exact⟨a,b,e,s _ _ q,be.mono s f r⟩
 |.mH j,v,h=>by simp only[cI]at h ⊢;obtain⟨a,e,q⟩:=h;exact⟨a,e,s.seq q⟩
 |.ins c g f,v,h=>by simp only[cI]at h ⊢;obtain⟨a,C,i,b,e,n,q,l,r⟩:=h;exact⟨a,C,i,b,e,n,s _ _ q,l,be.mono s f r⟩
 |.jn g f,v,h=>by simp only[cI]at h ⊢;obtain⟨a,b,e,q,l,r⟩:=h;exact⟨a,b,e,s _ _ q,l,be.mono s f r⟩
 |.obj _ t,v,h=>by simp only[cI]at h ⊢;exact cI.mono s t h
 |.eS _ _,v,h=>by simpa only [cI] using h
theorem be.mono{K:aT}(s:a_ G G'):∀(b:List D){a:List V},be K G b a->be K G' b a
 |[],a,h=>by simpa only [be] using h
 |d::b,a,h=>by simp only[be]at h ⊢;obtain⟨v,r,e,q,t⟩:=h;exact⟨v,r,e,cI.mono s d q,be.mono s b t⟩
end
section
variable {K:aT}
def iY{v:V}:cI K G .eN v↔v=.eN:=by simp only[cI]
def eY{v:V}:cI K G (.bl b) v↔v=.bl b:=by simp only[cI]
def bE{v:V}:cI K G (.int i) v↔v=.int i:=by simp only[cI]
def fT{v:V}:cI K G (.str x) v↔v=.str x:=by simp only[cI]
def bZ{v:V}:cI K G (.lst c) v↔∃a b,v=.ref a/\G a=Y (.lst b)/\be K G c b:=by simp only[cI]
def cY{v:V}:cI K G (.tup c) v↔∃a b,v=.ref a/\G a=Y (.tup b)/\be K G c b:=by simp only[cI]
def Ho{v:V}:cI K G (.mH b) v↔∃a,v=.ref a/\nX K G a (b.map V.int):=by simp only[cI]
def qZ{v:V}:cI K G (.ins c b d) v↔∃a C f e,v=.ref a/\vb K bw c=Y (Y (.ref C))/\G a=Y (.ins C f (b.zip e))/\b.length=d.length/\be K G d e:=by simp only[cI]
def B8{v:V}:cI K G (.jn b c) v↔∃a d,v=.ref a/\G a=Y (.dK (b.zip d))/\b.length=c.length/\be K G c d:=by simp only[cI]
def qY{s:Sk}{v:V}:cI K G (.obj s t) v↔cI K G t v:=by simp only[cI]
def tW{v:V}:cI K G (.eS r p) v↔∃a,v=.ref a:=by simp only[cI]
def cV:be K G [] a↔a=[]:=by simp only[be]
def bt:be K G (d::b) a↔∃v r,a=v::r/\cI K G d v/\be K G b r:=by simp only[be]
def be.cons{d:D}{v:V}(h:cI K G d v)(t:be K G b a):be K G (d::b) (v::a):=bt.mpr ⟨v,a,rfl,h,t⟩
def be.nil:be K G [] []:=cV.mpr rfl
theorem be.length:∀ {ds:List D}{a:List V},be K G ds a->ds.length=a.length
 |[],a,h=>by rw[cV.mp h];rfl
 |d::ds,a,h=>by obtain⟨v,r,rfl,_,t⟩:=bt.mp h;simp[be.length t]
theorem be.get:∀ {b:List D}{a:List V}{i:Nat}{d:D},be K G b a->b[i]?=Y d->∃v,a[i]?=Y v/\cI K G d v
 |[],a,i,d,h,e=>by simp at e
 |c::b,a,0,d,h,e=>by obtain⟨v,r,rfl,q,t⟩:=bt.mp h;simp at e;subst e;exact⟨v,rfl,q⟩
 |c::b,a,i+1,d,h,e=>by obtain⟨v,r,rfl,q,t⟩:=bt.mp h;obtain⟨u,g,f⟩:=be.get (i:=i) t (by simpa using e);exact⟨u,by simpa using g,f⟩
theorem be.append:∀ {e c:List D}{a b:List V},be K G e a->be K G c b->be K G (e++c) (a++b)
 |[],c,a,b,h,k=>by rw[cV.mp h];exact k
 |d::e,c,a,b,h,k=>by obtain⟨v,r,rfl,q,t⟩:=bt.mp h;exact .cons q (be.append t k)
theorem be.take:∀ {b:List D}{a:List V}(n:Nat),be K G b a->be K G (b.take n) (a.take n)
 |[],a,n,h=>by rw[cV.mp h];simp;exact .nil
 |d::b,a,0,h=>by simp;exact .nil
 |d::b,a,n+1,h=>by obtain⟨v,r,rfl,q,t⟩:=bt.mp h;exact .cons q (be.take n t)
theorem be.drop:∀ {ds:List D}{a:List V}(n:Nat),be K G ds a->be K G (ds.drop n) (a.drop n)
 |[],a,n,h=>by rw[cV.mp h];simp;exact .nil
 |d::ds,a,0,h=>by simpa using h
 |d::ds,a,n+1,h=>by obtain⟨v,r,rfl,q,t⟩:=bt.mp h;exact be.drop n t
theorem be.set:∀ {b:List D}{a:List V}{d:D}{v:V}(n:Nat),be K G b a->cI K G d v->be K G (b.set n d) (a.set n v)
 |[],a,d,v,n,h,q=>by rw[cV.mp h];simp;exact .nil
 |c::b,a,d,v,0,h,q=>by obtain⟨u,r,rfl,_,t⟩:=bt.mp h;exact .cons q t
 |c::b,a,d,v,n+1,h,q=>by obtain⟨u,r,rfl,p,t⟩:=bt.mp h;exact .cons p (be.set n t q)
def be.dropLast(h:be K G b a):be K G b.dropLast a.dropLast:=by
 rw[Qj,Qj,h.length];exact h.take _
theorem be.rep(h:be K G b a):∀k:Nat,be K G (bS k b).flatten (bS k a).flatten
 |0 =>.nil|k+1=>by rw[gV,gV,kU,kU];exact h.append (be.rep h k)
theorem be.ints:∀(a:List Int),be K G (a.map D.int) (a.map V.int)
 |[] =>.nil|n::a =>.cons (bE.mpr rfl) (be.ints a)
end
structure gf(G H G' H':Hp):Prop where
 hh:a_ H H'
 gg:a_ G G'
 gh:a_ G' H'
 fr:∀b o,G' b=some o->G b=some o\/H b=none
def gf.refl(s:a_ G H):gf G H G H:=⟨a_.refl _,a_.refl _,s,λ_ _ e =>.inl e⟩
def gf.trans{f:Hp}(a:gf G H h f)(b:gf h f g d):gf G H g d:=
 ⟨a.hh.trans b.hh,a.gg.trans b.gg,b.gh,λc o e=>by
  rcases b.fr c o e with q|q
  ·exact a.fr c o q
  ·exact .inr (a.hh.free q)⟩
def a_.alloc{p:az}{o:HO}(h:H p=M):a_ H (dg H p o):=λb u e=>by rw[aY (bF e h)];exact e
def a_.both(s:a_ G H):a_ (dg G p o) (dg H p o):=λb u e=>by
 by_cases a:b=p
 ·subst a;rw[bj]at e ⊢;exact e
 ·rw[aY a]at e ⊢;exact s _ _ e
def gf.alloc{p:az}{o:HO}(s:a_ G H)(h:H p=M):gf G H (dg G p o) (dg H p o):=
 ⟨.alloc h,.alloc (s.free h),s.both,λb u e=>by
  by_cases a:b=p
  ·subst a;exact .inr h
  ·rw[aY a]at e;exact .inl e⟩
def gf.lay{p:az}{o:HO}(s:a_ G H)(h:H p=M):gf G H G (dg H p o):=
 ⟨.alloc h,a_.refl _,s.trans (.alloc h),λ_ _ e =>.inl e⟩
def gf.freeze(E:gf G H G' c)(h:H p=M)(g:G' p=M)(e:c p=Y o):gf G H (dg G' p o) c:=
 ⟨E.hh,E.gg.trans (.alloc g),λb u q=>by
  by_cases a:b=p
  ·subst a;rw[bj]at q;cases q;exact e
  ·rw[aY a]at q;exact E.gh _ _ q,λb u q=>by
  by_cases a:b=p
  ·subst a;exact .inr h
  ·rw[aY a]at q;exact E.fr _ _ q⟩
def jt(K:aT)(G:Hp):D->HO->Prop
 |.lst b,o=>∃a,o=.lst a/\be K G b a|.ins c d b,o=>∃C e a,o=.ins C e (d.zip a)/\vb K bw c=Y (Y (.ref C))/\d.length=b.length/\be K G b a|.jn d b,o=>∃a,o=.dK (d.zip a)/\d.length=b.length/\be K G b a|_,_=>False
section
variable {K:aT}
def jt.mono(s:a_ G G'){d:D}(h:jt K G d o):jt K G' d o:=by
 cases d with
 |lst b=>obtain⟨a,e,r⟩:=h;exact⟨a,e,be.mono s b r⟩
 |ins c f b=>obtain⟨C,g,a,e,n,l,r⟩:=h;exact⟨C,g,a,e,n,l,be.mono s b r⟩
 |jn f b=>obtain⟨a,e,l,r⟩:=h;exact⟨a,e,l,be.mono s b r⟩
 |_=>exact h.elim
def jt.rep{d:D}(h:jt K G d o)(e:G a=Y o):cI K G d (.ref a):=by
 cases d with
 |lst f=>obtain⟨b,rfl,r⟩:=h;exact bZ.mpr ⟨a,b,rfl,e,r⟩
 |ins c g f=>obtain⟨C,i,b,rfl,n,l,r⟩:=h;exact qZ.mpr ⟨a,C,i,b,rfl,n,e,l,r⟩
 |jn g f=>obtain⟨b,rfl,l,r⟩:=h;exact B8.mpr ⟨a,b,rfl,e,l,r⟩
 |_=>exact h.elim
end
end L2
namespace L2
open PySem
noncomputable def dG(a:List (aM×Sk))(k:aM):Sk:=(a.lookup k).getD .lf
mutual
inductive cQ (K:aT) (G H:Hp):Sk->D->V->List az->Prop
 |leaf {d:D}{v:V}:cI K G d v->cQ K G H .lf d v []
 |lst {s:Sk}{ds:List D}{a:az}{vs:List V}{S:List az}:H a=some (.lst vs)->gm K G H (bS ds.length s) ds vs S->cQ K G H (.li s) (.lst ds) (.ref a) (a::S)
 | ins {c:aM}{ks:List aM}{fk:List (aM×Sk)}{ds:List D}{a C dx:az}{vs:List V}{S:List az}:vb K bw c=some (some (.ref C))->H a=some (.ins C dx (ks.zip vs))->ks.length=ds.length ->
   gm K G H (ks.map (dG fk)) ds vs S->cQ K G H (.fs c fk) (.ins c ks ds) (.ref a) (a::S)
 |jn {ks:List mi}{ds:List D}{a:az}{vs:List V}:H a=some (.dK (ks.zip vs))->ks.length=ds.length->be K G ds vs->cQ K G H .di (.jn ks ds) (.ref a) [a]
inductive gm (K:aT) (G H:Hp):List Sk->List D->List V->List az->Prop
 |nil:gm K G H [] [] [] []
 |cons {s:Sk}{ss:List Sk}{d:D}{ds:List D}{v:V}{vs:List V}{S T:List az}:cQ K G H s d v S->gm K G H ss ds vs T->gm K G H (s::ss) (d::ds) (v::vs) (S++T)
end
section
variable {K:aT}{f:Hp}
def cQ.mono{d:D}{v:V}{S:List az}(g:a_ G f)(h:∀b∈S,∀o,H b=Y o->i b=Y o)(x:cQ K G H c d v S):cQ K f i c d v S:=by
 induction x using cQ.rec (motive_2:=λe j d S _=>(∀b∈S,∀o,H b=Y o->i b=Y o)->gm K f i e j d S) with
 |leaf r=>exact .leaf (cI.mono g _ r)|lst e t j=>exact .lst (h _ au _ e) (j λb a=>h b (ao _ a))
 |ins n e l t j=>exact .ins n (h _ au _ e) l (j λb a=>h b (ao _ a))
 |jn e l t=>exact .jn (h _ au _ e) l (be.mono g _ t)|nil=>exact .nil|cons a t j k=>rename_i h;exact .cons (j λb c=>h b (bb _ c)) (k λb c=>h b (aG _ c))
def gm.mono{d:List V}{S:List az}(g:a_ G f)(h:∀b∈S,∀o,H b=Y o->i b=Y o)(x:gm K G H e j d S):gm K f i e j d S:=by
 induction x using gm.rec (motive_1:=λ_ _ _ _ _=>True) with
 |nil=>exact .nil|cons a t _ k=>exact .cons (cQ.mono g (λb c=>h b (bb _ c)) a) (k λb c=>h b (aG _ c))
 |_=>trivial
def F8(H:Hp)(b:az):Prop:=∃o,H b=Y o/\∀a,o ≠ .tup a
def cQ.here{v:V}{S:List az}(x:cQ K G H g d v S):∀b∈S,F8 H b:=by
 induction x using cQ.rec (motive_2:=λ_ _ _ S _=>∀b∈S,F8 H b) with
 |lst e t j=>exact lC.2 ⟨⟨_,e,nofun⟩,j⟩
 |ins n e l t j=>exact lC.2 ⟨⟨_,e,nofun⟩,j⟩
 |jn e l t=>exact lC.2 ⟨⟨_,e,nofun⟩,nofun⟩
 |cons a t j k=>rename_i h;exact(aV.1 h).elim (j _) (k _)|leaf=>exact nofun
 |nil=>contradiction
def gm.length{ds:List D}{a:List V}{S:List az}(h:gm K G H ss ds a S):ds.length=a.length/\ss.length=ds.length:=by
 induction ds generalizing ss a S with
 |nil=>cases h;exact⟨rfl,rfl⟩| cons d ds ih=>cases h with
  |cons _ t=>have:=ih t;simp[this.1,this.2]
noncomputable def kv(G H:Hp)(S:List az):Hp:=λb=>if b∈S then H b else G b
noncomputable def fx(G:Hp)(S:List az):Hp:=λb=>if b∈S then M else G b
def q_{S:List az}(h:b∈S):kv G H S b=H b:=by simp[kv,h]
def ph{S:List az}(h:b∉S):kv G H S b=G b:=by simp[kv,h]
def jw{S:List az}(h:b∈S):fx G S b=none:=by simp[fx,h]
def cy{S:List az}(h:b∉S):fx G S b=G b:=by simp[fx,h]
def qz{S:List az}(n:∀b∈S,G b=M):a_ G (kv G H S):=λb o e=>by
 by_cases a:b∈S
 ·rw[n b a]at e;cases e
 ·rw[ph a];exact e
def oI{S:List az}(s:a_ G H):a_ (kv G H S) H:=λb o e=>by
 by_cases a:b∈S
 ·rw[q_ a]at e;exact e
 ·rw[ph a]at e;exact s b o e
def cQ.frozen{d:D}{v:V}{S:List az}(n:∀b∈T,G b=M)(a:∀b∈S,b∈T)(x:cQ K G H g d v S):cI K (kv G H T) d v:=by
 induction x using cQ.rec (motive_2:=λ_ g e S _=>(∀b∈S,b∈T)->be K (kv G H T) g e) with
 |leaf r=>exact cI.mono (qz n) _ r|lst e t j=>exact bZ.mpr ⟨_,_,rfl,by rw[q_ (a _ au)];exact e,j λb c=>a b (ao _ c)⟩
 |ins h e l t j=>exact qZ.mpr ⟨_,_,_,_,rfl,h,by rw[q_ (a _ au)];exact e,l,j λb c=>a b (ao _ c)⟩
 |jn e l t=>exact B8.mpr ⟨_,_,rfl,by rw[q_ (a _ au)];exact e,l,be.mono (qz n) _ t⟩
 |nil=>exact cV.mpr rfl|cons a t j k=>rename_i c;exact bt.mpr ⟨_,_,rfl,j λb d=>c b (bb _ d),k λb d=>c b (aG _ d)⟩
mutual
def sT:D->Bool
 |.eN=>Z'|.bl _=>Z'|.int _=>Z'|.str _=>Z'|.lst _=>Z_|.tup a=>rg a|.mH _=>Z_|.ins _ _ _=>Z_|.jn _ _=>Z_|.obj _ _=>Z_|.eS _ _=>Z_
def rg:List D->Bool
 |[]=>Z'|d::a=>sT d&&rg a
end
mutual
theorem DN{S:List az}{d:D}(n:∀b∈S,∀c,G b≠Y (.tup c)){v:V}(p:sT d=Z')(r:cI K G d v):cI K (fx G S) d v:=by
 cases d with
 |tup h=>
  obtain⟨a,c,rfl,e,q⟩:=cY.mp r;have g:a∉S:=λz=>n a z c e
  exact cY.mpr ⟨a,c,rfl,by rw[cy g];exact e,mJ n (by simpa only [sT] using p) q⟩
 |_=>first|cases p;done|simpa only [cI] using r
theorem mJ{S:List az}{c:List D}(n:∀b∈S,∀a,G b≠Y (.tup a)){a:List V}(p:rg c=Z')(r:be K G c a):be K (fx G S) c a:=by
 cases c with
 |nil=>simpa only [be] using r|cons d c=>obtain⟨v,t,rfl,g,e⟩:=bt.mp r;simp only[rg,aX]at p;exact bt.mpr ⟨v,t,rfl,DN n p.1 g,mJ n p.2 e⟩
end
def zI{S:List az}(s:a_ G H)(n:∀b∈S,G b=M)(o:∀b∈S,F8 H b)(E:gf (kv G H S) H f i):gf G H (fx f S) i/\∀b∈S,∀c,f b≠Y (.tup c):=by
 refine⟨⟨E.hh,λb u e =>?_,λb u e =>?_,λb u e =>?_⟩,λb a c z =>?_⟩
 ·have a:b∉S:=λz=>by rw[n b z]at e;cases e
  rw[cy a];exact E.gg b u (by rw[ph a];exact e)
 ·by_cases a:b∈S
  ·rw[jw a]at e;cases e
  ·rw[cy a]at e;exact E.gh b u e
 ·by_cases a:b∈S
  ·rw[jw a]at e;cases e
  ·rw[cy a]at e;rcases E.fr b u e with q|q
   ·rw[ph a]at q;exact .inl q
   ·exact .inr q
 ·obtain⟨u,g,d⟩:=o b a;have:=E.gg b u (by rw[q_ a];exact g);rw[z]at this;cases this;exact d c rfl
end
noncomputable def Ap(f:aM):List aM->Option Nat
 |[]=>M|k::ks=>if f==k then Y 0 else (Ap f ks).map (· + 1)
theorem RE{f:aM}:∀ {a:List aM}{n:Nat},Ap f a=Y n->n<a.length
 |[],n,h=>by cases h
 | k::a,n,h=>by
  unfold Ap at h;split at h
  ·cases h;simp
  ·obtain⟨m,e,h⟩:=ah.1 h;cases h;have:=RE e;simp;omega
theorem vO{f:aM}:∀ {a:List aM}{n:Nat},Ap f a=Y n->a[n]?=Y f
 |[],n,h=>by cases h
 | k::a,n,h=>by
  unfold Ap at h;split at h
  ·rename_i e;cases h;simp at e;subst e;rfl
  ·obtain⟨m,e,h⟩:=ah.1 h;cases h;simpa using vO e
theorem tX{f:aM}:∀ {a:List aM}{n:Nat}{xs:List b},Ap f a=Y n->(a.zip xs).lookup f=xs[n]?
 |[],n,xs,h=>by cases h
 |k::a,n,[],h=>by simp
 | k::a,n,x::xs,h=>by
  unfold Ap at h;simp only[cz,dO];cases e:(f==k) with
  |true=>rw[e]at h;simp at h;subst h;rfl|false=>
   rw[e]at h;simp only[eB,if_false]at h;rcases e2:Ap f a with _|m
   ·rw[e2]at h;cases h
   rw[e2]at h;simp at h;subst h;simpa using tX (xs:=xs) e2
noncomputable def fM:z9->D->Option D
 |[],d=>Y d|.fld f::p,.ins _ b a=>(Ap f b).bind λn=>(a[n]?).bind (fM p)
 |.ix k::p,.lst a=>(a[k]?).bind (fM p)|_::_,_=>M
noncomputable def nh(x:D):z9->D->D
 |[],_=>x|.fld f::p,.ins c b a=>match Ap f b with|none =>.ins c b a|some n=>match a[n]? with|none =>.ins c b a|some d =>.ins c b (a.set n (nh x p d))
 |.ix k::p,.lst a=>match a[k]? with|none =>.lst a|some d =>.lst (a.set k (nh x p d))
 |_::_,d=>d
noncomputable def mL:z9->Sk->Option Sk
 |[],s=>Y s|.fld f::p,.fs _ a=>mL p (dG a f)|.ix _::p,.li s=>mL p s|_::_,_=>M
noncomputable def gS(H:Hp):z9->V->Option V
 |[],v=>Y v|.fld f::p,.ref a=>match H a with|some (.ins _ _ c)=>(c.lookup f).bind (gS H p)|_=>M
 |.ix k::p,.ref a=>match H a with|some (.lst b)=>(b[k]?).bind (gS H p)|_=>M
 |_::_,_=>M
section
variable {K:aT}
theorem gm.at{i:List Sk}{ds:List D}{vs:List V}{S:List az}(h:gm K G H i ds vs S):∀ {n:Nat}{s:Sk}{d:D},i[n]?=Y s->ds[n]?=Y d->∃v T U,vs[n]?=Y v/\cQ K G H s d v T/\S.Perm (T++U) /\
  ∀(G' H':Hp) (j:Sk) (x:D) (u:V) (f:List az),a_ G G'->(∀b∈U,∀o,H b=Y o->H' b=Y o)->cQ K G' H' j x u f->∃S',gm K G' H' (i.set n j) (ds.set n x) (vs.set n u) S'/\S'.Perm (f++U):=by
 induction ds generalizing i vs S with
 |nil=>intro n s d _ e;simp at e
 |cons c ds ih=>
  intro n s d es e;cases h with
  |@cons C i _ _ v vs S1 p a t=>
   cases n with
   |zero=>simp at e es;subst e;subst es;refine⟨v,S1,p,rfl,a,.rfl,λG' H' j x u f g k l=>⟨f++p,?_,.rfl⟩⟩;exact .cons l (t.mono g k)
   |succ n=>
    simp at e es;obtain⟨w,T,U,B,z,r,A⟩:=ih t es e;refine⟨w,T,S1++U,by simpa using B,z,?_,λG' H' j x u f g k l =>?_⟩
    ·exact((r.append_left S1).trans (cC S1 T U))
    ·obtain⟨S',y,q⟩:=A G' H' j x u f g (λb m=>k b (aG _ m)) l;refine⟨S1++S',.cons (a.mono g λb m=>k b (bb _ m)) y,?_⟩;exact(q.append_left S1).trans (cC S1 f U)
theorem gB{a:Type}:∀ {l:List a}{n:Nat}{x:a},l[n]?=Y x->l.set n x=l
 |[],n,x,h=>by simp at h
 |y::l,0,x,h=>by simp at h;subst h;rfl
 |y::l,n+1,x,h=>by simp at h;simp[gB h]
theorem cQ.focus:∀ {p:z9}{P k:Sk}{d O:D}{v:V}{S:List az},cQ K G H P d v S->mL p P=Y k->fM p d=Y O->∃v' T U,gS H p v=Y v'/\cQ K G H k O v' T/\S.Perm (T++U) /\
  ∀(J I:Hp) (x:D) (w:List az),a_ G J->(∀b∈U,∀o,H b=Y o->I b=Y o)->cQ K J I k x v' w->∃S',cQ K J I P (nh x p d) v S'/\S'.Perm (w++U)
 |[],P,k,d,O,v,S,h,u,z=>by cases u;cases z;exact⟨v,S,[],rfl,h,Ž,λJ I x w g r ox=>⟨w,ox,Ž⟩⟩
 | .fld f::p,P,k,d,O,v,S,h,u,z=>by
  cases h with
  |@ins c ks fk L a C dx vs S n e l t=>
   have u:mL p (dG fk f)=Y k:=u;have z:(Ap f ks).bind (λn=>(L[n]?).bind (fM p))=Y O:=z;obtain⟨m,ei,z⟩:=aa.1 z;have A:(ks.map (dG fk))[m]?=Y (dG fk f):=by rw[aF,vO ei];rfl
   generalize dG fk f=s1 at u A
   ·obtain⟨d1,B,z⟩:=aa.1 z;obtain⟨v1,T1,i,X,o1,p1,k1⟩:=t.at A B;obtain⟨Q,F,j,q2,o2,p2,k2⟩:=cQ.focus o1 u z;have hv:gS H (.fld f::p) (.ref a)=Y Q:=by simp only[gS,e];rw[tX ei,X];exact q2
    refine⟨Q,F,j++(a::i),hv,o2,?_,λJ I y w g r oy =>?_⟩
    ·have:(a::S).Perm (a::(F++j++i)):=(p1.trans (p2.append_right i)).cons a;refine this.trans ?_;have q:(a::(F++j++i)).Perm ((F++j)++(a::i)):=by have:=cC [a] (F++j) i;simpa using this
     exact q.trans (wu Ž)
    ·obtain⟨S1,o3,p3⟩:=k2 J I y w g (λb N=>r b (bb _ N)) oy;obtain⟨S2,R,p4⟩:=k1 J I s1 (nh y p d1) v1 S1 g (λb N=>r b (aG _ (ao _ N))) o3;rw[gB A,gB X]at R;refine⟨a::S2,?_,?_⟩
     ·have E:nh y (.fld f::p) (.ins c ks L)=.ins c ks (L.set m (nh y p d1)):=by simp only[nh,ei,B]
      rw[E];exact .ins n (r a (aG _ au) _ e) (by simpa using l) R
     ·have:(a::S2).Perm (a::(w++j++i)):=(p4.trans (p3.append_right i)).cons a;refine this.trans ?_;have q:(a::(w++j++i)).Perm ((w++j)++(a::i)):=by have:=cC [a] (w++j) i;simpa using this
      exact q.trans (wu Ž)
  |_=>cases u
 | .ix m::p,P,k,d,O,v,S,h,u,z=>by
  cases h with
  |@lst s L a vs S e t=>
   have u:mL p s=Y k:=u;have z:(L[m]?).bind (fM p)=Y O:=z;obtain⟨d1,B,z⟩:=aa.1 z;have hm:m<L.length:=(af.mp B).1;have A:(bS L.length s)[m]?=Y s:=by simp[hm]
   obtain⟨v1,T1,i,X,o1,p1,k1⟩:=t.at A B;obtain⟨Q,F,j,q2,o2,p2,k2⟩:=cQ.focus o1 u z;have hv:gS H (.ix m::p) (.ref a)=Y Q:=by simp only[gS,e];rw[X];exact q2
   refine⟨Q,F,j++(a::i),hv,o2,?_,λJ I y w g r oy =>?_⟩
   ·have:(a::S).Perm (a::(F++j++i)):=(p1.trans (p2.append_right i)).cons a;refine this.trans ?_;have q:(a::(F++j++i)).Perm ((F++j)++(a::i)):=by have:=cC [a] (F++j) i;simpa using this
    exact q.trans (wu Ž)
   ·obtain⟨S1,o3,p3⟩:=k2 J I y w g (λb N=>r b (bb _ N)) oy;obtain⟨S2,R,p4⟩:=k1 J I s (nh y p d1) v1 S1 g (λb N=>r b (aG _ (ao _ N))) o3;rw[gB A,gB X]at R;refine⟨a::S2,?_,?_⟩
    ·have E:nh y (.ix m::p) (.lst L)=.lst (L.set m (nh y p d1)):=by simp only[nh,B]
     rw[E];exact .lst (r a (aG _ au) _ e) (by rw[G_];exact R)
    ·have:(a::S2).Perm (a::(w++j++i)):=(p4.trans (p3.append_right i)).cons a;refine this.trans ?_;have q:(a::(w++j++i)).Perm ((w++j)++(a::i)):=by have:=cC [a] (w++j) i;simpa using this
     exact q.trans (wu Ž)
  |_=>cases u
end
section
variable {K:aT}
theorem jR(s:a_ H H'):∀ {p:z9}{v b:V},gS H p v=Y b->gS H' p v=Y b
 |[],v,b,h=>h| .fld f::p,.ref a,b,h=>by
  simp only[gS]at h ⊢;rcases e:H a with _|o
  ·rw[e]at h;cases h
  rw[e]at h;rw[s _ _ e];cases o<;>simp only at h ⊢<;>try (cases h;done)
  rename_i C g d;obtain⟨u,e2,h⟩:=aa.1 h;rw[e2];exact jR s (p:=p) h
 | .ix k::p,.ref a,b,h=>by
  simp only[gS]at h ⊢;rcases e:H a with _|o
  ·rw[e]at h;cases h
  rw[e]at h;rw[s _ _ e];cases o<;>simp only at h ⊢<;>try (cases h;done)
  rename_i c;obtain⟨u,e2,h⟩:=aa.1 h;rw[e2];exact jR s (p:=p) h
 |.fld f::p,.eN,b,h=>by cases h
 |.fld f::p,.bl _,b,h=>by cases h
 |.fld f::p,.int _,b,h=>by cases h
 |.fld f::p,.str _,b,h=>by cases h
 |.fld f::p,.GL _,b,h=>by cases h
 |.fld f::p,.Ni _,b,h=>by cases h
 |.fld f::p,.ty _,b,h=>by cases h
 |.ix f::p,.eN,b,h=>by cases h
 |.ix f::p,.bl _,b,h=>by cases h
 |.ix f::p,.int _,b,h=>by cases h
 |.ix f::p,.str _,b,h=>by cases h
 |.ix f::p,.GL _,b,h=>by cases h
 |.ix f::p,.Ni _,b,h=>by cases h
 |.ix f::p,.ty _,b,h=>by cases h
theorem y6(s:a_ G H):∀ {p:z9}{d g:D}{v:V},cI K G d v->fM p d=Y g->∃y,gS H p v=Y y/\cI K G g y
 |[],d,g,v,r,e=>by cases e;exact⟨v,rfl,r⟩
 | .fld f::p,d,g,v,r,e=>by
  cases d with
  |ins c A x=>obtain⟨a,C,F,z,rfl,n,j,l,i⟩:=qZ.mp r;have e:(Ap f A).bind (λn=>(x[n]?).bind (fM p))=Y g:=e;obtain⟨m,B,e⟩:=aa.1 e;obtain⟨E,t,e⟩:=aa.1 e;obtain⟨u,q,h⟩:=i.get t;obtain⟨w,o,b⟩:=y6 s (p:=p) h e;refine⟨w,?_,b⟩;simp only[gS,s _ _ j];rw[tX B,q];exact o
  |_=>cases e
 | .ix k::p,d,g,v,r,e=>by
  cases d with
  |lst x=>obtain⟨a,z,rfl,j,i⟩:=bZ.mp r;have e:(x[k]?).bind (fM p)=Y g:=e;obtain⟨E,t,e⟩:=aa.1 e;obtain⟨u,q,h⟩:=i.get t;obtain⟨w,o,b⟩:=y6 s (p:=p) h e;refine⟨w,?_,b⟩;simp only[gS,s _ _ j];rw[q];exact o
  |_=>cases e
theorem yI{f:aM}:∀ {ks:List aM}{vs:List V}{u:V},(ks.zip vs).lookup f=Y u->∃m,Ap f ks=Y m/\vs[m]?=Y u
 |[],vs,u,h=>by simp at h
 |k::ks,[],u,h=>by simp at h
 | k::ks,v::vs,u,h=>by
  simp only[cz,dO]at h;cases e:(f==k) with
  |true=>rw[e]at h;cases h;exact⟨0,by simp[Ap,e],rfl⟩
  |false=>rw[e]at h;obtain⟨m,b,a⟩:=yI (ks:=ks) (vs:=vs) h;exact⟨m+1,by simp[Ap,e,b],by simpa using a⟩
theorem cQ.Cs:∀ {p:z9}{y i:Sk}{d:D}{v x:V}{S:List az},cQ K G H y d v S->mL p y=Y i->(∀b∈S,∀o,H b=Y o->H' b=Y o)->gS H p v=Y x->gS H' p v=Y x
 |[],y,i,d,v,x,S,h,g,k,e=>e| .fld f::p,y,i,d,v,x,S,h,g,k,e=>by
  cases h with
  |@ins c N r E a C X F S n z l t=>
   have g:mL p (dG r f)=Y i:=g;simp only[gS,z]at e;simp only[gS,k a au _ z];obtain⟨u,j,e⟩:=aa.1 e;rw[j];simp only[ab]at e ⊢;obtain⟨m,R,O⟩:=yI j;have w:(N.map (dG r))[m]?=Y (dG r f):=by rw[aF,vO R];rfl
   have B:m<E.length:=by rw[t.length.1];exact(af.mp O).1
   obtain⟨P,U,T,A,J,I,Q⟩:=t.at w (aO B);rw[O]at A;cases A;exact cQ.Cs J g (λb L o q=>k b (ao _ (I.symm.subset (bb _ L))) o q) e
  |_=>cases g
 | .ix m::p,y,i,d,v,x,S,h,g,k,e=>by
  cases h with
  |@lst s E a F S z t=>
   have g:mL p s=Y i:=g;simp only[gS,z]at e;simp only[gS,k a au _ z];obtain⟨u,j,e⟩:=aa.1 e;rw[j];simp only[ab]at e ⊢;have B:m<E.length:=by rw[t.length.1];exact(af.mp j).1
   have w:(bS E.length s)[m]?=Y s:=by simp[B]
   obtain⟨P,U,T,A,J,I,Q⟩:=t.at w (aO B);rw[j]at A;cases A;exact cQ.Cs J g (λb L o q=>k b (ao _ (I.symm.subset (bb _ L))) o q) e
  |_=>cases g
noncomputable def AF:z9->List aM
 |[]=>[]|.fld f::p=>f::AF p|.ix _::p=>AF p
theorem vS{s m:List (aM×V)}(j:H x=Y (.ins C A s))(i:H' x=Y (.ins B t m))(l:∀b,b≠x->∀o,H b=Y o->H' b=Y o):∀ {p:z9}{v d:V},(∀g∈AF p,m.lookup g=s.lookup g)->gS H p v=Y d->gS H' p v=Y d
 |[],v,d,c,h=>h| .fld g::p,.ref a,d,c,h=>by
  simp only[gS]at h ⊢;by_cases n:a=x
  ·subst n;rw[j]at h;rw[i];simp only at h ⊢;rw[c g (by simp[AF])];obtain⟨u,e2,h⟩:=aa.1 h;rw[e2];exact vS j i l (p:=p) (λg q=>c g (by simp[AF,q])) h
  ·rcases e:H a with _|o
   ·rw[e]at h;cases h
   rw[e]at h;rw[l a n _ e];cases o<;>simp only at h ⊢<;>try (cases h;done)
   rename_i D y r;obtain⟨u,e2,h⟩:=aa.1 h;rw[e2];exact vS j i l (p:=p) (λg q=>c g (by simp[AF,q])) h
 | .ix k::p,.ref a,d,c,h=>by
  simp only[gS]at h ⊢;rcases e:H a with _|o
  ·rw[e]at h;cases h
  rw[e]at h;cases o<;>simp only at h<;>try (cases h;done)
  rename_i w;have n:a≠x:=λz=>by subst z;rw[j]at e;cases e
  rw[l a n _ e];simp only;obtain⟨u,e2,h⟩:=aa.1 h;rw[e2];exact vS j i l (p:=p) c h
 |.fld f::p,.eN,d,c,h=>by cases h
 |.fld f::p,.bl _,d,c,h=>by cases h
 |.fld f::p,.int _,d,c,h=>by cases h
 |.fld f::p,.str _,d,c,h=>by cases h
 |.fld f::p,.GL _,d,c,h=>by cases h
 |.fld f::p,.Ni _,d,c,h=>by cases h
 |.fld f::p,.ty _,d,c,h=>by cases h
 |.ix f::p,.eN,d,c,h=>by cases h
 |.ix f::p,.bl _,d,c,h=>by cases h
 |.ix f::p,.int _,d,c,h=>by cases h
 |.ix f::p,.str _,d,c,h=>by cases h
 |.ix f::p,.GL _,d,c,h=>by cases h
 |.ix f::p,.Ni _,d,c,h=>by cases h
 |.ix f::p,.ty _,d,c,h=>by cases h
def cQ.root{s:Sk}{v:V}{S:List az}(h:cQ K G H s t v S)(b:s ≠ .lf):∃a o,v=.ref a/\H a=Y o/\a∈S:=by
 cases h with|leaf r=>exact absurd rfl b|lst e t=>exact⟨_,_,rfl,e,au⟩|ins n e l t=>exact⟨_,_,rfl,e,au⟩|jn e l t=>exact⟨_,_,rfl,e,au⟩
end
noncomputable def je(f:aM)(d:D):List aM->List D->List aM×List D
 |k::a,x::b=>if k=f then (k::a,d::b) else (k::(je f d a b).1,x::(je f d a b).2)
 |_,_=>([f],[d])
section
variable {K:aT}
theorem DS{f:aM}{v:V}{m:List az}(s:cQ K G H (dG j f) d v m):∀ {b:List aM}{c:List D}{i:List V}{S:List az},b.length=c.length->gm K G H (b.map (dG j)) c i S ->
  ∃g o R,lU f v (b.zip i)=(je f d b c).1.zip g/\(je f d b c).1.length=(je f d b c).2.length/\gm K G H ((je f d b c).1.map (dG j)) (je f d b c).2 g o/\o.Perm (m++R)/\R.Sublist S
 |[],[],i,S,h,r=>by cases r;exact⟨[v],m++[],[],rfl,rfl,.cons s .nil,.rfl,.slnil⟩
 |[],x::c,i,S,h,r=>by simp at h
 |k::b,[],i,S,h,r=>by simp at h
 | k::b,x::c,i,S,h,r=>by
  have r:gm K G H (dG j k::b.map (dG j)) (x::c) i S:=r;cases r with
  |@cons _ _ _ _ u n T U a t=>
   simp only[aP,Na]at h;unfold je;rw[cz,show lU f v ((k,u)::b.zip n)=(if k=f then (k,v)::b.zip n else (k,u)::lU f v (b.zip n)) from rfl];by_cases w:k=f
   ·subst w;rw[if_pos rfl,if_pos rfl];exact⟨v::n,m++U,U,rfl,by simp[h],.cons s t,.rfl,List.sublist_append_right T U⟩
   ·rw[if_neg w,if_neg w];obtain⟨g,o,R,e,l,q,p,z⟩:=DS s h t;exact⟨u::g,T++o,T++R,by rw[cz,e],by simp[l],.cons a q,(p.append_left T).trans (cC T m R),z.append_left T⟩
theorem cQ.put{p:z9}{s:Sk}{v:V}{S1:List az}{f:aM}{d:D}{u:V}(h:cQ K G H s t v T)(nd:T.Nodup)(es:mL p s=Y (.fs c L))(ep:fM p t=Y (.ins c j A))(g:a_ G G')(k:∀b∈T,∀o,H b=Y o->B b=Y o)(ov:cQ K G' B (dG L f) d u S1)(X:S1.Nodup)(dj:∀b∈S1,b∉T):
  ∃x C y r,gS H p v=Y (.ref x)/\x∈T/\vb K bw c=Y (Y (.ref C))/\H x=Y (.ins C y (j.zip r))/\j.length=A.length/\j.length=r.length /\
   ∃F,cQ K G' (dg B x (.ins C y (lU f u (j.zip r)))) s (nh (.ins c (je f d j A).1 (je f d j A).2) p t) v F/\F.Nodup/\∀b∈F,b∈T\/b∈S1:=by
 obtain⟨v',T1,U,e1,o1,E,k1⟩:=h.focus es ep;cases o1 with
 |@ins _ _ _ _ x C y r J n ex l tt=>
  have m:(x::J++U).Nodup:=E.nodup_iff.mp nd;have hxS:x∉J:=λz=>by simp at m;exact m.1.1 z
  have hxU:x∉U:=λz=>by simp at m;exact m.1.2 z
  have O:x∈T:=E.symm.subset Ž;have I:∀b∈J,b∈T:=λb i=>E.symm.subset (by simp[i])
  have UT:∀b∈U,b∈T:=λb i=>E.symm.subset (by simp[i])
  have x1:x∉S1:=λz=>dj x z O
  refine⟨x,C,y,r,e1,O,n,ex,l,by rw[l,tt.length.1],?_⟩;have Q:gm K G' B (j.map (dG L)) A r J:=tt.mono g λb i o e=>k b (I b i) o e
  obtain⟨P,S',R,z1,z2,z3,N,W⟩:=DS ov l Q;have hx':∀b∈S',b≠x:=λb i z=>by
   subst z;have:=N.subset i;rcases aV.mp this with q|q
   ·exact x1 q
   ·exact hxS (W.subset q)
  have oo:cQ K G' (dg B x (.ins C y (lU f u (j.zip r)))) (.fs c L) (.ins c (je f d j A).1 (je f d j A).2) (.ref x) (x::S'):=
   .ins (dx:=y) (vs:=P) n (by rw[bj,z1]) z2 (z3.mono (a_.refl _) λb i o e=>by rw[aY (hx' b i)];exact e)
  obtain⟨F,o2,p2⟩:=k1 G' (dg B x (.ins C y (lU f u (j.zip r)))) _ _ g (λb i o e=>by have Wb:b≠x:=λz=>hxU (z ▸ i);rw[aY Wb];exact k b (UT b i) o e) oo;refine⟨F,o2,?_,λb i =>?_⟩
  ·rw[p2.nodup_iff];have q:(x::S'++U).Perm (x::(S1++R)++U):=((N.cons x).append_right U);rw[q.nodup_iff];have w:(x::R++U).Sublist (x::J++U):=(W.cons_cons x).append_right U;have S:(x::R++U).Nodup:=m.sublist w;have:(x::(S1++R)++U).Perm (S1++(x::R++U)):=by have:=cC [x] S1 (R++U);simpa [bV] using this
   rw[this.nodup_iff,gO];refine⟨X,S,λa ha b i z =>?_⟩;subst z;exact dj a ha (E.symm.subset (w.subset i))
  ·have:=p2.subset i;rcases aV.mp this with q|q
   ·rcases aE.mp q with q|q
    ·subst q;exact .inl O
    ·rcases aV.mp (N.subset q) with q|q
     ·exact .inr q
     ·exact .inl (I b (W.subset q))
   ·exact .inl (UT b q)
def gm.append{f:List D}{S:List az}(h:gm K G H i f g S)(k:gm K G H c e b j):gm K G H (i++c) (f++e) (g++b) (S++j):=by
 induction f generalizing i g S with
 |nil=>cases h;exact k| cons d f ih=>cases h with
  |cons a t=>rw[bV];exact .cons a (ih t)
theorem cQ.app{p:z9}{s:Sk}{v:V}{S1:List az}{d:D}{u:V}{m:Hp}(h:cQ K G H s t v T)(nd:T.Nodup)(es:mL p s=Y (.li n))(ep:fM p t=Y (.lst l))(g:a_ G G')(k:∀b∈T,∀o,H b=Y o->m b=Y o)(R:cQ K G' m n d u S1)(C:S1.Nodup)(O:∀b∈S1,b∉T):
  ∃x j,gS H p v=Y (.ref x)/\x∈T/\H x=Y (.lst j)/\l.length=j.length /\
   ∃w,cQ K G' (dg m x (.lst (j++[u]))) s (nh (.lst (l++[d])) p t) v w/\w.Nodup/\∀b∈w,b∈T\/b∈S1:=by
 obtain⟨v',T1,U,e1,o1,r,k1⟩:=h.focus es ep;cases o1 with
 |@lst _ _ x j i ex L=>
  have f:(x::i++U).Nodup:=r.nodup_iff.mp nd;have F:x∉i:=λz=>by simp at f;exact f.1.1 z
  have E:x∉U:=λz=>by simp at f;exact f.1.2 z
  have A:x∈T:=r.symm.subset Ž;have y:∀b∈i,b∈T:=λb c=>r.symm.subset (by simp[c])
  have P:∀b∈U,b∈T:=λb c=>r.symm.subset (by simp[c])
  have Q:x∉S1:=λz=>O x z A
  refine⟨x,j,e1,A,ex,L.length.1,?_⟩;have B:gm K G' m (bS l.length n) l j i:=L.mono g λb c o e=>k b (y b c) o e
  have W:gm K G' m (bS (l++[d]).length n) (l++[d]) (j++[u]) (i++(S1++[])):=by rw[aJ,cJ,SX];exact B.append (.cons R .nil)
  rw[cm]at W;have I:∀b∈i++S1,b≠x:=λb c z=>by
   subst z;rcases aV.mp c with q|q
   ·exact F q
   ·exact Q q
  have S:cQ K G' (dg m x (.lst (j++[u]))) (.li n) (.lst (l++[d])) (.ref x) (x::(i++S1)):=
   .lst bj (W.mono (a_.refl _) λb c o e=>by rw[aY (I b c)];exact e)
  obtain⟨w,X,N⟩:=k1 G' (dg m x (.lst (j++[u]))) _ _ g (λb c o e=>by have J:b≠x:=λz=>E (z ▸ c);rw[aY J];exact k b (P b c) o e) S;refine⟨w,X,?_,λb c =>?_⟩
  ·rw[N.nodup_iff];have:(x::(i++S1)++U).Perm (S1++(x::i++U)):=by have:=cC (x::i) S1 U;simpa [bV] using this
   rw[this.nodup_iff,gO];refine⟨C,f,λa ha b c z =>?_⟩;subst z;exact O a ha (r.symm.subset c)
  ·have:=N.subset c;rcases aV.mp this with q|q
   ·rcases aE.mp q with q|q
    ·subst q;exact .inl A
    ·rcases aV.mp q with q|q
     ·exact .inl (y b q)
     ·exact .inr q
   ·exact .inl (P b q)
def gm.last{f:List D}{S:List az}(h:gm K G H (b++[k]) (f++[d]) e S)(l:b.length=f.length):∃g u j i,e=g++[u]/\S=j++i/\gm K G H b f g j/\cQ K G H k d u i:=by
 induction f generalizing b e S with
 |nil=>
  cases b with
  | nil=>cases h with
   |@cons _ _ _ _ v e S T a t=>cases t;exact⟨[],v,[],S,rfl,Ž,.nil,a⟩
  |cons=>simp at l
 |cons c f ih=>
  cases b with
  |nil=>simp at l|cons m b=>
   have h:gm K G H (m::(b++[k])) (c::(f++[d])) e S:=h;cases h with
   |@cons _ _ _ _ v e S T a t=>obtain⟨g,u,j,i,rfl,rfl,o,n⟩:=ih t (by simpa using l);exact⟨v::g,u,S++j,i,rfl,by rw[bV],.cons a o,n⟩
theorem cQ.W9{p:z9}{s:Sk}{v:V}(h:cQ K G H s t v T)(J:T.Nodup)(N:mL p s=Y (.li l))(O:fM p t=Y (.lst (j++[d]))):
  ∃x f u,gS H p v=Y (.ref x)/\x∈T/\H x=Y (.lst (f++[u]))/\j.length=f.length /\
   ∃k g,cQ K G (dg H x (.lst f)) s (nh (.lst j) p t) v k/\cQ K G (dg H x (.lst f)) l d u g/\(k++g).Perm T:=by
 obtain⟨R,S,U,P,I,m,L⟩:=h.focus N O;cases I with
 |@lst _ _ x Q X D w=>
  rw[aJ,cJ,SX]at w;obtain⟨f,u,A,g,rfl,rfl,y,B⟩:=w.last Ž;have a:(x::(A++g)++U).Nodup:=m.nodup_iff.mp J;have q:x∉A:=λz=>by simp at a;exact a.1.1 z
  have r:x∉g:=λz=>by simp at a;exact a.1.2.1 z
  have n:x∉U:=λz=>by simp at a;exact a.1.2.2 z
  refine⟨x,f,u,P,m.symm.subset Ž,D,y.length.1,?_⟩;have E:cQ K G (dg H x (.lst f)) (.li l) (.lst j) (.ref x) (x::A):=
   .lst bj (y.mono (a_.refl _) λb i o e=>by have c:b≠x:=λz=>q (z ▸ i);rw[aY c];exact e)
  obtain⟨k,F,C⟩:=L G (dg H x (.lst f)) _ _ (a_.refl _) (λb i o e=>by have c:b≠x:=λz=>n (z ▸ i);rw[aY c];exact e) E;refine⟨k,g,F,B.mono (a_.refl _) λb i o e=>by have c:b≠x:=λz=>r (z ▸ i);rw[aY c];exact e,?_⟩;refine(C.append_right g).trans ((?_:List.Perm _ _).trans m.symm);have:=Qi (l₁:=U) (l₂:=g);have:=this.append_left (x::A);simpa [bV] using this
def zb{f:List aM}{S:List az}:cQ K G H (.fs c []) (.ins c f b) (.ref x) S↔(∃o,H x=Y o/\jt K G (.ins c f b) o)/\S=[x]:=by
 have p:∀ {f:List aM}{b:List D}{g:List V}{S:List az},gm K G H (f.map (dG [])) b g S->be K G b g/\S=[]:=by
  intro f
  induction f with
  |nil=>intro b g S h;cases h;exact⟨.nil,rfl⟩
  |cons k f ih=>
   intro b g S h;have h:gm K G H (.lf::f.map (dG [])) b g S:=h;cases h with
   |cons a t=>
    cases a with
    |leaf r=>obtain⟨m,rfl⟩:=ih t;exact⟨.cons r m,rfl⟩
 have i:∀ {f:List aM}{b:List D}{g:List V},f.length=b.length->be K G b g->gm K G H (f.map (dG [])) b g []:=by
  intro f
  induction f with
  |nil=>
   intro b g j r;cases b with
   |nil=>rw[cV.mp r];exact .nil|cons=>simp at j
  |cons k f ih=>
   intro b g j r;cases b with
   |nil=>simp at j|cons d b=>obtain⟨v,u,rfl,s,q⟩:=bt.mp r;exact .cons (S:=[]) (.leaf s) (ih (by simpa using j) q)
 constructor
 ·intro h;cases h with
  |ins n e l t=>obtain⟨m,rfl⟩:=p t;exact⟨⟨_,e,_,_,_,rfl,n,l,m⟩,rfl⟩
 ·rintro⟨⟨o,e,C,w,g,rfl,n,l,r⟩,rfl⟩;exact .ins n e l (i l r)
theorem cQ.dput{p:z9}{s:Sk}{v:V}(h:cQ K G H s t v T)(I:T.Nodup)(N:mL p s=Y .di)(O:fM p t=Y (.jn q y))(g:a_ G G')(k:∀b∈T,∀o,H b=Y o->A b=Y o):
  ∃x m,gS H p v=Y (.ref x)/\x∈T/\H x=Y (.dK (q.zip m))/\q.length=y.length/\be K G y m /\
   ∀(a:List mi) (c:List D) (d:List V),a.length=c.length->be K G' c d->∃j,cQ K G' (dg A x (.dK (a.zip d))) s (nh (.jn a c) p t) v j/\j.Nodup/\∀b∈j,b∈T:=by
 obtain⟨R,S,U,P,F,n,L⟩:=h.focus N O;cases F with
 |@jn _ _ x m W l r=>
  have f:([x]++U).Nodup:=n.nodup_iff.mp I;have u:x∉U:=λz=>by simp at f;exact f.1 z
  have Q:∀b∈U,b∈T:=λb i=>n.symm.subset (by simp[i])
  refine⟨x,m,P,n.symm.subset Ž,W,l,r,λa c d J C =>?_⟩;obtain⟨j,E,B⟩:=L G' (dg A x (.dK (a.zip d))) (.jn a c) [x] g (λb i o e=>by have w:b≠x:=λz=>u (z ▸ i);rw[aY w];exact k b (Q b i) o e) (.jn bj J C);exact⟨j,E,by rw[B.nodup_iff];exact f,λb i=>n.symm.subset (B.subset i)⟩
end
end L2
namespace L2
open PySem PySem.Spec PyProof.Rows
def VP(K:aT)(G H:Hp):D->az->HO->Prop
 |.obj s t,a,_=>∃S,cQ K G H s t (.ref a) S/\∀b∈S,G b=M|.eS _ _,_,_=>True|d,_,o=>jt K G d o
def kB(K:aT)(G H:Hp)(d:D)(v:V):Prop:=cI K G d v\/∃a o,v=.ref a/\H a=Y o/\VP K G H d a o
section
variable {K:aT}
def kB.ext{d:D}{v:V}(r:kB K G H d v)(E:gf G H G' H'):kB K G' H' d v:=by
 rcases r with r|⟨a,o,k,j,c⟩
 ·exact .inl (cI.mono E.gg d r)
 ·refine .inr ⟨a,o,k,E.hh _ _ j,?_⟩;cases d with
  |obj s t=>
   obtain⟨S,g,i⟩:=c;refine⟨S,g.mono E.gg λb f o e=>E.hh b o e,λb f =>?_⟩;obtain⟨u,h,_⟩:=g.here b f;rcases q:G' b with _|w
   ·rfl
   rcases E.fr b w q with z|z
   ·rw[i b f]at z;cases z
   ·rw[h]at z;cases z
  |eS=>trivial|lst=>exact jt.mono E.gg (d :=.lst _) c|ins=>exact jt.mono E.gg (d :=.ins _ _ _) c|jn=>exact jt.mono E.gg (d :=.jn _ _) c|_=>exact c
def kB.eN{v:V}(r:kB K G H .eN v):v=.eN:=by
 rcases r with r|⟨a,o,_,_,e⟩
 ·exact iY.mp r
 ·exact e.elim
def kB.bl{v:V}(r:kB K G H (.bl b) v):v=.bl b:=by
 rcases r with r|⟨a,o,_,_,e⟩
 ·exact eY.mp r
 ·exact e.elim
def kB.int{i:Int}{v:V}(r:kB K G H (.int i) v):v=.int i:=by
 rcases r with r|⟨a,o,_,_,e⟩
 ·exact bE.mp r
 ·exact e.elim
def kB.str{v:V}(r:kB K G H (.str x) v):v=.str x:=by
 rcases r with r|⟨a,o,_,_,e⟩
 ·exact fT.mp r
 ·exact e.elim
def kB.lst{ds:List D}{v:V}(s:a_ G H)(r:kB K G H (.lst ds) v):∃a vs,v=.ref a/\H a=Y (.lst vs)/\be K G ds vs:=by
 rcases r with r|⟨a,o,d,c,vs,rfl,b⟩
 ·obtain⟨a,vs,e,q,t⟩:=bZ.mp r;exact⟨a,vs,e,s _ _ q,t⟩
 ·exact⟨a,vs,d,c,b⟩
def kB.tup{ds:List D}{v:V}(s:a_ G H)(r:kB K G H (.tup ds) v):∃a b,v=.ref a/\H a=Y (.tup b)/\be K G ds b:=by
 rcases r with r|⟨a,o,_,_,e⟩
 ·obtain⟨a,b,e,q,t⟩:=cY.mp r;exact⟨a,b,e,s _ _ q,t⟩
 ·exact e.elim
def kB.mH{v:V}(s:a_ G H)(r:kB K G H (.mH ns) v):∃a,v=.ref a/\nX K H a (ns.map V.int):=by
 rcases r with r|⟨a,o,_,_,e⟩
 ·obtain⟨a,e,q⟩:=Ho.mp r;exact⟨a,e,s.seq q⟩
 ·exact e.elim
def kB.Xq{f:List aM}{v:V}(s:a_ G H)(r:kB K G H (.ins c f g) v):∃a C d b,v=.ref a/\H a=Y (.ins C d (f.zip b))/\vb K bw c=Y (Y (.ref C))/\f.length=g.length/\be K G g b:=by
 rcases r with r|⟨a,o,j,i,C,d,b,rfl,n,l,h⟩
 ·obtain⟨a,C,d,b,e,n,q,l,t⟩:=qZ.mp r;exact⟨a,C,d,b,e,s _ _ q,n,l,t⟩
 ·exact⟨a,C,d,b,j,i,n,l,h⟩
def kB.Sa{v:V}(s:a_ G H)(r:kB K G H (.jn c d) v):∃a b,v=.ref a/\H a=Y (.dK (c.zip b))/\c.length=d.length/\be K G d b:=by
 rcases r with r|⟨a,o,h,g,b,rfl,l,f⟩
 ·obtain⟨a,b,e,q,l,t⟩:=B8.mp r;exact⟨a,b,e,s _ _ q,l,t⟩
 ·exact⟨a,b,h,g,l,f⟩
def kB.all{v:V}(s:a_ G H)(r:kB K G H d v):cI K H d v:=by
 rcases r with r|⟨a,o,i,e,c⟩
 ·exact cI.mono s d r
 ·subst i;cases d with
  |obj k t=>obtain⟨S,h,g⟩:=c;have:=h.frozen g (λb f=>f);exact qY.mpr (cI.mono (oI s) t this)
  |eS=>exact tW.mpr ⟨a,rfl⟩|lst=>exact(jt.mono s (d :=.lst _) c).rep e|ins=>exact(jt.mono s (d :=.ins _ _ _) c).rep e|jn=>exact(jt.mono s (d :=.jn _ _) c).rep e|_=>exact c.elim
end
abbrev cO:=List (Option D)
abbrev DF:=cO->Option D
abbrev DT:=cO->Option Bool
abbrev DL:=cO->Option (List D)
noncomputable abbrev Cf(j:Nat):Nat:=j+1000000
noncomputable abbrev Bi(j:Nat):Nat:=j+2000000
noncomputable def EX:List aM:=["rows", "coming"]
def Fd(Z:List Nat)(H:Hp)(a:St)(c:cO)(j r:Nat)(p:z9):Prop:=r∈Z/\Bi r∈Z/\∃s t d v b,c[r]?=Y (Y (.obj s t))/\a[r]?=Y (Y v)/\a[j]?=Y (Y b)/\gS H p v=Y b/\mL p s=Y d/\∀g∈AF p,g∈EX
structure iQ(K:aT)(Z:List Nat)(G H:Hp)(σ:St)(ρ:cO):Prop where
 len:σ.length=ρ.length
 get:∀(i:Nat) (d:D),ρ[i]?=some (some d)->∃v,σ[i]?=some (some v)/\(if i∈Z then kB K G H d v else cI K G d v)
 eS:∀(j r:Nat) (p:z9),j∈Z->Cf j∈Z->ρ[j]?=some (some (.eS r p))->Fd Z H σ ρ j r p
def Fd.ext{H':Hp}{a:St}{r:Nat}(h:Fd Z H a b j r p)(s:a_ H H'):Fd Z H' a b j r p:=by
 obtain⟨g,i,e,d,f,v,c,q,o,n,l,k⟩:=h;exact⟨g,i,e,d,f,v,c,q,o,n,jR s l,k⟩
def iQ.ext{K:aT}{G' H':Hp}{a:St}(h:iQ K Z G H a b)(E:gf G H G' H'):iQ K Z G' H' a b:=⟨h.len,λi d e=>by
 obtain⟨v,q,r⟩:=h.get i d e;refine⟨v,q,?_⟩;by_cases c:i∈Z
 ·rw[if_pos c]at r ⊢;exact r.ext E
 ·rw[if_neg c]at r ⊢;exact cI.mono E.gg d r,λj r p g f e=>(h.eS j r p g f e).ext E.hh⟩
inductive tP (K:aT) (Z:List Nat) (f:DF) (b:St) (H:Hp) (Q:VK):Prop
 |mk G a d:a_ G H->iQ K Z G H b a->f a=some d->(∀v G' H',gf G H G' H'->cI K G' d v->Q v H')->tP K Z f b H Q
inductive tQ (K:aT) (Z:List Nat) (f:DF) (b:St) (H:Hp) (Q:VK):Prop
 |mk G a d:a_ G H->iQ K Z G H b a->f a=some d->(∀v G' H',gf G H G' H'->kB K G' H' d v->Q v H')->tQ K Z f b H Q
inductive tF (K:aT) (Z:List Nat) (f:DL) (d:St) (H:Hp) (Q:VK):Prop
 |mk G a c:a_ G H->iQ K Z G H d a->f a=some c->(∀p b G' H',gf G H G' H'->H p=none->G' p=none->H' p=some (.lst b)->be K G' c b->Q (.ref p) H')->tF K Z f d H Q
inductive sC (K:aT) (Z:List Nat) (f:DT) (c:St) (H:Hp) (Q:Bool->Hp->Prop):Prop
 |mk G a b:a_ G H->iQ K Z G H c a->f a=some b->(∀G' H',gf G H G' H'->Q b H')->sC K Z f c H Q
inductive Fk (K:aT) (Z:List Nat) (f:DL) (d:St) (H:Hp) (Q:List V->Hp->Prop):Prop
 |mk G a c:a_ G H->iQ K Z G H d a->f a=some c->(∀b G' H',gf G H G' H'->be K G' c b->Q b H')->Fk K Z f d H Q
def Ir(K:aT)(G H:Hp):List D->List V->Prop:=Paired (kB K G H)
inductive Tb (K:aT) (Z:List Nat) (f:DL) (d:St) (H:Hp) (Q:List V->Hp->Prop):Prop
 |mk G a c:a_ G H->iQ K Z G H d a->f a=some c->(∀b G' H',gf G H G' H'->Ir K G' H' c b->Q b H')->Tb K Z f d H Q
section
variable {X:Cx}
def PE.imp(h:PE X e t)(k:∀b H Q,c b H Q->t b H Q):PE X e c:=λa s b H Q I q=>h a s b H Q I (k _ _ _ q)
def PT.imp(h:PT X e t)(k:∀b H Q,c b H Q->t b H Q):PT X e c:=λa s b H Q I q=>h a s b H Q I (k _ _ _ q)
def PW.imp(h:PW X e t)(k:∀b H Q,c b H Q->t b H Q):PW X e c:=λw a s b H Q I q=>h w a s b H Q I (k _ _ _ q)
def PA.imp(h:PA X e t)(k:∀b H Q,c b H Q->t b H Q):PA X e c:=λm a s b H Q I q=>h m a s b H Q I (k _ _ _ q)
def PS.imp(h:PS X e t)(k:∀D b H,c D b H->t D b H):PS X e c:=λa s b H D I q=>h a s b H D I (k _ _ _ q)
def qQ.imp(h:qQ X e t)(k:∀D b H,c D b H->t D b H):qQ X e c:=λa s b H D I q=>h a s b H D I (k _ _ _ q)
def pG.imp{f:ai->ai->Sem ai}(h:pG X f r)(k:∀x y H Q,b x y H Q->r x y H Q):pG X f b:=λa s c H x y v u Q I e d q=>h a s c H x y v u Q I e d (k _ _ _ _ q)
def dq{f:DF}(h:PE X e (tP X.K Z f)):PE X e (tQ X.K Z f):=h.imp <|by rintro i H Q ⟨G,b,d,c,a,g,k⟩;exact⟨G,b,d,c,a,g,λv G' H' E r=>k v G' H' E (.inl r)⟩
noncomputable def eF(f:DL):DF:=λρ=>(f ρ).map D.lst
def df{f:DL}(h:PE X e (tF X.K Z f)):PE X e (tP X.K Z (eF f)):=h.imp <|by
 rintro s H Q ⟨G,g,d,q,b,l,k⟩;rcases a:f g with _|c
 ·simp[eF,a]at l
 have:d=.lst c:=by simpa [eF,a] using l.symm
 subst this;refine⟨G,g,c,q,b,a,λp i G' H' E o j n r=>k _ (dg G' p (.lst i)) H' (E.freeze o j n) ?_⟩;exact bZ.mpr ⟨p,i,rfl,bj,be.mono (.alloc j) c r⟩
noncomputable def eV(i:Nat):DF:=λρ=>(ρ[i]?).join
noncomputable def eK(d:D):DF:=λ_=>Y d
def jd(h:eV i a=Y d):a[i]?=Y (Y d):=by
 unfold eV at h;cases e:a[i]? with
 |none=>rw[e]at h;cases h| some o=>rw[e]at h;cases o with
  |none=>cases h|some c=>rw[show c=d from bU h]
def dv{m:Pos}(h:PE X (.Name x m) (ko i))(b:autoParam (i∉Z) Ű):PE X (.Name x m) (tP X.K Z (eV i)):=h.imp <|by
 rintro f H Q ⟨G,g,d,c,a,e,k⟩;obtain⟨v,q,r⟩:=a.get i d (jd e);rw[if_neg b]at r;exact⟨v,q,k v G H (.refl c) r⟩
def dvo{i:Nat}{m:Pos}(h:PE X (.Name x m) (ko i))(b:autoParam (i∈Z) Ű):PE X (.Name x m) (tQ X.K Z (eV i)):=h.imp <|by
 rintro f H Q ⟨G,g,d,c,a,e,k⟩;obtain⟨v,q,r⟩:=a.get i d (jd e);rw[if_pos b]at r;exact⟨v,q,k v G H (.refl c) r⟩
def cM{i j m}:PE X (.Constant (.int i) j m) (tP X.K Z (eK (.int i))):=kg.imp <|by
 rintro e H Q ⟨G,f,d,a,c,b,k⟩;cases b;exact k _ G H (.refl a) (bE.mpr rfl)
def vZ{b j m}:PE X (.Constant (.bool b) j m) (tP X.K Z (eK (.bl b))):=Uz.imp <|by
 rintro f H Q ⟨G,g,d,a,e,c,k⟩;cases c;exact k _ G H (.refl a) (eY.mpr rfl)
def xc{x j m}:PE X (.Constant (.str x) j m) (tP X.K Z (eK (.str x))):=F7.imp <|by
 rintro e H Q ⟨G,f,d,a,c,b,k⟩;cases b;exact k _ G H (.refl a) (fT.mpr rfl)
noncomputable def aN:DL:=λ_=>Y []
noncomputable def aC(f:DF)(g:DL):DL:=λa=>(f a).bind λx=>(g a).bind λb=>Y (x::b)
def Io{f:DF}{e:List D}(h:aC f g a=Y e):∃x b,f a=Y x/\g a=Y b/\e=x::b:=by
 unfold aC at h;obtain⟨x,d,h⟩:=aa.1 h;rw[d];rcases c:g a with _|b
 ·rw[c]at h;cases h
 rw[c]at h;exact⟨x,b,rfl,rfl,(bU h).symm⟩
def dS:PA X [] (Fk X.K Z aN):=cG.imp <|by
 rintro e H Q ⟨G,f,d,a,c,b,k⟩;cases b;exact k _ G H (.refl a) .nil
def bH{f:DF}{g:DL}(h:PE X e (tP X.K Z f))(t:PA X A (Fk X.K Z g))(p:autoParam (av (e::A) X.env=(Z_,eval e X.env)::av A X.env) Ų):PA X (e::A) (Fk X.K Z (aC f g)):=
 (bM h t p).imp <|by rintro z H Q ⟨G,i,d,q,a,s,k⟩;obtain⟨x,l,r,b,rfl⟩:=Io s;refine⟨G,i,x,q,a,r,λv y D c o=>⟨y,i,l,c.gh,a.ext c,b,λC w u j n=>k _ w u (c.trans j) (.cons (cI.mono j.gg x o) n)⟩⟩
def yA:PA X [] (Tb X.K Z aN):=cG.imp <|by
 rintro e H Q ⟨G,f,d,a,c,b,k⟩;cases b;exact k _ G H (.refl a) .nil
def vV{f:DF}(h:PE X e (tQ X.K Z f))(t:PA X A (Tb X.K Z g))(p:autoParam (av (e::A) X.env=(Z_,eval e X.env)::av A X.env) Ų):PA X (e::A) (Tb X.K Z (aC f g)):=
 (bM h t p).imp <|by rintro z H Q ⟨G,i,d,q,a,s,k⟩;obtain⟨x,l,r,b,rfl⟩:=Io s;refine⟨G,i,x,q,a,r,λv y D c o=>⟨y,i,l,c.gh,a.ext c,b,λC w u j n=>k _ w u (c.trans j) (.cons (o.ext j) n)⟩⟩
noncomputable def fF(g:DL):DF:=λb=>(g b).bind λa=>if a.length<=1000 then Y (.tup a) else M
def vI:1000<=bc:=by rw[fH];decide
def CJ{o m}{g:DL}(h:PA X A (Fk X.K Z g)):PE X (.Tuple A o m) (tP X.K Z (fF g)):=(qa h).imp <|by
 rintro s H Q ⟨G,i,d,r,c,a,k⟩;unfold fF at a;rw[aa]at a;obtain⟨b,e,a⟩:=a;have a:(if b.length<=1000 then Y (D.tup b) else M)=Y d:=a;split at a
 ·cases a;rename_i q;refine⟨G,i,b,r,c,e,λj u t f l=>⟨?_,λp n=>k _ _ _ (f.trans (gf.alloc (p:=p) (o :=.tup j) f.gh n)) ?_⟩⟩
  ·rw[<- l.length];exact bq q vI
  ·exact cY.mpr ⟨p,j,rfl,bj,be.mono (.alloc (f.gh.free n)) b l⟩
 ·cases a
noncomputable def gi(g:DL):DL:=λb=>(g b).bind λa=>if a.length<=1000 then Y a else M
def zS{m}{g:DL}(h:PA X A (Fk X.K Z g)):PE X (.List A m) (tF X.K Z (gi g)):=(za h).imp <|by
 rintro s H Q ⟨G,l,j,o,d,a,k⟩;unfold gi at a;obtain⟨e,q,a⟩:=aa.1 a;have a:(if e.length<=1000 then Y e else M)=Y j:=a;split at a
 ·cases a;rename_i n;refine⟨G,l,j,o,d,q,λf r t b i=>⟨?_,λp c=>k p f r _ (b.trans (gf.lay (p:=p) (o :=.lst f) b.gh c)) (b.hh.free c) (b.gh.free c) bj i⟩⟩;rw[<- i.length];exact bq n vI
 ·cases a
noncomputable def e2(o:D->D->Option D)(a b:DF):DF:=λρ=>(a ρ).bind λx=>(b ρ).bind λy=>o x y
def CG(h:e2 o a b c=Y d):∃x y,a c=Y x/\b c=Y y/\o x y=Y d:=by
 unfold e2 at h;obtain⟨x,f,h⟩:=aa.1 h;rw[f];rcases e:b c with _|y
 ·rw[e]at h;cases h
 rw[e]at h;exact⟨x,y,rfl,rfl,h⟩
inductive rD (K:aT) (o:D->D->Option D) (x:V) (y:V) (H:Hp) (Q:VK):Prop
 |mk G b a d:a_ G H->kB K G H b x->kB K G H a y->o b a=some d->(∀v G' H',gf G H G' H'->cI K G' d v->Q v H')->rD K o x y H Q
def BQ(X:Cx)(f:ai->ai->Sem ai)(o:D->D->Option D):Prop:=pG X f (rD X.K o)
def Hq{K:aT}{Z:List Nat}{fa fb:DF}{e:St}(h:tP K Z (e2 o fa fb) e H Q):Tc (rD K o) (tQ K Z fa) (tQ K Z fb) e H Q:=by
 obtain⟨G,f,d,l,a,q,k⟩:=h;obtain⟨x,y,p,n,r⟩:=CG q;exact⟨G,f,x,l,a,p,λv C I c j=>⟨C,f,y,c.gh,a.ext c,n,λu z F b i=>⟨z,x,y,d,b.gh,j.ext b,i,r,λw t s E g=>k w t s ((c.trans b).trans E) g⟩⟩⟩
variable {m:Pos}
def rZ{op:Operator}(c:BQ X (dB op) o)(e:PE X a (tQ X.K Z fa))(d:PE X b (tQ X.K Z fb)):PE X (.BinOp a op b m) (tP X.K Z (e2 o fa fb)):=(DV c e d).imp λf H Q h=>Hq h
def Si{op:CmpOp}(c:BQ X (iT op) o)(f:PE X a (tQ X.K Z fa))(e:PE X b (tQ X.K Z fb))(d:iO op b=Z_):PE X (.Compare a [op] [b] m) (tP X.K Z (e2 o fa fb)):=(N_ c f e d).imp λg H Q h=>Hq h
noncomputable def dD(f:DF):DT:=λa=>(f a).bind λd=>match d with|.bl b=>Y b|_=>M
def sI{f:DF}{a:cO}{b:Bool}(h:dD f a=Y b):f a=Y (.bl b):=by
 unfold dD at h;obtain⟨d,e,h⟩:=aa.1 h;rw[e];cases d with
 |bl c=>rw[show c=b from bU h]
 |_=>cases h
def mO{op:CmpOp}(f:BQ X (iT op) o)(i:PE X a (tQ X.K Z fa))(h:PE X b (tQ X.K Z fb))(g:iO op b=Z_):PT X (.Compare a [op] [b] m) (sC X.K Z (dD (e2 o fa fb))):=
 (yo f i h g).imp <|by rintro n H Q ⟨G,e,d,j,c,l,k⟩;exact Hq (Z:=Z) (fa:=fa) (fb:=fb) ⟨G,e,.bl d,j,c,sI l,λv G' H' E r=>⟨d,eY.mp r,k G' H' E⟩⟩
noncomputable def ju(f g:DT):DT:=λa=>(f a).bind λc=>if c=Z' then g a else Y Z_
noncomputable def jY(f g:DT):DT:=λa=>(f a).bind λc=>if c=Z' then Y Z' else g a
noncomputable def eT(f:DT):DT:=λa=>(f a).map λc=> !c
variable {f:DT}
def CH(b:PT X a (sC X.K Z f)):PW X (.BoolOp .And [a] m) (sC X.K Z f):=NW b
def qd(b:PT X a (sC X.K Z f)):PW X (.BoolOp .Or [a] m) (sC X.K Z f):=QS b
def GC(o : PT X a (sC X.K Z f))(n : PW X (.BoolOp .And (b :: B) m) (sC X.K Z g)): PW X (.BoolOp .And (a :: b :: B) m) (sC X.K Z (ju f g)) := (QT o n).imp <|by
  rintro v H Q ⟨G,j,d,p,h,e,k⟩
  unfold ju at e
  obtain ⟨c,q,e⟩ := aa.1 e
  refine⟨G,j,c,p,h,q,λl s i => ?_⟩
  cases c with
  |true => exact uU ⟨l,j,d,i.gh,h.ext i,e,λt r u => k t r (i.trans u)⟩
  | false => have : d = Z_ := (bU (show Y Z_ = Y d from e)).symm
             subst this; exact uk (k l s i)
def pT(o : PT X a (sC X.K Z f))(n : PW X (.BoolOp .Or (b :: B) m) (sC X.K Z g)): PW X (.BoolOp .Or (a :: b :: B) m) (sC X.K Z (jY f g)) := (Uu o n).imp <|by
  rintro v H Q ⟨G,j,d,p,h,e,k⟩
  unfold jY at e
  obtain ⟨c,q,e⟩ := aa.1 e
  refine⟨G,j,c,p,h,q,λl s i => ?_⟩
  cases c with
  |false => exact uk ⟨l,j,d,i.gh,h.ext i,e,λt r u => k t r (i.trans u)⟩
  | true => have : d = Z' := (bU (show Y Z' = Y d from e)).symm
            subst this; exact uU (k l s i)
def mN(i:PT X a (sC X.K Z f)):PT X (.UnaryOp .Not a m) (sC X.K Z (eT f)):=(QU i).imp <|by
 rintro p H Q ⟨G,h,d,j,e,b,k⟩;unfold eT at b;rcases g:f h with _|c
 ·rw[g]at b;cases b
 rw[g]at b;have:d = !c:=(bU (show Y (!c)=Y d from b)).symm;subst this;exact⟨G,h,c,j,e,g,λn l o=>k n l o⟩
def R5(f g:DF):DF:=λa=>(dD f a).bind λc=>if c=Z' then g a else Y (.bl Z_)
def X4(f g:DF):DF:=λa=>(dD f a).bind λc=>if c=Z' then Y (.bl Z') else g a
noncomputable def OL(f:DT):DF:=λa=>(f a).map λc =>.bl (!c)
def Se{b}(h:PE X a (tP X.K Z fa)):PE X (.BoolOp b [a] m) (tP X.K Z fa):=Q3 h
def Sj(o : PE X a (tP X.K Z fa))(n : PE X (.BoolOp .And (b :: B) m) (tP X.K Z fb)): PE X (.BoolOp .And (a :: b :: B) m) (tP X.K Z (R5 fa fb)) := (Q5 o n).imp <|by
  rintro w H Q ⟨G,h,d,p,f,e,k⟩
  unfold R5 at e
  obtain ⟨c,q,e⟩ := aa.1 e
  refine⟨G,h,_,p,f,sI q,λv i s g l => ⟨c,eY.mp l,?_⟩⟩
  cases c with
  |true => exact uU ⟨i,h,d,g.gh,f.ext g,e,λv t r u j => k v t r (g.trans u) j⟩
  | false => have : d = .bl Z_ := (bU (show Y (D.bl Z_) = Y d from e)).symm
             subst this; exact uk (k _ i s g (eY.mpr rfl))
def ZS(o : PE X a (tP X.K Z fa))(n : PE X (.BoolOp .Or (b :: B) m) (tP X.K Z fb)): PE X (.BoolOp .Or (a :: b :: B) m) (tP X.K Z (X4 fa fb)) := (Uy o n).imp <|by
  rintro w H Q ⟨G,h,d,p,f,e,k⟩
  unfold X4 at e
  obtain ⟨c,q,e⟩ := aa.1 e
  refine⟨G,h,_,p,f,sI q,λv i s g l => ⟨c,eY.mp l,?_⟩⟩
  cases c with
  |false => exact uk ⟨i,h,d,g.gh,f.ext g,e,λv t r u j => k v t r (g.trans u) j⟩
  | true => have : d = .bl Z' := (bU (show Y (D.bl Z') = Y d from e)).symm
            subst this; exact uU (k _ i s g (eY.mpr rfl))
def Sf(i:PE X a (tP X.K Z fa)):PE X (.UnaryOp .Not a m) (tP X.K Z (OL (dD fa))):=(Q4 i).imp <|by
 rintro p H Q ⟨G,g,d,j,e,b,k⟩;unfold OL at b;rcases f:dD fa g with _|c
 ·rw[f]at b;cases b
 rw[f]at b;have:d=.bl (!c):=(bU (show Y (D.bl (!c))=Y d from b)).symm;subst this;exact⟨G,g,_,j,e,sI f,λv n l o h=>⟨c,eY.mp h,k _ n l o (eY.mpr rfl)⟩⟩
noncomputable def Mw(c:DT)(f g:DF):DF:=λa=>(c a).bind λb=>if b=Z' then f a else g a
def ZT(q:PT X c (sC X.K Z f))(s:PE X a (tP X.K Z fa))(r:PE X b (tP X.K Z fb)):PE X (.IfExp c a b m) (tP X.K Z (Mw f fa fb)):=(Lm q s r).imp <|by
 rintro w H Q ⟨G,i,d,t,e,h,k⟩;unfold Mw at h;obtain⟨c,u,h⟩:=aa.1 h;refine⟨G,i,c,t,e,u,λp x g =>?_⟩;cases c with
 |true=>exact uU ⟨p,i,d,g.gh,e.ext g,h,λv n l o j=>k v n l (g.trans o) j⟩
 |false=>exact uk ⟨p,i,d,g.gh,e.ext g,h,λv n l o j=>k v n l (g.trans o) j⟩
end
mutual
noncomputable def AJ:D->D->Bool
 |.eN,.eN=>Z'|.bl a,.bl b=>a==b|.bl a,.int b=>(if a then 1 else 0)==b
 |.int a,.bl b=>a==(if b then 1 else 0)
 |.int a,.int b=>a==b|.str a,.str b=>a==b|.lst d,.lst c=>sh d c|.tup d,.tup c=>sh d c|_,_=>Z_
noncomputable def sh:List D->List D->Bool
 |[],[]=>Z'|x::b,y::a=>AJ x y&&sh b a|_,_=>Z_
end
mutual
def jN:D->Nat->Bool
 |.lst a,n=>n != 0&&mR a (n-1)|.tup a,n=>n != 0&&mR a (n-1)|.mH _,_=>Z_|.ins _ _ _,_=>Z_|.jn _ _,_=>Z_|.obj _ _,_=>Z_|.eS _ _,_=>Z_|.eN,_=>Z'|.bl _,_=>Z'|.int _,_=>Z'|.str _,_=>Z'
def mR:List D->Nat->Bool
 |[],_=>Z'|x::a,n=>jN x n&&mR a n
end
theorem zU:∀ {a:List D}{n i:Nat}{d:D},mR a n=Z'->a[i]?=Y d->jN d n=Z'
 |[],n,i,d,h,e=>by simp at e
 |x::a,n,0,d,h,e=>by simp only[mR,aX]at h;simp at e;subst e;exact h.1
 |x::a,n,i+1,d,h,e=>by simp only[mR,aX]at h;exact zU (i:=i) h.2 (by simpa using e)
theorem vW:∀(b a:List D),sh b a=((bY (min b.length a.length)).all (λj=>AJ (b.getD j .eN) (a.getD j .eN))&&(b.length==a.length))
 |[],[]=>by simp[sh]
 |[],y::a=>by simp[sh]
 |x::b,[]=>by simp[sh]
 | x::b,y::a=>by
  have e:min (x::b).length (y::a).length=min b.length a.length+1:=by simp[Nat.add_min_add_right]
  rw[e,wk,km,oB];simp only[sh,vW b a,fK,List.getD_cons_zero,List.getD_cons_succ,aP];rw[Bool.and_assoc]
  congr 2
  simp
def BC:AJ (.int x) (.int y)=(x==y):=rfl
mutual
theorem EK:∀(d:D) (n:Nat),jN d n=Z'->AJ d d=Z'
 |.eN,n,h=>rfl|.bl b,n,h=>beq_self_eq_true b|.int b,n,h=>beq_self_eq_true b|.str b,n,h=>beq_self_eq_true b|.lst a,n,h=>by simp only[jN,aX]at h;exact qI a _ h.2
 |.tup a,n,h=>by simp only[jN,aX]at h;exact qI a _ h.2
 |.mH a,n,h=>by simp[jN]at h
 |.ins _ _ _,n,h=>by simp[jN]at h
 |.jn _ _,n,h=>by simp[jN]at h
 |.obj _ _,n,h=>by simp[jN]at h
 |.eS _ _,n,h=>by simp[jN]at h
theorem qI:∀(d:List D) (n:Nat),mR d n=Z'->sh d d=Z'
 |[],n,h=>by simp[sh]
 |x::a,n,h=>by simp only[mR,aX]at h;simp only[sh,EK x n h.1,qI a n h.2,Nc]
end
section
variable {K:aT}
mutual
theorem cI.inj:∀(u g:D) (n m:Nat){v:V},jN u n=Z'->jN g m=Z'->cI K H u v->cI K H g v->u=g
 |.eN,g,n,m,v,h,d,i,f=>by have e:=iY.mp i;subst e;cases g<;>simp[cI,jN]at f d ⊢
 |.bl b,g,n,m,v,h,d,i,f=>by have e:=eY.mp i;subst e;cases g<;>simp[cI,jN]at f d ⊢<;>exact f
 |.int b,g,n,m,v,h,d,i,f=>by have e:=bE.mp i;subst e;cases g<;>simp[cI,jN]at f d ⊢<;>exact f
 |.str b,g,n,m,v,h,d,i,f=>by have e:=fT.mp i;subst e;cases g<;>simp[cI,jN]at f d ⊢<;>exact f
 | .lst o,g,n,m,v,h,d,i,f=>by
  obtain⟨a,w,rfl,l,r⟩:=bZ.mp i;cases g with
  |lst k=>obtain⟨b,s,e,j,q⟩:=bZ.mp f;cases e;rw[l]at j;cases j;simp only[jN,aX]at h d;rw[be.inj o k _ _ h.2 d.2 r q]
  |tup k=>obtain⟨b,s,e,j,q⟩:=cY.mp f;cases e;rw[l]at j;cases j
  |mH k=>simp[jN]at d|ins c t p=>simp[jN]at d|jn t p=>simp[jN]at d|obj=>simp[jN]at d|eS=>simp[jN]at d|_=>simp[cI]at f
 | .tup o,g,n,m,v,h,d,i,f=>by
  obtain⟨a,w,rfl,l,r⟩:=cY.mp i;cases g with
  |tup k=>obtain⟨b,s,e,j,q⟩:=cY.mp f;cases e;rw[l]at j;cases j;simp only[jN,aX]at h d;rw[be.inj o k _ _ h.2 d.2 r q]
  |lst k=>obtain⟨b,s,e,j,q⟩:=bZ.mp f;cases e;rw[l]at j;cases j
  |mH k=>simp[jN]at d|ins c t p=>simp[jN]at d|jn t p=>simp[jN]at d|obj=>simp[jN]at d|eS=>simp[jN]at d|_=>simp[cI]at f
 |.mH o,g,n,m,v,h,d,i,f=>by simp[jN]at h
 |.ins _ _ _,g,n,m,v,h,d,i,f=>by simp[jN]at h
 |.jn _ _,g,n,m,v,h,d,i,f=>by simp[jN]at h
 |.obj _ _,g,n,m,v,h,d,i,f=>by simp[jN]at h
 |.eS _ _,g,n,m,v,h,d,i,f=>by simp[jN]at h
theorem be.inj:∀(b a:List D) (n m:Nat){d:List V},mR b n=Z'->mR a m=Z'->be K H b d->be K H a d->b=a
 | [],a,n,m,d,g,f,h,c=>by
  rw[cV.mp h]at c;cases a with
  |nil=>rfl|cons y a=>obtain⟨_,_,e,_⟩:=bt.mp c;cases e
 | x::b,a,n,m,d,g,f,h,c=>by
  obtain⟨v,r,rfl,q,t⟩:=bt.mp h;cases a with
  |nil=>have:=cV.mp c;cases this
  |cons y a=>obtain⟨k,l,e,j,i⟩:=bt.mp c;cases e;simp only[mR,aX]at g f;rw[cI.inj x y _ _ g.1 f.1 q j,be.inj b a _ _ g.2 f.2 t i]
end
end
section
variable {P:bh}{K:aT}{s:aw}
def Ge(c:qf P w H s.heap)(e:H a=Y (.lst d)):∃b:List ai,cv d b/\s.heap.IsList a b.toArray:=by
 obtain⟨z,b,n,r,q⟩:=c a _ e;exact⟨b,r,_,q,rfl,n,rfl⟩
def Gd(c:qf P w H s.heap)(e:H a=Y (.tup d)):∃b:List ai,cv d b/\s.heap.IsTuple a b.toArray:=by
 obtain⟨z,b,r,q⟩:=c a _ e;exact⟨b,r,q⟩
open SeqAt
structure Ac(A:ip)(s:aw)(u1 u2:ai)(b:Bool):Prop where
 rc:RcAt A s u1 u2 b
 ne:RcNeAt A s u1 u2 (!b)
 eq:EqAt A s u1 u2 b
theorem HR(j:qf P w H s.heap)(g:A.units<su){v:D}{m:Nat}{F:ai}(u:jN z 0=Z')(i:jN v m=Z')(y:cI K H z E)(h:cI K H v C)(x:RelV E G)(f:RelV C F):
  Ac A s G F (AJ z v):=by
 cases z with
 |eN=>
  have e:=iY.mp y;subst e;cases x;cases v with
  |eN=>have e:=iY.mp h;subst e;cases f;exact⟨.none_none,.none_none,.same _⟩
  |bl b=>have e:=eY.mp h;subst e;cases f;exact⟨.none_bool b,.none_bool b,.none_bool b⟩
  |int b=>have e:=bE.mp h;subst e;obtain⟨t,rfl⟩:=f;exact⟨.none_int b t,.none_int b t,.none_int b t⟩
  |str b=>have e:=fT.mp h;subst e;obtain⟨t,rfl⟩:=f;exact⟨.none_str b t,.none_str b t,.none_str b t⟩
  |lst n=>obtain⟨a,r,rfl,q,_⟩:=bZ.mp h;cases f;obtain⟨k,_,l⟩:=Ge j q;exact⟨.none_list l g,.none_list l g,.none_list l g⟩
  |tup n=>obtain⟨a,r,rfl,q,_⟩:=cY.mp h;cases f;obtain⟨k,_,l⟩:=Gd j q;exact⟨.none_tuple l g,.none_tuple l g,.none_tuple l g⟩
  |_=>simp[jN]at i
 |bl c=>
  have e:=eY.mp y;subst e;cases x;cases v with
  |eN=>have e:=iY.mp h;subst e;cases f;exact⟨.bool_none c,.bool_none c,.bool_none c⟩
  |bl b=>have e:=eY.mp h;subst e;cases f;exact⟨.bool_bool c b,.bool_bool c b,.bool_bool c b⟩
  |int b=>have e:=bE.mp h;subst e;obtain⟨t,rfl⟩:=f;exact⟨.bool_int c b t,.bool_int c b t,.bool_int c b t⟩
  |str b=>have e:=fT.mp h;subst e;obtain⟨t,rfl⟩:=f;exact⟨.bool_str c b t,.bool_str c b t,.bool_str c b t⟩
  |lst n=>obtain⟨a,r,rfl,q,_⟩:=bZ.mp h;cases f;obtain⟨k,_,l⟩:=Ge j q;exact⟨.bool_list c l g,.bool_list c l g,.bool_list c l g⟩
  |tup n=>obtain⟨a,r,rfl,q,_⟩:=cY.mp h;cases f;obtain⟨k,_,l⟩:=Gd j q;exact⟨.bool_tuple c l g,.bool_tuple c l g,.bool_tuple c l g⟩
  |_=>simp[jN]at i
 |int c=>
  have e:=bE.mp y;subst e;obtain⟨d,rfl⟩:=x;cases v with
  |eN=>have e:=iY.mp h;subst e;cases f;exact⟨.int_none c d,.int_none c d,.int_none c d⟩
  |bl b=>have e:=eY.mp h;subst e;cases f;exact⟨.int_bool c d b,.int_bool c d b,.int_bool c d b⟩
  |int b=>have e:=bE.mp h;subst e;obtain⟨t,rfl⟩:=f;exact⟨.int_int c d b t,.int_int c d b t,.int_int c d b t⟩
  |str b=>have e:=fT.mp h;subst e;obtain⟨t,rfl⟩:=f;exact⟨.int_str c d b t,.int_str c d b t,.int_str c d b t⟩
  |lst n=>obtain⟨a,r,rfl,q,_⟩:=bZ.mp h;cases f;obtain⟨k,_,l⟩:=Ge j q;exact⟨.int_list c d l g,.int_list c d l g,.int_list c d l g⟩
  |tup n=>obtain⟨a,r,rfl,q,_⟩:=cY.mp h;cases f;obtain⟨k,_,l⟩:=Gd j q;exact⟨.int_tuple c d l g,.int_tuple c d l g,.int_tuple c d l g⟩
  |_=>simp[jN]at i
 |str c=>
  have e:=fT.mp y;subst e;obtain⟨d,rfl⟩:=x;cases v with
  |eN=>have e:=iY.mp h;subst e;cases f;exact⟨.str_none c d,.str_none c d,.str_none c d⟩
  |bl b=>have e:=eY.mp h;subst e;cases f;exact⟨.str_bool c d b,.str_bool c d b,.str_bool c d b⟩
  |int b=>have e:=bE.mp h;subst e;obtain⟨t,rfl⟩:=f;exact⟨.str_int c d b t,.str_int c d b t,.str_int c d b t⟩
  |str b=>have e:=fT.mp h;subst e;obtain⟨t,rfl⟩:=f;exact⟨.str_str c d b t,.str_str c d b t,.str_str c d b t⟩
  |lst n=>obtain⟨a,r,rfl,q,_⟩:=bZ.mp h;cases f;obtain⟨k,_,l⟩:=Ge j q;exact⟨.str_list c d l g,.str_list c d l g,.str_list c d l g⟩
  |tup n=>obtain⟨a,r,rfl,q,_⟩:=cY.mp h;cases f;obtain⟨k,_,l⟩:=Gd j q;exact⟨.str_tuple c d l g,.str_tuple c d l g,.str_tuple c d l g⟩
  |_=>simp[jN]at i
 |_=>simp[jN]at u
def Ac.refs(a:RcAt A s (.ref l) (.ref b) k)(c:RcNeAt A s (.ref l) (.ref b) (!k))(h:l=b->k=Z'):Ac A s (.ref l) (.ref b) k:=by
 refine⟨a,c,?_⟩;by_cases e:l=b
 ·subst e;rw[h rfl];exact .same _
 ·exact .of_refs e a
def MH(h:b.length≠a.length):sh b a=false:=by
 rw[vW];have:(b.length==a.length)=false:=by simpa using h
 rw[this,Kj]
def EB{m:Nat}(ih:∀(h g:D) (l k:V) (t p:ai),jN h n=Z'->jN g m=Z'->cI K H h l->cI K H g k->RelV l t->RelV k p->Ac A s t p (AJ h g))(L:mR d n=Z')(J:mR c m=Z')(r:be K H d i)(q:be K H c o)(w:cv i b)(x:cv o a)(j:Nat)(P:j<b.toArray.size)(O:j<a.toArray.size):
  EqAt A s b.toArray[j] a.toArray[j] (AJ (d.getD j .eN) (c.getD j .eN)):=by
 have X:d.length=b.length:=r.length.trans w.length;have U:c.length=a.length:=q.length.trans x.length;have f:j<b.length:=by simpa using P
 have e:j<a.length:=by simpa using O
 have z:d[j]?=Y (d.getD j .eN):=by rw[fJ,aO (by omega)];rfl
 have y:c[j]?=Y (c.getD j .eN):=by rw[fJ,aO (by omega)];rfl
 obtain⟨v,T,I⟩:=r.get z;obtain⟨u,S,G⟩:=q.get y;obtain⟨C,R,F⟩:=w.get T;obtain⟨B,Q,E⟩:=x.get S;have N:b.toArray[j]=C:=by
  have:b[j]?=Y b.toArray[j]:=by simp[f]
  rw[R]at this;exact(bU this).symm
 have W:a.toArray[j]=B:=by
  have:a[j]?=Y a.toArray[j]:=by simp[e]
  rw[Q]at this;exact(bU this).symm
 rw[N,W];exact(ih _ _ _ _ _ _ (zU L z) (zU J y) I G F E).eq
theorem Mr(g:qf P w H s.heap):∀(n:Nat){A:ip}(_:A.units+n<su) (J F:D) (m:Nat) (Q O:V) (S R:ai),jN J n=Z'->jN F m=Z'->cI K H J Q->cI K H F O->RelV Q S->RelV O R ->
  Ac A s S R (AJ J F):=by
 intro n
 induction n with
 |zero=>intro A hu J F m Q O S R C k I o G i;exact HR g ž C k I o G i
 |succ n ih=>
  intro A hu J F m Q O S R C k I o G i;have d:A.units<su:=by omega
  have Y5:=λ(m':Nat)=>λ(J F:D) (Q O:V) (S R:ai)=>ih (A:=A.in1) (by show A.units+1+n<su;omega) J F m' Q O S R
  cases J with
  |lst p=>
   obtain⟨a,vs,rfl,X,W⟩:=bZ.mp I;cases G;obtain⟨r,U,l⟩:=Ge g X;cases F with
   |lst h=>
    obtain⟨b,us,rfl,x,z⟩:=bZ.mp o;cases i;obtain⟨f,L,q⟩:=Ge g x;have B:=C;have N:=k;simp only[jN,aX,Nat.add_sub_cancel]at B N;have v:r.toArray.size=p.length:=by rw[aW];exact(W.length.trans U.length).symm
    have y:f.toArray.size=h.length:=by rw[aW];exact(z.length.trans L.length).symm
    have u:a=b->sh p h=true:=λe=>by subst e;rw[X]at x;cases x;rw[<- be.inj p h _ _ B.2 N.2 W z];exact qI p _ B.2
    show Ac A s _ _ (sh p h);by_cases hl:p.length=h.length
    ·have E:sh p h=(bY r.toArray.size).all (λj=>AJ (p.getD j .eN) (h.getD j .eN)):=by rw[vW,<- hl,Pw,v];simp
     have it:=EB (Y5 _) B.2 N.2 W z U L;exact .refs (by rw[E];exact .lists l q ž d it) (by rw[E];exact .lists l q ž d it) u
    ·have E:=MH hl;have Kn:(r.toArray.size != f.toArray.size)=true:=by rw[v,y];simpa using hl
     refine .refs ?_ ?_ u
     ·rw[E];exact .lists_lengths l q Kn d
     ·rw[E];exact .lists_lengths l q Kn d
   |tup h=>obtain⟨b,us,rfl,x,z⟩:=cY.mp o;cases i;obtain⟨f,L,q⟩:=Gd g x;exact⟨.list_tuple l q d,.list_tuple l q d,.list_tuple l q d⟩
   |eN=>have e:=iY.mp o;subst e;cases i;exact⟨.list_none l d,.list_none l d,.list_none l d⟩
   |bl b=>have e:=eY.mp o;subst e;cases i;exact⟨.list_bool b l d,.list_bool b l d,.list_bool b l d⟩
   |int b=>have e:=bE.mp o;subst e;obtain⟨t,rfl⟩:=i;exact⟨.list_int b t l d,.list_int b t l d,.list_int b t l d⟩
   |str b=>have e:=fT.mp o;subst e;obtain⟨t,rfl⟩:=i;exact⟨.list_str b t l d,.list_str b t l d,.list_str b t l d⟩
   |_=>simp[jN]at k
  |tup p=>
   obtain⟨a,vs,rfl,X,W⟩:=cY.mp I;cases G;obtain⟨r,U,l⟩:=Gd g X;cases F with
   |tup h=>
    obtain⟨b,us,rfl,x,z⟩:=cY.mp o;cases i;obtain⟨f,L,q⟩:=Gd g x;have B:=C;have N:=k;simp only[jN,aX,Nat.add_sub_cancel]at B N;have v:r.toArray.size=p.length:=by rw[aW];exact(W.length.trans U.length).symm
    have y:f.toArray.size=h.length:=by rw[aW];exact(z.length.trans L.length).symm
    have u:a=b->sh p h=true:=λe=>by subst e;rw[X]at x;cases x;rw[<- be.inj p h _ _ B.2 N.2 W z];exact qI p _ B.2
    show Ac A s _ _ (sh p h);have E:sh p h=((bY (min r.toArray.size f.toArray.size)).all (λj=>AJ (p.getD j .eN) (h.getD j .eN))&&r.toArray.size==f.toArray.size):=by rw[vW,v,y]
    have it:=EB (Y5 _) B.2 N.2 W z U L;exact .refs (by rw[E];exact .tuples l q d it) (by rw[E];exact .tuples l q d it) u
   |lst h=>obtain⟨b,us,rfl,x,z⟩:=bZ.mp o;cases i;obtain⟨f,L,q⟩:=Ge g x;exact⟨.tuple_list l q d,.tuple_list l q d,.tuple_list l q d⟩
   |eN=>have e:=iY.mp o;subst e;cases i;exact⟨.tuple_none l d,.tuple_none l d,.tuple_none l d⟩
   |bl b=>have e:=eY.mp o;subst e;cases i;exact⟨.tuple_bool b l d,.tuple_bool b l d,.tuple_bool b l d⟩
   |int b=>have e:=bE.mp o;subst e;obtain⟨t,rfl⟩:=i;exact⟨.tuple_int b t l d,.tuple_int b t l d,.tuple_int b t l d⟩
   |str b=>have e:=fT.mp o;subst e;obtain⟨t,rfl⟩:=i;exact⟨.tuple_str b t l d,.tuple_str b t l d,.tuple_str b t l d⟩
   |_=>simp[jN]at k
  |mH p=>simp[jN]at C|ins c ks T=>simp[jN]at C|jn ks T=>simp[jN]at C|obj=>simp[jN]at C|eS=>simp[jN]at C|_=>exact HR g d rfl k I o G i
end
def fR(x y:D):Option D:=if (jN x 180&&jN y 180)=Z' then Y (.bl (AJ x y)) else M
def uj(x y:D):Option D:=if (jN x 180&&jN y 180)=Z' then Y (.bl (!AJ x y)) else M
section
variable {X:Cx}
def D9(h:gc k X.A):BQ X (iT .Eq) fR:=by
 intro e s n H x y v u Q I g f ⟨G,m,l,d,c,j,i,a,q⟩;unfold fR at a;split at a
 ·rename_i b;rw[aX]at b;cases a;have o:=h.un;exact(Mr (K:=X.K) I.iw 180 (A:=X.A) ž m l 180 x y v u b.1 b.2 (j.all c) (i.all c) g f).rc _ _ _ _ ⟨.bl _,H,I,rfl,q _ G H (.refl c) (eY.mpr rfl)⟩
 ·cases a
def D7(h:gc k X.A):BQ X (iT .NotEq) uj:=by
 intro e s n H x y v u Q I g f ⟨G,m,l,d,c,j,i,a,q⟩;unfold uj at a;split at a
 ·rename_i b;rw[aX]at b;cases a;have o:=h.un;exact(Mr (K:=X.K) I.iw 180 (A:=X.A) ž m l 180 x y v u b.1 b.2 (j.all c) (i.all c) g f).ne _ _ _ _ ⟨.bl _,H,I,rfl,q _ G H (.refl c) (eY.mpr rfl)⟩
 ·cases a
noncomputable def Pk:D->D->Option D
 |.int i,.int j=>Y (.bl (decide (i<j)))|_,_=>M
noncomputable def ux:D->D->Option D
 |.int i,.int j=>Y (.bl (decide (j<i)))|_,_=>M
noncomputable def oGe:D->D->Option D
 |.int i,.int j=>Y (.bl (decide (j<=i)))|_,_=>M
def D8{f:ai->ai->Sem ai}{g':Int->Int->D}(h:pG X f (rI C g))(a:∀x y d,o x y=Y d->∃i j,x=.int i/\y=.int j/\C i j/\d=g' i j)(b:∀i j G,cI X.K G (g' i j) (g i j)):BQ X f o:=
 pG.imp h <|by rintro x y H Q ⟨G,p,n,d,l,k,e,m,q⟩;obtain⟨i,j,rfl,rfl,c,rfl⟩:=a _ _ _ m;exact⟨i,j,k.int,e.int,c,q _ G H (.refl l) (b i j G)⟩
def Lv{f:ai->ai->Sem ai}(h:pG X f (NT g)):pG X f (rI (λ_ _=>True) g):=pG.imp h <|by rintro x y H Q ⟨i,j,b,a,_,q⟩;exact⟨i,j,b,a,q⟩
def YY:BQ X (iT .Lt) Pk:=D8 (Lv UD) (g':=λi j =>.bl (decide (i<j))) (λx y d h=>by unfold Pk at h;split at h<;>cases h;exact⟨_,_,rfl,rfl,trivial,rfl⟩) λi j G=>eY.mpr rfl
def LG:BQ X (iT .Gt) ux:=D8 (Lv PX) (g':=λi j =>.bl (decide (j<i))) (λx y d h=>by unfold ux at h;split at h<;>cases h;exact⟨_,_,rfl,rfl,trivial,rfl⟩) λi j G=>eY.mpr rfl
noncomputable def nY:D->D->Option D
 |.int i,.int j=>Y (.int (i-j))|_,_=>M
def LF:BQ X (dB .Sub) nY:=D8 (Lv F9) (g':=λi j =>.int (i-j)) (λx y d h=>by unfold nY at h;split at h<;>cases h;exact⟨_,_,rfl,rfl,trivial,rfl⟩) λi j G=>bE.mpr rfl
noncomputable def iR:D->D->Option D
 |.int i,.int j=>if 0<j then Y (.int (i%j)) else M
 |_,_=>M
def Xi:BQ X (dB .Mod) iR:=D8 Q_ (g':=λi j =>.int (i%j)) (λx y d h=>by
 unfold iR at h;split at h<;>try (cases h;done)
 split at h<;>cases h;exact⟨_,_,rfl,rfl,by assumption,rfl⟩) λi j G=>bE.mpr rfl
noncomputable def kz:D->D->Option D
 |.int i,.int j=>if 0<j/\j<2 ^ 64 then Y (.int (i/j)) else M
 |_,_=>M
def Lw:pG X (dB .FloorDiv) (rI (λ_ j=>0<j/\j<2 ^ 64) λi j =>.int (i/j)):=UG λi j _ _ _ _ _ a q=>by
 have d:(0:Int)<j:=a.1;have c:j<2 ^ 64:=a.2;have b:j.natAbs<2 ^ 64:=by omega
 refine floordiv_int ž (by rw[Kh i (by omega)];exact q) (.inl (PyProof.noPylong_of_log2 ?_));have:=(Nat.log2_lt (n:=j.natAbs) (k:=64) ž).mpr b;omega
def V4:BQ X (dB .FloorDiv) kz:=D8 Lw (g':=λi j =>.int (i/j)) (λx y d h=>by
 unfold kz at h;split at h<;>try (cases h;done)
 split at h<;>cases h;exact⟨_,_,rfl,rfl,by assumption,rfl⟩) λi j G=>bE.mpr rfl
noncomputable def dU:Nat:=1000000
def hT:dU<=bc:=by rw[fH];decide
def fA:D->D->Option D
 |.int i,.int j=>Y (.int (i+j))|.str x,.str y=>if x.length+y.length<=dU then Y (.str (x++y)) else M
 |.lst xs,.lst a=>if xs.length+a.length<=dU then Y (.lst (xs++a)) else M
 |_,_=>M
def wQ:BQ X (dB .Add) fA:=by
 refine pG.imp (Rb.or (F_.or Q')) ?_;rintro x y H Q ⟨G,u,t,d,e,h,g,c,q⟩;unfold fA at c;split at c<;>try (cases c;done)
 ·cases c;exact .inl ⟨_,_,h.int,g.int,q _ G H (.refl e) (bE.mpr rfl)⟩
 ·split at c
  ·cases c;rename_i f;exact .inr (.inl ⟨_,_,h.str,g.str,bq f hT,q _ G H (.refl e) (fT.mpr rfl)⟩)
  ·cases c
 ·split at c
  ·cases c;rename_i f;obtain⟨a,l,s,o,j⟩:=h.lst e;obtain⟨b,m,r,n,i⟩:=g.lst e;refine .inr (.inr ⟨a,b,l,m,s,r,o,n,?_,λp k=>q _ _ _ (gf.alloc (p:=p) e k) ?_⟩)
   ·rw[<- j.length,<- i.length];exact bq f hT
   ·exact bZ.mpr ⟨p,_,rfl,bj,be.mono (.alloc (e.free k)) _ (j.append i)⟩
  ·cases c
instance:DecidablePred λp:Int×Int=>M6 p.1 p.2:=λp=>by unfold M6;infer_instance
def qb:D->D->Option D
 |.int i,.int j=>if (-(2 ^ 64)<i/\i<2 ^ 64)\/(-(2 ^ 64)<j/\j<2 ^ 64) then Y (.int (i*j)) else M
 |.lst a,.int k=>if (-(2 ^ 63)<=k/\k<2 ^ 63)/\a.length*k.toNat<=dU then Y (.lst (bS k.toNat a).flatten) else M
 |_,_=>M
def Rj:BQ X (dB .Mult) qb:=by
 refine pG.imp (Q9.or Q8) ?_;rintro x y H Q ⟨G,o,n,d,c,i,h,b,q⟩;unfold qb at b;split at b<;>try (cases b;done)
 ·split at b
  ·cases b;rename_i l;exact .inl ⟨_,_,i.int,h.int,l,q _ G H (.refl c) (bE.mpr rfl)⟩
  ·cases b
 ·split at b
  ·cases b;rename_i e;obtain⟨a,j,m,k,f⟩:=i.lst c;refine .inr ⟨a,_,j,m,h.int,k,e.1.1,e.1.2,?_,λp g=>q _ _ _ (gf.alloc (p:=p) c g) ?_⟩
   ·rw[<- f.length];exact bq e.2 hT
   ·exact bZ.mpr ⟨p,_,rfl,bj,be.mono (.alloc (c.free g)) _ (f.rep _)⟩
  ·cases b
noncomputable def e1(o:D->Option D)(a:DF):DF:=λρ=>(a ρ).bind o
def HV(h:e1 o a b=Y d):∃x,a b=Y x/\o x=Y d:=by
 unfold e1 at h;obtain⟨x,c,h⟩:=aa.1 h;rw[c];exact⟨x,rfl,h⟩
noncomputable def D_:D->Option D
 |.int i=>Y (.int (-i))|_=>M
def Sg{b:List Nat}{f:DF}{c:Pos}(j:PE X a (tQ X.K b f)):PE X (.UnaryOp .USub a c) (tP X.K b (e1 D_ f)):=(Ht Fy j).imp <|by
 rintro r H Q ⟨G,h,d,l,e,n,k⟩;obtain⟨x,m,g⟩:=HV n;cases x<;>simp[D_]at g
 subst g;exact⟨G,h,_,l,e,m,λv p o q i=>⟨_,i.int,k _ p o q (bE.mpr rfl)⟩⟩
end
inductive DO where
 |nx (ρ:cO)|rt (d:D)|ro (ds:List D)|bk (ρ:cO)|ct (ρ:cO)
 |rm (d:D) (ρ:cO)
 |rf (i:Nat) (ρ:cO)
 |ex (c:aM) (n:Int)
abbrev DG:=cO->Option DO
structure Bs where
 g:Hp
 h:Hp
 pin:List (Nat×az)
 fly:aM->Int->Prop
def oj(K:aT)(G H:Hp):D->az->List az->Prop
 |.obj s t,a,S=>cQ K G H s t (.ref a) S|.eS _ _,_,S=>S=[]|d,a,S=>(∃o,H a=Y o/\jt K G d o)/\S=[a]
noncomputable def vM:D->Bool
 |.lst _=>Z'|.ins _ _ _=>Z'|.jn _ _=>Z'|_=>Z_
def jt.vM{K:aT}(h:jt K G d o):vM d=true:=by
 cases d<;>first|rfl|exact h.elim
def oj.cell{K:aT}{d:D}{a:az}{S:List az}(b:vM d=Z'):oj K G H d a S↔(∃o,H a=Y o/\jt K G d o)/\S=[a]:=by
 cases d<;>first|exact Iff.rfl|cases b
def oj.here{K:aT}{a:az}{S:List az}(h:oj K G H d a S):∀b∈S,∃o,H b=Y o:=λb c=>by
 cases d with
 |obj s t=>obtain⟨o,h,_⟩:=cQ.here (show cQ K G H s t (.ref a) S from h) b c;exact⟨o,h⟩
 |eS r p=>rw[show S=[] from h]at c;cases c
 |_=>obtain⟨⟨o,e,_⟩,rfl⟩:=h;simp at c;subst c;exact⟨o,e⟩
def oj.mono{K:aT}{d:D}{S:List az}(g:a_ G G')(k:∀b∈S,∀o,H b=Y o->H' b=Y o)(h:oj K G H d a S):oj K G' H' d a S:=by
 cases d with
 |obj s t=>exact cQ.mono g k h|eS r p=>exact h|_=>obtain⟨⟨o,e,c⟩,rfl⟩:=h;exact⟨⟨o,k a Ž o e,jt.mono g c⟩,rfl⟩
structure qN(K:aT)(B:Bs)(Z:List Nat)(G H:Hp)(σ:St)(ρ:cO)(F:Nat->List az):Prop where
 it:∀(i:Nat) (d:D),i∈Z->ρ[i]?=some (some d)->∃a,σ[i]?=some (some (.ref a))/\oj K G H d a (F i)
 ok:∀(i:Nat) (d:D),i∈Z->ρ[i]?=some (some d)->(F i).Nodup/\∀b∈F i,G b=none/\B.2 b=none
 ap:∀(i j:Nat) (d c:D),i∈Z->j∈Z->ρ[i]?=some (some d)->ρ[j]?=some (some c)->i≠j->∀b∈F i,b∉F j
structure SR(K:aT)(B:Bs)(Z:List Nat)(G H:Hp)(σ:St)(ρ:cO):Prop where
 gh:a_ G H
 g0:a_ B.1 G
 h0:a_ B.2 H
 fr:∀b o,G b=some o->B.1 b=some o\/B.2 b=none
 env:∀(i:Nat) (d:D),i∉Z->ρ[i]?=some (some d)->∃v,σ[i]?=some (some v)/\cI K G d v
 ow:∃F,qN K B Z G H σ ρ F
 len:σ.length=ρ.length
 pin:∀(i:Nat) (a:az),(i,a)∈B.3->i∈Z/\σ[i]?=some (some (.ref a))
 eS:∀(j r:Nat) (p:z9),j∈Z->Cf j∈Z->ρ[j]?=some (some (.eS r p))->Fd Z H σ ρ j r p
section
variable {K:aT}
def SR.nO(S:SR K B Z G H C A):gf B.1 B.2 G H:=⟨S.h0,S.g0,S.gh,S.fr⟩
def SR.Jh(S:SR K B Z G H C A)(b:i∈Z)(e:A[i]?=Y (Y d))(c:vM d=Z'):∃a o,C[i]?=Y (Y (.ref a))/\H a=Y o/\jt K G d o/\G a=M/\B.2 a=none:=by
 obtain⟨F,W⟩:=S.ow;obtain⟨a,n,m⟩:=W.it i d b e;obtain⟨⟨o,l,k⟩,j⟩:=(oj.cell c).mp m;obtain⟨_,h⟩:=W.ok i d b e;obtain⟨g,f⟩:=h a (by rw[j];simp);exact⟨a,o,n,l,k,g,f⟩
def SR.lh(S:SR K B Z G H C A):iQ K Z G H C A:=⟨S.len,λi d e=>by
 by_cases j:i∈Z
 ·obtain⟨F,W⟩:=S.ow;obtain⟨a,q,f⟩:=W.it i d j e;refine⟨_,q,?_⟩;rw[if_pos j];obtain⟨_,m⟩:=W.ok i d j e;cases d with
  |obj s t=>
   have f:cQ K G H s t (.ref a) (F i):=f;generalize F i=u at f m;cases f with
   |leaf r=>exact .inl (qY.mpr r)|lst e t=>exact .inr ⟨a,_,rfl,e,_,.lst e t,λb k=>(m b k).1⟩
   |ins n e l t=>exact .inr ⟨a,_,rfl,e,_,.ins n e l t,λb k=>(m b k).1⟩
   |jn e l t=>exact .inr ⟨a,_,rfl,e,_,.jn e l t,λb k=>(m b k).1⟩
  |eS r p=>exact .inl (tW.mpr ⟨a,rfl⟩)|lst=>obtain⟨⟨o,g,c⟩,h⟩:=f;exact .inr ⟨a,o,rfl,g,c⟩
  |ins=>obtain⟨⟨o,g,c⟩,h⟩:=f;exact .inr ⟨a,o,rfl,g,c⟩
  |jn=>obtain⟨⟨o,g,c⟩,h⟩:=f;exact .inr ⟨a,o,rfl,g,c⟩
  |_=>obtain⟨⟨o,g,c⟩,h⟩:=f;exact c.elim
 ·obtain⟨v,q,f⟩:=S.env i d j e;exact⟨v,q,by rw[if_neg j];exact f⟩,S.eS⟩
def g_{l:List (Option b)}(h:(l.set i (Y x))[j]?=Y (Y y)):(i=j/\y=x/\i<l.length)\/(i≠j/\l[j]?=Y (Y y)):=by
 by_cases e:i=j
 ·subst e;by_cases a:i<l.length
  ·rw[bC a]at h;cases h;exact .inl ⟨rfl,rfl,a⟩
  ·rw[f9 (by simpa using a)]at h;cases h
 ·rw[aj e]at h;exact .inr ⟨e,h⟩
def rM{l:List (Option a)}(h:i<l.length):(l.set i (Y x))[i]?=Y (Y x):=by rw[bC h]
def qN.ext{F:Nat->List az}(W:qN K B Z G H C A F)(E:gf G H G' H'):qN K B Z G' H' C A F:=by
 refine⟨λi d c e =>?_,λi d c e =>?_,W.ap⟩
 ·obtain⟨a,h,g⟩:=W.it i d c e;exact⟨a,h,g.mono E.gg λb _ o=>E.hh b o⟩
 ·obtain⟨a,h,g⟩:=W.it i d c e;obtain⟨n,k⟩:=W.ok i d c e;refine⟨n,λb f=>⟨?_,(k b f).2⟩⟩;obtain⟨o,j⟩:=g.here b f;rcases q:G' b with _|u
  ·rfl
  rcases E.fr b u q with z|z
  ·rw[(k b f).1]at z;cases z
  ·rw[j]at z;cases z
def SR.ext(S:SR K B Z G H C A)(E:gf G H G' H'):SR K B Z G' H' C A:=by
 refine⟨E.gh,S.g0.trans E.gg,S.h0.trans E.hh,λb o e =>?_,λi d a e =>?_,?_,S.len,S.pin,λj r p f c e=>(S.eS j r p f c e).ext E.hh⟩
 ·rcases E.fr b o e with q|q
  ·exact S.fr b o q
  ·exact .inr (S.h0.free q)
 ·obtain⟨v,h,g⟩:=S.env i d a e;exact⟨v,h,cI.mono E.gg d g⟩
 ·obtain⟨F,W⟩:=S.ow;exact⟨F,W.ext E⟩
def SR.xW{v:V}(S:SR K B Z G H C A)(P:i∉Z)(r:cI K G d v):SR K B Z G H (C.set i (Y v)) (A.set i (Y d)):=by
 have f:∀j,j∈Z->i≠j:=λj b e=>P (e ▸ b)
 refine⟨S.gh,S.g0,S.h0,S.fr,λj c b e =>?_,?_,by simp[S.len],λj a h=>⟨(S.pin j a h).1,by rw[aj (f j (S.pin j a h).1)];exact(S.pin j a h).2⟩,λj k p q R e =>?_⟩
 ·rcases g_ e with⟨rfl,rfl,D⟩|⟨n,e⟩
  ·exact⟨v,rM (by rw[S.len];exact D),r⟩
  ·obtain⟨u,l,g⟩:=S.env j c b e;exact⟨u,by rw[aj n];exact l,g⟩
 ·obtain⟨F,W⟩:=S.ow;have m:∀j c,j∈Z->(A.set i (Y d))[j]?=Y (Y c)->A[j]?=Y (Y c):=λj c b e=>by rw[aj (f j b)]at e;exact e
  refine⟨F,λj c b e =>?_,λj c b e=>W.ok j c b (m j c b e),λj k c t b s U T=>W.ap j k c t b s (m j c b U) (m k t s T)⟩;obtain⟨a,l,g⟩:=W.it j c b (m j c b e);exact⟨a,by rw[aj (f j b)];exact l,g⟩
 ·rw[aj (f j q)]at e;obtain⟨o,Q,z,y,E,w,x,l,g,e3,X⟩:=S.eS j k p q R e;exact⟨o,Q,z,y,E,w,x,by rw[aj (f k o)];exact l,by rw[aj (f k o)];exact g,by rw[aj (f j q)];exact e3,X⟩
def SR.GJ{i:Nat}{a:az}{d':D}{S' F0:List az}{F:Nat->List az}(S:SR K B Z G H C A)(W:qN K B Z G H C A F)(hi:i∈Z)(h0:∀b∈F0,b∈F i/\∃d,A[i]?=Y (Y d))(gg:a_ G G')(gh:a_ G' H')(fr:∀b o,G' b=Y o->G b=Y o\/H b=M\/b∈F0)(v:∀b o,b∉F0->H b=Y o->H' b=Y o)(nw:oj K G' H' d' a S')(nd:S'.Nodup)(nf:∀b∈S',G' b=M/\(b∈F0\/H b=M\/(B.2 b=M/\∀k c,k∈Z->A[k]?=Y (Y c)->k≠i->b∉F k)))(XE:∀b,(i,b)∈B.3->b=a)(hna:∀r p,d' ≠ .eS r p)(ha:∀j p,j∈Z->Cf j∈Z->j≠i->A[j]?=Y (Y (.eS i p))->∃s t s' v',d'=.obj s t/\C[j]?=Y (Y v')/\gS H' p (.ref a)=Y v'/\mL p s=Y s'):
  SR K B Z G' H' (C.set i (Y (.ref a))) (A.set i (Y d'))/\qN K B Z G' H' (C.set i (Y (.ref a))) (A.set i (Y d')) (λj=>if j=i then S' else F j):=by
 have b0:∀b∈F0,G b=M/\B.2 b=none:=λb g=>by obtain⟨X,d,U⟩:=h0 b g;exact(W.ok i d hi U).2 b X
 have P:∀j c,j∈Z->A[j]?=Y (Y c)->i≠j->∀b∈F j,b∉F0:=λj c l ej f b g RP=>by obtain⟨X,d,U⟩:=h0 b RP;exact W.ap i j d c hi l U ej f b X g
 have W':qN K B Z G' H' (C.set i (Y (.ref a))) (A.set i (Y d')) (λj=>if j=i then S' else F j):=by
  refine⟨λj c l e =>?_,λj c l e =>?_,λj k c c' l hk ej ek V' =>?_⟩
  ·rcases g_ e with⟨rfl,rfl,Q⟩|⟨f,e⟩
   ·exact⟨a,rM (by rw[S.len];exact Q),by simpa using nw⟩
   ·obtain⟨b,R,I⟩:=W.it j c l e;refine⟨b,by rw[aj f];exact R,?_⟩;simp only[if_neg (cg f)];exact I.mono gg λx hx o=>v x o (P j c l e f x hx)
  ·rcases g_ e with⟨rfl,rfl,Q⟩|⟨f,e⟩
   ·simp only[if_true];refine⟨nd,λb g=>⟨(nf b g).1,?_⟩⟩;rcases(nf b g).2 with z|z|z
    ·exact(b0 b z).2
    ·exact S.h0.free z
    ·exact z.1
   ·simp only[if_neg (cg f)];obtain⟨n,k⟩:=W.ok j c l e;obtain⟨x,R,I⟩:=W.it j c l e;refine⟨n,λb g=>⟨?_,(k b g).2⟩⟩;rcases q:G' b with _|u
    ·rfl
    rcases fr b u q with z|z|z
    ·rw[(k b g).1]at z;cases z
    ·obtain⟨o,ho⟩:=I.here b g;rw[ho]at z;cases z
    ·exact absurd z (P j c l e f b g)
  ·have y:∀m c,m∈Z->A[m]?=Y (Y c)->i≠m->∀b∈S',b∉F m:=λm c hm em f b g T=>by
    rcases(nf b g).2 with z|z|z
    ·exact P m c hm em f b T z
    ·obtain⟨x,R,I⟩:=W.it m c hm em;obtain⟨o,ho⟩:=I.here b T;rw[ho]at z;cases z
    ·exact z.2 m c hm em (cg f) T
   rcases g_ ej with⟨rfl,rfl,Q⟩|⟨f,ZM⟩
   ·rcases g_ ek with⟨rfl,_,_⟩|⟨f,X2⟩
    ·exact absurd rfl V'
    ·simp only[if_true,if_neg (cg f)];exact y k c' hk X2 f
   ·rcases g_ ek with⟨rfl,rfl,Q⟩|⟨XI,X2⟩
    ·simp only[if_true,if_neg (cg f)];exact λb g Qa=>y j c l ZM f b Qa g
    ·simp only[if_neg (cg f),if_neg (cg XI)];exact W.ap j k c c' l hk ZM X2 V'
 refine⟨⟨gh,S.g0.trans gg,λb o e =>?_,λb o e =>?_,λj c l e =>?_,⟨_,W'⟩,by simp[S.len],λj b h =>?_,λj r p X U e =>?_⟩,W'⟩
 ·refine v b o (λz =>?_) (S.h0 b o e);rw[(b0 b z).2]at e;cases e
 ·rcases fr b o e with z|z|z
  ·exact S.fr b o z
  ·exact .inr (S.h0.free z)
  ·exact .inr (b0 b z).2
 ·have f:i≠j:=λz=>l (z ▸ hi)
  rw[aj f]at e;obtain⟨u,R,I⟩:=S.env j c l e;exact⟨u,by rw[aj f];exact R,cI.mono gg c I⟩
 ·obtain⟨p1,p2⟩:=S.pin j b h;refine⟨p1,?_⟩;by_cases To:i=j
  ·subst To;rw[XE b h,bC (af.mp p2).1]
  ·rw[aj To];exact p2
 ·rcases g_ e with⟨rfl,z,Q⟩|⟨f,e'⟩
  ·exact absurd z.symm (hna r p)
  ·clear e;have e:=e';clear e';by_cases E:r=i
   ·subst E;obtain⟨s,t,s',v',f1,f2,f3,f4⟩:=ha j p X U (cg f) e;obtain⟨g1,g0,s0,t0,s1,w,v1,g2,g3,g4,g5,g6,g7⟩:=S.eS j r p X U e;have Q:r<A.length:=(af.mp g2).1;refine⟨hi,g0,s,t,s',.ref a,v',?_,rM (by rw[S.len];exact Q),?_,f3,f4,g7⟩
    ·rw[rM Q,f1]
    ·rw[aj f];exact f2
   ·obtain⟨g1,g0,s0,t0,s1,w,v1,g2,g3,g4,g5,g6⟩:=S.eS j r p X U e;obtain⟨x,R,I⟩:=W.it r _ g1 g2;rw[g3]at R;cases R;refine⟨g1,g0,s0,t0,s1,.ref x,v1,by rw[aj (cg E)];exact g2,by rw[aj (cg E)];exact g3,by rw[aj f];exact g4,?_,g6⟩;exact cQ.Cs (show cQ K G H s0 t0 (.ref x) (F r) from I) g6.1 (λb g o=>v b o (P r _ g1 g2 (cg E) b g)) g5
def SR.chg{i:Nat}{a:az}{d':D}{S' F0:List az}{F:Nat->List az}(S:SR K B Z G H C A)(W:qN K B Z G H C A F)(q:i∈Z)(v:∀b∈F0,b∈F i/\∃d,A[i]?=Y (Y d))(x:a_ G G')(w:a_ G' H')(y:∀b o,G' b=Y o->G b=Y o\/H b=M\/b∈F0)(c:∀b o,b∉F0->H b=Y o->H' b=Y o)(m:oj K G' H' d' a S')(n:S'.Nodup)(h:∀b∈S',G' b=M/\(b∈F0\/H b=M))(e:∀b,(i,b)∈B.3->b=a)(f:∀r p,d' ≠ .eS r p)(u:∀j p,j∈Z->Cf j∈Z->j≠i->A[j]?=Y (Y (.eS i p))->∃s t l g,d'=.obj s t/\C[j]?=Y (Y g)/\gS H' p (.ref a)=Y g/\mL p s=Y l):
  SR K B Z G' H' (C.set i (Y (.ref a))) (A.set i (Y d')):=
 (S.GJ W q v x w y c m n (λb k=>⟨(h b k).1,by rcases(h b k).2 with z|z;exact .inl z;exact .inr (.inl z)⟩) e f u).1
def SR.P0(S:SR K B Z G H C A)(b:A[i]?=Y (Y d))(c:vM d=Z'):∀j p,j∈Z->Cf j∈Z->A[j]?=Y (Y (.eS i p))->False:=λj p g f e=>by
 obtain⟨n,o,m,k,l,w,h,a,_⟩:=S.eS j i p g f e;rw[b]at a;cases a;cases c
def CY(a:vM d=Z'):∀r p,d ≠ .eS r p:=λr p e=>by subst e;cases a
def SR.setC(S:SR K B Z G H C A)(m:i∈Z)(E:gf G H G' H')(k:H p=M)(t:G' p=M)(g:H' p=Y o)(r:jt K G' d o)(c:∀a,(i,a)∉B.3)(l:Bi i∉Z):SR K B Z G' H' (C.set i (Y (.ref p))) (A.set i (Y d)):=by
 obtain⟨F,W⟩:=S.ow;exact S.chg (F0:=[]) (S':=[p]) W m (λb f=>by cases f) E.gg E.gh (λb o e=>by rcases E.fr b o e with z|z;exact .inl z;exact .inr (.inl z)) (λb o _ e=>E.hh b o e)
  ((oj.cell r.vM).mpr ⟨⟨o,g,r⟩,rfl⟩) Ž (λb f=>by simp at f;subst f;exact⟨t,.inr k⟩) (λb h=>absurd h (c b)) (CY r.vM) (λj q s n _ e=>(l (S.eS j i q s n e).2.1).elim)
def SR.UN{f:HO}(S:SR K B Z G H C A)(m:i∈Z)(g:A[i]?=Y (Y d))(l:C[i]?=Y (Y (.ref a)))(r:jt K G p f)(s:autoParam (vM d=true) Ų):SR K B Z G (dg H a f) C (A.set i (Y p)):=by
 obtain⟨F,W⟩:=S.ow;obtain⟨D,v,y⟩:=W.it i d m g;rw[l]at v;cases v;obtain⟨⟨o,E,z⟩,u⟩:=(oj.cell s).mp y;obtain⟨n,k⟩:=W.ok i d m g;rw[u]at k;have t:G a=none:=(k a Ž).1;have:=S.chg (i:=i) (a:=a) (d':=p) (F0:=[a]) (S':=[a]) (G':=G) (H':=dg H a f) W m (λb c=>⟨by rw[u];exact c,d,g⟩) (a_.refl _) (λb o e=>by rw[aY (bF e t)];exact S.gh b o e) (λb o e =>.inl e)
  (λb o c e=>by rw[aY (by simpa using c)];exact e) ((oj.cell r.vM).mpr ⟨⟨f,bj,r⟩,rfl⟩) Ž (λb c=>by simp at c;subst c;exact⟨t,.inl Ž⟩)
  (λb h=>by have:=(S.pin i b h).2;rw[l]at this;cases this;rfl) (CY r.vM) (λj q x w _ e=>(S.P0 g s j q x w e).elim)
 rwa [gB l]at this
def SR.NL{p:az}(S:SR K B Z G H C A)(h:i∈Z)(E:gf G H G' H')(f:H p=M)(j:G' p=M)(e:H' p=Y (.lst c))(r:be K G' d c)(b:∀a,(i,a)∉B.3)(g:Bi i∉Z):SR K B Z G' H' (C.set i (Y (.ref p))) (A.set i (Y (.lst d))):=
 S.setC h E f j e ⟨c,rfl,r⟩ b g
def SR.mut(S:SR K B Z G H C A)(e:i∈Z)(f:A[i]?=Y (Y (.lst g)))(d:C[i]?=Y (Y (.ref a)))(r:be K G c b):SR K B Z G (dg H a (.lst b)) C (A.set i (Y (.lst c))):=
 S.UN e f d ⟨b,rfl,r⟩
def SR.freeze{Ź:List Nat}(S:SR K B Z G H C A)(f:∀j∈Ź,j∈Z)(i:Nat)(Q:∀j∈Z,j∈Ź\/j=i)(hn:i∉Ź)(P:i∈Z)(U:∀a,(i,a)∉B.3)(T:Bi i∉Z)(Me:i<1000000):∃G',SR K B Ź G' H C A:=by
 obtain⟨F,W⟩:=S.ow;have I:∀(j:Nat) (a:az),(j,a)∈B.3->j∈Ź/\C[j]?=Y (Y (.ref a)):=λj a h=>⟨by
  rcases Q j (S.pin j a h).1 with z|z
  ·exact z
  ·subst z;exact absurd h (U a),(S.pin j a h).2⟩
 by_cases R:∃d,A[i]?=Y (Y d)
 ·obtain⟨d,R⟩:=R;obtain⟨a,e1,E⟩:=W.it i d P R;obtain⟨nd,k⟩:=W.ok i d P R;have n0:∀b∈F i,G b=none:=λb D=>(k b D).1
  have l:a_ G (kv G H (F i)):=qz n0;have rep:cI K (kv G H (F i)) d (.ref a):=by
   cases d with
   |obj s t=>exact qY.mpr (cQ.frozen n0 (λb D=>D) (show cQ K G H s t (.ref a) (F i) from E))
   |eS r p=>exact tW.mpr ⟨a,rfl⟩|eN=>obtain⟨⟨o,q,g⟩,x⟩:=E;exact g.elim
   |bl=>obtain⟨⟨o,q,g⟩,x⟩:=E;exact g.elim
   |int=>obtain⟨⟨o,q,g⟩,x⟩:=E;exact g.elim
   |str=>obtain⟨⟨o,q,g⟩,x⟩:=E;exact g.elim
   |tup=>obtain⟨⟨o,q,g⟩,x⟩:=E;exact g.elim
   |mH=>obtain⟨⟨o,q,g⟩,x⟩:=E;exact g.elim
   |_=>obtain⟨⟨o,q,g⟩,x⟩:=E;exact(jt.mono l g).rep (by rw[q_ (by rw[x];simp)];exact q)
  refine⟨kv G H (F i),oI S.gh,S.g0.trans l,S.h0,λb o e =>?_,λj c n e =>?_,⟨F,λj c n e =>?_,λj c n e =>?_,λj m c c' n T=>W.ap j m c c' (f j n) (f m T)⟩,S.len,I,λj r p h1 h2 e =>?_⟩
  ·by_cases D:b∈F i
   ·exact .inr (k b D).2
   ·rw[ph D]at e;exact S.fr _ _ e
  ·by_cases v:j∈Z
   ·rcases Q j v with z|z
    ·exact absurd z n
    ·subst z;rw[R]at e;cases e;exact⟨_,e1,rep⟩
   ·obtain⟨u,q,g⟩:=S.env j c v e;exact⟨u,q,cI.mono l c g⟩
  ·obtain⟨b,q,g⟩:=W.it j c (f j n) e;exact⟨b,q,g.mono l λ_ _ _ z=>z⟩
  ·obtain⟨nd',k'⟩:=W.ok j c (f j n) e;refine⟨nd',λb D=>⟨?_,(k' b D).2⟩⟩;have Kn:i≠j:=λz=>hn (z ▸ n)
   rw[ph (λz=>W.ap i j d c P (f j n) R e Kn b z D)];exact(k' b D).1
  ·obtain⟨g1,X,s0,t0,s1,w,v1,g2,g3⟩:=S.eS j r p (f j h1) (f _ h2) e;rcases Q r g1 with z|z
   ·rcases Q _ X with y|y
    ·exact⟨z,y,s0,t0,s1,w,v1,g2,g3⟩
    ·unfold Bi at y;omega
   ·subst z;exact absurd X T
 ·refine⟨G,S.gh,S.g0,S.h0,S.fr,λj c n e =>?_,⟨F,λj c n e=>W.it j c (f j n) e,λj c n e=>W.ok j c (f j n) e,λj m c c' n T=>W.ap j m c c' (f j n) (f m T)⟩,S.len,I,λj r p h1 h2 e =>?_⟩
  ·by_cases v:j∈Z
   ·rcases Q j v with z|z
    ·exact absurd z n
    ·subst z;exact absurd ⟨c,e⟩ R
   ·exact S.env j c v e
  ·obtain⟨g1,X,s0,t0,s1,w,v1,g2,g3⟩:=S.eS j r p (f j h1) (f _ h2) e;rcases Q r g1 with z|z
   ·rcases Q _ X with y|y
    ·exact⟨z,y,s0,t0,s1,w,v1,g2,g3⟩
    ·unfold Bi at y;omega
   ·subst z;exact absurd X T
end
def Yx(K:aT)(B:Bs)(I Z:List Nat)(e:Ends):DO->Prop
 |.nx A=>∀C G H,SR K B Z G H C A->e.nx C H|.rt d=>∀v G H,gf B.1 B.2 G H->cI K G d v->e.rt v H|.ro g=>∀a f G H,gf B.1 B.2 G H->B.2 a=M->G a=M->H a=Y (.lst f)->be K G g f->e.rt (.ref a) H|.bk A=>∀C G H,SR K B I G H C A->e.bk C H|.ct A=>∀C G H,SR K B I G H C A->e.ct C H
 |.rm d A=>∀v C G H,(∃b,SR K B b G H C A)->cI K G d v->e.rt v H|.rf i A=>∀v C G H,(∃b,i∈b/\SR K B b G H C A)->C[i]?=Y (Y v)->e.rt v H|.ex c n=>B.fly c n
inductive jP (K:aT) (B:Bs) (I Z a:List Nat) (g:DG) (b:Ends) (C:St) (H:Hp):Prop
 |mk G A o:SR K B Z G H C A->g A=some o->Yx K B I a b o->jP K B I Z a g b C H
section
variable {X:Cx}
noncomputable def cH:DG:=λA=>Y (.nx A)
def fU:qQ X [] (jP X.K B I Z Z cH):=iZ.imp <|by rintro D C H ⟨G,A,o,S,a,k⟩;cases a;exact k C G H S
noncomputable def aZ(g h:DG):DG:=λA=>(g A).bind λo=>match o with|.nx a=>h a|o=>Y o
def QM{K:aT}{e:Ends}(q:jP K B I Z L (aZ g h) e C H):jP K B I Z own1 g { e with nx:=λC H=>jP K B I own1 L h e C H } C H:=by
 obtain⟨G,A,o,S,a,k⟩:=q;unfold aZ at a;obtain⟨f,l,a⟩:=aa.1 a;refine⟨G,A,f,S,l,?_⟩;cases f with
 |nx b=>exact λj G' H' m=>⟨G',b,o,m,a,k⟩
 |_=>cases a;exact k
def aB(b:PS X N (jP X.K B I Z own1 g))(a:qQ X O (jP X.K B I own1 L h)):qQ X (N::O) (jP X.K B I Z L (aZ g h)):=(cW b a).imp λD C H q=>QM q
def bQ(a:PS X N (jP X.K B I Z own1 g)):qQ X [N] (jP X.K B I Z own1 g):=dE a
def uZ{b:List rN}(i:Nat)(n:qQ X b (jP X.K B I own1 L g))(d:autoParam (∀j∈own1,j∈Z) Ű)(m:autoParam (∀j∈Z,j∈own1\/j=i) Ű)(h:autoParam (i∉own1) Ű)(f:autoParam (i∈Z) Ű)(c:autoParam (∀a,(i,a)∉B.3) ū)(l:autoParam (Bi i∉Z) Ű)(e:autoParam (i<1000000) Ű):qQ X b (jP X.K B I Z L g):=
 n.imp <|by rintro D C H ⟨G,A,o,S,p,k⟩;obtain⟨G',q⟩:=S.freeze d i m h f c l e;exact⟨G',A,o,q,p,k⟩
noncomputable def dh(i:Nat)(f:DF):DG:=λA=>(f A).map λd =>.nx (A.set i (Y d))
def mQ{i:Nat}{f:DF}(n:X.N.Nodup)(j:X.N[i]?=Y x)(c:Loc X.env.scope x)(m:PE X e (tP X.K Z f))(h:autoParam (i∉Z) Ű)(g:autoParam (cP e (Y (.Name x a)) J.line X.env=eQ false) Ų)(l:autoParam (X.fn x=Z'\/X.env.scope.names.lookup x=Y .local) ŭ):
  PS X (.Assign [.Name x a] e J) (jP X.K B I Z Z (dh i f)):=(js n j c m g l).imp <|by
 rintro D C H ⟨G,A,o,S,b,k⟩;unfold dh at b;obtain⟨d,p,b⟩:=ah.1 b;cases b;exact⟨G,A,d,S.gh,S.lh,p,λv G' H' E r=>k _ G' H' ((S.ext E).xW h r)⟩
noncomputable def kq(i:Nat)(f:DL):DG:=λA=>(f A).map λa =>.nx (A.set i (Y (.lst a)))
def OM{i:Nat}{f:DL}(u:X.N.Nodup)(q:X.N[i]?=Y x)(g:Loc X.env.scope x)(t:PE X e (tF X.K Z f))(m:autoParam (i∈Z) Ű)(c:autoParam (∀a,(i,a)∉B.3) ū)(n:autoParam (Bi i∉Z) Ű)(j:autoParam (cP e (Y (.Name x b)) J.line X.env=eQ false) Ų)(s:autoParam (X.fn x=Z'\/X.env.scope.names.lookup x=Y .local) ŭ):
  PS X (.Assign [.Name x b] e J) (jP X.K B I Z Z (kq i f)):=(js u q g t j s).imp <|by
 rintro D C H ⟨G,A,o,S,d,k⟩;unfold kq at d;obtain⟨y,w,d⟩:=ah.1 d;cases d;exact⟨G,A,y,S.gh,S.lh,w,λp z G' H' E l v h r=>k _ G' H' (S.NL m E l v h r c n)⟩
noncomputable def dX(f:DF):DG:=λA=>(f A).map .rt
def fY{f:DF}(b:PE X e (tP X.K Z f)):PS X (.Return (Y e) J) (jP X.K B I Z own1 (dX f)):=(pf b).imp <|by
 rintro D C H ⟨G,A,o,S,a,k⟩;unfold dX at a;obtain⟨d,c,a⟩:=ah.1 a;cases a;exact⟨G,A,d,S.gh,S.lh,c,λv G' H' E r=>k v G' H' (S.nO.trans E) r⟩
noncomputable def rV(f:DL):DG:=λA=>(f A).map .ro
def yz{f:DL}(h:PE X e (tF X.K Z f)):PS X (.Return (Y e) J) (jP X.K B I Z own1 (rV f)):=(pf h).imp <|by
 rintro D C H ⟨G,A,o,S,a,k⟩;unfold rV at a;obtain⟨d,j,a⟩:=ah.1 a;cases a;exact⟨G,A,d,S.gh,S.lh,j,λp b G' H' E g i c r=>k p b G' H' (S.nO.trans E) (S.h0.free g) i c r⟩
def A'(i:Nat):DG:=λA=>(eV i A).bind λd=>match d with|.lst a=>Y (.ro a)|_=>M
def ON{i:Nat}(h:PE X (.Name x p) (ko i))(f:autoParam (i∈Z) Ű):PS X (.Return (Y (.Name x p)) J) (jP X.K B I Z own1 (A' i)):=(pf h).imp <|by
 rintro D C H ⟨G,A,o,S,b,k⟩;unfold A' at b;obtain⟨d,g,b⟩:=aa.1 b;cases d<;>simp only[ab]at b<;>try (cases b;done)
 obtain⟨a,q,n,m,c,l,j⟩:=S.Jh f (jd g) rfl;obtain⟨e,rfl,c⟩:=c;cases b;exact⟨_,n,k a e G H S.nO j l m c⟩
def Hi(i:Nat):DG:=λA=>(eV i A).map λ_ =>.rf i A
def Wg{i:Nat}(h:PE X (.Name x p) (ko i))(c:autoParam (i∈Z) Ű):PS X (.Return (Y (.Name x p)) J) (jP X.K B I Z own1 (Hi i)):=(pf h).imp <|by
 rintro D C H ⟨G,A,o,S,b,k⟩;unfold Hi at b;obtain⟨d,f,b⟩:=ah.1 b;cases b;obtain⟨F,W⟩:=S.ow;obtain⟨a,e,_⟩:=W.it i d c (jd f);exact⟨_,e,k _ C G H ⟨Z,c,S⟩ e⟩
noncomputable def dR(f:DT)(g h:DG):DG:=λA=>(f A).bind λb=>if b=Z' then g A else h A
def jX{c:Expr}{b:List rN}{f:DT}(j:PT X c (sC X.K Z f))(m:qQ X a (jP X.K B I Z own1 g))(l:qQ X b (jP X.K B I Z own1 h)):PS X (.If c a b J) (jP X.K B I Z own1 (dR f g h)):=(ni j m l).imp <|by
 rintro D C H ⟨G,A,o,S,d,k⟩;unfold dR at d;obtain⟨c,n,d⟩:=aa.1 d;refine⟨G,A,c,S.gh,S.lh,n,λe p i =>?_⟩;cases c with
 |true=>exact uU ⟨e,A,o,S.ext i,d,k⟩|false=>exact uk ⟨e,A,o,S.ext i,d,k⟩
def jl(i:Nat)(A:cO):Option (List D):=(eV i A).bind λd=>match d with|.lst a=>Y a|_=>M
def fX(h:jl i A=Y a):A[i]?=Y (Y (.lst a)):=by
 unfold jl at h;obtain⟨d,b,h⟩:=aa.1 h;have:=jd b;cases d<;>first|(cases h;exact this)|cases h
def SR.nr{K:aT}(S:SR K B Z G H C A)(d:i∈Z)(h:A[i]?=Y (Y (.lst c))):∃a b,C[i]?=Y (Y (.ref a))/\H a=Y (.lst b)/\be K G c b/\G a=M/\B.2 a=none:=by
 obtain⟨a,k,j,g,⟨b,rfl,f⟩,e⟩:=S.Jh d h rfl;exact⟨a,b,j,g,f,e⟩
def p'(i:Nat)(f:DF):DG:=λA=>(jl i A).bind λa=>(f A).bind λd=>if a.length<dU then Y (.nx (A.set i (Y (.lst (a++[d]))))) else M
def R8{i:Nat}{c b:Pos}{f:DF}(h:PE X (.Name x p) (ko i))(R:PE X e (tP X.K Z f))(t:autoParam (i∈Z) Ű)(m:autoParam (cB (.Name x p) "append" X.env (eval (.Name x p) X.env)=eval (.Name x p) X.env) Ų) (n:autoParam (((dt b (av (e::[]) X.env)).all (λx=> !x.1)&&(jg b (eJ [] X.env)).all (λx=>x.1.isSome)
   && decide ((e::[]).length+([]:List oP).length+(if ([]:List oP).isEmpty then 0 else 1)<30))=true) Ų) (l:autoParam ((c.endLine==b.line)=true) Ų) (z:autoParam (av (e::[]) X.env=(Z_,eval e X.env)::av [] X.env) Ų) (g:autoParam ((dt b (av [] X.env)).any (·.1)=false) Ų) (s:autoParam (cP (.Call (.Attribute (.Name x p) "append" c) [e] [] b) M J.line X.env=eQ false) Ų) :
  PS X (.Expr (.Call (.Attribute (.Name x p) "append" c) [e] [] b) J) (jP X.K B I Z Z (p' i f)):=
 (gJ (rX dC PySem.F.slot_list_append PySem.F.type_list_append gX h (bM R cG z) m n l z g) s).imp <|by
  rintro D C H ⟨G,A,o,S,j,k⟩;unfold p' at j;obtain⟨ds,U,j⟩:=aa.1 j;rw[aa]at j;obtain⟨d,w,j⟩:=j;split at j
  ·cases j;rename_i Q;have u:=fX U;obtain⟨a,P,y,e3,e4,e5,e6⟩:=S.nr t u;refine⟨_,y,.inl ⟨rfl,P,.of e3⟩,G,A,d,S.gh,S.lh,w,λv G' H' E r =>?_⟩;have L:=S.ext E;obtain⟨a',q,K,T,F,_⟩:=L.nr t u;rw[y]at K;cases K;refine⟨a,q,v,rfl,rfl,T,?_,k _ G' _ (L.mut t u y (F.append (.cons r .nil)))⟩;rw[<- F.length];exact bx Q hT
  ·cases j
def QY{K:aT}(S:SR K B Z G H C A)(f:j∈Z)(g:A[j]?=Y (Y (.lst b)))(n:b[b.length-1]?=Y d)(k:∀v H',SR K B Z G H' C (A.set j (Y (.lst b.dropLast)))->cI K G d v->Q v H'):T5 K "list" Uq (ko j) C H Q:=by
 obtain⟨a,e,l,i,c,p,o⟩:=S.nr f g;obtain⟨v,h,m⟩:=c.get n;rw[c.length]at h;exact⟨_,l,.inl ⟨rfl,e,.of i⟩,a,e,v,rfl,rfl,i,h,k v _ (S.mut f g l c.dropLast) m⟩
def B3(i:Nat)(f:DF):DG:=λA=>(jl i A).bind λb=>(f A).bind λd=>match d with|.lst a=>if b.length+a.length<=dU then Y (.nx (A.set i (Y (.lst (b++a))))) else M|_=>M
def JQ{g:Pos}{f:DF}(h:PE X (.Name x p) (ko i))(he:PE X e (tP X.K Z f))(u:autoParam (i∈Z) Ű)(n:autoParam (cB (.Name x p) "extend" X.env (eval (.Name x p) X.env)=eval (.Name x p) X.env) Ų) (q:autoParam (((dt c (av (e::[]) X.env)).all (λx=> !x.1)&&(jg c (eJ [] X.env)).all (λx=>x.1.isSome)
   && decide ((e::[]).length+([]:List oP).length+(if ([]:List oP).isEmpty then 0 else 1)<30))=true) Ų) (m:autoParam ((g.endLine==c.line)=true) Ų) (L:autoParam (av (e::[]) X.env=(Z_,eval e X.env)::av [] X.env) Ų) (l:autoParam ((dt c (av [] X.env)).any (·.1)=false) Ų) (t:autoParam (cP (.Call (.Attribute (.Name x p) "extend" g) [e] [] c) M J.line X.env=eQ false) Ų) :
  PS X (.Expr (.Call (.Attribute (.Name x p) "extend" g) [e] [] c) J) (jP X.K B I Z Z (B3 i f)):=
 (gJ (rX dC PySem.F.slot_list_extend PySem.F.type_list_extend Jp h (bM he cG L) n q m L l) t).imp <|by
  rintro D C H ⟨G,A,o,S,j,k⟩;unfold B3 at j;obtain⟨ds,el,j⟩:=aa.1 j;rw[aa]at j;obtain⟨d,y,j⟩:=j;cases d<;>simp only at j<;>try (cases j;done)
  split at j
  ·cases j;rename_i es U;have w:=fX el;obtain⟨a,R,z,e3,e4,e5,e6⟩:=S.nr u w;refine⟨_,z,.inl ⟨rfl,R,.of e3⟩,G,A,_,S.gh,S.lh,y,λv G' H' E r =>?_⟩;have F:=S.ext E;obtain⟨a',s,Q,f3,P,_⟩:=F.nr u w;rw[z]at Q;cases Q;obtain⟨b,T,rfl,gb,K⟩:=bZ.mp r;refine⟨a,b,s,T,rfl,rfl,f3,F.gh _ _ gb,?_,k _ G' _ (F.mut u w z (P.append K))⟩;rw[<- P.length,<- K.length];exact bq U hT
  ·cases j
def Ba(j:Nat)(b c:DF):DG:=λA=>(c A).bind λd=>(jl j A).bind λa=>(b A).bind λk=>match k with|.int k=>(An a.length k).map λn =>.nx (A.set j (Y (.lst (a.set n d))))|_=>M
def H0{g:Expr}{F P:DF}(h:PE X (.Name x p) (ko j))(y:PE X g (tQ X.K Z F))(he:PE X e (tP X.K Z P))(w:autoParam (j∈Z) Ű)(hg:∀ {s t:TE},PE X (.Name x p) s->PE X g t->PG X (.Subscript (.Name x p) g b) (Vc s t PN):=by intro s t h1 h2;exact Q1 h1 h2 M8)(hs:autoParam (swapsWithSole [.Subscript (.Name x p) g b] e J.line X.env=eQ false) Ų)(hw:autoParam (swappedStores [.Subscript (.Name x p) g b] e X.env=eQ none) Ų):
  PS X (.Assign [.Subscript (.Name x p) g b] e J) (jP X.K B I Z Z (Ba j F P)):=
 (QX he (hg h y) hs hw).imp <|by
  rintro D C H ⟨G,A,o,S,c,k⟩;unfold Ba at c;obtain⟨d,ef,c⟩:=aa.1 c;rcases l:jl j A with _|ds
  ·simp[l]at c
  rcases f:F A with _|i
  ·simp[l,f]at c
  simp only[l,f,ab]at c;cases i<;>simp only at c<;>try (cases c;done)
  rename_i i;rcases K:An ds.length i with _|n
  ·simp[K]at c
  simp only[K,bI]at c;cases c;have z:=fX l;refine⟨G,A,d,S.gh,S.lh,ef,λv G' H' E r =>?_⟩;have m:=S.ext E;obtain⟨a,vs,L,e3,e4,e5,e6⟩:=m.nr w z;refine⟨_,L,G',A,_,m.gh,m.lh,f,λu G2 H2 U r2 =>?_⟩;have T:=m.ext U;obtain⟨a',q,R,f3,Q,_⟩:=T.nr w z;rw[L]at R;cases R;exact⟨a,q,i,n,rfl,r2.int,f3,by rw[<- Q.length];exact K,k _ G2 _ (T.mut w z L (Q.set n (cI.mono U.gg d r)))⟩
end
section
variable {X:Cx}{f:DF}
def Iy.imp(h:Iy X r)(k:∀x y H Q,d x y H Q->r x y H Q):Iy X d:=λa b c s e H x y v u Q I g f q i=>h a b c s e H x y v u Q I g f (k _ _ _ _ q) i
def PO.imp{e:Option Expr}(h:PO X e t)(k:∀b H Q,c b H Q->t b H Q):PO X e c:=λa s b H Q I q=>h a s b H Q I (k _ _ _ q)
def mu.imp(h:mu X c r)(k:∀b H Q,d b H Q->r b H Q):mu X c d:=λa s e H b f Q I g q=>h a s e H b f Q I g (k _ _ _ q)
def be.oi{K:aT}{a:List D}{b:List V}(r:be K G a b)(h:oi a i=Y d):∃v,L2.oi b i=Y v/\cI K G d v:=by
 unfold L2.oi at h ⊢;rw[<- r.length];obtain⟨j,e,h⟩:=aa.1 h;rw[e];exact r.get h
def CU{a b:Type}(g:a->b)(xs:List a)(i:Int):oi (xs.map g) i=(oi xs i).map g:=by
 unfold oi;rw[aq];cases An xs.length i with
 |none=>rfl|some j=>simp[aF]
def bP:D->D->Option D
 |.lst a,.int i=>oi a i|.tup a,.int i=>oi a i|.mH b,.int i=>(oi b i).map .int|.str x,.int i=>if x.length<=dU then (oi x.cps.toList i).map λc =>.str ⟨#[c]⟩ else M
 |_,_=>M
def Ql:Iy X (rD X.K bP):=by
 refine Iy.imp RB ?_;rintro x y H Q ⟨G,u,t,d,b,h,g,a,q⟩;unfold bP at a;split at a<;>try (cases a;done)
 ·obtain⟨p,j,f,e,l⟩:=h.lst b;obtain⟨v,o,k⟩:=l.oi a;exact .inl ⟨p,j,_,v,f,g.int,.of e,o,q _ G H (.refl b) k⟩
 ·obtain⟨p,j,f,e,l⟩:=h.tup b;obtain⟨v,o,k⟩:=l.oi a;exact .inr (.inl ⟨p,j,_,v,f,g.int,.of e,o,q _ G H (.refl b) k⟩)
 ·obtain⟨p,f,e⟩:=h.mH b;obtain⟨c,r,a⟩:=ah.1 a;cases a;exact .inl ⟨p,_,_,.int c,f,g.int,e,by rw[CU,r];rfl,q _ G H (.refl b) (bE.mpr rfl)⟩
 ·split at a<;>try (cases a;done)
  obtain⟨c,r,a⟩:=ah.1 a;cases a;exact .inr (.inr ⟨_,_,c,h.str,g.int,bq (by assumption) hT,r,q _ G H (.refl b) (fT.mpr rfl)⟩)
def jM(e:PE X a (tQ X.K Z fa))(d:PE X b (tQ X.K Z fb))(c:autoParam (C0 b) Ŧ):PE X (.Subscript a b w) (tP X.K Z (e2 bP fa fb)):=(rW Ql e d c).imp λf H Q h=>Hq h
abbrev DP:=cO->Option (Option Int)
noncomputable def pN:DP:=λ_=>Y M
noncomputable def pS(f:DF):DP:=λa=>(f a).bind λd=>match d with|.int i=>Y (Y i)|_=>M
def Oa{f:DF}{a:cO}(h:pS f a=Y o):∃i,f a=Y (.int i)/\o=Y i:=by
 unfold pS at h;obtain⟨d,e,h⟩:=aa.1 h;rw[e];cases d<;>first|(cases h;exact⟨_,rfl,rfl⟩)|cases h
inductive Qy (K:aT) (Z:List Nat) (f:DP) (c:St) (H:Hp) (Q:Option Int->Hp->Prop):Prop
 |mk G a o:a_ G H->iQ K Z G H c a->f a=some o->(∀d b,gf G H d b->Q o b)->Qy K Z f c H Q
def EI:PO X M (Qy X.K Z pN):=N6.imp <|by rintro d H Q ⟨G,e,o,a,c,b,k⟩;cases b;exact k G H (.refl a)
def EH(h:PE X e (tQ X.K Z f)):PO X (Y e) (Qy X.K Z (pS f)):=(N5 h).imp <|by
 rintro r H Q ⟨G,b,o,d,a,g,k⟩;obtain⟨i,j,rfl⟩:=Oa g;exact⟨G,b,_,d,a,j,λv p l q c=>⟨i,c.int,k p l q⟩⟩
def AN{a:Type}(xs:List a)(m n:Option Int):List a:=(xs.drop (HT.xX xs.length 0 m)).take (HT.xX xs.length xs.length n-HT.xX xs.length 0 m)
def be.cut{K:aT}{b:List D}{a:List V}(r:be K G b a)(m n:Option Int):be K G (AN b m n) (ER a m n):=by
 unfold L2.AN ER;rw[<- r.length];exact(r.drop _).take _
def CD(f:DF)(m n:DP):DL:=λa=>(f a).bind λd=>(m a).bind λl=>(n a).bind λh=>match d with|.lst b=>Y (AN b l h)|.mH c=>Y ((AN c l h).map D.int)|_=>M
variable {m:Option Expr}
def MJ(K:PE X e (tQ X.K Z f))(J:PO X m (Qy X.K Z l))(I:PO X n (Qy X.K Z h)):PE X (.Subscript e (.Slice m n M B) w) (tF X.K Z (CD f l h)):=(DU NG K J I).imp <|by
 rintro O H Q ⟨G,i,P,L,g,a,k⟩;unfold CD at a;rcases ef:f i with _|d
 ·rw[ef]at a;cases a
 rcases el:l i with _|s
 ·simp[ef,el]at a
 rcases eh:h i with _|t
 ·simp[ef,el,eh]at a
 simp only[ef,el,eh,ab]at a;refine⟨G,i,d,L,g,ef,λv N T o F=>⟨N,i,s,o.gh,g.ext o,el,λA S j=>⟨A,i,t,j.gh,(g.ext o).ext j,eh,λz R b =>?_⟩⟩⟩;have E:=(o.trans j).trans b;have x:=F.ext (j.trans b);cases d<;>simp only at a<;>try (cases a;done)
 ·cases a;obtain⟨p,C,u,r,D⟩:=x.lst b.gh;exact⟨p,C,u,.of r,λq c=>k q _ z _ (E.trans (gf.lay (p:=q) b.gh c)) (E.hh.free c) (b.gh.free c) bj (D.cut _ _)⟩
 ·cases a;rename_i y;obtain⟨p,u,r⟩:=x.mH b.gh;refine⟨p,_,u,r,λq c=>k q _ z _ (E.trans (gf.lay (p:=q) b.gh c)) (E.hh.free c) (b.gh.free c) bj ?_⟩;have:ER (y.map V.int) s t=(AN y s t).map V.int:=by unfold ER AN;rw[aq,<- List.map_drop,<- uq]
  rw[this];exact be.ints _
def QJ:Yr X (λx m n H Q=>∃z,x=.str z/\z.length<=bc/\Q (.str (lG z m n)) H):=by
 intro a s d H x v f e m n g Q I h r o c ⟨z,y,p,q⟩;subst y;obtain⟨t,rfl⟩:=h;refine⟨"str",_,F.slot_str_getitem.lookup,typeIs_str _ _ _,?_⟩;have lF:∀(l u:Option (Int×Tok)),f=partValue l->e=partValue u->l.map (·.1)=m->u.map (·.1)=n->bB (br X.prog X.w) X.A (Kd (.str z t) (.ref g)) (EP X a d Q) X.xe s:=λl u G E D C=>by subst G E D C;exact wpAny_getItem_str_slice (l:=l) (u:=u) (st:=M) r rfl (post_val_or_str ⟨bq (Kf z _ _) p,λJ k=>⟨.str _,H,I.tok _,⟨_,rfl⟩,q⟩⟩)
 cases o with
 |none=>
  cases c with
  |none=>exact lF M M rfl rfl rfl rfl|int j u=>exact lF M (Y (j,u)) rfl rfl rfl rfl
 |int i b=>
  cases c with|none=>exact lF (Y (i,b)) M rfl rfl rfl rfl|int j u=>exact lF (Y (i,b)) (Y (j,u)) rfl rfl rfl rfl
def JO(f:DF)(m n:DP):DF:=λa=>(f a).bind λd=>(m a).bind λl=>(n a).bind λh=>match d with|.str x=>if x.length<=dU then Y (.str (lG x l h)) else M|_=>M
def Ya(y:PE X e (tQ X.K Z f))(x:PO X m (Qy X.K Z l))(u:PO X n (Qy X.K Z h)):PE X (.Subscript e (.Slice m n M B) w) (tP X.K Z (JO f l h)):=(DU QJ y x u).imp <|by
 rintro K H Q ⟨G,c,L,z,b,a,k⟩;unfold JO at a;rcases g:f c with _|d
 ·rw[g]at a;cases a
 rcases i:l c with _|r
 ·simp[g,i]at a
 rcases o:h c with _|t
 ·simp[g,i,o]at a
 simp only[g,i,o,ab]at a;refine⟨G,c,d,z,b,g,λv I N j q=>⟨I,c,r,j.gh,b.ext j,i,λF A p=>⟨F,c,t,p.gh,(b.ext j).ext p,o,λD C J =>?_⟩⟩⟩;have E:=(j.trans p).trans J;cases d<;>simp only at a<;>try (cases a;done)
 split at a
 ·cases a;rename_i s;exact⟨_,q.str,bq s hT,k _ D C E (fT.mpr rfl)⟩
 ·cases a
noncomputable def aQ(o:List D->Option D)(g:DL):DF:=λa=>(g a).bind o
def zP{g:DL}{a:cO}(h:aQ o g a=Y d):∃b,g a=Y b/\o b=Y d:=by
 unfold aQ at h;obtain⟨x,c,h⟩:=aa.1 h;rw[c];exact⟨x,rfl,h⟩
inductive rC (K:aT) (o:List D->Option D) (e:List V) (H:Hp) (Q:VK):Prop
 |mk G a d:a_ G H->Ir K G H a e->o a=some d->(∀v c b,gf G H c b->cI K c d v->Q v b)->rC K o e H Q
def Uo{K:aT}{g:DL}{b:St}(h:tP K Z (aQ o g) b H Q):WJ (rC K o) (Tb K Z g) b H Q:=by
 obtain⟨G,f,d,l,a,q,k⟩:=h;obtain⟨c,p,r⟩:=zP q;exact⟨G,f,c,l,a,p,λy u z e j=>⟨u,c,d,e.gh,j,r,λv t s x i=>k v t s (e.trans x) i⟩⟩
def Ir.one{K:aT}{a:List V}(r:Ir K G H [d] a):∃v,a=[v]/\kB K G H d v:=by
 cases r with|cons r t=>cases t;exact⟨_,rfl,r⟩
def gr:List D->Option D
 |[.lst a]=>Y (.int a.length)|[.tup a]=>Y (.int a.length)|[.mH a]=>Y (.int a.length)|[.str x]=>if x.length<=dU then Y (.int x.length) else M
 |_=>M
def Su:mu X (.builtin "len") (rC X.K gr):=by
 refine mu.imp (rH.or CQ) ?_;rintro i H Q ⟨G,j,d,c,r,a,q⟩;unfold gr at a;split at a
 ·cases a;obtain⟨v,rfl,b⟩:=r.one;obtain⟨p,f,rfl,e,g⟩:=b.lst c;refine .inl ⟨p,f,rfl,.inl (.of e),?_⟩;rw[<- g.length];exact q _ G H (.refl c) (bE.mpr rfl)
 ·cases a;obtain⟨v,rfl,b⟩:=r.one;obtain⟨p,f,rfl,e,g⟩:=b.tup c;refine .inl ⟨p,f,rfl,.inr (.of e),?_⟩;rw[<- g.length];exact q _ G H (.refl c) (bE.mpr rfl)
 ·cases a;obtain⟨v,rfl,b⟩:=r.one;obtain⟨p,rfl,e⟩:=b.mH c;refine .inl ⟨p,_,rfl,.inl e,?_⟩;rw[aq];exact q _ G H (.refl c) (bE.mpr rfl)
 ·split at a
  ·cases a;rename_i h;obtain⟨v,rfl,b⟩:=r.one;exact .inr ⟨_,by rw[b.str],bq h hT,q _ G H (.refl c) (bE.mpr rfl)⟩
  ·cases a
 ·cases a
def vY(l:mu X (.builtin c) (rC X.K o))(j:Gl X x)(i:X.mg x=M)(d:fZ x=Y (.builtin c))(q:PA X (e::A) (Tb X.K Z g))(f:autoParam (x ≠ "__name__") Ű)(b:autoParam ((x==("__debug__" : aM))=false) Ű)(k:autoParam (av (e::A) X.env=(Z_,eval e X.env)::av A X.env) Ų)(a:autoParam ((dt w (av A X.env)).any (·.1)=false) Ų):PE X (.Call (.Name x p) (e::A) [] w) (tP X.K Z (aQ o g)):=
 (vA l j i d q f b k a).imp λr H Q h=>Uo h
def nJ(c:Gl X "len")(b:X.mg "len" = M)(h:PE X e (tQ X.K Z f))(a:autoParam (av (e::[]) X.env=(Z_,eval e X.env)::av [] X.env) Ų):PE X (.Call (.Name "len" p) [e] [] w) (tP X.K Z (aQ gr (aC f aN))):=
 vY Su c b PySem.boot_len (vV h yA a) ſ ſ a rfl
noncomputable def Nh(T:String):D->Bool
 |.eN=>T == "NoneType"|.bl _=>T == "bool" || T == "int"
 |.int _=>T == "int"|.str _=>T == "str"|.lst _=>T == "list"|.mH _=>T == "list"|.tup _=>T == "tuple"|.ins _ _ _=>Z_|.jn _ _=>T == "dict"|.obj _ _=>Z_|.eS _ _=>Z_
noncomputable def IA:List String:=["bool", "int", "str", "list", "tuple"]
def w_(T:String)(f:DF):DF:=λa=>(f a).bind λd=>match d with|.mH _=>M|.ins _ _ _=>M|.jn _ _=>M|.obj _ _=>M|.eS _ _=>M|d=>Y (.bl (Nh T d))
def OC:∀T∈IA,∀(K:aT),kitOne K (.type "NoneType") (.type T)=Y (Nh T .eN)/\kitOne K (.type "bool") (.type T)=Y (Nh T (.bl Z'))/\kitOne K (.type "int") (.type T)=Y (Nh T (.int 0)) /\
  kitOne K (.type "str") (.type T)=Y (Nh T (.str Str.empty))/\kitOne K (.type "list") (.type T)=Y (Nh T (.lst []))/\kitOne K (.type "tuple") (.type T)=Y (Nh T (.tup [])):=by
 intro T a K;simp only[IA,aE,eH,or_false]at a;rcases a with rfl|rfl|rfl|rfl|rfl<;>exact⟨by kernel_rfl,by kernel_rfl,by kernel_rfl,by kernel_rfl,by kernel_rfl,by kernel_rfl⟩
def JZ(T:String)(S:T∈IA):mu X (.builtin "isinstance") (λy H Q=>∃G d v,a_ G H/\y=[v,.ty T]/\kB X.K G H d v/\(∀o,d ≠ .mH o)/\(∀c g f,d ≠ .ins c g f)/\(∀g f,d ≠ .jn g f)/\((∀s t,d ≠ .obj s t)/\∀s t,d ≠ .eS s t)/\Q (.bl (Nh T d)) H):=by
 intro j s D H y us Q I F ⟨G,d,v,C,e,r,R,p,x,k,q⟩;subst e;obtain⟨u,c,rfl,h,J⟩:=cv.two F;cases J;obtain⟨P,O,N,m,L,K⟩:=OC T S X.K;have lF:∀z,EP X j D Q (.bool (Nh T d)) { s with toks:=z }:=λz=>⟨.bl _,H,I.tok _,rfl,q⟩
 cases d with
 |eN=>have:=r.eN;subst this;exact oK I h (.eN) P lF
 |bl b=>have:=r.bl;subst this;exact oK I h (.bl b) O lF
 |int i=>have:=r.int;subst this;exact oK I h (.int i) N lF
 |str i=>have:=r.str;subst this;exact oK I h (.str i) m lF
 |lst U=>obtain⟨a,E,rfl,l,_⟩:=r.lst C;exact oK I h (.lst l) L lF
 |tup U=>obtain⟨a,E,rfl,l,_⟩:=r.tup C;exact oK I h (.tup l) K lF
 |mH o=>exact absurd rfl (R o)|ins c g f=>exact absurd rfl (p c g f)|jn g f=>exact absurd rfl (x g f)|obj s t=>exact absurd rfl (k.1 s t)|eS s t=>exact absurd rfl (k.2 s t)
def cA{b:Pos}(U:T∈IA)(S:Gl X "isinstance")(R:X.mg "isinstance" = M)(D:Gl X y)(C:X.mg y=M)(j:fZ y=Y (.type T))(h:PE X e (tQ X.K Z f))(x:autoParam (y ≠ "__name__") Ű)(E:autoParam ((y==("__debug__" : aM))=false) Ű)(J:autoParam (av (e::[.Name y b]) X.env=(Z_,eval e X.env)::av [.Name y b] X.env) Ų)(l:autoParam (av [.Name y b] X.env=(Z_,eval (.Name y b) X.env)::av [] X.env) Ų)(o:autoParam ((dt w (av [.Name y b] X.env)).any (·.1)=false) Ų):
  PE X (.Call (.Name "isinstance" p) [e,.Name y b] [] w) (tP X.K Z (w_ T f)):=
 (vA (JZ T U) S R PyProof.Rows.boot_isinstance (bM h (bM (N' (v :=.ty T) D C j rfl x E) cG l) J) ſ ſ J o).imp <|by
  rintro σ H Q ⟨G,N,d,gh,F,a,k⟩;unfold w_ at a;obtain⟨c,ef,a⟩:=aa.1 a;have P:∀I,c ≠ .mH I:=λI z=>by subst z;cases a
  have r:∀K i g,c ≠ .ins K i g:=λK i g z=>by subst z;cases a
  have u:∀i g,c ≠ .jn i g:=λi g z=>by subst z;cases a
  have q:(∀s t,c ≠ .obj s t)/\∀s t,c ≠ .eS s t:=⟨λs t z=>(by subst z;cases a),λs t z=>(by subst z;cases a)⟩;have ed:d=.bl (Nh T c):=by cases c<;>first|(cases a;rfl)|cases a
  subst ed;exact⟨G,N,c,gh,F,ef,λv L H1 m O=>⟨L,c,v,m.gh,rfl,O,P,r,u,q,k _ L H1 m (eY.mpr rfl)⟩⟩
noncomputable def By(f:DF):DL:=λb=>(f b).bind λd=>match d with|.lst a=>Y a|.tup a=>Y a|.mH c=>Y (c.map D.int)|_=>M
def OY(z:Gl X "list")(y:X.mg "list" = M)(h:PE X e (tQ X.K Z f))(x:fZ "list" = Y (.type "list"):=by exact PyProof.Rows.boot_list)(t:autoParam (av (e::[]) X.env=(Z_,eval e X.env)::av [] X.env) Ų):PE X (.Call (.Name "list" p) [e] [] w) (tF X.K Z (By f)):=
 (Je CP z y x (bM h cG t) ſ ſ t rfl).imp <|by
  rintro E H Q ⟨G,u,F,C,r,g,k⟩;unfold By at g;obtain⟨c,D,g⟩:=aa.1 g;refine⟨G,u,c,C,r,D,λv s I b o =>?_⟩;cases c<;>simp only[ab]at g<;>try (cases g;done)
  ·cases g;obtain⟨a,j,rfl,i,l⟩:=o.lst b.gh;exact⟨a,j,rfl,.inl (.of i),λq d=>k q _ s _ (b.trans (gf.lay (p:=q) b.gh d)) (b.hh.free d) (b.gh.free d) bj l⟩
  ·cases g;obtain⟨a,j,rfl,i,l⟩:=o.tup b.gh;exact⟨a,j,rfl,.inr (.of i),λq d=>k q _ s _ (b.trans (gf.lay (p:=q) b.gh d)) (b.hh.free d) (b.gh.free d) bj l⟩
  ·cases g;obtain⟨a,rfl,i⟩:=o.mH b.gh;exact⟨a,_,rfl,.inl i,λq d=>k q _ s _ (b.trans (gf.lay (p:=q) b.gh d)) (b.hh.free d) (b.gh.free d) bj (be.ints _)⟩
def cF(f:DF):DT:=λc=>(f c).bind λd=>match d with
 |.eN=>Y Z_|.bl b=>Y b|.int i=>Y (i != 0)|.str y=>if y.length<=dU then Y ((y.length:Int) != 0) else M
 |.lst a=>Y (!a.isEmpty)|.tup a=>Y (!a.isEmpty)|.mH a=>Y (!a.isEmpty)|.ins _ _ _=>M|.jn _ _=>M|.obj _ _=>M|.eS _ _=>M
def be.empty{K:aT}{b:List D}{a:List V}(r:be K G b a):b.isEmpty=a.isEmpty:=by
 have:=r.length;cases b<;>cases a<;>simp at this ⊢
def cp(h:PE X e (tQ X.K Z f))(C:autoParam (∀g,isTrue e X.env g=(do let v <- g;r_ e.pos;oO [v] (truthy v))) ů):PT X e (sC X.K Z (cF f)):=(Lf h C).imp <|by
 rintro I H Q ⟨G,s,b,D,q,d,k⟩;unfold cF at d;rw[aa]at d;obtain⟨c,r,d⟩:=d;refine⟨G,s,c,D,q,r,λv F E l i=>⟨b,?_,k F E l⟩⟩;cases c with
 |eN=>cases d;rw[i.eN];rfl|bl b=>cases d;rw[i.bl];rfl|int b=>cases d;rw[i.int];rfl|str y=>
  rw[i.str];have d:(if y.length<=dU then Y ((y.length:Int) != 0) else M)=Y b:=d;split at d
  ·cases d;rename_i z;exact⟨bq z hT,rfl⟩
  ·cases d
 |lst t=>cases d;obtain⟨a,o,rfl,j,p⟩:=i.lst l.gh;exact .inl ⟨o,.of j,by rw[p.empty]⟩
 |tup t=>cases d;obtain⟨a,o,rfl,j,p⟩:=i.tup l.gh;exact .inr (.inl ⟨o,.of j,by rw[p.empty]⟩)
 |mH t=>cases d;obtain⟨a,rfl,j⟩:=i.mH l.gh;exact .inl ⟨_,j,Ž⟩
 |_=>cases d
end
structure C4(K:aT)(G0:Hp)(J:It)(ds:List D):Prop where
 go:∀i H,a_ G0 H->i<ds.length->J.go i H
 stop:∀i H,a_ G0 H->ds.length<=i->J.stop i H
 Kw:∀(i:Nat) (H:Hp) (x:V) (H' G:Hp) (d:D),a_ G0 G->a_ G H->J.Kw i H x H'->ds[i]?=some d->∃G',gf G H G' H'/\cI K G' d x
inductive AZ (K:aT) (Z:List Nat) (f:DL) (l:St) (H:Hp) (R:It->Hp->Prop):Prop
 |mk G ρ a:a_ G H->iQ K Z G H l ρ->f ρ=some a->(∀J c b,gf G H c b->C4 K c J a->R J b)->AZ K Z f l H R
section
variable {X:Cx}{f:DF}
def PI.imp{t:TI}(h:PI X L O t)(k:∀l H R,b l H R->t l H R):PI X L O b:=λa s l H R I q=>h a s l H R I (k _ _ _ q)
noncomputable def iL(f:DF):DL:=λρ=>(f ρ).bind λd=>match d with|.lst a=>Y a|_=>M
def vR{f:DF}(h:iL f ρ=Y a):f ρ=Y (.lst a):=by
 unfold iL at h;obtain⟨d,e,h⟩:=aa.1 h;rw[e];cases d<;>first|(cases h;rfl)|cases h
def Bo{K:aT}(g:G a=Y (.lst b))(r:be K G n b):C4 K G (Tx K a) n:=by
 refine⟨λi H s f =>?_,λi H s f=>⟨b,.of (s _ _ g),by rw[<- r.length];exact f⟩,λi H x B A d j h ⟨e,y⟩ z =>?_⟩
 ·have c:i<b.length:=by rw[<- r.length];exact f
  exact⟨b,b[i],.of (s _ _ g),by simp[c]⟩
 ·subst e;have p:=y b (.of (h _ _ (j _ _ g)));obtain⟨v,k,o⟩:=r.get z;rw[p]at k;cases k;exact⟨A,.refl h,cI.mono j d o⟩
def jU(h:PE X e (tP X.K Z f)):PI X L e (AZ X.K Z (iL f)):=(yq h).imp <|by
 rintro l H R ⟨G,ρ,p,n,b,o,k⟩;refine⟨G,ρ,_,n,b,vR o,λv A w d j =>?_⟩;obtain⟨a,g,rfl,c,i⟩:=bZ.mp j;exact⟨a,rfl,⟨g,.of (d.gh _ _ c)⟩,k _ A w d (Bo c i)⟩
noncomputable def mm(a:Int)(n:Nat):List D:=(bY n).map λ(k:Nat) =>.int (a+(k:Int))
def uT{K:aT}(c:Int)(n:Nat):C4 K G (VM c n) (mm c n):=by
 have f:(mm c n).length=n:=by simp[mm]
 refine⟨λi H s a=>by rw[f]at a;exact a,λi H s a=>by rw[f]at a;exact a,λi H x p A d k g ⟨e,y⟩ b =>?_⟩;subst e;refine⟨A,.refl g,?_⟩;unfold mm at b;rw[aF]at b;obtain⟨j,q,b⟩:=ah.1 b;cases b;have:j=i:=by obtain⟨o,h⟩:=af.mp q;simpa using h.symm
 subst this;exact bE.mpr y
def JF(f:DF):DL:=λρ=>(f ρ).bind λd=>match d with|.int j=>if -(2 ^ 62)<=j/\j<2 ^ 62 then Y (mm 0 j.toNat) else M|_=>M
def xb(r:Gl X "range")(o:X.mg "range" = M)(h:PE X e (tQ X.K Z f))(n:autoParam (av [e] X.env=(Z_,eval e X.env)::av [] X.env) Ų)(b:autoParam (av [e] X.env=[(Z_,eval e X.env)]) Ų):PI X L (.Call (.Name "range" p) [e] [] u) (AZ X.K Z (JF f)):=
 (Be r o (bM h cG n) b).imp <|by
  rintro l H R ⟨G,ρ,z,s,c,a,k⟩;unfold JF at a;obtain⟨d,x,a⟩:=aa.1 a;cases d<;>simp only[ab]at a<;>try (cases a;done)
  split at a
  ·cases a;rename_i j g;exact⟨G,ρ,_,s,c,x,λv A w y i=>⟨j,by rw[i.int],g.1,g.2,k _ A w y (uT 0 j.toNat)⟩⟩
  ·cases a
def P_(f g:DF):DL:=λρ=>(f ρ).bind λd=>(g ρ).bind λc=>match d,c with|.int i,.int j=>if -(2 ^ 62)<=i/\i<2 ^ 62 /\ -(2 ^ 62)<=j/\j<2 ^ 62 then Y (mm i (j-i).toNat) else M|_,_=>M
def Tu{g:DF}(N:Gl X "range")(m:X.mg "range" = M)(h:PE X e (tQ X.K Z f))(P:PE X n (tQ X.K Z g))(K:autoParam (av [e,n] X.env=(Z_,eval e X.env)::av [n] X.env) Ų)(z:autoParam (av [n] X.env=(Z_,eval n X.env)::av [] X.env) Ų)(y:autoParam (av [e,n] X.env=[(Z_,eval e X.env),(Z_,eval n X.env)]) Ų)(x:autoParam (av [n] X.env=[(Z_,eval n X.env)]) Ų):PI X L (.Call (.Name "range" p) [e,n] [] u) (AZ X.K Z (P_ f g)):=
 (Jd N m (bM h (bM P cG z) K) y x).imp <|by
  rintro l H R ⟨G,ρ,ds,Q,o,b,k⟩;unfold P_ at b;rcases s:f ρ with _|d
  ·rw[s]at b;cases b
  rcases B:g ρ with _|c
  ·simp[s,B]at b
  simp only[s,B,ab]at b;split at b<;>try (cases b;done)
  split at b
  ·cases b;rename_i i j r;exact⟨G,ρ,_,Q,o,s,λv A w C F=>⟨A,ρ,_,C.gh,o.ext C,B,λa G2 S E2 D=>⟨i,j,by rw[F.int,D.int],⟨r.1,r.2.1,r.2.2.1,r.2.2.2⟩,k _ G2 S (C.trans E2) (uT i _)⟩⟩⟩
  ·cases b
end
abbrev Fc:=D->cO->Option cO
inductive He (K:aT) (B:Bs) (Z:List Nat) (τ:Fc) (v:V) (l:St) (H:Hp) (Q:St->Hp->Prop):Prop
 |mk G ρ d b:SR K B Z G H l ρ->cI K G d v->τ d ρ=some b->(∀a e c,SR K B Z e c a b->Q a c)->He K B Z τ v l H Q
inductive Qu (K:aT) (Z:List Nat) (τ:Fc) (v:V) (l:St) (H:Hp) (Q:St->Hp->Prop):Prop
 |mk G ρ d b:a_ G H->iQ K Z G H l ρ->cI K G d v->τ d ρ=some b->(∀a e c,gf G H e c->iQ K Z e c a b->Q a c)->Qu K Z τ v l H Q
section
variable {X:Cx}
def PG.imp{L:Expr}{t:TG}(h:PG X L t)(k:∀v l H Q,b v l H Q->t v l H Q):PG X L b:=λa s l H v u Q I r q=>h a s l H v u Q I r (k _ _ _ _ q)
noncomputable def gN(i:Nat):Fc:=λd ρ=>Y (ρ.set i (Y d))
def yC{i:Nat}(h:PG X L (qG i))(b:autoParam (i∉Z) Ű):PG X L (He X.K B Z (gN i)):=h.imp <|by
 rintro v l H Q ⟨G,ρ,d,a,S,r,c,k⟩;cases c;exact k _ G H (S.xW b r)
def iQ.set{K:aT}{i:Nat}{d:D}{v:V}(h:iQ K Z G H l ρ)(s:i∉Z)(r:cI K G d v):iQ K Z G H (l.set i (Y v)) (ρ.set i (Y d)):=
 ⟨by simp[h.len],λj c e=>by
  rcases g_ e with⟨rfl,rfl,C⟩|⟨b,e⟩
  ·exact⟨v,rM (by rw[h.len];exact C),by rw[if_neg s];exact r⟩
  ·obtain⟨u,o,n⟩:=h.get j c e;exact⟨u,by rw[aj b];exact o,n⟩,λj k p g N e=>by
  have a:∀j,j∈Z->i≠j:=λj F e=>s (e ▸ F)
  rw[aj (a j g)]at e;obtain⟨f,m,z,y,B,w,x,o,n,Q,P⟩:=h.eS j k p g N e;exact⟨f,m,z,y,B,w,x,by rw[aj (a k f)];exact o,by rw[aj (a k f)];exact n,by rw[aj (a j g)];exact Q,P⟩⟩
noncomputable def Cz(i j:Nat):Fc:=λd ρ=>match d with|.tup [a,b]=>Y ((ρ.set i (Y a)).set j (Y b))|_=>M
def Mn(h:Cz i j d ρ=Y c):∃a b,d=.tup [a,b]/\c=(ρ.set i (Y a)).set j (Y b):=by
 unfold Cz at h;split at h
 ·cases h;exact⟨_,_,rfl,rfl⟩
 ·cases h
def NP{K:aT}{v:V}(r:cI K G (.tup [a,b]) v):∃p x y,v=.ref p/\G p=Y (.tup [x,y])/\cI K G a x/\cI K G b y:=by
 obtain⟨p,h,e,g,f⟩:=cY.mp r;obtain⟨x,j,rfl,d,t⟩:=bt.mp f;obtain⟨y,i,rfl,c,t⟩:=bt.mp t;rw[cV.mp t]at g;exact⟨p,x,y,e,g,d,c⟩
def X9{i:Nat}(h:PG X L (RQ X.K 2 (Bv (qG i) (Bv (qG j) RS))))(o:autoParam (i∉Z) Ű)(n:autoParam (j∉Z) Ű):PG X L (He X.K B Z (Cz i j)):=h.imp <|by
 rintro v l H Q ⟨G,ρ,d,c,S,r,s,k⟩;obtain⟨a,b,rfl,rfl⟩:=Mn s;obtain⟨p,x,y,rfl,g,f,e⟩:=NP r;exact⟨p,_,rfl,.of (S.gh _ _ g),rfl,x,_,rfl,y,_,rfl,rfl,k _ G H ((S.xW o f).xW n e)⟩
end
noncomputable def gD(τ:Fc)(g:DG):List D->cO->Option DO
 |[],ρ=>Y (.nx ρ)| d::b,ρ=>(τ d ρ).bind λρ1=>(g ρ1).bind λo=>match o with
  |.nx a=>gD τ g b a|.ct a=>gD τ g b a|.bk a=>Y (.nx a)|.rt d=>Y (.rt d)|.ro d=>Y (.ro d)|.rm d ρ=>Y (.rm d ρ)|.rf i ρ=>Y (.rf i ρ)|.ex c n=>Y (.ex c n)
def iu(f:DL)(τ:Fc)(g:DG):DG:=λρ=>(f ρ).bind λa=>gD τ g a ρ
section
variable {K:aT}
def qN.base{F:Nat->List az}(W:qN K B Z G H l ρ F)(h:a.2=B.2):qN K a Z G H l ρ F:=⟨W.it,λi d b e=>by rw[h];exact W.ok i d b e,W.ap⟩
def SR.rebase(a:SR K B Z A w q ρ1)(S:SR K B Z G H l ρ)(s:a_ A G):SR K ⟨A,B.2,B.3,B.4⟩ Z G H l ρ:=
 ⟨S.gh,s,S.h0,λb o e=>by
  rcases S.fr b o e with z|z
  ·exact .inl (a.g0 b o z)
  ·exact .inr z,S.env,(by obtain⟨F,W⟩:=S.ow;exact⟨F,W.base rfl⟩),S.len,S.pin,S.eS⟩
def SR.BW(c:SR K B Z A w q ρ1)(S:SR K ⟨A,B.2,B.3,B.4⟩ a G H l ρ):SR K B a G H l ρ:=
 ⟨S.gh,c.g0.trans S.g0,S.h0,λb o e=>by
  rcases S.fr b o e with z|z
  ·exact c.fr b o z
  ·exact .inr z,S.env,(by obtain⟨F,W⟩:=S.ow;exact⟨F,W.base rfl⟩),S.len,S.pin,S.eS⟩
def SR.yK(a:SR K B Z A w q ρ1)(S:SR K ⟨A,B.2,B.3,B.4⟩ Z G H l ρ):SR K B Z G H l ρ:=a.BW S
def gf.yK(a:SR K B Z A w q ρ1)(E:gf A B.2 G H):gf B.1 B.2 G H:=
 ⟨E.hh,a.g0.trans E.gg,E.gh,λb o e=>by
  rcases E.fr b o e with z|z
  ·exact a.fr b o z
  ·exact .inr z⟩
end
section
variable {X:Cx}{f:DL}
inductive VZ (K:aT) (B:Bs) (Z:List Nat) (f:cO->Option (List D×cO)) (l:St) (H:Hp) (R:It->Hp->Prop):Prop
 |mk G ρ b a:SR K B Z G H l ρ->f ρ=some (b,a)->(∀J d c,SR K B Z d c l a->C4 K d J b->R J c)->VZ K B Z f l H R
def Bb(f:cO->Option (List D×cO))(τ:Fc)(g:DG):DG:=λρ=>(f ρ).bind λp=>gD τ g p.1 p.2
def EF{f:cO->Option (List D×cO)}(hp:yg (br X.prog X.w) X.A X.env X.xe)(hc:X.calm=Z')(hi:PI X L O (VZ X.K B Z f))(hg:∀C:Bs,C.3=B.3->PG X L (He X.K C Z τ))(hb:∀C:Bs,C.3=B.3->C.2=B.2/\C.4=B.4->qQ X I (jP X.K C Z Z Z g))(hs:autoParam (∀x,cK O X.env x=eQ x) ů):PS X (.For L O I [] u) (jP X.K B t Z Z (Bb f τ g)):=by
 intro Q s l H D' j ⟨G,ρ,o,S,eq,k⟩;unfold Bb at eq;obtain⟨⟨R,ρ0⟩,ef,eq⟩:=aa.1 eq;have eq:gD τ g R ρ0=Y o:=eq;refine wpAny_For (fS (hi Q s l H (λJ w=>∃A,SR X.K B Z A w l ρ0/\C4 X.K A J R) j ⟨G,ρ,R,ρ0,S,ef,λJ A w S1 ok=>⟨A,S1,ok⟩⟩) λv s1 h1=>fS h1 λY3 s2 h2 =>?_) hs;obtain⟨it,fp,tn,J,H2,e,I2,T,QF,f2,A,S1,ok⟩:=h2;subst e;have FJ:∀ {H':Hp},(∀b∈fp,H' b=M)->∀b∈fp,Aa X Q H' b:=λhn b hb=>⟨hn b hb,(f2 b hb).2⟩
 have abS:∀(ρ':cO) (σ':St) (H' G':Hp) (yf:List D),SR X.K ⟨A,B.2,B.3,B.4⟩ Z G' H' σ' ρ'->True:=λ_ _ _ _ _ _=>trivial
 refine codeAny_forLoop_any (λn s'=>∃i σ' H' G' ρ',Inv X Q σ' H' s'/\tn i s'.heap/\(∀b∈fp,H' b=M)/\n=R.length-i/\i<=R.length/\SR X.K ⟨A,B.2,B.3,B.4⟩ Z G' H' σ' ρ'/\gD τ g (R.drop i) ρ'=Y o) ?_ R.length
  ⟨0,l,H2,A,ρ0,I2,QF,λb hb=>(f2 b hb).1,rfl,cD _,S1.rebase S1 (a_.refl _),eq⟩
 rintro n s3 ⟨i,σ3,H3,G3,ρ3,I3,V1,Vg,rfl,XN,S3,F⟩;have T8:a_ A H3:=S3.g0.trans S3.gh;by_cases Me:i<R.length
 ·have ed:R.drop i=R[i]::R.drop (i+1):=fW Me;rw[ed]at F;unfold gD at F;obtain⟨P,et,F⟩:=aa.1 F;obtain⟨o4,eg,F⟩:=aa.1 F;refine eM hp (fS (T.item X rfl rfl rfl hc i Q s3 σ3 H3 X.xe I3 (FJ Vg) V1 (ok.go i H3 T8 Me)) ?_);rintro r s4 ⟨h,hr,h4⟩;subst hr;refine eM hp (fS h4 ?_);rintro _ s5 ⟨x,H5,I5,r5,y5,Tf,Tp⟩;have Yv:=I5.pinned (FJ Tp) (T.obj _ _ Tf);obtain⟨G5,E5,WY⟩:=ok.Kw i H3 x H5 G3 R[i] S3.g0 S3.gh y5 (aO Me);refine eM hp (fS (hg ⟨A,B.2,B.3,B.4⟩ rfl _ s5 σ3 H5 x h (λN H6=>∃G6,SR X.K ⟨A,B.2,B.3,B.4⟩ Z G6 H6 N P) Yv r5 ⟨G5,ρ3,R[i],P,S3.ext E5,WY,et,λN G6 H6 S6=>⟨G6,S6⟩⟩) ?_);rintro _ s6 ⟨N,H6,I6,G6,S6⟩;have again:∀ {p:St}{K q:Hp}{ρ7:cO}{s7:aw},Inv X (Q++uM fp s5.heap) p K s7->SR X.K ⟨A,B.2,B.3,B.4⟩ Z q K p ρ7->gD τ g (R.drop (i+1)) ρ7=Y o ->
    ∃m,m<R.length-i/\∃i σ' H' G' ρ',Inv X Q σ' H' s7/\tn i s7.heap/\(∀b∈fp,H' b=M)/\m=R.length-i/\i<=R.length/\SR X.K ⟨A,B.2,B.3,B.4⟩ Z G' H' σ' ρ'/\gD τ g (R.drop i) ρ'=Y o:=fun {p K q ρ7 s7} I7 S7 e7=>by
   refine⟨R.length-(i+1),ž,i+1,p,K,q,ρ7,I7.oQ,T.keep _ _ _ Tf λb hb o e=>(I7.pin (b,o) (aG _ (aG _ (k7 hb e)))).1,λb hb =>?_,rfl,Me,S7,e7⟩;obtain⟨o,e,d⟩:=T.obj _ _ Tf b hb;exact(I7.pin (b,o) (aG _ (aG _ (k7 hb e)))).2.1
  refine eM hp (fS (hb ⟨A,B.2,B.3,B.4⟩ rfl ⟨rfl,rfl⟩ _ s6 N H6 { nx:=λp K=>∃q r,SR X.K ⟨A,B.2,B.3,B.4⟩ Z q K p r/\gD τ g (R.drop (i+1)) r=Y o,ct:=λp K=>∃q r,SR X.K ⟨A,B.2,B.3,B.4⟩ Z q K p r/\gD τ g (R.drop (i+1)) r=Y o,bk:=D'.nx,rt:=D'.rt } I6 ⟨G6,P,o4,S6,eg,?_⟩) λfl s7 y =>?_)
  ·cases o4 with
   |nx r=>exact λp q K S7=>⟨q,r,S7,F⟩
   |ct r=>exact λp q K S7=>⟨q,r,S7,F⟩
   |bk r=>cases F;exact λp q K S7=>k _ q K (S1.yK S7)
   |rt d=>cases F;exact λv q K E7 r7=>k v q K (gf.yK S1 E7) r7
   |ro d=>cases F;exact λa vs q K E7 h1 h2 h3 r7=>k a vs q K (gf.yK S1 E7) h1 h2 h3 r7
   |rm d r=>cases F;exact λv p q K ⟨o7,S7⟩ r7=>k v p q K ⟨o7,S1.BW S7⟩ r7
   |rf j r=>cases F;exact λv p q K ⟨o7,ho7,S7⟩ r7=>k v p q K ⟨o7,ho7,S1.BW S7⟩ r7
   |ex c n=>cases F;exact k
  cases fl with
  |ret v=>obtain⟨x7,p,K,I7,r7,y⟩:=y;exact⟨x7,p,K,I7.oQ,r7,y⟩
  |brk=>obtain⟨p,K,I7,y⟩:=y;exact⟨p,K,I7.oQ,y⟩
  |_=>obtain⟨p,K,I7,q,r,S7,F⟩:=y;exact again I7 S7 F
 ·have e:i=R.length:=by omega
  subst e;rw[pJ]at F;unfold gD at F;cases F;refine eM hp (fS (T.done X rfl rfl rfl hc _ Q s3 σ3 H3 X.xe I3 (FJ Vg) V1 (ok.stop _ H3 T8 (aH _))) ?_);rintro r s4 ⟨hr,I4⟩;subst hr;exact tN ⟨σ3,H3,I4,k σ3 G3 H3 (S1.yK S3)⟩
def OP(i:yg (br X.prog X.w) X.A X.env X.xe)(o:X.calm=Z')(j:PI X L O (AZ X.K Z f))(n:∀C:Bs,C.3=B.3->PG X L (He X.K C Z τ))(p:∀C:Bs,C.3=B.3->C.2=B.2/\C.4=B.4->qQ X I (jP X.K C Z Z Z g))(h:autoParam (∀x,cK O X.env x=eQ x) ů):PS X (.For L O I [] u) (jP X.K B t Z Z (iu f τ g)):=by
 have e:iu f τ g=Bb (λρ=>(f ρ).map λa=>(a,ρ)) τ g:=funext λρ=>by show (f ρ).bind _=(sv (λa=>(a,ρ)) (f ρ)).bind _;cases f ρ<;>rfl
 rw[e];refine EF i o (j.imp ?_) n p h;rintro l H R ⟨G,ρ,a,c,S,b,k⟩;have b:sv (λa=>(a,ρ)) (f ρ)=Y (a,c):=b;obtain⟨s,r,b⟩:=ah.1 b;cases b;exact⟨G,ρ,a,S.gh,S.lh,r,λJ A w E d=>k J A w (S.ext E) d⟩
def OQ{f:cO->Option (List D×cO)}(b:yg (br X.prog X.w) X.A X.env X.xe)(e:X.calm=Z')(c:PI X L O (VZ X.K B Z f))(d:∀C:Bs,C.3=B.3->PG X L (He X.K C Z τ))(i:∀C:Bs,C.3=B.3->qQ X I (jP X.K C Z Z Z g))(a:autoParam (∀x,cK O X.env x=eQ x) ů):PS X (.For L O I [] u) (jP X.K B t Z Z (Bb f τ g)):=EF b e c d (λC h _=>i C h) a
def u0(b:yg (br X.prog X.w) X.A X.env X.xe)(e:X.calm=Z')(c:PI X L O (AZ X.K Z f))(d:∀C:Bs,C.3=B.3->PG X L (He X.K C Z τ))(i:∀C:Bs,C.3=B.3->qQ X I (jP X.K C Z Z Z g))(a:autoParam (∀x,cK O X.env x=eQ x) ů):PS X (.For L O I [] u) (jP X.K B t Z Z (iu f τ g)):=OP b e c d (λC h _=>i C h) a
noncomputable def qS(f:DT)(g:DG):Nat->cO->Option DO
 |0,_=>M| n+1,ρ=>(f ρ).bind λb=>if b=Z' then (g ρ).bind λo=>match o with
   |.nx a=>qS f g n a|.ct a=>qS f g n a|.bk a=>Y (.nx a)|.rt d=>Y (.rt d)|.ro d=>Y (.ro d)|.rm d ρ=>Y (.rm d ρ)|.rf i ρ=>Y (.rf i ρ)|.ex c n=>Y (.ex c n) else Y (.nx ρ)
def FZ(n:Nat)(f:DT)(g:DG):DG:=λρ=>qS f g n ρ
def Mx{c:Expr}{f:DT}(n:Nat)(C:yg (br X.prog X.w) X.A X.env X.xe)(D:PT X c (sC X.K Z f))(F:qQ X I (jP X.K B Z Z Z g)):PS X (.While c I [] u) (jP X.K B t Z Z (FZ n f g)):=(Lg C D F).imp <|by
 rintro R l H ⟨G,ρ,o,S,K,k⟩;refine⟨λm l H=>∃G ρ,SR X.K B Z G H l ρ/\qS f g m ρ=Y o,⟨n,G,ρ,S,K⟩,?_⟩;rintro m q w ⟨A,ρ1,v,e⟩;cases m with
 |zero=>cases e|succ m=>
  unfold qS at e;obtain⟨b,N,e⟩:=aa.1 e;refine⟨A,ρ1,b,v.gh,v.lh,N,λz P Q =>?_⟩;have y:=v.ext Q;cases b with
  |false=>cases e;exact uk (k q z P y)|true=>
   refine uU ⟨λh p=>∃j r,SR X.K B Z j p h r/\qS f g m r=Y o,λh p a=>⟨m,ik m,a⟩,?_⟩;simp only[ab,if_true]at e;obtain⟨x,d,e⟩:=aa.1 e;refine⟨z,ρ1,x,y,d,?_⟩;cases x with
   |nx i=>exact λh j p s=>⟨j,i,s,e⟩
   |ct i=>exact λh j p s=>⟨j,i,s,e⟩
   |bk i=>cases e;exact λh j p s=>k h j p s
   |_=>cases e;exact k
end
noncomputable def nH(src:List (Option Nat))(ρ:cO):cO:=src.map λo=>match o with|some j=>(ρ[j]?).getD M|none=>M
noncomputable def vJ(ρ:cO)(τ:Fc)(U:DT)(fe:DF):List D->Option (List D)
 |[]=>Y []|d::a=>(τ d ρ).bind λρ1=>(U ρ1).bind λb=>if b=Z' then (fe ρ1).bind λx=>(vJ ρ τ U fe a).map (x :: ·) else vJ ρ τ U fe a
def lZ(f:DL)(src:List (Option Nat))(τ:Fc)(U:DT)(fe:DF):DL:=λρ=>(f ρ).bind λa=>if a.length<=dU then vJ (nH src ρ) τ U fe a else M
noncomputable def eU:DT:=λ_=>Y Z'
def jJ(Z Ź:List Nat)(src:List (Option Nat)):Bool:=(Ź.all λj=> !Ź.contains (Cf j))&&(bY src.length).all λi=>match src[i]? with|some (Y j)=>decide (i∈Ź)==decide (j∈Z)|_=>Z'
def kZ(h:jJ Z Ź src=Z')(e:src[i]?=Y (Y j)):(i∈Ź↔j∈Z):=by
 unfold jJ at h;rw[aX]at h;have h:=h.2;rw[cx]at h;have a:i<src.length:=(af.mp e).1;have:=h i (by simpa using a);rw[e]at this;simpa using this
def Ji(h:jJ Z Ź src=Z')(b:j∈Ź)(a:Cf j∈Ź):False:=by
 unfold jJ at h;rw[aX,cx]at h;have:=h.1 j b;simp[a]at this
def iQ.src{K:aT}{Z Ź:List Nat}{src:List (Option Nat)}(h:iQ K Z G H l ρ)(f:jJ Z Ź src=Z'):iQ K Ź G H (oW src l) (nH src ρ):=by
 refine⟨by simp[oW,nH],λi d e =>?_,λj r p k g _=>(Ji f k g).elim⟩;unfold nH at e;rw[aF]at e;obtain⟨o,c,e⟩:=ah.1 e;cases o with
 |none=>cases e|some j=>
  have e:(ρ[j]?).getD M=Y d:=by simpa using e
  have s:ρ[j]?=Y (Y d):=by
   rcases q:ρ[j]? with _|z
   ·rw[q]at e;cases e
   rw[q]at e;rw[show z=Y d from e]
  obtain⟨v,n,a⟩:=h.get j d s;refine⟨v,?_,?_⟩
  ·unfold oW;rw[aF,c];simp[n]
  ·have:=kZ f c;by_cases b:i∈Ź
   ·rw[if_pos b];rw[if_pos (this.mp b)]at a;exact a
   ·rw[if_neg b];rw[if_neg (λz=>b (this.mpr z))]at a;exact a
section
variable {X:Cx}{m:Expr}{f:DL}
def E9.imp{t:TT}(h:E9 X E t)(k:∀l H Q,b l H Q->t l H Q):E9 X E b:=λa s l H Q I q=>h a s l H Q I (k _ _ _ q)
def fB:E9 X [] (sC X.K Z eU):=N0.imp <|by rintro l H Q ⟨G,ρ,b,a,d,c,k⟩;cases c;exact k G H (.refl a)
def HW(h:PT X c (sC X.K Z U)):E9 X [c] (sC X.K Z U):=NZ h
def HA{K:aT}(ho:jJ Z Ź src=Z')(hg:∀v l H Q,Qu K Ź τ v l H Q->g v l H Q)(q:tF K Z (lZ f src τ U fe) l H Q):QC (AZ K Z f) src g (sC K Ź U) (tP K Ź fe) l H Q:=by
 obtain⟨G,ρ,rs,gh,P,s,k⟩:=q;unfold lZ at s;obtain⟨h,ef,s⟩:=aa.1 s;have s:(if h.length<=dU then vJ (nH src ρ) τ U fe h else M)=Y rs:=s;split at s
 ·rename_i hz;refine⟨G,ρ,h,gh,P,ef,λJ A w E1 ok =>?_⟩;refine⟨λi m ys D=>m=h.length-i/\i<=h.length/\ys.length<=i/\∃R r c,gf A w R D/\be K R r ys/\vJ (nH src ρ) τ U fe (h.drop i)=Y c/\r++c=rs,
   ⟨h.length,rfl,cD _,aH _,A,[],rs,.refl E1.gh,.nil,s,rfl⟩,?_⟩
  rintro i m ys D ⟨rfl,XN,Y',R,r,c,o,rx,d,rfl⟩;have t:a_ A D:=o.gg.trans o.gh;by_cases n:i<h.length
  ·refine .inr ⟨ok.go i D t n,?_,λC H'=>C.length<=i+1/\∃G3 F a,gf A w G3 H'/\be K G3 F C/\vJ (nH src ρ) τ U fe (h.drop (i+1))=Y a/\F++a=r++c,
    λC H' z=>⟨h.length-(i+1),ž,rfl,n,z⟩,λx H3 y =>?_⟩
   ·have:=hT;omega
   ·obtain⟨G3,X,N⟩:=ok.Kw i D x H3 R h[i] o.gg o.gh y (aO n);rw[fW n]at d;unfold vJ at d;obtain⟨j,et,d⟩:=aa.1 d;obtain⟨b,eb,d⟩:=aa.1 d;have E13:=E1.trans (o.trans X);refine hg _ _ _ _ ⟨G3,nH src ρ,h[i],j,X.gh,(P.ext E13).src ho,N,et,λσ4 G4 H4 E4 B=>⟨G4,j,b,E4.gh,B,eb,λG5 H5 S =>?_⟩⟩;have Z2:=(o.trans X).trans (E4.trans S);cases b with
    |false=>exact uk ⟨ž,G5,r,c,Z2,be.mono ((X.trans (E4.trans S)).gg) r rx,d,rfl⟩
    |true=>
     refine uU ?_;simp only[if_true]at d;obtain⟨x4,ee,d⟩:=aa.1 d;rcases el:vJ (nH src ρ) τ U fe (h.drop (i+1)) with _|a
     ·simp[el]at d
     simp only[el,ab,bI]at d;cases d;refine⟨G5,j,x4,S.gh,B.ext S,ee,λv G6 H6 E6 r6=>⟨by simp;omega,G6,r++[x4],a,Z2.trans E6,(be.mono ((X.trans ((E4.trans S).trans E6)).gg) r rx).append (.cons r6 .nil),rfl,Ž⟩⟩
  ·have e:i=h.length:=by omega
   subst e;rw[pJ]at d;unfold vJ at d;cases d;refine .inl ⟨ok.stop _ D t (aH _),λp hp =>?_⟩;have Z3:=E1.trans o;refine k p ys R _ (Z3.trans (gf.lay (p:=p) o.gh hp)) (Z3.hh.free hp) (o.gh.free hp) bj ?_;rw[cm];exact rx
 ·cases s
def qJ(S:fQ X N src T)(j:X.calm=Z')(e:PI X L O (AZ X.K Z f))(n:M4 J g)(a:∀i∈J,src[i]?=Y M)(h:∀v l H Q,Qu X.K Ź τ v l H Q->g v l H Q)(k:∀C s H b,PG (X.tw N T C s H b) L g/\E9 (X.tw N T C s H b) E (sC X.K Ź U)/\PE (X.tw N T C s H b) m (tP X.K Ź fe))(d:autoParam (jJ Z Ź src=true) Ű)(c:autoParam (∀x,cK O X.env x=eQ x) ů):PE X (.ListComp m [⟨L,O,E,0⟩] T u) (tF X.K Z (lZ f src τ U fe)):=
 (Ll S j e n a k c).imp λl H Q q=>HA d h q
def xa{i:Nat}{c D:Pos}(S:fQ X N src T)(hc:X.calm=Z')(hN:X.N.Nodup)(F:X.N[i]?=Y y)(hl:X.env.scope.names.lookup y=Y .local)(hi:PI X L O (AZ X.K Z f))(ag:M4 J g)(j:∀i∈J,src[i]?=Y M)(hg:∀v l H Q,Qu X.K Ź τ v l H Q->g v l H Q)(hb:∀C s H z,PG (X.tw N T C s H z) L g/\E9 (X.tw N T C s H z) E (sC X.K Ź U)/\PE (X.tw N T C s H z) m (tP X.K Ź fe))(R:autoParam (jJ Z Ź src=true) Ű)(n:autoParam (i∈Z) Ű)(d:autoParam (∀a,(i,a)∉B.3) ū)(hm:autoParam (Bi i∉Z) Ű)(h:autoParam (cP (.ListComp m [⟨L,O,E,0⟩] T u) (Y (.Name y D)) c.line X.env=eQ true) Ų)(q:autoParam (∀x,cK O X.env x=eQ x) ů):PS X (.Assign [.Name y D] (.ListComp m [⟨L,O,E,0⟩] T u) c) (jP X.K B t Z Z (kq i (lZ f src τ U fe))):=
 (vy S hc hN F hl hi ag j hb h q).imp λD' l H ⟨G,ρ,o,S,e,k⟩=>HA R hg (by unfold kq at e;obtain⟨ds,ef,e⟩:=ah.1 e;cases e;exact⟨G,ρ,ds,S.gh,S.lh,ef,λp vs G' H' b P gp K r=>k _ G' H' (S.NL n b P gp K r d hm)⟩)
def MC{B:Bs}{D:Pos}(S:fQ X N src T)(hc:X.calm=Z')(hN:X.N.Nodup)(q:X.N[i]?=Y y)(hl:X.env.scope.names.lookup y=Y .local)(hi:PI X L O (AZ X.K Z f))(ag:M4 J g)(e:∀i∈J,src[i]?=Y M)(hg:∀v l H Q,Qu X.K Ź τ v l H Q->g v l H Q)(hb:∀C s H j,PG (X.tw N T C s H j) L g/\E9 (X.tw N T C s H j) E (sC X.K Ź U)/\PE (X.tw N T C s H j) m (tP X.K Ź fe))(ho:autoParam (jJ Z Ź src=true) Ű)(h:autoParam (i∉Z) Ű)(d:autoParam (cP (.ListComp m [⟨L,O,E,0⟩] T u) (Y (.Name y D)) b.line X.env=eQ true) Ų)(R:autoParam (∀x,cK O X.env x=eQ x) ů):PS X (.Assign [.Name y D] (.ListComp m [⟨L,O,E,0⟩] T u) b) (jP X.K B t Z Z (dh i (eF (lZ f src τ U fe)))):=
 (vy S hc hN q hl hi ag e hb d R).imp λD' l H ⟨G,ρ,o,S,c,k⟩=>HA ho hg (by
  unfold dh eF at c;rcases n:lZ f src τ U fe ρ with _|K
  ·rw[n]at c;cases c
  rw[n]at c;cases c;refine⟨G,ρ,K,S.gh,S.lh,n,λp z G' H' a hp F P r=>k _ (dg G' p (.lst z)) H' ((S.ext (a.freeze hp F P)).xW h ?_)⟩;exact bZ.mpr ⟨p,z,rfl,bj,be.mono (.alloc F) K r⟩)
end
inductive gQ (K:aT) (F:List D->Option D) (e:List V) (H:Hp) (Q:VK) (_x:XK):Prop
 |mk G a d:a_ G H->be K G a e->F a=some d->(∀v c b,gf G H c b->cI K c d v->Q v b)->gQ K F e H Q _x
inductive IU (K:aT) (F:List D->Option (List D)) (g:List V) (H:Hp) (Q:VK) (_x:XK):Prop
 |mk G f e:a_ G H->be K G f g->F f=some e->(∀a d c b,gf G H c b->H a=none->c a=none->b a=some (.lst d)->be K c e d->Q (.ref a) b)->IU K F g H Q _x
noncomputable def iV(N:Nat)(a:List D):cO:=a.map Y++bS (N-a.length) M
noncomputable def nN:DO->Option D
 |.rt d=>Y d|.ro a=>Y (.lst a)|.nx _=>Y .eN|_=>M
noncomputable def Oc:DO->Option (List D)
 |.ro a=>Y a|_=>M
def ku(n N:Nat)(g:DG)(a:List D):Option D:=if a.length=n then (g (iV N a)).bind nN else M
def DI(n N:Nat)(g:DG)(a:List D):Option (List D):=if a.length=n then (g (iV N a)).bind Oc else M
def oG{i:Nat}(h:(iV N b)[i]?=Y (Y d)):b[i]?=Y d:=by
 unfold iV at h;by_cases c:i<b.length
 ·rw[b_ (by simpa using c),aF]at h;obtain⟨a,e,h⟩:=ah.1 h;rw[e];cases h;rfl
 ·rw[iy (by simpa using c),Nm]at h;split at h<;>cases h
def vn{K:aT}{H:Hp}{m:List V}(s:a_ G H)(r:be K G k m)(t:∀i∈Z,k.length<=i):SR K ⟨G,H,[],x⟩ Z G H (start N m) (iV N.length k):=by
 have g:∀i d,i∈Z->(iV N.length k)[i]?=Y (Y d)->False:=λi d f e=>by have:=(af.mp (oG e)).1;have:=t i f;omega
 refine⟨s,a_.refl _,a_.refl _,λb o e =>.inl e,λi d f e =>?_,⟨λ_=>[],λi d f e=>(g i d f e).elim,λi d f e=>(g i d f e).elim,λi j d c f z e=>(g i d f e).elim⟩,by simp[start,iV,r.length],λi a h=>(by cases h),λj r p w A e=>(g j _ w e).elim⟩;obtain⟨v,n,q⟩:=r.get (oG e);refine⟨v,?_,q⟩;have f:i<m.length:=(af.mp n).1;unfold start;rw[b_ (by simpa using f),aF,n];rfl
section
variable {P:bh}{K:aT}
def ir.x6{m:rN}{f:az}{N:List aM}(F:ir K x e m f O)(S:bu N I (ay m)){Z Ź:List Nat}{g:DG}(p:∀i∈Z,I.length<=i) (hb:∀(j:ai) (A:ip) (outer:List Env) (s:aw) (H:Hp) (E:XK),gc k (A.deeper (sE e (ay m) s.heap.objs.size f j))->∀B:Bs,B.3=[] ->
   qQ (xf gU P w K u y N e (ay m) f j A outer s H E).LH (iD m) (jP K B [] Z Ź g)):cq P w K u y gU (k+1) f O I (gQ K (ku I.length N.length g)):=by
 refine F.ok S (λR H Q E h =>?_) (λj A outer s H R Q E U h =>?_)
 ·obtain⟨G,ds,d,c,r,b,_⟩:=h;unfold ku at b;split at b
  ·rw[<- r.length];assumption
  ·cases b
 ·obtain⟨G,ds,d,c,r,b,q⟩:=h;unfold ku at b;split at b
  ·rename_i X;refine⟨_,hb j A outer s H E U ⟨G,H,[],λ_ _=>False⟩ rfl,?_⟩;obtain⟨o,eg,b⟩:=aa.1 b;refine⟨G,_,o,vn c r (by rw[X];exact p),eg,?_⟩;cases o with
   |rt d'=>cases b;exact λv z t E r=>q v z t E r
   |ro T=>cases b;exact λa J z t E h1 L h3 r=>q _ (dg z a (.lst J)) t (E.freeze h1 L h3) (bZ.mpr ⟨a,J,rfl,bj,be.mono (.alloc L) T r⟩)
   |nx D=>cases b;exact λσ z t S=>q _ z t S.nO (iY.mpr rfl)
   |_=>cases b
  ·cases b
def ir.V3{f:az}(F:ir K x j p f I)(S:bu N z (ay p)){Z Ź:List Nat}{g:DG}(t:∀i∈Z,z.length<=i) (R:∀(m:ai) (A:ip) (e:List Env) (s:aw) (H:Hp) (E:XK),gc k (A.deeper (sE j (ay p) s.heap.objs.size f m))->∀B:Bs,B.3=[] ->
   qQ (xf gU P w K u y N j (ay p) f m A e s H E).LH (iD p) (jP K B [] Z Ź g)):cq P w K u y gU (k+1) f I z (IU K (DI z.length N.length g)):=by
 refine F.ok S (λJ H Q E h =>?_) (λm A e s H J Q E c h =>?_)
 ·obtain⟨G,ds,d,D,r,b,_⟩:=h;unfold DI at b;split at b
  ·rw[<- r.length];assumption
  ·cases b
 ·obtain⟨G,ds,d,D,r,b,q⟩:=h;unfold DI at b;split at b
  ·rename_i O;refine⟨_,R m A e s H E c ⟨G,H,[],λ_ _=>False⟩ rfl,?_⟩;obtain⟨o,eg,b⟩:=aa.1 b;refine⟨G,_,o,vn D r (by rw[O];exact t),eg,?_⟩;cases o with
   |ro rs=>cases b;exact λa L G' H' E X U T r=>q a L G' H' E X U T r
   |_=>cases b
  ·cases b
structure ji(P:bh)(w:cX)(K:aT)(mg:aM->Option ai)(base:de)(x:aM)(k:Nat)(sp:Sp):Prop where
 ex:∃f fd ps,cq P w K mg base gU k f fd ps sp/\mg x=some (.ref f)/\AO K (.ref f)=true/\Binds K fd ps []
def ji.mono(h:ji P w K u y x j a)(c:j<=k):ji P w K u y x k a:=by
 obtain⟨f,g,b,e,d⟩:=h.ex;exact⟨f,g,b,e.mono c,d⟩
end
section
variable {X:Cx}
def hR{F:List D->Option D}(h:ji X.prog X.w X.K X.mg X.base x k (gQ X.K F))(s:gc k X.A)(z:Gl X x)(E:PA X (e::l) (Fk X.K Z g))(b:autoParam ((x==("__debug__" : aM))=false) Ű)(A:autoParam (av (e::l) X.env=(Z_,eval e X.env)::av l X.env) Ų)(a:autoParam ((dt C (av l X.env)).any (·.1)=false) Ų):PE X (.Call (.Name x p) (e::l) [] C) (tP X.K Z (aQ F g)):=by
 obtain⟨f,fd,U,I,t,w,B⟩:=h.ex;refine(vB I s z t w B .nil pj E b A a).imp ?_;rintro T H Q ⟨G,m,d,J,c,L,q⟩;obtain⟨i,K,u⟩:=zP L;exact⟨G,m,i,J,c,K,λn R O j r=>by show gQ X.K F (n++[]) O Q E0;rw[cm];exact⟨R,i,d,j.gh,r,u,λv P N S o=>q v P N (j.trans S) o⟩⟩
noncomputable def pR(F:List D->Option (List D))(g:DL):DL:=λa=>(g a).bind F
def vX{F:List D->Option (List D)}(h:ji X.prog X.w X.K X.mg X.base x k (IU X.K F))(w:gc k X.A)(B:Gl X x)(J:PA X (e::l) (Fk X.K Z g))(d:autoParam ((x==("__debug__" : aM))=false) Ű)(E:autoParam (av (e::l) X.env=(Z_,eval e X.env)::av l X.env) Ų)(c:autoParam ((dt C (av l X.env)).any (·.1)=false) Ų):PE X (.Call (.Name x p) (e::l) [] C) (tF X.K Z (pR F g)):=by
 obtain⟨f,fd,ps,i,z,A,I⟩:=h.ex;refine(vB i w B z A I .nil pj J d E c).imp ?_;rintro σ H Q ⟨G,o,O,u,j,b,q⟩;unfold pR at b;obtain⟨n,N,b⟩:=aa.1 b;exact⟨G,o,n,u,j,N,λr T R m v=>by show IU X.K F (r++[]) R Q E0;rw[cm];exact⟨T,n,O,m.gh,v,b,λa s S P U i L K t=>q a s S P (m.trans U) (m.hh.free i) L K t⟩⟩
noncomputable def A8:D->Bool
 |.eN=>Z'|.bl _=>Z'|.int _=>Z'|.str _=>Z'|_=>Z_
end
def Ru{F:List D->Option D}{m:Nat}(e:∀b:List Int,b.length<=m->F [.mH b]=Y (.bl Z'))(K:aT)(H:Hp)(a:az)(b:List Int)(c:b.length<=m)(f:M0 H)(d:nX K H a (b.map V.int)):
  gQ K F [.ref a] H (λv _=>v=.bl Z') λ_ _ _=>False:=
 ⟨H,[.mH b],.bl Z',a_.refl _,.cons (Ho.mpr ⟨a,rfl,d⟩) .nil,e b c,λv h g E r=>eY.mp r⟩
noncomputable def Wp(K:aT)(a:az):It:=
 ⟨λi H=>∃b x,nX K H a b/\b[i]?=Y x,λi H v c=>∃x p,(∀b,nX K H a b->b[i]?=Y x)/\H p=M/\v=.ref p/\c=dg H p (.tup [.int i,x]),λi H=>∃b,nX K H a b/\b.length<=i⟩
def IL{P:bh}{K:aT}{x1}(a e t:az)(T:e≠t):GX P w K (.Tuple YA x1 N) (Wp K a) [e,t] e (λi h=>(∃l,IsEnum h e t (i:Int) l)/\h.IsListIter t a i) where
 mem:=by simp
 obj:=λi h D b g=>by
  obtain⟨⟨l,f⟩,j⟩:=D;rcases aE.mp g with rfl|g
  ·exact⟨_,f,λv z=>by cases z⟩
  ·have e:b=t:=by simpa using g
   subst e;obtain⟨o,e,c,d⟩:=j;exact⟨o,e,λv z=>by rw[d]at z;cases z⟩
 keep:=λi h h' D k=>by obtain⟨⟨l,f⟩,j⟩:=D;exact⟨⟨l,k e Ž _ f⟩,j.at λo q=>k t Ž o q⟩
 item:=by
  intro X hP hw hK hc i J s σ H E I R D hg;subst hP hw hK;obtain⟨⟨l,f⟩,j⟩:=D;obtain⟨xs,x,hq,B⟩:=hg;obtain⟨Fl,rv,p,hz⟩:=I.list hq;obtain⟨u,hu,ru⟩:=rv.get B;have fe:=R e Ž;have U:=R t Ž;refine wpAny_pyNext_enum_item f j p.isList (x:=u) (by simpa using hu) T λh1 eo it1 t1 z1 k1 =>?_
  refine⟨_,rfl,?_⟩;refine wpAny_letOwnedTupleGo_enum (s:={ s with heap:=h1,toks:=s.toks+1 }) eo λG e2 s2 =>?_
  have S:e<s.heap.objs.size:=aU f;have V:H s.heap.objs.size=none:=I.iw.fresh (aH _);have L:ll e h1 G:=s2;have m:∀b o,b≠e->b≠t->s.heap.get? b=Y o->G.get? b=Y o:=λb o h3 h4 q=>(L.2 b h3).trans (k1 b o h3 h4 q)
  have tup:G.get? s.heap.objs.size=Y { cls :=.type "tuple",data :=.seq #[.int i s.toks,u] }:=(L.2 _ (mf S)).trans t1;have C:∀b o,H b=Y o->b≠e/\b≠t:=λb o q=>⟨λz=>by(rw[z,fe.1]at q;cases q),λz=>by(rw[z,U.1]at q;cases q)⟩
  have new:gF X.prog X.w (dg H s.heap.objs.size (.tup [.int i,x])) G s.heap.objs.size (.tup [.int i,x]):=
   ⟨by show 2<=bc;rw[fH];decide,[.int i s.toks,u],.cons ⟨_,rfl⟩ (.cons ru .nil),_,tup,rfl,_,rfl⟩
  have O:qf X.prog X.w (dg H s.heap.objs.size (.tup [.int i,x])) G:=λb o q=>by
   by_cases g:b=s.heap.objs.size
   ·subst g;rw[bj]at q;cases q;exact new
   ·rw[aY g]at q;refine(I.iw b o q).Aw (λc v F r =>?_) (λc r=>by rw[aY (bF r V)];exact r) λc ys r=>by rw[aY (bF r V)];exact r
    rcases F with rfl|F
    ·exact m _ _ (C _ _ q).1 (C _ _ q).2 r
    ·exact m _ _ (C _ _ F).1 (C _ _ F).2 r
  have un:Un (Dg X.stack) [e,t] H (dg H s.heap.objs.size (.tup [.int i,x])) s.heap G:=by
   have y:∀b,b∉[e,t]->b≠e/\b≠t:=λb g=>⟨λz=>g (by simp[z]),λz=>g (by simp[z])⟩
   have l:∀b o,s.heap.get? b=Y o->b≠s.heap.objs.size:=λb o q=>bR (aU q)
   refine⟨λb o q n _ B=>m b o (y b B).1 (y b B).2 q,λb o q n _ B=>⟨o.slots,m b o (y b B).1 (y b B).2 q⟩,λb o q n B=>by rw[aY (l b o q)];exact n,
    λb o q B=>⟨o,m b o (y b B).1 (y b B).2 q⟩,λb ys q=>by rw[aY (bF q V)];exact q,λb o u q=>by rw[aY (bF q V)];exact q,λb ps q=>⟨#[],by rw[aY (bF q V)];simpa using q⟩⟩
  have I2:Inv X J σ (dg H s.heap.objs.size (.tup [.int i,x])) { s with heap:=G,toks:=s.toks+1 }:=I.Ih (s':={ s with heap:=G,toks:=s.toks+1 }) rfl un O I.bare λb g=>by
   rcases aE.mp g with rfl|g
   ·exact⟨fe.2.2.2.1,fe.2.1,fe.2.2.2.2.1,fe.2.2.2.2.2⟩
   ·have z:b=t:=by simpa using g
    subst z;exact⟨U.2.2.2.1,U.2.1,U.2.2.2.2.1,U.2.2.2.2.2⟩
  have V1:G.IsListIter t a (i+1):=it1.at λo q=>(L.2 t (cg T)).trans q
  refine⟨.ref s.heap.objs.size,_,I2,rfl,⟨x,s.heap.objs.size,λys hy=>by rw[I.sX hy hq];exact B,V,rfl,rfl⟩,⟨⟨u,by exact_mod_cast e2⟩,V1⟩,λb g =>?_⟩;have:b≠s.heap.objs.size:=by
   rcases aE.mp g with rfl|g
   ·exact bR S
   ·have z:b=t:=by simpa using g
    subst z;obtain⟨o,q,_⟩:=j;exact bR (aU q)
  rw[aY this];exact(R b g).1
 done:=by intro X hP hw hK hc i J s σ H E I R D hg;subst hP hw hK;obtain⟨⟨l,f⟩,j⟩:=D;obtain⟨xs,hq,B⟩:=hg;obtain⟨Fl,rv,p,hz⟩:=I.list hq;obtain⟨f0,f1,f2,f3,f4,f5⟩:=R t Ž;have hl:=rv.length;exact wpAny_pyNext_enum_end (I.ok.hd hc) f j p.isList (by simp;omega) λh' eb=>⟨rfl,I.turned (t':=s.toks) (λb o g q=>eb b o g q) f0 f1 f3 f4 f5⟩
 self:=λA i s Q E D h=>by obtain⟨⟨l,f⟩,j⟩:=D;exact wpAny_pyIter_enum f h
section
variable {X:Cx}{f:DF}
def RH(K:aT)(e:TE):TI:=λc H R=>e c H λx b=>∃a,x=.ref a/\(∃d,nX K b a d)/\R (Wp K a) b
def N8{A}{v:TE}(Q:Gl X "enumerate")(O:X.mg "enumerate" = M)(P:PE X e v)(V:autoParam (av [e] X.env=[(Z_,eval e X.env)]) Ų)(n:autoParam (av [e] X.env=(Z_,eval e X.env)::av [] X.env) Ų)(L:autoParam (fZ "enumerate" = Y (.type "enumerate")) ũ):PI X (.Tuple k A g) (.Call (.Name "enumerate" p) [e] [] i) (RH X.K v):=by
 intro j s y H R I h;refine Call_ (rj I Q O L (ia (fS (bM P cG n i j s y H (λl f=>match l with|[x]=>∃a,x=.ref a/\(∃r,nX X.K f a r)/\R (Wp X.K a) f|_=>False) I h) ?_) V rfl));rintro U c ⟨l,f,d,C,m⟩;cases l with
 |nil=>exact m.elim|cons x t=>
  cases t with
  |cons _ _=>exact m.elim|nil=>
  obtain⟨a,rfl,⟨r,N⟩,q⟩:=m;obtain⟨u,rfl,B⟩:=cv.one C;cases B;obtain⟨K,rv,D,hz⟩:=d.list N;refine call_enumerate_list D.isList λS w G T J =>?_
  refine wpAny_pyIter_enum (s:={ c with heap:=S }) w ?_;have E:f (c.heap.objs.size+1)=none:=d.iw.fresh (gA _);have F:f c.heap.objs.size=none:=d.iw.fresh (aH _);refine⟨c.heap.objs.size+1,[c.heap.objs.size+1,c.heap.objs.size],_,_,f,rfl,d.kept (t':=c.toks) J,IL a (c.heap.objs.size+1) c.heap.objs.size (mf (ik _)),⟨⟨_,w⟩,G⟩,λb o =>?_,q⟩;rcases aE.mp o with rfl|o
  ·exact d.yc (gA _) E
  ·have z:b=c.heap.objs.size:=by simpa using o
   subst z;exact d.yc (aH _) F
noncomputable def xP(a:List D):List D:=a.zipIdx.map λp =>.tup [.int (p.2:Nat),p.1]
def w8{i:Nat}(h:(xP a)[i]?=Y d):∃x,a[i]?=Y x/\d=.tup [.int i,x]:=by
 unfold xP at h;rw[aF,List.getElem?_zipIdx]at h;rcases e:a[i]? with _|x
 ·rw[e]at h;cases h
 rw[e]at h;cases h;exact⟨x,rfl,Ž⟩
def w6(a:List D):(xP a).length=a.length:=by simp[xP]
def JC{K:aT}{a:az}(k:G a=Y (.lst b))(r:be K G n b):C4 K G (Wp K a) (xP n):=by
 refine⟨λi H s e =>?_,λi H s e=>⟨b,.of (s _ _ k),by rw[w6]at e;rw[<- r.length];exact e⟩,λi H x B A d l h ⟨y,p,f,m,u,w⟩ t =>?_⟩
 ·rw[w6]at e;have j:i<b.length:=by rw[<- r.length];exact e
  exact⟨b,b[i],.of (s _ _ k),by simp[j]⟩
 ·obtain⟨c,z,rfl⟩:=w8 t;have q:=f b (.of (h _ _ (l _ _ k)));obtain⟨v,g,o⟩:=r.get z;rw[q]at g;cases g;subst u w;refine⟨dg A p (.tup [.int i,y]),gf.alloc h m,cY.mpr ⟨p,_,rfl,bj,.cons (bE.mpr rfl) (.cons (cI.mono (l.trans (.alloc (h.free m))) c o) .nil)⟩⟩
def iE(f:DF):DL:=λa=>(iL f a).map xP
def Wk{c:List Expr}{o}(w:Gl X "enumerate")(u:X.mg "enumerate" = M)(h:PE X e (tP X.K Z f))(t:autoParam (av [e] X.env=[(Z_,eval e X.env)]) Ų)(i:autoParam (av [e] X.env=(Z_,eval e X.env)::av [] X.env) Ų):
  PI X (.Tuple c o b) (.Call (.Name "enumerate" p) [e] [] g) (AZ X.K Z (iE f)):=(N8 w u h t i).imp <|by
 rintro B H R ⟨G,n,D,x,j,d,k⟩;unfold iE at d;obtain⟨C,y,d⟩:=ah.1 d;cases d;refine⟨G,n,_,x,j,vR y,λv A z m s =>?_⟩;obtain⟨a,q,rfl,l,r⟩:=bZ.mp s;exact⟨a,rfl,⟨q,.of (m.gh _ _ l)⟩,k _ A z m (JC l r)⟩
noncomputable def Yu(x:aM):It:=⟨λi _=>i<x.cps.size,λi H v a=>a=H/\∃c,x.cps[i]?=Y c/\v=.str ⟨#[c]⟩,λi _=>x.cps.size<=i⟩
def KG{P:bh}{K:aT}(x:aM)(t:Tok)(j:az):GX P w K G (Yu x) [j] j (λi h=>h.IsStrIter j "str_ascii_iterator" x t i) where
 mem:=by simp
 obj:=λi h a b l=>by
  have e:b=j:=by simpa using l
  subst e;obtain⟨o,e,c,d⟩:=a;exact⟨o,e,λv z=>by rw[d]at z;cases z⟩
 keep:=λi h p a k=>by obtain⟨o,e,c,d⟩:=a;exact⟨o,k j Ž o e,c,d⟩
 item:=by
  intro X q hw r F i f s D H E I n a g;subst q hw r;obtain⟨C,B,L,A,y,u⟩:=n j Ž;have g:i<x.cps.size:=g;refine wpAny_pyNext_ascii_item a (c:=x.cps[i]) (by simp[g]) λp m J =>?_
  have N:Inv X f D H { s with heap:=p,toks:=s.toks+1 }:=I.turned (λb o l e=>(J.2 b l).trans e) C B A y u;obtain⟨o,e,c,d⟩:=id m;exact⟨_,rfl,HG (s:={ s with heap:=p,toks:=s.toks+1 }) e c d ſ ⟨.str ⟨#[x.cps[i]]⟩,H,N,⟨_,rfl⟩,⟨rfl,_,by simp[g],rfl⟩,m,λb l=>(n b l).1⟩⟩
 done:=by intro X q hw r F i f s D H E I n a g;subst q hw r;obtain⟨C,B,L,A,y,u⟩:=n j Ž;have g:x.cps.size<=i:=g;exact wpAny_pyNext_ascii_end (I.ok.hd F) a (by simp[g]) λp O=>⟨rfl,I.turned (t':=s.toks) (λb o l e=>O b o l e) C B A y u⟩
 self:=λ_ _ _ _ _ a h=>wpAny_pyIter_striter_ascii a h
def UY(b:TE):TI:=λa H R=>b a H λv c=>∃x,v=.str x/\x.cps.all (· < 128)=Z'/\R (Yu x) c
def Q0{f:TE}(m:PE X l f):PI X i l (UY f):=by
 intro a s g H R I h;refine fS (m a s g H _ I h) ?_;rintro v c ⟨x,r,d,j,k⟩;obtain⟨z,e,p,q⟩:=k;subst e;obtain⟨t,rfl⟩:=j;refine wpAny_pyIter_ascii p ?_;refine⟨c.heap.objs.size,[c.heap.objs.size],_,_,r,rfl,d.kept (t':=c.toks) λb o e=>ak _ e,KG z t _,⟨_,bz _ rfl,rfl,rfl⟩,λb n =>?_,q⟩;have e:b=c.heap.objs.size:=by simpa using n
 subst e;exact d.yc (aH _) (d.iw.fresh (aH _))
noncomputable def uI(x:aM):List D:=x.cps.toList.map λc =>.str ⟨#[c]⟩
def iS(f:DF):DL:=λa=>(f a).bind λd=>match d with|.str x=>if x.cps.all (· < 128)=Z' then Y (uI x) else M|_=>M
def L9{K:aT}(x:aM):C4 K G (Yu x) (uI x):=by
 have f:(uI x).length=x.cps.size:=by simp[uI]
 refine⟨λi H s a=>by rw[f]at a;exact a,λi H s a=>by rw[f]at a;exact a,λi H v m k d l g ⟨e,c,j,h⟩ b =>?_⟩;subst e h;refine⟨k,.refl g,?_⟩;unfold uI at b;rw[aF,Qk,j]at b;cases b;exact fT.mpr rfl
def Sb{g:Expr}(h:PE X e (tP X.K Z f)):PI X g e (AZ X.K Z (iS f)):=(Q0 h).imp <|by
 rintro q H R ⟨G,c,r,l,b,a,k⟩;unfold iS at a;obtain⟨d,m,a⟩:=aa.1 a;cases d<;>simp only[ab]at a<;>try (cases a;done)
 split at a
 ·cases a;rename_i x j;exact⟨G,c,_,l,b,m,λv o n p i=>⟨x,fT.mp i,j,k _ o n p (L9 x)⟩⟩
 ·cases a
end
def e_{K:aT}{Z:List Nat}(i:Nat)(e:autoParam (i∉Z) Ű):∀v a H Q,Qu K Z (gN i) v a H Q->qG i v a H Q:=λv a H Q ⟨G,h,d,c,f,b,r,g,k⟩=>by
 cases g;exact k _ G H (.refl f) (b.set e r)
noncomputable def v_(b:Scope)(d N:List aM)(c:List (Option Nat))(a:Scope):Bool:=
 (a.names.all λy=>a.names.lookup y.1==Y y.2)&&(a.names.all λy=>y.2 != .free||(b.names.lookup y.1==Y .cell||b.names.lookup y.1==Y .free))&&(c.length==N.length) &&
 ((bY c.length).all λi=>match c[i]?,N[i]? with|some (Y j),Y x=>d[j]? == Y x&&a.names.lookup x==Y .free|_,_=>Z')
def gE{X:Cx}{outer:Scope}{oN N:List aM}{src:List (Option Nat)}(d:a.kind=.function)(h:v_ outer oN N src a=Z')(p:X.env.scope=outer)(o:X.N=oN):fQ X N src a:=by
 unfold v_ at h;simp only[aX,cx,beq_iff_eq,wz]at h;obtain⟨⟨⟨n,m⟩,l⟩,k⟩:=h;refine⟨d,λy b=>n y b,λy b f =>?_,l,λi j x c g =>?_⟩
 ·rw[p];rcases m y b with z|z
  ·rw[f]at z;exact absurd z ſ
  ·exact z
 ·have e:i<src.length:=(af.mp c).1;have:=k i (by simpa using e);rw[c,g]at this;simp only[aX,beq_iff_eq]at this;rw[o];exact this
section
variable {m:bh}{s:aw}{R:Result->aw->Prop}
variable {P:Nat->ai->Prop}
end
section
variable {m:bh}{s:aw}
variable {P:Nat->ai->Prop}
end
section
variable {X:Cx}{f:DF}
end
abbrev DM:=cO->Option (D×cO)
abbrev J_:=cO->Option (List D×cO)
inductive tM (K:aT) (B:Bs) (Z:List Nat) (f:DM) (c:St) (H:Hp) (Q:VK):Prop
 |mk G e d a:SR K B Z G H c e->f e=some (d,a)->(∀v b g,SR K B Z b g c a->a_ G b->cI K b d v->Q v g)->tM K B Z f c H Q
inductive QB (K:aT) (B:Bs) (Z:List Nat) (f:J_) (c:St) (H:Hp) (Q:List V->Hp->Prop):Prop
 |mk G d g a:SR K B Z G H c d->f d=some (g,a)->(∀e b h,SR K B Z b h c a->a_ G b->be K b g e->Q e h)->QB K B Z f c H Q
noncomputable def Dh(H:Hp)(a:az):Hp:=λb=>if b=a then M else H b
def zK:Dh H a a=none:=by simp[Dh]
def uY(h:b≠a):Dh H a b=H b:=by simp[Dh,h]
def HP:a_ (Dh H a) H:=λb o e=>by
 by_cases h:b=a
 ·subst h;rw[zK]at e;cases e
 ·rw[uY h]at e;exact e
section
variable {X:Cx}{m:Pos}
noncomputable def mP(f:DF):DM:=λρ=>(f ρ).map λd=>(d,ρ)
def Ou{f:DF}(h:mP f b=Y (d,a)):f b=Y d/\a=b:=by
 unfold mP at h;obtain⟨c,e,h⟩:=ah.1 h;rw[e];cases h;exact⟨rfl,rfl⟩
def yB{f:DF}(h:PE X e (tP X.K Z f)):PE X e (tM X.K B Z (mP f)):=h.imp <|by
 rintro j H Q ⟨G,n,d,a,S,b,k⟩;obtain⟨c,rfl⟩:=Ou b;exact⟨G,a,d,S.gh,S.lh,c,λv i g E r=>k v i g (S.ext E) E.gg r⟩
noncomputable def kl:J_:=λρ=>Y ([],ρ)
noncomputable def jk(f:DM)(g:J_):J_:=λρ=>(f ρ).bind λp=>(g p.2).bind λq=>Y (p.1::q.1,q.2)
def LV{f:DM}(h:jk f g d=Y (j,b)):∃x a c,f d=Y (x,a)/\g a=Y (c,b)/\j=x::c:=by
 unfold jk at h;obtain⟨⟨x,a⟩,i,h⟩:=aa.1 h;rw[i];rcases e:g a with _|⟨c,k⟩
 ·rw[e]at h;cases h
 rw[e]at h;cases h;exact⟨x,a,c,rfl,e,rfl⟩
def CI:PA X [] (QB X.K B Z kl):=cG.imp <|by
 rintro c H Q ⟨G,e,d,a,S,b,k⟩;cases b;exact k _ G H S (a_.refl _) .nil
def tq{f:DM}{g:J_}(h:PE X e (tM X.K B Z f))(t:PA X l (QB X.K B Z g))(r:autoParam (av (e::l) X.env=(Z_,eval e X.env)::av l X.env) Ų):PA X (e::l) (QB X.K B Z (jk f g)):=
 (bM h t r).imp <|by rintro F H Q ⟨G,j,d,b,S,w,k⟩;obtain⟨x,a,n,u,c,rfl⟩:=LV w;exact⟨G,j,x,a,S,u,λv E J z o q=>⟨E,a,n,b,z,c,λI D C y i p=>k _ D C y (o.trans i) (.cons (cI.mono i x q) p)⟩⟩
noncomputable def x9(g:J_):DM:=λa=>(g a).bind λq=>if q.1.length<=1000 then Y (.tup q.1,q.2) else M
def R9{q}{g:J_}(h:PA X l (QB X.K B Z g)):PE X (.Tuple l q m) (tM X.K B Z (x9 g)):=(qa h).imp <|by
 rintro v H Q ⟨G,i,d,b,S,a,k⟩;unfold x9 at a;rw[aa]at a;obtain⟨⟨c,e⟩,f,a⟩:=a;have a:(if c.length<=1000 then Y (D.tup c,e) else M)=Y (d,b):=a;split at a
 ·cases a;rename_i t;refine⟨G,i,c,b,S,f,λj x w o r n=>⟨?_,λp u =>?_⟩⟩
  ·rw[<- n.length];exact bq t vI
  ·have E:=gf.alloc (p:=p) (o :=.tup j) o.gh u;exact k _ _ _ (o.ext E) (r.trans E.gg) (cY.mpr ⟨p,j,rfl,bj,be.mono E.gg c n⟩)
 ·cases a
noncomputable def m2(o:D->D->Option D)(a b:DM):DM:=λc=>(a c).bind λp=>(b p.2).bind λq=>(o p.1 q.1).map λd=>(d,q.2)
def Ov{f:cO}(h:m2 o a b g=Y (d,f)):∃x e y,a g=Y (x,e)/\b e=Y (y,f)/\o x y=Y d:=by
 unfold m2 at h;obtain⟨⟨x,e⟩,k,h⟩:=aa.1 h;rw[k];rcases j:b e with _|⟨y,n⟩
 ·rw[j]at h;cases h
 rw[j]at h;simp only[ab]at h;rcases i:o x y with _|c
 ·rw[i]at h;cases h
 rw[i]at h;cases h;exact⟨x,e,y,rfl,j,i⟩
def Um{K:aT}{s:DM}(h:tM K B Z (m2 o s A) c H Q):Tc (rD K o) (tM K B Z s) (tM K B Z A) c H Q:=by
 obtain⟨G,i,d,b,S,z,k⟩:=h;obtain⟨x,a,y,t,r,C⟩:=Ov z;exact⟨G,i,x,a,S,t,λv L N E j q=>⟨L,a,y,b,E,r,λu J l f e p=>⟨J,x,y,d,f.gh,.inl (cI.mono e x q),.inl p,C,λw I F g n=>k w I F (f.ext g) ((j.trans e).trans g.gg) n⟩⟩⟩
variable {s:DM}
def ZQ(d:BQ X (dB c) o)(f:PE X a (tM X.K B Z s))(e:PE X b (tM X.K B Z A)):PE X (.BinOp a c b m) (tM X.K B Z (m2 o s A)):=(DV d f e).imp λg H Q h=>Um h
def Ot(j:Nat):DM:=λb=>(jl j b).bind λa=>(a[a.length-1]?).map λd=>(d,b.set j (Y (.lst a.dropLast)))
def R_{b a:Pos}(h:PE X (.Name y p) (ko j))(q:autoParam (j∈Z) Ű)(f:autoParam (cB (.Name y p) "pop" X.env (eval (.Name y p) X.env)=eval (.Name y p) X.env) Ų)(e:autoParam ((b.endLine==a.line)=true) Ų):
  PE X (.Call (.Attribute (.Name y p) "pop" b) [] [] a) (tM X.K B Z (Ot j)):=
 (Lq dC PySem.F.slot_list_pop PySem.F.type_list_pop LM h f e).imp <|by
  rintro x H Q ⟨G,z,d,o,S,g,k⟩;unfold Ot at g;obtain⟨n,t,g⟩:=aa.1 g;rcases i:n[n.length-1]? with _|c
  ·simp[i]at g
  simp only[i,ab,bI]at g;cases g;exact QY S q (fX t) i λv w u r=>k v G w u (a_.refl _) r
inductive BZ (K:aT) (p:Nat) (F:List D->Option (D×List D)) (h:List V) (H:Hp) (Q:VK) (_x:XK):Prop
 |mk G f d b a n k:a_ G H->f[p]?=some (.lst k)->h[p]?=some (.ref a)->H a=some (.lst n)->be K G k n->G a=none->(∀(i:Nat) c,i≠p->f[i]?=some c->∃v,h[i]?=some v/\cI K G c v)->f.length=h.length->F f=some (d,b)->(∀v e g j,gf G (Dh H a) g j->g a=none->j a=some (.lst e)->be K g b e->cI K g d v->Q v j)->BZ K p F h H Q _x
def Od(p:Nat):DO->Option (D×List D)
 |.rm d a=>(jl p a).map λb=>(d,b)
 |.nx a=>(jl p a).map λb=>(.eN,b)
 |_=>M
def Az(n N p:Nat)(g:DG)(a:List D):Option (D×List D):=if a.length=n then (g (iV N a)).bind (Od p) else M
def SR.O9{K:aT}{f v:Hp}{a:az}(S:SR K B Z G H g i)(w:j∈Z)(t:i[j]?=Y (Y d))(p:g[j]?=Y (Y (.ref a)))(E:gf G (Dh H a) f v)(L:f a=M)(C:v a=Y n)(r:jt K f u n)(x:autoParam (vM d=true) Ų):SR K B Z f v g (i.set j (Y u)):=by
 obtain⟨F,W⟩:=S.ow;obtain⟨Q,y,N⟩:=W.it j d w t;rw[p]at y;cases y;obtain⟨⟨o,P,O⟩,l⟩:=(oj.cell x).mp N;have:=S.chg (i:=j) (a:=a) (d':=u) (F0:=[a]) (S':=[a]) W w (λb c=>⟨by rw[l];exact c,d,t⟩) E.gg E.gh (λb o e=>by
   rcases E.fr b o e with z|z
   ·exact .inl z
   ·by_cases c:b=a
    ·exact .inr (.inr (by simp[c]))
    ·rw[uY c]at z;exact .inr (.inl z))
  (λb o c e=>E.hh b o (by rw[uY (by simpa using c)];exact e)) ((oj.cell r.vM).mpr ⟨⟨n,C,r⟩,rfl⟩) Ž (λb c=>by simp at c;subst c;exact⟨L,.inl Ž⟩)
  (λb h=>by have:=(S.pin j b h).2;rw[p]at this;cases this;rfl) (CY r.vM) (λk q J I _ e=>(S.P0 t x k q J I e).elim)
 rwa [gB p]at this
def SR.called{K:aT}{f:Hp}{e:cO}{a:az}{xs':List D}{b:List V}(S:SR K B Z G H d e)(i:j∈Z)(k:e[j]?=Y (Y (.lst g)))(h:d[j]?=Y (Y (.ref a)))(E:gf G (Dh H a) c f)(o:c a=M)(n:f a=Y (.lst b))(r:be K c xs' b):SR K B Z c f d (e.set j (Y (.lst xs'))):=
 S.O9 i k h E o n ⟨b,rfl,r⟩
def uy(F:List D->Option (D×List D))(j:Nat)(g:DL):DM:=λa=>(jl j a).bind λb=>(g a).bind λds=>(F (.lst b::ds)).map λq=>(q.1,a.set j (Y (.lst q.2)))
def Wj{F:List D->Option (D×List D)}{e:Pos}{g:DL}(h:ji X.prog X.w X.K X.mg X.base x k (BZ X.K 0 F))(hr:gc k X.A)(hg:Gl X x)(hy:PE X (.Name y e) (ko j))(ha:PA X l (Fk X.K Z g))(w:autoParam (j∈Z) Ű)(z:autoParam ((x==("__debug__" : aM))=false) Ű)(O:autoParam (av (.Name y e::l) X.env=(Z_,eval (.Name y e) X.env)::av l X.env) Ų)(u:autoParam ((dt m (av l X.env)).any (·.1)=false) Ų):PE X (.Call (.Name x p) (.Name y e::l) [] m) (tM X.K B Z (uy F j g)):=by
 obtain⟨f,fd,ps,h1,hm,hk,hb⟩:=h.ex;refine(vB h1 hr hg hm hk hb .nil pj (bM hy ha O) z O u).imp ?_;rintro σ H Q ⟨G,n,d,U,S,b,q⟩;unfold uy at b;obtain⟨r,E,b⟩:=aa.1 b;obtain⟨L,I,b⟩:=aa.1 b;obtain⟨⟨d',o⟩,J,b⟩:=ah.1 b;cases b;have C:=fX E;obtain⟨a,vs,K,e3,e4,e5,e6⟩:=S.nr w C;refine⟨_,K,G,n,L,S.gh,S.lh,I,λus G1 H1 s N =>?_⟩;have R:=S.ext s;obtain⟨a',t,P,f3,f4,f5,f6⟩:=R.nr w C;rw[K]at P;cases P;show BZ X.K 0 F ((.ref a::us)++[]) H1 Q E0;rw[cm];refine⟨G1,.lst r::L,d',o,a,t,r,s.gh,rfl,rfl,f3,f4,f5,λi c hi ec =>?_,by simp[N.length],J,λv VV G2 H2 T g2 h2 r2 r3 =>?_⟩
 ·cases i with
  |zero=>exact absurd rfl hi|succ i=>exact N.get (i:=i) (by simpa using ec)
 ·exact q v G2 H2 (R.called w C K T g2 h2 r2) (s.gg.trans T.gg) r3
end
section
variable {X:Cx}{m:List Nat}{f:DM}
noncomputable def nV(i:Nat)(f:DM):DG:=λa=>(f a).map λq =>.nx (q.2.set i (Y q.1))
def Wf{i:Nat}(w:X.N.Nodup)(p:X.N[i]?=Y x)(h:Loc X.env.scope x)(s:PE X e (tM X.K B Z f))(n:autoParam (i∉Z) Ű)(j:autoParam (cP e (Y (.Name x a)) l.line X.env=eQ false) Ų)(q:autoParam (X.fn x=Z'\/X.env.scope.names.lookup x=Y .local) ŭ):
  PS X (.Assign [.Name x a] e l) (jP X.K B m Z Z (nV i f)):=(js w p h s j q).imp <|by
 rintro D F H ⟨G,g,o,S,b,k⟩;unfold nV at b;obtain⟨⟨d,c⟩,z,b⟩:=ah.1 b;cases b;exact⟨G,g,d,c,S,z,λv E C A _ r=>k _ E C (A.xW n r)⟩
noncomputable def dM(f:DM):DG:=λa=>(f a).map λq =>.rm q.1 q.2
def yy(h:PE X e (tM X.K B Z f)):PS X (.Return (Y e) l) (jP X.K B m Z t (dM f)):=(pf h).imp <|by
 rintro D c H ⟨G,g,o,S,a,k⟩;unfold dM at a;obtain⟨⟨d,b⟩,i,a⟩:=ah.1 a;cases a;exact⟨G,g,d,b,S,i,λv p n j _ r=>k v c p n ⟨Z,j⟩ r⟩
def B1(i:Nat):DG:=λa=>(jl i a).map λb =>.rm (.lst b) a
def Mz(h:PE X (.Name x p) (ko i))(g:autoParam (i∈Z) Ű)(b:autoParam (∀a,(i,a)∉B.3) ū)(s:autoParam (Bi i∉Z) Ű)(e:autoParam (i<1000000) Ű):PS X (.Return (Y (.Name x p)) l) (jP X.K B m Z t (B1 i)):=(pf h).imp <|by
 rintro D r H ⟨G,F,o,S,d,k⟩;unfold B1 at d;obtain⟨O,C,d⟩:=ah.1 d;cases d;have n:=fX C;obtain⟨a,I,N,u,L,K,J⟩:=S.nr g n;obtain⟨E,q⟩:=S.freeze (Ź:=Z.filter (· != i)) (λj f=>(fm.mp f).1) i (λj f=>by
  by_cases c:j=i
  ·exact .inr c
  ·exact .inl (fm.mpr ⟨f,by simpa using c⟩)) (λz=>by have:=(fm.mp z).2;simp at this) g b s e
 obtain⟨v,A,w⟩:=q.env i _ (λz=>by have:=(fm.mp z).2;simp at this) n;exact⟨v,A,k v r E H ⟨_,q⟩ w⟩
def Hk(i:Nat)(f:DM):DG:=λa=>(jl i a).bind λ_=>(f a).bind λq=>(jl i q.2).bind λb=>if b.length<dU then Y (.nx (q.2.set i (Y (.lst (b++[q.1]))))) else M
def OS(h:PE X (.Name x p) (ko i))(T:PE X e (tM X.K B Z f))(F:autoParam (i∈Z) Ű)(q:autoParam (cB (.Name x p) "append" X.env (eval (.Name x p) X.env)=eval (.Name x p) X.env) Ų) (z:autoParam (((dt b (av (e::[]) X.env)).all (λx=> !x.1)&&(jg b (eJ [] X.env)).all (λx=>x.1.isSome)
   && decide ((e::[]).length+([]:List oP).length+(if ([]:List oP).isEmpty then 0 else 1)<30))=true) Ų) (n:autoParam ((g.endLine==b.line)=true) Ų) (L:autoParam (av (e::[]) X.env=(Z_,eval e X.env)::av [] X.env) Ų) (j:autoParam ((dt b (av [] X.env)).any (·.1)=false) Ų) (E:autoParam (cP (.Call (.Attribute (.Name x p) "append" g) [e] [] b) M l.line X.env=eQ false) Ų) :
  PS X (.Expr (.Call (.Attribute (.Name x p) "append" g) [e] [] b) l) (jP X.K B m Z Z (Hk i f)):=
 (gJ (rX dC PySem.F.slot_list_append PySem.F.type_list_append gX h (bM T cG L) q z n L j) E).imp <|by
  rintro D σ H ⟨G,A,o,S,c,k⟩;unfold Hk at c;obtain⟨ZP,I,c⟩:=aa.1 c;rw[aa]at c;obtain⟨⟨d,w⟩,J,c⟩:=c;rcases s:jl i w with _|ds
  ·rw[s]at c;cases c
  rw[s]at c;simp only[ab]at c;split at c
  ·cases c;rename_i R;obtain⟨a,Q,K,e3,e4,e5,e6⟩:=S.nr F (fX I);refine⟨_,K,.inl ⟨rfl,Q,.of e3⟩,G,A,d,w,S,J,λv G' H' P s' r =>?_⟩;have t:=fX s;obtain⟨a',C,O,U,N,_⟩:=P.nr F t;rw[K]at O;cases O;refine⟨a,C,v,rfl,rfl,U,?_,k _ G' _ (P.mut F t K (N.append (.cons r .nil)))⟩;rw[<- N.length];exact bx R hT
  ·cases c
def V8(f:DM):J_:=λa=>(f a).bind λq=>match q.1 with|.int j=>if -(2 ^ 62)<=j/\j<2 ^ 62 then Y (mm 0 j.toNat,q.2) else M|_=>M
def GG(w:Gl X "range")(s:X.mg "range" = M)(h:PE X e (tM X.K B Z f))(r:autoParam (av [e] X.env=(Z_,eval e X.env)::av [] X.env) Ų)(b:autoParam (av [e] X.env=[(Z_,eval e X.env)]) Ų):PI X o (.Call (.Name "range" p) [e] [] l) (VZ X.K B Z (V8 f)):=
 (Be w s (bM h cG r) b).imp <|by
  rintro D H R ⟨G,n,F,i,S,a,k⟩;unfold V8 at a;obtain⟨⟨d,g⟩,x,a⟩:=aa.1 a;cases d<;>simp only[ab]at a<;>try (cases a;done)
  split at a
  ·cases a;rename_i j c;exact⟨G,n,_,_,S,x,λv C A z E q=>⟨j,by rw[bE.mp q],c.1,c.2,k _ C A z (uT 0 j.toNat)⟩⟩
  ·cases a
end
def A1{K:aT}{c:D}{T:List az}(s:a_ G H)(L:a_ E H)(I:p∈Z)(J:x[p]?=Y c)(F:w[p]?=Y (.ref a))(r:oj K G H c a T)(P:T.Nodup)(X:∀b∈T,G b=M/\E b=M)(C:∀r q,c ≠ .eS r q)(O:∀(i:Nat) c,i≠p->x[i]?=Y c->∃v,w[i]?=Y v/\cI K G c v)(R:x.length=w.length)(Q:∀i∈Z,i=p\/x.length<=i):SR K ⟨G,E,[(p,a)],fl⟩ Z G H (start N w) (iV N.length x):=by
 have f:∀(i:Nat) v,w[i]?=Y v->(start N w)[i]?=Y (Y v):=λi v e=>by have g:i<w.length:=(af.mp e).1;unfold start;rw[b_ (by simpa using g),aF,e];rfl
 have n:∀i∈Z,(∃d,(iV N.length x)[i]?=Y (Y d))->i=p:=λi g ⟨d,e⟩=>by
  have:=(af.mp (oG e)).1;rcases Q i g with z|z
  ·exact z
  ·omega
 refine⟨s,a_.refl _,L,λb o e =>.inl e,λi d g e =>?_,⟨λ_=>T,λi d g e =>?_,λi d g e=>⟨P,X⟩,λi j d c g S ei ej B=>absurd ((n i g ⟨d,ei⟩).trans (n j S ⟨c,ej⟩).symm) B⟩,by simp[start,iV,R],λi b h =>?_,λj k q U h2 e =>?_⟩
 ·obtain⟨v,ev,l⟩:=O i d (λz=>g (z ▸ I)) (oG e);exact⟨v,f i v ev,l⟩
 ·have z:=n i g ⟨d,e⟩;subst z;have A:=oG e;rw[J]at A;cases A;exact⟨a,f _ _ F,r⟩
 ·have z:(i,b)=(p,a):=by simpa using h
  cases z;exact⟨I,f _ _ F⟩
 ·have z:=n j U ⟨_,e⟩;subst z;have A:=oG e;rw[J]at A;cases A;exact absurd rfl (C k q)
def A4{K:aT}(s:a_ G H)(j:p∈Z)(q:d[p]?=Y c)(h:e[p]?=Y (.ref a))(w:H a=Y o)(r:jt K G c o)(x:G a=M)(g:∀(i:Nat) c,i≠p->d[i]?=Y c->∃v,e[i]?=Y v/\cI K G c v)(n:d.length=e.length)(k:∀i∈Z,i=p\/d.length<=i):SR K ⟨G,Dh H a,[(p,a)],z⟩ Z G H (start N e) (iV N.length d):=
 A1 s HP j q h ((oj.cell r.vM).mpr ⟨⟨o,w,r⟩,rfl⟩) Ž (λb f=>by simp at f;subst f;exact⟨x,zK⟩) (CY r.vM) g n k
def IS{K:aT}{f:List D}(s:a_ G H)(j:p∈Z)(o:b[p]?=Y (.lst f))(h:e[p]?=Y (.ref a))(q:H a=Y (.lst d))(r:be K G f d)(w:G a=M)(g:∀(i:Nat) c,i≠p->b[i]?=Y c->∃v,e[i]?=Y v/\cI K G c v)(n:b.length=e.length)(k:∀i∈Z,i=p\/b.length<=i):SR K ⟨G,Dh H a,[(p,a)],x⟩ Z G H (start N e) (iV N.length b):=
 A4 s j o h q (show jt K G (.lst f) (.lst d) from⟨d,rfl,r⟩) w g n k
section
variable {P:bh}{K:aT}
def ir.uw{st:rN}{f:az}(F:ir K x I st f fd)(S:bu N ps (ay st))(p:Nat){Z Ź:List Nat}{g:DG}(hp:p∈Z)(RK:∀i∈Z,i=p\/ps.length<=i) (hb:∀(L:ai) (A:ip) (j:List Env) (s:aw) (H:Hp) (E:XK),gc k (A.deeper (sE I (ay st) s.heap.objs.size f L))->∀(B:Bs) (a:az),B.3=[(p,a)] ->
   qQ (xf gU P w K u y N I (ay st) f L A j s H E).LH (iD st) (jP K B [] Z Ź g)):cq P w K u y gU (k+1) f fd ps (BZ K p (Az ps.length N.length p g)):=by
 refine F.ok S (λvs H Q E h =>?_) (λL A j s H vs Q E hr h =>?_)
 ·obtain⟨G,ds,d,R,a,ws,X,gh,hd,hv,ha,r,ga,ro,hl,e,_⟩:=h;unfold Az at e;split at e
  ·rw[<- hl];assumption
  ·cases e
 ·obtain⟨G,ds,d,R,a,ws,X,gh,hd,hv,ha,r,ga,ro,hl,e,q⟩:=h;unfold Az at e;split at e
  ·rename_i hn;refine⟨_,hb L A j s H E hr ⟨G,Dh H a,[(p,a)],λ_ _=>False⟩ a rfl,?_⟩;obtain⟨o,eg,e⟩:=aa.1 e;have lF:∀ {σ:St}{C:cO}{O T:Hp}{o':List Nat}{U:List D},SR K ⟨G,Dh H a,[(p,a)],λ_ _=>False⟩ o' O T σ C->jl p C=Y U->∃z,T a=Y (.lst z)/\be K O U z/\O a=none:=fun {σ C O T o' U} c J=>by obtain⟨RJ,hσ⟩:=c.pin p a Ž;obtain⟨b,Z8,f2,f3,f4,f5,_⟩:=c.nr RJ (fX J);rw[hσ]at f2;cases f2;exact⟨Z8,f3,f4,f5⟩
   refine⟨G,_,o,IS gh hp hd hv ha r ga ro hl (by rw[hn];exact RK),eg,?_⟩;cases o with
   |rm d' C=>have e:sv (λX=>(d',X)) (jl p C)=Y (d,R):=e;obtain⟨U,J,e⟩:=ah.1 e;cases e;intro v σ O T ⟨o',c⟩ rv;obtain⟨z,f3,f4,f5⟩:=lF c J;exact q v z O T c.nO f5 f3 f4 rv
   |nx C=>have e:sv (λX=>(D.eN,X)) (jl p C)=Y (d,R):=e;obtain⟨U,J,e⟩:=ah.1 e;cases e;intro σ O T c;obtain⟨z,f3,f4,f5⟩:=lF c J;exact q _ z O T c.nO f5 f3 f4 (iY.mpr rfl)
   |_=>cases e
  ·cases e
end
def Oz(n:cO)(w:Fc)(u:DM)(i0:Nat):List D->List D->Option (List D×List D)
 |[],c=>Y ([],c)|d::e,c=>(w d (n.set i0 (Y (.lst c)))).bind λa=>(u a).bind λp=>(jl i0 p.2).bind λb=>(Oz n w u i0 e b).map λq=>(p.1::q.1,q.2)
def UR(f:DL)(src:List (Option Nat))(w:Fc)(u:DM)(i0 j0:Nat):DM:=λn=>(f n).bind λa=>if a.length<=dU then (jl j0 n).bind λb=>(Oz (nH src n) w u i0 a b).map λq=>(.lst q.1,n.set j0 (Y (.lst q.2))) else M
def Td(K:aT)(i0:Nat)(u:DM):TE:=λt H Q=>∃(B:Bs) (a:az),B.3=[(i0,a)]/\tM K B [i0] u t H Q
def Vr{X:Cx}(h:∀(B:Bs) (a:az),B.3=[(i0,a)]->PE X e (tM X.K B [i0] u)):PE X e (Td X.K i0 u):=by rintro b s t H Q I ⟨B,a,c,q⟩;exact h B a c b s t H Q I q
theorem Ae:∀ {l:List a}{i:Nat}{x:a},l[i]?=Y x->l.set i x=l
 |[],i,x,h=>by simp at h
 |y::l,0,x,h=>by simp at h;subst h;rfl
 |y::l,i+1,x,h=>by simp at h;simp[Ae h]
section
variable {K:aT}
def Dw{i:Nat}(e:(nH src n)[i]?=Y (Y d)):∃j,src[i]?=Y (Y j)/\n[j]?=Y (Y d):=by
 unfold nH at e;rw[aF]at e;obtain⟨o,a,e⟩:=ah.1 e;rw[a];cases o with
 |none=>cases e|some j=>
  have e:(n[j]?).getD M=Y d:=by simpa using e
  refine⟨j,rfl,?_⟩;rcases q:n[j]? with _|z
  ·rw[q]at e;cases e
  rw[q]at e;rw[show z=Y d from e]
def qm{i:Nat}{v:V}(b:src[i]?=Y (Y j))(a:t[j]?=Y (Y v)):(oW src t)[i]?=Y (Y v):=by
 unfold oW;rw[aF,b];simp[a]
def SR.inner{fl:aM->Int->Prop}{i0:Nat}(S:SR K B Z G H t (n.set j0 (Y (.lst q))))(y:jJ Z [i0] src=Z')(x:src[i0]?=Y (Y j0))(k:∃d,n[j0]?=Y d)(s:t[j0]?=Y (Y (.ref a))):
  SR K ⟨G,Dh H a,[(i0,a)],fl⟩ [i0] G H (oW src t) ((nH src n).set i0 (Y (.lst q))):=by
 have l:j0∈Z:=(kZ y x).mp Ž;obtain⟨d0,k⟩:=k;have N:j0<n.length:=(af.mp k).1;have P:(n.set j0 (Y (D.lst q)))[j0]?=Y (Y (.lst q)):=by rw[bC N]
 obtain⟨b,J,I,e3,e4,e5,e6⟩:=S.nr l P;rw[s]at I;cases I;refine⟨S.gh,a_.refl _,HP,λb o e =>.inl e,λi d g e =>?_,⟨λ_=>[a],λi d g e =>?_,λi d g e=>⟨Ž,λb C =>?_⟩,λi j d c g m _ _ f =>?_⟩,by simp[oW,nH],λi b h =>?_,λj r p R Q e =>?_⟩
 ·rcases g_ e with⟨rfl,_,_⟩|⟨f,e⟩
  ·exact absurd Ž g
  ·obtain⟨j,F,ej⟩:=Dw e;have m:j∉Z:=λz=>g ((kZ y F).mpr z)
   have:j0≠j:=λz=>m (z ▸ l)
   obtain⟨v,f1,X⟩:=S.env j d m (by rw[aj this];exact ej);exact⟨v,qm F f1,X⟩
 ·have z:i=i0:=by simpa using g
  subst z;rcases g_ e with⟨_,rfl,_⟩|⟨f,_⟩
  ·exact⟨a,qm x s,⟨_,e3,J,rfl,e4⟩,rfl⟩
  ·exact absurd rfl f
 ·simp at C;subst C;exact⟨e5,zK⟩
 ·simp at g m;exact absurd (g.trans m.symm) f
 ·have z:(i,b)=(i0,a):=by simpa using h
  cases z;exact⟨Ž,qm x s⟩
 ·have q1:j=i0:=by simpa using R
  have u:Cf j=i0:=by simpa using Q
  unfold Cf at u;omega
end
section
variable {X:Cx}{f:DL}
inductive VL {α:Type}(K:aT) (B:Bs) (Z:List Nat) (t:St) (e:α->cO) (F:Nat->α->Option (List D×α)) (G:Hp) (z:α) (r:List D) (i:Nat) (y:List V) (H:Hp):Prop
 |mk g l x o:y.length<=i->SR K B Z g H t (e x)->a_ G g->be K g l y->F i x=some (o,z)->l++o=r->VL K B Z t e F G z r i y H
def Rt{K:aT}(ho:jJ Z [i0] src=Z')(h0:src[i0]?=Y (Y j0))(hg:∀(B:Bs) v t H Q,He K B [i0] w v t H Q->g v t H Q)(q:tM K B Z (UR f src w u i0 j0) t H Q):
  QC (AZ K Z f) src g (sC K [i0] eU) (Td K i0 u) t H Q:=by
 obtain⟨G,n,d,ρ',S,h,k⟩:=q;have Zn:j0∈Z:=(kZ ho h0).mp Ž;unfold UR at h;obtain⟨j,ef,h⟩:=aa.1 h;have h:(if j.length<=dU then (jl j0 n).bind λxs=>(Oz (nH src n) w u i0 j xs).map λq=>(D.lst q.1,n.set j0 (Y (.lst q.2))) else M)=Y (d,ρ'):=h;split at h
 ·rename_i hz;obtain⟨Z6,el,h⟩:=aa.1 h;obtain⟨⟨rs,YG⟩,em,h⟩:=ah.1 h;cases h;have F:=fX el;obtain⟨a,vs0,e2,_⟩:=S.nr Zn F;refine⟨G,n,j,S.gh,S.lh,ef,λJ G1 H1 E1 ok =>?_⟩;have S1:=S.ext E1;rw[<- Ae F]at S1;refine⟨λi m ys H2=>m=j.length-i/\i<=j.length/\VL K B Z t (λb=>n.set j0 (Y (.lst b))) (λi=>Oz (nH src n) w u i0 (j.drop i)) G1 YG rs i ys H2,
   ⟨j.length,rfl,cD _,G1,[],Z6,rs,aH _,S1,a_.refl _,.nil,em,rfl⟩,?_⟩
  rintro i m ys H2 ⟨rfl,XN,G2,l,xs,o,Y',S2,s2,rx,c,rfl⟩;have sub:a_ G1 H2:=s2.trans S2.gh;by_cases C:i<j.length
  ·refine .inr ⟨ok.go i H2 sub C,?_,VL K B Z t (λb=>n.set j0 (Y (.lst b))) (λi=>Oz (nH src n) w u i0 (j.drop i)) G1 YG (l++o) (i+1),
    λr H' z=>⟨j.length-(i+1),ž,rfl,C,z⟩,λx H3 y =>?_⟩
   ·have:=hT;omega
   ·obtain⟨G3,E3,SK⟩:=ok.Kw i H2 x H3 G2 j[i] s2 S2.gh y (aO C);have S3:=S2.ext E3;rw[fW C]at c;unfold Oz at c;obtain⟨s,et,c⟩:=aa.1 c;obtain⟨⟨x4,ρ5⟩,ee,c⟩:=aa.1 c;obtain⟨N,X,c⟩:=aa.1 c;obtain⟨⟨P,xsE⟩,R,c⟩:=ah.1 c;cases c;have SI:=S3.inner (fl:=λ_ _=>False) ho h0 ⟨_,F⟩ e2;refine hg ⟨G3,Dh H3 a,[(i0,a)],λ_ _=>False⟩ _ _ _ _ ⟨G3,_,j[i],s,SI,SK,et,λσ4 G4 H4 S4=>⟨G4,s,Z',S4.gh,S4.lh,rfl,λG5 H5 E5=>uU ?_⟩⟩;refine⟨⟨G3,Dh H3 a,[(i0,a)],λ_ _=>False⟩,a,rfl,G5,s,x4,ρ5,S4.ext E5,ee,λv G6 H6 S6 s6 r6=>⟨G6,l++[x4],N,P,by simp;omega,?_,?_,?_,R,Ž⟩⟩
    ·obtain⟨RJ,hσ⟩:=S6.pin i0 a Ž;obtain⟨b,ws,f2,f3,f4,f5,_⟩:=S6.nr RJ (fX X);rw[hσ]at f2;cases f2;have hl:j0<n.length:=(af.mp F).1;have:=S3.called (xs':=N) Zn (by rw[bC hl]) e2 S6.nO f5 f3 f4;rw[List.set_set]at this;exact this
    ·exact s2.trans (E3.gg.trans S6.g0)
    ·exact(be.mono (E3.gg.trans S6.g0) l rx).append (.cons r6 .nil)
  ·have e:i=j.length:=by omega
   subst e;rw[pJ]at c;unfold Oz at c;cases c;refine .inl ⟨ok.stop _ H2 sub (aH _),λp hp =>?_⟩;have EA:=gf.alloc (p:=p) (o :=.lst ys) S2.gh hp;refine k _ _ _ (S2.ext EA) (E1.gg.trans (s2.trans EA.gg)) ?_;rw[cm];exact bZ.mpr ⟨p,ys,rfl,bj,be.mono EA.gg l rx⟩
 ·cases h
def Vs(S:fQ X N src A)(j:X.calm=Z')(e:PI X E L (AZ X.K Z f))(m:M4 T g)(a:∀i∈T,src[i]?=Y M)(h:∀(B:Bs) v t H Q,He X.K B [i0] w v t H Q->g v t H Q)(k:∀C s H b,PG (X.tw N A C s H b) E g/\E9 (X.tw N A C s H b) [] (sC X.K [i0] eU)/\PE (X.tw N A C s H b) O (Td X.K i0 u))(l:autoParam (src[i0]?=Y (Y j0)) Ų)(d:autoParam (jJ Z [i0] src=true) Ű)(c:autoParam (∀x,cK L X.env x=eQ x) ů):PE X (.ListComp O [⟨E,L,[],0⟩] A U) (tM X.K B Z (UR f src w u i0 j0)):=
 (Ll S j e m a k c).imp λt H Q q=>Rt d l h q
def sZ(K:aT)(i i0:Nat)(b:autoParam (i∉[i0]) Ű):∀(B:Bs) v t H Q,He K B [i0] (gN i) v t H Q->qG i v t H Q:=λB v t H Q ⟨G,n,d,a,S,r,c,k⟩=>by
 cases c;exact k _ G H (S.xW b r)
end
section
variable {X:Cx}
noncomputable def bp(c f:aM)(g:DF):DF:=λa=>(g a).bind λd=>match d with|.ins h b e=>if h=c then (b.zip e).lookup f else M|_=>M
theorem HK{K:aT}{f:aM}:∀ {b:List aM}{g:List D}{a:List V}{d:D},be K G g a->(b.zip g).lookup f=Y d->∃v,(b.zip a).lookup f=Y v/\cI K G d v
 |[],g,a,d,r,e=>by simp at e
 |k::b,[],a,d,r,e=>by simp at e
 | k::b,c::g,a,d,r,e=>by
  obtain⟨v,t,rfl,i,l⟩:=bt.mp r;simp only[cz,dO]at e ⊢;cases h:(f==k) with
  |true=>rw[h]at e;cases e;exact⟨v,rfl,i⟩|false=>rw[h]at e;exact HK l e
noncomputable def Ta:D->V
 |.bl b =>.bl b|.int i =>.int i|.str x =>.str x|_ =>.eN
def Hc{K:aT}{v:V}(h:A8 d=Z')(r:cI K G d v):v=Ta d/\rY v=true:=by
 cases d<;>first|(simp[A8]at h;done)|(simp only[cI]at r;subst r;exact⟨rfl,rfl⟩)
theorem Dl{K:aT}:∀ {b:List D}{a:List V},b.all A8=Z'->be K G b a->a=b.map Ta/\a.all rY=Z'
 |[],a,h,r=>by rw[cV.mp r];exact⟨rfl,rfl⟩
 |d::b,a,h,r=>by rw[km,aX]at h;obtain⟨v,t,rfl,c,e⟩:=bt.mp r;obtain⟨k,g⟩:=Hc h.1 c;obtain⟨i,f⟩:=Dl h.2 e;exact⟨by rw[k,i];rfl,by rw[km,g,f];rfl⟩
def Ws(b:Bool)(x:D)(a:List D):Option D:=if (A8 x&&a.all A8)=Z' then Y (.bl (if b then !Tn (Ta x) (a.map Ta) else Tn (Ta x) (a.map Ta))) else M
def Gf(a:Bool):D->D->Option D
 |x,.lst b=>Ws a x b|x,.tup b=>Ws a x b|_,_=>M
def VU{K:aT}(h:rD K (Gf c) x y H Q):YW K c x y H Q:=by
 obtain⟨G,t,C,d,k,w,u,l,q⟩:=h;have lF:∀(m:List D) (b:List V),Ws c t m=Y d->be K G m b->rY x=Z'/\b.all rY=Z'/\d=.bl (if c then !Tn x b else Tn x b):=λm b e r=>by
  unfold Ws at e;split at e
  ·rename_i i;rw[aX]at i;have v:cI K G t x:=by
    rcases w with z|⟨a,o,_,_,z⟩
    ·exact z
    ·cases t<;>first|exact z.elim|simp[A8]at i
   obtain⟨B,g⟩:=Hc i.1 v;obtain⟨A,f⟩:=Dl i.2 r;cases e;exact⟨g,f,by rw[B,A]⟩
  ·cases e
 unfold Gf at l;split at l<;>try (cases l;done)
 ·obtain⟨p,b,rfl,s,n⟩:=u.lst k;obtain⟨g,f,rfl⟩:=lF _ _ l n;exact⟨p,b,rfl,.inl (.of s),g,f,q _ G H (.refl k) (eY.mpr rfl)⟩
 ·obtain⟨p,b,rfl,s,n⟩:=u.tup k;obtain⟨g,f,rfl⟩:=lF _ _ l n;exact⟨p,b,rfl,.inr (.of s),g,f,q _ G H (.refl k) (eY.mpr rfl)⟩
def UI:BQ X (iT .In) (Gf Z_):=pG.imp Jj λx y H Q h=>VU h
noncomputable def Ma:D->Bool
 |.bl _=>Z'|_=>Z_
noncomputable def wa:D->Bool
 |.bl b=>b|_=>Z_
def gK(b:Bool):List D->Option D
 |[.lst a]=>if a.all Ma=Z' then Y (.bl (if b then a.all wa else a.any wa)) else M
 |_=>M
def Sy{K:aT}{f:List ai}(h:a.all Ma=Z')(r:be K G a l)(m:cv l f){i:Nat}{u:ai}(e:f[i]?=Y u):∃b,u=.bool b/\(a[i]?).map wa=Y b:=by
 have q:i<f.length:=(af.mp e).1;have d:i<a.length:=by rw[r.length,m.length];exact q
 have k:a[i]?=Y a[i]:=aO d;obtain⟨v,s,c⟩:=r.get k;obtain⟨w,p,g⟩:=m.get s;rw[e]at p;cases p;have o:Ma a[i]=true:=(cx.mp h) _ (vg d);cases n:a[i] with
 |bl b=>rw[n]at c k;have:=eY.mp c;subst this;exact⟨b,g,by rw[k];rfl⟩
 |_=>rw[n]at o;cases o
def Ka{ys:List D}{tr:Nat->Bool}(h:∀i,i<ys.length->(ys[i]?).map wa=Y (tr i)):(bY ys.length).all tr=ys.all wa/\(bY ys.length).any tr=ys.any wa:=by
 have:(bY ys.length).map tr=ys.map wa:=by
  apply C8;intro i;by_cases a:i<ys.length
  ·have:=h i a;rw[aF,aF,List.getElem?_range a,this];rfl
  ·rw[f9 (by simpa using a),f9 (by simpa using a)]
 constructor
 ·have e:=congrArg (λl=>l.all id) this;simpa [oB] using e
 ·have e:=congrArg (λl=>l.any id) this;simpa [List.any_map] using e
def BI(l:X.calm=Z')(h:Bool):mu X (.builtin (if h then "all" else "any")) (rC X.K (gK h)):=by
 intro A s P H xs us Q I R ⟨G,ds,d,O,r,t,q⟩;unfold gK at t;split at t
 ·rename_i m;split at t
  ·cases t;rename_i hb;obtain⟨v,rfl,T⟩:=r.one;obtain⟨a,vs,rfl,U,L⟩:=T.lst O;obtain⟨u,rfl,S⟩:=cv.one R;cases S;obtain⟨g,y,J,hz⟩:=I.list (.of U);obtain⟨o,j,hc,n0,hd⟩:=J.isList;have D:a≠s.heap.objs.size:=bR (aU j);have k:g.toArray.size=m.length:=by simp[L.length,y.length]
   let w:Nat->Bool:=λi=>((m[i]?).map wa).getD Z_
   have C:TruthOf X.prog X.w X.A.in1 (λi v=>g.toArray[i]?=Y v) w:=λi v s Q E hP N=>by
    obtain⟨b,rfl,K⟩:=Sy hb L y (i:=i) (u:=v) (by simpa using hP);have:w i=b:=by show ((m[i]?).map wa).getD Z_=b;rw[K];rfl
    rw[this]at N;exact jE N
   have f:=Ka (ys:=m) (tr:=w) λi hi=>by show _=Y (((m[i]?).map wa).getD Z_);rw[aO hi];rfl
   have lF:∀(b:Bool) (p:de) (n:Nat),(∀c F,c∉[s.heap.objs.size]->(s.heap.push { cls :=.type "list_iterator",data :=.fields #[.ref a,.int 0 0] }).get? c=Y F->p.get? c=Y F)->b=(if h then m.all wa else m.any wa) ->
     EP X A P Q (.bool b) { s with heap:=p,toks:=n }:=λb p n B K=>
    ⟨.bl b,H,I.kept (t':=n) λc F e=>B c F (λz=>by
     have z:c=s.heap.objs.size:=by simpa using z
     exact absurd (aU e) (by rw[z];exact ie _)) (ak _ e),rfl,by
     rw[K];exact q _ G H (.refl O) (eY.mpr rfl)⟩
   have x:(s.heap.push { cls :=.type "list_iterator",data :=.fields #[.ref a,.int 0 0] }).IsListIter s.heap.objs.size a 0/\(s.heap.push { cls :=.type "list_iterator",data :=.fields #[.ref a,.int 0 0] }).IsList a g.toArray:=
    ⟨⟨_,bz _ rfl,rfl,rfl⟩,⟨o,ak _ j,hc,n0,hd⟩⟩
   cases h with
   |true=>refine call_all_walk (jF J.isList ⟨s.heap.objs.size,_,_,_,_,_,w,rfl,Walks.list (A:=X.A.in1) (I.ok.hd l) _ a D g.toArray,x,C,λp n B =>?_⟩);rw[k,f.1];exact lF _ p n B rfl
   |false=>refine call_any_walk (jF J.isList ⟨s.heap.objs.size,_,_,_,_,_,w,rfl,Walks.list (A:=X.A.in1) (I.ok.hd l) _ a D g.toArray,x,C,λp n B =>?_⟩);rw[k,f.2];exact lF _ p n B rfl
  ·cases t
 ·cases t
variable {f:DF}
def GI(a:X.calm=Z')(d:Gl X "all")(c:X.mg "all" = M)(h:PE X e (tQ X.K Z f))(b:autoParam (av (e::[]) X.env=(Z_,eval e X.env)::av [] X.env) Ų):PE X (.Call (.Name "all" p) [e] [] j) (tP X.K Z (aQ (gK Z') (aC f aN))):=
 vY (BI a Z') d c PyProof.Rows.boot_all (vV h yA b) ſ ſ b rfl
def MK(a:X.calm=Z')(d:Gl X "any")(c:X.mg "any" = M)(h:PE X e (tQ X.K Z f))(b:autoParam (av (e::[]) X.env=(Z_,eval e X.env)::av [] X.env) Ų):PE X (.Call (.Name "any" p) [e] [] j) (tP X.K Z (aQ (gK Z_) (aC f aN))):=
 vY (BI a Z_) d c PyProof.Rows.boot_any (vV h yA b) ſ ſ b rfl
end
section
variable {X:Cx}{f:DF}
end
section
variable {X:Cx}{m:List Nat}{f:DF}
end
def O'{X:Cx}{g:List aM}{s:aw}(k:b.kind=.function)(h:v_ a g N d b=Z'):fQ (X.tw g a C s H t) N d b:=by
 unfold v_ at h;simp only[aX,cx,beq_iff_eq,wz]at h;obtain⟨⟨⟨r,q⟩,p⟩,o⟩:=h;refine⟨k,λy e=>r y e,λy e m =>?_,p,λi j x f n =>?_⟩
 ·show (Qh a X.env).names.lookup y.1=Y .cell\/(Qh a X.env).names.lookup y.1=Y .free;unfold Qh;rw[pq];rcases q y e with z|z
  ·rw[m]at z;exact absurd z ſ
  ·rcases z with z|z
   ·rw[z];exact .inl Ž
   ·rw[z];simp only[bI];split
    ·exact .inl rfl
    ·exact .inr rfl
 ·have l:i<d.length:=(af.mp f).1;have:=o i (by simpa using l);rw[f,n]at this;simp only[aX,beq_iff_eq]at this;exact this
section
variable {X:Cx}{f:DF}
end
noncomputable def RT(i j l:Nat):Fc:=λd e=>match d with|.tup [a,b,c]=>Y (((e.set i (Y a)).set j (Y b)).set l (Y c))|_=>M
def Mm{f:cO}(h:RT i j l d f=Y e):∃a b c,d=.tup [a,b,c]/\e=((f.set i (Y a)).set j (Y b)).set l (Y c):=by
 unfold RT at h;split at h
 ·cases h;exact⟨_,_,_,rfl,rfl⟩
 ·cases h
def I'{K:aT}{v:V}(r:cI K G (.tup [a,b,c]) v):∃p x y z,v=.ref p/\G p=Y (.tup [x,y,z])/\cI K G a x/\cI K G b y/\cI K G c z:=by
 obtain⟨p,j,e,g,i⟩:=cY.mp r;obtain⟨x,n,rfl,h,t⟩:=bt.mp i;obtain⟨y,l,rfl,f,t⟩:=bt.mp t;obtain⟨z,k,rfl,d,t⟩:=bt.mp t;rw[cV.mp t]at g;exact⟨p,x,y,z,e,g,h,f,d⟩
section
variable {X:Cx}{m:List Nat}
def MG{i:Nat}(h:PG X e (RQ X.K 3 (Bv (qG i) (Bv (qG j) (Bv (qG l) RS)))))(u:autoParam (i∉Z) Ű)(t:autoParam (j∉Z) Ű)(s:autoParam (l∉Z) Ű):PG X e (He X.K B Z (RT i j l)):=h.imp <|by
 rintro v A H Q ⟨G,C,d,f,S,r,w,k⟩;obtain⟨a,b,c,rfl,rfl⟩:=Mm w;obtain⟨p,x,y,z,rfl,g,q,o,n⟩:=I' r;exact⟨p,_,rfl,.of (S.gh _ _ g),rfl,x,_,rfl,y,_,rfl,z,_,rfl,rfl,k _ G H (((S.xW u q).xW t o).xW s n)⟩
end
end L2
namespace L2
open PySem PyProof.Rows PySem.Spec
section
variable {s:aw}
end
end L2
namespace L2
open PySem PySem.Spec PyProof.Rows
noncomputable def ud(c:List Int):List Int:=c.mergeSort (λa b=>decide (a<=b))
def lO(a:List Int):(ud a).Perm a:=List.mergeSort_perm a _
def yS(ns:List Int):(ud ns).Pairwise (· <= ·):=by
 have:=List.pairwise_mergeSort (le:=λa b:Int=>decide (a<=b)) (λa b c h1 h2=>by simp at *;omega) (λa b=>by simp;omega) ns;exact this.imp λh=>by simpa using h
def QH(p:a.Perm b)(h:a.Pairwise (· <= ·)):a=ud b:=PySem.W.ksm_same (p.trans (lO b).symm) h (yS b)
theorem vN:∀ {b:List Int}{a:List ai},cv (b.map V.int) a->Fq a b
 |[],a,h=>by cases h;exact .nil
 | n::r,a,h=>by
  cases h with
  |cons d c=>obtain⟨t,rfl⟩:=d;exact .cons n t (vN c)
def BU(h:Fq a b):cv (b.map V.int) a:=by
 induction h with|nil=>exact .nil|cons n t _ ih=>exact .cons ⟨t,rfl⟩ ih
section
variable {X:Cx}{f:DF}
noncomputable def Bq:List D->Option (List Int)
 |[]=>Y []|.int i::r=>(Bq r).map (i :: ·)|_::_=>M
theorem zw:∀ {b:List D}{a:List Int},Bq b=Y a->b=a.map D.int
 |[],a,h=>by cases h;rfl
 | d::r,a,h=>by
  cases d<;>simp only[Bq]at h<;>try (cases h;done)
  obtain⟨c,e,h⟩:=ah.1 h;cases h;rw[zw e];rfl
theorem oH{K:aT}:∀ {b:List Int}{a:List V},be K G (b.map D.int) a↔a=b.map V.int
 |[],a=>by simp[be]
 | n::r,a=>by
  simp only[aI,bt,bE];constructor
  ·rintro⟨v,t,rfl,rfl,h⟩;rw[oH.mp h]
  ·rintro rfl;exact⟨_,_,rfl,rfl,oH.mpr rfl⟩
end
section
variable {X:Cx}{m:List Nat}
end
section
variable {X:Cx}{m:List Nat}
end
end L2
namespace L2
open PySem
section
variable {X:Cx}
def vP(i:Nat)(f:autoParam (X.N[i]?=Y x) Ų)(c:autoParam (SD X.env.scope x) Ŷ)(e:autoParam ((x==("__debug__" : aM))=false) Ű)(b:autoParam ((x==("__classdict__" : aM))=false) Ű)(d:autoParam (i∉Z) Ű):PE X (.Name x a) (tP X.K Z (eV i)):=dv (pv i f c e b) d
def vQ(i:Nat)(f:autoParam (X.N[i]?=Y x) Ų)(c:autoParam (SD X.env.scope x) Ŷ)(e:autoParam ((x==("__debug__" : aM))=false) Ű)(b:autoParam ((x==("__classdict__" : aM))=false) Ű)(d:autoParam (i∉Z) Ű):PE X (.Name x a) (tQ X.K Z (eV i)):=dq (vP i f c e b d)
end
end L2
namespace L2
open PySem PySem.Spec PyProof.Rows
section
variable [DecidableEq G]
noncomputable def uc(f_:List (G×V))(k:G):Option V:=(f_.find? λa=>decide (a.1=k)).map (·.2)
noncomputable def xw(f_:List (G×V))(k:G)(v:V):List (G×V):=
 if (f_.any λa=>decide (a.1=k))=Z' then f_.map (λa=>if a.1=k then (a.1,v) else a) else f_++[(k,v)]
def vm{p:G×V}(e:p.1=k):uc (p::r) k=Y p.2:=by simp[uc,nc,e]
def sF{p:G×V}(e:¬p.1=k):uc (p::r) k=uc r k:=by simp[uc,nc,e]
theorem Dk(k:G):∀f_:List (G×V),(f_.any λa=>decide (a.1=k))=(uc f_ k).isSome
 |[]=>rfl| p::r=>by
  rw[pX];by_cases e:p.1=k
  ·simp only[vm e,decide_eq_true e,Bool.true_or,Option.isSome_some]
  ·rw[sF e,decide_eq_false e,Bool.false_or];exact Dk k r
def xK(f_:List (G×V))(k:G)(v:V):(xw f_ k v).length<=f_.length+1:=by
 unfold xw;split
 ·rw[aq];omega
 ·rw[aJ,aP,iU];omega
def sj.wV(r:sj o u):o.isSome=u.isSome:=by
 cases o with
 | none=>cases u with
  |none=>rfl|some _=>exact(show False from r).elim
 | some _=>cases u with
  |none=>exact(show False from r).elim
  |some _=>rfl
def sj.getD{u:Option ai}(r:sj o u)(b:RelV d a):RelV (o.getD d) (u.getD a):=by
 cases o with
 | none=>cases u with
  |none=>exact b|some _=>exact(show False from r).elim
 | some _=>cases u with
  |none=>exact(show False from r).elim
  |some _=>exact r
def KV.val{f:List (G×ai)}(r:KV f_ f)(k:G):sj (uc f_ k) (Kc f k):=by
 unfold KV at r
 induction r with
 |nil=>exact jW|@cons p q l a h t ih=>
  obtain⟨g,i⟩:=h;by_cases e:p.1=k
  ·have d:q.1=k:=g.symm.trans e;have b:Kc (q::a) k=Y q.2:=by simp[Kc,nc,d]
   rw[vm e,b];exact i
  ·have d:¬q.1=k:=λz=>e (g.trans z)
   have b:Kc (q::a) k=Kc a k:=by simp[Kc,nc,d]
   rw[sF e,b];exact ih
def KV.any(r:KV f_ b)(k:G):(f_.any λa=>decide (a.1=k))=b.any λa=>decide (a.1=k):=by
 unfold KV at r
 induction r with|nil=>rfl|cons h t ih=>rw[pX,pX,ih,h.1]
theorem KV.QP(r:KV f_ d)(k:G)(f:RelV y u):
  KV (f_.map λa=>if a.1=k then (a.1,y) else a) (d.map λa=>if a.1=k then (a.1,u) else a):=by
 unfold KV at r ⊢
 induction r with
 |nil=>exact .nil|@cons p q l i h t ih=>
  rw[aI,aI];refine .cons ?_ ih;obtain⟨b,g⟩:=h;by_cases e:p.1=k
  ·rw[if_pos e,if_pos (b.symm.trans e)];exact⟨b,f⟩
  ·rw[if_neg e,if_neg (λz=>e (b.trans z))];exact⟨b,g⟩
def KV.put(r:KV f_ a)(k:G){u:ai}(b:RelV y u):KV (xw f_ k y) (stored a k u):=by
 unfold xw stored;rw[r.any k];by_cases e:(a.any λd=>decide (d.1=k))=Z'
 ·rw[if_pos e,if_pos e];exact r.QP k b
 ·rw[if_neg e,if_neg e];exact Paired.snoc r ⟨rfl,b⟩
def KV.length{a:List (G×ai)}(r:KV f_ a):f_.length=a.length:=Paired.length r
end
def Ew{P:bh}{k:mi}(r:RelV (kV k) u):(iB P w).is k u=true:=by
 cases k with
 |inl i=>obtain⟨t,e⟩:=(show ∃t,u=jD i t from r);subst e;exact Ei P w i t
 |inr x=>obtain⟨t,e⟩:=(show ∃t,u=M' x t from r);subst e;exact Eh P w x t
theorem Bp{P:bh}:∀ {a:List mi}{b:List ai},cv (a.map kV) b->ItemsAre (iB P w) a b
 |[],_,r=>by rw[rP]at r;cases r;exact .nil
 | k::a,_,r=>by
  rw[aI]at r;cases r with
  |cons h t=>exact .cons (Ew h) (Bp t)
abbrev KT(H:Hp):List (List mi×V)->List (List mi×az×ai)->Prop:=Paired λp q=>p.1=q.1/\H q.2.1=Y (.tup (p.1.map kV))/\RelV p.2 q.2.2
def KT.val{f:List (List mi×az×ai)}(r:KT H f_ f)(k:List mi):sj (uc f_ k) ((SU f k).map (·.2)):=by
 induction r with
 |nil=>exact jW|@cons p q l a h t ih=>
  obtain⟨g,_,i⟩:=h;by_cases e:p.1=k
  ·have d:q.1=k:=g.symm.trans e;have b:SU (q::a) k=Y q.2:=by simp[SU,nc,d]
   rw[vm e,b];exact i
  ·have d:¬q.1=k:=λz=>e (g.trans z)
   have b:SU (q::a) k=SU a k:=by simp[SU,nc,d]
   rw[sF e,b];exact ih
theorem KT.QP(r:KT H f_ d)(k:List mi)(g:RelV y u):
  KT H (f_.map λb=>if b.1=k then (b.1,y) else b) (d.map (putAt k u)):=by
 induction r with
 |nil=>exact .nil|@cons p q o l h t ih=>
  rw[aI,aI];refine .cons ?_ ih;obtain⟨a,f,i⟩:=h;unfold putAt;by_cases e:p.1=k
  ·rw[if_pos e,if_pos (a.symm.trans e)];exact⟨a,f,g⟩
  ·rw[if_neg e,if_neg (λz=>e (a.trans z))];exact⟨a,f,i⟩
def KT.put(r:KT H f_ a)(k:List mi){u:ai}(g:H b=Y (.tup (k.map kV)))(d:RelV y u):
  KT H (xw f_ k y) (storedH a k b u):=by
 have e:(f_.any λf=>decide (f.1=k))=(SU a k).isSome:=by rw[Dk,(r.val k).wV,Option.isSome_map]
 unfold xw storedH;rw[e];by_cases q:(SU a k).isSome=Z'
 ·rw[if_pos q,if_pos q];exact r.QP k d
 ·rw[if_neg q,if_neg q];exact Paired.snoc r ⟨rfl,g,d⟩
def KT.keeps(r:KT H f_ d)(f:∀b a,H b=Y (.tup a)->e b=Y (.tup a)):KT e f_ d:=
 Paired.UQ r λ_ _ z=>⟨z.1,f _ _ z.2.1,z.2.2⟩
section
variable {P:bh}
def Lc(b:qf P w H h)(e:Rd H a u):gF P w H h a u:=e.ok b
def BA(d:qf P w H h)(e:Rd H a (.dK f_)):f_.length<=bc/\(a==lj)=Z_/\∃b,KV f_ b/\h.DictOf (iB P w) a b:=
 show gF P w H h a (.dK f_) from Lc d e
def Vt(d:qf P w H h)(e:H a=Y (.dK f_)):f_.length<=bc/\(a==lj)=Z_/\∃b,KV f_ b/\h.DictOf (iB P w) a b:=BA d (.inl e)
def zq(f:qf P w H h)(e:H a=Y (.tup (b.map kV))):(Di (iB P w)).is h b a:=by
 obtain⟨_,d,r,o,k,i,n,g⟩:=(show gF P w H h a (.tup (b.map kV)) from f a _ e);exact⟨o,d.toArray,n,k,i,g,by simpa using Bp r⟩
def Bz(g:qf P w H h)(e:Rd H a (.dT f_)):f_.length<=bc/\(a==lj)=Z_ /\
  ∃d,KT H f_ d/\h.DictOfH (Di (iB P w)) a d:=by
 obtain⟨z,y,d,r,o,D,E,A,v,u,s,k⟩:=(show gF P w H h a (.dT f_) from Lc g e);refine⟨z,y,d,r,o,D,E,A,v,u,s,λx b =>?_,k⟩;have f:∀ {l:List (List mi×V)}{m:List (List mi×az×ai)},KT H l m->∀x∈m,(Di (iB P w)).is h x.1 x.2.1:=by
  intro l m q
  induction q with
  |nil=>intro x b;exact nomatch b
  |@cons p q I F i t ih=>
   intro x b;rcases aE.mp b with e|b
   ·subst e;exact zq g (by rw[<- i.1];exact i.2.1)
   ·exact ih x b
 exact f r x b
def Vo(d:qf P w H h)(e:H a=Y (.dT f_)):f_.length<=bc/\(a==lj)=Z_ /\
  ∃b,KT H f_ b/\h.DictOfH (Di (iB P w)) a b:=Bz d (.inl e)
end
def ye(H:Hp)(a:az)(y:V)(r:Option V):Prop:=
 (∃f_ k,Rd H a (.dK f_)/\y=kV k/\r=uc f_ k)\/∃f_ k b,Rd H a (.dT f_)/\y=.ref b/\H b=Y (.tup (k.map kV))/\r=uc f_ k
def M5(H:Hp)(a:az)(y v:V)(d:Hp):Prop:=
 (∃f_ k,H a=Y (.dK f_)/\y=kV k/\f_.length<bc/\d=dg H a (.dK (xw f_ k v))) \/
 ∃f_ k b,H a=Y (.dT f_)/\y=.ref b/\H b=Y (.tup (k.map kV))/\f_.length<bc/\d=dg H a (.dT (xw f_ k v))
def ye.k{a:az}{k:mi}(e:H a=Y (.dK f_)):ye H a (kV k) (uc f_ k) :=.inl ⟨f_,k,.inl e,rfl,rfl⟩
def M5.k{a:az}{k:mi}{v:V}(e:H a=Y (.dK f_))(b:f_.length<bc):M5 H a (kV k) v (dg H a (.dK (xw f_ k v))) :=.inl ⟨f_,k,e,rfl,b,rfl⟩
section
variable {X:Cx}{s:aw}{v:V}
def Inv.VA(I:Inv X C B H s):lj<s.heap.objs.size:=by
 have h:bw<s.heap.objs.size:=(I.mod.glob.keeps I.bk).lt;exact Nat.lt_trans ſ h
def JU(F:A.units+1<su)(I:Inv X C B H s)(g:ye H a y (Y v))(w:RelV y u)(h:∀i t,Inv X C B H t->RelV v i->Q i t):
  bB (br X.prog X.w) A (Kd (.ref a) u) Q E s:=by
 rcases g with⟨f_,k,e,q,l⟩|⟨f_,k,b,e,q,P,l⟩
 ·subst q;obtain⟨z,c,D,f,r⟩:=BA I.iw e;obtain⟨i,hw,d⟩:=sj.some_of (v:=v) (o:=Kc D k) (by rw[l];exact f.val k);exact wpAny_getItem_of (Ew w) r.mapOf hw (h i _ (I.tok _) d)
 ·subst q;cases (show u=cf b from w);obtain⟨z,c,x,f,r⟩:=Bz I.iw e;obtain⟨i,hw,d⟩:=sj.some_of (v:=v) (o:=(SU x k).map (·.2)) (by rw[l];exact f.val k);obtain⟨p,K,o⟩:=ah.mp hw;refine wpAny_getItem_heap (va F) (zq I.iw P) r K ?_;rw[o];exact h i _ (I.tok _) d
def O0(v:A.units+1<su)(I:Inv X C B H s)(g:ye H a y o)(t:RelV y u)(h:∀r,Inv X C B H r->Q (.bool (!o.isSome)) r):
  bB (br X.prog X.w) A (iT .NotIn u (.ref a)) Q E s:=by
 rcases g with⟨f_,k,e,i,l⟩|⟨f_,k,b,e,i,w,l⟩
 ·subst i;obtain⟨z,f,D,d,p⟩:=BA I.iw e;refine wpAny_notIn_of (Ew t) f p.mapOf ?_;rw[<- (d.val k).wV,<- l];exact h _ (I.tok _)
 ·subst i;cases (show u=cf b from t);obtain⟨z,f,x,d,p⟩:=Bz I.iw e;refine wpAny_notIn_heap (va v) (zq I.iw w) f p ?_;have q:=(d.val k).wV;rw[Option.isSome_map]at q;rw[<- q,<- l];exact h _ (I.tok _)
def Ia{t':Nat}{e:HO}(I:Inv X C B H s)(g:VI (H a))(h:ll a s.heap d)(i:∃q,d.get? a=Y q)(f:gF X.prog X.w (dg H a e) d a e):
  Inv X C B (dg H a e) { s with heap:=d,toks:=t' }:=
 I.write (x:=a) (e:=a) g (.inl rfl) (λb q k z=>(h.2 b k).trans z) i f
def R'{P:bh}(z:f_.length<=bc)(f:(a==lj)=Z_)(d:KV f_ b)(g:e.DictOf (iB P w) a b):
  gF P w h e a (.dK f_):=⟨z,f,b,d,g⟩
def JS(hu:A.units+1<su)(I:Inv X C B H s)(g:M5 H a y v H')(j:RelV y u)(P:RelV v r)(h:∀K,Inv X C B H' K->Q () K):
  bB (br X.prog X.w) A (setItem (.ref a) u r) Q E s:=by
 rcases g with⟨f_,k,e,x,l,D⟩|⟨f_,k,b,e,x,eb,l,D⟩
 ·subst x D;obtain⟨z,w,vs,d,F⟩:=Vt I.iw e;have o:vs.length<=bc:=by rw[<- d.length];exact z
  have t:(xw f_ k v).length<=bc:=by have:=xK f_ k v;omega
  refine wpAny_setItem_pairs (hsz:=o) (Ew j) F λR f p=>h _ ?_
  have he:∃q,R.get? a=Y q:=let ⟨q,_,_,i,_⟩:=f;⟨q,i⟩;exact Ia I (by rw[e];exact jW) p he (R' t w (d.put k P) f)
 ·subst x D;cases (show u=cf b from j);obtain⟨z,w,xs,d,F⟩:=Vo I.iw e;have o:xs.length<=bc:=by rw[<- Paired.length d];exact z
  have t:(xw f_ k v).length<=bc:=by have:=xK f_ k v;omega
  refine wpAny_setItem_heap (hsz:=o) (va hu) (zq I.iw eb) F λR f p=>h _ ?_
  obtain⟨q,es,ep,i,h2,h3,h4,_,h5⟩:=f;refine Ia I (by rw[e];exact jW) p ⟨q,i⟩ ⟨t,w,_,(d.put k eb P).keeps λc ys S =>?_,q,es,ep,i,h2,h3,h4,h5⟩;rw[aY (UK S e (λz=>nomatch z))];exact S
end
section
variable {X:Cx}{s:aw}
end
def SF(i:Expr):Prop:=∀a b,Nl i Z_ a b=operate [a,b] (Kd a b)
def Nz{s:aw}(y:typeLookup (.type a) "__getitem__" = eQ (Y (.builtin u)))(v:SF d)(h:bB (br b w) A (eval T l) (λo k=>bB (br b w) A (eval d l) (λi e=>e.TypeIs o a/\bB (br b w) A (Kd o i) Q E e) E k) E s):
  bB (br b w) A (eval (.Subscript T d N) l) Q E s:=by
 refine Subscript_ (ij h (λo k q=>ij q (λi e f =>?_) λ_ _ x=>x) λ_ _ x=>x);obtain⟨t,f⟩:=f;unfold subscriptTail;refine aD ?_;rw[getitemInPython_of_ne t.not_modules];refine aD (wpAny_specialOf t y ?_);have lF:bB (br b w) A (Nl d Z_ o i) (λr g=>bB (br b w) A (letTemporaryGo T o r >>= λ_=>eQ r) Q E g) E e:=by rw[v o i];exact wpAny_operating (ij f (λr g p=>aD (wpAny_letTemporaryGo (bD p))) λ_ _ x=>x)
 first
  |exact bD (aD lF)
  |exact aD (bD (aD lF))
  |exact aD lF
def EJ{X:Cx}{s:aw}(I:Inv X C B H s)(g:ye H a y o):s.TypeIs (.ref a) "dict" :=by
 rcases g with⟨f_,k,e,_,_⟩|⟨f_,k,b,e,_,_,_⟩
 ·obtain⟨_,_,h,_,d⟩:=BA I.iw e;exact d.typeIs
 ·obtain⟨_,_,f,_,d⟩:=Bz I.iw e;exact d.typeIs
def TZ(J L:TE):TE:=λB H Q=>J B H λx d=>L B d λy b=>∃a v,x=.ref a/\ye b a y (Y v)/\Q v b
def Nw(L J:TE):TE:=λB H Q=>L B H λy d=>J B d λx b=>∃a o,x=.ref a/\ye b a y o/\Q (.bl (!o.isSome)) b
def Uk(J L U:TE):TS:=λD B H=>U B H λv f=>J B f λx e=>L B e λy d=>∃a b,x=.ref a/\M5 d a y v b/\D.nx B b
section
variable {X:Cx}{m:Pos}
def N9(q:X.A.units+1<su)(t:PE X o J)(w:PE X i L)(r:SF i):PE X (.Subscript o i N) (TZ J L):=by
 intro C s B H Q I h;refine Nz PySem.F.slot_dict_getitem.lookup r (fS (t C s B H _ I h) ?_);rintro u e ⟨x,F,D,k,p⟩;refine fS (w C e B F _ D p) ?_;rintro R P ⟨y,E,d,f,a,v,z,g,l⟩;subst z;obtain rfl:u=cf a:=k;exact⟨EJ d g,JU q d g f λK c A b=>⟨v,E,A,b,l⟩⟩
def Jf(p:X.A.units+1<su)(r:PE X i L)(q:PE X o J):PC X .NotIn i o (Nw L J):=by
 intro C s B H Q I h;refine fS (r C s B H _ I h) ?_;rintro K b ⟨y,D,z,d,k⟩;refine fS (q C b B D _ z k) ?_;rintro u F ⟨x,A,w,e,a,l,t,g,f⟩;subst t;obtain rfl:u=cf a:=e;exact O0 p w g d λE v=>⟨.bl (!l.isSome),A,v,rfl,f⟩
def N3(w:X.A.units+1<su)(A:PE X o J)(E:PE X i L)(t:PE X T U)(z:cP T (Y (.Subscript o i j)) N.line X.env=eQ Z_):
  PS X (.Assign [.Subscript o i j] T N) (Uk J L U):=by
 intro C s B H D I h;refine wpAny_Assign_Subscript (fS (t C s B H _ I h) ?_) z;rintro r d ⟨v,H1,Q,k,q⟩;refine fS (A C d B H1 _ Q q) ?_;rintro u b ⟨x,S,P,f,p⟩;refine fS (E C b B S _ P p) ?_;rintro iv s3 ⟨y,H3,c,e,a,R,F,g,l⟩;subst F;obtain rfl:u=cf a:=f;exact JS w c g e k λs4 K=>⟨B,R,K,l⟩
end
def MF{P:bh}{w:cX}(h:de)(a:lj<h.objs.size):gF P w H (h.push { cls :=.type "dict",data :=.dict #[] }) h.objs.size (.dK []):=
 ⟨cD _,beq_eq_false_iff_ne.mpr (cg (bR a)),[],.nil,Heap.DictOf.new h⟩
def QD:TE:=λ_ H Q=>∀p,H p=M->Q (.ref p) (dg H p (.dK []))
section
variable {X:Cx}
def Ln:PE X (.Dict [] [] N) QD:=λC s B H Q I h=>
 wpAny_Dict_empty ⟨.ref s.heap.objs.size,_,I.laid (a:=s.heap.objs.size) (o :=.dK []) (t':=s.toks) (λ_ _ q=>ak _ q) (aH _) (MF s.heap I.VA),rfl,h _ (I.iw.fresh (aH _))⟩
end
structure M2(X:Cx)(o:Expr)(m:aM)(u9:Pos)(e f:Expr)(xg:Pos):Prop where
 base:cB o m X.env (eval o X.env)=eval o X.env
 Vi:((dt xg (av [e,f] X.env)).all (λx=> !x.1)&&(jg xg (eJ [] X.env)).all (λx=>x.1.isSome)
  && decide (([e,f]:List Expr).length+([]:List oP).length+(if ([]:List oP).isEmpty then 0 else 1)<30))=true
 line:(u9.endLine==xg.line)=true
 trees:dt xg (av [e,f] X.env)=[(false,eval e X.env),(false,eval f X.env)]
def ZZ(H:Hp)(a:az):Prop:=(∃f_,Rd H a (.dK f_))\/∃f_,Rd H a (.dT f_)
def RC{X:Cx}{s:aw}(I:Inv X C B H s)(d:ZZ H a):
  s.TypeIs (.ref a) "dict" /\(∀b,cf a=.ref b->∃f,s.heap.get? b=Y f/\f.dict=M)/\(a==lj)=false:=by
 rcases d with⟨f_,e⟩|⟨f_,e⟩
 ·obtain⟨_,h,o,_,g⟩:=BA I.iw e;refine⟨g.typeIs,λb q =>?_,h⟩;cases q;obtain⟨f,_,_,k,i,_⟩:=g;exact⟨f,k,i.2.1⟩
 ·obtain⟨_,h,l,_,g⟩:=Bz I.iw e;refine⟨g.typeIs,λb q =>?_,h⟩;cases q;obtain⟨f,_,_,k,i,_⟩:=g;exact⟨f,k,i.2.1⟩
section
variable {X:Cx}{s:aw}
def Sl(F:A.units+1<su)(I:Inv X C B H s)(g:ye H a y o)(w:RelV y u)(x:RelV d r)(h:∀t v,Inv X C B H v->RelV (o.getD d) t->Q t v):
  bB (br X.prog X.w) A (call (.builtin "dict.get") [.ref a,u,r]) Q E s:=by
 rcases g with⟨f_,k,e,q,l⟩|⟨f_,k,b,e,q,K,l⟩
 ·subst q;obtain⟨z,p,c,f,i⟩:=BA I.iw e;refine call_meetsIn PySem.F.slot_dict_get i.typeIs PySem.F.entry_dict_get (PySem.F.args_dict_get_3 _ _ _) (meets_dict_get_default (iB X.prog X.w) a (Ew w) p r) ⟨_,i.mapOf,h _ _ (I.tok _) ?_⟩;rw[l];exact(f.val k).getD x
 ·subst q;cases (show u=cf b from w);obtain⟨z,p,D,f,i⟩:=Bz I.iw e;refine call_meetsIn PySem.F.slot_dict_get i.typeIs PySem.F.entry_dict_get (PySem.F.args_dict_get_3 _ _ _) (meetsH_dict_get_default (Di (iB X.prog X.w)) a b p r) ⟨va F,k,D,zq I.iw K,i,h _ _ (I.tok _) ?_⟩;rw[l];exact(f.val k).getD x
end
def QE(J L c:TE):TE:=λB H Q=>J B H λx d=>∃a,x=.ref a/\ZZ d a/\L B d λy e=>c B e λz b=>∃o,ye b a y o/\Q (o.getD z) b
section
variable {X:Cx}{f:Expr}
def Lo(E:X.A.units+1<su)(F:PE X o J)(j:PE X e L)(K:PE X f c)(m:M2 X o "get" n e f O):PE X (.Call (.Attribute o "get" n) [e,f] [] O) (QE J L c):=by
 intro C s B H Q I h;refine wpAny_Call_method m.base m.Vi m.line PySem.F.plainAttrs_dict PySem.F.slot_dict_get PySem.F.type_dict_get (fS (F C s B H _ I h) ?_);rintro u q ⟨x,H1,i,v,a,P,d,D⟩;subst P;obtain rfl:u=cf a:=v;obtain⟨l,k,_⟩:=RC i d;refine⟨l,k,?_⟩;rw[m.trees];refine Aj rfl (Calls.evalArgs_plain (Ha (fS (j C q B H1 _ i D) λiv p ⟨y,H2,I2,t,A⟩=>Ha (fS (K C p B H2 _ I2 A) λfv s3 ⟨z,H3,S,r,ov,g,w⟩=>Calls.spliced_nil ?_))))
 exact Sl E S g t r λw' s4 R b=>⟨_,H3,R,b,w⟩
end
section
variable {X:Cx}{s:aw}
end
section
variable {X:Cx}{s:aw}
end
abbrev tJ(K:aT)(c f:aM):Prop:=∀C,vb K bw c=Y (Y (.ref C))->GV K C/\rJ K C f
theorem Hr{K:aT}{f:aM}{d:D}{v:V}(m:cI K G d v):∀ {a:List aM}{g:List D}{h:List V},a.length=g.length->be K G g h->∃b,lU f v (a.zip h)=(je f d a g).1.zip b/\(je f d a g).1.length=(je f d a g).2.length/\be K G (je f d a g).2 b
 |[],[],h,c,r=>by rw[cV.mp r];exact⟨[v],rfl,rfl,.cons m .nil⟩
 |[],x::g,h,c,r=>by simp at c
 |k::a,[],h,c,r=>by simp at c
 | k::a,x::g,h,c,r=>by
  obtain⟨u,i,rfl,o,n⟩:=bt.mp r;simp only[aP,Na]at c;unfold je;rw[cz,show lU f v ((k,u)::a.zip i)=(if k=f then (k,v)::a.zip i else (k,u)::lU f v (a.zip i)) from rfl];by_cases j:k=f
  ·rw[if_pos j,if_pos j];exact⟨v::i,rfl,by simp[c],.cons m n⟩
  ·rw[if_neg j,if_neg j];obtain⟨b,e,l,q⟩:=Hr m c n;exact⟨u::b,by rw[cz,e],by simp[l],.cons o q⟩
def vl{a:List d}(h:a.length=b.length):(a.zip b).length=a.length:=by simp[h]
theorem oJ{K:aT}{G:Hp}{f:aM}:∀ {a:List aM}{b:List V},f∉a->(a.zip b).lookup f=M
 |[],b,h=>by simp
 |k::a,[],h=>by simp
 |k::a,v::b,h=>by simp only[aE,not_or]at h;rw[cz,dO,beq_eq_false_iff_ne.mpr h.1];exact oJ (K:=K) (G:=G) h.2
section
variable {X:Cx}
def pV{c f:aM}(h:PE X e (tQ X.K Z g))(p:tJ X.K c f)(x:autoParam (cB e f X.env (eval e X.env)=eval e X.env) Ų):
  PE X (.Attribute e f I) (tP X.K Z (bp c f g)):=(sU h x).imp <|by
 rintro F H Q ⟨G,m,d,z,j,b,k⟩;unfold bp at b;rw[aa]at b;obtain⟨o,l,b⟩:=b;refine⟨G,m,o,z,j,l,λv E D q w =>?_⟩;cases o<;>simp only[ab]at b<;>try (cases b;done)
 split at b
 ·rename_i i;subst i;obtain⟨a,C,B,K,rfl,y,n,_,t⟩:=w.Xq q.gh;obtain⟨u,A,r⟩:=HK t b;exact⟨a,C,B,_,u,rfl,y,(p C n).1,(p C n).2,A,k u E D q r⟩
 ·cases b
end
section
variable {X:Cx}{s:List Nat}
noncomputable def F2:DG:=λ_=>M
def Vq:PS X a (jP X.K B s Z own1 F2):=Lh.imp <|by rintro D c H ⟨G,d,o,S,b,k⟩;cases b
def Bt(c:aM)(i:Nat)(a:cO):Option (List aM×List D):=(eV i a).bind λd=>match d with|.ins f b e=>if f=c then Y (b,e) else M|_=>M
def Gr{e:List D}(h:Bt c i a=Y (b,e)):a[i]?=Y (Y (.ins c b e)):=by
 unfold Bt at h;obtain⟨d,g,h⟩:=aa.1 h;have:=jd g;cases d<;>simp only[ab]at h<;>try (cases h;done)
 split at h
 ·rename_i f;cases h;subst f;exact this
 ·cases h
def SR.Xb{K:aT}{G:Hp}{d:List aM}{f:List D}(S:SR K B Z G H g j)(k:i∈Z)(h:j[i]?=Y (Y (.ins c d f))):
  ∃a C e b,g[i]?=Y (Y (.ref a))/\H a=Y (.ins C e (d.zip b))/\vb K bw c=Y (Y (.ref C))/\d.length=f.length/\be K G f b/\G a=M/\B.2 a=none:=by
 obtain⟨a,q,p,o,⟨C,e,b,rfl,n,l,r⟩,m⟩:=S.Jh k h rfl;exact⟨a,C,e,b,p,o,n,l,r,m⟩
def lT(i:Nat)(c f:aM)(b:DF):DG:=λa=>(b a).bind λd=>(Bt c i a).bind λq=>if q.1.length<999 then Y (.nx (a.set i (Y (.ins c (je f d q.1 q.2).1 (je f d q.1 q.2).2)))) else M
def X7{i:Nat}{c f:aM}{w:DF}(h:PE X (.Name x p) (ko i))(P:PE X e (tP X.K Z w))(u:tJ X.K c f)(q:autoParam (i∈Z) Ű)(N:autoParam (cP e (Y (.Attribute (.Name x p) f T)) I.line X.env=eQ false) Ų):
  PS X (.Assign [.Attribute (.Name x p) f T] e I) (jP X.K B s Z Z (lT i c f w)):=(B_ h P N).imp <|by
 rintro D σ H ⟨G,m,o,S,b,k⟩;unfold lT at b;obtain⟨d,R,b⟩:=aa.1 b;rcases j:Bt c i m with _|⟨ks,ds⟩
 ·simp[j]at b
 simp only[j,ab]at b;split at b
 ·cases b;rename_i hz;have t:=Gr j;refine⟨G,m,d,S.gh,S.lh,R,λv G' H' E r =>?_⟩;have F:=S.ext E;obtain⟨a,C,A,vs,z,e3,n,l,y,e5,e6⟩:=F.Xb q t;obtain⟨g,Q,J,K⟩:=Hr (f:=f) r l y;refine⟨_,z,a,C,A,_,rfl,e3,(u C n).1,(u C n).2,?_,?_⟩
  ·rw[vl (by rw[l,y.length])];omega
  ·rw[Q];exact k _ G' _ (F.UN q t z ⟨C,A,g,rfl,n,J,K⟩)
 ·cases b
abbrev NQ(a:Int->Int->Int):V->V->Hp->VK->Prop:=λx y H Q=>∃i j,x=.int i/\y=.int j/\Q (.int (a i j)) H
noncomputable def eD(f:DM):DG:=λa=>(f a).map λq =>.nx q.2
def zQ{f:DM}(i:PE X e (tM X.K B Z f))(h:autoParam (cP e M I.line X.env=eQ false) Ų):PS X (.Expr e I) (jP X.K B s Z Z (eD f)):=(gJ i h).imp <|by
 rintro D c H ⟨G,g,o,S,a,k⟩;unfold eD at a;obtain⟨⟨d,b⟩,j,a⟩:=ah.1 a;cases a;exact⟨G,g,d,b,S,j,λv n m l _ r=>k c n m l⟩
end
inductive QI (K:aT) (p:Nat) (F:List D->Option (D×D)) (f:List V) (H:Hp) (Q:VK) (_x:XK):Prop
 |mk G b d j a o c:a_ G H->b[p]?=some c->f[p]?=some (.ref a)->H a=some o->jt K G c o->G a=none->(∀(i:Nat) c,i≠p->b[i]?=some c->∃v,f[i]?=some v/\cI K G c v)->b.length=f.length->F b=some (d,j)->(∀v h e g,gf G (Dh H a) e g->e a=none->g a=some h->jt K e j h->cI K e d v->Q v g)->QI K p F f H Q _x
def Xd(p:Nat):DO->Option (D×D)
 |.rm d a=>(eV p a).bind λc=>if vM c=Z' then Y (d,c) else M
 |.nx a=>(eV p a).bind λc=>if vM c=Z' then Y (.eN,c) else M
 |_=>M
def runC(n N p:Nat)(g:DG)(a:List D):Option (D×D):=if a.length=n then (g (iV N a)).bind (Xd p) else M
section
variable {P:bh}{K:aT}
def ir.okC{R:rN}{f:az}(F:ir K x l R f fd)(S:bu N ps (ay R))(p:Nat){Z Ź:List Nat}{g:DG}(hp:p∈Z)(RK:∀i∈Z,i=p\/ps.length<=i) (hb:∀(t:ai) (A:ip) (j:List Env) (s:aw) (H:Hp) (E:XK),gc k (A.deeper (sE l (ay R) s.heap.objs.size f t))->∀(B:Bs) (a:az),B.3=[(p,a)] ->
   qQ (xf gU P w K O U N l (ay R) f t A j s H E).LH (iD R) (jP K B [] Z Ź g)):cq P w K O U gU (k+1) f fd ps (QI K p (runC ps.length N.length p g)):=by
 refine F.ok S (λvs H Q E h =>?_) (λt A j s H vs Q E hr h =>?_)
 ·obtain⟨G,ds,d,c',a,o,c,gh,hd,hv,ha,r,ga,ro,hl,e,_⟩:=h;unfold runC at e;split at e
  ·rw[<- hl];assumption
  ·cases e
 ·obtain⟨G,ds,d,c',a,o,c,gh,hd,hv,ha,r,ga,ro,hl,e,q⟩:=h;unfold runC at e;split at e
  ·rename_i hn;refine⟨_,hb t A j s H E hr ⟨G,Dh H a,[(p,a)],λ_ _=>False⟩ a rfl,?_⟩;obtain⟨oo,eg,e⟩:=aa.1 e;have lF:∀ {σ:St}{m:cO}{C n:Hp}{o':List Nat}{y:D},SR K ⟨G,Dh H a,[(p,a)],λ_ _=>False⟩ o' C n σ m->eV p m=Y y->vM y=Z'->∃u,n a=Y u/\jt K C y u/\C a=none:=fun {σ m C n o' y} z el X=>by obtain⟨RJ,hσ⟩:=z.pin p a Ž;obtain⟨b,u,f2,f3,f4,f5,_⟩:=z.Jh RJ (jd el) X;rw[hσ]at f2;cases f2;exact⟨u,f3,f4,f5⟩
   refine⟨G,_,oo,A4 gh hp hd hv ha r ga ro hl (by rw[hn];exact RK),eg,?_⟩;cases oo with
   |rm d' m=>
    have e:((eV p m).bind λc=>if vM c=Z' then Y (d',c) else M)=Y (d,c'):=e;obtain⟨y,el,e⟩:=aa.1 e;split at e
    ·rename_i X;cases e;intro v σ C n ⟨o',z⟩ rv;obtain⟨u,f3,f4,f5⟩:=lF z el X;exact q v u C n z.nO f5 f3 f4 rv
    ·cases e
   |nx m=>
    have e:((eV p m).bind λc=>if vM c=Z' then Y (D.eN,c) else M)=Y (d,c'):=e;obtain⟨y,el,e⟩:=aa.1 e;split at e
    ·rename_i X;cases e;intro σ C n z;obtain⟨u,f3,f4,f5⟩:=lF z el X;exact q _ u C n z.nO f5 f3 f4 (iY.mpr rfl)
    ·cases e
   |_=>cases e
  ·cases e
structure fO(P:bh)(w:cX)(K:aT)(mg:aM->Option ai)(base:de)(c m:aM)(k:Nat)(sp:Sp):Prop where
 ex:∃C f fd ps,vb K bw c=some (some (.ref C))/\GV K C/\M3 K C m f/\cq P w K mg base gU k f fd ps sp/\Binds K fd ps []
def fO.mono{m:aM}(h:fO P w K O U c m j a)(d:j<=k):fO P w K O U c m k a:=by
 obtain⟨C,f,o,b,n,l,i,g,e⟩:=h.ex;exact⟨C,f,o,b,n,l,i,g.mono d,e⟩
structure um(P:bh)(w:cX)(K:aT)(mg:aM->Option ai)(base:de)(c:aM)(k:Nat)(sp:Sp):Prop where
 ex:∃C f fd ps,vb K bw c=some (some (.ref C))/\mg c=some (.ref C)/\Mk K C f/\cq P w K mg base gU k f fd ps sp/\Binds K fd ps []
end
section
variable {X:Cx}
inductive TX (K:aT) (Z:List Nat) (f:DF) (e:St) (H:Hp) (Q:VK):Prop
 |mk G c d:a_ G H->iQ K Z G H e c->f c=some d->(∀p o b a,gf G H b a->H p=none->b p=none->a p=some o->jt K b d o->Q (.ref p) a)->TX K Z f e H Q
noncomputable def HU(c:aM)(F:List D->Option (D×D))(g:DL):DF:=λa=>(g a).bind λb=>(F (.ins c [] []::b)).bind λr=>match r.1 with|.eN=>Y r.2|_=>M
def H_{c:aM}{F:List D->Option (D×D)}(h:um X.prog X.w X.K X.mg X.base c k (QI X.K 0 F))(hr:gc (k+1) X.A)(hg:Gl X c)(ha:PA X (e::J) (Fk X.K Z g))(B:autoParam ((c==("__debug__" : aM))=false) Ű)(he:autoParam (av (e::J) X.env=(Z_,eval e X.env)::av J X.env) Ų)(A:autoParam ((dt I (av J X.env)).any (·.1)=false) Ų):PE X (.Call (.Name c p) (e::J) [] I) (TX X.K Z (HU c F g)):=by
 obtain⟨C,f,fd,ps,n,hm,hk,h1,a⟩:=h.ex;refine(Hu hk h1 hr hg hm a .nil pj ha B he A).imp ?_;rintro σ H Q ⟨G,R,d,gh,K,j,q⟩;unfold HU at j;obtain⟨N,eg,j⟩:=aa.1 j;obtain⟨⟨d',c'⟩,eF,j⟩:=aa.1 j;cases d'<;>simp only[ab]at j<;>try (cases j;done)
 cases j;refine⟨G,R,N,gh,K,eg,λS s H1 w P x t m l ne =>?_⟩;show QI X.K 0 F (.ref x::(S++[])) _ _ E0;rw[cm];have E:s x=none:=w.gh.free m;have s2:a_ s (dg (dg H1 t (.Z x)) x (.ins C t [])):=w.gh.trans ((a_.alloc l).trans (.alloc (by rw[aY (cg ne)];exact m)));refine⟨s,.ins c [] []::N,.eN,_,x,_,.ins c [] [],s2,rfl,rfl,bj,⟨C,t,[],rfl,n,rfl,.nil⟩,E,λi y hi ec =>?_,by simp[P.length],eF,λv o' G2 H2 u g2 h2 r2 r3=>⟨iY.mp r3,?_⟩⟩
 ·cases i with
  |zero=>exact absurd rfl hi|succ i=>exact P.get (i:=i) (by simpa using ec)
 ·refine q x o' G2 H2 (w.trans ⟨λb o e=>u.hh b o ?_,u.gg,u.gh,λb o e =>?_⟩) (w.hh.free m) g2 h2 r2
  ·have a:b≠x:=bF e m;rw[uY a,aY a,aY (bF e l)];exact e
  ·rcases u.fr b o e with z|z
   ·exact .inl z
   ·refine .inr ?_;by_cases a:b=x
    ·subst a;exact m
    ·by_cases r:b=t
     ·subst r;exact l
     ·rw[uY a,aY a,aY r]at z;exact z
def HZ{s:List Nat}{i:Nat}{f:DF}(w:X.N.Nodup)(t:X.N[i]?=Y x)(h:Loc X.env.scope x)(v:PE X e (TX X.K Z f))(n:autoParam (i∈Z) Ű)(b:autoParam (∀a,(i,a)∉B.3) ū)(q:autoParam (Bi i∉Z) Ű)(l:autoParam (cP e (Y (.Name x T)) I.line X.env=eQ false) Ų)(u:autoParam (X.fn x=Z'\/X.env.scope.names.lookup x=Y .local) ŭ):
  PS X (.Assign [.Name x T] e I) (jP X.K B s Z Z (dh i f)):=(js w t h v l u).imp <|by
 rintro D F H ⟨G,g,o,S,c,k⟩;unfold dh at c;obtain⟨d,z,c⟩:=ah.1 c;cases c;exact⟨G,g,d,S.gh,S.lh,z,λp K C A E m y j r=>k _ C A (S.setC n E m y j r b q)⟩
end
section
variable {X:Cx}{m:Pos}{f:DF}
end
section
variable {X:Cx}{m:Pos}{f:DF}
end
section
variable {X:Cx}{m:Pos}{f:DF}
end
section
variable {X:Cx}{f:Expr}
noncomputable def fD(ks:List mi)(c:List D)(k:mi):Option D:=((ks.zip c).find? λa=>decide (a.1=k)).map (·.2)
theorem rG{K:aT}:∀ {c:List mi}{f:List D}{a:List V}{d:D},be K G f a->fD c f k=Y d->∃v,uc (c.zip a) k=Y v/\cI K G d v
 |[],f,a,d,r,h=>by simp[fD]at h
 |x::c,[],a,d,r,h=>by simp[fD]at h
 | x::c,y::f,a,d,r,h=>by
  obtain⟨v,t,rfl,i,l⟩:=bt.mp r;by_cases g:x=k
  ·subst g;have:y=d:=by simpa [fD] using h
   subst this;exact⟨v,vm rfl,i⟩
  ·have m:fD c f k=Y d:=by simpa [fD,g] using h
   obtain⟨u,e,j⟩:=rG l m;exact⟨u,by rw[cz,sF g];exact e,j⟩
theorem u5{K:aT}:∀ {c:List mi}{d:List D}{a:List V},be K G d a->fD c d k=M->uc (c.zip a) k=M
 |[],d,a,r,h=>by simp[uc]
 |x::c,[],a,r,h=>by rw[cV.mp r];simp[uc]
 | x::c,y::d,a,r,h=>by
  obtain⟨v,t,rfl,i,f⟩:=bt.mp r;by_cases e:x=k
  ·subst e;simp[fD]at h
  ·have g:fD c d k=none:=by simpa [fD,e] using h
   rw[cz,sF e];exact u5 f g
noncomputable def Cm:D->Option mi
 |.int i=>Y (yH i)|.str x=>Y (da x)|_=>M
def vK{K:aT}{v:V}(h:Cm d=Y k)(r:kB K G H d v):v=kV k:=by
 cases d<;>simp only[Cm]at h<;>try (cases h;done)
 ·cases h;exact r.int
 ·cases h;exact r.str
def tm(f g e:DF):DF:=λa=>(f a).bind λd=>(g a).bind λk=>(e a).bind λx=>match d with|.jn c h=>(Cm k).map λk=>(fD c h k).getD x|_=>M
def CK{D F:DF}{i:Pos}(hu:X.A.units+1<su)(ho:PE X o (tQ X.K Z D))(he:PE X e (tQ X.K Z F))(hf:PE X f (tP X.K Z C))(m:M2 X o "get" j e f i):PE X (.Call (.Attribute o "get" j) [e,f] [] i) (tP X.K Z (tm D F C)):=
 (Lo hu ho he hf m).imp <|by
  rintro σ H Q ⟨G,r,d,gh,n,c,q⟩;unfold tm at c;rcases g:D r with _|dd
  ·rw[g]at c;cases c
  rcases h:F r with _|N
  ·simp[g,h]at c
  rcases p:C r with _|L
  ·simp[g,h,p]at c
  simp only[g,h,p,ab]at c;cases dd<;>simp only at c<;>try (cases c;done)
  rename_i b J;rcases I:Cm N with _|k
  ·rw[I]at c;cases c
  rw[I]at c;refine⟨G,r,_,gh,n,g,λv G1 H1 x r1 =>?_⟩;obtain⟨a,vs,rfl,O,l,S⟩:=r1.Sa x.gh;refine⟨a,rfl,.inl ⟨_,.of O⟩,G1,r,N,x.gh,n.ext x,h,λu G2 H2 t U=>⟨G2,r,L,t.gh,(n.ext x).ext t,p,λz R P K T =>?_⟩⟩;have hk:u=kV k:=vK I U;have B:=K.hh _ _ (t.hh _ _ O);have s:=be.mono (t.gg.trans K.gg) J S;refine⟨_,by rw[hk];exact ye.k B,?_⟩;have E:=(x.trans t).trans K;have c:Y ((fD b J k).getD L)=Y d:=c;rcases y:fD b J k with _|dv
  ·rw[y]at c;cases c;rw[u5 s y];exact q _ R P E T
  rw[y]at c;cases c;obtain⟨w,ew,A⟩:=rG s y;rw[ew];exact q _ R P E A
end
noncomputable def Dc:D->D->Option D
 |.int i,.int j=>Y (.int (dF i j))|_,_=>M
noncomputable def eZ:D->D->Option D
 |.int i,.int j=>Y (.int (vj i j))|_,_=>M
noncomputable def qC:D->D->Option D
 |.int i,.int j=>if 0<=j/\j<=1000/\i.natAbs<2 ^ 64 then Y (.int (i*2 ^ j.toNat)) else M
 |_,_=>M
noncomputable def Rk:D->D->Option D
 |.int i,.int j=>if 0<=j then Y (.int (i/2 ^ j.toNat)) else M
 |_,_=>M
noncomputable def x8:D->Option D
 |.int i=>Y (.int (vi i))|_=>M
section
variable {X:Cx}{f:Pos}
def PZ:BQ X (dB .BitOr) Dc:=pG.imp UB <|by
 rintro x y H Q ⟨G,k,j,d,i,e,b,a,q⟩;unfold Dc at a;split at a<;>try (cases a;done)
 cases a;exact⟨_,_,e.int,b.int,q _ G H (.refl i) (bE.mpr rfl)⟩
def V5:BQ X (dB .BitAnd) eZ:=pG.imp Ra <|by
 rintro x y H Q ⟨G,k,j,d,i,e,b,a,q⟩;unfold eZ at a;split at a<;>try (cases a;done)
 cases a;exact⟨_,_,e.int,b.int,q _ G H (.refl i) (bE.mpr rfl)⟩
def Xh:BQ X (dB .LShift) qC:=pG.imp Q7 <|by
 rintro x y H Q ⟨G,l,k,d,j,i,e,a,q⟩;unfold qC at a;split at a<;>try (cases a;done)
 split at a
 ·rename_i b;cases a;exact⟨_,_,i.int,e.int,⟨b.1,by have:=b.2.1;omega,b.2.2⟩,q _ G H (.refl j) (bE.mpr rfl)⟩
 ·cases a
def Xg:BQ X (dB .RShift) Rk:=pG.imp Q6 <|by
 rintro x y H Q ⟨G,l,k,d,j,i,e,a,q⟩;unfold Rk at a;split at a<;>try (cases a;done)
 split at a
 ·rename_i b;cases a;exact⟨_,_,i.int,e.int,b,q _ G H (.refl j) (bE.mpr rfl)⟩
 ·cases a
def Yb(l:PE X a (tQ X.K Z c)):PE X (.UnaryOp .Invert a f) (tP X.K Z (e1 x8 c)):=(Ht Qn l).imp <|by
 rintro s H Q ⟨G,i,d,m,b,o,k⟩;obtain⟨x,n,e⟩:=HV o;cases x<;>simp[x8]at e
 subst e;exact⟨G,i,_,m,b,n,λv q p r j=>⟨_,j.int,k _ q p r (bE.mpr rfl)⟩⟩
def Y4:J9 X .BitOr (NQ dF):=by
 rintro b s k H x y u v Q I e d ⟨i,j,rfl,rfl,q⟩;obtain⟨t,rfl⟩:=(show ∃t,u=jD i t from e);obtain⟨a,rfl⟩:=(show ∃a,v=jD j a from d);exact ior_int ⟨.int (dF i j),H,I.tok _,⟨_,rfl⟩,q⟩
def uv(i:Nat)(e:Int->Int->Int)(j:DF):DG:=λd=>(eV i d).bind λx=>(j d).bind λy=>match x,y with|.int a,.int b=>Y (.nx (d.set i (Y (.int (e a b)))))|_,_=>M
def X8{i:Nat}{op:Int->Int->Int}(b:J9 X o (NQ op))(w:X.N.Nodup)(q:X.N[i]?=Y x)(p:Loc X.env.scope x)(t:PE X e (tP X.K Z j))(n:autoParam (i∉Z) Ű)(s:autoParam (X.fn x=Z'\/X.env.scope.names.lookup x=Y .local) ŭ):
  PS X (.AugAssign (.Name x g) o e f) (jP X.K B h Z Z (uv i op j)):=(QW (ti:=NQ op) w q p t b s).imp <|by
 rintro D I H ⟨G,m,J,S,a,k⟩;unfold uv at a;obtain⟨c,y,a⟩:=aa.1 a;obtain⟨d,l,a⟩:=aa.1 a;split at a
 ·rename_i L K;cases a;obtain⟨v,A,z⟩:=S.env i _ n (jd y);cases bE.mp z;refine⟨_,A,G,m,_,S.gh,S.lh,l,λu F C E r =>?_⟩;cases bE.mp r;exact⟨_,_,rfl,rfl,k _ F C ((S.ext E).xW n (bE.mpr rfl))⟩
 ·cases a
end
section
variable {K:aT}{f:List Nat}
def SR.tree{s:Sk}(S:SR K B f G H y l)(c:i∈f)(e:l[i]?=Y (Y (.obj s t))):∃a T,y[i]?=Y (Y (.ref a))/\cQ K G H s t (.ref a) T/\T.Nodup/\(∀b∈T,G b=M/\B.2 b=M)/\∃F,qN K B f G H y l F/\F i=T:=by
 obtain⟨F,W⟩:=S.ow;obtain⟨a,g,d⟩:=W.it i _ c e;obtain⟨n,k⟩:=W.ok i _ c e;exact⟨a,F i,g,d,n,k,F,W,rfl⟩
noncomputable def dz(r:Nat)(l:cO):cO:=l.map λo=>match o with|some (.eS k p)=>if k=r then M else Y (.eS k p)|o=>o
def bT{r i:Nat}(h:(dz r l)[i]?=Y (Y d)):l[i]?=Y (Y d)/\∀p,d ≠ .eS r p:=by
 unfold dz at h;rw[aF]at h;obtain⟨o,e,h⟩:=ah.1 h;rw[e];cases o with
 |none=>cases h|some c=>
  cases c with
  |eS k p=>
   simp only[bI,gM]at h;split at h
   ·cases h
   ·rename_i a;cases h;exact⟨rfl,λq z=>a (by cases z;rfl)⟩
  |_=>simp only[bI,gM]at h;cases h;exact⟨rfl,λq z=>by cases z⟩
def lu{r i:Nat}(h:l[i]?=Y (Y d))(a:∀p,d ≠ .eS r p):(dz r l)[i]?=Y (Y d):=by
 unfold dz;rw[aF,h];cases d with
 |eS k p=>simp only[bI,gM];rw[if_neg (λz=>a p (by rw[z]))]
 |_=>rfl
def SR.II{r:Nat}(S:SR K B f G H y l):SR K B f G H y (dz r l):=by
 refine⟨S.gh,S.g0,S.h0,S.fr,λi d a e=>S.env i d a (bT e).1,?_,by rw[S.len];simp[L2.dz],S.pin,λj k p s o e =>?_⟩
 ·obtain⟨F,W⟩:=S.ow;exact⟨F,λi d a e=>W.it i d a (bT e).1,λi d a e=>W.ok i d a (bT e).1,λi j d c a n C A=>W.ap i j d c a n (bT C).1 (bT A).1⟩
 ·obtain⟨v,x,m,g,h,w,b,u,t⟩:=S.eS j k p s o (bT e).1;exact⟨v,x,m,g,h,w,b,lu u (λq z=>by cases z),t⟩
def SR.CO{s:Sk}{t':D}{m:List az}{F:Nat->List az}(S:SR K B f G H y l)(W:qN K B f G H y l F)(J:F i=T)(g:i∈f)(I:l[i]?=Y (Y (.obj s t)))(u:y[i]?=Y (Y (.ref a)))(E:gf G (fx H T) G' H')(v:cQ K G' H' n t' (.ref a) m)(x:m.Nodup)(w:∀b∈m,G' b=M/\(b∈T\/H b=M)):SR K B f G' H' y ((dz i l).set i (Y (.obj n t'))):=by
 have A:=lu (r:=i) I (λq z=>by cases z);have N:qN K B f G H y (dz i l) F:=⟨λi d g e=>W.it i d g (bT e).1,λi d g e=>W.ok i d g (bT e).1,λi j d c g C O L=>W.ap i j d c g C (bT O).1 (bT L).1⟩;have:=(S.II (r:=i)).chg (i:=i) (a:=a) (d' :=.obj n t') (F0:=T) (S':=m) N g (λb k=>⟨by rw[J];exact k,_,A⟩) E.gg E.gh (λb o e=>by
   rcases E.fr b o e with z|z
   ·exact .inl z
   ·by_cases k:b∈T
    ·exact .inr (.inr k)
    ·rw[cy k]at z;exact .inr (.inl z))
  (λb o k e=>E.hh b o (by rw[cy k];exact e)) v x w (λb h=>by have:=(S.pin i b h).2;rw[u]at this;cases this;rfl) (λr p z=>by cases z)
  (λj p _ _ _ e=>absurd rfl ((bT e).2 p))
 rwa [gB u]at this
def SR.QK{p:z9}{s s':Sk}{v:V}(S:SR K B f G H y l)(hi:i∈f)(N:Bi i∈f)(hj:j∈f)(J:i≠j)(D:Bi j∉f)(C:∀a,(j,a)∉B.3)(hd:l[i]?=Y (Y (.obj s t)))(hs:y[i]?=Y (Y v))(hv:gS H p v=Y (.ref b))(es:mL p s=Y s')(ef:∀g∈AF p,g∈EX):SR K B f G H (y.set j (Y (.ref b))) (l.set j (Y (.eS i p))):=by
 obtain⟨F,W⟩:=S.ow;refine⟨S.gh,S.g0,S.h0,S.fr,λk c o e =>?_,⟨λk=>if k=j then [] else F k,λk c o e =>?_,λk c o e =>?_,λk m c c' o hm ek em L =>?_⟩,by simp[S.len],λk x h =>?_,λk r q h1 h2 e =>?_⟩
 ·have d:j≠k:=λz=>o (z ▸ hj)
  rw[aj d]at e;obtain⟨u,n,O⟩:=S.env k c o e;exact⟨u,by rw[aj d];exact n,O⟩
 ·rcases g_ e with⟨rfl,rfl,A⟩|⟨d,n⟩
  ·exact⟨b,rM (by rw[S.len];exact A),by simp[oj]⟩
  ·obtain⟨x,f1,f2⟩:=W.it k c o n;exact⟨x,by rw[aj d];exact f1,by simp only[if_neg (cg d)];exact f2⟩
 ·rcases g_ e with⟨rfl,rfl,A⟩|⟨d,n⟩
  ·simp
  ·simp only[if_neg (cg d)];exact W.ok k c o n
 ·rcases g_ ek with⟨rfl,rfl,A⟩|⟨d,n⟩
  ·simp
  ·rcases g_ em with⟨rfl,rfl,A⟩|⟨E,O⟩
   ·simp
   ·simp only[if_neg (cg d),if_neg (cg E)];exact W.ap k m c c' o hm n O L
 ·obtain⟨p1,X⟩:=S.pin k x h;have:j≠k:=λz=>by subst z;exact C x h
  exact⟨p1,by rw[aj this];exact X⟩
 ·rcases g_ e with⟨rfl,z,A⟩|⟨d,n⟩
  ·cases z;exact⟨hi,N,s,t,s',v,.ref b,by rw[aj (cg J)];exact hd,by rw[aj (cg J)];exact hs,rM (by rw[S.len];exact A),hv,es,ef⟩
  ·obtain⟨g1,P,U,R,T,w,Q,g2,g3,g4,g5⟩:=S.eS k r q h1 h2 n;have I:j≠r:=λz=>D (z ▸ P)
   exact⟨g1,P,U,R,T,w,Q,by rw[aj I];exact g2,by rw[aj I];exact g3,by rw[aj d];exact g4,g5⟩
end
section
variable {K:aT}{f:List Nat}
def SR.QO{i:Nat}{a:az}{s:Sk}{F:Nat->List az}(S:SR K B f G H y l)(W:qN K B f G H y l F)(O:F i=T)(N:i∈f)(v:l[i]?=Y (Y (.obj s t)))(m:y[i]?=Y (Y (.ref a)))(E:gf G (fx H T) G' H')(I:cQ K G' H' s d (.ref a) k)(L:k.Nodup)(J:∀b∈k,G' b=M/\(b∈T\/H b=M))(D:∀(q:z9) u,(∀g∈AF q,g∈EX)->gS H q (.ref a)=Y u->gS H' q (.ref a)=Y u):SR K B f G' H' y (l.set i (Y (.obj s d))):=by
 have:=S.chg (i:=i) (a:=a) (d' :=.obj s d) (F0:=T) (S':=k) W N (λb c=>⟨by rw[O];exact c,_,v⟩) E.gg E.gh (λb o e=>by
   rcases E.fr b o e with z|z
   ·exact .inl z
   ·by_cases c:b∈T
    ·exact .inr (.inr c)
    ·rw[cy c]at z;exact .inr (.inl z))
  (λb o c e=>E.hh b o (by rw[cy c];exact e)) I L J (λb h=>by have:=(S.pin i b h).2;rw[m]at this;cases this;rfl) (λr p z=>by cases z)
  (λj p Q P _ e=>by obtain⟨g1,g0,s0,t0,C,w,n,A,x,g4,X,U,R⟩:=S.eS j i p Q P e;rw[v]at A;cases A;rw[m]at x;cases x;exact⟨s,d,C,n,rfl,g4,D p n R X,U⟩)
 rwa [gB m]at this
noncomputable def Ww:Option D->Option D
 |some (.obj _ t)=>Y t|some (.lst d)=>Y (.lst d)|some (.ins c a b)=>Y (.ins c a b)|some (.jn a b)=>Y (.jn a b)|_=>M
def Kz(h:Ww o=Y d):(∃s t,o=Y (.obj s t)/\d=t)\/(o=Y d/\vM d=Z'):=by
 unfold Ww at h;split at h
 ·cases h;exact .inl ⟨_,_,rfl,rfl⟩
 ·cases h;exact .inr ⟨rfl,rfl⟩
 ·cases h;exact .inr ⟨rfl,rfl⟩
 ·cases h;exact .inr ⟨rfl,rfl⟩
 ·cases h
def VW(l:cO):Option D->Option D
 |some (.eS r p)=>match l[r]? with|some (Y (.obj _ t))=>fM p t|_=>M
 |_=>M
def res(a b:List Nat)(l:cO):cO:=l.mapIdx λi o=>if i∈a then Ww o else if i∈b then VW l o else o
theorem iQ.trees(n:iQ K f G H y l):∀(x:List Nat),∃T:List az,(∀b∈T,G b=M/\F8 H b)/\∀i∈x,i∈f->∀s t,l[i]?=Y (Y (.obj s t))->∃v,y[i]?=Y (Y v)/\(cI K G t v\/∃S,cQ K G H s t v S/\∀b∈S,b∈T)
 |[]=>⟨[],λb g=>(by cases g),λi d=>by cases d⟩
 | k::x=>by
  obtain⟨T,w,u⟩:=iQ.trees n x;by_cases p:k∈f/\∃s t,l[k]?=Y (Y (.obj s t))
  ·obtain⟨p,s,t,e⟩:=p;obtain⟨v,C,B⟩:=n.get k _ e;rw[if_pos p]at B;rcases B with r|⟨a,o,rfl,N,S,A,J⟩
   ·refine⟨T,w,λi d m j h c =>?_⟩;rcases aE.mp d with z|z
    ·subst z;rw[e]at c;cases c;exact⟨v,C,.inl (qY.mp r)⟩
    ·exact u i z m j h c
   ·refine⟨S++T,λb g =>?_,λi d m j h c =>?_⟩
    ·rcases aV.mp g with q|q
     ·exact⟨J b q,A.here b q⟩
     ·exact w b q
    ·rcases aE.mp d with z|z
     ·subst z;rw[e]at c;cases c;exact⟨_,C,.inr ⟨S,A,λb g=>bb _ g⟩⟩
     ·obtain⟨v,I,F⟩:=u i z m j h c;refine⟨v,I,?_⟩;rcases F with r|⟨L,E,D⟩
      ·exact .inl r
      ·exact .inr ⟨L,E,λb g=>aG _ (D b g)⟩
  ·refine⟨T,w,λi d m j h c =>?_⟩;rcases aE.mp d with z|z
   ·subst z;exact absurd ⟨m,j,h,c⟩ p
   ·exact u i z m j h c
theorem iQ.cells(C:a_ G H)(env:iQ K f G H y l):∀(t:List Nat),∃T:List az,(∀b∈T,G b=M/\F8 H b)/\∀i∈t,i∈f->∀d,l[i]?=Y (Y d)->vM d=Z'->∃v,y[i]?=Y (Y v)/\(cI K G d v\/∃a o,v=.ref a/\a∈T/\H a=Y o/\jt K G d o)
 |[]=>⟨[],λb h=>(by cases h),λi x=>by cases x⟩
 | k::t=>by
  obtain⟨T,s,R⟩:=iQ.cells C env t;have g:∀u:List az,(∀b∈T,b∈u)->(∀d,l[k]?=Y (Y d)->k∈f->vM d=Z'->∃v,y[k]?=Y (Y v)/\(cI K G d v\/∃a o,v=.ref a/\a∈u/\H a=Y o/\jt K G d o)) ->
    ∀i∈k::t,i∈f->∀d,l[i]?=Y (Y d)->vM d=Z'->∃v,y[i]?=Y (Y v)/\(cI K G d v\/∃a o,v=.ref a/\a∈u/\H a=Y o/\jt K G d o):=λu w n i x p d e m=>by
   rcases aE.mp x with z|z
   ·subst z;exact n d e p m
   ·obtain⟨v,O,N⟩:=R i z p d e m;refine⟨v,O,?_⟩;rcases N with r|⟨a,o,J,I,F⟩
    ·exact .inl r
    ·exact .inr ⟨a,o,J,w a I,F⟩
  by_cases n:k∈f/\∃d,l[k]?=Y (Y d)/\vM d=Z'
  ·obtain⟨n,d,e,m⟩:=n;obtain⟨v,B,D⟩:=env.get k _ e;rw[if_pos n]at D;rcases D with r|⟨a,o,rfl,A,P⟩
   ·exact⟨T,s,g T (λb h=>h) λE j _ _=>by rw[e]at j;cases j;exact⟨v,B,.inl r⟩⟩
   ·have c:jt K G d o:=by cases d<;>first|exact P|cases m
    cases q:G a with
    |some L=>have:=C a L q;rw[A]at this;cases this;exact⟨T,s,g T (λb h=>h) λE j _ _=>by rw[e]at j;cases j;exact⟨_,B,.inl (c.rep q)⟩⟩
    |none=>
     refine⟨a::T,λb h =>?_,g (a::T) (λb h=>ao _ h) λE j _ _=>by rw[e]at j;cases j;exact⟨_,B,.inr ⟨a,o,rfl,au,A,c⟩⟩⟩;rcases aE.mp h with z|z
     ·subst z;refine⟨q,o,A,λQ z =>?_⟩;subst z;cases d with
      |lst=>obtain⟨_,z,_⟩:=c;cases z
      |ins=>obtain⟨_,_,_,z,_⟩:=c;cases z
      |jn=>obtain⟨_,z,_⟩:=c;cases z
      |_=>cases m
     ·exact s b z
  ·exact⟨T,s,g T (λb h=>h) λd e p m=>absurd ⟨p,d,e,m⟩ n⟩
def nr(f a b c:List Nat):Bool:=(a.all λi=>f.contains i && !a.contains (Cf i) && !b.contains i && !c.contains i)&&(f.all λi=>a.contains i||b.contains i||c.contains i)&&(c.all λj=>f.contains j&&f.contains (Cf j) && !b.contains j)
def Ob{f:List Nat}(h:nr f e g k=Z'):(∀i∈e,i∈f/\Cf i∉e/\i∉g/\i∉k)/\(∀i∈f,i∈e\/i∈g\/i∈k)/\(∀j∈k,j∈f/\Cf j∈f/\j∉g):=by
 simp only[nr,aX,cx,List.contains_eq_mem,wz,Bool.not_eq_true',decide_eq_true_eq,decide_eq_false_iff_not]at h;exact⟨λi m=>by obtain⟨⟨⟨a,b⟩,c⟩,d⟩:=h.1.1 i m;exact⟨a,b,c,d⟩,λi m=>by rcases h.1.2 i m with (a|a)|a;exact .inl a;exact .inr (.inl a);exact .inr (.inr a),λj n=>by obtain⟨⟨a,b⟩,c⟩:=h.2 j n;exact⟨a,b,c⟩⟩
def iQ.Qr(s:a_ G H)(m:iQ K f G H y l)(Q:nr f C dp al=Z'):∃T:List az,(∀b∈T,G b=M/\F8 H b)/\iQ K C (kv G H T) H y (res dp al l):=by
 obtain⟨o1,o2,o3⟩:=Ob Q;obtain⟨T1,XY,h21⟩:=m.trees f;obtain⟨T2,h12,X⟩:=m.cells s f;generalize U:T1++T2=T;have h1:∀b∈T,G b=M/\F8 H b:=λb I=>by
  rw[<- U]at I;rcases aV.mp I with z|z
  ·exact XY b z
  ·exact h12 b z
 have h2:∀i∈f,i∈f->∀s t,l[i]?=Y (Y (.obj s t))->∃v,y[i]?=Y (Y v)/\(cI K G t v\/∃S,cQ K G H s t v S/\∀b∈S,b∈T):=λi x Q s t e=>by
  obtain⟨v,k,c⟩:=h21 i x Q s t e;refine⟨v,k,?_⟩;rcases c with r|⟨S,J,V⟩
  ·exact .inl r
  ·exact .inr ⟨S,J,λb I=>by rw[<- U];exact bb _ (V b I)⟩
 have n:∀b∈T,G b=none:=λb I=>(h1 b I).1
 have g:a_ G (kv G H T):=qz n;have fz:∀(i:Nat) (E:Sk) (t:D),l[i]?=Y (Y (D.obj E t))->∃v,y[i]?=Y (Y v)/\cI K (kv G H T) t v:=λi E t e=>by
  by_cases x:i∈f
  ·obtain⟨v,k,c⟩:=h2 i x x E t e;refine⟨v,k,?_⟩;rcases c with r|⟨S,J,V⟩
   ·exact cI.mono g t r
   ·exact cQ.frozen n V J
  ·obtain⟨v,k,c⟩:=m.get i _ e;rw[if_neg x]at c;exact⟨v,k,cI.mono g t (qY.mp c)⟩
 refine⟨T,h1,by rw[m.len];simp[res],λi d e =>?_,λj r p hj hm e=>absurd hm (o1 j hj).2.1⟩;unfold res at e;rw[List.getElem?_mapIdx]at e;rcases L:l[i]? with _|o
 ·rw[L]at e;cases e
 rw[L]at e;simp only[bI,gM]at e;by_cases R:i∈dp
 ·rw[if_pos R]at e;rcases Kz e with⟨E,t,rfl,rfl⟩|⟨rfl,hc⟩
  ·obtain⟨v,k,c⟩:=fz i E _ L;exact⟨v,k,by split;exact .inl c;exact c⟩
  ·by_cases x:i∈f
   ·obtain⟨v,k,c⟩:=X i x x d L hc;have F:cI K (kv G H T) d v:=by
     rcases c with r|⟨a,o,rfl,A,h,q4⟩
     ·exact cI.mono g d r
     ·exact(q4.mono g).rep (by rw[q_ (by rw[<- U];exact aG _ A)];exact h)
    exact⟨v,k,by split;exact .inl F;exact F⟩
   ·obtain⟨v,k,c⟩:=m.get i _ L;rw[if_neg x]at c;have F:=cI.mono g d c;exact⟨v,k,by split;exact .inl F;exact F⟩
 ·rw[if_neg R]at e;by_cases O:i∈al
  ·rw[if_pos O]at e;unfold VW at e;split at e
   ·rename_i r p;split at e
    ·rename_i E t er;obtain⟨g1,g0,s1,t1,s',v,v',g2,g3,g4,g5,g6,g7⟩:=m.eS i r p (o3 i O).1 (o3 i O).2.1 L;rw[er]at g2;cases g2;obtain⟨w,k,c⟩:=h2 r g1 g1 E t er;rw[g3]at k;cases k;have F:cI K (kv G H T) d v':=by
      rcases c with q|⟨S,J,V⟩
      ·obtain⟨u,P,f4⟩:=y6 s q e;rw[g5]at P;cases P;exact cI.mono g d f4
      ·obtain⟨u,T1,U1,P,f4,f5,_⟩:=J.focus g6 e;rw[g5]at P;cases P;exact cQ.frozen n (λb I=>V b (f5.symm.subset (bb _ I))) f4
     exact⟨v',g4,by split;exact .inl F;exact F⟩
    ·cases e
   ·cases e
  ·rw[if_neg O]at e;subst e;obtain⟨v,k,c⟩:=m.get i d L;refine⟨v,k,?_⟩;by_cases x:i∈C
   ·rw[if_pos x];rw[if_pos (o1 i x).1]at c;cases d with
    |obj E t=>obtain⟨u,J,V⟩:=fz i E t L;rw[k]at J;cases J;exact .inl (qY.mpr V)
    |eS r p=>
     rcases c with q|⟨a,o,rfl,_⟩
     ·exact .inl (tW.mpr (tW.mp q))
     ·exact .inl (tW.mpr ⟨a,rfl⟩)
    |lst=>rcases c with q|⟨a,o,B,A,h⟩;exact .inl (cI.mono g _ q);exact .inr ⟨a,o,B,A,jt.mono g (d :=.lst _) h⟩
    |ins=>rcases c with q|⟨a,o,B,A,h⟩;exact .inl (cI.mono g _ q);exact .inr ⟨a,o,B,A,jt.mono g (d :=.ins _ _ _) h⟩
    |jn=>rcases c with q|⟨a,o,B,A,h⟩;exact .inl (cI.mono g _ q);exact .inr ⟨a,o,B,A,jt.mono g (d :=.jn _ _) h⟩
    |_=>rcases c with q|⟨a,o,B,A,h⟩;exact .inl (cI.mono g _ q);exact h.elim
   ·rw[if_neg x];by_cases N:i∈f
    ·rcases o2 i N with z|z|z
     ·exact absurd z x
     ·exact absurd z R
     ·exact absurd z O
    ·rw[if_neg N]at c;exact cI.mono g d c
end
section
variable {X:Cx}{m:Pos}
def mh(A I:List Nat)(f:DF):DF:=λρ=>(f (res A I ρ)).bind λd=>if sT d=Z' then Y d else M
def MI{f:DF}(O A I:List Nat)(h:PE X e (tP X.K O f))(s:autoParam (nr Z O A I=true) Ű):PE X e (tP X.K Z (mh A I f)):=h.imp <|by
 rintro J H Q ⟨G,ρ,d,j,n,a,k⟩;unfold mh at a;obtain⟨c,t,a⟩:=aa.1 a;split at a
 ·rename_i q;cases a;obtain⟨T,o,g⟩:=n.Qr j s;refine⟨kv G H T,res A I ρ,d,oI j,g,t,λv N L E r =>?_⟩;obtain⟨u,p⟩:=zI j (λb i=>(o b i).1) (λb i=>(o b i).2) E;exact k v _ L u (DN p q r)
 ·cases a
def Al(A I:List Nat)(f:DT):DT:=λρ=>f (res A I ρ)
def HX{f:DT}(O A I:List Nat)(h:PT X e (sC X.K O f))(n:autoParam (nr Z O A I=true) Ű):PT X e (sC X.K Z (Al A I f)):=h.imp <|by
 rintro J H Q ⟨G,ρ,d,g,i,o,k⟩;obtain⟨T,j,a⟩:=i.Qr g n;refine⟨kv G H T,res A I ρ,d,oI g,a,o,λN L E =>?_⟩;obtain⟨p,q⟩:=zI g (λb c=>(j b c).1) (λb c=>(j b c).2) E;exact k _ L p
def Tr(A I:List Nat)(f:DL):DL:=λρ=>(f (res A I ρ)).bind λd=>if rg d=Z' then Y d else M
def Vu{f:DL}(O A I:List Nat)(h:PE X e (tF X.K O f))(i:autoParam (nr Z O A I=true) Ű):PE X e (tF X.K Z (Tr A I f)):=h.imp <|by
 rintro J H Q ⟨G,ρ,d,p,s,a,k⟩;unfold Tr at a;obtain⟨c,D,a⟩:=aa.1 a;split at a
 ·rename_i y;cases a;obtain⟨T,n,g⟩:=s.Qr p i;refine⟨kv G H T,res A I ρ,d,oI p,g,D,λq u N L E t C B r =>?_⟩;obtain⟨F,v⟩:=zI p (λb j=>(n b j).1) (λb j=>(n b j).2) E;have x:q∉T:=λz=>by obtain⟨o,i,_⟩:=(n q z).2;rw[t]at i;cases i
  exact k q u _ L F t (by rw[cy x];exact C) B (mJ v y r)
 ·cases a
noncomputable def Ex:Sk->Bool
 |.lf=>Z'|_=>Z_
def Co{s:Sk}(h:Ex s=Z'):s=.lf:=by cases s<;>first|rfl|cases h
def uA(i:Nat)(c f:aM):DF:=λρ=>(eV i ρ).bind λd=>match d with
 |.obj (.fs g e) (.ins a b ds)=>if (g=c/\a=c)/\Ex (dG e f)=Z' then (Ap f b).bind λn=>ds[n]? else M
 |_=>M
def Wl{i:Nat}{c f:aM}(h:PE X (.Name x p) (ko i))(j:tJ X.K c f)(hi:autoParam (i∈Z) Ű)(hb:autoParam (cB (.Name x p) f X.env (eval (.Name x p) X.env)=eval (.Name x p) X.env) Ų):PE X (.Attribute (.Name x p) f l) (tP X.K Z (uA i c f)):=
 (sU h hb).imp <|by
  rintro J H Q ⟨G,ρ,d,q,y,e,k⟩;unfold uA at e;rw[aa]at e;obtain⟨o,z,e⟩:=e;split at e
  ·rename_i c' fk Yk E ds;split at e
   ·rename_i U;obtain⟨⟨rfl,rfl⟩,hl⟩:=U;rcases g:Ap f E with _|m
    ·rw[g]at e;cases e
    rw[g]at e;simp only[ab]at e;obtain⟨v,K,F⟩:=y.get i _ (jd z);rw[if_pos hi]at F;rcases F with r|⟨a,o,rfl,e3,S,e4,e5⟩
    ·obtain⟨a,C,B,w,rfl,n,ha,b,R⟩:=qZ.mp (qY.mp r);obtain⟨u,eu,P⟩:=R.get e;exact⟨_,K,a,C,B,_,u,rfl,q _ _ ha,(j C n).1,(j C n).2,by rw[tX g];exact eu,k u G H (.refl q) P⟩
    ·cases e4 with
     |@ins _ _ _ _ _ C B w S n ea b t=>
      have s:(E.map (dG fk))[m]?=Y .lf:=by rw[aF,vO g,<- Co hl];rfl
      obtain⟨D,T1,U1,f1,T,_⟩:=t.at s e;cases T with
      |leaf r=>exact⟨_,K,a,C,B,_,D,rfl,ea,(j C n).1,(j C n).2,by rw[tX g];exact f1,k D G H (.refl q) r⟩
   ·cases e
  ·cases e
end
def Hs(b:Bool)(j:Nat)(ρ:cO):Option (Nat×z9):=match b,eV j ρ with
 |false,Y (.obj _ _)=>Y (j,[])|true,Y (.eS r p)=>Y (r,p)|_,_=>M
def yl(r:Nat)(ρ:cO):Option (Sk×D):=match eV r ρ with|some (.obj s t)=>Y (s,t)|_=>M
def ng{s:Sk}(h:yl r ρ=Y (s,t)):ρ[r]?=Y (Y (.obj s t)):=by
 unfold yl at h;split at h
 ·rename_i e;cases h;exact jd e
 ·cases h
section
variable {K:aT}
def SR.Hs(S:SR K B Z G H J ρ)(h:Hs b j ρ=Y (r,p))(d:j∈Z)(u:b=Z'->Cf j∈Z):r∈Z/\∃s t a f,ρ[r]?=Y (Y (.obj s t))/\J[r]?=Y (Y (.ref a))/\J[j]?=Y (Y f)/\gS H p (.ref a)=Y f:=by
 unfold L2.Hs at h;split at h
 ·rename_i e;cases h;have e:=jd e;obtain⟨a,T,c,_⟩:=S.tree d e;exact⟨d,_,_,a,_,e,c,c,rfl⟩
 ·rename_i e;cases h;obtain⟨k,C,q,o,y,w,n,i,g,x,v,z⟩:=S.eS j r p d (u rfl) (jd e);obtain⟨a,T,c,_⟩:=S.tree k i;rw[c]at g;cases g;exact⟨k,q,o,a,n,i,c,x,v⟩
 ·cases h
def zo(d:x∈T):a_ (fx H T) (dg H x o):=λb u e=>by
 by_cases c:b∈T
 ·rw[jw c]at e;cases e
 ·rw[cy c]at e;have a:b≠x:=λz=>c (z ▸ d)
  rw[aY a];exact e
def SR.RX{s:Sk}{f:aM}{l:List D}{d:D}{v:V}(S:SR K B Z G H J ρ)(Q:r∈Z)(R:ρ[r]?=Y (Y (.obj s t)))(w:mL p s=Y (.fs c fk))(ep:fM p t=Y (.ins c h l))(hf:Ex (dG fk f)=Z')(ha:f∉EX)(rv:cI K G d v):
  ∃a x C k i,J[r]?=Y (Y (.ref a))/\gS H p (.ref a)=Y (.ref x)/\vb K bw c=Y (Y (.ref C))/\H x=Y (.ins C k (h.zip i))/\h.length=i.length /\
   SR K B Z G (dg H x (.ins C k (lU f v (h.zip i)))) J (ρ.set r (Y (.obj s (nh (.ins c (je f d h l).1 (je f d h l).2) p t)))):=by
 obtain⟨a,T,e1,o1,nd,P,F,W,hF⟩:=S.tree Q R;obtain⟨x,C,k,i,h1,X,h3,U,h5,h6,T',o2,u,n⟩:=o1.put (f:=f) (d:=d) (u:=v) (S1:=[]) nd w ep (a_.refl G) (λ_ _ _ e=>e) (by rw[Co hf];exact .leaf rv) Ž (λb j=>by cases j);refine⟨a,x,C,k,i,e1,h1,h3,U,h6,S.QO W hF Q R e1 ⟨zo X,a_.refl _,λb o e =>?_,λb o e =>.inl e⟩ o2 u (λb j =>?_) λq v' hq hv =>?_⟩
 ·have E:b≠x:=λz=>by rw[z,(P x X).1]at e;cases e
  rw[aY E];exact S.gh b o e
 ·rcases n b j with z|z
  ·exact⟨(P b z).1,.inl z⟩
  ·cases z
 ·refine vS U bj (λb j o e=>by rw[aY j];exact e) (λg hg =>?_) hv;have y:g≠f:=λz=>ha (z ▸ hq g hg)
  rw[sW,if_neg y]
def SR.GK{s:Sk}{X:D}(S:SR K B Z G H J ρ)(hr:r∈Z)(hd:ρ[r]?=Y (Y (.obj s t)))(w:mL p s=Y u)(ep:fM p t=Y X):
  ∃a x i,J[r]?=Y (Y (.ref a))/\gS H p (.ref a)=Y x/\cQ K G H u X x i/\i.Nodup/\(∀b∈i,G b=M) /\
   ∀(g:D) (f:List az) (N L:Hp),gf G (fx H i) N L->cQ K N L u g x f->f.Nodup->(∀b∈f,N b=M/\(b∈i\/H b=M))->SR K B Z N L J ((dz r ρ).set r (Y (.obj s (nh g p t)))):=by
 obtain⟨a,T,e1,C,nd,nf,F,W,hF⟩:=S.tree hr hd;obtain⟨x,i,U,h1,o2,v,k1⟩:=C.focus w ep;have k:=v.nodup_iff.mp nd;rw[gO]at k;obtain⟨n1,n2,n3⟩:=k;have h:∀b∈i,b∈T:=λb d=>v.symm.subset (bb _ d)
 have n:∀b∈U,b∈T:=λb d=>v.symm.subset (aG _ d)
 have R:∀b∈U,b∉i:=λb d Q=>n3 b Q b d rfl
 refine⟨a,x,i,e1,h1,o2,n1,λb d=>(nf b (h b d)).1,λg f N L E nw l j =>?_⟩;obtain⟨T',o3,p3⟩:=k1 N L g f E.gg (λb d o e=>E.hh b o (by rw[cy (R b d)];exact e)) nw;refine S.CO W hF hr hd e1 ⟨λb o e =>?_,E.gg,E.gh,λb o e =>?_⟩ o3 ?_ λb d =>?_
 ·by_cases d:b∈T
  ·rw[jw d]at e;cases e
  ·rw[cy d]at e;exact E.hh b o (by rw[cy (λz=>d (h b z))];exact e)
 ·rcases E.fr b o e with z|z
  ·exact .inl z
  ·refine .inr ?_;by_cases d:b∈T
   ·rw[jw d]
   ·rw[cy d];rw[cy (λz=>d (h b z))]at z;exact z
 ·rw[p3.nodup_iff,gO];refine⟨l,n2,λb d c hc z =>?_⟩;subst z;rcases(j b d).2 with z|z
  ·exact R b hc z
  ·obtain⟨o,P,_⟩:=C.here b (n b hc);rw[P]at z;cases z
 ·rcases aV.mp (p3.subset d) with q|q
  ·refine⟨(j b q).1,?_⟩;rcases(j b q).2 with z|z
   ·exact .inl (h b z)
   ·exact .inr z
  ·refine⟨?_,.inl (n b q)⟩;rcases z:N b with _|o
   ·rfl
   rcases E.fr b o z with y|y
   ·rw[(nf b (n b q)).1]at y;cases y
   ·obtain⟨o,P,_⟩:=C.here b (n b q);rw[cy (R b q),P]at y;cases y
end
mutual
def Sk.yx:Sk->Sk->Bool
 |.lf,.lf=>Z'|.li s,.li t=>Sk.yx s t|.fs c k,.fs d l=>decide (c=d)&&Sk.JN k l|.di,.di=>Z'|_,_=>Z_
def Sk.JN:List (aM×Sk)->List (aM×Sk)->Bool
 |[],[]=>Z'|(c,s)::k,(d,t)::l=>decide (c=d)&&(Sk.yx s t&&Sk.JN k l)|_,_=>Z_
end
mutual
theorem Sk.rE:∀ {s t:Sk},Sk.yx s t=Z'->s=t
 |.lf,.lf,_=>rfl|.di,.di,_=>rfl|.li s,.li t,h=>by rw[Sk.rE (s:=s) (t:=t) (by simpa only [Sk.yx] using h)]
 |.fs c k,.fs d l,h=>by simp only[Sk.yx,aX,decide_eq_true_eq]at h;rw[h.1,Sk.HQ h.2]
 |.lf,.li _,h=>by simp[Sk.yx]at h
 |.lf,.fs _ _,h=>by simp[Sk.yx]at h
 |.lf,.di,h=>by simp[Sk.yx]at h
 |.li _,.lf,h=>by simp[Sk.yx]at h
 |.li _,.fs _ _,h=>by simp[Sk.yx]at h
 |.li _,.di,h=>by simp[Sk.yx]at h
 |.fs _ _,.lf,h=>by simp[Sk.yx]at h
 |.fs _ _,.li _,h=>by simp[Sk.yx]at h
 |.fs _ _,.di,h=>by simp[Sk.yx]at h
 |.di,.lf,h=>by simp[Sk.yx]at h
 |.di,.li _,h=>by simp[Sk.yx]at h
 |.di,.fs _ _,h=>by simp[Sk.yx]at h
theorem Sk.HQ:∀ {k l:List (aM×Sk)},Sk.JN k l=Z'->k=l
 |[],[],_=>rfl|(c,s)::k,(d,t)::l,h=>by simp only[Sk.JN,aX,decide_eq_true_eq]at h;rw[h.1,Sk.rE h.2.1,Sk.HQ h.2.2]
 |[],_::_,h=>by simp[Sk.JN]at h
 |_::_,[],h=>by simp[Sk.JN]at h
end
def ya(c:aM)(s:Sk)(t:D)(p:z9):Option (List (aM×Sk)×List aM×List D):=match mL p s,fM p t with
 |some (.fs f d),Y (.ins a b e)=>if f=c/\a=c then Y (d,b,e) else M
 |_,_=>M
def wX{s:Sk}(h:ya c s t p=Y (b,a,d)):mL p s=Y (.fs c b)/\fM p t=Y (.ins c a d):=by
 unfold ya at h;split at h
 ·rename_i i f;split at h
  ·rename_i e;obtain⟨rfl,rfl⟩:=e;cases h;exact⟨i,f⟩
  ·cases h
 ·cases h
section
variable {X:Cx}
def gC(b:Bool)(j:Nat)(c f:aM)(h:DF):DG:=λa=>(h a).bind λd=>(Hs b j a).bind λq=>(yl q.1 a).bind λe=>(ya c e.1 e.2 q.2).bind λz=>
 if Ex (dG z.1 f)=Z'/\z.2.1.length<999 then Y (.nx (a.set q.1 (Y (.obj e.1 (nh (.ins c (je f d z.2.1 z.2.2).1 (je f d z.2.1 z.2.2).2) q.2 e.2))))) else M
def OR{b:Bool}{c f:aM}(h:PE X (.Name x p) (ko j))(he:PE X e (tP X.K Z y))(w:tJ X.K c f)(hj:autoParam (j∈Z) Ű)(hb:autoParam (b=Z'->Cf j∈Z) Ű)(ha:autoParam (f∉EX) Ű)(hs:autoParam (cP e (Y (.Attribute (.Name x p) f A)) g.line X.env=eQ false) Ų):PS X (.Assign [.Attribute (.Name x p) f A] e g) (jP X.K B I Z Z (gC b j c f y)):=(B_ h he hs).imp <|by
 rintro D σ H ⟨G,q,o,S,i,k⟩;unfold gC at i;obtain⟨d,ef,i⟩:=aa.1 i;rcases l:Hs b j q with _|⟨r,T⟩
 ·simp[l]at i
 rcases n:yl r q with _|⟨s,t⟩
 ·simp[l,n]at i
 rcases u:ya c s t T with _|⟨fk,ks,ds⟩
 ·simp[l,n,u]at i
 simp only[l,n,u,ab]at i;split at i
 ·rename_i hz;cases i;obtain⟨i1,U⟩:=wX u;refine⟨G,q,d,S.gh,S.lh,ef,λv G' H' E R =>?_⟩;have P:=S.ext E;obtain⟨hr,s',t',a,v',J,e2,e3,e4⟩:=P.Hs l hj hb;have m:=ng n;rw[m]at J;cases J;obtain⟨a',Q,C,dx,vs,K,F,z,f4,f5,f6⟩:=P.RX (f:=f) (d:=d) hr m i1 U hz.1 ha R;rw[e2]at K;cases K;rw[e4]at F;cases F;refine⟨_,e3,Q,C,dx,_,rfl,f4,(w C z).1,(w C z).2,?_,k _ G' _ f6⟩;rw[vl f5];omega
 ·cases i
def eW(b:Bool)(j:Nat)(c f:aM)(h:Int->Int->Int)(i:DF):DG:=λa=>(i a).bind λd=>(Hs b j a).bind λq=>(yl q.1 a).bind λe=>(ya c e.1 e.2 q.2).bind λz=>match (z.2.1.zip z.2.2).lookup f,d with
 |some (.int m),.int n=>if Ex (dG z.1 f)=Z'/\z.2.1.length<999 then Y (.nx (a.set q.1 (Y (.obj e.1 (nh (.ins c (je f (.int (h m n)) z.2.1 z.2.2).1 (je f (.int (h m n)) z.2.1 z.2.2).2) q.2 e.2))))) else M
 |_,_=>M
theorem xC{f:aM}:∀ {ks:List aM}{ds:List D}{u:D},(ks.zip ds).lookup f=Y u->∃m,Ap f ks=Y m/\ds[m]?=Y u
 |[],a,u,h=>by simp at h
 |k::ks,[],u,h=>by simp at h
 | k::ks,v::a,u,h=>by
  simp only[cz,dO]at h;cases e:(f==k) with
  |true=>rw[e]at h;cases h;exact⟨0,by simp[Ap,e],rfl⟩
  |false=>rw[e]at h;obtain⟨m,c,b⟩:=xC (ks:=ks) (ds:=a) h;exact⟨m+1,by simp[Ap,e,c],by simpa using b⟩
theorem SR.X0{K:aT}{o:cO}{s:Sk}{f:aM}{v:List D}(S:SR K B Z G H k o)(Q:r∈Z)(hd:o[r]?=Y (Y (.obj s t)))(J:mL q s=Y (.fs c h))(ep:fM q t=Y (.ins c b v))(X:Ex (dG h f)=Z')(R:(b.zip v).lookup f=Y d):
  ∃a x C j e u,k[r]?=Y (Y (.ref a))/\gS H q (.ref a)=Y (.ref x)/\vb K bw c=Y (Y (.ref C))/\H x=Y (.ins C j (b.zip e))/\(b.zip e).lookup f=Y u/\cI K G d u:=by
 obtain⟨a,T,e1,P,nd,nf,F,W,hF⟩:=S.tree Q hd;obtain⟨x,T1,U,h1,g,p1,k1⟩:=P.focus J ep;cases g with
 |@ins _ _ _ _ w C j e S0 n ex l z=>
  obtain⟨m,p,e2⟩:=xC R;have i:(b.map (dG h))[m]?=Y .lf:=by rw[aF,vO p,<- Co X];rfl
  obtain⟨y,T1,U1,f1,E,_⟩:=z.at i e2;cases E with
  |leaf r=>exact⟨a,w,C,j,e,y,e1,h1,n,ex,by rw[tX p];exact f1,r⟩
def R7{b:Bool}{c f:aM}{op:Int->Int->Int}{o:Operator}(y:J9 X o (NQ op))(h:PE X (.Name x p) (ko j))(he:PE X e (tP X.K Z fe))(hc:tJ X.K c f)(hj:autoParam (j∈Z) Ű)(hb:autoParam (b=Z'->Cf j∈Z) Ű)(ha:autoParam (f∉EX) Ű):
  PS X (.AugAssign (.Attribute (.Name x p) f A) o e g) (jP X.K B I Z Z (eW b j c f op fe)):=(Ja h he y).imp <|by
 rintro D σ H ⟨G,w,o,S,i,k⟩;unfold eW at i;obtain⟨d,ef,i⟩:=aa.1 i;rcases q:Hs b j w with _|⟨r,pt⟩
 ·simp[q]at i
 rcases u:yl r w with _|⟨s,t⟩
 ·simp[q,u]at i
 rcases K:ya c s t pt with _|⟨fk,ks,ds⟩
 ·simp[q,u,K]at i
 simp only[q,u,K,ab]at i;split at i
 ·rename_i m n z;split at i
  ·rename_i T;cases i;obtain⟨R,Q⟩:=wX K;obtain⟨U,s',t',a,v',e1,e2,e3,e4⟩:=S.Hs q hj hb;have l:=ng u;rw[l]at e1;cases e1;obtain⟨a1,x1,P,J,vs1,u1,g1,g2,F,g4,g5,g6⟩:=S.X0 U l R Q T.1 z;rw[e2]at g1;cases g1;rw[e4]at g2;cases g2;cases bE.mp g6;refine⟨_,e3,x1,P,J,_,_,rfl,g4,(hc P F).1,(hc P F).2,g5,G,w,_,S.gh,S.lh,ef,λv G' H' E r =>?_⟩;cases bE.mp r;have S':=S.ext E;obtain⟨a',x',C,dx,vs,f1,f2,f3,f4,f5,f6⟩:=S'.RX (f:=f) (d :=.int (op m n)) (v :=.int (op m n)) U l R Q T.1 ha (bE.mpr rfl);rw[e2]at f1;cases f1;rw[jR E.hh e4]at f2;cases f2;rw[F]at f3;cases f3;refine⟨_,_,rfl,rfl,dx,_,f4,?_,k _ G' _ f6⟩;rw[vl f5];omega
  ·cases i
 ·cases i
inductive Nf (K:aT) (Z:List Nat) (s:Sk) (f:DF) (i:St) (H:Hp) (Q:VK):Prop
 |mk G h d:a_ G H->iQ K Z G H i h->f h=some d->(∀v a e c,gf G H e c->cQ K e c s d v a->a.Nodup->(∀b∈a,e b=none/\H b=none)->Q v c)->Nf K Z s f i H Q
def Yc{s:Sk}:PE X (.List [] g) (Nf X.K Z (.li s) (eK (.lst []))):=(zS (Z:=Z) dS).imp <|by
 rintro o H Q ⟨G,f,d,j,a,l,k⟩;cases l;refine⟨G,f,[],j,a,rfl,λq p n m E i h e r =>?_⟩;rw[cV.mp r]at e;exact k (.ref q) [q] n m E (.lst e .nil) Ž (λb c=>by simp at c;subst c;exact⟨h,i⟩)
def Yd:PE X (.Dict [] [] g) (Nf X.K Z .di (eK (.jn [] []))):=Ln.imp <|by
 rintro i H Q ⟨G,j,d,e,h,f,k⟩;cases f;exact λq a=>k (.ref q) [q] G _ (gf.lay (o :=.dK []) e a) (.jn (ks:=[]) (ds:=[]) (vs:=[]) bj rfl .nil) Ž (λb c=>by simp at c;subst c;exact⟨e.free a,a⟩)
noncomputable def Mv(c:aM)(f:DF):DF:=λb=>(f b).bind λd=>match d with|.ins a e h=>if a=c then Y (.ins a e h) else M|_=>M
def O1{c:aM}{f:DF}(h:PE X e (TX X.K Z f)):PE X e (Nf X.K Z (.fs c []) (Mv c f)):=h.imp <|by
 rintro x H Q ⟨G,l,d,t,i,a,k⟩;unfold Mv at a;obtain⟨y,u,a⟩:=aa.1 a;split at a
 ·split at a
  ·rename_i m;cases a;subst m;exact⟨G,l,_,t,i,u,λq o w v E s p n r=>k (.ref q) [q] w v E (zb.mpr ⟨⟨o,n,r⟩,rfl⟩) Ž (λb j=>by simp at j;subst j;exact⟨p,s⟩)⟩
  ·cases a
 ·cases a
noncomputable def R4(f:DF):DF:=λa=>(f a).map λd =>.lst [d]
def Sn{s:Sk}{f:DF}(h:PE X e (Nf X.K Z s f))(x:autoParam (av (e::[]) X.env=(Z_,eval e X.env)::av [] X.env) Ų):PE X (.List [e] g) (Nf X.K Z (.li s) (R4 f)):=(za (bM h cG x)).imp <|by
 rintro F H Q ⟨G,t,d,B,m,i,k⟩;unfold R4 at i;obtain⟨y,C,i⟩:=ah.1 i;cases i;refine⟨G,t,y,B,m,C,λv r D K E n w u=>⟨by simp;exact bq ſ vI,λq c =>?_⟩⟩;have a:q∉r:=λz=>by obtain⟨o,p,_⟩:=n.here q z;rw[c]at p;cases p
 refine k (.ref q) (q::(r++[])) D _ (E.trans (gf.lay (o :=.lst [v]) E.gh c)) (.lst bj (.cons (n.mono (a_.refl _) λb l o e =>?_) .nil)) ?_ (λb l =>?_)
 ·have j:b≠q:=λz=>a (z ▸ l)
  rw[aY j];exact e
 ·simp[a,w]
 ·rcases aE.mp l with z|z
  ·subst z;exact⟨E.gh.free c,E.hh.free c⟩
  ·exact u b (by simpa using z)
def Sh{s:Sk}{f:DF}(h:PE X e (Nf X.K Z s f)):PE X e (tP X.K Z f):=h.imp <|by
 rintro t H Q ⟨G,m,d,p,i,q,k⟩;refine⟨G,m,d,p,i,q,λv j r l E n u c=>k v (kv r l j) l ⟨E.hh,E.gg.trans (qz λb a=>(c b a).1),oI E.gh,λb o e =>?_⟩ (n.frozen (λb a=>(c b a).1) λb a=>a)⟩;by_cases a:b∈j
 ·exact .inr (c b a).2
 ·rw[ph a]at e;exact E.fr b o e
def A_(i:Nat)(s:Sk)(f:DF):DG:=λa=>(f a).map λd =>.nx (a.set i (Y (.obj s d)))
def SR.WQ{K:aT}{m:cO}{s:Sk}(S:SR K B Z G H t m)(C:i∈Z)(E:gf G H l n)(v:cQ K l n s d (.ref a) k)(x:k.Nodup)(u:∀b∈k,l b=M/\H b=M)(c:∀a,(i,a)∉B.3)(y:Bi i∉Z\/∀d,m[i]? ≠ Y (Y d)):SR K B Z l n (t.set i (Y (.ref a))) (m.set i (Y (.obj s d))):=by
 obtain⟨F,W⟩:=S.ow;exact S.chg (F0:=[]) (S':=k) W C (λb f=>by cases f) E.gg E.gh (λb o e=>by rcases E.fr b o e with z|z;exact .inl z;exact .inr (.inl z)) (λb o _ e=>E.hh b o e)
  v x (λb f=>⟨(u b f).1,.inr (u b f).2⟩) (λb h=>absurd h (c b)) (λr p z=>by cases z) (λj q P g _ e=>by
   obtain⟨_,R,s0,U,X,w,T,Q,_⟩:=S.eS j i q P g e;rcases y with z|z
   ·exact absurd R z
   ·exact absurd Q (z _))
def HY{i:Nat}{s:Sk}{f:DF}(C:X.N.Nodup)(u:X.N[i]?=Y x)(p:Loc X.env.scope x)(y:PE X e (Nf X.K Z s f))(r:autoParam (i∈Z) Ű)(c:autoParam (∀a,(i,a)∉B.3) ū)(t:autoParam (Bi i∉Z) Ű)(b:autoParam (Ex s=false) Ų)(q:autoParam (cP e (Y (.Name x A)) g.line X.env=eQ false) Ų)(w:autoParam (X.fn x=Z'\/X.env.scope.names.lookup x=Y .local) ŭ):
  PS X (.Assign [.Name x A] e g) (jP X.K B I Z Z (A_ i s f)):=(js C u p y q w).imp <|by
 rintro D P H ⟨G,l,o,S,h,k⟩;unfold A_ at h;obtain⟨d,F,h⟩:=ah.1 h;cases h;refine⟨G,l,d,S.gh,S.lh,F,λv Q J K E j n m =>?_⟩;obtain⟨a,_,rfl,_⟩:=j.root (λz=>by rw[z]at b;cases b);exact k _ J K (S.WQ r E j n m c (.inl t))
def p_(j:Nat)(c f:aM)(l:Sk)(m:DF):DG:=λa=>(m a).bind λd=>(yl j a).bind λh=>match h.1,h.2 with
 |.fs n i,.ins e b k=>if (n=c/\e=c)/\Sk.yx (dG i f) l=Z'/\b.length<999 then Y (.nx ((dz j a).set j (Y (.obj (.fs c i) (.ins c (je f d b k).1 (je f d b k).2))))) else M
 |_,_=>M
def SR.NY{K:aT}{v g:Hp}{X:St}{f:aM}(S:SR K B Z G H X ρ)(hr:r∈Z)(hd:ρ[r]?=Y (Y (.obj (.fs c fk) (.ins c n U))))(E:gf G H v g)(o1:cQ K v g (dG fk f) d u S1)(nd1:S1.Nodup)(m:∀b∈S1,v b=M/\H b=M):
  ∃x C Q w,X[r]?=Y (Y (.ref x))/\vb K bw c=Y (Y (.ref C))/\g x=Y (.ins C Q (n.zip w))/\n.length=w.length /\
   SR K B Z v (dg g x (.ins C Q (lU f u (n.zip w)))) X ((dz r ρ).set r (Y (.obj (.fs c fk) (.ins c (je f d n U).1 (je f d n U).2)))):=by
 obtain⟨a,T,e1,ot,nd,nf,F,W,hF⟩:=S.tree hr hd;have inH:∀b∈T,∃o,H b=Y o:=λb l=>by obtain⟨o,s,_⟩:=ot.here b l;exact⟨o,s⟩
 have dj:∀b∈S1,b∉T:=λb l Qa=>by obtain⟨o,s⟩:=inH b Qa;rw[(m b l).2]at s;cases s
 obtain⟨x,C,Q,w,h1,h2,h3,h4,h5,h6,T',o2,V6,sub⟩:=ot.put (p:=[]) (f:=f) nd rfl rfl E.gg (λb _ o e=>E.hh b o e) o1 nd1 dj;cases h1;have hu:=lu (r:=r) hd (λq z=>by cases z);have S':=(S.ext E).II (r:=r);have Wx:=W.ext E;have W':qN K B Z v g X (dz r ρ) F:=⟨λi d P e=>Wx.it i d P (bT e).1,λi d P e=>Wx.ok i d P (bT e).1,λi j d c P hj ei ej=>Wx.ap i j d c P hj (bT ei).1 (bT ej).1⟩;have gT:∀b∈T,v b=none:=λb l=>by rw[<- hF]at l;exact((Wx.ok r _ hr hd).2 b l).1
 have R:=S'.GJ (i:=r) (a:=a) (d' :=.obj (.fs c fk) (.ins c (je f d n U).1 (je f d n U).2)) (F0:=T) (S':=T') (G':=v) (H':=dg g a (.ins C Q (lU f u (n.zip w)))) W' hr (λb l=>⟨by rw[hF];exact l,_,hu⟩) (a_.refl _) (λb o e=>by
   have t:b≠a:=λz=>by rw[z,gT a h2]at e;cases e
   rw[aY t];exact E.gh b o e) (λb o e =>.inl e) (λb o l e=>by
   have t:b≠a:=λz=>l (z ▸ h2)
   rw[aY t];exact e) o2 V6 (λb l=>by
   rcases sub b l with z|z
   ·exact⟨gT b z,.inl z⟩
   ·refine⟨(m b z).1,.inr (.inr ⟨S.h0.free (m b z).2,λk c hk ek Kn XT =>?_⟩)⟩;obtain⟨y,f1,f2⟩:=W.it k c hk (bT ek).1;obtain⟨o,s⟩:=f2.here b XT;rw[(m b z).2]at s;cases s) (λb h=>by have:=(S.pin r b h).2;rw[e1]at this;cases this;rfl) (λr p z=>by cases z)
  (λj p _ _ _ e=>absurd rfl ((bT e).2 p))
 have R:=R.1;rw[gB e1]at R;exact⟨a,C,Q,w,e1,h3,E.hh _ _ h4,h6,R⟩
def MD{c f:aM}{s1:Sk}(h:PE X (.Name x p) (ko j))(P:PE X e (Nf X.K Z s1 q))(n:tJ X.K c f)(J:autoParam (j∈Z) Ű)(K:autoParam (cP e (Y (.Attribute (.Name x p) f A)) g.line X.env=eQ false) Ų):PS X (.Assign [.Attribute (.Name x p) f A] e g) (jP X.K B I Z Z (p_ j c f s1 q)):=(B_ h P K).imp <|by
 rintro D σ H ⟨G,l,o,S,a,k⟩;unfold p_ at a;obtain⟨d,ef,a⟩:=aa.1 a;rcases i:yl j l with _|⟨s,t⟩
 ·simp[i]at a
 simp only[i,ab]at a;split at a
 ·rename_i c' fk Yk ks ds;split at a
  ·rename_i F;obtain⟨⟨rfl,rfl⟩,b,z⟩:=F;cases a;have Q:=ng i;refine⟨G,l,d,S.gh,S.lh,ef,λv S1 G' H' E m y w =>?_⟩;rw[<- Sk.rE b]at m;obtain⟨u,C,dx,vs,f1,r,U,T,R⟩:=S.NY J Q E m y w;refine⟨_,f1,u,C,dx,_,rfl,U,(n C r).1,(n C r).2,?_,k _ G' _ R⟩;rw[vl T];omega
  ·cases a
 ·cases a
end
def sJ(c f:aM)(j:Nat)(A:cO):Option (List (aM×Sk)×List aM×List D×D):=(yl j A).bind λb=>match b.1,b.2 with
 |.fs k i,.ins a d e=>if k=c/\a=c then (Ap f d).bind λn=>(e[n]?).map λh=>(i,d,e,h) else M
 |_,_=>M
def oE{f:aM}{m:List D}(h:sJ c f j A=Y (a,e,m,o)):A[j]?=Y (Y (.obj (.fs c a) (.ins c e m)))/\mL [.fld f] (.fs c a)=Y (dG a f)/\fM [.fld f] (.ins c e m)=Y o:=by
 unfold sJ at h;rcases i:yl j A with _|⟨s,t⟩
 ·rw[i]at h;cases h
 rw[i]at h;simp only[ab]at h;split at h
 ·rename_i u q r d l;split at h
  ·rename_i p;obtain⟨rfl,rfl⟩:=p;rcases b:Ap f d with _|n
   ·simp[b]at h
   rcases k:l[n]? with _|y
   ·simp[b,k]at h
   simp only[b,k,ab,bI,gM,Ar]at h;obtain⟨rfl,rfl,rfl,rfl⟩:=h;exact⟨ng i,rfl,by simp[fM,b,k]⟩
  ·cases h
 ·cases h
abbrev y8(c f:aM)(b:List (aM×Sk))(a:List aM)(d:List D)(x:D):D :=.obj (.fs c b) (nh x [.fld f] (.ins c a d))
section
variable {K:aT}
theorem SR.JJ{f:aM}{s:List (aM×Sk)}{v:List D}(S:SR K B Z G H J A)(p:r∈Z)(q:A[r]?=Y (Y (.obj (.fs c s) (.ins c e v))))(t:J[r]?=Y (Y (.ref a)))(b:gS H [.fld f] (.ref a)=Y x):
  ∃C d h,vb K bw c=Y (Y (.ref C))/\H a=Y (.ins C d h)/\h.lookup f=Y x:=by
 obtain⟨y,T,k,o,_⟩:=S.tree p q;rw[t]at k;cases k;cases o with
 |@ins _ _ _ _ _ C d m z n i l w=>refine⟨C,d,_,n,i,?_⟩;simp only[gS,i]at b;obtain⟨u,j,b⟩:=aa.1 b;rw[j];simp at b;rw[b]
def SR.AX{p:z9}{s:Sk}(S:SR K B Z G H J A)(E:r∈Z)(F:A[r]?=Y (Y (.obj s t)))(g:mL p s=Y j)(I:fM p t=Y n):
  ∃a x f,J[r]?=Y (Y (.ref a))/\gS H p (.ref a)=Y x/\cQ K G H j n x f/\f.Nodup /\
   ∀(l:az) (o:HO) (d:D) (c:List az),l∈f->cQ K G (dg H l o) j d x c->c.Nodup->(∀b∈c,b∈f)->SR K B Z G (dg H l o) J ((dz r A).set r (Y (.obj s (nh d p t)))):=by
 obtain⟨a,x,f,R,P,w,C,q,k⟩:=S.GK E F g I;refine⟨a,x,f,R,P,w,C,λl o d c v y m h=>k d c G _ ⟨zo v,a_.refl _,λb u e =>?_,λb u e =>.inl e⟩ y m λb i=>⟨q b (h b i),.inl (h b i)⟩⟩;have i:b≠l:=λz=>by rw[z,q l v]at e;cases e
 rw[aY i];exact S.gh b u e
end
section
variable {X:Cx}
def Hj(j:Nat)(c f:aM)(b:DF):DG:=λA=>(sJ c f j A).bind λq=>(b A).bind λd=>match q.2.2.2 with
 |.lst a=>if Sk.yx (dG q.1 f) (.li .lf)=Z'/\a.length<dU then Y (.nx ((dz j A).set j (Y (y8 c f q.1 q.2.1 q.2.2.1 (.lst (a++[d])))))) else M
 |_=>M
def Wh{c f:aM}(h:PE X (.Name x p) (ko j))(he:PE X e (tP X.K Z fe))(hc:tJ X.K c f)(hj:autoParam (j∈Z) Ű)(RP:autoParam (cB (.Name x p) f X.env (eval (.Name x p) X.env)=eval (.Name x p) X.env) Ų)(s:autoParam (cB (.Attribute (.Name x p) f I) "append" X.env (eval (.Attribute (.Name x p) f I) X.env)=eval (.Attribute (.Name x p) f I) X.env) Ų) (u:autoParam (((dt N (av (e::[]) X.env)).all (λx=> !x.1)&&(jg N (eJ [] X.env)).all (λx=>x.1.isSome)
   && decide ((e::[]).length+([]:List oP).length+(if ([]:List oP).isEmpty then 0 else 1)<30))=true) Ų) (q:autoParam ((U.endLine==N.line)=true) Ų) (hs:autoParam (av (e::[]) X.env=(Z_,eval e X.env)::av [] X.env) Ų) (m:autoParam ((dt N (av [] X.env)).any (·.1)=false) Ų) (hsw:autoParam (cP (.Call (.Attribute (.Attribute (.Name x p) f I) "append" U) [e] [] N) M L.line X.env=eQ false) Ų) :
  PS X (.Expr (.Call (.Attribute (.Attribute (.Name x p) f I) "append" U) [e] [] N) L) (jP X.K B Q Z Z (Hj j c f fe)):=
 (gJ (rX dC PySem.F.slot_list_append PySem.F.type_list_append gX (sU h RP) (bM he cG hs) s u q hs m) hsw).imp <|by
  rintro D J H ⟨G,A,o,S,i,k⟩;unfold Hj at i;obtain⟨⟨fk,ks,ds,t1⟩,et,i⟩:=aa.1 i;rcases ef:fe A with _|d
  ·simp[ef]at i
  simp only[ef,ab]at i;split at i
  ·rename_i xs;split at i
   ·rename_i hz;cases i;obtain⟨hd,i1,i2⟩:=oE et;rw[Sk.rE hz.1]at i1;obtain⟨a,y,T1,e1,e2,o1,nd,_⟩:=S.AX hj hd i1 i2;obtain⟨C,dx,fs,n,f1,f2⟩:=S.JJ hj hd e1 e2;cases o1 with
    |@lst _ _ l vs S0 hl tt=>
     refine⟨_,e1,a,C,dx,fs,_,rfl,f1,(hc C n).1,(hc C n).2,f2,.inl ⟨rfl,vs,.of hl⟩,G,A,d,S.gh,S.lh,ef,λv G' H' E r =>?_⟩;have S':=S.ext E;obtain⟨a',y',T1',F,w,g,R,k'⟩:=S'.AX hj hd i1 i2;rw[e1]at F;cases F;rw[jR E.hh e2]at w;cases w;obtain⟨x',K,g1,g2,g3,g4,T2,o2,P,t⟩:=g.app (p:=[]) (d:=d) (u:=v) (S1:=[]) R rfl rfl (a_.refl _) (λ_ _ _ z=>z) (.leaf r) Ž (λb hb=>by cases hb);cases g1;refine⟨l,K,v,rfl,rfl,g3,?_,k _ G' _ (k' l _ _ T2 g2 o2 P λb hb =>?_)⟩
     ·rw[<- g4];exact bx hz.2 hT
     ·rcases t b hb with z|z
      ·exact z
      ·cases z
   ·cases i
  ·cases i
noncomputable def qK(k:mi)(d:D)(a:List mi)(b:List D):List mi×List D:=if (a.any λq=>decide (q=k))=Z' then (a,wj (λq x=>if q=k then d else x) a b) else (a++[k],b++[d])
theorem Il:∀ {ks:List mi}{a:List V},ks.length=a.length->((ks.zip a).any λb=>decide (b.1=k))=ks.any λq=>decide (q=k)
 |[],a,h=>by simp
 |q::ks,[],h=>by simp at h
 |q::ks,v::a,h=>by simp only[cz,pX];rw[Il (ks:=ks) (by simpa using h)]
theorem Hy{v:V}:∀ {ks:List mi}{a:List V},(ks.zip a).map (λb=>if b.1=k then (b.1,v) else b)=ks.zip (wj (λq x=>if q=k then v else x) ks a)
 |[],a=>by simp
 |q::ks,[]=>by simp
 | q::ks,u::a=>by
  simp only[cz,aI,wh,Hy (ks:=ks)];by_cases h:q=k
  ·simp[h]
  ·simp[h]
theorem vx{K:aT}{v:V}(r:cI K G d v):∀ {b:List mi}{e:List D}{a:List V},be K G e a->be K G (wj (λq x=>if q=k then d else x) b e) (wj (λq x=>if q=k then v else x) b a)
 |[],e,a,h=>by simp;exact .nil
 |q::b,[],a,h=>by rw[cV.mp h];simp;exact .nil
 | q::b,x::e,a,h=>by
  obtain⟨u,j,rfl,i,f⟩:=bt.mp h;simp only[wh];refine .cons ?_ (vx r f);by_cases c:q=k
  ·rw[if_pos c,if_pos c];exact r
  ·rw[if_neg c,if_neg c];exact i
def O2{K:aT}{k:mi}{v:V}{f:List V}(r:cI K G d v)(j:a.length=b.length)(i:be K G b f):∃c,xw (a.zip f) k v=(qK k d a b).1.zip c/\(qK k d a b).1.length=(qK k d a b).2.length/\be K G (qK k d a b).2 c:=by
 have e:a.length=f.length:=by rw[j,i.length]
 unfold xw qK;rw[Il e];by_cases h:(a.any λq=>decide (q=k))=Z'
 ·rw[if_pos h,if_pos h];exact⟨_,Hy,by simp[j],vx r i⟩
 ·rw[if_neg h,if_neg h];refine⟨f++[v],?_,by simp[j],i.append (.cons r .nil)⟩;rw[List.zip_append e];rfl
def qX(j:Nat)(c f:aM)(e:DF)(h:DM):DG:=λA=>(h A).bind λw=>(sJ c f j w.2).bind λq=>(e w.2).bind λy=>(Cm y).bind λb=>match q.2.2.2 with
 |.jn a d=>if Sk.yx (dG q.1 f) .di=Z'/\a.length<dU then Y (.nx ((dz j w.2).set j (Y (y8 c f q.1 q.2.1 q.2.2.1 (.jn (qK b w.1 a d).1 (qK b w.1 a d).2))))) else M
 |_=>M
def EG{c f:aM}(P:X.A.units+1<su)(h:PE X (.Name x p) (ko j))(hi:PE X i (tP X.K Z fk))(he:PE X e (tM X.K B Z fe))(hc:tJ X.K c f)(R:autoParam (j∈Z) Ű)(RP:autoParam (cB (.Name x p) f X.env (eval (.Name x p) X.env)=eval (.Name x p) X.env) Ų)(hs:autoParam (cP e (Y (.Subscript (.Attribute (.Name x p) f I) i O)) L.line X.env=eQ false) Ų):
  PS X (.Assign [.Subscript (.Attribute (.Name x p) f I) i O] e L) (jP X.K B Q Z Z (qX j c f fk fe)):=(N3 P (sU h RP) hi he hs).imp <|by
 rintro D J H ⟨G,A,o,S,b,k⟩;unfold qX at b;obtain⟨⟨d,l⟩,ef,b⟩:=aa.1 b;obtain⟨⟨fk',ks0,ZP,t1⟩,et,b⟩:=aa.1 b;rcases w:fk l with _|y
 ·simp[w]at b
 rcases m:Cm y with _|ky
 ·simp[w,m]at b
 simp only[w,m,ab]at b;split at b
 ·rename_i ks ds;split at b
  ·rename_i hz;cases b;obtain⟨hd,g,i2⟩:=oE et;rw[Sk.rE hz.1]at g;refine⟨G,A,d,l,S,ef,λv G1 H1 t s1 rv =>?_⟩;obtain⟨a,y',T1,e1,e2,o1,nd,_⟩:=t.AX R hd g i2;obtain⟨C,dx,fs,n,f1,f2⟩:=t.JJ R hd e1 e2;refine⟨_,e1,a,C,dx,fs,_,rfl,f1,(hc C n).1,(hc C n).2,f2,G1,l,y,t.gh,t.lh,w,λu G2 H2 E2 ru =>?_⟩;have P:=vK m (.inl ru:kB X.K G2 H2 y u);have S2:=t.ext E2;obtain⟨a',y2,T2,s,r,o2,K,k2⟩:=S2.AX R hd g i2;rw[e1]at s;cases s;rw[jR E2.hh e2]at r;cases r;obtain⟨x',vs,g1,g2,g3,g4,g5,g6⟩:=o2.dput (p:=[]) K rfl rfl (a_.refl _) (λ_ _ _ z=>z);cases g1;obtain⟨E,z1,z2,z3⟩:=O2 (k:=ky) (cI.mono E2.gg d rv) g4 g5;obtain⟨T3,o3,F,q⟩:=g6 _ _ E z2 z3;refine⟨x',_,rfl,?_,k _ G2 _ (k2 x' _ _ T3 g2 o3 F q)⟩;rw[P,<- z1];refine M5.k g3 ?_;rw[List.length_zip,g4,g5.length,Pw,<- g5.length,<- g4];exact bx hz.2 hT
  ·cases b
 ·cases b
def sS(i j:Nat)(c f:aM)(b:DF):DG:=λA=>(sJ c f j A).bind λq=>(b A).bind λy=>match dG q.1 f,q.2.2.2,y with
 |.li (.fs _ _),.lst a,.int n=>(An a.length n).map λk =>.nx (A.set i (Y (.eS j [.fld f,.ix k])))
 |_,_,_=>M
def Wi{i:Nat}{c f:aM}{b:Expr}(hN:X.N.Nodup)(hy:X.N[i]?=Y y)(hly:Loc X.env.scope y)(h:PE X (.Name x p) (ko j))(he:PE X b (tP X.K Z fe))(hc:tJ X.K c f)(N:autoParam (j∈Z) Ű)(hj2:autoParam (Bi j∈Z) Ű)(hi:autoParam (i∈Z) Ű)(hi2:autoParam (Bi i∉Z) Ű)(To:autoParam (j≠i) Ű)(s:autoParam (∀a,(i,a)∉B.3) ū)(Zy:autoParam (f∈EX) Ű)(RP:autoParam (cB (.Name x p) f X.env (eval (.Name x p) X.env)=eval (.Name x p) X.env) Ų)(hpi:autoParam (C0 b) Ŧ)(hs:autoParam (cP (.Subscript (.Attribute (.Name x p) f I) b q) (Y (.Name y O)) L.line X.env=eQ false) Ų)(hf:autoParam (X.fn y=Z'\/X.env.scope.names.lookup y=Y .local) ŭ):
  PS X (.Assign [.Name y O] (.Subscript (.Attribute (.Name x p) f I) b q) L) (jP X.K B Q Z Z (sS i j c f fe)):=(js hN hy hly (rW vL (sU h RP) he hpi) hs hf).imp <|by
 rintro D J H ⟨G,A,o,S,e,k⟩;unfold sS at e;obtain⟨⟨fk,ks,ds,t1⟩,et,e⟩:=aa.1 e;rcases ef:fe A with _|d
 ·simp[ef]at e
 simp only[ef,ab]at e;split at e
 ·rename_i c2 t xs n w;rcases R:An xs.length n with _|m
  ·rw[R]at e;cases e
  rw[R]at e;cases e;obtain⟨P,i1,i2⟩:=oE et;rw[w]at i1;obtain⟨a,y',T1,e1,e2,o1,nd,_⟩:=S.AX N P i1 i2;obtain⟨C,dx,fs,nn,f1,f2⟩:=S.JJ N P e1 e2;refine⟨_,e1,a,C,dx,fs,_,rfl,f1,(hc C nn).1,(hc C nn).2,f2,G,A,_,S.gh,S.lh,ef,λv G' H' E r =>?_⟩;cases bE.mp r;have S':=S.ext E;obtain⟨a',y2,T2,K,F,o2,V6,k2⟩:=S'.AX N P i1 i2;rw[e1]at K;cases K;rw[jR E.hh e2]at F;cases F;cases o2 with
  |@lst _ _ l vs S0 hl tt=>
   have hm:m<xs.length:=(Cn R).2.1;obtain⟨v1,T3,U3,g1,g2,_⟩:=tt.at (n:=m) (s :=.fs c2 t) (by simp[hm]) (aO hm);obtain⟨b',o',rfl,g3,_⟩:=g2.root (λz=>by cases z);refine⟨l,vs,n,.ref b',rfl,rfl,.of hl,?_,k _ G' H' ?_⟩
   ·unfold oi;rw[<- tt.length.1,R];exact g1
   ·refine S'.QK N hj2 hi To hi2 s P e1 (p:=[.fld f,.ix m]) (s' :=.fs c2 t) ?_ ?_ (λg hg =>?_)
    ·have:=jR E.hh e2;simp only[gS]at this ⊢;rcases ea:H' a with _|ob
     ·rw[ea]at this;cases this
     rw[ea]at this;cases ob<;>simp only at this ⊢<;>try (cases this;done)
     rename_i Ve;obtain⟨u,el,this⟩:=aa.1 this;rw[el];simp at this;subst this;simp only[ab,gS,hl,g1]
    ·show (mL [.fld f,.ix m] (.fs c fk))=_;simp only[mL,w]
    ·simp[AF]at hg;subst hg;exact Zy
 ·cases e
end
section
variable {K:aT}{m:St}{g:cO}
def jj{i:Nat}(h:(g.set j M)[i]?=Y (Y d)):j≠i/\g[i]?=Y (Y d):=by
 by_cases e:j=i
 ·subst e;by_cases a:j<g.length
  ·rw[bC a]at h;cases h
  ·rw[f9 (by simpa using a)]at h;cases h
 ·rw[aj e]at h;exact⟨e,h⟩
def SR.blank(S:SR K B Z G H m g)(q:g[j]?=Y (Y d))(u:vM d=Z'):SR K B Z G H m (g.set j M):=by
 refine⟨S.gh,S.g0,S.h0,S.fr,λi c a e=>S.env i c a (jj e).2,?_,by simp[S.len],S.pin,λi r p y x e =>?_⟩
 ·obtain⟨F,W⟩:=S.ow;exact⟨F,λi d a e=>W.it i d a (jj e).2,λi d a e=>W.ok i d a (jj e).2,λi j d c a o Q P=>W.ap i j d c a o (jj Q).2 (jj P).2⟩
 ·obtain⟨s,O,n,k,l,w,h,f,C⟩:=S.eS i r p y x (jj e).2;have b:j≠r:=λz=>by subst z;rw[q]at f;cases f;cases u
  exact⟨s,O,n,k,l,w,h,by rw[aj b];exact f,C⟩
def SR.Rn{f:aM}{X s:List D}(S:SR K B Z G H m g)(hr:r∈Z)(P:j∈Z)(XB:r≠j)(hd:g[r]?=Y (Y (.obj (.fs c Q) (.ins c O U))))(E:mL [.fld f] (.fs c Q)=Y (.li (.fs n [])))(ep:fM [.fld f] (.ins c O U)=Y (.lst X))(h2:g[j]?=Y (Y (.ins n x s))):
  ∃a l y w,m[r]?=Y (Y (.ref a))/\gS H [.fld f] (.ref a)=Y (.ref l)/\m[j]?=Y (Y (.ref y))/\H l=Y (.lst w)/\X.length=w.length/\SR K B Z G (dg H l (.lst (w++[.ref y]))) m (((dz r g).set j M).set r (Y (y8 c f Q O U (.lst (X++[.ins n x s]))))):=by
 obtain⟨a,T,e1,o1,nd,nf,F,W,hF⟩:=S.tree hr hd;obtain⟨y,e2,oc⟩:=W.it j _ P h2;obtain⟨⟨ob,oh,cell⟩,fj⟩:=(oj.cell (d :=.ins n x s) rfl).mp oc;obtain⟨_,ZH⟩:=W.ok j _ P h2;have yF:y∈F j:=by rw[fj];simp
 have yT:y∉T:=λz=>by rw[<- hF]at z;exact W.ap r j _ _ hr P hd h2 XB y z yF
 have ou:cQ K G H (.fs n []) (.ins n x s) (.ref y) [y]:=zb.mpr ⟨⟨ob,oh,cell⟩,rfl⟩;obtain⟨l,w,g1,g2,g3,g4,T',o2,V6,sub⟩:=o1.app (p:=[.fld f]) (d :=.ins n x s) (u :=.ref y) (S1:=[y]) nd E ep (a_.refl G) (λ_ _ _ z=>z) ou Ž (λb u=>by simp at u;subst u;exact yT);refine⟨a,l,y,w,e1,g1,e2,g3,g4,?_⟩;have hu:=lu (r:=r) hd (λq z=>by cases z);have U4:=lu (r:=r) h2 (λq z=>by cases z);have S0:=(S.II (r:=r)).blank U4 rfl;have hr0:((dz r g).set j M)[r]?=Y (Y (.obj (.fs c Q) (.ins c O U))):=by rw[aj (cg XB)];exact hu
 have W0:qN K B Z G H m ((dz r g).set j M) F:=⟨λi d hi e=>W.it i d hi (bT (jj e).2).1,λi d hi e=>W.ok i d hi (bT (jj e).2).1,λi j d c hi P ei ej=>W.ap i j d c hi P (bT (jj ei).2).1 (bT (jj ej).2).1⟩;have R:=(S0.GJ (i:=r) (a:=a) (d':=y8 c f Q O U (.lst (X++[D.ins n x s]))) (F0:=T) (S':=T') (G':=G) (H':=dg H l (.lst (w++[V.ref y]))) W0 hr (λb u=>⟨by rw[hF];exact u,_,hr0⟩) (a_.refl _) (λb o e=>by
   have C:b≠l:=λz=>by rw[z,(nf l g2).1]at e;cases e
   rw[aY C];exact S.gh b o e) (λb o e =>.inl e) (λb o u e=>by
   have C:b≠l:=λz=>u (z ▸ g2)
   rw[aY C];exact e) (show oj K G (dg H l (.lst (w++[V.ref y]))) (y8 c f Q O U (.lst (X++[D.ins n x s]))) a T' from o2) V6 (λb u=>by
   rcases sub b u with z|z
   ·exact⟨(nf b z).1,.inl z⟩
   ·simp at z;subst z;refine⟨(ZH b yF).1,.inr (.inr ⟨(ZH b yF).2,λk c hk ek Kn XT =>?_⟩)⟩;obtain⟨V',ek⟩:=jj ek;exact W.ap j k _ c P hk h2 (bT ek).1 V' b yF XT) (λb h=>by have:=(S.pin r b h).2;rw[e1]at this;cases this;rfl) (λr p z=>by cases z)
  (λj' p _ _ _ e=>absurd rfl ((bT (jj e).2).2 p))).1
 rwa [gB e1]at R
def SR.Om{f:aM}(S:SR K B Z G H m g)(hr:r∈Z)(hj:j∈Z)(XB:r≠j)(hd:g[r]?=Y (Y (.obj (.fs c fk) (.ins c ks ds))))(E:mL [.fld f] (.fs c fk)=Y (.li (.fs c2 [])))(ep:fM [.fld f] (.ins c ks ds)=Y (.lst (xs++[.ins c2 k2 d2])))(U:∀a,(j,a)∉B.3)(hm:Bi j∉Z):
  ∃a l y P,m[r]?=Y (Y (.ref a))/\gS H [.fld f] (.ref a)=Y (.ref l)/\H l=Y (.lst (P++[.ref y]))/\SR K B Z G (dg H l (.lst P)) (m.set j (Y (.ref y))) (((dz r g).set r (Y (y8 c f fk ks ds (.lst xs)))).set j (Y (.ins c2 k2 d2))):=by
 obtain⟨a,T,e1,o1,nd,nf,F,W,hF⟩:=S.tree hr hd;obtain⟨l,P,u,g1,g2,g3,g4,T',S1,o2,o3,pm⟩:=o1.W9 (p:=[.fld f]) nd E ep;have hu:=lu (r:=r) hd (λq z=>by cases z);have W0:qN K B Z G H m (dz r g) F:=⟨λi d X e=>W.it i d X (bT e).1,λi d X e=>W.ok i d X (bT e).1,λi j d c X hj ei ej=>W.ap i j d c X hj (bT ei).1 (bT ej).1⟩;have Q:=pm.nodup_iff.mpr nd;rw[gO]at Q;obtain⟨n1,n2,n3⟩:=Q;have ZV:∀b∈T',b∈T:=λb n=>pm.subset (bb _ n)
 have O:∀b∈S1,b∈T:=λb n=>pm.subset (aG _ n)
 have R:=(S.II (r:=r)).GJ (i:=r) (a:=a) (d':=y8 c f fk ks ds (.lst xs)) (F0:=T) (S':=T') (G':=G) (H':=dg H l (.lst P)) W0 hr (λb n=>⟨by rw[hF];exact n,_,hu⟩) (a_.refl _) (λb o e=>by
   have s:b≠l:=λz=>by rw[z,(nf l g2).1]at e;cases e
   rw[aY s];exact S.gh b o e) (λb o e =>.inl e) (λb o n e=>by
   have s:b≠l:=λz=>n (z ▸ g2)
   rw[aY s];exact e) o2 n1 (λb n=>⟨(nf b (ZV b n)).1,.inl (ZV b n)⟩) (λb h=>by have:=(S.pin r b h).2;rw[e1]at this;cases this;rfl) (λr p z=>by cases z)
  (λj' p _ _ _ e=>absurd rfl ((bT e).2 p))
 rw[gB e1]at R;obtain⟨Sr,Wr⟩:=R;obtain⟨y,ob,rfl,hy,hyS⟩:=o3.root (λz=>by cases z);obtain⟨⟨o4,oh,cell⟩,s1⟩:=zb.mp o3;subst s1;have R2:=(Sr.GJ (i:=j) (a:=y) (d' :=.ins c2 k2 d2) (F0:=[]) (S':=[y]) (G':=G) (H':=dg H l (.lst P)) Wr hj (λb n=>by cases n) (a_.refl _) Sr.gh (λb o e =>.inl e) (λb o _ e=>e)
  ((oj.cell rfl).mpr ⟨⟨o4,oh,cell⟩,rfl⟩) Ž (λb n=>by
   have C:=n;simp at n;subst n;refine⟨(nf b (O b C)).1,.inr (.inr ⟨(nf b (O b C)).2,λk cc hk ek Kn x =>?_⟩)⟩;by_cases w:k=r
   ·subst w;simp only[if_true]at x;exact n3 b x b C rfl
   ·simp only[if_neg w]at x;rw[aj (cg w)]at ek;exact W.ap r k _ cc hr hk hd (bT ek).1 (cg w) b (by rw[hF];exact O b C) x) (λb h=>absurd h (U b)) (λr p z=>by cases z)
  (λj' p h1 h2 _ e=>by obtain⟨_,g0,_⟩:=Sr.eS j' j p h1 h2 e;exact absurd g0 hm)).1
 exact⟨a,l,y,P,e1,g1,g3,R2⟩
end
section
variable {X:Cx}{s v:Pos}
def y0(j i:Nat)(c f:aM):DG:=λg=>(sJ c f j g).bind λq=>(eV i g).bind λd=>match q.2.2.2,d with
 |.lst a,.ins b e h=>if Sk.yx (dG q.1 f) (.li (.fs b []))=Z'/\a.length<dU then Y (.nx (((dz j g).set i M).set j (Y (y8 c f q.1 q.2.1 q.2.2.1 (.lst (a++[.ins b e h])))))) else M
 |_,_=>M
def MB{i:Nat}{c f:aM}(h:PE X (.Name x p) (ko j))(hy:PE X (.Name y v) (ko i))(U:tJ X.K c f)(R:autoParam (j∈Z) Ű)(hi:autoParam (i∈Z) Ű)(z:autoParam (j≠i) Ű)(F:autoParam (cB (.Name x p) f X.env (eval (.Name x p) X.env)=eval (.Name x p) X.env) Ų)(r:autoParam (cB (.Attribute (.Name x p) f s) "append" X.env (eval (.Attribute (.Name x p) f s) X.env)=eval (.Attribute (.Name x p) f s) X.env) Ų) (u:autoParam (((dt t (av ((.Name y v)::[]) X.env)).all (λx=> !x.1)&&(jg t (eJ [] X.env)).all (λx=>x.1.isSome)
   && decide (((.Name y v:Expr)::[]).length+([]:List oP).length+(if ([]:List oP).isEmpty then 0 else 1)<30))=true) Ų) (q:autoParam ((A.endLine==t.line)=true) Ų) (Q:autoParam (av ((.Name y v)::[]) X.env=(Z_,eval (.Name y v) X.env)::av [] X.env) Ų) (e:autoParam ((dt t (av [] X.env)).any (·.1)=false) Ų) (w:autoParam (cP (.Call (.Attribute (.Attribute (.Name x p) f s) "append" A) [.Name y v] [] t) M I.line X.env=eQ false) Ų) :
  PS X (.Expr (.Call (.Attribute (.Attribute (.Name x p) f s) "append" A) [.Name y v] [] t) I) (jP X.K B J Z Z (y0 j i c f)):=
 (gJ (rX dC PySem.F.slot_list_append PySem.F.type_list_append gX (sU h F) (bM hy cG Q) r u q Q e) w).imp <|by
  rintro D m H ⟨G,g,o,S,b,k⟩;unfold y0 at b;obtain⟨⟨fk,ks,ds,t1⟩,et,b⟩:=aa.1 b;rcases K:eV i g with _|d
  ·simp[K]at b
  simp only[K,ab]at b;split at b
  ·rename_i xs c2 k2 d2;split at b
   ·rename_i P;cases b;obtain⟨T,O,i2⟩:=oE et;rw[Sk.rE P.1]at O;obtain⟨a,l,y,E,e1,e2,e3,e4,e5,S'⟩:=S.Rn R hi z T O i2 (jd K);obtain⟨C,dx,fs,n,f1,f2⟩:=S.JJ R T e1 e2;refine⟨_,e1,a,C,dx,fs,_,rfl,f1,(U C n).1,(U C n).2,f2,.inl ⟨rfl,E,.of e4⟩,_,e3,l,E,_,rfl,rfl,e4,?_,k _ G _ S'⟩;rw[<- e5];exact bx P.2 hT
   ·cases b
  ·cases b
def DH(i j:Nat)(c f:aM):DG:=λg=>(sJ c f j g).bind λq=>match q.2.2.2 with
 | .lst a=>(a.getLast?).bind λd=>match d with
  |.ins b e h=>if Sk.yx (dG q.1 f) (.li (.fs b []))=Z' then Y (.nx (((dz j g).set j (Y (y8 c f q.1 q.2.1 q.2.2.1 (.lst a.dropLast)))).set i (Y (.ins b e h)))) else M
  |_=>M
 |_=>M
def OO{i:Nat}{c f:aM}(hN:X.N.Nodup)(hy:X.N[i]?=Y y)(w:Loc X.env.scope y)(h:PE X (.Name x p) (ko j))(T:tJ X.K c f)(Q:autoParam (j∈Z) Ű)(hi:autoParam (i∈Z) Ű)(z:autoParam (j≠i) Ű)(r:autoParam (∀a,(i,a)∉B.3) ū)(hm:autoParam (Bi i∉Z) Ű)(F:autoParam (cB (.Name x p) f X.env (eval (.Name x p) X.env)=eval (.Name x p) X.env) Ų)(q:autoParam (cB (.Attribute (.Name x p) f s) "pop" X.env (eval (.Attribute (.Name x p) f s) X.env)=eval (.Attribute (.Name x p) f s) X.env) Ų)(e:autoParam ((A.endLine==t.line)=true) Ų)(hs:autoParam (cP (.Call (.Attribute (.Attribute (.Name x p) f s) "pop" A) [] [] t) (Y (.Name y L)) I.line X.env=eQ false) Ų)(hf:autoParam (X.fn y=Z'\/X.env.scope.names.lookup y=Y .local) ŭ):
  PS X (.Assign [.Name y L] (.Call (.Attribute (.Attribute (.Name x p) f s) "pop" A) [] [] t) I) (jP X.K B J Z Z (DH i j c f)):=
 (js hN hy w (Lq dC PySem.F.slot_list_pop PySem.F.type_list_pop LM (sU h F) q e) hs hf).imp <|by
  rintro D m H ⟨G,g,o,S,b,k⟩;unfold DH at b;rcases K:sJ c f j g with _|⟨fk,ks,ds,t1⟩
  ·rw[K]at b;cases b
  rw[K]at b;simp only[ab]at b;split at b
  ·rename_i u;rcases v:u.getLast? with _|d
   ·rw[v]at b;cases b
   rw[v]at b;simp only[ab]at b;split at b
   ·rename_i c2 k2 d2;split at b
    ·rename_i hz;cases b;obtain⟨R,P,O⟩:=oE K;rw[Sk.rE hz]at P;have hx:u=u.dropLast++[.ins c2 k2 d2]:=by obtain⟨ys,rfl⟩:=Ks.mp v;simp
     rw[hx]at O;obtain⟨a,l,y,us,e1,e2,U,S'⟩:=S.Om Q hi z R P O r hm;obtain⟨C,dx,fs,n,f1,f2⟩:=S.JJ Q R e1 e2;refine⟨_,e1,a,C,dx,fs,_,rfl,f1,(T C n).1,(T C n).2,f2,.inl ⟨rfl,_,.of U⟩,l,_,.ref y,rfl,rfl,U,Ž,?_⟩;rw[lD];exact k _ G _ S'
    ·cases b
   ·cases b
  ·cases b
end
inductive spT (K:aT) (s:Sk) (F:List D->Option (D×D)) (j:List V) (H:Hp) (Q:VK) (_x:XK):Prop
 |mk G t g d i a T h:a_ G H->j=.ref a::h->cQ K G H s t (.ref a) T->T.Nodup->(∀b∈T,G b=none)->be K G g h->F (t::g)=some (d,i)->(∀v e c f,gf G (fx H T) c f->cQ K c f s i (.ref a) e->e.Nodup->(∀b∈e,c b=none/\(b∈T\/H b=none))->cI K c d v->Q v f)->spT K s F j H Q _x
inductive KU (K:aT) (s:Sk) (F:List D->Option (List D×D)) (k:List V) (H:Hp) (Q:VK) (_x:XK):Prop
 |mk G t f j i a T h:a_ G H->k=.ref a::h->cQ K G H s t (.ref a) T->T.Nodup->(∀b∈T,G b=none)->be K G f h->F (t::f)=some (j,i)->(∀q g d c e,gf G (fx H T) c e->cQ K c e s i (.ref a) d->d.Nodup->(∀b∈d,c b=none/\(b∈T\/H b=none))->c q=none->(q∈T\/H q=none)->q∉d->e q=some (.lst g)->be K c j g->Q (.ref q) e)->KU K s F k H Q _x
inductive Ue (K:aT) (F:List D->Option D) (e:List V) (H:Hp) (Q:VK) (_x:XK):Prop
 |mk G c d:a_ G H->be K G c e->F c=some d->(∀q o b a,gf G H b a->H q=none->b q=none->a q=some o->jt K b d o->Q (.ref q) a)->Ue K F e H Q _x
def lB(s:Sk)(j:Nat)(b:cO):Option D:=(yl j b).bind λa=>if Sk.yx a.1 s=Z' then Y a.2 else M
def mw{s:Sk}(h:lB s j a=Y t):a[j]?=Y (Y (.obj s t)):=by
 unfold lB at h;obtain⟨⟨b,t'⟩,e,h⟩:=aa.1 h;split at h
 ·rename_i z;cases h;rw[<- Sk.rE z];exact ng e
 ·cases h
def mo(s:Sk):DO->Option (D×D)
 |.rm d a=>(lB s 0 a).map λt=>(d,t)
 |.nx a=>(lB s 0 a).map λt=>(.eN,t)
 |_=>M
def PU(s:Sk):DO->Option (List D×D)
 |.rf i a=>(lB s 0 a).bind λt=>(jl i a).map λb=>(b,t)
 |_=>M
def Xc:DO->Option D
 |.rf i a=>(eV i a).bind λd=>if vM d=Z' then Y d else M
 |_=>M
def ml(n N:Nat)(s:Sk)(g:DG)(b:List D):Option (D×D):=match b with
 |t::a=>if a.length+1=n then (g (iV N (.obj s t::a))).bind (mo s) else M
 |[]=>M
def Hl(n N:Nat)(s:Sk)(g:DG)(b:List D):Option (List D×D):=match b with
 |t::a=>if a.length+1=n then (g (iV N (.obj s t::a))).bind (PU s) else M
 |[]=>M
def Ph(n N:Nat)(g:DG)(a:List D):Option D:=if a.length=n then (g (iV N a)).bind Xc else M
section
variable {P:bh}{K:aT}
def A3{s:Sk}{f:List D}{T:List az}(w:a_ G H)(m:0∈Z)(h:cQ K G H s t (.ref a) T)(k:T.Nodup)(j:∀b∈T,G b=M)(r:be K G f g)(n:∀i∈Z,i=0\/f.length+1<=i):
  SR K ⟨G,fx H T,[(0,a)],x⟩ Z G H (start N (.ref a::g)) (iV N.length (.obj s t::f)):=
 A1 (c :=.obj s t) (T:=T) w (λb o e=>by
  by_cases d:b∈T
  ·rw[jw d]at e;cases e
  ·rw[cy d]at e;exact e) m rfl rfl h k (λb d=>⟨j b d,jw d⟩) (λr q z=>by cases z) (λi c p e=>by
   cases i with
   |zero=>exact absurd rfl p| succ i=>exact r.get (i:=i) (by simpa using e)) (by simp[r.length]) (by simpa using n)
def SR.RZ{m:List Nat}{s:Sk}(r:SR K ⟨G,fx H T,[(0,a)],p⟩ m d i j e)(y:lB s 0 e=Y k):
  ∃c,cQ K d i s k (.ref a) c/\c.Nodup/\(∀b∈c,d b=M/\(b∈T\/H b=M))/\∃F,qN K ⟨G,fx H T,[(0,a)],p⟩ m d i j e F/\F 0=c:=by
 obtain⟨g,f⟩:=r.pin 0 a Ž;obtain⟨z,c,q,t,w,n,F,W,x⟩:=r.tree g (mw y);rw[f]at q;cases q;refine⟨c,t,w,λb o=>⟨(n b o).1,?_⟩,F,W,x⟩;have:=(n b o).2;by_cases h:b∈T
 ·exact .inl h
 ·exact .inr (by simpa [cy h] using this)
def ir.Cc{f:az}{N R:List aM}(F:ir K x e p f fd)(S:bu N R (ay p))(s:Sk){Z Ź:List Nat}{g:DG}(hp:0∈Z)(C:∀i∈Z,i=0\/R.length<=i) (hb:∀(j:ai) (A:ip) (outer:List Env) (s:aw) (H:Hp) (E:XK),gc k (A.deeper (sE e (ay p) s.heap.objs.size f j))->∀(B:Bs) (a:az),B.3=[(0,a)] ->
   qQ (xf gU P w K O U N e (ay p) f j A outer s H E).LH (iD p) (jP K B [] Z Ź g)):cq P w K O U gU (k+1) f fd R (spT K s (ml R.length N.length s g)):=by
 refine F.ok S (λvs H Q E h =>?_) (λj A outer s1 H vs Q E hr h =>?_)
 ·obtain⟨G,t,xs,d,X,a,T,us,gh,rfl,ot,nd,nf,r,b,_⟩:=h;simp only[ml]at b;split at b
  ·rename_i z;simp[<- r.length,z]
  ·cases b
 ·obtain⟨G,t,xs,d,X,a,T,us,gh,rfl,ot,nd,nf,r,b,q⟩:=h;simp only[ml]at b;split at b
  ·rename_i hn;refine⟨_,hb j A outer s1 H E hr ⟨G,fx H T,[(0,a)],λ_ _=>False⟩ a rfl,?_⟩;obtain⟨oo,eg,b⟩:=aa.1 b;refine⟨G,_,oo,A3 gh hp ot nd nf r (by rw[hn];exact C),eg,?_⟩;cases oo with
   |rm d' m=>have b:(lB s 0 m).map (λt=>(d',t))=Y (d,X):=b;obtain⟨y,o,b⟩:=ah.1 b;cases b;intro v σ G' H' ⟨o',c⟩ rv;obtain⟨T',f1,f2,f3,_⟩:=c.RZ o;exact q v T' G' H' c.nO f1 f2 f3 rv
   |nx m=>have b:(lB s 0 m).map (λt=>(D.eN,t))=Y (d,X):=b;obtain⟨y,o,b⟩:=ah.1 b;cases b;intro σ G' H' c;obtain⟨T',f1,f2,f3,_⟩:=c.RZ o;exact q _ T' G' H' c.nO f1 f2 f3 (iY.mpr rfl)
   |_=>cases b
  ·cases b
def ir.Xf{c:rN}{f:az}(F:ir K x j c f fd)(S:bu N ps (ay c))(s:Sk){Z Ź:List Nat}{g:DG}(hp:0∈Z)(R:∀i∈Z,i=0\/ps.length<=i) (hb:∀(o:ai) (A:ip) (e:List Env) (s:aw) (H:Hp) (E:XK),gc k (A.deeper (sE j (ay c) s.heap.objs.size f o))->∀(B:Bs) (a:az),B.3=[(0,a)] ->
   qQ (xf gU P w K O U N j (ay c) f o A e s H E).LH (iD c) (jP K B [] Z Ź g)):cq P w K O U gU (k+1) f fd ps (KU K s (Hl ps.length N.length s g)):=by
 refine F.ok S (λvs H Q E h =>?_) (λo A e s1 H vs Q E hr h =>?_)
 ·obtain⟨G,t,xs,d,t',a,T,us,gh,rfl,ot,nd,nf,r,b,_⟩:=h;simp only[Hl]at b;split at b
  ·rename_i z;simp[<- r.length,z]
  ·cases b
 ·obtain⟨G,t,xs,d,t',a,T,us,gh,rfl,ot,nd,nf,r,b,q⟩:=h;simp only[Hl]at b;split at b
  ·rename_i hn;refine⟨_,hb o A e s1 H E hr ⟨G,fx H T,[(0,a)],λ_ _=>False⟩ a rfl,?_⟩;obtain⟨oo,eg,b⟩:=aa.1 b;refine⟨G,_,oo,A3 gh hp ot nd nf r (by rw[hn];exact R),eg,?_⟩;cases oo with
   |rf i p=>
    have b:((lB s 0 p).bind λt=>(jl i p).map λds=>(ds,t))=Y (d,t'):=b;obtain⟨y,X,b⟩:=aa.1 b;obtain⟨ds,C,b⟩:=ah.1 b;cases b;intro v σ G' H' ⟨o',hi,S'⟩ hv;obtain⟨T',f1,f2,f3,F',W,hF⟩:=S'.RZ X;have m:=fX C;obtain⟨D,e1,oc⟩:=W.it i _ hi m;rw[hv]at e1;cases e1;obtain⟨⟨ob,oh,ws,rfl,rr⟩,fi⟩:=(oj.cell (d :=.lst d) rfl).mp oc;obtain⟨_,lF⟩:=W.ok i _ hi m;have qi:D∈F' i:=by rw[fi];simp
    have hi0:i≠0:=λz=>by subst z;rw[mw X]at m;cases m
    refine q D ws T' G' H' S'.nO f1 f2 f3 (lF D qi).1 ?_ ?_ oh rr
    ·have:=(lF D qi).2;by_cases h:D∈T
     ·exact .inl h
     ·exact .inr (by simpa [cy h] using this)
    ·intro z;rw[<- hF]at z;exact W.ap i 0 _ _ hi (S'.pin 0 a Ž).1 m (mw X) hi0 D qi z
   |_=>cases b
  ·cases b
def ir.Ri{f:az}{c:dm}(F:ir K x j t f c)(S:bu N C (ay t)){Z Ź:List Nat}{g:DG}(z:∀i∈Z,C.length<=i) (hb:∀(m:ai) (A:ip) (e:List Env) (s:aw) (H:Hp) (E:XK),gc k (A.deeper (sE j (ay t) s.heap.objs.size f m))->∀B:Bs,B.3=[] ->
   qQ (xf gU P w K O U N j (ay t) f m A e s H E).LH (iD t) (jP K B [] Z Ź g)):cq P w K O U gU (k+1) f c C (Ue K (Ph C.length N.length g)):=by
 refine F.ok S (λX H Q E h =>?_) (λm A e s H X Q E hr h =>?_)
 ·obtain⟨G,ds,d,D,r,b,_⟩:=h;unfold Ph at b;split at b
  ·rw[<- r.length];assumption
  ·cases b
 ·obtain⟨G,ds,d,D,r,b,q⟩:=h;unfold Ph at b;split at b
  ·rename_i hl;refine⟨_,hb m A e s H E hr ⟨G,H,[],λ_ _=>False⟩ rfl,?_⟩;obtain⟨o,eg,b⟩:=aa.1 b;refine⟨G,_,o,vn D r (by rw[hl];exact z),eg,?_⟩;cases o with
   |rf i p=>
    have b:((eV i p).bind λd=>if vM d=Z' then Y d else M)=Y d:=b;obtain⟨y,el,b⟩:=aa.1 b;split at b
    ·rename_i hy;cases b;intro v σ G' H' ⟨o',hi,T⟩ hv;obtain⟨a,ob,R,e2,e3,e4,e5⟩:=T.Jh hi (jd el) hy;rw[hv]at R;cases R;exact q a ob G' H' T.nO e5 e4 e2 e3
    ·cases b
   |_=>cases b
  ·cases b
end
section
variable {X:Cx}{v:Pos}
def bW(c m:aM)(s:Sk)(F:List D->Option (D×D))(j:Nat)(g:J_):DM:=λb=>(yl j b).bind λd=>match d.1,d.2 with
 |.fs f _,.ins a e _=>if (f=c/\a=c)/\m∉e then (g b).bind λq=>(lB s j q.2).bind λt=>(F (t::q.1)).map λr=>(r.1,(dz j q.2).set j (Y (.obj s r.2))) else M
 |_,_=>M
def Ej{m:aM}{s:Sk}{F:List D->Option (D×D)}{f:St}(n:vb X.K bw c=Y (Y (.ref C)))(r:j∈Z)(ht:∀f H Q,QB X.K B Z g f H Q->t f H Q)(h:tM X.K B Z (bW c m s F j g) f H Q):Ds C m (spT X.K s F) [] E0 (ko j) t f H Q:=by
 obtain⟨G,o,d,R,S,e,q⟩:=h;unfold bW at e;rcases x:yl j o with _|⟨s0,t0⟩
 ·rw[x]at e;cases e
 rw[x]at e;simp only[ab]at e;split at e
 ·rename_i c' fk Yk ks ds;split at e
  ·rename_i hz;obtain⟨⟨rfl,rfl⟩,hm⟩:=hz;rcases y:g o with _|⟨p,i⟩
   ·rw[y]at e;cases e
   rw[y]at e;simp only[ab]at e;rcases I:lB s j i with _|u
   ·rw[I]at e;cases e
   rw[I]at e;simp only[ab]at e;obtain⟨⟨d',t'⟩,eF,e⟩:=ah.1 e;cases e;have hd:=ng x;obtain⟨a,T,z,ot,_⟩:=S.tree r hd;cases ot with
   |@ins _ _ _ _ _ C' dx vs S0 N ex l tt=>rw[n]at N;cases N;refine⟨_,z,a,dx,_,rfl,ex,oJ (K:=X.K) (G:=G) hm,ht _ _ _ ⟨G,o,p,i,S,y,λK G1 H1 A s1 r1 =>?_⟩⟩;show spT X.K s F (.ref a::(K++[])) H1 Q E0;rw[cm];have k:=mw I;obtain⟨a1,T1,P,f2,f3,f4,F1,W1,w⟩:=A.tree r k;rw[z]at P;cases P;exact⟨G1,u,p,d',t',a,T1,K,A.gh,rfl,f2,f3,λb hb=>(f4 b hb).1,r1,eF,λv T' G' H' E nw nd nf rv=>q v G' H' (A.CO W1 w r k z E nw nd nf) (s1.trans E.gg) rv⟩
  ·cases e
 ·cases e
def Tt{c m:aM}{s:Sk}{F:List D->Option (D×D)}(h:fO X.prog X.w X.K X.mg X.base c m k (spT X.K s F))(g:gc k X.A)(i:PE X (.Name y p) (ko j))(r:autoParam (j∈Z) Ű) (e:autoParam (eval (.Call (.Attribute (.Name y p) m L) [] [] J) X.env=(do
   let a <- eval (.Name y p) X.env
   r_ L.atName
   let (f,first) <- oO [a] (nA a m pl)
   sr J f first (dt J (av [] X.env)) (jg J (eJ [] X.env)))) Ų):PE X (.Call (.Attribute (.Name y p) m L) [] [] J) (tM X.K B Z (bW c m s F j kl)):=by
 obtain⟨C,f,K,E,n,t,o,x,w⟩:=h.ex;exact(vz (pl:=pl) i t o x g w .nil pj e).imp λb H Q q=>Ej n r (by rintro b H Q ⟨G,A,l,d,S,z,k⟩;cases z;exact k _ G H S (a_.refl _) .nil) q
def zR{c m:aM}{s:Sk}{F:List D->Option (D×D)}{g:J_}(h:fO X.prog X.w X.K X.mg X.base c m k (spT X.K s F))(o:gc k X.A)(r:PE X (.Name y p) (ko j))(E:PA X (e::I) (QB X.K B Z g))(w:autoParam (j∈Z) Ű)(a:autoParam (av (e::I) X.env=(Z_,eval e X.env)::av I X.env) Ų)(b:autoParam ((dt J (av I X.env)).any (·.1)=false) Ų) (i:autoParam (eval (.Call (.Attribute (.Name y p) m L) (e::I) [] J) X.env=(do
   let d <- eval (.Name y p) X.env
   r_ L.atName
   let (f,first) <- oO [d] (nA d m pl)
   sr J f first (dt J (av (e::I) X.env)) (jg J (eJ [] X.env)))) Ų):PE X (.Call (.Attribute (.Name y p) m L) (e::I) [] J) (tM X.K B Z (bW c m s F j g)):=by
 obtain⟨C,f,N,l,n,x,t,G,A⟩:=h.ex;exact(B' (pl:=pl) r x t G o A .nil pj E a b i).imp λK H Q q=>Ej n w (λ_ _ _ z=>z) q
def nZ(c f k m:aM)(h:Sk)(F:List D->Option (D×D))(j:Nat)(g:DL):DM:=λb=>(sJ c f j b).bind λz=>match z.2.2.2 with
 |.ins a d i=>if (Sk.yx (dG z.1 f) h=Z'/\a=k)/\m∉d then (g b).bind λe=>(F (.ins a d i::e)).map λr=>(r.1,(dz j b).set j (Y (y8 c f z.1 z.2.1 z.2.2.1 r.2))) else M
 |_=>M
def Jq{f o m:aM}{e:List (aM×Sk)}{F:List D->Option (D×D)}(n:vb X.K bw o=Y (Y (.ref C1)))(hc:tJ X.K c f)(z:j∈Z)(ht:∀i H Q,Fk X.K Z g i H Q->t i H Q)(h:tM X.K B Z (nZ c f o m (.fs o e) F j g) i H Q):Ds C1 m (spT X.K (.fs o e) F) [] E0 (TV X.K (ko j) f) t i H Q:=by
 obtain⟨G,p,d,ρ',S,b,q⟩:=h;unfold nZ at b;rcases K:sJ c f j p with _|⟨fk,ks0,ZP,t0⟩
 ·rw[K]at b;cases b
 rw[K]at b;simp only[ab]at b;split at b
 ·rename_i k ks ds;split at b
  ·rename_i hz;obtain⟨⟨y,rfl⟩,hm⟩:=hz;rcases u:g p with _|r
   ·rw[u]at b;cases b
   rw[u]at b;simp only[ab]at b;rcases eF:F (.ins k ks ds::r) with _|⟨d',t'⟩
   ·rw[eF]at b;cases b
   rw[eF]at b;cases b;obtain⟨A,w,i2⟩:=oE K;rw[Sk.rE y]at w;obtain⟨a,x,T1,N,e2,o1,_⟩:=S.GK z A w i2;obtain⟨C,dx,fs,nn,f1,f2⟩:=S.JJ z A N e2;cases o1 with
   |@ins _ _ _ _ s C' P vs S0 n' ex l tt=>rw[n]at n';cases n';refine⟨_,N,a,C,dx,fs,_,rfl,f1,(hc C nn).1,(hc C nn).2,f2,s,P,_,rfl,ex,oJ (K:=X.K) (G:=G) hm,ht _ _ _ ⟨G,p,r,S.gh,S.lh,u,λT G1 H1 R r1 =>?_⟩⟩;show spT X.K (.fs k e) F (.ref s::(T++[])) H1 Q E0;rw[cm];have S1:=S.ext R;obtain⟨a1,x1,T2,g1,g2,g3,g4,g5,g6⟩:=S1.GK z A w i2;rw[N]at g1;cases g1;rw[jR R.hh e2]at g2;cases g2;exact⟨G1,_,r,d',t',s,T2,T,S1.gh,rfl,g3,g4,g5,r1,eF,λv T' G' H' E nw nd nf rv=>q v G' H' (g6 t' T' G' H' E nw nd nf) (R.gg.trans E.gg) rv⟩
  ·cases b
 ·cases b
def Ts{c f m:aM}{ZG:List (aM×Sk)}{F:List D->Option (D×D)}(h:fO X.prog X.w X.K X.mg X.base a m k (spT X.K (.fs a ZG) F))(t:gc k X.A)(i:tJ X.K c f)(w:PE X (.Name y p) (ko j))(K:PA X (e::I) (Fk X.K Z g))(A:autoParam (j∈Z) Ű)(o:autoParam (cB (.Name y p) f X.env (eval (.Name y p) X.env)=eval (.Name y p) X.env) Ų)(b:autoParam (av (e::I) X.env=(Z_,eval e X.env)::av I X.env) Ų)(d:autoParam ((dt J (av I X.env)).any (·.1)=false) Ų) (s:autoParam (eval (.Call (.Attribute (.Attribute (.Name y p) f l) m L) (e::I) [] J) X.env=(do
   let r <- eval (.Attribute (.Name y p) f l) X.env
   r_ L.atName
   let (f,first) <- oO [r] (nA r m pl)
   sr J f first (dt J (av (e::I) X.env)) (jg J (eJ [] X.env)))) Ų):PE X (.Call (.Attribute (.Attribute (.Name y p) f l) m L) (e::I) [] J) (tM X.K B Z (nZ c f a m (.fs a ZG) F j g)):=by
 obtain⟨C,S,R,P,n,E,x,u,G⟩:=h.ex;exact(B' (pl:=pl) (sU w o) E x u t G .nil pj K b d s).imp λN H Q q=>Jq n i A (λ_ _ _ z=>z) q
noncomputable def kj(c:aM)(F:List D->Option (D×D))(g:DL):DF:=λa=>(g a).bind λb=>(F (.ins c [] []::b)).bind λr=>match r.1 with|.eN=>Y r.2|_=>M
def Ib{c:aM}{fk:List (aM×Sk)}{F:List D->Option (D×D)}{g:DL}(h:um X.prog X.w X.K X.mg X.base c k (spT X.K (.fs c fk) F))(hr:gc (k+1) X.A)(hg:Gl X c)(ha:PA X (e::I) (Fk X.K Z g))(B:autoParam ((c==("__debug__" : aM))=false) Ű)(he:autoParam (av (e::I) X.env=(Z_,eval e X.env)::av I X.env) Ų)(A:autoParam ((dt J (av I X.env)).any (·.1)=false) Ų):PE X (.Call (.Name c p) (e::I) [] J) (Nf X.K Z (.fs c fk) (kj c F g)):=by
 obtain⟨C,f,fd,ps,n,hm,hk,h1,a⟩:=h.ex;refine(Hu hk h1 hr hg hm a .nil pj ha B he A).imp ?_;rintro σ H Q ⟨G,ρ,d,gh,l,i,q⟩;unfold kj at i;obtain⟨P,eg,i⟩:=aa.1 i;obtain⟨⟨d',c'⟩,eF,i⟩:=aa.1 i;cases d'<;>simp only[ab]at i<;>try (cases i;done)
 cases i;refine⟨G,ρ,P,gh,l,eg,λR N r w r1 x s m j ne =>?_⟩;show spT X.K (.fs c fk) F (.ref x::(R++[])) _ _ E0;rw[cm];have K:N x=none:=w.gh.free m;have s2:a_ N (dg (dg r s (.Z x)) x (.ins C s [])):=w.gh.trans ((a_.alloc j).trans (.alloc (by rw[aY (cg ne)];exact m)));refine⟨N,.ins c [] [],P,.eN,_,x,[x],R,s2,rfl,.ins (ks:=[]) (vs:=[]) (S:=[]) n bj rfl .nil,Ž,(λb a=>by simp at a;subst a;exact K),r1,eF,λv T' G2 H2 t nw nd T rv=>⟨iY.mp rv,?_⟩⟩;have S:∀b o,r b=Y o->fx (dg (dg r s (.Z x)) x (.ins C s [])) [x] b=Y o:=λb o e=>by have a:b≠x:=bF e m;rw[cy (by simpa using a),aY a,aY (bF e j)];exact e
 refine q (.ref x) T' G2 H2 (w.trans ⟨λb o e=>t.hh b o (S b o e),t.gg,t.gh,λb o e =>?_⟩) nw nd λb a=>⟨(T b a).1,?_⟩
 ·rcases t.fr b o e with z|z
  ·exact .inl z
  ·refine .inr ?_;rcases y:r b with _|u
   ·rfl
   rw[S b u y]at z;cases z
 ·refine w.hh.free ?_;rcases(T b a).2 with z|z
  ·simp at z;subst z;exact m
  ·rcases y:r b with _|u
   ·rfl
   have E:b≠x:=bF y m;rw[aY E,aY (bF y j),y]at z;cases z
def ML{F:List D->Option D}(h:ji X.prog X.w X.K X.mg X.base x k (Ue X.K F))(e:gc k X.A)(j:Gl X x)(b:autoParam ((x==("__debug__" : aM))=false) Ű):PE X (.Call (.Name x p) [] [] J) (TX X.K Z (λ_=>F [])):=by
 obtain⟨f,l,K,c,g,i,m⟩:=h.ex;exact(Lp c e j g i m .nil pj b).imp <|by rintro B H Q ⟨G,C,d,t,y,w,q⟩;exact⟨G,[],d,t,.nil,w,λa o A z E c s n r=>q a o A z E c s n r⟩
end
def AE(l:cO)(u:Fc)(w:DM)(i0:Nat)(s:Sk):List D->D->Option (List D×D)
 |[],t=>Y ([],t)|d::b,t=>(u d (l.set i0 (Y (.obj s t)))).bind λρ1=>(w ρ1).bind λp=>(lB s i0 p.2).bind λa=>(AE l u w i0 s b a).map λq=>(p.1::q.1,q.2)
def vH(f:DL)(src:List (Option Nat))(u:Fc)(w:DM)(i0 j0:Nat)(s:Sk):DM:=λl=>(f l).bind λa=>if a.length<=dU then (lB s j0 l).bind λt=>(AE (nH src (dz j0 l)) u w i0 s a t).map λq=>(.lst q.1,(dz j0 l).set j0 (Y (.obj s q.2))) else M
section
variable {K:aT}
def SR.RD{fl:aM->Int->Prop}{s:Sk}(S:SR K B Z G H n (l.set j0 (Y (.obj s t))))(C:jJ Z [i0] src=Z')(x:src[i0]?=Y (Y j0))(y:n[j0]?=Y (Y (.ref a)))(u:cQ K G H s t (.ref a) T)(P:T.Nodup)(N:∀b∈T,G b=M):
  SR K ⟨G,fx H T,[(i0,a)],fl⟩ [i0] G H (oW src n) ((nH src l).set i0 (Y (.obj s t))):=by
 have q:j0∈Z:=(kZ C x).mp Ž;refine⟨S.gh,a_.refl _,λb o e =>?_,λb o e =>.inl e,λi d g e =>?_,⟨λ_=>T,λi d g e =>?_,λi d g e=>⟨P,λb m=>⟨N b m,jw m⟩⟩,λi j d c g k _ _ f =>?_⟩,by simp[oW,nH],λi b h =>?_,λj r p R Q e =>?_⟩
 ·have e:fx H T b=Y o:=e;by_cases m:b∈T
  ·rw[jw m]at e;cases e
  ·rw[cy m]at e;exact e
 ·rcases g_ e with⟨rfl,_,_⟩|⟨f,e⟩
  ·exact absurd Ž g
  ·obtain⟨j,F,ej⟩:=Dw e;have k:j∉Z:=λz=>g ((kZ C F).mpr z)
   have:j0≠j:=λz=>k (z ▸ q)
   obtain⟨v,f1,X⟩:=S.env j d k (by rw[aj this];exact ej);exact⟨v,qm F f1,X⟩
 ·have z:i=i0:=by simpa using g
  subst z;rcases g_ e with⟨_,rfl,_⟩|⟨f,_⟩
  ·exact⟨a,qm x y,u⟩
  ·exact absurd rfl f
 ·simp at g k;exact absurd (g.trans k.symm) f
 ·have z:(i,b)=(i0,a):=by simpa using h
  cases z;exact⟨Ž,qm x y⟩
 ·have q1:j=i0:=by simpa using R
  have J:Cf j=i0:=by simpa using Q
  unfold Cf at J;omega
end
def IH{s:Sk}:dz j ((dz j l).set j (Y (.obj s t)))=(dz j l).set j (Y (.obj s t)):=by
 apply C8;intro i;unfold dz;rw[aF];by_cases h:j=i
 ·subst h;by_cases b:j<l.length
  ·rw[bC (by simpa using b)];rfl
  ·rw[f9 (by simpa using b)];rfl
 ·rw[aj h,aF];rcases e:l[i]? with _|o
  ·rfl
  cases o with
  |none=>rfl|some d=>
   cases d with
   |eS r p=>
    simp only[bI];by_cases a:r=j
    ·simp[a]
    ·simp[a]
   |_=>rfl
section
variable {X:Cx}{f:DL}{s:Sk}
def HB{K:aT}(ho:jJ Z [i0] src=Z')(h0:src[i0]?=Y (Y j0))(hg:∀(B:Bs) v n H Q,He K B [i0] u v n H Q->g v n H Q)(q:tM K B Z (vH f src u w i0 j0 s) n H Q):
  QC (AZ K Z f) src g (sC K [i0] eU) (Td K i0 w) n H Q:=by
 obtain⟨G,l,d,ρ',S,j,k⟩:=q;have X:j0∈Z:=(kZ ho h0).mp Ž;unfold vH at j;obtain⟨C,ef,j⟩:=aa.1 j;split at j
 ·rename_i hz;obtain⟨t0,el,j⟩:=aa.1 j;obtain⟨⟨rs,tF⟩,em,j⟩:=ah.1 j;cases j;have Zs:=mw el;have Ze:=lu (r:=j0) Zs (λq z=>by cases z);have XM:j0<(dz j0 l).length:=(af.mp Ze).1;obtain⟨a,T0,e2,_⟩:=S.tree X Zs;refine⟨G,l,C,S.gh,S.lh,ef,λJ G1 H1 E1 ok =>?_⟩;have S1:=(S.ext E1).II (r:=j0);rw[<- Ae Ze]at S1;refine⟨λi m ys H2=>m=C.length-i/\i<=C.length/\VL K B Z n (λt=>(dz j0 l).set j0 (Y (.obj s t))) (λi=>AE (nH src (dz j0 l)) u w i0 s (C.drop i)) G1 tF rs i ys H2,
   ⟨C.length,rfl,cD _,G1,[],t0,rs,aH _,S1,a_.refl _,.nil,em,rfl⟩,?_⟩
  rintro i m ys H2 ⟨rfl,XN,G2,o,t,r,Y',S2,s2,rx,c,rfl⟩;have sub:a_ G1 H2:=s2.trans S2.gh;by_cases N:i<C.length
  ·refine .inr ⟨ok.go i H2 sub N,?_,VL K B Z n (λt=>(dz j0 l).set j0 (Y (.obj s t))) (λi=>AE (nH src (dz j0 l)) u w i0 s (C.drop i)) G1 tF (o++r) (i+1),
    λR H' z=>⟨C.length-(i+1),ž,rfl,N,z⟩,λx H3 y =>?_⟩
   ·have:=hT;omega
   ·obtain⟨G3,E3,SK⟩:=ok.Kw i H2 x H3 G2 C[i] s2 S2.gh y (aO N);have S3:=S2.ext E3;rw[fW N]at c;unfold AE at c;obtain⟨A,et,c⟩:=aa.1 c;obtain⟨⟨x4,ρ5⟩,ee,c⟩:=aa.1 c;obtain⟨t4,el4,c⟩:=aa.1 c;obtain⟨⟨T,tE⟩,em4,c⟩:=ah.1 c;cases c;have Zr:((dz j0 l).set j0 (Y (D.obj s t)))[j0]?=Y (Y (.obj s t)):=by rw[bC XM]
    obtain⟨a3,T3,f1,ot,nd,nf,F3,W3,hF3⟩:=S3.tree X Zr;rw[e2]at f1;cases f1;have SI:=S3.RD (fl:=λ_ _=>False) ho h0 e2 ot nd λb hb=>(nf b hb).1
    refine hg ⟨G3,fx H3 T3,[(i0,a)],λ_ _=>False⟩ _ _ _ _ ⟨G3,_,C[i],A,SI,SK,et,λσ4 G4 H4 S4=>⟨G4,A,Z',S4.gh,S4.lh,rfl,λG5 H5 E5=>uU ?_⟩⟩;refine⟨⟨G3,fx H3 T3,[(i0,a)],λ_ _=>False⟩,a,rfl,G5,A,x4,ρ5,S4.ext E5,ee,λv G6 H6 S6 s6 r6=>⟨G6,o++[x4],t4,T,by simp;omega,?_,?_,?_,em4,Ž⟩⟩
    ·obtain⟨RJ,hσ⟩:=S6.pin i0 a Ž;obtain⟨a6,T6,g1,g2,g3,g4,_⟩:=S6.tree RJ (mw el4);rw[hσ]at g1;cases g1;have:=S3.CO (t':=t4) W3 hF3 X Zr e2 S6.nO g2 g3 (λb hb=>⟨(g4 b hb).1,by
      have:=(g4 b hb).2;by_cases h:b∈T3
      ·exact .inl h
      ·exact .inr (by simpa [cy h] using this)⟩)
     rw[IH,List.set_set]at this;exact this
    ·exact s2.trans (E3.gg.trans S6.g0)
    ·exact(be.mono (E3.gg.trans S6.g0) o rx).append (.cons r6 .nil)
  ·have e:i=C.length:=by omega
   subst e;rw[pJ]at c;unfold AE at c;cases c;refine .inl ⟨ok.stop _ H2 sub (aH _),λp hp =>?_⟩;have EA:=gf.alloc (p:=p) (o :=.lst ys) S2.gh hp;refine k _ _ _ (S2.ext EA) (E1.gg.trans (s2.trans EA.gg)) ?_;rw[cm];exact bZ.mpr ⟨p,ys,rfl,bj,be.mono EA.gg o rx⟩
 ·cases j
def GF(S:fQ X N src A)(j:X.calm=Z')(e:PI X E I (AZ X.K Z f))(o:M4 O g)(a:∀i∈O,src[i]?=Y M)(h:∀(B:Bs) v n H Q,He X.K B [i0] u v n H Q->g v n H Q)(k:∀C s H b,PG (X.tw N A C s H b) E g/\E9 (X.tw N A C s H b) [] (sC X.K [i0] eU)/\PE (X.tw N A C s H b) L (Td X.K i0 w))(m:autoParam (src[i0]?=Y (Y j0)) Ų)(d:autoParam (jJ Z [i0] src=true) Ű)(c:autoParam (∀x,cK I X.env x=eQ x) ů):PE X (.ListComp L [⟨E,I,[],0⟩] A U) (tM X.K B Z (vH f src u w i0 j0 s)):=
 (Ll S j e o a k c).imp λn H Q q=>HB d m h q
def GD{i:Nat}(S:fQ X N src A)(V:X.calm=Z')(R:X.N.Nodup)(t:X.N[i]?=Y y)(F:X.env.scope.names.lookup y=Y .local)(J:PI X E I (AZ X.K Z f))(ag:M4 O g)(h:∀i∈O,src[i]?=Y M)(K:∀(B:Bs) v n H Q,He X.K B [i0] u v n H Q->g v n H Q)(P:∀C s H m,PG (X.tw N A C s H m) E g/\E9 (X.tw N A C s H m) [] (sC X.K [i0] eU)/\PE (X.tw N A C s H m) L (Td X.K i0 w))(T:autoParam (src[i0]?=Y (Y j0)) Ų)(D:autoParam (jJ Z [i0] src=true) Ű)(j:autoParam (i∉Z) Ű)(e:autoParam (cP (.ListComp L [⟨E,I,[],0⟩] A U) (Y (.Name y p)) a.line X.env=eQ true) Ų)(z:autoParam (∀x,cK I X.env x=eQ x) ů):PS X (.Assign [.Name y p] (.ListComp L [⟨E,I,[],0⟩] A U) a) (jP X.K B q Z Z (nV i (vH f src u w i0 j0 s))):=
 (vy S V R t F J ag h P e z).imp λD' n H ⟨G,l,o,S,b,k⟩=>HB D T K (by unfold nV at b;obtain⟨⟨d,c⟩,ef,b⟩:=ah.1 b;cases b;exact⟨G,l,d,c,S,ef,λv G' H' S' _ r=>k _ G' H' (S'.xW j r)⟩)
end
abbrev TupAt(h:de)(T:az)(a:Array ai):Prop:=h.get? T=Y { cls :=.type "tuple",data :=.seq a }
structure ZN(h:de)(z TI TO:az)(n:Nat)(it l:Nat->az)(xs:Nat->Array ai)(pl:Nat->Nat)(f0:ai)(Z4:Array ai):Prop where
 zz:IsZip h z TI TO f0
 ti:TupAt h TI ((bY n).map λj=>cf (it j)).toArray
 to:TupAt h TO Z4
 sz:Z4.size=n
 iter:∀j,j<n->h.IsListIter (it j) (l j) (pl j)
 lst:∀j,j<n->h.IsList (l j) (xs j)
structure ZA(z TI TO:az)(n:Nat)(it l:Nat->az):Prop where
 tiz:TI≠z
 YL:TO≠z
 WA:TI≠TO
 iz:∀j,j<n->it j≠z/\it j≠TI/\it j≠TO
 ii:∀j k,j<n->k<n->j≠k->it j≠it k
 lz:∀j,j<n->l j≠z/\l j≠TO/\∀k,k<n->l j≠it k
section
variable {f:az}
def ZN.adv(N:ZN h z i f n d l p t u r)(A:ZA z i f n d l)(c:k<n)(m:g.IsListIter (d k) (l k) (t k+1))(b:ll (d k) h g):ZN g z i f n d l p (λj=>if j=k then t j+1 else t j) u r:=by
 obtain⟨s,q,o⟩:=A.iz k c;refine⟨b.extBut _ _ (cg s) N.zz,b.extBut _ _ (cg q) N.ti,b.extBut _ _ (cg o) N.to,N.sz,λj a =>?_,λj a =>?_⟩
 ·by_cases e:j=k
  ·subst e;simpa using m
  ·simp only[if_neg e];exact(N.iter j a).extBut b.extBut (A.ii j k a c e)
 ·exact(N.lst j a).extBut b.extBut ((A.lz j a).2.2 k c)
def ZN.NL(N:ZN h z i f n d l p t u r)(A:ZA z i f n d l)(k:TupAt g f a)(e:a.size=n)(c:ll f h g):ZN g z i f n d l p t u a:=
 ⟨c.extBut _ _ (cg A.YL) N.zz,c.extBut _ _ A.WA N.ti,k,e,λj b=>(N.iter j b).extBut c.extBut (A.iz j b).2.2,λj b=>(N.lst j b).extBut c.extBut (A.lz j b).2.1⟩
def ZN.NK(N:ZN h z i f n d l p t u r)(A:ZA z i f n d l)(e:IsZip g z i f c)(b:ll z h g):ZN g z i f n d l p t c r:=
 ⟨e,b.extBut _ _ A.tiz N.ti,b.extBut _ _ A.YL N.to,N.sz,λj a=>(N.iter j a).extBut b.extBut (A.iz j a).1,λj a=>(N.lst j a).extBut b.extBut (A.lz j a).1⟩
end
def EZ(z f:az)(n:Nat)(d:Nat->az)(h g:de):Prop:=∀c o,c≠z->c≠f->(∀j,j<n->c≠d j)->h.get? c=Y o->g.get? c=Y o
section
variable {E:ai->aw->Prop}{s:aw}
variable {f:az}{d:Nat->az}{m:Nat}
def Bd(h:a=(bY n).map λj=>cf (d j))(c:k<n):(a.zipIdx).drop k=(cf (d k),k)::(a.zipIdx).drop (k+1):=by
 have b:a.zipIdx.length=n:=by rw[h];simp
 rw[fW (by rw[b];exact c)]
 congr 1
 subst h;simp
def ID{Q:ai->aw->Prop}(hh:A.handled=M)(hn:0<n)(hn2:n<=100)(D:ZA z i f n d l)(N:ZN s.heap z i f n d l p (λ_=>m) .none r) (hQ:∀g x,(∀j,j<n->(p j)[m]?=Y (x j))->ZN g z i f n d l p (λ_=>m+1) (rawInt s.heap.objs.size) ((bY n).map x).toArray->TupAt g s.heap.objs.size ((bY n).map x).toArray->g.objs.size=s.heap.objs.size+1 ->
   EZ z f n d s.heap g->Q (.ref s.heap.objs.size) { s with heap:=g }) (hE:(∃j,j<n/\(p j)[m]?=M)->∀g e,EZ z f n d s.heap g->(∃o,g.get? e=Y o/\o.cls=.type "StopIteration")->E (.ref e) { s with heap:=g }) :
  bB (br B w) A (Builtin.«zip.__next__» ⟨[.ref z],[]⟩) (λlF s'=>∃v,lF=.done (.ret v)/\Q v s') E s:=by
 unfold Builtin.«zip.__next__»;show bB _ _ (field (.ref z) 2 >>= _) _ _ _;refine aD (Nk N.zz rfl (x :=.bool Z_) rfl ?_);refine aD (Nk N.zz rfl (x :=.ref i) rfl ?_);refine aD (SO N.ti rfl ?_);have Kn:((bY n).map λj=>cf (d j)).toArray.isEmpty=false:=by
  cases n with|zero=>omega|succ n=>simp[wk]
 simp only[Kn,eB,if_false];refine aD ?_;unfold Builtin.SmallTypes.ownedTupleIsFree;refine aD (Nk N.zz rfl (x :=.none) rfl (bD ?_));simp only[if_true];refine aD (SQ ?_);refine aD (Nk N.zz rfl (x :=.ref f) rfl ?_);refine aD (u_ N.zz Ž λh1 z1 k1 =>?_);have N1:ZN h1 z i f n d l p (λ_=>m) .ellipsis r:=N.NK D z1 k1;refine aD ?_;refine wpAny_forIn_list _ (λL b s1=>b=(M,())/\∃k F C x,k<=n/\L=(((bY n).map λj=>cf (d j)).zipIdx).drop k/\s1={ s with heap:=F }/\ZN F z i f n d l p (λj=>if j<k then m+1 else m) .ellipsis C /\
   (∀j,j<k->(p j)[m]?=Y (x j)/\C[j]?=Y (x j))/\F.objs.size=s.heap.objs.size/\EZ z f n d s.heap F) _ ?_ ?_ _ _ ⟨rfl,0,h1,r,λ_ =>.none,cD _,rfl,rfl,by simpa using N1,λj H=>ž,k1.1,λc o I _ _ e=>k1.extBut _ _ I e⟩
 ·rintro x L b s1 ⟨rfl,k,F,C,J,hk,R,rfl,G,ho,hs,kp⟩;have h:k<n:=by
   rcases Nat.lt_or_ge k n with z|z
   ·exact z
   ·rw[Pz (by simpa using z)]at R;cases R
  rw[Bd rfl h]at R;obtain⟨rfl,P⟩:=List.cons.inj R;refine aD (wpAny_onRaise ?_);show bB _ _ (Builtin.SmallTypes.nextOf (.ref (d k)) >>= _) _ _ _;have O:=G.iter k h;simp only[ie,if_false]at O;cases hx:(p k)[m]? with
  |none=>
   refine aD (wpAny_nextOf_list_end hh O (G.lst k h) hx λh3 e X he =>?_);obtain⟨oe,S,Zt⟩:=he;have YB:IsZip h3 z i f .ellipsis:=X _ _ (cg (D.iz k h).1) G.zz;have hez:e≠z:=λq=>by subst q;rw[YB]at S;cases S;simp at Zt
   refine u_ YB Ž λh4 _ t=>hE ⟨k,h,hx⟩ h4 e (λc o I c2 T q=>t.extBut _ _ I (X _ _ (T k h) (kp c o I c2 T q))) ⟨oe,t.extBut _ _ hez S,Zt⟩
  |some y=>
   refine aD (wpAny_nextOf_list_item O (G.lst k h) hx λh3 i3 X=>bD ?_);have K:=G.adv D h (by simpa using i3) X;dsimp only;refine aD (SO K.to rfl ?_);dsimp only;have hsz:C.size<=bc:=by rw[K.sz,fH];omega
   refine aD (wpAny_updateSeq K.to rfl ?_ hsz (by simp;omega));have up:TupAt (h3.update f (mU λq=>q.setIfInBounds k y)) f (C.setIfInBounds k y):=by show Heap.get? _ _=_;rw[Heap.get?_update_self _ K.to rfl];simp[mU]
   have N4:=K.NL D up (by simpa using K.sz) (Heap.SameBut.update ..);refine aD (wpAny_letGo (bD ?_));refine⟨rfl,k+1,_,C.setIfInBounds k y,λj=>if j=k then y else J j,h,P,rfl,?_,λj H =>?_,?_,λc o I c2 T q =>?_⟩
   ·have:(λj=>if j=k then (if j<k then m+1 else m)+1 else if j<k then m+1 else m)=λj=>if j<k+1 then m+1 else m:=by
     funext j
     by_cases e:j=k
     ·subst e;simp
     ·by_cases e2:j<k
      ·rw[if_neg e,if_pos e2,if_pos (by omega)]
      ·rw[if_neg e,if_neg e2,if_neg (by omega)]
    rw[this]at N4;exact N4
   ·by_cases e:j=k
    ·subst e;simp only[if_true];exact⟨hx,by rw[Array.getElem?_setIfInBounds_self_of_lt];rw[G.sz];exact h⟩
    ·simp only[if_neg e];obtain⟨a,b⟩:=ho j ž;exact⟨a,by rw[Array.getElem?_setIfInBounds_ne (by omega)];exact b⟩
   ·rw[Heap.size_update,X.1,hs]
   ·exact(Heap.SameBut.update h3 f _).extBut _ _ c2 (X.extBut _ _ (T k h) (kp c o I c2 T q))
 ·rintro b s1 ⟨rfl,k,F,C,J,hk,R,rfl,G,ho,hs,kp⟩;have h:k=n:=by
   rcases Nat.lt_or_ge k n with z|z
   ·rw[Bd rfl z]at R;cases R
   ·omega
  subst h;have XF:C=((bY k).map J).toArray:=by
   apply Array.ext_getElem?;intro j;by_cases H:j<k
   ·rw[(ho j H).2];simp[H]
   ·rw[PD (by rw[G.sz];omega)]
    symm
    apply PD;simp;omega
  subst XF;dsimp only;refine aD (SO G.to rfl ?_);dsimp only;refine aD (wpAny_newTuple ?_ (by simp;rw[fH];omega));have YC:z<F.objs.size:=aU G.zz;have ext:∀c o,F.get? c=Y o->(F.push { cls :=.type "tuple",data :=.seq ((bY k).map J).toArray }).get? c=Y o:=λc o q=>ak _ q
  have K:ZN (F.push { cls :=.type "tuple",data :=.seq ((bY k).map J).toArray }) z i f k d l p (λj=>if j<k then m+1 else m) .ellipsis ((bY k).map J).toArray:=
   ⟨ext _ _ G.zz,ext _ _ G.ti,ext _ _ G.to,G.sz,λj H=>(G.iter j H).at (λo q=>ext _ _ q),λj H=>(G.lst j H).at (λo q=>ext _ _ q)⟩
  refine aD ?_;unfold Builtin.SmallTypes.ownedTupleHandOut;refine aD (u_ K.zz Ž λh4 z4 t =>?_);have N4:ZN h4 z i f k d l p (λj=>if j<k then m+1 else m) (rawInt F.objs.size) ((bY k).map J).toArray:=K.NK D z4 t;refine u_ N4.zz Ž λh5 z5 k5 =>?_
  have U:ZN h5 z i f k d l p (λj=>if j<k then m+1 else m) (rawInt F.objs.size) ((bY k).map J).toArray:=N4.NK D z5 k5;have up:∀c o,c≠z->F.get? c=Y o->h5.get? c=Y o:=λc o I q=>k5.extBut _ _ I (t.extBut _ _ I (ext c o q))
  have tup:TupAt h5 F.objs.size ((bY k).map J).toArray:=k5.extBut _ _ (mf YC) (t.extBut _ _ (mf YC) (bz _ rfl));have YN:h5.objs.size=F.objs.size+1:=by rw[k5.1,t.1,eL]
  refine bD ⟨_,rfl,?_⟩;rw[hs]at U tup YN;show Q (.ref F.objs.size) _;rw[hs];refine hQ h5 J (λj H=>(ho j H).1) ⟨U.zz,U.ti,U.to,U.sz,λj H=>by have:=U.iter j H;simpa [H] using this,U.lst⟩ tup YN λc o I c2 T q=>up c o I (kp c o I c2 T q)
def xD(v:A.handled=M)(k:0<n)(a:n<=100)(D:ZA z i f n d l)(N:ZN s.heap z i f n d l p (λ_=>m) .none r) (F:∀g x,(∀j,j<n->(p j)[m]?=Y (x j))->ZN g z i f n d l p (λ_=>m+1) (rawInt s.heap.objs.size) ((bY n).map x).toArray->TupAt g s.heap.objs.size ((bY n).map x).toArray->g.objs.size=s.heap.objs.size+1 ->
   EZ z f n d s.heap g->Q (Y (.ref s.heap.objs.size)) { s with heap:=g }) (G:(∃j,j<n/\(p j)[m]?=M)->∀g,EZ z f n d s.heap g->Q M { s with heap:=g }):bB (br B w) A (pyNext (.ref z)) Q E s:=by
 have b:s.TypeIs (.ref z) "zip" :=⟨_,N.zz,rfl⟩;unfold pyNext;refine aD (wpAny_attempt (wpAny_callSpecial?_slot (name:=ae "__next__") b PySem.F.slot_zip_next
  (wpAny_call_entry PySem.F.slot_zip_next b PySem.F.entry_zip_next (ID v k a D N (λg x L K J I H=>bD (F g x L K J I H)) λq g e c y =>?_) (PySem.F.args_zip_next_1 _))))
 obtain⟨o,h,C⟩:=y;exact aD (wpAny_isInstance (T:= "StopIteration") (b:=Z') ⟨o,h,C⟩ isSubtype_stop (bD (G q _ c)))
end
noncomputable def oq{d:Type}(a b c:d):Nat->d
 |0=>a|1=>b|_=>c
def IE(a b c:ai):checkTypeCall "zip" ⟨[a,b,c],[]⟩=eQ ():=by kernel_rfl
def Kv(a b c:ai):checkBuiltinCall "zip.__new__" ⟨[.type "zip",a,b,c],[]⟩=eQ ():=by kernel_rfl
def UX(a b c d:ai):argsOk "object.__init__" ⟨[a,b,c,d],[]⟩:=by
 unfold argsOk;rw[signature?_of (id:= "object.__init__") (n:=['_','_','t','i','n','i','_','_']) (o:=['t','c','e','j','b','o']) (by kernel_rfl) PySem.F.owner_object];kernel_rfl
noncomputable abbrev Ti(l:az):Obj:={ cls :=.type "list_iterator",data :=.fields #[.ref l,.int 0 0] }
section
variable (h:de)(a b c:az)
abbrev zA:de:=h.push (Ti a)
abbrev zB:de:=(zA h a).push (Ti b)
abbrev zC:de:=(zB h a b).push (Ti c)
abbrev zT:de:=(zC h a b c).push { cls :=.type "tuple",data :=.seq #[.ref h.objs.size,.ref (zA h a).objs.size,.ref (zB h a b).objs.size] }
abbrev zO:de:=(zT h a b c).push { cls :=.type "tuple",data :=.seq #[.none,.none,.none] }
abbrev zZ:de:=(zO h a b c).push { cls :=.type "zip",data :=.fields #[.none,.bool Z_,.bool Z_,.ref (zC h a b c).objs.size,.ref (zT h a b c).objs.size] }
end
def Fu(a b c:az)(m l k:Array ai):
  Meets (Builtin.«zip.__new__» ⟨[.type "zip",.ref a,.ref b,.ref c],[]⟩) (λ_ R s=>s.heap.IsList a m/\s.heap.IsList b l/\s.heap.IsList c k/\R (.ok (.ret (.ref (zO s.heap a b c).objs.size))) { s with heap:=zZ s.heap a b c }):=
 .of_wp λf w A R s h=>by
  obtain⟨j,g,d,e,i⟩:=s;obtain⟨q,p,o,h⟩:=h;have n:=sub_zip;have u:Heap.IsList (Shared.heap ⟨j,g,d,e,i⟩) a m:=q;have t:Heap.IsList (Shared.heap ⟨j.push (Ti a),g,d,e,i⟩) b l:=Nb p _;have r:Heap.IsList (Shared.heap ⟨(j.push (Ti a)).push (Ti b),g,d,e,i⟩) c k:=(Nb (Nb o _) _)
  wp_walk using jF u,jF t,jF r
  exact⟨_,rfl,h⟩
section
variable {f:bh}{s:aw}
def J1{m:Array ai}(B:s.heap.IsList a p)(z:s.heap.IsList b n)(y:s.heap.IsList c m) (h:∀d,IsZip d (s.heap.objs.size+5) (s.heap.objs.size+3) (s.heap.objs.size+4) .none->TupAt d (s.heap.objs.size+3) #[.ref s.heap.objs.size,.ref (s.heap.objs.size+1),.ref (s.heap.objs.size+2)] ->
   TupAt d (s.heap.objs.size+4) #[.none,.none,.none]->d.IsListIter s.heap.objs.size a 0->d.IsListIter (s.heap.objs.size+1) b 0->d.IsListIter (s.heap.objs.size+2) c 0 ->
   (∀c o,s.heap.get? c=Y o->d.get? c=Y o)->Q (.ref (s.heap.objs.size+5)) { s with heap:=d }) :
  bB (br f w) A (call (.type "zip") [.ref a,.ref b,.ref c]) Q E s:=by
 refine callType_new PySem.F.called_zip ſ (IE _ _ _) (Kv _ _ _) (λk=>UX k _ _ _) PySem.F.entry_zip_new (Fu a b c p n m) ⟨B,z,y,?_⟩;have j:(zA s.heap a).objs.size=s.heap.objs.size+1:=eL ..;have i:(zB s.heap a b).objs.size=s.heap.objs.size+2:=by rw[eL,j]
 have g:(zC s.heap a b c).objs.size=s.heap.objs.size+3:=by rw[eL,i]
 have e:(zT s.heap a b c).objs.size=s.heap.objs.size+4:=by rw[eL,g]
 have q:(zO s.heap a b c).objs.size=s.heap.objs.size+5:=by rw[eL,e]
 have l:(zZ s.heap a b c).get? (zO s.heap a b c).objs.size=Y _:=bz _ rfl;have r:(zZ s.heap a b c).get? (zT s.heap a b c).objs.size=Y _:=ak _ (bz _ rfl);have t:(zZ s.heap a b c).get? (zC s.heap a b c).objs.size=Y _:=ak _ (ak _ (bz _ rfl));have u:(zZ s.heap a b c).get? (zB s.heap a b).objs.size=Y _:=ak _ (ak _ (ak _ (bz _ rfl)));have v:(zZ s.heap a b c).get? (zA s.heap a).objs.size=Y _:=ak _ (ak _ (ak _ (ak _ (bz _ rfl))));have C:(zZ s.heap a b c).get? s.heap.objs.size=Y _:=ak _ (ak _ (ak _ (ak _ (ak _ (bz _ rfl)))));show _/\_;rw[g,e,q]at l;rw[e]at r;rw[g,j,i]at t;rw[i]at u;rw[j]at v;rw[q];exact⟨⟨_,l,rfl⟩,h _ l t r ⟨_,C,rfl,rfl⟩ ⟨_,v,rfl,rfl⟩ ⟨_,u,rfl,rfl⟩ λc o x=>ak _ (ak _ (ak _ (ak _ (ak _ (ak _ x)))))⟩
end
noncomputable def SH(K : PySem.W.Frag)(a b c : az): It :=
  ⟨λi H => ∃g e d x y z,nX K H a g /\ nX K H b e /\ nX K H c d /\ g[i]? = Y x /\ e[i]? = Y y /\ d[i]? = Y z,
   λi H v h => ∃x y z p,(∀g,nX K H a g -> g[i]? = Y x) /\ (∀e,nX K H b e -> e[i]? = Y y) /\ (∀d,nX K H c d -> d[i]? = Y z) /\ H p = M /\ v = .ref p /\ h = dg H p (.tup [x,y,z]),
   λi H => ∃g e d,nX K H a g /\ nX K H b e /\ nX K H c d /\ (g.length <= i \/ e.length <= i \/ d.length <= i)⟩
def ZSt(z l k j g e a b c:az)(i:Nat)(h:de):Prop:=∃d:Array ai,d.size=3/\IsZip h z l k .none/\TupAt h l #[.ref j,.ref g,.ref e]/\TupAt h k d/\h.IsListIter j a i/\h.IsListIter g b i/\h.IsListIter e c i
theorem r9{P:Nat->Prop}(c:P 0)(b:P 1)(a:P 2):∀j,j<3->P j
 |0,_=>c|1,_=>b|2,_=>a
def IJ{P:bh}{K:aT}{x1}(a b c z L C J G F:az)(Z:ZA z L C 3 (oq J G F) (oq a b c)):
  GX P w K (.Tuple YA x1 Wz) (SH K a b c) [z,L,C,J,G,F] z (ZSt z L C J G F a b c) where
 mem:=by simp
 obj:=λi h st d hc=>by
  obtain⟨p,s0,s1,s2,s3,s4,s5,s6⟩:=st;simp only[aE,eH,or_false]at hc;rcases hc with rfl|rfl|rfl|rfl|rfl|rfl
  ·exact⟨_,s1,λv z=>by cases z⟩
  ·exact⟨_,s2,λv z=>by cases z⟩
  ·exact⟨_,s3,λv z=>by cases z⟩
  ·obtain⟨o,e,c,d⟩:=s4;exact⟨o,e,λv z=>by rw[d]at z;cases z⟩
  ·obtain⟨o,e,c,d⟩:=s5;exact⟨o,e,λv z=>by rw[d]at z;cases z⟩
  ·obtain⟨o,e,c,d⟩:=s6;exact⟨o,e,λv z=>by rw[d]at z;cases z⟩
 keep:=λi h h' st k=>by obtain⟨p,s0,s1,s2,s3,s4,s5,s6⟩:=st;exact⟨p,s0,k z Ž _ s1,k L Ž _ s2,k C Ž _ s3,s4.at λo q=>k J Ž o q,s5.at λo q=>k G Ž o q,s6.at λo q=>k F Ž o q⟩
 item:=by
  intro X hP hw hK hc i D s σ H E I hf st hg;subst hP hw hK;obtain⟨p,s0,s1,s2,s3,s4,s5,s6⟩:=st;obtain⟨xs,ys,zs,x,y,zz,RI,V_,V9,m,hy,Y6⟩:=hg;obtain⟨T,WW,p1,Y_⟩:=I.list RI;obtain⟨S,WV,p2,Y9⟩:=I.list V_;obtain⟨R,WU,p3,Y8⟩:=I.list V9;obtain⟨u1,Xy,ru1⟩:=WW.get m;obtain⟨u2,U4,ru2⟩:=WV.get hy;obtain⟨u3,Xx,ru3⟩:=WU.get Y6;have f:∀d∈[z,L,C,J,G,F],Aa X D H d:=hf;have N:ZN s.heap z L C 3 (oq J G F) (oq a b c) (oq T.toArray S.toArray R.toArray) (λ_=>i) .none p:=⟨s1,s2,s3,s0,r9 s4 s5 s6,r9 p1.isList p2.isList p3.isList⟩;refine xD (I.ok.hd hc) ſ ſ Z N (λh1 xx t N1 t1 z1 k1 =>?_) λhe =>?_
  ·have e1:xx 0=u1:=by have:=t 0 ſ;simp[oq]at this;rw[Xy]at this;cases this;rfl
   have e2:xx 1=u2:=by have:=t 1 ſ;simp[oq]at this;rw[U4]at this;cases this;rfl
   have e3:xx 2=u3:=by have:=t 2 ſ;simp[oq]at this;rw[Xx]at this;cases this;rfl
   have t1:TupAt h1 s.heap.objs.size #[u1,u2,u3]:=by have:=t1;simpa [List.range_succ,e1,e2,e3] using this
   refine⟨_,rfl,?_⟩;refine wpAny_letOwnedTupleGo_zip (s:={ s with heap:=h1 }) N1.zz λh2 X5 w2 =>?_
   have Y7:z<s.heap.objs.size:=aU s1;have hn:H s.heap.objs.size=none:=I.iw.fresh (aH _);have Wv:ll z h1 h2:=w2;have N2:=N1.NK Z X5 Wv;have g:∀d o,d∉[z,L,C,J,G,F]->s.heap.get? d=Y o->h2.get? d=Y o:=λd o l q=>by
    have n1:d≠z:=λe=>l (by simp[e])
    have n2:d≠C:=λe=>l (by simp[e])
    exact(Wv.2 d n1).trans (k1 d o n1 n2 (r9 (λe=>l (by simp[e,oq])) (λe=>l (by simp[e,oq])) (λe=>l (by simp[e,oq]))) q)
   have tup:h2.get? s.heap.objs.size=Y { cls :=.type "tuple",data :=.seq #[u1,u2,u3] }:=(Wv.2 _ (mf Y7)).trans t1;have O:∀d o,H d=Y o->d∉[z,L,C,J,G,F]:=λd o q l=>by have:=(f d l).1;rw[this]at q;cases q
   have new:gF X.prog X.w (dg H s.heap.objs.size (.tup [x,y,zz])) h2 s.heap.objs.size (.tup [x,y,zz]):=
    ⟨by show 3<=bc;rw[fH];decide,[u1,u2,u3],.cons ru1 (.cons ru2 (.cons ru3 .nil)),_,tup,rfl,_,rfl⟩
   have U:qf X.prog X.w (dg H s.heap.objs.size (.tup [x,y,zz])) h2:=λd o q=>by
    by_cases l:d=s.heap.objs.size
    ·subst l;rw[bj]at q;cases q;exact new
    ·rw[aY l]at q;refine(I.iw d o q).Aw (λc v B r =>?_) (λc r=>by rw[aY (bF r hn)];exact r) λc ys r=>by rw[aY (bF r hn)];exact r
     rcases B with rfl|B
     ·exact g _ _ (O _ _ q) r
     ·exact g _ _ (O _ _ B) r
   have un:Un (Dg X.stack) [z,L,C,J,G,F] H (dg H s.heap.objs.size (.tup [x,y,zz])) s.heap h2:=by
    have old:∀b o,s.heap.get? b=Y o->b≠s.heap.objs.size:=λb o q=>bR (aU q)
    exact⟨λb o q n _ m=>g b o m q,λb o q n _ m=>⟨o.slots,g b o m q⟩,λb o q n m=>by rw[aY (old b o q)];exact n,
     λb o q m=>⟨o,g b o m q⟩,λb ys q=>by rw[aY (bF q hn)];exact q,λb o u q=>by rw[aY (bF q hn)];exact q,λb ps q=>⟨#[],by rw[aY (bF q hn)];simpa using q⟩⟩
   have I2:Inv X D σ (dg H s.heap.objs.size (.tup [x,y,zz])) { s with heap:=h2 }:=I.Ih (s':={ s with heap:=h2 }) rfl un U I.bare λb l=>⟨(f b l).2.2.2.1,(f b l).2.1,(f b l).2.2.2.2.1,(f b l).2.2.2.2.2⟩
   refine⟨.ref s.heap.objs.size,_,I2,rfl,⟨x,y,zz,s.heap.objs.size,λq hq=>by rw[I.sX hq RI];exact m,λq hq=>by rw[I.sX hq V_];exact hy,λq hq=>by rw[I.sX hq V9];exact Y6,hn,rfl,rfl⟩,⟨_,N2.sz,N2.zz,N2.ti,N2.to,N2.iter 0 ſ,N2.iter 1 ſ,N2.iter 2 ſ⟩,λd hd =>?_⟩;have:d≠s.heap.objs.size:=by
    simp only[aE,eH,or_false]at hd;rcases hd with rfl|rfl|rfl|rfl|rfl|rfl
    ·exact bR Y7
    ·exact bR (aU s2)
    ·exact bR (aU s3)
    ·obtain⟨o,q,_⟩:=s4;exact bR (aU q)
    ·obtain⟨o,q,_⟩:=s5;exact bR (aU q)
    ·obtain⟨o,q,_⟩:=s6;exact bR (aU q)
   rw[aY this];exact(f d hd).1
  ·exfalso;obtain⟨j,hj,q⟩:=he
   match j,hj,q with
   |0,_,q=>simp[oq]at q;rw[tR.mpr q]at Xy;cases Xy|1,_,q=>simp[oq]at q;rw[tR.mpr q]at U4;cases U4|2,_,q=>simp[oq]at q;rw[tR.mpr q]at Xx;cases Xx
 done:=by
  intro X hP hw hK hc i D s σ H E I hf st hg;subst hP hw hK;obtain⟨p,s0,s1,s2,s3,s4,s5,s6⟩:=st;obtain⟨xs,ys,zs,RI,V_,V9,m⟩:=hg;obtain⟨T,WW,p1,Y_⟩:=I.list RI;obtain⟨S,WV,p2,Y9⟩:=I.list V_;obtain⟨R,WU,p3,Y8⟩:=I.list V9;have l1:=WW.length;have l2:=WV.length;have l3:=WU.length;have f:∀d∈[z,L,C,J,G,F],Aa X D H d:=hf;have N:ZN s.heap z L C 3 (oq J G F) (oq a b c) (oq T.toArray S.toArray R.toArray) (λ_=>i) .none p:=⟨s1,s2,s3,s0,r9 s4 s5 s6,r9 p1.isList p2.isList p3.isList⟩;refine xD (I.ok.hd hc) ſ ſ Z N (λh1 xx t =>?_) λ_ h' eb=>⟨rfl,?_⟩
  ·exfalso;have q1:=t 0 ſ;have q2:=t 1 ſ;have q3:=t 2 ſ;simp[oq]at q1 q2 q3;have:=(af.mp q1).1;have:=(af.mp q2).1;have:=(af.mp q3).1;omega
  ·have O:∀b o,H b=Y o->b∉[z,L,C,J,G,F]:=λb o q l=>by have:=(f b l).1;rw[this]at q;cases q
   have g:∀d o,d∉[z,L,C,J,G,F]->s.heap.get? d=Y o->h'.get? d=Y o:=λd o l q=>eb d o (λe=>l (by simp[e])) (λe=>l (by simp[e])) (r9 (λe=>l (by simp[e,oq])) (λe=>l (by simp[e,oq])) (λe=>l (by simp[e,oq]))) q
   have U:qf X.prog X.w H h':=λb o q=>by
    refine(I.iw b o q).Aw (λc v B r =>?_) (λc r=>r) λc ys r=>r
    rcases B with rfl|B
    ·exact g _ _ (O _ _ q) r
    ·exact g _ _ (O _ _ B) r
   have un:Un (Dg X.stack) [z,L,C,J,G,F] H H s.heap h':=
    ⟨λb o q n _ m=>g b o m q,λb o q n _ m=>⟨o.slots,g b o m q⟩,λb o q n m=>n,λb o q m=>⟨o,g b o m q⟩,λb ys q=>q,λb o u q=>q,λb ps q=>⟨#[],by simpa using q⟩⟩
   exact I.Ih (s':={ s with heap:=h' }) rfl un U I.bare λb l=>⟨(f b l).2.2.2.1,(f b l).2.1,(f b l).2.2.2.2.1,(f b l).2.2.2.2.2⟩
 self:=λA i s Q E st h=>by obtain⟨p,s0,s1,_⟩:=st;exact wpAny_pyIter_zip s1 h
section
variable {X:Cx}{f:DF}
def RF(K:aT)(k:TA):TI:=λe H R=>k e H λj d=>∃a b c,j=[.ref a,.ref b,.ref c]/\(∃i,nX K d a i)/\(∃h,nX K d b h)/\(∃f,nX K d c f)/\R (SH K a b c) d
def cv.three(r:cv [x,y,z] a):∃u v w,a=[u,v,w]/\RelV x u/\RelV y v/\RelV z w:=by
 cases r with
 | cons d t=>cases t with
  | cons c t=>cases t with
   |cons b t=>cases t;exact⟨_,_,_,rfl,d,c,b⟩
def N7{x1}(hg:Gl X "zip")(hm:X.mg "zip" = M)(ha:PA X [e,l,g] ta)(hs:autoParam (av [e,l,g] X.env=[(Z_,eval e X.env),(Z_,eval l X.env),(Z_,eval g X.env)]) Ų)(K:autoParam (av [l,g] X.env=[(Z_,eval l X.env),(Z_,eval g X.env)]) Ų)(hv:autoParam (fZ "zip" = Y (.type "zip")) ũ):PI X (.Tuple L x1 t) (.Call (.Name "zip" p) [e,l,g] [] x) (RF X.K ta):=by
 intro D s σ H R I h;refine Call_ (rj I hg hm hv (ia (fS (ha x D s σ H _ I h) ?_) (by rw[hs,K]) (by rw[K];rfl)));rintro us f ⟨vs,H1,r,r1,q1⟩;obtain⟨a,b,c,rfl,⟨xs,P⟩,⟨ys,O⟩,⟨zs,N⟩,q⟩:=q1;obtain⟨u,v,w,rfl,ru,rv,n⟩:=cv.three r1;cases ru;cases rv;cases n;obtain⟨aaL,rx1,C,Y_⟩:=r.list P;obtain⟨aaK,rx2,B,Y9⟩:=r.list O;obtain⟨aaJ,rx3,y,Y8⟩:=r.list N;obtain⟨oa,T,_⟩:=C.isList;obtain⟨ob,S,_⟩:=B.isList;obtain⟨oc,Q,_⟩:=y.isList;have J:=aU T;have G:=aU S;have F:=aU Q;refine J1 C.isList B.isList y.isList λh' z1 z2 z3 z4 z5 z6 k1 =>?_
 refine wpAny_pyIter_zip (s:={ f with heap:=h' }) z1 ?_;have i:∀k:Nat,H1 (f.heap.objs.size+k)=none:=λk=>r.iw.fresh (il _ _)
 have m:∀ {d:az}(k:Nat),d<f.heap.objs.size->d≠f.heap.objs.size+k:=fun {d} k h z=>by rw[z]at h;exact absurd h (Nat.not_lt.mpr (il _ _))
 have o:∀j k:Nat,j≠k->f.heap.objs.size+j≠f.heap.objs.size+k:=λj k h z=>h (Nat.add_left_cancel z)
 have Z:ZA (f.heap.objs.size+5) (f.heap.objs.size+3) (f.heap.objs.size+4) 3 (oq (f.heap.objs.size+0) (f.heap.objs.size+1) (f.heap.objs.size+2)) (oq a b c):=by
  refine⟨o 3 5 ſ,o 4 5 ſ,o 3 4 ſ,r9 ⟨o 0 5 ſ,o 0 3 ſ,o 0 4 ſ⟩ ⟨o 1 5 ſ,o 1 3 ſ,o 1 4 ſ⟩ ⟨o 2 5 ſ,o 2 3 ſ,o 2 4 ſ⟩,λj k hj hk U =>?_,?_⟩
  ·have E:∀j,j<3->oq (f.heap.objs.size+0) (f.heap.objs.size+1) (f.heap.objs.size+2) j=f.heap.objs.size+j:=r9 rfl rfl rfl;rw[E j hj,E k hk];exact o j k U
  ·exact r9 ⟨m 5 J,m 4 J,r9 (m 0 J) (m 1 J) (m 2 J)⟩ ⟨m 5 G,m 4 G,r9 (m 0 G) (m 1 G) (m 2 G)⟩ ⟨m 5 F,m 4 F,r9 (m 0 F) (m 1 F) (m 2 F)⟩
 refine⟨f.heap.objs.size+5,[f.heap.objs.size+5,f.heap.objs.size+3,f.heap.objs.size+4,f.heap.objs.size+0,f.heap.objs.size+1,f.heap.objs.size+2],_,_,H1,rfl,r.kept (t':=f.toks) k1,
  IJ a b c (f.heap.objs.size+5) (f.heap.objs.size+3) (f.heap.objs.size+4) (f.heap.objs.size+0) (f.heap.objs.size+1) (f.heap.objs.size+2) Z,⟨_,rfl,z1,z2,z3,z4,z5,z6⟩,λd hd =>?_,q⟩
 simp only[aE,eH,or_false]at hd;rcases hd with rfl|rfl|rfl|rfl|rfl|rfl
 ·exact r.yc (il _ _) (i 5)
 ·exact r.yc (il _ _) (i 3)
 ·exact r.yc (il _ _) (i 4)
 ·exact r.yc (il _ _) (i 0)
 ·exact r.yc (il _ _) (i 1)
 ·exact r.yc (il _ _) (i 2)
noncomputable def lq:List D->List D->List D->List D
 |x::c,y::b,z::a =>.tup [x,y,z]::lq c b a|_,_,_=>[]
theorem wB:∀(c b a:List D),(lq c b a).length=min c.length (min b.length a.length)
 |[],b,a=>by simp[lq]
 |x::c,[],a=>by simp[lq]
 |x::c,y::b,[]=>by simp[lq]
 |x::c,y::b,z::a=>by simp[lq,wB c b a]
theorem AU:∀ {c b a:List D}{i:Nat}{d:D},(lq c b a)[i]?=Y d->∃x y z,c[i]?=Y x/\b[i]?=Y y/\a[i]?=Y z/\d=.tup [x,y,z]
 |[],b,a,i,d,h=>by simp[lq]at h
 |x::c,[],a,i,d,h=>by simp[lq]at h
 |x::c,y::b,[],i,d,h=>by simp[lq]at h
 |x::c,y::b,z::a,0,d,h=>by simp[lq]at h;exact⟨x,y,z,rfl,rfl,rfl,h.symm⟩
 |x::c,y::b,z::a,i+1,d,h=>by simp only[lq,Nn]at h ⊢;exact AU h
def JB{K:aT}{f e:List V}(g:G a=Y (.lst f))(L:G b=Y (.lst h))(J:G c=Y (.lst e))(r:be K G ds f)(U:be K G es h)(o:be K G fs e):C4 K G (SH K a b c) (lq ds es fs):=by
 have l1:=r.length;have l2:=U.length;have l3:=o.length;refine⟨λi H s I =>?_,λi H s I=>⟨f,h,e,.of (s _ _ g),.of (s _ _ L),.of (s _ _ J),by rw[wB]at I;omega⟩,λi H x H' G1 d v k ⟨y,T,j,p,P,O,N,X,ev,eh⟩ hd =>?_⟩
 ·rw[wB]at I;have P:i<f.length:=by omega
  have O:i<h.length:=by omega
  have N:i<e.length:=by omega
  exact⟨f,h,e,f[i],h[i],e[i],.of (s _ _ g),.of (s _ _ L),.of (s _ _ J),by simp[P],by simp[O],by simp[N]⟩
 ·obtain⟨c1,c2,c3,S,R,Q,rfl⟩:=AU hd;have F:=P f (.of (k _ _ (v _ _ g)));have E:=O h (.of (k _ _ (v _ _ L)));have C:=N e (.of (k _ _ (v _ _ J)));obtain⟨v1,u,B⟩:=r.get S;obtain⟨v2,t,z⟩:=U.get R;obtain⟨v3,q,w⟩:=o.get Q;rw[F]at u;cases u;rw[E]at t;cases t;rw[C]at q;cases q;subst ev eh;have m:=v.trans (.alloc (o :=.tup [y,T,j]) (k.free X));exact⟨dg G1 p (.tup [y,T,j]),gf.alloc k X,cY.mpr ⟨p,_,rfl,bj,.cons (cI.mono m c1 B) (.cons (cI.mono m c2 z) (.cons (cI.mono m c3 w) .nil))⟩⟩
def V7(f n A:DF):DL:=λa=>(iL f a).bind λd=>(iL n a).bind λc=>(iL A a).map λb=>lq d c b
def OT{O}{m:Pos}(hg:Gl X "zip")(hm:X.mg "zip" = M)(h:PE X e (tP X.K Z f))(h':PE X l (tP X.K Z n))(E:PE X g (tP X.K Z A))(hs:autoParam (av [e,l,g] X.env=[(Z_,eval e X.env),(Z_,eval l X.env),(Z_,eval g X.env)]) Ų)(C:autoParam (av [l,g] X.env=[(Z_,eval l X.env),(Z_,eval g X.env)]) Ų)(D:autoParam (av [e,l,g] X.env=(Z_,eval e X.env)::av [l,g] X.env) Ų)(B:autoParam (av [l,g] X.env=(Z_,eval l X.env)::av [g] X.env) Ų)(z:autoParam (av [g] X.env=(Z_,eval g X.env)::av [] X.env) Ų):
  PI X (.Tuple r O m) (.Call (.Name "zip" p) [e,l,g] [] y) (AZ X.K Z (V7 f n A)):=(N7 hg hm (bH h (bH h' (bH E dS z) B) D) hs C).imp <|by
 rintro σ H R ⟨G,u,ds,gh,F,j,k⟩;unfold V7 at j;obtain⟨N,ef,j⟩:=aa.1 j;rcases i:iL n u with _|V
 ·simp[i]at j
 rcases d:iL A u with _|L
 ·simp[i,d]at j
 simp only[i,d,ab,bI]at j;cases j;refine⟨G,u,[.lst N,.lst V,.lst L],gh,F,?_,λvs G1 H1 s r1 =>?_⟩
 ·simp only[aC,aN,vR ef,vR i,vR d,ab]
 ·obtain⟨v,t,rfl,rv,rt⟩:=bt.mp r1;obtain⟨v',t',rfl,w,x⟩:=bt.mp rt;obtain⟨T,U,rfl,o,q⟩:=bt.mp x;have:=cV.mp q;subst this;obtain⟨a,S,rfl,K,ra⟩:=bZ.mp rv;obtain⟨b,Q,rfl,J,rb⟩:=bZ.mp w;obtain⟨c,P,rfl,I,rc⟩:=bZ.mp o;exact⟨a,b,c,rfl,⟨S,.of (s.gh _ _ K)⟩,⟨Q,.of (s.gh _ _ J)⟩,⟨P,.of (s.gh _ _ I)⟩,k _ G1 H1 s (JB K J I ra rb rc)⟩
end
structure TB(kd:SortKind)(a0:Array Keyed)(st:SortSt):Prop where
 pm:(dH st).Perm a0
 kn:kindOf st=kd
 fl:TH st=none
 pd:pB st=#[]
noncomputable def kx(o:ai->Int)(a:Array Keyed)(i:Nat):Int:=((a[i]?).map λp=>o p.1).getD 0
def Up(o:ai->Int)(a:Array Keyed)(k:Nat):Prop:=∀i j,i<j->j<k->kx o a i<kx o a j
def Dn(o:ai->Int)(a:Array Keyed)(k:Nat):Prop:=∀i j,i<j->j<k->kx o a j<kx o a i
def Df(o:ai->Int)(a:Array Keyed):Prop:=(a.toList.map λp=>o p.1).Nodup
def Df.perm(h:Df o a)(p:b.Perm a):Df o b:=by
 have q:=(sy.mp p).map λp=>o p.1
 exact q.nodup_iff.mpr h
def Df.ne(h:Df o a){i j:Nat}(d:i<a.size)(c:j<a.size)(b:i≠j):kx o a i≠kx o a j:=by
 intro e;have g:kx o a i=(a.toList.map λp=>o p.1)[i]'(by simpa using d):=by simp[kx,d]
 have f:kx o a j=(a.toList.map λp=>o p.1)[j]'(by simpa using c):=by simp[kx,c]
 rw[g,f]at e;rcases Nat.lt_or_gt_of_ne b with z|z
 ·exact(tO.mp h) i j _ _ z e
 ·exact(tO.mp h) j i _ _ z e.symm
section
variable {s:aw}
def TB.size{a:SortSt}(h:TB kd a0 a):(dH a).size=a0.size:=h.pm.size_eq
def TB.arr(h:TB kd a0 a)(p:b.Perm (dH a)):TB kd a0 (setArr a b):=⟨p.trans h.pm,h.kn,h.fl,h.pd⟩
def TB.ne(h:TB kd a0 a)(d:Df o a0){i j:Nat}(e:i<a0.size)(c:j<a0.size)(b:i≠j):kx o (dH a) i≠kx o (dH a) j:=
 (d.perm h.pm).ne (by rw[h.size];exact e) (by rw[h.size];exact c) b
def TC(prog:bh)(w:cX)(A:ip)(E:ai->aw->Prop)(s:aw)(a0:Array Keyed)(kd:SortKind)(o:ai->Int):Prop:=
 ∀(a:SortSt) (i j:Nat) (Q:Option Bool->SortSt->Prop),TB kd a0 a->i<a0.size->j<a0.size->i≠j->Q (Y (decide (kx o (dH a) i<kx o (dH a) j))) a->wpS (br prog w) A E s (ltAt' i j) Q a
def Up.more{i:Nat}(u:Up o c i)(g:1<=i)(h:kx o c (i-1)<kx o c i):Up o c (i+1):=λa b d j=>by
 by_cases e:b=i
 ·subst e;by_cases f:a=b-1
  ·subst f;exact h
  ·exact rQ (u a (b-1) ž ž) h
 ·exact u a b d ž
def Dn.more{i:Nat}(u:Dn o c i)(g:1<=i)(h:kx o c i<kx o c (i-1)):Dn o c (i+1):=λa b d j=>by
 by_cases e:b=i
 ·subst e;by_cases f:a=b-1
  ·subst f;exact h
  ·exact rQ h (u a (b-1) ž ž)
 ·exact u a b d ž
def Hb{m:Nat}(C:TC prog w A E s a0 kd o)(d:Df o a0)(B:TB kd a0 b)(n:m<=a0.size)(p:1<=a)(j:a<=m)(u:Up o (dH b) a)(h:∀i,a<=i->i<=m->Up o (dH b) i->(i=m\/kx o (dH b) i<kx o (dH b) (i-1))->Q (M,i) b):wpS (br prog w) A E s (ascLoop a m) Q b:=by
 unfold ascLoop;refine xU (I:=λi c t=>c=(M,i)/\t=b/\Up o (dH b) i) (λi c t g l k =>?_) (λc t k =>?_) ⟨rfl,rfl,u⟩
 ·obtain⟨rfl,rfl,f⟩:=k;refine dJ (C _ i (i-1) _ B ž ž ž ?_);dsimp only;by_cases e:kx o (dH t) i<kx o (dH t) (i-1)
  ·rw[decide_eq_true e,if_pos rfl];exact gZ (h i g ž f (.inr e))
  ·rw[decide_eq_false e,if_neg (by decide)];have:=B.ne d (i:=i-1) (j:=i) ž ž ž;exact gZ ⟨rfl,rfl,f.more ž ž⟩
 ·obtain⟨rfl,rfl,f⟩:=k;have:max a m=m:=by omega
  rw[this]at f ⊢;exact h m j (aH _) f (.inl rfl)
def IF{m:Nat}(C:TC prog w A E s a0 kd o)(d:Df o a0)(B:TB kd a0 b)(n:m<=a0.size)(p:1<=a)(j:a<=m)(u:Dn o (dH b) a)(h:∀i,a<=i->i<=m->Dn o (dH b) i->Q (M,i,0) b):wpS (br prog w) A E s (descLoop a m) Q b:=by
 unfold descLoop;refine xU (I:=λi c t=>c=(M,i,0)/\t=b/\Dn o (dH b) i) (λi c t g l k =>?_) (λc t k =>?_) ⟨rfl,rfl,u⟩
 ·obtain⟨rfl,rfl,f⟩:=k;refine dJ (C _ i (i-1) _ B ž ž ž ?_);dsimp only;by_cases e:kx o (dH t) i<kx o (dH t) (i-1)
  ·rw[decide_eq_true e,if_pos rfl,if_neg (by decide)];exact gZ ⟨rfl,rfl,f.more ž e⟩
  ·rw[decide_eq_false e,if_neg (by decide)];refine dJ (C _ (i-1) i _ B ž ž ž ?_);have:=B.ne d (i:=i-1) (j:=i) ž ž ž;dsimp only;rw[decide_eq_true (by omega:kx o (dH t) (i-1)<kx o (dH t) i),if_pos rfl];exact gZ (h i g ž f)
 ·obtain⟨rfl,rfl,f⟩:=k;have:max a m=m:=by omega
  rw[this]at f ⊢;exact h m j (aH _) f
def Fv(b:n<=a.size)(u:Dn o a n):Up o (mirror a 0 n ((n-0)/2)) n:=λi j e d=>by
 have g:∀k,k<n->kx o (mirror a 0 n ((n-0)/2)) k=kx o a (n-1-k):=λk c=>by unfold kx;rw[getElem?_mirror_all b k,if_pos ⟨cD _,c⟩,rO]
 rw[g i (by omega),g j d];exact u _ _ ž ž
def QN{m:Nat}(C:TC prog w A E s a0 kd o)(d:Df o a0)(B:TB kd a0 c)(I:m=a0.size)(G:1<=m)(h:∀i t,TB kd a0 t->1<=i->i<=m->Up o (dH t) i->Q (Y i) t):wpS (br prog w) A E s (countRun' 0 m) Q c:=by
 rw[countRun0_eq];refine dJ (Hb C d B ž (aH 1) G (λi j D J=>ž) λi g f l q =>?_);dsimp only;by_cases e:i=m
 ·subst e;rw[if_pos (by simp)];exact gZ (h i c B g f l)
 ·rw[if_neg (by simpa using e)];have q:kx o (dH c) i<kx o (dH c) (i-1):=by rcases q with z|z;exact absurd z e;exact z
  by_cases r:i > 1
  ·rw[if_pos r];refine dJ (C _ _ _ _ B ž ž (by show 0≠i-1;omega) ?_);dsimp only;rw[decide_eq_true (l 0 (i-1) (by omega) (by omega)),if_pos rfl];exact gZ (h i c B g f l)
  ·rw[if_neg r];have:i=1:=by omega
   subst this;unfold descPart;refine dJ (wpS_lift (SQ ⟨rfl,?_⟩));refine dJ (IF C d B ž ž ž (Dn.more (i:=1) (λa b F K=>ž) (aH 1) q) λj y p H =>?_);dsimp only;rw[if_neg (by decide)];unfold tail3;rw[reverseSlice'_eq];refine dJ (wpS_modify ?_);have u:TB kd a0 (setArr c (mirror (dH c) 0 j ((j-0)/2))):=B.arr (mirror_perm _ _ _ _);refine dJ (Hb C d u ž ž p (Fv (by rw[B.size];omega) H) λk x n v _ =>?_);exact gZ (h k _ u ž n v)
def Qm(f:k<a.size)(n:l<=k)(u:Up o a k)(e:∀i,i<l->kx o a i<kx o a k)(h:∀i,l<=i->i<k->kx o a k<kx o a i):Up o (bubble a k (k-l)) (k+1):=λi j b p=>by
 have g:∀q,kx o (bubble a k (k-l)) q=if q=l then kx o a k else if l<q/\q<=k then kx o a (q-1) else kx o a q:=λq=>by
  unfold kx;rw[getElem?_bubble f (k-l) (by omega) q,show k-(k-l)=l by omega];split
  ·rfl
  ·split<;>rfl
 rw[g i,g j];by_cases d:i=l
 ·rw[if_pos d,if_neg (by omega),if_pos (by omega)];exact h _ ž ž
 ·rw[if_neg d];by_cases c:j=l
  ·rw[if_pos c,if_neg (by omega)];exact e _ ž
  ·rw[if_neg c];by_cases s:l<i
   ·rw[if_pos (by omega),if_pos (by omega)];exact u _ _ ž ž
   ·rw[if_neg (by omega)];by_cases r:l<j
    ·rw[if_pos (by omega)];by_cases m:i<j-1
     ·exact u _ _ m ž
     ·omega
    ·rw[if_neg (by omega)];exact u _ _ b ž
def NX{m:Nat}(C:TC prog w A E s a0 kd o)(d:Df o a0)(B:TB kd a0 y)(T:n=a0.size)(K:1<=m)(U:m<=n)(u:Up o (dH y) m)(h:∀t,TB kd a0 t->Up o (dH t) n->Q Z' t):wpS (br prog w) A E s (binarySort' 0 n m) Q y:=by
 rw[binarySort'_eq];simp only[rO];have z:max m 1=m:=by omega
 rw[z];refine dJ (wpS_mono (xU (I:=λk c t=>c=(M,())/\TB kd a0 t/\Up o (dH t) k) (Q:=λc t=>c=(M,())/\TB kd a0 t/\Up o (dH t) n) (λk c t V L D =>?_) (λc t D =>?_) ⟨rfl,B,u⟩) λc t J =>?_)
 ·obtain⟨rfl,g,a⟩:=D;refine dJ (wpS_mono (xU (I:=λq c b=>b=t/\∃l r,c=(M,l,r)/\l<=r/\r<=k/\r-l<=k-q/\(∀i,i<l->kx o (dH t) i<kx o (dH t) k)/\(∀i,r<=i->i<k->kx o (dH t) k<kx o (dH t) i))
   (Q:=λc b=>b=t/\∃l,c=(M,l,l)/\l<=k/\(∀i,i<l->kx o (dH t) i<kx o (dH t) k)/\(∀i,l<=i->i<k->kx o (dH t) k<kx o (dH t) i)) (λq c b I H p =>?_) (λc b p =>?_) ⟨rfl,0,k,rfl,cD _,aH _,ž,λi f=>ž,λi f N=>ž⟩) λc b p =>?_)
  ·obtain⟨rfl,l,r,rfl,G,v,R,j,f⟩:=p;dsimp only;by_cases e:l ≥ r
   ·rw[if_pos e];have:l=r:=by omega
    subst this;exact gZ ⟨rfl,l,rfl,v,j,f⟩
   ·rw[if_neg e];refine dJ (C _ _ _ _ g ž ž ž ?_);dsimp only;by_cases x:kx o (dH b) k<kx o (dH b) ((l+r)/2)
    ·rw[decide_eq_true x,if_pos rfl];refine gZ ⟨rfl,l,(l+r)/2,rfl,ž,ž,ž,j,λi P O =>?_⟩;by_cases F:i=(l+r)/2
     ·subst F;exact x
     ·exact rQ x (a _ _ ž O)
    ·rw[decide_eq_false x,if_neg (by decide)];have S:=g.ne d (i:=k) (j:=(l+r)/2) ž ž ž;refine gZ ⟨rfl,(l+r)/2+1,r,rfl,ž,v,ž,λi P =>?_,f⟩;by_cases F:i=(l+r)/2
     ·subst F;omega
     ·have:=a i ((l+r)/2) ž ž;omega
  ·obtain⟨rfl,l,r,rfl,G,v,R,j,f⟩:=p;have:l=r:=by omega
   subst this;exact⟨rfl,l,rfl,v,j,f⟩
  ·obtain⟨rfl,l,rfl,lk,j,f⟩:=p;dsimp only;rw[moveDown'_eq];refine dJ (wpS_modify (gZ ⟨rfl,g.arr (bubble_perm _ _ _),?_⟩));exact Qm (by rw[g.size];omega) lk a j f
 ·obtain⟨rfl,g,a⟩:=D;have:max m n=n:=by omega
  rw[this]at a;exact⟨rfl,g,a⟩
 ·obtain⟨rfl,g,a⟩:=J;exact gZ (h t g a)
def KY{st:SortSt}{Q:Unit->SortSt->Prop}(C:TC prog w A E s a0 kd o)(d:Df o a0)(B:TB kd a0 st)(P:2<=a0.size)(m:a0.size<64)(h:∀t,(dH t).Perm a0->TH t=M->Up o (dH t) a0.size->Q () t):wpS (br prog w) A E s sortRuns' Q st:=by
 rw[sortRuns'_eq];refine dJ (wpS_get ?_);dsimp only;have I:minRun' a0.size a0.size 0=a0.size:=by
  have:∀n,0<n->n<64->minRun' n n 0=n:=λn R N=>by
   cases n with|zero=>omega|succ f=>rw[minRun'_succ,if_pos N,Nat.add_zero]
  exact this _ ž m
 rw[B.size,I];refine dJ (wpS_mono (xU (I:=λx c t=>if x=0 then c=(M,0)/\TB kd a0 t else c=(M,a0.size)/\(dH t).Perm a0/\TH t=M/\(pB t).size=1/\Up o (dH t) a0.size)
  (Q:=λc t=>c=(M,a0.size)/\(dH t).Perm a0/\TH t=M/\(pB t).size=1/\Up o (dH t) a0.size) (λx c t K J g =>?_) (λc t g =>?_) (by simpa using B)) λc t S =>?_)
 ·by_cases e:x=0
  ·subst e;simp only[if_true]at g;obtain⟨rfl,O⟩:=g;dsimp only;rw[if_neg (by omega),Pq];have lF:∀a,TB kd a0 a->Up o (dH a) a0.size->(dH (setPending a ((pB a).push (0,a0.size,0)))).Perm a0/\TH (setPending a ((pB a).push (0,a0.size,0)))=M/\(pB (setPending a ((pB a).push (0,a0.size,0)))).size=1/\Up o (dH (setPending a ((pB a).push (0,a0.size,0)))) a0.size:=λa b u=>⟨b.pm,b.fl,by show ((pB a).push _).size=1;rw[b.pd];rfl,u⟩
   refine dJ (QN C d O rfl ž λi D r k j v =>?_);dsimp only;by_cases F:i<a0.size
   ·rw[if_pos F];refine dJ (wpS_lift (SQ ⟨rfl,?_⟩));rw[Pw];refine dJ (NX C d r rfl k j v λy G H =>?_);simp only[Bool.not_true,eB,if_false];refine dJ (wpS_get ?_);rw[show (pB y).back? = M by rw[G.pd];rfl];dsimp only;refine dJ (wpS_modify (gZ ?_));simp only[rO];exact⟨Ž,lF y G H⟩
   ·rw[if_neg F];have:i=a0.size:=by omega
    subst this;refine dJ (wpS_get ?_);rw[show (pB D).back? = M by rw[r.pd];rfl];dsimp only;refine dJ (wpS_modify (gZ ?_));simp only[rO];exact⟨Ž,lF D r v⟩
  ·simp only[if_neg e]at g;obtain⟨rfl,L⟩:=g;dsimp only;rw[if_pos (aH _)];exact gZ ⟨rfl,L⟩
 ·have:max 0 a0.size≠0:=by omega
  rw[if_neg this]at g;exact g
 ·obtain⟨rfl,p,f,q,u⟩:=S;dsimp only;refine dJ (wpS_mono (xU (I:=λ_ c a=>a=t/\c=(M,())) (Q:=λc a=>a=t/\c=(M,())) (λx c a _ _ l =>?_) (λ_ _ z=>z) ⟨rfl,rfl⟩) λc a l =>?_)
  ·obtain⟨rfl,rfl⟩:=l;refine dJ (wpS_get ?_);rw[if_pos (by rw[q];exact aH 1)];exact gZ ⟨rfl,rfl⟩
  ·obtain⟨rfl,rfl⟩:=l;exact gZ (h a p f u)
end
def nM(h:de)(v:ai)(n:Int):Prop:=∃a o b k t,v=.ref a/\h.get? a=Y o/\o.cls=.type "tuple" /\o.data=.seq b k/\b[0]?=Y (.int n t)
noncomputable def pD(h:de):ai->Int
 | .ref a=>match h.get? a with
  | some o=>match o.data with
   | .seq (b:Array ai) _=>match (b[0]? : Option ai) with
    |some (jD n _)=>n|_=>0
   |_=>0
  |none=>0
 |_=>0
def nM.key{v:ai}(x:nM h v n):pD h v=n:=by
 obtain⟨a,o,b,k,t,rfl,e,f,d,c⟩:=x;simp only[pD,e,d,c]
def nM.keep{v:ai}(x:nM h v n)(k:∀a o,h.get? a=Y o->c.get? a=Y o):nM c v n:=by
 obtain⟨a,o,b,e,t,rfl,f,d⟩:=x;exact⟨a,o,b,e,t,rfl,k a o f,d⟩
def Jx(c:Bool)(x y:ai):keyLt' (tuples' c) x y=(do
  let b <- Ak x;let a <- Ak y
  for ((p,q),i) in (b.toList.zip a.toList).zipIdx do
   if !(<- eqBool p q) then return <- oneLt' (c&&i==0) p q
  return b.size<a.size):=rfl
def Gx(v:ai):Pn v=(do
  if (<- typeOf v) != .type "tuple" then return M
  return (<- Ak v)[0]?):=rfl
section
variable {s:aw}
def L7{m:Int}(q:nM s.heap x m)(p:nM s.heap y n)(g:m≠n)(h:Q (decide (m<n)) s):bB (br prog w) A (keyLt' (tuples' Z') x y) Q E s:=by
 obtain⟨a,o,d,k,t,rfl,v,J,u,r⟩:=q;obtain⟨b,H,c,I,l,rfl,D,K,C,B⟩:=p;rw[Jx];refine aD (TF v u (aD (TF D C ?_)));obtain⟨j,G⟩:∃j,d.toList=.int m t::j:=by
  have:d.toList[0]?=Y (.int m t):=by simpa using r
  cases e:d.toList with|nil=>rw[e]at this;cases this|cons z f=>rw[e]at this;simp at this;subst this;exact⟨f,rfl⟩
 obtain⟨i,F⟩:∃i,c.toList=.int n l::i:=by
  have:c.toList[0]?=Y (.int n l):=by simpa using B
  cases e:c.toList with|nil=>rw[e]at this;cases this|cons z f=>rw[e]at this;simp at this;subst this;exact⟨f,rfl⟩
 rw[G,F];simp only[cz,Fi,List.forIn_cons];refine aD (aD (aD (wpAny_eqBool_int ?_)));have:(m==n)=false:=by simpa using g
 rw[this];simp only[Ki,if_true,Bool.true_and];refine aD (oneLt_int ?_);exact bD (bD (bD h))
def Gy{v:ai}(d:nM s.heap v n)(h:∀t,Q (Y (.int n t)) s):bB (br prog w) A (Pn v) Q E s:=by
 obtain⟨a,o,b,k,t,rfl,c,g,f,e⟩:=d;rw[Gx];refine aD (wpAny_typeOf (T:= "tuple") ⟨o,c,g⟩ ?_);rw[if_neg (by decide)];refine aD (TF c f (bD ?_));rw[e];exact h t
def JK{s:aw}{Q:List (Option ai)->aw->Prop}(q:Paired (nM s.heap) b c)(h:∀a,Paired (λf n=>∃t,f=Y (jD n t)) a c->Q a s):bB (br prog w) A (b.mapM Pn) Q E s:=by
 induction q generalizing Q with
 |nil=>rw[List.mapM_nil];exact bD (h [] .nil)|cons r t i=>rw[List.mapM_cons];exact aD (Gy r λd=>aD (i λa e=>bD (h _ (.cons ⟨d,rfl⟩ e))))
def KD{a:List (Option ai)}(q:Paired (λf n=>∃t,f=Y (jD n t)) a c):(a.filterMap id).mapM typeOf=eQ (c.map λ_=>pA "int")/\a.all (·.isSome)=true:=by
 induction q with
 |nil=>exact⟨Ž,rfl⟩
 |cons x r i=>obtain⟨g,d⟩:=i;obtain⟨t,rfl⟩:=x;refine⟨?_,by simp at d ⊢;exact d⟩;rw[qR];simp only[id,List.mapM_cons,g];show (eQ (pA "int") >>= λb=>eQ _ >>= λh=>eQ (b::h))=_;simp
def OD{Q:SortKind->aw->Prop}(f:Paired (nM s.heap) c d)(k:c≠[])(h:Q (tuples' Z') s):bB (br prog w) A (keyKind' c.toArray) Q E s:=by
 rw[keyKind'_eq,List.mapM_toArray];refine aD ?_;show bB _ _ (List.toArray <$> c.mapM Pn) _ _ _;rw[map_eq_pure_bind];refine aD (JK f λe j=>bD ?_);obtain⟨i,g⟩:=KD j;rw[if_pos (by simpa using g)];refine aD (SQ ?_);rw[oneTypeOnly'_eq];have m:(e.toArray.filterMap id).mapM typeOf=eQ (d.map λ_=>pA "int").toArray:=by
  have:e.toArray.filterMap id=(e.filterMap id).toArray:=by simp
  rw[this,List.mapM_toArray,i];rfl
 rw[m];simp only[pure_bind];obtain⟨n,a,rfl⟩:∃n a,d=n::a:=by
  cases f with|nil=>exact absurd rfl k|cons r t=>exact⟨_,_,rfl⟩
 have l:(ve (λ_=>pA "int") (n::a)).toArray[0]?=Y (pA "int"):=by simp
 rw[l];have b:((ve (λ_=>pA "int") (n::a)).toArray.all λx=>x==pA "int")=true:=by simp only[List.all_toArray,oB,cx];intro _ _;rfl
 simp only[b,if_true,pure_bind];exact bD h
def Jg(h:p∈(sD a).toList):p.1=p.2/\p.1∈a:=by
 rw[pairsOf_toList]at h;exact mem_zip_self h
def rh(h:Paired (nM b) c d):∀v∈c,nM b v (pD b v):=by
 induction h with
 |nil=>intro v a;cases a
 |cons r t ih=>
  intro v a;rcases aE.mp a with rfl|a
  ·rw[r.key];exact r
  ·exact ih v a
def DY(h:Paired (nM s.heap) a b):a.map (pD s.heap)=b:=by
 induction h with|nil=>rfl|cons r t ih=>rw[aI,r.key,ih]
def O4{f:List Int}(g:Paired (nM s.heap) a f)(o:f.Nodup):TC prog w A E s (sD a) (tuples' Z') (pD s.heap)/\Df (pD s.heap) (sD a):=by
 have l:Df (pD s.heap) (sD a):=by
  unfold Df;rw[pairsOf_toList];have:((a.zip a).map λp=>pD s.heap p.1)=a.map (pD s.heap):=by have:=congrArg (ve (pD s.heap)) (List.map_fst_zip (l₁:=a) (l₂:=a) (aH _));rw[gj]at this;exact this
  rw[this,DY g];exact o
 refine⟨λst i j Q B d k e h =>?_,l⟩;have c:∀i,i<(sD a).size->∃x p,(dH st)[i]?=Y (x,p)/\nM s.heap x (kx (pD s.heap) (dH st) i):=λi d=>by
  have b:i<(dH st).size:=by rw[B.size];exact d
  have r:(dH st)[i]∈(sD a).toList:=(sy.mp B.pm).mem_iff.mp Ž;refine⟨(dH st)[i].1,(dH st)[i].2,getElem?_pos _ i b,?_⟩;have:=rh g _ (Jg r).2;simpa [kx,b] using this
 obtain⟨x,p,u,n⟩:=c i d;obtain⟨y,q,t,m⟩:=c j k;rw[ltAt'_eq];refine dJ (wpS_get ?_);show wpS _ _ _ _ (do let x <- elem' (dH st) i;let y <- elem' (dH st) j;lt' x y) Q st;rw[elem'_eq,elem'_eq,u,t];refine dJ (gZ (dJ (gZ ?_)));rw[lt'_eq];refine dJ (wpS_get ?_);rw[B.kn];refine dJ (wpS_lift (wpAny_attempt (L7 n m (B.ne l d k e) ⟨rfl,?_⟩)));exact gZ h
def C2(h:de)(b:List ai)(a:Array ai):Prop:=a.toList.Perm b/\(a.toList.map (pD h)).Pairwise (· < ·)
def Lr{xs:Array Keyed}(g:xs.Perm (sD a))(u:Up (pD s.heap) xs (sD a).size):C2 s.heap a (xs.map (·.2)):=by
 have h:xs.toList.Perm (a.zip a):=by rw[<- pairsOf_toList];exact sy.mp g
 have e:(xs.map (·.2)).toList=xs.toList.map (·.1):=by rw[Array.toList_map];exact Ai λp c=>((mem_zip_self (h.mem_iff.mp c)).1).symm
 refine⟨?_,?_⟩
 ·rw[e];have:=h.map (·.1);rwa [List.map_fst_zip (aH _)]at this
 ·rw[e,gj,tO];intro i j l k d;have f:i<xs.size:=by simpa using l
  have b:j<xs.size:=by simpa using k
  have:=u i j d (by rw[<- g.size_eq];exact b);simpa [kx,f,b] using this
end
section
variable {s:aw}
def DZ(f:Paired (nM h) b d)(k:∀a o,h.get? a=Y o->e.get? a=Y o):Paired (nM e) b d:=by
 induction f with|nil=>exact .nil|cons r t ih=>exact .cons (r.keep k) ih
def Jw{v:ai}(x:nM h v n)(k:∀a o,h.get? a=Y o->b.get? a=Y o):pD b v=pD h v:=by rw[x.key,(x.keep k).key]
def C2.back{f:de}(i:Paired (nM h) d g)(k:∀a o,h.get? a=Y o->f.get? a=Y o)(o:C2 f d b):C2 h d b:=by
 refine⟨o.1,?_⟩;have e:b.toList.map (pD h)=b.toList.map (pD f):=Ai λv j=>by have:=rh i v (o.1.mem_iff.mp j);exact(Jw this k).symm
 rw[e];exact o.2
def KW{P:Fin->aw->Prop}(K:s.heap.get? a=Y (Fn "list" g.toArray n))(F:Paired (nM s.heap) g I)(R:∀v∈g,v ≠ .ref a)(hn:I.Nodup)(V:g.length<64)(h:∀f,C2 s.heap g f->P (.done (.ret .none)) { s with heap:=sortedHeap s.heap a g f }):bB (br c w) A (Builtin.«list.sort» ⟨[.ref a],[]⟩) P E s:=by
 rw[list_sort_plain];refine aD (TF K rfl ?_);refine aD (listUpdate_at K rfl ?_);have T:=get?_update_seq K (λ_ =>#[]);refine aD (seqEpoch_at T rfl ?_);refine aD (wpAny_newTuple ?_);refine aD (wpAny_newList ?_);refine xy ?_;have y:=ak (Fn "list" #[] 0) (ak (Fn "tuple" g.toArray 0) T);generalize S:(((s.heap.update a (mU λ_ =>#[])).push (Fn "tuple" g.toArray 0)).push (Fn "list" #[] 0))=l at y;have O:∀b o,b≠a->s.heap.get? b=Y o->l.get? b=Y o:=λb o L q=>by rw[<- S];refine ak _ (ak _ ?_);rw[qj _ _ (cg L)];exact q
 have x:Paired (nM l) g I:=by
  have:∀ {D:List ai}{J:List Int},Paired (nM s.heap) D J->(∀v∈D,v ≠ .ref a)->Paired (nM l) D J:=by
   intro D J G
   induction G with
   |nil=>intro _;exact .nil
   |cons r t ih=>intro Q;refine .cons ?_ (ih λv F=>Q v (ao _ F));obtain⟨b,o,m,k,N,rfl,H,p⟩:=r;exact⟨b,o,m,k,N,rfl,O b o (λz=>Q _ au (by rw[z])) H,p⟩
  exact this F R
 have B:∀f,C2 l g f->C2 s.heap g f:=λf o=>by
  refine⟨o.1,?_⟩;have e:f.toList.map (pD s.heap)=f.toList.map (pD l):=Ai λv hm=>by
   have u:=o.1.mem_iff.mp hm;have U:=rh F v u;obtain⟨b,X,m,k,N,rfl,H,p⟩:=U;have L:b≠a:=λz=>R _ u (by rw[z])
   simp only[pD,H,O b X L H]
  rw[e];exact o.2
 show bB (br c w) A _ P E { s with heap:=l };dsimp only;have sz:g.toArray.size=g.length:=by simp
 have lF:∀f,C2 l g f->P (.done (.ret .none)) { s with heap:=l.update a (mU λ_=>f) }:=λf o=>by have:=h f (B f o);unfold sortedHeap at this;rw[S]at this;exact this
 by_cases p:g.toArray.size<2
 ·rw[if_pos p,if_pos p];refine aD (bD ?_);rw[StateT.run_pure];refine aD (bD ?_);dsimp only;refine aD (seqEpoch_at y rfl ?_);refine aD (listUpdate_at y rfl ?_ (hsz2:=by rw[Array.size_map];show (sD g).size<=_;rw[Fo,fH];omega));simp only[bne_self_eq_false,eB,if_false];refine bD (lF _ (Lr (s:={ s with heap:=l }) (xs:=sD g) (Array.Perm.refl _) λi j To hj =>?_));rw[Fo]at hj;omega
 ·rw[if_neg p,if_neg p];refine aD (OD (s:={ s with heap:=l }) x (λz=>p (by rw[z];decide)) ?_);obtain⟨C,d⟩:=O4 (prog:=c) (w:=w) (A:=A) (E:=E) (s:={ s with heap:=l }) x hn;refine aD (ij (KY (a0:=sD g) (kd:=tuples' Z') (st:=SortSt.mk' (tuples' Z') (g.toArray.zip g.toArray) #[] 7 M) (Q:=λ_ t=>(dH t).Perm (sD g)/\TH t=M/\Up (pD l) (dH t) (sD g).size) C d ⟨Array.Perm.refl _,rfl,rfl,rfl⟩ (by rw[Fo];omega) (by rw[Fo];exact V) λt a1 a2 a3=>⟨a1,a2,a3⟩) ?_ λ_ _ e=>e);rintro⟨⟨⟩,t⟩ s' ⟨rfl,G,hf,hu⟩;dsimp only;refine aD (seqEpoch_at y rfl ?_);refine aD (listUpdate_at y rfl ?_ (hsz2:=by refine bq (Px ((Array.size_map ..).trans (G.size_eq.trans (Fo _)))) ?_;rw[fH];omega));rw[hf];simp only[bne_self_eq_false,eB,if_false];exact bD (lF _ (Lr (s:={ s with heap:=l }) G hu))
def FT(F:s.heap.IsList l a.toArray)(m:Paired (nM s.heap) a x)(C:x.Nodup)(r:a.length<64)(h:∀d,C2 s.heap a d->Q (.ref (s.heap.objs.size+1)) { s with heap:=sortedAll s.heap a d }):bB (br c w) A (call (.builtin "sorted") [.ref l]) Q E s:=by
 refine Calls.call_function_entry kind_sorted plain_sorted entry_sorted (args_sorted1 _) ?_;unfold Builtin.«sorted»;refine aD (m:=checkCount "sorted" 1 1 _) (bD ?_);refine aD (collect_list F ?_);refine aD (wpAny_newList ?_);generalize p:(s.heap.push (Fn "list" #[] 0)).update s.heap.objs.size (mU (· ++ a.toArray))=g;have u:g.objs.size=s.heap.objs.size+1:=by rw[<- p,Heap.size_update,size_push']
 have y:∀b o,s.heap.get? b=Y o->(g.push (Fn "list" a.toArray 0)).get? b=Y o:=λb o q=>by refine ak _ ?_;rw[<- p,qj _ _ (λz=>by have:=aU q;rw[<- z]at this;exact ie _ this)];exact ak _ q
 have f:(g.push (Fn "list" a.toArray 0)).get? (s.heap.objs.size+1)=Y (Fn "list" a.toArray 0):=by rw[<- u];exact bz _ rfl
 have j:=DZ m y;have n:∀v∈a,v ≠ .ref (s.heap.objs.size+1):=λv D z=>by
  obtain⟨b,o,i,k,t,rfl,G,_⟩:=rh m v D;have e:b=s.heap.objs.size+1:=by cases z;rfl
  have:=aU G;rw[e]at this;exact absurd this Ž
 show bB _ _ _ _ _ { s with heap:=g.push (Fn "list" a.toArray 0) };rw[u];refine aD (xy (wpAny_call_entry slot_list_sort ⟨_,f,rfl⟩ entry_list_sort (KW (s:={ s with heap:=g.push (Fn "list" a.toArray 0) }) f j n C r λd B=>⟨_,rfl,?_⟩) (args_list_sort _)));refine bD ⟨_,rfl,?_⟩;have:=h d (B.back m y);unfold sortedAll at this;rw[p]at this;exact this
end
def DX{m:Type}{R:m->k->Prop}(p:o.Perm n):∀ {a:List m},Paired R a o->∃b,b.Perm a/\Paired R b n:=by
 induction p with
 |nil=>intro a h;cases h;exact⟨[],.rfl,.nil⟩
 |cons u _ ih=>
  intro a h;cases h with
  |cons r t=>obtain⟨b,e,d⟩:=ih t;exact⟨_::b,e.cons _,.cons r d⟩
 |swap u v l=>
  intro a h;cases h with
  | cons r t=>cases t with
   |cons w s=>exact⟨_,.swap _ _ _,.cons w (.cons r s)⟩
 |trans _ _ j f=>intro a h;obtain⟨b,e,d⟩:=j h;obtain⟨q,y,x⟩:=f d;exact⟨q,y.trans e,x⟩
def I_{K:aT}{s:List V}(p:s.Perm q):∀ {a:List D},be K G a s->∃f,f.Perm a/\be K G f q:=by
 induction p with
 | nil=>intro a h;cases a with
  |nil=>exact⟨[],.rfl,.nil⟩|cons d a=>obtain⟨_,_,e,_⟩:=bt.mp h;cases e
 |cons u _ ih=>
  intro a h;cases a with
  |nil=>have:=cV.mp h;cases this
  |cons d a=>obtain⟨v,r,e,j,b⟩:=bt.mp h;cases e;obtain⟨f,m,k⟩:=ih b;exact⟨d::f,m.cons _,.cons j k⟩
 |swap u v l=>
  intro a h;cases a with
  |nil=>have:=cV.mp h;cases this
  |cons d a=>
   obtain⟨_,_,e,j,b⟩:=bt.mp h;cases e;cases a with
   |nil=>have:=cV.mp b;cases this
   |cons A a=>obtain⟨_,_,e,x,w⟩:=bt.mp b;cases e;exact⟨A::d::a,.swap _ _ _,.cons x (.cons j w)⟩
 |trans _ _ o n=>intro a h;obtain⟨B,m,k⟩:=o h;obtain⟨t,z,y⟩:=n k;exact⟨t,z.trans m,y⟩
theorem DK{d:j->Int}:∀ {l m:List j},l.Perm m->(l.map d).Pairwise (· < ·)->(m.map d).Pairwise (· < ·)->l=m
 |[],m,p,_,_=>by rw[List.Perm.nil_eq p]
 |a::l,[],p,_,_=>by have:=p.length_eq;simp at this
 | a::l,b::m,p,h,f=>by
  simp only[aI,fw]at h f;have e:a=b:=by
   rcases aE.mp (p.subset (au (a:=a) (l:=l))) with z|z
   ·exact z
   ·rcases aE.mp (p.symm.subset (au (a:=b) (l:=m))) with y|y
    ·exact y.symm
    ·have n:=h.1 (d b) (mq y);have k:=f.1 (d a) (mq z);omega
  subst e;rw[DK (List.Perm.cons_inv p) h.2 f.2]
noncomputable def Cq(a:D->Int)(d:D):List D->List D
 |[]=>[d]|x::b=>if a d<a x then d::x::b else x::Cq a d b
noncomputable def FP(a:D->Int):List D->List D
 |[]=>[]|d::b=>Cq a d (FP a b)
theorem wY(a:D->Int)(d:D):∀l,(Cq a d l).Perm (d::l)
 |[] =>.rfl| x::b=>by
  unfold Cq;split
  ·exact .rfl
  ·exact((wY a d b).cons x).trans (.swap _ _ _)
theorem wG(a:D->Int):∀l,(FP a l).Perm l
 |[] =>.rfl|d::b=>(wY a d _).trans ((wG a b).cons d)
theorem Br:∀ {l:List D},(l.map a).Pairwise (· < ·)->a d∉l.map a->((Cq a d l).map a).Pairwise (· < ·)
 |[],_,_=>by simp[Cq]
 | x::f,h,j=>by
  simp only[aI,fw,aE,not_or]at h j;unfold Cq;split
  ·rename_i b;simp only[aI,fw,aE];refine⟨?_,h⟩;rintro k (rfl|e)
   ·exact b
   ·exact rQ b (h.1 k e)
  ·rename_i m;simp only[aI,fw];refine⟨λk e =>?_,Br h.2 j.2⟩;have:k∈(d::f).map a:=((wY a d f).map a).subset e;rcases aE.mp this with z|z
   ·rw[z];omega
   ·exact h.1 k z
theorem A5:∀ {l:List D},(l.map a).Nodup->((FP a l).map a).Pairwise (· < ·)
 |[],_ =>.nil|d::b,h=>by simp only[aI,m_]at h;exact Br (A5 h.2) λz=>h.1 (((wG a b).map a).subset z)
noncomputable def P9:D->Int
 |.tup (.int n::_)=>n|_=>0
noncomputable def UW:D->Bool
 |.tup (.int _::_)=>Z'|_=>Z_
section
variable {X:Cx}{f:DF}
def Qw(K:aT)(c:TE):TE:=λe H Q=>c e H λx d=>∃a b,x=.ref a/\nX K d a (b.map V.int)/\b.length<64/\∀l,d l=M->Q (.ref l) (dg d l (.lst ((ud b).map V.int)))
def Lk(R:Gl X "sorted")(N:X.mg "sorted" = M)(O:PE X e c)(D:autoParam (av [e] X.env=(Z_,eval e X.env)::av [] X.env) Ų)(y:autoParam (fZ "sorted" = Y (.builtin "sorted")) ũ):PE X (.Call (.Name "sorted" p) [e] [] g) (Qw X.K c):=by
 intro f s F H Q I h;refine jf (rj I R N y ?_);refine pH ?_ D rfl;refine fS (bM O cG D g f s F H (λr n=>match r with|[x]=>∃a d,x=.ref a/\nX X.K n a (d.map V.int)/\d.length<64/\∀l,n l=M->Q (.ref l) (dg n l (.lst ((ud d).map V.int)))|_=>False) I h) ?_;rintro us C ⟨r,n,B,K,v⟩;cases r with
 |nil=>exact v.elim|cons x t=>
  cases t with
  |cons _ _=>exact v.elim|nil=>
   obtain⟨a,d,rfl,i,A,q⟩:=v;obtain⟨u,rfl,J⟩:=cv.one K;cases J;obtain⟨m,G,L,hz⟩:=B.list i;have E:Fq m d:=vN G;refine sorted_ints L.isList E (by rw[Ey E];exact A) λj w a1 U T =>?_
   have S:w=ud d:=QH U T;subst S;obtain⟨k,P⟩:=sortedAll_at C.heap m j;refine⟨.ref _,_,B.laid (t':=C.toks) (λb o z=>sortedAll_old z) (gA _) (show gF X.prog X.w _ _ _ (.lst ((ud d).map V.int)) from⟨?_,j.toList,k,BU a1,?_⟩),rfl,q _ (B.iw.fresh (gA _))⟩
   ·rw[aq,(lO _).length_eq];have e:bc ≥ 64:=by decide
    omega
   ·rw[S_];exact P
def mM(f:DF):DL:=λb=>(f b).bind λd=>match d with|.lst e=>(Bq e).bind λa=>if a.length<64 then Y ((ud a).map D.int) else M|_=>M
def Vw(x:Gl X "sorted")(w:X.mg "sorted" = M)(h:PE X e (tQ X.K Z f))(u:autoParam (av [e] X.env=(Z_,eval e X.env)::av [] X.env) Ų):PE X (.Call (.Name "sorted" p) [e] [] g) (tF X.K Z (mM f)):=
 (Lk x w h u).imp <|by
  rintro D H Q ⟨G,q,I,z,n,b,k⟩;unfold mM at b;obtain⟨d,B,b⟩:=aa.1 b;split at b
  ·rename_i E;obtain⟨s,A,b⟩:=aa.1 b;split at b
   ·rename_i t;cases b;refine⟨G,q,_,z,n,B,λv C J j r =>?_⟩;obtain⟨a,F,rfl,y,o⟩:=r.lst j.gh;rw[zw A]at o;have:=oH.mp o;subst this;exact⟨a,s,rfl,.of y,t,λl m=>k l _ C _ (j.trans (gf.lay (p:=l) j.gh m)) (j.hh.free m) (j.gh.free m) bj (be.ints _)⟩
   ·cases b
  ·cases b
def Kr(H:Hp)(v:V)(n:Int):Prop:=∃b a,v=.ref b/\H b=Y (.tup (.int n::a))
def Qv(K:aT)(c:TE):TE:=λj H Q=>c j H λx b=>∃a d f,x=.ref a/\nX K b a d/\Paired (Kr b) d f/\f.Nodup/\d.length<64/\∀l e h,b l=M->e.Perm d->Paired (Kr b) e h->h.Pairwise (· < ·)->Q (.ref l) (dg b l (.lst e))
def L6{s:aw}{a:List ai}(I:Inv X d j H s)(p:Paired (Kr H) l h)(q:cv l a):Paired (nM s.heap) a h:=by
 induction p generalizing a with
 |nil=>cases q;exact .nil|cons g t i=>
  obtain⟨b,x,rfl,w⟩:=g;rcases q with _|⟨r,m⟩;cases r;obtain⟨y,a,n,o,q,v,k,u⟩:=I.iw b _ w;cases n with
  |cons p _=>obtain⟨l,rfl⟩:=p;exact .cons ⟨b,o,_,k,l,rfl,q,v,u,Ž⟩ (i m)
def OB{f:St}{s:aw}(I:Inv X a f H s)(q:cv b d)(h:∀y∈b,∃n,Kr H y n):Paired (Kr H) b (d.map (pD s.heap)):=by
 induction q with
 |nil=>exact .nil|cons r k i=>
  obtain⟨n,e⟩:=h _ au;have t:=L6 I (.cons e .nil) (.cons r .nil);cases t with
  |cons j _=>refine .cons ?_ (i λy l=>h y (ao _ l));rw[j.key];exact e
def Rv(h:Paired (Kr H) b d):∀y∈b,∃n,Kr H y n:=by
 induction h with
 |nil=>intro y a;cases a
 |cons r t ih=>
  intro y a;rcases aE.mp a with rfl|a
  ·exact⟨_,r⟩
  ·exact ih y a
def Lj(hg:Gl X "sorted")(hm:X.mg "sorted" = M)(hl:PE X e c)(i:autoParam (av [e] X.env=(Z_,eval e X.env)::av [] X.env) Ų)(E:autoParam (fZ "sorted" = Y (.builtin "sorted")) ũ):PE X (.Call (.Name "sorted" p) [e] [] g) (Qv X.K c):=by
 intro m s P H Q I h;refine jf (rj I hg hm E ?_);refine pH ?_ i rfl;refine fS (bM hl cG i g m s P H (λv f=>match v with|[x]=>∃a j C,x=.ref a/\nX X.K f a j/\Paired (Kr f) j C/\C.Nodup/\j.length<64/\∀l d L,f l=M->d.Perm j->Paired (Kr f) d L->L.Pairwise (· < ·)->Q (.ref l) (dg f l (.lst d))|_=>False) I h) ?_;rintro us J ⟨v,f,r,S,A⟩;cases v with
 |nil=>exact A.elim|cons x t=>
  cases t with
  |cons _ _=>exact A.elim|nil=>
   obtain⟨a,j,C,rfl,hq,O,hn,G,q⟩:=A;obtain⟨u,rfl,R⟩:=cv.one S;cases R;obtain⟨D,w,T,hz⟩:=r.list hq;refine FT T.isList (L6 r O w) hn (by rw[<- w.length];exact G) λn N =>?_
   obtain⟨d,B,K⟩:=DX N.1.symm w;obtain⟨k,F⟩:=sortedAll_at J.heap D n;refine⟨.ref _,_,r.laid (t':=J.toks) (λb o z=>sortedAll_old z) (gA _) (show gF X.prog X.w _ _ _ (.lst d) from⟨?_,n.toList,k,K,?_⟩),rfl,q _ d _ (r.iw.fresh (gA _)) B (OB r K λy U=>Rv O y (B.subset U)) N.2⟩
   ·rw[B.length_eq];have e:bc ≥ 64:=by decide
    omega
   ·rw[S_];exact F
def wZ(f:DF):DL:=λρ=>(f ρ).bind λd=>match d with|.lst a=>if (a.all UW=Z'/\(a.map P9).Nodup)/\a.length<64 then Y (FP P9 a) else M|_=>M
def L_(h:UW d=Z'):∃b,d=.tup (.int (P9 d)::b):=by
 cases d with
 |tup a=>
  cases a with
  |nil=>cases h|cons x a=>cases x<;>first|exact⟨a,rfl⟩|cases h
 |_=>cases h
theorem Ck{K:aT}(s:a_ G H):∀ {f:List D}{a:List V},f.all UW=Z'->be K G f a->Paired (Kr H) a (f.map P9)
 |[],a,_,r=>by rw[cV.mp r];exact .nil
 |d::f,a,h,r=>by obtain⟨v,t,rfl,l,o⟩:=bt.mp r;simp only[km,aX]at h;refine .cons ?_ (Ck s h.2 o);obtain⟨p,e⟩:=L_ h.1;rw[e]at l;obtain⟨b,q,rfl,m,n⟩:=cY.mp l;obtain⟨w,j,rfl,k,_⟩:=bt.mp n;rw[bE.mp k]at m;exact⟨b,j,rfl,s _ _ m⟩
def OA{g h:List Int}(p:Paired (Kr H) d g)(q:Paired (Kr H) d h):g=h:=by
 induction p generalizing h with
 |nil=>cases q;rfl|cons r t i=>obtain⟨b,n,rfl,l⟩:=r;rcases q with _|⟨⟨o,j,m,a⟩,k⟩;cases m;rw[l]at a;cases a;rw[i k]
def Vv(hg:Gl X "sorted")(hm:X.mg "sorted" = M)(h:PE X e (tQ X.K Z f))(hs:autoParam (av [e] X.env=(Z_,eval e X.env)::av [] X.env) Ų):PE X (.Call (.Name "sorted" p) [e] [] g) (tF X.K Z (wZ f)):=
 (Lj hg hm h hs).imp <|by
  rintro σ H Q ⟨G,ρ,ds,gh,env,eq,k⟩;unfold wZ at eq;obtain⟨d,ef,eq⟩:=aa.1 eq;split at eq
  ·rename_i xs;split at eq
   ·rename_i hz;cases eq;refine⟨G,ρ,_,gh,env,ef,λv G1 H1 E1 r1 =>?_⟩;obtain⟨a,vs,rfl,ha,rs⟩:=r1.lst E1.gh;refine⟨a,vs,_,rfl,.of ha,Ck E1.gh hz.1.1 rs,hz.1.2,by rw[<- rs.length];exact hz.2,λl ys ms hl p1 q1 q2 =>?_⟩;obtain⟨zs,p2,rz⟩:=I_ p1.symm rs;have XU:zs.all UW=true:=by rw[cx];intro z hz';exact cx.mp hz.1.1 z (p2.subset hz')
    have e1:=OA q1 (Ck E1.gh XU rz);rw[e1]at q2;have e2:zs=FP P9 xs:=DK (p2.trans (wG P9 xs).symm) q2 (A5 hz.1.2);rw[e2]at rz;exact k l ys G1 _ (E1.trans (gf.lay (p:=l) E1.gh hl)) (E1.hh.free hl) (E1.gh.free hl) bj rz
   ·cases eq
  ·cases eq
end
section
variable {X:Cx}
noncomputable def dY(c m:aM)(F:List D->Option D)(f:DF)(g:DL):DF:=λa=>(f a).bind λx=>match x with
 |.ins d b h=>if d=c/\m∉b then (g a).bind λe=>F (.ins d b h::e) else M
 |_=>M
def Ek{m:aM}{F:List D->Option D}{e:St}(n:vb X.K bw c=Y (Y (.ref C)))(u:∀e H Q,Fk X.K Z g e H Q->t e H Q)(h:tP X.K Z (dY c m F k g) e H Q):Ds C m (gQ X.K F) [] E0 (tP X.K Z k) t e H Q:=by
 obtain⟨G,i,d,T,f,b,q⟩:=h;unfold dY at b;rw[aa]at b;obtain⟨x,p,b⟩:=b;split at b
 ·rename_i c' ks ds;split at b
  ·rename_i R;obtain⟨rfl,P⟩:=R;rcases o:g i with _|z
   ·rw[o]at b;cases b
   rw[o]at b;refine⟨G,i,_,T,f,p,λv y H1 j s =>?_⟩;obtain⟨a,C',dx,vs,rfl,w,S,l,rs⟩:=qZ.mp s;rw[n]at w;cases w;refine⟨a,dx,_,rfl,j.gh _ _ S,oJ (K:=X.K) (G:=y) P,u _ _ _ ⟨y,i,z,j.gh,f.ext j,o,λB G2 H2 r K =>?_⟩⟩;show gQ X.K F (.ref a::(B++[])) H2 Q E0;rw[cm];exact⟨G2,_,d,r.gh,.cons (cI.mono r.gg _ s) K,b,λv G3 H3 E3 E=>q v G3 H3 ((j.trans r).trans E3) E⟩
  ·cases b
 ·cases b
def BD{c m:aM}{F:List D->Option D}(h:fO X.prog X.w X.K X.mg X.base c m k (gQ X.K F))(g:gc k X.A)(i:PE X o (tP X.K Z b)) (e:autoParam (eval (.Call (.Attribute o m I) [] [] A) X.env=(do
   let a <- eval o X.env
   r_ I.atName
   let (f,first) <- oO [a] (nA a m pl)
   sr A f first (dt A (av [] X.env)) (jg A (eJ [] X.env)))) Ų):PE X (.Call (.Attribute o m I) [] [] A) (tP X.K Z (dY c m F b aN)):=by
 obtain⟨C,f,y,x,n,l,j,r,p⟩:=h.ex;exact(vz (pl:=pl) i l j r g p .nil pj e).imp λd H Q q=>Ek n (by rintro d H Q ⟨G,w,z,s,v,t,k⟩;cases t;exact k _ G H (.refl s) .nil) q
def Vx{c m:aM}{F:List D->Option D}{i:DF}{g:DL}(h:fO X.prog X.w X.K X.mg X.base c m k (gQ X.K F))(l:gc k X.A)(p:PE X o (tP X.K Z i))(v:PA X (e::J) (Fk X.K Z g))(a:autoParam (av (e::J) X.env=(Z_,eval e X.env)::av J X.env) Ų)(b:autoParam ((dt A (av J X.env)).any (·.1)=false) Ų) (j:autoParam (eval (.Call (.Attribute o m I) (e::J) [] A) X.env=(do
   let d <- eval o X.env
   r_ I.atName
   let (f,first) <- oO [d] (nA d m pl)
   sr A f first (dt A (av (e::J) X.env)) (jg A (eJ [] X.env)))) Ų):PE X (.Call (.Attribute o m I) (e::J) [] A) (tP X.K Z (dY c m F i g)):=by
 obtain⟨C,f,B,y,n,s,r,w,t⟩:=h.ex;exact(B' (pl:=pl) p s r w l t .nil pj v a b j).imp λx H Q q=>Ek n (λ_ _ _ z=>z) q
def Ea(a:Bool):D->D->Option D
 |y,.jn b c=>(Cm y).map λk =>.bl (if a then !(fD b c k).isSome else (fD b c k).isSome)
 |_,_=>M
def LX{K:aT}(r:be K G b c):(uc (a.zip c) k).isSome=(fD a b k).isSome:=by
 rcases e:fD a b k with _|d
 ·rw[u5 r e];rfl
 obtain⟨v,f,_⟩:=rG r e;rw[f];rfl
def JP(n:X.A.units+1<su)(s:PE X e (tQ X.K Z L))(r:PE X o (tQ X.K Z N))(t:autoParam (iO .NotIn o=false) Ų):PT X (.Compare e [.NotIn] [o] A) (sC X.K Z (dD (e2 (Ea Z') L N))):=
 (QV (Jf n s r) t).imp <|by
  rintro I H Q ⟨G,h,d,w,c,C,q⟩;obtain⟨x,y,B,z,b⟩:=CG (sI C);cases y<;>simp only[Ea]at b<;>try (cases b;done)
  rename_i R T;obtain⟨S,D,b⟩:=ah.1 b;simp only[bI,if_true]at b;cases b;refine⟨G,h,x,w,c,B,λv K H1 g k=>⟨K,h,_,g.gh,c.ext g,z,λu F E f j =>?_⟩⟩;obtain⟨a,P,rfl,p,l,i⟩:=j.Sa f.gh;have m:=vK D (k.ext f);subst m;exact⟨a,_,rfl,ye.k p,_,rfl,by rw[LX i];exact q F E (g.trans f)⟩
def Eb:D->D->Option D
 |.jn a b,y=>(Cm y).bind λk=>fD a b k
 |_,_=>M
def OZ(p:X.A.units+1<su)(z:PE X o (tQ X.K Z L))(t:PE X e (tQ X.K Z N))(r:autoParam (SF e) Ŧ):PE X (.Subscript o e A) (tP X.K Z (e2 Eb L N)):=
 (N9 p z t r).imp <|by
  rintro S H Q ⟨G,i,d,B,c,F,q⟩;obtain⟨x,y,D,C,b⟩:=CG F;cases x<;>simp only[Eb]at b<;>try (cases b;done)
  rename_i ks ds;obtain⟨kk,K,b⟩:=aa.1 b;refine⟨G,i,_,B,c,D,λv R H1 h m=>⟨R,i,y,h.gh,c.ext h,C,λu P I g k =>?_⟩⟩;obtain⟨a,T,rfl,s,l,j⟩:=(m.ext g).Sa g.gh;have n:=vK K k;subst n;obtain⟨w,E,f⟩:=rG j b;exact⟨a,w,rfl,by rw[<- E];exact ye.k s,q w P I (h.trans g) f⟩
def yZ(i j:Nat)(c m:aM)(s:Sk)(F:List D->Option (List D×D)):DG:=λa=>(yl j a).bind λd=>match d.1,d.2 with
 |.fs f _,.ins b e _=>if (f=c/\b=c)/\m∉e then (lB s j a).bind λt=>(F [t]).map λr =>.nx (((dz j a).set j (Y (.obj s r.2))).set i (Y (.lst r.1))) else M
 |_,_=>M
def My{i:Nat}{c m:aM}{s:Sk}{F:List D->Option (List D×D)}(hN:X.N.Nodup)(hx:X.N[i]?=Y x)(hlx:Loc X.env.scope x)(h:fO X.prog X.w X.K X.mg X.base c m k (KU X.K s F))(hr:gc k X.A)(ho:PE X (.Name y p) (ko j))(hj:autoParam (j∈Z) Ű)(L:autoParam (i∈Z) Ű)(To:autoParam (j≠i) Ű)(Q:autoParam (∀a,(i,a)∉B.3) ū)(hm2:autoParam (Bi i∉Z) Ű) (ht:autoParam (eval (.Call (.Attribute (.Name y p) m I) [] [] A) X.env=(do
   let ov <- eval (.Name y p) X.env
   r_ I.atName
   let (f,first) <- oO [ov] (nA ov m pl)
   sr A f first (dt A (av [] X.env)) (jg A (eJ [] X.env)))) Ų) (hs:autoParam (cP (.Call (.Attribute (.Name y p) m I) [] [] A) (Y (.Name x O)) U.line X.env=eQ false) Ų) (hf:autoParam (X.fn x=Z'\/X.env.scope.names.lookup x=Y .local) ŭ) :
  PS X (.Assign [.Name x O] (.Call (.Attribute (.Name y p) m I) [] [] A) U) (jP X.K B u Z Z (yZ i j c m s F)):=by
 obtain⟨C,f,fd,ps,n,hc,hm,h1,g⟩:=h.ex;refine(js hN hx hlx (vz (pl:=pl) ho hc hm h1 hr g .nil pj ht) hs hf).imp ?_;rintro D σ H ⟨G,ρ,o,S,t,q⟩;unfold yZ at t;rcases et:yl j ρ with _|⟨s0,t0⟩
 ·rw[et]at t;cases t
 rw[et]at t;simp only[ab]at t;split at t
 ·rename_i c' fk Yk ks ds;split at t
  ·rename_i hz;obtain⟨⟨rfl,rfl⟩,hmk⟩:=hz;rcases J:lB s j ρ with _|t1
   ·rw[J]at t;cases t
   rw[J]at t;simp only[ab]at t;rcases eF:F [t1] with _|⟨zs,t'⟩
   ·rw[eF]at t;cases t
   rw[eF]at t;cases t;have hd:=ng et;have K:=mw J;rw[K]at hd;obtain⟨a,T,e1,ot,nd,nf,F1,W1,ZE⟩:=S.tree hj K;obtain⟨dx,vs,ex⟩:∃dx vs,H a=Y (.ins C dx (ks.zip vs)):=by
    cases hd;cases ot with|ins n' ex l tt=>rw[n]at n';cases n';exact⟨_,_,ex⟩
   refine⟨_,e1,a,dx,_,rfl,ex,oJ (K:=X.K) (G:=G) hmk,?_⟩;refine⟨G,t1,[],zs,t',a,T,[],S.gh,rfl,ot,nd,λb g=>(nf b g).1,.nil,eF,λq' ws T' G' H' E nw ndw P gq fq nq hq rq =>?_⟩;have hu:=lu (r:=j) K (λq z=>by cases z);have W0:qN X.K B Z G H σ (dz j ρ) F1:=⟨λi d L e=>W1.it i d L (bT e).1,λi d L e=>W1.ok i d L (bT e).1,λi j d c L hj ei ej=>W1.ap i j d c L hj (bT ei).1 (bT ej).1⟩;have R:=(S.II (r:=j)).GJ (i:=j) (a:=a) (d' :=.obj s t') (F0:=T) (S':=T') (G':=G') (H':=H') W0 hj (λb g=>⟨by rw[ZE];exact g,_,hu⟩) E.gg E.gh (λb o e=>by
     rcases E.fr b o e with z|z
     ·exact .inl z
     ·by_cases g:b∈T
      ·exact .inr (.inr g)
      ·rw[cy g]at z;exact .inr (.inl z))
    (λb o g e=>E.hh b o (by rw[cy g];exact e)) nw ndw (λb g=>⟨(P b g).1,by rcases(P b g).2 with z|z;exact .inl z;exact .inr (.inl z)⟩) (λb h=>by have:=(S.pin j b h).2;rw[e1]at this;cases this;rfl) (λr p z=>by cases z)
    (λj' p _ _ _ e=>absurd rfl ((bT e).2 p))
   rw[gB e1]at R;obtain⟨Sr,Wr⟩:=R;have R2:=(Sr.GJ (i:=i) (a:=q') (d' :=.lst zs) (F0:=[]) (S':=[q']) (G':=G') (H':=H') Wr L (λb g=>by cases g) (a_.refl _) Sr.gh (λb o e =>.inl e) (λb o _ e=>e)
    ((oj.cell rfl).mpr ⟨⟨_,hq,ws,rfl,rq⟩,rfl⟩) Ž (λb g=>by
     simp at g;subst g;have hB:B.2 b=none:=by
      rcases fq with z|z
      ·exact(nf b z).2
      ·exact S.h0.free z
     refine⟨gq,.inr (.inr ⟨hB,λk cc hk ek Kn v =>?_⟩)⟩;by_cases w:k=j
     ·subst w;simp only[if_true]at v;exact nq v
     ·simp only[if_neg w]at v;rw[aj (cg w)]at ek;have ZK:=(bT ek).1;rcases fq with z|z
      ·exact W1.ap j k _ cc hj hk K ZK (cg w) b (by rw[ZE];exact z) v
      ·obtain⟨y,f1,f2⟩:=W1.it k cc hk ZK;obtain⟨o,ho⟩:=f2.here b v;rw[ho]at z;cases z) (λb h=>absurd h (Q b)) (λr p z=>by cases z)
    (λj' p h1 h2 _ e=>by obtain⟨_,g0,_⟩:=Sr.eS j' i p h1 h2 e;exact absurd g0 hm2)).1
   exact q _ G' H' R2
  ·cases t
 ·cases t
end
section
variable {X:Cx}{m:Pos}
end
section
variable {X:Cx}
def B2(b:Bool)(j:Nat)(c f:aM)(e:DM):DG:=λd=>(e d).bind λw=>(Hs b j w.2).bind λq=>(yl q.1 w.2).bind λa=>(ya c a.1 a.2 q.2).bind λz=>
 if Ex (dG z.1 f)=Z'/\z.2.1.length<999 then Y (.nx (w.2.set q.1 (Y (.obj a.1 (nh (.ins c (je f w.1 z.2.1 z.2.2).1 (je f w.1 z.2.1 z.2.2).2) q.2 a.2))))) else M
def ME{b:Bool}{c f:aM}{K:DM}(h:PE X (.Name x p) (ko j))(he:PE X e (tM X.K B Z K))(J:tJ X.K c f)(hj:autoParam (j∈Z) Ű)(hb:autoParam (b=Z'->Cf j∈Z) Ű)(ha:autoParam (f∉EX) Ű)(hs:autoParam (cP e (Y (.Attribute (.Name x p) f u)) n.line X.env=eQ false) Ų):PS X (.Assign [.Attribute (.Name x p) f u] e n) (jP X.K B y Z Z (B2 b j c f K)):=(B_ h he hs).imp <|by
 rintro D σ H ⟨G,E,o,S,i,k⟩;unfold B2 at i;obtain⟨⟨d,F⟩,ef,i⟩:=aa.1 i;rcases q:Hs b j F with _|⟨r,T⟩
 ·simp[q]at i
 rcases z:yl r F with _|⟨s,t⟩
 ·simp[q,z]at i
 rcases I:ya c s t T with _|⟨fk,ks,ds⟩
 ·simp[q,z,I]at i
 simp only[q,z,I,ab]at i;split at i
 ·rename_i hz;cases i;obtain⟨i1,U⟩:=wX I;refine⟨G,E,d,F,S,ef,λv G' H' P s' R =>?_⟩;obtain⟨hr,s1,t',a,v',O,e2,e3,e4⟩:=P.Hs q hj hb;have w:=ng z;rw[w]at O;cases O;obtain⟨a',Q,C,dx,vs,N,g,L,f4,f5,f6⟩:=P.RX (f:=f) (d:=d) hr w i1 U hz.1 ha R;rw[e2]at N;cases N;rw[e4]at g;cases g;refine⟨_,e3,Q,C,dx,_,rfl,f4,(J C L).1,(J C L).2,?_,k _ G' _ f6⟩;rw[vl f5];omega
 ·cases i
end
section
variable {X:Cx}{m:List Nat}
def rF(F:List D->Option (D×List D))(g:DL)(h:DL):DF:=λb=>(g b).bind λc=>(h b).bind λd=>(F (.lst c::d)).map λq=>q.1
def JR{F:List D->Option (D×List D)}(ho:ji X.prog X.w X.K X.mg X.base x k (BZ X.K 0 F))(hr:gc k X.A)(hg:Gl X x)(hl:PE X b (tF X.K m g))(ha:PA X a (Fk X.K m h))(J:autoParam ((x==("__debug__" : aM))=false) Ű)(S:autoParam (av (b::a) X.env=(Z_,eval b X.env)::av a X.env) Ų)(I:autoParam ((dt n (av a X.env)).any (·.1)=false) Ų):PE X (.Call (.Name x p) (b::a) [] n) (tP X.K m (rF F g h)):=by
 obtain⟨f,fd,ps,h1,hm,hk,r⟩:=ho.ex;refine(vB h1 hr hg hm hk r .nil pj (bM hl ha S) J S I).imp ?_;rintro σ H Q ⟨G,A,d,gh,u,j,q⟩;unfold rF at j;obtain⟨s,K,j⟩:=aa.1 j;obtain⟨V,L,j⟩:=aa.1 j;obtain⟨⟨d',E⟩,eF,j⟩:=ah.1 j;cases j;refine⟨G,A,s,gh,u,K,λl U G1 H1 O R gn t rl=>⟨G1,A,V,O.gh,u.ext O,L,λus N H2 w P =>?_⟩⟩;show BZ X.K 0 F ((.ref l::us)++[]) H2 Q E0;rw[cm];have g2:N l=none:=by
  rcases z:N l with _|o
  ·rfl
  rcases w.fr l o z with y|y
  ·rw[gn]at y;cases y
  ·rw[t]at y;cases y
 refine⟨N,.lst s::V,d',E,l,U,s,w.gh,rfl,rfl,w.hh _ _ t,be.mono w.gg s rl,g2,λi c hi ec =>?_,by simp[P.length],eF,λv T G3 H3 C g3 h3 r4 r5 =>?_⟩
 ·cases i with
  |zero=>exact absurd rfl hi|succ i=>exact P.get (i:=i) (by simpa using ec)
 ·have B:=O.trans w;refine q v G3 H3 ⟨λb o e=>C.hh b o ?_,B.gg.trans C.gg,C.gh,λb o e =>?_⟩ r5
  ·have r:b≠l:=λz=>by rw[z,R]at e;cases e
   rw[uY r];exact B.hh b o e
  ·rcases C.fr b o e with z|z
   ·exact B.fr b o z
   ·by_cases r:b=l
    ·subst r;exact .inr R
    ·rw[uY r]at z;refine .inr ?_;rcases qq:H b with _|o'
     ·rfl
     rw[B.hh b o' qq]at z;cases z
end
def um.mono{P:bh}{K:aT}{d:Sp}(h:um P w K e b c j d)(i:j<=k):um P w K e b c k d:=by
 obtain⟨C,f,s,g,r,q,p,o,l⟩:=h.ex;exact⟨C,f,s,g,r,q,p,o.mono i,l⟩
section
variable {V:Model}{s:aw}
end
section
variable {m:aM}{v:List ai}
end
end L2
namespace L2
open PySem PySem.Spec PyProof.Rows PySem.W
section
variable {s:aw}{K:aT}{name:aM}
end
end L2
namespace L2
open PySem PySem.Spec PyProof.Rows
section
variable {s:aw}{K:aT}{name:aM}{v:ai}
end
section
variable {sub:List ai}{s:aw}
end
section
variable {X:Cx}{d:List (az×Obj)}{i:St}{H:Hp}{s:aw}{A:ip}{E:ai->aw->Prop}{C a t:az}{f:aM}
end
section
variable {X:Cx}{m:TE}{f:aM}
end
section
variable {P:bh}{w:cX}{K:aT}{m:aM->Option ai}{l:de}{N:List aM}{i:aM}{j:Scope}{f:az}{k:ai}{A:ip}{g:List Env}{d s:aw}{p H:Hp}{E:XK}{x:List (az×Obj)}{y:St}{a C t h:az}
end
section
variable {V:Model}{s:aw}{m:Obj}
end
section
variable {X:Cx}{i:List (az×Obj)}{j:St}{H:Hp}{s:aw}{E:ai->aw->Prop}{a C T L:az}{g:Option az}{d f:Obj}
end
section
variable {s:aw}
end
section
variable {X:Cx}{s:aw}
end
section
variable {X:Cx}{f:DF}
end
section
variable {P:bh}{w:cX}{K:aT}{l:aM->Option ai}{base:de}{N:List aM}{m:aM}{p:Scope}{f:az}{r:ai}{A:ip}{k:List Env}{u s:aw}{v H:Hp}{E:XK}{g:List (az×Obj)}{j:St}{a C:az}{d:Option az}
end
section
variable {X:Cx}{g:List (az×Obj)}{j:St}{H:Hp}{s:aw}
end
section
variable {X:Cx}
end
section
variable {P:bh}{K:aT}
end
section
variable {X:Cx}
end
section
variable {X:Cx}{f:az}{m:aM}{s:Pos}
end
section
variable {X:Cx}{f:List Nat}{m:Pos}
end
section
variable {X:Cx}{m:Pos}
end
def Tj:D->Bool
 |.int i=>decide (0<=i/\i<=1000000)|_=>Z_
def JG:D->Int
 |.int i=>i|_=>0
def uR:List D->Option D
 |[.lst m]=>if m.all Tj=Z'/\m.length<=1000 then Y (.int (m.map JG).sum) else M
 |_=>M
def L'(h:Tj d=Z'):∃i,d=.int i/\0<=i/\i<=1000000:=by
 cases d with|int i=>exact⟨i,rfl,of_decide_eq_true h⟩|_=>cases h
def OF{K:aT}{m:List D}(h:m.all Tj=Z')(r:be K G m g)(y:cv g c){i:Nat}(e:c[i]?=Y u):∃t,u=.int ((m.map JG).getD i 0) t:=by
 have k:i<c.length:=(af.mp e).1;have b:i<m.length:=by rw[r.length,y.length];exact k
 have f:m[i]?=Y m[i]:=aO b;obtain⟨v,o,a⟩:=r.get f;obtain⟨w,j,d⟩:=y.get o;rw[e]at j;cases j;obtain⟨n,l,_⟩:=L' ((cx.mp h) _ (vg b));rw[l]at a f;have:=bE.mp a;subst this;obtain⟨t,rfl⟩:=d;refine⟨t,?_⟩;rw[fJ,aF,f];rfl
theorem BX:∀(l:List D),l.all Tj=Z'->0<=(l.map JG).sum/\(l.map JG).sum<=1000000*l.length
 |[],_=>by simp
 |d::l,h=>by rw[km,aX]at h;obtain⟨n,rfl,a,b⟩:=L' h.1;have:=BX l h.2;simp only[aI,As,aP];have e:JG (.int n)=n:=rfl;rw[e];omega
def Ss{X:Cx}(l:X.calm=Z'):mu X (.builtin "sum") (rC X.K uR):=by
 intro A s P H xs us Q I R ⟨G,ds,d,O,r,t,q⟩;unfold uR at t;split at t
 ·rename_i m;split at t
  ·cases t;rename_i f;obtain⟨f,hm⟩:=f;obtain⟨v,rfl,T⟩:=r.one;obtain⟨a,vs,rfl,U,L⟩:=T.lst O;obtain⟨u,rfl,S⟩:=cv.one R;cases S;obtain⟨g,y,J,hz⟩:=I.list (.of U);obtain⟨o,V,K,w,E⟩:=J.isList;have D:a≠s.heap.objs.size:=bR (aU V);have k:g.toArray.size=m.length:=by simp[L.length,y.length]
   have al:∀j,((m.map JG).take j)=(m.take j).map JG:=λj=>uq.symm
   have bd:∀j,InLong (preSum (λi=>(m.map JG).getD i 0) j):=λj=>by
    rw[preSum_getD,al];have:=BX (m.take j) (cx.mpr λx C=>cx.mp f x (List.mem_of_mem_take C));have e:(m.take j).length<=1000:=by simp;omega
    constructor<;>omega
   refine call_sum_walk (jF J.isList ⟨s.heap.objs.size,_,_,_,_,_,λi=>(m.map JG).getD i 0,rfl,Walks.list (A:=X.A.in1) (I.ok.hd l) _ a D g.toArray,?_,?_,λi v N=>OF f L y (i:=i) (by simpa using N),λj hj=>⟨?_,bd (j+1)⟩,λp n h B =>?_⟩)
   ·exact⟨⟨_,bz _ rfl,rfl,rfl⟩,⟨o,ak _ V,K,w,E⟩⟩
   ·intro b f;simp only[aE,eH,or_false]at f;have:=aU V;have z:(s.heap.push { cls :=.type "list_iterator",data :=.fields #[.ref a,.int 0 0] }).objs.size=s.heap.objs.size+1:=eL ..;show b<(s.heap.push { cls :=.type "list_iterator",data :=.fields #[.ref a,.int 0 0] }).objs.size;rw[z];rcases f with rfl|rfl
    ·exact ik _
    ·exact oz this
   ·have:=BX [m.getD j .eN] (by
     have e:j<m.length:=by omega
     simp only[km,List.all_nil,Bool.and_true,fJ,aO e,Ff];exact cx.mp f _ (vg e))
    have e:j<m.length:=by omega
    simp only[aI,rP,As,List.sum_nil,aP,iU,fJ,aO e,Ff]at this;show InLong ((m.map JG).getD j 0);rw[fJ,aF,aO e];show InLong (JG m[j]);constructor<;>omega
   ·rw[k,preSum_getD,ic (by simp)];exact⟨.int _,H,I.kept (t':=n) λc F e=>B c F (λz=>by
     have z:c=s.heap.objs.size:=by simpa using z
     exact absurd (aU e) (by rw[z];exact ie _)) (ak _ e),⟨h,rfl⟩,q _ G H (.refl O) (bE.mpr rfl)⟩
  ·cases t
 ·cases t
def OH(f:DF):DL:=λb=>(f b).bind λd=>match d with|.lst a=>Y a|.tup a=>Y a|_=>M
def Mc{f:DF}(h:OH f b=Y a):f b=Y (.lst a)\/f b=Y (.tup a):=by
 unfold OH at h;obtain⟨d,e,h⟩:=aa.1 h;rw[e];cases d<;>first|(cases h;exact .inl rfl)|(cases h;exact .inr rfl)|cases h
def L8{K:aT}(g:G a=Y (.tup b))(r:be K G n b):C4 K G (Tw K a) n:=by
 refine⟨λi H s f =>?_,λi H s f=>⟨b,.of (s _ _ g),by rw[<- r.length];exact f⟩,λi H x B A d j h ⟨e,y⟩ z =>?_⟩
 ·have c:i<b.length:=by rw[<- r.length];exact f
  exact⟨b,b[i],.of (s _ _ g),by simp[c]⟩
 ·subst e;have p:=y b (.of (h _ _ (j _ _ g)));obtain⟨v,k,o⟩:=r.get z;rw[p]at k;cases k;exact⟨A,.refl h,cI.mono j d o⟩
section
variable {X:Cx}
def MP{s:aw}{a:List ai}(K:IsTup s.heap t #[])(e:IsTup s.heap b a.toArray)(J:Q (.ref b) s):bB (br d w) A (dB .Add (.ref t) (.ref b)) Q E s:=by
 obtain⟨⟨P,D,F,r⟩,m,C,n,x⟩:=id K;obtain⟨⟨H,l,p,g⟩,c,k,u,h⟩:=id e;simp only at C x k h;subst C x k h;exact concat_meets ⟨_,m,rfl⟩ ⟨_,c,rfl⟩ M9 seq_tuple_add PySem.F.slot_tuple_add PySem.F.entry_tuple_add (PySem.F.args_tuple_add_2 _ _)
  (tuple_addW0 t b #[] a.toArray n u D l r g rfl) ⟨m,c,J⟩
def PR(K:aT):R2:=λx y H Q=>∃a b c,x=.ref a/\y=.ref b/\AM K H a []/\AM K H b c/\Q (.ref b) H
def D0:pG X (dB .Add) (PR X.K):=by
 intro B s U H x y v u Q I l k h;obtain⟨a,b,g,rfl,rfl,C,A,q⟩:=h;cases l;cases k;obtain⟨r,e,p,_⟩:=I.tuple C;obtain⟨f,c,d,_⟩:=I.tuple A;have z:=cv.zero e;subst z;exact MP p d ⟨.ref b,H,I,rfl,q⟩
def Ec:D->D->Option D
 |.tup a,.tup b=>if a.length+b.length<=dU then Y (.tup (a++b)) else M
 |_,_=>M
def Oj:BQ X (dB .Add) Ec:=by
 refine pG.imp (Hv.or D0) ?_;rintro x y H Q ⟨G,u,t,d,e,h,g,c,q⟩;unfold Ec at c;split at c<;>try (cases c;done)
 rename_i A v;split at c<;>cases c
 rename_i f;have B:cI X.K G (.tup A) x:=by
  rcases h with h|⟨_,_,_,_,c⟩
  ·exact h
  ·exact c.elim
 have C:cI X.K G (.tup v) y:=by
  rcases g with h|⟨_,_,_,_,c⟩
  ·exact h
  ·exact c.elim
 obtain⟨a,l,s,o,j⟩:=h.tup e;obtain⟨b,m,r,n,i⟩:=g.tup e;subst s r;by_cases z:l=[]
 ·subst z;have w:A=[]:=qh (by rw[j.length];rfl);subst w;refine .inr ⟨a,b,m,rfl,rfl,.of o,.of n,q _ G H (.refl e) ?_⟩;exact C
 ·refine .inl ⟨a,b,l,m,rfl,rfl,.of o,.of n,z,?_,λy =>?_,λ_ p k=>q _ _ _ (gf.alloc (p:=p) e k) ?_⟩
  ·rw[<- j.length,<- i.length];exact bq f hT
  ·subst y;have w:v=[]:=qh (by rw[i.length];rfl);subst w;rw[cm]at q;exact q _ G H (.refl e) B
  ·exact cY.mpr ⟨p,_,rfl,bj,be.mono (.alloc (e.free k)) _ (j.append i)⟩
end
section
variable {X:Cx}{e:Expr}{f:DF}{Z:List Nat}{p j:Pos}
def GH(a:X.calm=Z')(d:Gl X "sum")(c:X.mg "sum" = M)(h:PE X e (tQ X.K Z f))(b:autoParam (av (e::[]) X.env=(Z_,eval e X.env)::av [] X.env) Ų):PE X (.Call (.Name "sum" p) [e] [] j) (tP X.K Z (aQ uR (aC f aN))):=
 vY (Ss a) d c PyProof.Rows.boot_sum (vV h yA b) ſ ſ b rfl
def Qf(h:PE X e (tP X.K Z f)):PI X L e (AZ X.K Z (OH f)):=by
 rintro B s l H R I ⟨G,m,p,n,b,o,k⟩;rcases Mc o with o|o
 ·refine yq h B s l H R I ⟨G,m,_,n,b,o,λv A w d j =>?_⟩;obtain⟨a,g,rfl,c,i⟩:=bZ.mp j;exact⟨a,rfl,⟨g,.of (d.gh _ _ c)⟩,k _ A w d (Bo c i)⟩
 ·refine y_ h B s l H R I ⟨G,m,_,n,b,o,λv A w d j =>?_⟩;obtain⟨a,g,rfl,c,i⟩:=cY.mp j;exact⟨a,rfl,⟨g,.of (d.gh _ _ c)⟩,k _ A w d (L8 c i)⟩
end
section
variable {K:aT}{f:Hp}
end
noncomputable def xI:aM:=ae "open"
noncomputable def xH:aM:=ae "text"
noncomputable def sR:aM:=ae "close"
def YR:¬(xI=xH):=by decide +kernel
def sOC:¬(xI=sR):=by decide +kernel
def sTC:¬(xH=sR):=by decide +kernel
end L2
namespace K21
open PySem L2
local macro_rules | `(tactic|walk_at "s") => `(tactic|exact⟨rfl,rfl,rfl,by decide +kernel,rfl,by decide +kernel,by decide +kernel⟩)
noncomputable abbrev KL:List (aM×aM):=[("Coming", "able"),("Coming", "facts"),("Coming", "full"),("Coming", "opened"),("Coming", "rests"),("Coming", "rows"),("Coming", "taken"),("Facts", "asks"),("Facts", "bits"),("Facts", "by_name"),("Facts", "by_text"),("Facts", "inner"),("Facts", "leads"),("Facts", "question"),("Facts", "starred"),("Facts", "stars"),("Lean", "coming"),("Row", "atoms"),("Row", "fits"),("Row", "hoped"),("Row", "hoped_around"),("Row", "named"),("Row", "number"),("Row", "reached"),("Row", "reached_around"),("Sift", "coming"),("Sift", "numbers")]
noncomputable abbrev ZL:List aM:=["ValueError", "all", "any", "bool", "enumerate", "int", "isinstance", "len", "list", "range", "sorted", "str", "sum", "tuple", "zip"]
structure KS(K:aT)(mg:aM->Option ai):Prop where
 c:∀p∈KL,tJ K p.1 p.2
 z:∀x∈ZL,mg x=none
def KS.q{K:aT}{t:aM->Option ai}{c f:aM}(k:KS K t:=by assumption)(h:autoParam ((c,f)∈KL) Ű):tJ K c f:=k.c _ h
def KS.y{K:aT}{t:aM->Option ai}{x:aM}(k:KS K t:=by assumption)(h:autoParam (x∈ZL) Ű):t x=none:=k.z _ h
noncomputable def JX(Z y G:List Nat):List Nat:=Z.filter λi=> !(y.contains i||G.contains i)
section
variable {X:Cx}{Z y G:List Nat}{e:Expr}
def Vp(b:PS X N (jP X.K B I Z Z g))(a:qQ X O (jP X.K B I Z L h)):qQ X (N::O) (jP X.K B I Z L (aZ g h)):=aB b a
def X'{f:DF}(h:PE X e (tP X.K (JX Z y G) f))(a:autoParam (nr Z (JX Z y G) y G=true) Ű):PE X e (tP X.K Z (mh y G f)):=MI _ y G h a
def X6{f:DT}(h:PT X e (sC X.K (JX Z y G) f))(a:autoParam (nr Z (JX Z y G) y G=true) Ű):PT X e (sC X.K Z (Al y G f)):=HX _ y G h a
def X_{f:DL}(h:PE X e (tF X.K (JX Z y G) f))(a:autoParam (nr Z (JX Z y G) y G=true) Ű):PE X e (tF X.K Z (Tr y G f)):=Vu _ y G h a
end
def asm{p:Prop}(h:p:=by assumption):p:=h
local macro_rules | `(tactic|walk_at "o") => do
 let o ← `(_)
 let f : String → Lean.Term → Lean.MacroM Lean.Term := fun s x=>do
  let a ← ((s.splitOn ":").getLastD "").toList.toArray.mapM fun c=>match c with
   | '?'=>`(?_)
   | 'a'=>return Lean.mkIdent `asm
   | 'r'=>return Lean.mkIdent `rfl
   | 'i'=>`(.inl rfl)
   | 'q'=>return Lean.mkIdent `KS.q
   | 'y'=>return Lean.mkIdent `KS.y
   | 'n'=>`(ki _)
   | 'p'=>`(pv _)
   | 'v'=>return Lean.mkIdent `cT
   | 'f'=>`(fun _ _=>?_)
   | 'x'=>return x
   | _=>return o
  `($(Lean.mkIdent ((s.splitOn ":").headD "").toName) $a*)
 let t ← ("PE:__x tP:__x mh:___|X':?/PE:__x tF:__x Tr:___|X_:?/PT:__x sC:__x Al:___|X6:?/qQ:___|fU: bQ:? Vp:??/PS:___|mQ:ari? jX:??? fY:? yy:? OR:??q OM:ari? R8:?? X7:??q zQ:? Wf:ari? yz:? ON:? Wg:? HZ:ari? R7:???q Wi:ari??q MD:??q HY:ari? X8:?ari? Wh:??q Vq: u0:vr?ff/PE:__x tQ:___|vQ:_ dvo:p dq:?/PE:__x tP:___|vP:_ cM: xc: pV:?q jM:?? rZ:??? CJ:? df:? hR:aar? JR:aar?? vZ: nJ:ry? BD:aa? Vx:aa?? Si:???n de_non: Yb:? Sg:? Wl:?q Sj:?? ZS:?? Se:? Sf:? ZT:??? Ya:???/PE:__x tF:___|zS:? vX:aar? Vw:ry? OY:ry? MJ:??? Vv:ry?/PE:__x tM:____|zR:aa?? yB:? R9:? Tt:aa? ZQ:??? Wj:aar?? Ts:aaq??/PA:__x Fk:___|bH:?? dS:/PA:__x QB:____|tq:?? CI:/PT:___|mO:???n mO:???r mN:? cp:? PW.pt:?/PW:___|CH:? GC:?? qd:? pT:??/PI:____|jU:? xb:ry? Wk:ry? Tu:ry??/PE:__x Nf:____|Ib:aar? Yc: Yd: Sn:?/J9:___|Xs: Y4: Xr:/PO:___|EH:? EI:/PE:__x ko:_|pv:_/PG:__x He:____|yC:? X9:?/Wo:___|Ux:?? V2:/BQ:___|UI: V5: wQ: LF: Xi: Rj: V4: PZ: YY: LG: Xh: Xg: od_notB:|/BQ:___|D9:a D7:a/PG:___|cN:ari Xa:r?".splitOn "/").toArray.mapM fun s=>do
  let p := s.splitOn "|"
  let h ← ((p.headD "").splitOn " ").foldrM f o
  let a ← ((p.getD 1 "").splitOn " ").toArray.mapM fun s=>do `(tacticSeq| refine $(← f s o))
  if p.length < 3 then `(tacticSeq| (with_reducible show $h); first $[| $a]*) else `(tacticSeq| with_reducible (show $h; first $[| $a]*))
 `(tactic| repeat' first $[| $t]*)
theorem ż{p:Prop}(h:p:=by walk_at "o"):p:=h
noncomputable def mv(i:Nat):rN:=PySem.Challenge.pw_earlysift_k23_what_a_lean_sift_keeps.main.body.getD i (.Pass ⟨0,0,0,0⟩)
noncomputable abbrev tf:List (aM×Sk):=[("by_name",.di),("by_text",.di),("leads",.li .lf)]
abbrev ax:Sk :=.fs "Facts" tf
noncomputable abbrev tY:List (aM×Sk):=[("rows",.li (.fs "Row" []))]
abbrev aA:Sk :=.fs "Coming" tY
abbrev HL:List (aM×Sk):=[("coming",aA)]
abbrev d_:Sk :=.fs "Sift" HL
abbrev HM:List (aM×Sk):=[("coming",aA)]
abbrev eO:Sk :=.fs "Lean" HM
abbrev Fa:=eK (.int 1)
abbrev db:=eV 0
abbrev AT:=e2 nY (bp "Facts" "bits" db) Fa
def kK:=
  (aZ (eW Z_ 0 "Facts" "bits" (λi j=>i+j) Fa)
  (dM (mP (mh [0] [] (e2 qC Fa AT)))))
def fy:=ml 1 1 ax kK
abbrev Ï:=mv 5
abbrev mC:=du Ï 1
def qt:bu ["self"] ["self"] (ay mC):=by walk_at "s"
abbrev u8:=eK (.int 0)
abbrev Db:=eV 1
abbrev pc:=eV 2
abbrev Tl:=e2 bP Db Fa
abbrev am:=e2 bP Db u8
abbrev pp:=tm (bp "Facts" "by_name" db) Tl u8
abbrev cr:=eK (.str (ae "*"))
abbrev PP:=eK (.str (ae "inner"))
abbrev TW:=qX 0 "Facts" "by_name" Tl (mP (mh [0] [] (e2 Dc pp pc)))
def i_:=
  (aZ (nV 2 (bW "Facts" "new_bit" ax fy 0 kl))
  (aZ (dR (dD (e2 fR am PP))
  (eW Z_ 0 "Facts" "inner" dF pc)
  cH)
  (aZ (dR (dD (e2 fR Tl cr))
  (aZ (eW Z_ 0 "Facts" "starred" dF pc)
   (eW Z_ 0 "Facts" "stars" (λi j=>i+j) Fa))
  TW)
  (dM (mP pc)))))
def dN:=ml 2 3 ax i_
abbrev j_:=du Ï 3
def nS:bu ["self", "step", "bit"] ["self", "step"] (ay j_):=by walk_at "s"
abbrev EQ:=jk (mP db) kl
def mY:=
  (dM (vH (iL Db) [M,Y 0] (gN 0) (bW "Facts" "enter_step" ax dN 1 EQ) 1 0 ax))
def jr:=ml 2 2 ax mY
abbrev lJ:=du Ï 2
noncomputable abbrev uD:List aM:=["self", "steps"]
def sP:bu uD ["self", "steps"] (ay lJ):=by walk_at "s"
abbrev pu:=dD (e2 (Ea Z') Db (bp "Facts" "by_text" db))
def fE:=
  (aZ (dR (Al [0] [] pu)
  (qX 0 "Facts" "by_text" Db (bW "Facts" "new_bit" ax fy 0 kl))
  cH)
  (dM (mP (mh [0] [] (e2 Eb (bp "Facts" "by_text" db) Db)))))
def c_:=ml 2 2 ax fE
abbrev jZ:=du Ï 4
def nR:bu ["self", "text"] ["self", "text"] (ay jZ):=by walk_at "s"
abbrev Rs:=eV 6
abbrev Ñ:=eV 7
abbrev wP:=fF (aC (e2 Dc (e2 bP (eV 5) u8) Ñ) (aC (e2 bP (eV 5) Fa) aN))
def iJ:=
  (Hj 0 "Facts" "leads" (fF (aC Rs (aC wP aN))))
abbrev Sc:=eV 4
abbrev ge:=eV 3
abbrev FS:=aC ge aN
def og:=
  (aZ (dh 4 (e2 fA (eF (CD pc (pS Fa) pN)) (eF (gi FS))))
  (iu (V7 Db pc Sc) (RT 5 6 7)
  iJ))
def om:=ml 4 8 ax og
abbrev p6:=du Ï 6
def uu:bu ["self", "asks", "bits", "end", "follows", "ask", "bit", "follow"] ["self", "asks", "bits", "end"] (ay p6):=by walk_at "s"
def gY:=
  (aZ (uv 1 dF (e2 bP ge u8))
   (B3 2 (e2 bP ge Fa)))
abbrev sn:=aC pc aN
abbrev Á:=iL db
abbrev Ê:=gi aN
def mW:=
  (aZ (dh 1 u8)
  (aZ (kq 2 Ê)
  (aZ (iu Á (gN 3)
  gY)
  (dX (fF (aC Db sn))))))
def kE:=ku 1 4 mW
abbrev oT:=mv 6
def sN:bu ["asks", "need", "choices", "ask"] ["asks"] (ay oT):=by walk_at "s"
section
variable {P:bh}{w:cX}{K:aT}{t:aM->Option ai}{Q:de}{f:az}{J:dm}
def wL(F:ir K "new_bit" "Facts.new_bit" mC f J)(e:KS K t):cq P w K t Q gU 1 f J ["self"] (spT K ax fy):=
 F.Cc (Z:=[0]) (Ź:=[0]) (g:=kK) qt ax ſ ſ λc A b s H E g B a h=>
  have d:=qt.nd
  by walk_at "o"
def uf(F:ir K "enter_step" "Facts.enter_step" j_ f J)(e:KS K t)(b:fO P w K t Q "Facts" "new_bit" 1 (spT K ax fy)):cq P w K t Q gU 2 f J ["self", "step"] (spT K ax dN):=
 F.Cc (Z:=[0]) (Ź:=[0]) (g:=i_) nS ax ſ ſ λg A c s H E d B a i=>
  have h:=nS.nd
  (aB ż (aB ż (aB (jX ż ż (bQ (EG (c:= "Facts") (zD d) (pv 0) ż (yB (MI [] [0] [] (rZ PZ (dq (CK (zD d) ż ż cM ⟨rfl,rfl,rfl,rfl⟩)) (vQ 2)))) e.q))) ż)))
def zh(F:ir K "enter" "Facts.enter" lJ f J)(b:fO P w K t Q "Facts" "enter_step" 2 (spT K ax dN)):cq P w K t Q gU 3 f J ["self", "steps"] (spT K ax jr):=
 F.Cc (Z:=[0]) (Ź:=[0]) (g:=mY) sP ax ſ ſ λd A outer s H E g B a c=>
  have e:=sP.nd
  (bQ (yy (GF (i0:=1) (j0:=0) (s:=ax) (N:=[("step" : aM),("self" : aM)]) (src:=[M,Y 0]) (gE (outer:=ay lJ) (oN:=uD) rfl (by decide +kernel) rfl rfl) rfl (jU (vP 1)) (eP 0) ſ (sZ _ 0 1) (λC s H h=>⟨cN (i:=0) (show ([("step" : aM),("self" : aM)]:List aM).Nodup by decide +kernel) rfl (nB rfl),fB,Vr λB a c=>ż⟩))))
def ue(F:ir K "enter_text" "Facts.enter_text" jZ f J)(e:KS K t)(b:fO P w K t Q "Facts" "new_bit" 1 (spT K ax fy)):cq P w K t Q gU 2 f J ["self", "text"] (spT K ax c_):=
 F.Cc (Z:=[0]) (Ź:=[0]) (g:=fE) nR ax ſ ſ λg A c s H E d B a i=>
  have h:=nR.nd
  (aB (jX (HX [] [0] [] (JP (zD d) (vQ 1) ż)) (bQ (EG (c:= "Facts") (zD d) (pv 0) (vP 1) ż e.q)) fU) (bQ (yy (yB (MI [] [0] [] (OZ (zD d) ż (vQ 1)))))))
def AB(F:ir K "lead" "Facts.lead" p6 f J)(d:KS K t):cq P w K t Q gU 1 f J ["self", "asks", "bits", "end"] (spT K ax om):=
 F.Cc (Z:=[0]) (Ź:=[0]) (g:=og) uu ax ſ ſ λe A b s H E h B a c=>
  have g:=uu.nd
  (aB ż (bQ (u0 cT rfl (OT rfl d.y (vP 1) (vP 2) (vP 4)) (λB c=>(MG ż)) (λB c=>ż))))
def zd(F:ir K "joined_asks" "joined_asks" oT f J):cq P w K t Q gU 1 f J ["asks"] (gQ K kE):=
 F.x6 (Z:=[2]) (Ź:=[2]) (g:=mW) sN ſ λc A a s H E e B b=>
  have d:=sN.nd
  (aB ż (aB ż (aB (u0 cT rfl (jU (vP 0)) (λB b=>ż) (λB b=>(aB ż (bQ (JQ (pv 2) ż))))) (uZ (own1:=[]) 2 ż))))
end
abbrev wf:=eF Ê
abbrev pi:=eK (.str (ae "has"))
abbrev Ç:=jk (mP Tl) kl
abbrev NE:=x9 (jk (bW "Facts" "enter_text" ax c_ 0 Ç) (jk (mP wf) kl))
abbrev Õ:=eK (.str (ae "text"))
abbrev Ú:=eK (.str (ae "one"))
abbrev Û:=eK (.str (ae "any"))
def cL(c:List D->Option (D×D))(a:List D->Option (D×D)):DG:=
  (aZ (dR (dD (e2 fR am Û))
  (dM (mP (fF (aC u8 (aC wf aN)))))
  cH)
  (aZ (dR (dD (e2 fR am Õ))
  (dM NE)
  cH)
  (aZ (dR (dD (e2 fR am pi))
  (dM (x9 (jk (bW "Facts" "enter_has" ax a 0 Ç) (jk (mP wf) kl))))
  cH)
  (aZ (nV 2 (vH (iL Tl) [M,Y 0] (gN 0) (bW "Facts" "asked" ax c 1 EQ) 1 0 ax))
  (aZ (dR (dD (e2 fR am Ú))
  (dM (mP (fF (aC u8 (aC (eF (gi sn)) aN)))))
  cH)
  (dM (mP (aQ kE sn))))))))
abbrev lK:=du Ï 7
noncomputable abbrev uE:List aM:=["self", "wish", "asks"]
def o_:bu uE ["self", "wish"] (ay lK):=by walk_at "s"
abbrev lc:=eK (.int 2)
abbrev Æ:=jk (mP u8) kl
abbrev Ó:=e2 bP db lc
def hI(a:List D->Option (D×D))(c:List D->Option (D×D)):DG:=
  (aZ (nV 2 (bW "Facts" "enter" ax jr 0 (jk (mP Db) kl)))
  (aZ (eD (bW "Facts" "lead" ax om 0 (jk (vH (iL Db) [M,Y 0] (gN 0) (bW "Facts" "asked" ax a 1 (jk (mP Ó) kl)) 1 0 ax) (jk (mP pc) Æ))))
  (dM (mP (e2 bP pc u8)))))
abbrev iW:=du Ï 5
noncomputable abbrev pW:List aM:=["self", "steps", "bits"]
def oZ:bu pW ["self", "steps"] (ay iW):=by walk_at "s"
abbrev ol:=e2 bP db u8
abbrev bm:=e2 bP db Fa
abbrev on:=aC Ó aN
def s_(c:List D->Option D)(a:List D->Option D):DG:=
  (rV (lZ Á [M] (gN 0) eU (fF (aC ol (aC bm (aC (aQ a on) aN))))))
abbrev tT:=mv 9
noncomputable abbrev E':List aM:=["steps"]
def A9:bu E' ["steps"] (ay tT):=by walk_at "s"
abbrev ci:=aC (eK (.str (ae "both"))) (aC Ú aN)
abbrev bn:=aC db aN
abbrev wv:=iL bm
abbrev wS:=dD (e2 fR ol pi)
abbrev Þ:=aC bm aN
def jm(c:List D->Option D)(a:List D->Option D):DG:=
  (aZ (dR wS
  (dX (fF (aC pi (aC (aQ c Þ) aN))))
  cH)
  (aZ (dR (dD (e2 (Gf Z_) ol (fF ci)))
  (dX (fF (aC ol (aC (eF (lZ wv [M] (gN 0) eU (aQ a bn))) aN))))
  cH)
  (dX db)))
abbrev lI:=mv 10
noncomputable abbrev uC:List aM:=["wish"]
def sO:bu uC ["wish"] (ay lI):=by walk_at "s"
abbrev wl:=aC Db aN
abbrev No:=dX (eK (.bl Z_))
abbrev At:=e2 uj (e2 eZ Db ol) ol
def yv(a:List D->Option D):DG:=
  (aZ (dR (dD At)
  No
  cH)
  (dX (aQ (gK Z') (aC (eF (lZ wv [M,Y 1] (gN 0) eU (aQ (gK Z_) (aC (eF (lZ Á [M,Y 1] (gN 0) eU (aQ a (aC db wl)))) aN)))) aN))))
abbrev vq:=mv 7
noncomputable abbrev Iv:List aM:=["ask", "atoms"]
def DE:bu Iv ["ask", "atoms"] (ay vq):=by walk_at "s"
abbrev Â:=eK (.bl Z')
def rB(a:List D->Option D):DG:=
  (aZ (dR wS
  (dX (aQ (gK Z') (aC (eF (lZ wv [M] (gN 0) eU (aQ a on))) aN)))
  cH)
  (aZ (dR (dD (e2 fR ol (eK (.str (ae "both")))))
  (dX (aQ (gK Z') (aC (eF (lZ wv [M] (gN 0) eU (aQ a bn))) aN)))
  cH)
  (aZ (dR (dD (e2 fR ol Ú))
  (dX (aQ (gK Z_) (aC (eF (lZ wv [M] (gN 0) eU (aQ a bn))) aN)))
  cH)
  (dX Â))))
abbrev lx:=mv 8
noncomputable abbrev rK:List aM:=["wish"]
def xF:bu rK ["wish"] (ay lx):=by walk_at "s"
mutual
noncomputable def dr:Nat->List D->Option (D×D)
 |0=>λ_=>M
 |n+1=>ml 2 3 ax (cL (dr n) (cZ n))
noncomputable def cZ:Nat->List D->Option (D×D)
 |0=>λ_=>M
 |n+1=>ml 2 3 ax (hI (dr n) (cZ n))
end
mutual
noncomputable def jq:Nat->List D->Option D
 |0=>λ_=>M
 |n+1=>ku 1 1 (s_ (jq n) (eE n))
noncomputable def eE:Nat->List D->Option D
 |0=>λ_=>M
 |n+1=>ku 1 1 (jm (jq n) (eE n))
end
noncomputable def kC:Nat->List D->Option D
 |0=>λ_=>M
 |n+1=>ku 2 2 (yv (kC n))
noncomputable def fP:Nat->List D->Option D
 |0=>λ_=>M
 |n+1=>ku 1 1 (rB (fP n))
section
variable {P:bh}{w:cX}{K:aT}{b:aM->Option ai}{h:de}{f:az}{j:dm}
def zi(F:ir K "asked" "Facts.asked" lK f j)(c:fO P w K b h "Facts" "enter_text" (n+3) (spT K ax c_))(d:fO P w K b h "Facts" "enter_has" (n+3) (spT K ax (cZ n)))(g:fO P w K b h "Facts" "asked" (n+3) (spT K ax (dr n)))(e:ji P w K b h "joined_asks" (n+3) (gQ K kE)):cq P w K b h gU (n+3+1) f j ["self", "wish"] (spT K ax (dr (n+1))):=
 F.Cc (Z:=[0]) (Ź:=[0]) (g:=(cL (dr n) (cZ n))) o_ ax ſ ſ λk A outer s H E m B a i=>
  have l:=o_.nd
  (aB ż (aB ż (aB ż (aB (GD (i:=2) (i0:=1) (j0:=0) (s:=ax) (N:=[("other" : aM),("self" : aM)]) (src:=[M,Y 0]) (gE (outer:=ay lK) (oN:=uE) rfl (by decide +kernel) rfl rfl) rfl o_.nd rfl rfl ż (eP 0) ſ (sZ _ 0 1) (λC s H o=>⟨cN (i:=0) (show ([("other" : aM),("self" : aM)]:List aM).Nodup by decide +kernel) rfl (nB rfl),fB,Vr λB a i=>ż⟩)) ż))))
def uP(F:ir K "enter_has" "Facts.enter_has" iW f j)(d:fO P w K b h "Facts" "enter" (n+3) (spT K ax jr))(c:fO P w K b h "Facts" "lead" (n+3) (spT K ax om))(e:fO P w K b h "Facts" "asked" (n+3) (spT K ax (dr n))):cq P w K b h gU (n+3+1) f j ["self", "steps"] (spT K ax (cZ (n+1))):=
 F.Cc (Z:=[0]) (Ź:=[0]) (g:=(hI (dr n) (cZ n))) oZ ax ſ ſ λk A outer s H E g B a i=>
  have l:=oZ.nd
  (aB ż (aB (zQ (zR c g (pv 0) (tq (GF (i0:=1) (j0:=0) (s:=ax) (N:=[("step" : aM),("self" : aM)]) (src:=[M,Y 0]) (gE (outer:=ay iW) (oN:=pW) rfl (by decide +kernel) rfl rfl) rfl (jU (vP 1)) (eP 0) ſ (sZ _ 0 1) (λC s H m=>⟨cN (i:=0) (show ([("step" : aM),("self" : aM)]:List aM).Nodup by decide +kernel) rfl (nB rfl),fB,Vr λB a i=>ż⟩)) ż))) ż))
def Jm(F:ir K "copied" "copied" tT f j)(a:ji P w K b h "copied_wish" (n+0) (gQ K (eE n))):cq P w K b h gU (n+0+1) f j ["steps"] (gQ K (jq (n+1))):=
 F.x6 (Z:=[]) (Ź:=[]) (g:=(s_ (jq n) (eE n))) A9 ſ λc A outer s H E e B g=>
  have d:=A9.nd
  (bQ (yz (qJ (Ź:=[]) (N:=[("step" : aM)]) (src:=[M]) (gE (outer:=ay tT) (oN:=E') rfl (by decide +kernel) rfl rfl) rfl (jU (vP 0)) (eP 0) ſ (e_ 0) (λC s H i=>⟨cN (i:=0) (show ([("step" : aM)]:List aM).Nodup by decide +kernel) rfl (.inl rfl),fB,ż⟩))))
def ze(F:ir K "copied_wish" "copied_wish" lI f j)(c:ji P w K b h "copied" (n+0) (gQ K (jq n)))(a:ji P w K b h "copied_wish" (n+0) (gQ K (eE n))):cq P w K b h gU (n+0+1) f j ["wish"] (gQ K (eE (n+1))):=
 F.x6 (Z:=[]) (Ź:=[]) (g:=(jm (jq n) (eE n))) sO ſ λd A outer s H E g B i=>
  have e:=sO.nd
  (aB ż (aB (jX ż (bQ (fY (CJ (bH ż (bH (df (qJ (Ź:=[]) (N:=[("other" : aM)]) (src:=[M]) (gE (outer:=ay lI) (oN:=uC) rfl (by decide +kernel) rfl rfl) rfl ż (eP 0) ſ (e_ 0) (λC s H k=>⟨cN (i:=0) (show ([("other" : aM)]:List aM).Nodup by decide +kernel) rfl (.inl rfl),fB,ż⟩))) dS))))) fU) ż))
def LC(F:ir K "meets" "meets" vq f j)(c:KS K b)(a:ji P w K b h "meets" (n+0) (gQ K (kC n))):cq P w K b h gU (n+0+1) f j ["ask", "atoms"] (gQ K (kC (n+1))):=
 F.x6 (Z:=[]) (Ź:=[]) (g:=(yv (kC n))) DE ſ λe A outer s H E i B k=>
  have g:=DE.nd
  (aB ż (bQ (fY (GI rfl rfl c.y (dq (df (qJ (Ź:=[]) (N:=[("choice" : aM),("atoms" : aM)]) (src:=[M,Y 1]) (gE (outer:=ay vq) (oN:=Iv) rfl (by decide +kernel) rfl rfl) rfl ż (eP 0) ſ (e_ 0) (λC s H d=>⟨cN (i:=0) (show ([("choice" : aM),("atoms" : aM)]:List aM).Nodup by decide +kernel) rfl (by first|exact nB rfl|exact yh rfl),fB,(MK rfl rfl c.y (dq (df (qJ (Ź:=[]) (N:=[("other" : aM),("atoms" : aM)]) (src:=[M,Y 1]) (O' rfl (by decide +kernel)) rfl (jU (vP 0)) (eP 0) ſ (e_ 0) (λC s H d=>⟨cN (i:=0) (show ([("other" : aM),("atoms" : aM)]:List aM).Nodup by decide +kernel) rfl (.inl rfl),fB,ż⟩)))))⟩))))))))
def D4(F:ir K "can_hold" "can_hold" lx f j)(c:KS K b)(a:ji P w K b h "can_hold" (n+0) (gQ K (fP n))):cq P w K b h gU (n+0+1) f j ["wish"] (gQ K (fP (n+1))):=
 F.x6 (Z:=[]) (Ź:=[]) (g:=(rB (fP n))) xF ſ λe A outer s H E i B k=>
  have g:=xF.nd
  (aB (jX ż (bQ (fY (GI rfl rfl c.y (dq (df (qJ (Ź:=[]) (N:=[("step" : aM)]) (src:=[M]) (gE (outer:=ay lx) (oN:=rK) rfl (by decide +kernel) rfl rfl) rfl ż (eP 0) ſ (e_ 0) (λC s H d=>⟨cN (i:=0) (show ([("step" : aM)]:List aM).Nodup by decide +kernel) rfl (.inl rfl),fB,ż⟩))))))) fU) (aB (jX ż (bQ (fY (GI rfl rfl c.y (dq (df (qJ (Ź:=[]) (N:=[("other" : aM)]) (src:=[M]) (gE (outer:=ay lx) (oN:=rK) rfl (by decide +kernel) rfl rfl) rfl ż (eP 0) ſ (e_ 0) (λC s H d=>⟨cN (i:=0) (show ([("other" : aM)]:List aM).Nodup by decide +kernel) rfl (.inl rfl),fB,ż⟩))))))) fU) (aB (jX ż (bQ (fY (MK rfl rfl c.y (dq (df (qJ (Ź:=[]) (N:=[("other" : aM)]) (src:=[M]) (gE (outer:=ay lx) (oN:=rK) rfl (by decide +kernel) rfl rfl) rfl ż (eP 0) ſ (e_ 0) (λC s H d=>⟨cN (i:=0) (show ([("other" : aM)]:List aM).Nodup by decide +kernel) rfl (.inl rfl),fB,ż⟩))))))) fU) ż)))
end
def wg:=jq 12
def t6:=kC 12
def pw:=fP 12
def mZ:=dr 12
abbrev kt:=uA 0 "Facts" "question"
def jS:=
  (aZ (gC Z_ 0 "Facts" "question" (aQ wg wl))
  (aZ (gC Z_ 0 "Facts" "bits" u8)
  (aZ (p_ 0 "Facts" "by_name" .di (eK (.jn [] [])))
  (aZ (p_ 0 "Facts" "by_text" .di (eK (.jn [] [])))
  (aZ (gC Z_ 0 "Facts" "starred" u8)
  (aZ (gC Z_ 0 "Facts" "stars" u8)
  (aZ (gC Z_ 0 "Facts" "inner" u8)
  (aZ (p_ 0 "Facts" "leads" (.li .lf) (eK (.lst [])))
  (aZ (eD (bW "Facts" "enter" ax jr 0 (jk (mP kt) kl)))
  (B2 Z_ 0 "Facts" "asks" (vH (iL kt) [M,Y 0] (gN 0) (bW "Facts" "asked" ax mZ 1 (jk (mP Ó) kl)) 1 0 ax)))))))))))
def gy:=ml 2 2 ax jS
abbrev jv:=du Ï 0
noncomputable abbrev qO:List aM:=["self", "question"]
def pK:bu qO ["self", "question"] (ay jv):=by walk_at "s"
def jz:=
  (dX (e2 Dc (bp "Facts" "starred" db) (tm (bp "Facts" "by_name" db) Db u8)))
def fh:=ku 2 2 jz
abbrev kX:=du Ï 8
def oY:bu ["self", "name"] ["self", "name"] (ay kX):=by walk_at "s"
def jy:=
  (dX (tm (bp "Facts" "by_text" db) Db u8))
def fg:=ku 2 2 jy
abbrev kW:=du Ï 9
def oX:bu ["self", "text"] ["self", "text"] (ay kW):=by walk_at "s"
def gv:=
  (dR (ju (cF (e2 eZ Db Sc)) (cF (aQ t6 (aC (eV 5) sn))))
   (uv 3 dF Sc)
   cH)
abbrev Ö:=Cz 4 5
def lX:=
  (aZ (dh 3 (e2 eZ pc (bp "Facts" "inner" db)))
  (aZ (iu (iL (bp "Facts" "leads" db)) Ö
  gv)
  (dX ge)))
def iM:=ku 3 6 lX
abbrev nG:=du Ï 10
def rT:bu ["self", "named", "atoms", "up", "bit", "ask"] ["self", "named", "atoms"] (ay nG):=by walk_at "s"
def fV:=
  (aZ (dh 6 (e2 qC Fa Sc))
   (dR (ju (cF (e2 eZ Db Rs)) (cF (aQ t6 (aC (eV 5) sn))))
   (uv 3 dF Rs)
   cH))
def kL:=
  (aZ (dh 3 u8)
  (aZ (iu (iE (bp "Facts" "asks" db)) Ö
  fV)
  (dX ge)))
def eG:=ku 3 7 kL
abbrev mD:=du Ï 11
def qu:bu ["self", "named", "atoms", "fits", "place", "ask", "bit"] ["self", "named", "atoms"] (ay mD):=by walk_at "s"
abbrev Ch:=eK (.str (ae "open"))
def zH:=
  (aZ (dR (dD (e2 fR ol Ch))
  (dX (X4 Db (OL (dD pc))))
  cH)
  (dX Db))
def mT:=ku 3 3 zH
abbrev sL:=mv 12
def xG:bu ["sign", "within", "begun"] ["sign", "within", "begun"] (ay sL):=by walk_at "s"
def tb:=
  (aZ (lT 0 "Row" "number" Db)
  (aZ (lT 0 "Row" "named" pc)
  (aZ (lT 0 "Row" "atoms" ge)
  (aZ (lT 0 "Row" "fits" u8)
  (aZ (lT 0 "Row" "reached" u8)
  (aZ (lT 0 "Row" "reached_around" u8)
  (aZ (lT 0 "Row" "hoped" u8)
  (lT 0 "Row" "hoped_around" u8))))))))
def jO:=runC 4 4 0 tb
abbrev nF:=du (mv 14) 0
def rS:bu ["self", "number", "named", "atoms"] ["self", "number", "named", "atoms"] (ay nF):=by walk_at "s"
abbrev Ò:=e2 bP ge lc
def iI:=
  (dR (cF (aQ pw (aC Ò aN)))
   (uv 1 dF (e2 qC Fa pc))
   cH)
def n_:=
  (aZ (dh 1 u8)
  (aZ (iu (iE db) (Cz 2 3)
  iI)
  (dX Db)))
def jV:=ku 1 4 n_
abbrev pZ:=mv 17
def ur:bu ["question", "able", "place", "step"] ["question"] (ay pZ):=by walk_at "s"
section
variable {P:bh}{w:cX}{K:aT}{h:aM->Option ai}{t:de}{f:az}{j:dm}
def vD(F:ir K "__init__" "Facts.__init__" jv f j)(e:KS K h)(d:ji P w K h t "copied" 59 (gQ K wg))(b:fO P w K h t "Facts" "enter" 59 (spT K ax jr))(c:fO P w K h t "Facts" "asked" 59 (spT K ax mZ)):cq P w K h t gU 60 f j ["self", "question"] (spT K ax gy):=
 F.Cc (Z:=[0]) (Ź:=[0]) (g:=jS) pK ax ſ ſ λi A outer s H E l B a g=>
  have k:=pK.nd
  (aB ż (aB ż (aB ż (aB ż (aB ż (aB ż (aB ż (aB ż (aB ż (bQ (ME (b:=Z_) (c:= "Facts") (pv 0) (GF (i0:=1) (j0:=0) (s:=ax) (N:=[("step" : aM),("self" : aM)]) (src:=[M,Y 0]) (gE (outer:=ay jv) (oN:=qO) rfl (by decide +kernel) rfl rfl) rfl ż (eP 0) ſ (sZ _ 0 1) (λC s H m=>⟨cN (i:=0) (show ([("step" : aM),("self" : aM)]:List aM).Nodup by decide +kernel) rfl (nB rfl),fB,Vr λB a g=>ż⟩)) e.q)))))))))))
def uO(F:ir K "steps_for" "Facts.steps_for" kX f j)(e:KS K h):cq P w K h t gU 1 f j ["self", "name"] (gQ K fh):=
 F.x6 (Z:=[]) (Ź:=[]) (g:=jz) oY ſ λc A a s H E b B g=>
  have d:=oY.nd
  (bQ (fY (rZ PZ ż (dq (CK (zD b) ż (vQ 1) cM ⟨rfl,rfl,rfl,rfl⟩)))))
def uN(F:ir K "text_fact" "Facts.text_fact" kW f j)(e:KS K h):cq P w K h t gU 1 f j ["self", "text"] (gQ K fg):=
 F.x6 (Z:=[]) (Ź:=[]) (g:=jy) oX ſ λc A a s H E b B g=>
  have d:=oX.nd
  (bQ (fY (CK (zD b) ż (vQ 1) cM ⟨rfl,rfl,rfl,rfl⟩)))
def x3(F:ir K "lifted" "Facts.lifted" nG f j)(e:KS K h)(a:ji P w K h t "meets" 59 (gQ K t6)):cq P w K h t gU 60 f j ["self", "named", "atoms"] (gQ K iM):=
 F.x6 (Z:=[]) (Ź:=[]) (g:=lX) rT ſ λc A b s H E g B i=>
  have d:=rT.nd
  by walk_at "o"
def wM(F:ir K "fitting" "Facts.fitting" mD f j)(e:KS K h)(a:ji P w K h t "meets" 59 (gQ K t6)):cq P w K h t gU 60 f j ["self", "named", "atoms"] (gQ K eG):=
 F.x6 (Z:=[]) (Ź:=[]) (g:=kL) qu ſ λc A b s H E g B i=>
  have d:=qu.nd
  by walk_at "o"
def D5(F:ir K "can_come" "can_come" sL f j):cq P w K h t gU 1 f j ["sign", "within", "begun"] (gQ K mT):=
 F.x6 (Z:=[]) (Ź:=[]) (g:=zH) xG ſ λb A a s H E d B e=>
  have c:=xG.nd
  by walk_at "o"
def xZ(F:ir K "__init__" "Row.__init__" nF f j)(e:KS K h):cq P w K h t gU 1 f j ["self", "number", "named", "atoms"] (QI K 0 jO):=
 F.okC (Z:=[0]) (Ź:=[0]) (g:=tb) rS 0 ſ ſ λc A b s H E g B a i=>
  have d:=rS.nd
  by walk_at "o"
def AA(F:ir K "able_steps" "able_steps" pZ f j)(e:KS K h)(a:ji P w K h t "can_hold" 59 (gQ K pw)):cq P w K h t gU 60 f j ["question"] (gQ K jV):=
 F.x6 (Z:=[]) (Ź:=[]) (g:=n_) ur ſ λc A b s H E g B i=>
  have d:=ur.nd
  by walk_at "o"
end
abbrev Ý:=e1 D_ Fa
def Bu:=
  (aZ (dh 0 (HU "Row" jO (aC Ý (aC u8 (aC u8 aN)))))
  (aZ (lT 0 "Row" "reached" Fa)
  (aZ (lT 0 "Row" "reached_around" Fa)
  (aZ (lT 0 "Row" "hoped" Fa)
  (aZ (lT 0 "Row" "hoped_around" Fa)
  (Hi 0))))))
def xu:=Ph 0 1 Bu
abbrev uH:=mv 16
def uK:bu ["row"] [] (ay uH):=by walk_at "s"
def qF:=
  (dX (e2 qC (e2 eZ (e2 Dc Db (e2 eZ pc (bp "Facts" "inner" (bp "Coming" "facts" db)))) ge) Fa))
def dW:=ku 4 4 qF
abbrev É:=mv 15
abbrev lM:=du É 4
def pM:bu ["self", "parent", "around", "fits"] ["self", "parent", "around", "fits"] (ay lM):=by walk_at "s"
abbrev Uf:=eK (.int 3)
def ja:=
  (aZ (dh 3 (e2 bP (bp "Coming" "rows" db) Ý))
  (aZ (dh 4 (e2 eZ (e2 Rk (e2 Dc (e2 bP Db lc) (e2 bP Db Uf)) Fa) (bp "Row" "fits" pc)))
  (aZ (dh 5 (e2 eZ (e2 eZ Sc (e1 x8 (bp "Facts" "inner" (bp "Coming" "facts" db)))) (bp "Row" "hoped" ge)))
  (aZ (dh 6 (e2 eZ (e2 Dc (e2 eZ Sc (bp "Facts" "inner" (bp "Coming" "facts" db))) (e2 bP Db Uf)) (bp "Row" "hoped_around" ge)))
  (dX (fF (aC am (aC (e2 nY Tl Fa) (aC (eV 5) (aC Rs aN))))))))))
def gG:=ku 3 7 ja
abbrev ka:=du É 10
def nT:bu ["self", "rest", "row", "parent", "steps", "own", "around"] ["self", "rest", "row"] (ay ka):=by walk_at "s"
abbrev ut:=e2 eZ (e2 eZ (bp "Row" "hoped" pc) (e1 x8 (bp "Row" "reached" pc))) (bp "Coming" "full" db)
def gw:=
  (dR (cF ut)
   (p' 1 (bp "Row" "number" pc))
   cH)
def lY:=
  (aZ (kq 1 (lZ (iL (bp "Coming" "rests" db)) [M] (gN 0) eU ol))
  (aZ (iu (iL (bp "Coming" "rows" db)) (gN 2)
  gw)
  (rV (mM Db))))
def iN:=ku 1 3 lY
abbrev kH:=du É 11
noncomputable abbrev tG:List aM:=["self", "numbers", "row"]
def nI:bu tG ["self"] (ay kH):=by walk_at "s"
section
variable {P:bh}{w:cX}{K:aT}{a:aM->Option ai}{h:de}{f:az}{b:dm}
def Ga(F:ir K "top_row" "top_row" uH f b)(j:KS K a)(c:um P w K a h "Row" 1 (QI K 0 jO)):cq P w K a h gU 3 f b [] (Ue K xu):=
 F.Ri (Z:=[0]) (Ź:=[0]) (g:=Bu) uK ſ λg A d s H E e B k=>
  have i:=uK.nd
  (aB (HZ (i:=0) uK.nd rfl (.inl rfl) (H_ c e rfl ż)) ż)
def vE(F:ir K "gone_on" "Coming.gone_on" lM f b)(g:KS K a):cq P w K a h gU 1 f b ["self", "parent", "around", "fits"] (gQ K dW):=
 F.x6 (Z:=[]) (Ź:=[]) (g:=qF) pM ſ λd A c s H E i B j=>
  have e:=pM.nd
  by walk_at "o"
def ug(F:ir K "moved_out" "Coming.moved_out" ka f b)(g:KS K a):cq P w K a h gU 1 f b ["self", "rest", "row"] (gQ K gG):=
 F.x6 (Z:=[]) (Ź:=[]) (g:=ja) nT ſ λd A c s H E i B j=>
  have e:=nT.nd
  by walk_at "o"
def x5(F:ir K "waits" "Coming.waits" kH f b)(e:KS K a):cq P w K a h gU 1 f b ["self"] (gQ K iN):=
 F.x6 (Z:=[1]) (Ź:=[1]) (g:=lY) nI ſ λc A outer s H E g B i=>
  have d:=nI.nd
  (aB (xa (i:=1) (Ź:=[]) (N:=[("rest" : aM)]) (src:=[M]) (gE (outer:=ay kH) (oN:=tG) rfl (by decide +kernel) rfl rfl) rfl nI.nd rfl rfl ż (eP 0) ſ (e_ 0) (λC s H j=>⟨cN (i:=0) (show ([("rest" : aM)]:List aM).Nodup by decide +kernel) rfl (.inl rfl),fB,ż⟩)) ż)
end
abbrev im:=aC (bp "Facts" "question" (bp "Coming" "facts" db)) aN
def jA:=
  (aZ (gC Z_ 0 "Coming" "facts" (kj "Facts" gy wl))
  (aZ (gC Z_ 0 "Coming" "full" (mh [0] [] (e2 qC Fa (aQ gr im))))
  (aZ (gC Z_ 0 "Coming" "able" (mh [0] [] (aQ jV im)))
  (aZ (gC Z_ 0 "Coming" "taken" u8)
  (aZ (gC Z_ 0 "Coming" "opened" u8)
  (aZ (p_ 0 "Coming" "rows" (.li (.fs "Row" [])) (R4 (Mv "Row" (λ_=>xu []))))
  (gC Z_ 0 "Coming" "rests" wf)))))))
def cU:=ml 2 2 aA jA
abbrev kY:=du É 0
def pb:bu ["self", "question"] ["self", "question"] (ay kY):=by walk_at "s"
def jb:=
  (aZ (dh 4 (HU "Row" jO (aC Db (aC pc FS))))
  (aZ (sS 5 0 "Coming" "rows" Ý)
  (aZ (lT 4 "Row" "fits" (mh [0] [5] (dY "Facts" "fitting" eG (bp "Coming" "facts" db) (aC pc FS))))
  (aZ (lT 4 "Row" "hoped" (mh [0] [5] (dY "Coming" "gone_on" dW db (aC (bp "Row" "hoped" (eV 5)) (aC (bp "Row" "hoped_around" (eV 5)) (aC (e2 eZ pc (bp "Coming" "able" db)) aN))))))
  (aZ (lT 4 "Row" "hoped_around" (mh [0] [5] (e2 Dc (bp "Row" "hoped_around" (eV 5)) (bp "Row" "hoped" Sc))))
  (y0 0 4 "Coming" "rows"))))))
def gH:=ml 4 6 aA jb
abbrev kb:=du É 3
def kf:bu ["self", "number", "named", "atoms", "row", "parent"] ["self", "number", "named", "atoms"] (ay kb):=by walk_at "s"
abbrev lw:=e2 eZ Sc (e1 x8 (bp "Row" "atoms" (eV 5)))
abbrev Ä:=aC (bp "Row" "named" ge) (aC (bp "Row" "atoms" ge) aN)
def jB:=
  (aZ (sS 3 0 "Coming" "rows" Db)
   (aZ (gC Z' 3 "Row" "fits" (mh [0] [3,5] (dY "Facts" "fitting" eG (bp "Coming" "facts" db) Ä)))
   (aZ (dh 4 (mh [0] [3,5] (dY "Facts" "lifted" iM (bp "Coming" "facts" db) Ä)))
   (aZ (uv 1 (λi j=>i-j) Fa)
   (aZ (sS 5 0 "Coming" "rows" Db)
   (aZ (dh 2 (mh [0] [3,5] (e2 uj lw u8)))
   (eW Z' 5 "Row" "atoms" dF Sc)))))))
abbrev ul:=aC (bp "Coming" "rows" db) aN
abbrev py:=dD (e2 ux Db u8)
abbrev ã:=e2 nY (aQ gr ul) Fa
def kM:=
  (aZ (dh 1 (mh [0] [3,5] ã))
  (aZ (dh 2 Â)
  (FZ 1000000 (ju (cF pc) py)
  jB)))
def dP:=ml 1 6 aA kM
abbrev mE:=du É 6
def qv:bu ["self", "place", "changed", "row", "up", "parent"] ["self"] (ay mE):=by walk_at "s"
abbrev sK:=eD (bW "Coming" "spread" aA dP 0 kl)
abbrev å:=e2 eZ Db (e1 x8 (bp "Row" "atoms" pc))
def jc:=
  (aZ (sS 2 0 "Coming" "rows" Ý)
  (dR (Al [0] [2] (cF å))
  (aZ (eW Z' 2 "Row" "atoms" dF Db)
   sK)
  cH))
def gI:=ml 2 3 aA jc
abbrev ke:=du É 5
def nU:bu ["self", "atoms", "row"] ["self", "atoms"] (ay ke):=by walk_at "s"
section
variable {P:bh}{w:cX}{K:aT}{h:aM->Option ai}{t:de}{f:az}{y:dm}
def uQ(F:ir K "__init__" "Coming.__init__" kY f y)(g:KS K h)(d:um P w K h t "Facts" 88 (spT K ax gy))(c:ji P w K h t "able_steps" 89 (gQ K jV))(b:ji P w K h t "top_row" 89 (Ue K xu)):cq P w K h t gU 90 f y ["self", "question"] (spT K aA cU):=
 F.Cc (Z:=[0]) (Ź:=[0]) (g:=jA) pb aA ſ ſ λj A e s H E i B a l=>
  have k:=pb.nd
  (aB (OR (b:=Z_) (c:= "Coming") (pv 0) (Sh ż) g.q) (aB ż (aB ż (aB ż (aB ż (aB (MD (c:= "Coming") (s1:=(.li (.fs "Row" []))) (pv 0) (Sn (O1 (c:= "Row") (ML b i rfl))) g.q) ż))))))
def uh(F:ir K "begin_row" "Coming.begin_row" kb f y)(g:KS K h)(d:um P w K h t "Row" 60 (QI K 0 jO))(c:fO P w K h t "Facts" "fitting" 61 (gQ K eG))(b:fO P w K h t "Coming" "gone_on" 61 (gQ K dW)):cq P w K h t gU 62 f y ["self", "number", "named", "atoms"] (spT K aA gH):=
 F.Cc (Z:=[0,4,5,1000005,2000000]) (Ź:=[0,4,5,1000005,2000000]) (g:=jb) kf aA ſ ſ λj A e s H E i B a l=>
  have k:=kf.nd
  (aB (HZ (i:=4) kf.nd rfl (.inl rfl) (H_ d i rfl ż)) (aB ż (aB ż (aB ż (aB ż (bQ (MB (c:= "Coming") (pv 0) (pv 4) g.q)))))))
def wN(F:ir K "spread" "Coming.spread" mE f y)(i:KS K h)(b:fO P w K h t "Facts" "fitting" 61 (gQ K eG))(c:fO P w K h t "Facts" "lifted" 61 (gQ K iM)):cq P w K h t gU 62 f y ["self"] (spT K aA dP):=
 F.Cc (Z:=[0,3,5,1000003,1000005,2000000]) (Ź:=[0,3,5,1000003,1000005,2000000]) (g:=kM) qv aA ſ ſ λe A d s H E j B a k=>
  have g:=qv.nd
  (aB ż (aB ż (bQ (Mx 1000000 cT ż ż))))
def ui(F:ir K "add_atoms" "Coming.add_atoms" ke f y)(g:KS K h)(b:fO P w K h t "Coming" "spread" 62 (spT K aA dP)):cq P w K h t gU 63 f y ["self", "atoms"] (spT K aA gI):=
 F.Cc (Z:=[0,2,1000002,2000000]) (Ź:=[0,2,1000002,2000000]) (g:=jc) nU aA ſ ſ λd A c s H E i B a j=>
  have e:=nU.nd
  by walk_at "o"
end
abbrev TD:=e2 eZ (e2 eZ (bp "Row" "reached" Sc) (e1 x8 (eV 5))) (bp "Coming" "full" db)
def hU:=
  (aZ (sS 3 0 "Coming" "rows" (e2 nY pc Fa))
   (aZ (sS 4 0 "Coming" "rows" pc)
   (aZ (dh 5 (mh [0] [4,3] (bp "Row" "reached" Sc)))
   (aZ (gC Z' 4 "Row" "reached" (mh [0] [4,3] (dY "Coming" "gone_on" dW db (aC (bp "Row" "reached" ge) (aC (bp "Row" "reached_around" ge) (aC (bp "Row" "fits" Sc) aN))))))
   (aZ (gC Z' 4 "Row" "reached_around" (mh [0] [4,3] (e2 Dc (bp "Row" "reached_around" ge) (bp "Row" "reached" Sc))))
   (dR (Al [0] [4,3] (cF TD))
   (p' 1 (mh [0] [4,3] (bp "Row" "number" Sc)))
   cH))))))
abbrev Í:=mh [0] [4,3] (aQ gr ul)
def kN:=
  (aZ (kq 1 Ê)
  (aZ (iu (P_ Fa Í) (gN 2)
  hU)
  (Hi 1)))
def kR:=Hl 1 6 aA kN
abbrev mF:=du É 7
def qw:bu ["self", "found", "place", "parent", "row", "ahead"] ["self"] (ay mF):=by walk_at "s"
abbrev Ë:=e2 eZ (bp "Row" "reached_around" Sc) (e2 bP ge Uf)
abbrev jp:=jY (cF (e2 eZ (bp "Row" "reached" Sc) Ò)) (cF Ë)
def eC:=
  (aZ (sS 4 0 "Coming" "rows" (e2 bP ge Fa))
   (dR (Al [0] [4] jp)
   (p' 1 (e2 bP ge u8))
   (p' 2 ge)))
abbrev Ô:=uA 0 "Coming" "rests"
def iC:=
  (aZ (yZ 1 0 "Coming" "settle" aA kR)
  (aZ (kq 2 Ê)
  (aZ (iu (iL Ô) (gN 3)
  eC)
  (aZ (gC Z_ 0 "Coming" "rests" pc)
  (dM (mP (eF (mM Db))))))))
def dZ:=ml 1 5 aA iC
abbrev jG:=du É 8
def jI:bu ["self", "found", "kept", "rest", "row"] ["self"] (ay jG):=by walk_at "s"
abbrev È:=e2 fR (e2 bP (eV 5) Fa) pc
abbrev ç:=aC (eV 5) wl
def fG:=
  (aZ (dh 6 (mh [0,1] [] (Mw (dD È) (dY "Coming" "moved_out" gG db ç) (eV 5))))
   (dR (jY (cF (e2 bP Rs lc)) (cF (e2 bP Rs Uf)))
   (p' 4 Rs)
   cH))
abbrev sB:=fF (aC (bp "Row" "number" Db) (aC pc (aC (bp "Coming" "full" db) (aC u8 aN))))
abbrev Å:=e2 eZ (bp "Row" "reached" Db) (bp "Coming" "full" db)
def jT:=
  (aZ (DH 1 0 "Coming" "rows")
  (aZ (dh 2 (mh [0] [] (aQ gr ul)))
  (aZ (kq 3 (By Ô))
  (aZ (dR (Al [0] [] (eT (cF Å)))
  (p' 3 (mh [0] [] sB))
  cH)
  (aZ (kq 4 Ê)
  (aZ (iu (iL (eF (wZ ge))) (gN 5)
  fG)
  (gC Z_ 0 "Coming" "rests" Sc)))))))
def gz:=ml 1 7 aA jT
abbrev lN:=du É 9
def lQ:bu ["self", "row", "place", "rests", "kept", "rest", "moved"] ["self"] (ay lN):=by walk_at "s"
section
variable {P:bh}{w:cX}{K:aT}{b:aM->Option ai}{h:de}{f:az}{j:dm}
def wO(F:ir K "settle" "Coming.settle" mF f j)(i:KS K b)(c:fO P w K b h "Coming" "gone_on" 61 (gQ K dW)):cq P w K b h gU 62 f j ["self"] (KU K aA kR):=
 F.Xf (Z:=[0,1,4,3,1000004,1000003,2000000]) (Ź:=[0,1,4,3,1000004,1000003,2000000]) (g:=kN) qw aA ſ ſ λe A d s H E k B a l=>
  have g:=qw.nd
  by walk_at "o"
def sV(F:ir K "newly_told" "Coming.newly_told" jG f j)(k:KS K b)(c:fO P w K b h "Coming" "settle" 62 (KU K aA kR)):cq P w K b h gU 63 f j ["self"] (spT K aA dZ):=
 F.Cc (Z:=[0,1,2,4,1000004,2000000]) (Ź:=[0,1,2,4,1000004,2000000]) (g:=iC) jI aA ſ ſ λg A d s H E e B a l=>
  have i:=jI.nd
  (aB (My (i:=1) jI.nd rfl (.inl rfl) c e (pv 0)) (aB ż (aB ż (uZ (own1:=[0,1,4,1000004,2000000]) 2 ż))))
def vF(F:ir K "end_row" "Coming.end_row" lN f j)(e:KS K b)(c:fO P w K b h "Coming" "moved_out" 61 (gQ K gG)):cq P w K b h gU 62 f j ["self"] (spT K aA gz):=
 F.Cc (Z:=[0,1,3,4]) (Ź:=[0,1,3]) (g:=jT) lQ aA ſ ſ λg A d s H E k B a l=>
  have i:=lQ.nd
  (aB (OO (i:=1) (c:= "Coming") lQ.nd rfl (.inl rfl) (pv 0) e.q) (aB ż (aB ż (aB ż (aB ż (aB ż (uZ (own1:=[0,1,3]) 4 ż)))))))
end
abbrev Tk:=eK (.str (ae "close"))
abbrev Do:=aC (e2 ux (bp "Coming" "opened" db) u8) aN
abbrev FM:=mh [0] [] (bp "Coming" "opened" db)
abbrev ß:=aC Tl aN
abbrev np:=eD (bW "Coming" "begin_row" aA gH 0 (jk (mP FM) (jk (mP (mh [0] [] (dY "Facts" "steps_for" fh (bp "Coming" "facts" db) ß))) Æ)))
abbrev wp:=eD (bW "Coming" "add_atoms" aA gI 0 (jk (mP (mh [0] [] (dY "Facts" "text_fact" fg (bp "Coming" "facts" db) ß))) kl))
abbrev Is:=aC Db (aC (e2 ux (aQ gr ul) Fa) Do)
abbrev æ:=eD (bW "Coming" "end_row" aA gz 0 kl)
def gk:=
  (aZ (dR (Al [0] [] (eT (cF (aQ mT Is))))
  F2
  cH)
  (aZ (eW Z_ 0 "Coming" "taken" (λi j=>i+j) Fa)
  (aZ (dR (dD (e2 fR am Tk))
  (aZ æ
   (dM (mP wf)))
  cH)
  (aZ (dR (dD (e2 fR am Ch))
  (aZ np
   (aZ (eW Z_ 0 "Coming" "opened" (λi j=>i+j) Fa)
   sK))
  wp)
  (dM (bW "Coming" "newly_told" aA dZ 0 kl))))))
def dQ:=ml 2 2 aA gk
abbrev oV:=du É 1
def sQ:bu ["self", "sign"] ["self", "sign"] (ay oV):=by walk_at "s"
def kI:=
  (aZ (p_ 0 "Sift" "coming" aA (kj "Coming" cU wl))
  (gC Z_ 0 "Sift" "numbers" wf))
def kP:=ml 2 2 d_ kI
abbrev my:=du (mv 21) 0
def qp:bu ["self", "question"] ["self", "question"] (ay my):=by walk_at "s"
abbrev â:=mM (e2 fA (bp "Sift" "numbers" db) pc)
def pQ:=
  (aZ (nV 2 (nZ "Sift" "coming" "Coming" "feed" aA dQ 0 wl))
  (aZ (gC Z_ 0 "Sift" "numbers" (eF (Tr [0] [] â)))
  (dM (mP pc))))
def ly:=ml 2 3 d_ pQ
abbrev qU:=du (mv 21) 1
def vv:bu ["self", "sign", "fresh"] ["self", "sign"] (ay qU):=by walk_at "s"
def kJ:=
  (p_ 0 "Lean" "coming" aA (kj "Coming" cU wl))
def kQ:=ml 2 2 eO kJ
abbrev mB:=du (mv 19) 0
def qr:bu ["self", "question"] ["self", "question"] (ay mB):=by walk_at "s"
def xO:=
  (dM (nZ "Lean" "coming" "Coming" "feed" aA dQ 0 wl))
def lA:=ml 2 2 eO xO
abbrev qV:=du (mv 19) 1
def vw:bu ["self", "sign"] ["self", "sign"] (ay qV):=by walk_at "s"
abbrev lm:=fF (aC (bp "Row" "number" db) (aC (bp "Row" "named" db) (aC (bp "Row" "atoms" db) aN)))
abbrev kw:=eF (CD (bp "Coming" "rows" Db) (pS Fa) pN)
def mX:=
  (aZ (dh 1 (bp "Lean" "coming" db))
  (aZ (dh 2 (eF (lZ (iL kw) [M] (gN 0) eU lm)))
  (dX (fF (aC (bp "Coming" "taken" Db) (aC (bp "Coming" "opened" Db) (aC pc (aC (eF (By (bp "Coming" "rests" Db))) aN))))))))
def kF:=ku 1 3 mX
abbrev iF:=du (mv 19) 4
abbrev qe:List aM:=["self", "coming", "rows"]
def iG:bu qe ["self"] (ay iF):=by walk_at "s"
section
variable {P:bh}{w:cX}{K:aT}{b:aM->Option ai}{h:de}{f:az}{t:dm}
def zj(F:ir K "feed" "Coming.feed" oV f t)(p:KS K b)(l:ji P w K b h "can_come" 63 (gQ K mT))(j:fO P w K b h "Coming" "end_row" 63 (spT K aA gz))(d:fO P w K b h "Coming" "begin_row" 63 (spT K aA gH))(k:fO P w K b h "Coming" "spread" 63 (spT K aA dP))(e:fO P w K b h "Coming" "add_atoms" 63 (spT K aA gI))(c:fO P w K b h "Coming" "newly_told" 63 (spT K aA dZ))(i:fO P w K b h "Facts" "steps_for" 63 (gQ K fh))(g:fO P w K b h "Facts" "text_fact" 63 (gQ K fg)):cq P w K b h gU 64 f t ["self", "sign"] (spT K aA dQ):=
 F.Cc (Z:=[0]) (Ź:=[0]) (g:=gk) sQ aA ſ ſ λn A m s H E q B a r=>
  have o:=sQ.nd
  by walk_at "o"
def wJ(F:ir K "__init__" "Sift.__init__" my f t)(i:KS K b)(c:um P w K b h "Coming" 90 (spT K aA cU)):cq P w K b h gU 92 f t ["self", "question"] (spT K d_ kP):=
 F.Cc (Z:=[0]) (Ź:=[0]) (g:=kI) qp d_ ſ ſ λe A d s H E j B a k=>
  have g:=qp.nd
  by walk_at "o"
def Ca(F:ir K "take" "Sift.take" qU f t)(i:KS K b)(c:fO P w K b h "Coming" "feed" 64 (spT K aA dQ)):cq P w K b h gU 65 f t ["self", "sign"] (spT K d_ ly):=
 F.Cc (Z:=[0]) (Ź:=[0]) (g:=pQ) vv d_ ſ ſ λe A d s H E j B a k=>
  have g:=vv.nd
  by walk_at "o"
def wK(F:ir K "__init__" "Lean.__init__" mB f t)(i:KS K b)(c:um P w K b h "Coming" 90 (spT K aA cU)):cq P w K b h gU 92 f t ["self", "question"] (spT K eO kQ):=
 F.Cc (Z:=[0]) (Ź:=[0]) (g:=kJ) qr eO ſ ſ λe A d s H E j B a k=>
  have g:=qr.nd
  by walk_at "o"
def Cb(F:ir K "take" "Lean.take" qV f t)(i:KS K b)(c:fO P w K b h "Coming" "feed" 64 (spT K aA dQ)):cq P w K b h gU 65 f t ["self", "sign"] (spT K eO lA):=
 F.Cc (Z:=[0]) (Ź:=[0]) (g:=xO) vw eO ſ ſ λe A d s H E j B a k=>
  have g:=vw.nd
  by walk_at "o"
def zg(F:ir K "asleep" "Lean.asleep" iF f t)(d:KS K b):cq P w K b h gU 1 f t ["self"] (gQ K kF):=
 F.x6 (Z:=[]) (Ź:=[]) (g:=mX) iG ſ λa A outer s H E e B g=>
  have c:=iG.nd
  (aB ż (aB (MC (i:=2) (Ź:=[]) (N:=[("row" : aM)]) (src:=[M]) (gE (outer:=ay iF) (oN:=qe) rfl (by decide +kernel) rfl rfl) rfl iG.nd rfl rfl ż (eP 0) ſ (e_ 0) (λC s H i=>⟨cN (i:=0) (show ([("row" : aM)]:List aM).Nodup by decide +kernel) rfl (.inl rfl),fB,ż⟩)) ż))
end
def Ml:=
  (aZ (dh 2 (e2 iR (e2 qb (e2 fA (e2 fA (e2 iR db (eK (.int 2147483647))) (e2 qb (e2 qb Db Db) (eK (.int 7919)))) (eK (.int 104729))) (eK (.int 48271))) (eK (.int 2147483647))))
  (dX (e2 iR (e2 fA (e2 qb pc pc) (e2 qb (eK (.int 69621)) Db)) (eK (.int 2147483629)))))
def BS:=ku 2 3 Ml
abbrev FO:=mv 23
def K7:bu ["_law_cell", "_law_turn", "_law_number"] ["_law_cell", "_law_turn"] (ay FO):=by walk_at "s"
abbrev Ü:=eK (.int 2147483587)
abbrev è:=aC (eV 5) aN
def xo:=
  (aZ (dh 7 (e2 iR Rs (aQ gr è)))
    (aZ (p' 4 (e2 iR (e2 bP (eV 5) Ñ) Ü))
    (Ba 5 Ñ (e2 kz (e2 bP (eV 5) Ñ) Ü))))
def xn:=
  (dh 8 (e2 iR (e2 fA (e2 qb (eV 8) (eK (.int 31))) (aQ BS (aC (eV 9) (aC (e2 fA Rs Db) aN)))) (eK (.int 2147483629))))
def xm:=
  (aZ (dh 10 (aQ BS (aC (e2 bP ge (e2 iR Rs (aQ gr FS))) (aC (e2 fA (e2 fA (e2 iR (eV 8) (eK (.int 1009))) Rs) Db) aN))))
   (p' 4 (e2 iR (e2 fA (e2 qb (eV 10) (eV 10)) (e2 qb (eK (.int 7)) Rs)) Ü)))
def Cy:=
  (aZ (dh 3 (e2 fA (eF (CD db pN (pS (eK (.int 63))))) (eF (gi wl))))
  (aZ (kq 4 Ê)
  (aZ (dR (dD (e2 fR (e2 iR (e2 kz (e2 bP ge u8) (eK (.int 50000))) lc) Fa))
  (aZ (kq 5 (lZ (iL ge) [M] (gN 0) eU (e2 kz db (eK (.int 100000)))))
   (aZ (iu (JF (e2 fA (e2 fA Db pc) Fa)) (gN 6)
   xo)
   (aZ (kq 4 (CD Sc (pS Db) pN))
   (rV (CD Sc pN (pS (e2 fA Fa (e2 iR (e2 bP Sc pc) pc))))))))
  cH)
  (aZ (dh 8 u8)
  (aZ (iu (iE ge) (Cz 6 9)
  xn)
  (aZ (iu (JF (e2 fA Fa (e2 iR (e2 kz (eV 8) (eK (.int 1009))) pc))) (gN 6)
  xm)
  (A' 4)))))))
def jC:=DI 3 11 Cy
abbrev vr:=mv 24
noncomputable abbrev Iw:List aM:=["_law_script", "_law_turn", "_law_most", "_law_cells_here", "_law_found", "_law_lefts", "_law_k", "_law_at", "_law_number", "_law_cell", "_law_other"]
def yY:bu Iw ["_law_script", "_law_turn", "_law_most"] (ay vr):=by walk_at "s"
def Cw:=
  (aZ (dh 1 (e2 bP (eF (pR jC (aC db (aC (eK (.int 40)) (aC Fa aN))))) u8))
  (aZ (dh 2 (JO (eK (.str (ae "abcdefabcde"))) pN (pS (e2 iR Db (eK (.int 12))))))
  (aZ (dh 3 (e2 iR (e2 kz Db (eK (.int 12))) (e2 fA (aQ gr sn) Fa)))
  (rV (lZ (iS (eK (.str (ae "mnopq")))) [M,Y 2,Y 3] (gN 0) eU (e2 fA (e2 fA (JO Db pN (pS pc)) db) (JO Db (pS pc) pN)))))))
def we:=ku 1 4 Cw
abbrev vp:=mv 25
noncomputable abbrev Iu:List aM:=["_law_script", "_law_number", "_law_stem", "_law_at"]
def vu:bu Iu ["_law_script"] (ay vp):=by walk_at "s"
abbrev bi:=e2 kz (eV 8) (eK (.int 7))
abbrev Op:=eK (.int 5)
abbrev lv:=jY (dD (e2 ux Sc Fa)) (ju (dD (e2 fR Sc Fa)) (dD (e2 fR (e2 iR bi (eK (.int 6))) u8)))
abbrev Ix:=dh 9 (e2 iR (e2 fA (eV 8) (e2 qb (e2 qb (eV 5) (e2 iR Rs lc)) Op)) (eK (.int 7)))
abbrev UF:=p' 3 (fF (aC Ch (aC (e2 bP Db (e2 iR (e2 iR bi (eK (.int 11))) Op)) aN)))
abbrev dL:=p' 3 (fF (aC Õ (aC (e2 bP pc (e2 iR bi Op)) aN)))
abbrev IN:=jY (dD (e2 fR ge wf)) (ju (dD (e2 Pk (eV 9) Uf)) (dD (e2 ux Sc u8)))
abbrev Ð:=ju (dD (e2 Pk (eV 9) Op)) (dD (e2 ux Sc u8))
def xl:=
  (aZ (dh 8 Ñ)
   (aZ (dR (dD (e2 fR Rs u8))
   (dh 5 (e2 iR bi Uf))
   cH)
   (aZ Ix
   (dR IN
   (aZ UF
    (dh 4 (e2 fA Sc Fa)))
   (dR Ð
    dL
    (dR lv
     (aZ (p' 3 (fF (aC Tk aN)))
      (dh 4 (e2 nY Sc Fa)))
     cH))))))
abbrev zn:=eF (gi (aC (eK (.str (ae "x"))) (aC (eK (.str (ae ""))) (aC (eK (.str (ae "y x"))) (aC (eK (.str (ae "\""))) (aC (eK (.str (ae "[a]"))) aN))))))
def Cu:=
  (aZ (dh 2 zn)
  (aZ (kq 3 Ê)
  (aZ (dh 4 u8)
  (aZ (dh 5 u8)
  (aZ (iu (iE db) (Cz 6 7)
  xl)
  (A' 3))))))
def t5:=DI 2 10 Cu
abbrev yQ:=mv 26
def DD:bu ["_law_cells_here", "_law_some", "_law_texts", "_law_signs_here", "_law_depth", "_law_lean", "_law_k", "_law_cell", "_law_number", "_law_kind"] ["_law_cells_here", "_law_some"] (ay yQ):=by walk_at "s"
def Mj:=
  (aZ (dR (dD (e2 fR db wf))
  (dM (mP u8))
  cH)
  (dM (Ot 0)))
def xS:=Az 1 1 0 Mj
abbrev FN:=mv 28
def K6:bu ["_law_draws"] ["_law_draws"] (ay FN):=by walk_at "s"
def HH:=
  (dX (R5 (w_ "int" db) (OL (dD (w_ "bool" db)))))
def l':=ku 1 1 HH
abbrev yO:=mv 31
def DB:bu ["_law_found"] ["_law_found"] (ay yO):=by walk_at "s"
section
variable {P:bh}{w:cX}{K:aT}{b:aM->Option ai}{j:de}{f:az}{h:dm}
def Rg(F:ir K "_law_mix" "_law_mix" FO f h):cq P w K b j gU 1 f h ["_law_cell", "_law_turn"] (gQ K BS):=
 F.x6 (Z:=[]) (Ź:=[]) (g:=Ml) K7 ſ λc A a s H E e B g=>
  have d:=K7.nd
  by walk_at "o"
def LD(F:ir K "_law_cells" "_law_cells" vr f h)(g:KS K b)(a:ji P w K b j "_law_mix" 1 (gQ K BS)):cq P w K b j gU 2 f h ["_law_script", "_law_turn", "_law_most"] (IU K jC):=
 F.V3 (Z:=[4,5]) (Ź:=[4,5]) (g:=Cy) yY ſ λd A outer s H E i B c=>
  have e:=yY.nd
  (aB ż (aB ż (aB (jX ż (aB (xa (i:=5) (Ź:=[]) (N:=[("_law_cell" : aM)]) (src:=[M]) (gE (outer:=ay vr) (oN:=Iw) rfl (by decide +kernel) rfl rfl) rfl yY.nd rfl rfl (jU (vP 3)) (eP 0) ſ (e_ 0) (λC s H k=>⟨cN (i:=0) (show ([("_law_cell" : aM)]:List aM).Nodup by decide +kernel) rfl (.inl rfl),fB,ż⟩)) (aB (u0 cT rfl ż (λB c=>ż) (λB c=>(aB ż (aB ż (bQ (H0 (pv 5) (vQ 7) ż)))))) ż)) fU) ż)))
def LB(F:ir K "_law_names" "_law_names" vp f h)(e:KS K b)(a:ji P w K b j "_law_cells" 2 (IU K jC)):cq P w K b j gU 3 f h ["_law_script"] (gQ K we):=
 F.x6 (Z:=[]) (Ź:=[]) (g:=Cw) vu ſ λc A outer s H E g B i=>
  have d:=vu.nd
  (aB ż (aB (mQ (i:=2) vu.nd rfl (.inr rfl) ż) (aB (mQ (i:=3) vu.nd rfl (.inr rfl) ż) (bQ (yz (qJ (Ź:=[]) (N:=[("_law_letter" : aM),("_law_stem" : aM),("_law_at" : aM)]) (src:=[M,Y 2,Y 3]) (gE (outer:=ay vp) (oN:=Iu) rfl (by decide +kernel) rfl rfl) rfl (Sb xc) (eP 0) ſ (e_ 0) (λC s H k=>⟨cN (i:=0) (show ([("_law_letter" : aM),("_law_stem" : aM),("_law_at" : aM)]:List aM).Nodup by decide +kernel) rfl (.inl rfl),fB,ż⟩)))))))
def Lz(F:ir K "_law_signs" "_law_signs" yQ f h)(e:KS K b):cq P w K b j gU 1 f h ["_law_cells_here", "_law_some"] (IU K t5):=
 F.V3 (Z:=[3]) (Ź:=[3]) (g:=Cu) DD ſ λc A a s H E g B i=>
  have d:=DD.nd
  by walk_at "o"
def Rf(F:ir K "_law_pop" "_law_pop" FN f h):cq P w K b j gU 1 f h ["_law_draws"] (BZ K 0 xS):=
 F.uw (Z:=[0]) (Ź:=[0]) (g:=Mj) K6 0 ſ ſ λd A c s H E g B a i=>
  have e:=K6.nd
  (aB ż (bQ (yy (R_ (pv 0)))))
def Lx(F:ir K "_law_whole" "_law_whole" yO f h)(a:KS K b):cq P w K b j gU 1 f h ["_law_found"] (gQ K l'):=
 F.x6 (Z:=[]) (Ź:=[]) (g:=HH) DB ſ λd A c s H E g B i=>
  have e:=DB.nd
  (bQ (fY (Sj (cA (T:= "int") ſ rfl a.y rfl a.y (by decide +kernel) (vQ 0)) (Se (Sf (cA (T:= "bool") ſ rfl a.y rfl a.y (by decide +kernel) (vQ 0)))))))
end
abbrev AC:=eK (.int 8)
def Ct(c:List D->Option (D×List D))(a:List D->Option (D×List D)):DG:=
  (aZ (nV 3 (uy xS 0 aN))
  (aZ (dh 4 (e2 iR ge AC))
  (aZ (dR (jY (dD (e2 Pk Sc lc)) (ju (dD (e2 fR Db u8)) (dD (e2 ux Sc lc))))
  (dM (mP (fF (aC Û aN))))
  cH)
  (aZ (dR (dD (e2 fR Sc lc))
  (dM (mP (fF (aC Õ (aC (e2 bP zn (e2 iR (e2 kz ge AC) Op)) aN)))))
  cH)
  (aZ (dR (dD (e2 Pk Sc Op))
  (dM (x9 (jk (mP pi) (jk (uy a 0 (aC (e2 nY Db Fa) sn)) kl))))
  cH)
  (aZ (dR (dD (e2 fR Sc Op))
  (dM (mP (fF (aC pi (aC (eF (gi (aC (fF (aC (eK (.str (ae "own"))) (aC cr (aC (fF (aC Û aN)) aN)))) aN))) aN)))))
  cH)
  (dM (x9 (jk (mP (e2 bP (eF (gi ci)) (e2 nY Sc (eK (.int 6))))) (jk (UR (JF (e2 iR (e2 kz ge AC) (eK (.int 4)))) [M,Y 0,Y 2,Y 1] (gN 0) (uy c 1 (aC (e2 nY ge Fa) sn)) 1 0) kl))))))))))
abbrev ym:=mv 29
noncomputable abbrev M1:List aM:=["_law_draws", "_law_deep", "_law_some", "_law_number", "_law_kind"]
def Hh:bu M1 ["_law_draws", "_law_deep", "_law_some"] (ay ym):=by walk_at "s"
def xk(a:List D->Option (D×List D))(c:List D->Option (D×List D)):DG:=
  (aZ (nV 5 (uy xS 0 aN))
   (aZ (dh 6 (e2 bP (e2 fA (eF (CD pc pN (pS (eK (.int 4))))) (eF (gi (aC cr (aC cr (aC cr aN)))))) (e2 iR (e2 kz (eV 5) lc) (eK (.int 7)))))
   (Hk 3 (x9 (jk (mP (e2 bP (eF (gi (aC (eK (.str (ae "own"))) (aC PP aN)))) (e2 iR (eV 5) lc))) (jk (mP Rs) (jk (uy a 0 (aC Db sn)) kl)))))))
def yu(c:List D->Option (D×List D))(a:List D->Option (D×List D)):DG:=
  (aZ (kq 3 Ê)
  (aZ (Bb (V8 (m2 fA (mP Fa) (m2 iR (uy xS 0 aN) (mP Uf)))) (gN 4)
  (xk c a))
  (B1 3)))
abbrev yP:=mv 30
def DC:bu ["_law_draws", "_law_deep", "_law_some", "_law_steps_here", "_law_k", "_law_number", "_law_name"] ["_law_draws", "_law_deep", "_law_some"] (ay yP):=by walk_at "s"
mutual
noncomputable def hV:Nat->List D->Option (D×List D)
 |0=>λ_=>M
 |n+1=>Az 3 5 0 (Ct (hV n) (hW n))
noncomputable def hW:Nat->List D->Option (D×List D)
 |0=>λ_=>M
 |n+1=>Az 3 7 0 (yu (hV n) (hW n))
end
section
variable {P:bh}{w:cX}{K:aT}{b:aM->Option ai}{h:de}{f:az}{j:dm}
def Og(F:ir K "_law_wish" "_law_wish" ym f j)(l:KS K b)(e:ji P w K b h "_law_pop" (n+1) (BZ K 0 xS))(c:ji P w K b h "_law_steps" (n+1) (BZ K 0 (hW n)))(d:ji P w K b h "_law_wish" (n+1) (BZ K 0 (hV n))):cq P w K b h gU (n+1+1) f j ["_law_draws", "_law_deep", "_law_some"] (BZ K 0 (hV (n+1))):=
 F.uw (Z:=[0]) (Ź:=[0]) (g:=(Ct (hV n) (hW n))) Hh 0 ſ ſ λi A outer s H E m B a g=>
  have k:=Hh.nd
  (aB ż (aB ż (aB ż (aB ż (aB ż (aB ż (bQ (yy (R9 (tq ż (tq (Vs (i0:=1) (j0:=0) (N:=[("_law_k" : aM),("_law_draws" : aM),("_law_some" : aM),("_law_deep" : aM)]) (src:=[M,Y 0,Y 2,Y 1]) (gE (outer:=ay ym) (oN:=M1) rfl (by decide +kernel) rfl rfl) rfl ż (eP 0) ſ (sZ _ 0 1) (λC s H o=>⟨cN (i:=0) (show ([("_law_k" : aM),("_law_draws" : aM),("_law_some" : aM),("_law_deep" : aM)]:List aM).Nodup by decide +kernel) rfl (nB rfl),fB,Vr λB a g=>ż⟩)) CI)))))))))))
def Ly(F:ir K "_law_steps" "_law_steps" yP f j)(i:KS K b)(e:ji P w K b h "_law_pop" (n+1) (BZ K 0 xS))(c:ji P w K b h "_law_wish" (n+1) (BZ K 0 (hV n))):cq P w K b h gU (n+1+1) f j ["_law_draws", "_law_deep", "_law_some"] (BZ K 0 (hW (n+1))):=
 F.uw (Z:=[0,3]) (Ź:=[0,3]) (g:=(yu (hV n) (hW n))) DC 0 ſ ſ λk A d s H E m B a g=>
  have l:=DC.nd
  (aB ż (aB (OQ cT rfl (GG rfl i.y ż) (λB g=>ż) (λB g=>(aB ż (aB ż (bQ (OS (pv 3) ż)))))) (bQ (Mz (pv 3)))))
end
local macro_rules | `(tactic|walk_at "i") => `(tactic|(intros; walk_at "o"))
def t2:=hW 12
section
variable {P:bh}{w:cX}{K:aT}{b:aM->Option ai}{h:de}{f:az}{t:dm}
def lW:=
  (dX (dY "Coming" "waits" iN (bp "Sift" "coming" db) aN))
def fc:=ku 1 1 lW
abbrev nE:=du (mv 21) 3
def rR:bu ["self"] ["self"] (ay nE):=by walk_at "s"
def xY(F:ir K "waiting" "Sift.waiting" nE f t)(g:KS K b)(a:fO P w K b h "Coming" "waits" 1 (gQ K iN)):cq P w K b h gU 2 f t ["self"] (gQ K fc):=
 F.x6 (Z:=[]) (Ź:=[]) (g:=lW) rR ſ λd A c s H E i B j=>
  have e:=rR.nd
  by walk_at "o"
end
abbrev no:=e2 bP Sc u8
abbrev Ã:=e2 bP db ge
def nz:=
  (dR (dD (e2 fR no Ch))
   (aZ (p' 2 Â)
    (dh 3 (e2 nY (aQ gr sn) Fa)))
   (dR (dD (e2 fR no Tk))
    (aZ (Ba 2 ge (eK (.bl Z_)))
     (dh 3 (e2 bP Ã Uf)))
    cH))
def Cv:=
  (aZ (kq 2 Ê)
  (aZ (dh 3 Ý)
  (aZ (iu (iL Db) (gN 4)
  nz)
  (A' 2))))
def Ab:=DI 2 5 Cv
abbrev BY:=mv 32
def tU:bu ["_law_nodes_here", "_law_signs_here", "_law_found", "_law_here", "_law_sign"] ["_law_nodes_here", "_law_signs_here"] (ay BY):=by walk_at "s"
section
variable {P:bh}{w:cX}{K:aT}{a:aM->Option ai}{b:de}{f:az}{c:dm}
def Oh(F:ir K "_law_open" "_law_open" BY f c)(d:a "len" = M):cq P w K a b gU 1 f c ["_law_nodes_here", "_law_signs_here"] (IU K Ab):=
 F.V3 (Z:=[2]) (Ź:=[2]) (g:=Cv) tU ſ λi A e s H E g B h=>
  (aB (OM (i:=2) tU.nd rfl (.inl rfl) (zS dS))
  (aB (mQ (i:=3) tU.nd rfl (.inl rfl) (Sg (dq cM)))
  (aB (u0 cT rfl (jU (vP 1)) (λB h=>(yC (cN (i:=4) tU.nd rfl (.inl rfl)))) (λB h=>
  (bQ (jX (mO (D9 g) (dq (jM (vQ 4) (dq cM))) (dq xc) (ki _))
   (aB (R8 (pv 2) vZ)
    (bQ (mQ (i:=3) tU.nd rfl (.inl rfl) (rZ LF (dq (nJ rfl d (dvo (pv 2)))) (dq cM)))))
   (bQ (jX (mO (D9 g) (dq (jM (vQ 4) (dq cM))) (dq xc) (ki _))
    (aB (H0 (pv 2) (vQ 3) vZ)
     (bQ (mQ (i:=3) tU.nd rfl (.inl rfl) (jM (dq (jM (vQ 0) (vQ 3))) (dq cM)))))
    fU))))))
  (bQ (ON (pv 2))))))
end
abbrev Ev:=w_ "list" db
abbrev Ø:=ju (eT (cF (w_ "tuple" db))) (eT (cF Ev))
abbrev Ù:=jY (cF (w_ "int" db)) (cF (w_ "str" db))
def vT(d:List D->Option D):DG:=
  (aZ (dR (cF (w_ "bool" db))
  (dX (eK (.int 100000)))
  cH)
  (aZ (dR Ù
  (dX Fa)
  cH)
  (aZ (dR Ø
  (dX (eK (.int 100000)))
  cH)
  (dX (e2 fA Fa (aQ uR (aC (eF (lZ (OH db) [M] (gN 0) eU (aQ d bn))) aN)))))))
abbrev tS:=mv 33
abbrev E_:List aM:=["_law_value"]
def IX:bu E_ ["_law_value"] (ay tS):=by walk_at "s"
def gx:Nat->List D->Option D
 |0=>λ_=>M
 |n+1=>ku 1 1 (vT (gx n))
section
variable {P:bh}{w:cX}{K:aT}{a:aM->Option ai}{b:de}{f:az}{c:dm}
def Jl(F:ir K "_law_pieces" "_law_pieces" tS f c)(i:a "bool" = M)(l:a "int" = M)(d:a "isinstance" = M)(h:a "list" = M)(k:a "str" = M)(j:a "sum" = M)(g:a "tuple" = M)(e:ji P w K a b "_law_pieces" (n+0) (gQ K (gx n))):cq P w K a b gU (n+0+1) f c ["_law_value"] (gQ K (gx (n+1))):=
 F.x6 (Z:=[]) (Ź:=[]) (g:=(vT (gx n))) IX ſ λp A m s H E o B q=>
  (aB (jX (cp (dq (cA (T:= "bool") ſ rfl d rfl i (by decide +kernel) (vQ 0))))
  (bQ (fY cM))
  fU)
  (aB (jX (PW.pt (pT (cp (dq (cA (T:= "int") ſ rfl d rfl l (by decide +kernel) (vQ 0)))) (qd (cp (dq (cA (T:= "str") ſ rfl d rfl k (by decide +kernel) (vQ 0)))))))
  (bQ (fY cM))
  fU)
  (aB (jX (PW.pt (GC (mN (cp (dq (cA (T:= "tuple") ſ rfl d rfl g (by decide +kernel) (vQ 0))))) (CH (mN (cp (dq (cA (T:= "list") ſ rfl d rfl h (by decide +kernel) (vQ 0))))))))
  (bQ (fY cM))
  fU)
  (bQ (fY (rZ wQ (dq cM) (dq (GH rfl rfl j (dq (df (qJ (Ź:=[]) (N:=[("_law_one" : aM)]) (src:=[M]) (gE (outer:=ay tS) (oN:=E_) rfl (by decide +kernel) rfl rfl) rfl (Qf (vP 0)) (eP 0) ſ (e_ 0) (λC s H r=>⟨cN (i:=0) (show ([("_law_one" : aM)]:List aM).Nodup by decide +kernel) rfl (.inl rfl),fB,(hR e o rfl (bH (vP 0) dS))⟩))))))))))))
end
def mS(d:List D->Option D):DG:=
  (dh 1 (e2 Ec Db (fF (aC (aQ d sn) aN))))
def yw(d:List D->Option D):DG:=
  (aZ (dR (cF Ev)
  (rV (lZ Á [M] (gN 0) eU (aQ d bn)))
  cH)
  (aZ (dR (ju (cF (w_ "tuple" db)) (dD (e2 ux (aQ gr bn) u8)))
  (aZ (dh 1 (fF aN))
   (aZ (iu (OH db) (gN 2)
   (mS d))
   (dX Db)))
  cH)
  (dX db)))
abbrev oU:=mv 34
abbrev C3:List aM:=["_law_value", "_law_found", "_law_one"]
def lP:bu C3 ["_law_value"] (ay oU):=by walk_at "s"
def iK:Nat->List D->Option D
 |0=>λ_=>M
 |n+1=>ku 1 3 (yw (iK n))
section
variable {P:bh}{w:cX}{K:aT}{a:aM->Option ai}{b:de}{f:az}{c:dm}
def D6(F:ir K "_law_again" "_law_again" oU f c)(d:a "isinstance" = M)(i:a "len" = M)(h:a "list" = M)(g:a "tuple" = M)(e:ji P w K a b "_law_again" (n+0) (gQ K (iK n))):cq P w K a b gU (n+0+1) f c ["_law_value"] (gQ K (iK (n+1))):=
 F.x6 (Z:=[]) (Ź:=[]) (g:=(yw (iK n))) lP ſ λl A outer s H E j B k=>
  (aB (jX (cp (dq (cA (T:= "list") ſ rfl d rfl h (by decide +kernel) (vQ 0))))
  (bQ (yz (qJ (Ź:=[]) (N:=[("_law_one" : aM)]) (src:=[M]) (gE (outer:=ay oU) (oN:=C3) rfl (by decide +kernel) rfl rfl) rfl (jU (vP 0)) (eP 0) ſ (e_ 0) (λC s H m=>⟨cN (i:=0) (show ([("_law_one" : aM)]:List aM).Nodup by decide +kernel) rfl (.inl rfl),fB,(hR e j rfl (bH (vP 0) dS))⟩))))
  fU)
  (aB (jX (PW.pt (GC (cp (dq (cA (T:= "tuple") ſ rfl d rfl g (by decide +kernel) (vQ 0)))) (CH (mO LG (dq (nJ rfl i (vQ 0))) (dq cM) (ki _)))))
  (aB (mQ (i:=1) lP.nd rfl (.inl rfl) (CJ dS))
   (aB (u0 cT rfl (Qf (vP 0)) (λB k=>(yC (cN (i:=2) lP.nd rfl (.inl rfl)))) (λB k=>
   (bQ (mQ (i:=1) lP.nd rfl (.inl rfl) (rZ Oj (vQ 1) (dq (CJ (bH (hR e j rfl (bH (vP 2) dS)) dS))))))))
   (bQ (fY (vP 1)))))
  fU)
  (bQ (fY (vP 0)))))
end
def mV(e:List D->Option D)(d:List D->Option D):DG:=
  (dX (aQ uR (aC (eF (lZ Á [M] (gN 0) eU (e2 fA Fa (aQ d on)))) aN)))
abbrev lH:=mv 35
abbrev uB:List aM:=["_law_steps_here"]
def yX:bu uB ["_law_steps_here"] (ay lH):=by walk_at "s"
def oM(d:List D->Option D)(e:List D->Option D):DG:=
  (aZ (dR wS
  (dX (e2 fA Fa (aQ d Þ)))
  cH)
  (aZ (dR (dD (e2 (Gf Z_) ol (eF (gi ci))))
  (dX (e2 fA Fa (aQ uR (aC (eF (lZ wv [M] (gN 0) eU (aQ e bn))) aN))))
  cH)
  (dX Fa)))
abbrev qT:=mv 36
abbrev BR:List aM:=["_law_wish_here"]
def FY:bu BR ["_law_wish_here"] (ay qT):=by walk_at "s"
mutual
def dn:Nat->List D->Option D
 |0=>λ_=>M
 |n+1=>ku 1 1 (mV (dn n) (eI n))
def eI:Nat->List D->Option D
 |0=>λ_=>M
 |n+1=>ku 1 1 (oM (dn n) (eI n))
end
section
variable {P:bh}{w:cX}{K:aT}{a:aM->Option ai}{b:de}{f:az}{c:dm}
def zc(F:ir K "_law_many_tuples" "_law_many_tuples" lH f c)(e:a "sum" = M)(d:ji P w K a b "_law_many_in" (n+0) (gQ K (eI n))):cq P w K a b gU (n+0+1) f c ["_law_steps_here"] (gQ K (dn (n+1))):=
 F.x6 (Z:=[]) (Ź:=[]) (g:=(mV (dn n) (eI n))) yX ſ λh A outer s H E g B i=>
  (bQ (fY (GH rfl rfl e (dq (df (qJ (Ź:=[]) (N:=[("_law_step" : aM)]) (src:=[M]) (gE (outer:=ay lH) (oN:=uB) rfl (by decide +kernel) rfl rfl) rfl (jU (vP 0)) (eP 0) ſ (e_ 0) (λC s H j=>⟨cN (i:=0) (show ([("_law_step" : aM)]:List aM).Nodup by decide +kernel) rfl (.inl rfl),fB,(rZ wQ (dq cM) (dq (hR d g rfl (bH (jM (vQ 0) (dq cM)) dS))))⟩)))))))
def Gb(F:ir K "_law_many_in" "_law_many_in" qT f c)(g:a "sum" = M)(d:ji P w K a b "_law_many_tuples" (n+0) (gQ K (dn n)))(e:ji P w K a b "_law_many_in" (n+0) (gQ K (eI n))):cq P w K a b gU (n+0+1) f c ["_law_wish_here"] (gQ K (eI (n+1))):=
 F.x6 (Z:=[]) (Ź:=[]) (g:=(oM (dn n) (eI n))) FY ſ λj A h s H E i B k=>
  (aB (jX (mO (D9 i) (dq (jM (vQ 0) (dq cM))) (dq xc) (ki _))
  (bQ (fY (rZ wQ (dq cM) (dq (hR d i rfl (bH (jM (vQ 0) (dq cM)) dS))))))
  fU)
  (aB (jX (mO UI (dq (jM (vQ 0) (dq cM))) (dq (df (zS (bH xc (bH xc dS))))) rfl)
  (bQ (fY (rZ wQ (dq cM) (dq (GH rfl rfl g (dq (df (qJ (Ź:=[]) (N:=[("_law_one" : aM)]) (src:=[M]) (gE (outer:=ay qT) (oN:=BR) rfl (by decide +kernel) rfl rfl) rfl (jU (jM (vQ 0) (dq cM))) (eP 0) ſ (e_ 0) (λC s H l=>⟨cN (i:=0) (show ([("_law_one" : aM)]:List aM).Nodup by decide +kernel) rfl (.inl rfl),fB,(hR e i rfl (bH (vP 0) dS))⟩)))))))))
  fU)
  (bQ (fY cM))))
end
def tH:=gx 12
def ma:=iK 12
def kD:=dn 12
abbrev xz:=aC Sc aN
abbrev ä:=e2 fR (aQ gr xz) u8
abbrev Ps:=jY (dD ä) (jY (eT (cF (aQ l' (aC no aN)))) (dD (e2 uj no (e2 bP Db ge))))
abbrev à:=w_ "tuple" Sc
def wb:=
  (aZ (dh 4 Ã)
   (aZ (dR (jY (eT (cF à)) Ps)
   No
   cH)
   (dR (dD (e2 ux (e2 nY (aQ tH xz) Fa) pc))
   No
   cH)))
def IB:=
  (aZ (dR (jY (eT (cF Ev)) (dD (e2 uj (aQ gr bn) (aQ gr wl))))
  No
  cH)
  (aZ (iu (JF (aQ gr wl)) (gN 3)
  wb)
  (dX Â)))
def xR:=ku 3 5 IB
abbrev FK:=mv 38
def FX:bu ["_law_found", "_law_numbers", "_law_most", "_law_k", "_law_one"] ["_law_found", "_law_numbers", "_law_most"] (ay FK):=by walk_at "s"
section
variable {P:bh}{w:cX}{K:aT}{a:aM->Option ai}{b:de}{f:az}{c:dm}
def Rc(F:ir K "_law_row" "_law_row" FK f c)(d:a "isinstance" = M)(e:a "len" = M)(k:a "list" = M)(i:a "range" = M)(h:a "tuple" = M)(j:ji P w K a b "_law_whole" 19 (gQ K l'))(g:ji P w K a b "_law_pieces" 19 (gQ K tH)):cq P w K a b gU 20 f c ["_law_found", "_law_numbers", "_law_most"] (gQ K xR):=
 F.x6 (Z:=[]) (Ź:=[]) (g:=IB) FX ſ λo A m s H E l B n=>
  (aB (jX (PW.pt (pT (mN (cp (dq (cA (T:= "list") ſ rfl d rfl k (by decide +kernel) (vQ 0))))) (qd (mO (D7 l) (dq (nJ rfl e (vQ 0))) (dq (nJ rfl e (vQ 1))) (ki _)))))
  (bQ (fY vZ))
  fU)
  (aB (u0 cT rfl (xb rfl i (dq (nJ rfl e (vQ 1)))) (λB n=>(yC (cN (i:=3) FX.nd rfl (.inl rfl)))) (λB n=>
  (aB (mQ (i:=4) FX.nd rfl (.inl rfl) (jM (vQ 0) (vQ 3)))
   (aB (jX (PW.pt (pT (mN (cp (dq (cA (T:= "tuple") ſ rfl d rfl h (by decide +kernel) (vQ 4))))) (pT (mO (D9 l) (dq (nJ rfl e (vQ 4))) (dq cM) (ki _)) (pT (mN (cp (dq (hR j l rfl (bH (jM (vQ 4) (dq cM)) dS))))) (qd (mO (D7 l) (dq (jM (vQ 4) (dq cM))) (dq (jM (vQ 1) (vQ 3))) (ki _)))))))
   (bQ (fY vZ))
   fU)
   (bQ (jX (mO LG (dq (rZ LF (dq (hR g l rfl (bH (vP 4) dS))) (dq cM))) (vQ 2) (ki _))
   (bQ (fY vZ))
   fU))))))
  (bQ (fY vZ))))
end
def tI(a:List Int):D :=.tup (a.map .int)
theorem oH{K:aT}:∀a:List Int,be K G (a.map D.int) (a.map V.int)
 |[] =>.nil|_::a =>.cons (bE.mpr rfl) (oH a)
def B7{K:aT}(h:G t=Y (.tup (a.map V.int))):cI K G (tI a) (.ref t):=cY.mpr ⟨t,_,rfl,h,oH a⟩
def nj{X:Cx}(h:ji X.prog X.w X.K X.mg X.base x k d)(I:gc k X.A)(j:Gl X x)(N:PA X (e::a) t)(A:autoParam ((x==("__debug__" : aM))=false) Ű)(B:autoParam (av (e::a) X.env=(Z_,eval e X.env)::av a X.env) Ų)(C:autoParam ((dt u (av a X.env)).any (·.1)=false) Ų):PE X (.Call (.Name x p) (e::a) [] u) (KI d [] E0 t):=by
 obtain⟨f,L,g,c,m,i,b⟩:=h.ex;exact vB c I j m i b .nil pj N A B C
abbrev mx:=mv 37
def jH:bu ["_law_value", "_law_one"] ["_law_value"] (ay mx):=by walk_at "s"
def NF:Sp:=λb H Q _=>∃n,b=[.int n]/\∀a,a_ H a->Q .eN a
def Ud:Sp:=λb H Q _=>∃(t:az) (c:List Int),b=[.ref t]/\H t=Y (.tup (c.map V.int))/\∀a,a_ H a->Q .eN a
def LI(H:Hp)(a:az)(b:List V):Prop:=H a=Y (.lst b)/\∀u∈b,∃(t:az) (c:List Int),u=.ref t/\H t=Y (.tup (c.map V.int))
def Uc:Sp:=λf H Q _=>∃a e,f=[.ref a]/\LI H a e/\e.length<=100000/\∀d c,LI d a c->(∀b o,b≠a->H b=Y o->d b=Y o)->Q .eN d
def Ub:Sp:=λg H Q _=>∃t i j a b e d,g=[.ref t]/\H t=Y (.tup [.int i,.int j,.ref a,.ref b])/\a≠b/\LI H a e/\LI H b d/\e.length<=100000/\d.length<=100000/\∀f,(∀c o,c≠a->c≠b->H c=Y o->f c=Y o)->Q .eN f
def EC{K:aT}{v:V}(r:cI K H d v):iQ K [] H H [Y v,x] [Y d,M]:=by
 refine⟨rfl,λi e h =>?_,λj r p h=>by cases h⟩;rcases i with _|_|i<;>cases h
 exact⟨v,rfl,r⟩
def LI.rep{K:aT}(h:LI H a b):∃c,cI K H (.lst c) (.ref a):=by
 have:∀b:List V,(∀u∈b,∃(t:az) (d:List Int),u=.ref t/\H t=Y (.tup (d.map V.int)))->∃c,be K H c b:=λb=>by
  induction b with
  |nil=>exact λ_=>⟨[],.nil⟩
  |cons u b ih=>
   intro g;obtain⟨t,d,rfl,e⟩:=g u au;obtain⟨c,r⟩:=ih λu m=>g u (ao _ m)
   exact⟨tI d::c,.cons (B7 e) r⟩
 obtain⟨c,r⟩:=this b h.2;exact⟨c,bZ.mpr ⟨a,b,rfl,h.1,r⟩⟩
def LI.same{b:Hp}{a:az}(h:LI H a d)(e:b a=H a)(s:∀t c,H t=Y (.tup c)->b t=Y (.tup c)):LI b a d:=
 ⟨e.trans h.1,λu m=>by obtain⟨t,f,rfl,q⟩:=h.2 u m;exact⟨t,f,rfl,s _ _ q⟩⟩
section
variable {P:bh}{w:cX}{K:aT}{J:aM->Option ai}{O:de}{f:az}{L:dm}
def xJ(F:ir K "_law_spoiled" "_law_spoiled" mx f L)(k:KS K J)(e:ji P w K J O "_law_spoiled" 0 c):cq P w K J O gU 1 f L ["_law_value"] NF:=by
 refine F.ok jH (λb H Q E h =>?_) (λg A a s H b Q E d h =>?_)
 ·obtain⟨n,rfl,_⟩:=h
  rfl
 ·obtain⟨n,rfl,q⟩:=h
  refine⟨_,cW (ni (PW.pt (pT (Z:=[]) (cp (dq (cA (T:= "tuple") ſ rfl k.y rfl k.y (by decide +kernel) (vQ 0)))) (qd (cp (dq (cA (T:= "list") ſ rfl k.y rfl k.y (by decide +kernel) (vQ 0)))))))
    (dE (wH cT rfl (y_ (pv 0)) (cN (i:=1) jH.nd rfl (.inl rfl)) (dE (gJ (nj e d rfl (bM (pv 1) cG)))))) iZ)
   (dE (ni (cp (Z:=[]) (dq (cA (T:= "list") ſ rfl k.y rfl k.y (by decide +kernel) (vQ 0))))
    (dE (gJ (rX dC PySem.F.slot_list_append PySem.F.type_list_append gX (pv 0) (bM (qa (bM kg cG)) cG)))) iZ)),?_⟩
  refine⟨H,[Y (.int n),M],Z_,a_.refl _,EC (bE.mpr rfl),rfl,λp i l=>uk ?_⟩
  exact⟨i,[Y (.int n),M],Z_,a_.refl _,EC (bE.mpr rfl),rfl,λo m j=>uk (q _ (l.hh.trans j.hh))⟩
def D3(F:ir K "_law_spoiled" "_law_spoiled" mx f L)(k:KS K J)(r:ji P w K J O "_law_spoiled" 1 NF):cq P w K J O gU 2 f L ["_law_value"] Ud:=by
 refine F.ok jH (λm H Q E h =>?_) (λu A g s H m Q E o h =>?_)
 ·obtain⟨t,a,rfl,_⟩:=h
  rfl
 ·obtain⟨t,a,rfl,c,q⟩:=h
  refine⟨_,cW (ni (PW.pt (pT (Z:=[]) (cp (dq (cA (T:= "tuple") ſ rfl k.y rfl k.y (by decide +kernel) (vQ 0)))) (qd (cp (dq (cA (T:= "list") ſ rfl k.y rfl k.y (by decide +kernel) (vQ 0)))))))
    (dE (wH cT rfl (y_ (pv 0)) (cN (i:=1) jH.nd rfl (.inl rfl)) (dE (gJ (nj r o rfl (bM (pv 1) cG)))))) iZ)
   (dE (ni (cp (Z:=[]) (dq (cA (T:= "list") ſ rfl k.y rfl k.y (by decide +kernel) (vQ 0))))
    (dE (gJ (rX dC PySem.F.slot_list_append PySem.F.type_list_append gX (pv 0) (bM (qa (bM kg cG)) cG)))) iZ)),?_⟩
  refine⟨H,[Y (tI a),M],Z',a_.refl _,EC (B7 c),rfl,λI y d=>uU ?_⟩
  refine⟨.ref t,rfl,t,rfl,⟨_,.of (d.hh _ _ c)⟩,?_⟩
  refine CC (K:=K) (a:=t) (xs:=a.map V.int) (λi b C=>a_ y C/\∃x,b=[Y (.ref t),x]) ⟨a_.refl _,M,rfl⟩ (λi b C _ e =>.of (e.1 _ _ (d.hh _ _ c))) ?_ ?_
  ·rintro i x b C j ⟨S,l,rfl⟩
   rw[aF]at j
   obtain⟨n,_,rfl⟩:=ah.1 j
   exact⟨_,rfl,n,rfl,λD v=>⟨S.trans v,_,rfl⟩⟩
  ·rintro b C ⟨S,l,rfl⟩
   have p:C t=Y (.tup (a.map V.int)):=S _ _ (d.hh _ _ c)
   exact⟨C,[Y (tI a),M],Z_,a_.refl _,EC (B7 p),rfl,λG B z=>uk (q _ ((d.hh.trans S).trans z.hh))⟩
def D2(F:ir K "_law_spoiled" "_law_spoiled" mx f L)(k:KS K J)(d:ji P w K J O "_law_spoiled" 2 Ud):cq P w K J O gU 3 f L ["_law_value"] Uc:=by
 refine F.ok jH (λv H Q E h =>?_) (λKo A B s H v Q E hr h =>?_)
 ·obtain⟨a,c,rfl,_⟩:=h
  rfl
 ·obtain⟨a,c,rfl,y,hl,q⟩:=h
  have V:100000<bc:=by rw[fH];decide
  refine⟨_,cW (ni (PW.pt (pT (Z:=[]) (cp (dq (cA (T:= "tuple") ſ rfl k.y rfl k.y (by decide +kernel) (vQ 0)))) (qd (cp (dq (cA (T:= "list") ſ rfl k.y rfl k.y (by decide +kernel) (vQ 0)))))))
    (dE (wH cT rfl (yq (pv 0)) (cN (i:=1) jH.nd rfl (.inl rfl)) (dE (gJ (nj d hr rfl (bM (pv 1) cG)))))) iZ)
   (dE (ni (cp (Z:=[]) (dq (cA (T:= "list") ſ rfl k.y rfl k.y (by decide +kernel) (vQ 0))))
    (dE (gJ (rX dC PySem.F.slot_list_append PySem.F.type_list_append gX (pv 0) (bM (qa (bM kg cG)) cG)))) iZ)),?_⟩
  obtain⟨I,r⟩:=y.rep (K:=K)
  refine⟨H,[Y (.lst I),M],Z',a_.refl _,EC r,rfl,λG1 H1 T=>uU ?_⟩
  have g:LI H1 a c:=y.same ((T.hh _ _ y.1).trans y.1.symm) λt v e=>T.hh _ _ e
  refine⟨.ref a,rfl,a,rfl,⟨_,.of g.1⟩,?_⟩
  refine Ez (K:=K) (a:=a) (xs:=c) (λi n C=>a_ H1 C/\∃x,n=[Y (.ref a),x]) ⟨a_.refl _,M,rfl⟩ (λi n C _ e =>.of (e.1 _ _ g.1)) ?_ ?_
  ·rintro i x n C hx ⟨S,x0,rfl⟩
   obtain⟨t,D,rfl,e⟩:=g.2 x (SY hx)
   exact⟨_,rfl,t,D,rfl,S _ _ e,λH' S'=>⟨S.trans S',_,rfl⟩⟩
  ·rintro n C ⟨S,x0,rfl⟩
   have d:LI C a c:=g.same ((S _ _ g.1).trans g.1.symm) λt v e=>S _ _ e
   obtain⟨I,r⟩:=d.rep (K:=K)
   refine⟨C,[Y (.lst I),M],Z',a_.refl _,EC r,rfl,λG2 N R=>uU ?_⟩
   have l:LI N a c:=d.same ((R.hh _ _ d.1).trans d.1.symm) λt v e=>R.hh _ _ e
   refine⟨.ref a,rfl,.inl ⟨rfl,_,.of l.1⟩,bq (by decide:1<=100000) (ib V),λp X =>?_⟩
   have U:a≠p:=λz=>by have:=l.1;rw[z,X]at this;cases this
   have j:∀b o,b≠a->N b=Y o->dg (dg N p (.tup [.int 0])) a (.lst (c++[.ref p])) b=Y o:=λb o G e=>by
    rw[aY G,aY λz=>by rw[z,X]at e;cases e];exact e
   refine⟨a,c,_,rfl,rfl,by rw[aY U];exact l.1,ž,q _ (c++[.ref p]) ⟨bj,λu m =>?_⟩ λb o G e=>j b o G (R.hh _ _ (S _ _ (T.hh _ _ e)))⟩
   rcases aV.mp m with m|m
   ·obtain⟨t,D,rfl,e⟩:=l.2 u m
    exact⟨t,D,rfl,j t _ (λz=>by rw[z,l.1]at e;cases e) e⟩
   ·simp at m
    subst m
    exact⟨p,[0],rfl,by rw[aY U.symm,bj];rfl⟩
def cq.or(h:cq P w K J O i k f L d a)(g:cq P w K J O i k f L d b):cq P w K J O i k f L d λc H Q E=>a c H Q E\/b c H Q E:=
 ⟨λc H Q E e=>e.elim (h.len c H Q E) (g.len c H Q E),λA o s H q j c Q E m n p l e=>e.elim (h.run A o s H q j c Q E m n p l) (g.run A o s H q j c Q E m n p l)⟩
def D1(F:ir K "_law_spoiled" "_law_spoiled" mx f L)(k:KS K J)(h3:ji P w K J O "_law_spoiled" 3 λg H Q E=>NF g H Q E\/Uc g H Q E):cq P w K J O gU 4 f L ["_law_value"] Ub:=by
 refine F.ok jH (λg H Q E h =>?_) (λKo A outer s H g Q E hr h =>?_)
 ·obtain⟨t,i,j,a,b,B,ws,rfl,_⟩:=h
  rfl
 ·obtain⟨t,i,j,a,b,B,ws,rfl,ht,ne,ha,hb,la,lb,q⟩:=h
  refine⟨_,cW (ni (PW.pt (pT (Z:=[]) (cp (dq (cA (T:= "tuple") ſ rfl k.y rfl k.y (by decide +kernel) (vQ 0)))) (qd (cp (dq (cA (T:= "list") ſ rfl k.y rfl k.y (by decide +kernel) (vQ 0)))))))
    (dE (wH cT rfl (y_ (pv 0)) (cN (i:=1) jH.nd rfl (.inl rfl)) (dE (gJ (nj h3 hr rfl (bM (pv 1) cG)))))) iZ)
   (dE (ni (cp (Z:=[]) (dq (cA (T:= "list") ſ rfl k.y rfl k.y (by decide +kernel) (vQ 0))))
    (dE (gJ (rX dC PySem.F.slot_list_append PySem.F.type_list_append gX (pv 0) (bM (qa (bM kg cG)) cG)))) iZ)),?_⟩
  have rp:∀C:Hp,C t=Y (.tup [.int i,.int j,.ref a,.ref b])->(∃B,LI C a B)->(∃B,LI C b B)->∃ds,cI K C (.tup ds) (.ref t):=λC e ⟨_,x⟩ ⟨_,y⟩=>by
   obtain⟨dx,rx⟩:=x.rep (K:=K)
   obtain⟨dy,ry⟩:=y.rep (K:=K)
   exact⟨[.int i,.int j,.lst dx,.lst dy],cY.mpr ⟨t,_,rfl,e,.cons (bE.mpr rfl) (.cons (bE.mpr rfl) (.cons rx (.cons ry .nil)))⟩⟩
  obtain⟨ds,r⟩:=rp H ht ⟨_,ha⟩ ⟨_,hb⟩
  refine⟨H,[Y (.tup ds),M],Z',a_.refl _,EC r,rfl,λG1 W T=>uU ?_⟩
  have R:=T.hh _ _ ht
  have G:LI W a B:=ha.same ((T.hh _ _ ha.1).trans ha.1.symm) λt g e=>T.hh _ _ e
  have d:LI W b ws:=hb.same ((T.hh _ _ hb.1).trans hb.1.symm) λt g e=>T.hh _ _ e
  refine⟨.ref t,rfl,t,rfl,⟨_,.of R⟩,?_⟩
  have na:∀t g,W t=Y (.tup g)->t≠a:=λt g e z=>by rw[z,G.1]at e;cases e
  have nb:∀t g,W t=Y (.tup g)->t≠b:=λt g e z=>by rw[z,d.1]at e;cases e
  refine CC (K:=K) (a:=t) (xs:=[.int i,.int j,.ref a,.ref b]) (λn σ C=>(∃x,σ=[Y (.ref t),x])/\(∀c o,c≠a->c≠b->W c=Y o->C c=Y o)/\(n<=2->C a=W a)/\(n<=3->C b=W b)/\(∃B,LI C a B)/\∃B,LI C b B)
   ⟨⟨M,rfl⟩,λc o _ _ e=>e,λ_=>rfl,λ_=>rfl,⟨_,G⟩,⟨_,d⟩⟩ (λn σ C _ e =>.of (e.2.1 _ _ (na _ _ R) (nb _ _ R) R)) ?_ ?_
  ·rintro n x σ C X ⟨⟨x0,rfl⟩,S,ea,eb,⟨ua,D⟩,⟨ub,I⟩⟩
   have st:∀t g,W t=Y (.tup g)->C t=Y (.tup g):=λt g e=>S _ _ (na _ _ e) (nb _ _ e) e
   have U:∀m:Int,n<=1->x=.int m->NF [x] C (λ_ N=>(∃y,[Y (V.ref t),Y x]=[Y (V.ref t),y])/\(∀c o,c≠a->c≠b->W c=Y o->N c=Y o)/\(n+1<=2->N a=W a)/\(n+1<=3->N b=W b)/\(∃B,LI N a B)/\∃B,LI N b B) (E0):=λm hn e=>
    ⟨m,by rw[e],λN v=>⟨⟨_,rfl⟩,λc o p r e=>v _ _ (S c o p r e),λ_=>by rw[G.1];exact v _ _ ((ea ž).trans G.1),λ_=>by rw[d.1];exact v _ _ ((eb ž).trans d.1),⟨_,D.same ((v _ _ D.1).trans D.1.symm) λt g e=>v _ _ e⟩,⟨_,I.same ((v _ _ I.1).trans I.1.symm) λt g e=>v _ _ e⟩⟩⟩
   rcases n with _|_|_|_|n
   ·cases X;exact⟨_,rfl,.inl (U i ž rfl)⟩
   ·cases X;exact⟨_,rfl,.inl (U j ž rfl)⟩
   ·cases X
    have ca:=(ea ž).trans G.1
    have cb:=(eb ž).trans d.1
    refine⟨_,rfl,.inr ⟨a,B,rfl,G.same (ca.trans G.1.symm) st,la,λN Z9 l v=>⟨⟨_,rfl⟩,λc o p r e=>v _ _ p (S c o p r e),λh=>ž,λ_ =>?_,⟨_,l⟩,⟨ws,?_⟩⟩⟩⟩
    ·rw[v _ _ (cg ne) cb];exact d.1.symm
    ·exact d.same (by rw[v _ _ (cg ne) cb,d.1]) λt g e=>v _ _ (na _ _ e) (st _ _ e)
   ·cases X
    have cb:=(eb ž).trans d.1
    refine⟨_,rfl,.inr ⟨b,ws,rfl,d.same (cb.trans d.1.symm) st,lb,λN Z9 l v=>⟨⟨_,rfl⟩,λc o p r e=>v _ _ r (S c o p r e),λh=>ž,λh=>ž,⟨ua,?_⟩,⟨_,l⟩⟩⟩⟩
    exact⟨v _ _ ne D.1,λu m=>by
     obtain⟨t,ns,rfl,e⟩:=D.2 u m
     exact⟨t,ns,rfl,v _ _ (λz=>by rw[z,I.1]at e;cases e) e⟩⟩
   ·simp at X
  ·rintro σ C ⟨⟨x0,rfl⟩,S,_,_,D,I⟩
   obtain⟨ds,r⟩:=rp C (S _ _ (na _ _ R) (nb _ _ R) R) D I
   exact⟨C,[Y (.tup ds),M],Z_,a_.refl _,EC r,rfl,λG2 H2 E2=>uk (q _ λc o p r e=>E2.hh _ _ (S c o p r (T.hh _ _ e)))⟩
end
def R6{X:Cx}:qQ X l (jP X.K B d b a (λ_=>M)):=λB s U H D I h=>by
 obtain⟨G,c,o,S,e,k⟩:=h;cases e
def vU(F:List D->Option D):DG:=
  (aZ (dR (cF Ev)
  (rV (lZ Á [M] (gN 0) eU (aQ F bn)))
  cH) (λ_=>M))
def px:=DI 1 3 (vU ma)
section
variable {P:bh}{w:cX}{K:aT}{J:aM->Option ai}{L:de}{f:az}{I:dm}
def Jo(F:ir K "_law_again" "_law_again" oU f I)(k:KS K J)(h:ji P w K J L "_law_again" 12 (gQ K ma)):cq P w K J L gU 13 f I ["_law_value"] (IU K px):=
 F.V3 (Z:=[]) (Ź:=[]) (g:=vU ma) lP ſ λb A outer s H E a B c=>
  (aB (jX (cp (dq (cA (T:= "list") ſ rfl k.y rfl k.y (by decide +kernel) (vQ 0))))
  (bQ (yz (qJ (Ź:=[]) (N:=[("_law_one" : aM)]) (src:=[M]) (gE (outer:=ay oU) (oN:=C3) rfl (by decide +kernel) rfl rfl) rfl (jU (vP 0)) (eP 0) ſ (e_ 0) (λC s H d=>⟨cN (i:=0) (show ([("_law_one" : aM)]:List aM).Nodup by decide +kernel) rfl (.inl rfl),fB,(hR h a rfl (bH (vP 0) dS))⟩))))
  fU) R6)
end
theorem ints_of{K:aT}:∀ {b:List Int}{a:List V},be K G (b.map D.int) a->a=b.map V.int
 |[],_,h=>by cases h;rfl
 |n::b,_,h=>by obtain⟨v,a,rfl,r,t⟩:=bt.mp h;rw[bE.mp r,ints_of t];rfl
def PJ{K:aT}{v:V}(h:cI K G (tI a) v):∃t,v=.ref t/\G t=Y (.tup (a.map V.int)):=by
 obtain⟨t,b,rfl,e,r⟩:=cY.mp h;exact⟨t,rfl,by rw[e,ints_of r]⟩
theorem FH{K:aT}:∀ {R:List (List Int)}{a:List V},be K G (R.map tI) a->∀u∈a,∃(t:az) (b:List Int),u=.ref t/\G t=Y (.tup (b.map V.int))
 |[],_,h=>by cases h;intro u m;cases m
 | n::R,_,h=>by
  obtain⟨v,c,rfl,r,t⟩:=bt.mp h;intro u m;rcases aE.mp m with rfl|m
  ·obtain⟨t,e,g⟩:=PJ r;exact⟨t,n,e,g⟩
  ·exact FH t u m
def Bl{S:List az}(s:a_ H a):a_ (fx H S) (fx a S):=λb o e=>by
 by_cases m:b∈S
 ·rw[jw m]at e;cases e
 ·rw[cy m]at e ⊢;exact s b o e
def Ju{S:List az}:a_ (fx H S) H:=λb o e=>by
 by_cases m:b∈S
 ·rw[jw m]at e;cases e
 ·rw[cy m]at e;exact e
theorem mJ{K:aT}(s:a_ G H)(e:H a=Y (.lst x))(d:H b=Y (.lst y)):∀ {R:List (List Int)}{c:List V},be K G (R.map tI) c->be K (fx H [a,b]) (R.map tI) c
 |[],_,h=>by cases h;exact .nil
 | n::R,_,h=>by
  obtain⟨v,f,rfl,r,t⟩:=bt.mp h;obtain⟨i,rfl,g⟩:=PJ r;have g:=s _ _ g;refine .cons (B7 ?_) (mJ s e d t);rw[cy]
  ·exact g
  ·simp only[aE,eH,or_false];rintro(rfl|rfl)
   ·rw[e]at g;cases g
   ·rw[d]at g;cases g
def Bw(i j:Int)(R S:List (List Int)):D :=.tup [.int i,.int j,.lst (R.map tI),.lst (S.map tI)]
def Ug(K:aT):Sp:=λg H Q _=>∃t i j a b f e R S,g=[.ref t]/\H t=Y (.tup [.int i,.int j,.ref a,.ref b])/\H a=Y (.lst f)/\H b=Y (.lst e)/\be K H (R.map tI) f/\be K H (S.map tI) e/\px [.lst (R.map tI)]=Y (R.map tI)/\px [.lst (S.map tI)]=Y (S.map tI) /\
 ∀v c d,a_ H d->a_ c d->c a=M->c b=M->cI K c (Bw i j R S) v->Q v d
def Vm{K:aT}{v:V}(r:cI K H d v):iQ K [] H H [Y v,x,y] [Y d,M,M]:=by
 refine⟨rfl,λi e h =>?_,λj r p h=>by cases h⟩;rcases i with _|_|_|i<;>cases h
 exact⟨v,rfl,r⟩
def B9{X:Cx}:qQ X l (λ_ _ _=>False):=λ_ _ _ _ _ _ h=>h.elim
section
variable {P:bh}{w:cX}{K:aT}{J:aM->Option ai}{L:de}{f:az}{I:dm}
def Jn(F:ir K "_law_again" "_law_again" oU f I)(k:KS K J)(hA:ji P w K J L "_law_again" 13 λvs H Q E=>gQ K ma vs H Q E\/IU K px vs H Q E):cq P w K J L gU 14 f I ["_law_value"] (Ug K):=by
 refine F.ok lP (λvs H Q E h =>?_) (λKo A outer s H vs Q E hr h' =>?_)
 ·obtain⟨t,i,j,a,b,us,ws,R,S,rfl,_⟩:=h
  rfl
 ·obtain⟨t,i,j,a,b,us,ws,R,S,rfl,ht,ha,hb,ra,rb,fa,fb,q⟩:=h'
  have VA:100000<bc:=by rw[fH];decide
  refine⟨_,cW (ni (cp (Z:=[]) (dq (cA (T:= "list") ſ rfl k.y rfl k.y (by decide +kernel) (vQ 0))))
   B9
   iZ)
   (cW (ni (PW.pt (GC (Z:=[]) (cp (dq (cA (T:= "tuple") ſ rfl k.y rfl k.y (by decide +kernel) (vQ 0)))) (CH (mO LG (dq (nJ rfl k.y (vQ 0))) (dq cM) (ki _)))))
   (cW (js (i:=1) lP.nd rfl (.inl rfl) (qa cG))
    (cW (wH cT rfl (y_ (pv 0)) (cN (i:=2) lP.nd rfl (.inl rfl))
     (dE (js (i:=1) lP.nd rfl (.inl rfl) (DV (Hv.or D0) (pv 1) (qa (bM (nj hA hr rfl (bM (pv 2) cG)) cG))))))
    (dE (pf (pv 1))))) iZ)
   (dE (pf (pv 0)))),?_⟩
  have rp:cI K H (Bw i j R S) (.ref t):=cY.mpr ⟨t,_,rfl,ht,.cons (bE.mpr rfl) (.cons (bE.mpr rfl) (.cons (bZ.mpr ⟨a,us,rfl,ha,ra⟩) (.cons (bZ.mpr ⟨b,ws,rfl,hb,rb⟩) .nil)))⟩
  refine⟨H,[Y (Bw i j R S),M,M],Z_,a_.refl _,Vm rp,rfl,λG1 H1 E1=>uk ?_⟩
  refine⟨H1,[Y (Bw i j R S),M,M],Z',a_.refl _,Vm (cI.mono E1.hh _ rp),by kernel_rfl,λG2 H2 E2=>uU ?_⟩
  refine⟨cD _,λp0 hp0 =>?_⟩
  have B:a_ H (dg H2 p0 (.tup [])):=(E1.hh.trans E2.hh).trans (.alloc hp0)
  have Zi:dg H2 p0 (.tup []) p0=Y (.tup []):=bj
  generalize dg H2 p0 (.tup [])=H3 at B Zi
  refine⟨.ref t,rfl,t,rfl,⟨_,.of (B _ _ ht)⟩,?_⟩
  refine CC (K:=K) (a:=t) (xs:=[.int i,.int j,.ref a,.ref b]) (λn σ C=>∃p y x,σ=[Y (.ref t),Y (.ref p),x]/\a_ H3 C/\C p=Y (.tup y)/\be K (fx C [a,b]) ([.int i,.int j,.lst (R.map tI),.lst (S.map tI)].take n) y)
   ⟨p0,[],M,rfl,a_.refl _,Zi,.nil⟩ (λn σ C _ e=>by obtain⟨_,_,_,_,s,_⟩:=e;exact .of (s _ _ (B _ _ ht))) ?_ ?_
  ·rintro n x σ C hx ⟨p,y,x0,rfl,N,X,r⟩
   have u:=N _ _ (B _ _ ha)
   have l:=N _ _ (B _ _ hb)
   have lF:∀(Z:VK) (d:D) (v:V) (O:Hp),[D.int i,.int j,.lst (R.map tI),.lst (S.map tI)][n]?=Y d->a_ C O->cI K (fx O [a,b]) d v->(∀U g,a_ C g->g U=Y (.tup (y++[v]))->be K (fx g [a,b]) ([D.int i,.int j,.lst (R.map tI),.lst (S.map tI)].take (n+1)) (y++[v])->Z (.ref U) g) ->
     [v].length<=bc/\∀q,O q=M->PQ K (.ref p) (.ref q) (dg O q (.tup [v])) Z\/PR K (.ref p) (.ref q) (dg O q (.tup [v])) Z:=λZ d v O hd s rv hZ=>by
    refine⟨bq (by decide:1<=100000) (ib VA),λq hq =>?_⟩
    have sq:a_ O (dg O q (.tup [v])) :=.alloc hq
    have Zg:dg O q (.tup [v]) p=Y (.tup y):=sq _ _ (s _ _ X)
    have all:∀g,a_ (dg O q (.tup [v])) g->be K (fx g [a,b]) ([D.int i,.int j,.lst (R.map tI),.lst (S.map tI)].take (n+1)) (y++[v]):=λg e=>by
     rw[List.take_add_one,hd]
     exact(be.mono (Bl (s.trans (sq.trans e))) _ r).append (.cons (cI.mono (Bl (sq.trans e)) _ rv) .nil)
    by_cases z:y=[]
    ·subst z
     exact .inr ⟨p,q,[v],rfl,rfl,.of Zg,.of bj,hZ q _ (s.trans sq) bj (all _ (a_.refl _))⟩
    ·have hl:y.length<=4:=by rw[<- r.length];simp;omega
     exact .inl ⟨p,q,y,[v],rfl,rfl,.of Zg,.of bj,z,by simp;omega,(λe=>by cases e),λ_ r' U6=>hZ r' _ (s.trans (sq.trans (.alloc U6))) bj (all _ (.alloc U6))⟩
   have G:∀(v:V) (U:az) (g:Hp),a_ C g->g U=Y (.tup (y++[v]))->be K (fx g [a,b]) ([D.int i,.int j,.lst (R.map tI),.lst (S.map tI)].take (n+1)) (y++[v])->∃p2 YH x2,([Y (V.ref t),Y (V.ref p),Y x].set 1 (Y (V.ref U)))=[Y (.ref t),Y (.ref p2),x2]/\a_ H3 g/\g p2=Y (.tup YH)/\be K (fx g [a,b]) ([D.int i,.int j,.lst (R.map tI),.lst (S.map tI)].take (n+1)) YH:=λv U g s e r=>⟨U,_,Y x,rfl,N.trans s,e,r⟩
   have int:∀m:Int,[D.int i,.int j,.lst (R.map tI),.lst (S.map tI)][n]?=Y (.int m)->x=.int m->∀Z:VK,(∀v O,[D.int i,.int j,.lst (R.map tI),.lst (S.map tI)][n]?=Y (.int m)->a_ C O->cI K (fx O [a,b]) (.int m) v->Z v O)->gQ K ma [x] C Z E0:=λm hm e Z hz=>
    .mk (λ_=>M) [.int m] (.int m) (λb o e=>by cases e) (by rw[e];exact .cons (bE.mpr rfl) .nil) (by kernel_rfl) λv c b E r=>hz v b hm E.hh (bE.mpr (bE.mp r))
   rcases n with _|_|_|_|n
   ·cases hx
    exact⟨_,rfl,_,rfl,.inl (int i rfl rfl _ λv O hd s rv=>lF _ _ v O hd s rv (G v))⟩
   ·cases hx
    exact⟨_,rfl,_,rfl,.inl (int j rfl rfl _ λv O hd s rv=>lF _ _ v O hd s rv (G v))⟩
   ·cases hx
    refine⟨_,rfl,_,rfl,.inr (.mk C [.lst (R.map tI)] _ (a_.refl _) (.cons (bZ.mpr ⟨a,us,rfl,u,be.mono (B.trans N) _ ra⟩) .nil) fa λa' T c b' E W n2 h3 r'=>lF _ _ (.ref a') b' rfl E.hh (bZ.mpr ⟨a',T,rfl,?_,mJ E.gh (E.hh _ _ u) (E.hh _ _ l) r'⟩) (G _))⟩
    rw[cy]
    ·exact h3
    ·simp only[aE,eH,or_false]
     rintro(rfl|rfl)
     ·rw[u]at W;cases W
     ·rw[l]at W;cases W
   ·cases hx
    refine⟨_,rfl,_,rfl,.inr (.mk C [.lst (S.map tI)] _ (a_.refl _) (.cons (bZ.mpr ⟨b,ws,rfl,l,be.mono (B.trans N) _ rb⟩) .nil) fb λa' T c b' E W n2 h3 r'=>lF _ _ (.ref a') b' rfl E.hh (bZ.mpr ⟨a',T,rfl,?_,mJ E.gh (E.hh _ _ u) (E.hh _ _ l) r'⟩) (G _))⟩
    rw[cy]
    ·exact h3
    ·simp only[aE,eH,or_false]
     rintro(rfl|rfl)
     ·rw[u]at W;cases W
     ·rw[l]at W;cases W
   ·simp at hx
  ·rintro σ C ⟨p,y,x0,rfl,N,X,r⟩
   have u:=N _ _ (B _ _ ha)
   have l:=N _ _ (B _ _ hb)
   refine⟨_,rfl,q (.ref p) (fx C [a,b]) C (B.trans N) Ju (jw Ž) (jw Ž) (cY.mpr ⟨p,y,rfl,?_,r⟩)⟩
   rw[cy]
   ·exact X
   ·simp only[aE,eH,or_false]
    rintro(rfl|rfl)
    ·rw[u]at X;cases X
    ·rw[l]at X;cases X
end
def Bc:DL:=lZ (iL kw) [M] (gN 0) eU lm
structure Wq(d c:D)(i j:Int)(R S:List (List Int)):Prop where
 k:bp "Lean" "coming" db [some d,none,none]=some c
 r:Bc [some d,some c,none]=some (R.map tI)
 t:bp "Coming" "taken" Db [some d,some c,some (.lst (R.map tI))]=some (.int i)
 o:bp "Coming" "opened" Db [some d,some c,some (.lst (R.map tI))]=some (.int j)
 s:By (bp "Coming" "rests" Db) [some d,some c,some (.lst (R.map tI))]=some (S.map tI)
structure Ys(K:aT)(G H G' H':Hp)(t a b:az)(i j:Int)(R S:List (List Int)):Prop where
 e:gf G H G' H'
 t0:H t=none
 a0:H a=none
 b0:H b=none
 ne:a≠b
 ga:G' a=none
 gb:G' b=none
 gt:G' t=none
 ht:H' t=some (.tup [.int i,.int j,.ref a,.ref b])
 ha:∃us,H' a=some (.lst us)/\be K G' (R.map tI) us
 hb:∃us,H' b=some (.lst us)/\be K G' (S.map tI) us
def Uh(K:aT):Sp:=λf H Q _=>∃G d c i j R S,a_ G H/\be K G [d] f/\Wq d c i j R S/\∀t a b h e,Ys K G H h e t a b i j R S->Q (.ref t) e
section
variable {P:bh}{w:cX}{K:aT}{g:aM->Option ai}{m:de}{f:az}{l:dm}
def Gc(F:ir K "asleep" "Lean.asleep" iF f l)(k:KS K g):cq P w K g m gU 1 f l ["self"] (Uh K):=by
 refine F.ok iG (λvs H Q E h =>?_) (λKo A W s H vs Q E hr h =>?_)
 ·obtain⟨G,d,c,i,j,R,S,gh,r,_⟩:=h
  exact r.length.symm
 ·obtain⟨G,d,c,i,j,R,S,gh,r,B,q⟩:=h
  have VA:100000<bc:=by rw[fH];decide
  refine⟨Qx (jP K ⟨G,H,[],λ_ _=>False⟩ [] [2] [2] (dh 1 (bp "Lean" "coming" db))) (Qx (jP K ⟨G,H,[],λ_ _=>False⟩ [] [2] [2] (kq 2 Bc)) _),cW (mQ (i:=1) iG.nd rfl (.inl rfl) (pV (c:= "Lean") (vQ 0) k.q))
   (cW (xa (i:=2) (Ź:=[]) (N:=[("row" : aM)]) (src:=[M]) (gE (outer:=ay iF) (oN:=qe) rfl (by decide +kernel) rfl rfl) rfl iG.nd rfl rfl (jU (df (MJ (dq (pV (c:= "Coming") (vQ 1) k.q)) (EH (dq cM)) EI))) (eP 0) ſ (e_ 0) (λC s H ex=>⟨cN (i:=0) (show ([("row" : aM)]:List aM).Nodup by decide +kernel) rfl (.inl rfl),fB,(CJ (bH (pV (c:= "Row") (vQ 0) k.q) (bH (pV (c:= "Row") (vQ 0) k.q) (bH (pV (c:= "Row") (vQ 0) k.q) dS))))⟩))
   (dE (pf (qa (bM (pV (Z:=[2]) (c:= "Coming") (vQ 1) k.q) (bM (pV (Z:=[2]) (c:= "Coming") (vQ 1) k.q) (bM (pv 2) (bM (OY (Z:=[2]) rfl k.y (dq (pV (c:= "Coming") (vQ 1) k.q))) cG)))))))),?_⟩
  refine⟨G,_,.nx [Y d,Y c,M],vn gh r (λi h=>by simp at h;subst h;simp),?_,λσ1 G1 H1 S1=>⟨G1,_,.nx [Y d,Y c,Y (.lst (R.map tI))],S1,?_,λσ2 G2 H2 D =>?_⟩⟩
  ·show (bp "Lean" "coming" db [Y d,M,M]).map _=_
   rw[B.k];rfl
  ·show (Bc [Y d,Y c,M]).map _=_
   rw[B.r];rfl
  ·have N:=D.lh
   obtain⟨a,o,ea,ho,⟨L,rfl,ru⟩,ga,ba⟩:=D.Jh (i:=2) (d :=.lst (R.map tI)) ſ rfl rfl
   refine⟨G2,_,.int i,D.gh,N,B.t,λv3 G3 H3 u r3=>⟨G3,_,.int j,u.gh,N.ext u,B.o,λv4 G4 H4 v r4=>⟨.ref a,ea,G4,_,S.map tI,v.gh,N.ext (u.trans v),B.s,λb ws J O T n1 n2 h5 r5=>⟨by show 4<=bc;omega,λt n =>?_⟩⟩⟩⟩
   cases bE.mp r3
   cases bE.mp r4
   have X:=((D.nO.trans u).trans v).trans T
   have I:=(u.trans v).trans T
   have V:gf G H J (dg O t (.tup [.int i,.int j,.ref a,.ref b])):=⟨X.hh.trans (.alloc n),X.gg,X.gh.trans (.alloc n),X.fr⟩
   have p:H4 a=Y (.lst L):=v.hh _ _ (u.hh _ _ ho)
   have y:O a=Y (.lst L):=T.hh _ _ p
   have nb:a≠b:=λz=>by rw[z,n1]at p;cases p
   have U:∀c o,O c=Y o->c≠t:=λc o e z=>by rw[z,n]at e;cases e
   have h0:∀c,H4 c=M->H c=none:=λc e=>by
    rcases x:H c with _|o
    ·rfl
    ·rw[((D.nO.trans u).trans v).hh _ _ x]at e;cases e
   refine q t a b J _ ⟨V,?_,ba,h0 b n1,nb,?_,n2,?_,bj,⟨L,by rw[aY (U _ _ y)];exact y,be.mono I.gg _ ru⟩,⟨ws,by rw[aY (U _ _ h5)];exact h5,r5⟩⟩
   ·rcases x:H t with _|o
    ·rfl
    ·rw[X.hh _ _ x]at n;cases n
   ·rcases x:J a with _|o
    ·rfl
    ·rcases I.fr _ _ x with e|e
     ·rw[ga]at e;cases e
     ·rw[ho]at e;cases e
   ·rcases x:J t with _|o
    ·rfl
    ·rw[X.gh _ _ x]at n;cases n
end
abbrev yR:=mv 27
def qo:bu ["_law_signs_here", "_law_nodes_here", "_law_here", "_law_sign"] ["_law_signs_here"] (ay yR):=by walk_at "s"
def kA(z:List Int×Int)(s:D):Option (List Int×Int):=match s with
 |.tup [.str k,.str _]=>if k=xI then (if 0<=z.2->z.2<z.1.length then Y (z.1++[z.2],(z.1.length:Int)) else M) else if k=xH/\0<=z.2/\z.2<z.1.length then Y z else M
 |.tup [.str k]=>if k=sR/\0<=z.2 then (z.1[z.2.toNat]?).map λp=>(z.1,p) else M
 |_=>M
noncomputable def sf:List D->List Int×Int->Option (List Int×Int)
 |[],z=>Y z|s::a,z=>(kA z s).bind (sf a)
def SC(u:V):Prop:=(∃s,u=.str s)\/∃n,u=.int n
def Wn(d:D)(b:List Int):Prop:=∃a,d=.lst a/\a.length=b.length/\∀(j:Nat) (p:Int),b[j]?=Y p->∃x l m,a[j]?=Y (.tup [.str x,.lst l,.lst m,.int p])
def pO{z:List Int×Int}{s:D}(e:kA z s=Y y):(∃x,s=.tup [.str xI,.str x]/\(0<=z.2->z.2<z.1.length)/\y=(z.1++[z.2],(z.1.length:Int)))\/(∃x,s=.tup [.str xH,.str x]/\0<=z.2/\z.2<z.1.length/\y=z)\/∃p,s=.tup [.str sR]/\0<=z.2/\z.1[z.2.toNat]?=Y p/\y=(z.1,p):=by
 unfold kA at e;split at e
 ·split at e
  ·rename_i k x h;split at e<;>cases e
   rename_i g;exact .inl ⟨x,by rw[h],g,rfl⟩
  ·split at e<;>cases e
   rename_i k x _ h;exact .inr (.inl ⟨x,by rw[h.1],h.2.1,h.2.2,rfl⟩)
 ·split at e
  ·rename_i k h;obtain⟨p,q,e⟩:=ah.1 e;cases e;exact .inr (.inr ⟨p,by rw[h.1],h.2,q,rfl⟩)
  ·cases e
 ·cases e
inductive ND (v H:Hp) (N:az) (n:Nat) (o:Option V) (p:Int):Prop
 |mk t x a b l m:o=some (.ref t)->H t=some (.tup [.str x,.ref a,.ref b,.int p])->H a=some (.lst l)->H b=some (.lst m)->l.length<=n->m.length<=n->v a=none->v b=none->a≠N->b≠N->(∀u∈l,SC u)->(∀u∈m,SC u)->v t=none->ND v H N n o p
structure NR(v H:Hp)(N:az)(n:Nat)(ps:List Int)(cs:List V):Prop where
 new:v N=none
 lst:H N=some (.lst cs)
 len:cs.length=ps.length
 nd:∀(j:Nat) (p:Int),ps[j]?=some p->ND v H N n cs[j]? p
def NR.le(h:NR v H N n d o)(k:n<=m):NR v H N m d o:=⟨h.new,h.lst,h.len,λj p e=>by
 obtain⟨t,x,a,b,l,r,A,z,y,w,C,B,u,s,q,c,i,g,f⟩:=h.nd j p e;exact⟨t,x,a,b,l,r,A,z,y,w,ž,ž,u,s,q,c,i,g,f⟩⟩
def NR.put{r:List V}(h:NR v H N n o O)(k:n<=m)(e:H q=Y (.lst l))(z:q≠N)(w:r.length<=m)(i:∀u∈r,SC u):NR v (dg H q (.lst r)) N m o O:=by
 refine⟨h.new,by rw[aY (cg z)];exact h.lst,h.len,λj p E =>?_⟩;obtain⟨t,x,a,b,y,s,c1,c,X,U,T,S,R,Q,P,d,D,C,B⟩:=h.nd j p E;have f:∀a l,H a=Y (.lst l)->l.length<=n->(∀u∈l,SC u)->∃l,dg H q (.lst r) a=Y (.lst l)/\l.length<=m/\∀u∈l,SC u:=λa l F hl A=>by
  by_cases g:a=q
  ·subst g;exact⟨r,bj,w,i⟩
  ·exact⟨l,by rw[aY g];exact F,ž,A⟩
 obtain⟨_,W,K,I⟩:=f a y X T D;obtain⟨_,L,J,G⟩:=f b s U S C;exact⟨t,x,a,b,_,_,c1,by rw[aY λg=>by rw[g,e]at c;cases c];exact c,W,L,K,J,R,Q,P,d,I,G,B⟩
def NR.push{a:az}{x:aM}{p:Int}(h:NR v H N n l r)(S:a_ v H)(F:H a=M)(P:dg H a (.lst []) b=M)(I:dg (dg H a (.lst [])) b (.lst []) t=M):NR v (dg (dg (dg (dg H a (.lst [])) b (.lst [])) t (.tup [.str x,.ref a,.ref b,.int p])) N (.lst (r++[.ref t]))) N n (l++[p]) (r++[.ref t]):=by
 have B:b≠a:=λz=>by rw[z,bj]at P;cases P
 have k:H b=none:=by rw[aY B]at P;exact P
 have w:t≠b:=λz=>by rw[z,bj]at I;cases I
 rw[aY w]at I;have y:t≠a:=λz=>by rw[z,bj]at I;cases I
 rw[aY y]at I;have c:∀d,H d=M->d≠N:=λd z g=>by rw[g,h.lst]at z;cases z
 have g:∀d o,d≠N->H d=Y o->dg (dg (dg (dg H a (.lst [])) b (.lst [])) t (.tup [.str x,.ref a,.ref b,.int p])) N (.lst (r++[.ref t])) d=Y o:=λd o z e=>by rw[aY z,aY (bF e I),aY (bF e k),aY (bF e F)];exact e
 refine⟨h.new,bj,by simp[h.len],λj D f =>?_⟩;by_cases q:j<l.length
 ·rw[b_ q]at f;obtain⟨t',C,a',b',G,E,X,s,U,T,R,Q,O,V,A,i,L,K,J⟩:=h.nd j D f;exact⟨t',C,a',b',G,E,by rw[b_ (by rw[h.len];exact q)];exact X,g _ _ (λz=>by rw[z,h.lst]at s;cases s) s,g _ _ A U,g _ _ i T,R,Q,O,V,A,i,L,K,J⟩
 ·have q2:=(af.mp f).1;have:j=l.length:=by simp at q2;omega
  subst this;simp at f;subst f;exact⟨t,x,a,b,[],[],by rw[<- h.len];simp,by rw[aY (c t I),bj],by rw[aY (c a F),aY (cg y),aY (cg B),bj],by rw[aY (c b k),aY (cg w),bj],cD _,cD _,S.free F,S.free k,c a F,c b k,(λu m=>by cases m),(λu m=>by cases m),S.free I⟩
def OI(g:a_ G H)(s:a_ H a):gf G H (λb=>if H b=M then a b else G b) a:=by
 refine⟨s,λb o e =>?_,λb o e =>?_,λb o e =>?_⟩
 ·show (if H b=M then a b else G b)=Y o;rw[if_neg (by rw[g _ _ e];exact λz=>by cases z)];exact e
 ·have e:(if H b=M then a b else G b)=Y o:=e;split at e
  ·exact e
  ·exact s _ _ (g _ _ e)
 ·have e:(if H b=M then a b else G b)=Y o:=e;split at e
  ·exact .inr (by assumption)
  ·exact .inl e
theorem F4{K:aT}{G:Hp}:∀l:List V,(∀u∈l,SC u)->∃a,be K G a l
 |[],_=>⟨[],.nil⟩| u::l,h=>by
  obtain⟨a,r⟩:=F4 (K:=K) (G:=G) l λu m=>h u (ao _ m)
  rcases h u au with⟨s,rfl⟩|⟨n,rfl⟩
  ·exact⟨.str s::a,.cons (fT.mpr rfl) r⟩
  ·exact⟨.int n::a,.cons (bE.mpr rfl) r⟩
def NR.Fm{K:aT}{i:List Int}(h:NR H r N n i d)(g:a_ G H)(s:a_ H r):∃k,(k.length=i.length/\∀(j:Nat) (p:Int),i[j]?=Y p->∃x l m,k[j]?=Y (.tup [.str x,.lst l,.lst m,.int p]))/\cI K (λb=>if H b=M then r b else G b) (.lst k) (.ref N):=by
 have v:∀b o,H b=M->r b=Y o->(λb=>if H b=M then r b else G b) b=Y o:=λb o e f=>by show (if H b=M then r b else G b)=Y o;rw[if_pos e];exact f
 have A:∀(i:List Int) (d:List V),d.length=i.length->(∀(j:Nat) (p:Int),i[j]?=Y p->ND H r N n d[j]? p)->∃k,(k.length=i.length/\∀(j:Nat) (p:Int),i[j]?=Y p->∃x l m,k[j]?=Y (.tup [.str x,.lst l,.lst m,.int p]))/\be K (λb=>if H b=M then r b else G b) k d:=λi=>by
  induction i with
  |nil=>intro d u _;have:d=[]:=qh u;subst this;exact⟨[],⟨rfl,λj p e=>by simp at e⟩,.nil⟩
  |cons p i ih=>
   intro d u B;rcases d with _|⟨c,d⟩
   ·simp at u
   ·obtain⟨k,⟨W,y⟩,w⟩:=ih d (by simpa using u) λj q e=>by simpa using B (j+1) q (by simpa using e)
    obtain⟨t,x,a,b,l,m,z,S,R,Q,c5,X,P,O,U,T,L,J,I⟩:=B 0 p rfl;obtain⟨D,F⟩:=F4 (K:=K) (G:=λb=>if H b=M then r b else G b) l L;obtain⟨C,E⟩:=F4 (K:=K) (G:=λb=>if H b=M then r b else G b) m J;have z:c=.ref t:=by simpa using z
    subst z;refine⟨.tup [.str x,.lst D,.lst C,.int p]::k,⟨by simp[W],λj q e =>?_⟩,.cons (cY.mpr ⟨t,_,rfl,v _ _ I S,.cons (fT.mpr rfl) (.cons (bZ.mpr ⟨a,l,rfl,v _ _ P R,F⟩) (.cons (bZ.mpr ⟨b,m,rfl,v _ _ O Q,E⟩) (.cons (bE.mpr rfl) .nil)))⟩) w⟩;rcases j with _|j
    ·cases e;exact⟨x,D,C,rfl⟩
    ·simpa using y j q (by simpa using e)
 obtain⟨k,y,w⟩:=A i d h.len h.nd;exact⟨k,y,bZ.mpr ⟨N,d,rfl,v _ _ h.new h.lst,w⟩⟩
def Lb{K:aT}(r:cI K G (.tup [.str k,.str x]) y):∃b,y=.ref b/\G b=Y (.tup [.str k,.str x]):=by
 obtain⟨b,w,rfl,g,r⟩:=cY.mp r;obtain⟨_,_,rfl,c,r⟩:=bt.mp r;obtain⟨_,_,rfl,a,r⟩:=bt.mp r;cases cV.mp r;cases fT.mp c;cases fT.mp a;exact⟨b,rfl,g⟩
def QQ{K:aT}(r:cI K G (.tup [.str k]) y):∃b,y=.ref b/\G b=Y (.tup [.str k]):=by
 obtain⟨b,w,rfl,g,r⟩:=cY.mp r;obtain⟨_,_,rfl,a,r⟩:=bt.mp r;cases cV.mp r;cases fT.mp a;exact⟨b,rfl,g⟩
def YQ(K:aT):Sp:=λf H Q _=>∃G a b,a_ G H/\be K G [.lst a] f/\a.length<=100000/\sf a ([],-1)=Y b/\∀v d e c,Wn d b.1->gf G H e c->cI K e d v->Q v c
def LA{P:bh}{K:aT}{f:az}(F:ir K "_law_nodes" "_law_nodes" yR f fd)(L:mg "len" = M):cq P w K mg base gU 1 f fd ["_law_signs_here"] (YQ K):=by
 refine F.ok qo (λvs H Q E h =>?_) (λKo A outer s H vs Q E hr h =>?_)
 ·obtain⟨G,ss,zf,T,r,_⟩:=h
  exact r.length.symm
 ·obtain⟨G0,ss,zf,T,r,hz,ez,q⟩:=h
  obtain⟨v0,r0,rfl,rs,rn⟩:=bt.mp r
  have:=cV.mp rn;subst this
  obtain⟨a0,us,rfl,ga0,ru⟩:=bZ.mp rs
  have VA:100000<bc:=by rw[fH];decide
  refine⟨_,cW (js (i:=1) qo.nd rfl (nB rfl) (za cG))
   (cW (js (i:=2) qo.nd rfl (nB rfl) (Ht Fy kg))
   (cW (wH cT rfl (yq (pv 0)) (cN (i:=3) qo.nd rfl (nB rfl))
    (dE (ni (yo PY (rW sY (pv 3) kg (λ_ _=>rfl)) F7 (ki _))
     (cW (gJ (rX dC PySem.F.slot_list_append PySem.F.type_list_append gX (pv 1) (bM (qa (bM (rW sY (pv 3) kg (λ_ _=>rfl)) (bM (za cG) (bM (za cG) (bM (pv 2) cG))))) cG)))
     (cW (ni (yo PX (pv 2) (Ht Fy kg) (ki _))
      (dE (gJ (rX dC PySem.F.slot_list_append PySem.F.type_list_append gX (rW sY (rW vL (pv 1) (pv 2) (λ_ _=>rfl)) kg (λ_ _=>rfl)) (bM (DV F9 (vA rH rfl L PySem.boot_len (bM (pv 1) cG)) kg) cG))))
      iZ)
     (dE (js (i:=2) qo.nd rfl (nB rfl) (DV F9 (vA rH rfl L PySem.boot_len (bM (pv 1) cG)) kg)))))
     (dE (ni (yo PY (rW sY (pv 3) kg (λ_ _=>rfl)) F7 (ki _))
      (dE (gJ (rX dC PySem.F.slot_list_append PySem.F.type_list_append gX (rW sY (rW vL (pv 1) (pv 2) (λ_ _=>rfl)) kg (λ_ _=>rfl)) (bM (rW sY (pv 3) kg (λ_ _=>rfl)) cG))))
      (dE (js (i:=2) qo.nd rfl (nB rfl) (rW sY (rW vL (pv 1) (pv 2) (λ_ _=>rfl)) kg (λ_ _=>rfl)))))))))
   (dE (pf (pv 1))))),?_⟩
  refine⟨cD _,λB hN =>?_⟩
  refine⟨1,rfl,?_⟩
  have YO:∀ {C:Hp},a_ H C->nX K C a0 us:=λE =>.of (E _ _ (T _ _ ga0))
  have s0:a_ H (dg H B (.lst [])) :=.alloc hN
  refine⟨_,rfl,a0,rfl,⟨us,YO s0⟩,?_⟩
  refine Ez (K:=K) (a:=a0) (xs:=us) (λi σ C=>a_ H C/\∃R D d v3,σ=[Y (.ref a0),Y (.ref B),Y (.int d),v3]/\NR H C B i D R/\D.length<=i/\sf (ss.drop i) (D,d)=Y zf)
   ⟨s0,[],[],-1,M,rfl,⟨hN,bj,rfl,λj p e=>by simp at e⟩,aH _,ez⟩ (λi σ C _ ⟨J,_⟩=>YO J) ?_ ?_
  ·rintro i y σ N hy ⟨J,R,D,d,v3,rfl,g,XH,k⟩
   have hlu:i<us.length:=(af.mp hy).1
   have Me:i<ss.length:=by rw[ru.length];exact hlu
   obtain⟨y',Za,ry⟩:=ru.get (aO Me)
   rw[hy]at Za;cases Za
   rw[fW Me]at k
   obtain⟨z',es,k⟩:=aa.1 (show (kA (D,d) ss[i]).bind (sf (ss.drop (i+1)))=Y zf from k)
   have X:∀ {C n qs ds},NR H C B n qs ds->0<=d->∀p,qs[d.toNat]?=Y p->∃t x a b l m,oi ds d=Y (.ref t)/\C t=Y (.tup [.str x,.ref a,.ref b,.int p])/\C a=Y (.lst l)/\C b=Y (.lst m)/\l.length<=n/\m.length<=n/\H a=M/\H b=M/\a≠B/\b≠B/\(∀u∈l,SC u)/\∀u∈m,SC u:=fun {C n qs ds} h W p e=>by
    obtain⟨t,x,a,b,l,m,c1,U,c3,c4,c5,c6,c7,c8,c9,S,f1,f2,f3⟩:=h.nd _ p e
    have e:d=((d.toNat:Nat):Int):=by omega
    exact⟨t,x,a,b,l,m,by rw[e];exact gL c1,U,c3,c4,c5,c6,c7,c8,c9,S,f1,f2⟩
   rcases pO es with⟨x,ek,W,rfl⟩|⟨x,ek,W,hh,rfl⟩|⟨p,ek,W,ep,rfl⟩
   ·
    rw[ek]at ry
    obtain⟨b,rfl,gb⟩:=Lb ry
    have O:∀ {C:Hp},a_ N C->C b=Y (.tup [.str xI,.str x]):=λs=>s _ _ (J _ _ (T _ _ gb))
    refine⟨_,rfl,b,_,_,_,rfl,rfl,.of (O (a_.refl _)),gL (j:=0) rfl,rfl,_,rfl,?_⟩
    refine Gp (λ_ =>?_) (λg=>absurd (decide_eq_true rfl) g)
    refine⟨_,rfl,.inl ⟨rfl,_,.of g.lst⟩,_,rfl,b,_,_,_,rfl,rfl,.of (O (a_.refl _)),gL (j:=1) rfl,cD _,λa ha=>⟨cD _,λb' Qa=>⟨_,rfl,(by show 4<=bc;omega),λt ht =>?_⟩⟩⟩
    have v:=g.push (x:=x) (p:=d) J ha Qa ht
    have sA:a_ N (dg (dg (dg N a (.lst [])) b' (.lst [])) t (.tup [.str x,.ref a,.ref b',.int d])):=((a_.alloc ha).trans (.alloc Qa)).trans (.alloc ht)
    have sH:a_ H (dg (dg (dg (dg N a (.lst [])) b' (.lst [])) t (.tup [.str x,.ref a,.ref b',.int d])) B (.lst (R++[.ref t]))):=λp o e=>by
     rw[aY (bF e g.new)];exact sA _ _ (J _ _ e)
    refine⟨B,_,_,rfl,rfl,sA _ _ g.lst,(by rw[g.len];omega),?_⟩
    generalize dg (dg (dg (dg N a (.lst [])) b' (.lst [])) t (.tup [.str x,.ref a,.ref b',.int d])) B (.lst (R++[.ref t]))=H2 at v sH
    have e1:(((R++[V.ref t]).length:Int)-1)=(D.length:Int):=by rw[v.len];simp
    refine⟨_,rfl,1,rfl,d,-1,rfl,rfl,_,rfl,?_⟩
    by_cases hc:0<=d
    ·refine Gp (λ_ =>?_) (λz=>absurd (decide_eq_true ž) z)
     have hl:d<D.length:=W hc
     obtain⟨t',x',a',b2,l,m,ix,U,c3,c4,c5,c6,c7,c8,c9,S,f1,f2⟩:=X v hc _ (aO (by simp;omega))
     refine⟨_,rfl,_,rfl,B,_,d,_,rfl,rfl,.of v.lst,ix,t',_,2,_,rfl,rfl,.of U,gL (j:=2) rfl,.inl ⟨rfl,_,.of c4⟩,_,rfl,B,_,rfl,.inl (.of v.lst),_,_,rfl,rfl,b2,_,_,rfl,rfl,c4,ž,?_⟩
     have Zk:=v.put (r:=m++[V.int (((R++[V.ref t]).length:Int)-1)]) (gA i) c4 S (by simp;omega) (λu I=>by
      rcases aV.mp I with I|I
      ·exact f2 u I
      ·simp at I;exact .inr ⟨_,I⟩)
     refine⟨_,rfl,B,_,rfl,.inl (.of Zk.lst),_,_,rfl,rfl,?_⟩
     exact⟨λp o e=>by rw[aY (bF e c8)];exact sH _ _ e,_,_,(D.length:Int),Y (.ref b),by rw[<- e1];rfl,Zk,by simp;omega,k⟩
    ·refine Gp (λz=>absurd (of_decide_eq_true z) ž) (λ_ =>?_)
     refine⟨_,rfl,B,_,rfl,.inl (.of v.lst),_,_,rfl,rfl,?_⟩
     exact⟨sH,_,_,(D.length:Int),Y (.ref b),by rw[<- e1];rfl,v.le (gA i),by simp;omega,k⟩
   ·
    have W:0<=d:=W
    have hh:d<D.length:=hh
    rw[ek]at ry
    obtain⟨b,rfl,gb⟩:=Lb ry
    have O:N b=Y (.tup [.str xH,.str x]):=J _ _ (T _ _ gb)
    refine⟨_,rfl,b,_,_,_,rfl,rfl,.of O,gL (j:=0) rfl,rfl,_,rfl,?_⟩
    refine Gp (λg=>absurd (V.str.inj (of_decide_eq_true g)) (λz=>YR z.symm)) (λ_ =>?_)
    refine⟨_,rfl,b,_,_,_,rfl,rfl,.of O,gL (j:=0) rfl,rfl,_,rfl,?_⟩
    refine Gp (λ_ =>?_) (λg=>absurd (decide_eq_true rfl) g)
    obtain⟨t',x',a',b2,l,m,ix,U,c3,c4,c5,c6,c7,c8,c9,S,f1,f2⟩:=X g W _ (aO ž)
    refine⟨_,rfl,_,rfl,B,_,d,_,rfl,rfl,.of g.lst,ix,t',_,1,_,rfl,rfl,.of U,gL (j:=1) rfl,.inl ⟨rfl,_,.of c3⟩,_,rfl,b,_,_,_,rfl,rfl,.of O,gL (j:=1) rfl,a',_,_,rfl,rfl,c3,ž,?_⟩
    exact⟨λp o e=>by rw[aY (bF e c7)];exact J _ _ e,R,D,d,_,rfl,g.put (gA i) c3 c9 (by simp;omega) (λu I=>by
     rcases aV.mp I with I|I
     ·exact f1 u I
     ·simp at I;exact .inl ⟨_,I⟩),ž,k⟩
   ·
    have W:0<=d:=W
    rw[ek]at ry
    obtain⟨b,rfl,gb⟩:=QQ ry
    have O:N b=Y (.tup [.str sR]):=J _ _ (T _ _ gb)
    refine⟨_,rfl,b,_,_,_,rfl,rfl,.of O,gL (j:=0) rfl,rfl,_,rfl,?_⟩
    refine Gp (λg=>absurd (V.str.inj (of_decide_eq_true g)) (λz=>sOC z.symm)) (λ_ =>?_)
    refine⟨_,rfl,b,_,_,_,rfl,rfl,.of O,gL (j:=0) rfl,rfl,_,rfl,?_⟩
    refine Gp (λg=>absurd (V.str.inj (of_decide_eq_true g)) (λz=>sTC z.symm)) (λ_ =>?_)
    obtain⟨t',x',a',b2,l,m,ix,U,c⟩:=X g W _ ep
    refine⟨_,rfl,_,rfl,B,_,d,_,rfl,rfl,.of g.lst,ix,t',_,3,_,rfl,rfl,.of U,gL (j:=3) rfl,?_⟩
    exact⟨J,R,D,p,_,rfl,g.le (gA i),ž,k⟩
  ·rintro σ N ⟨J,R,D,d,v3,rfl,g,XH,k⟩
   rw[<- ru.length,pJ]at k
   cases k
   obtain⟨es,ed,rd⟩:=g.Fm (K:=K) T J
   exact⟨_,rfl,q _ (.lst es) (λb=>if H b=M then N b else G0 b) N ⟨es,rfl,ed⟩ (OI T J) rd⟩
abbrev ql:=mv 39
abbrev z_:List aM:=["_law_lean", "_law_signs_here", "_law_waits", "_law_most", "_law_found", "_law_nodes_here", "_law_is_open", "_law_opened", "_law_closed", "_law_kept"]
def mI:bu z_ ["_law_lean", "_law_signs_here", "_law_waits", "_law_most"] (ay ql):=by walk_at "s"
def f6:DF:=eF (pR Ab ç)
def t3:DT:=jY (eT (cF à)) (jY (dD (e2 uj (aQ gr xz) (eK (.int 4)))) (jY (eT (cF (aQ l' (aC no aN)))) (eT (cF (aQ l' (aC (e2 bP Sc Fa) aN))))))
def t4:DT:=jY (dD (e2 uj no (aQ gr wl))) (dD (e2 uj (e2 bP Sc Fa) (aQ gr è)))
def f7:DL:=lZ (JF (aQ gr è)) [M,Y 6] (gN 0) (cF (e2 bP Db db)) db
def f8:DL:=lZ (iL pc) [M,Y 6] (gN 0) (eT (cF (e2 bP Db db))) db
def t7:DT:=jY (eT (cF (aQ xR (aC (e2 bP Sc lc) (aC Ñ FS))))) (eT (cF (aQ xR (aC (e2 bP Sc Uf) (aC (eV 8) FS)))))
def ZI:DF:=e2 fR (dY "Lean" "asleep" kF db aN) (eV 9)
structure Yq(dl:D)(ss ws:List D)(most:Int)(fo d:D)(op od cl:List D):Prop where
 e6:f6 [some dl,some (.lst ss),some (.lst ws),some (.int most),some fo,some d,none,none,none,none]=some (.lst op)
 e3:t3 [some dl,some (.lst ss),some (.lst ws),some (.int most),some fo,some d,some (.lst op),none,none,none]=some false
 e4:t4 [some dl,some (.lst ss),some (.lst ws),some (.int most),some fo,some d,some (.lst op),none,none,none]=some false
 e7:f7 [some dl,some (.lst ss),some (.lst ws),some (.int most),some fo,some d,some (.lst op),none,none,none]=some od
 e8:f8 [some dl,some (.lst ss),some (.lst ws),some (.int most),some fo,some d,some (.lst op),some (.lst od),none,none]=some cl
 e9:t7 [some dl,some (.lst ss),some (.lst ws),some (.int most),some fo,some d,some (.lst op),some (.lst od),some (.lst cl),none]=some false
structure Iq(dl:D)(ss ws:List D)(most:Int):Prop where
 ex:∃ks fs c i j R S zf,dl=.ins "Lean" ks fs/\ae "asleep" ∉ ks/\Wq dl c i j R S/\R.length<=100000/\S.length<=100000/\ss.length<=100000/\sf ss ([],-1)=some zf/\px [.lst (R.map tI)]=some (R.map tI)/\px [.lst (S.map tI)]=some (S.map tI) /\
  (∀d,Wn d zf.1->∃op od cl,Yq dl ss ws most (Bw i j R S) d op od cl)/\ZI [some dl,none,none,none,none,none,none,none,none,some (Bw i j R S)]=some (.bl true)
def Ua(K:aT):Sp:=λf H Q _=>∃G d c b a,a_ G H/\be K G [d,.lst c,.lst b,.int a] f/\Iq d c b a/\∀e,a_ H e->Q (.bl Z') e
def iQ.put{K:aT}{f:St}{b:cO}{d:D}{v:V}{i:Nat}(h:iQ K [] G H f b)(e:gf G H c k)(r:cI K c d v):iQ K [] c k (f.set i (Y v)) (b.set i (Y d)):=by
 refine⟨by simp[h.len],λj x a =>?_,λj r p h=>by cases h⟩;by_cases z:i=j
 ·subst z;have g:i<b.length:=by
   by_cases q:i<b.length
   ·exact q
   ·rw[f9 (by simp;omega)]at a;cases a
  rw[bC g]at a;cases a;exact⟨v,bC (by rw[h.len];exact g),r⟩
 ·rw[aj z]at a ⊢;exact(h.ext e).get j x a
def Li{X:Cx}{i:Nat}{f:DL}{N:List aM}{src:List (Option Nat)}{F n:Pos}{m:Expr}(S:fQ X N src T)(q:X.calm=Z')(t:X.N.Nodup)(w:X.N[i]?=Y y)(k:X.env.scope.names.lookup y=Y .local)(o:PI X L O (AZ X.K [] f))(u:M4 J g)(e:∀i∈J,src[i]?=Y M)(p:∀v l H Q,Qu X.K [] a v l H Q->g v l H Q)(r:∀C s H j,PG (X.tw N T C s H j) L g/\E9 (X.tw N T C s H j) E (sC X.K [] U)/\PE (X.tw N T C s H j) m (tP X.K [] b))(d:autoParam (cP (.ListComp m [⟨L,O,E,0⟩] T A) (Y (.Name y F)) n.line X.env=eQ true) Ų)(R:autoParam (∀x,cK O X.env x=eQ x) ů)(c:autoParam (jJ [] [] src=true) Ű):PS X (.Assign [.Name y F] (.ListComp m [⟨L,O,E,0⟩] T A) n) (Ny (tF X.K [] (lZ f src a U b)) (qG i)):=
 (vy S q t w k o u e r d R).imp λD l H h=>HA c p h
section
variable {P:bh}{w:cX}{K:aT}{g:aM->Option ai}{l:de}{f:az}{n:dm}
def Jk(F:ir K "_law_sleeps" "_law_sleeps" ql f n)(k:KS K g)(hS:fO P w K g l "Lean" "asleep" 30 (Uh K))(hF:fO P w K g l "Lean" "asleep" 30 (gQ K kF))(hn:ji P w K g l "_law_nodes" 30 (YQ K))(ho:ji P w K g l "_law_open" 30 (IU K Ab))(hw:ji P w K g l "_law_whole" 30 (gQ K l'))(U6:ji P w K g l "_law_row" 30 (gQ K xR))(ha:ji P w K g l "_law_again" 30 (Ug K))(hs:ji P w K g l "_law_spoiled" 30 Ub):cq P w K g l gU 31 f n ["_law_lean", "_law_signs_here", "_law_waits", "_law_most"] (Ua K):=by
 obtain⟨CL,fL,yL,xL,nL,lL,jL,rL,pL⟩:=hS.ex
 refine F.ok mI (λvs H Q E h =>?_) (λKo A outer s H vs Q E B h =>?_)
 ·obtain⟨G,dl,ss,ws,N,gh,r,_⟩:=h
  exact r.length.symm
 ·obtain⟨G,dl,ss,ws,N,gh,r,ok,q⟩:=h
  obtain⟨ks,fs,c,i,j,R,S,zf,rfl,nk,as,lR,lS,lss,ez,aR,aS,mid,lF⟩:=ok.ex
  refine⟨_,cW (js (i:=4) mI.nd rfl (.inl rfl) (vz (pv 0) lL jL rL B pL .nil pj))
   (cW (js (i:=5) mI.nd rfl (.inl rfl) (nj hn B rfl (bM (pv 1) cG)))
   (cW (js (i:=6) mI.nd rfl (.inr rfl) (df (Z:=[]) (vX ho B rfl (bH (vP 5) (bH (vP 1) dS)))))
   (cW (ni (PW.pt (pT (Z:=[]) (mN (cp (dq (cA (T:= "tuple") ſ rfl k.y rfl k.y (by decide +kernel) (vQ 4))))) (pT (mO (D7 B) (dq (nJ rfl k.y (vQ 4))) (dq cM) (ki _)) (pT (mN (cp (dq (hR hw B rfl (bH (jM (vQ 4) (dq cM)) dS))))) (qd (mN (cp (dq (hR hw B rfl (bH (jM (vQ 4) (dq cM)) dS)))))))))) B9 iZ)
   (cW (ni (PW.pt (pT (Z:=[]) (mO (D7 B) (dq (jM (vQ 4) (dq cM))) (dq (nJ rfl k.y (vQ 1))) (ki _)) (qd (mO (D7 B) (dq (jM (vQ 4) (dq cM))) (dq (nJ rfl k.y (vQ 5))) (ki _))))) B9 iZ)
   (cW (Li (i:=7) (N:=[("_law_at" : aM),("_law_is_open" : aM)]) (src:=[M,Y 6]) (gE (outer:=ay ql) (oN:=z_) rfl (by decide +kernel) rfl rfl) rfl mI.nd rfl rfl (xb rfl k.y (dq (nJ rfl k.y (vQ 5)))) (eP 0) ſ (e_ 0) (λC s H ex=>⟨cN (i:=0) (show ([("_law_at" : aM),("_law_is_open" : aM)]:List aM).Nodup by decide +kernel) rfl (.inl rfl),(HW (cp (dq (jM (vQ 1) (vQ 0))))),(vP 0)⟩))
   (cW (Li (i:=8) (N:=[("_law_one" : aM),("_law_is_open" : aM)]) (src:=[M,Y 6]) (gE (outer:=ay ql) (oN:=z_) rfl (by decide +kernel) rfl rfl) rfl mI.nd rfl rfl (jU (vP 2)) (eP 0) ſ (e_ 0) (λC s H ex=>⟨cN (i:=0) (show ([("_law_one" : aM),("_law_is_open" : aM)]:List aM).Nodup by decide +kernel) rfl (.inl rfl),(HW (mN (cp (dq (jM (vQ 1) (vQ 0)))))),(vP 0)⟩))
   (cW (ni (PW.pt (pT (Z:=[]) (mN (cp (dq (hR U6 B rfl (bH (jM (vQ 4) (dq cM)) (bH (vP 7) (bH (vP 3) dS))))))) (qd (mN (cp (dq (hR U6 B rfl (bH (jM (vQ 4) (dq cM)) (bH (vP 8) (bH (vP 3) dS)))))))))) B9 iZ)
   (cW (js (i:=9) mI.nd rfl (.inl rfl) (nj ha B rfl (bM (pv 4) cG)))
   (cW (gJ (nj hs B rfl (bM (pv 4) cG)))
   (dE (pf (Si (Z:=[]) (D9 B) (dq (BD hF B (vP 0))) (vQ 9) (ki _))))))))))))),?_⟩
  obtain⟨v0,vs,rfl,r0,r⟩:=bt.mp r
  obtain⟨v1,vs,rfl,r1,r⟩:=bt.mp r
  obtain⟨v2,vs,rfl,r2,r⟩:=bt.mp r
  obtain⟨v3,vs,rfl,r3,r⟩:=bt.mp r
  have:=cV.mp r;subst this
  obtain⟨a0,C',dx0,us0,rfl,n',ha0,l0,rs0⟩:=qZ.mp r0
  rw[nL]at n';cases n'
  refine⟨.ref a0,rfl,a0,dx0,_,rfl,gh _ _ ha0,oJ (K:=K) (G:=G) nk,G,_,c,i,j,R,S,gh,.cons r0 .nil,as,λt a b G1 H1 u =>?_⟩
  refine⟨v1,rfl,G1,ss,zf,u.e.gh,.cons (cI.mono u.e.gg _ r1) .nil,lss,ez,λv5 d G2 H2 par X r5 =>?_⟩
  obtain⟨op,od,cl,m⟩:=mid d par
  obtain⟨us,Xw,W⟩:=u.ha
  obtain⟨VV,Xv,L⟩:=u.hb
  have s2:a_ H H2:=u.e.hh.trans X.hh
  have g2:a_ G H2:=gh.trans s2
  have rf:cI K H2 (Bw i j R S) (.ref t):=cY.mpr ⟨t,_,rfl,X.hh _ _ u.ht,.cons (bE.mpr rfl) (.cons (bE.mpr rfl) (.cons (bZ.mpr ⟨a,us,rfl,X.hh _ _ Xw,be.mono (u.e.gh.trans X.hh) _ W⟩) (.cons (bZ.mpr ⟨b,VV,rfl,X.hh _ _ Xv,be.mono (u.e.gh.trans X.hh) _ L⟩) .nil)))⟩
  have U:iQ K [] H2 H2 [Y (.ref a0),Y v1,Y v2,Y v3,Y (.ref t),Y v5,M,M,M,M] [Y (.ins "Lean" ks fs),Y (.lst ss),Y (.lst ws),Y (.int N),Y (Bw i j R S),Y d,M,M,M,M]:=by
   refine⟨rfl,λi e h =>?_,λj r p h=>by cases h⟩
   rcases i with _|_|_|_|_|_|_|_|_|_|i<;>cases h
   ·exact⟨_,rfl,cI.mono g2 _ r0⟩
   ·exact⟨_,rfl,cI.mono g2 _ r1⟩
   ·exact⟨_,rfl,cI.mono g2 _ r2⟩
   ·exact⟨_,rfl,cI.mono g2 _ r3⟩
   ·exact⟨_,rfl,rf⟩
   ·exact⟨_,rfl,cI.mono X.gh _ r5⟩
  refine⟨H2,_,.lst op,a_.refl _,U,m.e6,λv6 G3 H3 E3 r6 =>?_⟩
  have D:=iQ.put (i:=6) U E3 r6
  refine⟨G3,_,Z_,E3.gh,D,m.e3,λG4 H4 E4=>uk ?_⟩
  refine⟨G4,_,Z_,E4.gh,D.ext E4,m.e4,λG5 H5 E5=>uk ?_⟩
  refine⟨G5,_,od,E5.gh,(D.ext E4).ext E5,m.e7,λp7 b7 G6 H6 E6 n7 g7 h7 r7 =>?_⟩
  have O:=iQ.put (i:=7) ((D.ext E4).ext E5) (E6.freeze n7 g7 h7) (bZ.mpr ⟨p7,b7,rfl,bj,be.mono (.alloc g7) od r7⟩)
  refine⟨_,_,cl,(E6.freeze n7 g7 h7).gh,O,m.e8,λp8 b8 G7 H7 E7 n8 g8 h8 r8 =>?_⟩
  have X1:=iQ.put (i:=8) O (E7.freeze n8 g8 h8) (bZ.mpr ⟨p8,b8,rfl,bj,be.mono (.alloc g8) cl r8⟩)
  refine⟨_,_,Z_,(E7.freeze n8 g8 h8).gh,X1,m.e9,λG8 H8 E8=>uk ?_⟩
  have s28:a_ H2 H8:=((((E3.hh.trans E4.hh).trans E5.hh).trans E6.hh).trans E7.hh).trans E8.hh
  have J:a_ H1 H8:=X.hh.trans s28
  refine⟨.ref t,rfl,t,i,j,a,b,us,VV,R,S,rfl,J _ _ u.ht,J _ _ Xw,J _ _ Xv,be.mono (u.e.gh.trans J) _ W,be.mono (u.e.gh.trans J) _ L,aR,aS,λvk G9 H9 s9 g9 ga gb rk =>?_⟩
  have I:a_ H1 H9:=J.trans s9
  have YU:a_ H H9:=u.e.hh.trans I
  have rl:∀ {T:List (List Int)}{us:List V},be K G1 (T.map tI) us->us.length=T.length:=λr=>by rw[<- r.length];simp
  refine⟨.ref t,rfl,t,i,j,a,b,us,VV,rfl,I _ _ u.ht,u.ne,⟨I _ _ Xw,FH (be.mono (u.e.gh.trans I) _ W)⟩,⟨I _ _ Xv,FH (be.mono (u.e.gh.trans I) _ L)⟩,by rw[rl W];exact lR,by rw[rl L];exact lS,λPf kp =>?_⟩
  have na:∀c o,H c=Y o->c≠a/\c≠b:=λc o e=>⟨(λz=>by rw[z,u.a0]at e;cases e),(λz=>by rw[z,u.b0]at e;cases e)⟩
  have WT:a_ H Pf:=λc o e=>kp c o (na c o e).1 (na c o e).2 (YU _ _ e)
  have gl:∀ {G':Hp},a_ G' H9->G' a=M->G' b=M->a_ G' (fx H9 [a,b]):=λs ea eb c o e=>by
   rw[cy]
   ·exact s _ _ e
   ·simp only[aE,eH,or_false]
    rintro(rfl|rfl)
    ·rw[ea]at e;cases e
    ·rw[eb]at e;cases e
  have gs:a_ (fx H9 [a,b]) Pf:=λc o e=>by
   by_cases z:c∈[a,b]
   ·rw[jw z]at e;cases e
   ·rw[cy z]at e
    exact kp c o (λy=>z (by simp[y])) (λy=>z (by simp[y])) e
  have gn:∀c,H c=M->G c=none:=λc e=>by
   rcases x:G c with _|o
   ·rfl
   ·rw[gh _ _ x]at e;cases e
  refine⟨fx H9 [a,b],[Y (.ins "Lean" ks fs),M,M,M,M,M,M,M,M,Y (Bw i j R S)],.bl Z',gs,?_,lF,λv G11 H11 E11 W8 =>?_⟩
  ·refine⟨rfl,λi e h =>?_,λj r p h=>by cases h⟩
   rcases i with _|_|_|_|_|_|_|_|_|_|i<;>cases h
   ·exact⟨_,rfl,cI.mono (gl (gh.trans YU) (gn _ u.a0) (gn _ u.b0)) _ r0⟩
   ·exact⟨_,rfl,cI.mono (gl g9 ga gb) _ rk⟩
  ·cases eY.mp W8
   exact q _ (WT.trans E11.hh)
end
def Yp(h:List D):Prop:=∃g f e d,h=[g,.lst f,.lst e,.int d]/\Iq g f e d
def h_(d:List D):Option D:=open Classical in if Yp d then Y (.bl Z') else M
def A7(h:Iq dl f e d):h_ [dl,.lst f,.lst e,.int d]=Y (.bl Z'):=if_pos ⟨_,_,_,_,rfl,h⟩
def NC{K:aT}(h:gQ K h_ j H Q E):Ua K j H Q E:=by
 obtain⟨G,o,d,g,r,e,q⟩:=h;unfold h_ at e;split at e
 ·rename_i p;cases e;obtain⟨m,k,i,f,rfl,l⟩:=p;exact⟨G,m,k,i,f,g,r,l,λn s=>q _ G n ⟨s,a_.refl _,g.trans s,λ_ _ e =>.inl e⟩ (eY.mpr rfl)⟩
 ·cases e
abbrev ln:=jk (mP (e2 bP ge Ñ)) kl
abbrev io:=aC (dY "Sift" "waiting" fc Rs aN) xz
abbrev Go:=CD ge pN (pS (e2 fA Ñ Fa))
abbrev wE:=aC (eV 5) (aC (eF Go) io)
def yD:=
  (aZ (eD (bW "Lean" "take" eO lA 5 ln))
   (aZ (eD (bW "Sift" "take" d_ ly 6 ln))
   (dR (Al [5,6] [] (eT (cF (aQ h_ wE))))
   No
   cH)))
abbrev wn:=aC db (aC (eK (.int 100)) (aC (eK (.int 12)) aN))
abbrev À:=aC (eV 5) (aC wf (aC wf xz))
abbrev Ì:=aC db (aC (eK (.int 500)) (aC (eK (.int 28)) aN))
def HI:=
  (aZ (dh 1 (aQ we bn))
  (aZ (dh 2 (rF t2 (pR jC wn) (aC Uf wl)))
  (aZ (dh 3 (eF (pR t5 (aC (eF (pR jC Ì)) wl))))
  (aZ (dh 4 (e2 fA (e2 qb AC (aQ kD sn)) AC))
  (aZ (A_ 5 eO (kj "Lean" kQ sn))
  (aZ (A_ 6 d_ (kj "Sift" kP sn))
  (aZ (dR (Al [5,6] [] (eT (cF (aQ h_ À))))
  No
  cH)
  (aZ (iu (JF (aQ gr FS)) (gN 7)
  yD)
  (dX Â)))))))))
def Fb:=ku 1 8 HI
abbrev wF:=mv 40
def sM:bu ["_law_script", "_law_some", "_law_question", "_law_signs_here", "_law_most", "_law_lean", "_law_sift", "_law_k"] ["_law_script"] (ay wF):=by walk_at "s"
section
variable {P:bh}{w:cX}{K:aT}{a:aM->Option ai}{b:de}{f:az}{c:dm}
def Rh(F:ir K "law" "law" wF f c)(r:a "len" = M)(l:a "range" = M)(q:um P w K a b "Lean" 98 (spT K eO kQ))(p:um P w K a b "Sift" 98 (spT K d_ kP))(o:ji P w K a b "_law_names" 99 (gQ K we))(m:ji P w K a b "_law_steps" 99 (BZ K 0 t2))(j:ji P w K a b "_law_cells" 99 (IU K jC))(n:ji P w K a b "_law_signs" 99 (IU K t5))(e:ji P w K a b "_law_many_tuples" 99 (gQ K kD))(h:fO P w K a b "Sift" "take" 99 (spT K d_ ly))(i:fO P w K a b "Lean" "take" 99 (spT K eO lA))(g:ji P w K a b "_law_sleeps" 99 (gQ K h_))(d:fO P w K a b "Sift" "waiting" 99 (gQ K fc)):cq P w K a b gU 100 f c ["_law_script"] (gQ K Fb):=
 F.x6 (Z:=[5,6]) (Ź:=[5,6]) (g:=HI) sM ſ λv A t s H E k B u=>
  (aB (mQ (i:=1) sM.nd rfl (.inl rfl) (hR o k rfl (bH (vP 0) dS)))
  (aB (mQ (i:=2) sM.nd rfl (.inl rfl) (JR m k rfl (vX j k rfl (bH (vP 0) (bH cM (bH cM dS)))) (bH cM (bH (vP 1) dS))))
  (aB (mQ (i:=3) sM.nd rfl (.inl rfl) (df (vX n k rfl (bH (df (vX j k rfl (bH (vP 0) (bH cM (bH cM dS))))) (bH (vP 1) dS)))))
  (aB (mQ (i:=4) sM.nd rfl (.inl rfl) (rZ wQ (dq (rZ Rj (dq cM) (dq (hR e k rfl (bH (vP 2) dS))))) (dq cM)))
  (aB (HY (i:=5) (s:=eO) sM.nd rfl (.inl rfl) (Ib (fk:=HM) q k rfl (bH (vP 2) dS)))
  (aB (HY (i:=6) (s:=d_) sM.nd rfl (.inl rfl) (Ib (fk:=HL) p k rfl (bH (vP 2) dS)))
  (aB (jX (HX [] [5,6] [] (mN (cp (dq (hR g k rfl (bH (vP 5) (bH (df (zS dS)) (bH (df (zS dS)) (bH (vP 4) dS)))))))))
  (bQ (fY vZ))
  fU)
  (aB (u0 cT rfl (xb rfl l (dq (nJ rfl r (vQ 3)))) (λB u=>(yC (cN (i:=7) sM.nd rfl (.inl rfl)))) (λB u=>
  (aB (zQ (zR i k (pv 5) (tq (yB (jM (vQ 3) (vQ 7))) CI)))
   (aB (zQ (zR h k (pv 6) (tq (yB (jM (vQ 3) (vQ 7))) CI)))
   (bQ (jX (HX [] [5,6] [] (mN (cp (dq (hR g k rfl (bH (vP 5) (bH (df (MJ (vQ 3) EI (EH (dq (rZ wQ (vQ 7) (dq cM)))))) (bH (BD d k (vP 6)) (bH (vP 4) dS)))))))))
   (bQ (fY vZ))
   fU))))))
  (bQ (fY vZ))))))))))
end
end K21
namespace K21
open PySem L2
structure C5 where
 q:List D
 bits:Int
 nk:List mi
 nv:List D
 tk:List mi
 tv:List D
 jQ:Int
 vo:Int
 inner:Int
 dA:List D
 asks:List D
noncomputable def gu(f:C5):D :=.ins "Facts" ["question", "bits", "by_name", "by_text", "starred", "stars", "inner", "leads", "asks"] [.lst f.q,.int f.bits,.jn f.nk f.nv,.jn f.tk f.tv,.int f.jQ,.int f.vo,.int f.inner,.lst f.dA,.lst f.asks]
structure iq where
 number:Int
 named:Int
 atoms:Int
 fits:Int
 bo:Int
 ra:Int
 nW:Int
 ha:Int
noncomputable abbrev rk:List aM:=["number", "named", "atoms", "fits", "reached", "reached_around", "hoped", "hoped_around"]
noncomputable abbrev rl(r:iq):List D:=[.int r.number,.int r.named,.int r.atoms,.int r.fits,.int r.bo,.int r.ra,.int r.nW,.int r.ha]
def cu(r:iq):D :=.ins "Row" rk (rl r)
structure si where
 num:Int
 place:Int
 Z:Int
 around:Int
noncomputable def dw(r:si):D :=.tup [.int r.num,.int r.place,.int r.Z,.int r.around]
structure kT where
 f:C5
 full:Int
 qM:Int
 taken:Int
 opened:Int
 rows:List iq
 rests:List si
def bJ(c:kT):D :=.ins "Coming" ["facts", "full", "able", "taken", "opened", "rows", "rests"] [gu c.f,.int c.full,.int c.qM,.int c.taken,.int c.opened,.lst (c.rows.map cu),.lst (c.rests.map dw)]
noncomputable abbrev bA:=vj
noncomputable abbrev bO:=dF
noncomputable abbrev bN:=vi
def zF(c:kT)(p a f:Int)(h:(bA (bO p (bA a c.f.inner)) f).natAbs<2 ^ 64):dW [bJ c,.int p,.int a,.int f]=Y (.int (bA (bO p (bA a c.f.inner)) f*2)):=by
 have e:dW [bJ c,.int p,.int a,.int f]=((qC (.int (bA (bO p (bA a c.f.inner)) f)) (.int 1)).map DO.rt).bind nN:=by kernel_rfl
 rw[e];simp only[qC];rw[if_pos ⟨by decide,by decide,h⟩];rfl
def zt(h:0<n):An n (-1)=Y (n-1):=by
 unfold An;rw[if_neg (by decide),if_pos (by omega)]
 congr 1
 omega
def rA{n k:Nat}(h:k<n):An n (k:Int)=Y k:=by
 unfold An;rw[if_pos (by omega),if_pos (by omega)]
 congr 1
def MT(b:List a)(x:a):oi (b++[x]) (-1)=Y x:=by
 unfold oi;rw[zt (by simp)];simp
def aK{ρ':cO}(e:g ρ=Y (.nx ρ')):aZ g h ρ=h ρ':=by unfold aZ;rw[e];rfl
def iX{f:DF}{a:cO}{d:D}(e:f a=Y d):dh i f a=Y (.nx (a.set i (Y d))):=by unfold dh;rw[e];rfl
def nP{f:DF}{ρ':cO}{d:D}(r:res b c a=ρ')(e:f ρ'=Y d)(p:sT d=Z'):mh b c f a=Y d:=by unfold mh;rw[r,e];simp[p]
def sG{f:DT}{ρ':cO}(r:res c d a=ρ')(e:f ρ'=Y b):Al c d f a=Y b:=by unfold Al;rw[r,e]
abbrev oC(c:kT):Option D:=Y (.obj aA (bJ c))
noncomputable abbrev eS(k:Nat):Option D:=Y (.eS 0 [.fld "rows",.ix k])
def UO(c:kT)(b:si)(r pr:iq):si:=
 let a:=bA (bO b.Z b.around/2) r.fits
 ⟨b.num,b.place-1,bA (bA a (bN c.f.inner)) pr.nW,bA (bO (bA a c.f.inner) b.around) pr.ha⟩
def IY{c:kT}(h:c.rows.getLast? = Y a):oi (c.rows.map cu) (-1)=Y (cu a):=by
 obtain⟨b,e⟩:=Ks.mp h;rw[e,bG];exact MT _ _
def Ce(c:kT)(b:si)(r a:iq)(h:c.rows.getLast? = Y a):gG [bJ c,dw b,cu r]=Y (dw (UO c b r a)):=by
 show (ja [Y (bJ c),Y (dw b),Y (cu r),M,M,M,M]).bind nN=_;unfold ja;rw[aK (iX (d:=cu a) (show (oi (c.rows.map cu) (-1):Option D)=Y (cu a) from IY h))];kernel_rfl
abbrev sw:=fM []
def B6{c:kT}{k:Nat}{r r':iq}{f:aM}{d:D}(h:c.rows[k]?=Y r)(m:eV 0 a=oC c)(i:eV j a=eS k)(l:e a=Y d)(g:D.ins "Row" (je f d rk (rl r)).1 (je f d rk (rl r)).2=cu r'):
  gC Z' j "Row" f e a=Y (.nx (a.set 0 (oC { c with rows:=c.rows.set k r' }))):=by
 have b:(c.rows.map cu)[k]?=Y (cu r):=by rw[aF,h];rfl
 unfold gC Hs yl;rw[l,i];simp only[ab];rw[m];simp only[ab];have p:ya "Row" aA (bJ c) [.fld "rows",.ix k]=Y ([],rk,rl r):=by
  have o:fM [.fld "rows",.ix k] (bJ c)=Y (cu r):=by
   have:fM [.fld "rows",.ix k] (bJ c)=((c.rows.map cu)[k]?).bind sw:=by kernel_rfl
   rw[this,b];rfl
  unfold ya;rw[o];kernel_rfl
 rw[p];simp only[ab];rw[if_pos ⟨rfl,by decide⟩,g];have n:nh (cu r') [.fld "rows",.ix k] (bJ c)=bJ { c with rows:=c.rows.set k r' }:=by
  have:nh (cu r') [.fld "rows",.ix k] (bJ c)=D.ins "Coming" ["facts", "full", "able", "taken", "opened", "rows", "rests"] [gu c.f,D.int c.full,D.int c.qM,D.int c.taken,D.int c.opened,(match (c.rows.map cu)[k]? with|none=>D.lst (c.rows.map cu)|some _=>D.lst ((c.rows.map cu).set k (cu r'))),D.lst (c.rests.map dw)]:=by kernel_rfl
  rw[this,b];unfold bJ;simp only[oA]
 rw[n]
noncomputable abbrev ck:List aM:=["facts", "full", "able", "taken", "opened", "rows", "rests"]
abbrev cl(c:kT):List D:=[gu c.f,.int c.full,.int c.qM,.int c.taken,.int c.opened,.lst (c.rows.map cu),.lst (c.rests.map dw)]
def u7{c:kT}{n:Int}{k:Nat}(g:eV 0 a=oC c)(f:b a=Y (.int n))(d:An c.rows.length n=Y k):sS i 0 "Coming" "rows" b a=Y (.nx (a.set i (eS k))):=by
 have e:sJ "Coming" "rows" 0 a=Y (tY,ck,cl c,D.lst (c.rows.map cu)):=by unfold sJ yl;rw[g];kernel_rfl
 unfold sS;rw[e,f];show (An (c.rows.map cu).length n).map _=_;rw[aq,d];rfl
def Hn{c:kT}{k:Nat}{r r':iq}{f:aM}{m n:Int}(i:c.rows[k]?=Y r)(p:eV 0 a=oC c)(l:eV j a=eS k)(o:e a=Y (.int n))(h:(rk.zip (rl r)).lookup f=Y (.int m))(g:D.ins "Row" (je f (.int (b m n)) rk (rl r)).1 (je f (.int (b m n)) rk (rl r)).2=cu r'):
  eW Z' j "Row" f b e a=Y (.nx (a.set 0 (oC { c with rows:=c.rows.set k r' }))):=by
 have d:(c.rows.map cu)[k]?=Y (cu r):=by rw[aF,i];rfl
 unfold eW Hs yl;rw[o,l];simp only[ab];rw[p];simp only[ab];have t:ya "Row" aA (bJ c) [.fld "rows",.ix k]=Y ([],rk,rl r):=by
  have s:fM [.fld "rows",.ix k] (bJ c)=Y (cu r):=by
   have:fM [.fld "rows",.ix k] (bJ c)=((c.rows.map cu)[k]?).bind sw:=by kernel_rfl
   rw[this,d];rfl
  unfold ya;rw[s];kernel_rfl
 rw[t];simp only[ab,h];rw[if_pos ⟨rfl,by decide⟩,g];have q:nh (cu r') [.fld "rows",.ix k] (bJ c)=bJ { c with rows:=c.rows.set k r' }:=by
  have:nh (cu r') [.fld "rows",.ix k] (bJ c)=D.ins "Coming" ["facts", "full", "able", "taken", "opened", "rows", "rests"] [gu c.f,D.int c.full,D.int c.qM,D.int c.taken,D.int c.opened,(match (c.rows.map cu)[k]? with|none=>D.lst (c.rows.map cu)|some _=>D.lst ((c.rows.map cu).set k (cu r'))),D.lst (c.rests.map dw)]:=by kernel_rfl
  rw[this,d];unfold bJ;simp only[oA]
 rw[q]
def pz{c:kT}{k:Nat}{r:iq}(a:c.rows[k]?=Y r):(c.rows.map cu)[k]?=Y (cu r):=by rw[aF,a];rfl
structure Pg(f:C5)(fit lift:Int->Int->Int):Prop where
 fit:∀n a,eG [gu f,.int n,.int a]=some (.int (fit n a))
 lift:∀n a,iM [gu f,.int n,.int a]=some (.int (lift n a))
def IT(c b:Int->Int->Int)(p:Nat)(r d:iq)(a:List iq):List iq:=
 (a.set (p+1) { r with fits:=c r.named r.atoms }).set p { d with atoms:=bO d.atoms (b r.named r.atoms) }
def Dx(w:Pg c.f e a){p:Nat}{f:iq}(s:c.rows[p+1]?=Y r)(z:c.rows[p]?=Y f)(d A l g:Option D):
  jB [oC c,Y (.int ((p:Int)+1)),d,A,l,g]=Y (.nx [oC { c with rows:=IT e a p r f c.rows },Y (.int p),Y (.bl (bA (a r.named r.atoms) (bN f.atoms) != 0)),eS (p+1),Y (.int (a r.named r.atoms)),eS p]):=by
 have v:p+1<c.rows.length:=(af.mp s).1;unfold jB;rw[aK (u7 (c:=c) (n:=(p:Int)+1) (k:=p+1) rfl rfl (by have:=rA (n:=c.rows.length) (k:=p+1) v;simpa using this))];simp only[bf,bg];have q:res [0] [3,5] [oC c,Y (.int ((p:Int)+1)),d,eS (p+1),l,g]=[Y (bJ c),Y (.int ((p:Int)+1)),d,((c.rows.map cu)[p+1]?).bind sw,l,VW [oC c,Y (.int ((p:Int)+1)),d,eS (p+1),l,g] g]:=by kernel_rfl
 rw[pz s]at q;simp only[ab,fM]at q;rw[aK (B6 (c:=c) (k:=p+1) (r:=r) (r':={ r with fits:=e r.named r.atoms }) (d :=.int (e r.named r.atoms)) s rfl rfl (nP q (show eG [gu c.f,.int r.named,.int r.atoms]=_ from w.fit _ _) rfl) (by kernel_rfl))];simp only[bf,bg];generalize h:({ c with rows:=c.rows.set (p+1) { r with fits:=e r.named r.atoms } }:kT)=b;have u:b.f=c.f:=by rw[<- h]
 have m:b.rows[p+1]?=Y { r with fits:=e r.named r.atoms }:=by rw[<- h];simp[v]
 have k:b.rows[p]?=Y f:=by rw[<- h];simp only;rw[aj (by omega)];exact z
 have o:res [0] [3,5] [oC b,Y (.int ((p:Int)+1)),d,eS (p+1),l,g]=[Y (bJ b),Y (.int ((p:Int)+1)),d,((b.rows.map cu)[p+1]?).bind sw,l,VW [oC b,Y (.int ((p:Int)+1)),d,eS (p+1),l,g] g]:=by kernel_rfl
 rw[pz m]at o;simp only[ab,fM]at o;rw[aK (iX (d :=.int (a r.named r.atoms)) (nP o (show iM [gu b.f,.int r.named,.int r.atoms]=_ from by rw[u];exact w.lift _ _) rfl))];simp only[bf,bg];show aZ (uv 1 (λi j=>i-j) Fa) _ [oC b,Y (.int ((p:Int)+1)),d,eS (p+1),Y (.int (a r.named r.atoms)),g]=_;rw[aK (ρ':=[oC b,Y (.int p),d,eS (p+1),Y (.int (a r.named r.atoms)),g]) ?y]
 case y=>
  have:uv 1 (λi j=>i-j) Fa [oC b,Y (.int ((p:Int)+1)),d,eS (p+1),Y (.int (a r.named r.atoms)),g]=Y (.nx [oC b,Y (.int ((p:Int)+1-1)),d,eS (p+1),Y (.int (a r.named r.atoms)),g]):=by kernel_rfl
  rw[this,AS]
 have t:p<b.rows.length:=(af.mp k).1;rw[aK (u7 (c:=b) (n:=(p:Int)) (k:=p) rfl rfl (rA t))];simp only[bf,bg];have n:res [0] [3,5] [oC b,Y (.int p),d,eS (p+1),Y (.int (a r.named r.atoms)),eS p]=[Y (bJ b),Y (.int p),d,((b.rows.map cu)[p+1]?).bind sw,Y (.int (a r.named r.atoms)),((b.rows.map cu)[p]?).bind sw]:=by kernel_rfl
 rw[pz m,pz k]at n;simp only[ab,fM]at n;have x:mh [0] [3,5] (e2 uj lw u8) [oC b,Y (.int p),d,eS (p+1),Y (.int (a r.named r.atoms)),eS p]=Y (.bl (bA (a r.named r.atoms) (bN f.atoms) != 0)):=by
  refine nP n ?_ rfl;have:e2 uj lw u8 [Y (bJ b),Y (.int p),d,Y (cu { r with fits:=e r.named r.atoms }),Y (.int (a r.named r.atoms)),Y (cu f)]=uj (.int (bA (a r.named r.atoms) (bN f.atoms))) (.int 0):=by kernel_rfl
  rw[this];simp[uj,jN,BC,bne]
 show aZ (dh 2 _) _ [oC b,Y (.int p),d,eS (p+1),Y (.int (a r.named r.atoms)),eS p]=_;rw[aK (iX x)];simp only[bf,bg];show eW Z' 5 "Row" "atoms" dF Sc [oC b,Y (.int p),Y (.bl (bA (a r.named r.atoms) (bN f.atoms) != 0)),eS (p+1),Y (.int (a r.named r.atoms)),eS p]=_;rw[Hn (c:=b) (k:=p) (r:=f) (r':={ f with atoms:=bO f.atoms (a r.named r.atoms) }) (m:=f.atoms) (n:=a r.named r.atoms) k rfl rfl rfl rfl (by kernel_rfl)];rw[<- h];rfl
def Ax(fit lift:Int->Int->Int):Bool->Nat->List iq->List iq
 | true,p+1,a=>match a[p+1]?,a[p]? with
  |some r,Y b=>Ax fit lift (bA (lift r.named r.atoms) (bN b.atoms) != 0) p (IT fit lift p r b a)|_,_=>a
 |_,_,a=>a
def KQ:(IT fit lift p r b a).length=a.length:=by unfold IT;simp
theorem vt:∀(p n:Nat) (c:kT) (f:Bool) (d b a:Option D),Pg c.f fit lift->p<n->p<c.rows.length->∃v u j i g,
  qS (ju (cF pc) py) jB n [oC c,Y (.int p),Y (.bl f),d,b,a]=Y (.nx [oC { c with rows:=Ax fit lift f p c.rows },v,u,j,i,g])
 |p,0,c,f,d,b,a,_,h,_=>by omega
 | 0,n+1,c,f,d,b,a,k,h,o=>by
  refine⟨Y (.int 0),Y (.bl f),d,b,a,?_⟩;rw[qS];have e:ju (cF pc) py [oC c,Y (.int ((0:Nat):Int)),Y (.bl f),d,b,a]=Y false:=by cases f<;>rfl
  rw[e];simp only[ab,eB,if_false];cases f<;>rfl
 | p+1,n+1,c,f,d,b,a,k,h,o=>by
  rw[qS];cases f with
  |false=>refine⟨Y (.int ((p+1:Nat):Int)),Y (.bl Z_),d,b,a,?_⟩;have e:ju (cF pc) py [oC c,Y (.int ((p+1:Nat):Int)),Y (.bl Z_),d,b,a]=Y false:=rfl;rw[e];rfl
  |true=>
   have l:c.rows[p+1]?=Y c.rows[p+1]:=aO o;have m:c.rows[p]?=Y (c.rows[p]' ž):=aO ž;have e:ju (cF pc) py [oC c,Y (.int ((p+1:Nat):Int)),Y (.bl Z'),d,b,a]=Y true:=by have:ju (cF pc) py [oC c,Y (.int ((p+1:Nat):Int)),Y (.bl Z'),d,b,a]=dD (λ_=>ux (.int ((p+1:Nat):Int)) (.int 0)) []:=rfl;rw[this];simp[dD,ux]
   rw[e];simp only[ab,if_true];have r:=Dx k l m (Y (.bl Z')) d b a;rw[show ((p+1:Nat):Int)=(p:Int)+1 by omega,r];simp only[ab];obtain⟨t,s,j,i,g,q⟩:=vt p n { c with rows:=IT fit lift p c.rows[p+1] (c.rows[p]' ž) c.rows } (bA (lift c.rows[p+1].named c.rows[p+1].atoms) (bN (c.rows[p]' ž).atoms) != 0) (eS (p+1)) (Y (.int (lift c.rows[p+1].named c.rows[p+1].atoms))) (eS p) k ž (by simp only[KQ];omega);refine⟨t,s,j,i,g,q.trans ?_⟩;simp only[Ax,l,m]
abbrev Î:=mo aA
def A6{c:kT}(b:Pg c.f fit lift)(e:0<c.rows.length)(d:c.rows.length<1000000):dP [bJ c]=Y (.eN,bJ { c with rows:=Ax fit lift Z' (c.rows.length-1) c.rows }):=by
 show (kM [oC c,M,M,M,M,M]).bind Î=_;unfold kM;have a:mh [0] [3,5] ã [oC c,M,M,M,M,M]=Y (.int ((c.rows.length-1:Nat):Int)):=by
  have:mh [0] [3,5] ã [oC c,M,M,M,M,M]=Y (.int (((c.rows.map cu).length:Int)-1)):=by kernel_rfl
  rw[this,aq]
  congr 2
  omega
 rw[aK (iX a)];simp only[bf,bg];rw[aK (iX (d :=.bl Z') rfl)];simp only[bf,bg];obtain⟨j,i,h,g,f,q⟩:=vt (c.rows.length-1) 1000000 c Z' M M M b ž ž;unfold FZ;rw[q];kernel_rfl
def z8(fit lift:Int->Int->Int)(c:kT)(atoms:Int)(r:iq):kT:=if bA atoms (bN r.atoms) != 0 then { c with rows:=Ax fit lift Z' (c.rows.length-1) (c.rows.set (c.rows.length-1) { r with atoms:=bO r.atoms atoms }) } else c
def CZ{c:kT}(j:Pg c.f fit lift){r:iq}(b:c.rows[c.rows.length-1]?=Y r)(i:c.rows.length<1000000)(atoms:Int):gI [bJ c,.int atoms]=Y (.eN,bJ (z8 fit lift c atoms r)):=by
 have f:0<c.rows.length:=by have:=(af.mp b).1;omega
 show (jc [oC c,Y (.int atoms),M]).bind Î=_;unfold jc;rw[aK (u7 (c:=c) (n:= -1) (k:=c.rows.length-1) rfl rfl (zt f))];simp only[bf,bg];have a:res [0] [2] [oC c,Y (.int atoms),eS (c.rows.length-1)]=[Y (bJ c),Y (.int atoms),((c.rows.map cu)[c.rows.length-1]?).bind sw]:=by kernel_rfl
 rw[pz b]at a;simp only[ab,fM]at a;have h:Al [0] [2] (cF å) [oC c,Y (.int atoms),eS (c.rows.length-1)]=Y (bA atoms (bN r.atoms) != 0):=sG a (by kernel_rfl);unfold dR;rw[h];simp only[ab];unfold z8;by_cases e:(bA atoms (bN r.atoms) != 0)=Z'
 ·rw[if_pos e,if_pos e];rw[aK (Hn (c:=c) (k:=c.rows.length-1) (r:=r) (r':={ r with atoms:=bO r.atoms atoms }) (m:=r.atoms) (n:=atoms) b rfl rfl rfl rfl (by kernel_rfl))];simp only[bf,bg];have d:=A6 (c:={ c with rows:=c.rows.set (c.rows.length-1) { r with atoms:=bO r.atoms atoms } }) j (by simpa using f) (by simpa using i);simp only[G_]at d;unfold sK eD;have g:bW "Coming" "spread" aA dP 0 kl [oC { c with rows:=c.rows.set (c.rows.length-1) { r with atoms:=bO r.atoms atoms } },Y (.int atoms),eS (c.rows.length-1)]=(dP [bJ { c with rows:=c.rows.set (c.rows.length-1) { r with atoms:=bO r.atoms atoms } }]).map λq=>(q.1,[Y (.obj aA q.2),Y (.int atoms),M]):=by kernel_rfl
  rw[g,d];kernel_rfl
 ·rw[if_neg e,if_neg e];kernel_rfl
def De(b p a f:Int):Int:=bA (bO p (bA a b)) f*2
def pY(a:Int)(b r:iq):iq:={ r with bo:=De a b.bo b.ra r.fits,ra:=bO b.ra (De a b.bo b.ra r.fits) }
abbrev CB(a b:Int)(c r:iq):Bool:=bA (bA (De a c.bo c.ra r.fits) (bN r.bo)) b != 0
def Dy{p:Nat}(n:c.rows[p+1]?=Y r)(v:c.rows[p]?=Y a)(F:(bA (bO a.bo (bA a.ra c.f.inner)) r.fits).natAbs<2 ^ 64)(b:List D)(y:b.length<dU)(A z l:Option D):
  hU [oC c,Y (.lst b),Y (.int ((p:Int)+1)),A,z,l]=Y (.nx [oC { c with rows:=c.rows.set (p+1) (pY c.f.inner a r) },Y (.lst (b++if CB c.f.inner c.full a r then [.int r.number] else [])),Y (.int ((p:Int)+1)),eS p,eS (p+1),Y (.int r.bo)]):=by
 have w:p+1<c.rows.length:=(af.mp n).1;unfold hU;have E:e2 nY pc Fa [oC c,Y (.lst b),Y (.int ((p:Int)+1)),A,z,l]=Y (.int (p:Int)):=by
  have:e2 nY pc Fa [oC c,Y (.lst b),Y (.int ((p:Int)+1)),A,z,l]=Y (.int ((p:Int)+1-1)):=by kernel_rfl
  rw[this,AS]
 rw[aK (u7 (c:=c) (n:=(p:Int)) (k:=p) rfl E (rA (by omega)))];simp only[bf,bg];rw[aK (u7 (c:=c) (n:=(p:Int)+1) (k:=p+1) rfl rfl (by have:=rA (n:=c.rows.length) (k:=p+1) w;simpa using this))];simp only[bf,bg];have s:res [0] [4,3] [oC c,Y (.lst b),Y (.int ((p:Int)+1)),eS p,eS (p+1),l]=[Y (bJ c),Y (.lst b),Y (.int ((p:Int)+1)),((c.rows.map cu)[p]?).bind sw,((c.rows.map cu)[p+1]?).bind sw,l]:=by kernel_rfl
 rw[pz n,pz v]at s;simp only[ab,fM]at s;rw[aK (iX (d :=.int r.bo) (nP s (by kernel_rfl) rfl))];simp only[bf,bg];have q:res [0] [4,3] [oC c,Y (.lst b),Y (.int ((p:Int)+1)),eS p,eS (p+1),Y (.int r.bo)]=[Y (bJ c),Y (.lst b),Y (.int ((p:Int)+1)),((c.rows.map cu)[p]?).bind sw,((c.rows.map cu)[p+1]?).bind sw,Y (.int r.bo)]:=by kernel_rfl
 rw[pz n,pz v]at q;simp only[ab,fM]at q;rw[aK (B6 (c:=c) (k:=p+1) (r:=r) (r':={ r with bo:=De c.f.inner a.bo a.ra r.fits }) (d :=.int (De c.f.inner a.bo a.ra r.fits)) n rfl rfl (nP q (show dW [bJ c,.int a.bo,.int a.ra,.int r.fits]=_ from zF _ _ _ _ F) rfl) (by kernel_rfl))];simp only[bf,bg];generalize f:({ c with rows:=c.rows.set (p+1) { r with bo:=De c.f.inner a.bo a.ra r.fits } }:kT)=g;have i:g.rows[p+1]?=Y { r with bo:=De c.f.inner a.bo a.ra r.fits }:=by rw[<- f];simp[w]
 have j:g.rows[p]?=Y a:=by rw[<- f];simp only;rw[aj (by omega)];exact v
 have o:res [0] [4,3] [oC g,Y (.lst b),Y (.int ((p:Int)+1)),eS p,eS (p+1),Y (.int r.bo)]=[Y (bJ g),Y (.lst b),Y (.int ((p:Int)+1)),((g.rows.map cu)[p]?).bind sw,((g.rows.map cu)[p+1]?).bind sw,Y (.int r.bo)]:=by kernel_rfl
 rw[pz i,pz j]at o;simp only[ab,fM]at o;rw[aK (B6 (c:=g) (k:=p+1) (r':=pY c.f.inner a r) (d :=.int (bO a.ra (De c.f.inner a.bo a.ra r.fits))) i rfl rfl (nP o (by kernel_rfl) rfl) (by kernel_rfl))];simp only[bf,bg];generalize h:({ g with rows:=g.rows.set (p+1) (pY c.f.inner a r) }:kT)=d;have t:d.rows[p+1]?=Y (pY c.f.inner a r):=by rw[<- h,<- f];simp[w]
 have u:d.rows[p]?=Y a:=by rw[<- h];simp only;rw[aj (by omega)];exact j
 have k:d={ c with rows:=c.rows.set (p+1) (pY c.f.inner a r) }:=by rw[<- h,<- f];simp
 have x:d.full=c.full:=by rw[k]
 have m:res [0] [4,3] [oC d,Y (.lst b),Y (.int ((p:Int)+1)),eS p,eS (p+1),Y (.int r.bo)]=[Y (bJ d),Y (.lst b),Y (.int ((p:Int)+1)),((d.rows.map cu)[p]?).bind sw,((d.rows.map cu)[p+1]?).bind sw,Y (.int r.bo)]:=by kernel_rfl
 rw[pz t,pz u]at m;simp only[ab,fM]at m;have C:Al [0] [4,3] (cF TD) [oC d,Y (.lst b),Y (.int ((p:Int)+1)),eS p,eS (p+1),Y (.int r.bo)]=Y (CB c.f.inner d.full a r):=sG m (by kernel_rfl);show dR _ _ _ [oC d,Y (.lst b),Y (.int ((p:Int)+1)),eS p,eS (p+1),Y (.int r.bo)]=_;unfold dR;rw[C,x];simp only[ab];rw[<- k];by_cases e:CB c.f.inner c.full a r=Z'
 ·rw[if_pos e,if_pos e];unfold p';have B:mh [0] [4,3] (bp "Row" "number" Sc) [oC d,Y (.lst b),Y (.int ((p:Int)+1)),eS p,eS (p+1),Y (.int r.bo)]=Y (.int r.number):=nP m (by kernel_rfl) rfl;rw[B];show (if b.length<dU then _ else M)=_;rw[if_pos y];rfl
 ·rw[if_neg e,if_neg e];simp only[cm];rfl
def mj(a:Int):iq->List iq->List iq
 |_,[]=>[]|pr,r::b=>pY a pr r::mj a (pY a pr r) b
def vG(a b:Int):iq->List iq->List Int
 |_,[]=>[]|pr,r::c=>(if CB a b pr r then [r.number] else [])++vG a b (pY a pr r) c
def VF(a:Int):iq->List iq->Prop
 |_,[]=>True|pr,r::b=>(bA (bO pr.bo (bA pr.ra a)) r.fits).natAbs<2 ^ 64/\VF a (pY a pr r) b
theorem DA(a:Int):∀(c:iq) (b:List iq),(mj a c b).length=b.length
 |_,[]=>rfl|c,r::b=>by simp[mj,DA a (pY a c r) b]
theorem Ef(a b:Int):∀(d:iq) (c:List iq),(vG a b d c).length<=c.length
 |_,[]=>aH _|d,r::c=>by have:=Ef a b (pY a d r) c;unfold vG;split<;>simp<;>omega
def IZ(b:Int)(n:Nat):mm b (n+1)=.int b::mm (b+1) n:=by
 unfold mm;rw[wk];simp[fK];intro a _;omega
def k_{ρ1:cO}(h:b d c=Y ρ1)(f:g ρ1=Y (.nx a)):gD b g (d::e) c=gD b g e a:=by
 rw[gD,h];simp only[ab,f]
theorem yV:∀(rs pre:List iq) (pr:iq) (c:kT) (ds:List D) (a2 a3 a4 a5:Option D),c.rows=pre++pr::rs->VF c.f.inner pr rs->ds.length+rs.length<dU->∃b2 b3 b4 b5,
  gD (gN 2) hU (mm ((pre.length:Int)+1) rs.length) [oC c,Y (.lst ds),a2,a3,a4,a5]=Y (.nx [oC { c with rows:=pre++pr::mj c.f.inner pr rs },Y (.lst (ds++(vG c.f.inner c.full pr rs).map D.int)),b2,b3,b4,b5])
 |[],pre,pr,c,ds,a2,a3,a4,a5,e,h,hd=>by refine⟨a2,a3,a4,a5,?_⟩;show Y (DO.nx _)=_;simp only[mj,vG,rP,cm,<- e]
 | r::rs,pre,pr,c,ds,a2,a3,a4,a5,e,h,hd=>by
  have hr:c.rows[pre.length+1]?=Y r:=by rw[e,iy (by omega)];simp
  have hp:c.rows[pre.length]?=Y pr:=by rw[e,iy (by omega)];simp
  simp only[aP]at hd ⊢;have hb:=Dy hr hp h.1 ds ž a3 a4 a5;rw[IZ,k_ (ρ1:=[oC c,Y (.lst ds),Y (.int ((pre.length:Int)+1)),a3,a4,a5]) rfl hb];obtain⟨b2,b3,b4,b5,q⟩:=yV rs (pre++[pr]) (pY c.f.inner pr r) { c with rows:=c.rows.set (pre.length+1) (pY c.f.inner pr r) } (ds++if CB c.f.inner c.full pr r then [.int r.number] else []) (Y (.int ((pre.length:Int)+1))) (eS pre.length) (eS (pre.length+1)) (Y (.int r.bo)) (by simp only[e];rw[List.set_append_right _ _ (by omega)];simp) h.2 (by split<;>simp<;>omega);refine⟨b2,b3,b4,b5,?_⟩;simp only[aJ,aP,iU,Int.natCast_add,Int.natCast_one,Int.natCast_zero,Int.zero_add]at q;rw[q];rw[mj,vG];simp only[bV,vh,dI,bG];have:(if CB c.f.inner c.full pr r=Z' then [D.int r.number] else [])=ve D.int (if CB c.f.inner c.full pr r=Z' then [r.number] else []):=by split<;>rfl
  rw[this]
def RG{f:DF}{i:Int}(c:f a=Y (.int i))(b:g a=Y (.int j))(h : -(2 ^ 62)<=i/\i<2 ^ 62 /\ -(2 ^ 62)<=j/\j<2 ^ 62):P_ f g a=Y (mm i (j-i).toNat):=by
 simp only[P_,c,b,ab];rw[if_pos h]
def CS:1000000<=dU:=by unfold dU;decide
def IV(e:c.rows=t::a)(h:VF c.f.inner t a)(m:a.length<1000000):kR [bJ c]=Y ((vG c.f.inner c.full t a).map D.int,bJ { c with rows:=t::mj c.f.inner t a }):=by
 show (kN [oC c,M,M,M,M,M]).bind (PU aA)=_;unfold kN;have g:kq 1 Ê [oC c,M,M,M,M,M]=Y (.nx [oC c,Y (.lst []),M,M,M,M]):=by kernel_rfl
 rw[aK g];obtain⟨l,k,j,i,q⟩:=yV a [] t c [] M M M M (by simpa using e) h (by have:=CS;simp only[iU];omega);have f:mh [0] [4,3] (aQ gr ul) [oC c,Y (.lst []),M,M,M,M]=Y (.int (a.length+1:Int)):=by
  have:mh [0] [4,3] (aQ gr ul) [oC c,Y (.lst []),M,M,M,M]=Y (.int ((c.rows.map cu).length:Int)):=by kernel_rfl
  rw[this,aq,e];simp
 have d:P_ Fa Í [oC c,Y (.lst []),M,M,M,M]=Y (mm 1 a.length):=by have:=RG (f:=eK (.int 1)) (i:=1) rfl f ⟨ſ,ſ,wm ſ (show (0:Int)<=(a.length:Int)+1 by omega),AR (show (a.length:Int)+1<=1000000 by omega) ſ⟩;rw[this,AS,gP]
 have b:iu (P_ Fa Í) (gN 2) hU [oC c,Y (.lst []),M,M,M,M]=Y (.nx [oC { c with rows:=t::mj c.f.inner t a },Y (.lst ((vG c.f.inner c.full t a).map D.int)),l,k,j,i]):=by unfold iu;rw[d];simpa using q
 rw[aK b];kernel_rfl
abbrev Mf(r:iq)(a:si):Bool:=bA r.bo a.Z != 0||bA r.ra a.around != 0
def nt(a:List iq)(b:si):Bool:=match a[b.place.toNat]? with|some r=>Mf r b|none=>Z_
abbrev SE(a:List iq)(b:si):Prop:=0<=b.place/\b.place<a.length
theorem IQ(h:SE c.rows rs)(fs ks:List D)(hf:fs.length<dU)(hk:ks.length<dU)(a4:Option D):
  ∃b4,eC [oC c,Y (.lst fs),Y (.lst ks),Y (dw rs),a4]=Y (.nx [oC c,Y (.lst (fs++if nt c.rows rs then [.int rs.num] else [])),Y (.lst (ks++if nt c.rows rs then [] else [dw rs])),Y (dw rs),b4]):=by
 obtain⟨k,Zm⟩:∃k:Nat,rs.place=k:=⟨rs.place.toNat,ž⟩;have hl:k<c.rows.length:=by have:=h.2;omega
 have hr:c.rows[k]?=Y c.rows[k]:=aO hl;generalize c.rows[k]=r at hr;have hm:nt c.rows rs=Mf r rs:=by unfold nt;rw[Zm,gP,hr]
 rw[hm];refine⟨eS k,?_⟩;unfold eC;have q0:e2 bP ge Fa [oC c,Y (.lst fs),Y (.lst ks),Y (dw rs),a4]=Y (.int rs.place):=by kernel_rfl
 rw[Zm]at q0;rw[aK (u7 (c:=c) (n:=(k:Int)) (k:=k) rfl q0 (rA hl))];simp only[bf,bg];have q1:res [0] [4] [oC c,Y (.lst fs),Y (.lst ks),Y (dw rs),eS k]=[Y (bJ c),Y (.lst fs),Y (.lst ks),Y (dw rs),((c.rows.map cu)[k]?).bind sw]:=by kernel_rfl
 rw[pz hr]at q1;simp only[ab,fM]at q1;have q2:Al [0] [4] jp [oC c,Y (.lst fs),Y (.lst ks),Y (dw rs),eS k]=Y (Mf r rs):=by
  refine sG q1 ?_;have e1:cF (e2 eZ (bp "Row" "reached" Sc) Ò) [Y (bJ c),Y (.lst fs),Y (.lst ks),Y (dw rs),Y (cu r)]=Y (bA r.bo rs.Z != 0):=by kernel_rfl
  have e2:cF Ë [Y (bJ c),Y (.lst fs),Y (.lst ks),Y (dw rs),Y (cu r)]=Y (bA r.ra rs.around != 0):=by kernel_rfl
  unfold jp jY Mf;rw[e1,e2];cases (bA r.bo rs.Z != 0)<;>rfl
 unfold dR;rw[q2];simp only[ab];cases Mf r rs with
 |true=>show (if fs.length<dU then _ else M)=_;rw[if_pos hf];simp
 |false=>show (if ks.length<dU then _ else M)=_;rw[if_pos hk];simp
theorem Dq:∀(d:List si) (c:kT) (g f:List D) (j i:Option D),(∀a∈d,SE c.rows a)->g.length+d.length<dU->f.length+d.length<dU->∃l k,
  gD (gN 3) eC (d.map dw) [oC c,Y (.lst g),Y (.lst f),j,i]=Y (.nx [oC c,Y (.lst (g++(d.filter (nt c.rows)).map λa=>D.int a.num)),Y (.lst (f++(d.filter λa=> !nt c.rows a).map dw)),l,k])
 |[],c,g,f,j,i,h,n,m=>⟨j,i,by simp[gD]⟩
 |a::d,c,g,f,j,i,h,n,m=>by simp only[aP]at n m;obtain⟨b,p⟩:=IQ (h a (au ..)) g f ž ž i;rw[aI,k_ (ρ1:=[oC c,Y (.lst g),Y (.lst f),Y (dw a),i]) rfl p];obtain⟨l,k,q⟩:=Dq d c (g++if nt c.rows a then [.int a.num] else []) (f++if nt c.rows a then [] else [dw a]) (Y (dw a)) b (λy o=>h y (ao _ o)) (by split<;>simp<;>omega) (by split<;>simp<;>omega);refine⟨l,k,q.trans ?_⟩;cases e:nt c.rows a<;>simp[e]
theorem zx:∀(a:List Int),Bq (a.map D.int)=Y a
 |[]=>rfl|n::a=>by simp[Bq,zx a]
def yU{f:DF}(e:f b=Y (.lst (a.map D.int)))(h:a.length<64):mM f b=Y ((ud a).map D.int):=by
 unfold mM;rw[e];simp only[ab,zx];rw[if_pos h]
def FE(c:kT)(rows:List iq):kT:={ c with rows:=rows,rests:=c.rests.filter λa=> !nt rows a }
def K5{F:List D->Option (List D×D)}(d:F [bJ c]=Y (a,bJ b)):yZ 1 0 "Coming" "settle" aA F [oC c,M,M,M,M]=Y (.nx [oC b,Y (.lst a),M,M,M]):=by
 have:yZ 1 0 "Coming" "settle" aA F [oC c,M,M,M,M]=(F [bJ c]).map λr =>.nx [Y (.obj aA r.2),Y (.lst r.1),M,M,M]:=by kernel_rfl
 rw[this,d];rfl
def jK{n:Nat}(h:n<2000):n<dU:=bx (Nat.lt_trans h ſ) CS
def AD{c:kT}(e:c.rows=t::a)(h:VF c.f.inner t a)(A:∀y∈c.rests,SE c.rows y)(B:(vG c.f.inner c.full t a++(c.rests.filter (nt (t::mj c.f.inner t a))).map (·.num)).length<64)(F:a.length<64)(G:c.rests.length<1000):
  dZ [bJ c]=Y (.lst ((ud (vG c.f.inner c.full t a++(c.rests.filter (nt (t::mj c.f.inner t a))).map (·.num))).map D.int),bJ (FE c (t::mj c.f.inner t a))):=by
 show (iC [oC c,M,M,M,M]).bind Î=_;unfold iC;have z:=IV e h ž;have C:=Ef c.f.inner c.full t a;generalize vG c.f.inner c.full t a=i at *
 generalize n:t::mj c.f.inner t a=rows at *
 have o:rows.length=c.rows.length:=by rw[<- n,e];simp[DA]
 generalize k:({ c with rows:=rows }:kT)=f at *
 have j:f.rows=rows:=by rw[<- k]
 have b:f.rests=c.rests:=by rw[<- k]
 rw[aK (K5 z)];rw[aK (ρ':=[oC f,Y (.lst (i.map D.int)),Y (.lst []),M,M]) ?w]
 case w=>kernel_rfl
 obtain⟨m,l,v⟩:=Dq f.rests f (i.map D.int) [] M M (by rw[b,j];intro y x;have:=A y x;exact⟨this.1,by rw[o];exact this.2⟩) (jK (by rw[b,aq];omega)) (jK (by rw[b,iU];omega));have u:iu (iL Ô) (gN 3) eC [oC f,Y (.lst (i.map D.int)),Y (.lst []),M,M]=gD (gN 3) eC (f.rests.map dw) [oC f,Y (.lst (i.map D.int)),Y (.lst []),M,M]:=by kernel_rfl
 rw[aK (u.trans v)];simp only[dI];rw[b,j];have s:(i.map D.int++(c.rests.filter (nt rows)).map λa=>D.int a.num)=(i++(c.rests.filter (nt rows)).map (·.num)).map D.int:=by simp[fK]
 rw[s];generalize i++(c.rests.filter (nt rows)).map (·.num)=g at *
 rw[aK (ρ':=[oC (FE c rows),Y (.lst (g.map D.int)),Y (.lst ((c.rests.filter λa=> !nt rows a).map dw)),m,l]) ?r]
 case r=>rw[<- k];kernel_rfl
 have q:mM Db [oC (FE c rows),Y (.lst (g.map D.int)),Y (.lst ((c.rests.filter λa=> !nt rows a).map dw)),m,l]=Y ((ud g).map D.int):=yU rfl B;generalize (ud g).map D.int=E at *
 have p:(dM (mP (eF (mM Db))) [oC (FE c rows),Y (.lst (g.map D.int)),Y (.lst ((c.rests.filter λa=> !nt rows a).map dw)),m,l])=((mM Db [oC (FE c rows),Y (.lst (g.map D.int)),Y (.lst ((c.rests.filter λa=> !nt rows a).map dw)),m,l]).map D.lst).bind λd=>Y (.rm d [oC (FE c rows),Y (.lst (g.map D.int)),Y (.lst ((c.rests.filter λa=> !nt rows a).map dw)),m,l]):=by unfold dM mP eF;cases mM Db [oC (FE c rows),Y (.lst (g.map D.int)),Y (.lst ((c.rests.filter λa=> !nt rows a).map dw)),m,l]<;>rfl
 rw[p,q];kernel_rfl
def Gu{r r':iq}{f:aM}{d:D}(h:eV i a=Y (cu r))(g:b a=Y d)(c:D.ins "Row" (je f d rk (rl r)).1 (je f d rk (rl r)).2=cu r'):lT i "Row" f b a=Y (.nx (a.set i (Y (cu r')))):=by
 have e:Bt "Row" i a=Y (rk,rl r):=by unfold Bt;rw[h];kernel_rfl
 unfold lT;rw[g,e];simp only[ab];rw[if_pos (by decide),c]
def AL(fit:Int->Int->Int)(c:kT)(d a b:Int)(e:iq):iq:=⟨d,a,b,fit a b,0,0,De c.f.inner e.nW e.ha (bA a c.qM),bO e.ha (De c.f.inner e.nW e.ha (bA a c.qM))⟩
def Ol{m:Int}(h:c.rows.length<dU):y0 0 4 "Coming" "rows" [oC c,Y (.int n),Y (.int m),Y (.int k),Y (cu r),eS j]=Y (.nx [oC { c with rows:=c.rows++[r] },Y (.int n),Y (.int m),Y (.int k),M,M]):=by
 have e:sJ "Coming" "rows" 0 [oC c,Y (.int n),Y (.int m),Y (.int k),Y (cu r),eS j]=Y (tY,ck,cl c,D.lst (c.rows.map cu)):=by kernel_rfl
 unfold y0;rw[e];simp only[ab];have b:eV 4 [oC c,Y (.int n),Y (.int m),Y (.int k),Y (cu r),eS j]=Y (.ins "Row" rk (rl r)):=rfl;rw[b];simp only[ab];rw[if_pos ⟨by decide,by rw[aq];exact h⟩];have a:c.rows.map cu++[D.ins "Row" rk (rl r)]=(c.rows++[r]).map cu:=by rw[bG];rfl
 rw[a];kernel_rfl
def CT{c:kT}(l:Pg c.f fit lift){pr:iq}(g:c.rows.getLast? = Y pr)(d a b:Int)(j:(bA (bO pr.nW (bA pr.ha c.f.inner)) (bA a c.qM)).natAbs<2 ^ 64)(i:c.rows.length<dU):
  gH [bJ c,.int d,.int a,.int b]=Y (.eN,bJ { c with rows:=c.rows++[AL fit c d a b pr] }):=by
 show (jb [oC c,Y (.int d),Y (.int a),Y (.int b),M,M]).bind Î=_;unfold jb;have k:0<c.rows.length:=by cases h:c.rows with|nil=>rw[h]at g;cases g|cons=>simp
 have f:c.rows[c.rows.length-1]?=Y pr:=by rw[<- Kt];exact g
 rw[aK (iX (d:=cu ⟨d,a,b,0,0,0,0,0⟩) (by kernel_rfl))];simp only[bf,bg];rw[aK (u7 (c:=c) (n:= -1) (k:=c.rows.length-1) rfl rfl (zt k))];simp only[bf,bg];have e:∀x,res [0] [5] [oC c,Y (.int d),Y (.int a),Y (.int b),Y (cu x),eS (c.rows.length-1)]=[Y (bJ c),Y (.int d),Y (.int a),Y (.int b),Y (cu x),Y (cu pr)]:=by
  intro x;have:res [0] [5] [oC c,Y (.int d),Y (.int a),Y (.int b),Y (cu x),eS (c.rows.length-1)]=[Y (bJ c),Y (.int d),Y (.int a),Y (.int b),Y (cu x),((c.rows.map cu)[c.rows.length-1]?).bind sw]:=by kernel_rfl
  rw[this,pz f];rfl
 rw[aK (Gu (r:=⟨d,a,b,0,0,0,0,0⟩) (r':=⟨d,a,b,fit a b,0,0,0,0⟩) (d :=.int (fit a b)) rfl (nP (e _) (show eG [gu c.f,.int a,.int b]=_ from l.fit _ _) rfl) (by kernel_rfl))];simp only[bf,bg];rw[aK (Gu (r:=⟨d,a,b,fit a b,0,0,0,0⟩) (r':=⟨d,a,b,fit a b,0,0,De c.f.inner pr.nW pr.ha (bA a c.qM),0⟩) (d :=.int (De c.f.inner pr.nW pr.ha (bA a c.qM))) rfl (nP (e _) (show dW [bJ c,.int pr.nW,.int pr.ha,.int (bA a c.qM)]=_ from zF _ _ _ _ j) rfl) (by kernel_rfl))];simp only[bf,bg];rw[aK (Gu (r:=⟨d,a,b,fit a b,0,0,De c.f.inner pr.nW pr.ha (bA a c.qM),0⟩) (r':=AL fit c d a b pr) (d :=.int (bO pr.ha (De c.f.inner pr.nW pr.ha (bA a c.qM)))) rfl (nP (e _) (by kernel_rfl) rfl) (by kernel_rfl))];simp only[bf,bg];rw[Ol i];kernel_rfl
abbrev Kl(a:Int)(r:iq):Bool:=bA (bA r.nW (bN r.bo)) a != 0
theorem AW(c:kT):∀(b:List iq) (a:List D) (d:Option D),a.length+b.length<dU->∃f,
  gD (gN 2) gw (b.map cu) [Y (bJ c),Y (.lst a),d]=Y (.nx [Y (bJ c),Y (.lst (a++(b.filter (Kl c.full)).map λr=>D.int r.number)),f])
 |[],a,d,_=>⟨d,by simp[gD]⟩
 | r::b,a,d,h=>by
  simp only[aP]at h;have g:gw [Y (bJ c),Y (.lst a),Y (cu r)]=Y (.nx [Y (bJ c),Y (.lst (a++if Kl c.full r then [.int r.number] else [])),Y (cu r)]):=by
   unfold gw dR;have e:cF ut [Y (bJ c),Y (.lst a),Y (cu r)]=Y (Kl c.full r):=by kernel_rfl
   rw[e];simp only[ab];cases Kl c.full r with
   |true=>show (if a.length<dU then _ else M)=_;rw[if_pos (by omega)];rfl
   |false=>simp;rfl
  rw[aI,k_ (ρ1:=[Y (bJ c),Y (.lst a),Y (cu r)]) rfl g];obtain⟨f,q⟩:=AW c b (a++if Kl c.full r then [.int r.number] else []) (Y (cu r)) (by split<;>simp<;>omega);refine⟨f,q.trans ?_⟩;cases e:Kl c.full r<;>simp[e]
def qk(c:kT):List Int:=c.rests.map (·.num)++(c.rows.filter (Kl c.full)).map (·.number)
theorem Hz:∀(a:List si),vJ [M] (gN 0) eU ol (a.map dw)=Y ((a.map (·.num)).map D.int)
 |[]=>rfl|x::a=>by rw[aI,vJ];have b:gN 0 (dw x) [M]=Y [Y (dw x)]:=rfl;rw[b,Hz a];rfl
def Ky(c:kT)(l:c.rests.length<=1000)(k:c.rows.length<=500)(i:(qk c).length<64):iN [bJ c]=Y (.lst ((ud (qk c)).map D.int)):=by
 show (lY [Y (bJ c),M,M]).bind nN=_;unfold lY;have b:=CS;rw[aK (ρ':=[Y (bJ c),Y (.lst ((c.rests.map (·.num)).map D.int)),M]) ?h]
 case h=>
  have e:lZ (iL (bp "Coming" "rests" db)) [M] (gN 0) eU ol [Y (bJ c),M,M]=Y ((c.rests.map (·.num)).map D.int):=by
   unfold lZ;have a:iL (bp "Coming" "rests" db) [Y (bJ c),M,M]=Y (c.rests.map dw):=by kernel_rfl
   rw[a];simp only[ab];rw[if_pos (by rw[aq];omega)];exact Hz _
  unfold kq;rw[e];rfl
 obtain⟨j,g⟩:=AW c c.rows ((c.rests.map (·.num)).map D.int) M (jK (by simp only[aq];omega));have f:iu (iL (bp "Coming" "rows" db)) (gN 2) gw [Y (bJ c),Y (.lst ((c.rests.map (·.num)).map D.int)),M]=gD (gN 2) gw (c.rows.map cu) [Y (bJ c),Y (.lst ((c.rests.map (·.num)).map D.int)),M]:=by
  have a:iL (bp "Coming" "rows" db) [Y (bJ c),Y (.lst ((c.rests.map (·.num)).map D.int)),M]=Y (c.rows.map cu):=by kernel_rfl
  unfold iu;rw[a];rfl
 rw[aK (f.trans g)];have e:(c.rests.map (·.num)).map D.int++(c.rows.filter (Kl c.full)).map (λr=>D.int r.number)=(qk c).map D.int:=by unfold qk;simp[fK]
 rw[e];have d:mM Db [Y (bJ c),Y (.lst ((qk c).map D.int)),j]=Y ((ud (qk c)).map D.int):=yU rfl i;unfold rV;rw[d];rfl
def NI{p:Nat}(h:p<=1000):qC (.int 1) (.int (p:Int))=Y (.int (2 ^ p)):=by
 simp only[qC];rw[if_pos ⟨by omega,by omega,by decide⟩];simp
noncomputable def Cp(x:si):List si->List si
 |[]=>[x]|y::b=>if x.num<y.num then x::y::b else y::Cp x b
noncomputable def se:List si->List si
 |[]=>[]|x::b=>Cp x (se b)
theorem wW(x:si):∀l,(Cp x l).Perm (x::l)
 |[] =>.rfl| y::b=>by
  unfold Cp;split
  ·exact .rfl
  ·exact((wW x b).cons y).trans (.swap x y b)
theorem mG:∀l,(se l).Perm l
 |[] =>.rfl|x::b=>(wW x (se b)).trans ((mG b).cons x)
theorem Mb(x:si):∀l:List si,Cq P9 (dw x) (l.map dw)=(Cp x l).map dw
 |[]=>rfl| y::b=>by
  unfold Cp;rw[aI,Cq];show (if x.num<y.num then _ else _)=_;split
  ·rfl
  ·rw[Mb x b];rfl
theorem KP:∀l:List si,FP P9 (l.map dw)=(se l).map dw
 |[]=>rfl|x::b=>by rw[aI,FP,KP b,Mb];rfl
abbrev oR(r:iq):Option D:=Y (cu r)
noncomputable abbrev pP(m:si):Bool:=m.Z != 0||m.around != 0
def Am(c:kT)(b:Nat)(r pr:iq)(m:si):si:=if m.place=b then UO c m r pr else m
def Oo{F:List D->Option D}{f:Option D}{m:si}:dY "Coming" "moved_out" F db ç [Y (bJ c),oR r,Y (.int n),f,e,Y (dw m),b]=F [bJ c,dw m,cu r]:=by kernel_rfl
theorem Mt{r:iq}(hp:c.rows.getLast? = Y pr)(m:si)(place:Nat)(xs ks:List D)(hk:ks.length<dU)(a6:Option D):∃b6,
  fG [oC c,oR r,Y (.int place),Y (.lst xs),Y (.lst ks),Y (dw m),a6]=Y (.nx [oC c,oR r,Y (.int place),Y (.lst xs),Y (.lst (ks++if pP (Am c place r pr m) then [dw (Am c place r pr m)] else [])),Y (dw m),b6]):=by
 refine⟨Y (dw (Am c place r pr m)),?_⟩;have q1:res [0,1] [] [oC c,oR r,Y (.int place),Y (.lst xs),Y (.lst ks),Y (dw m),a6]=[Y (bJ c),oR r,Y (.int place),Y (.lst xs),Y (.lst ks),Y (dw m),a6]:=by kernel_rfl
 have q2:Mw (dD È) (dY "Coming" "moved_out" gG db ç) (eV 5) [Y (bJ c),oR r,Y (.int place),Y (.lst xs),Y (.lst ks),Y (dw m),a6]=Y (dw (Am c place r pr m)):=by
  have e1:dD È [Y (bJ c),oR r,Y (.int place),Y (.lst xs),Y (.lst ks),Y (dw m),a6]=Y (AJ (.int m.place) (.int (place:Int))):=by kernel_rfl
  have e2:AJ (.int m.place) (.int (place:Int))=decide (m.place=place):=by by_cases h:m.place=place<;>simp[BC,h]
  unfold Mw;rw[e1,e2];simp only[ab];unfold Am;by_cases h:m.place=place
  ·rw[decide_eq_true h,if_pos rfl,if_pos h,Oo];exact Ce c m r pr hp
  ·rw[decide_eq_false h,if_neg (by decide),if_neg h];rfl
 unfold fG;rw[aK (iX (nP q1 q2 (by kernel_rfl)))];simp only[bf,bg];generalize Am c place r pr m=m';have q3:jY (cF (e2 bP Rs lc)) (cF (e2 bP Rs Uf)) [oC c,oR r,Y (.int place),Y (.lst xs),Y (.lst ks),Y (dw m),Y (dw m')]=Y (pP m'):=by
  have e1:cF (e2 bP Rs lc) [oC c,oR r,Y (.int place),Y (.lst xs),Y (.lst ks),Y (dw m),Y (dw m')]=Y (m'.Z != 0):=by kernel_rfl
  have e2:cF (e2 bP Rs Uf) [oC c,oR r,Y (.int place),Y (.lst xs),Y (.lst ks),Y (dw m),Y (dw m')]=Y (m'.around != 0):=by kernel_rfl
  unfold jY pP;rw[e1,e2];cases (m'.Z != 0)<;>rfl
 unfold dR;rw[q3];simp only[ab];cases pP m' with
 |true=>show (if ks.length<dU then _ else M)=_;rw[if_pos hk];rfl
 |false=>simp;rfl
theorem HS{r:iq}(s:c.rows.getLast? = Y k)(f:Nat)(j:List D):∀(l:List si) (g:List D) (n i:Option D),g.length+l.length<dU->∃p o,
  gD (gN 5) fG (l.map dw) [oC c,oR r,Y (.int f),Y (.lst j),Y (.lst g),n,i]=Y (.nx [oC c,oR r,Y (.int f),Y (.lst j),Y (.lst (g++((l.map (Am c f r k)).filter pP).map dw)),p,o])
 |[],g,n,i,h=>⟨n,i,by simp[gD]⟩
 |m::l,g,n,i,h=>by simp only[aP]at h;obtain⟨b,t⟩:=Mt s m f j g (r:=r) ž i;rw[aI,k_ (ρ1:=[oC c,oR r,Y (.int f),Y (.lst j),Y (.lst g),Y (dw m),i]) rfl t];obtain⟨p,o,q⟩:=HS s f j l (g++if pP (Am c f r k m) then [dw (Am c f r k m)] else []) (Y (dw m)) b (by split<;>simp<;>omega);refine⟨p,o,q.trans ?_⟩;simp only[aI];cases e:pP (Am c f r k m)<;>simp[List.filter,e]
noncomputable def ig(c:kT):kT:={ c with rows:=c.rows.dropLast }
def pE(b:kT)(r:iq):List si:=b.rests++if bA r.bo b.full != 0 then [] else [si.mk r.number (b.rows.length:Int) b.full 0]
def AI(c:kT)(r b:iq):kT:={ ig c with rests:=((se (pE (ig c) r)).map (Am (ig c) (ig c).rows.length r b)).filter pP }
def KZ{f:DF}{ρ:cO}(e:f ρ=Y (.lst (b.map dw)))(c:(b.map (·.num)).Nodup)(g:b.length<64):wZ f ρ=Y ((se b).map dw):=by
 unfold wZ;rw[e];simp only[ab];rw[if_pos ⟨⟨by simp[oB,fK,UW,dw],by rw[gj];exact c⟩,by rw[aq];exact g⟩,KP]
def QZ(b:c.rows.getLast? = Y r):DH 1 0 "Coming" "rows" [oC c,M,M,M,M,M,M]=Y (.nx [oC { c with rows:=c.rows.dropLast },oR r,M,M,M,M,M]):=by
 have e:sJ "Coming" "rows" 0 [oC c,M,M,M,M,M,M]=Y (tY,ck,cl c,D.lst (c.rows.map cu)):=by kernel_rfl
 unfold DH;rw[e];simp only[ab];have f:(c.rows.map cu).getLast? = Y (.ins "Row" rk (rl r)):=by rw[List.getLast?_map,b];rfl
 rw[f];simp only[ab];rw[if_pos (by decide),<- List.map_dropLast];kernel_rfl
def GB{c:kT}(hr:c.rows.getLast? = Y r)(hp:(ig c).rows.getLast? = Y pr)(hn:((pE (ig c) r).map (·.num)).Nodup)(hl:(pE (ig c) r).length<64):
  gz [bJ c]=Y (.eN,bJ (AI c r pr)):=by
 show (jT [oC c,M,M,M,M,M,M]).bind Î=_;unfold jT;rw[aK (QZ hr)];unfold AI;show (aZ _ _ [oC (ig c),oR r,M,M,M,M,M]).bind _=_;generalize ig c=c1 at *
 have hlr:c1.rests.length<64:=by unfold pE at hl;rw[aJ]at hl;omega
 rw[aK (ρ':=[oC c1,oR r,Y (.int (c1.rows.length:Int)),M,M,M,M]) ?q1]
 case q1=>
  have:mh [0] [] (aQ gr ul) [oC c1,oR r,M,M,M,M,M]=Y (.int ((c1.rows.map cu).length:Int)):=by kernel_rfl
  rw[aq]at this;rw[iX this];rfl
 rw[aK (ρ':=[oC c1,oR r,Y (.int (c1.rows.length:Int)),Y (.lst (c1.rests.map dw)),M,M,M]) ?q2]
 case q2=>kernel_rfl
 rw[aK (ρ':=[oC c1,oR r,Y (.int (c1.rows.length:Int)),Y (.lst ((pE c1 r).map dw)),M,M,M]) ?q3]
 case q3=>
  have e1:Al [0] [] (eT (cF Å)) [oC c1,oR r,Y (.int (c1.rows.length:Int)),Y (.lst (c1.rests.map dw)),M,M,M]=Y (!(bA r.bo c1.full != 0)):=by kernel_rfl
  unfold dR pE;rw[e1];simp only[ab];cases bA r.bo c1.full != 0 with
  |true=>simp;rfl|false=>
   have e2:mh [0] [] sB [oC c1,oR r,Y (.int (c1.rows.length:Int)),Y (.lst (c1.rests.map dw)),M,M,M]=Y (dw (si.mk r.number (c1.rows.length:Int) c1.full 0)):=by kernel_rfl
   simp only[Ki,if_true];unfold p';rw[e2];show (if (c1.rests.map dw).length<dU then _ else M)=_;rw[if_pos (jK (by rw[aq];omega))];simp
 generalize pE c1 r=ms at *
 rw[aK (ρ':=[oC c1,oR r,Y (.int (c1.rows.length:Int)),Y (.lst (ms.map dw)),Y (.lst []),M,M]) ?q4]
 case q4=>kernel_rfl
 obtain⟨b5,b6,q5⟩:=HS (r:=r) hp c1.rows.length (ms.map dw) (se ms) [] M M (jK (by rw[(mG ms).length_eq];simp;omega));have q6:iu (iL (eF (wZ ge))) (gN 5) fG [oC c1,oR r,Y (.int (c1.rows.length:Int)),Y (.lst (ms.map dw)),Y (.lst []),M,M]=gD (gN 5) fG ((se ms).map dw) [oC c1,oR r,Y (.int (c1.rows.length:Int)),Y (.lst (ms.map dw)),Y (.lst []),M,M]:=by have e1:=KZ (f:=eV 3) (ρ:=[oC c1,oR r,Y (.int (c1.rows.length:Int)),Y (.lst (ms.map dw)),Y (.lst []),M,M]) rfl hn hl;unfold iu iL eF;rw[e1];rfl
 rw[aK (q6.trans q5)];simp only[dI];generalize ((se ms).map (Am c1 c1.rows.length r pr)).filter pP=kept;kernel_rfl
inductive wd
 |op (n:aM)
 |tx (t:aM)
 |cl
noncomputable def cS:wd->D
 |.op n =>.tup [.str (ae "open"),.str n]|.tx t =>.tup [.str (ae "text"),.str t]|.cl =>.tup [.str (ae "close")]
noncomputable def Sw(s:wd)(w b:Bool):Bool:=match s with|.op _=>w || !b|_=>w
def Sv(s:wd)(w b:Bool):mT [cS s,.bl w,.bl b]=Y (.bl (Sw s w b)):=by
 cases s<;>cases w<;>cases b<;>kernel_rfl
def J0{F:List D->Option D}{s:D}:aQ F Is [Y (bJ c),Y s]=F [s,.bl (decide (1<((c.rows.map cu).length:Int))),.bl (decide (0<c.opened))]:=by kernel_rfl
abbrev Mh(c:kT)(s:wd):Bool:=Sw s (decide (1<c.rows.length)) (decide (0<c.opened))
def uX{c:kT}{s:wd}(h:Mh c s=Z'):dR (Al [0] [] (eT (cF (aQ mT Is)))) F2 cH [oC c,Y (cS s)]=Y (.nx [oC c,Y (cS s)]):=by
 have a:res [0] [] [oC c,Y (cS s)]=[Y (bJ c),Y (cS s)]:=rfl;have d:decide (1<((c.rows.map cu).length:Int))=decide (1<c.rows.length):=by
  rw[aq];by_cases h:1<c.rows.length
  ·rw[decide_eq_true h,decide_eq_true (by omega)]
  ·rw[decide_eq_false h,decide_eq_false (by omega)]
 have b:Al [0] [] (eT (cF (aQ mT Is))) [oC c,Y (cS s)]=Y false:=by refine sG a ?_;unfold eT cF;rw[J0,d,Sv,show Sw s _ _=Z' from h];rfl
 unfold dR;rw[b];rfl
noncomputable def lE(c:kT):kT:={ c with taken:=c.taken+1 }
def uW(c:kT)(s:wd):eW Z_ 0 "Coming" "taken" (λi j=>i+j) Fa [oC c,Y (cS s)]=Y (.nx [oC (lE c),Y (cS s)]):=by
 cases s<;>kernel_rfl
def zJ{F:List D->Option (D×D)}{m:aM}{s:wd}(b:m∉ck)(h:F [bJ c]=Y (d,bJ a)):bW "Coming" m aA F 0 kl [oC c,Y (cS s)]=Y (d,[oC a,Y (cS s)]):=by
 have:bW "Coming" m aA F 0 kl [oC c,Y (cS s)]=if (("Coming" : aM) = "Coming" /\("Coming" : aM) = "Coming")/\m∉ck then (F [bJ c]).map λr=>(r.1,(dz 0 [oC c,Y (cS s)]).set 0 (Y (.obj aA r.2))) else none:=rfl
 rw[this,if_pos ⟨⟨rfl,rfl⟩,b⟩,h];cases s<;>rfl
def Ie(c:kT)(s:wd):dD (e2 fR am Tk) [oC c,Y (cS s)]=Y (match s with|.cl=>Z'|_=>Z_):=by cases s<;>kernel_rfl
def Lu(c:kT)(s:wd):dD (e2 fR am Ch) [oC c,Y (cS s)]=Y (match s with|.op _=>Z'|_=>Z_):=by cases s<;>kernel_rfl
def QL(e:g b=Y (.rm d a)):aZ g h b=Y (.rm d a):=by unfold aZ;rw[e];rfl
abbrev wr:=cS .cl
def Gz(h:Mh c .cl=Z')(d:c.rows.getLast? = Y r)(e:(ig c).rows.getLast? = Y pr)(f:((pE (ig c) r).map (·.num)).Nodup)(g:(pE (ig c) r).length<64):
  dQ [bJ c,cS .cl]=Y (.lst [],bJ (AI (lE c) r pr)):=by
 show (gk [oC c,Y wr]).bind Î=_;unfold gk;rw[aK (uX h),aK (uW c _)];have i:=GB (c:=lE c) d e f g;generalize AI (lE c) r pr=a at *
 generalize lE c=b at *
 have q:dR (dD (e2 fR am Tk)) (aZ æ (dM (mP wf))) cH [oC b,Y wr]=Y (.rm (.lst []) [oC a,Y wr]):=by
  unfold dR;rw[Ie];simp only[ab,if_true];have:eD (bW "Coming" "end_row" aA gz 0 kl) [oC b,Y wr]=Y (.nx [oC a,Y wr]):=by unfold eD;rw[zJ (by decide) i];rfl
  rw[aK this];rfl
 rw[QL q];kernel_rfl
structure VN(f:C5)(Te txt:aM->Int):Prop where
 Te:∀n,fh [gu f,.str n]=some (.int (Te n))
 txt:∀t,fg [gu f,.str t]=some (.int (txt t))
def NB{F:List D->Option D}:mh [0] [] (dY "Facts" "steps_for" F (bp "Coming" "facts" db) ß) [oC c,Y (cS (.op n))]=(F [gu c.f,.str n]).bind λd=>if sT d=Z' then Y d else none:=by kernel_rfl
def Nt{F:List D->Option D}:mh [0] [] (dY "Facts" "text_fact" F (bp "Coming" "facts" db) ß) [oC c,Y (cS (.tx n))]=(F [gu c.f,.str n]).bind λd=>if sT d=Z' then Y d else none:=by kernel_rfl
def GN{F:List D->Option (D×D)}{s:wd}(d:a [oC c,Y (cS s)]=Y (.int n))(h:F [bJ c,.int c.opened,.int n,.int 0]=Y (.eN,bJ b)):
  eD (bW "Coming" "begin_row" aA F 0 (jk (mP FM) (jk (mP a) Æ))) [oC c,Y (cS s)]=Y (.nx [oC b,Y (cS s)]):=by
 have i:mh [0] [] (bp "Coming" "opened" db) [oC c,Y (cS s)]=Y (.int c.opened):=by kernel_rfl
 have e:jk (mP FM) (jk (mP a) Æ) [oC c,Y (cS s)]=Y ([.int c.opened,.int n,.int 0],[oC c,Y (cS s)]):=by unfold jk mP;simp only[i,d,bI,ab];rfl
 unfold eD;have:∀g:J_,bW "Coming" "begin_row" aA F 0 g [oC c,Y (cS s)]=(g [oC c,Y (cS s)]).bind λq=>(lB aA 0 q.2).bind λt=>(F (t::q.1)).map λr=>(r.1,(dz 0 q.2).set 0 (Y (.obj aA r.2))):=by intro g;kernel_rfl
 rw[this,e];simp only[ab];have f:lB aA 0 [oC c,Y (cS s)]=Y (bJ c):=by kernel_rfl
 rw[f];simp only[ab,h];cases s<;>rfl
def MW{F:List D->Option (D×D)}{s:wd}(d:a [oC c,Y (cS s)]=Y (.int n))(h:F [bJ c,.int n]=Y (.eN,bJ b)):
  eD (bW "Coming" "add_atoms" aA F 0 (jk (mP a) kl)) [oC c,Y (cS s)]=Y (.nx [oC b,Y (cS s)]):=by
 have e:jk (mP a) kl [oC c,Y (cS s)]=Y ([.int n],[oC c,Y (cS s)]):=by unfold jk mP;simp only[d,bI,ab];rfl
 unfold eD;have:∀g:J_,bW "Coming" "add_atoms" aA F 0 g [oC c,Y (cS s)]=(g [oC c,Y (cS s)]).bind λq=>(lB aA 0 q.2).bind λt=>(F (t::q.1)).map λr=>(r.1,(dz 0 q.2).set 0 (Y (.obj aA r.2))):=by intro g;kernel_rfl
 rw[this,e];simp only[ab];have f:lB aA 0 [oC c,Y (cS s)]=Y (bJ c):=by kernel_rfl
 rw[f];simp only[ab,h];cases s<;>rfl
def Bx{F:List D->Option (D×D)}{s:wd}(h:F [bJ c]=Y (d,bJ a)):(dM (bW "Coming" "newly_told" aA F 0 kl) [oC c,Y (cS s)]).bind Î=Y (d,bJ a):=by
 unfold dM;rw[zJ (by decide) h];kernel_rfl
def Bg{c:kT}{s:wd}(h:(match s with|.cl=>Z'|_=>Z_)=Z_)(g:DG):dR (dD (e2 fR am Tk)) g cH [oC c,Y (cS s)]=Y (.nx [oC c,Y (cS s)]):=by
 unfold dR;rw[Ie,h];rfl
def Ls(fit lift:Int->Int->Int)(c:kT)(b:Int)(pr:iq):kT:=
 let a:=c.rows++[AL fit c c.opened b 0 pr]
 { c with opened:=c.opened+1,rows:=Ax fit lift Z' (a.length-1) a }
def JM{f:aM->Int}(q:Pg c.f fit lift)(v:VN c.f a f)(t:Mh c (.op n)=Z')(s:c.rows.getLast? = Y pr)(u:(bA (bO pr.nW (bA pr.ha c.f.inner)) (bA (a n) c.qM)).natAbs<2 ^ 64)(w:c.rows.length<1000)(r:dZ [bJ (Ls fit lift (lE c) (a n) pr)]=Y (d,bJ p)):dQ [bJ c,cS (.op n)]=Y (d,bJ p):=by
 show (gk [oC c,Y (cS (.op n))]).bind Î=_;unfold gk;rw[aK (uX t),aK (uW c _),aK (Bg rfl _)];have m:=CT (c:=lE c) (fit:=fit) (lift:=lift) q (pr:=pr) s c.opened (a n) 0 u (jK (by show c.rows.length<2000;omega));have h:=A6 (c:={ lE c with opened:=(lE c).opened+1,rows:=(lE c).rows++[AL fit (lE c) c.opened (a n) 0 pr] }) (fit:=fit) (lift:=lift) q Ž (by simp[lE];omega);have g:mh [0] [] (dY "Facts" "steps_for" fh (bp "Coming" "facts" db) ß) [oC (lE c),Y (cS (.op n))]=Y (.int (a n)):=by rw[NB];rw[show fh [gu (lE c).f,.str n]=_ from v.Te n];rfl
 have b:=GN (s :=.op n) g m;have e:eW Z_ 0 "Coming" "opened" (λi j=>i+j) Fa [oC { lE c with rows:=(lE c).rows++[AL fit (lE c) c.opened (a n) 0 pr] },Y (cS (.op n))]=Y (.nx [oC { lE c with opened:=(lE c).opened+1,rows:=(lE c).rows++[AL fit (lE c) c.opened (a n) 0 pr] },Y (cS (.op n))]):=by kernel_rfl
 have l:eD (bW "Coming" "spread" aA dP 0 kl) [oC { lE c with opened:=(lE c).opened+1,rows:=(lE c).rows++[AL fit (lE c) c.opened (a n) 0 pr] },Y (cS (.op n))]=Y (.nx [oC (Ls fit lift (lE c) (a n) pr),Y (cS (.op n))]):=by unfold eD;rw[zJ (by decide) h];rfl
 have k:∀o,dR (dD (e2 fR am Ch)) (aZ np (aZ (eW Z_ 0 "Coming" "opened" (λi j=>i+j) Fa) sK)) o [oC (lE c),Y (cS (.op n))]=Y (.nx [oC (Ls fit lift (lE c) (a n) pr),Y (cS (.op n))]):=by intro o;unfold dR;rw[Lu];simp only[ab,if_true];rw[aK b,aK e,sK,l]
 rw[aK (k _)];exact Bx r
def JL{f:aM->Int}(o:Pg c.f fit lift)(n:VN c.f f a)(m:Mh c (.tx t)=Z')(l:c.rows[c.rows.length-1]?=Y r)(p:c.rows.length<1000)(k:dZ [bJ (z8 fit lift (lE c) (a t) r)]=Y (d,bJ j)):dQ [bJ c,cS (.tx t)]=Y (d,bJ j):=by
 show (gk [oC c,Y (cS (.tx t))]).bind Î=_;unfold gk;rw[aK (uX m),aK (uW c _),aK (Bg rfl _)];have e:=CZ (c:=lE c) (fit:=fit) (lift:=lift) o (r:=r) l (by show c.rows.length<1000000;omega) (a t);have g:mh [0] [] (dY "Facts" "text_fact" fg (bp "Coming" "facts" db) ß) [oC (lE c),Y (cS (.tx t))]=Y (.int (a t)):=by rw[Nt];rw[show fg [gu (lE c).f,.str t]=_ from n.txt t];rfl
 have b:=MW (s :=.tx t) g e;have h:∀i,dR (dD (e2 fR am Ch)) i wp [oC (lE c),Y (cS (.tx t))]=Y (.nx [oC (z8 fit lift (lE c) (a t) r),Y (cS (.tx t))]):=by intro i;unfold dR;rw[Lu];simp only[ab,eB,if_false];exact b
 rw[aK (h _)];exact Bx k
def uJ(c:kT)(a:List Int):D :=.ins "Sift" ["coming", "numbers"] [bJ c,.lst (a.map D.int)]
abbrev oS(c:kT)(a:List Int):Option D:=Y (.obj d_ (uJ c a))
def FF{F:List D->Option (D×D)}{s:wd}:nV 2 (nZ "Sift" "coming" "Coming" "feed" aA F 0 wl) [oS c a,Y (cS s),M]=(F [bJ c,cS s]).map λr =>.nx [Y (.obj d_ (.ins "Sift" ["coming", "numbers"] [r.2,.lst (a.map D.int)])),Y (cS s),Y r.1]:=by
 have e:nZ "Sift" "coming" "Coming" "feed" aA F 0 wl [oS c a,Y (cS s),M]=(F [bJ c,cS s]).map λr=>(r.1,[Y (.obj d_ (.ins "Sift" ["coming", "numbers"] [r.2,.lst (a.map D.int)])),Y (cS s),M]):=by cases s<;>kernel_rfl
 unfold nV;rw[e];cases F [bJ c,cS s]<;>rfl
theorem y9:∀a:List Int,rg (a.map D.int)=Z'
 |[]=>rfl|n::a=>by rw[aI,rg,y9 a];rfl
def Nu{s:wd}(h:dQ [bJ c,cS s]=Y (.lst (b.map D.int),bJ d))(e:(a++b).length<64):
  ly [uJ c a,cS s]=Y (.lst (b.map D.int),uJ d (ud (a++b))):=by
 show (pQ [oS c a,Y (cS s),M]).bind (mo d_)=_;unfold pQ;rw[aK (ρ':=[oS d a,Y (cS s),Y (.lst (b.map D.int))]) ?l]
 case l=>rw[FF,h];rfl
 have k:res [0] [] [oS d a,Y (cS s),Y (.lst (b.map D.int))]=[Y (uJ d a),Y (cS s),Y (.lst (b.map D.int))]:=rfl;have j:e2 fA (bp "Sift" "numbers" db) pc [Y (uJ d a),Y (cS s),Y (.lst (b.map D.int))]=Y (.lst ((a++b).map D.int)):=by
  have:e2 fA (bp "Sift" "numbers" db) pc [Y (uJ d a),Y (cS s),Y (.lst (b.map D.int))]=fA (.lst (a.map D.int)) (.lst (b.map D.int)):=by kernel_rfl
  rw[this];simp only[fA];rw[if_pos (by have:=jK (n:=(a.map D.int).length+(b.map D.int).length) (by simp only[aq];rw[aJ]at e;omega);omega),bG]
 have i:=yU j e;have g:Tr [0] [] â [oS d a,Y (cS s),Y (.lst (b.map D.int))]=Y ((ud (a++b)).map D.int):=by unfold Tr;rw[â,k,i];simp only[ab];rw[if_pos (y9 _)]
 rw[aK (ρ':=[oS d (ud (a++b)),Y (cS s),Y (.lst (b.map D.int))]) ?f]
 case f=>unfold gC eF;rw[g];kernel_rfl
 kernel_rfl
def me:Nat->D->Prop
 |0,_=>False|n+1,d=>∃a e,d=.tup [.int a,.lst e]/\0<=a/\e.length<=1000/\∀c∈e,∃b,c=.lst b/\b.length<=1000/\∀x∈b,me n x
def qE:Nat->D->Int->Bool
 |n+1,.tup [.int b,.lst e],a=>(bA a b==b)&&e.all λc=>match c with|.lst d=>d.any λx=>qE n x a|_=>Z_
 |_,_,_=>Z_
def LP:qE (n+1) (.tup [.int b,.lst e]) a=((bA a b==b)&&e.all λc=>match c with|.lst d=>d.any λx=>qE n x a|_=>Z_):=rfl
theorem qc:∀(b:List D),(∀d∈b,∃a,gN 0 d c=Y a/\e a=Y (g d))->vJ c (gN 0) eU e b=Y (b.map g)
 |[],_=>rfl|d::b,h=>by obtain⟨a,j,i⟩:=h d (au ..);rw[vJ,j];simp only[ab,eU,if_true,i];rw[qc b λx f=>h x (ao _ f)];rfl
def OU(x y:Int):AJ (.int x) (.int y)=(x==y):=rfl
def GR{a:List D}{f:D->Bool}:gK Z' [.lst (a.map λd =>.bl (f d))]=Y (.bl (a.all f)):=by
 simp only[gK];rw[if_pos (by simp[oB,fK,Ma])];simp[oB,fK,wa]
def MU{a:List D}{f:D->Bool}:gK Z_ [.lst (a.map λd =>.bl (f d))]=Y (.bl (a.any f)):=by
 simp only[gK];rw[if_pos (by simp[oB,fK,Ma])];simp[List.any_map,fK,wa]
def zX{f:DL}(e:f a=Y b):aQ G (aC (eF f) aN) a=G [.lst b]:=by
 unfold aQ aC eF;rw[e];rfl
def LQ{F:List D->Option D}(f:b.length<=1000)(h:∀x∈b,F [x,.int a]=Y (.bl (g x))):
  aQ (gK Z_) (aC (eF (lZ Á [M,Y 1] (gN 0) eU (aQ F (aC db wl)))) aN) [Y (.lst b),Y (.int a)]=Y (.bl (b.any g)):=by
 have e:lZ Á [M,Y 1] (gN 0) eU (aQ F (aC db wl)) [Y (.lst b),Y (.int a)]=Y (b.map λx =>.bl (g x)):=by unfold lZ;show (if b.length<=dU then vJ [M,Y (.int a)] (gN 0) eU (aQ F (aC db wl)) b else M)=_;rw[if_pos (ib (jK (by omega)))];exact qc b λd c=>⟨[Y d,Y (.int a)],rfl,h d c⟩
 rw[zX e];exact MU
theorem Em:∀(n m:Nat) (d:D) (a:Int),n<=m->me n d->kC m [d,.int a]=Y (.bl (qE n d a))
 |0,_,_,_,_,h=>h.elim|n+1,0,_,_,hm,_=>by omega
 | n+1,m+1,d,a,hm,h=>by
  obtain⟨tK,cs,rfl,hn,hl,hc⟩:=h;show (yv (kC m) [Y (.tup [.int tK,.lst cs]),Y (.int a)]).bind nN=_;unfold yv;have ih:∀x,me n x->kC m [x,.int a]=Y (.bl (qE n x a)):=λx hx=>Em n m x a ž hx
  generalize kC m=F at *
  have e1:dD At [Y (.tup [.int tK,.lst cs]),Y (.int a)]=Y (!(bA a tK==tK)):=by
   have:dD At [Y (.tup [.int tK,.lst cs]),Y (.int a)]=Y (!AJ (.int (bA a tK)) (.int tK)):=by kernel_rfl
   rw[this,OU]
  simp only[LP];cases hx:(bA a tK==tK) with
  |false=>
   rw[hx]at e1;have:∀h,aZ (dR (dD At) No cH) h [Y (.tup [.int tK,.lst cs]),Y (.int a)]=Y (.rt (.bl Z_)):=by intro h;unfold aZ dR;rw[e1];rfl
   rw[this];rfl
  |true=>
   rw[hx]at e1;have:dR (dD At) No cH [Y (.tup [.int tK,.lst cs]),Y (.int a)]=Y (.nx [Y (.tup [.int tK,.lst cs]),Y (.int a)]):=by unfold dR;rw[e1];rfl
   rw[aK this];have e2:lZ wv [M,Y 1] (gN 0) eU (aQ (gK Z_) (aC (eF (lZ Á [M,Y 1] (gN 0) eU (aQ F (aC db wl)))) aN)) [Y (.tup [.int tK,.lst cs]),Y (.int a)]=Y (cs.map λc =>.bl (match c with|.lst xs=>xs.any λx=>qE n x a|_=>Z_)):=by
    unfold lZ;show (if cs.length<=dU then vJ [M,Y (.int a)] (gN 0) eU _ cs else M)=_;rw[if_pos (ib (jK (by omega)))];refine qc cs λc Wa=>⟨[Y c,Y (.int a)],rfl,?_⟩
    obtain⟨xs,rfl,Zc,hxs⟩:=hc c Wa;exact LQ Zc λx hx=>ih x (hxs x hx)
   unfold dX;rw[zX e2,GR];rfl
def Ow(n:Nat)(named atoms:Int)(b:Int):List (Int×D)->Int
 |[]=>b|(a,ask)::r=>Ow n named atoms (if bA named a != 0&&qE n ask atoms then bO b a else b) r
noncomputable def Jv(p:Int×D):D :=.tup [.int p.1,p.2]
def Hx{d:D}{a:Int}(b:n<=12)(h:me n d):t6 [d,.int a]=Y (.bl (qE n d a)):=Em n 12 d a b h
def Ic{F:List D->Option D}{x:Int}{d:D}{a:Int}{f:DF}(k:cF e c=Y (x != 0))(i:f c=Y d)(h:g c=Y (.int a))(j:F [d,.int a]=Y (.bl b)):ju (cF e) (cF (aQ F (aC f (aC g aN)))) c=Y (x != 0&&b):=by
 have l:cF (aQ F (aC f (aC g aN))) c=Y b:=by unfold cF aQ aC;rw[i,h];show ((F [d,.int a]).bind _)=_;rw[j];rfl
 unfold ju;rw[k,l];cases (x != 0)<;>rfl
theorem Er(k:n<=12)(self:D)(b a:Int):∀(e:List (Int×D)) (d:Int) (g f:Option D),(∀p∈e,me n p.2)->∃j i,
  gD Ö gv (e.map Jv) [Y self,Y (.int b),Y (.int a),Y (.int d),g,f]=Y (.nx [Y self,Y (.int b),Y (.int a),Y (.int (Ow n b a d e)),j,i])
 |[],d,g,f,_=>⟨g,f,rfl⟩| (c,ask)::e,d,g,f,h=>by
  have m:=Hx (a:=a) k (h _ (au ..));have o:gv [Y self,Y (.int b),Y (.int a),Y (.int d),Y (.int c),Y ask]=Y (.nx [Y self,Y (.int b),Y (.int a),Y (.int (if bA b c != 0&&qE n ask a then bO d c else d)),Y (.int c),Y ask]):=by unfold gv dR;rw[Ic (x:=bA b c) (d:=ask) (a:=a) rfl rfl rfl m];simp only[ab];cases (bA b c != 0&&qE n ask a)<;>rfl
  rw[aI,k_ (ρ1:=[Y self,Y (.int b),Y (.int a),Y (.int d),Y (.int c),Y ask]) rfl o];obtain⟨j,i,q⟩:=Er k self b a e (if bA b c != 0&&qE n ask a then bO d c else d) (Y (.int c)) (Y ask) (λp l=>h p (ao _ l));exact⟨j,i,q.trans rfl⟩
def Jt{f:C5}{n:Nat}(g:n<=12)(e:f.dA=c.map Jv)(h:∀p∈c,me n p.2)(b a:Int):iM [gu f,.int b,.int a]=Y (.int (Ow n b a (bA a f.inner) c)):=by
 show (lX [Y (gu f),Y (.int b),Y (.int a),M,M,M]).bind nN=_;unfold lX;rw[aK (iX (d :=.int (bA a f.inner)) (by kernel_rfl))];simp only[bf,bg];obtain⟨j,i,q⟩:=Er g (gu f) b a c (bA a f.inner) M M h;have d:iu (iL (bp "Facts" "leads" db)) Ö gv [Y (gu f),Y (.int b),Y (.int a),Y (.int (bA a f.inner)),M,M]=gD Ö gv (c.map Jv) [Y (gu f),Y (.int b),Y (.int a),Y (.int (bA a f.inner)),M,M]:=by
  have:iL (bp "Facts" "leads" db) [Y (gu f),Y (.int b),Y (.int a),Y (.int (bA a f.inner)),M,M]=Y f.dA:=by kernel_rfl
  unfold iu;rw[this,e];rfl
 rw[aK (d.trans q)];rfl
def Gw(n:Nat)(named atoms:Int):Nat->Int->List D->Int
 |_,a,[]=>a|k,a,ask::r=>Gw n named atoms (k+1) (if bA named (2 ^ k) != 0&&qE n ask atoms then bO a (2 ^ k) else a) r
theorem HN(m:n<=12)(self:D)(b a:Int):∀(e:List D) (k:Nat) (c:Int) (g f d:Option D),(∀p∈e,me n p)->k+e.length<=1000->∃l j i,
  gD Ö fV ((e.zipIdx k).map λp =>.tup [.int (p.2:Nat),p.1]) [Y self,Y (.int b),Y (.int a),Y (.int c),g,f,d]=Y (.nx [Y self,Y (.int b),Y (.int a),Y (.int (Gw n b a k c e)),l,j,i])
 |[],k,c,g,f,d,_,_=>⟨g,f,d,rfl⟩| ask::e,k,c,g,f,d,h,s=>by
  simp only[aP]at s;have r:=Hx (a:=a) m (h _ (au ..));have t:fV [Y self,Y (.int b),Y (.int a),Y (.int c),Y (.int (k:Nat)),Y ask,d]=Y (.nx [Y self,Y (.int b),Y (.int a),Y (.int (if bA b (2 ^ k) != 0&&qE n ask a then bO c (2 ^ k) else c)),Y (.int (k:Nat)),Y ask,Y (.int (2 ^ k))]):=by
   unfold fV;rw[aK (ρ':=[Y self,Y (.int b),Y (.int a),Y (.int c),Y (.int (k:Nat)),Y ask,Y (.int (2 ^ k))]) ?u]
   case u=>rw[iX ((show e2 qC Fa Sc [Y self,Y (.int b),Y (.int a),Y (.int c),Y (.int (k:Nat)),Y ask,d]=qC (.int 1) (.int (k:Nat)) from rfl).trans (NI (by omega)))];rfl
   unfold dR;rw[Ic (x:=bA b (2 ^ k)) (d:=ask) (a:=a) rfl rfl rfl r];simp only[ab];cases (bA b (2 ^ k) != 0&&qE n ask a)<;>rfl
  rw[Fi,aI,k_ (ρ1:=[Y self,Y (.int b),Y (.int a),Y (.int c),Y (.int (k:Nat)),Y ask,d]) rfl t];obtain⟨l,j,i,q⟩:=HN m self b a e (k+1) (if bA b (2 ^ k) != 0&&qE n ask a then bO c (2 ^ k) else c) (Y (.int (k:Nat))) (Y ask) (Y (.int (2 ^ k))) (λp o=>h p (ao _ o)) ž;exact⟨l,j,i,q.trans rfl⟩
def Gv{f:C5}{n:Nat}(d:n<=12)(h:∀p∈f.asks,me n p)(e:f.asks.length<=1000)(a b:Int):eG [gu f,.int a,.int b]=Y (.int (Gw n a b 0 0 f.asks)):=by
 show (kL [Y (gu f),Y (.int a),Y (.int b),M,M,M,M]).bind nN=_;unfold kL;rw[aK (iX (d :=.int 0) rfl)];simp only[bf,bg];obtain⟨j,i,g,q⟩:=HN d (gu f) a b f.asks 0 0 M M M h ž;have c:iu (iE (bp "Facts" "asks" db)) Ö fV [Y (gu f),Y (.int a),Y (.int b),Y (.int 0),M,M,M]=gD Ö fV ((f.asks.zipIdx 0).map λp =>.tup [.int (p.2:Nat),p.1]) [Y (gu f),Y (.int a),Y (.int b),Y (.int 0),M,M,M]:=by
  have:iL (bp "Facts" "asks" db) [Y (gu f),Y (.int a),Y (.int b),Y (.int 0),M,M,M]=Y f.asks:=by kernel_rfl
  unfold iu iE;rw[this];rfl
 rw[aK (c.trans q)];rfl
def MS(a b:Nat):bA (a:Int) (b:Int)=((a &&& b:Nat):Int):=by
 unfold bA;rw[Po (by omega) (by omega)];simp
def GO(a b:Nat):bO (a:Int) (b:Int)=((a ||| b:Nat):Int):=by
 unfold bO;rw[PyProof.Rows.bitOr_and,show vj (a:Int) (b:Int)=_ from MS a b];have:=IC a b;omega
def xq(d:0<=x)(c:0<=y):0<=bO x y:=by
 obtain⟨a,rfl⟩:=dk d;obtain⟨b,rfl⟩:=dk c;have:=GO a b;omega
structure FB where
 q:List D
 bits:Nat
 nk:List mi
 nv:List D
 tk:List mi
 tv:List D
 jQ:Int
 vo:Int
 inner:Int
 dA:List D
noncomputable abbrev Tq:List aM:=["question", "bits", "by_name", "by_text", "starred", "stars", "inner", "leads"]
def eR(s:FB):D :=.ins "Facts" Tq [.lst s.q,.int (s.bits:Nat),.jn s.nk s.nv,.jn s.tk s.tv,.int s.jQ,.int s.vo,.int s.inner,.lst s.dA]
abbrev oF(s:FB):Option D:=Y (.obj ax (eR s))
abbrev UV:=mo ax
def zk(s:FB)(h:s.bits<=999):fy [eR s]=Y (.int (2 ^ s.bits),eR { s with bits:=s.bits+1 }):=by
 show (kK [oF s]).bind UV=_;unfold kK;rw[aK (ρ':=[oF { s with bits:=s.bits+1 }]) ?b]
 case b=>kernel_rfl
 have a:mh [0] [] (e2 qC Fa AT) [oF { s with bits:=s.bits+1 }]=Y (.int (2 ^ s.bits)):=by refine nP (ρ':=[Y (eR { s with bits:=s.bits+1 })]) rfl ?_ rfl;have:e2 qC Fa AT [Y (eR { s with bits:=s.bits+1 })]=qC (.int 1) (.int (((s.bits+1:Nat):Int)-1)):=rfl;rw[this,show ((s.bits+1:Nat):Int)-1=(s.bits:Int) by omega,NI (by omega)]
 unfold dM mP;rw[a];kernel_rfl
def lV{F:List D->Option (D×D)}{m:aM}{ρ1:cO}{s s1 b:FB}{args:List D}(c:m∉Tq)(i:eV j a=oF s)(e:g a=Y (args,ρ1))(f:eV j ρ1=oF s1)(h:F (eR s1::args)=Y (d,eR b)):
  bW "Facts" m ax F j g a=Y (d,(dz j ρ1).set j (oF b)):=by
 have l:yl j a=Y (ax,eR s):=by unfold yl;rw[i]
 have k:lB ax j ρ1=Y (eR s1):=by unfold lB yl;rw[f];kernel_rfl
 unfold bW;rw[l];simp only[ab];show (if _ then _ else _)=_;rw[if_pos ⟨⟨rfl,rfl⟩,c⟩,e];simp only[ab,k,h];rfl
structure Kq(s:FB):Prop where
 nv:∀v∈s.nv,∃i,0<=i/\v=D.int i
 star:0<=s.jQ
 inner:0<=s.inner
 nk:s.nk.length<=s.bits
noncomputable abbrev C_(a b:aM)(w:D):D :=.tup [.str a,.str b,w]
def qy(n:Nat):(0:Int)<=2 ^ n:=Int.le_of_lt (Int.pow_pos ſ)
structure a_(s s':FB):Prop where
 q:s'.q=s.q
 tk:s'.tk=s.tk
 tv:s'.tv=s.tv
 dA:s'.dA=s.dA
theorem Ku:∀ {b:List mi}{a:List D},∀v∈wj (λq x=>if q=k then d else x) b a,v=d\/v∈a
 |[],a,v,h=>by simp at h
 |q::b,[],v,h=>by simp at h
 | q::b,x::a,v,h=>by
  simp only[wh,aE]at h;rcases h with h|h
  ·by_cases e:q=k
   ·rw[if_pos e]at h;exact .inl h
   ·rw[if_neg e]at h;exact .inr (by rw[h];exact au ..)
  ·rcases Ku v h with h|h
   ·exact .inl h
   ·exact .inr (ao _ h)
def JV{k:mi}{d:D}{ks:List mi}{ds:List D}(v:D)(h:v∈(qK k d ks ds).2):v=d\/v∈ds:=by
 unfold qK at h;split at h
 ·exact Ku v h
 ·rcases aV.mp h with h|h
  ·exact .inr h
  ·exact .inl (bK.mp h)
def MM{k:mi}{d:D}{ks:List mi}{ds:List D}:(qK k d ks ds).1.length<=ks.length+1:=by
 unfold qK;split<;>simp
def BE(h:fD b a k=Y d):d∈a:=by
 unfold fD at h;obtain⟨p,e,h⟩:=ah.1 h;cases h;have:=List.mem_of_find?_eq_some e;exact(wt this).2
def Eo{k:mi}{ks:List mi}(h:∀v∈a,∃i,0<=i/\v=D.int i):∃i,0<=i/\(fD ks a k).getD (.int 0)=.int i:=by
 cases e:fD ks a k with
 |none=>exact⟨0,ſ,rfl⟩
 |some d=>obtain⟨i,b,rfl⟩:=h d (BE e);exact⟨i,b,rfl⟩
def Ld{s:FB}(hi:(fD s.nk s.nv (da nm)).getD (.int 0)=.int i)(hl:s.nk.length<dU):
  qX 0 "Facts" "by_name" Tl (mP (mh [0] [] (e2 Dc pp pc))) [oF s,Y (C_ C6 nm w),Y (.int b)]=Y (.nx [oF { s with nk:=(qK (da nm) (.int (bO i b)) s.nk s.nv).1,nv:=(qK (da nm) (.int (bO i b)) s.nk s.nv).2 },Y (C_ C6 nm w),Y (.int b)]):=by
 have e1:mh [0] [] (e2 Dc pp pc) [oF s,Y (C_ C6 nm w),Y (.int b)]=Y (.int (bO i b)):=by refine nP (ρ':=[Y (eR s),Y (C_ C6 nm w),Y (.int b)]) rfl ?_ rfl;have:e2 Dc pp pc [Y (eR s),Y (C_ C6 nm w),Y (.int b)]=Dc ((fD s.nk s.nv (da nm)).getD (.int 0)) (.int b):=rfl;rw[this,hi];rfl
 unfold qX mP;rw[e1];simp only[bI,ab];have e2:sJ "Facts" "by_name" 0 [oF s,Y (C_ C6 nm w),Y (.int b)]=Y (tf,Tq,[.lst s.q,.int (s.bits:Nat),.jn s.nk s.nv,.jn s.tk s.tv,.int s.jQ,.int s.vo,.int s.inner,.lst s.dA],.jn s.nk s.nv):=by kernel_rfl
 rw[e2];simp only[ab];have e3:(L2.e2 bP Db Fa [oF s,Y (C_ C6 nm w),Y (.int b)]).bind Cm=Y (da nm):=rfl;show (if _/\s.nk.length<dU then _ else M)=_;rw[if_pos ⟨by decide,hl⟩];kernel_rfl
def AH{s:FB}(W:Kq s)(h:s.bits<=999)(C6 nm:aM)(w:D):∃s',dN [eR s,C_ C6 nm w]=Y (.int (2 ^ s.bits),eR s')/\s'.bits=s.bits+1/\a_ s s'/\Kq s':=by
 have e0:dN [eR s,C_ C6 nm w]=(i_ [oF s,Y (C_ C6 nm w),M]).bind UV:=rfl;have hb:(0:Int)<=2 ^ s.bits:=qy _;rw[e0];unfold i_;rw[aK (ρ':=[oF { s with bits:=s.bits+1 },Y (C_ C6 nm w),Y (.int (2 ^ s.bits))]) ?q0]
 case q0=>unfold nV;rw[lV (by decide) rfl rfl rfl (zk s h)];rfl
 generalize (2:Int) ^ s.bits=b at *
 have W1:Kq { s with bits:=s.bits+1 }:=⟨W.nv,W.star,W.inner,t9 W.nk⟩;have hk1:s.nk.length<=s.bits:=W.nk;have S1:a_ s { s with bits:=s.bits+1 }:=⟨rfl,rfl,rfl,rfl⟩;have Zx:({ s with bits:=s.bits+1 }:FB).bits=s.bits+1:=rfl;have Va:({ s with bits:=s.bits+1 }:FB).nk.length<=s.bits:=hk1;generalize ({ s with bits:=s.bits+1 }:FB)=s1 at *
 obtain⟨s2,q1,W2,S2,Wb,hk2⟩:∃s2,dR (dD (e2 fR am PP)) (eW Z_ 0 "Facts" "inner" dF pc) cH [oF s1,Y (C_ C6 nm w),Y (.int b)]=Y (.nx [oF s2,Y (C_ C6 nm w),Y (.int b)])/\Kq s2/\a_ s s2/\s2.bits=s.bits+1/\s2.nk.length<=s.bits:=by
  have e1:dD (e2 fR am PP) [oF s1,Y (C_ C6 nm w),Y (.int b)]=Y (AJ (.str C6) (.str (ae "inner"))):=by kernel_rfl
  unfold dR;rw[e1];cases AJ (.str C6) (.str (ae "inner")) with
  |true=>exact⟨{ s1 with inner:=bO s1.inner b },by kernel_rfl,⟨W1.nv,W1.star,xq W1.inner hb,W1.nk⟩,⟨S1.q,S1.tk,S1.tv,S1.dA⟩,Zx,Va⟩
  |false=>exact⟨s1,rfl,W1,S1,Zx,Va⟩
 rw[aK q1];obtain⟨s3,q2,W3,S3,hb3⟩:∃s3,dR (dD (e2 fR Tl cr)) (aZ (eW Z_ 0 "Facts" "starred" dF pc) (eW Z_ 0 "Facts" "stars" (λi j=>i+j) Fa)) TW [oF s2,Y (C_ C6 nm w),Y (.int b)]=Y (.nx [oF s3,Y (C_ C6 nm w),Y (.int b)])/\Kq s3/\a_ s s3/\s3.bits=s.bits+1:=by
  have e1:dD (e2 fR Tl cr) [oF s2,Y (C_ C6 nm w),Y (.int b)]=Y (AJ (.str nm) (.str (ae "*"))):=by kernel_rfl
  unfold dR;rw[e1];cases AJ (.str nm) (.str (ae "*")) with
  |true=>exact⟨{ s2 with jQ:=bO s2.jQ b,vo:=s2.vo+1 },by kernel_rfl,⟨W2.nv,xq W2.star hb,W2.inner,W2.nk⟩,⟨S2.q,S2.tk,S2.tv,S2.dA⟩,Wb⟩
  |false=>
   obtain⟨i,hi,hl⟩:=Eo (k:=da nm) (ks:=s2.nk) W2.nv;refine⟨{ s2 with nk:=(qK (da nm) (.int (bO i b)) s2.nk s2.nv).1,nv:=(qK (da nm) (.int (bO i b)) s2.nk s2.nv).2 },?_,⟨?_,W2.star,W2.inner,?_⟩,⟨S2.q,S2.tk,S2.tv,S2.dA⟩,Wb⟩
   ·exact Ld hl (jK ž)
   ·intro v hv;rcases JV v hv with rfl|hv
    ·exact⟨_,xq hi hb,rfl⟩
    ·exact W2.nv v hv
   ·have:=MM (k:=da nm) (d :=.int (bO i b)) (ks:=s2.nk) (ds:=s2.nv);show (qK (da nm) (.int (bO i b)) s2.nk s2.nv).1.length<=s2.bits;omega
 rw[aK q2];exact⟨s3,by kernel_rfl,hb3,S3,W3⟩
noncomputable def f':Nat->Nat->List Int
 |_,0=>[]|n,k+1=>2 ^ n::f' (n+1) k
theorem tZ:∀n k,(f' n k).length=k
 |_,0=>rfl|n,k+1=>by simp[f',tZ (n+1) k]
abbrev cj(p:aM×aM×D):D:=C_ p.1 p.2.1 p.2.2
def a_.trans(h:a_ a b)(g:a_ b c):a_ a c:=⟨g.q.trans h.q,g.tk.trans h.tk,g.tv.trans h.tv,g.dA.trans h.dA⟩
theorem ED:∀(a:List (aM×aM×D)) (s:FB) (x:Option D),Kq s->s.bits+a.length<=1000->∃c,AE [M,x] (gN 0) (bW "Facts" "enter_step" ax dN 1 EQ) 1 ax (a.map cj) (eR s)=Y ((f' s.bits a.length).map D.int,eR c)/\c.bits=s.bits+a.length/\a_ s c/\Kq c
 |[],s,x,W,h=>⟨s,rfl,rfl,⟨rfl,rfl,rfl,rfl⟩,W⟩| p::a,s,x,W,h=>by
  simp only[aP]at h;obtain⟨b,k,e,q,n⟩:=AH W ž p.1 p.2.1 p.2.2;obtain⟨f,d,l,o,m⟩:=ED a b x n ž;refine⟨f,?_,by rw[l,e];simp only[aP];omega,q.trans o,m⟩;rw[aI,AE];have j:gN 0 (cj p) ([M,x].set 1 (Y (.obj ax (eR s))))=Y [Y (cj p),oF s]:=rfl;have i:bW "Facts" "enter_step" ax dN 1 EQ [Y (cj p),oF s]=Y (.int (2 ^ s.bits),[Y (cj p),oF b]):=by rw[lV (ρ1:=[Y (cj p),oF s]) (args:=[cj p]) (by decide) rfl rfl rfl k];rfl
  have g:lB ax 1 [Y (cj p),oF b]=Y (eR b):=by kernel_rfl
  rw[j];simp only[ab,i,g];rw[e]at d;rw[d];rfl
def EE{s:FB}(W:Kq s)(a:List (aM×aM×D))(h:s.bits+a.length<=1000):∃b,jr [eR s,.lst (a.map cj)]=Y (.lst ((f' s.bits a.length).map D.int),eR b)/\b.bits=s.bits+a.length/\a_ s b/\Kq b:=by
 obtain⟨b,e,r⟩:=ED a s (Y (.obj ax (eR s))) W h;refine⟨b,?_,r⟩;show (mY [oF s,Y (.lst (a.map cj))]).bind UV=_;have g:vH (iL Db) [M,Y 0] (gN 0) (bW "Facts" "enter_step" ax dN 1 EQ) 1 0 ax [oF s,Y (.lst (a.map cj))]=Y (.lst ((f' s.bits a.length).map D.int),[oF b,Y (.lst (a.map cj))]):=by
  unfold vH;have f:iL Db [oF s,Y (.lst (a.map cj))]=Y (a.map cj):=rfl;have d:lB ax 0 [oF s,Y (.lst (a.map cj))]=Y (eR s):=by kernel_rfl
  have c:nH [M,Y 0] (dz 0 [oF s,Y (.lst (a.map cj))])=[M,Y (.obj ax (eR s))]:=rfl;rw[f];simp only[ab];rw[if_pos (ib (jK (by rw[aq];omega))),d];simp only[ab];rw[c,e];rfl
 unfold mY dM;rw[g];kernel_rfl
def Tv(_:Nat)(_:Nat->Prop)(_:D)(_:Prop):Prop:=True
def Tv.ext{b':Nat}{P P2:Nat->Prop}{d:D}(h:Tv b P d c)(l:b<=b')(g:∀i,i<b->P2 i->P i):Tv b' P2 d c:=trivial
structure Inv(s:FB)(P:Nat->Prop):Prop where
 Nd:Kq s
 tv:∀v∈s.tv,∃j,j<s.bits/\v=D.int (2 ^ j)/\P j
 tk:s.tk.length<=s.bits
 VY:s.tk.length=s.tv.length
 dA:∀l∈s.dA,∃j ask,l=Jv ((2:Int) ^ j,ask)/\j<s.bits/\me 6 ask/\Tv s.bits P ask (P j)
 Vi:s.dA.length<=s.bits
structure gf(s:FB)(P:Nat->Prop)(s':FB)(P':Nat->Prop)(z:Nat):Prop where
 q:s'.q=s.q
 lo:s.bits<=s'.bits
 hi:s'.bits<=s.bits+z
 same:∀i,i<s.bits->(P' i↔P i)
 ld:s'.dA.length+s.bits<=s.dA.length+s'.bits
def gf.trans{s:FB}{P:Nat->Prop}(h:gf s P b d y)(g:gf b d a c z):gf s P a c (y+z):=
 ⟨g.q.trans h.q,bq h.lo g.lo,by have:=h.hi;have:=g.hi;omega,λi e=>(g.same i (by have:=h.lo;omega)).trans (h.same i e),by have:=h.ld;have:=g.ld;omega⟩
def JW{d:D}(m:a.length=b.length)(h:fD a b k=M):qK k d a b=(a++[k],b++[d])/\fD (a++[k]) (b++[d]) k=Y d:=by
 have c:∀p∈a.zip b,¬p.1=k:=by unfold fD at h;simp only[Option.map_eq_none_iff,List.find?_eq_none,decide_eq_true_eq]at h;exact h
 have n:¬(a.any λq=>decide (q=k))=true:=by intro f;simp only[List.any_eq_true,decide_eq_true_eq]at f;obtain⟨q,j,rfl⟩:=f;obtain⟨i,o,e⟩:=List.getElem_of_mem j;exact c (q,b[i]' ž) (by rw[<- e];exact List.mem_iff_getElem.mpr ⟨i,by simp;omega,Ž⟩) rfl
 refine⟨by unfold qK;rw[if_neg n],?_⟩;unfold fD;rw[List.zip_append m,List.find?_append];have:(a.zip b).find? (λg=>decide (g.1=k))=none:=by rw[List.find?_eq_none];intro p l;simp only[decide_eq_true_eq];exact c p l
 rw[this];simp
def zM{s:FB}(hb:s.bits<=999)(hl:s.tk.length<=s.bits)(hkv:s.tk.length=s.tv.length)(h:fD s.tk s.tv (da t)=M):
  c_ [eR s,.str t]=Y (.int (2 ^ s.bits),eR { s with bits:=s.bits+1,tk:=s.tk++[da t],tv:=s.tv++[.int (2 ^ s.bits)] }):=by
 show (fE [oF s,Y (.str t)]).bind UV=_;unfold fE;obtain⟨hp,hlk⟩:=JW (d :=.int (2 ^ s.bits)) hkv h;have e1:Al [0] [] pu [oF s,Y (.str t)]=Y true:=by refine sG (ρ':=[Y (eR s),Y (.str t)]) rfl ?_;have:dD (e2 (Ea Z') Db (bp "Facts" "by_text" db)) [Y (eR s),Y (.str t)]=Y (!(fD s.tk s.tv (da t)).isSome):=rfl;rw[pu,this,h];rfl
 have e2:qX 0 "Facts" "by_text" Db (bW "Facts" "new_bit" ax fy 0 kl) [oF s,Y (.str t)]=Y (.nx [oF { s with bits:=s.bits+1,tk:=s.tk++[da t],tv:=s.tv++[.int (2 ^ s.bits)] },Y (.str t)]):=by
  have m1:bW "Facts" "new_bit" ax fy 0 kl [oF s,Y (.str t)]=Y (.int (2 ^ s.bits),[oF { s with bits:=s.bits+1 },Y (.str t)]):=by rw[lV (by decide) rfl rfl rfl (zk s hb)];rfl
  unfold qX;rw[m1];simp only[ab];have e3:sJ "Facts" "by_text" 0 [oF { s with bits:=s.bits+1 },Y (.str t)]=Y (tf,Tq,[.lst s.q,.int ((s.bits+1:Nat):Int),.jn s.nk s.nv,.jn s.tk s.tv,.int s.jQ,.int s.vo,.int s.inner,.lst s.dA],.jn s.tk s.tv):=by kernel_rfl
  rw[e3];simp only[ab];show (if _/\s.tk.length<dU then _ else M)=_;rw[if_pos ⟨by decide,jK (by omega)⟩];show Y (DO.nx [Y (y8 "Facts" "by_text" tf Tq _ (.jn (qK (da t) (.int (2 ^ s.bits)) s.tk s.tv).1 (qK (da t) (.int (2 ^ s.bits)) s.tk s.tv).2)),Y (.str t)])=_;rw[hp];generalize (2:Int) ^ s.bits=b;kernel_rfl
 rw[aK (ρ':=[oF { s with bits:=s.bits+1,tk:=s.tk++[da t],tv:=s.tv++[.int (2 ^ s.bits)] },Y (.str t)]) ?e4]
 case e4=>unfold dR;rw[e1];exact e2
 have e5:mh [0] [] (L2.e2 Eb (bp "Facts" "by_text" db) Db) [oF { s with bits:=s.bits+1,tk:=s.tk++[da t],tv:=s.tv++[.int (2 ^ s.bits)] },Y (.str t)]=Y (.int (2 ^ s.bits)):=by refine nP (ρ':=[Y (eR { s with bits:=s.bits+1,tk:=s.tk++[da t],tv:=s.tv++[.int (2 ^ s.bits)] }),Y (.str t)]) rfl ?_ rfl;exact hlk
 unfold dM mP;rw[e5];generalize (2:Int) ^ s.bits=b;kernel_rfl
def zL{s:FB}(h:fD s.tk s.tv (da t)=Y (.int i)):c_ [eR s,.str t]=Y (.int i,eR s):=by
 show (fE [oF s,Y (.str t)]).bind UV=_;unfold fE;have c:Al [0] [] pu [oF s,Y (.str t)]=Y false:=by refine sG (ρ':=[Y (eR s),Y (.str t)]) rfl ?_;have:dD (e2 (Ea Z') Db (bp "Facts" "by_text" db)) [Y (eR s),Y (.str t)]=Y (!(fD s.tk s.tv (da t)).isSome):=rfl;rw[pu,this,h];rfl
 have b:∀g,dR (Al [0] [] (dD (L2.e2 (Ea Z') Db (bp "Facts" "by_text" db)))) g cH [oF s,Y (.str t)]=Y (.nx [oF s,Y (.str t)]):=by intro g;unfold dR;rw[c];rfl
 rw[aK (b _)];have a:mh [0] [] (L2.e2 Eb (bp "Facts" "by_text" db) Db) [oF s,Y (.str t)]=Y (.int i):=nP (ρ':=[Y (eR s),Y (.str t)]) rfl h rfl;unfold dM mP;rw[a];kernel_rfl
def AG{s:FB}{P:Nat->Prop}(I:Inv s P)(u:s.bits<=999)(t:aM):∃j f k,c_ [eR s,.str t]=Y (.int (2 ^ j),eR f)/\j<f.bits/\gf s P f k 1/\Inv f k:=by
 cases h:fD s.tk s.tv (da t) with
 |some d=>obtain⟨j,b,rfl,_⟩:=I.tv d (BE h);exact⟨j,s,P,zL h,b,⟨rfl,aH _,ž,λ_ _=>Iff.rfl,aH _⟩,I⟩
 |none=>
  have g:∀i,i<s.bits->((if i<s.bits then P i else True)↔P i):=λi o=>by rw[if_pos o]
  refine⟨s.bits,_,λi=>if i<s.bits then P i else True,zM u I.tk I.VY h,ik _,⟨rfl,gA _,aH _,g,gA _⟩,?_⟩;refine⟨⟨I.Nd.nv,I.Nd.star,I.Nd.inner,t9 I.Nd.nk⟩,?_,?_,?_,?_,t9 I.Vi⟩
  ·intro v c;rcases aV.mp c with c|c
   ·obtain⟨j,b,e,p⟩:=I.tv v c;exact⟨j,oz b,e,(g j b).mpr p⟩
   ·exact⟨s.bits,ik _,bK.mp c,Ž⟩
  ·have:=I.tk;show (s.tk++[_]).length<=s.bits+1;rw[aJ];simp;omega
  ·show (s.tk++[_]).length=(s.tv++[_]).length;rw[aJ,aJ,I.VY];rfl
  ·intro l r;obtain⟨j,q,e,b,w,m⟩:=I.dA l r;exact⟨j,q,e,oz b,w,trivial⟩
end K21
namespace L2
open PySem PySem.Spec PyProof.Rows
section
variable {K:aT}{v:Hp}
end
theorem HJ{τ:Fc}{g:DG}(I:Nat->cO->Prop):∀(k:List D) (i:Nat) (a:cO),I i a->(∀j d a,k[j]?=Y d->I (i+j) a->∃f b,τ d a=Y f/\g f=Y (.nx b)/\I (i+j+1) b) ->
  ∃c,gD τ g k a=Y (.nx c)/\I (i+k.length) c
 |[],i,a,h,_=>⟨a,rfl,h⟩| d::k,i,a,h,st=>by
  obtain⟨f,b,q,p,n⟩:=st 0 d a rfl h;obtain⟨c,e,o⟩:=HJ I k (i+1) b n λj d a l m=>by have:=st (j+1) d a (by simpa using l) (by rw[show i+(j+1)=i+1+j by omega];exact m);rw[show i+(j+1)+1=i+1+j+1 by omega]at this;exact this
  refine⟨c,?_,by rw[show i+(d::k).length=i+1+k.length by simp;omega];exact o⟩;unfold gD;rw[q];simp only[ab,p];exact e
def td{τ:Fc}{g:DG}(I:Nat->cO->Prop){ds:List D}{ρ:cO}(i:I 0 ρ)(f:∀j d ρ,ds[j]?=Y d->I j ρ->∃b a,τ d ρ=Y b/\g b=Y (.nx a)/\I (j+1) a):∃c,gD τ g ds ρ=Y (.nx c)/\I ds.length c:=by
 have:=HJ (τ:=τ) (g:=g) I ds 0 ρ i (λj d ρ h e=>by rw[rO]at e ⊢;exact f j d ρ h e);rw[rO]at this;exact this
def Ii{xs:List b}{z:Int}(d:0<=z)(c:z<xs.length):∃v,oi xs z=Y v/\v∈xs:=by
 have a:z.toNat<xs.length:=by omega
 refine⟨xs[z.toNat],?_,vg a⟩;have e:((z.toNat:Nat):Int)=z:=by omega
 have:=gL (xs:=xs) (j:=z.toNat) (v:=xs[z.toNat]) (by simp[a]);rw[e]at this;exact this
def wc{xs:List Int}{z:Int}(h0:0<=z)(h1:z<xs.length):∃v,oi (xs.map D.int) z=Y (.int v):=by
 obtain⟨v,e,hm⟩:=Ii (xs:=xs) h0 h1;exact⟨v,by rw[CU,e];rfl⟩
def yG{xs:List aM}{z:Int}(h0:0<=z)(h1:z<xs.length):∃v,oi (xs.map D.str) z=Y (.str v)/\v∈xs:=by
 obtain⟨v,e,hm⟩:=Ii (xs:=xs) h0 h1;exact⟨v,by rw[CU,e];rfl,hm⟩
def OE{n:Nat}{z:Int}(b:0<=z)(a:z<n):An n z=Y z.toNat:=by unfold An;rw[if_pos b,if_pos a]
def DJ(h:(mm a n)[j]?=Y d):j<n/\d=.int (a+j):=by
 unfold mm at h;rw[aF]at h;obtain⟨k,q,h⟩:=ah.1 h;cases h;obtain⟨c,b⟩:=af.mp q;have:k=j:=by simpa using b.symm
 subst this;exact⟨by simpa using c,rfl⟩
def qx(a:Int)(n:Nat):(mm a n).length=n:=by simp[mm]
theorem qc{h:D->D}:∀ {b:List D},(∀d∈b,∃a,c d e=Y a/\g a=Y (h d))->vJ e c eU g b=Y (b.map h)
 |[],_=>rfl|d::b,f=>by obtain⟨a,j,i⟩:=f d au;unfold vJ;rw[j];simp only[eU,ab,if_true,i];rw[qc λd h=>f d (ao _ h)];rfl
def kO:dU=1000000:=rfl
def Sq(a:List b)(l h:Option Int):(AN a l h).length<=a.length:=by
 unfold AN;rw[vf,Fj];omega
def MN(a:List b)(c:0<=k):AN a M (Y k)=a.take k.toNat:=by
 unfold AN HT.xX;simp only[List.drop_zero,Pq,if_neg (show ¬k<0 by omega)];by_cases h:k.toNat<=a.length
 ·rw[wq h]
 ·rw[Fh (by omega),List.take_length,ic (by omega)]
def EM(xs:List a)(b:0<=k):AN xs (Y k) M=xs.drop k.toNat:=by
 unfold AN HT.xX;simp only[if_neg (show ¬k<0 by omega)];by_cases h:k.toNat<=xs.length
 ·rw[wq h,ic (by simp)]
 ·rw[Fh (by omega),Nat.sub_self,List.take_zero,Pz (by omega)]
end L2
namespace K21
open PySem L2
noncomputable abbrev gR(a:Int)(b:List D):D :=.tup [.int a,.lst b]
def iH:List D->List Int->List Int->List D
 |.tup [.int a,.lst d]::g,b::e,f::c=>Jv (b,gR (bO a f) d)::iH g e c|_,_,_=>[]
def Y1:iH [] l k=[]:=rfl
def nl1:iH (gR a d::g) [] k=[]:=rfl
def nl2:iH (gR a d::g) (b::e) []=[]:=rfl
def Xk:iH (gR a d::g) (b::e) (f::c)=Jv (b,gR (bO a f) d)::iH g e c:=rfl
theorem Et{y1 y2 y4:List D}{y3:Int}:∀(e:List D) (l k:List Int) (s:FB) (j i g:Option D),(∀a∈e,∃c d,a=gR c d)->s.dA.length+e.length<dU->∃o n m,
  gD (RT 5 6 7) iJ (lq e (l.map D.int) (k.map D.int)) [oF s,Y (.lst y1),Y (.lst y2),Y (.int y3),Y (.lst y4),j,i,g]=Y (.nx [oF { s with dA:=s.dA++iH e l k },Y (.lst y1),Y (.lst y2),Y (.int y3),Y (.lst y4),o,n,m])
 |[],l,k,s,j,i,g,_,_=>⟨j,i,g,by simp[lq,gD,Y1]⟩
 |a::e,[],k,s,j,i,g,h,_=>by obtain⟨c,d,rfl⟩:=h a (au ..);exact⟨j,i,g,by simp[lq,gD,nl1]⟩
 |a::e,b::l,[],s,j,i,g,h,_=>by obtain⟨c,d,rfl⟩:=h a (au ..);exact⟨j,i,g,by simp[lq,gD,nl2]⟩
 | a::e,b::l,f::k,s,j,i,g,h,r=>by
  obtain⟨c,d,rfl⟩:=h a (au ..);simp only[aP]at r;have t:iJ [oF s,Y (.lst y1),Y (.lst y2),Y (.int y3),Y (.lst y4),Y (gR c d),Y (.int b),Y (.int f)]=Y (.nx [oF { s with dA:=s.dA++[Jv (b,gR (bO c f) d)] },Y (.lst y1),Y (.lst y2),Y (.int y3),Y (.lst y4),Y (gR c d),Y (.int b),Y (.int f)]):=by
   unfold iJ Hj;have u:sJ "Facts" "leads" 0 [oF s,Y (.lst y1),Y (.lst y2),Y (.int y3),Y (.lst y4),Y (gR c d),Y (.int b),Y (.int f)]=Y (tf,Tq,[.lst s.q,.int (s.bits:Nat),.jn s.nk s.nv,.jn s.tk s.tv,.int s.jQ,.int s.vo,.int s.inner,.lst s.dA],.lst s.dA):=by kernel_rfl
   have v:fF (aC Rs (aC wP aN)) [oF s,Y (.lst y1),Y (.lst y2),Y (.int y3),Y (.lst y4),Y (gR c d),Y (.int b),Y (.int f)]=Y (Jv (b,gR (bO c f) d)):=by kernel_rfl
   rw[u];simp only[ab];rw[v];simp only[ab];rw[if_pos ⟨by decide,by omega⟩];kernel_rfl
  rw[aI,aI,lq,k_ (ρ1:=[oF s,Y (.lst y1),Y (.lst y2),Y (.int y3),Y (.lst y4),Y (gR c d),Y (.int b),Y (.int f)]) rfl t];obtain⟨o,n,m,q⟩:=Et e l k { s with dA:=s.dA++[Jv (b,gR (bO c f) d)] } (Y (gR c d)) (Y (.int b)) (Y (.int f)) (λx p=>h x (ao _ p)) (by rw[aJ,cJ];omega);refine⟨o,n,m,q.trans ?_⟩;simp only[Xk,bV,List.singleton_append]
def Oy{s:FB}{as:List D}{b:Int}{bs:List Int}(h:∀a∈as,∃tK cs,a=gR tK cs)(hl:s.dA.length+as.length<dU)(hb:bs.length<=1000):om [eR s,.lst as,.lst ((b::bs).map D.int),.int 0]=Y (.eN,eR { s with dA:=s.dA++iH as (b::bs) (bs++[0]) }):=by
 show (og [oF s,Y (.lst as),Y (.lst ((b::bs).map D.int)),Y (.int 0),M,M,M,M]).bind UV=_;unfold og;rw[aK (ρ':=[oF s,Y (.lst as),Y (.lst ((b::bs).map D.int)),Y (.int 0),Y (.lst ((bs++[0]).map D.int)),M,M,M]) ?q0]
 case q0=>
  have e1:e2 fA (eF (CD pc (pS Fa) pN)) (eF (gi FS)) [oF s,Y (.lst as),Y (.lst ((b::bs).map D.int)),Y (.int 0),M,M,M,M]=fA (.lst (AN ((b::bs).map D.int) (Y 1) M)) (.lst [.int 0]):=rfl;have e2:AN ((b::bs).map D.int) (Y 1) M=bs.map D.int:=by rw[EM _ (by decide)];rfl
  rw[e2]at e1;have e3:fA (.lst (bs.map D.int)) (.lst [.int 0])=Y (.lst ((bs++[0]).map D.int)):=by simp only[fA];rw[if_pos (ib (jK (by rw[aq,cJ];omega)))];simp
  rw[iX (e1.trans e3)];rfl
 obtain⟨b5,b6,b7,q⟩:=Et (y1:=as) (y2:=(b::bs).map D.int) (y3:=0) (y4:=(bs++[0]).map D.int) as (b::bs) (bs++[0]) s M M M h hl;have q2:iu (V7 Db pc Sc) (RT 5 6 7) iJ [oF s,Y (.lst as),Y (.lst ((b::bs).map D.int)),Y (.int 0),Y (.lst ((bs++[0]).map D.int)),M,M,M]=gD (RT 5 6 7) iJ (lq as ((b::bs).map D.int) ((bs++[0]).map D.int)) [oF s,Y (.lst as),Y (.lst ((b::bs).map D.int)),Y (.int 0),Y (.lst ((bs++[0]).map D.int)),M,M,M]:=rfl;rw[q2,q];kernel_rfl
def jn1(c:List D):Int:=c.foldl (λn a=>match a with|.tup [.int b,_]=>bO n b|_=>n) 0
noncomputable def Km(c:List D):List D:=c.flatMap λa=>match a with|.tup [_,.lst b]=>b|_=>[]
theorem zr{x0:List D}:∀(f:List D) (n:Int) (d:List D) (g:Option D),(∀a∈f,∃b d,a=gR b d)->d.length+(Km f).length<dU->∃i,
  gD (gN 3) gY f [Y (.lst x0),Y (.int n),Y (.lst d),g]=Y (.nx [Y (.lst x0),Y (.int (f.foldl (λn a=>match a with|.tup [.int b,_]=>bO n b|_=>n) n)),Y (.lst (d++Km f)),i])
 |[],n,d,g,_,_=>⟨g,by simp[gD,Km]⟩
 | a::f,n,d,g,h,k=>by
  obtain⟨b,c,rfl⟩:=h a (au ..);have e:Km (gR b c::f)=c++Km f:=rfl;rw[e,aJ]at k;have l:gY [Y (.lst x0),Y (.int n),Y (.lst d),Y (gR b c)]=Y (.nx [Y (.lst x0),Y (.int (bO n b)),Y (.lst (d++c)),Y (gR b c)]):=by
   unfold gY;rw[aK (ρ':=[Y (.lst x0),Y (.int (bO n b)),Y (.lst d),Y (gR b c)]) ?m]
   case m=>kernel_rfl
   show (if d.length+c.length<=dU then _ else M)=_;rw[if_pos (by omega)];rfl
  rw[k_ (ρ1:=[Y (.lst x0),Y (.int n),Y (.lst d),Y (gR b c)]) rfl l];obtain⟨i,q⟩:=zr f (bO n b) (d++c) (Y (gR b c)) (λx j=>h x (ao _ j)) (by rw[aJ];omega);refine⟨i,q.trans ?_⟩;rw[e,List.foldl_cons,bV]
def JA{as:List D}(h:∀a∈as,∃b e,a=gR b e)(f:(Km as).length<dU):kE [.lst as]=Y (gR (jn1 as) (Km as)):=by
 show (mW [Y (.lst as),M,M,M]).bind nN=_;unfold mW;rw[aK (iX (d :=.int 0) rfl)];simp only[bf,bg];rw[aK (ρ':=[Y (.lst as),Y (.int 0),Y (.lst []),M]) ?d]
 case d=>exact rfl
 obtain⟨g,q⟩:=zr (x0:=as) as 0 [] M h (by rw[iU];omega);have c:iu Á (gN 3) gY [Y (.lst as),Y (.int 0),Y (.lst []),M]=gD (gN 3) gY as [Y (.lst as),Y (.int 0),Y (.lst []),M]:=rfl;rw[aK (c.trans q)];rfl
noncomputable abbrev kS(x:String):D :=.str (ae x)
def fN:Nat->D->Prop
 |0,_=>False|n+1,w=>w=.tup [kS "any"]\/(∃t,w=.tup [kS "text",.str t])\/(∃a:List (aM×aM×D),w=.tup [kS "has",.lst (a.map cj)]/\a≠[]/\a.length<=3/\∀p∈a,fN n p.2.2)\/(∃b:List D,w=.tup [kS "both",.lst b]/\b.length<=3/\∀x∈b,fN n x)\/(∃b:List D,w=.tup [kS "one",.lst b]/\b.length<=3/\∀x∈b,fN n x)
noncomputable def PF:D->D
 |.tup [_,_,w]=>w|d=>d
noncomputable def v8:Nat->D->Bool
 |n+1,.tup [.str k,.lst a]=>if k=ae "has" then a.all λb=>v8 n (PF b) else if k=ae "both" then a.all (v8 n) else if k=ae "one" then a.any (v8 n) else Z'
 |_,_=>Z'
noncomputable def Zb:Nat->Nat
 |0=>0|n+1=>3*(1+Zb n)
noncomputable def Ig:D->Nat
 |.tup [_,.lst a]=>a.length|_=>0
structure xT(b:Nat)(P:Nat->Prop)(n:Nat)(ask w:D):Prop where
 ad:me n ask
 len:Ig ask<=3 ^ n
 snd:Tv b P ask (v8 n w=true)
def xT.ext{b':Nat}{P P2:Nat->Prop}{a:D}(h:xT b P n a w)(e:b<=b')(c:∀i,i<b->(P2 i↔P i)):xT b' P2 n a w:=⟨h.ad,h.len,h.snd.ext e λi d=>(c i d).mp⟩
def BP(F:List D->Option (D×D))(n:Nat):Prop:=∀s P w,fN n w->Inv s P->s.bits+Zb n<=999->∃a b c,F [eR s,w]=Y (a,eR b)/\gf s P b c (Zb n)/\Inv b c/\xT b.bits c n a w
inductive Ad (R:D->D->Prop):List D->List D->Prop
 |nil:Ad R [] []
 |cons {a b:D}{as bs:List D}:R a b->Ad R as bs->Ad R (a::as) (b::bs)
theorem Ad.len{R:D->D->Prop}:∀ {b a:List D},Ad R b a->b.length=a.length
 |_,_,.nil=>rfl|_,_,.cons _ t=>by simp[t.len]
def Ad.left{R:D->D->Prop}(q:Ad R d c):∀a∈d,∃b∈c,R a b:=by
 induction q with
 |nil=>exact nofun
 |cons r t i=>refine lC.2 ⟨⟨_,au ..,r⟩,λa h =>?_⟩;obtain⟨b,e,k⟩:=i a h;exact⟨b,ao _ e,k⟩
def gf.refl(s:FB)(P:Nat->Prop):gf s P s P 0:=⟨rfl,aH _,aH _,λ_ _=>Iff.rfl,aH _⟩
theorem Ij{F:List D->Option (D×D)}(o:BP F n){f:D->D}:∀(c:List D) (s:FB) (P:Nat->Prop) (x:Option D),(∀d∈c,fN n (f d)/\∀s,g [Y d,oF s]=Y ([f d],[Y d,oF s])/\dz 1 [Y d,oF s]=[Y d,oF s])->Inv s P->s.bits+c.length*Zb n<=999 ->
  ∃b j k,AE [M,x] (gN 0) (bW "Facts" "asked" ax F 1 g) 1 ax c (eR s)=Y (b,eR j)/\gf s P j k (c.length*Zb n)/\Inv j k/\Ad (λa d=>xT j.bits k n a (f d)) b c
 |[],s,P,x,_,I,_=>⟨[],s,P,rfl,by simpa using gf.refl s P,I,.nil⟩
 | d::c,s,P,x,h,I,t=>by
  simp only[aP,Pp]at t ⊢;obtain⟨hw,m⟩:=h d (au ..);obtain⟨e,i,C,A,p,G,J⟩:=o s P (f d) hw I ž;obtain⟨b,q,B,z,l,E,H⟩:=Ij o c i C x (λy r=>h y (ao _ r)) G (by have:=p.hi;omega);refine⟨e::b,q,B,?_,?_,E,.cons (J.ext l.lo l.same) H⟩
  ·rw[AE];have w:gN 0 d ([M,x].set 1 (Y (.obj ax (eR s))))=Y [Y d,oF s]:=rfl;have v:bW "Facts" "asked" ax F 1 g [Y d,oF s]=Y (e,[Y d,oF i]):=by rw[lV (ρ1:=[Y d,oF s]) (args:=[f d]) (by decide) rfl (m s).1 rfl A,(m s).2];rfl
   have u:lB ax 1 [Y d,oF i]=Y (eR i):=by kernel_rfl
   rw[w];simp only[ab,v,u,z];rfl
  ·have:=p.trans l;rw[Nat.add_comm];exact this
def Ci{F:List D->Option (D×D)}(o:BP F n){g:J_}{ar:D->D}{f:DL}{ρ:cO}{ds:List D}{s:FB}{P:Nat->Prop}(k:f ρ=Y ds)(i:eV 0 ρ=oF s)(j:dz 0 ρ=ρ)(l:∀d∈ds,fN n (ar d)/\∀s,g [Y d,oF s]=Y ([ar d],[Y d,oF s])/\dz 1 [Y d,oF s]=[Y d,oF s])(I:Inv s P)(m:s.bits+ds.length*Zb n<=999)(t:ds.length<=1000):
  ∃b c h,vH f [M,Y 0] (gN 0) (bW "Facts" "asked" ax F 1 g) 1 0 ax ρ=Y (.lst b,ρ.set 0 (oF c))/\gf s P c h (ds.length*Zb n)/\Inv c h/\Ad (λa d=>xT c.bits h n a (ar d)) b ds:=by
 obtain⟨b,c,h,e,r⟩:=Ij o ds s P (Y (.obj ax (eR s))) l I m;refine⟨b,c,h,?_,r⟩;unfold vH;have q:lB ax 0 ρ=Y (eR s):=by unfold lB yl;rw[i];kernel_rfl
 have p:nH [M,Y 0] ρ=[M,Y (.obj ax (eR s))]:=by
  have:(ρ[0]?).getD M=oF s:=by rw[jd i];rfl
  show [M,(ρ[0]?).getD M]=_;rw[this]
 rw[k];simp only[ab];rw[if_pos (ib (jK (by omega))),q,j];simp only[ab];rw[p,e];rfl
def MY(F:List D->Option (D×D))(n:Nat):Prop:=∀s P (a:List (aM×aM×D)),a≠[]->a.length<=3->(∀p∈a,fN n p.2.2)->Inv s P->s.bits+Zb (n+1)<=999->∃j b c,F [eR s,.lst (a.map cj)]=Y (.int (2 ^ j),eR b)/\gf s P b c (Zb (n+1))/\Inv b c/\j<b.bits/\(c j->∀p∈a,v8 n p.2.2=Z')
theorem me.succ:∀ {n:Nat}{d:D},me n d->me (n+1) d
 |0,_,h=>h.elim|n+1,d,⟨a,p,e,m,i,j⟩=>⟨a,p,e,m,i,λc b=>by obtain⟨f,o,l,k⟩:=j c b;exact⟨f,o,l,λx g=>(k x g).succ⟩⟩
def me.up{m:Nat}(h:me n d)(a:n<=m):me m d:=by
 induction a with|refl=>exact h|step _ ih=>exact ih.succ
def Pc(n:Nat):me (n+1) (gR 0 []):=⟨0,[],rfl,ſ,Ž,λc h=>by simp at h⟩
def Ik(n:Nat)(a:0<=i):me (n+1) (gR i []):=⟨i,[],rfl,a,Ž,λc h=>by simp at h⟩
def Dd{b:Bool}(h:t a=Y b):dR t g cH a=if b=Z' then g a else Y (.nx a):=by
 unfold dR;rw[h];cases b<;>rfl
def yn{b:cO}(e:g b=Y (.rm d a)):aZ g h b=Y (.rm d a):=by unfold aZ;rw[e];rfl
def Ng{s:FB}{r:List D}{y:Option D}{b:Bool}(h:fR (kS x) (kS k)=Y (.bl b)):dD (e2 fR am (eK (kS k))) [oF s,Y (.tup (kS x::r)),y]=Y b:=by
 have e:e2 bP Db u8 [oF s,Y (.tup (kS x::r)),y]=Y (kS x):=by show oi (kS x::r) ((0:Nat):Int)=_;unfold oi;rw[rA (by simp)];rfl
 have c:e2 fR am (eK (kS k)) [oF s,Y (.tup (kS x::r)),y]=fR (kS x) (kS k):=by show ((e2 bP Db u8 [oF s,Y (.tup (kS x::r)),y]).bind λa=>(Y (kS k)).bind λb=>fR a b)=_;rw[e];rfl
 unfold dD;rw[c,h];rfl
def wI{s:FB}:(Y (DO.rm d [oF s,x,y])).bind UV=Y (d,eR s):=by kernel_rfl
abbrev bv:=dD (e2 fR am (eK (kS "any")))
def J5{F:List D->Option (D×D)}{s:FB}:ml 2 3 ax (cL F a) [eR s,.tup [kS "any"]]=Y (gR 0 [],eR s):=by
 show (cL F a [oF s,Y (.tup [kS "any"]),M]).bind UV=_;unfold cL;have q:dR bv (dM (mP (fF (aC u8 (aC wf aN))))) cH [oF s,Y (.tup [kS "any"]),M]=Y (.rm (gR 0 []) [oF s,Y (.tup [kS "any"]),M]):=by rw[Dd (b:=Z') (Ng (by kernel_rfl))];rfl
 rw[yn q,wI]
abbrev XV:=dD (e2 fR am (eK (kS "text")))
def GP{F:List D->Option (D×D)}{s:FB}(h:c_ [eR s,.str t]=Y (.int i,eR a)):ml 2 3 ax (cL F c) [eR s,.tup [kS "text",.str t]]=Y (gR i [],eR a):=by
 show (cL F c [oF s,Y (.tup [kS "text",.str t]),M]).bind UV=_;unfold cL;have d:∀g,dR bv g cH [oF s,Y (.tup [kS "text",.str t]),M]=Y (.nx [oF s,Y (.tup [kS "text",.str t]),M]):=λg=>by rw[Dd (b:=Z_) (Ng (by kernel_rfl))];rfl
 rw[aK (d _)];have m:bW "Facts" "enter_text" ax c_ 0 Ç [oF s,Y (.tup [kS "text",.str t]),M]=Y (.int i,[oF a,Y (.tup [kS "text",.str t]),M]):=by rw[lV (ρ1:=[oF s,Y (.tup [kS "text",.str t]),M]) (args:=[.str t]) (by decide) rfl rfl rfl h];rfl
 have q:dR XV (dM NE) cH [oF s,Y (.tup [kS "text",.str t]),M]=Y (.rm (gR i []) [oF a,Y (.tup [kS "text",.str t]),M]):=by rw[Dd (b:=Z') (Ng (by kernel_rfl)),if_pos rfl];unfold dM NE x9;rw[show ∀f g b,jk f g b=(f b).bind λp=>(g p.2).bind λq=>Y (p.1::q.1,q.2) from λ_ _ _=>rfl,m];rfl
 rw[yn q,wI]
abbrev IR:=eK (kS "has")
def J4{F:List D->Option (D×D)}{s:FB}(h:a [eR s,.lst x]=Y (.int i,eR b)):ml 2 3 ax (cL F a) [eR s,.tup [kS "has",.lst x]]=Y (gR i [],eR b):=by
 show (cL F a [oF s,Y (.tup [kS "has",.lst x]),M]).bind UV=_;unfold cL;have e:∀g,dR bv g cH [oF s,Y (.tup [kS "has",.lst x]),M]=Y (.nx [oF s,Y (.tup [kS "has",.lst x]),M]):=λg=>by rw[Dd (b:=Z_) (Ng (by kernel_rfl))];rfl
 have d:∀g,dR XV g cH [oF s,Y (.tup [kS "has",.lst x]),M]=Y (.nx [oF s,Y (.tup [kS "has",.lst x]),M]):=λg=>by rw[Dd (b:=Z_) (Ng (by kernel_rfl))];rfl
 rw[aK (e _),aK (d _)];have m:bW "Facts" "enter_has" ax a 0 Ç [oF s,Y (.tup [kS "has",.lst x]),M]=Y (.int i,[oF b,Y (.tup [kS "has",.lst x]),M]):=by rw[lV (ρ1:=[oF s,Y (.tup [kS "has",.lst x]),M]) (args:=[.lst x]) (by decide) rfl rfl rfl h];rfl
 have q:dR (dD (e2 fR am IR)) (dM (x9 (jk (bW "Facts" "enter_has" ax a 0 Ç) (jk (mP wf) kl)))) cH [oF s,Y (.tup [kS "has",.lst x]),M]=Y (.rm (gR i []) [oF b,Y (.tup [kS "has",.lst x]),M]):=by rw[Dd (b:=Z') (Ng (by kernel_rfl)),if_pos rfl];unfold dM x9;rw[show ∀f g c,jk f g c=(f c).bind λp=>(g p.2).bind λq=>Y (p.1::q.1,q.2) from λ_ _ _=>rfl,m];rfl
 rw[yn q,wI]
def gf.mono{s:FB}{P:Nat->Prop}(h:gf s P a b y)(c:y<=z):gf s P a b z:=⟨h.q,h.lo,by have:=h.hi;omega,h.same,h.ld⟩
def qL(h:me n d):∃a b,d=gR a b:=by
 cases n with
 |zero=>exact h.elim|succ n=>obtain⟨a,b,e,_⟩:=h;exact⟨a,b,e⟩
def xr{f:List D}(h:me n (gR a f)):0<=a:=by
 cases n with
 |zero=>exact h.elim|succ n=>obtain⟨b,d,e,c,_⟩:=h;cases e;exact c
def MR(d:0<=x)(c:0<=y)(i:Nat):(bO x y).toNat.testBit i=(x.toNat.testBit i||y.toNat.testBit i):=by
 obtain⟨a,rfl⟩:=dk d;obtain⟨b,rfl⟩:=dk c;rw[GO,gP,gP,gP,Kg]
def me.mk(h:me n (gR b c))(d:0<=a):me n (gR a c):=by
 cases n with
 |zero=>exact h.elim|succ n=>obtain⟨x,y,e,_,f,g⟩:=h;cases e;exact⟨a,c,rfl,d,f,g⟩
theorem Es{b:Nat}{P:Nat->Prop}(v:n<=6):∀(k:List (aM×aM×D)) (p:aM×aM×D) (f:List D) (c:Nat),Ad (λa d=>xT b P n a (PF d)) f ((p::k).map cj)->(∀i,i<k.length+1->(P (c+i)↔∀q∈(p::k).drop i,v8 n q.2.2=Z'))->c+k.length+1<=b ->
  ∀l∈iH f (f' c (k.length+1)) (f' (c+1) k.length++[0]),∃j w,l=Jv ((2:Int) ^ j,w)/\j<b/\me 6 w/\Tv b P w (P j)
 | [],p,f,c,A,B,y,l,C=>by
  cases A with
  |cons r t=>cases t;obtain⟨o,K,rfl⟩:=qL r.ad;have g:=xr r.ad;simp only[f',Xk,Y1,iU,dI,bK,aE,eH,or_false]at C;exact⟨c,_,C,by simp at y;omega,(r.ad.mk (xq g ſ)).up v,trivial⟩
 | p2::k,p,f,c,A,B,y,l,C=>by
  cases A with
  |@cons _ _ I _ r t=>
   obtain⟨o,K,rfl⟩:=qL r.ad;have g:=xr r.ad;have G:l=Jv ((2:Int) ^ c,gR (bO o (2 ^ (c+1))) K)\/l∈iH I (f' (c+1) (k.length+1)) (f' (c+1+1) k.length++[0]):=by simpa only [f',Xk,aP,vh,aE] using C
   have ih:=Es v k p2 _ (c+1) t (λi N=>by have:=B (i+1) (by simp only[aP];omega);rw[show c+(i+1)=c+1+i by omega]at this;simpa using this) (by simp only[aP]at y;omega)
   rcases G with e|h
   ·exact⟨c,_,e,by simp only[aP]at y;omega,(r.ad.mk (xq g (qy _))).up v,trivial⟩
   ·exact ih l h
theorem zl:∀(e:List D) (d g:List Int),(∀a∈e,∃c i,a=gR c i)->(iH e d g).length<=d.length
 |[],d,g,_=>by simp[iH]
 |a::e,[],g,h=>by obtain⟨c,i,rfl⟩:=h a (au ..);simp[iH]
 |a::e,b::d,[],h=>by obtain⟨c,i,rfl⟩:=h a (au ..);simp[iH]
 | a::e,b::d,f::g,h=>by
  obtain⟨c,i,rfl⟩:=h a (au ..);have:=zl e d g λx j=>h x (ao _ j)
  simp only[iH,aP];omega
def Inv.enter{s:FB}{P:Nat->Prop}(I:Inv s P)(S:a_ s b)(W:Kq b)(r:s.bits<=b.bits)(f:∀i,i<s.bits->(k i↔P i)):Inv b k:=by
 refine⟨W,?_,by rw[S.tk];have:=I.tk;omega,by rw[S.tk,S.tv];exact I.VY,?_,by rw[S.dA];have:=I.Vi;omega⟩
 ·intro v m;rw[S.tv]at m;obtain⟨j,d,e,p⟩:=I.tv v m;exact⟨j,ž,e,(f j d).mpr p⟩
 ·intro l o;rw[S.dA]at o;obtain⟨j,g,e,d,t,c⟩:=I.dA l o;exact⟨j,g,e,ž,t,trivial⟩
def zN{F:List D->Option (D×D)}(hF:BP F n)(hn6:n<=6):MY (ml 2 3 ax (hI F F')) n:=by
 intro s P iA Kn GW hw I hb;cases iA with
 |nil=>exact absurd rfl Kn|cons p ps=>
  have hZ:Zb (n+1)=3*(1+Zb n):=rfl;have hk:(p::ps).length*Zb n<=3*Zb n:=qg _ GW;obtain⟨s1,e1,b1,S1,W1⟩:=EE I.Nd (p::ps) ž
  let P1:Nat->Prop:=λi=>if i<s.bits then P i else ∀q∈(p::ps).drop (i-s.bits),v8 n q.2.2=Z'
  have ZD:∀i,i<s.bits->(P1 i↔P i):=λi hi=>by show (if _ then _ else _)↔_;rw[if_pos hi]
  have I1:Inv s1 P1:=I.enter S1 W1 ž ZD;obtain⟨asks,s2,P2,e2,E2,I2,A2⟩:=Ci hF (g:=jk (mP Ó) kl) (ar:=PF) (f:=iL Db) (ρ:=[oF s1,Y (.lst ((p::ps).map cj)),Y (.lst ((f' s.bits (ps.length+1)).map D.int))]) (ds:=(p::ps).map cj) (s:=s1) (P:=P1) rfl rfl rfl (by intro d hd;obtain⟨q,hq,rfl⟩:=cR.mp hd;exact⟨hw q hq,λs=>⟨rfl,rfl⟩⟩) I1 (by rw[aq];omega) (by rw[aq];omega)
  have Zq:∀a∈asks,∃tK cs,a=gR tK cs:=λa ha=>by obtain⟨d,_,r⟩:=A2.left a ha;exact qL r.ad
  have Zy:asks.length=ps.length+1:=by rw[A2.len,aq];rfl
  have hld:=E2.ld;have abo:=I.Vi;rw[S1.dA]at hld;have hlo:=E2.lo;have Zo:=E2.hi;rw[aq]at Zo;simp only[aP]at b1 hk GW Zo hZ;have e3:=Oy (s:=s2) (as:=asks) (b:=2 ^ s.bits) (bs:=f' (s.bits+1) ps.length) Zq (jK ž) (by rw[tZ];omega);have ZC:∀i,i<ps.length+1->(P2 (s.bits+i)↔∀q∈(p::ps).drop i,v8 n q.2.2=Z'):=by intro i hi;rw[E2.same (s.bits+i) (by omega)];show (if _ then _ else _)↔_;rw[if_neg (by omega),Nat.add_sub_cancel_left]
  have RL:=Es (b:=s2.bits) (P:=P2) hn6 ps p asks s.bits A2 ZC ž;have XH:=zl asks (f' s.bits (ps.length+1)) (f' (s.bits+1) ps.length++[0]) Zq;rw[tZ]at XH;refine⟨s.bits,{ s2 with dA:=s2.dA++iH asks (f' s.bits (ps.length+1)) (f' (s.bits+1) ps.length++[0]) },P2,?_,?_,?_,?_,?_⟩
  ·show (hI F F' [oF s,Y (.lst ((p::ps).map cj)),M]).bind UV=_;unfold hI;rw[aK (ρ':=[oF s1,Y (.lst ((p::ps).map cj)),Y (.lst ((f' s.bits (ps.length+1)).map D.int))]) ?q0]
   case q0=>unfold nV;rw[lV (ρ1:=[oF s,Y (.lst ((p::ps).map cj)),M]) (args:=[.lst ((p::ps).map cj)]) (by decide) rfl rfl rfl e1];rfl
   have Vb:jk (vH (iL Db) [M,Y 0] (gN 0) (bW "Facts" "asked" ax F 1 (jk (mP (L2.e2 bP db lc)) kl)) 1 0 ax) (jk (mP pc) Æ) [oF s1,Y (.lst ((p::ps).map cj)),Y (.lst ((f' s.bits (ps.length+1)).map D.int))]=Y ([.lst asks,.lst ((f' s.bits (ps.length+1)).map D.int),.int 0],[oF s2,Y (.lst ((p::ps).map cj)),Y (.lst ((f' s.bits (ps.length+1)).map D.int))]):=by rw[show ∀f g ρ,jk f g ρ=(f ρ).bind λp=>(g p.2).bind λq=>Y (p.1::q.1,q.2) from λ_ _ _=>rfl,e2];rfl
   rw[aK (ρ':=[oF { s2 with dA:=s2.dA++iH asks (f' s.bits (ps.length+1)) (f' (s.bits+1) ps.length++[0]) },Y (.lst ((p::ps).map cj)),Y (.lst ((f' s.bits (ps.length+1)).map D.int))]) ?q1]
   case q1=>unfold eD;rw[lV (s:=s1) (s1:=s2) (by decide) rfl Vb rfl e3];rfl
   have q2:L2.e2 bP pc u8 [oF { s2 with dA:=s2.dA++iH asks (f' s.bits (ps.length+1)) (f' (s.bits+1) ps.length++[0]) },Y (.lst ((p::ps).map cj)),Y (.lst ((f' s.bits (ps.length+1)).map D.int))]=Y (.int (2 ^ s.bits)):=by show oi ((f' s.bits (ps.length+1)).map D.int) ((0:Nat):Int)=_;unfold oi;rw[rA (by rw[aq,tZ];omega)];rfl
   unfold dM mP;rw[q2];exact wI
  ·refine⟨E2.q.trans S1.q,by show s.bits<=s2.bits;omega,by show s2.bits<=_;omega,λi hi=>(E2.same i ž).trans (ZD i hi),?_⟩;show (s2.dA++iH asks (f' s.bits (ps.length+1)) (f' (s.bits+1) ps.length++[0])).length+s.bits<=s.dA.length+s2.bits;rw[aJ];omega
  ·refine⟨⟨I2.Nd.nv,I2.Nd.star,I2.Nd.inner,I2.Nd.nk⟩,I2.tv,I2.tk,I2.VY,?_,?_⟩
   ·intro l hl;rcases aV.mp hl with hl|hl
    ·exact I2.dA l hl
    ·exact RL l hl
   ·show (s2.dA++iH asks (f' s.bits (ps.length+1)) (f' (s.bits+1) ps.length++[0])).length<=s2.bits;rw[aJ];omega
  ·show s.bits<s2.bits;omega
  ·intro hp;exact(ZC 0 ž).mp hp
abbrev á:=eK (kS "one")
theorem z0{F:List D->Option (D×D)}{s:FB}(w:fR (kS k) (kS "any")=Y (.bl Z_))(v:fR (kS k) (kS "text")=Y (.bl Z_))(u:fR (kS k) (kS "has")=Y (.bl Z_)){b:Bool}(t:fR (kS k) (kS "one")=Y (.bl b))(h:vH (iL Tl) [M,Y 0] (gN 0) (bW "Facts" "asked" ax F 1 EQ) 1 0 ax [oF s,Y (.tup [kS k,.lst a]),M]=Y (.lst c,[oF e,Y (.tup [kS k,.lst a]),M]))(p:b=Z_->kE [.lst c]=Y d)(r:b=Z'->d=gR 0 [.lst c]):
  ml 2 3 ax (cL F i) [eR s,.tup [kS k,.lst a]]=Y (d,eR e):=by
 show (cL F i [oF s,Y (.tup [kS k,.lst a]),M]).bind UV=_;unfold cL;have o:∀g,dR bv g cH [oF s,Y (.tup [kS k,.lst a]),M]=Y (.nx [oF s,Y (.tup [kS k,.lst a]),M]):=λg=>by rw[Dd (b:=Z_) (Ng w)];rfl
 have n:∀g,dR XV g cH [oF s,Y (.tup [kS k,.lst a]),M]=Y (.nx [oF s,Y (.tup [kS k,.lst a]),M]):=λg=>by rw[Dd (b:=Z_) (Ng v)];rfl
 have m:∀g,dR (dD (e2 fR am IR)) g cH [oF s,Y (.tup [kS k,.lst a]),M]=Y (.nx [oF s,Y (.tup [kS k,.lst a]),M]):=λg=>by rw[Dd (b:=Z_) (Ng u)];rfl
 rw[aK (o _),aK (n _),aK (m _)];rw[aK (ρ':=[oF e,Y (.tup [kS k,.lst a]),Y (.lst c)]) ?l]
 case l=>unfold nV;rw[h];rfl
 have f:=Ng (s:=e) (r:=[.lst a]) (y:=Y (.lst c)) t;cases b with
 |true=>
  have q:dR (dD (e2 fR am á)) (dM (mP (fF (aC u8 (aC (eF (gi sn)) aN))))) cH [oF e,Y (.tup [kS k,.lst a]),Y (.lst c)]=Y (.rm (gR 0 [.lst c]) [oF e,Y (.tup [kS k,.lst a]),Y (.lst c)]):=by rw[Dd (b:=Z') f];rfl
  rw[yn q,wI,r rfl]
 |false=>
  have q:∀g,dR (dD (e2 fR am á)) g cH [oF e,Y (.tup [kS k,.lst a]),Y (.lst c)]=Y (.nx [oF e,Y (.tup [kS k,.lst a]),Y (.lst c)]):=λg=>by rw[Dd (b:=Z_) f];rfl
  rw[aK (q _)];have j:∀J:List D->Option D,aQ J sn [oF e,Y (.tup [kS k,.lst a]),Y (.lst c)]=J [.lst c]:=λJ=>rfl
  unfold dM mP;rw[j,p rfl];exact wI
theorem HD(i:Nat):∀(g:List D) (x:Int),0<=x->(∀a∈g,∃c k,a=gR c k/\0<=c) ->
  0<=g.foldl (λn a=>match a with|.tup [.int c,_]=>bO n c|_=>n) x/\(x.toNat.testBit i=Z'->(g.foldl (λn a=>match a with|.tup [.int c,_]=>bO n c|_=>n) x).toNat.testBit i=Z')/\∀a∈g,∀c k,a=gR c k->c.toNat.testBit i=Z'->(g.foldl (λn a=>match a with|.tup [.int c,_]=>bO n c|_=>n) x).toNat.testBit i=Z'
 |[],x,j,_=>⟨j,id,λa h=>by simp at h⟩
 | a::g,x,j,h=>by
  obtain⟨c,k,rfl,m⟩:=h a (au ..);obtain⟨s,q,r⟩:=HD i g (bO x c) (xq j m) λy t=>h y (ao _ t)
  refine⟨s,λl=>q (by rw[MR j m,l];rfl),?_⟩;intro b o f p e d;rcases aE.mp o with rfl|o
  ·cases e;exact q (by rw[MR j m,d];simp)
  ·exact r b o f p e d
def O7:v8 (n+1) (.tup [kS "has",.lst a])=a.all λb=>v8 n (PF b):=if_pos rfl
def MO:v8 (n+1) (.tup [kS "both",.lst a])=a.all (v8 n):=(if_neg ſ).trans (if_pos rfl)
def O6:v8 (n+1) (.tup [kS "one",.lst a])=a.any (v8 n):=(if_neg ſ).trans ((if_neg ſ).trans (if_pos rfl))
def yJ{s:FB}(h:fN n d):dz 1 [Y d,oF s]=[Y d,oF s]:=by
 cases n with
 |zero=>exact h.elim|succ n=>rcases h with rfl|⟨t,rfl⟩|⟨b,rfl,_⟩|⟨a,rfl,_⟩|⟨a,rfl,_⟩<;>rfl
noncomputable def Yj:D->List D
 |.tup [_,.lst a]=>a|_=>[]
def O5(a:D):(Yj a).length=Ig a:=by
 unfold Yj Ig;split
 ·rfl
 ·first|rfl|(rename_i h;split;exact(h _ _ rfl).elim;rfl)
theorem HE:∀(b:List D) (k:Nat),(∀a∈b,Ig a<=k)->(Km b).length<=b.length*k
 |[],k,_=>by simp[Km]
 | a::b,k,h=>by
  have g:=HE b k λx c=>h x (ao _ c)
  have f:=h a (au ..);have e:Km (a::b)=Yj a++Km b:=rfl;have d:=O5 a;rw[e,aJ,aP,Pp];omega
def GQ{F:List D->Option (D×D)}(hF:BP F n)(hH:MY F' n)(hn:n<=5):BP (ml 2 3 ax (cL F F')) (n+1):=by
 intro s P w hw I hb;have hZ:Zb (n+1)=3*(1+Zb n):=rfl;have h3:1<=3 ^ (n+1):=Nat.one_le_pow _ _ ſ;have h3b:3 ^ (n+1)<=729:=bq (Nat.pow_le_pow_right ſ (show n+1<=6 by omega)) ſ;rcases hw with rfl|⟨t,rfl⟩|⟨N,rfl,S,H,y⟩|⟨o,rfl,H,y⟩|⟨o,rfl,H,y⟩
 ·exact⟨_,s,P,J5,(gf.refl s P).mono (cD _),I,⟨Pc n,cD _,trivial⟩⟩
 ·obtain⟨j,v,C,e,hj,E,G⟩:=AG I ž t;exact⟨_,v,C,GP e,E.mono ž,G,⟨Ik n (qy j),cD _,trivial⟩⟩
 ·obtain⟨j,v,C,e,E,G,hj,hp⟩:=hH s P N S H y I hb;exact⟨_,v,C,J4 e,E,G,⟨Ik n (qy j),cD _,trivial⟩⟩
 ·have hk:o.length*Zb n<=3*Zb n:=qg _ H;obtain⟨b,v,C,e,E,G,A⟩:=Ci hF (g:=jk (mP db) kl) (ar:=λd=>d) (f:=iL Tl) (ρ:=[oF s,Y (.tup [kS "both",.lst o]),M]) (ds:=o) (s:=s) (P:=P) rfl rfl rfl (λd K=>⟨y d K,λs=>⟨rfl,yJ (y d K)⟩⟩) I ž ž;have J:(Km b).length<=3 ^ (n+1):=by
   have B:=HE b (3 ^ n) λa z=>by obtain⟨d,_,r⟩:=A.left a z;exact r.len
   rw[A.len]at B;have h2:o.length*3 ^ n<=3*3 ^ n:=qg _ H;rw[Pu];omega
  have k:∀a∈b,∃f u,a=gR f u/\0<=f:=λa z=>by obtain⟨d,_,r⟩:=A.left a z;obtain⟨f,u,rfl⟩:=qL r.ad;exact⟨f,u,rfl,xr r.ad⟩
  have hJ:=JA (as:=b) (λa z=>by obtain⟨f,u,e,_⟩:=k a z;exact⟨f,u,e⟩) (jK ž);refine⟨_,v,C,z0 (by kernel_rfl) (by kernel_rfl) (by kernel_rfl) (b:=Z_) (by kernel_rfl) e (λ_=>hJ) (λh=>by cases h),E.mono ž,G,⟨?_,J,?_⟩⟩
  ·refine⟨_,_,rfl,(HD 0 b 0 ſ k).1,ž,?_⟩;intro c L;obtain⟨a,z,hca⟩:=List.mem_flatMap.mp L;obtain⟨d,_,r⟩:=A.left a z;obtain⟨f,u,rfl⟩:=qL r.ad;obtain⟨O,cs',e',_,_,X⟩:=r.ad.succ;cases e';exact X c hca
  ·trivial
 ·have hk:o.length*Zb n<=3*Zb n:=qg _ H;obtain⟨b,v,C,e,E,G,A⟩:=Ci hF (g:=jk (mP db) kl) (ar:=λd=>d) (f:=iL Tl) (ρ:=[oF s,Y (.tup [kS "one",.lst o]),M]) (ds:=o) (s:=s) (P:=P) rfl rfl rfl (λd K=>⟨y d K,λs=>⟨rfl,yJ (y d K)⟩⟩) I ž ž;refine⟨gR 0 [.lst b],v,C,z0 (by kernel_rfl) (by kernel_rfl) (by kernel_rfl) (b:=Z') (by kernel_rfl) e (λh=>by cases h) (λ_=>rfl),E.mono ž,G,⟨?_,h3,?_⟩⟩
  ·refine⟨0,_,rfl,ſ,Ž,?_⟩;intro c L;rw[bK.mp L];refine⟨b,rfl,by rw[A.len];omega,λx Q =>?_⟩;obtain⟨d,_,r⟩:=A.left x Q;exact r.ad
  ·trivial
mutual
theorem z7:∀(n m:Nat),n<=6->2*n<=m->BP (dr m) n
 |0,m,_,_=>λ_ _ _ h=>h.elim
 |n+1,0,_,h=>by omega
 |n+1,m+1,a,h=>by rw[dr];exact GQ (z7 n m ž ž) (CF n m ž ž) ž
theorem CF:∀(n m:Nat),n<=6->2*n+1<=m->MY (cZ m) n
 |n,0,_,h=>by omega
 |n,m+1,a,h=>by rw[cZ];exact zN (z7 n m a ž) a
end
def Y2(h:fR (kS x) (kS k)=Y (.bl b)):dD (e2 fR ol (eK (kS k))) [Y (.tup (kS x::r))]=Y b:=by
 have e:e2 bP db u8 [Y (.tup (kS x::r))]=Y (kS x):=by show oi (kS x::r) ((0:Nat):Int)=_;unfold oi;rw[rA (by simp)];rfl
 have c:e2 fR ol (eK (kS k)) [Y (.tup (kS x::r))]=fR (kS x) (kS k):=by show ((e2 bP db u8 [Y (.tup (kS x::r))]).bind λa=>(Y (kS k)).bind λb=>fR a b)=_;rw[e];rfl
 unfold dD;rw[c,h];rfl
def qW(e:g a=Y (.rt d)):aZ g h a=Y (.rt d):=by unfold aZ;rw[e];rfl
def Kb(h:fR (kS x) (kS k)=Y (.bl Z_)):dR (dD (e2 fR ol (eK (kS k)))) g cH [Y (.tup (kS x::r))]=Y (.nx [Y (.tup (kS x::r))]):=by
 rw[Dd (Y2 h)];rfl
def Wu(h:fR (kS x) (kS k)=Y (.bl Z')):dR (dD (e2 fR ol (eK (kS k)))) g cH [Y (.tup (kS x::r))]=g [Y (.tup (kS x::r))]:=by
 rw[Dd (Y2 h)];rfl
def wR{f:DL}{b:cO}(e:f b=Y a)(j:a.length<=1000)(h:∀d∈a,c [Y d]=Y (g d)):lZ f [M] (gN 0) eU c b=Y (a.map g):=by
 unfold lZ;rw[e];simp only[ab];rw[if_pos (ib (jK (by omega)))];exact qc a λd i=>⟨[Y d],rfl,h d i⟩
theorem xQ:∀(n m:Nat) (w:D),n<=m->fN n w->fP m [w]=Y (.bl (v8 n w))
 |0,_,_,_,h=>h.elim|n+1,0,_,h,_=>by omega
 | n+1,m+1,w,r,h=>by
  have ih:∀x,fN n x->fP m [x]=Y (.bl (v8 n x)):=λx j=>xQ n m x ž j
  have o:fP (m+1) [w]=(rB (fP m) [Y w]).bind nN:=rfl;rw[o];generalize fP m=F at *
  unfold rB;rcases h with rfl|⟨t,rfl⟩|⟨b,rfl,l,i,c⟩|⟨a,rfl,i,c⟩|⟨a,rfl,i,c⟩
  ·rw[aK (Kb (by kernel_rfl)),aK (Kb (by kernel_rfl)),aK (Kb (by kernel_rfl))];rfl
  ·rw[aK (Kb (by kernel_rfl)),aK (Kb (by kernel_rfl)),aK (Kb (by kernel_rfl))];rfl
  ·have f:lZ wv [M] (gN 0) eU (aQ F on) [Y (.tup [kS "has",.lst (b.map cj)])]=Y ((b.map cj).map λg =>.bl (v8 n (PF g))):=by
    refine wR rfl (by rw[aq];omega) λd e =>?_
    obtain⟨p,k,rfl⟩:=cR.mp e;exact ih p.2.2 (c p k)
   have q:dR (dD (e2 fR ol IR)) (dX (aQ (gK Z') (aC (eF (lZ wv [M] (gN 0) eU (aQ F on))) aN))) cH [Y (.tup [kS "has",.lst (b.map cj)])]=Y (.rt (.bl ((b.map cj).all λg=>v8 n (PF g)))):=by rw[Wu (by kernel_rfl)];unfold dX;rw[zX f,GR];rfl
   rw[qW q,O7];rfl
  ·have f:lZ wv [M] (gN 0) eU (aQ F bn) [Y (.tup [kS "both",.lst a])]=Y (a.map λx =>.bl (v8 n x)):=
    wR rfl ž λd e=>ih d (c d e)
   have q:dR (dD (e2 fR ol (eK (kS "both")))) (dX (aQ (gK Z') (aC (eF (lZ wv [M] (gN 0) eU (aQ F bn))) aN))) cH [Y (.tup [kS "both",.lst a])]=Y (.rt (.bl (a.all λx=>v8 n x))):=by rw[Wu (by kernel_rfl)];unfold dX;rw[zX f,GR];rfl
   rw[aK (Kb (by kernel_rfl)),qW q,MO];rfl
  ·have f:lZ wv [M] (gN 0) eU (aQ F bn) [Y (.tup [kS "one",.lst a])]=Y (a.map λx =>.bl (v8 n x)):=
    wR rfl ž λd e=>ih d (c d e)
   have q:dR (dD (e2 fR ol á)) (dX (aQ (gK Z_) (aC (eF (lZ wv [M] (gN 0) eU (aQ F bn))) aN))) cH [Y (.tup [kS "one",.lst a])]=Y (.rt (.bl (a.any λx=>v8 n x))):=by rw[Wu (by kernel_rfl)];unfold dX;rw[zX f,MU];rfl
   rw[aK (Kb (by kernel_rfl)),aK (Kb (by kernel_rfl)),qW q,O6];rfl
def MZ(F:List D->Option D)(n:Nat):Prop:=∀a:List (aM×aM×D),a.length<=1000->(∀p∈a,fN n p.2.2)->F [.lst (a.map cj)]=Y (.lst (a.map cj))
def Ip(F:List D->Option D)(n:Nat):Prop:=∀w,fN n w->F [w]=Y w
def ES{F:List D->Option D}(h:Ip a n):MZ (ku 1 1 (s_ F a)) n:=by
 intro c l j;show (s_ F a [Y (.lst (c.map cj))]).bind nN=_;unfold s_;have e:lZ Á [M] (gN 0) eU (fF (aC ol (aC bm (aC (aQ a on) aN)))) [Y (.lst (c.map cj))]=Y ((c.map cj).map λd=>d):=by
  refine wR rfl (by rw[aq];exact l) λd m =>?_
  obtain⟨p,k,rfl⟩:=cR.mp m;have hw:=h p.2.2 (j p k);have:aQ a on [Y (cj p)]=a [p.2.2]:=rfl;rw[hw]at this;unfold fF;rw[show ∀f g b,aC f g b=(f b).bind λx=>(g b).bind λi=>Y (x::i) from λ_ _ _=>rfl];rw[show ∀b,aC bm (aC (aQ a on) aN) b=(e2 bP db Fa b).bind λx=>((aQ a on b).bind λy=>Y [y]).bind λi=>Y (x::i) from λ_=>rfl,this];rfl
 unfold rV;rw[e,Py];rfl
abbrev Re:=fF (aC (eK (kS "both")) (aC á aN))
def Wt{b:Bool}(h:Gf Z_ (kS x) (.tup [kS "both",kS "one"])=Y (.bl b)):dD (e2 (Gf Z_) ol Re) [Y (.tup (kS x::r))]=Y b:=by
 have e:e2 bP db u8 [Y (.tup (kS x::r))]=Y (kS x):=by show oi (kS x::r) ((0:Nat):Int)=_;unfold oi;rw[rA (by simp)];rfl
 have c:e2 (Gf Z_) ol Re [Y (.tup (kS x::r))]=Gf Z_ (kS x) (.tup [kS "both",kS "one"]):=by show ((e2 bP db u8 [Y (.tup (kS x::r))]).bind λa=>(Y (.tup [kS "both",kS "one"])).bind λb=>Gf Z_ a b)=_;rw[e];rfl
 unfold dD;rw[c,h];rfl
abbrev wT:=dD (e2 (Gf Z_) ol Re)
def xh{F:List D->Option D}(s:MZ F n)(o:Ip e n):Ip (ku 1 1 (jm F e)) (n+1):=by
 intro w h;have u:ku 1 1 (jm F e) [w]=(jm F e [Y w]).bind nN:=rfl;rw[u];unfold jm;rcases h with rfl|⟨t,rfl⟩|⟨a,rfl,p,m,j⟩|⟨c,rfl,m,j⟩|⟨c,rfl,m,j⟩
 ·have q:∀g,dR wT g cH [Y (.tup [kS "any"])]=Y (.nx [Y (.tup [kS "any"])]):=λg=>by rw[Dd (Wt (b:=Z_) (by kernel_rfl))];rfl
  rw[aK (Kb (by kernel_rfl)),aK (q _)];rfl
 ·have q:∀g,dR wT g cH [Y (.tup [kS "text",.str t])]=Y (.nx [Y (.tup [kS "text",.str t])]):=λg=>by rw[Dd (Wt (b:=Z_) (by kernel_rfl))];rfl
  rw[aK (Kb (by kernel_rfl)),aK (q _)];rfl
 ·have r:=s a ž j;have q:dR (dD (e2 fR ol IR)) (dX (fF (aC IR (aC (aQ F Þ) aN)))) cH [Y (.tup [kS "has",.lst (a.map cj)])]=Y (.rt (.tup [kS "has",.lst (a.map cj)])):=by rw[Wu (by kernel_rfl)];have:aQ F Þ [Y (.tup [kS "has",.lst (a.map cj)])]=F [.lst (a.map cj)]:=rfl;rw[r]at this;unfold dX fF;rw[show ∀b,aC IR (aC (aQ F Þ) aN) b=((aQ F Þ b).bind λy=>Y [y]).bind λi=>Y (kS "has" :: i) from λ_=>rfl,this];rfl
  rw[qW q];rfl
 ·have k:lZ wv [M] (gN 0) eU (aQ e bn) [Y (.tup [kS "both",.lst c])]=Y (c.map λd=>d):=
   wR rfl ž λd l=>o d (j d l)
  rw[Py]at k;have q:dR wT (dX (fF (aC ol (aC (eF (lZ wv [M] (gN 0) eU (aQ e bn))) aN)))) cH [Y (.tup [kS "both",.lst c])]=Y (.rt (.tup [kS "both",.lst c])):=by rw[Dd (Wt (b:=Z') (by kernel_rfl)),if_pos rfl];unfold dX fF;rw[show ∀(f:DL) b,aC ol (aC (eF f) aN) b=(e2 bP db u8 b).bind λx=>(((f b).map D.lst).bind λy=>Y [y]).bind λi=>Y (x::i) from λ_ _=>rfl,k];rfl
  rw[aK (Kb (by kernel_rfl)),qW q];rfl
 ·have k:lZ wv [M] (gN 0) eU (aQ e bn) [Y (.tup [kS "one",.lst c])]=Y (c.map λd=>d):=
   wR rfl ž λd l=>o d (j d l)
  rw[Py]at k;have q:dR wT (dX (fF (aC ol (aC (eF (lZ wv [M] (gN 0) eU (aQ e bn))) aN)))) cH [Y (.tup [kS "one",.lst c])]=Y (.rt (.tup [kS "one",.lst c])):=by rw[Dd (Wt (b:=Z') (by kernel_rfl)),if_pos rfl];unfold dX fF;rw[show ∀(f:DL) b,aC ol (aC (eF f) aN) b=(e2 bP db u8 b).bind λx=>(((f b).map D.lst).bind λy=>Y [y]).bind λi=>Y (x::i) from λ_ _=>rfl,k];rfl
  rw[aK (Kb (by kernel_rfl)),qW q];rfl
mutual
theorem BF:∀(n m:Nat),2*n+1<=m->MZ (jq m) n
 |n,0,h=>by omega
 |n,m+1,h=>by rw[jq];exact ES (ts n m ž)
theorem ts:∀(n m:Nat),2*n<=m->Ip (eE m) n
 |0,m,_=>λ_ h=>h.elim
 |n+1,0,h=>by omega
 |n+1,m+1,h=>by rw[eE];exact xh (BF n m ž) (ts n m ž)
end
def xt(n:Nat):Nat->Int->List (aM×aM×D)->Int
 |_,a,[]=>a|k,a,p::b=>xt n (k+1) (if v8 n p.2.2 then bO a (2 ^ k) else a) b
theorem EY(hn:n<=12)(q:D):∀(ps:List (aM×aM×D)) (k:Nat) (a:Int) (a2 a3:Option D),(∀p∈ps,fN n p.2.2)->k+ps.length<=1000->∃b2 b3,
  gD (Cz 2 3) iI (((ps.map cj).zipIdx k).map λp =>.tup [.int (p.2:Nat),p.1]) [Y q,Y (.int a),a2,a3]=Y (.nx [Y q,Y (.int (xt n k a ps)),b2,b3])
 |[],k,a,a2,a3,_,_=>⟨a2,a3,rfl⟩| p::ps,k,a,a2,a3,h,hk=>by
  simp only[aP]at hk;have hc:pw [p.2.2]=Y (.bl (v8 n p.2.2)):=xQ n 12 p.2.2 hn (h p (au ..));have hb:iI [Y q,Y (.int a),Y (.int (k:Nat)),Y (cj p)]=Y (.nx [Y q,Y (.int (if v8 n p.2.2 then bO a (2 ^ k) else a)),Y (.int (k:Nat)),Y (cj p)]):=by
   have e1:cF (aQ pw (aC Ò aN)) [Y q,Y (.int a),Y (.int (k:Nat)),Y (cj p)]=Y (v8 n p.2.2):=by
    have:∀F,aQ F (aC Ò aN) [Y q,Y (.int a),Y (.int (k:Nat)),Y (cj p)]=F [p.2.2]:=λF=>rfl
    unfold cF;rw[this,hc];rfl
   unfold iI;rw[Dd e1];cases v8 n p.2.2 with
   |false=>rfl|true=>have e2:L2.e2 qC Fa pc [Y q,Y (.int a),Y (.int (k:Nat)),Y (cj p)]=Y (.int (2 ^ k)):=(show _=qC (.int 1) (.int (k:Nat)) from rfl).trans (NI ž);simp only[if_true];unfold uv;rw[e2];rfl
  rw[aI,Fi,aI,k_ (ρ1:=[Y q,Y (.int a),Y (.int (k:Nat)),Y (cj p)]) rfl hb];obtain⟨b2,b3,e⟩:=EY hn q ps (k+1) (if v8 n p.2.2 then bO a (2 ^ k) else a) (Y (.int (k:Nat))) (Y (cj p)) (λy hy=>h y (ao _ hy)) ž;exact⟨b2,b3,e.trans rfl⟩
def Pd(c:n<=12)(a:List (aM×aM×D))(h:∀p∈a,fN n p.2.2)(d:a.length<=1000):jV [.lst (a.map cj)]=Y (.int (xt n 0 0 a)):=by
 show (n_ [Y (.lst (a.map cj)),M,M,M]).bind nN=_;unfold n_;rw[aK (iX (d :=.int 0) rfl)];simp only[bf,bg];obtain⟨g,f,e⟩:=EY c (.lst (a.map cj)) a 0 0 M M h ž;have b:iu (iE db) (Cz 2 3) iI [Y (.lst (a.map cj)),Y (.int 0),M,M]=gD (Cz 2 3) iI (((a.map cj).zipIdx 0).map λp =>.tup [.int (p.2:Nat),p.1]) [Y (.lst (a.map cj)),Y (.int 0),M,M]:=rfl;rw[aK (b.trans e)];rfl
noncomputable def Mq(s:FB)(a:List D):C5:=⟨s.q,(s.bits:Int),s.nk,s.nv,s.tk,s.tv,s.jQ,s.vo,s.inner,s.dA,a⟩
abbrev pF(a:List aM)(b:List D):Option D:=Y (.obj ax (.ins "Facts" a b))
def Uv{F:List D->Option D}(h:F [q]=Y d):gC Z_ 0 "Facts" "question" (aQ F wl) [pF [] [],Y q]=Y (.nx [pF ["question"] [d],Y q]):=by
 have e:aQ F wl [pF [] [],Y q]=Y d:=(show aQ F wl [pF [] [],Y q]=F [q] from rfl).trans h;unfold gC;rw[e];simp only[ab];kernel_rfl
noncomputable def K8(q:List D):FB:=⟨q,0,[],[],[],[],0,0,0,[]⟩
def PM(q:List D):Kq (K8 q):=⟨λv a=>by simp[K8]at a,S8 0,S8 0,aH 0⟩
def Ul(q:List D):Inv (K8 q) λ_=>True:=⟨PM q,λv a=>by simp[K8]at a,aH 0,rfl,λv a=>by simp[K8]at a,aH 0⟩
def OG(hn:n<=5)(iA:List (aM×aM×D))(h:∀p∈iA,fN n p.2.2)(hl:iA.length<=3)(hz:iA.length*(1+Zb n)<=999):
  ∃asks s P,gy [.ins "Facts" [] [],.lst (iA.map cj)]=Y (.eN,gu (Mq s asks))/\s.q=iA.map cj/\Inv s P/\Ad (λa d=>xT s.bits P n a (PF d)) asks (iA.map cj):=by
 have hc:wg [.lst (iA.map cj)]=Y (.lst (iA.map cj)):=BF n 12 ž iA ž h;have es:K8 (iA.map cj)=K8 (iA.map cj):=rfl;have W0:=PM (iA.map cj);have I0:=Ul (iA.map cj);obtain⟨s1,e1,b1,S1,W1⟩:=EE W0 iA (by show 0+iA.length<=1000;omega);have b1':s1.bits=iA.length:=by rw[b1];show 0+iA.length=_;omega
 have I1:Inv s1 λ_=>True:=I0.enter S1 W1 (cD _) λ_ _=>Iff.rfl
 have RI:s1.q=iA.map cj:=S1.q;have hm:iA.length*(1+Zb n)=iA.length+iA.length*Zb n:=by rw[Nat.mul_add,Nat.mul_one]
 have U':iL kt [oF s1,Y (.lst (iA.map cj))]=Y (iA.map cj):=by
  have:iL kt [oF s1,Y (.lst (iA.map cj))]=Y s1.q:=by kernel_rfl
  rw[this,RI]
 obtain⟨asks,s2,P2,e2,E2,I2,A2⟩:=Ci (z7 n 12 ž ž) (g:=jk (mP Ó) kl) (ar:=PF) (f:=iL kt) (ρ:=[oF s1,Y (.lst (iA.map cj))]) (ds:=iA.map cj) (s:=s1) (P:=λ_=>True) U' rfl rfl (by intro d hd;obtain⟨q,hq,rfl⟩:=cR.mp hd;exact⟨h q hq,λs=>⟨rfl,rfl⟩⟩) I1 (by rw[aq];omega) (by rw[aq];omega)
 refine⟨asks,s2,P2,?_,E2.q.trans RI,I2,A2⟩;show (jS [pF [] [],Y (.lst (iA.map cj))]).bind UV=_;unfold jS;rw[aK (Uv hc)];generalize iA.map cj=q at *
 rw[aK (ρ':=[pF ["question", "bits"] [.lst q,.int 0],Y (.lst q)]) ?q2,aK (ρ':=[pF ["question", "bits", "by_name"] [.lst q,.int 0,.jn [] []],Y (.lst q)]) ?q3,aK (ρ':=[pF ["question", "bits", "by_name", "by_text"] [.lst q,.int 0,.jn [] [],.jn [] []],Y (.lst q)]) ?q4,aK (ρ':=[pF ["question", "bits", "by_name", "by_text", "starred"] [.lst q,.int 0,.jn [] [],.jn [] [],.int 0],Y (.lst q)]) ?q5,aK (ρ':=[pF ["question", "bits", "by_name", "by_text", "starred", "stars"] [.lst q,.int 0,.jn [] [],.jn [] [],.int 0,.int 0],Y (.lst q)]) ?q6,aK (ρ':=[pF ["question", "bits", "by_name", "by_text", "starred", "stars", "inner"] [.lst q,.int 0,.jn [] [],.jn [] [],.int 0,.int 0,.int 0],Y (.lst q)]) ?q7,aK (ρ':=[oF (K8 q),Y (.lst q)]) ?q8]
 case q8=>kernel_rfl
 case q7=>kernel_rfl
 case q6=>kernel_rfl
 case q5=>kernel_rfl
 case q4=>kernel_rfl
 case q3=>kernel_rfl
 case q2=>kernel_rfl
 rw[aK (ρ':=[oF s1,Y (.lst q)]) ?q9]
 case q9=>unfold eD;rw[lV (s:=(K8 q)) (s1:=(K8 q)) (ρ1:=[oF (K8 q),Y (.lst q)]) (args:=[.lst q]) (by decide) rfl (by kernel_rfl) rfl e1];rfl
 unfold B2;rw[show dr 12=mZ from rfl]at e2;rw[e2];kernel_rfl
noncomputable def xV:iq:=⟨-1,0,0,0,1,1,1,1⟩
abbrev pC(a:List aM)(b:List D):Option D:=Y (.obj aA (.ins "Coming" a b))
def Ro{F:List D->Option (D×D)}{f:C5}(h:F [.ins "Facts" [] [],q]=Y (.eN,gu f)):gC Z_ 0 "Coming" "facts" (kj "Facts" F wl) [pC [] [],Y q]=Y (.nx [pC ["facts"] [gu f],Y q]):=by
 have e:kj "Facts" F wl [pC [] [],Y q]=Y (gu f):=by unfold kj;show ((F [.ins "Facts" [] [],q]).bind _)=_;rw[h];rfl
 unfold gC;rw[e];simp only[ab];kernel_rfl
def Rp{F:List D->Option D}{f:C5}(h:F [.lst f.q]=Y (.int a)):gC Z_ 0 "Coming" "able" (mh [0] [] (aQ F im)) [pC ["facts", "full"] [gu f,.int b],Y q]=Y (.nx [pC ["facts", "full", "able"] [gu f,.int b,.int a],Y q]):=by
 have e:mh [0] [] (aQ F im) [pC ["facts", "full"] [gu f,.int b],Y q]=Y (.int a):=by
  have:mh [0] [] (aQ F im) [pC ["facts", "full"] [gu f,.int b],Y q]=(F [.lst f.q]).bind λd=>if sT d=Z' then Y d else none:=by kernel_rfl
  rw[this,h];rfl
 unfold gC;rw[e];simp only[ab];kernel_rfl
def JY{f:C5}(j:f.q.length<=1000)(k:gy [.ins "Facts" [] [],.lst q]=Y (.eN,gu f))(l:jV [.lst f.q]=Y (.int a)):
  cU [.ins "Coming" [] [],.lst q]=Y (.eN,bJ ⟨f,2 ^ f.q.length,a,0,0,[xV],[]⟩):=by
 show (jA [pC [] [],Y (.lst q)]).bind Î=_;unfold jA;rw[aK (Ro k)];rw[aK (ρ':=[pC ["facts", "full"] [gu f,.int (2 ^ f.q.length)],Y (.lst q)]) ?i]
 case i=>
  have e:mh [0] [] (e2 qC Fa (aQ gr im)) [pC ["facts"] [gu f],Y (.lst q)]=Y (.int (2 ^ f.q.length)):=by refine nP (ρ':=[Y (.ins "Coming" ["facts"] [gu f]),Y (.lst q)]) rfl ?_ rfl;exact(show _=qC (.int 1) (.int (f.q.length:Nat)) from rfl).trans (NI j)
  unfold gC;rw[e];simp only[ab];generalize (2:Int) ^ f.q.length=b;kernel_rfl
 generalize (2:Int) ^ f.q.length=b;rw[aK (Rp l)];have c:gC Z_ 0 "Coming" "rests" wf [pC ["facts", "full", "able", "taken", "opened", "rows"] [gu f,.int b,.int a,.int 0,.int 0,.lst [cu xV]],Y (.lst q)]=Y (.nx [oC ⟨f,b,a,0,0,[xV],[]⟩,Y (.lst q)]):=by kernel_rfl
 rw[aK (ρ':=[pC ["facts", "full", "able", "taken"] [gu f,.int b,.int a,.int 0],Y (.lst q)]) ?h,aK (ρ':=[pC ["facts", "full", "able", "taken", "opened"] [gu f,.int b,.int a,.int 0,.int 0],Y (.lst q)]) ?g,aK (ρ':=[pC ["facts", "full", "able", "taken", "opened", "rows"] [gu f,.int b,.int a,.int 0,.int 0,.lst [cu xV]],Y (.lst q)]) ?d,c]
 case d=>kernel_rfl
 case g=>kernel_rfl
 case h=>kernel_rfl
 kernel_rfl
def NH(h:cU [.ins "Coming" [] [],.lst q]=Y (.eN,bJ c)):kP [.ins "Sift" [] [],.lst q]=Y (.eN,uJ c []):=by
 show (kI [Y (.obj d_ (.ins "Sift" [] [])),Y (.lst q)]).bind (mo d_)=_;unfold kI;rw[aK (ρ':=[Y (.obj d_ (.ins "Sift" ["coming"] [bJ c])),Y (.lst q)]) ?a]
 case a=>
  have e:kj "Coming" cU wl [Y (.obj d_ (.ins "Sift" [] [])),Y (.lst q)]=Y (bJ c):=by
   have:∀F,kj "Coming" F wl [Y (.obj d_ (.ins "Sift" [] [])),Y (.lst q)]=(F [.ins "Coming" [] [],.lst q]).bind λr=>match r.1 with|.eN=>Y r.2|_=>none:=λF=>rfl
   rw[this,h];rfl
  unfold p_;rw[e];simp only[ab];kernel_rfl
 kernel_rfl
def Bk(ks:List mi)(a:List D)(n:aM):Int:=match (fD ks a (da n)).getD (.int 0) with|.int i=>i|_=>0
def Ep{ks:List mi}(h:∀v∈a,∃i,0<=i/\v=D.int i):(fD ks a (da n)).getD (.int 0)=.int (Bk ks a n):=by
 obtain⟨i,b,e⟩:=Eo (k:=da n) (ks:=ks) h;unfold Bk;rw[e]
def RU{f:C5}(b:∀v∈f.nv,∃i,0<=i/\v=D.int i)(a:∀v∈f.tv,∃i,0<=i/\v=D.int i):VN f (λn=>bO f.jQ (Bk f.nk f.nv n)) (λt=>Bk f.tk f.tv t):=by
 refine⟨λn =>?_,λt =>?_⟩
 ·show (jz [Y (gu f),Y (.str n)]).bind nN=_;unfold jz dX;have:e2 Dc (bp "Facts" "starred" db) (tm (bp "Facts" "by_name" db) Db u8) [Y (gu f),Y (.str n)]=Dc (.int f.jQ) ((fD f.nk f.nv (da n)).getD (.int 0)):=by kernel_rfl
  rw[this,Ep b];rfl
 ·show (jy [Y (gu f),Y (.str t)]).bind nN=_;unfold jy dX;have:tm (bp "Facts" "by_text" db) Db u8 [Y (gu f),Y (.str t)]=Y ((fD f.tk f.tv (da t)).getD (.int 0)):=by kernel_rfl
  rw[this,Ep a];rfl
theorem zp:∀(d:List D),(∀l∈d,∃j a,l=Jv ((2:Int) ^ j,a)/\me 6 a)->∃c:List (Int×D),d=c.map Jv/\∀p∈c,me 6 p.2
 |[],_=>⟨[],rfl,λp h=>by simp at h⟩
 | l::d,h=>by
  obtain⟨j,a,e,i⟩:=h l (au ..);obtain⟨c,k,g⟩:=zp d λx f=>h x (ao _ f)
  refine⟨((2:Int) ^ j,a)::c,by rw[e,k];rfl,λp b =>?_⟩;rcases aE.mp b with rfl|b
  ·exact i
  ·exact g p b
abbrev Sm(k:Nat)(x:Int):Prop:=0<=x/\x<2 ^ k
def CW{x:Int}(a:0<=y):0<=bA x y/\bA x y<=y:=by
 unfold bA vj;rw[decide_eq_true a];cases decide (0<=x) with
 |true=>have:=Nat.and_le_right (n:=x.toNat) (m:=y.toNat);exact⟨sx _,by show ((_:Nat):Int)<=y;omega⟩
 |false=>have:=Nat.and_le_left (n:=y.toNat) (m:=(vi x).toNat);exact⟨by show 0<=y-((_:Nat):Int);omega,by show y-((_:Nat):Int)<=y;omega⟩
def FU{x:Int}(h:Sm k y):Sm k (bA x y):=⟨(CW h.1).1,AR (CW h.1).2 h.2⟩
def PK(h:Sm k x):Sm (k+1) (bO x (2 ^ k)):=by
 obtain⟨a,rfl⟩:=dk h.1;have e:((2 ^ k:Nat):Int)=(2:Int) ^ k:=by simp
 have c:((2 ^ (k+1):Nat):Int)=(2:Int) ^ (k+1):=by simp
 have b:=h.2;rw[<- e]at b ⊢;rw[GO];have:a ||| 2 ^ k<2 ^ (k+1):=Nat.or_lt_two_pow (by rw[Pu];omega) (by rw[Pu];have:=Nat.two_pow_pos k;omega);exact⟨sx _,by rw[<- c];omega⟩
def K0(h:Sm k x):Sm (k+1) x:=⟨h.1,by have:=h.2;rw[Int.pow_succ];omega⟩
theorem Mp{n:Nat}{named atoms:Int}:∀(c:List D) (k:Nat) (b:Int),Sm k b->Sm (k+c.length) (Gw n named atoms k b c)
 |[],k,b,h=>h|a::c,k,b,h=>by have:=Mp (n:=n) (named:=named) (atoms:=atoms) c (k+1) (if bA named (2 ^ k) != 0&&qE n a atoms then bO b (2 ^ k) else b) (by split;exact PK h;exact K0 h);rw[aP,show k+(c.length+1)=k+1+c.length by omega];exact this
theorem MX{n:Nat}:∀(a:List (aM×aM×D)) (k:Nat) (x:Int),Sm k x->Sm (k+a.length) (xt n k x a)
 |[],k,x,h=>h|q::a,k,x,h=>by have:=MX (n:=n) a (k+1) (if v8 n q.2.2 then bO x (2 ^ k) else x) (by split;exact PK h;exact K0 h);rw[aP,show k+(a.length+1)=k+1+a.length by omega];exact this
theorem PL:∀ {j k:Nat},Sm j x->j<=k->Sm k x
 | j,k,h,a=>by
  obtain⟨m,rfl⟩:=Nat.exists_eq_add_of_le a
  induction m with
  |zero=>exact h|succ m ih=>exact K0 (ih ž)
def tz(x:Int)(i:Nat):Bool:=if 0<=x then x.toNat.testBit i else !(bN x).toNat.testBit i
def uF(a i:Nat):tz (a:Int) i=a.testBit i:=by unfold tz;rw[if_pos (sx a)];rfl
def yM(x:Int)(i:Nat):tz (bN x) i = !tz x i:=by
 have n:0<=bN x↔¬0<=x:=PyProof.Rows.bitNot_nonneg;unfold tz;rw[show bN (bN x)=x from PyProof.Rows.bitNot_bitNot x];by_cases h:0<=x
 ·rw[if_neg λz=>n.mp z h,if_pos h]
 ·rw[if_pos (n.mpr h),if_neg h,PB]
def J7(x y:Nat)(i:Nat):(x-(x &&& y)).testBit i=(x.testBit i && !y.testBit i):=by
 have h:=IC (x ^^^ (x &&& y)) (x &&& y);have b:(x ^^^ (x &&& y)) ||| (x &&& y)=x:=yi λj=>by rw[Kg,GZ,qP];cases x.testBit j<;>cases y.testBit j<;>rfl
 have a:(x ^^^ (x &&& y)) &&& (x &&& y)=0:=yi λj=>by rw[qP,GZ,qP,Nat.zero_testBit];cases x.testBit j<;>cases y.testBit j<;>rfl
 rw[b,a]at h;rw[show x-(x &&& y)=x ^^^ (x &&& y) by omega,GZ,qP];cases x.testBit i<;>cases y.testBit i<;>rfl
def Dm(b:0<=x)(y:Nat)(i:Nat):tz (x-((x.toNat &&& y:Nat):Int)) i=(x.toNat.testBit i && !y.testBit i):=by
 obtain⟨a,rfl⟩:=dk b;rw[gP,show ((a:Int)-((a &&& y:Nat):Int))=((a-(a &&& y):Nat):Int) by have:=Nat.and_le_left (n:=a) (m:=y);omega,uF,J7]
def wD(x y:Int)(i:Nat):tz (bA x y) i=(tz x i&&tz y i):=by
 by_cases b:0<=x<;>by_cases a:0<=y
 ·rw[show bA x y=_ from Po b a,uF,qP,tz,if_pos b,tz,if_pos a]
 ·rw[show bA x y=_ from PyProof.Rows.bitAnd_pn b a,Dm b,tz,if_pos b,tz,if_neg a]
 ·rw[show bA x y=_ from PyProof.Rows.bitAnd_np b a,Dm a,tz,if_neg b,tz,if_pos a,Bool.and_comm]
 ·rw[show bA x y=_ from PyProof.Rows.bitAnd_nn b a,yM,uF,Kg,tz,if_neg b,tz,if_neg a,Bool.not_or]
def PH(x y:Int)(i:Nat):tz (bO x y) i=(tz x i||tz y i):=by
 show tz (bN (bA (bN x) (bN y))) i=_;rw[yM,wD,yM,yM,Bool.not_and,PB,PB]
def Qp(x:Int)(i:Nat):tz (x*2) i=(decide (1<=i)&&tz x (i-1)):=by
 have b:∀a:Nat,(2*a).testBit i=(decide (1<=i)&&a.testBit (i-1)):=λa=>by rw[show 2*a=a <<< 1 by rw[Nat.shiftLeft_eq];omega,Nat.testBit_shiftLeft]
 unfold tz;by_cases h:0<=x
 ·rw[if_pos (by omega),if_pos h,show (x*2).toNat=2*x.toNat by omega,b]
 ·rw[if_neg (by omega),if_neg h,show (bN (x*2)).toNat=2*(bN x).toNat+1 by unfold bN vi;omega];cases i with
  |zero=>simp|succ i=>rw[Nat.testBit_succ,show (2*(bN x).toNat+1)/2=(bN x).toNat by omega];simp
def Qo(k i:Nat):tz ((2:Int) ^ k) i=decide (k=i):=by
 have e:((2 ^ k:Nat):Int)=(2:Int) ^ k:=by simp
 rw[<- e,uF,Nat.testBit_two_pow]
def KA(d:0<=x)(c:0<=y)(h:∀i,tz x i=tz y i):x=y:=by
 obtain⟨a,rfl⟩:=dk d;obtain⟨b,rfl⟩:=dk c;have:a=b:=yi λi=>by have:=h i;rwa [uF,uF]at this
 rw[this]
def yk(i:Nat):tz 0 i=false:=by rw[show (0:Int)=((0:Nat):Int) from rfl,uF,Nat.zero_testBit]
def KC(x:Int)(k:Nat):(bA x (2 ^ k) != 0)=tz x k:=by
 have a:0<=(2:Int) ^ k:=qy k;have c:=(CW (x:=x) a).1;have b:∀i,tz (bA x (2 ^ k)) i=(tz x i&&decide (k=i)):=λi=>by rw[wD,Qo]
 cases e:tz x k with
 |true=>rw[bne_iff_ne];intro z;have:=b k;rw[z,yk,e]at this;simp at this
 |false=>
  have:bA x (2 ^ k)=0:=KA c ſ λi=>by
   rw[b i,yk];by_cases h:k=i
   ·subst h;rw[e];rfl
   ·simp[h]
  rw[this];rfl
abbrev Le(x y:Int):Prop:=∀i,tz x i=Z'->tz y i=Z'
def LZ{x:Int}(h:Le x b)(g:Le y a):Le (bO x y) (bO b a):=λi e=>by
 rw[PH,wz]at e ⊢;exact e.imp (h i) (g i)
def L0(h:Le x b)(g:Le y a):Le (bA x y) (bA b a):=λi e=>by
 rw[wD,aX]at e ⊢;exact⟨h i e.1,g i e.2⟩
def LY(x y:Int):Le x (bO x y):=λi e=>by rw[PH,e];rfl
def Iz(x:Int):Le 0 x:=λi e=>by rw[yk]at e;cases e
def Qb{f:Int}(l:Le p c)(k:Le a g)(j:Le f d):Le (De b p a f) (De b c g d):=λi e=>by
 unfold De at e ⊢;rw[Qp,aX]at e ⊢;exact⟨e.1,L0 (LZ l (L0 k λ_ h=>h)) j _ e.2⟩
theorem LO:∀(n m:Nat) (b:D) (a f:Int),me m b->Le a f->qE n b a=Z'->qE n b f=Z'
 |0,m,b,a,f,_,_,h=>nomatch (show Z_=Z' from h)
 |n+1,0,b,a,f,h,_,_=>h.elim| n+1,m+1,b,a,f,s,l,h=>by
  obtain⟨d,u,rfl,o,_,r⟩:=s;simp only[LP,aX,beq_iff_eq]at h ⊢;refine⟨KA (CW o).1 o λi =>?_,?_⟩
  ·rw[wD];cases e:tz d i with
   |false=>rw[Kj]|true=>
    have:tz (bA a d) i=true:=by rw[h.1];exact e
    rw[wD,aX]at this;rw[l i this.1];rfl
  ·rw[cx]at h ⊢;intro c j;obtain⟨t,rfl,_,q⟩:=r c j;have p:=h.2 _ j;simp only[List.any_eq_true]at p ⊢;obtain⟨x,g,k⟩:=p;exact⟨x,g,LO n m x a f (q x g) l k⟩
theorem fit_le{m:Nat}{f:Int}(h:Le a j):∀(b:List D) (k:Nat) (x d:Int),(∀p∈b,me m p)->Le x d->Le (Gw n f a k x b) (Gw n f j k d b)
 |[],k,x,d,_,g=>g| p::b,k,x,d,l,g=>by
  refine fit_le h b (k+1) _ _ (λq o=>l q (ao _ o)) ?_;by_cases c:(bA f (2 ^ k) != 0&&qE n p a)=Z'
  ·have:(bA f (2 ^ k) != 0&&qE n p j)=true:=by rw[aX]at c ⊢;exact⟨c.1,LO n m p a j (l p au) h c.2⟩
   rw[if_pos c,if_pos this];exact LZ g λ_ h=>h
  ·rw[if_neg c];split
   ·exact λi e=>LY _ _ i (g i e)
   ·exact g
structure FW(f:C5)(qM:Int)(fit lift:Int->Int->Int)(Te txt:aM->Int):Prop where
 ok:Pg f fit lift
 st:VN f Te txt
 sm:∀n a,Sm 63 (fit n a)
 mono:∀n a a',Le a a'->Le (fit n a) (fit n a')
 qM:Sm 63 qM
def Vd{n:Nat}(F:n<=5)(c:List (aM×aM×D))(h:∀p∈c,fN n p.2.2)(u:c.length<=3)(B:c.length*(1+Zb n)<=999):
  ∃f x k o m,gy [.ins "Facts" [] [],.lst (c.map cj)]=Y (.eN,gu f)/\f.q=c.map cj/\FW f (xt n 0 0 c) x k o m:=by
 obtain⟨b,s,P,e,E,I,A⟩:=OG F c h u B;have G:b.length=c.length:=by rw[A.len,aq]
 have i:∀a∈b,me 6 a:=λa w=>by obtain⟨d,_,r⟩:=A.left a w;exact r.ad.up ž
 obtain⟨z,H,q⟩:=zp s.dA λl u=>by obtain⟨j,y,e,_,w,_⟩:=I.dA l u;exact⟨j,y,e,w⟩
 refine⟨Mq s b,λg a=>Gw 6 g a 0 0 b,λg a=>Ow 6 g a (bA a s.inner) z,λn=>bO s.jQ (Bk s.nk s.nv n),λt=>Bk s.tk s.tv t,e,E,?_⟩;exact⟨⟨λg a=>Gv (f:=Mq s b) (n:=6) ſ i (by show b.length<=1000;omega) g a,λg a=>Jt (f:=Mq s b) (n:=6) ſ H q g a⟩,RU (f:=Mq s b) I.Nd.nv (λv C=>by obtain⟨j,_,e,_⟩:=I.tv v C;exact⟨_,qy j,e⟩),
  λg a=>PL (Mp b 0 0 ⟨ſ,ſ⟩) ž,λg a J h=>fit_le h b 0 0 0 i λ_ h=>h,PL (MX c 0 0 ⟨ſ,ſ⟩) ž⟩
end K21
namespace L2
open PySem
def NM(e:g b=Y (.nx a)):aZ g h b=h a:=by simp only[aZ,e,ab]
def Uj(e:t a=Y Z_):dR t g h a=h a:=by simp[dR,e]
def Ui(e:t a=Y Z'):dR t g h a=g a:=by simp[dR,e]
def O3(h:mR a 179=Z'):jN (.lst a) 180=true:=by simp only[jN];rw[show 180-1=179 by rfl,h];rfl
end L2
namespace K21
open PySem L2
def Fe{j:Int}(h : -(2 ^ 64)<j/\j<2 ^ 64):qb (.int i) (.int j)=Y (.int (i*j)):=by simp only[qb];rw[if_pos (.inr h)]
def SM(h : -(2 ^ 64)<i/\i<2 ^ 64):qb (.int i) (.int j)=Y (.int (i*j)):=by simp only[qb];rw[if_pos (.inl h)]
def mK{j:Int}(h:0<j):iR (.int i) (.int j)=Y (.int (i%j)):=by simp only[iR];rw[if_pos h]
def tj(h:0<j/\j<2 ^ 64):kz (.int i) (.int j)=Y (.int (i/j)):=by simp only[kz];rw[if_pos h]
def Yl:fA (.int i) (.int j)=Y (.int (i+j)):=rfl
def WN:nY (.int i) (.int j)=Y (.int (i-j)):=rfl
def eqI:fR (.int i) (.int j)=Y (.bl (i==j)):=rfl
def eqB:fR (.bl i) (.bl j)=Y (.bl (i==j)):=rfl
def eqS:fR (.str i) (.str j)=Y (.bl (i==j)):=rfl
def neI:uj (.int i) (.int j)=Y (.bl (!(i==j))):=rfl
def neS:uj (.str i) (.str j)=Y (.bl (!(i==j))):=rfl
def ltI:Pk (.int i) (.int j)=Y (.bl (decide (i<j))):=rfl
def gtI:ux (.int i) (.int j)=Y (.bl (decide (j<i))):=rfl
def ixL:bP (.lst a) (.int i)=oi a i:=rfl
def ixT:bP (.tup a) (.int i)=oi a i:=rfl
def Xn{a:List D}:gr [.lst a]=Y (.int a.length):=rfl
def Xl{a:List D}:gr [.tup a]=Y (.int a.length):=rfl
def geI:oGe (.int i) (.int j)=Y (.bl (decide (j<=i))):=rfl
local macro_rules | `(tactic|walk_at "v")=>do
 let a←("ku DI iV aZ dh kq dX rV A' dR cH iu p' Ba jl e2 eV eK eF gi fF aQ pR aC aN dD ju jY eT lZ iL iE JF P_ pN pS CD JO iS nH cF w_ aP iU aI rP vh dI bS List.getElem?_cons_zero Nn List.getElem?_nil Option.join_some Option.join_none ab bI Ff Yl WN eqI eqB eqS neI neS ltI gtI geI ixL ixT Xn Xl bf bg if_true if_false eB nN Oc Nat.reduceAdd Nat.reduceSub Nat.reduceLeDiff Az nV dM B1 Hk Bb V8 m2 mP kl jk x9 uy UR Od".splitOn " ").toArray.mapM fun s=>`(Lean.Parser.Tactic.simpLemma|$(Lean.mkIdent s.toName):term)
 `(tactic|simp only[$a,*])
noncomputable def UP(c t:Int):Int:=(c%2147483647+t*t*7919+104729)*48271%2147483647
def Eg(c t:Int):Int:=(UP c t*UP c t+69621*t)%2147483629
def LN(c t:Int)(e:0<=t)(d:t<=100000):BS [.int c,.int t]=Y (.int (Eg c t)):=by
 have a:=cE ((c%2147483647+t*t*7919+104729)*48271) (show (2147483647:Int)≠0 by decide);have b:=bX ((c%2147483647+t*t*7919+104729)*48271) (show (0:Int)<2147483647 by decide);unfold BS Ml Eg;walk_at "v";rw[mK (by decide),Fe ⟨by omega,by omega⟩];walk_at "v";rw[Fe ⟨by decide,by decide⟩];walk_at "v";rw[Fe ⟨by decide,by decide⟩];walk_at "v";rw[mK (by decide)];walk_at "v";rw[Fe (j:=(c%2147483647+t*t*7919+104729)*48271%2147483647) ⟨by omega,by omega⟩,Fe (j:=t) ⟨by omega,by omega⟩];walk_at "v";rw[mK (by decide)];rfl
def Oq(c t:Int):0<=Eg c t/\Eg c t<2147483629:=⟨cE _ ſ,bX _ ſ⟩
def zy{a:List Int}{j:Nat}{d:D}(h:(a.map D.int)[j]?=Y d):∃c,a[j]?=Y c/\d=.int c:=by
 rw[aF]at h;obtain⟨c,e,h⟩:=ah.1 h;rw[e];cases h;exact⟨c,rfl,rfl⟩
def Dz(a:List Int)(n:Nat)(v:Int):(a.map D.int).set n (.int v)=(a.set n v).map D.int:=by rw[oA]
def zV(ns:List Int)(U8:ns.length<=63)(kG most:Int)(t0:0<=kG)(t1:kG<=1000)(m0:1<=most)(m1:most<=100):∃xs:List Int,jC [.mH ns,.int kG,.int most]=Y (xs.map D.int)/\1<=xs.length/\(xs.length:Int)<=most:=by
 have hcl:(AN ns M (Y 63)).length<=63:=bq (Sq _ _ _) U8;generalize XQ:AN ns M (Y 63)++[kG]=cs;have abv:1<=cs.length:=by rw[<- XQ];simp
 have abu:cs.length<=64:=by rw[<- XQ];simp;omega
 have e1:fA (.lst ((AN ns M (Y 63)).map D.int)) (.lst [.int kG])=Y (.lst (cs.map D.int)):=by simp only[fA];rw[if_pos (by simp[kO];omega),<- XQ];simp
 obtain⟨c0,ec0⟩:=wc (xs:=cs) (z:=0) ſ ž;unfold jC Cy;walk_at "v";rw[e1];walk_at "v";rw[ec0];walk_at "v";rw[tj ⟨by decide,by decide⟩];walk_at "v";rw[mK (by decide)];walk_at "v";by_cases hb:(c0/50000%2==1)=Z'
 ·rw[hb];walk_at "v";have hz:(cs.map D.int).length<=dU:=by simp[kO];omega
  rw[if_pos hz];rw[L2.qc (h:=λd=>match d with|.int i =>.int (i/100000)|d=>d) (λd hd=>by obtain⟨i,_,rfl⟩:=cR.mp hd;exact⟨_,rfl,by walk_at "v";rw[tj ⟨by decide,by decide⟩]⟩)]
  have el:(cs.map D.int).map (λd=>match d with|.int i =>.int (i/100000)|d=>d)=(cs.map (· / 100000)).map D.int:=by simp
  rw[el];walk_at "v";rw[if_pos (show -(2 ^ 62)<=kG+most+1/\kG+most+1<2 ^ 62 from⟨by omega,by omega⟩)];walk_at "v";have XM:(cs.map (· / 100000)).length=cs.length:=by simp
  obtain⟨ρ',ef,⟨fs,ls,v6,v7,rfl,RN,Zl⟩⟩:=td (τ:=gN 6) (g:=xo) (ds:=mm 0 (kG+most+1).toNat) (λi ρ=>∃(fs ls:List Int) (v6 v7:Option D),ρ=[Y (.mH ns),Y (.int kG),Y (.int most),Y (.lst (cs.map D.int)),Y (.lst (fs.map D.int)),Y (.lst (ls.map D.int)),v6,v7,M,M,M]/\fs.length=i/\ls.length=cs.length)
   (ρ:=[Y (.mH ns),Y (.int kG),Y (.int most),Y (.lst (cs.map D.int)),Y (.lst []),Y (.lst ((cs.map (· / 100000)).map D.int)),M,M,M,M,M]) ⟨[],cs.map (· / 100000),M,M,rfl,rfl,XM⟩ (by
   rintro j d ρ hd ⟨fs,ls,v6,v7,rfl,RN,Zl⟩;obtain⟨hj,rfl⟩:=DJ hd;have U9:(0:Int)<(ls.length:Int):=by omega
   have k0:=cE (0+(j:Int)) (show (ls.length:Int)≠0 by omega);have k1:=bX (0+(j:Int)) U9;obtain⟨v,ev⟩:=wc (xs:=ls) k0 k1;refine⟨_,[Y (.mH ns),Y (.int kG),Y (.int most),Y (.lst (cs.map D.int)),Y (.lst ((fs++[v%2147483587]).map D.int)),Y (.lst ((ls.set ((0+(j:Int))%(ls.length:Int)).toNat (v/2147483587)).map D.int)),Y (.int (0+(j:Int))),Y (.int ((0+(j:Int))%(ls.length:Int))),M,M,M],rfl,?_,⟨_,_,_,_,rfl,by simp[RN],by simp[Zl]⟩⟩;unfold xo;walk_at "v";rw[aq,mK U9];walk_at "v";rw[ev];walk_at "v";rw[mK (by decide)];walk_at "v";rw[if_pos (by rw[aq,kO];omega)];walk_at "v";rw[ev];walk_at "v";rw[tj ⟨by decide,by decide⟩];walk_at "v";rw[aq,OE k0 k1];walk_at "v";rw[Dz];simp)
  rw[ef];walk_at "v";rw[EM _ t0,<- List.map_drop];have hl:(fs.drop kG.toNat).length=most.toNat+1:=by rw[Fj,RN,qx];omega
  obtain⟨v,ev⟩:=wc (xs:=fs.drop kG.toNat) (z:=most) ž (by rw[hl];omega);rw[ev];walk_at "v";rw[mK (by omega)];walk_at "v";have k0:=cE v (show most≠0 by omega);have k1:=bX v (show 0<most by omega);rw[MN _ (by omega),<- uq];refine⟨_,rfl,?_⟩;rw[vf,hl,wq (by omega)];exact⟨ž,ž⟩
 ·have Qa:(c0/50000%2==1)=false:=by simpa using hb
  rw[Qa];walk_at "v";obtain⟨ρ',ef,⟨num,v6,v9,rfl,hn0,hn1⟩⟩:=td (τ:=Cz 6 9) (g:=xn) (ds:=xP (cs.map D.int)) (λi ρ=>∃(num:Int) (v6 v9:Option D),ρ=[Y (.mH ns),Y (.int kG),Y (.int most),Y (.lst (cs.map D.int)),Y (.lst []),M,v6,M,Y (.int num),v9,M]/\0<=num/\num<2147483629)
   (ρ:=[Y (.mH ns),Y (.int kG),Y (.int most),Y (.lst (cs.map D.int)),Y (.lst []),M,M,M,Y (.int 0),M,M]) ⟨0,M,M,rfl,ſ,ſ⟩ (by
   rintro j d ρ hd ⟨num,v6,v9,rfl,hn0,hn1⟩;obtain⟨x,hx,rfl⟩:=w8 hd;obtain⟨c,hc,rfl⟩:=zy hx;have hj:j<cs.length:=(af.mp hc).1;refine⟨_,[Y (.mH ns),Y (.int kG),Y (.int most),Y (.lst (cs.map D.int)),Y (.lst []),M,Y (.int j),M,Y (.int ((num*31+Eg c ((j:Int)+kG))%2147483629)),Y (.int c),M],rfl,?_,⟨_,_,_,rfl,cE _ ſ,bX _ ſ⟩⟩;unfold xn;walk_at "v";rw[Fe ⟨by decide,by decide⟩];walk_at "v";rw[LN _ _ (by omega) (by omega)];walk_at "v";rw[mK (by decide)];walk_at "v")
  rw[ef];walk_at "v";rw[tj ⟨by decide,by decide⟩];walk_at "v";rw[mK (by omega)];walk_at "v";have k0:=cE (num/1009) (show most≠0 by omega);have k1:=bX (num/1009) (show 0<most by omega);rw[if_pos (show -(2 ^ 62)<=1+num/1009%most/\1+num/1009%most<2 ^ 62 from⟨by omega,by omega⟩)];walk_at "v";obtain⟨ρ',ef,⟨fs,v6,Yz,rfl,RN⟩⟩:=td (τ:=gN 6) (g:=xm) (ds:=mm 0 (1+num/1009%most).toNat) (λi ρ=>∃(fs:List Int) (YI Yz:Option D),ρ=[Y (.mH ns),Y (.int kG),Y (.int most),Y (.lst (cs.map D.int)),Y (.lst (fs.map D.int)),M,YI,M,Y (.int num),v9,Yz]/\fs.length=i)
   (ρ:=[Y (.mH ns),Y (.int kG),Y (.int most),Y (.lst (cs.map D.int)),Y (.lst []),M,v6,M,Y (.int num),v9,M]) ⟨[],v6,M,rfl,rfl⟩ (by
   rintro j d ρ hd ⟨fs,YI,Yz,rfl,RN⟩;obtain⟨hj,rfl⟩:=DJ hd;have U9:(0:Int)<(cs.length:Int):=by omega
   have q0:=cE (0+(j:Int)) (show (cs.length:Int)≠0 by omega);have q1:=bX (0+(j:Int)) U9;obtain⟨v,ev⟩:=wc (xs:=cs) q0 q1;have r0:=cE num (show (1009:Int)≠0 by decide);have r1:=bX num (show (0:Int)<1009 by decide);have mz:=Oq v (num%1009+(0+(j:Int))+kG);refine⟨_,[Y (.mH ns),Y (.int kG),Y (.int most),Y (.lst (cs.map D.int)),Y (.lst ((fs++[(Eg v (num%1009+(0+(j:Int))+kG)*Eg v (num%1009+(0+(j:Int))+kG)+7*(0+(j:Int)))%2147483587]).map D.int)),M,Y (.int (0+(j:Int))),M,Y (.int num),v9,Y (.int (Eg v (num%1009+(0+(j:Int))+kG)))],rfl,?_,⟨_,_,_,rfl,by simp[RN]⟩⟩;unfold xm;walk_at "v";rw[aq,mK U9];walk_at "v";rw[ev];walk_at "v";rw[mK (by decide)];walk_at "v";rw[LN _ _ (by omega) (by omega)];walk_at "v";rw[Fe ⟨by omega,by omega⟩];walk_at "v";rw[SM ⟨by decide,by decide⟩];walk_at "v";rw[mK (by decide)];walk_at "v";rw[if_pos (by rw[aq,kO];omega)];simp)
  rw[ef];walk_at "v";rw[qx]at RN;exact⟨fs,rfl,ž,ž⟩
def WO{x:aM}(a:x.length<=dU):(match D.str x with|.str x=>if x.length<=dU then Y (D.str (lG x l h)) else M|_=>M)=Y (.str (lG x l h)):=by simp[a]
def Xm{x:aM}(h:x.length<=dU):gr [.str x]=Y (.int x.length):=by simp[gr,h]
def VB{x y:aM}(h:x.length+y.length<=dU):fA (.str x) (.str y)=Y (.str (x++y)):=by simp[fA,h]
def LL(j:List Int)(l:j.length<=63):∃f:List aM,we [.mH j]=Y (.lst (f.map D.str))/\f.length=5:=by
 obtain⟨xs,q,v,u⟩:=zV j l 40 1 ſ ſ ſ ſ;obtain⟨c,r⟩:=wc (xs:=xs) (z:=0) ſ ž;have h:(ae "abcdefabcde").length<=dU:=by decide +kernel
 have m:(ae "abcdefabcde").length<=11:=by decide +kernel
 have o:(ae "mnopq").cps.all (· < 128)=true:=by decide +kernel
 have g:(ae "mnopq").cps.toList.length=5:=by decide +kernel
 unfold we Cw;walk_at "v";rw[q];walk_at "v";rw[r];walk_at "v";rw[mK (by decide)];walk_at "v";rw[if_pos h];walk_at "v";have k:=Kf (ae "abcdefabcde") M (Y (c%12));generalize lG (ae "abcdefabcde") M (Y (c%12))=a at k;have e:a.length<=dU:=by rw[kO];omega
 rw[tj ⟨by decide,by decide⟩,Xm e];walk_at "v";rw[mK (by omega)];walk_at "v";generalize c/12%((a.length:Int)+1)=b;rw[if_pos o];walk_at "v";rw[if_pos (by simp[uI,g,kO])];rw[L2.qc (h:=λd=>match d with|.str z =>.str ((lG a M (Y b)++z)++lG a (Y b) M)|d=>d) (λd p=>by
  obtain⟨i,_,rfl⟩:=cR.mp p;refine⟨_,rfl,?_⟩;have t:=Kf a M (Y b);have s:=Kf a (Y b) M;have n:(⟨#[i]⟩:aM).length=1:=rfl;walk_at "v";rw[if_pos e];walk_at "v";rw[VB (by rw[n,kO];omega)];walk_at "v";rw[if_pos e];walk_at "v";rw[VB (by
   have:(lG a M (Y b)++(⟨#[i]⟩:aM)).length=(lG a M (Y b)).length+1:=by show ((lG a M (Y b)).cps ++ #[i]).size=_;simp;rfl
   rw[this,kO];omega)])]
 walk_at "v";refine⟨(ae "mnopq").cps.toList.map λi=>(lG a M (Y b)++⟨#[i]⟩)++lG a (Y b) M,?_,by rw[aq];exact g⟩;simp[uI]
noncomputable abbrev xI:aM:=ae "open"
noncomputable abbrev xH:aM:=ae "text"
noncomputable abbrev sR:aM:=ae "close"
def Af(s:D):Prop:=(∃x,s=.tup [.str xI,.str x])\/(∃x,s=.tup [.str xH,.str x])\/s=.tup [.str sR]
def Af.ok{s:D}(h:Af s)(n:Nat):jN s (n+1)=true:=by
 rcases h with⟨x,rfl⟩|⟨x,rfl⟩|rfl<;>simp[jN,mR]
def FV(h:∀s∈a,Af s)(n:Nat):mR a (n+1)=true:=by
 induction a with
 |nil=>simp[mR]|cons s a ih=>simp only[mR,(h s au).ok n,ih λs b=>h s (ao _ b),Nc]
noncomputable def nQ:Nat×Bool->wd->Option (Nat×Bool)
 |(d,b),.op _=>if 0<d\/b=Z_ then Y (d+1,Z') else M
 |(d,b),.tx _=>if 0<d then Y (d,b) else M
 |(d,b),.cl=>if 0<d then Y (d-1,b) else M
noncomputable def B5:List wd->Nat×Bool->Option (Nat×Bool)
 |[],z=>Y z|g::a,z=>(nQ z g).bind (B5 a)
theorem tV(g:wd):∀(a:List wd) (z:Nat×Bool),B5 (a++[g]) z=(B5 a z).bind λb=>nQ b g
 |[],z=>by show (nQ z g).bind (B5 [])=nQ z g;cases nQ z g<;>rfl
 | t::a,z=>by
  show (nQ z t).bind (B5 (a++[g]))=((nQ z t).bind (B5 a)).bind _;cases nQ z t with
  |none=>rfl|some b=>exact tV g a b
structure SG(ss:List D)(ZR:Int):Prop where
 sg:∀s∈ss,Af s
 ex:∃gs d b,ss=gs.map cS/\B5 gs (0,false)=some (d,b)/\ZR=(d:Nat)/\(gs=[]->b=false)
def SG.nil:SG [] 0:=⟨λs h=>(by cases h),[],0,Z_,rfl,rfl,rfl,λ_=>rfl⟩
def SG.open{f:List D}{a:Int}(h:SG f a)(x:aM)(e:f=[]\/0<a):SG (f++[.tup [.str xI,.str x]]) (a+1):=by
 obtain⟨i,d,b,g,k,l,j⟩:=h.ex;refine⟨λs c =>?_,i++[.op x],d+1,Z',by rw[g,bG];rfl,?_,ž,λh=>by simp at h⟩
 ·rcases aV.mp c with c|c
  ·exact h.sg s c
  ·exact .inl ⟨x,bK.mp c⟩
 ·rw[tV,k];show (if 0<d\/b=Z_ then _ else _)=_;rw[if_pos];rcases e with e|e
  ·exact .inr (j (by rw[e]at g;cases i with|nil=>rfl|cons=>cases g))
  ·exact .inl ž
def SG.text(h:SG e a)(x:aM)(k:0<a):SG (e++[.tup [.str xH,.str x]]) a:=by
 obtain⟨f,d,b,j,i,g,l⟩:=h.ex;refine⟨λs c =>?_,f++[.tx x],d,b,by rw[j,bG];rfl,?_,g,λh=>by simp at h⟩
 ·rcases aV.mp c with c|c
  ·exact h.sg s c
  ·exact .inr (.inl ⟨x,bK.mp c⟩)
 ·rw[tV,i];show (if 0<d then _ else _)=_;rw[if_pos (by omega)]
def SG.close(h:SG e a)(j:0<a):SG (e++[.tup [.str sR]]) (a-1):=by
 obtain⟨f,d,b,i,g,l,k⟩:=h.ex;refine⟨λs c =>?_,f++[.cl],d-1,b,by rw[i,bG];rfl,?_,ž,λh=>by simp at h⟩
 ·rcases aV.mp c with c|c
  ·exact h.sg s c
  ·exact .inr (.inr (bK.mp c))
 ·rw[tV,g];show (if 0<d then _ else _)=_;rw[if_pos (by omega)]
def Vl{a:List D}(h:∀s∈a,Af s):fR (.lst a) (.lst [])=Y (.bl a.isEmpty):=by
 have:jN (.lst a) 180=true:=by simp only[jN];rw[show 180-1=178+1 by rfl,FV h];rfl
 simp only[fR];rw[if_pos (by rw[this];rfl)];cases a<;>rfl
def FG: DG := (aZ Ix
      (dR IN
       (aZ UF
        (dh 4 (e2 fA Sc Fa)))
       (dR Ð
         dL
         (dR lv
           (aZ (p' 3 (fF (aC Tk aN)))
            (dh 4 (e2 nY Sc Fa)))
           cH))))
def zY:xl=aZ (dh 8 Ñ) (aZ (dR (dD (e2 fR Rs u8)) (dh 5 (e2 iR bi Uf)) cH) FG):=rfl
theorem AY{a0:D}{nms txs:List aM}{k:List D}{lean j c:Int}{v9:Option D}(K:nms.length=5)(J:txs.length=5)(l:SG k a)(L:k.length<=i)(N:i<=1000)(n:0<=lean/\lean<3)(O:0<=j):
  ∃g f m,FG [Y a0,Y (.lst (nms.map D.str)),Y (.lst (txs.map D.str)),Y (.lst k),Y (.int a),Y (.int lean),Y (.int j),Y (.int c),Y (.int c),v9] =
   Y (.nx [Y a0,Y (.lst (nms.map D.str)),Y (.lst (txs.map D.str)),Y (.lst g),Y (.int f),Y (.int lean),Y (.int j),Y (.int c),Y (.int c),m])/\SG g f/\g.length<=i+1:=by
 have q:=cE (c/7%11) (show (5:Int)≠0 by decide);have I:=bX (c/7%11) (show (0:Int)<5 by decide);have p:=cE (c/7) (show (5:Int)≠0 by decide);have H:=bX (c/7) (show (0:Int)<5 by decide);obtain⟨r,z,_⟩:=yG (xs:=nms) q ž;obtain⟨o,y,_⟩:=yG (xs:=txs) p ž;have d:k.length<dU:=by rw[kO];omega
 unfold FG;walk_at "v";rw[mK (by decide)];walk_at "v";rw[SM ⟨by omega,by omega⟩];walk_at "v";rw[Fe ⟨by decide,by decide⟩];walk_at "v";rw[mK (by decide)];walk_at "v";rw[Vl l.sg];walk_at "v";generalize (c+lean*(j%2)*5)%7=e;have u:∃b,(if k.isEmpty=Z' then Y Z' else if decide (e<3)=Z' then Y (decide (0<a)) else Y Z_)=Y b/\(b=Z'->k=[]\/0<a):=by
  split
  ·rename_i h;exact⟨Z',rfl,λ_ =>.inl (by simpa using h)⟩
  ·split
   ·exact⟨_,rfl,λh =>.inr (of_decide_eq_true h)⟩
   ·exact⟨Z_,rfl,λh=>by cases h⟩
 obtain⟨G,C,x⟩:=u;rw[C];cases G with
 |true=>walk_at "v";rw[tj ⟨by decide,by decide⟩];walk_at "v";rw[mK (by decide)];walk_at "v";rw[mK (by decide)];walk_at "v";rw[z];walk_at "v";rw[if_pos d];walk_at "v";exact⟨_,_,_,rfl,l.open r (x rfl),by simp;omega⟩
 |false=>
  walk_at "v";have t:∃b,(if decide (e<5)=Z' then Y (decide (0<a)) else Y Z_)=Y b/\(b=Z'->0<a):=by
   split
   ·exact⟨_,rfl,λh=>of_decide_eq_true h⟩
   ·exact⟨Z_,rfl,λh=>by cases h⟩
  obtain⟨F,B,w⟩:=t;rw[B];cases F with
  |true=>walk_at "v";rw[tj ⟨by decide,by decide⟩];walk_at "v";rw[mK (by decide)];walk_at "v";rw[y];walk_at "v";rw[if_pos d];exact⟨_,_,_,rfl,l.text o (w rfl),by simp;omega⟩
  |false=>
   walk_at "v";rw[tj ⟨by decide,by decide⟩];walk_at "v";rw[mK (by decide)];walk_at "v";have s:∃b,(if decide (1<a)=Z' then Y Z' else if (a==1)=Z' then Y (c/7%6==0) else Y Z_)=Y b/\(b=Z'->0<a):=by
    split
    ·rename_i h;exact⟨Z',rfl,λ_=>by have:=of_decide_eq_true h;omega⟩
    ·split
     ·rename_i h;exact⟨_,rfl,λ_=>by have:=eq_of_beq h;omega⟩
     ·exact⟨Z_,rfl,λh=>by cases h⟩
   obtain⟨E,A,v⟩:=s;rw[A];cases E with
   |true=>walk_at "v";rw[if_pos d];walk_at "v";exact⟨_,_,_,rfl,l.close (v rfl),by simp;omega⟩
   |false=>walk_at "v";exact⟨_,_,_,rfl,l,ž⟩
def K3(k:List Int)(f:List aM)(O:k.length<=500)(G:f.length=5):∃h b,t5 [.lst (k.map D.int),.lst (f.map D.str)]=Y h/\SG h b/\h.length<=k.length:=by
 unfold t5 Cu;walk_at "v";have B:([ae "x",ae "",ae "y x",ae "\"",ae "[a]"]:List aM).length=5:=rfl;have K:[D.str (ae "x"),D.str (ae ""),D.str (ae "y x"),D.str (ae "\""),D.str (ae "[a]")]=([ae "x",ae "",ae "y x",ae "\"",ae "[a]"]:List aM).map D.str:=rfl;rw[K];generalize ([ae "x",ae "",ae "y x",ae "\"",ae "[a]"]:List aM)=l at B;obtain⟨H,L,⟨h,b,a,z,y,w,q,rfl,v,s,_⟩⟩:=td (τ:=Cz 6 7) (g:=xl) (ds:=xP (k.map D.int)) (λi C=>∃(h:List D) (b a:Int) (z y w q:Option D),C=[Y (.lst (k.map D.int)),Y (.lst (f.map D.str)),Y (.lst (l.map D.str)),Y (.lst h),Y (.int b),Y (.int a),z,y,w,q]/\SG h b/\h.length<=i/\(0<=a/\a<3))
  (ρ:=[Y (.lst (k.map D.int)),Y (.lst (f.map D.str)),Y (.lst (l.map D.str)),Y (.lst []),Y (.int 0),Y (.int 0),M,M,M,M]) ⟨[],0,0,M,M,M,M,rfl,SG.nil,aH _,ſ,ſ⟩ (by
  rintro j d C I ⟨h,b,a,z,y,w,q,rfl,v,s,r⟩;obtain⟨x,A,rfl⟩:=w8 I;obtain⟨c,J,rfl⟩:=zy A;have N:j<k.length:=(af.mp J).1;have F:=cE (c/7) (show (3:Int)≠0 by decide);have E:=bX (c/7) (show (0:Int)<3 by decide);by_cases u:((j:Int)==0)=Z'
  ·obtain⟨n,g,m,e,o,p⟩:=AY (a0 :=.lst (k.map D.int)) (nms:=f) (txs:=l) (lean:=c/7%3) (j:=(j:Int)) (c:=c) (v9:=q) G B v s ž ⟨F,E⟩ ž;refine⟨_,_,rfl,?_,⟨n,g,c/7%3,Y (.int j),Y (.int c),Y (.int c),m,rfl,o,p,F,E⟩⟩;rw[zY];walk_at "v";rw[u];walk_at "v";rw[tj ⟨by decide,by decide⟩];walk_at "v";rw[mK (by decide)];walk_at "v";exact e
  ·have t:((j:Int)==0)=false:=by simpa using u
   obtain⟨n,g,m,e,o,p⟩:=AY (a0 :=.lst (k.map D.int)) (nms:=f) (txs:=l) (lean:=a) (j:=(j:Int)) (c:=c) (v9:=q) G B v s ž r ž;refine⟨_,_,rfl,?_,⟨n,g,a,Y (.int j),Y (.int c),Y (.int c),m,rfl,o,p,r⟩⟩;rw[zY];walk_at "v";rw[t];walk_at "v";exact e)
 rw[L];walk_at "v";rw[w6,aq]at s;exact⟨h,b,rfl,v,s⟩
def JE(a:List Int)(n:Nat):mR (a.map D.int) n=true:=by
 induction a with|nil=>rfl|cons x a ih=>simp only[aI,mR,jN,ih,Nc]
def R0(a:List Int):fR (.lst (a.map D.int)) (.lst [])=Y (.bl a.isEmpty):=by
 simp only[fR];rw[if_pos (by rw[O3 (JE a 179)];rfl)];cases a<;>rfl
noncomputable def uL(a:List Int):Int:=a.getLastD 0
def F5(a:List Int):xS [.lst (a.map D.int)]=Y (.int (uL a),a.dropLast.map D.int):=by
 unfold xS Mj Az;have t:dD (e2 fR (eV 0) (eF (gi aN))) [Y (.lst (a.map D.int))]=Y a.isEmpty:=by walk_at "v";rw[R0];walk_at "v"
 rw[if_pos (show [D.lst (a.map D.int)].length=1 from rfl)];show (aZ _ _ [Y (.lst (a.map D.int))]).bind (Od 0)=_;rcases List.eq_nil_or_concat a with rfl|⟨b,x,rfl⟩
 ·have e:dR (dD (e2 fR db wf)) (dM (mP u8)) cH [Y (.lst (([]:List Int).map D.int))]=Y (.rm (.int 0) [Y (.lst [])]):=by rw[Ui t];rfl
  simp only[aZ,e,ab];rfl
 ·have e:dR (dD (e2 fR db wf)) (dM (mP u8)) cH [Y (.lst ((b.concat x).map D.int))]=Y (.nx [Y (.lst ((b.concat x).map D.int))]):=by rw[Uj (by rw[t];simp)];rfl
  rw[NM e];simp only[dM,Ot];walk_at "v";simp[Od,jl,eV,uL]
theorem L3{ρ:cO}{τ:Fc}{fe:DM}{i0:Nat}{Pr:D->Prop}:∀ {ds:List D}(e:List Int),(∀d∈ds,∀e:List Int,∃(c:cO) (x:D) (b:cO) (a:List Int),τ d (ρ.set i0 (Y (.lst (e.map D.int))))=Y c/\fe c=Y (x,b)/\jl i0 b=Y (a.map D.int)/\Pr x)->∃f a,Oz ρ τ fe i0 ds (e.map D.int)=Y (f,ve D.int a)/\f.length=ds.length/\∀x∈f,Pr x
 |[],e,_=>⟨[],e,rfl,rfl,λx h=>by cases h⟩
 | d::ds,e,h=>by
  obtain⟨c,x,b,g,q,p,o,j⟩:=h d au e;obtain⟨f,a,n,l,k⟩:=L3 (ds:=ds) g λd m=>h d (ao _ m)
  refine⟨x::f,a,?_,by simp[l],λy i =>?_⟩
  ·simp only[Oz,q,ab,p,o,n,bI]
  ·rcases aE.mp i with rfl|i
   ·exact j
   ·exact k y i
noncomputable abbrev qA(xs:List Int)(a:List aM)(b:Int):List D:=[.lst (xs.map D.int),.int b,.lst (a.map D.str)]
def AV(Fw Fs:List D->Option (D×List D))(n:Nat)(dp:Int)(hdp:dp=n)(nms:List aM)
  (hs:∀m,n=m+1->∀xs:List Int,∃(iA:List (aM×aM×D)) (xs':List Int),Fs (qA xs nms (dp-1))=Y (.lst (iA.map cj),xs'.map D.int)/\1<=iA.length/\iA.length<=3/\∀p∈iA,fN (m+1) p.2.2)
  (hw:∀m,n=m+1->∀xs:List Int,∃(w:D) (xs':List Int),Fw (qA xs nms (dp-1))=Y (w,xs'.map D.int)/\fN (m+1) w)
  (xs:List Int):∃(w:D) (xs':List Int),Az 3 5 0 (Ct Fw Fs) (qA xs nms dp)=Y (w,xs'.map D.int)/\fN (n+1) w:=by
 have q0:=cE (uL xs) (show (8:Int)≠0 by decide);have q1:=bX (uL xs) (show (0:Int)<8 by decide);have e8:iR (.int (uL xs)) (.int 8)=Y (.int (uL xs%8)):=mK ſ;have f8:kz (.int (uL xs)) (.int 8)=Y (.int (uL xs/8)):=tj ⟨ſ,ſ⟩;have Md:=F5 xs;generalize uL xs=num at *
 generalize num%8=kd at *
 generalize num/8=nd at *
 unfold Ct;walk_at "v";rw[Md];walk_at "v";rw[e8];walk_at "v";by_cases k1:kd<2\/(dp=0/\2<kd)
 ·have:(if decide (kd<2)=Z' then Y Z' else if (dp==0)=Z' then Y (decide (2<kd)) else Y Z_)=Y true:=by
   by_cases a:kd<2
   ·rw[decide_eq_true a];rfl
   ·rw[decide_eq_false a];rcases k1 with z|⟨z,z'⟩
    ·exact absurd z a
    ·rw[z,decide_eq_true z'];rfl
  rw[this];walk_at "v";exact⟨_,xs.dropLast,rfl,.inl rfl⟩
 ·have:(if decide (kd<2)=Z' then Y Z' else if (dp==0)=Z' then Y (decide (2<kd)) else Y Z_)=Y false:=by
   have a:¬kd<2:=λz=>k1 (.inl z)
   rw[decide_eq_false a];by_cases b:dp=0
   ·have c:¬2<kd:=λz=>k1 (.inr ⟨b,z⟩)
    rw[decide_eq_false c,b];rfl
   ·rw[show (dp==0)=Z_ by simp[b]];rfl
  rw[this];walk_at "v";by_cases k2:kd=2
  ·rw[show (kd==2)=Z' by simp[k2]];walk_at "v";rw[f8];walk_at "v";rw[mK (by decide)];walk_at "v";have r0:=cE nd (show (5:Int)≠0 by decide);have r1:=bX nd (show (0:Int)<5 by decide);obtain⟨tx,et,_⟩:=yG (xs:=[ae "x",ae "",ae "y x",ae "\"",ae "[a]"]) (z:=nd%5) r0 r1;rw[show oi [D.str (ae "x"),D.str (ae ""),D.str (ae "y x"),D.str (ae "\""),D.str (ae "[a]")] (nd%5)=Y (.str tx) from et];walk_at "v";exact⟨_,xs.dropLast,rfl,.inr (.inl ⟨tx,rfl⟩)⟩
  ·rw[show (kd==2)=Z_ by simp[k2]];walk_at "v";obtain⟨m,hm⟩:∃m,n=m+1:=by
    cases n with
    |zero=>exact absurd (.inr ⟨by rw[hdp];rfl,by have:=λz=>k1 (.inl z);omega⟩) k1
    |succ m=>exact⟨m,rfl⟩
   subst hm;by_cases k5:kd<5
   ·rw[decide_eq_true k5];walk_at "v";obtain⟨iA,xs',es,l0,l1,U5⟩:=hs m rfl xs.dropLast;simp only[qA]at es;rw[es];walk_at "v";exact⟨_,xs',rfl,.inr (.inr (.inl ⟨iA,rfl,by intro h;rw[h]at l0;simp at l0,l1,U5⟩))⟩
   ·rw[decide_eq_false k5];walk_at "v";by_cases k6:kd=5
    ·rw[show (kd==5)=Z' by simp[k6]];walk_at "v";exact⟨_,xs.dropLast,rfl,.inr (.inr (.inl ⟨[(ae "own",ae "*",.tup [kS "any"])],rfl,Ž,Ž,λp hp=>by rw[bK.mp hp];exact .inl rfl⟩))⟩
    ·rw[show (kd==5)=Z_ by simp[k6]];walk_at "v";obtain⟨kn,ek,hk⟩:∃kn:aM,oi [D.str (ae "both"),D.str (ae "one")] (kd-6)=Y (.str kn)/\(kn=ae "both" \/kn=ae "one"):=by
      have:kd=6\/kd=7:=by have:=λz=>k1 (.inl z);omega
      rcases this with rfl|rfl
      ·exact⟨_,rfl,.inl rfl⟩
      ·exact⟨_,rfl,.inr rfl⟩
     rw[ek];walk_at "v";rw[f8];walk_at "v";rw[mK (by decide)];walk_at "v";have r0:=cE nd (show (4:Int)≠0 by decide);have r1:=bX nd (show (0:Int)<4 by decide);generalize nd%4=mn at *
     have XD : -(2 ^ 62)<=mn/\mn<2 ^ 62:=⟨wm ſ r0,rQ r1 ſ⟩;rw[if_pos XD];walk_at "v";have hz:(mm 0 mn.toNat).length<=dU:=by rw[qx,kO];omega
     rw[if_pos hz];obtain⟨ws,xs',el,hl,Zd⟩:=L3 (ρ:=[M,Y (.lst (xs.dropLast.map D.int)),Y (.lst (nms.map D.str)),Y (.int dp)]) (τ:=gN 0) (fe:=uy Fw 1 (aC (e2 nY (eV 3) (eK (.int 1))) (aC (eV 2) aN))) (i0:=1) (Pr:=fN (m+1)) (ds:=mm 0 mn.toNat) xs.dropLast λd _ ys=>by obtain⟨w,YF,ew,Xu⟩:=hw m rfl ys;simp only[qA]at ew;refine⟨_,w,[Y d,Y (.lst (YF.map D.int)),Y (.lst (nms.map D.str)),Y (.int dp)],YF,rfl,?_,rfl,Xu⟩;walk_at "v";rw[ew];walk_at "v"
     rw[el];walk_at "v";rw[qx]at hl;refine⟨_,xs',rfl,?_⟩;rcases hk with rfl|rfl
     ·exact .inr (.inr (.inr (.inl ⟨ws,rfl,ž,Zd⟩)))
     ·exact .inr (.inr (.inr (.inr ⟨ws,rfl,ž,Zd⟩)))
def FI(Fw Fs:List D->Option (D×List D))(n:Nat)(dp:Int)(nms:List aM)(hn:nms.length=5)
  (hw:∀xs:List Int,∃(w:D) (xs':List Int),Fw (qA xs nms dp)=Y (w,xs'.map D.int)/\fN (n+1) w)
  (xs:List Int):∃(iA:List (aM×aM×D)) (xs':List Int),Az 3 7 0 (yu Fw Fs) (qA xs nms dp)=Y (.lst (iA.map cj),xs'.map D.int)/\1<=iA.length/\iA.length<=3/\∀p∈iA,fN (n+1) p.2.2:=by
 have r0:=cE (uL xs) (show (3:Int)≠0 by decide);have r1:=bX (uL xs) (show (0:Int)<3 by decide);have e4:iR (.int (uL xs)) (.int 3)=Y (.int (uL xs%3)):=mK ſ;have Md:=F5 xs;generalize uL xs=num at *
 generalize num%3=md at *
 have XD : -(2 ^ 62)<=1+md/\1+md<2 ^ 62:=⟨wm ſ (show (0:Int)<=1+md by omega),AR (show 1+md<=3 by omega) ſ⟩;unfold yu;walk_at "v";rw[Md];walk_at "v";rw[e4];walk_at "v";rw[if_pos XD];walk_at "v";obtain⟨ρ',ef,ys,iA,v4,v5,v6,rfl,hl,U5⟩:=td (τ:=gN 4) (g:=xk Fw Fs) (ds:=mm 0 (1+md).toNat) (λi ρ=>∃(ys:List Int) (iA:List (aM×aM×D)) (v4 v5 v6:Option D),ρ=[Y (.lst (ys.map D.int)),Y (.int dp),Y (.lst (nms.map D.str)),Y (.lst (iA.map cj)),v4,v5,v6]/\iA.length=i/\∀p∈iA,fN (n+1) p.2.2)
  (ρ:=[Y (.lst (xs.dropLast.map D.int)),Y (.int dp),Y (.lst (nms.map D.str)),Y (.lst []),M,M,M]) ⟨xs.dropLast,[],M,M,M,rfl,rfl,λs h=>(by cases h)⟩ (by
  rintro j d ρ hd ⟨ys,iA,v4,v5,v6,rfl,hl,U5⟩;have hj:j<(1+md).toNat:=by have:=(af.mp hd).1;rw[qx]at this;exact this
  have Md:=F5 ys;generalize uL ys=num at *
  obtain⟨w,zs,ew,Xu⟩:=hw ys.dropLast;simp only[qA]at ew;have t0:=cE (num/2) (show (7:Int)≠0 by decide);have t1:=bX (num/2) (show (0:Int)<7 by decide);obtain⟨nm,en,_⟩:=yG (xs:=nms.take 4++[ae "*",ae "*",ae "*"]) (z:=num/2%7) t0 (by simp[hn];omega);rw[bG]at en;obtain⟨wy,ey⟩:∃wy:aM,oi [D.str (ae "own"),D.str (ae "inner")] (num%2)=Y (.str wy):=by
   have:num%2=0\/num%2=1:=by omega
   rcases this with z|z
   ·rw[z];exact⟨_,rfl⟩
   ·rw[z];exact⟨_,rfl⟩
  refine⟨_,[Y (.lst (zs.map D.int)),Y (.int dp),Y (.lst (nms.map D.str)),Y (.lst ((iA++[(wy,nm,w)]).map cj)),Y d,Y (.int num),Y (.str nm)],rfl,?_,zs,iA++[(wy,nm,w)],Y d,Y (.int num),Y (.str nm),rfl,by simp[hl],λs hs =>?_⟩
  ·unfold xk;walk_at "v";rw[Md];walk_at "v";rw[tj ⟨by decide,by decide⟩];walk_at "v";rw[MN _ (by decide),<- uq];have XW:fA (.lst ((nms.take (4:Int).toNat).map D.str)) (.lst [.str (ae "*"),.str (ae "*"),.str (ae "*")])=Y (.lst ((nms.take 4).map D.str++[.str (ae "*"),.str (ae "*"),.str (ae "*")])):=by simp only[fA];rw[if_pos (by simp[kO];omega)];rfl
   rw[XW];walk_at "v";rw[mK (by decide)];walk_at "v";rw[show oi ((nms.take 4).map D.str++[D.str (ae "*"),D.str (ae "*"),D.str (ae "*")]) (num/2%7)=Y (.str nm) from en];walk_at "v";rw[mK (by decide)];walk_at "v";rw[ey];walk_at "v";rw[ew];walk_at "v";rw[if_pos (by rw[kO,aq];omega),bG];rfl
  ·rcases aV.mp hs with hs|hs
   ·exact U5 s hs
   ·rw[bK.mp hs];exact Xu)
 rw[ef];walk_at "v";rw[qx]at hl;exact⟨iA,ys,rfl,ž,ž,U5⟩
end K21
namespace K21
open PySem L2
theorem Au(c:List aM)(q:c.length=5):∀(n:Nat),
  (∀(a:Nat) (e:List Int),2*n+1<=a->∃(w:D) (b:List Int),hV a (qA e c (n:Int))=Y (w,b.map D.int)/\fN (n+1) w) /\
  (∀(a:Nat) (e:List Int),2*n+2<=a->∃(d:List (aM×aM×D)) (b:List Int),hW a (qA e c (n:Int))=Y (.lst (d.map cj),b.map D.int)/\1<=d.length/\d.length<=3/\∀p∈d,fN (n+1) p.2.2):=by
 intro n;have i:∀(k:Nat),(∀(a:Nat) (e:List Int),2*k+1<=a->∃(w:D) (b:List Int),hV a (qA e c (k:Int))=Y (w,b.map D.int)/\fN (k+1) w)->(∀(a:Nat) (e:List Int),2*k+2<=a->∃(d:List (aM×aM×D)) (b:List Int),hW a (qA e c (k:Int))=Y (.lst (d.map cj),b.map D.int)/\1<=d.length/\d.length<=3/\∀p∈d,fN (k+1) p.2.2):=by
  intro k r a e l;cases a with
  |zero=>omega|succ f=>rw[hW];exact FI (hV f) (hW f) k (k:Int) c q (λg=>r f g ž) e
 induction n with
 |zero=>
  have j:∀(a:Nat) (e:List Int),2*0+1<=a->∃(w:D) (b:List Int),hV a (qA e c ((0:Nat):Int))=Y (w,b.map D.int)/\fN (0+1) w:=by
   intro a e l;cases a with
   |zero=>omega|succ f=>rw[hV];exact AV (hV f) (hW f) 0 _ rfl c (λm h=>by cases h) (λm h=>by cases h) e
  exact⟨j,i 0 j⟩
 |succ m ih=>
  have j:∀(a:Nat) (e:List Int),2*(m+1)+1<=a->∃(w:D) (b:List Int),hV a (qA e c ((m+1:Nat):Int))=Y (w,b.map D.int)/\fN (m+1+1) w:=by
   intro a e l;cases a with
   |zero=>omega|succ f=>
    rw[hV];have o:((m+1:Nat):Int)-1=(m:Int):=by omega
    refine AV (hV f) (hW f) (m+1) _ rfl c (λk h =>?_) (λk h =>?_) e
    ·cases h;rw[o];exact λg=>ih.2 f g ž
    ·cases h;rw[o];exact λg=>ih.1 f g ž
  exact⟨j,i (m+1) j⟩
def J2{F:List D->Option (D×List D)}(f:g a=Y b)(e:h a=Y c)(d:F (.lst b::c)=Y r):rF F g h a=Y r.1:=by
 unfold rF;rw[f,e];simp only[ab,d];rfl
def DR(c:List Int)(f:c.length<=63)(b:List aM)(g:b.length=5):∃a:List (aM×aM×D),rF t2 (pR jC wn) (aC Uf wl) [Y (.mH c),Y (.lst (b.map D.str)),M,M,M,M,M,M,M]=Y (.lst (a.map cj))/\1<=a.length/\a.length<=3/\∀p∈a,fN 4 p.2.2:=by
 obtain⟨e,k,_⟩:=zV c f 100 12 ſ ſ ſ ſ;obtain⟨a,d,l,j,i,h⟩:=(Au b g 3).2 12 e ſ;refine⟨a,?_,j,i,h⟩;have n:pR jC wn [Y (.mH c),Y (.lst (b.map D.str)),M,M,M,M,M,M,M]=Y (e.map D.int):=(show _=jC [.mH c,.int 100,.int 12] from rfl).trans k;have m:t2 [.lst (e.map D.int),.int 3,.lst (b.map D.str)]=Y (.lst (a.map cj),d.map D.int):=l;exact J2 n rfl m
structure Pe(fit:Int->Int->Int)(r:iq):Prop where
 sm:Sm 63 r.fits
 ft:Le r.fits (fit r.named r.atoms)
structure Lax(inner:Int)(pr r:iq):Prop where
 re:Le r.bo (De inner pr.bo pr.ra r.fits)
 ra:Le r.ra (bO pr.ra r.bo)
structure KR(fit:Int->Int->Int)(inner:Int)(rows:List iq):Prop where
 rl:∀(i:Nat) (r:iq),rows[i+1]?=some r->Pe fit r
 ch:∀(i:Nat) (p r:iq),rows[i]?=some p->rows[i+1]?=some r->Lax inner p r
structure Kp(fit:Int->Int->Int)(inner:Int)(rows K_:List iq):Prop where
 nu:K_.map (·.number)=rows.map (·.number)
 re:K_.map (·.bo)=rows.map (·.bo)
 kr:KR fit inner rows->KR fit inner K_
section
variable {f:C5}{v:Int}
def Kp.trans(h:Kp n a o A)(g:Kp n a A G):Kp n a o G:=⟨g.nu.trans h.nu,g.re.trans h.re,λz=>g.kr (h.kr z)⟩
def Kp.set{i:Nat}{r r':iq}(h:o[i]?=Y r)(k:r'.number=r.number)(d:r'.bo=r.bo)(f:r'.ra=r.ra)(g:Pe n r->Pe n r'/\Le r.fits r'.fits):Kp n a o (o.set i r'):=by
 refine⟨?_,?_,λK=>⟨λj s e =>?_,λj p s b c =>?_⟩⟩
 ·rw[oA,k];exact gB (by rw[aF,h];rfl)
 ·rw[oA,d];exact gB (by rw[aF,h];rfl)
 ·by_cases z:i=j+1
  ·subst z;rw[bC (af.mp h).1]at e;cases e;exact(g (K.rl j r h)).1
  ·rw[aj z]at e;exact K.rl j s e
 ·by_cases z:i=j+1
  ·subst z;rw[bC (af.mp h).1]at c;cases c;rw[aj (by omega)]at b;have L:=K.ch j p r b h;refine⟨?_,by rw[d,f];exact L.ra⟩;rw[d];exact λi e=>Qb (λ_ h=>h) (λ_ h=>h) (g (K.rl j r h)).2 i (L.re i e)
  ·rw[aj z]at c;by_cases y:i=j
   ·subst y;rw[bC (af.mp h).1]at b;cases b;have L:=K.ch i r s h c;exact⟨by rw[d,f];exact L.re,by rw[f];exact L.ra⟩
   ·rw[aj y]at b;exact K.ch j p s b c
def Kp.atoms(W:FW f v n B C E){i:Nat}{r:iq}(h:o[i]?=Y r)(x:Int):Kp n a o (o.set i { r with atoms:=bO r.atoms x }):=
 .set h rfl rfl rfl λL=>⟨⟨L.sm,λi e=>W.mono _ _ _ (LY _ _) i (L.ft i e)⟩,λ_ h=>h⟩
theorem FQ(W:FW f v n B C E):∀(p:Nat) (b:Bool) (o:List iq),Kp n a o (Ax n B b p o)
 |0,b,o=>by cases b<;>exact⟨rfl,rfl,id⟩
 |p+1,Z_,o=>⟨rfl,rfl,id⟩| p+1,Z',o=>by
  unfold Ax;split
  ·rename_i r c e d;refine .trans (.trans (.set (r':={ r with fits:=n r.named r.atoms }) e rfl rfl rfl λL=>⟨⟨W.sm _ _,λ_ h=>h⟩,L.ft⟩) (.atoms W (r:=c) (i:=p) ?_ _)) (FQ W p _ _);rw[aj (by omega)];exact d
  ·exact⟨rfl,rfl,id⟩
theorem DW(p:b->Bool):∀l:List b,(l.filter p).length+(l.filter λx=> !p x).length=l.length
 |[]=>rfl|x::l=>by have:=DW p l;rw[pI,pI];cases p x<;>simp<;>omega
def Bh(k:Nat)(b:List Int):Nat:=(b.filter λx=> !tz x k).length
def pk(x:Int)(b:List Int):Bh k (x::b)=(if tz x k then 0 else 1)+Bh k b:=by
 unfold Bh;rw[pI];cases tz x k
 ·simp;omega
 ·simp
theorem K4:∀(b:List iq) (p q:iq),Le p.bo q.bo->Le p.ra q.ra->KR n a (p::b) ->
  VF a q b/\KR n a (q::mj a q b)/\(mj a q b).map (·.number)=b.map (·.number)/\(vG a (2 ^ k) q b).length+Bh k ((mj a q b).map (·.bo))<=Bh k (b.map (·.bo))
 |[],p,q,j,f,K=>⟨trivial,⟨λi r e=>(by simp[mj]at e),λi p r _ e=>(by simp[mj]at e)⟩,rfl,aH _⟩
 | r::b,p,q,j,f,K=>by
  have L:=K.ch 0 p r rfl rfl;have R:=K.rl 0 r rfl;have g:Le r.bo (pY a q r).bo:=λi e=>Qb j f (λ_ h=>h) i (L.re i e)
  have x:Le r.ra (pY a q r).ra:=λi e=>LZ f g i (L.ra i e)
  obtain⟨z,l,y,D⟩:=K4 b r (pY a q r) g x ⟨λi s e=>K.rl (i+1) s e,λi s t d c=>K.ch (i+1) s t d c⟩;have s:=(FU (x:=bO q.bo (bA q.ra a)) R.sm);refine⟨⟨by have:=s.1;have:=s.2;omega,z⟩,⟨λi t e =>?_,λi t u d c =>?_⟩,?_,?_⟩
  ·cases i with|zero=>cases e;exact⟨R.sm,R.ft⟩|succ i=>exact l.rl i t e
  ·cases i with
   |zero=>cases d;cases c;exact⟨λ_ h=>h,λ_ h=>h⟩
   |succ i=>exact l.ch i t u d c
  ·show r.number::_=r.number::_;rw[y]
  ·show ((if CB a (2 ^ k) q r then [r.number] else [])++vG a (2 ^ k) (pY a q r) b).length+Bh k ((pY a q r).bo::_)<=Bh k (r.bo::_);rw[pk,pk,aJ];have e:CB a (2 ^ k) q r=(tz (pY a q r).bo k && !tz r.bo k):=by show (bA (bA (pY a q r).bo (bN r.bo)) (2 ^ k) != 0)=_;rw[KC,wD,yM]
   rw[e];have m:=g k;cases h:tz r.bo k with
   |true=>rw[m h];simp;omega|false=>cases tz (pY a q r).bo k<;>simp<;>omega
structure SI(f:C5)(qM:Int)(fit:Int->Int->Int)(c:kT)(nl d:Nat)(b:Bool):Prop where
 ff:c.f=f
 fa:c.qM=qM
 fu:c.full=2 ^ f.q.length
 len:c.rows.length=d+1
 kr:KR fit f.inner c.rows
 pl:∀y∈c.rests,SE c.rows y
 nd:(c.rests.map (·.num)++c.rows.map (·.number)).Nodup
 lt:∀x∈c.rests.map (·.num)++c.rows.map (·.number),x<c.opened
 Th:((nl+c.rests.length+Bh f.q.length (c.rows.map (·.bo)):Nat):Int)<=c.opened+1
 cnt:((c.rests.length+c.rows.length:Nat):Int)<=c.opened+1
 tk:c.opened<=c.taken
 op:b=decide (0<c.opened)
def SI.keep(I:SI f v n c w d b)(K:Kp n f.inner c.rows o):SI f v n { c with rows:=o } w d b:=by
 have g:o.length=c.rows.length:=by have:=congrArg t_ K.nu;simpa using this
 have h:=I.nd;have i:=I.lt;have e:=I.Th;have j:=I.tk;rw[<- K.nu]at h i;rw[<- K.re]at e;exact⟨I.ff,I.fa,I.fu,g.trans I.len,K.kr I.kr,λy k=>by have:=I.pl y k;unfold SE at this ⊢;rw[g];exact this,h,i,e,by show ((_+o.length:Nat):Int)<=_;rw[g];exact I.cnt,j,I.op⟩
def SI.YM(I:SI f v n c w d b):SI f v n (lE c) w d b:=⟨I.ff,I.fa,I.fu,I.len,I.kr,I.pl,I.nd,I.lt,I.Th,I.cnt,by have:=I.tk;show c.opened<=c.taken+1;omega,I.op⟩
def SI.KH(I:SI f v n c w d b)(K:c.opened<=60):∃(q:List Int) (j:kT),dZ [bJ c]=Y (.lst (q.map D.int),bJ j)/\SI f v n j (w+q.length) d b/\j.taken=c.taken/\j.opened=c.opened/\j.rows.map (·.number)=c.rows.map (·.number)/\j.rests.Sublist c.rests/\j.rows.head? = c.rows.head? :=by
 obtain⟨t,g,e⟩:∃t g,c.rows=t::g:=by
  cases h:c.rows with
  |nil=>have:=I.len;rw[h]at this;cases this
  |cons t g=>exact⟨t,g,rfl⟩
 obtain⟨J,H,p,N⟩:=K4 (k:=f.q.length) g t t (λ_ h=>h) (λ_ h=>h) (e ▸ I.kr);have m:=I.cnt;have l:=I.Th;have a:(vG f.inner (2 ^ f.q.length) t g).length<=g.length:=by have:Bh f.q.length (g.map (·.bo))<=g.length:=bq (xA _ _) Ž;omega
 rw[e]at m l;rw[aI,pk]at l;rw[aP]at m;have L:(c.rests.filter (nt (t::mj f.inner t g))).length+(c.rests.filter λr=> !nt (t::mj f.inner t g) r).length=c.rests.length:=DW _ _;have s:=AD (c:=c) e (by rw[I.ff];exact J) I.pl (by rw[I.ff,I.fu,aJ,aq];omega) ž ž;rw[I.ff,I.fu]at s;have k:(t::mj f.inner t g).length=c.rows.length:=by have:=congrArg t_ p;rw[aq,aq]at this;rw[e,aP,aP,this]
 have F:(t::mj f.inner t g).map (·.number)=c.rows.map (·.number):=by rw[e,aI,aI,p]
 have i:((c.rests.filter λr=> !nt (t::mj f.inner t g) r).map (·.num)++(t::mj f.inner t g).map (·.number)).Sublist (c.rests.map (·.num)++c.rows.map (·.number)):=by rw[F];exact((gW).map _).append (jh _)
 refine⟨_,_,s,⟨I.ff,I.fa,I.fu,k.trans I.len,H,λy u =>?_,i.nodup I.nd,λx z=>I.lt x (i.subset z),?_,?_,I.tk,I.op⟩,rfl,rfl,F,gW,by rw[e];rfl⟩
 ·have:=I.pl y (fm.mp u).1;show 0<=y.place/\y.place<(t::mj f.inner t g).length;rw[k];exact this
 ·show ((w+_+(c.rests.filter λr=> !nt (t::mj f.inner t g) r).length+Bh f.q.length (t.bo::(mj f.inner t g).map (·.bo)):Nat):Int)<=c.opened+1;rw[pk,(lO _).length_eq,aJ,aq];omega
 ·show (((c.rests.filter λr=> !nt (t::mj f.inner t g) r).length+(t::mj f.inner t g).length:Nat):Int)<=c.opened+1;rw[k,e,aP];omega
end
section
variable {f:C5}{v:aM->Int}
def HC(h:rows≠[]):∃b r,rows=b++[r]:=⟨rows.dropLast,rows.getLast h,(List.dropLast_concat_getLast h).symm⟩
def Hw(c b:List Int):Bh k (c++b)=Bh k c+Bh k b:=by unfold Bh;rw[List.filter_append,aJ]
def KR.app{r:iq}(K:KR a t rows)(h:Pe a r)(c:r.bo=0)(b:r.ra=0):KR a t (rows++[r]):=by
 have g:∀(i:Nat) (s:iq),(rows++[r])[i]?=Y s->rows[i]?=Y s\/(i=rows.length/\s=r):=λi s e=>by
  rcases Nat.lt_trichotomy i rows.length with z|z|z
  ·rw[b_ z]at e;exact .inl e
  ·subst z;rw[List.getElem?_concat_length]at e;cases e;exact .inr ⟨rfl,rfl⟩
  ·rw[f9 (by rw[aJ,cJ];omega)]at e;cases e
 refine⟨λi s e =>?_,λi p s f d =>?_⟩
 ·rcases g _ s e with z|⟨_,rfl⟩
  ·exact K.rl i s z
  ·exact h
 ·rcases g _ s d with z|⟨z,rfl⟩
  ·rcases g _ p f with y|⟨y,rfl⟩
   ·exact K.ch i p s y z
   ·have:=(af.mp z).1;omega
  ·exact⟨by rw[c];exact Iz _,by rw[b];exact Iz _⟩
def KR.pop(K:KR a t (rows++[r])):KR a t rows:=by
 have g:∀(i:Nat) (s:iq),rows[i]?=Y s->(rows++[r])[i]?=Y s:=λi s e=>by rw[b_ (af.mp e).1];exact e
 exact⟨λi s e=>K.rl i s (g _ s e),λi p s c b=>K.ch i p s (g _ p c) (g _ s b)⟩
def SI.open(W:FW f o a u v w)(I:SI f o a c j d b)(n:Int)(p:iq):SI f o a (Ls a u (lE c) n p) j (d+1) true:=by
 have h:SI f o a { lE c with opened:=c.opened+1,rows:=c.rows++[AL a (lE c) c.opened n 0 p] } j (d+1) true:=by
  have i:=I.Th;have q:=I.cnt;have m:=I.tk;have k:=I.len;have l:(0:Int)<=c.opened:=by omega
  refine⟨I.ff,I.fa,I.fu,?_,I.kr.app ⟨W.sm _ _,λ_ h=>h⟩ rfl rfl,λy g =>?_,?_,λx e =>?_,?_,?_,?_,(decide_eq_true (by show 0<c.opened+1;omega)).symm⟩
  ·show (c.rows++[_]).length=_;rw[aJ,k];rfl
  ·have:=I.pl y g;show 0<=y.place/\y.place<((c.rows++[_]).length:Int);rw[aJ,cJ];unfold SE at this;omega
  ·show (c.rests.map (·.num)++(c.rows++[_]).map iq.number).Nodup;rw[bG,<- bV];refine gO.mpr ⟨I.nd,Ž,λx e y g =>?_⟩;have:=I.lt x e;rw[bK.mp g];show x≠c.opened;omega
  ·have e:x∈c.rests.map (·.num)++(c.rows++[AL a (lE c) c.opened n 0 p]).map (·.number):=e;rw[bG,<- bV]at e;show x<c.opened+1;rcases aV.mp e with z|z
   ·have:=I.lt x z;omega
   ·rw[bK.mp z];show c.opened<c.opened+1;omega
  ·show ((j+c.rests.length+Bh f.q.length ((c.rows++[_]).map iq.bo):Nat):Int)<=c.opened+1+1;rw[bG,Hw];show ((_+(_+Bh _ [0]):Nat):Int)<=_;rw[pk,yk];have i:((j+c.rests.length+Bh f.q.length (c.rows.map iq.bo):Nat):Int)<=c.opened+1:=i;show ((_+(_+(1+0)):Nat):Int)<=_;omega
  ·show ((c.rests.length+(c.rows++[_]).length:Nat):Int)<=c.opened+1+1;rw[aJ,cJ];omega
  ·show c.opened+1<=c.taken+1;omega
 exact h.keep (FQ W _ _ _)
def Gh(c:kT)(p:Nat)(r q:iq)(m:si):(Am c p r q m).num=m.num:=by unfold Am;split<;>rfl
def SI.close(I:SI f o a c j d b)(hd:0<d):∃rs p r,c.rows=rs++[p]++[r]/\((pE (ig c) r).map (·.num)).Nodup/\((pE (ig c) r).length:Int)<=c.opened+1/\SI f o a (AI (lE c) r p) j (d-1) b:=by
 have hl:=I.len;obtain⟨YV,r,e⟩:=HC (rows:=c.rows) (λz=>by rw[z]at hl;simp at hl);have RM:YV.length=d:=by rw[e,aJ,cJ]at hl;omega
 obtain⟨rs,p,rfl⟩:=HC (rows:=YV) (λz=>by rw[z]at RM;simp at RM;omega);have ep:(ig c).rows=rs++[p]:=by show c.rows.dropLast=_;rw[e,lD]
 have hp:=I.Th;have hc:=I.cnt;have ht:=I.tk;have hn:=I.nd;have Me:=I.lt;rw[e,bG]at hn Me;rw[e,bG,Hw]at hp;have hx:Bh f.q.length ([r].map (·.bo))=if tz r.bo f.q.length then 0 else 1:=pk _ _
 rw[hx]at hp;rw[e,aJ,cJ]at hc;have ha:∃X:List si,pE (ig c) r=c.rests++X/\X.length=(if tz r.bo f.q.length then 0 else 1)/\(∀m∈X,m.num=r.number/\m.place=d)/\(X.map (·.num)).Sublist [r.number]:=by
  unfold pE;rw[show (ig c).full=2 ^ f.q.length from I.fu,KC,ep,RM];refine⟨_,rfl,?_⟩;cases tz r.bo f.q.length
  ·exact⟨rfl,λm hm=>by rw[bK.mp hm];exact⟨rfl,rfl⟩,jh _⟩
  ·exact⟨rfl,λm hm=>by simp at hm,List.nil_sublist _⟩
 obtain⟨X,eX,hX,hX2,Zz⟩:=ha;have n1:(((pE (ig c) r).map (·.num))++(rs++[p]).map (·.number)).Nodup:=by rw[eX,bG,bV];refine List.Perm.nodup (List.Perm.append_left _ Qi) (AQ ?_ hn);exact(jh _).append ((jh _).append Zz)
 have l1:∀x∈((pE (ig c) r).map (·.num))++(rs++[p]).map (·.number),x<c.opened:=λx hx=>by
  refine Me x ?_;rw[eX,bG,bV]at hx;rcases aV.mp hx with z|z
  ·exact bb _ z
  ·rcases aV.mp z with z|z
   ·exact aG _ (aG _ (Zz.subset z))
   ·exact aG _ (bb _ z)
 have k1:(pE (ig c) r).length=c.rests.length+if tz r.bo f.q.length then 0 else 1:=by rw[eX,aJ,hX]
 generalize hA:pE (ig c) r=A at n1 l1 k1 eX;have pm:((se A).map (·.num)).Perm (A.map (·.num)):=(mG A).map _;have er:(AI (lE c) r p).rests=((se A).map (Am (ig (lE c)) d r p)).filter pP:=by show ((se (pE (ig c) r)).map (Am (ig (lE c)) (ig c).rows.length r p)).filter pP=_;rw[hA,ep,RM]
 have sb:((AI (lE c) r p).rests.map (·.num)).Sublist ((se A).map (·.num)):=by rw[er];have:=(gW (p:=pP) (l:=(se A).map (Am (ig (lE c)) d r p))).map (·.num);rwa [gj,show ((λx:si=>x.num) ∘ Am (ig (lE c)) d r p)=(·.num) from funext λm=>Gh ..]at this
 have kr:(AI (lE c) r p).rests.length<=A.length:=by have:=sb.length_le;rwa [aq,aq,(mG A).length_eq]at this
 refine⟨rs,p,r,e,by rw[hA];exact(gO.mp n1).1,?_,I.ff,I.fa,I.fu,?_,?_,λy hy =>?_,?_,λx hx =>?_,?_,?_,?_,I.op⟩
 ·rw[hA,k1];split<;>omega
 ·show (ig c).rows.length=_;rw[ep,RM];omega
 ·show KR a f.inner (ig c).rows;rw[ep];exact KR.pop (e ▸ I.kr)
 ·rw[er]at hy;obtain⟨m,hm,rfl⟩:=cR.mp (fm.mp hy).1;have hm:=(mG A).subset hm;have h2:0<=m.place/\m.place<=d:=by
   rw[eX]at hm;rcases aV.mp hm with z|z
   ·have:=I.pl m z;unfold SE at this;omega
   ·rw[(hX2 m z).2];omega
  show 0<=_/\_<((ig c).rows.length:Int);rw[ep,RM];unfold Am;split
  ·show 0<=m.place-1/\m.place-1<_;omega
  ·omega
 ·show (_++(ig c).rows.map (·.number)).Nodup;rw[ep];exact AQ (sb.append (jh _)) (List.Perm.nodup (pm.symm.append_right _) n1)
 ·have hx:x∈(AI (lE c) r p).rests.map (·.num)++(ig c).rows.map (·.number):=hx;rw[ep]at hx;show x<c.opened;exact l1 x ((pm.append_right _).subset ((sb.append (jh _)).subset hx))
 ·show ((j+_+Bh _ ((ig c).rows.map (·.bo)):Nat):Int)<=c.opened+1;rw[ep];omega
 ·show ((_+(ig c).rows.length:Nat):Int)<=c.opened+1;rw[ep,RM];split at k1<;>omega
 ·show c.opened<=c.taken+1;omega
end
variable {f:C5}{m:Nat}
def SI.new:SI f g a ⟨f,2 ^ f.q.length,g,0,0,[xV],[]⟩ 0 0 false:=
 ⟨rfl,rfl,rfl,rfl,⟨λi r e=>(by simp at e),λi p r _ e=>(by simp at e)⟩,λy b=>(by cases b),by show [(-1:Int)].Nodup;decide,λx c=>(by rw[bK.mp c];show (-1:Int)<0;decide),by show ((0+0+Bh _ [1]:Nat):Int)<=0+1;rw[pk];show ((_+(_+0):Nat):Int)<=_;split<;>omega,by show ((0+1:Nat):Int)<=0+1;decide,S8 0,rfl⟩
end K21
namespace K21
open PySem L2
inductive tL (ps:List Int):Int->List Int->Prop
 |nil:tL ps (-1) []
 |snoc {p:Int}{st:List Int}(k:Nat):ps[k]?=some p->p<k->tL ps p st->tL ps k (st++[(k:Int)])
def tL.ext(h:tL a x st)(q:Int):tL (a++[q]) x st:=by
 induction h with
 |nil=>exact .nil|snoc k e l _ ih=>exact .snoc k (by rw[b_ (af.mp e).1];exact e) l ih
def tL.up(h:tL b x st): -1<=x/\x<b.length/\(∀y∈st,0<=y/\y<=x)/\st.Pairwise (· < ·):=by
 induction h with
 |nil=>exact⟨ſ,ž,(λy m=>by cases m),C9⟩
 |@snoc p st k e l _ ih=>
  obtain⟨f,d,a,c⟩:=ih;have:=(af.mp e).1;refine⟨ž,ž,λy m =>?_,List.pairwise_append.mpr ⟨c,List.pairwise_singleton ..,λy m z n =>?_⟩⟩
  ·rcases aV.mp m with m|m
   ·have:=a y m;omega
   ·have:=bK.mp m;omega
  ·have:=a y m;have:=bK.mp n;omega
abbrev kh(r:iq):Int×Int×Int:=(r.number,r.nW,r.bo)
def Gn{o:List iq}{i:Nat}{r r':iq}(h:o[i]?=Y r)(e:kh r'=kh r):(o.set i r').map kh=o.map kh:=by
 rw[oA,e];apply C8;intro j;by_cases z:i=j
 ·subst z;have:=(af.mp h).1;rw[bC (by simpa using this),aF,h];rfl
 ·rw[aj z]
theorem FR(f a:Int->Int->Int):∀(p:Nat) (b:Bool) (o:List iq),(Ax f a b p o).map kh=o.map kh
 |0,b,o=>by cases b<;>rfl
 |p+1,Z_,o=>rfl| p+1,Z',o=>by
  unfold Ax;split
  ·rename_i r c e d;rw[FR f a p];unfold IT;refine(Gn (r:=c) (i:=p) (r':={ c with atoms:=bO c.atoms (a r.named r.atoms) }) ?_ rfl).trans (Gn (r':={ r with fits:=f r.named r.atoms }) e rfl);rw[aj (by omega)];exact d
  ·rfl
structure TI(c:kT)(ps:List Int)(x:Int)(st:List Int):Prop where
 op:c.opened=ps.length
 nu:c.rows.map (·.number) = -1::st
 tp:∃n,(c.rows.map kh).head? = some (n,1,1)
 pa:tL ps x st
 rs:(c.rests.map (·.num)).Pairwise (· < ·)
 nn:∀y∈c.rests.map (·.num),0<=y
def UJ{o q:List iq}(h:o.map kh=q.map kh):o.map (·.number)=q.map (·.number):=by
 have:=congrArg (ve (·.1)) h;rw[gj,gj]at this;exact this
def TI.keep{o:List iq}(T:TI c a x st)(h:o.map kh=c.rows.map kh):TI { c with rows:=o } a x st:=⟨T.op,(UJ h).trans T.nu,by rw[show ({ c with rows:=o }:kT).rows=o from rfl,h];exact T.tp,T.pa,T.rs,T.nn⟩
def TI.KH(T:TI c f x st)(a:j.opened=c.opened)(b:j.rows.map (·.number)=c.rows.map (·.number))(d:j.rests.Sublist c.rests)(e:j.rows.head? = c.rows.head?):TI j f x st:=
 ⟨a.trans T.op,b.trans T.nu,by obtain⟨n,h⟩:=T.tp;rw[List.head?_map]at h;exact⟨n,by rw[List.head?_map,e,h]⟩,T.pa,T.rs.sublist (d.map _),λy m=>T.nn y ((d.map _).subset m)⟩
def TI.open(T:TI c a x st)(n:Int)(p:iq):TI (Ls b d (lE c) n p) (a++[x]) a.length (st++[(a.length:Int)]):=by
 obtain⟨j,i,g,f⟩:=T.pa.up;have h:TI { lE c with opened:=c.opened+1,rows:=c.rows++[AL b (lE c) c.opened n 0 p] } (a++[x]) a.length (st++[(a.length:Int)]):=by
  refine⟨?_,?_,?_,?_,T.rs,T.nn⟩
  ·show c.opened+1=_;rw[T.op];simp
  ·show (c.rows++[_]).map iq.number=_;rw[bG,T.nu];show (-1::st)++[c.opened]=_;rw[T.op];rfl
  ·obtain⟨m,e⟩:=T.tp;refine⟨m,?_⟩;show ((c.rows++[_]).map kh).head? = _;rw[bG];cases q:c.rows.map kh with
   |nil=>rw[q]at e;cases e|cons y l=>rw[q]at e;exact e
  ·exact .snoc a.length Ž ž (T.pa.ext x)
 exact h.keep (FR _ _ _ _ _)
def TI.tk(T:TI c a x st):TI (lE c) a x st:=⟨T.op,T.nu,T.tp,T.pa,T.rs,T.nn⟩
theorem HF(y:si):∀l:List si,(∀z∈l,z.num≠y.num)->(l.map (·.num)).Pairwise (· < ·)->((Cp y l).map (·.num)).Pairwise (· < ·)
 |[],_,_=>by simp[Cp]
 | z::l,h,p=>by
  rw[aI,fw]at p;unfold Cp;split
  ·rename_i g;rw[aI,fw,aI,fw];refine⟨λw m =>?_,p⟩;rcases aE.mp m with rfl|m
   ·exact g
   ·exact rQ g (p.1 w m)
  ·rename_i g;have c:=h z au;rw[aI,fw];refine⟨λw m =>?_,HF y l (λz m=>h z (ao _ m)) p.2⟩;obtain⟨b,a,rfl⟩:=cR.mp m;rcases aE.mp ((wW y l).subset a) with rfl|a
   ·omega
   ·exact p.1 _ (mq a)
theorem Hg:∀l:List si,(l.map (·.num)).Nodup->((se l).map (·.num)).Pairwise (· < ·)
 |[],_ =>.nil|y::l,h=>by rw[aI,m_]at h;refine HF y (se l) (λz m e=>h.1 ?_) (Hg l h.2);rw[<- e];exact mq ((mG l).subset m)
def TI.close{qs:List iq}{p r:iq}(T:TI c ps x st)(e:c.rows=qs++[p]++[r])(hn:((pE (ig c) r).map (·.num)).Nodup):∃y Tg,ps[x.toNat]?=Y y/\0<=x/\st=Tg++[x]/\TI (AI (lE c) r p) ps y Tg:=by
 have nu:=T.nu;rw[e,bG,bG]at nu;have ne:st≠[]:=λz=>by rw[z]at nu;have:=congrArg t_ nu;simp at this
 cases T.pa with
 |nil=>exact absurd rfl ne|@snoc y Tg k g l P=>
  have e2:qs.map iq.number++[p.number] = -1::Tg/\r.number=(k:Int):=by have:(qs.map iq.number++[p].map iq.number)++[r.number]=(-1::Tg)++[(k:Int)]:=nu;have:=List.append_inj' this rfl;exact⟨this.1,by simpa using this.2⟩
  refine⟨y,Tg,by simpa using g,ž,rfl,T.op,?_,?_,P,?_,λz m =>?_⟩
  ·show (c.rows.dropLast).map iq.number=_;rw[e,lD,bG];exact e2.1
  ·obtain⟨n,h⟩:=T.tp;refine⟨n,?_⟩;show ((c.rows.dropLast).map kh).head? = _;rw[e]at h ⊢;rw[lD];cases qs with
   |nil=>exact h|cons a l=>exact h
  ·show ((((se (pE (ig c) r)).map (Am (ig (lE c)) (ig c).rows.length r p)).filter pP).map (·.num)).Pairwise (· < ·);refine xB ((gW).map _) ?_;rw[gj];have:(λm:si=>m.num) ∘ Am (ig (lE c)) (ig c).rows.length r p=(·.num):=funext λm=>Gh ..
   rw[this];exact Hg _ hn
  ·have m:z∈(((se (pE (ig c) r)).map (Am (ig (lE c)) (ig c).rows.length r p)).filter pP).map (·.num):=m;obtain⟨w,m1,rfl⟩:=cR.mp m;obtain⟨v,m2,rfl⟩:=cR.mp (fm.mp m1).1;rw[Gh];have m:=(mG _).subset m2;unfold pE at m;rcases aV.mp m with m|m
   ·exact T.nn _ (mq m)
   ·split at m
    ·cases m
    ·rw[bK.mp m];show 0<=r.number;rw[e2.2];omega
def P6{a:List Int}{x:Int}(h:x<a.length):kA (a,x) (cS (.op n))=Y (a++[x],(a.length:Int)):=by
 unfold kA cS;exact(if_pos rfl).trans (if_pos λ_=>h)
def P5{a:List Int}{x:Int}(h:0<=x)(g:x<a.length):kA (a,x) (cS (.tx n))=Y (a,x):=by
 unfold kA cS;exact(if_neg λz=>YR z.symm).trans (if_pos ⟨rfl,h,g⟩)
def P7{x:Int}(h:0<=x)(e:a[x.toNat]?=Y y):kA (a,x) wr=Y (a,y):=by
 unfold kA;refine(if_pos ⟨rfl,h⟩).trans ?_;rw[e];rfl
def tL.pos(h:tL a x st)(n:st≠[]):0<=x:=by
 cases h with|nil=>exact absurd rfl n|snoc k=>omega
theorem T9(W:FW f g a j l k)(I:SI f g a c m d b)(T:TI c R x st)(V:c.taken<=45)(s:wd){d':Nat}{b':Bool}(n:nQ (d,b) s=Y (d',b')):
  ∃(q:List Int) (o:kT) (Q:List Int) (x':Int) (P:List Int),dQ [bJ c,cS s]=Y (.lst (q.map D.int),bJ o)/\SI f g a o (m+q.length) d' b'/\o.taken=c.taken+1/\kA (R,x) (cS s)=Y (Q,x')/\TI o Q x' P:=by
 have N:=I.len;have A:Pg c.f a j:=by rw[I.ff];exact W.ok
 have z:VN c.f l k:=by rw[I.ff];exact W.st
 have C:=I.tk;have G:=I.cnt;obtain⟨u1,u2,u3,u4⟩:=T.pa.up;have sl:st.length=d:=by have:=congrArg t_ T.nu;rw[aq,N,aP]at this;omega
 have hw:0<d->decide (1<c.rows.length)=true:=λh=>decide_eq_true ž
 have xp:0<d->0<=x:=λh=>T.pa.pos λz=>by rw[z]at sl;simp at sl;omega
 have t:c.rows[c.rows.length-1]?=Y (c.rows[c.rows.length-1]' ž):=aO ž;generalize (c.rows[c.rows.length-1]' ž)=r at t;have E:c.rows.getLast? = Y r:=by rw[Kt];exact t
 cases s with
 |cl=>
  by_cases i:0<d
  ·simp only[nQ,if_pos i,gM,Ar]at n;obtain⟨rfl,rfl⟩:=n;obtain⟨L,p,r,e,K,O,H⟩:=I.close i;obtain⟨y,P,e1,e2,e3,T2⟩:=T.close e K;exact⟨[],_,R,y,P,Gz (hw i) (by rw[e,S5]) (by show c.rows.dropLast.getLast? = _;rw[e,lD,S5]) K ž,H,rfl,P7 e2 e1,T2⟩
  ·simp[nQ,i]at n
 |tx y=>
  by_cases i:0<d
  ·simp only[nQ,if_pos i,gM,Ar]at n;obtain⟨rfl,rfl⟩:=n;have J:SI f g a (z8 a j (lE c) (k y) r) m d b:=by
    unfold z8;split
    ·exact I.YM.keep (.trans (.atoms W (i:=c.rows.length-1) t _) (FQ W _ _ _))
    ·exact I.YM
   have JT:TI (z8 a j (lE c) (k y) r) R x st:=by
    unfold z8;split
    ·exact T.tk.keep ((FR _ _ _ _ _).trans (Gn (i:=c.rows.length-1) t rfl))
    ·exact T.tk
   have w:(z8 a j (lE c) (k y) r).opened=c.opened/\(z8 a j (lE c) (k y) r).taken=c.taken+1:=by unfold z8;split<;>exact⟨rfl,rfl⟩
   obtain⟨q,o,e,v,u,B,X,U,S⟩:=J.KH (by rw[w.1];omega);exact⟨q,o,R,x,st,JL A z (hw i) t ž e,v,by rw[u,w.2],P5 (xp i) u2,JT.KH B X U S⟩
  ·simp[nQ,i]at n
 |op y=>
  by_cases i:0<d\/b=Z_
  ·simp only[nQ,if_pos i,gM,Ar]at n;obtain⟨rfl,rfl⟩:=n;have F:Mh c (.op y)=true:=by
    show (decide (1<c.rows.length) || !decide (0<c.opened))=Z';rcases i with h|h
    ·rw[hw h];rfl
    ·rw[<- I.op,h,Ki,Bool.or_true]
   obtain⟨q,o,e,w,u,B,X,U,S⟩:=(I.open W (l y) r).KH (by show c.opened+1<=60;omega);have v:=FU (x:=bO r.nW (bA r.ha c.f.inner)) (FU (x:=l y) W.qM);rw[<- I.fa]at v;exact⟨q,o,_,_,_,JM A z F E (by have:=v.1;have:=v.2;omega) ž e,w,u,P6 u2,(T.open (l y) r).KH B X U S⟩
  ·simp[nQ,i]at n
def TI.new:TI ⟨f,u,g,0,0,[xV],[]⟩ [] (-1) []:=⟨rfl,rfl,⟨-1,rfl⟩,.nil,.nil,λy m=>by cases m⟩
def jx(c:kT):D :=.ins "Lean" ["coming"] [bJ c]
def NS(r:iq):List Int:=[r.number,r.named,r.atoms]
def QR(m:si):List Int:=[m.num,m.place,m.Z,m.around]
def NO(l:List si):l.map dw=(l.map QR).map tI:=by rw[gj];rfl
def Yf(x:a)(l:List a):AN (x::l) (Y 1) M=l:=by
 show List.take (l.length+1-min 1 (l.length+1)) (List.drop (min 1 (l.length+1)) (x::l))=l;rw[show min 1 (l.length+1)=1 by omega];simp
def SA(c:kT){b:List iq}(h:c.rows=t::b)(k:b.length<=1000):Wq (jx c) (bJ c) c.taken c.opened (b.map NS) (c.rests.map QR):=by
 refine⟨by kernel_rfl,?_,by kernel_rfl,by kernel_rfl,?_⟩
 ·have e:bp "Coming" "rows" Db [Y (jx c),Y (bJ c),M]=Y (.lst (cu t::b.map cu)):=by
   have:bp "Coming" "rows" Db [Y (jx c),Y (bJ c),M]=Y (.lst (c.rows.map cu)):=by kernel_rfl
   rw[this,h];rfl
  have j:CD (bp "Coming" "rows" Db) (pS Fa) pN [Y (jx c),Y (bJ c),M]=Y (b.map cu):=by unfold CD;rw[e];show Y (AN (cu t::b.map cu) _ _)=_;exact congrArg Y (Yf ..)
  have a:iL kw [Y (jx c),Y (bJ c),M]=Y (b.map cu):=by simp only[iL,eF,j,bI,ab]
  unfold Bc lZ;rw[a];show (if (b.map cu).length<=dU then vJ [M] (gN 0) eU _ (b.map cu) else M)=_;rw[if_pos (by rw[aq];exact bq k (by decide)),gj];have:∀l:List iq,vJ [M] (gN 0) eU lm (l.map cu)=Y (l.map (tI ∘ NS)):=λl=>by
   induction l with
   |nil=>rfl|cons r l ih=>rw[aI,vJ,show gN 0 (cu r) [M]=Y [Y (cu r)] from rfl];simp only[ab,eU,if_true];rw[show lm [Y (cu r)]=Y (tI (NS r)) by kernel_rfl,ih];rfl
  exact this b
 ·unfold By;rw[show bp "Coming" "rests" Db [Y (jx c),Y (bJ c),Y (.lst ((b.map NS).map tI))]=Y (.lst (c.rests.map dw)) by kernel_rfl];rw[<- NO];rfl
def J8(n:Nat)(i:Int):iK (n+1) [.int i]=Y (.int i):=by kernel_rfl
theorem BN(n:Nat)(d:D):∀(c a:List Int) (y:Option D),a.length+c.length<=1000->∃f,gD (gN 2) (mS (iK (n+1))) (c.map D.int) [Y d,Y (tI a),y]=Y (.nx [Y d,Y (tI (a++c)),f])
 |[],a,y,_=>⟨y,by rw[cm];rfl⟩
 | m::c,a,y,h=>by
  rw[aP]at h;have b:mS (iK (n+1)) [Y d,Y (tI a),Y (.int m)]=Y (.nx [Y d,Y (tI (a++[m])),Y (.int m)]):=by
   have:∀F:List D->Option D,F [.int m]=Y (.int m)->mS F [Y d,Y (tI a),Y (.int m)]=(Ec (tI a) (.tup [.int m])).map λx =>.nx [Y d,Y x,Y (.int m)]:=λF e=>by
    have g:aC (aQ F sn) aN [Y d,Y (tI a),Y (.int m)]=Y [.int m]:=by show ((F [.int m]).bind λx=>Y [x])=_;rw[e];rfl
    unfold mS dh e2 fF;rw[g];show ((Ec (tI a) (.tup [.int m])).map _)=_;rfl
   rw[this _ (J8 n m)];show (if (a.map D.int).length+1<=dU then Y (D.tup (a.map D.int++[.int m])) else M).map _=_;rw[if_pos (by rw[aq];exact bq (by omega:a.length+1<=1000) (by decide))];show Y (DO.nx [Y d,Y (.tup (a.map D.int++[.int m])),Y (.int m)])=_;unfold tI;rw[bG];rfl
  obtain⟨f,e⟩:=BN n d c (a++[m]) (Y (.int m)) (by simp;omega);refine⟨f,?_⟩;rw[aI,k_ (ρ1:=[Y d,Y (tI a),Y (.int m)]) rfl b,e,bV];rfl
def MV(n:Nat)(m:Int)(a:List Int)(h:a.length<1000):iK (n+2) [tI (m::a)]=Y (tI (m::a)):=by
 show (yw (iK (n+1)) [Y (tI (m::a)),M,M]).bind nN=_;unfold yw;rw[aK (show dR (cF Ev) _ cH [Y (tI (m::a)),M,M]=Y (.nx [Y (tI (m::a)),M,M]) from rfl)];have t:ju (cF (w_ "tuple" db)) (dD (e2 ux (aQ gr bn) u8)) [Y (tI (m::a)),M,M]=Y true:=by show Y (decide ((0:Int)<((m::a).map D.int).length))=Y Z';rw[decide_eq_true (by simp)]
 obtain⟨y,e⟩:=BN n (tI (m::a)) (m::a) [] M (by simp;omega);have b:aZ (dh 1 (fF aN)) (aZ (iu (OH db) (gN 2) (mS (iK (n+1)))) (dX Db)) [Y (tI (m::a)),M,M]=Y (.rt (tI (m::a))):=by rw[aK (show dh 1 (fF aN) [Y (tI (m::a)),M,M]=Y (.nx [Y (tI (m::a)),Y (tI []),M]) from rfl)];rw[aK (show iu (OH db) (gN 2) (mS (iK (n+1))) [Y (tI (m::a)),Y (tI []),M]=_ from e)];rfl
 rw[qW (d:=tI (m::a)) ?_]
 ·rfl
 ·unfold dR;rw[t];exact b
def BO(R:List (List Int))(h:R.length<=1000)(k:∀l∈R,l≠[]/\l.length<1000):px [.lst (R.map tI)]=Y (R.map tI):=by
 show (vU ma [Y (.lst (R.map tI)),M,M]).bind Oc=_;have f:lZ Á [M] (gN 0) eU (aQ ma bn) [Y (.lst (R.map tI)),M,M]=Y (R.map tI):=by
  unfold lZ;show (if (R.map tI).length<=dU then vJ [M] (gN 0) eU (aQ ma bn) (R.map tI) else M)=_;rw[if_pos (by rw[aq];exact bq h (by decide))];have:=qc (c:=[M]) (e:=aQ ma bn) (g:=id) (R.map tI) λd m=>by
   obtain⟨l,a,rfl⟩:=cR.mp m;refine⟨[Y (tI l)],rfl,?_⟩;show ma [tI l]=Y (tI l);have:=k l a;cases l with
   |nil=>exact absurd rfl this.1|cons x l=>exact MV 10 x l (by have:=this.2;simp at this;omega)
  rw[this,List.map_id]
 unfold vU;have:∀G:DG,dR (cF Ev) G cH [Y (.lst (R.map tI)),M,M]=G [Y (.lst (R.map tI)),M,M]:=λG=>rfl
 unfold aZ;rw[this];unfold rV;rw[f];rfl
def UC(d s:D)(b:List D)(x:Int)(n:aM)(h:b.length<1000):nz [Y d,Y s,Y (.lst b),Y (.int x),Y (cS (.op n))]=Y (.nx [Y d,Y s,Y (.lst (b++[.bl Z'])),Y (.int b.length),Y (cS (.op n))]):=by
 unfold nz;have t:∀G E:DG,dR (dD (e2 fR no Ch)) G E [Y d,Y s,Y (.lst b),Y (.int x),Y (cS (.op n))]=G [Y d,Y s,Y (.lst b),Y (.int x),Y (cS (.op n))]:=λG E=>by kernel_rfl
 rw[t];have a:p' 2 Â [Y d,Y s,Y (.lst b),Y (.int x),Y (cS (.op n))]=Y (.nx [Y d,Y s,Y (.lst (b++[.bl Z'])),Y (.int x),Y (cS (.op n))]):=by show (if b.length<dU then _ else M)=_;rw[if_pos (bx h (by decide))];rfl
 rw[aK a];show Y (DO.nx [Y d,Y s,Y (.lst (b++[.bl Z'])),Y (.int (((b++[D.bl Z']).length:Int)-1)),Y (cS (.op n))])=_;rw[show (((b++[D.bl Z']).length:Int)-1)=b.length by simp]
def UA(d s:D)(a:List D)(x:Int)(n:aM):nz [Y d,Y s,Y (.lst a),Y (.int x),Y (cS (.tx n))]=Y (.nx [Y d,Y s,Y (.lst a),Y (.int x),Y (cS (.tx n))]):=by
 kernel_rfl
def UE(s:D)(b:List D)(k:Nat)(h:k<b.length)(e:e2 bP Ã Uf [Y d,Y s,Y (.lst (b.set k (.bl Z_))),Y (.int k),Y wr]=Y (.int p)):nz [Y d,Y s,Y (.lst b),Y (.int k),Y wr]=Y (.nx [Y d,Y s,Y (.lst (b.set k (.bl Z_))),Y (.int p),Y wr]):=by
 unfold nz;have t:∀G E:DG,dR (dD (e2 fR no Ch)) G E [Y d,Y s,Y (.lst b),Y (.int k),Y wr]=E [Y d,Y s,Y (.lst b),Y (.int k),Y wr]:=λG E=>by kernel_rfl
 have u:∀G E:DG,dR (dD (e2 fR no Tk)) G E [Y d,Y s,Y (.lst b),Y (.int k),Y wr]=G [Y d,Y s,Y (.lst b),Y (.int k),Y wr]:=λG E=>by kernel_rfl
 rw[t,u];have a:Ba 2 ge (eK (.bl Z_)) [Y d,Y s,Y (.lst b),Y (.int k),Y wr]=Y (.nx [Y d,Y s,Y (.lst (b.set k (.bl Z_))),Y (.int k),Y wr]):=by
  show ((An b.length (k:Int)).map _)=_;have:An b.length (k:Int)=Y k:=by unfold An;rw[if_pos (by omega),if_pos (by omega)];simp
  rw[this];rfl
 rw[aK a];unfold dh;rw[e];rfl
def tL.inj(h:tL d x st):∀ {a},tL d x a->st=a:=by
 induction h with
 |nil=>
  intro a g;generalize i:(-1:Int)=x at g;cases g with
  |nil=>rfl|snoc k=>omega
 |@snoc p st k e l _ ih=>
  intro a g;generalize i:(k:Int)=x at g;cases g with
  |nil=>omega|@snoc m c f b n j=>
   have:k=f:=by omega
   subst this;rw[e]at b;cases b;rw[ih j]
def Jr{z y:List Int×Int}{s:D}(e:kA z s=Y y):∃q,y.1=z.1++q:=by
 rcases pO e with⟨_,_,_,rfl⟩|⟨_,_,_,_,rfl⟩|⟨_,_,_,_,rfl⟩
 ·exact⟨_,rfl⟩
 ·exact⟨[],Ž⟩
 ·exact⟨[],Ž⟩
theorem En:∀(a:List D) (z y:List Int×Int),sf a z=Y y->∃q,y.1=z.1++q
 |[],z,y,e=>by cases e;exact⟨[],Ž⟩
 |s::a,z,y,e=>by obtain⟨w,b,e⟩:=aa.1 (show (kA z s).bind (sf a)=Y y from e);obtain⟨q,h⟩:=Jr b;obtain⟨r,g⟩:=En a w y e;exact⟨q++r,by rw[g,h,bV]⟩
def Fg(c:List Bool)(a:List Int):Prop:=∀(j:Nat) (b:Bool),c[j]?=Y b->(b=Z'↔(j:Int)∈a)
theorem vC{d s:D}{z:List Int×Int}(C:Wn d z.1)(F:z.1.length<=900):∀(B:List wd) (t:List Int) (x:Int) (A:List Int) (i:List Bool) (y:Option D),tL t x A->i.length=t.length->Fg i A->sf (B.map cS) (t,x)=Y z ->
  ∃o r v,gD (gN 4) nz (B.map cS) [Y d,Y s,Y (.lst (i.map D.bl)),Y (.int x),y]=Y (.nx [Y d,Y s,Y (.lst (o.map D.bl)),Y (.int z.2),v])/\tL z.1 z.2 r/\o.length=z.1.length/\Fg o r
 |[],t,x,A,i,y,P,l,f,e=>by cases e;exact⟨i,A,y,rfl,P,l,f⟩
 | g::B,t,x,A,i,y,P,l,f,e=>by
  obtain⟨w,u,e⟩:=aa.1 (show (kA (t,x) (cS g)).bind (sf (B.map cS))=Y z from e);obtain⟨u1,H,u3,X⟩:=P.up;have pre:=En _ _ _ e;rw[aI];cases g with
  |op n=>
   rw[P6 H]at u;cases u;have O:i.length<1000:=by obtain⟨q,h⟩:=pre;have:=congrArg t_ h;simp at this;omega
   obtain⟨o,r,v,a,b,c⟩:=vC C F B (t++[x]) t.length (A++[(t.length:Int)]) (i++[Z']) (Y (cS (.op n))) (.snoc t.length Ž ž (P.ext x)) (by simp[l]) (λj b h=>by
    by_cases q:j<i.length
    ·rw[b_ q]at h;rw[f j b h,aV];refine⟨.inl,λm=>m.elim id λm =>?_⟩;have:=bK.mp m;omega
    ·have q2:=(af.mp h).1;have:j=i.length:=by simp at q2;omega
     subst this;simp at h;subst h;rw[l];simp) e
   refine⟨o,r,v,?_,b,c⟩;rw[k_ (ρ1:=[Y d,Y s,Y (.lst (i.map D.bl)),Y (.int x),Y (cS (.op n))]) rfl (UC d s (i.map D.bl) x n (by simpa using O))];rw[aq,l,show i.map D.bl++[.bl Z']=(i++[Z']).map D.bl by simp];exact a
  |tx n=>
   have I:0<=x:=by
    rcases pO u with⟨_,k,_⟩|⟨_,_,h,_⟩|⟨_,k,_⟩
    ·injection k with k;injection k with k _;injection k with k;exact absurd k (by decide +kernel)
    ·exact h
    ·injection k with k;injection k with _ k;cases k
   rw[P5 I H]at u;cases u;obtain⟨o,r,v,a,b,c⟩:=vC C F B t x A i (Y (cS (.tx n))) P l f e;refine⟨o,r,v,?_,b,c⟩;rw[k_ (ρ1:=[Y d,Y s,Y (.lst (i.map D.bl)),Y (.int x),Y (cS (.tx n))]) rfl (UA ..)];exact a
  |cl=>
   have I:0<=x:=by
    rcases pO u with⟨_,k,_⟩|⟨_,k,_⟩|⟨_,_,h,_⟩
    ·injection k with k;injection k with _ k;cases k
    ·injection k with k;injection k with _ k;cases k
    ·exact h
   cases P with
   |nil=>omega|@snoc p E k G lk P=>
    rw[P7 (y:=p) (by omega) (by simpa using G)]at u;cases u;have N:=(af.mp G).1;obtain⟨U,T,K,S⟩:=P.up;obtain⟨o,r,v,a,b,c⟩:=vC C F B t p E (i.set k Z_) (Y wr) P (by simp[l]) (λj b h=>by
     by_cases q:k=j
     ·subst q;rw[bC (by omega)]at h;cases h;refine⟨(λz=>by cases z),λm =>?_⟩;have:=K _ m;omega
     ·rw[aj q]at h;rw[f j b h,aV];refine⟨λm=>m.elim id λm =>?_,.inl⟩;have:=bK.mp m;omega) e
    refine⟨o,r,v,?_,b,c⟩;have Q:e2 bP Ã Uf [Y d,Y s,Y (.lst ((i.map D.bl).set k (.bl Z_))),Y (.int k),Y wr]=Y (.int p):=by obtain⟨J,rfl,el,R⟩:=C;obtain⟨q,h⟩:=pre;obtain⟨n,V,L,g⟩:=R k p (by rw[h,b_ N];exact G);have:e2 bP db ge [Y (.lst J),Y s,Y (.lst ((i.map D.bl).set k (.bl Z_))),Y (.int k),Y wr]=Y (.tup [.str n,.lst V,.lst L,.int p]):=(show _=oi J (k:Int) from rfl).trans (gL g);exact(congrArg (·.bind λx=>bP x (.int 3)) this).trans rfl
    rw[k_ (ρ1:=[Y d,Y s,Y (.lst (i.map D.bl)),Y (.int k),Y wr]) rfl (UE s (i.map D.bl) k (by rw[aq];omega) Q)];rw[show (i.map D.bl).set k (.bl Z_)=(i.set k Z_).map D.bl by rw[oA]];exact a
def Oe{d:D}{a:List wd}{ps:List Int}(k:Wn d ps)(i:ps.length<=900)(h:sf (a.map cS) ([],-1)=Y (ps,x))(P:tL ps x st):∃c:List Bool,Ab [d,.lst (a.map cS)]=Y (c.map D.bl)/\c.length=ps.length/\Fg c st:=by
 obtain⟨c,g,y,e,m,l,f⟩:=vC (d:=d) (s :=.lst (a.map cS)) (z:=(ps,x)) k i a [] (-1) [] [] M .nil rfl (λj b h=>by simp at h) h;have:=m.inj P;subst this;refine⟨c,?_,l,f⟩;show (Cv [Y d,Y (.lst (a.map cS)),M,M,M]).bind Oc=_;unfold Cv;rw[aK (show kq 2 Ê [Y d,Y (.lst (a.map cS)),M,M,M]=Y (.nx [Y d,Y (.lst (a.map cS)),Y (.lst []),M,M]) from rfl)];rw[aK (show dh 3 Ý [Y d,Y (.lst (a.map cS)),Y (.lst []),M,M]=Y (.nx [Y d,Y (.lst (a.map cS)),Y (.lst []),Y (.int (-1)),M]) from rfl)];rw[aK (show iu (iL Db) (gN 4) nz [Y d,Y (.lst (a.map cS)),Y (.lst []),Y (.int (-1)),M]=_ from e)];rfl
def F6(n:Nat)(i:Int):gx (n+1) [.int i]=Y (.int 1):=by kernel_rfl
theorem Dt:∀l:List Int,((l.map λ_=>D.int 1).map JG).sum=l.length
 |[]=>rfl|_::l=>by rw[aI,aI,As,Dt l];show (1:Int)+_=_;simp;omega
def Jc(n:Nat)(l:List Int)(h:l.length<=1000):gx (n+2) [tI l]=Y (.int (1+l.length)):=by
 show (vT (gx (n+1)) [Y (tI l)]).bind nN=_;unfold vT;rw[aK (show dR (cF (w_ "bool" db)) _ cH [Y (tI l)]=Y (.nx [Y (tI l)]) from rfl)];rw[aK (show dR Ù _ cH [Y (tI l)]=Y (.nx [Y (tI l)]) from rfl)];rw[aK (show dR Ø _ cH [Y (tI l)]=Y (.nx [Y (tI l)]) from rfl)];have f:lZ (OH db) [M] (gN 0) eU (aQ (gx (n+1)) bn) [Y (tI l)]=Y (l.map λ_=>D.int 1):=by
  unfold lZ;show (if (l.map D.int).length<=dU then vJ [M] (gN 0) eU (aQ (gx (n+1)) bn) (l.map D.int) else M)=_;rw[if_pos (by rw[aq];exact bq h (by decide))];rw[qc (c:=[M]) (e:=aQ (gx (n+1)) bn) (g:=λ_=>D.int 1) (l.map D.int) λd m=>by obtain⟨i,_,rfl⟩:=cR.mp m;exact⟨[Y (.int i)],rfl,F6 n i⟩]
  rw[gj];rfl
 have g:aQ uR (aC (eF (lZ (OH db) [M] (gN 0) eU (aQ (gx (n+1)) bn))) aN) [Y (tI l)]=Y (.int l.length):=by
  have:∀L:DL,L [Y (tI l)]=Y (l.map λ_=>D.int 1)->aQ uR (aC (eF L) aN) [Y (tI l)]=uR [.lst (l.map λ_=>D.int 1)]:=λL e=>by unfold aQ aC eF;rw[e];rfl
  rw[this _ f];unfold uR;show (if (l.map λ_=>D.int 1).all Tj=Z'/\(l.map λ_=>D.int 1).length<=1000 then _ else M)=_;rw[if_pos ⟨cx.mpr λd m=>by obtain⟨_,_,rfl⟩:=cR.mp m;rfl,by simpa using h⟩,Dt]
 unfold dX e2;rw[g];rfl
def La{R:List (List Int)}{j:List Int}{c n:Int}{k:Nat}{l:List Int}(B:R[k]?=Y (n::l))(A:j[k]?=Y n)(J:l.length<=6)(I:8<=c)(y:Option D):
  wb [Y (.lst (R.map tI)),Y (.lst (j.map .int)),Y (.int c),Y (.int k),y]=Y (.nx [Y (.lst (R.map tI)),Y (.lst (j.map .int)),Y (.int c),Y (.int k),Y (tI (n::l))]):=by
 unfold wb;have G:Ã [Y (.lst (R.map tI)),Y (.lst (j.map .int)),Y (.int c),Y (.int k),y]=Y (tI (n::l)):=(show _=oi (R.map tI) (k:Int) from rfl).trans (gL (by rw[aF,B];rfl));rw[aK (show dh 4 Ã [Y (.lst (R.map tI)),Y (.lst (j.map .int)),Y (.int c),Y (.int k),y]=Y (.nx [Y (.lst (R.map tI)),Y (.lst (j.map .int)),Y (.int c),Y (.int k),Y (tI (n::l))]) by unfold dh;rw[G];rfl)];generalize i:[Y (D.lst (R.map tI)),Y (.lst (j.map .int)),Y (.int c),Y (.int k),Y (tI (n::l))]=d;have H:eV 4 d=Y (tI (n::l)):=by rw[<- i];rfl
 have x:eT (cF à) d=Y false:=by rw[<- i];rfl
 have z:∀m:Int,m≠0->dD (λ_=>fR (.int m) (.int 0)) d=Y false:=λm h=>by show (fR (.int m) (.int 0)).bind _=_;unfold fR;rw[if_pos (by rfl),BC];simp[h]
 have w:dD ä d=Y false:=by
  have:dD ä d=dD (λ_=>fR (.int ((n::l).map D.int).length) (.int 0)) d:=by rw[<- i];rfl
  rw[this];exact z _ (by simp;omega)
 have q:e2 bP Sc u8 d=Y (.int n):=by rw[<- i];exact(show _=oi ((n::l).map D.int) ((0:Nat):Int) from rfl).trans (gL rfl)
 have v:eT (cF (aQ l' (aC no aN))) d=Y false:=by
  have:∀f:DF,f d=Y (.int n)->eT (cF (aQ l' (aC f aN))) d=Y false:=λf e=>by
   have E:aQ l' (aC f aN) d=Y (.bl Z'):=by unfold aQ aC;rw[e];show l' [.int n]=_;kernel_rfl
   unfold eT cF;rw[E];rfl
  exact this _ q
 have u:dD (e2 uj no (e2 bP Db ge)) d=Y false:=by
  have F:e2 bP Db ge d=Y (.int n):=by rw[<- i];exact(show _=oi (j.map D.int) (k:Int) from rfl).trans (gL (by rw[aF,A];rfl))
  have:∀f g:DF,f d=Y (.int n)->g d=Y (.int n)->dD (e2 uj f g) d=dD (λ_=>uj (.int n) (.int n)) d:=λf g C p=>by unfold dD e2;rw[C,p];rfl
  rw[this _ _ q F];show (uj (.int n) (.int n)).bind _=_;unfold uj;rw[if_pos (by rfl),BC];simp
 have t:jY (eT (cF à)) Ps d=Y false:=by
  have o:∀f g:DT,f d=Y Z_->g d=Y Z_->jY f g d=Y false:=λf g a b=>by unfold jY;rw[a];exact b
  exact o _ _ x (o _ _ w (o _ _ v u))
 rw[aK (show dR _ _ cH d=Y (.nx d) by unfold dR;rw[t];rfl)];have q1:aQ tH xz d=Y (.int (1+(n::l).length)):=by rw[<- i];exact Jc 10 (n::l) (by simp;omega)
 have s:dD (e2 ux (e2 nY (aQ tH xz) Fa) pc) d=Y false:=by
  have r:pc d=Y (.int c):=by rw[<- i];rfl
  have:∀f:DF,f d=Y (.int (1+(n::l).length))->dD (e2 ux (e2 nY f Fa) pc) d=Y (decide (c<1+((n::l).length:Int)-1)):=λf e=>by
   unfold dD;have:e2 ux (e2 nY f Fa) pc d=Y (.bl (decide (c<1+((n::l).length:Int)-1))):=by unfold e2;rw[e,r];rfl
   rw[this];rfl
  rw[this _ q1,decide_eq_false (by simp;omega)]
 show dR _ _ cH d=Y (.nx d);unfold dR;rw[s];rfl
def Gs{f:DF}(e:f a=Y (.int j))(h : -(2 ^ 62)<=j/\j<2 ^ 62):JF f a=Y (mm 0 j.toNat):=by
 simp only[JF,e,ab];rw[if_pos h]
theorem Hm{R:List (List Int)}{b:List Int}{a:Int}(h:∀(k:Nat) r,R[k]?=Y r->∃n l,r=n::l/\b[k]?=Y n/\l.length<=6)(j:8<=a):∀(c:List Nat) (x y:Option D),(∀k∈c,k<R.length)->∃f d,gD (gN 3) wb (c.map λ(k:Nat)=>D.int (0+(k:Int))) [Y (.lst (R.map tI)),Y (.lst (b.map .int)),Y (.int a),x,y]=Y (.nx [Y (.lst (R.map tI)),Y (.lst (b.map .int)),Y (.int a),f,d])
 |[],x,y,_=>⟨x,y,rfl⟩| k::c,x,y,g=>by
  have i:=g k au;obtain⟨n,l,e,o,p⟩:=h k _ (aO i);obtain⟨f,d,ih⟩:=Hm h j c (Y (.int k)) (Y (tI (n::l))) λk m=>g k (ao _ m)
  refine⟨f,d,?_⟩;rw[aI,show (0+(k:Int))=k by omega];rw[k_ (ρ1:=[Y (.lst (R.map tI)),Y (.lst (b.map .int)),Y (.int a),Y (.int k),y]) rfl (La (by rw[aO i,e]) o p j y)];exact ih
def K'{R:List (List Int)}{b:List Int}(h:∀(k:Nat) r,R[k]?=Y r->∃n l,r=n::l/\b[k]?=Y n/\l.length<=6)(c:R.length=b.length)(d:8<=a)(j:b.length<=1000):xR [.lst (R.map tI),.lst (b.map .int),.int a]=Y (.bl Z'):=by
 show (IB [Y (.lst (R.map tI)),Y (.lst (b.map .int)),Y (.int a),M,M]).bind nN=_;unfold IB;have t:jY (eT (cF Ev)) (dD (e2 uj (aQ gr bn) (aQ gr wl))) [Y (.lst (R.map tI)),Y (.lst (b.map .int)),Y (.int a),M,M]=Y false:=by show dD (λ_=>uj (.int (R.map tI).length) (.int (b.map D.int).length)) []=Y Z_;show (uj (.int (R.map tI).length) (.int (b.map D.int).length)).bind _=_;unfold uj;rw[if_pos (by rfl),BC,aq,aq,c];simp
 rw[aK (show dR _ _ cH _=Y (.nx [Y (.lst (R.map tI)),Y (.lst (b.map .int)),Y (.int a),M,M]) by unfold dR;rw[t];rfl)];obtain⟨g,e,f⟩:=Hm h d (bY b.length) M M λk m=>by rw[c];exact yj.mp m
 have i:JF (aQ gr wl) [Y (.lst (R.map tI)),Y (.lst (b.map .int)),Y (.int a),M,M]=Y (mm 0 b.length):=by have:=Gs (f:=aQ gr wl) (a:=[Y (.lst (R.map tI)),Y (.lst (b.map .int)),Y (.int a),M,M]) (j:=((b.map D.int).length:Int)) rfl (by rw[aq];omega);rw[this,aq];simp
 rw[aK (show iu (JF (aQ gr wl)) (gN 3) wb [Y (.lst (R.map tI)),Y (.lst (b.map .int)),Y (.int a),M,M]=_ by unfold iu;rw[i];exact f)];rfl
theorem Fx:∀ {a b:List Int},a.Pairwise (· < ·)->b.Pairwise (· < ·)->(∀x,x∈a↔x∈b)->a=b
 |[],[],_,_,_=>rfl|[],y::b,_,_,h=>by have:=(h y).2 au;cases this
 |x::a,[],_,_,h=>by have:=(h x).1 au;cases this
 | x::a,y::b,p,q,h=>by
  rw[fw]at p q;have e:x=y:=by
   rcases aE.mp ((h x).1 au) with e|e
   ·exact e
   ·rcases aE.mp ((h y).2 au) with g|g
    ·exact g.symm
    ·have:=q.1 x e;have:=p.1 y g;omega
  subst e;rw[Fx p.2 q.2 λz =>?_];constructor
  ·intro m;rcases aE.mp ((h z).1 (ao _ m)) with e|e
   ·have:=p.1 z m;omega
   ·exact e
  ·intro m;rcases aE.mp ((h z).2 (ao _ m)) with e|e
   ·have:=q.1 z m;omega
   ·exact e
theorem yr(p:Int->Bool):∀l:List Int,(∀y∈l,∃a,gN 0 (.int y) b=Y a/\u a=Y (p y)/\eV 0 a=Y (.int y))->vJ b (gN 0) u db (l.map D.int)=Y ((l.filter p).map D.int)
 |[],_=>rfl| y::l,h=>by
  obtain⟨a,e,c,d⟩:=h y au;rw[aI,vJ,e];simp only[ab,c];rw[pI];cases q:p y with
  |true=>simp only[if_true,d,ab];rw[yr p l λy m=>h y (ao _ m)];rfl
  |false=>simp only[eB,if_false];exact yr p l λy m=>h y (ao _ m)
def Qc{a:List Bool}{b:List Int}(d:Fg a b){y:Int}(f:0<=y)(g:y<a.length):e2 bP Db db [Y (.int y),Y (.lst (a.map D.bl))]=Y (.bl (decide (y∈b))):=by
 obtain⟨k,rfl⟩:=dk f;have c:k<a.length:=by omega
 have e:(a.map D.bl)[k]?=Y (.bl a[k]):=by rw[aF,aO c];rfl
 refine(show _=oi (a.map D.bl) (k:Int) from rfl).trans ((gL e).trans ?_);have:=d k _ (aO c)
 congr 2
 cases q:a[k] with
 |true=>exact(decide_eq_true (this.1 q)).symm|false=>exact(decide_eq_false λm=>by rw[this.2 m]at q;cases q).symm
def Vk{a:List Bool}{b:List Int}{c:List D}(t:Fg a b)(p:b.Pairwise (· < ·))(q:∀y∈b,0<=y/\y<a.length)(u:c.length=a.length)(s:a.length<=900)(n j g e d:Option D):
  f7 [n,j,g,e,d,Y (.lst c),Y (.lst (a.map D.bl)),M,M,M]=Y (b.map D.int):=by
 unfold f7 lZ;have i:=Gs (f:=aQ gr è) (a:=[n,j,g,e,d,Y (.lst c),Y (.lst (a.map D.bl)),M,M,M]) (j:=(c.length:Int)) rfl ž;have r:mm 0 (c.length:Int).toNat=((bY a.length).map λ(k:Nat)=>(k:Int)).map D.int:=by unfold mm;rw[gP,u,gj];exact congrArg (λf=>ve f (bY a.length)) (funext λk=>by show D.int (0+(k:Int))=D.int k;rw[Int.zero_add])
 rw[i,r];show (if (((bY a.length).map λ(k:Nat)=>(k:Int)).map D.int).length<=dU then vJ [M,Y (.lst (a.map D.bl))] (gN 0) (cF (e2 bP Db db)) db (((bY a.length).map λ(k:Nat)=>(k:Int)).map D.int) else M)=_;rw[if_pos (by simp only[aq,List.length_range];exact bq s (by decide))];rw[yr (λy=>decide (y∈b)) _ λy m=>by obtain⟨k,o,rfl⟩:=cR.mp m;have:=yj.mp o;refine⟨[Y (.int k),Y (.lst (a.map D.bl))],rfl,?_,rfl⟩;unfold cF;rw[Qc t (by omega) (by omega)];rfl]
 refine congrArg (λl=>Y (ve D.int l)) (Fx ?_ p λy =>?_)
 ·refine xB gW ?_;rw[List.pairwise_map];exact List.pairwise_lt_range.imp λh=>by omega
 ·rw[fm,cR,decide_eq_true_eq];refine⟨λh=>h.2,λh=>⟨?_,h⟩⟩;have:=q y h;exact⟨y.toNat,yj.mpr ž,ž⟩
def Vj{b:List Bool}{c a d:List Int}(f:Fg b c)(hw:∀y∈a,0<=y/\y<b.length)(e:a.length<=900)(g:a.filter (λy=> !decide (y∈c))=d)(n l k j i h:Option D):
  f8 [n,l,Y (.lst (a.map D.int)),k,j,i,Y (.lst (b.map D.bl)),h,M,M]=Y (d.map D.int):=by
 unfold f8 lZ;show (if (a.map D.int).length<=dU then vJ [M,Y (.lst (b.map D.bl))] (gN 0) (eT (cF (e2 bP Db db))) db (a.map D.int) else M)=_;rw[if_pos (by rw[aq];exact bq e (by decide))];rw[yr (λy=> !decide (y∈c)) _ λy m=>by have:=hw y m;refine⟨[Y (.int y),Y (.lst (b.map D.bl))],rfl,?_,rfl⟩;unfold eT cF;rw[Qc f this.1 this.2];rfl,g]
def Pb{R S:List (List Int)}(h:Wq d c i j R S):kF [d]=Y (Bw i j R S):=by
 show (mX [Y d,M,M]).bind nN=_;unfold mX;rw[aK (show dh 1 (bp "Lean" "coming" db) [Y d,M,M]=Y (.nx [Y d,Y c,M]) by unfold dh;rw[h.k];rfl)];show (aZ (dh 2 (eF Bc)) _ [Y d,Y c,M]).bind nN=_;rw[aK (show dh 2 (eF Bc) [Y d,Y c,M]=Y (.nx [Y d,Y c,Y (.lst (R.map tI))]) by unfold dh eF;rw[h.r];rfl)];have a:eV 2 [Y d,Y c,Y (.lst (R.map tI))]=Y (.lst (R.map tI)):=rfl;simp only[dX,fF,aC,aN,eF,h.t,h.o,h.s,a,ab,bI];rfl
theorem EL(n:Nat):∀l:List Int,mR (l.map D.int) n=Z'
 |[]=>by simp[mR]
 |i::l=>by simp[mR,jN,EL n l]
theorem CM(n:Nat):∀R:List (List Int),mR (R.map tI) (n+1)=Z'
 |[]=>by simp[mR]
 | l::R=>by
  have:jN (tI l) (n+1)=true:=by simp[tI,jN,EL]
  simp[mR,this,CM n R]
def So(i j:Int)(R S:List (List Int)):jN (Bw i j R S) 180=true:=by
 have a:=CM 177 R;have b:=CM 177 S;simp[Bw,jN,mR,a,b]
def eq_self(h:jN d 180=Z'):fR d d=Y (.bl Z'):=by
 unfold fR;rw[h];show (if Z'=Z' then Y (D.bl (AJ d d)) else M)=_;rw[if_pos rfl,EK d 180 h]
def RY{R S:List (List Int)}(h:kF [jx c]=Y (Bw i j R S)):ZI [Y (jx c),M,M,M,M,M,M,M,M,Y (Bw i j R S)]=Y (.bl Z'):=by
 have:∀F:List D->Option D,F [jx c]=Y (Bw i j R S)->e2 fR (dY "Lean" "asleep" F db aN) (eV 9) [Y (jx c),M,M,M,M,M,M,M,M,Y (Bw i j R S)]=fR (Bw i j R S) (Bw i j R S):=λF e=>by
  have g:dY "Lean" "asleep" F db aN [Y (jx c),M,M,M,M,M,M,M,M,Y (Bw i j R S)]=F [jx c]:=by
   have:dY "Lean" "asleep" F db aN [Y (jx c),M,M,M,M,M,M,M,M,Y (Bw i j R S)]=if ("Lean" : aM) = "Lean" /\ae "asleep" ∉ [ae "coming"] then F [jx c] else none:=rfl
   rw[this,if_pos ⟨rfl,by decide⟩]
  unfold e2;rw[g,e];rfl
 exact(this _ h).trans (eq_self (So i j R S))
def QG{l:List Int}(h:l.Nodup):(ud l).Pairwise (· < ·):=by
 have a:=yS l;have b:(ud l).Nodup:=(lO l).nodup_iff.mpr h;exact(a.and b).imp λh=>by have:=h.1;have:=h.2;omega
def BH{f:C5}(I:SI f g a c m G b)(T:TI c v x st):(ud (qk c)).filter (λy=> !decide (y∈st))=c.rests.map (·.num)/\∀y∈ud (qk c),0<=y/\y<v.length:=by
 obtain⟨E,D,u,C⟩:=T.pa.up;obtain⟨t,q,l⟩:∃t q,c.rows=t::q:=by
  cases h:c.rows with
  |nil=>have:=I.len;rw[h]at this;cases this
  |cons t g=>exact⟨t,g,rfl⟩
 have r:=T.nu;rw[l,aI]at r;injection r with F w;have e:=T.tp;rw[l]at e;obtain⟨n,e⟩:=e;have p:t.nW=1/\t.bo=1:=by
  have:kh t=(n,1,1):=by simpa using e
  injection this with _ this;injection this with B A;exact⟨B,A⟩
 have s:Kl c.full t=false:=by
  show (bA (bA t.nW (bN t.bo)) c.full != 0)=Z_;rw[p.1,p.2];have:bA 1 (bN 1)=0:=by decide +kernel
  rw[this];have:bA 0 c.full=0:=by rw[I.fu];rw[show ((2:Int) ^ f.q.length)=((2 ^ f.q.length:Nat):Int) by simp];have:=MS 0 (2 ^ f.q.length);rw[Nat.zero_and]at this;exact this
  rw[this];rfl
 have d:((c.rows.filter (Kl c.full)).map (·.number)).Sublist st:=by rw[l,pI,s];rw[<- w];exact(gW).map _
 have j:=I.nd;rw[T.nu]at j;have o:∀y∈c.rests.map (·.num),y∉st:=λy h k=>(gO.mp j).2.2 y h y (ao _ k) rfl
 have i:(qk c).Nodup:=by unfold qk;exact AQ ((jh _).append (d.trans (List.sublist_cons_self ..))) j
 have z:=I.lt;refine⟨Fx (xB gW (QG i)) T.rs λy =>?_,λy h =>?_⟩
 ·rw[fm,(lO _).mem_iff];unfold qk;rw[aV];constructor
  ·rintro⟨h|h,k⟩
   ·exact h
   ·simp at k;exact absurd (d.subset h) k
  ·intro h;exact⟨.inl h,by simp;exact o y h⟩
 ·have h:=(lO _).mem_iff.mp h;unfold qk at h;rcases aV.mp h with h|h
  ·have:=z y (bb _ h);rw[T.op]at this;exact⟨T.nn y h,this⟩
  ·have:=u y (d.subset h);omega
def UL(a:Int)(b:cO){f:DF}(e:f b=Y (.int a))(h:g b=Y (.int a)):dD (e2 uj f g) b=Y false:=by
 have:e2 uj f g b=uj (.int a) (.int a):=by unfold e2;rw[e,h];rfl
 unfold dD;rw[this];unfold uj;rw[if_pos (by rfl),BC];simp
def PV{f:DT}(a:f c=Y Z_)(b:g c=Y Z_):jY f g c=Y false:=by unfold jY;rw[a];exact b
def K2{f:C5}{gs:List wd}(I:SI f g a c m dd b)(T:TI c p x st)(H:sf (gs.map cS) ([],-1)=Y (p,x))(U:c.taken=gs.length)(hg:gs.length<=100)(J:8<=i):Iq (jx c) (gs.map cS) ((ud (qk c)).map D.int) i:=by
 obtain⟨u1,u2,O,N⟩:=T.pa.up;obtain⟨t,o,B⟩:∃t o,c.rows=t::o:=by
  cases h:c.rows with
  |nil=>have:=I.len;rw[h]at this;cases this
  |cons t g=>exact⟨t,g,rfl⟩
 have F:=T.nu;rw[B,aI]at F;injection F with n1 w;have S:=T.op;have tk:=I.tk;have cn:=I.cnt;have lp:p.length<=100:=by omega
 have G:c.rests.length+c.rows.length<=101:=by omega
 have lr:o.length<=100:=by rw[B]at G;simp at G;omega
 have ls:c.rests.length<=101:=by omega
 obtain⟨ce,cw⟩:=BH I T;have L:=SA c B ž;have V:(ud (qk c)).length<=900:=by rw[(lO _).length_eq];unfold qk;rw[aJ,aq,aq];have:=xA (Kl c.full) c.rows;omega
 have Q:∀(k:Nat) r,(o.map NS)[k]?=Y r->∃n l,r=n::l/\st[k]?=Y n/\l.length<=6:=λk r h=>by rw[aF]at h;obtain⟨q,e,rfl⟩:=ah.1 h;exact⟨q.number,[q.named,q.atoms],rfl,by rw[<- w,aF,e];rfl,Ž⟩
 have P:∀(k:Nat) r,(c.rests.map QR)[k]?=Y r->∃n l,r=n::l/\(c.rests.map (·.num))[k]?=Y n/\l.length<=6:=λk r h=>by rw[aF]at h;obtain⟨q,e,rfl⟩:=ah.1 h;exact⟨q.num,[q.place,q.Z,q.around],rfl,by rw[aF,e];rfl,Ž⟩
 refine⟨⟨_,_,bJ c,c.taken,c.opened,o.map NS,c.rests.map QR,(p,x),rfl,ſ,L,by simp;omega,by simp;omega,by simp;omega,H,BO _ (by simp;omega) (λl h =>?_),BO _ (by simp;omega) (λl h =>?_),λd K =>?_,RY (Pb L)⟩⟩
 ·obtain⟨q,_,rfl⟩:=cR.mp h;exact⟨by simp[NS],by simp[NS]⟩
 ·obtain⟨q,_,rfl⟩:=cR.mp h;exact⟨by simp[QR],by simp[QR]⟩
 ·obtain⟨X,eo,z,s⟩:=Oe (ps:=p) K ž H T.pa;obtain⟨A,rfl,u,ed⟩:=K;have u:A.length=p.length:=u;refine⟨X.map D.bl,st.map D.int,(c.rests.map (·.num)).map D.int,?_,?_,?_,?_,?_,?_⟩
  ·show ((Ab [.lst A,.lst (gs.map cS)]).map D.lst)=_;rw[eo];rfl
  ·kernel_rfl
  ·refine PV (UL c.taken _ rfl ?_) (UL c.opened _ rfl ?_)
   ·show Y (D.int ((gs.map cS).length:Int))=_;rw[aq,U]
   ·show Y (D.int (A.length:Int))=_;rw[u,S]
  ·exact Vk s N (λy h=>by have:=O y h;omega) (by rw[u,z]) ž ..
  ·exact Vj s (λy h=>by have:=cw y h;omega) V ce ..
  ·have E:∀(R:List (List Int)) (v:List Int) (j:cO) (f g h:DF),f j=Y (.lst (R.map tI))->g j=Y (.lst (v.map D.int))->h j=Y (.int i)->xR [.lst (R.map tI),.lst (v.map D.int),.int i]=Y (.bl Z')->eT (cF (aQ xR (aC f (aC g (aC h aN))))) j=Y false:=λR v j f g h e1 C e3 e=>by
    have:aQ xR (aC f (aC g (aC h aN))) j=Y (.bl Z'):=by unfold aQ aC;rw[e1,C,e3];exact e
    unfold eT cF;rw[this];rfl
   exact PV (E (o.map NS) st _ _ _ _ rfl rfl rfl (K' Q (by rw[<- w];simp) J (by rw[<- w];simp;omega))) (E (c.rests.map QR) (c.rests.map (·.num)) _ _ _ _ rfl rfl rfl (K' P Ž J (by simp;omega)))
theorem P8{c:cO}{e:DF}(B:Int):∀b:List D,(∀d∈b,∃a k,gN 0 d c=Y a/\e a=Y (.int k)/\0<=k/\k<=B)->∃f:List Int,vJ c (gN 0) eU e b=Y (f.map D.int)/\f.length=b.length/\∀k∈f,0<=k/\k<=B
 |[],_=>⟨[],rfl,rfl,λk m=>by cases m⟩
 | d::b,h=>by
  obtain⟨a,k,o,g,n⟩:=h d au;obtain⟨f,l,j,i⟩:=P8 B b λd m=>h d (ao _ m)
  refine⟨k::f,?_,by simp[j],λx m =>?_⟩
  ·rw[vJ,o];simp only[ab,eU,if_true,g];rw[l];rfl
  ·rcases aE.mp m with rfl|m
   ·exact n
   ·exact i x m
theorem KN(B:Int):∀c:List Int,(∀k∈c,0<=k/\k<=B)->0<=c.sum/\c.sum<=B*c.length
 |[],_=>by simp
 | k::c,h=>by
  have a:=h k au;have b:=KN B c λx m=>h x (ao _ m)
  rw[As,aP];have:B*((c.length+1:Nat):Int)=B*c.length+B:=by rw[Int.natCast_add,Int.mul_add];simp
  rw[this];omega
def KO{a:List Int}(h:∀k∈a,0<=k/\k<=B)(f:B<=1000000)(e:a.length<=3):uR [.lst (a.map D.int)]=Y (.int a.sum)/\0<=a.sum/\a.sum<=3*B\/B<0:=by
 by_cases c:B<0
 ·exact .inr c
 refine .inl ⟨?_,?_⟩
 ·unfold uR;show (if (a.map D.int).all Tj=Z'/\(a.map D.int).length<=1000 then _ else M)=_;rw[if_pos ⟨cx.mpr λd m=>by obtain⟨k,b,rfl⟩:=cR.mp m;have:=h k b;exact decide_eq_true ⟨this.1,by omega⟩,by simp;omega⟩,gj]
  have:(JG ∘ D.int)=id:=rfl;rw[this,List.map_id]
 ·have:=KN B a h;refine⟨this.1,wm this.2 ?_⟩;have:(a.length:Int)<=3:=by omega
  have:=Int.mul_le_mul_of_nonneg_left this (by omega:0<=B);omega
def Bm:Nat->Int
 |0=>0|n+1=>1+3*(1+Bm n)
def Du{b:List Int}(e:L a=Y (b.map D.int)):aQ uR (aC (eF L) aN) a=uR [.lst (b.map D.int)]:=by
 unfold aQ aC eF;rw[e];rfl
def L1{f:DL}{ρ:cO}{e:DF}{b:List D}{B:Int}(h:f ρ=Y b)(l:b.length<=1000)(g:∀d∈b,∃k,e [Y d]=Y (.int k)/\0<=k/\k<=B):∃i:List Int,lZ f [M] (gN 0) eU e ρ=Y (i.map D.int)/\i.length=b.length/\∀k∈i,0<=k/\k<=B:=by
 obtain⟨i,a,c⟩:=P8 (c:=[M]) (e:=e) B b λd m=>by obtain⟨k,x⟩:=g d m;exact⟨[Y d],k,rfl,x⟩
 refine⟨i,?_,c⟩;unfold lZ;rw[h];show (if b.length<=dU then vJ [M] (gN 0) eU e b else M)=_;rw[if_pos (bq l (by decide))];exact a
def LR{F:List D->Option D}{G:List D->Option D}{a:List (aM×aM×D)}{B:Int}(q:a.length<=3)(r:0<=B/\B<=1000)(h:∀p∈a,∃k:Int,F [p.2.2]=Y (.int k)/\0<=k/\k<=B):∃k:Int,(mV G F [Y (.lst (a.map cj))]).bind nN=Y (.int k)/\0<=k/\k<=3*(1+B):=by
 obtain⟨i,e,j,l⟩:=L1 (f:=iL db) (ρ:=[Y (.lst (a.map cj))]) (e:=e2 fA Fa (aQ F on)) (b:=a.map cj) (B:=1+B) rfl (by simp;omega) λd m=>by obtain⟨p,g,rfl⟩:=cR.mp m;obtain⟨k,e,o,n⟩:=h p g;refine⟨1+k,?_,ž,ž⟩;have:aQ F on [Y (cj p)]=F [p.2.2]:=rfl;exact(congrArg (·.bind λy=>fA (.int 1) y) (this.trans e)).trans rfl
 rw[aq]at j;rcases KO l ž ž with⟨f,c,b⟩|z
 ·refine⟨i.sum,?_,c,b⟩;unfold mV dX;rw[Du e,f];rfl
 ·omega
def M7:∀n,n<=5->0<=Bm n/\Bm n<=1000:=by decide
def LS{F G:List D->Option D}{a:List D}{B:Int}{q:aM}(c:q = "both" \/q = "one")(o:a.length<=3)(p:0<=B/\B<=1000)(h:∀x∈a,∃k:Int,G [x]=Y (.int k)/\0<=k/\k<=B):∃k:Int,(oM F G [Y (.tup [.str q,.lst a])]).bind nN=Y (.int k)/\0<=k/\k<=1+3*B:=by
 obtain⟨b,e,n,i⟩:=L1 (f:=iL bm) (ρ:=[Y (.tup [.str q,.lst a])]) (e:=aQ G bn) (b:=a) (B:=B) rfl ž λd m=>h d m
 rcases KO i ž ž with⟨f,l,j⟩|z
 ·refine⟨1+b.sum,?_,ž,ž⟩;have t:∀X r:DG,dR wS X r [Y (.tup [.str q,.lst a])]=r [Y (.tup [.str q,.lst a])]:=λX r=>by rcases c with rfl|rfl<;>kernel_rfl
  have u:∀X r:DG,dR (dD (e2 (Gf Z_) ol (eF (gi ci)))) X r [Y (.tup [.str q,.lst a])]=X [Y (.tup [.str q,.lst a])]:=λX r=>by rcases c with rfl|rfl<;>kernel_rfl
  unfold oM;rw[aK (show dR _ _ cH [Y (.tup [.str q,.lst a])]=Y (.nx [Y (.tup [.str q,.lst a])]) from t _ _)];have g:=Du e;rw[f]at g;rw[qW (d :=.int (1+b.sum)) ?_]
  ·rfl
  ·rw[u];unfold dX e2;show sv DO.rt ((Fa _).bind λx=>(aQ uR (aC (eF (lZ wv [M] (gN 0) eU (aQ G bn))) aN) [Y (.tup [.str q,.lst a])]).bind λy=>fA x y)=_;rw[g];rfl
 ·omega
theorem Cg:∀(n m:Nat) (w:D),n<=5->2*n<=m->fN n w->∃k:Int,eI m [w]=Y (.int k)/\0<=k/\k<=Bm n
 |0,_,_,_,_,h=>h.elim|n+1,0,_,_,h,_=>by omega
 |n+1,1,_,_,h,_=>by omega
 | n+1,m+2,w,z,r,h=>by
  have f:=M7 n ž;have q:∀x,fN n x->∃k:Int,eI (m+1) [x]=Y (.int k)/\0<=k/\k<=Bm n:=λx j=>Cg n (m+1) x ž ž j
  have v:∀x,fN n x->∃k:Int,eI m [x]=Y (.int k)/\0<=k/\k<=Bm n:=λx j=>Cg n m x ž ž j
  have u:∀a:List (aM×aM×D),a.length<=3->(∀p∈a,fN n p.2.2)->∃k:Int,dn (m+1) [.lst (a.map cj)]=Y (.int k)/\0<=k/\k<=3*(1+Bm n):=λa l c=>LR l f λp s=>v p.2.2 (c p s)
  have o:eI (m+2) [w]=(oM (dn (m+1)) (eI (m+1)) [Y w]).bind nN:=rfl;rw[o];generalize eI (m+1)=G at *
  generalize dn (m+1)=F at *
  show ∃k:Int,_/\0<=k/\k<=1+3*(1+Bm n);rcases h with rfl|⟨t,rfl⟩|⟨b,rfl,l,i,c⟩|⟨a,rfl,i,c⟩|⟨a,rfl,i,c⟩
  ·exact⟨1,by kernel_rfl,ž,ž⟩
  ·exact⟨1,by kernel_rfl,ž,ž⟩
  ·obtain⟨k,e,d,g⟩:=u b i c;refine⟨1+k,?_,ž,ž⟩;unfold oM;rw[qW (d :=.int (1+k)) ?_]
   ·rfl
   ·have t:∀X A:DG,dR wS X A [Y (.tup [kS "has",.lst (b.map cj)])]=X [Y (.tup [kS "has",.lst (b.map cj)])]:=λX A=>by kernel_rfl
    rw[t];unfold dX e2;show sv DO.rt ((Fa _).bind λx=>(F [.lst (b.map cj)]).bind λy=>fA x y)=_;rw[e];rfl
  ·obtain⟨k,e,d,g⟩:=LS (F:=F) (G:=G) (q:= "both") (.inl rfl) i f λx m=>q x (c x m)
   exact⟨k,e,d,ž⟩
  ·obtain⟨k,e,d,g⟩:=LS (F:=F) (G:=G) (q:= "one") (.inr rfl) i f λx m=>q x (c x m)
   exact⟨k,e,d,ž⟩
def IM{a:List (aM×aM×D)}(l:a.length<=3)(c:∀p∈a,fN 4 p.2.2):∃k:Int,kD [.lst (a.map cj)]=Y (.int k)/\0<=k/\k<=1000:=by
 obtain⟨k,e,d,b⟩:=LR (F:=eI 11) (G:=dn 11) l (M7 4 ſ) λp m=>Cg 4 11 p.2.2 ſ ſ (c p m)
 exact⟨k,e,d,wm b ſ⟩
abbrev oN(c:kT):Option D:=Y (.obj eO (jx c))
def Ox(h:cU [.ins "Coming" [] [],.lst q]=Y (.eN,bJ c)):kQ [.ins "Lean" [] [],.lst q]=Y (.eN,jx c):=by
 show (kJ [Y (.obj eO (.ins "Lean" [] [])),Y (.lst q)]).bind (mo eO)=_;unfold kJ;have e:kj "Coming" cU wl [Y (.obj eO (.ins "Lean" [] [])),Y (.lst q)]=Y (bJ c):=by
  have:∀F,kj "Coming" F wl [Y (.obj eO (.ins "Lean" [] [])),Y (.lst q)]=(F [.ins "Coming" [] [],.lst q]).bind λr=>match r.1 with|.eN=>Y r.2|_=>none:=λF=>rfl
  rw[this,h];rfl
 unfold p_;rw[e];simp only[ab];kernel_rfl
def LW{s:wd}(h:dQ [bJ c,cS s]=Y (d,bJ a)):lA [jx c,cS s]=Y (d,jx a):=by
 have:∀F,(dM (nZ "Lean" "coming" "Coming" "feed" aA F 0 wl) [oN c,Y (cS s)]).bind (mo eO)=(F [bJ c,cS s]).map λr=>(r.1,.ins "Lean" ["coming"] [r.2]):=λF=>by
  have e:nZ "Lean" "coming" "Coming" "feed" aA F 0 wl [oN c,Y (cS s)]=(F [bJ c,cS s]).map λr=>(r.1,[Y (.obj eO (.ins "Lean" ["coming"] [r.2])),Y (cS s)]):=by cases s<;>kernel_rfl
  unfold dM;rw[e];cases F [bJ c,cS s]<;>rfl
 refine(this _).trans ?_;rw[h];rfl
abbrev xE(d:List Int)(e q b:List D)(a:Int)(x c:kT)(i:List Int)(y:Option D):cO:=[Y (.mH d),Y (.lst e),Y (.lst q),Y (.lst b),Y (.int a),oN x,oS c i,y]
def YJ(k:Int):dz r (xE d e q b a x c i (Y (.int k)))=xE d e q b a x c i (Y (.int k)):=rfl
def VR{s:wd}{o:List Int}{m:kT}(A:∀x c i,e2 bP ge Ñ (xE f h q e a x c i (Y (.int k)))=Y (cS s))(d:dQ [bJ c,cS s]=Y (.lst (o.map D.int),bJ m))(z:(i++o).length<64)(g:DG):
  aZ (eD (bW "Lean" "take" eO lA 5 ln)) (aZ (eD (bW "Sift" "take" d_ ly 6 ln)) g) (xE f h q e a c c i (Y (.int k)))=g (xE f h q e a m m (ud (i++o)) (Y (.int k))):=by
 have j:∀x c i,jk (mP (e2 bP ge Ñ)) kl (xE f h q e a x c i (Y (.int k)))=Y ([cS s],xE f h q e a x c i (Y (.int k))):=λx c i=>by unfold jk mP;rw[A];rfl
 have n:∀F g,bW "Lean" "take" eO F 5 g (xE f h q e a c c i (Y (.int k)))=(g (xE f h q e a c c i (Y (.int k)))).bind λq=>(lB eO 5 q.2).bind λt=>(F (t::q.1)).map λr=>(r.1,(dz 5 q.2).set 5 (Y (.obj eO r.2))):=λF g=>by kernel_rfl
 have b:∀F g,bW "Sift" "take" d_ F 6 g (xE f h q e a m c i (Y (.int k)))=(g (xE f h q e a m c i (Y (.int k)))).bind λq=>(lB d_ 6 q.2).bind λt=>(F (t::q.1)).map λr=>(r.1,(dz 6 q.2).set 6 (Y (.obj d_ r.2))):=λF g=>by kernel_rfl
 have C:bW "Lean" "take" eO lA 5 ln (xE f h q e a c c i (Y (.int k)))=Y (.lst (o.map D.int),xE f h q e a m c i (Y (.int k))):=by rw[n,show ln (xE f h q e a c c i (Y (.int k)))=_ from j c c i,ab,show lB eO 5 (xE f h q e a c c i (Y (.int k)))=Y (jx c) by kernel_rfl,ab,LW d,YJ];rfl
 have B:bW "Sift" "take" d_ ly 6 ln (xE f h q e a m c i (Y (.int k)))=Y (.lst (o.map D.int),xE f h q e a m m (ud (i++o)) (Y (.int k))):=by rw[b,show ln (xE f h q e a m c i (Y (.int k)))=_ from j m c i,ab,show lB d_ 6 (xE f h q e a m c i (Y (.int k)))=Y (uJ c i) by kernel_rfl,ab,Nu d z,YJ];rfl
 rw[aK (show eD _ _=Y (.nx (xE f h q e a m c i (Y (.int k)))) by unfold eD;rw[C];rfl)];rw[aK (show eD _ _=Y (.nx (xE f h q e a m m (ud (i++o)) (Y (.int k)))) by unfold eD;rw[B];rfl)]
def KJ(h:iN [bJ c]=Y d):fc [uJ c i]=Y d:=by
 show (lW [Y (uJ c i)]).bind nN=_;unfold lW dX;have:∀F:List D->Option D,dY "Coming" "waits" F (bp "Sift" "coming" db) aN [Y (uJ c i)]=F [bJ c]:=λF=>by
  have:dY "Coming" "waits" F (bp "Sift" "coming" db) aN [Y (uJ c i)]=if ("Coming" : aM) = "Coming" /\ae "waits" ∉ ck then F [bJ c] else none:=rfl
  rw[this,if_pos ⟨rfl,by decide⟩]
 rw[this,h];rfl
abbrev yE(ns:List Int)(nm q a:List D)(most:Int)(x c:kT)(i:List Int)(y:Option D):cO:=[Y (.mH ns),Y (.lst nm),Y (.lst q),Y (.lst a),Y (.int most),Y (jx x),Y (uJ c i),y]
def Ye{a:Type}(l:List a)(k:Nat):AN l M (Y ((k:Int)+1))=l.take (k+1):=by
 show List.take (HT.xX l.length l.length (Y ((k:Int)+1))-HT.xX l.length 0 M) (List.drop (HT.xX l.length 0 M) l)=_;have:HT.xX l.length l.length (Y ((k:Int)+1))=min (k+1) l.length:=by
  unfold HT.xX;simp only;rw[if_neg (by omega)]
  congr 1
 rw[this];show List.take (min (k+1) l.length-0) (List.drop 0 l)=_;rw[Pq,List.drop_zero];by_cases h:k+1<=l.length
 ·rw[wq h]
 ·rw[Fh (by omega),ic (aH _),ic (by omega)]
def K1{b:List wd}{f:List D}(h:h_ [jx c,.lst ((b.map cS).take (k+1)),.lst f,.int a]=Y (.bl Z'))(hw:fc [uJ c i]=Y (.lst f))(g:DG):
  dR (Al [5,6] [] (eT (cF (aQ h_ wE)))) g cH (xE d e q (b.map cS) a c c i (Y (.int k)))=Y (.nx (xE d e q (b.map cS) a c c i (Y (.int k)))):=by
 have r:res [5,6] [] (xE d e q (b.map cS) a c c i (Y (.int k)))=yE d e q (b.map cS) a c c i (Y (.int k)):=rfl;have l:eF Go (yE d e q (b.map cS) a c c i (Y (.int k)))=Y (.lst ((b.map cS).take (k+1))):=by show Y (D.lst (AN (b.map cS) M (Y ((k:Int)+1))))=_;rw[Ye]
 have j:dY "Sift" "waiting" fc Rs aN (yE d e q (b.map cS) a c c i (Y (.int k)))=Y (.lst f):=by
  have:∀F:List D->Option D,dY "Sift" "waiting" F Rs aN (yE d e q (b.map cS) a c c i (Y (.int k)))=if ("Sift" : aM) = "Sift" /\ae "waiting" ∉ [ae "coming",ae "numbers"] then F [uJ c i] else none:=λF=>rfl
  rw[this,if_pos ⟨rfl,by decide⟩];exact hw
 have t:eT (cF (aQ h_ wE)) (yE d e q (b.map cS) a c c i (Y (.int k)))=Y false:=by
  have:aQ h_ wE (yE d e q (b.map cS) a c c i (Y (.int k)))=Y (.bl Z'):=by simp only[aQ,aC,l,j];exact h
  unfold eT cF;rw[this];rfl
 unfold dR;rw[sG r t];rfl
theorem Bj(s:D):∀(a:List D) (z:List Int×Int),sf (a++[s]) z=(sf a z).bind λy=>kA y s
 |[],z=>by show (kA z s).bind (sf [])=kA z s;cases kA z s<;>rfl
 | t::a,z=>by
  show (kA z t).bind (sf (a++[s]))=((kA z t).bind (sf a)).bind _;cases kA z t with
  |none=>rfl|some y=>exact Bj s a y
theorem Eu{f:C5}{a j:Int->Int->Int}{h:List wd}{ns:List Int}{nm q:List D}{most:Int}(W:FW f g a j l k)(Q:8<=most)(K:h.length<=28):∀(r p:List wd) (c:kT) (i:List Int) (d:Nat) (b:Bool) (z:Nat×Bool) (w:List Int) (x:Int) (G:List Int) (y:Option D),h=p++r->SI f g a c i.length d b->TI c w x G->sf (p.map cS) ([],-1)=Y (w,x)->c.taken=p.length->B5 r (d,b)=Y z ->
  ∃C H E,gD (gN 7) yD ((List.range' p.length r.length).map λ(k:Nat)=>D.int (0+(k:Int))) (xE ns nm q (h.map cS) most c c i y)=Y (.nx (xE ns nm q (h.map cS) most C C H E))
 |[],p,c,i,d,b,z,w,x,G,y,_,_,_,_,_,_=>⟨c,i,y,rfl⟩| s::r,p,c,i,d,b,z,w,x,G,y,A,I,T,hr,ht,J=>by
  obtain⟨⟨R,S⟩,g1,J⟩:=aa.1 (show (nQ (d,b) s).bind (B5 r)=Y z from J);have hl:p.length+(r.length+1)<=28:=by rw[A]at K;simpa using K
  obtain⟨o,n,m,V,F,e,B,N,ls,U⟩:=T9 W I T ž s g1;have O:=B.Th;have htk:=B.tk;have P:(i++o).length<64:=by rw[aJ];omega
  have X:SI f g a n (ud (i++o)).length R S:=by rw[(lO _).length_eq,aJ];exact B
  have u:sf ((p++[s]).map cS) ([],-1)=Y (m,V):=by rw[bG,aI,rP,Bj,hr];exact ls
  have t:n.taken=((p++[s]).length:Int):=by rw[N,ht];simp
  have tk:(h.map cS).take (p.length+1)=(p++[s]).map cS:=by
   rw[A,<- uq]
   congr 1
   rw[show p++s::r=(p++[s])++r by simp];rw[List.take_append_of_le_length (by simp),ic (by simp)]
  have cn:=B.cnt;have ww:iN [bJ n]=Y (.lst ((ud (qk n)).map D.int)):=Ky n ž ž (by unfold qk;rw[aJ,aq,aq];have:=xA (Kl n.full) n.rows;omega)
  have sl:h_ [jx n,.lst ((h.map cS).take (p.length+1)),.lst ((ud (qk n)).map D.int),.int most]=Y (.bl Z'):=by rw[tk];exact A7 (K2 X U u t (by simp;omega) Q)
  obtain⟨C,H,E,ih⟩:=Eu W Q K r (p++[s]) n (ud (i++o)) R S z m V F (Y (.int p.length)) (by rw[A];simp) X U u t J;refine⟨C,H,E,?_⟩;rw[aP,List.range'_succ,aI,show (0+(p.length:Int))=p.length by omega];have L:∀x c i,e2 bP ge Ñ (xE ns nm q (h.map cS) most x c i (Y (.int p.length)))=Y (cS s):=λx c i=>(show _=oi (h.map cS) (p.length:Int) from rfl).trans (gL (by rw[aF,A,iy (aH _)];simp))
  have v:yD (xE ns nm q (h.map cS) most c c i (Y (.int p.length)))=Y (.nx (xE ns nm q (h.map cS) most n n (ud (i++o)) (Y (.int p.length)))):=by unfold yD;rw[VR L e P];exact K1 sl (KJ ww) _
  rw[k_ (ρ1:=xE ns nm q (h.map cS) most c c i (Y (.int p.length))) rfl v];rw[aJ,cJ]at ih;exact ih
def MQ{F:List D->Option D}{f:DF}(h:f a=Y d):aQ F (aC f aN) a=F [d]:=by
 unfold aQ aC aN;rw[h];rfl
def Sx{F:List D->Option (List D)}{n:D}(f:g a=Y b)(d:eV 1 a=Y n)(h:F [.lst b,n]=Y c):eF (pR F (aC (eF g) wl)) a=Y (.lst c):=by
 have e:aC (eF g) wl a=Y [.lst b,n]:=by simp only[aC,aN,eF,f,d];rfl
 unfold eF pR;rw[show aC (λa=>sv D.lst (g a)) wl a=Y [.lst b,n] from e];show (F [.lst b,n]).map D.lst=_;rw[h];rfl
def RW{f:DL}(e:f a=Y c):iu f b g a=gD b g c a:=by
 unfold iu;rw[e];rfl
abbrev zE(h:List Int)(g:List aM)(f:List (aM×aM×D))(i:List wd)(m a b:Option D):cO:=[Y (.mH h),Y (.lst (g.map D.str)),Y (.lst (f.map cj)),Y (.lst (i.map cS)),m,a,b,M]
def L4(ns:List Int)(U8:ns.length<=63):Fb [.mH ns]=Y (.bl Z'):=by
 obtain⟨nms,en,hn⟩:=LL ns U8;obtain⟨iA,eq,h1,h3,hw⟩:=DR ns U8 nms hn;obtain⟨xs,ex,_,Zc⟩:=zV ns U8 500 28 ſ ſ ſ ſ;obtain⟨ss,ZR,es,hsg,hsl⟩:=K3 xs nms ž hn;obtain⟨gs,gd,gb,rfl,XA,_,_⟩:=hsg.ex;obtain⟨f,fit,lift,Te,txt,hf,Zp,W⟩:=Vd (n:=4) ſ iA hw h3 (by rw[show Zb 4=120 from by decide];omega);have hql:f.q.length=iA.length:=by rw[Zp,aq]
 have hab:jV [.lst f.q]=Y (.int (xt 4 0 0 iA)):=by rw[Zp];exact Pd ſ iA hw ž
 have RO:=JY ž hf hab;have I0:SI f (xt 4 0 0 iA) fit ⟨f,2 ^ f.q.length,xt 4 0 0 iA,0,0,[xV],[]⟩ ([]:List Int).length 0 false:=SI.new;have T0:TI ⟨f,2 ^ f.q.length,xt 4 0 0 iA,0,0,[xV],[]⟩ [] (-1) []:=TI.new;have Zv:(⟨f,2 ^ f.q.length,xt 4 0 0 iA,0,0,[xV],[]⟩:kT).taken=0/\qk ⟨f,2 ^ f.q.length,xt 4 0 0 iA,0,0,[xV],[]⟩=[]:=by
  refine⟨rfl,?_⟩;obtain⟨ce,cw⟩:=BH I0 T0;cases q:qk ⟨f,2 ^ f.q.length,xt 4 0 0 iA,0,0,[xV],[]⟩ with
  |nil=>rfl|cons y l=>have:=cw y ((lO _).mem_iff.mpr (by rw[q];exact au));simp at this;omega
 generalize (⟨f,2 ^ f.q.length,xt 4 0 0 iA,0,0,[xV],[]⟩:kT)=c0 at RO I0 T0 Zv;obtain⟨Zf,hw0⟩:=Zv;obtain⟨mt,em,m0,m1⟩:=IM h3 hw;have hgl:gs.length<=28:=by rw[aq]at hsl;omega
 show (HI [Y (.mH ns),M,M,M,M,M,M,M]).bind nN=_;unfold HI;rw[aK (ρ':=[Y (.mH ns),Y (.lst (nms.map D.str)),M,M,M,M,M,M]) ?q1,aK (ρ':=[Y (.mH ns),Y (.lst (nms.map D.str)),Y (.lst (iA.map cj)),M,M,M,M,M]) ?q2,aK (ρ':=zE ns nms iA gs M M M) ?q3,aK (ρ':=zE ns nms iA gs (Y (.int (8*mt+8))) M M) ?q4,aK (ρ':=zE ns nms iA gs (Y (.int (8*mt+8))) (oN c0) M) ?q5,aK (ρ':=zE ns nms iA gs (Y (.int (8*mt+8))) (oN c0) (oS c0 [])) ?q6]
 case q6=>
  have e:∀F,kj "Sift" F sn (zE ns nms iA gs (Y (.int (8*mt+8))) (oN c0) M)=(F [.ins "Sift" [] [],.lst (iA.map cj)]).bind λr=>match r.1 with|.eN=>Y r.2|_=>none:=λF=>rfl
  unfold A_;rw[e,NH RO];rfl
 case q5=>
  have e:∀F,kj "Lean" F sn (zE ns nms iA gs (Y (.int (8*mt+8))) M M)=(F [.ins "Lean" [] [],.lst (iA.map cj)]).bind λr=>match r.1 with|.eN=>Y r.2|_=>none:=λF=>rfl
  unfold A_;rw[e,Ox RO];rfl
 case q4=>
  have e1:aQ kD sn (zE ns nms iA gs M M M)=Y (.int mt):=(MQ rfl).trans em;have X5:∀h:DF,h (zE ns nms iA gs M M M)=Y (.int mt)->e2 fA (e2 qb AC h) AC (zE ns nms iA gs M M M)=Y (.int (8*mt+8)):=λh e=>by
   have:e2 qb AC h (zE ns nms iA gs M M M)=Y (.int (8*mt)):=by unfold e2;rw[e];exact SM (i:=8) ſ
   unfold e2 at this ⊢;rw[this];rfl
  rw[iX (X5 _ e1)];rfl
 case q3=>have e1:pR jC Ì [Y (.mH ns),Y (.lst (nms.map D.str)),Y (.lst (iA.map cj)),M,M,M,M,M]=Y (xs.map D.int):=(show _=jC [.mH ns,.int 500,.int 28] from rfl).trans ex;have e2:=Sx (F:=t5) (n :=.lst (nms.map D.str)) e1 rfl es;rw[iX e2];rfl
 case q2=>have e2:rF t2 (pR jC wn) (aC Uf wl) [Y (.mH ns),Y (.lst (nms.map D.str)),M,M,M,M,M,M]=Y (.lst (iA.map cj)):=eq;rw[iX e2];rfl
 case q1=>rw[iX ((MQ rfl).trans en)];rfl
 have s0:h_ [jx c0,.lst [],.lst [],.int (8*mt+8)]=Y (.bl Z'):=by have:=A7 (K2 (gs:=[]) I0 T0 rfl Zf Ž (by omega:8<=8*mt+8));rw[hw0,show ud []=[] by simp[ud]]at this;exact this
 rw[aK (ρ':=xE ns (nms.map D.str) (iA.map cj) (gs.map cS) (8*mt+8) c0 c0 [] M) ?q7]
 case q7=>
  have t:eT (cF (aQ h_ À)) (yE ns (nms.map D.str) (iA.map cj) (gs.map cS) (8*mt+8) c0 c0 [] M)=Y false:=by have:aQ h_ À (yE ns (nms.map D.str) (iA.map cj) (gs.map cS) (8*mt+8) c0 c0 [] M)=Y (.bl Z'):=s0;unfold eT cF;rw[this];rfl
  unfold dR;rw[sG (ρ':=yE ns (nms.map D.str) (iA.map cj) (gs.map cS) (8*mt+8) c0 c0 [] M) rfl t];rfl
 obtain⟨c1,i1,y1,e7⟩:=Eu (ns:=ns) (nm:=nms.map D.str) (q:=iA.map cj) (most:=8*mt+8) W ž hgl gs [] c0 [] 0 Z_ (gd,gb) [] (-1) [] M rfl I0 T0 rfl Zf XA;have i7:=Gs (f:=aQ gr FS) (a:=xE ns (nms.map D.str) (iA.map cj) (gs.map cS) (8*mt+8) c0 c0 [] M) (j:=((gs.map cS).length:Int)) rfl (by rw[aq];omega);have r7:mm 0 ((gs.map cS).length:Int).toNat=(List.range' 0 gs.length).map λ(k:Nat)=>D.int (0+(k:Int)):=by unfold mm;rw[gP,aq,List.range_eq_range']
 rw[r7]at i7;rw[aK ((RW i7).trans e7)];rfl
end K21
namespace L2
open PySem PySem.Spec PyProof.Rows
section
variable {P:bh}{w:cX}{K:aT}{mg:aM->Option ai}{base:de}{x c:aM}{sp:Sp}{f:az}{fd:dm}{ps:List aM}{n k:Nat}
def ji.m(h:ji P w K mg base x n sp)(hk:autoParam (n<=k) Ű):ji P w K mg base x k sp:=h.mono hk
def fO.m(h:fO P w K mg base c x n sp)(hk:autoParam (n<=k) Ű):fO P w K mg base c x k sp:=h.mono hk
def um.m(h:um P w K mg base c n sp)(hk:autoParam (n<=k) Ű):um P w K mg base c k sp:=h.mono hk
def ji.o(h:ji P w K mg base x n sp)(hk:autoParam (n<=k) ŧ):ji P w K mg base x k sp:=h.mono hk
def fO.o(h:fO P w K mg base c x n sp)(hk:autoParam (n<=k) ŧ):fO P w K mg base c x k sp:=h.mono hk
def Np{F:List D->Option D}(e:∀ds,F ds=M):cq P w K mg base gU n f fd ps (gQ K F):=by
 constructor
 ·rintro vs H Q E ⟨G,ds,d,gh,r,eq,_⟩;rw[e]at eq;cases eq
 ·rintro A o s H args us vs Q E hr he hb hv ⟨G,ds,d,gh,r,eq,_⟩;rw[e]at eq;cases eq
def YD{s:Sk}{F:List D->Option (D×D)}(e:∀ds,F ds=M):cq P w K mg base gU n f fd ps (spT K s F):=by
 constructor
 ·rintro vs H Q E ⟨G,t,xs,d,t',a,T,us,_,_,_,_,_,_,eq,_⟩;rw[e]at eq;cases eq
 ·rintro A o s H args us vs Q E hr he hb hv ⟨G,t,xs,d,t',a,T,us,_,_,_,_,_,_,eq,_⟩;rw[e]at eq;cases eq
def YE{F:List D->Option (D×List D)}(e:∀ds,F ds=M):cq P w K mg base gU n f fd ps (BZ K 0 F):=by
 constructor
 ·rintro vs H Q E ⟨G,ds,d,xs',a,ws,xs,_,_,_,_,_,_,_,_,eq,_⟩;rw[e]at eq;cases eq
 ·rintro A o s H args us vs Q E hr he hb hv ⟨G,ds,d,xs',a,ws,xs,_,_,_,_,_,_,_,_,eq,_⟩;rw[e]at eq;cases eq
end
end L2
namespace K21
open PySem L2
def ac{α:Type}{P:α->Prop}{a:α}{l:List α}(h:P a)(t:∀x∈l,P x):∀x∈a::l,P x:=lC.mpr ⟨h,t⟩
abbrev FA(K:aT)(x:aM)(st:rN):Prop:=∃f fd,vb K bw x=Y (Y (.ref f))/\ir K x x st f fd
def VO{K:aT}{x:aM}{st:rN}{f:az}{od an:Option az}{sl:Array (Option ai)}{oc kV dc pm cd ct:ai}(a:vb K bw x=Y (Y (.ref f)))(l:K.lookup f=Y ⟨oc,od,.func (fnOf x x (pU st) (iD st) (ay st) .none kV dc pm an cd ct),sl⟩)(c:codeIn K cd x=Z')(k:AO K (.ref f)=Z'):FA K x st:=⟨f,_,a,Mo l c k⟩
abbrev MA(K:aT)(c m qual:aM)(st:rN):Prop:=∃C f fd,vb K bw c=Y (Y (.ref C))/\uo K (.ref C) m=Y (Y (.ref f))/\PySem.W.isFn K (.ref f)=Z'/\ir K m qual st f fd
def VJ{K:aT}{x:aM}{st:rN}{f:az}{od an:Option az}{sl:Array (Option ai)}{oc kV dc pm cd ct:ai}{c0 qual:aM}{C:az}(aC:vb K bw c0=Y (Y (.ref C)))(a:uo K (.ref C) x=Y (Y (.ref f)))(i:PySem.W.isFn K (.ref f)=Z')(l:K.lookup f=Y ⟨oc,od,.func (fnOf x qual (pU st) (iD st) (ay st) .none kV dc pm an cd ct),sl⟩)(c:codeIn K cd qual=Z')(k:AO K (.ref f)=Z'):MA K c0 x qual st:=⟨C,f,_,aC,a,i,Mo l c k⟩
def bk0{us:List ai}(e:us.length=0):us=[]:=by
 rcases us with _|_<;>first|rfl|simp at e
def bk1{us:List ai}(e:us.length=1):∃a,us=[a]:=by
 rcases us with _|⟨_,_|_⟩<;>first|exact⟨_,rfl⟩|simp at e
def bk2{us:List ai}(e:us.length=2):∃a b,us=[a,b]:=by
 rcases us with _|⟨_,_|⟨_,_|_⟩⟩<;>first|exact⟨_,_,rfl⟩|simp at e
def bk3{us:List ai}(e:us.length=3):∃a b c,us=[a,b,c]:=by
 rcases us with _|⟨_,_|⟨_,_|⟨_,_|_⟩⟩⟩<;>first|exact⟨_,_,_,rfl⟩|simp at e
def bk4{us:List ai}(e:us.length=4):∃a b c d,us=[a,b,c,d]:=by
 rcases us with _|⟨_,_|⟨_,_|⟨_,_|⟨_,_|_⟩⟩⟩⟩<;>first|exact⟨_,_,_,_,rfl⟩|simp at e
local macro_rules | `(tactic|walk_at "b") => `(tactic|(intro _ _ _ _ _ _ us hl; (first |obtain ⟨_,e⟩ := bk1 hl |obtain ⟨_,_,e⟩ := bk2 hl |obtain ⟨_,_,_,e⟩ := bk3 hl |obtain ⟨_,_,_,_,e⟩ := bk4 hl |have e := bk0 hl); subst e; rfl))
section
variable {P:bh}{w:cX}{K:aT}{h base:de}{mg:aM->Option ai}{x c q:aM}{st:rN}{sp:Sp}{ps:List aM}{n:Nat}{C:az}
structure EN(P:bh)(w:cX)(K:aT)(mg:aM->Option ai)(base h:de):Prop where
 X:K.In h
 G:h.Ns bw mg
abbrev CL(K:aT)(c:aM):Prop:=∃C,vb K bw c=Y (Y (.ref C))/\GV K C/\makesIn K C=Z'/\AO K (.ref C)=Z'
abbrev NA(K:aT)(c f:aM):Prop:=∃C,vb K bw c=Y (Y (.ref C))/\rJ K C f
def VQ(a:vb K bw c=Y (Y (.ref C)))(pg:plainGet K C Str.empty=Z')(hd:hasDictIn K C=Z')(po:plainOver K C=Z')(sa:uo K (.ref C) "__setattr__" = Y (Y (.builtin "object.__setattr__")))(mk:makesIn K C=Z')(kc:AO K (.ref C)=Z'):CL K c:=⟨C,a,⟨pg,hd,po,sa⟩,mk,kc⟩
def VH(a:vb K bw c=Y (Y (.ref C)))(n:uo K (.ref C) x=Y M):NA K c x:=⟨C,a,n⟩
def Yi(h:CL K c)(n:NA K c x):tJ K c x:=by
 obtain⟨C,a,cl,_,_⟩:=h;obtain⟨C',a',n⟩:=n;intro D e;rw[a]at e a';cases e;cases a';exact⟨cl,n⟩
abbrev BB(x q:aM)(st:rN)(ps:List aM):Prop:=∀(kV Qg pm:ai) (an:Option az) (Ko ct:ai) (us:List ai),us.length=ps.length->bindArgs (fnOf x q (pU st) (iD st) (ay st) .none kV Qg pm an Ko ct) ⟨us,[]⟩=eQ (ps.zip us)
def FA.qB(q:FA K x st)(e:EN P w K mg base h)(o:∀f fd,ir K x x st f fd->cq P w K mg base gU n f fd ps sp)(hb:autoParam (BB x x st ps) Ŵ):ji P w K mg base x n sp:=by
 obtain⟨f,fd,a,F⟩:=q;exact⟨f,fd,ps,o f fd F,mg_of e.X e.G a,F.kp,F.binds hb⟩
def MA.uw(r:MA K c x q st)(_:EN P w K mg base h)(h:CL K c)(o:∀f fd,ir K x q st f fd->cq P w K mg base gU n f fd ps sp)(hb:autoParam (BB x q st ps) Ŵ):fO P w K mg base c x n sp:=by
 obtain⟨C',f,fd,a',i,j,F⟩:=r;obtain⟨C,a,cl,_,_⟩:=h;rw[a]at a';cases a';exact⟨_,f,fd,ps,a,cl,⟨i,j,F.kp⟩,o f fd F,F.binds hb⟩
def MA.Ri(r:MA K c "__init__" q st)(e:EN P w K mg base h)(k:CL K c)(o:∀f fd,ir K "__init__" q st f fd->cq P w K mg base gU n f fd ps sp)(hb:autoParam (BB "__init__" q st ps) Ŵ):um P w K mg base c n sp:=by
 obtain⟨C',f,fd,a',i,j,F⟩:=r;obtain⟨C,a,cl,m,y⟩:=k;rw[a]at a';cases a';exact⟨_,f,fd,ps,a,mg_of e.X e.G a,⟨m,i,j,y⟩,o f fd F,F.binds hb⟩
end
def SN{l:PySem.W.OpenLaw}{w:cX}{K:aT}{h:de}{mg:aM->Option ai}{fa:az}(X:K.In h)(G:h.Ns bw mg)(hfa:mg "law" = Y (.ref fa))(c:CL K "Coming" /\CL K "Facts" /\CL K "Lean" /\CL K "Row" /\CL K "Sift")(n:∀p∈KL,NA K p.1 p.2)(z:∀x∈ZL,vb K bw x=Y M)(q:FA K "joined_asks" oT/\FA K "copied" tT/\FA K "copied_wish" lI/\FA K "meets" vq/\FA K "can_hold" lx/\FA K "can_come" sL/\FA K "top_row" uH/\FA K "able_steps" pZ/\FA K "_law_mix" FO/\FA K "_law_cells" vr/\FA K "_law_names" vp/\FA K "_law_signs" yQ/\FA K "_law_pop" FN/\FA K "_law_wish" ym/\FA K "_law_steps" yP/\FA K "_law_whole" yO/\FA K "_law_nodes" yR/\FA K "_law_open" BY/\FA K "_law_pieces" tS/\FA K "_law_again" oU/\FA K "_law_many_tuples" lH/\FA K "_law_many_in" qT/\FA K "_law_spoiled" mx/\FA K "_law_row" FK/\FA K "_law_sleeps" ql/\FA K "law" wF)(r:MA K "Facts" "new_bit" "Facts.new_bit" mC/\MA K "Facts" "enter_step" "Facts.enter_step" j_/\MA K "Facts" "enter" "Facts.enter" lJ/\MA K "Facts" "enter_text" "Facts.enter_text" jZ/\MA K "Facts" "lead" "Facts.lead" p6/\MA K "Facts" "asked" "Facts.asked" lK/\MA K "Facts" "enter_has" "Facts.enter_has" iW/\MA K "Facts" "__init__" "Facts.__init__" jv/\MA K "Facts" "steps_for" "Facts.steps_for" kX/\MA K "Facts" "text_fact" "Facts.text_fact" kW/\MA K "Facts" "lifted" "Facts.lifted" nG/\MA K "Facts" "fitting" "Facts.fitting" mD/\MA K "Row" "__init__" "Row.__init__" nF/\MA K "Coming" "__init__" "Coming.__init__" kY/\MA K "Coming" "gone_on" "Coming.gone_on" lM/\MA K "Coming" "moved_out" "Coming.moved_out" ka/\MA K "Coming" "waits" "Coming.waits" kH/\MA K "Coming" "begin_row" "Coming.begin_row" kb/\MA K "Coming" "spread" "Coming.spread" mE/\MA K "Coming" "add_atoms" "Coming.add_atoms" ke/\MA K "Coming" "settle" "Coming.settle" mF/\MA K "Coming" "newly_told" "Coming.newly_told" jG/\MA K "Coming" "end_row" "Coming.end_row" lN/\MA K "Coming" "feed" "Coming.feed" oV/\MA K "Sift" "__init__" "Sift.__init__" my/\MA K "Sift" "take" "Sift.take" qU/\MA K "Sift" "waiting" "Sift.waiting" nE/\MA K "Lean" "__init__" "Lean.__init__" mB/\MA K "Lean" "take" "Lean.take" qV/\MA K "Lean" "asleep" "Lean.asleep" iF):
  ∃fd:dm,(∀(s:aw) (v:ai),Kk s fd ⟨[v],[]⟩ [("_law_script",v)])/\∀base:de,K.In base->base.Ns bw mg->cq l.prog w K mg base gU 100 fa fd ["_law_script"] (gQ K Fb):=by
 obtain⟨a1,a0,a8,a7,a9⟩:=c;obtain⟨i2,b5,b6,b7,b8,i3,i4,i5,i6,i7,i8,i9,j1,b9,c1,j2,j3,j4,j5,j6,s1,s2,s3,s4,s5,⟨fL,fdL,aL,FL⟩⟩:=q;obtain⟨j7,j8,j9,k0,k8,c2,c3,k9,l0,l1,l2,l3,l4,l5,l6,l7,l9,m0,m1,m2,c4,m3,m4,c5,m5,c6,m8,m6,m7,m9⟩:=r;have e:=hfa.symm.trans (mg_of X G aL);cases e;have k:KS K mg:=⟨λp h=>Yi (by rcases(show ∀p∈KL,p.1 = "Coming" \/p.1 = "Facts" \/p.1 = "Lean" \/p.1 = "Row" \/p.1 = "Sift" by decide +kernel) p h with e|e|e|e|e<;>rw[e]<;>assumption) (n p h),λx h=>mg_none_of X G (z x h)⟩
 obtain⟨oc,od,kV,Qg,pm,an,Ko,ct,Xe,rfl,_⟩:=FL.ex;refine⟨fnOf "law" "law" (pU wF) (iD wF) (ay wF) .none kV Qg pm an Ko ct,λs v =>.of_eq rfl,λbase _ _ =>?_⟩;have e:EN l.prog w K mg base h:=⟨X,G⟩;have n1:=i2.qB e λ_ _ F=>zd F
 have n2:∀n,ji l.prog w K mg base "copied" (n+0) (gQ K (jq n))/\ji l.prog w K mg base "copied_wish" (n+0) (gQ K (eE n)):=λn=>by
  induction n with
  |zero=>exact⟨b5.qB (ps:=["steps"]) e λ_ _ _=>Np λ_=>rfl,b6.qB (ps:=["wish"]) e λ_ _ _=>Np λ_=>rfl⟩
  |succ n ih=>obtain⟨b2,c7⟩:=ih;exact⟨b5.qB e λ_ _ F=>(Jm F c7).mono ž,b6.qB e λ_ _ F=>(ze F b2 c7).mono ž⟩
 have b2:ji _ _ _ _ _ "copied" 12 (gQ K wg):=(n2 12).1;have n3:∀n,ji l.prog w K mg base "meets" (n+0) (gQ K (kC n)):=λn=>by
  induction n with
  |zero=>exact b7.qB (ps:=["ask", "atoms"]) e λ_ _ _=>Np λ_=>rfl
  |succ n b0=>exact b7.qB e λ_ _ F=>(LC F k b0).mono ž
 have b0:ji _ _ _ _ _ "meets" 12 (gQ K t6):=(n3 12);have n4:∀n,ji l.prog w K mg base "can_hold" (n+0) (gQ K (fP n)):=λn=>by
  induction n with
  |zero=>exact b8.qB (ps:=["wish"]) e λ_ _ _=>Np λ_=>rfl
  |succ n b3=>exact b8.qB e λ_ _ F=>(D4 F k b3).mono ž
 have b3:ji _ _ _ _ _ "can_hold" 12 (gQ K pw):=(n4 12);have c8:=i3.qB e λ_ _ F=>D5 F
 have c9:=j7.uw e a0 λ_ _ F=>wL F k
 have n5:=j8.uw e a0 λ_ _ F=>uf F k c9.m
 have d0:=j9.uw e a0 λ_ _ F=>zh F n5.m
 have n6:=k0.uw e a0 λ_ _ F=>ue F k c9.m
 have n7:=k8.uw e a0 λ_ _ F=>AB F k
 have n8:∀n,fO l.prog w K mg base "Facts" "asked" (n+3) (spT K ax (dr n))/\fO l.prog w K mg base "Facts" "enter_has" (n+3) (spT K ax (cZ n)):=λn=>by
  induction n with
  |zero=>exact⟨c2.uw (ps:=["self", "wish"]) e a0 λ_ _ _=>YD λ_=>rfl,c3.uw (ps:=["self", "steps"]) e a0 λ_ _ _=>YD λ_=>rfl⟩
  |succ n ih=>obtain⟨b1,n9⟩:=ih;exact⟨c2.uw e a0 λ_ _ F=>(zi F n6.o n9 b1 n1.o).mono ž,c3.uw e a0 λ_ _ F=>(uP F d0.o n7.o b1).mono ž⟩
 have b1:fO _ _ _ _ _ "Facts" "asked" 15 (spT K ax mZ):=(n8 12).1;have o0:=k9.Ri e a0 λ_ _ F=>vD F k b2.m d0.m b1.m
 have o1:=l0.uw e a0 λ_ _ F=>uO F k
 have o2:=l1.uw e a0 λ_ _ F=>uN F k
 have o3:=l2.uw e a0 λ_ _ F=>x3 F k b0.m
 have d1:=l3.uw e a0 λ_ _ F=>wM F k b0.m
 have d2:=l4.Ri e a7 λ_ _ F=>xZ F k
 have o4:=i4.qB e λ_ _ F=>Ga F k d2.m
 have o5:=i5.qB e λ_ _ F=>AA F k b3.m
 have d3:=l5.Ri e a1 λ_ _ F=>uQ F k o0.m o5.m o4.m
 have d4:=l6.uw e a1 λ_ _ F=>vE F k
 have o6:=l7.uw e a1 λ_ _ F=>ug F k
 have o8:=l9.uw e a1 λ_ _ F=>x5 F k
 have o9:=m0.uw e a1 λ_ _ F=>uh F k d2.m d1.m d4.m
 have d5:=m1.uw e a1 λ_ _ F=>wN F k d1.m o3.m
 have p0:=m2.uw e a1 λ_ _ F=>ui F k d5.m
 have p7:=c4.uw e a1 λ_ _ F=>wO F k d4.m
 have p8:=m3.uw e a1 λ_ _ F=>sV F k p7.m
 have p9:=m4.uw e a1 λ_ _ F=>vF F k o6.m
 have d6:=c5.uw e a1 λ_ _ F=>zj F k c8.m p9.m o9.m d5.m p0.m p8.m o1.m o2.m
 have q0:=m5.Ri e a9 λ_ _ F=>wJ F k d3.m
 have q1:=c6.uw e a9 λ_ _ F=>Ca F k d6.m
 have q3:=m8.uw e a9 λ_ _ F=>xY F k o8.m
 have q2:=m6.Ri e a8 λ_ _ F=>wK F k d3.m
 have d7:=m7.uw e a8 λ_ _ F=>Cb F k d6.m
 have d8:=m9.uw e a8 λ_ _ F=>zg F k
 have d9:=m9.uw e a8 λ_ _ F=>Gc F k
 have q4:=i6.qB e λ_ _ F=>Rg F
 have e0:=i7.qB e λ_ _ F=>LD F k q4.m
 have q5:=i8.qB e λ_ _ F=>LB F k e0.m
 have q6:=i9.qB e λ_ _ F=>Lz F k
 have e1:=j1.qB e λ_ _ F=>Rf F
 have q8:∀n,ji l.prog w K mg base "_law_wish" (n+1) (BZ K 0 (hV n))/\ji l.prog w K mg base "_law_steps" (n+1) (BZ K 0 (hW n)):=λn=>by
  induction n with
  |zero=>exact⟨b9.qB (ps:=["_law_draws", "_law_deep", "_law_some"]) e λ_ _ _=>YE λ_=>rfl,c1.qB (ps:=["_law_draws", "_law_deep", "_law_some"]) e λ_ _ _=>YE λ_=>rfl⟩
  |succ n ih=>obtain⟨e2,b4⟩:=ih;exact⟨b9.qB e λ_ _ F=>(Og F k e1.o b4 e2).mono ž,c1.qB e λ_ _ F=>(Ly F k e1.o e2).mono ž⟩
 have b4:ji _ _ _ _ _ "_law_steps" 13 (BZ K 0 t2):=(q8 12).2;have q9:=j2.qB e λ_ _ F=>Lx F k
 have r0:=j3.qB e λ_ _ F=>LA F k.y
 have r1:=j4.qB e λ_ _ F=>Oh F k.y
 have n9:∀n,ji l.prog w K mg base "_law_pieces" (n+0) (gQ K (gx n)):=λn=>by
  induction n with
  |zero=>exact j5.qB (ps:=["_law_value"]) e λ_ _ _=>Np λ_=>rfl
  |succ n b0=>exact j5.qB e λ_ _ F=>(Jl F k.y k.y k.y k.y k.y k.y k.y b0).mono ž
 have r2:ji _ _ _ _ _ "_law_pieces" 12 (gQ K tH):=(n9 12);have h9:∀n,ji l.prog w K mg base "_law_again" (n+0) (gQ K (iK n)):=λn=>by
  induction n with
  |zero=>exact j6.qB (ps:=["_law_value"]) e λ_ _ _=>Np λ_=>rfl
  |succ n b0=>exact j6.qB e λ_ _ F=>(D6 F k.y k.y k.y k.y b0).mono ž
 have r3:ji _ _ _ _ _ "_law_again" 12 (gQ K ma):=(h9 12);have r4:=j6.qB e λ_ _ F=>Jn F k (j6.qB e λ_ _ F=>cq.or ((D6 (n:=11) F k.y k.y k.y k.y (h9 11)).mono ſ) (Jo F k r3))
 have v9:∀n,ji l.prog w K mg base "_law_many_tuples" (n+0) (gQ K (dn n))/\ji l.prog w K mg base "_law_many_in" (n+0) (gQ K (eI n)):=λn=>by
  induction n with
  |zero=>exact⟨s1.qB (ps:=["_law_steps_here"]) e λ_ _ _=>Np λ_=>rfl,s2.qB (ps:=["_law_wish_here"]) e λ_ _ _=>Np λ_=>rfl⟩
  |succ n ih=>obtain⟨e2,b4⟩:=ih;exact⟨s1.qB e λ_ _ F=>(zc F k.y b4).mono ž,s2.qB e λ_ _ F=>(Gb F k.y e2 b4).mono ž⟩
 have r5:ji _ _ _ _ _ "_law_many_tuples" 12 (gQ K kD):=(v9 12).1;have w0:=s3.qB (ps:=["_law_value"]) (sp:=gQ K λ_=>M) (n:=0) e λ_ _ _=>Np λ_=>rfl
 have w1:=s3.qB e λ_ _ F=>xJ F k w0
 have w2:=s3.qB e λ_ _ F=>D3 F k w1
 have w4:=s3.qB e λ_ _ F=>D1 F k (s3.qB e λ_ _ F=>cq.or ((xJ F k w0).mono ſ) (D2 F k w2))
 have r6:=s4.qB e λ_ _ F=>Rc F k.y k.y k.y k.y k.y q9.m r2.m
 have r7:=s5.qB e λ_ _ F=>(Jk F k d9.m d8.m r0.m r1.m q9.m r6.m r4.m w4.m).imp λ_ _ _ _ h=>NC h
 exact Rh FL k.y k.y q2.m q0.m q5.m b4.m e0.m q6.m r5.m q1.m d7.m r7.m q3.m
def walk{l:PySem.W.OpenLaw}{q:bh}{VS:List aM}{XP:(aM->Option ai)->de->Prop}{YP:cX->de->Prop}{d:DefRec}{K:Params->aT}(hn:l.most=Y 63)(hdf:d.params.defaults=[])
  (hY:∀(w:cX) (h:de),YP w h->(K w.params).In h)
  (F:∀(w:cX) (mg:aM->Option ai) (fa:az) (h:de),(K w.params).In h->h.Ns bw mg->mg d.name=Y (.ref fa) ->
   ∃fd:dm,(∀(s:aw) (u:ai),Kk s fd ⟨[u],[]⟩ [("_law_script",u)])/\∀base:de,(K w.params).In base->base.Ns bw mg->cq l.prog w (K w.params) mg base gU 100 fa fd ["_law_script"] (gQ (K w.params) Fb)) :
  PySem.W.WalkO q VS XP YP l.row.toRowW d [] (λf vs=>PySem.call f vs):=
 L2.Kx (n:=63) (k:=100) (x:= "_law_script") (CX:=gU) (sp:=λK=>gQ K Fb) hn ſ hdf ⟨rfl,ſ,ſ⟩ hY F (λK H a ns hl hO hS=>Ru L4 K H a ns hl hO hS) λ_ _ _ _ z=>z
end K21
open PySem PySem.W PyProof.Rows
structure PySem.W.Fast:Prop where(tw14438054327477575702 tw1144313207697529706 tw3085607791312490186 tw17910507111346407763 tw17634456377929422022 tw3203344941149959470 tw312112331382201839 tw3104210048352380191 tw7471268894319662636 tw7726287281299858510 tw15474901530189019743 tw11349746538628452789 tw4175152285294328935 tw9582046223480266410 tw7307200153081252288 tw4467932519528929029 tw10057493084185481688 tw13333408220411189761 tw8947180594373327503 tw10336118744735016227 tw10012531955687288040 tw5159482579266548201 tw12432357835615353804 tw10342374478168588484 tw9499439094611369450 tw776384241104115279 tw156841078653362120 tw15587532755355717281 tw14717385552213428321 tw895051722240888705 tw16977555643887484904 tw13668680262539847575 tw16791204007129494671 tw2928507577262736542 tw1455663731219867900 tw13253125370949966393 tw12516983725899867270 tw2081997113866870352 tw4956626739737965347 tw2848068249613864567 tw13426733401510251486 tw4640479415301842279 tw14345820354548236777 tw15453101860627214589 tw7217926194906830627 tw10814314708302535650 tw13725712891445489261 tw6119367052992217226 tw5474343136460770437 tw9592500160699232507 tw7974024703433955181 tw2409218089414067686 tw1592547039544292013 tw1475679596515030586 tw7489765873920830040 tw16095245961444479787 tw15134308407863738786 tw6353854482439536632 tw18267382936166835600 tw14214891665498130997 tw7391039874411023918 tw4448300419652874993 tw8349114291920431944 tw13046748984977870296 tw6226340224156340748 tw10999779732308305026 tw16564583244448286430 tw8071942264594329979 tw15786492730244597067 tw2031957302200634309 tw3347493402806083977 tw7454784982123674072 tw5603452020781943728 tw13787311421019844149 tw9678991371134540436 tw6828241955587478472 tw10636417330541510639 tw12422325673741280488 tw10231141425072383888 tw4563586132986984534 tw1324782441639492368 tw5467675598422746785 tw18021942012745199351 tw9047016411315504260 tw11528483056798880557 tw2872101454968836773 tw12922776789214187788 tw14301845410381238653 tw12926849501150074630 tw471885142012538611 tw5244196258985565565 tw11890421739298535474 tw7955658441611000027 tw13493795787181460862 tw12705094220665596290 tw15144494740485763034 tw18053072794261645586 tw4551533083616874872 tw9313198391576227059 tw10454466472918164573 tw11881769188014745928 tw7260842199798391329 tw4296523640801340041 tw11186408955387317988 tw9153252213962871385 tw13450712154452087807 tw17662719005147785944 tw12207819653154646967 tw13226948554423350813 tw15529142587236527444 tw2923823100455586964 tw9208524422225485420 tw2130899164268587836 tw13051716261192434889 tw8256024890013426344 tw9290071306630507018 tw10796868002921833050 tw2352683760227431755 tw6373410657314198940 tw4381021180126832186 tw11709000996732524421 tw5635451323690421534 tw4569204729371520870 tw424615036108610559 tw14876005069328486347 tw7186683940244439643 tw11012673127736762963 tw17234445828343280322 tw7087680685652493376 tw16701805882683780238 tw4626341813136601562 tw17626249033052771282 tw985137630068240770 tw62334631955856479 tw8642477163935936076 tw16692860555071529822 tw13821560891928846737 tw6908902009569150960 tw10201402296809158312 tw12187358571001840857 tw16753648200236614881 tw2287851708369834939 tw1748457457822578610 tw9083954281773923761 tw16348790625887833439 tw7295962586530614714 tw12164775205952251287 tw16403939463208752120 tw15776495625583633581 tw17304024349169394159 tw17441202131013516744 tw9980764588990470305 tw4378128714762229780 tw14025617570085476436 tw5347518443518986637 tw16768210012250533244 tw2107700608740299426 tw3619005791091232991 tw16380528496914705418 tw10960790165364315684 tw10050491799402507432 tw3198920476898077208 tw12649096451133058959 tw10618928027809894197 tw2223127453968252533 tw5507974750428205387 tw7754666827733239087 tw12398510495565067135 tw9391756397981763067 tw10975439442834348195 tw16687944452739388070 tw253149210485178042 tw7706148540090724980 tw14208656989945911888 tw9508851872507177918 tw15332373924243405921 tw11579203715046590069 tw6331778395827602753 tw11487867475836027299 tw15349216191164641559 tw3845098972046780698 tw211837114698160480 tw11674689812093093446 tw2338783620573636417 tw5634391362418519927 tw7182576737362524296 tw16201881945756309631 tw451566078856887146 tw8661067490288233043 tw17830694653371849223 tw2378127494306613008 tw8657894323506443954 tw11865688445441070755 tw11056919771574767183 tw17561061425751924713 tw14602971303180195833 tw2868828718381921616 tw11296477117364927623 tw9535501109160880007 tw15292128155691443477 tw387397116193030145 tw12239803362652846516 tw3336903898973241619 tw10598436343440614785 tw6141805853215912500 tw12988106405752230433 tw14363277294883120117 tw937400737212809145 tw13785744923382623907 tw11426739746943836298 tw10294094915288201588 tw1350868900939293352 tw4441156799258716955 tw18015044322663555902 tw7611662974650366694 tw16721035150122357918 tw7441390974887413243 tw13757727317515521138 tw4384179665986441046 tw739990663792808419 tw17134216565950243864 tw7639090860204317086 tw18078046346038877703 tw14385772239663817437 tw6546162119791598259 tw14709083574751997020 tw5605452639627386488 tw7481773738158943791 tw7695058832437513595 tw6292689861574210985 tw2409616124376983607 tw6234568870501287895 tw10639085856783209433 tw504828114013488640 tw9447596727982514931 tw12924574775196815455 tw7474143898204400916 tw12170657321751761098 tw14896233761942161781 tw9240642151002891326 tw9297459528517851238 tw2886720314094822073 tw14326121897064383709 tw12405905586618748823 tw15062676447276359513 tw5445343947030835413 tw12346630822298611703 tw15840651849299090452 tw5375966396382529033 tw5808216589166170897 tw1460029884764442878 tw8271064744246936658 tw3638095964177485181 tw14716566392068739193 tw8899907832805511280 tw5341694645514756041 tw17547366995367297791 tw876437588618596577 tw9393523127979738279 tw1562602884037494135 tw12230085495187550934 tw1606603271982139263 tw5610281557751868255 tw13159667498217334253 tw16786030512508690510 tw8081640542073248314 tw3971665872225584133 tw13499183255503694565 tw5687375551179969463 tw2138661573821325587 tw18424360071114471940 tw10326406734548156556 tw13958351842533173347 tw4691175561327649038 tw888419385877759053 tw5038541557495662238 tw17962591307753223588 tw1142420187485658594 tw16497285985825055927 tw8125713942849978617 tw4044265680528960261 tw17485506765907551772 tw8266323597303586230 tw13267754220102851825 tw4548999417846496327 tw11028067012400623060 tw5664681471868984843 tw11489983266105405374 tw6246240314878184100 tw8546454667839518143 tw9534228418310056154 tw14187030892534293599 tw670665532002561995 tw7327198169332336511 tw1039966942031474448 tw14399801769433268064 tw16398026555383198414 tw3912412846948129232 tw9545034908349707588 tw5214985964530831521 tw1028149835952696233 tw7329685897738356790 tw6147755158010877235 tw1365921385138778280 tw16115375337290941649 tw3195643065071126472 tw1176963642680050297 tw9359466234380709518 tw4372835982964816235 tw6190466987255138047 tw16377080506689685453 tw9692815348198968684 tw13474214413682792116 tw10669302484157928685 tw3504808651339295674 tw762689335685662434 tw11915565127501543632 tw10692237649142802669 tw1479830180824283465 tw6491427136760973881 tw16188940008647715030 tw4586034555567263885 tw5426461954924256584 tw7372286365381353523 tw4914763898438375821 tw16855097876001399078 tw7504868103135993579 tw17173746736113787753 tw16157640687335415832 tw9689021235120523423 tw5684962346092864562 tw11405997404326316639 tw8071321065733354962 tw12170291919268599680 tw1509485526707658603 tw10281543007823575556 tw6776147658963247214 tw14816754206845668767 tw15342833794654389794 tw4858323260111065767 tw8577881250349493937 tw474221710066556714 tw3632978441407052023 tw16947254275757762059 tw17079552590161533180 tw5172234011117357996 tw5351455827996992472 tw16914488612176753860 tw8440441036849253516 tw9309834708845894010 tw9596891242248727967 tw15743421505859233884 tw9620721079939455690 tw5763626549621487694 tw3037878913037448358 tw6035221430152894905 tw6740242705170298195 tw13563477261476575081 tw15557605179562122236 tw7501011554595125976 tw14630811402578708924 tw15982835112731659000 tw6039285612751209768 tw5277621279636106454 tw13506721930142891172 tw8449922897112011242 tw14478913627836863394 tw11766704209030538988 tw2012700354358468684 tw5142018483665237510 tw15081604203264842056 tw17786209782809956823 tw7235965306512969924 tw1111245245420119402 tw10061289170518203424 tw14470566304156769474 tw2512109537845880752 tw5843012631886714202 tw953670239128941609 tw9532472408428132342 tw16730292900945745604 tw16351306318663952855 tw16337830954632011202 tw15737437822930858716 tw12885841008127326551 tw14620191496176114528 tw15527104287399720337 tw17783302550087012452 tw4999915376803128525 tw2241592447125671896 tw11271587004340369213 tw2138483213258625215 tw17771063692081361214 tw5710333393810640604 tw3676804406862811961 tw5212928330195449467 tw750878122135871000 tw14980977153526006905 tw8974542638100261863 tw16941415285505308844 tw2940339455391476426 tw17298786218354968478 tw17389225890792322225 tw10099489983159822196 tw18305657913105421309 tw7704754943629229366 tw10017053146717931350 tw14668101763444122579 tw15766373166159107111 tw18267621098977938666 tw3690267071375813463 tw16463379787898728870 tw2551503461953223503 tw2519787526790565622 tw1604938517705397836 tw8603202045683536339 tw6519434020867578125 tw11272029978655277379 tw1919943510562460119 tw17538324095157757134 tw15676041642398604073 tw6356895703202900694 tw6418662709304594737 tw2476421018246774866 tw5042644365123625992 tw18284864297426676622 tw16684057642015587818 tw16571309627992903753 tw8253682040892988331 tw2813863207930704784 tw11140340781041162336 tw13602621270682920255 tw16975955391103217468 tw10434698392696777995 tw836408511162868831 tw1198819635260776626 tw16813748562899788301 tw6968443629959487201 tw10522320028999624136 tw17986104284982056841 tw7801330454667100220 tw14649941894109002727 tw18355334107966748558 tw1939208191246964429 tw5214021620657046847 tw26108737771180457 tw1914173308657416957 tw12101990700839377857 tw16907374408064670052 tw8641850896258758313 tw907197151392048907 tw1144790656518593600 tw11358659403447042193 tw8654245729809148142 tw11925423807970960667 tw9869036389386757263 tw7383932759546865108 tw14592038637265646425 tw5682867849503580999 tw13234398185799313091 tw15688859643359484318 tw14188277624864610970 tw13690112841552939940 tw2006064697733555288 tw2110128191709760524 tw14213362848122473158 tw8336046095403286299 tw12053162907822555172 tw17421477826970229680 tw16737315900708227974 tw13481377263587243080 tw2635245072544780691 tw3965758001845384938 tw4892762779762338846 tw10786868380597193530 tw47242971500645103 tw7356694805839939864 tw11541888604595983070 tw16665039870132585401 tw16920108337123833011 tw13644718645200056148 tw10468760886781700952 tw8912211466353297322 tw12267457889579363694 tw11150483192965132799 tw9692047903950174434 tw15741887429117765550 tw603070323441479918 tw15442411737746601597 tw14465101720714163363 tw8826761295325437244 tw15195111963146042095 tw3710890817394682836 tw5707735841515166663 tw3794450895687897407 tw7163861398222355195 tw11887017124442086846 tw18161550954136130886 tw562162114566413568 tw2170743489913687619 tw17860101428015167526 tw3832698698686155339 tw5300982453661662586 tw8197980748771213297 tw13160166259372907272 tw14330236088709401757 tw15628037540375553476 tw8053863520217275614 tw13158606551445049995 tw2303329778979994779 tw7774610695285234298 tw4521962442342043705 tw2717818843638180314 tw17521411434817873723 tw10298585690293999410 tw4416162445119891502 tw5675353489205485727 tw7082371966789685548 tw1005023669248751273 tw11836272718203325616 tw16421344641853263941 tw9291195074809922861 tw18231047989177328858 tw13356591437692790184 tw14286572683294384237 tw3398934883118319251 tw602464765815273834 tw671913088124198757 tw15728398412880876090 tw16448083794252350290 tw8155404550710331454 tw17250339887328466134 tw2896423564905394897 tw3593368696455302151 tw4007653709818962297 tw9445691973271178550 tw8273380233266157874 tw6271399241711806501 tw13572177352622810700 tw2943374743029224346 tw6203295358115360531 tw10926598259253570005 tw17700099768749386354 tw6020829847546924715 tw8734943042523337458 tw4363297806359754494 tw15221879804851534452 tw4728689330137706803 tw9386119411973601931 tw14453599034431505895 tw11568594010742434542 tw16754291869294033046 tw1316862030503292378 tw5761792521057169292 tw13398529120031078414 tw5547661491959056141 tw3935507465415466925 tw7867507966644697875 tw4552048856923556239 tw6865554106127360069 tw773764916667558256 tw8189677039568281429 tw8453214557394339753 tw510375713434022115 tw7445353865988082720 tw348698300081905813 tw16325755978065504718 tw7009276896322568962 tw12244262344199879070 tw14039809501149645142 tw4488654404974606090 tw4814986126511275894 tw111776953083473765:True)
set_option maxRecDepth 100000 in
set_option maxHeartbeats 0 in
theorem PySem.Challenge.cw_earlysift_k23_what_a_lean_sift_keeps_holds : PySem.Challenge.rw_earlysift_k23_what_a_lean_sift_keeps.Holds := by
  w_on; o_law; k_head; (case hw => w_witness2)
  k_fill
  refine K21.walk (l := PySem.Challenge.rw_earlysift_k23_what_a_lean_sift_keeps) rfl rfl (λw h y => PySem.W.kIn_of y) ?F
  case F =>
    intro w mg fa h KX G hmg
    refine' K21.SN KX G hmg ?p1 ?p2 ?p3 ?p4 ?p5
    (case p1 => and_intros <;> exact K21.VQ (by k_is) (by k_is) (by k_is) (by k_is) (by k_is) (by k_is) (by k_is))
    (case p2 => repeat' first |refine K21.ac (by dsimp only; exact K21.VH (by k_is) (by k_is)) ?_ |exact nofun)
    (case p3 => repeat' first |refine K21.ac (by k_is) ?_ |exact nofun)
    (case p4 => and_intros <;> exact K21.VO (by k_is) (by k_is) (by k_is) (by k_is))
    (case p5 => and_intros <;> exact K21.VJ (by k_is) (by k_is) (by k_is) (by k_is) (by k_is) (by k_is))
