import PyProof.Rows.All
import Wide.All
import OpenK.AllK
import Wide.FinOn
import Lean
import PyProof.EqAt
import PyProof.EqKinds
import PyProof.TupleCall
import PyProof.NeKinds
import PyProof.StrCalls6
import PyProof.FString5
import PyProof.Rows.StrClose
import PyProof.Rows.BitMore
import PyProof.Rows.SortWalk
import PySem.Challenge.RW_earlysift_k25_what_a_lean_sift_refuses
open Option renaming some->Y,none->M,bind_eq_some_iff->aa,bind_some->ae,map_eq_some_iff->aq,map_some->bP,map->mJ,elim->Fg
open Bool renaming true->Z',false->Z_,and_eq_true->aV,false_ne_true->cF,false_eq_true->eD,or_eq_true->vO,not_false->Kf,and_false->Kg,and_self->NP,not_not->Qu
open PySem.Str renaming ofString->af
open PySem renaming wpAny_bind->ah,Value->ak,starEach->ao,Shared->av,Addr->az,wpAny_pure->aF,Str->aG,mainGlobals->aI,model->aU,sizeLine->bb,wpAny->be,Program->bt,attributeBase->bY,swapsWith->cp,backTo->cv,Heap->cD,keywordEach->cQ,foldedSetIterable->cY,World->cZ,wpAny_mono->dS,binaryOp->dX,FuncData->dY,cellsFrom->eS,wpAny_holding->fm,bootBuiltins->fA,backToKw->f',wpAny_Call_Name_kw->gm,compareOp->gr,behindInMarks->gy,Around->gD,wpAny_truthy_bool->gW,wpAny_ite_false->gY,sizeLine_eq->il,getMethod->jr,wpAny_loadPart_at->ju,wpAny_field->jv,holding->jw,sysModules->kK,wpAny_passesOwn->kW,rawInt->lK,wpAny_pyIter_list->lN,standAt->lO,callWith->mo,wpAny_execs_nil->nV,codeAny->nW,Keyword->nX,wpAny_setField->pH,codeAny_mono->pI,wpAny_call->qO,Stmt->qP,sliceBounds->rA,cLine->rE,ExcBaseFacts->tK,wpAny_setField_rec->uN,tupleKind_room_in1->uO,NameKind->uP,wpAny_standAt->wQ,setFlight->xU,assignEach->Aa,letOwnedTupleGo->Ah,wpAny_loadPart->CZ,unbindBehindTheSuite->C0,tupleKind->De,callerA->Dg,PassesOwn->Dh,wpAny_attempt->Fc,typeOf->GL,call_meets->GN,wpAny_newObj_type->J7,valueAt->J8,getItem->J9,call->J_,BindsTo->Kh,plainObj_wpAny_Assign_Attribute->Kn,wpAny_execs_cons->NG,noteFrame->NI,assign->NJ,Result->NL,subscripted->N0,excClassObj->N3,relabel->Q6,wpAny_seqItems->Ua,wpAny_rule->Ub,wpAny_ite_true->Uc,newFunctionEnv->Ud,isInstance->Ue,atKey->Ug,Model->Uh
open PySem.Heap renaming get?_push_of_some->ai,lt_size->aJ,get?_push_size->bx,get?_update_other->bF,get?_update_self->cR,size_push->cV,SameBut->fD,size_update->xW
open List renaming getElem?_set_ne->aj,getElem?_eq_some_iff->au,mem_cons_of_mem->aw,length_map->ax,mem_cons_self->ay,length_cons->aP,length_append->aQ,mem_append_right->aR,mem_cons->aW,size_toArray->aX,getElem?_map->aY,map_cons->a_,mem_append_left->bc,set_cons_zero->bg,set_cons_succ->bh,getElem?_set_self->bj,replicate->bo,mem_append->bq,getElem?_eq_getElem->bC,append_nil->bU,append_assoc->bZ,zip_cons_cons->cb,perm_append_comm_assoc->cj,map_append->cq,range->cw,mem_singleton->cx,all_eq_true->cA,length_singleton->cI,nil_append->dh,lookup_cons->dw,getElem?_append_left->fo,drop_eq_getElem_cons->fw,forall_mem_cons->gc,replicate_succ->gC,getElem?_eq_none->ia,mem_filter->iA,length_nil->iB,nodup_append->iV,lookup->jG,find?_cons->ke,flatten_cons->kC,getElem?_append_right->kX,mem_map->lM,all_cons->mq,all_map->nN,not_mem_nil->oY,any_cons->pq,nodup_cons->ql,filterMap_cons->qo,pairwise_cons->rG,pairwise_iff_getElem->sF,getElem?_eq_none_iff->sG,filter->tf,length_take->uQ,drop_length->uR,cons_append->uS,any_eq_true->uT,zipWith_cons_cons->vG,zipWith->vH,range_succ_eq_map->vI,map_set->vJ,of_mem_zip->vL,dropLast_concat->xV,map_congr_left->Ab,map_nil->C3,map_map->C4,find?_append->C5,zipIdx_cons->EY,length_drop->EZ,filter_cons->E8,length_set->GR,map->Kc,getD_eq_getElem?_getD->Kd,getLast?_eq_some_iff->Ko,getLast?_eq_getElem?->Kq,map_take->NN,getElem?_replicate->N5,getElem?_cons_succ->N6,take_of_length_le->Qq,map_id'->Qr,drop_eq_nil_of_le->Qs,perm_append_comm->Q8,length_filter_le->Q9,dropLast_eq_take->Q_,set->Ui,replicate_succ'->Uj,length->Uk,getLast?_concat->Ul,mem_map_of_mem->US,filter_sublist->UU
open PySem.Value renaming ref->aE,none->aM,type->bR,int->js,bool->oM,builtin->wR,str->NK
open Nat renaming le_refl->aS,lt_of_lt_of_le->bw,ne_of_lt->bH,le_trans->bK,zero_le->eG,lt_irrefl->eQ,ne_of_gt->fQ,le_of_lt->fR,le_add_right->g_,le_succ->iU,lt_succ_self->jx,testBit_and->kb,le_of_eq->nM,mul_le_mul_right->pJ,eq_of_testBit_eq->pK,zero_add->qQ,lt_succ_of_lt->tb,le_succ_of_le->td,testBit_xor->GP,min_eq_left->GQ,testBit_or->Kb,add_right_cancel_iff->NM,succ_mul->Qn,pow_succ->Qo,min_self->Qp
open PySem.W renaming Frag->aT,nsIn->gU,findIn->hR,kitOne->ja,mg_none_of->jR,hasDictIn->pk,keepIn->qk,emptyDict->rB,kia_one->rM,instObj->Ff,takerIn->NH,mg_of->Q7
open Ne renaming symm->bG
open Option.some renaming inj->bM,injEq->gw
open Int renaming emod_lt_of_pos->bT,eq_ofNat_of_zero_le->bV,emod_nonneg->cu,toNat_natCast->dC,natCast_nonneg->rH,lt_trans->vK,lt_of_le_of_lt->AK,add_sub_cancel->AL,fdiv_eq_ediv_of_nonneg->Ke,le_trans->Qt,le_refl->Um
open False renaming elim->cE
open Sum renaming inr->cN,inl->yt
open PySem.Builtin renaming bitOr->c_,bitNot->uU,bitAnd->uV
open PyProof.Rows renaming arrOf->de,wpS_bind->dk,wpS_pure->gG,callWith_type1->gV,pendingOf->oQ,callWith_builtin1->oW,envOfC->qm,pairsOf->rL,wpS_forRange->xm,AllBare->AN,seqObj->Fd,pairsOf_size->Fe,IntsAre->Fh,boot_isinstance->GO,nat_or_add_and->Iw,firstOfTuple'->Ql,bitAnd_pp->Qm,listItems_at->UQ,failedOf->UR
open Pure renaming pure->dR
open Function renaming comp_def->eU
open PySem.Data renaming fields->fM,dict->qR
open PySem.PassesOwn renaming never->gZ
open True renaming intro->hU
open PySem.NameKind renaming free->ip,cell->rd
open List.Sublist renaming refl->kD
open Array renaming getElem?_eq_some_iff->kY,getElem?_setIfInBounds_ne->oO,perm_iff_toList_perm->rJ,find?_toList->rK,getElem?_eq_getElem->sH,getElem?_toList->wU,findIdx?_eq_some_iff_getElem->AM,getElem_setIfInBounds_self->C6,getElem_setIfInBounds_ne->E9,eraseIdxIfInBounds->NQ,getElem?_eq_none->Qv,toArray_toList->Uq,length_toList->UW
open PySem.Txt renaming slice->kZ,slice_le->Ka
open PySem.F renaming plainAttrs_list->lL
open PySem.Builtin.List renaming listTooLong->nO,listItems->Ad
open Or renaming inl->oX,inr->rF
open List.Perm renaming of_eq->vM
open ForInStep renaming yield->vN
open PySem.Calls renaming callWith_builtin->Ac,spliced_cons->GS,Name_function_global->Uo
open Prod.mk renaming injEq->Ai
open PySem.Heap.IsList renaming push->NO
set_option bootstrap.genMatcherCode false
set_option compiler.extract_closed false
set_option genSizeOfSpec false
noncomputable section
set_option maxRecDepth 100000
set_option maxHeartbeats 4000000
open PySem.W (Frag mg_of nsIn mg_none_of findIn kia_one fnOf emptyDict keepIn instObj kitOne codeIn plainGet hasDictIn plainOver takerIn makesIn methodObj lookIn)
open PySem.F (plainAttrs_list)
set_option Elab.async false
set_option linter.all false
namespace L2
open PySem PySem.Spec PyProof.Rows
abbrev lJ:=Sum Int aG
noncomputable def Bg:lJ->ak->Bool
 |.inl k,v=>Value.isInt k v|.inr x,v=>Value.isStrOf x v
def YE(w:cZ):lJ->Int
 |.inl k=>hashInt k|.inr x=>hashStr w x
theorem gK:∀ {k:lJ}{v:ak},Bg k v=Z'->(∃i t,k=yt i/\v=js i t)∨(∃x t,k=cN x/\v=NK x t)
 |.inl i,v,h=>by obtain⟨t,e⟩:=Value.isInt_shape (k:=i) (v:=v) h;exact .inl ⟨i,t,rfl,e⟩
 |.inr x,v,h=>by obtain⟨t,e⟩:=Value.isStrOf_shape (x:=x) (v:=v) h;exact .inr ⟨x,t,rfl,e⟩
theorem Jr(i:Int)(t:Tok):Bg (.inl i) (.int i t)=true:=by simp[Bg,Value.isInt]
theorem Jq(x:aG)(t:Tok):Bg (.inr x) (.str x t)=true:=by simp[Bg,Value.isStrOf]
theorem SA(a b:Int):decide ((yt a:lJ)=yt b)=(a==b):=by
 by_cases e:a=b
 ·subst e;simp
 ·have h:¬(yt a:lJ)=yt b:=λq=>e (Sum.inl.inj q)
  rw[decide_eq_false h];exact(beq_eq_false_iff_ne.mpr e).symm
theorem Sx(a b:aG):decide ((cN a:lJ)=cN b)=decide (a=b):=by
 by_cases e:a=b
 ·subst e;simp
 ·have h:¬(cN a:lJ)=cN b:=λq=>e (Sum.inr.inj q)
  rw[decide_eq_false h,decide_eq_false e]
theorem Sz(a:Int)(b:aG):decide ((yt a:lJ)=cN b)=false:=decide_eq_false (λq=>nomatch q)
theorem Sy(a:aG)(b:Int):decide ((cN a:lJ)=yt b)=false:=decide_eq_false (λq=>nomatch q)
def hV(prog:bt)(w:cZ):PySem.KeyKind prog w lJ where
 is:=Bg
 hash:=YE w
 inj:=λv a b l f=>by
  rcases gK l with⟨i,t,rfl,rfl⟩|⟨x,t,rfl,rfl⟩
  ·rcases gK f with⟨j,u,rfl,e⟩|⟨y,u,rfl,e⟩
   ·injection e with e1 _;rw[e1]
   ·exact nomatch e
  ·rcases gK f with⟨j,u,rfl,e⟩|⟨y,u,rfl,e⟩
   ·exact nomatch e
   ·injection e with e1 _;rw[e1]
 byValue:=λk v h=>by
  rcases gK h with⟨i,t,rfl,rfl⟩|⟨x,t,rfl,rfl⟩<;>rfl
 pyHash:=λc h=>by
  rcases gK c with⟨i,t,rfl,rfl⟩|⟨x,t,rfl,rfl⟩
  ·exact wpAny_pyHash_int h
  ·exact wpAny_pyHash_str h
 eqBool:=λg c h=>by
  rcases gK g with⟨i,t,rfl,rfl⟩|⟨x,t,rfl,rfl⟩
  ·rcases gK c with⟨j,u,rfl,rfl⟩|⟨y,u,rfl,rfl⟩
   ·rw[SA]at h;exact wpAny_eqBool_int h
   ·rw[Sz]at h;exact SeqAt.EqAt.int_str i t y u _ _ _ _ h
  ·rcases gK c with⟨j,u,rfl,rfl⟩|⟨y,u,rfl,rfl⟩
   ·rw[Sy]at h;exact SeqAt.EqAt.str_int x t j u _ _ _ _ h
   ·rw[Sx]at h;exact wpAny_eqBool_str h
 «strs» :=λk x t v h=>by
  rcases gK h with⟨i,u,rfl,e⟩|⟨y,u,rfl,e⟩
  ·exact nomatch e
  ·injection e with e1 _
   subst e1
   cases v<;>rfl
theorem D_(prog:bt)(w:cZ)(i:Int)(t:Tok):(hV prog w).is (.inl i) (.int i t)=true:=Jr i t
theorem D9(prog:bt)(w:cZ)(x:aG)(t:Tok):(hV prog w).is (.inr x) (.str x t)=true:=Jq x t
inductive V where
 |dJ|bl (b:Bool)|int (i:Int)|str (x:aG)|PZ (b:Array UInt8)|NW (b:UInt64)|ref (a:az)|ty (n:String)
 deriving DecidableEq
def RelV:V->ak->Prop
 |.dJ,u=>u=aM|.bl b,u=>u=oM b|.int i,u=>∃t,u=js i t|.str x,u=>∃t,u=NK x t|.PZ b,u=>∃t,u=Value.bytes b t|.NW b,u=>∃t,u=Value.float b t|.ref a,u=>u=aE a|.ty n,u=>u=bR n
abbrev cg:List V->List ak->Prop:=Paired RelV
theorem cg.length{xs:List V}{a:List ak}(r:cg xs a):xs.length=a.length:=Paired.length r
theorem cg.get:∀ {xs:List V}{a:List ak}{i:Nat}{x:V},cg xs a->xs[i]?=Y x->∃u,a[i]?=Y u/\RelV x u
 |_,_,_,_,.nil,e=>by simp at e
 |_,_,0,_,.cons r _,e=>by simp at e;subst e;exact⟨_,rfl,r⟩
 |_,_,i+1,x,.cons _ t,e=>by obtain⟨u,J,z⟩:=cg.get (i:=i) (x:=x) t (by simpa using e);exact⟨u,by simpa using J,z⟩
theorem cg.set{u:ak}(r:RelV x u):∀ {xs:List V}{a:List ak}(i:Nat),cg xs a->cg (xs.set i x) (a.set i u)
 |_,_,_,.nil =>.nil|_,_,0,.cons _ t =>.cons r t|_,_,i+1,.cons q t =>.cons q (cg.set r i t)
theorem cg.append{b:List ak}(q:cg c b)(s:cg d a):cg (c++d) (b++a):=by
 induction q with|nil=>exact s|cons r t i=>exact .cons r i
theorem cg.take:∀ {xs:List V}{a:List ak}(n:Nat),cg xs a->cg (xs.take n) (a.take n)
 |_,_,0,_ =>.nil|_,_,_+1,.nil =>.nil|_,_,n+1,.cons r t =>.cons r (cg.take n t)
theorem cg.drop:∀ {xs:List V}{a:List ak}(n:Nat),cg xs a->cg (xs.drop n) (a.drop n)
 |_,_,0,r=>r|_,_,_+1,.nil =>.nil|_,_,n+1,.cons _ t=>cg.drop n t
def pE:Option V->Option ak->Prop
 |some v,Y u=>RelV v u|none,M=>True|_,_=>False
def KV{a:Type}:List (a×V)->List (a×ak)->Prop:=Paired λ(p:a×V) (q:a×ak)=>p.1=q.1/\RelV p.2 q.2
def kV:lJ->V
 |.inl i =>.int i|.inr x =>.str x
inductive HO where
 |lst (xs:List V)
 |tup (xs:List V)
 |dK (fF:List (lJ×V))|dT (fF:List (List lJ×V))
 |set (S:Int->Bool) (n:Nat)
 |ins (C dx:az) (fs:List (aG×V))
 |own (x:az)
 |xd (fs:List (aG×V))
 |met (f x:az)
 |Ye (lo hi:Int)
 |HB (o:Obj) (u:HO)
 |Rm (ps:Array ak)
 |ext (φ:cD->Prop)
abbrev Hp:=az->Option HO
noncomputable def dg(H:Hp)(a:az)(o:HO):Hp:=λb=>if b=a then Y o else H b
theorem br{a:az}{o:HO}:dg H a o a=Y o:=by unfold dg;rw[if_pos rfl]
theorem aZ{a:az}{o:HO}(h:b≠a):dg H a o b=H b:=by unfold dg;rw[if_neg h]
theorem N_{o:HO}:dg (dg H a o) a u=dg H a u:=by
 funext b;unfold dg;split<;>rfl
theorem VF{H:Hp}{a:az}(h:H a=Y o)(h':H b=Y u)(d:o≠u):a≠b:=by
 intro e;subst e;rw[h]at h';exact d (bM h')
theorem bI{H:Hp}(h:H a=Y o)(h':H b=M):a≠b:=by
 intro e;subst e;rw[h]at h';cases h'
section
variable (P:bt)(w:cZ)
def fJ(H:Hp)(h:cD)(a:az):HO->Prop
 |.lst xs=>xs.length<=bb/\∃(g:List ak) (c:Nat),cg xs g/\h.get? a=Y { cls :=.type "list",data :=.seq g.toArray c }|.tup xs=>xs.length<=bb/\∃g:List ak,cg xs g/\IsTup h a g.toArray|.dK e=>e.length<=bb/\(a==kK)=Z_/\∃l,KV e l/\h.DictOf (hV P w) a l| .dT e=>e.length<=bb/\(a==kK)=Z_/\∃xs:List (List lJ×az×ak),
   Paired (λ(p:List lJ×V) (b:List lJ×az×ak)=>p.1=b.1/\H b.2.1=Y (.tup (p.1.map kV))/\RelV p.2 b.2.2) e xs /\
   ∃o es m,h.get? a=Y o/\o.ExactDict/\o.data=.dict es m/\es.toList=xs.map (entryOfKey (De (hV P w)))/\(xs.map (·.1)).Nodup
 |.set S c=>h.SetOf (intKind P w) a S c| .ins C dx j=>H dx=Y (.own a)/\j.length<=1000/\dx≠a/\h.get? a=Y (Ff C dx) /\
   ∃mA,h.Ns1 dx mA/\(∀f,pE (j.lookup f) (mA f))/\PySem.Within mA (j.map (·.1))
 |.own _=>∃o,h.get? a=Y o|.xd j=>∃mA,h.Ns1 a mA/\∀f,pE (j.lookup f) (mA f)|.Ye n L=>∃t u v,h.get? a=Y { cls :=.type "range",data :=.fields #[.int n t,.int L u,.int 1 v] }|.HB o u=>h.get? a=Y o/\fJ H h a u|.Rm q=>h.get? a=Y { cls :=.none,data :=.fields q }|.met f x=>h.get? a=Y (methodObj (.ref f) (.ref x))
 |.ext k=>k h/\(∃o,h.get? a=Y o)/\∀J z:cD,k J->(∀o,J.get? a=Y o->z.get? a=Y o)->k z
def nU(H:Hp)(h:cD):Prop:=∀a o,H a=Y o->fJ P w H h a o
end
section
variable {P:bt}
theorem fJ.lt(x:fJ P w H h a o):a<h.objs.size:=by
 cases o with
 |lst xs=>obtain⟨_,_,_,_,e⟩:=x;exact aJ e
 |tup xs=>obtain⟨_,_,_,p⟩:=x;exact p.lt
 |set S b=>obtain⟨o,_,_,_,e,_⟩:=x;exact aJ e
 |ins C dx j=>obtain⟨_,_,_,e,_⟩:=x;exact aJ e
 |own y=>obtain⟨_,e⟩:=x;exact aJ e
 |xd j=>obtain⟨_,⟨_,_,_,e,_⟩,_⟩:=x;exact aJ e
 |Ye n L=>obtain⟨_,_,_,e⟩:=x;exact aJ e
 |HB k u=>obtain⟨e,_⟩:=x;exact aJ e
 |Rm q=>exact aJ (show h.get? a=Y _ from x)
 |met f y=>exact aJ (show h.get? a=Y _ from x)
 |ext g=>obtain⟨_,⟨_,e⟩,_⟩:=x;exact aJ e
 |_=>obtain⟨_,_,_,_,o,_,_,e,_⟩:=x;exact aJ e
theorem Paired.VL{h:Type}{F G:h->g->Prop}{e:List h}(q:Paired F e c)(f:∀a b,F a b->G a b):Paired G e c:=by
 induction q with|nil=>exact .nil|cons r t i=>exact .cons (f _ _ r) i
theorem fJ.xq(x:fJ P w H h a o)(k:∀b u,(b=a∨H b=Y (.own a))->h.get? b=Y u->h'.get? b=Y u)(Q:∀b,H b=Y (.own a)->H' b=Y (.own a))(i:∀b xs,H b=Y (.tup xs)->H' b=Y (.tup xs)):fJ P w H' h' a o:=by
 induction o with
 |lst xs=>obtain⟨z,A,l,r,e⟩:=x;exact⟨z,A,l,r,k _ _ (.inl rfl) e⟩
 |tup xs=>obtain⟨z,A,r,m,e,c⟩:=x;exact⟨z,A,r,m,k _ _ (.inl rfl) e,c⟩
 |dK E=>obtain⟨z,y,F,r,m,es,s,e,c⟩:=x;exact⟨z,y,F,r,m,es,s,k _ _ (.inl rfl) e,c⟩
 |dT E=>obtain⟨z,y,xs,r,m,es,s,e,c⟩:=x;exact⟨z,y,xs,Paired.VL r λp g z=>⟨z.1,i _ _ z.2.1,z.2.2⟩,m,es,s,k _ _ (.inl rfl) e,c⟩
 |set S l=>obtain⟨m,es,s,t,e,c⟩:=x;exact⟨m,es,s,t,k _ _ (.inl rfl) e,c⟩
 |ins C dx j=>obtain⟨d,z,K,e,mA,⟨D,es,s,R,c⟩,r⟩:=x;exact⟨Q _ d,z,K,k _ _ (.inl rfl) e,mA,⟨D,es,s,k _ _ (.inr d) R,c⟩,r⟩
 |own y=>obtain⟨m,e⟩:=x;exact⟨m,k _ _ (.inl rfl) e⟩
 |xd j=>obtain⟨mA,⟨D,es,s,e,c⟩,r⟩:=x;exact⟨mA,⟨D,es,s,k _ _ (.inl rfl) e,c⟩,r⟩
 |Ye n L=>obtain⟨t,u,v,e⟩:=x;exact⟨t,u,v,k _ _ (.inl rfl) e⟩
 |HB m u ih=>obtain⟨e,g⟩:=x;exact⟨k _ _ (.inl rfl) e,ih g⟩
 |Rm q=>have e:h.get? a=Y { cls :=.none,data :=.fields q }:=x;show h'.get? a=Y { cls :=.none,data :=.fields q };exact k a _ (.inl rfl) e
 |met f y=>have e:h.get? a=Y (methodObj (.ref f) (.ref y)):=x;show h'.get? a=Y (methodObj (.ref f) (.ref y));exact k a _ (.inl rfl) e
 |ext T=>obtain⟨p,⟨o,e⟩,st⟩:=x;exact⟨st _ _ p λo g=>k _ _ (.inl rfl) g,⟨o,k _ _ (.inl rfl) e⟩,st⟩
theorem nU.lt(x:nU P w H h)(e:H a=Y o):a<h.objs.size:=(x a o e).lt
theorem nU.fresh(x:nU P w H h)(e:h.objs.size<=a):H a=none:=by
 rcases q:H a with _|u
 ·rfl
 exact absurd (bw (x.lt q) e) (eQ _)
theorem nU.kept(x:nU P w H h)(k:∀b u,h.get? b=Y u->h'.get? b=Y u):nU P w H h':=λa o e=>
 (x a o e).xq (λb u _ q=>k b u q) (λ_ q=>q) λ_ _ q=>q
theorem nU.laid(x:nU P w H h)(k:∀b u,h.get? b=Y u->h'.get? b=Y u)(m:h.objs.size<=a)(f:fJ P w (dg H a o) h' a o):nU P w (dg H a o) h':=λb u e=>by
 have g:=x.fresh m;by_cases l:b=a
 ·subst l;rw[br]at e;cases e;exact f
 ·rw[aZ l]at e;exact(x b u e).xq (λc v _ q=>k c v q) (λc q=>by rw[aZ (bI q g)];exact q) λc xs q=>by rw[aZ (bI q g)];exact q
end
def Rd(H:Hp)(a:az)(u:HO):Prop:=H a=Y u∨∃o,H a=Y (.HB o u)
theorem Rd.of(h:H a=Y u):Rd H a u :=.inl h
theorem Rd.ok{P:bt}{a:az}(r:Rd H a u)(x:nU P w H h):fJ P w H h a u:=by
 rcases r with r|⟨o,r⟩
 ·exact x a u r
 ·obtain⟨_,q⟩:=x a _ r;exact q
def WH:Option HO->Prop
 |some (.lst _)=>True|some (.dK _)=>True|some (.dT _)=>True|some (.set _ _)=>True|some (.ins _ _ _)=>True|some (.ext _)=>True|_=>False
section
variable {P:bt}
theorem nU.write(C:nU P w H h)(l:WH (H x))(A:e=x∨H e=Y (.own x))(k:∀b u,b≠e->h.get? b=Y u->h'.get? b=Y u)(s:∃u,h'.get? e=Y u)(p:fJ P w (dg H x o') h' x o'):nU P w (dg H x o') h':=λb u q=>by
 have f:∀c y,H c=Y (.own y)->c≠x:=λc y r z=>by subst z;rw[r]at l;exact l
 have g:∀c xs,H c=Y (.tup xs)->c≠x:=λc xs r z=>by subst z;rw[r]at l;exact l
 by_cases o:b=x
 ·subst o;rw[br]at q;cases q;exact p
 ·rw[aZ o]at q;by_cases a:b=e
  ·have t:H b=Y (.own x):=by
    rcases A with z|z
    ·exact absurd (a.trans z) o
    ·rw[a];exact z
   rw[q]at t;cases t;obtain⟨v,D⟩:=s;exact⟨v,by rw[a];exact D⟩
  ·refine(C b u q).xq (λc v m r=>k c v ?_ r) (λc r=>by rw[aZ (f c b r)];exact r) λc xs r=>by rw[aZ (g c xs r)];exact r
   rcases m with rfl|m
   ·exact a
   ·rintro rfl;rcases A with z|z
    ·exact f c b m z
    ·rw[m]at z;cases z;exact o rfl
end
structure Un(fs ex:List az)(H H':Hp)(h h':cD):Prop where
 keep:∀b o,h.get? b=some o->H b=none->b∉fs->b∉ex->h'.get? b=some o
 slot:∀b o,h.get? b=some o->H b=none->b∈fs->b∉ex->∃sl,h'.get? b=some { o with slots:=sl }
 free:∀b o,h.get? b=some o->H b=none->b∉ex->H' b=none
 there:∀b o,h.get? b=some o->b∉ex->∃o',h'.get? b=some o'
 BN:∀b xs,H b=some (.tup xs)->H' b=some (.tup xs)
 Az:∀b o u,H b=some (.HB o u)->H' b=some (.HB o u)
 BO:∀b ps,H b=some (.Rm ps)->∃more,H' b=some (.Rm (ps++more))
theorem Un.any(u:Un j ex H O h J){a:Obj}(q:h.get? b=Y a)(n:H b=M)(c:b∉ex):∃f,J.get? b=Y { a with slots:=f }:=by
 by_cases e:b∈j
 ·exact u.slot b a q n e c
 ·exact⟨a.slots,u.keep b a q n e c⟩
theorem Un.kept(k:∀b u,h.get? b=Y u->h'.get? b=Y u):Un j ex H H h h':=
 ⟨λb c a _ _ _=>k b c a,λb c a _ _ _=>⟨c.slots,k b c a⟩,λ_ _ _ n _=>n,λb c a _=>⟨c,k b c a⟩,λ_ _ a=>a,λ_ _ _ a=>a,λ_ q a=>⟨#[],by rw[a];simp⟩⟩
theorem Un.refl:Un j ex H H h h:=Un.kept λ_ _ q=>q
theorem Un.laid(k:∀b u,h.get? b=Y u->h'.get? b=Y u)(f:h.objs.size<=a)(e:H a=M):Un j ex H (dg H a o) h h' where
 keep:=λb u c _ _ _=>k b u c
 slot:=λb u c _ _ _=>⟨u.slots,k b u c⟩
 free:=λb u c n _=>by rw[aZ (bH (bw (aJ c) f))];exact n
 there:=λb u c _=>⟨u,k b u c⟩
 BN:=λb xs c=>by rw[aZ (bI c e)];exact c
 Az:=λb u xs c=>by rw[aZ (bI c e)];exact c
 BO:=λb q c=>⟨#[],by rw[aZ (bI c e),c];simp⟩
theorem Un.write(f:WH (H x))(s:e=x∨H e=Y (.own x))(k:∀b u,b≠e->h.get? b=Y u->h'.get? b=Y u)(l:∃u,h'.get? e=Y u):Un j ex H (dg H x o) h h':=by
 have m:∀b,H b=M->b≠x:=λb n z=>by subst z;rw[n]at f;exact f
 have p:∀b,H b=M->b≠e:=λb n z=>by
  subst z;rcases s with r|r
  ·exact m b n r
  ·rw[n]at r;cases r
 have g:∀b u,H b=Y u->¬WH (Y u)->b≠x:=λb u a nm z=>by subst z;rw[a]at f;exact nm f
 refine⟨λb u a n _ _=>k b u (p b n) a,λb u a n _ _=>⟨u.slots,k b u (p b n) a⟩,λb u a n _=>by rw[aZ (m b n)];exact n,λb u a _ =>?_,
  λb xs a=>by rw[aZ (g b _ a λz=>z)];exact a,λb u xs a=>by rw[aZ (g b _ a λz=>z)];exact a,λb q a=>⟨#[],by rw[aZ (g b _ a λz=>z),a];simp⟩⟩
 by_cases c:b=e
 ·subst c;exact l
 ·exact⟨u,k b u c a⟩
noncomputable def WY(h:cD)(H:Hp):List az:=(cw h.objs.size).filter λa=>(H a).isSome
def Ce(h:cD)(H:Hp):cD:=PySem.W.hideAll h (WY h H)
theorem JA(h:cD)(H:Hp):(Ce h H).objs.size=h.objs.size:=PySem.W.hideAll_size _ _
theorem MC(e:h.get? b=Y o)(n:H b=M):(Ce h H).get? b=Y o:=
 PySem.W.hideAll_get _ e λa=>by have q:(H b).isSome=true:=(iA.mp a).2;rw[n]at q;simp at q
theorem OX(e:(Ce h H).get? b=Y o):h.get? b=Y o/\H b=none:=by
 have a:h.get? b=Y o:=PySem.W.of_hideAll (WY h H) e;refine⟨a,?_⟩;rcases q:H b with _|x
 ·rfl
 have c:b∈WY h H:=iA.mpr ⟨List.mem_range.mpr (aJ a),by simp[q]⟩;have z:(Ce h H).get? b=none:=PySem.W.hideAll_none (WY h H) c;rw[z]at e;cases e
structure Mod(K:aT)(mg:aG->Option ak)(base:cD):Prop where
 Sw:K.In base
 glob:base.Ns aI mg
 blt:∃mb,base.Ns builtinsNs mb/\∀x:aG,x ≠ "__name__" ->mb x=fA x
 nolimit:base.NoLimit
structure Cx where
 prog:bt
 w:cZ
 K:aT
 mg:aG->Option ak
 base:cD
 A:gD
 N:List aG
 s₀:av
 H₀:Hp
 env:Env
 outer:List Env
 stack:List Env
 ex:List az
 fn:aG->Bool
 calm:Bool
 pn:List (az×Obj)
 xe:ak->av->Prop
noncomputable def yk(l:List Env):List az:=l.filterMap (·.frame)
abbrev Cx.fs(X:Cx):List az:=yk X.outer
def TX(a:Scope)(x:aG):Prop:=a.names.lookup x=Y .local∨a.names.lookup x=Y .cell∨a.names.lookup x=Y .free
def Loc(a:Scope)(x:aG):Prop:=a.names.lookup x=Y .local∨a.names.lookup x=Y .cell
def Look(a:Env)(h:cD)(m:aG->Option ak)(x:aG)(u:ak):Prop:=
 (a.kindOf x=Y .local/\m x=Y u)∨((a.kindOf x=Y .cell∨a.kindOf x=Y .free)/\∃c,a.cells.lookup x=Y c/\h.IsCell c (Y u))
structure Cx.Ok(X:Cx):Prop where
 mod:Mod X.K X.mg X.base
 kind:X.env.scope.kind=.function
 glob:X.env.globals=aI
 blt:X.env.builtins=builtinsNs
 above:X.s₀.heap.objs.size<=X.env.locals
 inj:∀x y c,X.env.cells.lookup x=some c->X.env.cells.lookup y=some c->x=y
 has:∀x,(X.env.kindOf x=some .cell∨X.env.kindOf x=some .free)->∃c,X.env.cells.lookup x=some c
 UJ:∀x c,X.fn x=true->X.env.cells.lookup x=some c->X.s₀.heap.objs.size<=c
 hd:X.calm=true->X.A.handled=none
 frames:X.A.frames=some X.stack
 Vd:X.stack=X.outer∨(X.stack=X.env::X.outer/\X.env.frame=some X.env.locals)
 Zh:∀b∈X.ex,b≠X.env.locals/\∀x c,X.env.cells.lookup x=some c->c≠b
 bs:∀b o,X.base.get? b=some o->X.s₀.heap.get? b=some o/\X.H₀ b=none
 Nl:X.base.objs.size<=X.s₀.heap.objs.size
 Jk:∀b o,X.base.get? b=some o->b∉X.ex
 MO:∀b∈X.ex,b∉X.fs
 wq:X.s₀.heap.FunFrames X.base X.outer
 QW:∀b∈X.fs,X.H₀ b=none
structure Inv(X:Cx)(tJ:List (az×Obj))(σ:List (Option V))(H:Hp)(s:av):Prop where
 ok:X.Ok
 os:s.os=X.s₀.os
 bare:AN s.gens
 base:Un X.fs X.ex X.H₀ H X.s₀.heap s.heap
 loc:∃m,s.heap.Ns X.env.locals m/\∀(i:Nat) (x:aG) (v:V),X.N[i]?=some x->σ[i]?=some (some v)->TX X.env.scope x->∃u,RelV v u/\Look X.env s.heap m x u
 cell:∀x c,X.env.cells.lookup x=some c->∃v,s.heap.IsCell c v
 free:H X.env.locals=none
 ni:∀x c,X.env.cells.lookup x=some c->H c=none
 pin:∀p∈X.pn++tJ,s.heap.get? p.1=some p.2/\H p.1=none/\p.1≠X.env.locals/\p.1∉X.fs/\∀v,p.2.data ≠ .cell v
 eW:nU X.prog X.w H s.heap
 len:σ.length=X.N.length
section
variable {X:Cx}{s:av}
theorem Cx.Ok.Yz(a:X.Ok)(e:X.base.get? b=Y o):b∉X.fs:=λc=>by
 have:=(a.wq.mem c).1;rw[e]at this;cases this
theorem Inv.bs(I:Inv X B U H s):∀b o,X.base.get? b=Y o->s.heap.get? b=Y o/\H b=none:=λb o e=>
 ⟨I.base.keep b o (I.ok.bs b o e).1 (I.ok.bs b o e).2 (I.ok.Yz e) (I.ok.Jk b o e),I.base.free b o (I.ok.bs b o e).1 (I.ok.bs b o e).2 (I.ok.Jk b o e)⟩
theorem Inv.bk(I:Inv X B U H s):∀b o,X.base.get? b=Y o->s.heap.get? b=Y o:=λb o e=>(I.bs b o e).1
theorem Inv.mod(I:Inv X B U H s):Mod X.K X.mg X.base:=I.ok.mod
theorem Inv.rj(I:Inv X B U H s):X.K.In s.heap:=I.ok.mod.Sw.keeps I.bk
theorem Inv.fr(I:Inv X B U H s):∃m,Fr X.base X.env.locals s.heap m:=
 let ⟨m,a,_⟩:=I.loc
 ⟨m,a,I.bk,bK I.ok.Nl I.ok.above⟩
theorem Inv.lt(I:Inv X B U H s):X.env.locals<s.heap.objs.size:=let ⟨_,a,_⟩:=I.loc;a.lt
theorem Inv.sz(I:Inv X B U H s):X.s₀.heap.objs.size<=s.heap.objs.size:=bK I.ok.above (fR I.lt)
theorem Inv.Se(I:Inv X B U H s)(h:s.heap.objs.size<=a):a∉X.fs:=λc=>by
 obtain⟨_,o,b,_⟩:=I.ok.wq.mem c;exact absurd (bw (aJ b) (bK I.sz h)) (eQ _)
theorem Inv.XI(I:Inv X B U H s):∀x c,X.env.cells.lookup x=Y c->c≠X.env.locals:=λx c e z=>by
 obtain⟨v,o,f,g⟩:=I.cell x c e;obtain⟨m,⟨o',es,h,a,b,_⟩,_⟩:=I.loc;rw[z,a]at f;cases f;rw[b]at g;cases g
theorem Inv.wq(I:Inv X B U H s):s.heap.FunFrames X.base X.outer:=by
 have g:∀(l:List Env),(∀b∈yk l,b∈X.fs)->X.s₀.heap.FunFrames X.base l->s.heap.FunFrames X.base l:=by
  intro l
  induction l with
  |nil=>intro _ _;trivial
  |cons w r ih=>
   intro h t;obtain⟨u,⟨L,o,a,p,m,v⟩,k⟩:=t;have f:L∈X.fs:=h L (by unfold yk;rw[qo,a];exact ay);obtain⟨x,e⟩:=I.base.slot L o m (I.ok.QW L f) f λz=>I.ok.MO L z f
   exact⟨u,⟨L,_,a,p,e,v⟩,ih (λb c=>h b (by unfold yk;rw[qo,a];exact aw _ c)) k⟩
 exact g X.outer (λ_ c=>c) I.ok.wq
theorem Inv.stack(I:Inv X B U H s):s.heap.FunFrames X.base X.stack:=by
 rcases I.ok.Vd with e|⟨e,b⟩
 ·rw[e];exact I.wq
 ·rw[e];obtain⟨m,a,_⟩:=I.loc;refine .cons (by rw[I.ok.kind];decide) b a ?_ I.wq;exact Heap.get?_none_of_le (bK I.ok.Nl I.ok.above)
theorem Inv.ua(I:Inv X B U H s):∀b∈yk X.stack,b∈X.env.locals::X.fs:=λb a=>by
 rcases I.ok.Vd with e|⟨e,c⟩
 ·rw[e]at a;exact aw _ a
 ·rw[e]at a;unfold yk at a;rw[qo,c]at a;exact a
theorem Inv.xY(I:Inv X B U H s):∀b∈yk X.stack,H b=none:=λb a=>by
 rcases aW.mp (I.ua b a) with e|a
 ·rw[e];exact I.free
 ·obtain⟨_,o,c,_⟩:=I.ok.wq.mem a;exact I.base.free b o c (I.ok.QW b a) λz=>I.ok.MO b z a
theorem Inv.step{g':Array GenState}{t':Nat}{d':Drawn}{ch:List az}(I:Inv X B U H s)(w:∀b∈ch,(b∈X.ex∨X.s₀.heap.objs.size<=b)/\b≠X.env.locals/\(∀x c,X.env.cells.lookup x=Y c->c≠b)/\∀p∈X.pn++B,p.1≠b)(t:∀b o,b≠X.env.locals->b∉X.fs->b∉ch->s.heap.get? b=Y o->H b=M->h'.get? b=Y o)(E:∀b o,b≠X.env.locals->b∈X.fs->b∉ch->s.heap.get? b=Y o->H b=M->∃sl,h'.get? b=Y { o with slots:=sl })(g:∀b o,b∉ch->s.heap.get? b=Y o->H b=M->H' b=M)(F:∀b o,b∉ch->s.heap.get? b=Y o->∃o',h'.get? b=Y o')(P:∀b xs,H b=Y (.tup xs)->H' b=Y (.tup xs))(T:∀b o u,H b=Y (.HB o u)->H' b=Y (.HB o u))(Q:∀b q,H b=Y (.Rm q)->∃S,H' b=Y (.Rm (q++S)))(ns:∀m,s.heap.Ns X.env.locals m->h'.Ns X.env.locals m)(eW:nU X.prog X.w H' h')(hg:AN g'):
  Inv X B U H' { s with heap:=h',gens:=g',drawn:=d',toks:=t' }:=by
 have R:∀b o,X.s₀.heap.get? b=Y o->b≠X.env.locals:=λb o e=>bH (bw (aJ e) I.ok.above)
 have C:∀b o,X.s₀.heap.get? b=Y o->b∉X.ex->b∉ch:=λb o e f K=>by
  rcases(w b K).1 with z|z
  ·exact f z
  ·exact absurd (bw (aJ e) z) (eQ _)
 have A:∀x c,X.env.cells.lookup x=Y c->∀v,s.heap.IsCell c v->h'.IsCell c v:=λx c e v ⟨o,j,hd⟩=>by
  have h:c∉ch:=λz=>(w c z).2.2.1 x c e rfl
  by_cases hc:c∈X.fs
  ·obtain⟨sl,a⟩:=E c o (I.XI x c e) hc h j (I.ni x c e);exact⟨_,a,hd⟩
  ·exact⟨o,t c o (I.XI x c e) hc h j (I.ni x c e),hd⟩
 refine⟨I.ok,I.os,hg,⟨λb o e n K f =>?_,λb o e n K f =>?_,λb o e n f =>?_,λb o e f =>?_,λb xs e=>P b xs (I.base.BN b xs e),λb o xs e=>T b o xs (I.base.Az b o xs e),λb q e =>?_⟩,?_,λx c e =>?_,?_,λx c e =>?_,λp hp =>?_,eW,I.len⟩
 ·exact t b o (R b o e) K (C b o e f) (I.base.keep b o e n K f) (I.base.free b o e n f)
 ·obtain⟨sl,D⟩:=I.base.slot b o e n K f;obtain⟨sl',e2⟩:=E b _ (R b o e) K (C b o e f) D (I.base.free b o e n f);exact⟨sl',e2⟩
 ·obtain⟨o',D⟩:=I.base.there b o e f;exact g b o' (C b o e f) D (I.base.free b o e n f)
 ·obtain⟨o',D⟩:=I.base.there b o e f;exact F b o' (C b o e f) D
 ·obtain⟨m1,D⟩:=I.base.BO b q e;obtain⟨m2,e2⟩:=Q b _ D;exact⟨m1++m2,by rw[e2,Array.append_assoc]⟩
 ·obtain⟨m,hn,hl⟩:=I.loc;refine⟨m,ns m hn,λi x v D e2 e3 =>?_⟩;obtain⟨u,r,l⟩:=hl i x v D e2 e3;refine⟨u,r,?_⟩;rcases l with l|⟨k,c,e,z⟩
  ·exact .inl l
  ·exact .inr ⟨k,c,e,A x c e _ z⟩
 ·obtain⟨v,z⟩:=I.cell x c e;exact⟨v,A x c e v z⟩
 ·obtain⟨m,⟨o,_,_,j,_⟩,_⟩:=I.loc;exact g _ o (λz=>(w _ z).2.1 rfl) j I.free
 ·obtain⟨v,o,j,hd⟩:=I.cell x c e;exact g c o (λz=>(w c z).2.2.1 x c e rfl) j (I.ni x c e)
 ·obtain⟨e,n,ne,nf,d⟩:=I.pin p hp;have h:p.1∉ch:=λz=>(w p.1 z).2.2.2 p hp rfl
  exact⟨t p.1 p.2 ne nf h e n,g p.1 p.2 h e n,ne,nf,d⟩
theorem Inv.un{t':Nat}(I:Inv X B U H s)(u:Un X.fs [] H H' s.heap h')(c:nU X.prog X.w H' h'):Inv X B U H' { s with heap:=h',toks:=t' }:=by
 obtain⟨m,⟨o,es,x,k,r⟩,_⟩:=id I.loc;obtain⟨v,t⟩:=u.any k I.free (by simp);exact I.step (g':=s.gens) (d':=s.drawn) (ch:=[]) (λ_ z=>nomatch z) (λb o _ f _ e n=>u.keep b o e n f (by simp)) (λb o _ f _ e n=>u.slot b o e n f (by simp)) (λb o _ e n=>u.free b o e n (by simp)) (λb o _ e=>u.there b o e (by simp)) u.BN u.Az u.BO (λw p=>by obtain⟨o',g,h,a,l⟩:=p;rw[k]at a;cases a;exact⟨_,g,h,t,l⟩) c I.bare
theorem Inv.call{g':Array GenState}{t':Nat}{d':Drawn}{ch:List az}(I:Inv X B U H s)(u:Un (yk X.stack) ch H H' s.heap h')(h:nU X.prog X.w H' h')(C:AN g')(g:∀b∈ch,(b∈X.ex∨X.s₀.heap.objs.size<=b)/\b≠X.env.locals/\(∀x c,X.env.cells.lookup x=Y c->c≠b)/\∀p∈X.pn++B,p.1≠b):
  Inv X B U H' { s with heap:=h',gens:=g',drawn:=d',toks:=t' }:=by
 obtain⟨m,⟨o,es,K,v,r⟩,_⟩:=id I.loc;obtain⟨E,k⟩:=u.any v I.free λz=>(g _ z).2.1 rfl
 exact I.step (ch:=ch) g (λb o k D a e n=>u.keep b o e n (λz=>(aW.mp (I.ua b z)).elim k D) a) (λb o _ _ a e n=>u.any e n a) (λb o a e n=>u.free b o e n a) (λb o a e=>u.there b o e a) u.BN u.Az u.BO (λF A=>by obtain⟨o',l,t,f,w⟩:=A;rw[v]at f;cases f;exact⟨_,l,t,k,w⟩) h C
theorem Inv.turned{t':Nat}(I:Inv X B U H s)(k:∀b o,b≠g->s.heap.get? b=Y o->h'.get? b=Y o)(A:H g=M)(t:g≠X.env.locals)(J:g∈X.ex∨X.s₀.heap.objs.size<=g)(z:∀x c,X.env.cells.lookup x=Y c->c≠g)(E:∀p∈X.pn++B,p.1≠g):Inv X B U H { s with heap:=h',toks:=t' }:=by
 have l:∀b u,H b=Y u->b≠g:=λb u e f=>by rw[f,A]at e;cases e
 refine I.step (g':=s.gens) (d':=s.drawn) (ch:=[g]) (λb D =>?_) (λb o _ _ h e _=>k b o (λf=>h (by simp[f])) e) (λb o _ _ h e _=>⟨o.slots,k b o (λf=>h (by simp[f])) e⟩) (λ_ _ _ _ n=>n)
  (λb o h e=>⟨o,k b o (λf=>h (by simp[f])) e⟩) (λ_ _ e=>e) (λ_ _ _ e=>e) (λb q e=>⟨#[],by rw[e];simp⟩) (λm C =>?_) (λb u e =>?_) I.bare
 ·have e:b=g:=by simpa using D
  subst e;exact⟨J,t,z,E⟩
 ·obtain⟨o,es,F,w,r⟩:=C;exact⟨o,es,F,k _ o (bG t) w,r⟩
 ·refine(I.eW b u e).xq (λc v h a=>k c v ?_ a) (λ_ a=>a) λ_ _ a=>a
  rcases h with f|f
  ·rw[f];exact l b u e
  ·exact l c _ f
theorem Inv.tok(I:Inv X B U H s)(t:Nat):Inv X B U H { s with toks:=t }:=I.un (h':=s.heap) (t':=t) Un.refl I.eW
theorem Inv.kept{t':Nat}(I:Inv X B U H s)(k:∀b u,s.heap.get? b=Y u->h'.get? b=Y u):Inv X B U H { s with heap:=h',toks:=t' }:=I.un (Un.kept k) (I.eW.kept k)
theorem Inv.laid{a:az}{o:HO}{t':Nat}(I:Inv X B U H s)(k:∀b u,s.heap.get? b=Y u->h'.get? b=Y u)(e:s.heap.objs.size<=a)(c:fJ X.prog X.w (dg H a o) h' a o):
  Inv X B U (dg H a o) { s with heap:=h',toks:=t' }:=I.un (Un.laid k e (I.eW.fresh e)) (I.eW.laid k e c)
theorem Inv.write{x e:az}{h:Nat}(I:Inv X B U H s)(f:WH (H x))(g:e=x∨H e=Y (.own x))(k:∀b u,b≠e->s.heap.get? b=Y u->h'.get? b=Y u)(a:∃u,h'.get? e=Y u)(c:fJ X.prog X.w (dg H x o) h' x o):Inv X B U (dg H x o) { s with heap:=h',toks:=h }:=I.un (Un.write f g k a) (I.eW.write f g k a c)
theorem Inv.weak(I:Inv X B U H s)(e:a.length=U.length)(w:∀(i:Nat) v,a[i]?=Y (Y v)->U[i]?=Y (Y v)):Inv X B a H s:=
 ⟨I.ok,I.os,I.bare,I.base,let ⟨m,c,b⟩:=I.loc;⟨m,c,λi x v h g f=>b i x v h (w i v g) f⟩,I.cell,I.free,I.ni,I.pin,I.eW,e.trans I.len⟩
theorem Inv.x_(I:Inv X B U H s)(h:∀p∈a,s.heap.get? p.1=Y p.2/\H p.1=M/\p.1≠X.env.locals/\p.1∉X.fs/\∀v,p.2.data ≠ .cell v):Inv X a U H s:=
 ⟨I.ok,I.os,I.bare,I.base,I.loc,I.cell,I.free,I.ni,λp b=>(bq.mp b).elim (λz=>I.pin p (bc _ z)) (h p),I.eW,I.len⟩
theorem y6{N:List aG}(c:N.Nodup){j:Nat}(a:N[i]?=Y x)(b:N[j]?=Y x):i=j:=by
 obtain⟨J,f⟩:=au.mp a;obtain⟨z,e⟩:=au.mp b;exact(List.getElem_inj c).mp (f.trans e.symm)
theorem AV{G:Uh}{A:gD}{i:Nat}{v:V}(I:Inv X B U H s)(hN:X.N.Nodup)(L:X.N[i]?=Y x)(w:Loc X.env.scope x)(r:RelV v u)(h:∀s',Inv X B (U.set i (Y v)) H s'->(∃a,fD a s.heap s'.heap/\(a=X.env.locals∨X.env.cells.lookup x=Y a))->Q () s')(hf:X.fn x=Z'∨X.env.scope.names.lookup x=Y .local:=by first|exact .inl rfl|exact .inr rfl|assumption):be G A (storeName X.env x u) Q E s:=by
 obtain⟨m,hn,hl⟩:=id I.loc;have Y7:(X.env.scope.kind == .class||(X.env.scope.kind == .module&&X.env.locals != X.env.globals))=false:=by rw[I.ok.kind];rfl
 have K:i<U.length:=by rw[I.len];exact(au.mp L).1
 have T:=I.XI;have g:∀ {a:az}{h':cD},(∃o,s.heap.get? a=Y o/\H a=M)->fD a s.heap h'->nU X.prog X.w H h':=fun {a h'} ha f b ob e=>by
  obtain⟨_,_,C⟩:=ha;refine(I.eW b ob e).xq (λc w' t q=>(f.2 c ?_).trans q) (λ_ q=>q) λ_ _ q=>q
  rintro rfl;rcases t with rfl|t
  ·rw[C]at e;cases e
  ·rw[C]at t;cases t
 rcases w with F|F
 ·refine wpAny_storeName_local F hn (λh' hn' f =>?_) Y7;obtain⟨oL,_,_,hoL,_⟩:=id hn;refine h _ ⟨I.ok,I.os,I.bare,⟨λb o e n S w =>?_,λb o e n S w =>?_,I.base.free,λb o e w =>?_,I.base.BN,I.base.Az,I.base.BO⟩,⟨_,hn',λj y v' l D e3 =>?_⟩,λy c e =>?_,I.free,I.ni,λp hp =>?_,g ⟨oL,hoL,I.free⟩ f,by simpa using I.len⟩ ⟨_,f,.inl rfl⟩
  ·exact(f.2 b (bH (bw (aJ e) I.ok.above))).trans (I.base.keep b o e n S w)
  ·obtain⟨sl,l⟩:=I.base.slot b o e n S w;exact⟨sl,(f.2 b (bH (bw (aJ e) I.ok.above))).trans l⟩
  ·obtain⟨o',l⟩:=I.base.there b o e w;exact⟨o',(f.2 b (bH (bw (aJ e) I.ok.above))).trans l⟩
  ·by_cases P:j=i
   ·subst P;rw[L]at l;cases l;rw[bj K]at D;cases D;exact⟨u,r,.inl ⟨F,by simp⟩⟩
   ·rw[aj (bG P)]at D;obtain⟨u',r',q⟩:=hl j y v' l D e3;refine⟨u',r',?_⟩;rcases q with⟨k,e⟩|⟨k,c,e,z⟩
    ·refine .inl ⟨k,?_⟩;have:y≠x:=λe=>P (y6 hN l (e ▸ L))
     simp[this,e]
    ·exact .inr ⟨k,c,e,z.sameBut f (T y c e)⟩
  ·obtain⟨w',z⟩:=I.cell y c e;exact⟨w',z.sameBut f (T y c e)⟩
  ·obtain⟨e,n,ne,nf,d⟩:=I.pin p hp;exact⟨(f.2 p.1 ne).trans e,n,ne,nf,d⟩
 ·have R:X.fn x=true:=by
   rcases hf with z|z
   ·exact z
   ·rw[z]at F;cases F
  obtain⟨c,t⟩:=I.ok.has x (.inl F);obtain⟨w',z⟩:=I.cell x c t;refine wpAny_storeName_cell I.ok.kind F t z (λh' hc' f =>?_);obtain⟨oc,hoc,YX⟩:=id z;refine h { s with heap:=h' } ⟨I.ok,I.os,I.bare,⟨λb o e n S w =>?_,λb o e n S w =>?_,I.base.free,λb o e w =>?_,I.base.BN,I.base.Az,I.base.BO⟩,⟨m,hn.sameBut f (bG (T x c t)),λj y v' l D e3 =>?_⟩,λy c' e =>?_,I.free,I.ni,λp hp =>?_,g ⟨oc,hoc,I.ni x c t⟩ f,by simpa using I.len⟩ ⟨c,f,.inr t⟩
  ·exact(f.2 b (bH (bw (aJ e) (I.ok.UJ x c R t)))).trans (I.base.keep b o e n S w)
  ·obtain⟨sl,l⟩:=I.base.slot b o e n S w;exact⟨sl,(f.2 b (bH (bw (aJ e) (I.ok.UJ x c R t)))).trans l⟩
  ·obtain⟨o',l⟩:=I.base.there b o e w;exact⟨o',(f.2 b (bH (bw (aJ e) (I.ok.UJ x c R t)))).trans l⟩
  ·by_cases P:j=i
   ·subst P;rw[L]at l;cases l;rw[bj K]at D;cases D;exact⟨u,r,.inr ⟨.inl F,c,t,hc'⟩⟩
   ·rw[aj (bG P)]at D;obtain⟨u',r',q⟩:=hl j y v' l D e3;refine⟨u',r',?_⟩;rcases q with q|⟨k,c',e,z'⟩
    ·exact .inl q
    ·refine .inr ⟨k,c',e,z'.sameBut f ?_⟩;rintro rfl;exact P (y6 hN l (I.ok.inj _ _ _ e t ▸ L))
  ·by_cases Xj:c'=c
   ·subst Xj;exact⟨_,hc'⟩
   ·obtain⟨w2,z2⟩:=I.cell y c' e;exact⟨w2,z2.sameBut f Xj⟩
  ·obtain⟨e,n,ne,nf,d⟩:=I.pin p hp;refine⟨(f.2 p.1 ?_).trans e,n,ne,nf,d⟩;intro q;rw[q,hoc]at e;have q':oc=p.2:=bM e;exact d w' (by rw[<- q'];exact YX)
theorem u0{d:Uh}{v:V}(I:Inv X B U H s)(c:X.N.Nodup)(L:X.N[i]?=Y x)(a:Loc X.env.scope x)(r:RelV v u)(h:∀s',Inv X B (U.set i (Y v)) H s'->Q () s')(b:X.fn x=Z'∨X.env.scope.names.lookup x=Y .local:=by first|exact .inl rfl|exact .inr rfl|assumption):be d A (storeName X.env x u) Q E s:=
 AV I c L a r (λs' e _=>h s' e) b
theorem Inv.zQ{s':av}{g:List az}(I:Inv X B U H s)(k:s'.os=s.os)(u:Un (yk X.stack) g H H' s.heap s'.heap)(a:nU X.prog X.w H' s'.heap)(l:AN s'.gens)(f:∀b∈g,(b∈X.ex∨X.s₀.heap.objs.size<=b)/\b≠X.env.locals/\(∀x c,X.env.cells.lookup x=Y c->c≠b)/\∀p∈X.pn++B,p.1≠b):Inv X B U H' s':=by
 obtain⟨h',m,o,h,o'⟩:=s';have e:o'=s.os:=k;subst e;exact I.call (g':=m) (t':=h) (d':=o) u a l f
end
abbrev XK:=ak->Option az->Hp->Prop
abbrev St:=List (Option V)
abbrev VK:=V->Hp->Prop
abbrev TE:=St->Hp->VK->Prop
abbrev TT:=St->Hp->(Bool->Hp->Prop)->Prop
abbrev TA:=St->Hp->(List V->Hp->Prop)->Prop
structure Ends where
 nx:St->Hp->Prop
 rt:VK
 bk:St->Hp->Prop:=λ_ _=>False
 ct:St->Hp->Prop:=λ_ _=>False
abbrev TS:=Ends->St->Hp->Prop
inductive EP (X:Cx) (B:List (az×Obj)) (U:St) (Q:VK) (u:ak) (s':av):Prop
 |mk v H':Inv X B U H' s'->RelV v u->Q v H'->EP X B U Q u s'
inductive TP (X:Cx) (B:List (az×Obj)) (U:St) (Q:Bool->Hp->Prop) (b:Bool) (s':av):Prop
 |mk H':Inv X B U H' s'->Q b H'->TP X B U Q b s'
inductive AP (X:Cx) (B:List (az×Obj)) (U:St) (Q:List V->Hp->Prop) (b:List ak) (s':av):Prop
 |mk a H':Inv X B U H' s'->cg a b->Q a H'->AP X B U Q b s'
def SP(X:Cx)(B:List (az×Obj))(D:Ends)(f:Flow)(s':av):Prop:=
 match f with
 |.next=>∃a H',Inv X B a H' s'/\D.nx a H'|.brk=>∃a H',Inv X B a H' s'/\D.bk a H'|.cont=>∃a H',Inv X B a H' s'/\D.ct a H'|.ret u=>∃v a H',Inv X B a H' s'/\RelV v u/\D.rt v H'
def PE(X:Cx)(e:Expr)(t:TE):Prop:=
 ∀(B:List (az×Obj)) (s:av) (U:St) (H:Hp) (Q:VK),Inv X B U H s->t U H Q->be (aU X.prog X.w) X.A (eval e X.env) (EP X B U Q) X.xe s
def PT(X:Cx)(e:Expr)(t:TT):Prop:=
 ∀(B:List (az×Obj)) (s:av) (U:St) (H:Hp) (Q:Bool->Hp->Prop),Inv X B U H s->t U H Q->be (aU X.prog X.w) X.A (isTrue e X.env (eval e X.env)) (TP X B U Q) X.xe s
def PW(X:Cx)(e:Expr)(t:TT):Prop:=
 ∀(a:Sem ak) (B:List (az×Obj)) (s:av) (U:St) (H:Hp) (Q:Bool->Hp->Prop),Inv X B U H s->t U H Q->be (aU X.prog X.w) X.A (isTrue e X.env a) (TP X B U Q) X.xe s
theorem PW.pt{X:Cx}(h:PW X e t):PT X e t:=h _
def PA(X:Cx)(es:List Expr)(t:TA):Prop:=
 ∀(G:Pos) (B:List (az×Obj)) (s:av) (U:St) (H:Hp) (Q:List V->Hp->Prop),Inv X B U H s->t U H Q->be (aU X.prog X.w) X.A (spliced (cv G (ao es X.env))) (AP X B U Q) X.xe s
def PS(X:Cx)(st:qP)(t:TS):Prop:=
 ∀(B:List (az×Obj)) (s:av) (U:St) (H:Hp) (D:Ends),Inv X B U H s->t D U H->be (aU X.prog X.w) X.A (exec st X.env) (SP X B D) X.xe s
def oP(X:Cx)(st:List qP)(t:TS):Prop:=
 ∀(B:List (az×Obj)) (s:av) (U:St) (H:Hp) (D:Ends),Inv X B U H s->t D U H->be (aU X.prog X.w) X.A (execs st X.env) (SP X B D) X.xe s
theorem fE{b:Uh}{s:av}(h:be b A t Q E s)(e:∀a s,Q a s->c a s):be b A t c E s:=dS h e λ_ _ x=>x
section
variable {X:Cx}
theorem bin(C:PE X a N)(A:PE X b y){s:av}{R:V->V->Hp->Prop}(I:Inv X B U H s)(h:N U H λx O=>y U O λc d=>R x c d){f:ak->ak->Sem l}(w:∀v u k x c d,Inv X B U d k->RelV x v->RelV c u->R x c d->be (aU X.prog X.w) X.A (f v u) Q X.xe k):
  be (aU X.prog X.w) X.A (eval a X.env) (λv g=>be (aU X.prog X.w) X.A (eval b X.env) (λu e=>be (aU X.prog X.w) X.A (f v u) Q X.xe e) X.xe g) X.xe s:=by
 refine fE (C B s U H _ I h) ?_;rintro v m ⟨x,O,E,p,t⟩;refine fE (A B m U O _ E t) ?_;rintro u k ⟨c,d,D,o,r⟩;exact w v u k x c d D p o r
def iC(i:Nat):TE:=λU H Q=>∃v,U[i]?=Y (Y v)/\Q v H
def tC(v:V):TE:=λ_ H Q=>Q v H
theorem RU(A:X.N[i]?=Y x)(o:TX X.env.scope x)(f:(x==("__debug__" : aG))=false:=by decide)(g:(x==("__classdict__" : aG))=false:=by decide):PE X (.Name x G) (iC i):=by
 intro B s U H Q I h;obtain⟨v,e,h⟩:=h;obtain⟨m,p,w⟩:=I.loc;obtain⟨u,r,l⟩:=w i x v A e o;have lS:EP X B U Q u s:=⟨v,H,I,r,h⟩;rcases l with⟨b,t⟩|⟨b,c,k,a⟩
 ·exact wpAny_Name (wpAny_loadName_local I.ok.kind b p t lS) f
 ·rcases b with b|b
  ·exact wpAny_Name (wpAny_loadName_cell I.ok.kind b k a lS) f
  ·exact wpAny_Name (wpAny_loadName_free I.ok.kind b k a lS g) f
theorem LF{i j G}:PE X (.Constant (.int i) j G) (tC (.int i)):=λ_ _ _ H _ I h=>wpAny_Constant_int ⟨.int i,H,I.tok _,⟨_,rfl⟩,h⟩
theorem Vw{b j G}:PE X (.Constant (.bool b) j G) (tC (.bl b)):=λ_ _ _ H _ I h=>Constant_bool ⟨.bl b,H,I,rfl,h⟩
theorem RX{j G}:PE X (.Constant .none j G) (tC .dJ):=λ_ _ _ H _ I h=>Constant_none ⟨.dJ,H,I,rfl,h⟩
theorem RV{x j G}:PE X (.Constant (.str x) j G) (tC (.str x)):=λ_ _ _ H _ I h=>Calls.Constant_str ⟨.str x,H,I.tok _,⟨_,rfl⟩,h⟩
def Gl(X:Cx)(x:aG):Prop:=X.env.kindOf x=Y .globalImplicit
theorem sP{s:av}(I:Inv X B U H s)(b:Gl X x)(a:X.mg x=Y u)(h:Q u s)(c:(x==("__debug__" : aG))=false:=by decide):be (aU X.prog X.w) X.A (eval (.Name x G) X.env) Q E s:=
 Uo I.ok.kind b (Calls.loadGlobal_global (by rw[I.ok.glob];exact I.mod.glob.keeps I.bk) a h) c
theorem qC{s:av}(I:Inv X B U H s)(e:Gl X x)(c:X.mg x=M)(a:fA x=Y u)(h:Q u s)(b:x ≠ "__name__" :=by decide)(f:(x==("__debug__" : aG))=false:=by decide):be (aU X.prog X.w) X.A (eval (.Name x G) X.env) Q E s:=by
 obtain⟨g,J,z⟩:=I.mod.blt;exact Uo I.ok.kind e (Calls.loadGlobal_builtin (by rw[I.ok.glob];exact I.mod.glob.keeps I.bk) c (by rw[I.ok.blt];exact J.keeps I.bk) ((z x b).trans a) h) f
theorem sN{v:V}(b:Gl X x)(a:X.mg x=Y u)(r:RelV v u)(c:(x==("__debug__" : aG))=false:=by decide):PE X (.Name x G) (tC v):=
 λ_ _ _ H _ I h=>sP I b a ⟨v,H,I,r,h⟩ c
theorem Hm{v:V}(e:Gl X x)(c:X.mg x=M)(a:fA x=Y u)(r:RelV v u)(b:x ≠ "__name__" :=by decide)(f:(x==("__debug__" : aG))=false:=by decide):PE X (.Name x G) (tC v):=
 λ_ _ _ H _ I h=>qC I e c a ⟨v,H,I,r,h⟩ b f
def PC(X:Cx)(f:CmpOp)(a b:Expr)(t:TE):Prop:=
 ∀(B:List (az×Obj)) (s:av) (U:St) (H:Hp) (Q:VK),Inv X B U H s->t U H Q ->
  be (aU X.prog X.w) X.A (eval a X.env) (λv e=>be (aU X.prog X.w) X.A (eval b X.env) (λu c=>be (aU X.prog X.w) X.A (gr f v u) (EP X B U Q) X.xe c) X.xe e) X.xe s
theorem L8(b:Expr){a:CmpOp}(h:a ≠ .In)(z:a ≠ .NotIn):gy a b=false:=by
 have e:(a==CmpOp.In)=false:=by cases a<;>first|rfl|exact absurd rfl h
 have c:(a==CmpOp.NotIn)=false:=by cases a<;>first|rfl|exact absurd rfl z
 cases b<;>simp[gy,e,c]
def tB(t:TE):TT:=λU H Q=>t U H λx O=>∃c,x=.bl c/\Q c O
theorem RL(h:PC X e a b t)(J:gy e b=false:=by first|exact L8 _ (by decide) (by decide)|rfl):PT X (.Compare a [e] [b] G) (tB t):=by
 intro B s U H Q I hw;refine wpAny_isTrue_Compare1 (fE (h B s U H _ I hw) λv o J=>fE J λu m z=>fE z ?_) J;rintro c l ⟨x,O,k,f,g⟩;obtain⟨d,rfl,q⟩:=g;cases f;exact gW ⟨O,k,q⟩
theorem RK(h:PE X e t)(f:∀a,isTrue e X.env a=(do let v <- a;lO e.pos;jw [v] (truthy v)):=by intro _;rfl):PT X e (tB t):=by
 intro B s U H Q I hw;refine isTrue_plain (fE (h B s U H _ I hw) ?_) (f _);rintro v k ⟨x,O,g,b,c⟩;obtain⟨d,rfl,q⟩:=c;cases b;exact gW ⟨O,g,q⟩
variable {xT:List Expr}
def X8(t u:TT):TT:=λU H Q=>t U H λc O=>if c=Z' then u U O Q else Q Z_ O
def X4(t u:TT):TT:=λU H Q=>t U H λc O=>if c=Z' then Q Z' O else u U O Q
def U6(t:TT):TT:=λU H Q=>t U H λc O=>Q (!c) O
theorem Oy(b:PT X a tA):PW X (.BoolOp .And [a] G) tA:=by
 intro f B s U H Q I h;refine isTrue_and (fE (b B s U H Q I h) λc g e =>?_);cases c with
 |true=>exact isTrue_and_nil e|false=>exact e
theorem Ln(b:PT X a tA):PW X (.BoolOp .Or [a] G) tA:=by
 intro f B s U H Q I h;refine isTrue_or (fE (b B s U H Q I h) λc g e =>?_);cases c with
 |false=>exact isTrue_or_nil e|true=>exact e
theorem RJ(m:PT X a tA)(l:PW X (.BoolOp .And (b::xT) G) X6):PW X (.BoolOp .And (a::b::xT) G) (X8 tA X6):=by
 intro g B s U H Q I h;refine isTrue_and (fE (m B s U H _ I h) ?_);rintro c k ⟨O,f,e⟩;cases c with
 |true=>exact l g B k U O Q f e|false=>exact⟨O,f,e⟩
theorem Lo(m:PT X a tA)(l:PW X (.BoolOp .Or (b::xT) G) X6):PW X (.BoolOp .Or (a::b::xT) G) (X4 tA X6):=by
 intro g B s U H Q I h;refine isTrue_or (fE (m B s U H _ I h) ?_);rintro c k ⟨O,f,e⟩;cases c with
 |true=>exact⟨O,f,e⟩|false=>exact l g B k U O Q f e
theorem Lr(b:PT X a tA):PT X (.UnaryOp .Not a G) (U6 tA):=by
 intro B s U H Q I h;exact isTrue_not (fE (b B s U H (λc O=>Q (!c) O) I h) (by rintro c k ⟨O,f,e⟩;exact⟨O,f,e⟩))
def Vb(N y:TE):TE:=λU H Q=>N U H λx O=>∃c,x=.bl c/\if c=Z' then y U O Q else Q (.bl Z_) O
def X3(N y:TE):TE:=λU H Q=>N U H λx O=>∃c,x=.bl c/\if c=Z' then Q (.bl Z') O else y U O Q
def U5(N:TE):TE:=λU H Q=>N U H λx O=>∃c,x=.bl c/\Q (.bl (!c)) O
theorem LC{b}(h:PE X a t):PE X (.BoolOp b [a] G) t:=λB s U H Q I hw=>BoolOp_one (h B s U H Q I hw)
theorem FR(m:PE X a N)(l:PE X (.BoolOp .And (b::xT) G) y):PE X (.BoolOp .And (a::b::xT) G) (Vb N y):=by
 intro B s U H Q I h;refine BoolOp_and (fE (m B s U H _ I h) ?_);rintro v g ⟨x,O,f,k,e⟩;obtain⟨c,rfl,e⟩:=e;cases k;refine gW ?_;cases c with
 |true=>exact l B g U O Q f e|false=>exact⟨.bl Z_,O,f,rfl,e⟩
theorem Vv(m:PE X a N)(l:PE X (.BoolOp .Or (b::xT) G) y):PE X (.BoolOp .Or (a::b::xT) G) (X3 N y):=by
 intro B s U H Q I h;refine BoolOp_or (fE (m B s U H _ I h) ?_);rintro v g ⟨x,O,f,k,e⟩;obtain⟨c,rfl,e⟩:=e;cases k;refine gW ?_;cases c with
 |false=>exact l B g U O Q f e|true=>exact⟨.bl Z',O,f,rfl,e⟩
theorem RW(f:PE X a N):PE X (.UnaryOp .Not a G) (U5 N):=by
 intro B s U H Q I h;refine UnaryOp_ (fE (f B s U H _ I h) ?_);rintro v k ⟨x,O,g,e,b⟩;obtain⟨c,rfl,b⟩:=b;cases e;exact not_of (gW ⟨.bl (!c),O,g,rfl,b⟩)
def tIf(t:TT)(N y:TE):TE:=λU H Q=>t U H λc O=>if c=Z' then N U O Q else y U O Q
theorem LG(k:PT X c tA)(m:PE X a N)(l:PE X b y):PE X (.IfExp c a b G) (tIf tA N y):=by
 intro B s U H Q I h;refine wpAny_IfExp (fE (k B s U H _ I h) ?_);rintro d e ⟨O,g,f⟩;cases d with
 |true=>exact m B e U O Q g f|false=>exact l B e U O Q g f
end
def nT(K:aT)(H:Hp)(a:az)(xs:List V):Prop:=
 Rd H a (.lst xs) ∨
  ∃(o:Obj) (b:Array ak) (n:Nat),K.lookup a=Y o/\o.cls=.type "list" /\o.dict=M/\o.data=.seq b n/\b.size<=bb/\cg xs b.toList
def NX(K:aT)(H:Hp)(a:az)(xs:List V):Prop:=
 Rd H a (.tup xs) ∨
  ∃(o:Obj) (b:Array ak) (n:Nat),K.lookup a=Y o/\o.cls=.type "tuple" /\o.data=.seq b n/\b.size<=bb/\cg xs b.toList
def ZH:ak->Option V
 |.none=>Y .dJ|.bool b=>Y (.bl b)|.int i _=>Y (.int i)|.str x _=>Y (.str x)|.bytes b _=>Y (.PZ b)|.float b _=>Y (.NW b)|.ref a=>Y (.ref a)|.type n=>Y (.ty n)|_=>M
theorem RelV.abs(r:RelV x u):ZH u=Y x:=by
 cases x with
 |dJ=>cases r;rfl|bl _=>cases r;rfl|ref _=>cases r;rfl|ty _=>cases r;rfl|_=>obtain⟨t,rfl⟩:=r;rfl
theorem RelV.inj{x:V}(r:RelV x u)(q:RelV y u):x=y:=bM (r.abs.symm.trans q.abs)
theorem cg.inj{ys:List V}(h:cg b a)(k:cg ys a):b=ys:=by
 induction h generalizing ys with
 |nil=>cases k;rfl|cons r t i=>rcases k with _|⟨c,k⟩;rw[r.inj c,i k]
section
variable {X:Cx}{s:av}
theorem nT.of{K:aT}(h:H a=Y (.lst xs)):nT K H a xs :=.inl (.inl h)
theorem NX.of{K:aT}(h:H a=Y (.tup xs)):NX K H a xs :=.inl (.inl h)
theorem Inv.list(I:Inv X B U H s)(h:nT X.K H a xs):∃b:List ak,cg xs b/\PlainL s.heap a b.toArray/\xs.length<=bb:=by
 rcases h with h|⟨o,b,n,f,k,g,c,l,r⟩
 ·obtain⟨z,b,n,r,e⟩:=h.ok I.eW;exact⟨b,r,⟨_,n,e,rfl,rfl,rfl⟩,z⟩
 ·refine⟨b.toList,r,⟨o,n,I.rj a o f,k,g,by simpa using c⟩,?_⟩;have e:=r.length;simp only[UW]at e;omega
theorem Inv.tuple(I:Inv X B U H s)(h:NX X.K H a xs):∃b:List ak,cg xs b/\IsTup s.heap a b.toArray/\xs.length<=bb:=by
 rcases h with h|⟨o,b,n,f,g,c,k,r⟩
 ·obtain⟨z,b,r,p⟩:=h.ok I.eW;exact⟨b,r,p,z⟩
 ·refine⟨b.toList,r,⟨o,I.rj a o f,g,n,by simpa using c⟩,?_⟩;have e:=r.length;simp only[UW]at e;omega
theorem Inv.se(I:Inv X B U H s)(h:nT X.K H a xs)(h':nT X.K H a ys):xs=ys:=by
 obtain⟨c,r,⟨o,n,e,_,_,d⟩,_⟩:=I.list h;obtain⟨b,k,⟨o',m,f,_,_,g⟩,_⟩:=I.list h';rw[e]at f;cases f;rw[d]at g;injection g with l _;have:c=b:=by simpa using congrArg Array.toList l
 subst this;exact r.inj k
end
noncomputable abbrev Cx.xn(X:Cx)(E:ak->av->Prop):Cx:={ X with xe:=E }
abbrev Cx.Jj(X:Cx):Cx:=X.xn λ_ _=>False
theorem Cx.Ok.xn{X:Cx}(a:X.Ok)(E:ak->av->Prop):(X.xn E).Ok:=
 ⟨a.mod,a.kind,a.glob,a.blt,a.above,a.inj,a.has,a.UJ,a.hd,a.frames,a.Vd,a.Zh,a.bs,a.Nl,a.Jk,a.MO,a.wq,a.QW⟩
theorem Cx.Ok.rP{X:Cx}(a:(X.xn E).Ok):X.Ok:=
 ⟨a.mod,a.kind,a.glob,a.blt,a.above,a.inj,a.has,a.UJ,a.hd,a.frames,a.Vd,a.Zh,a.bs,a.Nl,a.Jk,a.MO,a.wq,a.QW⟩
section
variable {X:Cx}{s:av}
theorem Inv.xn(I:Inv X B U H s)(E:ak->av->Prop):Inv (X.xn E) B U H s:=⟨I.ok.xn E,I.os,I.bare,I.base,I.loc,I.cell,I.free,I.ni,I.pin,I.eW,I.len⟩
theorem Inv.rP(I:Inv (X.xn E) B U H s):Inv X B U H s:=⟨I.ok.rP,I.os,I.bare,I.base,I.loc,I.cell,I.free,I.ni,I.pin,I.eW,I.len⟩
theorem SP.rP{D:Ends}{f:Flow}(h:SP (X.xn E) B D f s'):SP X B D f s':=by
 cases f with
 |ret u=>obtain⟨v,a,H',I,r,q⟩:=h;exact⟨v,a,H',I.rP,r,q⟩
 |_=>obtain⟨a,H',I,q⟩:=h;exact⟨a,H',I.rP,q⟩
theorem oP.Jj{st:List qP}(h:oP X.Jj st t):oP X st t:=λB s U H D I hw=>
 dS (h B s U H D (I.xn _) hw) (λ_ _ q=>q.rP) λ_ _ z=>cE z
end
section
variable {X:Cx}{st:qP}{xT:List qP}
def KU:TS:=λD U H=>D.nx U H
def KQ(t u:TS):TS:=λD U H=>t { D with nx:=u D } U H
theorem Hj:oP X [] KU:=λ_ _ U H _ I h=>nV ⟨U,H,I,h⟩
theorem oA(J:PS X st t)(z:oP X xT u):oP X (st::xT) (KQ t u):=by
 intro B s U H D I h;refine NG (fE (J B s U H { D with nx:=u D } I h) λf b q =>?_);cases f with
 |next=>obtain⟨a,H',c,q⟩:=q;exact z B b a H' D c q
 |_=>exact q
theorem vf(J:PS X st t):oP X [st] t:=by
 intro B s U H D I h;refine NG (fE (J B s U H D I h) λf a q =>?_);cases f with
 |next=>exact nV q|_=>exact q
theorem Inv.quiet{s:av}(I:Inv X B U H s):interactive X.env=false:=by simp[interactive,I.ok.kind]
def U_(te:TE):TS:=λD U H=>te U H λ_ O=>D.nx U O
theorem sM(c:PE X e te)(b:cp e M G.line X.env=dR false:=by rfl):PS X (.Expr e G) (U_ te):=by
 intro B s U H D I h;exact wpAny_Expr_any (fE (c B s U H _ I h) (by rintro v g ⟨x,O,f,k,a⟩;exact⟨U,O,f,a⟩)) I.quiet b
def X2(te:TE):TS:=λD U H=>te U H D.rt
theorem qw(c:PE X e te):PS X (.Return (Y e) G) (X2 te):=by
 intro B s U H D I h;exact wpAny_Return_some (fE (c B s U H _ I h) (by rintro v g ⟨x,O,f,a,b⟩;exact⟨x,U,O,f,a,b⟩))
def Rw(c:TT)(t u:TS):TS:=λD U H=>c U H λb O=>if b=Z' then t D U O else u D U O
theorem Lw(k:PT X c tc)(m:oP X a t)(l:oP X b u):PS X (.If c a b G) (Rw tc t u):=by
 intro B s U H D I h;refine wpAny_If (fE (k B s U H _ I h) ?_);rintro d e ⟨O,g,f⟩;cases d with
 |true=>exact m B e U O D g f|false=>exact l B e U O D g f
def KW:TS:=λ_ _ _=>False
theorem Lv:PS X st KW:=λ_ _ _ _ _ _ h=>h.elim
theorem IZ:oP X a KW:=λ_ _ _ _ _ _ h=>h.elim
end
abbrev TG:=V->St->Hp->(St->Hp->Prop)->Prop
abbrev Wz:=List V->St->Hp->(St->Hp->Prop)->Prop
def PG(X:Cx)(a:Expr)(t:TG):Prop:=
 ∀(B:List (az×Obj)) (s:av) (U:St) (H:Hp) (v:V) (u:ak) (Q:St->Hp->Prop),Inv X B U H s->RelV v u->t v U H Q ->
  be (aU X.prog X.w) X.A (NJ a X.env u) (λ_ s'=>∃b H',Inv X B b H' s'/\Q b H') X.xe s
def XN(X:Cx)(e:List Expr)(t:Wz):Prop:=
 ∀(B:List (az×Obj)) (s:av) (U:St) (H:Hp) (b:List V) (c:List ak) (Q:St->Hp->Prop),Inv X B U H s->cg b c->t b U H Q ->
  be (aU X.prog X.w) X.A (assignInOrder ((Aa e X.env).map (·.2)) c) (λ_ s'=>∃a H',Inv X B a H' s'/\Q a H') X.xe s
abbrev Wy:=V->V->V->Hp->(Hp->Prop)->Prop
def WB(X:Cx)(t:Wy):Prop:=
 ∀(B:List (az×Obj)) (s:av) (U:St) (H:Hp) (o i v:V) (a b u:ak) (Q:Hp->Prop),Inv X B U H s->RelV o a->RelV i b->RelV v u->t o i v H Q ->
  be (aU X.prog X.w) X.A (setItem a b u) (λ_ s'=>∃H',Inv X B U H' s'/\Q H') X.xe s
abbrev ZK:=V->V->Hp->VK->Prop
def PIp(X:Cx)(a:Operator)(t:ZK):Prop:=
 ∀(B:List (az×Obj)) (s:av) (U:St) (H:Hp) (x y:V) (v u:ak) (Q:VK),Inv X B U H s->RelV x v->RelV y u->t x y H Q ->
  be (aU X.prog X.w) X.A (inplaceOp a v u) (EP X B U Q) X.xe s
section
variable {X:Cx}
def pf(i:Nat):TG:=λv U H Q=>Q (U.set i (Y v)) H
theorem fN{i:Nat}(c:X.N.Nodup)(L:X.N[i]?=Y x)(a:Loc X.env.scope x)(b:X.fn x=Z'∨X.env.scope.names.lookup x=Y .local:=by first|exact .inl rfl|exact .inr rfl|assumption):PG X (.Name x G) (pf i):=by
 intro B s U H v u Q I r h;exact wpAny_assign_Name (u0 I c L a r (λs' e=>⟨_,H,e,h⟩) b)
def S_:Wz:=λa U H Q=>a=[]/\Q U H
def Bp(t:TG)(u:Wz):Wz:=λb U H Q=>∃v r,b=v::r/\t v U H λa H'=>u r a H' Q
theorem W7:XN X [] S_:=by
 intro B s U H a b Q I r h;obtain⟨e,h⟩:=h;subst e;cases r;exact assignInOrder_nil ⟨U,H,I,h⟩
theorem Vu(J:PG X e t)(z:XN X es u)(g:(Aa (e::es) X.env).map (·.2)=NJ e X.env::(Aa es X.env).map (·.2):=by rfl):XN X (e::es) (Bp t u):=by
 intro B s U H m p Q I r h;obtain⟨v,o,k,h⟩:=h;subst k;cases r with
 |cons r c=>rw[g];refine assignInOrder_cons (fE (J B s U H _ _ _ I r h) ?_);rintro _ b ⟨a,O,l,f⟩;exact z B b a O _ _ Q l c f
def S9(K:aT)(n:Nat)(t:Wz):TG:=λv U H Q=>∃a xs,v=.ref a/\NX K H a xs/\xs.length=n/\t xs U H Q
theorem Yo(A:X.calm=Z')(h:XN X es t)(w:(Aa es X.env).length=n:=by rfl)(c:(Aa es X.env).findIdx? (·.1)=none:=by rfl):PG X (.Tuple es k G) (S9 X.K n t):=by
 intro B s U H v u Q I r hw;obtain⟨a,xs,C,p,x,hw⟩:=hw;subst C;cases r;obtain⟨g,f,m,E⟩:=I.tuple p;refine assign_Tuple_tuple (I.ok.hd A) m (by simp[w,<- x,f.length]) c λh' l =>?_
 have D:Inv X B U H { s with heap:=h' }:=I.kept (t':=s.toks) λb o e=>l b o (bH (aJ e)) e
 exact h B _ U H xs _ Q D (by simpa using f) hw
def V7(to a:TE)(t:Wy):TG:=λv U H Q=>to U H λo O=>a U O λi d=>t o i v d λb=>Q U b
theorem RT(A:PE X o to)(L:PE X i c)(w:WB X t) (C:∀v,NJ (.Subscript o i G) X.env v=(do
   let a <- jw [v] (eval o X.env)
   let b <- jw [v,a] (eval i X.env)
   lO G
   jw [v,a,b] (setItem a b v)
   release [v,a,b] []):=by intro _;rfl):PG X (.Subscript o i G) (V7 to c t):=by
 intro B s U H v u Q I r h;rw[C];refine ah (fm (fE (A B s U H _ I h) ?_));rintro a f ⟨x,O,F,k,p⟩;refine ah (fm (fE (L B f U O _ F p) ?_));rintro b e ⟨y,d,E,g,m⟩;refine ah (wQ (ah (fm (fE (w B e U d x y v a b u _ E k g r m) ?_))));rintro _ j ⟨K,D,l⟩;exact wpAny_release ⟨U,K,D,l⟩
def KZ(te:TE)(g:TG):TS:=λD U H=>te U H λx O=>g x U O D.nx
theorem RN(l:PE X e te)(k:PG X tg g)(f:swapsWithSole [tg] e G.line X.env=dR false:=by rfl)(hw:swappedStores [tg] e X.env=dR none:=by rfl)(J:(Aa [tg] X.env).map (·.2)=[NJ tg X.env]:=by rfl):PS X (.Assign [tg] e G) (KZ te g):=by
 intro B s U H D I h;refine wpAny_Assign_stores (fE (l B s U H _ I h) ?_) f hw;rintro v a ⟨x,O,m,b,c⟩;rw[J];exact fE (k B a U O x v _ m b c) λ_ o q=>q
theorem ma{i:Nat}(l:X.N.Nodup)(L:X.N[i]?=Y x)(c:Loc X.env.scope x)(k:PE X e te)(f:cp e (Y (.Name x Qg)) G.line X.env=dR false:=by rfl)(g:X.fn x=Z'∨X.env.scope.names.lookup x=Y .local:=by first|exact .inl rfl|exact .inr rfl|assumption):
  PS X (.Assign [.Name x Qg] e G) (KZ te (pf i)):=by
 intro B s U H D I h;refine wpAny_Assign_Name (fE (k B s U H _ I h) ?_) f;rintro v r ⟨y,O,o,a,b⟩;exact u0 o l L c a (λp m=>⟨_,O,m,b⟩) g
def X7(i:Nat)(te:TE)(a:ZK):TS:=λD U H=>∃x,U[i]?=Y (Y x)/\te U H λy O=>a x y O λz d=>D.nx (U.set i (Y z)) d
theorem RM{ti:ZK}(hN:X.N.Nodup)(L:X.N[i]?=Y x)(t:Loc X.env.scope x)(he:PE X e te)(P:PIp X p ti)(T:X.fn x=Z'∨X.env.scope.names.lookup x=Y .local:=by first|exact .inl rfl|exact .inr rfl|assumption):
  PS X (.AugAssign (.Name x Qg) p e G) (X7 i te ti):=by
 intro B s U H D I h;obtain⟨v,e1,h⟩:=h;obtain⟨m,Q,S⟩:=I.loc;have o:TX X.env.scope x:=by rcases t with k|k;exact .inl k;exact .inr (.inl k)
 obtain⟨u,r,l⟩:=S i x v L e1 o;refine wpAny_AugAssign_Name ?_;have A:be (aU X.prog X.w) X.A (eval e X.env) (λw g=>be (aU X.prog X.w) X.A (inplaceOp p u w) (λr f=>be (aU X.prog X.w) X.A (storeName X.env x r) (λ_=>SP X B D .next) X.xe f) X.xe g) X.xe s:=by refine fE (he B s U H _ I h) ?_;rintro w C ⟨y,O,I1,F,j⟩;refine fE (P B C U O v y u w _ I1 r F j) ?_;rintro z s2 ⟨zv,d,I2,E,K⟩;exact u0 I2 hN L t E (λs3 I3=>⟨_,d,I3,K⟩) T
 rcases l with⟨a,R⟩|⟨a,c,hc,b⟩
 ·exact wpAny_loadName_local I.ok.kind a Q R A
 ·rcases a with a|a
  ·exact wpAny_loadName_cell I.ok.kind a hc b A
  ·rcases t with k|k
   ·have:X.env.scope.names.lookup x=Y .free:=a;rw[k]at this;cases this
   ·have:X.env.scope.names.lookup x=Y .free:=a;rw[k]at this;cases this
end
section
variable {X:Cx}
def Ro(c:TT)(y:TS):TS:=λD U H=>∃W:Nat->St->Hp->Prop,(∃m,W m U H)/\∀m U H,W m U H ->
 c U H λb O=>if b=Z' then ∃N:St->Hp->Prop,(∀a H',N a H'->∃e,e<m/\W e a H')/\y { D with nx:=N,ct:=N,bk:=D.nx } U O else D.nx U O
theorem Ls(x:Dh (aU X.prog X.w) X.A X.env X.xe)(Q:PT X c tc)(R:oP X g y):PS X (.While c g [] G) (Ro tc y):=by
 intro B s U H D I h;obtain⟨W,⟨P,F⟩,kU⟩:=h;refine wpAny_While (codeAny_whileLoop (λn s'=>∃k H',Inv X B k H' s'/\W n k H') ?_ P ⟨U,H,I,F⟩);rintro n i ⟨e,O,S,E⟩;refine kW x (fE (Q B i e O _ S (kU n e O E)) ?_);rintro b K ⟨d,C,o⟩;cases b with
 |true=>
  obtain⟨N,A,o⟩:=o;rw[if_pos rfl];refine kW x (fE (R B K e d _ C o) λf T m =>?_);cases f with
  |brk=>exact m|ret v=>exact m|_=>obtain⟨a,l,w,r⟩:=m;obtain⟨t,u,p⟩:=A a l r;exact⟨t,u,a,l,w,p⟩
 |false=>rw[if_neg cF];exact nV ⟨e,d,C,o⟩
end
structure It where
 go:Nat->Hp->Prop
 Qw:Nat->Hp->V->Hp->Prop
 stop:Nat->Hp->Prop
def AJ(X:Cx)(B:List (az×Obj))(H:Hp)(b:az):Prop:=
 H b=M/\b≠X.env.locals/\b∉X.fs/\(b∈X.ex∨X.s₀.heap.objs.size<=b)/\(∀x c,X.env.cells.lookup x=Y c->c≠b)/\∀p∈X.pn++B,p.1≠b
theorem Inv.zq{X:Cx}{s:av}(I:Inv X B U H s)(a:s.heap.objs.size<=b)(g:H' b=M):AJ X B H' b:=by
 refine⟨g,fQ (bw I.lt a),I.Se a,.inr (bK I.sz a),λx c e z =>?_,λp f z =>?_⟩
 ·obtain⟨v,q⟩:=I.cell x c e;exact absurd (bw q.lt (by rw[z];exact a)) (eQ _)
 ·exact absurd (bw (aJ (I.pin p f).1) (by rw[z];exact a)) (eQ _)
structure J5(P:bt)(w:cZ)(K:aT)(tg:Expr)(J:It)(fp:List az)(it:az)(tn:Nat->cD->Prop):Prop where
 mem:it∈fp
 obj:∀i h,tn i h->∀b∈fp,∃o,h.get? b=some o/\∀v,o.data ≠ .cell v
 keep:∀i h h',tn i h->(∀b∈fp,∀o,h.get? b=some o->h'.get? b=some o)->tn i h'
 item:∀(X:Cx),X.prog=P->X.w=w->X.K=K->X.calm=true->∀(i:Nat) (tJ:List (az×Obj)) (s:av) (σ:St) (H:Hp) (E:ak->av->Prop),Inv X tJ σ H s->(∀b∈fp,AJ X tJ H b)->tn i s.heap->J.go i H ->
  be (aU P w) X.A (pyNext (.ref it)) (λr s1=>∃u,r=some u /\
   be (aU P w) X.A (Ah tg (.ref it) u) (λ_ s2=>∃x H',Inv X tJ σ H' s2/\RelV x u/\J.Qw i H x H'/\tn (i+1) s2.heap/\∀b∈fp,H' b=none) E s1) E s
 done:∀(X:Cx),X.prog=P->X.w=w->X.K=K->X.calm=true->∀(i:Nat) (tJ:List (az×Obj)) (s:av) (σ:St) (H:Hp) (E:ak->av->Prop),Inv X tJ σ H s->(∀b∈fp,AJ X tJ H b)->tn i s.heap->J.stop i H ->
  be (aU P w) X.A (pyNext (.ref it)) (λr s1=>r=none/\Inv X tJ σ H s1) E s
 self:∀(A:gD) (i:Nat) (s:av) (Q:ak->av->Prop) (E:ak->av->Prop),tn i s.heap->Q (.ref it) s->be (aU P w) A (pyIter (.ref it)) Q E s
abbrev TI:=St->Hp->(It->Hp->Prop)->Prop
def PIE(X:Cx)(B:List (az×Obj))(U:St)(tg:Expr)(R:It->Hp->Prop)(a:ak)(e:av):Prop:=
 ∃(f:az) (g:List az) (c:Nat->cD->Prop) (J:It) (H':Hp),a=.ref f/\Inv X B U H' e/\J5 X.prog X.w X.K tg J g f c/\c 0 e.heap/\(∀b∈g,AJ X B H' b)/\R J H'
def PI(X:Cx)(tg a:Expr)(b:TI):Prop:=
 ∀(B:List (az×Obj)) (s:av) (U:St) (H:Hp) (R:It->Hp->Prop),Inv X B U H s->b U H R ->
  be (aU X.prog X.w) X.A (eval a X.env) (λv c=>be (aU X.prog X.w) X.A (pyIter v) (PIE X B U tg R) X.xe c) X.xe s
theorem ME{d : Uh}{s : av}{n : String}(e : s.heap.get? c = Y o)(k : o.cls = .type n)(g : o.data = .fields b)(f : ["enumerate", "zip", "dict_itemiterator", "dict_reverseitemiterator", "odict_iterator", "itertools.zip_longest", "itertools.pairwise"].contains n = Z_)(a : Q () s): be d A (Ah tg (.ref c) u) Q E s := by
  unfold Ah
  cases tg <;> first
    |exact aF a
    | (cases u <;> first
        |exact aF a
        | (refine ah (wpAny_load e ?_)
           rw [k,g]
           show be d A (if (["enumerate", "zip", "dict_itemiterator", "dict_reverseitemiterator", "odict_iterator", "itertools.zip_longest", "itertools.pairwise"].contains n && b[0]? == Y (lK _)) = Z' then _ else _) Q E s
           rw [if_neg (by intro h; rw [f,Bool.false_and]at h; cases h)]
           exact aF a))
def ZR(K:aT)(a:az):It:=
 ⟨λi H=>∃xs x,nT K H a xs/\xs[i]?=Y x,λi H x H'=>H'=H/\∀xs,nT K H a xs->xs[i]?=Y x,λi H=>∃xs,nT K H a xs/\xs.length<=i⟩
def WK(n:Int)(a:Nat):It:=⟨λi _=>i<a,λi H x H'=>H'=H/\x=.int (n+i),λi _=>a<=i⟩
theorem IJ{P:bt}{K:aT}(a f:az):J5 P w K tg (ZR K a) [f] f (λi h=>h.IsListIter f a i) where
 mem:=by simp
 obj:=λi h st b g=>by
  have e:b=f:=by simpa using g
  subst e;obtain⟨o,e,c,d⟩:=st;exact⟨o,e,λv z=>by rw[d]at z;cases z⟩
 keep:=λi h h' st k=>st.at λo e=>k f (by simp) o e
 item:=by
  intro X F hw j hc i B s U H E I r st D;subst F hw j;obtain⟨xs,x,m,C⟩:=D;obtain⟨A,t,p,hz⟩:=I.list m;obtain⟨u,hu,ru⟩:=t.get C;obtain⟨f0,T,f2,S,R,Q⟩:=r f (by simp);refine wpAny_pyNext_list_item st p.isList (x:=u) (by simpa using hu) λh' l sb =>?_
  have I1:Inv X B U H { s with heap:=h' }:=I.turned (t':=s.toks) (λb o g e=>(sb.2 b g).trans e) f0 T S R Q;obtain⟨o,e,c,d⟩:=id l;exact⟨u,rfl,ME (s:={ s with heap:=h' }) e c d (by decide) ⟨x,H,I1,ru,⟨rfl,λys hy=>by rw[I.se hy m];exact C⟩,l,λb g=>(r b g).1⟩⟩
 done:=by intro X F hw j hc i B s U H E I r st D;subst F hw j;obtain⟨xs,m,C⟩:=D;obtain⟨A,t,p,hz⟩:=I.list m;obtain⟨f0,T,f2,S,R,Q⟩:=r f (by simp);have hl:=t.length;exact wpAny_pyNext_list_end (I.ok.hd hc) st p.isList (by simp;omega) λh' eb=>⟨rfl,I.turned (t':=s.toks) (λb o g e=>eb b o g e) f0 T S R Q⟩
 self:=λ_ _ _ _ _ st h=>wpAny_pyIter_listiter st h
theorem Fm{P:bt}{K:aT}(c:az)(n:Int)(a:Nat):J5 P w K tg (WK n a) [c] c (λi h=>IsRangeIter h c (n+(i:Nat)*1) ((a:Int)-(i:Nat)) 1) where
 mem:=by simp
 obj:=λi h st b f=>by
  have e:b=c:=by simpa using f
  subst e;exact⟨_,st,λv z=>by have d:fM _=Data.cell v:=z;cases d⟩
 keep:=λi h h' st k=>k c (by simp) _ st
 item:=by
  intro X r hw u p i B s U H E I l st m;subst r hw u;obtain⟨F,D,S,C,A,x⟩:=l c (by simp);have W:=Walks.range (prog:=X.prog) (w:=X.w) (I.ok.hd p) c n 1 a;refine W.item i s _ _ m st λv h' tk R g Q =>?_
  obtain⟨t,rfl⟩:=R;have I1:Inv X B U H { s with heap:=h',toks:=tk }:=I.turned (λb o f e=>Q b o (by simpa using f) e) F D C A x;refine⟨_,rfl,ME (s:={ s with heap:=h',toks:=tk }) (n:= "range_iterator") g rfl rfl (by decide) ⟨.int (n+i),H,I1,⟨t,?_⟩,⟨rfl,rfl⟩,g,λb f=>(l b f).1⟩⟩;rw[Int.mul_one]
 done:=by intro X r hw u p i B s U H E I l st m;subst r hw u;obtain⟨F,D,S,C,A,x⟩:=l c (by simp);exact wpAny_pyNext_range_end (I.ok.hd p) st (by have:a<=i:=m;omega) λh' T=>⟨rfl,I.turned (t':=s.toks) (λb o f e=>T b o f e) F D C A x⟩
 self:=λ_ _ _ _ _ st h=>wpAny_pyIter_rangeiter st h
section
variable {X:Cx}
def VT(K:aT)(tl:TE):TI:=λU H R=>tl U H λx O=>∃a,x=.ref a/\(∃xs,nT K O a xs)/\R (ZR K a) O
theorem OJ(t:PE X l tl):PI X tg l (VT X.K tl):=by
 intro B s U H R I h;refine fE (t B s U H _ I h) ?_;rintro v c ⟨x,O,f,g,k⟩;obtain⟨a,e,⟨xs,r⟩,q⟩:=k;subst e;cases g;obtain⟨m,w,p,A⟩:=f.list r;refine lN p.isList ?_;refine⟨c.heap.objs.size,[c.heap.objs.size],_,_,O,rfl,f.kept (t':=c.toks) λb o e=>ai _ e,IJ a _,⟨_,bx _ rfl,rfl,rfl⟩,λb u =>?_,q⟩;have e:b=c.heap.objs.size:=by simpa using u
 subst e;exact f.zq (aS _) (f.eW.fresh (aS _))
theorem DQ{s:av}{R:It->Hp->Prop}{v:Tok}(I:Inv X B U H s)(J : -(2 ^ 62)<=n)(z:n<2 ^ 62)(g : -(2 ^ 62)<=L)(f:L<2 ^ 62)(q:R (WK n (L-n).toNat) H):be (aU X.prog X.w) X.A (pyIter (.ref s.heap.objs.size)) (PIE X B U tg R) E { s with heap:=s.heap.push { cls :=.type "range",data :=.fields #[.int n t,.int L u,.int 1 v] },toks:=tk }:=by
 refine wpAny_pyIter_range (IsRange.new ..) (small_one J z g f) ?_;have a:Inv X B U H { s with heap:=s.heap.push { cls :=.type "range",data :=.fields #[.int n t,.int L u,.int 1 v] },toks:=tk }:=I.kept λb o e=>ai _ e
 refine⟨(s.heap.push { cls :=.type "range",data :=.fields #[.int n t,.int L u,.int 1 v] }).objs.size,[(s.heap.push { cls :=.type "range",data :=.fields #[.int n t,.int L u,.int 1 v] }).objs.size],_,_,H,rfl,
  a.kept (t':=tk) λb o e=>ai _ e,Fm _ n (L-n).toNat,?_,λb c =>?_,q⟩
 ·have k:n+((0:Nat):Int)*1=n:=by simp
  have h:(((L-n).toNat:Nat):Int)-((0:Nat):Int)=Builtin.Range.rangeSize n L 1:=by rw[rangeSize_one];split<;>omega
  show IsRangeIter _ _ (n+((0:Nat):Int)*1) ((((L-n).toNat:Nat):Int)-((0:Nat):Int)) 1;rw[k,h];exact bx _ rfl
 ·have e:b=(s.heap.push { cls :=.type "range",data :=.fields #[.int n t,.int L u,.int 1 v] }).objs.size:=by simpa using c
  subst e;exact a.zq (aS _) (a.eW.fresh (aS _))
def VS(N:TA):TI:=λU H R=>N U H λa O=>∃j:Int,a=[.int j] /\ -(2 ^ 62)<=j/\j<2 ^ 62/\R (WK 0 j.toNat) O
def VR(N:TA):TI:=λU H R=>N U H λa O=>∃i j:Int,a=[.int i,.int j]/\(-(2 ^ 62)<=i/\i<2 ^ 62 /\ -(2 ^ 62)<=j/\j<2 ^ 62)/\R (WK i (j-i).toNat) O
theorem Ba(m:Gl X "range")(l:X.mg "range" = M)(o:PA X [a] N)(k:ao [a] X.env=[(Z_,eval a X.env)]:=by rfl):PI X tg (.Call (.Name "range" p) [a] [] G) (VS N):=by
 intro B s U H R I h;refine Call_ (qC I m l boot_range (gV (fE (o G B s U H _ I h) ?_) k rfl));rintro w x ⟨v,O,u,f,b⟩;obtain⟨j,e,b,g,q⟩:=b;subst e;cases f with
 |cons r c=>cases c;obtain⟨t,rfl⟩:=r;exact call_range_1 (DQ u (by omega) (by omega) b g (by simpa using q))
theorem Ja(x:Gl X "range")(w:X.mg "range" = M)(A:PA X [a,b] N)(v:ao [a,b] X.env=[(Z_,eval a X.env),(Z_,eval b X.env)]:=by rfl)(c:ao [b] X.env=[(Z_,eval b X.env)]:=by rfl):
  PI X tg (.Call (.Name "range" p) [a,b] [] G) (VR N):=by
 intro B s U H R I h;refine Call_ (qC I x w boot_range (gV (fE (A G B s U H _ I h) ?_) (by rw[v,c]) (by rw[c];rfl)));rintro E K ⟨D,O,C,k,g⟩;obtain⟨i,j,e,⟨g,u,o,m⟩,q⟩:=g;subst e;cases k with
 |cons r f=>
  cases f with
  |cons l f=>cases f;obtain⟨t,rfl⟩:=r;obtain⟨F,rfl⟩:=l;exact call_range_2 (DQ C g u o m q)
def vZ(a:List az)(h:cD):List (az×Obj):=a.filterMap λb=>(h.get? b).map λo=>(b,o)
theorem oG(c:b∈a)(e:h.get? b=Y o):(b,o)∈vZ a h:=List.mem_filterMap.mpr ⟨b,c,by rw[e];rfl⟩
theorem Bb(c:p∈vZ a h):p.1∈a/\h.get? p.1=Y p.2:=by
 obtain⟨b,f,e⟩:=List.mem_filterMap.mp c;rcases q:h.get? b with _|o
 ·rw[q]at e;cases e
 rw[q]at e;have g:(b,o)=p:=bM e;subst g;exact⟨f,q⟩
theorem Inv.pinned{s:av}(I:Inv X B U H s)(k:∀b∈a,AJ X B H b)(h:∀b∈a,∃o,s.heap.get? b=Y o/\∀v,o.data ≠ .cell v):Inv X (B++vZ a s.heap) U H s:=
 I.x_ λp g=>(bq.mp g).elim (λz=>I.pin p (aR _ z)) λz=>by obtain⟨c,e⟩:=Bb z;obtain⟨r,m,l,_⟩:=k p.1 c;obtain⟨o,f,d⟩:=h p.1 c;rw[e]at f;cases f;exact⟨e,r,m,l,d⟩
theorem Inv.uY{s:av}(I:Inv X (B++a) U H s):Inv X B U H s:=I.x_ λp b=>I.pin p (aR _ (bc _ b))
end
abbrev R2:=V->V->Hp->VK->Prop
def pG(X:Cx)(f:ak->ak->Sem ak)(r:R2):Prop:=
 ∀(B:List (az×Obj)) (s:av) (U:St) (H:Hp) (x y:V) (v u:ak) (Q:VK),Inv X B U H s->RelV x v->RelV y u->r x y H Q ->
  be (aU X.prog X.w) X.A (f v u) (EP X B U Q) X.xe s
def XM(X:Cx)(f:ak->Sem ak)(r:V->Hp->VK->Prop):Prop:=
 ∀(B:List (az×Obj)) (s:av) (U:St) (H:Hp) (x:V) (v:ak) (Q:VK),Inv X B U H s->RelV x v->r x H Q ->
  be (aU X.prog X.w) X.A (f v) (EP X B U Q) X.xe s
def lU(X:Cx)(f:ak)(r:List V->Hp->VK->Prop):Prop:=
 ∀(B:List (az×Obj)) (s:av) (U:St) (H:Hp) (xs:List V) (a:List ak) (Q:VK),Inv X B U H s->cg xs a->r xs H Q ->
  be (aU X.prog X.w) X.A (J_ f a) (EP X B U Q) X.xe s
def ZJ(X:Cx)(r:V->Hp->(Bool->Hp->Prop)->Prop):Prop:=
 ∀(B:List (az×Obj)) (s:av) (U:St) (H:Hp) (x:V) (v:ak) (Q:Bool->Hp->Prop),Inv X B U H s->RelV x v->r x H Q ->
  be (aU X.prog X.w) X.A (truthy v) (TP X B U Q) X.xe s
def Uu(r:R2)(N y:TE):TE:=λU H Q=>N U H λx O=>y U O λa d=>r x a d Q
def tUn(r:V->Hp->VK->Prop)(N:TE):TE:=λU H Q=>N U H λx O=>r x O Q
def rI(C:Int->Int->Prop)(g:Int->Int->V):R2:=λx y H Q=>∃i j,x=.int i/\y=.int j/\C i j/\Q (g i j) H
def Ov(g:Int->Int->V):R2:=λx y H Q=>∃i j,x=.int i/\y=.int j/\Q (g i j) H
def rU(g:Int->V):V->Hp->VK->Prop:=λx H Q=>∃i,x=.int i/\Q (g i) H
section
variable {X:Cx}
theorem TR(A:PE X a N)(w:PE X b y){s:av}{R:V->V->Hp->Prop}(I:Inv X B U H s)(h:N U H λx O=>y U O λc d=>R x c d){f:ak->ak->Sem ak}(t:∀v u k x c d,Inv X B U d k->RelV x v->RelV c u->R x c d->be (aU X.prog X.w) X.A (f v u) Q X.xe k):
  be (aU X.prog X.w) X.A (eval a X.env) (λv g=>be (aU X.prog X.w) X.A (eval b X.env) (λu e=>be (aU X.prog X.w) X.A (f v u) Q X.xe e) X.xe g) X.xe s:=by
 refine fE (A B s U H _ I h) ?_;rintro v l ⟨x,O,D,o,r⟩;refine fE (w B l U O _ D r) ?_;rintro u k ⟨c,d,C,m,p⟩;exact t v u k x c d C o m p
theorem LB(l:pG X (dX e) r)(o:PE X a N)(m:PE X b y):PE X (.BinOp a e b G) (Uu r N y):=by
 intro B s U H Q I h;exact wpAny_BinOp (TR o m I h λv u f x c d p k g q=>l B f U d x c v u Q p k g q)
theorem QK{b:UnaryOp}(g:XM X (unaryOp b) r)(k:PE X a N):PE X (.UnaryOp b a G) (tUn r N):=by
 intro B s U H Q I h;exact UnaryOp_ (fE (k B s U H _ I h) (by rintro v c ⟨x,O,l,e,f⟩;exact g B c U O x v Q l e f))
theorem VB{f:ak->ak->Sem ak}{g:Int->Int->Int}(a:∀(i j:Int) (t u:Tok) (s:av) (Q:ak->av->Prop) (E:ak->av->Prop),C i j->Q (.int (g i j) s.toks) { s with toks:=s.toks+1 }->be (aU X.prog X.w) X.A (f (.int i t) (.int j u)) Q E s):
  pG X f (rI C λi j =>.int (g i j)):=by
 intro B s U H x y v u Q I e c h;obtain⟨i,j,rfl,rfl,k,q⟩:=h;obtain⟨t,rfl⟩:=e;obtain⟨b,rfl⟩:=c;exact a i j t b s _ _ k ⟨.int (g i j),H,I.tok _,⟨_,rfl⟩,q⟩
theorem OU{f:ak->ak->Sem ak}{g:Int->Int->Int}(a:∀(i j:Int) (t u:Tok) (s:av) (Q:ak->av->Prop) (E:ak->av->Prop),Q (.int (g i j) s.toks) { s with toks:=s.toks+1 }->be (aU X.prog X.w) X.A (f (.int i t) (.int j u)) Q E s):
  pG X f (Ov λi j =>.int (g i j)):=by
 intro B s U H x y v u Q I e c h;obtain⟨i,j,rfl,rfl,q⟩:=h;obtain⟨t,rfl⟩:=e;obtain⟨b,rfl⟩:=c;exact a i j t b s _ _ ⟨.int (g i j),H,I.tok _,⟨_,rfl⟩,q⟩
theorem VC{f:ak->ak->Sem ak}{g:Int->Int->Bool}(a:∀(i j:Int) (t u:Tok) (s:av) (Q:ak->av->Prop) (E:ak->av->Prop),Q (.bool (g i j)) s->be (aU X.prog X.w) X.A (f (.int i t) (.int j u)) Q E s):
  pG X f (Ov λi j =>.bl (g i j)):=by
 intro B s U H x y v u Q I e c h;obtain⟨i,j,rfl,rfl,q⟩:=h;obtain⟨t,rfl⟩:=e;obtain⟨b,rfl⟩:=c;exact a i j t b s _ _ ⟨.bl (g i j),H,I,rfl,q⟩
def ZU(i j:Int):Prop:=0<=j/\j<=1000000/\i.natAbs<2 ^ 64
def ND(i j:Int):Prop:=(-(2 ^ 64)<i/\i<2 ^ 64)∨(-(2 ^ 64)<j/\j<2 ^ 64)
theorem ND.ok{i:Int}(h:ND i j):IntMulOk i j:=by
 rcases h with⟨J,z⟩|⟨J,z⟩
 ·exact .of_left (intBits_le_64 J z)
 ·exact .of_right (intBits_le_64 J z)
theorem Fk(k:Nat):(0:Int)<=2 ^ k:=by
 rw[two_pow_cast];exact rH _
theorem R8:pG X (dX .Add) (Ov λi j =>.int (i+j)):=OU λ_ _ _ _ _ _ _ q=>add_int q
theorem RZ:pG X (dX .Sub) (Ov λi j =>.int (i-j)):=OU λ_ _ _ _ _ _ _ q=>sub_int q
theorem R5:pG X (dX .Mult) (rI ND λi j =>.int (i*j)):=VB λ_ _ _ _ _ _ _ a q=>mul_int q a.ok
theorem R6:pG X (dX .Mod) (rI (λ_ j=>0<j) λi j =>.int (i%j)):=VB λi j _ _ _ _ _ a q=>by
 have J:(0:Int)<j:=a;exact mod_int' (by omega) (by rw[Int.fmod_eq_emod_of_nonneg i (by omega)];exact q)
theorem R3:pG X (dX .LShift) (rI ZU λi j =>.int (i*2 ^ j.toNat)):=VB λ_ _ _ _ _ _ _ a q=>lshift_int_small a.1 a.2.1 a.2.2 q
theorem R1:pG X (dX .RShift) (rI (λ_ j=>0<=j) λi j =>.int (i/2 ^ j.toNat)):=VB λi j _ _ _ _ _ a q=>
 rshift_int a (by rw[Ke i (Fk _)];exact q)
theorem R7:pG X (dX .BitAnd) (Ov λi j =>.int (uV i j)):=OU λ_ _ _ _ _ _ _ q=>and_int q
theorem Vy:pG X (dX .BitOr) (Ov λi j =>.int (c_ i j)):=OU λ_ _ _ _ _ _ _ q=>or_int q
theorem Z6{f:ak->Sem ak}{g:Int->Int}(a:∀(i:Int) (t:Tok) (s:av) (Q:ak->av->Prop) (E:ak->av->Prop),Q (.int (g i) s.toks) { s with toks:=s.toks+1 }->be (aU X.prog X.w) X.A (f (.int i t)) Q E s):
  XM X f (rU λi =>.int (g i)):=by
 intro B s U H x v Q I b h;obtain⟨i,rfl,q⟩:=h;obtain⟨t,rfl⟩:=b;exact a i t s _ _ ⟨.int (g i),H,I.tok _,⟨_,rfl⟩,q⟩
theorem Rg:XM X (unaryOp .USub) (rU λi =>.int (-i)):=Z6 λ_ _ _ _ _ q=>neg_int q
theorem Rh:XM X (unaryOp .Invert) (rU λi =>.int (uU i)):=Z6 λ_ _ _ _ _ q=>invert_int q
end
section
variable {X:Cx}
theorem Td{s:av}{a:Bool}(I:Inv X B U H s)(q:Q (.bl k) H)(e:k=a):EP X B U Q (.bool a) s:=by
 subst e;exact⟨.bl k,H,I,rfl,q⟩
theorem Vz:pG X (gr .Lt) (Ov λi j =>.bl (decide (i<j))):=VC λ_ _ _ _ _ _ _ q=>lt_int q
theorem VA:pG X (gr .Gt) (Ov λi j =>.bl (decide (j<i))):=VC λ_ _ _ _ _ _ _ q=>gt_int q
theorem pG.or{f:ak->ak->Sem ak}{r c:R2}(h:pG X f r)(h':pG X f c):pG X f (λx y H Q=>r x y H Q∨c x y H Q):=by
 intro B s U H x y v u Q I b a q;rcases q with q|q
 ·exact h B s U H x y v u Q I b a q
 ·exact h' B s U H x y v u Q I b a q
theorem wg(b:Expr)(h:op ≠ .In:=by decide)(z:op ≠ .NotIn:=by decide):gy op b=false:=by
 have c:(op==CmpOp.In)=false:=by cases op<;>first|rfl|exact absurd rfl h
 have a:(op==CmpOp.NotIn)=false:=by cases op<;>first|rfl|exact absurd rfl z
 cases b<;>simp[gy,c,a]
theorem ON(l:pG X (gr e) r)(p:PE X a N)(o:PE X b y)(m:gy e b=Z_):PE X (.Compare a [e] [b] G) (Uu r N y):=by
 intro B s U H Q I h;exact wpAny_Compare1 (TR p o I h λv u f x c d t k g q=>l B f U d x c v u Q t k g q) m
def U2(t:TE):TT:=λU H Q=>t U H λx H'=>∃k,x=.bl k/\Q k H'
theorem Hi(D:pG X (gr g) r)(K:PE X a N)(F:PE X b y)(E:gy g b=Z_):PT X (.Compare a [g] [b] G) (U2 (Uu r N y)):=by
 intro B s U H Q I h;refine wpAny_isTrue_Compare1 (fE (K B s U H _ I h) λv m ⟨x,O,R,t,C⟩=>fE (F B m U O _ R C) λu l ⟨f,d,P,p,A⟩=>fE (D B l U d x f v u _ P t p A) λc T ⟨z,S,i,o,k,e,w⟩ =>?_) E
 subst e;cases o;exact gW ⟨S,i,w⟩
def Ww(K:aT)(x:V)(H:Hp)(k:Bool):Prop:=
 match x with
 |.dJ=>k=Z_|.bl b=>k=b|.int i=>k=(i != 0)|.str y=>y.length<=bb/\k=((y.length:Int) != 0)|.PZ y=>y.size<=bb/\k=((y.size:Int) != 0)|.ref p=>(∃xs,nT K H p xs/\k = !xs.isEmpty)∨(∃xs,NX K H p xs/\k = !xs.isEmpty)∨∃a,H p=Y (.dK a)/\k = !a.isEmpty|_=>False
theorem F_{b:Type}{a:List (b×V)}{c:List (b×ak)}(r:KV a c):(!c.isEmpty) = !a.isEmpty:=by
 cases r<;>rfl
theorem zh{xs:List V}{a:List ak}(r:cg xs a):(!a.toArray.isEmpty) = !xs.isEmpty:=by
 cases r<;>simp
theorem um:(bb:Nat)<2 ^ 63:=by rw[il];decide
theorem Rk:ZJ X (λx H Q=>∃k,Ww X.K x H k/\Q k H):=by
 intro B s U H x v Q I rx h;obtain⟨k,e,q⟩:=h;have hl:=um;have hs:bb=16777216:=il;cases x with
 |dJ=>cases rx;have e':k=false:=e;subst e';exact truthy_none ⟨H,I,q⟩
 |bl b=>cases rx;have e':k=b:=e;subst e';exact gW ⟨H,I,q⟩
 |int i=>obtain⟨t,rfl⟩:=rx;have e':k=(i != 0):=e;subst e';exact PySem.P.truthy_int ⟨H,I,q⟩
 |str y=>obtain⟨t,rfl⟩:=rx;obtain⟨hy,e'⟩:y.length<=bb/\k=((y.length:Int) != 0):=e;subst e';exact PySem.P.truthy_str (by omega) ⟨H,I.tok _,q⟩
 |PZ y=>obtain⟨t,rfl⟩:=rx;obtain⟨hy,e'⟩:y.size<=bb/\k=((y.size:Int) != 0):=e;subst e';exact PySem.W.truthy_bytes (by omega) ⟨H,I.tok _,q⟩
 |ref p=>
  cases rx;have e':(∃xs,nT X.K H p xs/\k = !xs.isEmpty)∨(∃xs,NX X.K H p xs/\k = !xs.isEmpty)∨∃fF,H p=Y (.dK fF)/\k = !fF.isEmpty:=e;rcases e' with⟨xs,hx,e'⟩|⟨xs,hx,e'⟩|⟨fF,hx,e'⟩
  ·subst e';obtain⟨E_,r,pl,hz⟩:=I.list hx;have GK:=r.length;exact wpAny_truthy_list pl.isList (by simp only[aX];omega) ⟨H,I.tok _,by rw[zh r];exact q⟩
  ·subst e';obtain⟨E_,r,pl,hz⟩:=I.tuple hx;have GK:=r.length;exact truthy_tuple pl (by simp only[aX];omega) ⟨H,I.tok _,by rw[zh r];exact q⟩
  ·subst e';obtain⟨hz,hS,vs,r,m⟩:fF.length<=bb/\(p==kK)=Z_/\∃vs,KV fF vs/\s.heap.DictOf (hV X.prog X.w) p vs:=I.eW p _ hx;have GK:fF.length=vs.length:=Paired.length r;exact wpAny_truthy_dict hS m (by omega) ⟨H,I.tok _,by rw[F_ r];exact q⟩
 |_=>exact(show False from e).elim
theorem Lq(l:PE X a N)(g:∀b,isTrue a X.env b=(do let v <- b;lO a.pos;jw [v] (truthy v))):
  PT X a (λU H Q=>N U H λx H'=>∃k,Ww X.K x H' k/\Q k H'):=by
 intro B s U H Q I h;exact isTrue_plain (fE (l B s U H _ I h) (by rintro v c ⟨x,O,m,e,f⟩;exact Rk B c U O x v Q m e f)) (g _)
theorem FU:pG X (dX .Add) (λx y H Q=>∃i j,x=.str i/\y=.str j/\i.length+j.length<=bb/\Q (.str (i++j)) H):=by
 intro B s U H x y v u Q I c b h;obtain⟨i,j,rfl,rfl,e,q⟩:=h;obtain⟨t,rfl⟩:=c;obtain⟨a,rfl⟩:=b;exact add_str (λa tk=>⟨.str (i++j),H,I.tok _,⟨_,rfl⟩,q⟩) e
theorem vals1{x:V}{a:List ak}(r:cg [x] a):∃u,a=[u]/\RelV x u:=by
 cases r with|cons c b=>cases b;exact⟨_,rfl,c⟩
end
structure GG(h:cD)(x dx C:az)(mA:aG->Option ak):Prop where
 obj:h.get? x=some (Ff C dx)
 ns:h.Ns1 dx mA
 ne:dx≠x
theorem Be{h:cD}{dx:az}{mA:aG->Option ak}(n:h.Ns1 dx mA):∃c,h.get? dx=Y c/\∀name,lookIn name c=Y (mA name):=by
 obtain⟨o,es,r,g,m,l,_,k⟩:=n;refine⟨o,g,λname =>?_⟩;have e:=k name;unfold nsFind findBy at e;rw[<- rK]at e;unfold lookIn;rw[m];dsimp only;split
 ·rename_i y q;rw[q]at e;exact congrArg Y e
 ·rename_i q;rw[q]at e;have a:es.toList.any (·.refKey)=false:=by rw[List.any_eq_false];intro y f;obtain⟨z,t,b⟩:=l y (Array.mem_toList_iff.mp f);simp[DictEntry.refKey,b]
  have p:¬es.toList.any (·.refKey)=true:=by rw[a];exact cF
  rw[if_neg p];exact congrArg Y e
theorem GG.look(I:GG h x dx C mA):∃a,PySem.W.InstAt h x (Ff C dx) C (Y a)/\∀name,lookIn name a=Y (mA name):=
 let ⟨a,b,c⟩:=Be I.ns
 ⟨a,⟨I.obj,rfl,rfl,b⟩,c⟩
section
variable {s:av}{K:aT}{f:az}{name:aG}{v:ak}
theorem Qj(X:K.In s.heap)(I:GG s.heap x dx C mA)(g:plainGet K C name=Z')(f:pk K C=Z')(k:hR K (.ref C) name=Y M)(c:mA name=Y v)(b:PySem.W.handedIn v=Z')(h:Q v { s with toks:=s.toks+1 }):
  be (aU prog w) A (getAttr (.ref x) name a) Q E s:=by
 obtain⟨l,J,e⟩:=I.look;exact PySem.W.get_value X J (PySem.W.plainGet_of g).1 (PySem.W.findObj_own f k rfl (by rw[e,c])) b h
theorem MF(X:K.In s.heap)(I:GG s.heap x dx C mA)(a:plainGet K C name=Z')(l:hR K (.ref C) name=Y (Y (.ref f)))(g:PySem.W.isFn K (.ref f)=Z')(e:mA name=M)(h:Q (.ref f,[.ref x]) s):
  be (aU prog w) A (jr (.ref x) name b) Q E s:=by
 obtain⟨c,J,k⟩:=I.look;exact PySem.W.method_fn X J (PySem.W.plainGet_of a).1 (PySem.W.plainGet_of a).2 l (beq_iff_eq.mp g) (by show (lookIn name c).map (·.isSome)=Y Z_;rw[k,e];rfl) h
theorem Oj(X:K.In s.heap)(I:GG s.heap x dx C mA)(r:hR K (.ref C) "__setattr__" = Y (Y (.builtin "object.__setattr__")))(t:plainOver K C=Z')(o:NH K C name=Y M)(u:pk K C=Z')(hw:PySem.Within mA l)(p:l.length<=bb)(h:∀h',GG h' x dx C (λy=>if y=name then Y v else mA y)->fD dx s.heap h'->Q () { s with heap:=h',toks:=s.toks+2 }):
  be (aU prog w) A (setAttr (.ref x) name v) Q E s:=by
 obtain⟨d,J,R⟩:=I.look;refine PySem.W.set_plain X J r (PySem.W.osa_open (s:={ s with toks:=s.toks+1 }) (r:=M) X J t o λb =>?_);obtain⟨S,D,g⟩:=PySem.W.any_some u;have m:s.heap.get? x=Y ⟨.ref C,Y dx,.plain,#[]⟩:=I.obj;refine ah (aF (ah (ah (CZ m (ah (PySem.W.Looks.here (s:={ s with toks:=s.toks+1 }) (PySem.W.looks_clsIn X D) ?_))))));rw[g];refine aF (a:=Y dx) (ah (aF (ah ?_)));refine wpAny_nsSet1 (s:={ s with toks:=s.toks+1 }) I.ns λh' c a =>?_
 obtain⟨P,F,H,e,f,k⟩:=c.count (PySem.Within.cons name v hw);refine ah (wpAny_lookBehind e (by rw[f];exact pastItsLine_dict (bK k (by rw[aP];omega))) ?_);exact aF (h _ ⟨(a.2 _ (bG I.ne)).trans I.obj,c,I.ne⟩ a)
theorem Md{R:NL->av->Prop}(X:K.In s.heap)(c:makesIn K C=Z')(L:hR K (.ref C) "__init__" = Y (Y (.ref f)))(e:PySem.W.typeIn K (.ref f)=Y (.type "function")) (h:nW (aU prog w) (A.under (.builtin "type.__call__" ⟨.ref C::a,b⟩)) (.call (.ref f) ⟨.ref (s.heap.objs.size+1)::a,b⟩) (PySem.W.InitBack (s.heap.objs.size+1) R)
   { s with heap:=(s.heap.push rB).push (Ff C s.heap.objs.size) }) :
  nW (aU prog w) A (.call (.ref C) ⟨a,b⟩) R s:=by
 obtain⟨l,g,d,t,k⟩:=s;exact PySem.W.make_core (PySem.W.makes_of X c) (PySem.W.looks_findIn X L) (λself=>PySem.W.bind_fn X self e) (.inl rfl) h
end
def lx(f:aG)(v:V):List (aG×V)->List (aG×V)
 |[]=>[(f,v)]|(g,x)::r=>if g=f then (g,v)::r else (g,x)::lx f v r
theorem sd(f g:aG)(v:V):∀j:List (aG×V),(lx f v j).lookup g=if g=f then Y v else j.lookup g
 | []=>by
  show jG g [(f,v)]=_;by_cases h:g=f
  ·have a:(g==f)=true:=beq_iff_eq.mpr h;simp only[jG,a,if_pos h]
  ·have a:(g==f)=false:=beq_eq_false_iff_ne.mpr h;simp only[jG,a,if_neg h]
 | (k,x)::r=>by
  have ih:=sd f g v r;rw[show lx f v ((k,x)::r)=(if k=f then (k,v)::r else (k,x)::lx f v r) from rfl];by_cases b:k=f
  ·rw[if_pos b];by_cases h:g=k
   ·have a:(g==k)=true:=beq_iff_eq.mpr h;simp only[jG,a,if_pos (h.trans b)]
   ·have a:(g==k)=false:=beq_eq_false_iff_ne.mpr h;simp only[jG,a,if_neg (λe:g=f=>h (e.trans b.symm))]
  ·rw[if_neg b];by_cases h:g=k
   ·have a:(g==k)=true:=beq_iff_eq.mpr h;simp only[jG,a,if_neg (λe:g=f=>b (h.symm.trans e))]
   ·have a:(g==k)=false:=beq_eq_false_iff_ne.mpr h;simp only[jG,a];exact ih
theorem wi(f:aG)(v:V):∀j:List (aG×V),f∈(lx f v j).map (·.1)/\∀g,g∈j.map (·.1)->g∈(lx f v j).map (·.1)
 |[]=>⟨by simp[lx],λg h=>by simp at h⟩
 | (k,x)::r=>by
  obtain⟨c,b⟩:=wi f v r;rw[show lx f v ((k,x)::r)=(if k=f then (k,v)::r else (k,x)::lx f v r) from rfl];by_cases a:k=f
  ·rw[if_pos a];subst a;exact⟨by simp,λg h=>by simpa using h⟩
  ·rw[if_neg a];refine⟨?_,λg h =>?_⟩
   ·rw[a_];exact aw _ c
   ·rw[a_]at h ⊢;rcases aW.mp h with e|e
    ·exact aW.mpr (.inl e)
    ·exact aw _ (b g e)
theorem w_(f:aG)(v:V):∀j:List (aG×V),(lx f v j).length<=j.length+1
 |[]=>by simp[lx]
 | (k,x)::r=>by
  have ih:=w_ f v r;rw[show lx f v ((k,x)::r)=(if k=f then (k,v)::r else (k,x)::lx f v r) from rfl];by_cases a:k=f
  ·rw[if_pos a,aP,aP];omega
  ·rw[if_neg a,aP,aP];omega
theorem pE.some_of{v:V}{o:Option ak}(r:pE (Y v) o):∃u,o=Y u/\RelV v u:=by
 cases o with
 |none=>exact(show False from r).elim
 |some u=>exact⟨u,rfl,r⟩
theorem pE.none_of(r:pE M o):o=none:=by
 cases o with
 |none=>rfl|some u=>exact(show False from r).elim
theorem Bm{v:V}(r:RelV v u):PySem.W.handedIn u=true:=by
 cases v with
 |dJ=>cases (show u=aM from r);rfl
 |bl b=>cases (show u=oM b from r);rfl
 |int i=>obtain⟨t,e⟩:=(show ∃t,u=js i t from r);cases e;rfl
 |str x=>obtain⟨t,e⟩:=(show ∃t,u=NK x t from r);cases e;rfl
 |PZ b=>obtain⟨t,e⟩:=(show ∃t,u=Value.bytes b t from r);cases e;rfl
 |NW b=>obtain⟨t,e⟩:=(show ∃t,u=Value.float b t from r);cases e;rfl
 |ref a=>cases (show u=aE a from r);rfl
 |ty n=>cases (show u=bR n from r);rfl
section
variable {P:bt}
theorem yd(b:nU P w H h)(e:H a=Y (.ins C dx j)):∃mA,GG h a dx C mA/\(∀f,pE (j.lookup f) (mA f))/\PySem.Within mA (j.map (·.1))/\j.length<=1000/\H dx=Y (.own a):=by
 obtain⟨d,z,g,c,mA,n,r,q⟩:=(show fJ P w H h a (.ins C dx j) from b a _ e);exact⟨mA,⟨c,n,g⟩,r,q,z,d⟩
end
structure ET(K:aT)(C:az):Prop where
 pg:plainGet K C Str.empty=true
 hd:pk K C=true
 po:plainOver K C=true
 sa:hR K (.ref C) "__setattr__" = some (some (.builtin "object.__setattr__"))
theorem ET.get{K:aT}(c:ET K C)(f:aG):plainGet K C f=true:=c.pg
def qK(K:aT)(C:az)(f:aG):Prop:=hR K (.ref C) f=Y M
theorem qK.UZ{K:aT}{f:aG}(n:qK K C f):NH K C f=Y none:=by
 unfold NH;rw[show hR K (.ref C) f=Y M from n];rfl
structure GI(K:aT)(C:az)(m:aG)(f:az):Prop where
 at_:hR K (.ref C) m=some (some (.ref f))
 fn:PySem.W.isFn K (.ref f)=true
 kp:qk K (.ref f)=true
section
variable {X:Cx}{s:av}{f:aG}{v:V}
theorem zo(I:Inv X B U H s)(e:H a=Y (.ins C dx j))(c:ET X.K C)(n:qK X.K C f)(l:j.lookup f=Y v)(h:∀u s',Inv X B U H s'->RelV v u->Q u s'):be (aU X.prog X.w) A (getAttr (.ref a) f b) Q E s:=by
 obtain⟨mA,O,r,_,_,_⟩:=yd I.eW e;obtain⟨u,k,g⟩:=pE.some_of (v:=v) (o:=mA f) (by rw[<- l];exact r f);exact Qj I.rj O (c.get f) c.hd n k (Bm g) (h u _ (I.tok _) g)
theorem qD{m:aG}(I:Inv X B U H s)(e:H a=Y (.ins C dx j))(c:ET X.K C)(k:GI X.K C m g)(l:j.lookup m=M)(h:Q (.ref g,[.ref a]) s):be (aU X.prog X.w) A (jr (.ref a) m b) Q E s:=by
 obtain⟨mA,O,r,_,_,_⟩:=yd I.eW e;have f:mA m=none:=pE.none_of (by rw[<- l];exact r m);exact MF I.rj O (c.get m) k.at_ k.fn f h
theorem yG(I:Inv X B U H s)(e:H a=Y (.ins C dx j))(c:ET X.K C)(n:qK X.K C f)(K:j.length<1000)(t:RelV y u)(h:∀s',Inv X B U (dg H a (.ins C dx (lx f y j))) s'->Q () s'):be (aU X.prog X.w) A (setAttr (.ref a) f u) Q E s:=by
 obtain⟨mA,O,r,l,_,m⟩:=yd I.eW e;have v:(j.map (·.1)).length<=bb:=by rw[ax,il];omega
 refine Oj I.rj O c.sa c.po n.UZ c.hd l v λh' k p=>h _ ?_
 have x:∃o,h'.get? dx=Y o:=let ⟨o,_,_,F,_⟩:=k.ns;⟨o,F⟩;refine I.write (x:=a) (e:=dx) (by rw[e];exact hU) (.inr m) (λb q D z=>(p.2 b D).trans z) x ?_;refine⟨by rw[aZ O.ne];exact m,?_,O.ne,k.obj,_,k.ns,λg =>?_,λg w =>?_⟩
 ·have:=w_ f y j;omega
 ·show pE ((lx f y j).lookup g) (if g=f then Y u else mA g);rw[sd];by_cases q:g=f
  ·rw[if_pos q,if_pos q];exact t
  ·rw[if_neg q,if_neg q];exact r g
 ·by_cases q:g=f
  ·rw[q];exact(wi f y j).1
  ·refine(wi f y j).2 g (l g λz=>w ?_);show (if g=f then Y u else mA g)=M;rw[if_neg q];exact z
theorem Inv.made(I:Inv X B U H s):Inv X B U (dg (dg H s.heap.objs.size (.own (s.heap.objs.size+1))) (s.heap.objs.size+1) (.ins C s.heap.objs.size []))
  { s with heap:=(s.heap.push rB).push (Ff C s.heap.objs.size) }:=by
 have c:(s.heap.push rB).get? s.heap.objs.size=Y rB:=bx s.heap rfl;have k:((s.heap.push rB).push (Ff C s.heap.objs.size)).get? (s.heap.objs.size+1)=Y (Ff C s.heap.objs.size):=by have:=bx (s.heap.push rB) (o:=Ff C s.heap.objs.size) rfl;rwa [cV]at this
 have h:(s.heap.push rB).Ns s.heap.objs.size (λ_=>M):=⟨rB,#[],_,c,rfl,(λe g=>absurd g (by simp)),λ_=>rfl⟩;have l:=I.laid (a:=s.heap.objs.size) (o :=.own (s.heap.objs.size+1)) (h':=s.heap.push rB) (t':=s.toks) (λb u q=>ai _ q) (aS _) ⟨_,c⟩;refine l.laid (a:=s.heap.objs.size+1) (o :=.ins C s.heap.objs.size []) (t':=s.toks) (λb u q=>ai _ q) (nM (cV _ _)) ?_;have a:s.heap.objs.size≠s.heap.objs.size+1:=bH (jx _);refine⟨by rw[aZ a,br],eG _,a,k,λ_=>M,(Heap.Ns1.of_empty h).at λo q=>ai _ q,λ_=>hU,λy f=>absurd rfl f⟩
theorem Ia{prog:bt}{w:cZ}{a:Env}{e:Expr}{f:aG}{G:Pos}{s:av}{Q:ak->av->Prop}(c:bY e f a (eval e a)=eval e a)(h:be (aU prog w) A (eval e a) (λo b=>be (aU prog w) A (getAttr o f Z') Q E b) E s):be (aU prog w) A (eval (.Attribute e f G) a) Q E s:=
 Attribute_any_ h (by rw[arm_eval_Attribute,c])
end
def U8(K:aT)(N:TE)(f:aG):TE:=λU H Q=>N U H λx O=>∃a C dx j v,x=.ref a/\O a=Y (.ins C dx j)/\ET K C/\qK K C f/\j.lookup f=Y v/\Q v O
def Ya(K:aT)(N tv:TE)(f:aG):TS:=λD U H=>tv U H λy O=>N U O λx d=>∃a C dx j,x=.ref a/\d a=Y (.ins C dx j)/\ET K C/\qK K C f/\j.length<1000 /\
 D.nx U (dg d a (.ins C dx (lx f y j)))
def J1(X:Cx)(b:Operator)(a:V->V->Hp->VK->Prop):Prop:=
 ∀(B:List (az×Obj)) (s:av) (U:St) (H:Hp) (x y:V) (u v:ak) (Q:VK),Inv X B U H s->RelV x u->RelV y v->a x y H Q->be (aU X.prog X.w) X.A (inplaceOp b u v) (EP X B U Q) X.xe s
def Oq(K:aT)(N tv:TE)(e:V->V->Hp->VK->Prop)(f:aG):TS:=λD U H=>N U H λx O=>∃a C dx j v,x=.ref a/\O a=Y (.ins C dx j)/\ET K C/\qK K C f/\j.lookup f=Y v /\
 tv U O λy d=>e v y d λz c=>∃b V9,c a=Y (.ins C b V9)/\V9.length<1000/\D.nx U (dg c a (.ins C b (lx f z V9)))
section
variable {X:Cx}{f:aG}
theorem qy(k:PE X e N)(m:bY e f X.env (eval e X.env)=eval e X.env):PE X (.Attribute e f G) (U8 X.K N f):=by
 intro B s U H Q I h;refine Ia m (fE (k B s U H _ I h) ?_);rintro u A ⟨x,O,r,b,a,C,dx,j,v,ex,o,c,n,l,q⟩;subst ex;obtain rfl:u=aE a:=b;exact zo r o c n l λt w p g=>⟨v,O,p,g,q⟩
theorem BZ(t:PE X o N)(p:PE X value tv)(r:cp value (Y (.Attribute o f Qg)) G.line X.env=dR Z_):PS X (.Assign [.Attribute o f Qg] value G) (Ya X.K N tv f):=by
 intro B s U H D I h;refine Kn (fE (p B s U H _ I h) ?_) r;rintro u b ⟨y,O,E,e,q⟩;refine fE (t B b U O _ E q) ?_;rintro m K ⟨x,d,A,g,a,C,dx,j,ex,v,c,n,l,k⟩;subst ex;obtain rfl:m=aE a:=g;exact yG A v c n l e λF w=>⟨U,_,w,k⟩
theorem I_(R:PE X o N)(Q:PE X value tv)(b:J1 X k g):PS X (.AugAssign (.Attribute o f XZ) k value G) (Oq X.K N tv g f):=by
 intro B s U H D I h;refine wpAny_AugAssign_AttributeAny (fE (R B s U H _ I h) ?_);rintro i s1 ⟨x,O,I1,A,a,C,dx,j,v,ex,S,c,n,l,q⟩;subst ex;obtain rfl:i=aE a:=A;refine zo I1 S c n l λu r I2 E=>fE (Q B r U O _ I2 q) ?_
 rintro m p ⟨y,d,I3,w,K⟩;refine fE (b B p U d v y u m _ I3 E w K) ?_;rintro w4 s4 ⟨z,H3,I4,t,T,V9,e,P,F⟩;exact yG I4 e c n P t λs5 I5=>⟨U,_,I5,F⟩
def Yk:V->V->Hp->VK->Prop:=λx y H Q=>∃i j,x=.int i/\y=.int j/\Q (.int (i+j)) H
def Yg:V->V->Hp->VK->Prop:=λx y H Q=>∃i j,x=.int i/\y=.int j/\Q (.int (i-j)) H
theorem YI:J1 X .Add Yk:=by
 rintro B s U H x y u v Q I c b ⟨i,j,rfl,rfl,q⟩;obtain⟨t,rfl⟩:=(show ∃t,u=js i t from c);obtain⟨a,rfl⟩:=(show ∃a,v=js j a from b);exact PyProof.Rows.iadd_int ⟨.int (i+j),H,I.tok _,⟨_,rfl⟩,q⟩
theorem YH:J1 X .Sub Yg:=by
 rintro B s U H x y u v Q I c b ⟨i,j,rfl,rfl,q⟩;obtain⟨t,rfl⟩:=(show ∃t,u=js i t from c);obtain⟨a,rfl⟩:=(show ∃a,v=js j a from b);exact PyProof.Rows.isub_int ⟨.int (i-j),H,I.tok _,⟨_,rfl⟩,q⟩
theorem QP{o:Sem Bool}{m:aG}{uM:Pos}{args:List Expr}{B:List (az×Obj)}{s:av}{U:St}{H:Hp}{Q:ak->av->Prop}{te:TE}(w:PE X e te)(I:Inv X B U H s) (h:te U H λx O=>∃a C dx j g,x=.ref a/\O a=Y (.ins C dx j)/\ET X.K C/\GI X.K C m g/\j.lookup m=M /\
   ∀b,Inv X B U O b->be (aU X.prog X.w) X.A (mo G (.ref g) [.ref a] (cv G (ao args X.env)) (f' G (cQ [] X.env))) Q X.xe b) (v:eval (.Call (.Attribute e m uM) args [] G) X.env=(do
   let p <- eval e X.env
   lO uM.atName
   let (f,first) <- jw [p] (jr p m o)
   mo G f first (cv G (ao args X.env)) (f' G (cQ [] X.env)))) :
  be (aU X.prog X.w) X.A (eval (.Call (.Attribute e m uM) args [] G) X.env) Q X.xe s:=by
 refine PySem.W.methodCall_KW (pl:=o) (fE (w B s U H _ I h) ?_) v;rintro u b ⟨x,O,r,t,a,C,dx,j,g,ex,A,c,k,l,q⟩;subst ex;obtain rfl:u=aE a:=t;exact qD r A c k l (q b r)
end
section
variable {X:Cx}{s:av}
inductive xK (K:aT) (H:Hp):V->ak->Prop where
 |dJ:xK K H .dJ (.type "NoneType")
 |bl (x:Bool):xK K H (.bl x) (.type "bool")
 |int (i:Int):xK K H (.int i) (.type "int")
 |str (x:aG):xK K H (.str x) (.type "str")
 |NW (x:UInt64):xK K H (.NW x) (.type "float")
 |lst {a:az}{xs:List V}(e:H a=some (.lst xs)):xK K H (.ref a) (.type "list")
 |HB {a:az}{o:Obj}{xs:List V}(e:H a=some (.HB o (.lst xs))):xK K H (.ref a) (.type "list")
 |tup {a:az}{xs:List V}(e:H a=some (.tup xs)):xK K H (.ref a) (.type "tuple")
 |dK {a:az}{fF:List (lJ×V)}(e:H a=some (.dK fF)):xK K H (.ref a) (.type "dict")
 |dT {a:az}{fF:List (List lJ×V)}(e:H a=some (.dT fF)):xK K H (.ref a) (.type "dict")
 | ins {a C dx:az}{fs:List (aG×V)}(e:H a=some (.ins C dx fs)) (cl:ET K C) (ha:hR K (.ref C) "__class__" = some (some (.builtin "object.__class__")))
   (hn:PySem.W.specialIn K (.builtin "object.__class__") "__get__" = some (some (.builtin "getset_descriptor.__get__"))) (htk:PySem.W.takesIn K (.builtin "object.__class__")=some true)
   (hm:PySem.W.mroIn K C (.type "object")=some true):xK K H (.ref a) (.ref C)
theorem nR(I:Inv X B U H s)(k:RelV x u)(v:xK X.K H x t)(e:ja X.K t c=Y b)(h:∀tk,Q (.bool b) { s with toks:=tk }):
  be (aU X.prog X.w) A (J_ (.builtin "isinstance") [u,c]) Q E s:=by
 cases v with
 |dJ=>cases (show u=aM from k);exact rM PySem.W.kitx_none I.rj hU e (λf=>nomatch f) h
 |bl y=>cases (show u=oM y from k);exact rM PySem.W.kitx_bool I.rj hU e (λf=>nomatch f) h
 |int i=>obtain⟨t,q⟩:=(show ∃t,u=js i t from k);cases q;exact rM PySem.W.kitx_int I.rj hU e (λf=>nomatch f) h
 |str y=>obtain⟨t,q⟩:=(show ∃t,u=NK y t from k);cases q;exact rM PySem.W.kitx_str I.rj hU e (λf=>nomatch f) h
 |NW y=>obtain⟨t,q⟩:=(show ∃t,u=Value.float y t from k);cases q;exact rM PySem.W.kitx_float I.rj hU e (λf=>nomatch f) h
 |@lst a xs l=>cases (show u=aE a from k);obtain⟨_,_,n,_,J⟩:=(show fJ X.prog X.w H s.heap a (.lst xs) from I.eW a _ l);exact rM PySem.W.kitx_list I.rj ⟨_,J,rfl⟩ e (λf=>nomatch f) h
 |@HB a w xs l=>cases (show u=aE a from k);obtain⟨_,_,_,n,_,J⟩:=(show fJ X.prog X.w H s.heap a (.HB w (.lst xs)) from I.eW a _ l);exact rM PySem.W.kitx_list I.rj ⟨_,J,rfl⟩ e (λf=>nomatch f) h
 |@tup a xs l=>cases (show u=aE a from k);obtain⟨_,_,_,p⟩:=(show fJ X.prog X.w H s.heap a (.tup xs) from I.eW a _ l);obtain⟨o,J,z,_⟩:=p;exact rM PySem.W.kitx_tuple I.rj ⟨o,J,z⟩ e (λf=>nomatch f) h
 |@dK a m l=>cases (show u=aE a from k);obtain⟨_,_,P,_,p⟩:=(show fJ X.prog X.w H s.heap a (.dK m) from I.eW a _ l);obtain⟨o,es,d,J,z,_⟩:=p;exact rM PySem.W.kitx_dict I.rj ⟨o,J,z.1⟩ e (λf=>nomatch f) h
 |@dT a m l=>cases (show u=aE a from k);obtain⟨_,_,xs,_,o,es,d,J,z,_⟩:=(show fJ X.prog X.w H s.heap a (.dT m) from I.eW a _ l);exact rM PySem.W.kitx_dict I.rj ⟨o,J,z.1⟩ e (λf=>nomatch f) h
 |@ins a C dx j l cl K D r F=>cases (show u=aE a from k);obtain⟨mA,O,_⟩:=yd I.eW l;obtain⟨R,g,_⟩:=O.look;exact rM (PySem.W.kitx_own (cl.get _) cl.hd K D r F) I.rj g e (λf=>nomatch f) h
end
structure eM(k:Nat)(A:gD):Prop where
 hd:A.handled=none
 dp:A.depth+3*k+5<recursionLimit
 un:A.units+16*k+200<rE
theorem eM.mono(r:eM k A)(h:j<=k):eM j A:=⟨r.hd,by have:=r.dp;omega,by have:=r.un;omega⟩
theorem eM.deeper(r:eM (k+1) A)(a:Env):eM k (A.deeper a):=
 ⟨r.hd,by have:=r.dp;show A.depth+1+3*k+5<_;omega,by have:=r.un;show A.units+3+16*k+200<_;omega⟩
theorem F8{A:gD}{C:az}{a:List ak}{b:List (aG×ak)}:(A.under (.builtin "type.__call__" ⟨.ref C::a,b⟩)).depth=A.depth+1:=by
 first|rfl|simp[Around.under,Code.weight,Code.isCreation,Code.isGuard,Code.isCaller,Code.frames,Code.isFrame,guardIds]
theorem F7{A:gD}{C:az}{a:List ak}{b:List (aG×ak)}:(A.under (.builtin "type.__call__" ⟨.ref C::a,b⟩)).units=A.units+1:=by
 first|rfl|simp[Around.under,Code.cUnits,Code.frames,Code.isFrame]
theorem eM.make(r:eM (k+1) A)(C:az)(a:List ak)(b:List (aG×ak)):eM k (A.under (.builtin "type.__call__" ⟨.ref C::a,b⟩)):=
 ⟨r.hd,by have:=r.dp;rw[F8];omega,by have:=r.un;rw[F7];omega⟩
theorem eM.depth(r:eM k A):A.depth<recursionLimit:=by have:=r.dp;omega
theorem eM.units{A:gD}(r:eM k A):A.units+64<rE:=by have:=r.un;omega
def Fu:TA:=λ_ H Q=>Q [] H
def uZ(N:TE)(a:TA):TA:=λU H Q=>N U H λx O=>a U O λxs d=>Q (x::xs) d
section
variable {X:Cx}
theorem gA:PA X [] Fu:=λ_ _ _ _ H Q I h=>Calls.spliced_nil ⟨[],H,I,.nil,h⟩
theorem cJ(m:PE X e te)(l:PA X es t)(k:ao (e::es) X.env=(Z_,eval e X.env)::ao es X.env:=by rfl):PA X (e::es) (uZ te t):=by
 intro G B s U H Q I h;rw[k];show be _ _ (spliced ((Z_,eval e X.env)::cv G (ao es X.env))) _ _ s;refine GS (fE (m B s U H _ I h) ?_);rintro u a ⟨x,O,p,c,g⟩;exact fE (l G B a U O _ p g) <|by rintro r v ⟨xs,d,o,b,f⟩;exact⟨x::xs,d,o,.cons c b,f⟩
def X1(t:TA):TE:=λU H Q=>t U H λxs O=>xs.length<=bb/\∀p,O p=M->Q (.ref p) (dg O p (.tup xs))
def X5(t:TA):TE:=λU H Q=>t U H λxs O=>xs.length<=bb/\∀p,O p=M->Q (.ref p) (dg O p (.lst xs))
theorem Ly{f}(h:PA X es t):PE X (.Tuple es f G) (X1 t):=by
 intro B s U H Q I k;refine wpAny_Tuple_spliced (fE (h G B s U H _ I k) ?_);rintro g a ⟨xs,O,c,r,z,q⟩;refine⟨by rw[<- r.length];exact z,?_⟩;have l:O a.heap.objs.size=none:=c.eW.fresh (aS _);refine⟨.ref a.heap.objs.size,dg O a.heap.objs.size (.tup xs),c.laid (t':=a.toks) (λb u e=>ai _ e) (aS _) ?_,rfl,q _ l⟩;exact⟨z,g,r,⟨_,bx _ rfl,rfl,_,rfl⟩⟩
theorem B0(h:PA X es t):PE X (.List es G) (X5 t):=by
 intro B s U H Q I g;refine wpAny_List_spliced (fE (h G B s U H _ I g) ?_);rintro f a ⟨xs,O,c,r,z,q⟩;refine⟨by rw[<- r.length];exact z,?_⟩;have k:O a.heap.objs.size=none:=c.eW.fresh (aS _);refine⟨.ref a.heap.objs.size,dg O a.heap.objs.size (.lst xs),c.laid (t':=a.toks) (λb u e=>ai _ e) (aS _) ?_,rfl,q _ k⟩;exact⟨z,f,0,r,bx _ rfl⟩
end
abbrev Sp:=List V->Hp->VK->XK->Prop
abbrev Q5:=List Env->Hp->av->XK->ak->av->Prop
structure GJ(P:bt)(w:cZ)(K:aT)(mg:aG->Option ak)(base:cD)(A:gD)(outer:List Env)(s:av)(H:Hp):Prop where
 frames:A.frames=some outer
 mod:Mod K mg base
 bs:∀b o,base.get? b=some o->s.heap.get? b=some o/\H b=none
 Nl:base.objs.size<=s.heap.objs.size
 wq:s.heap.FunFrames base outer
 QW:∀b∈yk outer,H b=none
 eW:nU P w H s.heap
 bare:AN s.gens
def CE(a:List Env)(P:bt)(w:cZ)(H:Hp)(s:av)(Q:VK)(u:ak)(s':av):Prop:=
 ∃v H',s'.os=s.os/\AN s'.gens/\Un (yk a) [] H H' s.heap s'.heap/\nU P w H' s'.heap/\RelV v u/\Q v H'
def CR(CX:Q5)(a:List Env)(P:bt)(w:cZ)(H:Hp)(s:av)(Q:VK)(E:XK)(r:NL)(s':av):Prop:=
 match r with
 |.ok (.ret u)=>CE a P w H s Q u s'|.ok _=>False|.error e=>CX a H s E e s'
structure b_(P:bt)(w:cZ)(K:aT)(mg:aG->Option ak)(base:cD)(CX:Q5)(k:Nat)(f:az)(fd:dY)(ps:List aG)(sp:Sp):Prop where
 len:∀vs H Q E,sp vs H Q E->vs.length=ps.length
 run:∀(A:gD) (outer:List Env) (s:av) (H:Hp) (args:Args) (us:List ak) (vs:List V) (Q:VK) (E:XK),eM k A->GJ P w K mg base A outer s H->Kh s fd args (ps.zip us)->cg vs us->sp vs H Q E ->
  nW (aU P w) A (.call (.ref f) args) (CR CX outer P w H s Q E) s
theorem b_.mono{P:bt}{K:aT}{i:aG->Option ak}{f:az}(F:b_ P w K i base CX j f I q sp)(h:j<=k):
  b_ P w K i base CX k f I q sp:=⟨F.len,λA a s H args c b Q E e=>F.run A a s H args c b Q E (e.mono h)⟩
theorem GJ.make{P:bt}{K:aT}{s:av}(e:GJ P w K i base A a s H)(C:az)(b:List ak)(c:List (aG×ak)):
  GJ P w K i base (A.under (.builtin "type.__call__" ⟨.ref C::b,c⟩)) a s H:=⟨by first|exact e.frames|(simpa [Around.under,Code.envs,Code.isFrame,pushEnvs] using e.frames),e.mod,e.bs,e.Nl,e.wq,e.QW,e.eW,e.bare⟩
section
variable {X:Cx}{s:av}
theorem Inv.Pn(I:Inv X B U H s):GJ X.prog X.w X.K X.mg X.base X.A X.stack s H:=
 ⟨I.ok.frames,I.ok.mod,I.bs,bK I.ok.Nl I.sz,I.stack,I.xY,I.eW,I.bare⟩
theorem Inv.after(I:Inv X B U H s)(h:CE X.stack X.prog X.w H s Q u s'):EP X B U Q u s':=by
 obtain⟨v,H',k,a,f,e,r,q⟩:=h;obtain⟨l,g,d,t,c⟩:=s';obtain rfl:c=s.os:=k;exact⟨v,H',I.call (h':=l) (g':=g) (d':=d) (t':=t) (ch:=[]) f e a (λb z=>absurd z (by simp)),r,q⟩
end
def KY(sp:Sp)(Af:List V)(E:XK)(t:TA):TE:=λU H Q=>t U H λa O=>sp (a++Af) O Q E
def AU(C:az)(m:aG)(sp:Sp)(Af:List V)(E:XK)(N:TE)(t:TA):TE:=λU H Q=>N U H λx O=>∃a dx j,x=.ref a/\O a=Y (.ins C dx j)/\j.lookup m=M /\
 t U O λb d=>sp (x::(b++Af)) d Q E
def U7(C:az)(sp:Sp)(Af:List V)(E:XK)(t:TA):TE:=λU H Q=>t U H λa O=>∀x dx,O x=M->O dx=M->dx≠x ->
 sp (.ref x::(a++Af)) (dg (dg O dx (.own x)) x (.ins C dx [])) (λv d=>v=.dJ/\Q (.ref x) d) E
def Binds(K:aT)(I:dY)(q:List aG)(ds:List ak):Prop:=
 ∀(s:av) (a:List ak),K.In s.heap->(a++ds).length=q.length->Kh s I ⟨a,[]⟩ (q.zip (a++ds))
theorem Binds.all{K:aT}(h:∀a:List ak,a.length=q.length->bindArgs I ⟨a,[]⟩=dR (q.zip a)):Binds K I q []:=λs a _ b=>by
 rw[bU]at b ⊢;exact .of_eq (h a b)
def qJ(CX:Q5)(X:Cx)(E:XK):Prop:=∀(B:List (az×Obj)) (U:St) (H:Hp) (s:av) (e:ak) (s':av),Inv X B U H s->CX X.stack H s E e s'->X.xe e s'
section
variable {X:Cx}{f:az}{m:aG}
theorem BX{s:av}{us:List ak}{vs:List V}(F:b_ X.prog X.w X.K X.mg X.base CX k f I q sp)(l:eM k X.A)(p:Binds X.K I q ds)(o:cg Af ds)(g:qJ CX X E)(a:Inv X B U H s)(r:cg vs us)(h:sp (vs++Af) H Q E):be (aU X.prog X.w) X.A (J_ (.ref f) us) (EP X B U Q) X.xe s:=by
 have c:cg (vs++Af) (us++ds):=r.append o;have m:(us++ds).length=q.length:=by rw[<- c.length];exact F.len _ _ _ _ h
 refine qO (pI (F.run X.A X.stack s H ⟨us,[]⟩ (us++ds) (vs++Af) Q E l a.Pn (p s us a.rj m) c h) λr s' b =>?_);cases r with
 |error e=>exact g B U H s e s' a b|ok t=>
  cases t with|ret u=>exact a.after b|_=>exact cE b
theorem vh(F:b_ X.prog X.w X.K X.mg X.base CX k f I q sp)(o:eM k X.A)(w:Gl X x)(u:X.mg x=Y (.ref f))(v:qk X.K (.ref f)=Z')(D:Binds X.K I q ds)(C:cg Af ds)(m:qJ CX X E)(K:PA X (e::es) t)(g:(x==("__debug__" : aG))=false:=by decide)(A:ao (e::es) X.env=(Z_,eval e X.env)::ao es X.env:=by rfl)(c:(cv G (ao es X.env)).any (·.1)=false:=by rfl):
  PE X (.Call (.Name x p) (e::es) [] G) (KY sp Af E t):=by
 intro B s U H Q b h;refine gm (sP b w u ?_ g);refine PySem.W.callWith_K (h₀:=X.base) b.ok.mod.Sw v (fE (K G B s U H _ b h) ?_) A c;rintro P R ⟨d,O,l,r,a⟩;refine⟨l.rj,?_⟩;exact BX F o D C m l r a
theorem LJ(F:b_ X.prog X.w X.K X.mg X.base CX k f I q sp)(e:eM k X.A)(m:Gl X x)(g:X.mg x=Y (.ref f))(l:qk X.K (.ref f)=Z')(r:Binds X.K I q ds)(o:cg Af ds)(c:qJ CX X E)(b:(x==("__debug__" : aG))=false:=by decide):PE X (.Call (.Name x p) [] [] G) (KY sp Af E Fu):=by
 intro B s U H Q a h;refine gm (sP a m g ?_ b);exact PySem.W.callWith_K0 a.rj l (BX (us:=[]) F e r o c a .nil h)
theorem ya{pl:Sem Bool}(he:PE X o N)(c:ET X.K C)(A:GI X.K C m f)(F:b_ X.prog X.w X.K X.mg X.base CX k f I q sp)(hr:eM k X.A)(hb:Binds X.K I q ds)(hd:cg Af ds)(hx:qJ CX X E)(ha:PA X (e::es) t)(p:ao (e::es) X.env=(Z_,eval e X.env)::ao es X.env:=by rfl)(v:(cv G (ao es X.env)).any (·.1)=false:=by rfl) (ht:eval (.Call (.Attribute o m uM) (e::es) [] G) X.env=(do
   let w <- eval o X.env
   lO uM.atName
   let (f,first) <- jw [w] (jr w m pl)
   mo G f first (cv G (ao (e::es) X.env)) (f' G (cQ [] X.env))):=by rfl) :
  PE X (.Call (.Attribute o m uM) (e::es) [] G) (AU C m sp Af E N t):=by
 intro B s U H Q b h;refine PySem.W.methodCall_KW (pl:=pl) (fE (he B s U H _ b h) ?_) ht;rintro u R ⟨x,O,K,S,a,dx,j,ex,ea,l,g⟩;subst ex;obtain rfl:u=aE a:=S;refine qD K ea c A l ?_;refine PySem.W.callWith_K (first:=[.ref a]) (h₀:=X.base) b.ok.mod.Sw A.kp (fE (ha G B R U O _ K g) ?_) p v;rintro P s2 ⟨i,d,D,r,T⟩;refine⟨D.rj,?_⟩;exact BX (us :=.ref a::P) (vs :=.ref a::i) F hr hb hd hx D (.cons rfl r) T
theorem vg{pl:Sem Bool}(D:PE X o N)(c:ET X.K C)(r:GI X.K C m f)(F:b_ X.prog X.w X.K X.mg X.base CX k f I q sp)(A:eM k X.A)(d:Binds X.K I q ds)(K:cg Af ds)(v:qJ CX X E) (w:eval (.Call (.Attribute o m uM) [] [] G) X.env=(do
   let p <- eval o X.env
   lO uM.atName
   let (f,first) <- jw [p] (jr p m pl)
   mo G f first (cv G (ao [] X.env)) (f' G (cQ [] X.env))):=by rfl) :
  PE X (.Call (.Attribute o m uM) [] [] G) (AU C m sp Af E N Fu):=by
 intro B s U H Q b h;refine PySem.W.methodCall_KW (pl:=pl) (fE (D B s U H _ b h) ?_) w;rintro u R ⟨x,O,g,t,a,dx,j,ex,P,l,e⟩;subst ex;obtain rfl:u=aE a:=t;refine qD g P c r l ?_;exact PySem.W.callWith_K0 (first:=[.ref a]) g.rj r.kp (BX (us:=[.ref a]) (vs:=[.ref a]) F A d K v g (.cons rfl .nil) e)
structure Mk(K:aT)(C f:az):Prop where
 makes:makesIn K C=true
 init:hR K (.ref C) "__init__" = some (some (.ref f))
 fn:PySem.W.isFn K (.ref f)=true
 kp:qk K (.ref C)=true
theorem Lk{s:av}{us:List ak}(i:Mk X.K C f)(F:b_ X.prog X.w X.K X.mg X.base CX k f I q sp)(w:eM (k+1) X.A)(K:Binds X.K I q ds)(D:cg Af ds)(t:qJ CX X E)(a:Inv X B U H s)(r:cg g us)(h:∀x dx,H x=M->H dx=M->dx≠x->sp (.ref x::(g++Af)) (dg (dg H dx (.own x)) x (.ins C dx [])) (λv d=>v=.dJ/\Q (.ref x) d) E):
  be (aU X.prog X.w) X.A (J_ (.ref C) us) (EP X B U Q) X.xe s:=by
 have m:=h (s.heap.objs.size+1) s.heap.objs.size (a.eW.fresh (iU _)) (a.eW.fresh (aS _)) (bH (jx _));have c:=Inv.made (C:=C) a;have l:cg (V.ref (s.heap.objs.size+1)::(g++Af)) (aE (s.heap.objs.size+1)::(us++ds)) :=.cons rfl (r.append D);have A:(aE (s.heap.objs.size+1)::us++ds).length=q.length:=by have e:=l.length;rw[F.len _ _ _ _ m]at e;exact e.symm
 refine qO (Md (f:=f) a.rj i.makes i.init (beq_iff_eq.mp i.fn) (pI (F.run _ X.stack _ _ ⟨aE (s.heap.objs.size+1)::us,[]⟩ (aE (s.heap.objs.size+1)::(us++ds)) _ _ E (w.make C us [])
  (c.Pn.make C us []) (K _ (aE (s.heap.objs.size+1)::us) c.rj A) l m) λr s' b =>?_))
 cases r with
 |error e=>exact t B U _ _ e s' c b|ok P=>
  cases P with
  |ret u=>obtain⟨v,H',S,o,R,p⟩:=c.after b;subst R;exact⟨o,⟨V.ref (s.heap.objs.size+1),H',S,rfl,p⟩⟩
  |_=>exact cE b
theorem Hl(d:Mk X.K C f)(F:b_ X.prog X.w X.K X.mg X.base CX k f I q sp)(o:eM (k+1) X.A)(v:Gl X x)(u:X.mg x=Y (.ref C))(D:Binds X.K I q ds)(A:cg Af ds)(m:qJ CX X E)(K:PA X (e::es) t)(g:(x==("__debug__" : aG))=false:=by decide)(w:ao (e::es) X.env=(Z_,eval e X.env)::ao es X.env:=by rfl)(c:(cv G (ao es X.env)).any (·.1)=false:=by rfl):
  PE X (.Call (.Name x p) (e::es) [] G) (U7 C sp Af E t):=by
 intro B s U H Q b h;refine gm (sP b v u ?_ g);refine PySem.W.callWith_K (h₀:=X.base) b.ok.mod.Sw d.kp (fE (K G B s U H _ b h) ?_) w c;rintro R S ⟨P,O,l,r,a⟩;refine⟨l.rj,?_⟩;exact Lk d F o D A m l r a
end
section
variable {X:Cx}{f:az}{m:aG}
end
structure bB(N P:List aG)(sc:Scope):Prop where
 kind:sc.kind=.function
 co:sc.isCoroutine=false
 gen:sc.isGenerator=false
 nd:N.Nodup
 pre:N.take P.length=P
 par:∀x∈P,sc.names.lookup x=some .local∨sc.names.lookup x=some .cell
 Sf:∀y∈sc.names,y.2 ≠ .free
theorem BC:∀ {a:List (aG×ak)}{m:aG->Option ak},(∀v,(x,v)∉a)->bindL b a m x=m x
 |[],_,_=>rfl| (n,v)::r,m,h=>by
  unfold bindL;rw[BC λw hw=>h w (aw _ hw)];split
  ·have:x≠n:=by rintro rfl;exact h v ay
   simp[this]
  ·rfl
theorem BE:∀ {a:List (aG×ak)}{m:aG->Option ak},(∀v,(x,v)∉a)->bindC b a m x=m x
 |[],_,_=>rfl| (n,v)::r,m,h=>by
  unfold bindC;rw[BE λw hw=>h w (aw _ hw)];split
  ·rfl
  ·have:x≠n:=by rintro rfl;exact h v ay
   simp[this]
theorem BD{v:ak}:∀ {P:List aG}{b:List ak}{i:Nat}{m:aG->Option ak},P.Nodup->P[i]?=Y x->b[i]?=Y v->a x=Y .local ->
  bindL a (P.zip b) m x=Y v
 |[],_,_,_,_,h,_,_=>by simp at h
 |_::_,[],_,_,_,_,h,_=>by simp at h
 |p::P,w::b,0,m,c,J,z,e=>by simp at J z;subst J;subst z;show bindL a ((p,w)::P.zip b) m p=_;unfold bindL;rw[BC λv f=>(ql.mp c).1 (vL f).1,if_pos e];simp
 |p::P,w::b,i+1,m,c,J,z,e=>by show bindL a ((p,w)::P.zip b) m x=_;unfold bindL;exact BD (i:=i) (ql.mp c).2 (by simpa using J) (by simpa using z) e
theorem BF{v:ak}:∀ {P:List aG}{b:List ak}{i:Nat}{m:aG->Option ak},P.Nodup->P[i]?=Y x->b[i]?=Y v->a x≠Y .local ->
  bindC a (P.zip b) m x=Y v
 |[],_,_,_,_,h,_,_=>by simp at h
 |_::_,[],_,_,_,_,h,_=>by simp at h
 |p::P,w::b,0,m,c,J,z,e=>by simp at J z;subst J;subst z;show bindC a ((p,w)::P.zip b) m p=_;unfold bindC;rw[BE λv f=>(ql.mp c).1 (vL f).1,if_neg e];simp
 |p::P,w::b,i+1,m,c,J,z,e=>by show bindC a ((p,w)::P.zip b) m x=_;unfold bindC;exact BF (i:=i) (ql.mp c).2 (by simpa using J) (by simpa using z) e
def start(N:List aG)(a:List V):St:=a.map Y++bo (N.length-a.length) M
def qI(CX:Q5)(P:bt)(w:cZ)(K:aT)(i:aG->Option ak)(base:cD)(N:List aG)(c:aG)(a:Scope)(f:az)(h:ak)(A:gD)(b:List Env)(s:av)(H:Hp)(E:XK):Cx where
 prog:=P
 w:=w
 K:=K
 mg:=i
 base:=base
 A:=A.deeper (qm c a s.heap.objs.size f h)
 N:=N
 s₀:=s
 H₀:=H
 env:=qm c a s.heap.objs.size f h
 outer:=b
 stack:=qm c a s.heap.objs.size f h::b
 ex:=[]
 calm:=Z'
 fn:=λ_=>Z'
 pn:=[]
 xe:=λe s'=>be (aU P w) (A.deeper (qm c a s.heap.objs.size f h)) (leaving (qm c a s.heap.objs.size f h) e) (λ_ g=>CX b H s E e g) (λk g=>CX b H s E k g) s'
theorem zP{sc:Scope}{n:Nat}(h:sc.names.lookup x=Y .cell):∃c,(eS n sc.names []).lookup x=Y c:=by
 have q:=PySem.W.cellsFrom_some sc.names n [] (.inl h);exact Option.isSome_iff_exists.mp q
theorem Jw{P:bt}{K:aT}{f:az}{X:ak}{s:av}{F:List V}(S:bB N q o)(hd:A.handled=M)(D:GJ P w K i base A t s H)(hl:F.length=q.length)(r:cg F us)(x:InCallC s s.heap.objs.size (bindL (qm C o s.heap.objs.size f X).kindOf (q.zip us) λ_=>M) (eS (s.heap.objs.size+1) o.names []) (bindC (qm C o s.heap.objs.size f X).kindOf (q.zip us) λ_=>M) s1):
  Inv (qI CX P w K i base N C o f X A t s H E) [] (start N F) H s1:=by
 have Xg:q.length<=N.length:=by have:=congrArg Uk S.pre;rw[uQ]at this;omega
 obtain⟨J,tk,rfl,hk⟩:=x.done;have d:∀b:az,b∉(qI CX P w K i base N C o f X A t s H E).ex:=λb g=>absurd (show b∈([]:List az) from g) (by simp)
 refine⟨⟨D.mod,S.kind,rfl,rfl,aS _,λy g c J z =>?_,λy Q =>?_,λy c _ h =>?_,λ_=>hd,Around.frames_deeper D.frames,.inr ⟨rfl,rfl⟩,λb g=>absurd g (d b),D.bs,D.Nl,λb _ _=>d b,λb g=>absurd g (d b),D.wq,D.QW⟩,
  rfl,D.bare,Un.kept hk,⟨_,x.toInCall.ns,λl y v J z h3 =>?_⟩,λy c h=>⟨_,x.cell y c h⟩,D.eW.fresh (aS _),λy c h =>?_,λp T=>absurd (show p∈([]:List (az×Obj)) from T) (by simp),D.eW.kept hk,?_⟩
 ·exact name_of_addr x.apart (PySem.mem_of_lookup J) (PySem.mem_of_lookup z)
 ·have Q:o.names.lookup y=Y .cell∨o.names.lookup y=Y .free:=Q;rcases Q with Q|Q
  ·exact zP Q
  ·exact absurd rfl (S.Sf _ (PySem.mem_of_lookup Q))
 ·exact fR (x.above y c (PySem.mem_of_lookup h))
 ·have L:l<F.length:=by
   unfold start at z;by_cases L:l<F.length
   ·exact L
   ·rw[kX (by simpa using L)]at z;rw[N5]at z;split at z<;>cases z
  have ha:F[l]?=Y v:=by
   unfold start at z;rw[fo (by simpa using L),aY]at z;rcases e:F[l]? with _|a
   ·rw[e]at z;cases z
   rw[e]at z;cases z;rfl
  obtain⟨u,hu,rv⟩:=r.get ha;have T:q[l]?=Y y:=by rw[<- S.pre,List.getElem?_take_of_lt (by omega)];exact J
  have R:q.Nodup:=by rw[<- S.pre];exact S.nd.sublist (List.take_sublist _ _)
  refine⟨u,rv,?_⟩;rcases S.par y (List.mem_of_getElem? T) with k|k
  ·exact .inl ⟨k,BD R T hu k⟩
  ·obtain⟨c,e⟩:=zP (n:=s.heap.objs.size+1) k;refine .inr ⟨.inl k,c,e,?_⟩;have m:=x.cell y c e;rw[BF R T hu (by show o.names.lookup y≠_;rw[k];decide)]at m;exact m
 ·exact D.eW.fresh (fR (x.above y c (PySem.mem_of_lookup h)))
 ·unfold start;show _=N.length;rw[aQ,ax,List.length_replicate];omega
theorem QX{P:bt}{K:aT}{f:az}{name:aG}{m:Arguments}{kV ct oc:ak}(lk:K.lookup f=Y ⟨oc,od,.func (fnOf name h m p c dV kV Qk pm an l ct),W8⟩)(Xi:codeIn K l h=Z')(S:bB N q c)(T:∀D H Q E,sp D H Q E->D.length=q.length) (d:∀(A:gD) (g:List Env) (s:av) (H:Hp) (D:List V) (Q:VK) (E:XK),eM k (A.deeper (qm h c s.heap.objs.size f l))->sp D H Q E ->
   ∃t,oP (qI CX P w K i base N h c f l A g s H E) p t/\t { nx:=λ_ H'=>Q .dJ H',rt:=Q } (start N D) H) :
  b_ P w K i base CX (k+1) f (fnOf name h m p c dV kV Qk pm an l ct) q sp:=by
 refine⟨T,λA g s H args us D Q E hr e0 hb r X =>?_⟩;have hl:=T _ _ _ _ X;have KX:K.In s.heap:=e0.mod.Sw.keeps λb o e=>(e0.bs b o e).1
 have lim:s.heap.NoLimit:=e0.mod.nolimit.keeps λb o e=>(e0.bs b o e).1
 have F:∀y∈q.zip us,c.names.lookup y.1=Y .local∨(c.names.lookup y.1=Y .cell/\((eS (s.heap.objs.size+1) c.names []).lookup y.1).isSome=Z'):=λ⟨n,v⟩ hy=>by
  rcases S.par n (vL hy).1 with a|a
  ·exact .inl a
  ·exact .inr ⟨a,PySem.W.cellsFrom_some _ _ _ (.inl a)⟩
 refine codeAny_call_function hr.depth (KX _ _ lk) rfl S.co S.gen rfl (PySem.W.codeRec_of KX Xi) (hb _ _ _ _ ?_);refine wpAny_newFunctionEnv_cells S.kind F λenv he s1 x =>?_
 subst he;refine⟨lim.keeps x.toInCall.keep,codeAny_func ?_⟩;obtain⟨t,ht,hq⟩:=d A g s H D Q E (hr.deeper _) X;have I:Inv (qI CX P w K i base N h c f l A g s H E) [] (start N D) H s1:=Jw S hr.hd e0 hl r x;refine dS (ht [] s1 (start N D) H _ I hq) (λfl s' R =>?_) λe s' R=>R
 have lS:∀ {C:St}{H':Hp}{v:V}{u:ak},Inv (qI CX P w K i base N h c f l A g s H E) [] C H' s'->RelV v u->Q v H'->CE g P w H s Q u s':=
  fun {C H' v u} J rv a=>⟨v,H',J.os,J.bare,J.base,J.eW,rv,a⟩
 cases fl with
 |ret u=>obtain⟨v,C,H',J,rv,a⟩:=R;exact lS J rv a
 |next=>obtain⟨C,H',J,a⟩:=R;exact lS (v:=V.dJ) (u:=aM) J rfl a
 |_=>obtain⟨_,_,_,a⟩:=R;exact cE a
section
variable {X:Cx}{id:String}
def Uw(r:List V->Hp->VK->Prop)(t:TA):TE:=λU H Q=>t U H λa O=>r a O Q
theorem yR(A:lU X (.builtin id) r)(v:Gl X x)(u:X.mg x=M)(m:fA x=Y (.builtin id))(C:PA X (e::es) t)(o:x ≠ "__name__" :=by decide)(b:(x==("__debug__" : aG))=false:=by decide)(w:ao (e::es) X.env=(Z_,eval e X.env)::ao es X.env:=by rfl)(a:(cv G (ao es X.env)).any (·.1)=false:=by rfl):PE X (.Call (.Name x p) (e::es) [] G) (Uw r t):=by
 intro B s U H Q I h;refine gm (qC I v u m ?_ o b);exact oW (fE (C G B s U H _ I h) (by rintro f g ⟨c,O,D,k,l⟩;exact A B g U O c f Q D k l)) w a
theorem Jb(A:lU X (.type T) r)(v:Gl X x)(u:X.mg x=M)(m:fA x=Y (.type T))(C:PA X (e::es) t)(o:x ≠ "__name__" :=by decide)(b:(x==("__debug__" : aG))=false:=by decide)(w:ao (e::es) X.env=(Z_,eval e X.env)::ao es X.env:=by rfl)(a:(cv G (ao es X.env)).any (·.1)=false:=by rfl):PE X (.Call (.Name x p) (e::es) [] G) (Uw r t):=by
 intro B s U H Q I h;refine gm (qC I v u m ?_ o b);exact gV (fE (C G B s U H _ I h) (by rintro f g ⟨c,O,D,k,l⟩;exact A B g U O c f Q D k l)) w a
end
end L2
namespace HT
open PySem PyProof.Rows
section
open PySem.SeqAt
open PySem.AutoSeq1 (wpAny_loadPart')
open PySem.MeetsSeq PySem.MeetsSeq2 PySem.MeetsSeq3
end
section
variable {s:av}
noncomputable def A5(n d:Nat):Option Int->Nat
 |none=>d|some v=>if v<0 then (v+(n:Int)).toNat else min v.toNat n
end
end HT
namespace L2
open PySem PySem.Spec PyProof.Rows
abbrev TO:=St->Hp->(Option Int->Hp->Prop)->Prop
def PO(X:Cx)(e:Option Expr)(t:TO):Prop:=
 ∀(B:List (az×Obj)) (s:av) (U:St) (H:Hp) (Q:Option Int->Hp->Prop),Inv X B U H s->t U H Q ->
  be (aU X.prog X.w) X.A (evalPart e X.env) (λu s'=>∃o H',Inv X B U H' s'/\IsPart u o/\Q o H') X.xe s
def Oc:TO:=λ_ H Q=>Q M H
def U4(t:TE):TO:=λU H Q=>t U H λx O=>∃i,x=.int i/\Q (Y i) O
section
variable {X:Cx}
theorem OH:PO X M Oc:=by
 intro B s U H Q I h;rw[evalPart_none];exact aF ⟨M,H,I,.none,h⟩
theorem OG(h:PE X e te):PO X (Y e) (U4 te):=by
 intro B s U H Q I hw;rw[evalPart_some];refine fE (h B s U H _ I hw) ?_;rintro u f ⟨x,O,c,a,b⟩;obtain⟨i,rfl,q⟩:=b;obtain⟨t,rfl⟩:=a;exact⟨Y i,O,c,.int i t,q⟩
def ZM(X:Cx)(r:V->Option Int->Option Int->Hp->VK->Prop):Prop:=
 ∀(B:List (az×Obj)) (s:av) (U:St) (H:Hp) (x:V) (v b a:ak) (n L:Option Int) (c:az) (Q:VK),Inv X B U H s->RelV x v->s.heap.IsSliceOf c b a .none->IsPart b n->IsPart a L->r x n L H Q ->
  ∃T id,typeLookup (.type T) "__getitem__" = dR (Y (.builtin id))/\s.TypeIs v T/\be (aU X.prog X.w) X.A (J9 v (.ref c)) (EP X B U Q) X.xe s
def tSl(r:V->Option Int->Option Int->Hp->VK->Prop)(te:TE)(tl th:TO):TE:=λU H Q=>te U H λx O=>tl U O λl d=>th U d λu a=>r x l u a Q
theorem DU(F:ZM X r)(P:PE X e te)(K:PO X n tl)(D:PO X L th):PE X (.Subscript e (.Slice n L M p2) G) (tSl r te tl th):=by
 intro B s U H Q I h;refine Subscript_ (fE (P B s U H _ I h) ?_);rintro v m ⟨x,O,I1,o,w⟩;refine wpAny_Slice (fE (K B m U O _ I1 w) ?_);rintro f k ⟨l,d,I2,C,t⟩;refine fE (D B k U d _ I2 t) ?_;rintro c a ⟨u,g,I3,A,p⟩;rw[evalPart_none];refine aF ?_;have S:Inv X B U g { a with heap:=a.heap.push { cls :=.type "slice",data :=.fields #[f,c,.none] } }:=I3.kept (t':=a.toks) λb ob q=>ai _ q
 obtain⟨T,id,R,E,i⟩:=F B { a with heap:=a.heap.push { cls :=.type "slice",data :=.fields #[f,c,.none] } } U g x v f c l u a.heap.objs.size Q S o (Heap.IsSliceOf.new ..) C A p;show be (aU X.prog X.w) X.A (subscriptTail e (.Slice n L M p2) v (.ref a.heap.objs.size)) (EP X B U Q) X.xe { a with heap:=a.heap.push { cls :=.type "slice",data :=.fields #[f,c,.none] } };exact tail_any (ops:=[.ref a.heap.objs.size,v]) E R i (by with_unfolding_all rfl)
def Ez(xs:List V)(n L:Option Int):List V:=(xs.drop (HT.A5 xs.length 0 n)).take (HT.A5 xs.length xs.length L-HT.A5 xs.length 0 n)
theorem Ey(xs:List V)(n L:Option Int):(Ez xs n L).length<=xs.length:=by
 unfold Ez;rw[uQ,EZ];omega
end
noncomputable def B'(n:Nat)(i:Int):Option Nat:=if 0<=i then (if i<n then Y i.toNat else M) else if -(n:Int)<=i then Y (i+n).toNat else M
def ph{a:Type}(xs:List a)(i:Int):Option a:=(B' xs.length i).bind λj=>xs[j]?
theorem B_{n:Nat}(h:B' n i=Y j):seqIndex? i n=Y j/\j<n /\ -(n:Int)<=i/\i<n:=by
 unfold B' at h;by_cases a:0<=i
 ·rw[if_pos a]at h;by_cases J:i<n
  ·rw[if_pos J]at h;have e:i.toNat=j:=bM h;exact⟨by rw[seqIndex_of a J,e],by omega,by omega,J⟩
  ·rw[if_neg J]at h;cases h
 ·rw[if_neg a]at h;by_cases J : -(n:Int)<=i
  ·rw[if_pos J]at h;have e:(i+n).toNat=j:=bM h;exact⟨by rw[seqIndex_neg (by omega) J,e],by omega,J,by omega⟩
  ·rw[if_neg J]at h;cases h
theorem CK{v:a}(h:ph xs i=Y v):∃j,seqIndex? i xs.length=Y j/\xs[j]?=Y v/\j<xs.length /\ -(xs.length:Int)<=i/\i<xs.length:=by
 unfold ph at h;obtain⟨j,e,h⟩:=aa.1 h;obtain⟨J,z,c,b⟩:=B_ e;exact⟨j,J,h,z,c,b⟩
theorem P5{xs:List a}{j:Nat}{v:a}(h:xs[j]?=Y v):ph xs (j:Int)=Y v:=by
 have b:j<xs.length:=(au.mp h).1;have e:B' xs.length (j:Int)=Y j:=by unfold B';rw[if_pos (by omega),if_pos (by omega)];simp
 unfold ph;rw[e];exact h
def CS(b:Expr):Prop:=∀o i,N0 b Z_ o i=operate [o,i] (J9 o i)
def Iq(X:Cx)(r:R2):Prop:=
 ∀(value a:Expr) (B:List (az×Obj)) (s:av) (U:St) (H:Hp) (x y:V) (v u:ak) (Q:VK),Inv X B U H s->RelV x v->RelV y u->r x y H Q ->
  N0 a Z_ v u=operate [v,u] (J9 v u)->be (aU X.prog X.w) X.A (subscriptTail value a v u) (EP X B U Q) X.xe s
def MtR(X:Cx)(id:String)(r:V->List V->Hp->VK->Prop):Prop:=
 ∀(B:List (az×Obj)) (s:av) (U:St) (H:Hp) (x:V) (xs:List V) (v:ak) (a:List ak) (Q:VK),Inv X B U H s->RelV x v->cg xs a->r x xs H Q ->
  be (aU X.prog X.w) X.A (J_ (.builtin id) (v::a)) (EP X B U Q) X.xe s
section
variable {X:Cx}
theorem Iq.or(h:Iq X r)(h':Iq X e):Iq X (λx y H Q=>r x y H Q∨e x y H Q):=by
 intro value a B s U H x y v u Q I c b q f;rcases q with q|q
 ·exact h value a B s U H x y v u Q I c b q f
 ·exact h' value a B s U H x y v u Q I c b q f
theorem QL(l:Iq X r)(o:PE X a N)(m:PE X b y)(k:CS b):PE X (.Subscript a b G) (Uu r N y):=by
 intro B s U H Q I h;exact Subscript_ (TR o m I h λv u e x c d p g f q=>l a b B e U d x c v u Q p g f q (k _ _))
def Vr(K:aT):R2:=λx y H Q=>∃p xs i v,x=.ref p/\y=.int i/\nT K H p xs/\ph xs i=Y v/\Q v H
def Vp(K:aT):R2:=λx y H Q=>∃p xs i v,x=.ref p/\y=.int i/\NX K H p xs/\ph xs i=Y v/\Q v H
def Vq:R2:=λx y H Q=>∃z i c,x=.str z/\y=.int i/\z.length<=bb/\ph z.cps.toList i=Y c/\Q (.str ⟨#[c]⟩) H
theorem Hy:Iq X (Vr X.K):=by
 intro value b B s U H x y v u Q I A o h k;obtain⟨p,xs,i,a,rfl,rfl,C,E,q⟩:=h;cases A;obtain⟨t,rfl⟩:=o;obtain⟨f,r,e,d⟩:=I.list C;obtain⟨j,J,z,R,K,F⟩:=CK E;obtain⟨w,m,c⟩:=r.get z;have D:=r.length;have P:=um;have lS:EP X B U Q w s:=⟨a,H,I,c,q⟩;by_cases l:0<=i
 ·have g:i.toNat=j:=by rw[seqIndex_of l F]at J;exact bM J
  exact item_listR e.isList l (by omega) (by rw[g];simpa using m) lS k
 ·have g:(i+(f.toArray.size:Int)).toNat=j:=by rw[seqIndex_neg (by omega) K]at J;rw[aX,<- D];exact bM J
  exact subscriptTail_builtinR (x:=w) e.isList.typeIs slot_list_getitem.lookup
   (wpAny_getItem_list_neg (Q:=λr s'=>r=w/\EP X B U Q r s') e.isList (by omega) (by rw[aX]<;>omega) (by omega) (by rw[g];simpa using m) ⟨rfl,lS⟩) k
theorem SD:Iq X (Vp X.K):=by
 intro value b B s U H x y v u Q I g f h l;obtain⟨p,xs,i,a,rfl,rfl,m,A,q⟩:=h;cases g;obtain⟨t,rfl⟩:=f;obtain⟨k,r,e,D⟩:=I.tuple m;obtain⟨j,J,z,d,K,F⟩:=CK A;obtain⟨w,C,c⟩:=r.get z;have o:=r.length;have E:=um;have lS:EP X B U Q w s:=⟨a,H,I,c,q⟩;exact subscriptTail_builtinR (x:=w) e.typeIs slot_tuple_getitem.lookup
  (getItem_tuple (j:=j) (Q:=λr s'=>r=w/\EP X B U Q r s') e (by omega) (by omega) (by rw[aX,<- o];exact J) (by simpa using C) ⟨rfl,lS⟩) l
theorem SE:Iq X Vq:=by
 intro value b B s U H x y v u Q I f e h g;obtain⟨a,i,c,rfl,rfl,A,l,q⟩:=h;obtain⟨t,rfl⟩:=f;obtain⟨w,rfl⟩:=e;obtain⟨j,J,z,D,o,m⟩:=CK l;have k:a.cps.toList.length=a.length:=by simp[Str.length]
 rw[k]at J o m;have C:=um;exact tail_any (typeIs_str s a t) slot_str_getitem.lookup (getItem_str (c:=c) (by have r:decide (i < -(2 ^ 63:Int))=false:=decide_eq_false (by omega);have p:decide (i ≥ 2 ^ 63)=false:=decide_eq_false (by omega);rw[r,p,Bool.or_false]) (by rw[J];simpa using z) ⟨.str ⟨#[c]⟩,H,I.tok _,⟨_,rfl⟩,q⟩) g
def rIx(K:aT):R2:=λx y H Q=>Vr K x y H Q∨Vp K x y H Q∨Vq x y H Q
theorem SF:Iq X (rIx X.K):=Hy.or (SD.or SE)
theorem F6(a:List ak)(n j:Nat)(u:ak):Obj.mapSeq (·.setIfInBounds j u) { cls :=.type "list",data :=.seq a.toArray n }={ cls :=.type "list",data :=.seq (a.set j u).toArray n }:=by
 simp[Obj.mapSeq]
theorem Inv.lst{s:av}{p:az}{xs:List V}(I:Inv X B U H s)(h:H p=Y (.lst xs)):
  ∃(a:List ak) (n:Nat),cg xs a/\s.heap.get? p=Y { cls :=.type "list",data :=.seq a.toArray n }/\xs.length<=bb:=by
 obtain⟨z,a,n,r,e⟩:=I.eW p _ h;exact⟨a,n,r,e,z⟩
theorem Inv.Sn{B:List (az×Obj)}{U:St}{H:Hp}{s:av}{p:az}{xs ys:List V}{c a:List ak}{n g:Nat}{f:Obj->Obj}(I:Inv X B U H s)(h:H p=Y (.lst xs))(m:s.heap.get? p=Y { cls :=.type "list",data :=.seq c.toArray n })(k:f { cls :=.type "list",data :=.seq c.toArray n }={ cls :=.type "list",data :=.seq a.toArray g })(r:cg ys a)(l:ys.length<=bb)(t:Nat):
  Inv X B U (dg H p (.lst ys)) { s with heap:=s.heap.update p f,toks:=t }:=by
 have e:(s.heap.update p f).get? p=Y { cls :=.type "list",data :=.seq a.toArray g }:=by rw[cR f m (by rw[k]<;>rfl),k]
 refine I.write (x:=p) (e:=p) (by rw[h];trivial) (.inl rfl) (λb u o q=>(bF _ _ (bG o)).trans q) ⟨_,e⟩ ?_;exact⟨l,a,g,r,e⟩
def QJ:V->V->V->Hp->(Hp->Prop)->Prop:=λo i v H Q=>∃p xs k j,o=.ref p/\i=.int k/\H p=Y (.lst xs)/\B' xs.length k=Y j/\Q (dg H p (.lst (xs.set j v)))
theorem NF:WB X QJ:=by
 intro B s U H o i v F K u Q I A C x h;obtain⟨p,xs,k,j,rfl,rfl,f,E,q⟩:=h;cases A;obtain⟨t,rfl⟩:=C;obtain⟨a,n,r,b,D⟩:=I.lst f;obtain⟨J,z,l,g⟩:=B_ E;have c:=r.length;have d:=um;have w:Inv X B U (dg H p (.lst (xs.set j v))) { s with heap:=s.heap.update p (Obj.mapSeq (·.setIfInBounds j u)) }:=
  I.Sn f b (F6 a n j u) (r.set x j) (by rw[GR];exact D) s.toks
 by_cases m:0<=k
 ·have e:k.toNat=j:=by rw[seqIndex_of m g]at J;exact bM J
  exact PySem.W.ki_setAt b m (by omega) (by rw[aX,<- c];exact g) (by rw[e];exact⟨_,w,q⟩)
 ·have e:(k+(a.toArray.size:Int)).toNat=j:=by rw[seqIndex_neg (by omega) l]at J;rw[aX,<- c];exact bM J
  exact PySem.W.ki_setBack b (by omega) (by rw[aX,<- c];exact l) (by omega) (by rw[e];exact⟨_,w,q⟩)
theorem BR(n L:Option Int)(a:Nat):(rA n L M a).1=((HT.A5 a 0 n:Nat):Int)/\(rA n L M a).2.1=((HT.A5 a a L:Nat):Int)/\(rA n L M a).2.2=1:=by
 refine⟨?_,?_,rfl⟩
 ·cases n with
  |none=>simp[rA,HT.A5]|some i=>
   simp only[rA,HT.A5,Option.getD_none,show (1:Int) > 0 by decide,if_true];by_cases h:i<0
   ·simp only[h,if_true]<;>omega
   ·simp only[h,if_false]<;>omega
 ·cases L with
  |none=>simp[rA,HT.A5]|some i=>
   simp only[rA,HT.A5,Option.getD_none,show (1:Int) > 0 by decide,if_true];by_cases h:i<0
   ·simp only[h,if_true]<;>omega
   ·simp only[h,if_false]<;>omega
theorem Ap(a:List ak)(n L:Option Int):slicePick a.toArray n L M=((a.drop (HT.A5 a.length 0 n)).take (HT.A5 a.length a.length L-HT.A5 a.length 0 n)).toArray:=by
 obtain⟨J,z,b⟩:=BR n L a.toArray.size;unfold slicePick;rw[J,z,b];simp only[sliceRange_one,pick_run,aX]<;>rfl
def Yh(K:aT):V->Option Int->Option Int->Hp->VK->Prop:=λx n L H Q=>∃a xs,x=.ref a/\nT K H a xs/\∀p,H p=M->Q (.ref p) (dg H p (.lst (Ez xs n L)))
theorem Og:ZM X (Yh X.K):=by
 intro B s U H x v u t n L w Q I f p k g h;obtain⟨a,xs,rfl,o,q⟩:=h;cases f;obtain⟨l,r,e,m⟩:=I.list o;have c:=r.length;refine⟨"list",_,slot_list_getitem.lookup,e.isList.typeIs,?_⟩;refine wpAny_getItem_list_slice e.isList p k g .none (by simp) ?_ (by rw[aX]<;>omega);rw[Ap,<- c];refine⟨.ref s.heap.objs.size,_,I.laid (t':=s.toks) (o :=.lst (Ez xs n L)) (λb A q=>ai _ q) (aS _) ?_,rfl,q _ (I.eW.fresh (aS _))⟩;exact⟨bK (Ey xs n L) m,_,0,(r.drop (HT.A5 xs.length 0 n)).take (HT.A5 xs.length xs.length L-HT.A5 xs.length 0 n),bx _ rfl⟩
def qX:V->Bool
 |.dJ=>Z'|.bl _=>Z'|.int _=>Z'|.str _=>Z'|_=>Z_
noncomputable def Q0:V->V->Bool
 |.dJ,.dJ=>Z'|.bl a,.bl b=>a==b|.bl a,.int b=>(if a then 1 else 0)==b
 |.int a,.bl b=>a==(if b then 1 else 0)
 |.int a,.int b=>a==b|.str a,.str b=>a==b|_,_=>Z_
theorem Tg{A:gD}{s:av}{y x:V}{u v:ak}(f:RelV y u)(c:RelV x v)(h:qX y=Z')(g:qX x=Z'):SeqAt.EqAt A s u v (Q0 y x):=by
 cases y with
 |dJ=>
  cases f;cases x with
  |dJ=>cases c;exact SeqAt.EqAt.same _|bl b=>cases c;exact SeqAt.EqAt.none_bool b|int b=>obtain⟨t,rfl⟩:=c;exact SeqAt.EqAt.none_int b t
  |str b=>obtain⟨t,rfl⟩:=c;exact SeqAt.EqAt.none_str b t
  |_=>exact absurd (show Z_=Z' from g) cF
 |bl a=>
  cases f;cases x with
  |dJ=>cases c;exact SeqAt.EqAt.bool_none a|bl b=>cases c;exact SeqAt.EqAt.bool_bool a b|int b=>obtain⟨t,rfl⟩:=c;exact SeqAt.EqAt.bool_int a b t
  |str b=>obtain⟨t,rfl⟩:=c;exact SeqAt.EqAt.bool_str a b t
  |_=>exact absurd (show Z_=Z' from g) cF
 |int a=>
  obtain⟨e,rfl⟩:=f;cases x with
  |dJ=>cases c;exact SeqAt.EqAt.int_none a e|bl b=>cases c;exact SeqAt.EqAt.int_bool a e b|int b=>obtain⟨t,rfl⟩:=c;exact SeqAt.EqAt.int_int a e b t
  |str b=>obtain⟨t,rfl⟩:=c;exact SeqAt.EqAt.int_str a e b t
  |_=>exact absurd (show Z_=Z' from g) cF
 |str a=>
  obtain⟨e,rfl⟩:=f;cases x with
  |dJ=>cases c;exact SeqAt.EqAt.str_none a e|bl b=>cases c;exact SeqAt.EqAt.str_bool a e b|int b=>obtain⟨t,rfl⟩:=c;exact SeqAt.EqAt.str_int a e b t
  |str b=>obtain⟨t,rfl⟩:=c;exact SeqAt.EqAt.str_str a e b t
  |_=>exact absurd (show Z_=Z' from g) cF
 |_=>exact absurd (show Z_=Z' from h) cF
def Pm(x:V)(u:ak):Bool:=match u with
 |.none=>Q0 .dJ x|.bool b=>Q0 (.bl b) x|.int i _=>Q0 (.int i) x|.str z _=>Q0 (.str z) x|_=>Z_
theorem MQ{x y:V}{u:ak}(r:RelV y u)(f:qX y=Z'):Pm x u=Q0 y x:=by
 cases y with
 |dJ=>cases r;rfl|bl b=>cases r;rfl|int i=>obtain⟨t,rfl⟩:=r;rfl
 |str z=>obtain⟨t,rfl⟩:=r;rfl
 |_=>exact absurd (show Z_=Z' from f) cF
theorem Ih{b:List V}(q:cg b a)(f:b.all qX=Z'):a.any (Pm x)=b.any λy=>Q0 y x:=by
 induction q with|nil=>rfl|cons r t i=>rw[mq,aV]at f;rw[pq,pq,MQ r f.1,i f.2]
theorem Ec{s:av}{v:ak}{d:List V}(c:RelV x v)(e:qX x=Z')(q:cg d b)(f:d.all qX=Z'):∀u∈b,SeqAt.EqAt A s u v (Pm x u):=by
 induction q with
 |nil=>exact nofun
 |cons r t i=>rw[mq,aV]at f;exact gc.2 ⟨by rw[MQ r f.1];exact Tg r c f.1 e,i f.2⟩
def UA(x:V)(xs:List V):Bool:=xs.any λy=>Q0 y x
def rIn(K:aT)(a:Bool):R2:=λx y H Q=>∃p xs,y=.ref p/\(nT K H p xs∨NX K H p xs)/\qX x=Z'/\xs.all qX=Z'/\Q (.bl (if a then !UA x xs else UA x xs)) H
theorem Jf:pG X (gr .In) (rIn X.K Z_):=by
 intro B s U H x y v u Q I e g h;obtain⟨p,xs,rfl,b,f,j,q⟩:=h;cases g;rcases b with b|b
 ·obtain⟨a,r,c,k⟩:=I.list b;refine SeqAt.in_listAt (Pm x) c.isList (λw hw=>Ec e f r j w (by simpa using hw)) ⟨.bl _,H,I,rfl,?_⟩;rw[show a.toArray.any (Pm x)=a.any (Pm x) by simp,Ih r j];exact q
 ·obtain⟨a,r,c,k⟩:=I.tuple b;refine SeqAt.in_tupleAt (Pm x) c (λw hw=>Ec e f r j w (by simpa using hw)) ⟨.bl _,H,I,rfl,?_⟩;rw[show a.toArray.any (Pm x)=a.any (Pm x) by simp,Ih r j];exact q
theorem CC:lU X (.builtin "len") (λxs H Q=>∃p ys,xs=[.ref p]/\(nT X.K H p ys∨NX X.K H p ys)/\Q (.int ys.length) H):=by
 intro B s U H xs l Q I r h;obtain⟨p,ys,rfl,b,q⟩:=h;obtain⟨u,rfl,g⟩:=vals1 r;cases g;have m:=um;rcases b with b|b
 ·obtain⟨f,c,e,k⟩:=I.list b;have a:=c.length;exact Calls.call_len_list e.isList (by simp only[aX]<;>omega) ⟨.int ys.length,H,I.tok _,⟨s.toks+1,by rw[aX,a]⟩,q⟩
 ·obtain⟨f,c,e,k⟩:=I.tuple b;have a:=c.length;exact len_tuple e (by simp only[aX]<;>omega) ⟨.int ys.length,H,I.tok _,⟨s.toks+1,by rw[aX,a]⟩,q⟩
theorem CB:lU X (.builtin "len") (λxs H Q=>∃z,xs=[.str z]/\z.length<=bb/\Q (.int z.length) H):=by
 intro B s U H xs a Q I r h;obtain⟨z,rfl,b,q⟩:=h;obtain⟨u,rfl,t,rfl⟩:=vals1 r;have c:=um;exact len_str (by omega) ⟨.int z.length,H,I.tok _,⟨_,rfl⟩,q⟩
theorem lU.or{f:ak}(h:lU X f r)(h':lU X f c):lU X f (λxs H Q=>r xs H Q∨c xs H Q):=by
 intro B s U H xs a Q I b q;rcases q with q|q
 ·exact h B s U H xs a Q I b q
 ·exact h' B s U H xs a Q I b q
theorem CA:lU X (.type "list") (λxs H Q=>∃p ys,xs=[.ref p]/\(nT X.K H p ys∨NX X.K H p ys)/\∀l,H l=M->Q (.ref l) (dg H l (.lst ys))):=by
 intro B s U H xs D Q I r h;obtain⟨p,ys,rfl,m,q⟩:=h;obtain⟨u,rfl,C⟩:=vals1 r;cases C;have lS:∀(a:List ak),cg ys a->ys.length<=bb->∀(h':cD) (f:Nat),(∀b o',s.heap.get? b=Y o'->h'.get? b=Y o') ->
   h'.get? s.heap.objs.size=Y { cls :=.type "list",dict:=M,data :=.seq a.toArray f,slots :=#[] }->EP X B U Q (.ref s.heap.objs.size) { s with heap:=h' }:=λa c k h' f g e=>
  ⟨.ref s.heap.objs.size,_,I.laid (t':=s.toks) g (aS _) (show fJ X.prog X.w _ h' _ (.lst ys) from⟨k,a,f,c,e⟩),rfl,q _ (I.eW.fresh (aS _))⟩
 rcases m with m|m
 ·obtain⟨a,c,v,k⟩:=I.list m;have t:=c.length;obtain⟨o,w,A,n,x⟩:=v.isList;exact call_list_seq p (.inl rfl) w A x (λh' f g e=>lS a c k h' f g e) (by simp only[aX]<;>omega)
 ·obtain⟨a,c,v,k⟩:=I.tuple m;have t:=c.length;obtain⟨o,w,A,n,x⟩:=v;exact call_list_seq p (.inr rfl) w A x (λh' f g e=>lS a c k h' f g e) (by simp only[aX]<;>omega)
def XY(K:aT)(T:String)(x:V)(H:Hp):Prop:=match x with
 |.str _=>T = "str"|.int _=>T = "int"| .ref p=>(T = "list" /\ ∃xs,nT K H p xs)∨(T = "tuple" /\ ∃o,K.lookup p=Y o/\o.cls=.type "tuple" /\o.dict=M) ∨
   (T = "dict" /\((∃a,H p=Y (.dK a))∨∃a,H p=Y (.dT a)))∨(T = "set" /\ ∃S n,H p=Y (.set S n))
 |_=>False
theorem KH{s:av}{v:ak}(I:Inv X B U H s)(r:RelV x v)(f:XY X.K T x H):
  s.TypeIs v T/\∀a,v=.ref a->∃m,s.heap.get? a=Y m/\m.dict=none:=by
 cases x with
 |str z=>obtain⟨t,rfl⟩:=r;cases (show T = "str" from f);exact⟨typeIs_str s z t,λ_ e=>nomatch e⟩
 |int i=>obtain⟨t,rfl⟩:=r;cases (show T = "int" from f);exact⟨typeIs_int s i t,λ_ e=>nomatch e⟩
 |ref p=>
  cases r;rcases f with⟨rfl,xs,w⟩|⟨rfl,o,b,A,h⟩|⟨rfl,b⟩|⟨rfl,S,n,b⟩
  ·obtain⟨u,_,l,_⟩:=I.list w;refine⟨l.isList.typeIs,λa e =>?_⟩;cases e;obtain⟨o,n,e,c,h,_⟩:=l;exact⟨o,e,h⟩
  ·refine⟨⟨o,I.rj p o b,A⟩,λa e =>?_⟩;cases e;exact⟨o,I.rj _ o b,h⟩
  ·have z:∃o,s.heap.get? p=Y o/\o.ExactDict:=by
    rcases b with⟨g,b⟩|⟨g,b⟩
    ·obtain⟨_,_,_,_,o,_,_,e,ex,_⟩:=I.eW p _ b;exact⟨o,e,ex⟩
    ·obtain⟨_,_,_,_,o,_,_,e,ex,_⟩:=I.eW p _ b;exact⟨o,e,ex⟩
   obtain⟨o,e,ex⟩:=z;refine⟨⟨o,e,ex.1⟩,λa k =>?_⟩;cases k;exact⟨o,e,ex.2.1⟩
  ·obtain⟨o,_,_,_,e,ex,_⟩:=I.eW p _ b;refine⟨⟨o,e,ex.1⟩,λa k =>?_⟩;cases k;exact⟨o,e,ex.2.1⟩
 |_=>exact cE f
def Va(K:aT)(T:String)(r:V->List V->Hp->VK->Prop)(to:TE):TE:=λU H Q=>to U H λx O=>XY K T x O/\r x [] O Q
def tBM(K:aT)(T:String)(r:V->List V->Hp->VK->Prop)(to:TE)(t:TA):TE:=λU H Q=>to U H λx O=>XY K T x O/\t U O λxs d=>r x xs d Q
variable {name:aG}{id:String}
theorem LK(p:PlainAttrs T)(c:Slot T name id)(e:GL (.builtin id)=dR (.type "method_descriptor"))(u:MtR X id r)(t:PE X o to)(b:bY o name X.env (eval o X.env)=eval o X.env:=by rfl)(a:(uM.endLine==wz.line)=true:=by rfl):PE X (.Call (.Attribute o name uM) [] [] wz) (Va X.K T r to):=by
 intro B s U H Q I h;refine wpAny_Call_method0_late b a (fE (t B s U H _ I h) ?_);rintro v l ⟨x,O,g,f,k,m⟩;obtain⟨J,z⟩:=KH g f k;exact⟨T,id,p,c,e,J,z,Ac rfl (PySem.evalArgs_none (u B l U O x [] v [] Q g f .nil m))⟩
theorem DV(i:PlainAttrs T)(f:Slot T name id)(k:GL (.builtin id)=dR (.type "method_descriptor"))(S:MtR X id r)(R:PE X o to)(ha:PA X (e::es) t)(c:bY o name X.env (eval o X.env)=eval o X.env:=by rfl) (g:((cv wz (ao (e::es) X.env)).all (λx=> !x.1)&&(f' wz (cQ [] X.env)).all (λx=>x.1.isSome)
   && decide ((e::es).length+([]:List nX).length+(if ([]:List nX).isEmpty then 0 else 1)<30))=true:=by rfl) (b:(uM.endLine==wz.line)=true:=by rfl) (P:ao (e::es) X.env=(Z_,eval e X.env)::ao es X.env:=by rfl) (a:(cv wz (ao es X.env)).any (·.1)=false:=by rfl) :
  PE X (.Call (.Attribute o name uM) (e::es) [] wz) (tBM X.K T r to t):=by
 intro B s U H Q I h;refine wpAny_Call_method_late c g b rfl (fE (R B s U H _ I h) ?_);rintro v D ⟨x,O,p,l,A,K⟩;obtain⟨J,z⟩:=KH p l A;refine⟨T,id,i,f,k,J,z,?_⟩;have m:=ha wz B D U O _ p K;rw[P]at m ⊢;refine Ac (by show (Z_||(cv wz (ao es X.env)).any (·.1))=Z_;rw[a]<;>rfl) (Calls.evalArgs_plain ?_);exact fE m <|by rintro w C ⟨u,d,I2,E,F⟩;exact S B C U d x u v w Q I2 l E F
end
def ZP(X:Cx)(id:String)(r:V->List V->Hp->VK->Prop):Prop:=
 ∀(B:List (az×Obj)) (s:av) (U:St) (H:Hp) (x:V) (xs:List V) (v:ak) (a:List ak) (Q:VK),Inv X B U H s->RelV x v->cg xs a->r x xs H Q ->
  be (aU X.prog X.w) X.A (J_ (.builtin id) (v::a)) (EP X B U Q) X.xe s
theorem cg.one{a:List ak}(h:cg [x] a):∃u,a=[u]/\RelV x u:=by
 rcases h with _|⟨r,_|_⟩;exact⟨_,rfl,r⟩
theorem cg.two{a:List ak}(h:cg [x,y] a):∃u v,a=[u,v]/\RelV x u/\RelV y v:=by
 rcases h with _|⟨r,_|⟨q,_|_⟩⟩;exact⟨_,_,rfl,r,q⟩
theorem cg.zero:∀ {a:List ak},cg [] a->a=[]
 |_,.nil=>rfl
theorem cg.dropLast(h:cg xs a):cg xs.dropLast a.dropLast:=by
 induction h with
 |nil=>exact .nil|cons r t ih=>
  cases t with|nil=>exact .nil|cons q b=>exact .cons r ih
theorem cg.rep(h:cg xs a):∀k:Nat,cg (bo k xs).flatten (bo k a).flatten
 |0 =>.nil|k+1=>by rw[gC,gC,kC,kC];exact cg.append h (cg.rep h k)
theorem Gk(l:List c):l.eraseIdx (l.length-1)=l.dropLast:=by
 induction l with
 |nil=>rfl|cons a r ih=>
  cases r with
  |nil=>rfl|cons b r=>
   have e:(a::b::r).length-1=((b::r).length-1)+1:=by have J:(a::b::r).length=r.length+2:=rfl;have z:(b::r).length=r.length+1:=rfl;omega
   rw[e,List.eraseIdx_cons_succ,ih]
   all_goals rfl
theorem foldl_rep(a:List ak):∀(k:Nat) (b:List ak),
  List.foldl (λf c=>f++c) b.toArray (bo k a.toArray)=(b++(bo k a).flatten).toArray
 |0,b=>by simp
 | k+1,b=>by
  have e:b.toArray++a.toArray=(b++a).toArray:=by simp
  have g:(b++a)++(bo k a).flatten=b++(bo (k+1) a).flatten:=by rw[gC,kC,bZ]
  rw[<- g,<- foldl_rep a k (b++a),<- e,gC,List.foldl_cons]
section
variable {X:Cx}{s:av}
theorem Inv.So{a its':List ak}{n:Nat}{f:Array ak->Array ak}{t':Nat}(I:Inv X B U H s)(m:H l=Y (.lst xs))(e:s.heap.get? l=Y { cls :=.type "list",data :=.seq a.toArray n })(h:f a.toArray=its'.toArray)(c:cg ys its')(b:ys.length<=bb):
  Inv X B U (dg H l (.lst ys)) { s with heap:=s.heap.update l (Obj.mapSeq f),toks:=t' }:=by
 have q:=PySem.IsL.update e f;rw[h]at q;refine I.write (x:=l) (e:=l) (by rw[m];exact trivial) (.inl rfl) (λo u k g=>(bF s.heap (Obj.mapSeq f) (bG k)).trans g) ⟨_,q⟩ ?_;exact⟨b,its',_,c,q⟩
theorem Inv.VN{t':Nat}(I:Inv X B U H s)(c:cg ys a)(b:ys.length<=bb):
  Inv X B U (dg H s.heap.objs.size (.lst ys)) { s with heap:=s.heap.push { cls :=.type "list",data :=.seq a.toArray },toks:=t' }:=
 I.laid (λ_ _ q=>ai _ q) (aS _) ⟨b,a,0,c,bx _ rfl⟩
theorem Inv.fresh(I:Inv X B U H s):H s.heap.objs.size=none:=I.eW.fresh (aS _)
theorem Inv.F9(I:Inv X B U H s)(b:H l=Y (.lst xs)):xs.length<=bb/\∃(a:List ak) (n:Nat),cg xs a/\xs.length=a.length/\s.heap.get? l=Y { cls :=.type "list",data :=.seq a.toArray n }:=by
 obtain⟨z,a,n,r,e⟩:=I.eW l _ b;exact⟨z,a,n,r,r.length,e⟩
theorem D6(h:n<=bb):nO n=false:=by
 unfold nO;exact decide_eq_false (by omega)
end
section
variable {X:Cx}
def Ox:V->List V->Hp->VK->Prop:=λx a H Q=>∃l xs y,x=.ref l/\a=[y]/\H l=Y (.lst xs)/\xs.length<bb/\Q .dJ (dg H l (.lst (xs++[y])))
theorem pZ:ZP X "list.append" Ox:=by
 intro B s U H x k v m Q I c f h;obtain⟨l,xs,y,rfl,rfl,b,o,q⟩:=h;cases c;obtain⟨u,rfl,g⟩:=f.one;obtain⟨z,a,n,r,p,e⟩:=I.F9 b;refine GN F.slot_list_append ⟨_,e,rfl⟩ F.entry_list_append (F.args_list_append_2 _ _) (PySem.list_append l a.toArray n u (by rw[aX];omega)) ⟨e,?_⟩;refine⟨.dJ,_,I.So (its':=a++[u]) b e (by simp) (r.append (.cons g .nil)) ?_,rfl,q⟩;rw[aQ,cI];omega
def Ow:V->List V->Hp->VK->Prop:=λx a H Q=>∃l b xs zs,x=.ref l/\a=[.ref b]/\H l=Y (.lst xs)/\H b=Y (.lst zs)/\xs.length+zs.length<=bb/\Q .dJ (dg H l (.lst (xs++zs)))
theorem Jl:ZP X "list.extend" Ow:=by
 intro B s U H x K v d Q I m o h;obtain⟨l,b,xs,zs,rfl,rfl,k,C,P,q⟩:=h;cases m;obtain⟨u,rfl,p⟩:=o.one;cases p;obtain⟨z,c,n,r,R,e⟩:=I.F9 k;obtain⟨E,a,w,t,A,D⟩:=I.F9 C;have g:c.toArray.size+a.toArray.size<=bb:=by rw[aX,aX];omega
 have f:¬(!c.toArray.isEmpty&&nO (c.toArray.size+a.toArray.size))=true:=by rw[D6 g,Kg];exact cF
 refine GN F.slot_list_extend ⟨_,e,rfl⟩ F.entry_list_extend (F.args_list_extend_2 _ _)
  (AutoSeq1.list_extend_list_list_0 l c.toArray n b a.toArray w f (by rw[aX];omega) (by omega)) ⟨e,D,?_⟩
 refine⟨.dJ,_,I.So (its':=c++a) k e (by simp) (r.append t) ?_,rfl,q⟩;rw[aQ];omega
def Vo:V->List V->Hp->VK->Prop:=λx a H Q=>∃l xs y,x=.ref l/\a=[]/\H l=Y (.lst xs)/\xs[xs.length-1]?=Y y/\Q y (dg H l (.lst xs.dropLast))
theorem L_:ZP X "list.pop" Vo:=by
 intro B s U H x w v A Q I g k h;obtain⟨l,xs,y,rfl,rfl,f,o,q⟩:=h;cases g;have c:=k.zero;subst c;obtain⟨z,a,n,r,t,e⟩:=I.F9 f;obtain⟨u,p,m⟩:=r.get o;have b:a.toArray[a.toArray.size-1]?=Y u:=by show a.toArray[a.length-1]?=Y u;rw[<- wU,<- t];exact p
 refine GN F.slot_list_pop ⟨_,e,rfl⟩ F.entry_list_pop (F.args_list_pop_1 _) (MeetsSeq.list_pop_last l a.toArray n u b (by rw[aX];omega)) ⟨e,?_⟩;refine⟨y,_,I.So (its':=a.dropLast) f e ?_ r.dropLast ?_,m,q⟩
 ·show a.toArray.eraseIdxIfInBounds (a.toArray.size-1)=a.dropLast.toArray;rw[aX,List.eraseIdxIfInBounds_toArray,Gk]
 ·rw[List.length_dropLast];omega
def Yj:R2:=λx y H Q=>∃l b xs zs,x=.ref l/\y=.ref b/\H l=Y (.lst xs)/\H b=Y (.lst zs)/\xs.length+zs.length<=bb/\∀p,H p=M->Q (.ref p) (dg H p (.lst (xs++zs)))
theorem LR:pG X (dX .Add) Yj:=by
 intro B s U H x y v u Q I g f h;obtain⟨l,b,xs,zs,rfl,rfl,o,p,D,q⟩:=h;cases g;cases f;obtain⟨z,c,n,r,E,e⟩:=I.F9 o;obtain⟨A,a,C,k,m,w⟩:=I.F9 p;refine PySem.P.add_list e w ?_ (by rw[aX,aX];omega);have t:c.toArray++a.toArray=(c++a).toArray:=by simp
 rw[t];exact⟨.ref _,_,I.VN (t':=s.toks) (r.append k) (by rw[aQ];omega),rfl,q _ I.fresh⟩
def Yi:R2:=λx y H Q=>∃l k xs,x=.ref l/\y=.int k/\H l=Y (.lst xs) /\ -(2 ^ 63)<=k/\k<2 ^ 63/\xs.length*k.toNat<=bb /\
 ∀p,H p=M->Q (.ref p) (dg H p (.lst (bo k.toNat xs).flatten))
theorem Qi(xs:List a)(k:Nat):(bo k xs).flatten.length=k*xs.length:=by
 induction k with|zero=>simp|succ k ih=>rw[gC,kC,aQ,ih,Qn,Nat.add_comm]
theorem R4:pG X (dX .Mult) Yi:=by
 intro B s U H x y v u Q I rx ry h;obtain⟨l,k,xs,rfl,rfl,hH,J,z,hz,q⟩:=h;cases rx;obtain⟨t,rfl⟩:=ry;obtain⟨b,E_,n,r,hl,e⟩:=I.F9 hH;have GK:E_.toArray.size*k.toNat<=bb:=by rw[aX,<- hl];exact hz
 have Y9:¬E_.toArray.size*k.toNat > (2 ^ 63-1)/8:=by
  have:(bb:Nat)<=(2 ^ 63-1)/8:=by decide
  omega
 have Y4:¬(!Builtin.List.listFitsIndex k)=true:=by rw[fitsIndex_both J z];exact cF
 have V1:¬nO (E_.toArray.size*k.toNat)=true:=by rw[D6 GK];exact cF
 have SX:List.foldl (λx1 x2=>x1++x2) #[] (bo (if E_.toArray.isEmpty=Z' then 0 else k.toNat) E_.toArray)=(bo k.toNat E_).flatten.toArray:=by
  have f0:∀m:Nat,List.foldl (λx1 x2=>x1++x2) #[] (bo m E_.toArray)=(bo m E_).flatten.toArray:=λm=>by have:=foldl_rep E_ m [];rw[dh]at this;exact this
  rw[f0];cases E_ with
  |nil=>simp|cons a r'=>rw[if_neg (by simp)]
 refine wpAny_binaryOp_repeat_ref (T:= "list") (U:= "int") (by decide) ⟨_,e,rfl⟩ (λs'=>typeIs_int s' k t) noFill_list_mul F.fills_int_mul F.slot_int_rmul repeat_list F.slot_int_index.lookup
  (GN F.slot_int_rmul (typeIs_int s k t) F.entry_int_rmul (F.args_int_rmul_2 _ _) (int___rmul___int_list k t l E_.toArray n)
   ⟨e,rfl,⟨_,e,rfl⟩,GN F.slot_list_mul ⟨_,e,rfl⟩ F.entry_list_mul (F.args_list_mul_2 _ _) (AutoListH.list___mul___list_int_3 l E_.toArray n k t Y4 Y9 V1) ⟨e,?_⟩⟩)
 rw[SX];exact⟨.ref _,_,I.VN (t':=s.toks) (r.rep k.toNat) (by rw[Qi,Nat.mul_comm];exact hz),rfl,q _ I.fresh⟩
end
section
variable {s:av}
end
section
variable {X:Cx}
end
end L2
namespace Att
open PySem PySem.W PySem.Calls PyProof.Rows
theorem xH{P:Params}:∀(c:List Int) (e:List ak),WellAll P h e (c.map WData.int)->Fh e c:=by
 intro c
 induction c with
 |nil=>intro e w;rw[C3]at w;cases w;exact .nil
 |cons n c ih=>
  intro e w;rw[a_]at w;cases w with
  |cons a b=>cases a;exact .cons _ _ (ih _ b)
theorem IT{l:OpenLaw}{n:Nat}(A:l.most=Y n){P:Params}{h:cD}{args:List WData}{c:List ak}(e:l.row.toRowW.claim.pre args=Z')(o:WellAll P h c args):
  ∃a s b,c=[aE a]/\args=[WData.list (b.map WData.int)]/\h.get? a=Y { cls :=.type "list",data :=.seq s.toArray }/\Fh s b/\b.length<=n:=by
 have p:WShape.hasAll [] args [.list .int]=true:=(pre_splitW e).1;have t:l.pre.holds [] { args:=args }=true:=(pre_splitW e).2;obtain⟨d,r,rfl,J,z⟩:=hasAllW_cons p;obtain rfl:=hasAllW_nil z;obtain⟨xs,rfl,C⟩:=hasW_list J;obtain⟨b,rfl⟩:=items_int C;have f:b.length<=n:=by
  unfold OpenLaw.pre at t;have m:(WTm.not (.lt (.lit (.int (n:Int))) (.len (.arg 0)))).holds [] { args:=[.list (b.map .int)] }=true:=by have m:=(holds_andW t).1;rw[A]at m;exact m
  have k:=condW_of m (w_not (w_lt w_lit (w_len_list (w_arg rfl))));rw[ax]at k;refine Nat.le_of_not_lt λq =>?_
  have w:(n:Int)<((b.length:Nat):Int):=by omega
  first
   |(rw[decide_eq_true w]at k;exact absurd k (by decide))
   |(simp at k;omega)
 cases o with
 |cons v u=>
  cases u;cases v with|list x g=>exact⟨_,_,b,rfl,rfl,x,xH b _ g,f⟩
theorem I'(l:OpenLaw)(args:List WData):l.row.toRowW.claim.post args (.bool Z') args=true:=
 postW_of (r:=l.row.toRowW) (X:=(Z'==Z'))
  (show WShape.has [] (.bool Z') .bool=Z' by first|rfl|decide|simp[WShape.has,WShape.arms,WShape.armsAll])
  (show (WTm.eq .res (.lit (.bool Z'))).value [] { args:=args,res:=Y (.bool Z'),after:=args }=Y (.bool (Z'==Z')) from w_eq_bool (w_res rfl) w_lit) rfl
theorem EG{l:OpenLaw}{n:Nat}{q:bt}{e:List aG}{R:(aG->Option ak)->cD->Prop}{Q:cZ->cD->Prop}{d:DefRec}(hn:l.most=Y n)(F:d.params.defaults=[]) (u:∀(w:cZ) (c b:av) (i C:aG->Option ak) (t:az) (o:Obj) (A x h:ak) (a:az) (k:List ak) (v:List Int),
   Ground q e [] R w c i C b.heap->Q w b.heap ->
   b.heap.get? t=Y o->o.data=.func (docDef d.name d.params d.body d.scope A x h)->b.heap.CodeRec x d.name->i d.name=Y (.ref t) ->
   b.heap.get? a=Y { cls :=.type "list",data :=.seq k.toArray }->Fh k v->v.length<=n->b.gens=#[] ->
   nW (aU l.prog w) Dg (.call (.ref t) ⟨[.ref a],[]⟩) (λr s'=>r=.ok (.ret (.bool Z'))/\OldK b.heap s'.heap/\s'.os=b.os/\AN s'.gens) b) :
  WalkO q e R Q l.row.toRowW d [] (λf k=>PySem.call f k):=by
 intro w c b i C G j t o A x h dV S ho hd H P E hg args K as m y T D hlo;obtain rfl:dV=.none:=Dflts.none P F;obtain rfl:S=.none:=Dflts.noKw P;obtain⟨a,k,v,rfl,rfl,p,g,s⟩:=IT hn m D;refine enter_call (pI (u w c b i C t o A x h a k v G j ho (fd_plain hd) H E p g s hg) λr s' X =>?_);obtain⟨rfl,z,h3,h4⟩:=X;exact⟨.inl ⟨.bool Z',.bool Z',[],rfl,λ_=>rfl,.bool Z',I' l _,λ_=>⟨List.Pairwise.nil,λ_ hm=>(nomatch hm)⟩⟩,z,h3,h4⟩
section
variable {s:av}{K:aT}
end
end Att
namespace L2
open PySem PySem.Spec PyProof.Rows
theorem IF(h:Fh a b):cg (b.map V.int) a:=by
 induction h with|nil=>exact .nil|cons n t h i=>exact .cons ⟨t,rfl⟩ i
def Nv(H:Hp):Prop:=∀b,H b=M∨∃o xs,H b=Y (.HB o (.lst xs))
theorem Mp{P:bt}{K:aT}{f:av}(KX:K.In f.heap)(S:f.heap.Ns aI i)(l:f.heap.Ns builtinsNs mb)(hbb:∀x:aG,x ≠ "__name__" ->mb x=fA x)(T:f.heap.NoLimit)(hg:f.gens=#[])(ha:f.heap.get? a=Y { cls :=.type "list",data :=.seq A.toArray })(L:Fh A E)(hl:E.length<=bb)(hr:eM k Dg)(F:∀base:cD,K.In base->base.Ns aI i->b_ P w K i base CX k fa I [x] sp)(C:∀(s:av) (u:ak),Kh s I ⟨[u],[]⟩ [(x,u)])(hsp:∀H:Hp,Nv H->nT K H a (E.map V.int)->sp [.ref a] H (λv _=>v=.bl Z') λ_ _ _=>False)(hCX:∀H e s',CX [] H f (λ_ _ _=>False) e s'->False):
  nW (aU P w) Dg (.call (.ref fa) ⟨[.ref a],[]⟩) (λr s'=>r=.ok (.ret (.bool Z'))/\OldK f.heap s'.heap/\s'.os=f.os/\AN s'.gens) f:=by
 have rv:=IF L;have j:=L.length;have t:∀H:Hp,Nv H->nT K H a (E.map V.int)->nU P w H f.heap->(∀b,H b≠M->b=a)->(H a≠M->K.lookup a=M) ->
   nW (aU P w) Dg (.call (.ref fa) ⟨[.ref a],[]⟩) (λr s'=>r=.ok (.ret (.bool Z'))/\OldK f.heap s'.heap/\s'.os=f.os/\AN s'.gens) f:=by
  intro H hO hS R hA hK;have g:∀ {b:az}{o:Obj},f.heap.get? b=Y o->H b=M->(Ce f.heap H).get? b=Y o:=λe n=>MC e n
  have noA:∀ {b:az}{o:Obj}{es:Array DictEntry}{ep:Nat},f.heap.get? b=Y o->o.data=.dict es ep->H b=none:=fun {b o es ep} e d=>by
   rcases q:H b with _|u
   ·rfl
   have e':b=a:=hA b (by rw[q];simp);subst e';rw[ha]at e;cases e;have d':Data.seq A.toArray _=qR es ep:=d;cases d'
  have p:∀ {b:az}{m:aG->Option ak},f.heap.Ns b m->(Ce f.heap H).Ns b m:=fun {b m} ⟨o,es,ep,e,d,r⟩=>⟨o,es,ep,g e (noA e d),d,r⟩
  have X:K.In (Ce f.heap H):=λb o e=>g (KX b o e) (by
   rcases q:H b with _|u
   ·rfl
   have e':b=a:=hA b (by rw[q];simp);subst e';rw[hK (by rw[q];simp)]at e;cases e)
  have hM:Mod K i (Ce f.heap H):=⟨X,p S,⟨mb,p l,hbb⟩,let ⟨mc,J,z⟩:=T;⟨mc,p J,z⟩⟩;have e0:GJ P w K i (Ce f.heap H) Dg [] f H:=⟨rfl,hM,λb o e=>OX e,nM (JA _ _),trivial,λb l=>absurd (show b∈([]:List az) from l) (by simp),R,.of_eq hg⟩;refine pI ((F _ X (p S)).run Dg [] f H ⟨[.ref a],[]⟩ [.ref a] [.ref a] _ _ hr e0 (C f (.ref a)) (.cons rfl .nil) (hsp H hO hS)) λr s' h =>?_
  cases r with
  |error e=>exact(hCX H e s' h).elim|ok fl=>
   cases fl with
   |ret u=>
    obtain⟨v,H',os,bare,un,Q,r',q⟩:=h;have q':v=.bl true:=q;subst q';obtain rfl:u=oM true:=r';refine⟨rfl,OldK.of_keep λb o e =>?_,os,bare⟩;cases q:H b with
    |none=>exact un.keep b o e q (by intro c;exact absurd (show b∈([]:List az) from c) (by simp)) (by simp)
    |some u=>
     rcases hO b with c|⟨ob,xs,c⟩
     ·rw[q]at c;cases c
     ·have z2:=un.Az b ob _ c;obtain⟨e1,_⟩:=R b _ c;obtain⟨e2,_⟩:=Q b _ z2;rw[e]at e1;cases e1;exact e2
   |_=>exact cE h
 cases hk:K.lookup a with
 |some o=>have e:=KX a o hk;rw[ha]at e;cases e;refine t (λ_=>M) (λ_ =>.inl rfl) (.inr ⟨_,A.toArray,_,hk,rfl,rfl,rfl,by rw[aX,j];exact hl,by simpa using rv⟩) (λb u c=>by have D:(M:Option HO)=Y u:=c;cases D) (λb c=>absurd rfl c) λc=>absurd rfl c
 |none=>
  refine t (λb=>if b=a then Y (.HB { cls :=.type "list",data :=.seq A.toArray } (.lst (E.map V.int))) else M) (λb =>?_) (.inl (.inr ⟨{ cls :=.type "list",data :=.seq A.toArray },if_pos rfl⟩)) (λb u c =>?_) (λb c =>?_) λ_=>hk
  ·by_cases l:b=a
   ·exact .inr ⟨_,_,if_pos l⟩
   ·exact .inl (if_neg l)
  ·by_cases l:b=a
   ·have D:=(if_pos l).symm.trans c;cases D;subst l;exact⟨ha,by rw[ax];exact hl,A,_,rv,ha⟩
   ·have D:=(if_neg l).symm.trans c;cases D
  ·by_cases l:b=a
   ·exact l
   ·exact absurd (if_neg l) c
theorem N9{l:PySem.W.OpenLaw}{n k:Nat}{q:bt}{c:List aG}{R:cZ->cD->Prop}{d:DefRec}{K:Params->aT}{CX:cZ->Q5}{sp:cZ->Sp}{x:aG}(X:l.most=Y n)(C:n<=bb)(E:d.params.defaults=[])(T:eM k Dg)(hY:∀(w:cZ) (h:cD),R w h->(K w.params).In h) (F:∀(w:cZ) (i:aG->Option ak) (t:az) (h:cD),(K w.params).In h->h.Ns aI i->i d.name=Y (.ref t) ->
   ∃I:dY,(∀(s:av) (u:ak),Kh s I ⟨[u],[]⟩ [(x,u)]) /\
    ∀base:cD,(K w.params).In base->base.Ns aI i->b_ l.prog w (K w.params) i base (CX w) k t I [x] (sp w)) (A:∀(w:cZ) (H:Hp) (a:az) (r:List Int),r.length<=n->Nv H->nT (K w.params) H a (r.map V.int)->sp w [.ref a] H (λv _=>v=.bl Z') λ_ _ _=>False) (y:∀(w:cZ) (H:Hp) (s:av) (e:ak) (s':av),CX w [] H s (λ_ _ _=>False) e s'->False) :
  PySem.W.WalkO q c XP R l.row.toRowW d [] (λf P=>PySem.call f P):=by
 refine Att.EG X E λw Q m i mb t o pm cd Qk a P r G j ho hd Xi D p g b hg =>?_
 have S:=hY w _ j;obtain⟨I,hb,hF⟩:=F w i t _ S G.T.g D;exact Mp S G.T.g G.T.b G.T.builtins G.T.nolimit hg p g (bK b C) T hF hb (λH hO hS=>A w H a r b hO hS) λH e s'=>y w H m e s'
theorem Kz{l:PySem.W.OpenLaw}{n k:Nat}{q:bt}{b:List aG}{P:(aG->Option ak)->cD->Prop}{t:cZ->cD->Prop}{d:DefRec}{K:Params->aT}{CX:Q5}{sp:aT->Sp}{x:aG}(D:l.most=Y n)(m:n<=bb)(o:d.params.defaults=[])(C:eM k Dg)(E:∀(w:cZ) (h:cD),t w h->(K w.params).In h) (F:∀(w:cZ) (i:aG->Option ak) (r:az) (h:cD),(K w.params).In h->h.Ns aI i->i d.name=Y (.ref r) ->
   ∃I:dY,(∀(s:av) (u:ak),Kh s I ⟨[u],[]⟩ [(x,u)]) /\
    ∀base:cD,(K w.params).In base->base.Ns aI i->b_ l.prog w (K w.params) i base CX k r I [x] (sp (K w.params))) (g:∀(K:aT) (H:Hp) (a:az) (c:List Int),c.length<=n->Nv H->nT K H a (c.map V.int)->sp K [.ref a] H (λv _=>v=.bl Z') λ_ _ _=>False) (p:∀(H:Hp) (s:av) (e:ak) (s':av),CX [] H s (λ_ _ _=>False) e s'->False) :
  PySem.W.WalkO q b P t l.row.toRowW d [] (λf A=>PySem.call f A):=
 N9 (K:=K) (CX:=λ_=>CX) (sp:=λw=>sp (K w.params)) D m o C E F (λw H a c J z j=>g (K w.params) H a c J z j) λ_ H s e s'=>p H s e s'
def cC(s:qP)(j:Nat):qP:=match s with
 |.ClassDef _ _ _ a _ _ _ _ _ _ _=>a.getD j (.Pass ⟨0,0,0,0⟩)|_ =>.Pass ⟨0,0,0,0⟩
def nH(s:qP):Arguments:=match s with
 |.FunctionDef _ a _ _ _ _ _ _ _ _=>a|_=>{ posonlyargs:=[],args:=[],vararg:=M,kwonlyargs:=[],kw_defaults:=[],kwarg:=M,defaults:=[] }
def gv(s:qP):List qP:=match s with
 |.FunctionDef _ _ b _ _ _ _ _ _ _=>b|_=>[]
def aB(s:qP):Scope:=match s with
 |.FunctionDef _ _ _ _ _ _ a _ _ _=>a|_=>{ kind :=.function,names:=[],isGenerator:=Z_,isCoroutine:=Z_ }
abbrev gS:Q5:=λ_ _ _ _ _ _=>False
abbrev E0:XK:=λ_ _ _=>False
theorem oB{X:Cx}:qJ gS X E0:=λ_ _ _ _ _ _ _ h=>h.elim
structure hG(K:aT)(x qual:aG)(st:qP)(f:az)(fd:dY):Prop where
 ex:∃(oc:ak) (od:Option az) (kV Qk pm:ak) (an:Option az) (TK ct:ak) (W8:Array (Option ak)),
  fd=fnOf x qual (nH st) (gv st) (aB st) .none kV Qk pm an TK ct/\K.lookup f=some ⟨oc,od,.func fd,W8⟩/\codeIn K TK qual=true
 kp:qk K (.ref f)=true
section
variable {P:bt}{K:aT}
theorem hG.ok{st:qP}{f:az}(F:hG K x c st f I)(S:bB N q (aB st))(m:∀g H Q E,sp g H Q E->g.length=q.length) (l:∀(e:ak) (A:gD) (b:List Env) (s:av) (H:Hp) (g:List V) (Q:VK) (E:XK),eM k (A.deeper (qm c (aB st) s.heap.objs.size f e))->sp g H Q E ->
   ∃t,oP (qI gS P w K i base N c (aB st) f e A b s H E).Jj (gv st) t/\t { nx:=λ_ H'=>Q .dJ H',rt:=Q } (start N g) H):b_ P w K i base gS (k+1) f I q sp:=by
 obtain⟨d,D,R,v,C,X,e,T,r,rfl,lk,p⟩:=F.ex;refine QX lk p S m λA b s H g Q E u o =>?_
 obtain⟨t,h,a⟩:=l e A b s H g Q E u o;exact⟨t,h.Jj,a⟩
theorem hG.binds{st:qP}{f:az}(F:hG K x a st f I)(h:∀(k b g:ak) (m:Option az) (c l:ak) (e:List ak),e.length=q.length->bindArgs (fnOf x a (nH st) (gv st) (aB st) .none k b g m c l) ⟨e,[]⟩=dR (q.zip e)):Binds K I q []:=by
 obtain⟨s,r,k,b,g,m,c,l,o,rfl,lk,p⟩:=F.ex;exact .all (h k b g m c l)
theorem Gb{st:qP}{f:az}{s:ak}{m:ak}(l:K.lookup f=Y ⟨s,r,.func (fnOf x a (nH st) (gv st) (aB st) .none m e h p b o),g⟩)(c:codeIn K b a=Z')(k:qk K (.ref f)=Z'):hG K x a st f (fnOf x a (nH st) (gv st) (aB st) .none m e h p b o):=⟨⟨s,r,m,e,h,p,b,o,g,rfl,l,c⟩,k⟩
end
theorem zl(a:eM k A):A.units+1<rE:=Nat.lt_of_le_of_lt (Nat.add_le_add_left (by decide:1<=64) _) a.units
theorem IQ{n:Nat}(h:n<=1000):n<bb:=Nat.lt_of_le_of_lt h (by decide)
section
variable {X:Cx}
theorem pv(i:Nat)(e:X.N[i]?=Y x:=by rfl)(b:TX X.env.scope x:=by first|exact oX rfl|exact rF (oX rfl)|exact rF (rF rfl))(c:(x==("__debug__" : aG))=false:=by decide)(a:(x==("__classdict__" : aG))=false:=by decide):PE X (.Name x G) (iC i):=RU e b c a
end
theorem xG{A B:Prop}(h:B):if Z_=Z' then A else B:=by
 rw[if_neg cF];exact h
theorem zg{A B:Prop}(h:A):if Z'=Z' then A else B:=by
 rw[if_pos rfl];exact h
def bD(H H':Hp):Prop:=∀b o,H b=Y o->H' b=Y o
theorem bD.refl(H:Hp):bD H H:=λ_ _ h=>h
theorem bD.trans{d:Hp}(a:bD H O)(b:bD O d):bD H d:=λc o h=>b c o (a c o h)
theorem bD.free(e:bD H H')(h:H' l=Option.none):H l=Option.none:=by
 rcases q:H l with _|o
 ·rfl
 rw[e l o q]at h;cases h
theorem bD.seq{K:aT}{a:az}(e:bD H H')(h:nT K H a xs):nT K H' a xs:=by
 rcases h with (h|⟨o,h⟩)|h
 ·exact .inl (.inl (e _ _ h))
 ·exact .inl (.inr ⟨o,e _ _ h⟩)
 ·exact .inr h
end L2
namespace L2
open PySem
end L2
namespace L2
open PySem PyProof.Rows
theorem Em(h:Fh a b):a.length=b.length:=by
 induction h with|nil=>rfl|cons _ _ _ ih=>simp[ih]
section
variable {s:av}
end
end L2
namespace L2
open PySem PyProof.Rows PySem.Spec
section
variable {R:NL->av->Prop}{f:List az}{P:Nat->ak->Prop}{m:Nat->av->Prop}
end
section
variable {s:av}
end
section
variable {s:av}
end
section
variable {s:av}
end
section
variable {s:av}
end
end L2
namespace L2
open PySem PySem.Spec PyProof.Rows
section
variable {P:bt}
theorem nU.GW(x:nU P w H h)(f:H a=M)(d:fJ P w (dg H a o) h a o):nU P w (dg H a o) h:=λb u e=>by
 by_cases k:b=a
 ·subst k;rw[br]at e;cases e;exact d
 ·rw[aZ k]at e;exact(x b u e).xq (λc v _ q=>q) (λc q=>by rw[aZ (bI q f)];exact q) λc l q=>by rw[aZ (bI q f)];exact q
theorem nU.BL(x:nU P w (dg H a (.lst d)) h)(m:H a=M):nU P w H h:=λb u e=>by
 have n:b≠a:=bI e m;have k:∀c v,dg H a (.lst d) c=Y v->v ≠ .lst d->H c=Y v:=λc v q l=>by
  by_cases f:c=a
  ·subst f;rw[br]at q;cases q;exact absurd rfl l
  ·rwa [aZ f]at q
 exact(x b u (by rw[aZ n];exact e)).xq (λc v _ q=>q) (λc q=>k c _ q (by intro z;cases z)) λc i q=>k c _ q (by intro z;cases z)
end
def lobj(g:List ak)(n:Nat):Obj:={ cls :=.type "list",data :=.seq g.toArray n }
section
variable {X:Cx}{s:av}{D:az}
theorem Inv.GW(I:Inv X (j++[(D,lobj g n)]) t H s)(r:cg i g)(A:i.length<=bb)(E:X.s₀.heap.objs.size<=D)(B:∀p∈X.pn++j,p.1≠D):Inv X j t (dg H D (.lst i)) s:=by
 obtain⟨e,d,C,N,_⟩:=I.pin (D,lobj g n) (by simp);have f:∀b o,X.s₀.heap.get? b=Y o->b≠D:=λb o q z=>by have l:=aJ q;subst z;exact eQ _ (bw l E)
 refine⟨I.ok,I.os,I.bare,⟨I.base.keep,I.base.slot,λb o q m x =>?_,I.base.there,λb k q =>?_,λb o u q =>?_,λb w q =>?_⟩,I.loc,I.cell,?_,λx c q =>?_,λp q =>?_,I.eW.GW d ⟨A,g,n,r,e⟩,I.len⟩
 ·rw[aZ (f b o q)];exact I.base.free b o q m x
 ·have:=I.base.BN b k q;rw[aZ (bI this d)];exact this
 ·have:=I.base.Az b o u q;rw[aZ (bI this d)];exact this
 ·obtain⟨a,this⟩:=I.base.BO b w q;exact⟨a,by rw[aZ (bI this d)];exact this⟩
 ·rw[aZ (bG C)];exact I.free
 ·have y:c≠D:=λz=>by obtain⟨v,L,h,F⟩:=I.cell x c q;rw[z,e]at h;cases h;cases F
  rw[aZ y];exact I.ni x c q
 ·obtain⟨K,J,G⟩:=I.pin p (by rw[<- bZ];exact bc _ q);exact⟨K,by rw[aZ (B p q)];exact J,G⟩
theorem Inv.BL(I:Inv X j t (dg H D (.lst i)) s)(h:H D=M)(B:D≠X.env.locals)(C:D∉X.fs):∃g n,cg i g/\i.length<=bb/\Inv X (j++[(D,lobj g n)]) t H s:=by
 obtain⟨A,g,n,r,e⟩:=I.eW D _ br;have k:∀c v,dg H D (.lst i) c=Y v->v ≠ .lst i->H c=Y v:=λc v q y=>by
  by_cases d:c=D
  ·subst d;rw[br]at q;cases q;exact absurd rfl y
  ·rwa [aZ d]at q
 have f:∀c,dg H D (.lst i) c=M->H c=none:=λc q=>by
  by_cases d:c=D
  ·subst d;exact h
  ·rwa [aZ d]at q
 refine⟨g,n,r,A,I.ok,I.os,I.bare,⟨I.base.keep,I.base.slot,λb o q m x=>f _ (I.base.free b o q m x),I.base.there,λb l q=>k _ _ (I.base.BN b l q) (by intro z;cases z),λb o u q=>k _ _ (I.base.Az b o u q) (by intro z;cases z),λb w q =>?_⟩,I.loc,I.cell,f _ I.free,λx c q=>f _ (I.ni x c q),λp q =>?_,I.eW.BL h,I.len⟩
 ·obtain⟨a,this⟩:=I.base.BO b w q;exact⟨a,k _ _ this (by intro z;cases z)⟩
 ·rw[<- bZ]at q;rcases bq.mp q with q|q
  ·obtain⟨G,F,E⟩:=I.pin p q;exact⟨G,f _ F,E⟩
  ·have:p=(D,lobj g n):=by simpa using q
   subst this;exact⟨e,h,B,C,λv z=>by cases z⟩
end
theorem jc:∀(a:List (aG×uP)) (n:Nat) (acc:List (aG×az)),eS n a acc=eS n a []++acc
 |[],n,acc=>rfl| (x,k)::r,n,acc=>by
  unfold eS;split
  ·rw[jc r (n+1) ((x,n)::acc),jc r (n+1) [(x,n)],bZ];rfl
  ·exact jc r n acc
theorem lG:∀(a:List (aG×uP)) (n:Nat) (b:List (aG×az)) (x:aG) (c:az),(x,c)∈eS n a b->(x,c)∈b∨(x,rd)∈a
 |[],n,b,x,c,h =>.inl h| (y,k)::r,n,b,x,c,h=>by
  unfold eS at h;split at h
  ·rename_i d;rcases lG r _ _ x c h with q|q
   ·rcases aW.mp q with e|q
    ·cases e;have:k=.cell:=by simpa using d
     subst this;exact .inr (by simp)
    ·exact .inl q
   ·exact .inr (aw _ q)
  ·rcases lG r _ _ x c h with q|q
   ·exact .inl q
   ·exact .inr (aw _ q)
noncomputable def lT(a:List (aG×az)):List (aG×uP)->List (aG×az)->List (aG×az)
 |[],b=>b|(x,k)::r,b=>if k == .free then lT a r ((x,(a.lookup x).getD 0)::b) else lT a r b
theorem sy{env:Env}(f:aG×uP->List (aG×az)->Sem (ForInStep (List (aG×az))))
  (hf:∀name kind cs,f (name,kind) cs=if kind == .free then (do let a <- cellOf env name;dR (.yield ((name,a)::cs))) else dR (.yield cs)) :
  ∀(names:List (aG×uP)) (acc:List (aG×az)),(∀y∈names,y.2=.free->∃c,env.cells.lookup y.1=Y c)->(forIn names acc f:Sem _)=dR (lT env.cells names acc)
 |[],acc,_=>by rw[List.forIn_nil];rfl
 | (x,k)::r,acc,h=>by
  rw[List.forIn_cons,hf];unfold lT;cases hk:k==ip with
  |false=>simp only[eD,if_false];exact sy f hf r acc λy hy=>h y (aw _ hy)
  |true=>
   obtain⟨c,e⟩:=h (x,k) ay (by simpa using hk);have e:env.cells.lookup x=Y c:=e;have e2:cellOf env x=dR c:=by unfold cellOf;rw[e]
   simp only[if_true];rw[e2,e];exact sy f hf r _ λy hy=>h y (aw _ hy)
theorem AD{env:Env}(h:∀y∈a.names,y.2=.free->∃c,env.cells.lookup y.1=Y c):closureFor a env=dR (lT env.cells a.names []):=by
 simp only[closureFor];rw[sy (env:=env) _ (λname b d=>by cases b==ip<;>rfl) a.names [] h];rfl
theorem wB:∀ {a:List (aG×uP)}{d:List (aG×az)}{x:aG}{c:az},(x,c)∈lT b a d->(x,c)∈d∨((x,ip)∈a/\c=(b.lookup x).getD 0)
 |[],d,x,c,h =>.inl h| (y,k)::r,d,x,c,h=>by
  unfold lT at h;split at h
  ·rename_i f;rcases wB h with q|q
   ·rcases aW.mp q with e|q
    ·cases e;have:k=.free:=by simpa using f
     subst this;exact .inr ⟨by simp,rfl⟩
    ·exact .inl q
   ·exact .inr ⟨aw _ q.1,q.2⟩
  ·rcases wB h with q|q
   ·exact .inl q
   ·exact .inr ⟨aw _ q.1,q.2⟩
theorem uA:∀ {b:List (aG×uP)}{a:List (aG×az)}{x:aG},(∃c,(x,c)∈a)->∃c,(x,c)∈lT d b a
 |[],a,x,h=>h| (y,k)::r,a,x,⟨c,h⟩=>by
  unfold lT;split
  ·exact uA ⟨c,aw _ h⟩
  ·exact uA ⟨c,h⟩
theorem wC{cells:List (aG×az)}:∀ {a:List (aG×uP)}{acc:List (aG×az)}{x:aG},(x,ip)∈a->∃c,(x,c)∈lT cells a acc
 | (y,k)::r,acc,x,h=>by
  unfold lT;rcases aW.mp h with e|h
  ·cases e;exact uA ⟨_,ay⟩
  ·split
   ·exact wC h
   ·exact wC h
theorem tT:∀ {l:List (aG×a)}{x:aG}{c:a},(x,c)∈l->∃d,l.lookup x=Y d
 | (y,v)::r,x,c,h=>by
  rw[dw];cases b:x==y with
  |true=>exact⟨v,rfl⟩|false=>
   rcases aW.mp h with e|h
   ·cases e;simp at b
   ·exact tT h
theorem qB:∀ {l r:List (aG×a)}{x:aG},(l++r).lookup x=(l.lookup x).or (r.lookup x)
 |[],r,x=>by simp
 | (y,v)::l,r,x=>by
  rw[uS,dw,dw];cases b:x==y with
  |true=>rfl|false=>exact qB
theorem oH{a:Env}:∀ {b:List (aG×uP)}{x:aG},(b.map λ(n,k)=>if (k==ip&&a.scope.kind == .function&&a.kindOf n==Y .cell) then (n,rd) else (n,k)).lookup x =
  (b.lookup x).map λk=>if (k==ip&&a.scope.kind == .function&&a.kindOf x==Y .cell) then rd else k
 |[],_=>rfl| (n,k)::r,x=>by
  have ih :=@oH a r x;show jG x ((if (k==ip&&a.scope.kind == .function&&a.kindOf n==Y .cell)=Z' then (n,rd) else (n,k))::_)=_;cases d:x==n with
  |true=>
   have e:x=n:=by simpa using d
   subst e;by_cases c:(k==ip&&a.scope.kind == .function&&a.kindOf x==Y .cell)=Z'
   ·rw[if_pos c];simp only[dw,d,bP,if_pos c]
   ·rw[if_neg c];simp only[dw,d,bP,if_neg c]
  |false=>
   by_cases c:(k==ip&&a.scope.kind == .function&&a.kindOf n==Y .cell)=Z'
   ·rw[if_pos c];simp only[dw,d];exact ih
   ·rw[if_neg c];simp only[dw,d];exact ih
theorem pY{a b:Nat}(h:a<b):a<b:=h
theorem VG{b:Nat}(h:a<=b):a<=b:=h
theorem y_{a b:Nat}(h:a=b):a=b:=h
abbrev mU(X:Cx)(f:Scope)(C:az):Env:=
 { scope:=Q6 f X.env,locals:=C,globals:=X.env.globals,cells:=eS (C+1) f.names (lT X.env.cells f.names []),qual:=X.env.qual,func:=M,code:=X.env.code,frame:=X.env.frame,builtins:=X.env.builtins }
def Cx.tZ(X:Cx)(N:List aG)(f:Scope)(C:az)(s:av)(H:Hp)(a:List az):Cx:=
 { X with N:=N,s₀:=s,H₀:=H,env:=mU X f C,outer:=X.stack,stack:=X.stack,ex:=a,fn:=λx=>f.names.lookup x==Y .cell,pn:=[],xe:=λ_ _=>False }
def n_(t:List (Option Nat))(w:St):St:=t.map λo=>match o with|some j=>(w[j]?).getD M|none=>M
structure fK(X:Cx)(N:List aG)(src:List (Option Nat))(scope:Scope):Prop where
 kind:scope.kind=.function
 uniq:∀y∈scope.names,scope.names.lookup y.1=some y.2
 free:∀y∈scope.names,y.2=.free->X.env.scope.names.lookup y.1=some .cell∨X.env.scope.names.lookup y.1=some .free
 len:src.length=N.length
 V_:∀(i j:Nat) (x:aG),src[i]?=some (some j)->N[i]?=some x->X.N[j]?=some x/\scope.names.lookup x=some .free
section
variable {X:Cx}{s:av}{f:Scope}
theorem F4{g:Uh}(l:∀c,(∀b o,s.heap.get? b=Y o->c.get? b=Y o)->c.Ns s.heap.objs.size (λ_=>M)->CellsOk c (s.heap.objs.size+1) (eS (s.heap.objs.size+1) f.names []) ->
   Q { scope:=f,locals:=s.heap.objs.size,globals:=X.env.globals,cells:=eS (s.heap.objs.size+1) f.names j,qual:=X.env.qual,func:=M,code:=X.env.code,frame:=X.env.frame,builtins:=X.env.builtins } { s with heap:=c }) :
  be g A (Ud f X.env.globals j [] X.env.qual M .none (Y X.env)) Q E s:=by
 simp only[Ud,Option.isSome_some,if_true];refine ah (wpAny_alloc ?_);refine ah (wpAny_layCells _ (λname a h=>by cases d:a==rd<;>simp[d]) _ _ _ _ ?_);have i:=cellsFrom_ok f.names (s.heap.push { cls :=.type "dict",data :=.dict #[] }) (s.heap.objs.size+1) [] ⟨λ_ _ k=>(nomatch k),List.Pairwise.nil⟩ (by rw[cV];exact aS _);rw[cV]at i;rw[show ({ s with heap:=s.heap.push { cls :=.type "dict",data :=.dict #[] } }:av).heap.objs.size=s.heap.objs.size+1 from cV ..];rw[List.forIn_nil];exact ah (aF (aF (l _ (λb o e=>pushCells_keeps _ _ b o (ai _ e)) ((Heap.Ns.new s.heap (.type "dict")).keeps (pushCells_keeps _ _)) i)))
theorem mI(S:fK X N t f)(i:X.Ok)(h:(mU X f C).cells.lookup x=Y c):
  (f.names.lookup x=Y .cell/\(x,c)∈eS (C+1) f.names [])∨(f.names.lookup x=Y .free/\X.env.cells.lookup x=Y c):=by
 have h:(eS (C+1) f.names (lT X.env.cells f.names [])).lookup x=Y c:=h;rw[jc,qB]at h;cases e:(eS (C+1) f.names []).lookup x with
 |some d=>
  rw[e]at h;have:d=c:=by simpa using h
  subst this;have q:=PySem.mem_of_lookup e;rcases lG _ _ _ _ _ q with z|z
  ·simp at z
  ·exact .inl ⟨S.uniq _ z,q⟩
 |none=>
  rw[e]at h;have h:(lT X.env.cells f.names []).lookup x=Y c:=by simpa using h
  rcases wB (PySem.mem_of_lookup h) with z|⟨z,a⟩
  ·simp at z
  ·obtain⟨d,b⟩:=i.has x (S.free _ z rfl);rw[b]at a;exact .inr ⟨S.uniq _ z,by rw[b,a];rfl⟩
theorem P0(S:fK X N t f)(h:f.names.lookup x=Y .cell):∃c,(mU X f C).cells.lookup x=Y c:=by
 obtain⟨c,e⟩:=zP (sc:=f) (n:=C+1) h;refine⟨c,?_⟩;show (eS (C+1) f.names (lT X.env.cells f.names [])).lookup x=Y c;rw[jc,qB,e];rfl
theorem EE(S:fK X N t f)(a:X.Ok){C:az}(h:f.names.lookup x=Y .free):∃c,(mU X f C).cells.lookup x=Y c/\X.env.cells.lookup x=Y c:=by
 have b:=PySem.mem_of_lookup h;obtain⟨d,i⟩:=wC (cells:=X.env.cells) (acc:=[]) b;obtain⟨c,j⟩:=tT i;have e:(mU X f C).cells.lookup x=Y c:=by
  show (eS (C+1) f.names (lT X.env.cells f.names [])).lookup x=Y c;rw[jc,qB];rcases e:(eS (C+1) f.names []).lookup x with _|d
  ·simpa using j
  rcases lG _ _ _ _ _ (PySem.mem_of_lookup e) with z|z
  ·simp at z
  ·have:=S.uniq _ z;rw[h]at this;cases this
 rcases mI S a e with⟨z,_⟩|⟨_,z⟩
 ·rw[h]at z;cases z
 ·exact⟨c,e,z⟩
theorem ED(x:aG):(mU X f C).kindOf x=(f.names.lookup x).map λk=>if (k==ip&&X.env.scope.kind == .function&&X.env.kindOf x==Y .cell) then rd else k:=by
 show (Q6 f X.env).names.lookup x=_;exact oH
theorem Ds{i:Nat}{v:V}(h:(n_ t w)[i]?=Y (Y v)):∃j,t[i]?=Y (Y j)/\w[j]?=Y (Y v):=by
 unfold n_ at h;rw[aY]at h;obtain⟨o,e,h⟩:=aq.1 h;rw[e];cases o with
 |none=>cases h|some j=>
  refine⟨j,rfl,?_⟩;have h:(w[j]?).getD M=Y v:=by simpa using h
  rcases q:w[j]? with _|z
  ·rw[q]at h;cases h
  rw[q]at h;rw[show z=Y v from h]
theorem JV{ex:List az}{h':cD}{D C:Nat}{o:Obj}(S:fK X N t f)(I:Inv X B w H g)(J:∀b∈ex,AJ X B H b)(P:∀b∈ex,∃o,g.heap.get? b=Y o)
  (hD:D=g.heap.objs.size) (hC:C=g.heap.objs.size+1) (G:∀b o,g.heap.get? b=Y o->h'.get? b=Y o) (T:h'.get? D=Y o) (R:∀v,o.data ≠ .cell v)
  (Q:h'.Ns C (λ_=>M)) (E:CellsOk h' (C+1) (eS (C+1) f.names [])) :
  Inv (X.tZ N f C g H ex) (X.pn++B++[(D,o)]) (n_ t w) H { g with heap:=h' }:=by
 have lt:∀ {b:Nat}{o:Obj},g.heap.get? b=Y o->b<g.heap.objs.size:=λe=>aJ e
 have fr:∀a:Nat,g.heap.objs.size<=a->H a=none:=λa h=>I.eW.fresh h
 have A:∀(x:aG) (c:Nat),X.env.cells.lookup x=Y c->c<g.heap.objs.size:=λx c e=>by obtain⟨v,z⟩:=I.cell x c e;exact z.lt
 have d:∀ {x:aG}{c:Nat},(x,c)∈eS (C+1) f.names []->C+1<=c:=λq=>(E.empty _ _ q).2
 refine⟨⟨I.mod,S.kind,I.ok.glob,I.ok.blt,?_,?_,?_,?_,I.ok.hd,I.ok.frames,.inl rfl,?_,I.bs,?_,?_,?_,I.stack,I.xY⟩,rfl,I.bare,Un.kept G,⟨_,Q,?_⟩,?_,?_,?_,?_,I.eW.kept G,?_⟩
 ·show g.heap.objs.size<=C;omega
 ·intro x y c s U;rcases mI S I.ok s with⟨_,a⟩|⟨_,a⟩<;>rcases mI S I.ok U with⟨_,b⟩|⟨_,b⟩
  ·exact name_of_addr E.apart a b
  ·have:C+1<=(c:Nat):=d a;have:=pY (A _ _ b);omega
  ·have:C+1<=(c:Nat):=d b;have:=pY (A _ _ a);omega
  ·exact I.ok.inj x y c a b
 ·intro x n;have n:(mU X f C).kindOf x=Y .cell∨(mU X f C).kindOf x=Y .free:=n;rw[ED]at n;rcases e:f.names.lookup x with _|k
  ·rw[e]at n;rcases n with z|z<;>cases z
  cases k with
  |cell=>exact P0 S e|free=>obtain⟨c,q,_⟩:=EE S I.ok e;exact⟨c,q⟩
  |_=>rw[e]at n;exfalso;revert n;simp
 ·intro x c n s;have n:f.names.lookup x=Y .cell:=by have:(f.names.lookup x==Y .cell)=true:=n;simpa using this
  show g.heap.objs.size<=c;rcases mI S I.ok s with⟨_,a⟩|⟨z,_⟩
  ·have:C+1<=(c:Nat):=d a;show g.heap.objs.size<=(c:Nat);omega
  ·rw[n]at z;cases z
 ·intro b F;obtain⟨L,e⟩:=P b F;have l:=pY (lt e);refine⟨λz =>?_,λx c s z =>?_⟩
  ·have z:=y_ (a:=b) (b:=C) z;omega
  ·subst z;rcases mI S I.ok s with⟨_,a⟩|⟨_,a⟩
   ·have:C+1<=(c:Nat):=d a;omega
   ·exact(J c F).2.2.2.2.1 x c a rfl
 ·show X.base.objs.size<=g.heap.objs.size;have:=I.ok.Nl;have:=I.sz;omega
 ·intro b L e F;rcases(J b F).2.2.2.1 with z|z
  ·exact I.ok.Jk b L e z
  ·have e:X.base.get? b=Y L:=e;have a:=pY (aJ e);have:=I.ok.Nl;have z:X.s₀.heap.objs.size<=(b:Nat):=z;omega
 ·intro b F;intro z;have z:b∈yk X.stack:=z;have:=I.ua b z;rcases aW.mp this with q|q
  ·exact(J b F).2.1 q
  ·exact(J b F).2.2.1 q
 ·intro i x v s U h3;obtain⟨j,e1,e2⟩:=Ds U;obtain⟨e3,e4⟩:=S.V_ i j x e1 s;obtain⟨m,hm,hl⟩:=I.loc;have V:=S.free _ (PySem.mem_of_lookup e4) rfl;have K:TX X.env.scope x :=.inr V;obtain⟨u,r,lk⟩:=hl j x v e3 e2 K;refine⟨u,r,?_⟩;rcases lk with⟨z,_⟩|⟨_,c,ec,cc⟩
  ·exfalso;have z:X.env.scope.names.lookup x=Y .local:=z;rw[z]at V;rcases V with q|q<;>cases q
  ·obtain⟨c',q1,q2⟩:=EE (C:=C) S I.ok e4;rw[ec]at q2;cases q2;refine .inr ⟨?_,c,q1,cc.keeps G⟩;show (mU X f C).kindOf x=Y .cell∨(mU X f C).kindOf x=Y .free;rw[ED,e4,bP];split
   ·exact .inl rfl
   ·exact .inr rfl
 ·intro x c s;rcases mI S I.ok s with⟨_,a⟩|⟨_,a⟩
  ·exact⟨M,(E.empty _ _ a).1⟩
  ·obtain⟨v,z⟩:=I.cell x c a;exact⟨v,z.keeps G⟩
 ·exact fr C (by omega)
 ·intro x c s;rcases mI S I.ok s with⟨_,a⟩|⟨_,a⟩
  ·have:C+1<=(c:Nat):=d a;exact fr c (by omega)
  ·exact I.ni x c a
 ·intro p O;have O:p∈X.pn++B++[(D,o)]:=by simpa [Cx.tZ] using O
  rcases bq.mp O with q|q
  ·obtain⟨a1,a2,a3,a4,a5⟩:=I.pin p q;refine⟨G _ _ a1,a2,λz =>?_,λz =>?_,a5⟩
   ·have z:=y_ (a:=p.1) (b:=C) z;have q:=pY (lt a1);omega
   ·have z:p.1∈yk X.stack:=z;rcases aW.mp (I.ua _ z) with q|q
    ·exact a3 q
    ·exact a4 q
  ·have:p=(D,o):=by simpa using q
   subst this;refine⟨T,fr D (by omega),λz =>?_,λz =>?_,R⟩
   ·have z:D=C:=z;omega
   ·have z:D∈yk X.stack:=z;rcases aW.mp (I.ua _ z) with q|q
    ·have l:=pY I.lt;have q:=y_ (a:=D) (b:=X.env.locals) q;omega
    ·exact I.Se (show g.heap.objs.size<=D by omega) q
 ·show (n_ t w).length=N.length;unfold n_;rw[ax];exact S.len
end
section
variable {R:NL->av->Prop}{s:av}
theorem Cy{f:Scope}(I:Nat->av->Prop) (kU:∀n s,I n s->be (aU E w) A (pyNext J) (λr i=>match r with
   |none=>R (.ok .next) i| some v=>be (aU E w) A (Ah b J v) (λ_ g=>be (aU E w) A (NJ b d v) (λ_ p=>
     be (aU E w) A (forIn B Z' λc r=>if r=Z' then do let C <- isTrue c d (eval c d);dR (vN C) else dR (vN r)) (λC e=>
      if C=Z' then be (aU E w) A (eval L d) (λx o=>be (aU E w) A (J_ (.builtin "list.append") [z,x]) (λ_ k=>∃m,m<n/\I m k) (λ_ _=>False) o) (λ_ _=>False) e
      else ∃m,m<n/\I m e) (λ_ _=>False) p) (λ_ _=>False) g) (λ_ _=>False) i) (λ_ _=>False) s) (n:Nat) (h:I n s) :
  nW (aU E w) A (.compLoop (.ListComp L [⟨b,G,B,0⟩] f U) 0 J z d) R s:=by
 refine codeAny_loop rfl I (λn s K =>?_) n h;show be _ A ((compTurn (.ListComp L [⟨b,G,B,0⟩] f U) 0 J z d).onRaise (λx=>do NI x d;theTreesLotGoes x)) _ _ s;refine wpAny_noted ?_;rw[compTurn_list];refine ah (wQ (ah (dS (kU n s K) (λr i t =>?_) λ_ _ j=>j.elim)));cases r with
 |none=>exact aF t|some v=>
  refine ah (dS t (λ_ g y=>ah (dS y (λ_ p H=>ah (dS H (λC e q =>?_) λ_ _ j=>j.elim)) λ_ _ j=>j.elim)) λ_ _ j=>j.elim);cases C with
  |false=>exact aF ⟨rfl,q⟩|true=>exact ah (ah (dS q (λx o F=>ah (dS F (λ_ k D=>aF (aF ⟨rfl,D⟩)) λ_ _ j=>j.elim)) λ_ _ j=>j.elim))
end
def NZ(own:List Nat)(g:TG):Prop:=∀x c H (Q:St->Hp->Prop),g x c H Q->g x c H λb d=>(b.length=c.length/\∀i,i∉own->b[i]?=c[i]?)/\Q b d
theorem fP(i:Nat):NZ [i] (pf i):=λx c H Q h=>⟨⟨by simp,λj b=>by
 have:i≠j:=λe=>b (by simp[e])
 rw[aj this]⟩,h⟩
def Fb(X:Cx)(B:List Expr)(t:TT):Prop:=
 ∀(b:List (az×Obj)) (s:av) (d:St) (H:Hp) (Q:Bool->Hp->Prop),Inv X b d H s->t d H Q ->
  be (aU X.prog X.w) X.A (forIn B Z' λc r=>if r=Z' then do let e <- isTrue c X.env (eval c X.env);dR (vN e) else dR (vN r)) (TP X b d Q) X.xe s
def U0:TT:=λ_ H Q=>Q Z' H
section
variable {X:Cx}
theorem OC:Fb X [] U0:=λb s c H Q I h=>wpAny_tests_nil ⟨H,I,h⟩
theorem OB(h:PT X c t):Fb X [c] t:=λb s d H Q I q=>wpAny_tests_one (h b s d H Q I q)
end
def Rv(l:TI)(src:List (Option Nat))(g:TG)(u:TT)(O:TE):TE:=λk H Q=>l k H λJ r=>∃W:Nat->Nat->List V->Hp->Prop,(∃m,W 0 m [] r)/\∀i m e H,W i m e H ->
 (J.stop i H/\∀D,H D=M->Q (.ref D) (dg H D (.lst e))) ∨
 (J.go i H/\e.length<bb/\∃j:List V->Hp->Prop,(∀d h,j d h->∃n,n<m/\W (i+1) n d h)/\∀x h,J.Qw i H x h ->
  g x (n_ src k) h λc q=>u c q λb o=>if b=Z' then O c o λv p=>j (e++[v]) p else j e o)
section
variable {X:Cx}{f:Scope}
theorem By{s:av}{F:List (az×Obj)}{RR:ak->az->NL->av->Prop}(S:fK X N src f)(hc:X.calm=Z')(hi:PI X a G l)(ag:NZ own g)(ho:∀i∈own,src[i]?=Y M)(E:∀C s H ex,PG (X.tZ N f C s H ex) a g/\Fb (X.tZ N f C s H ex) B u/\PE (X.tZ N f C s H ex) L O)(I:Inv X F σ H s)(h:Rv l src g u O σ H Q) (hRR:∀(D C:az) (s':av) (H':Hp),Inv X F σ H' s'->(∃m,s'.heap.Ns C m)->H' C=M->C≠X.env.locals->(C∈X.ex∨X.s₀.heap.objs.size<=C)->(∀x c,X.env.cells.lookup x=Y c->c≠C)->(∀p∈X.pn++F,p.1≠C) ->
   Q (.ref D) H'->RR (.ref D) C (.ok .next) s') :
  be (aU X.prog X.w) X.A (eval G X.env) (λx s₁=>be (aU X.prog X.w) X.A (pyIter x) (λit s₂=>be (aU X.prog X.w) X.A (newList []) (λacc s₃=>
   be (aU X.prog X.w) X.A (Ud f X.env.globals (lT X.env.cells f.names []) [] X.env.qual M .none (Y X.env)) (λWq s₄=>
    nW (aU X.prog X.w) X.A (.compStart (.ListComp L [⟨a,G,B,0⟩] f U) 0 it acc { Wq with scope:=Q6 f X.env }) (RR acc Wq.locals) s₄) X.xe s₃) X.xe s₂) X.xe s₁) X.xe s:=by
 refine fE (hi F s σ H _ I h) λv s1 h1=>fE h1 λitv A h2 =>?_
 obtain⟨it,fp,tn,J,H2,e,I2,T,Vg,f2,W,⟨m0,w0⟩,kU⟩:=h2;subst e;refine J7 ?_;generalize YQ:A.heap.push { cls :=.type "list",dict:=M,data :=.seq ([]:List ak).toArray }=h3;have sz3:h3.objs.size=A.heap.objs.size+1:=by rw[<- YQ,cV]
 have k3:∀b o,A.heap.get? b=Y o->h3.get? b=Y o:=λb o e=>YQ ▸ ai _ e
 have d3:h3.get? A.heap.objs.size=Y (lobj [] 0):=YQ ▸ bx _ rfl;refine F4 (X:=X) (s:={ A with heap:=h3 }) λh4 k4 ns4 ZD =>?_
 rw[show ({ A with heap:=h3 }:av).heap.objs.size=A.heap.objs.size+1 from sz3]at ns4 ZD ⊢;have YF:∀b o,A.heap.get? b=Y o->h4.get? b=Y o:=λb o e=>k4 b o (k3 b o e)
 have Zf:∀b∈fp,∃o,A.heap.get? b=Y o:=λb E=>by obtain⟨o,e,_⟩:=T.obj _ _ Vg b E;exact⟨o,e⟩
 have I4:=JV (ex:=fp) (h':=h4) (D:=A.heap.objs.size) (C:=A.heap.objs.size+1) (o:=lobj [] 0) S I2 f2 Zf rfl rfl YF (k4 _ _ d3) (λv z=>by cases z) ns4 ZD;have I4:Inv (X.tZ N f (A.heap.objs.size+1) A H2 fp) (X.pn++F++[(A.heap.objs.size,lobj [] 0)]) (n_ src σ) H2 { A with heap:=h4 }:=I4;generalize hX:X.tZ N f (A.heap.objs.size+1) A H2 fp=P at I4;obtain⟨pg,pt,pe⟩:=E (A.heap.objs.size+1) A H2 fp;rw[hX]at pg pt pe;have K:P.prog=X.prog:=by rw[<- hX];rfl
 have ew:P.w=X.w:=by rw[<- hX];rfl
 have eK:P.K=X.K:=by rw[<- hX];rfl
 have eA:P.A=X.A:=by rw[<- hX];rfl
 have Q1:P.calm=true:=by rw[<- hX];exact hc
 have Xp:P.xe=λ_ _=>False:=by rw[<- hX];rfl
 have MT:P.env=mU X f (A.heap.objs.size+1):=by rw[<- hX];rfl
 have Th:P.pn=[]:=by rw[<- hX];rfl
 have Xq:P.s₀=A:=by rw[<- hX];rfl
 have eH0:P.H₀=H2:=by rw[<- hX];rfl
 have eex:P.ex=fp:=by rw[<- hX];rfl
 have Zj:P.fs=yk X.stack:=by rw[<- hX];rfl
 have Xm:P.env.locals=A.heap.objs.size+1:=by rw[MT]
 have hDC:A.heap.objs.size≠P.env.locals:=by rw[Xm];exact bH (jx _)
 have hDF:A.heap.objs.size∉P.fs:=by
  rw[Zj];intro z;rcases aW.mp (I2.ua _ z) with q|q
  ·exact absurd (y_ q) (fQ (pY I2.lt))
  ·exact I2.Se (aS _) q
 have hpD:∀p∈P.pn++(X.pn++F),p.1≠A.heap.objs.size:=λp hp=>by rw[Th,dh]at hp;exact bH (pY (aJ (I2.pin p hp).1))
 have fpD:∀b∈fp,b≠A.heap.objs.size:=λb E=>by obtain⟨o,e⟩:=Zf b E;exact bH (pY (aJ e))
 have Fx:∀ {P':List (az×Obj)}{H':Hp},(∀p∈P',p∈X.pn++F∨p.1=A.heap.objs.size)->(∀b∈fp,H' b=M)->∀b∈fp,AJ P P' H' b:=fun {P' H'} hP hn b E=>by
  obtain⟨a1,a2,a3,a4,a5,a6⟩:=f2 b E;obtain⟨o,e⟩:=Zf b E;have w:=pY (aJ e);refine⟨hn b E,?_,?_,.inl (by rw[eex];exact E),λx c q z =>?_,λp hp z =>?_⟩
  ·rw[Xm];exact bH (tb w)
  ·rw[Zj];intro z;rcases aW.mp (I2.ua b z) with q|q
   ·exact a2 q
   ·exact a3 q
  ·subst z;rw[MT]at q;rcases mI S I2.ok q with⟨_,r⟩|⟨_,r⟩
   ·have:=VG (ZD.empty _ _ r).2;omega
   ·exact a5 x c r rfl
  ·rw[Th,dh]at hp;rcases hP p hp with q|q
   ·exact a6 p q z
   ·exact fpD b E (z.symm.trans q)
 have WU:nW (aU X.prog X.w) X.A (.compLoop (.ListComp L [⟨a,G,B,0⟩] f U) 0 (.ref it) (.ref A.heap.objs.size) (mU X f (A.heap.objs.size+1))) (RR (.ref A.heap.objs.size) (A.heap.objs.size+1)) { A with heap:=h4 }:=by
  refine Cy (λn s'=>∃i ys R nn H',Inv P (X.pn++F++[(A.heap.objs.size,lobj R nn)]) (n_ src σ) H' s'/\cg ys R/\ys.length<=bb/\tn i s'.heap/\(∀b∈fp,H' b=M)/\W i n ys H') ?_ m0
   ⟨0,[],[],0,H2,I4,.nil,eG _,T.keep _ _ _ Vg (λb _ o e=>YF b o e),λb E=>(f2 b E).1,w0⟩
  rintro n s5 ⟨i,ys,R,nn,H5,I5,r5,z5,Uy,Xn,w5⟩;have Yn:∀p∈X.pn++F++[(A.heap.objs.size,lobj R nn)],p∈X.pn++F∨p.1=A.heap.objs.size:=λp hp=>by
   rcases bq.mp hp with q|q
   ·exact .inl q
   ·exact .inr (by rw[show p=(A.heap.objs.size,lobj R nn) by simpa using q])
  rcases kU i n ys H5 w5 with⟨stop,qn⟩|⟨go,lt5,Nx,hN,step⟩
  ·have d:=T.done P K ew eK Q1 i _ s5 (n_ src σ) H5 (λ_ _=>False) I5 (Fx Yn Xn) Uy stop;rw[eA]at d;refine fE d λr s6 YS =>?_
   obtain⟨hr,I6⟩:=YS;subst hr;have UN:Inv P (X.pn++F) (n_ src σ) (dg H5 A.heap.objs.size (.lst ys)) s6:=I6.GW r5 z5 (by rw[Xq];exact aS _) hpD;have hD5:H5 A.heap.objs.size=none:=(I6.pin (A.heap.objs.size,lobj R nn) (by simp)).2.1;have Un6:=UN.base;rw[Zj,eex,eH0,Xq]at Un6;have os6:=UN.os;rw[Xq]at os6;have VY:=UN.eW;rw[K,ew]at VY;have J6:Inv X F σ (dg H5 A.heap.objs.size (.lst ys)) s6:=I2.zQ os6 Un6 VY UN.bare λb E=>⟨(f2 b E).2.2.2.1,(f2 b E).2.1,(f2 b E).2.2.2.2.1,(f2 b E).2.2.2.2.2⟩
   obtain⟨m,hm,_⟩:=UN.loc;rw[Xm]at hm;have fC:=UN.free;rw[Xm]at fC;refine hRR _ _ s6 _ J6 ⟨m,hm⟩ fC ?_ (.inr ?_) ?_ ?_ (qn _ hD5)
   ·exact λz=>absurd (y_ z) (fQ (tb (pY I2.lt)))
   ·exact td I2.sz
   ·intro x c q z;obtain⟨v,cc⟩:=I2.cell x c q;have:=pY cc.lt;have z:=y_ z;omega
   ·intro p hp z;have:=pY (aJ (I2.pin p hp).1);have z:=y_ z;omega
  ·have d:=T.item P K ew eK Q1 i _ s5 (n_ src σ) H5 (λ_ _=>False) I5 (Fx Yn Xn) Uy go;rw[eA]at d;refine fE d λr s6 YS =>?_
   obtain⟨t,hr,h6⟩:=YS;subst hr;refine fE h6 λ_ s7 h7 =>?_
   obtain⟨x,H7,I7,r7,y7,Vf,fr7⟩:=h7;have I7':=I7.pinned (Fx Yn fr7) (T.obj _ _ Vf);have g7:=pg _ s7 (n_ src σ) H7 x t _ I7' r7 (ag _ _ _ _ (step x H7 y7));rw[eA,Xp,K,ew,MT]at g7;refine fE g7 λ_ s8 h8 =>?_
   obtain⟨σ8,H8,I8,⟨l8,a8⟩,q8⟩:=h8;have t8:=pt _ s8 σ8 H8 _ I8 q8;rw[eA,Xp,K,ew,MT]at t8;refine fE t8 λok s9 h9 =>?_
   obtain⟨H9,I9,q9⟩:=h9;have weak:∀ {P':List (az×Obj)}{H':Hp}{s':av},Inv P P' σ8 H' s'->Inv P P' (n_ src σ) H' s':=λJ=>J.weak l8.symm λj v hj=>by
    obtain⟨k,e1,_⟩:=Ds hj;have:j∉own:=λz=>by have:=ho j z;rw[e1]at this;cases this
    rw[a8 j this];exact hj
   cases ok with
   |false=>have q9:Nx ys H9:=q9;obtain⟨m',Y1,w9⟩:=hN _ _ q9;refine⟨m',Y1,i+1,ys,R,nn,H9,(weak I9).uY,r5,z5,T.keep _ _ _ Vf λb E o e=>(I9.pin (b,o) (aR _ (aR _ (oG E e)))).1,λb E =>?_,w9⟩;obtain⟨o,e,d⟩:=T.obj _ _ Vf b E;exact(I9.pin (b,o) (aR _ (aR _ (oG E e)))).2.1
   |true=>
    have q9:O σ8 H9 λv H4=>Nx (ys++[v]) H4:=q9
    have e9:=pe _ s9 σ8 H9 _ I9 q9;rw[eA,Xp,K,ew,MT]at e9;refine fE e9 λxv s10 h10 =>?_
    obtain⟨y,UO,I10,r10,Yl⟩:=h10;have J10:Inv P (X.pn++F++vZ fp s7.heap++[(A.heap.objs.size,lobj R nn)]) σ8 UO s10:=I10.x_ λp hp=>by
     refine I10.pin p ?_;rw[Th,dh];rcases bq.mp hp with q|q
     ·rcases bq.mp q with q|q
      ·exact bc _ (bc _ q)
      ·exact aR _ q
     ·exact bc _ (aR _ q)
    have nD:∀p∈P.pn++(X.pn++F++vZ fp s7.heap),p.1≠A.heap.objs.size:=λp hp=>by
     rw[Th,dh]at hp;rcases bq.mp hp with q|q
     ·exact hpD p (by rw[Th,dh];exact q)
     ·exact fpD _ (Bb q).1
    have Zc:UO A.heap.objs.size=none:=(J10.pin (A.heap.objs.size,lobj R nn) (by simp)).2.1;have T10:=J10.GW r5 z5 (by rw[Xq];exact aS _) nD;have ap:=pZ (X:=P) _ s10 σ8 _ (.ref A.heap.objs.size) [y] (.ref A.heap.objs.size) [xv] (λv H'=>v=.dJ/\H'=dg (dg UO A.heap.objs.size (.lst ys)) A.heap.objs.size (.lst (ys++[y]))) T10 rfl (.cons r10 .nil) ⟨_,ys,y,rfl,rfl,br,lt5,rfl,rfl⟩;rw[eA,Xp,K,ew]at ap;refine fE ap λ_ s11 Ze =>?_
    obtain⟨v11,H11,I11,_,_,e11⟩:=Ze;subst e11;rw[N_]at I11;obtain⟨its',nn',r11,z11,ZS⟩:=I11.BL Zc hDC hDF;obtain⟨m',Y1,w11⟩:=hN _ _ Yl;have I13:Inv P (X.pn++F++[(A.heap.objs.size,lobj its' nn')]) (n_ src σ) UO s11:=(weak ZS).x_ λp hp=>by
     refine ZS.pin p ?_;rw[Th,dh];rcases bq.mp hp with q|q
     ·exact bc _ (bc _ q)
     ·exact aR _ q
    have Vt:∀b∈fp,∀o,s7.heap.get? b=Y o->s11.heap.get? b=Y o/\UO b=none:=λb E o e=>by have:=ZS.pin (b,o) (by rw[Th,dh];exact bc _ (aR _ (oG E e)));exact⟨this.1,this.2.1⟩
    refine⟨m',Y1,i+1,ys++[y],its',nn',UO,I13,r11,z11,T.keep _ _ _ Vf λb E o e=>(Vt b E o e).1,λb E =>?_,w11⟩;obtain⟨o,e,d⟩:=T.obj _ _ Vf b E;exact(Vt b E o e).2
 have st4:tn 0 h4:=T.keep _ _ _ Vg λb _ o e=>YF b o e
 exact codeAny_compStart_list WU (T.self _ 0 _ _ _ st4 WU)
end
section
variable {X:Cx}{f:List (Option Nat)}
theorem EF{s:av}(S:fK X N f c)(I:Inv X a b H s):closureFor c X.env=dR (lT X.env.cells c.names []):=
 AD λy d e=>I.ok.has y.1 (S.free y d e)
theorem LD(S:fK X N f c)(P:X.calm=Z')(O:PI X r l w)(ag:NZ B g)(K:∀i∈B,f[i]?=Y M)(p:∀C s H v,PG (X.tZ N c C s H v) r g/\Fb (X.tZ N c C s H v) u j/\PE (X.tZ N c C s H v) t k)(G:∀x,cY l X.env x=dR x:=by intro _;rfl):PE X (.ListComp t [⟨r,l,u,0⟩] c A) (Rv w f g j k):=by
 intro a s z H Q I h;rw[eval_ListComp];refine wpAny_comprehension_free (use:=M) rfl G (EF S I) S.kind (λx F V=>by rw[S.uniq x F,V]) ?_;refine By (RR:=λy C=>compPost (aU X.prog X.w) X.A X.xe M (EP X a z Q) y C) S P O ag K p I h ?_;intro D C E H' J n L R h1 U T q;obtain⟨m,n⟩:=n;exact⟨m,n,λh' d=>⟨.ref D,H',J.turned (h':=h') (t':=E.toks) (λb o p e=>d.extBut b o p e) L R h1 U T,rfl,q⟩⟩
theorem yP{F:Pos}(S:fK X N f c)(hc:X.calm=Z')(hN:X.N.Nodup)(hy:X.N[i]?=Y y)(K:X.env.scope.names.lookup y=Y .local)(hi:PI X r l w)(ag:NZ B g)(ho:∀i∈B,f[i]?=Y M)(Q:∀C s H T,PG (X.tZ N c C s H T) r g/\Fb (X.tZ N c C s H T) u j/\PE (X.tZ N c C s H T) t k)(V:cp (.ListComp t [⟨r,l,u,0⟩] c A) (Y (.Name y F)) n.line X.env=dR Z')(hs:∀x,cY l X.env x=dR x:=by intro _;rfl):
  PS X (.Assign [.Name y F] (.ListComp t [⟨r,l,u,0⟩] c A) n) (KZ (Rv w f g j k) (pf i)):=by
 intro p s σ H D I h;have h:Rv w f g j k σ H λv H1=>D.nx (σ.set i (Y v)) H1:=h
 rw[exec_Assign_Name_used _ _ _ _ V];refine ah (wQ (ah ?_));show be _ X.A (do let _ <- comprehension (.ListComp t [⟨r,l,u,0⟩] c A) c X.env _ (newList []) Z_ (eval l X.env) (Y (NJ (.Name y F) X.env))) _ _ s;refine ah (dS (wpAny_comprehension_free (use:=Y (NJ (.Name y F) X.env)) (Q:=λ_ E=>SP X p D .next E) rfl hs (EF S I) S.kind (λx hx K=>by rw[S.uniq x hx,K])
  (By (RR:=λU C=>compPost (aU X.prog X.w) X.A X.xe (Y (NJ (.Name y F) X.env)) (λ_ E=>SP X p D .next E) U C) S hc hi ag ho Q I h ?_))
  (λ_ E hq=>aF (aF hq)) λ_ _ e=>e)
 intro d C E H' J P hn hL h1 h2 h3 q;obtain⟨m,P⟩:=P;refine wpAny_assign_Name (AV J hN hy (.inl K) (v :=.ref d) rfl (λL J' G =>?_) (.inr K));obtain⟨a,sb,ha⟩:=G;have R:C≠a:=by
  rcases ha with z|z
  ·rw[z];exact hL
  ·exact λe=>h2 _ _ z e.symm
 exact⟨m,P.sameBut sb R,λh' O=>⟨_,H',J'.turned (h':=h') (t':=L.toks) (λb o Q e=>O.extBut b o Q e) hn hL h1 h2 h3,q⟩⟩
end
inductive Sk where
 |lf
 |li (s:Sk)
 |fs (c:aG) (fk:List (aG×Sk))
 |di
inductive Pt where
 |fld (f:aG)
 |ix (k:Nat)
abbrev zW:=List Pt
inductive D where
 |dJ|bl (b:Bool)|int (i:Int)|str (x:aG)|lst (xs:List D)|tup (xs:List D)|mD (ns:List Int)
 |ins (c:aG) (ks:List aG) (ds:List D)
 |iW (ks:List lJ) (ds:List D)
 |obj (s:Sk) (t:D)
 |dN (r:Nat) (p:zW)
mutual
def cO(K:aT)(G:Hp):D->V->Prop
 |.dJ,v=>v=.dJ|.bl b,v=>v=.bl b|.int i,v=>v=.int i|.str x,v=>v=.str x|.lst e,v=>∃a d,v=.ref a/\G a=Y (.lst d)/\bz K G e d|.tup e,v=>∃a d,v=.ref a/\G a=Y (.tup d)/\bz K G e d|.mD g,v=>∃a,v=.ref a/\nT K G a (g.map V.int)|.ins c f e,v=>∃a C h d,v=.ref a/\gU K aI c=Y (Y (.ref C))/\G a=Y (.ins C h (f.zip d))/\f.length=e.length/\bz K G e d
 |.iW f e,v=>∃a d,v=.ref a/\G a=Y (.dK (f.zip d))/\f.length=e.length/\bz K G e d|.obj _ t,v=>cO K G t v|.dN _ _,v=>∃a,v=.ref a
def bz(K:aT)(G:Hp):List D->List V->Prop
 |[],a=>a=[]|d::b,a=>∃v r,a=v::r/\cO K G d v/\bz K G b r
end
mutual
theorem cO.mono{K:aT}(s:bD G G'):∀(d:D){v:V},cO K G d v->cO K G' d v
 |.dJ,v,h=>by simpa only [cO] using h
 |.bl _,v,h=>by simpa only [cO] using h
 |.int _,v,h=>by simpa only [cO] using h
 |.str _,v,h=>by simpa only [cO] using h
 |.lst f,v,h=>by simp only[cO]at h ⊢;obtain⟨a,b,e,q,r⟩:=h;exact⟨a,b,e,s _ _ q,bz.mono s f r⟩
 |.tup f,v,h=>by simp only[cO]at h ⊢;obtain⟨a,b,e,q,r⟩:=h;exact⟨a,b,e,s _ _ q,bz.mono s f r⟩
 |.mD j,v,h=>by simp only[cO]at h ⊢;obtain⟨a,e,q⟩:=h;exact⟨a,e,s.seq q⟩
 |.ins c g f,v,h=>by simp only[cO]at h ⊢;obtain⟨a,C,i,b,e,n,q,l,r⟩:=h;exact⟨a,C,i,b,e,n,s _ _ q,l,bz.mono s f r⟩
 |.iW g f,v,h=>by simp only[cO]at h ⊢;obtain⟨a,b,e,q,l,r⟩:=h;exact⟨a,b,e,s _ _ q,l,bz.mono s f r⟩
 |.obj _ t,v,h=>by simp only[cO]at h ⊢;exact cO.mono s t h
 |.dN _ _,v,h=>by simpa only [cO] using h
theorem bz.mono{K:aT}(s:bD G G'):∀(b:List D){a:List V},bz K G b a->bz K G' b a
 |[],a,h=>by simpa only [bz] using h
 |d::b,a,h=>by simp only[bz]at h ⊢;obtain⟨v,r,e,q,t⟩:=h;exact⟨v,r,e,cO.mono s d q,bz.mono s b t⟩
end
section
variable {K:aT}
theorem gI{v:V}:cO K G .dJ v↔v=.dJ:=by simp only[cO]
theorem dn{v:V}:cO K G (.bl b) v↔v=.bl b:=by simp only[cO]
theorem bX{v:V}:cO K G (.int i) v↔v=.int i:=by simp only[cO]
theorem iG{v:V}:cO K G (.str x) v↔v=.str x:=by simp only[cO]
theorem cW{v:V}:cO K G (.lst c) v↔∃a b,v=.ref a/\G a=Y (.lst b)/\bz K G c b:=by simp only[cO]
theorem fg{v:V}:cO K G (.tup c) v↔∃a b,v=.ref a/\G a=Y (.tup b)/\bz K G c b:=by simp only[cO]
theorem Hf{v:V}:cO K G (.mD b) v↔∃a,v=.ref a/\nT K G a (b.map V.int):=by simp only[cO]
theorem mr{v:V}:cO K G (.ins c b d) v↔∃a C f e,v=.ref a/\gU K aI c=Y (Y (.ref C))/\G a=Y (.ins C f (b.zip e))/\b.length=d.length/\bz K G d e:=by simp only[cO]
theorem x9{v:V}:cO K G (.iW b c) v↔∃a d,v=.ref a/\G a=Y (.dK (b.zip d))/\b.length=c.length/\bz K G c d:=by simp only[cO]
theorem qv{s:Sk}{v:V}:cO K G (.obj s t) v↔cO K G t v:=by simp only[cO]
theorem sL{v:V}:cO K G (.dN r p) v↔∃a,v=.ref a:=by simp only[cO]
theorem dE:bz K G [] a↔a=[]:=by simp only[bz]
theorem bJ:bz K G (d::b) a↔∃v r,a=v::r/\cO K G d v/\bz K G b r:=by simp only[bz]
theorem bz.cons{d:D}{v:V}(h:cO K G d v)(t:bz K G b a):bz K G (d::b) (v::a):=bJ.mpr ⟨v,a,rfl,h,t⟩
theorem bz.nil:bz K G [] []:=dE.mpr rfl
theorem bz.length:∀ {ds:List D}{a:List V},bz K G ds a->ds.length=a.length
 |[],a,h=>by rw[dE.mp h];rfl
 |d::ds,a,h=>by obtain⟨v,r,rfl,_,t⟩:=bJ.mp h;simp[bz.length t]
theorem bz.get:∀ {b:List D}{a:List V}{i:Nat}{d:D},bz K G b a->b[i]?=Y d->∃v,a[i]?=Y v/\cO K G d v
 |[],a,i,d,h,e=>by simp at e
 |c::b,a,0,d,h,e=>by obtain⟨v,r,rfl,q,t⟩:=bJ.mp h;simp at e;subst e;exact⟨v,rfl,q⟩
 |c::b,a,i+1,d,h,e=>by obtain⟨v,r,rfl,q,t⟩:=bJ.mp h;obtain⟨u,g,f⟩:=bz.get (i:=i) t (by simpa using e);exact⟨u,by simpa using g,f⟩
theorem bz.append:∀ {e c:List D}{a b:List V},bz K G e a->bz K G c b->bz K G (e++c) (a++b)
 |[],c,a,b,h,k=>by rw[dE.mp h];exact k
 |d::e,c,a,b,h,k=>by obtain⟨v,r,rfl,q,t⟩:=bJ.mp h;exact .cons q (bz.append t k)
theorem bz.take:∀ {b:List D}{a:List V}(n:Nat),bz K G b a->bz K G (b.take n) (a.take n)
 |[],a,n,h=>by rw[dE.mp h];simp;exact .nil
 |d::b,a,0,h=>by simp;exact .nil
 |d::b,a,n+1,h=>by obtain⟨v,r,rfl,q,t⟩:=bJ.mp h;exact .cons q (bz.take n t)
theorem bz.drop:∀ {ds:List D}{a:List V}(n:Nat),bz K G ds a->bz K G (ds.drop n) (a.drop n)
 |[],a,n,h=>by rw[dE.mp h];simp;exact .nil
 |d::ds,a,0,h=>by simpa using h
 |d::ds,a,n+1,h=>by obtain⟨v,r,rfl,q,t⟩:=bJ.mp h;exact bz.drop n t
theorem bz.set:∀ {b:List D}{a:List V}{d:D}{v:V}(n:Nat),bz K G b a->cO K G d v->bz K G (b.set n d) (a.set n v)
 |[],a,d,v,n,h,q=>by rw[dE.mp h];simp;exact .nil
 |c::b,a,d,v,0,h,q=>by obtain⟨u,r,rfl,_,t⟩:=bJ.mp h;exact .cons q t
 |c::b,a,d,v,n+1,h,q=>by obtain⟨u,r,rfl,p,t⟩:=bJ.mp h;exact .cons p (bz.set n t q)
theorem bz.dropLast(h:bz K G b a):bz K G b.dropLast a.dropLast:=by
 rw[Q_,Q_,h.length];exact h.take _
theorem bz.rep(h:bz K G b a):∀k:Nat,bz K G (bo k b).flatten (bo k a).flatten
 |0 =>.nil|k+1=>by rw[gC,gC,kC,kC];exact h.append (bz.rep h k)
theorem bz.ints:∀(a:List Int),bz K G (a.map D.int) (a.map V.int)
 |[] =>.nil|n::a =>.cons (bX.mpr rfl) (bz.ints a)
end
structure f_(G H G' H':Hp):Prop where
 hh:bD H H'
 gg:bD G G'
 gh:bD G' H'
 fr:∀b o,G' b=some o->G b=some o∨H b=none
theorem f_.refl(s:bD G H):f_ G H G H:=⟨bD.refl _,bD.refl _,s,λ_ _ e =>.inl e⟩
theorem f_.trans{f:Hp}(a:f_ G H h f)(b:f_ h f g d):f_ G H g d:=
 ⟨a.hh.trans b.hh,a.gg.trans b.gg,b.gh,λc o e=>by
  rcases b.fr c o e with q|q
  ·exact a.fr c o q
  ·exact .inr (a.hh.free q)⟩
theorem bD.alloc{p:az}{o:HO}(h:H p=M):bD H (dg H p o):=λb u e=>by rw[aZ (bI e h)];exact e
theorem bD.both(s:bD G H):bD (dg G p o) (dg H p o):=λb u e=>by
 by_cases a:b=p
 ·subst a;rw[br]at e ⊢;exact e
 ·rw[aZ a]at e ⊢;exact s _ _ e
theorem f_.alloc{p:az}{o:HO}(s:bD G H)(h:H p=M):f_ G H (dg G p o) (dg H p o):=
 ⟨.alloc h,.alloc (s.free h),s.both,λb u e=>by
  by_cases a:b=p
  ·subst a;exact .inr h
  ·rw[aZ a]at e;exact .inl e⟩
theorem f_.lay{p:az}{o:HO}(s:bD G H)(h:H p=M):f_ G H G (dg H p o):=
 ⟨.alloc h,bD.refl _,s.trans (.alloc h),λ_ _ e =>.inl e⟩
theorem f_.freeze(E:f_ G H G' c)(h:H p=M)(g:G' p=M)(e:c p=Y o):f_ G H (dg G' p o) c:=
 ⟨E.hh,E.gg.trans (.alloc g),λb u q=>by
  by_cases a:b=p
  ·subst a;rw[br]at q;cases q;exact e
  ·rw[aZ a]at q;exact E.gh _ _ q,λb u q=>by
  by_cases a:b=p
  ·subst a;exact .inr h
  ·rw[aZ a]at q;exact E.fr _ _ q⟩
def jk(K:aT)(G:Hp):D->HO->Prop
 |.lst b,o=>∃a,o=.lst a/\bz K G b a|.ins c d b,o=>∃C e a,o=.ins C e (d.zip a)/\gU K aI c=Y (Y (.ref C))/\d.length=b.length/\bz K G b a|.iW d b,o=>∃a,o=.dK (d.zip a)/\d.length=b.length/\bz K G b a|_,_=>False
section
variable {K:aT}
theorem jk.mono(s:bD G G'){d:D}(h:jk K G d o):jk K G' d o:=by
 cases d with
 |lst b=>obtain⟨a,e,r⟩:=h;exact⟨a,e,bz.mono s b r⟩
 |ins c f b=>obtain⟨C,g,a,e,n,l,r⟩:=h;exact⟨C,g,a,e,n,l,bz.mono s b r⟩
 |iW f b=>obtain⟨a,e,l,r⟩:=h;exact⟨a,e,l,bz.mono s b r⟩
 |_=>exact h.elim
theorem jk.rep{d:D}(h:jk K G d o)(e:G a=Y o):cO K G d (.ref a):=by
 cases d with
 |lst f=>obtain⟨b,rfl,r⟩:=h;exact cW.mpr ⟨a,b,rfl,e,r⟩
 |ins c g f=>obtain⟨C,i,b,rfl,n,l,r⟩:=h;exact mr.mpr ⟨a,C,i,b,rfl,n,e,l,r⟩
 |iW g f=>obtain⟨b,rfl,l,r⟩:=h;exact x9.mpr ⟨a,b,rfl,e,l,r⟩
 |_=>exact h.elim
end
end L2
namespace L2
open PySem
def cU(a:List (aG×Sk))(k:aG):Sk:=(a.lookup k).getD .lf
mutual
inductive cB (K:aT) (G H:Hp):Sk->D->V->List az->Prop
 |leaf {d:D}{v:V}:cO K G d v->cB K G H .lf d v []
 |lst {s:Sk}{ds:List D}{a:az}{vs:List V}{S:List az}:H a=some (.lst vs)->fT K G H (bo ds.length s) ds vs S->cB K G H (.li s) (.lst ds) (.ref a) (a::S)
 | ins {c:aG}{ks:List aG}{fk:List (aG×Sk)}{ds:List D}{a C dx:az}{vs:List V}{S:List az}:gU K aI c=some (some (.ref C))->H a=some (.ins C dx (ks.zip vs))->ks.length=ds.length ->
   fT K G H (ks.map (cU fk)) ds vs S->cB K G H (.fs c fk) (.ins c ks ds) (.ref a) (a::S)
 |iW {ks:List lJ}{ds:List D}{a:az}{vs:List V}:H a=some (.dK (ks.zip vs))->ks.length=ds.length->bz K G ds vs->cB K G H .di (.iW ks ds) (.ref a) [a]
inductive fT (K:aT) (G H:Hp):List Sk->List D->List V->List az->Prop
 |nil:fT K G H [] [] [] []
 |cons {s:Sk}{ss:List Sk}{d:D}{ds:List D}{v:V}{vs:List V}{S T:List az}:cB K G H s d v S->fT K G H ss ds vs T->fT K G H (s::ss) (d::ds) (v::vs) (S++T)
end
section
variable {K:aT}{f:Hp}
theorem cB.mono{d:D}{v:V}{S:List az}(g:bD G f)(h:∀b∈S,∀o,H b=Y o->i b=Y o)(x:cB K G H c d v S):cB K f i c d v S:=by
 induction x using cB.rec (motive_2:=λe j d S _=>(∀b∈S,∀o,H b=Y o->i b=Y o)->fT K f i e j d S) with
 |leaf r=>exact .leaf (cO.mono g _ r)|lst e t j=>exact .lst (h _ ay _ e) (j λb a=>h b (aw _ a))
 |ins n e l t j=>exact .ins n (h _ ay _ e) l (j λb a=>h b (aw _ a))
 |iW e l t=>exact .iW (h _ ay _ e) l (bz.mono g _ t)|nil=>exact .nil|cons a t j k=>rename_i h;exact .cons (j λb c=>h b (bc _ c)) (k λb c=>h b (aR _ c))
theorem fT.mono{d:List V}{S:List az}(g:bD G f)(h:∀b∈S,∀o,H b=Y o->i b=Y o)(x:fT K G H e j d S):fT K f i e j d S:=by
 induction x using fT.rec (motive_1:=λ_ _ _ _ _=>True) with
 |nil=>exact .nil|cons a t _ k=>exact .cons (cB.mono g (λb c=>h b (bc _ c)) a) (k λb c=>h b (aR _ c))
 |_=>trivial
def FT(H:Hp)(b:az):Prop:=∃o,H b=Y o/\∀a,o ≠ .tup a
theorem cB.here{v:V}{S:List az}(x:cB K G H g d v S):∀b∈S,FT H b:=by
 induction x using cB.rec (motive_2:=λ_ _ _ S _=>∀b∈S,FT H b) with
 |lst e t j=>exact gc.2 ⟨⟨_,e,nofun⟩,j⟩
 |ins n e l t j=>exact gc.2 ⟨⟨_,e,nofun⟩,j⟩
 |iW e l t=>exact gc.2 ⟨⟨_,e,nofun⟩,nofun⟩
 |cons a t j k=>rename_i h;exact(bq.1 h).elim (j _) (k _)|leaf=>exact nofun
 |nil=>contradiction
theorem fT.length{ds:List D}{a:List V}{S:List az}(h:fT K G H ss ds a S):ds.length=a.length/\ss.length=ds.length:=by
 induction ds generalizing ss a S with
 |nil=>cases h;exact⟨rfl,rfl⟩| cons d ds ih=>cases h with
  |cons _ t=>have:=ih t;simp[this.1,this.2]
def jS(G H:Hp)(S:List az):Hp:=λb=>if b∈S then H b else G b
def jA(G:Hp)(S:List az):Hp:=λb=>if b∈S then M else G b
theorem qx{S:List az}(h:b∈S):jS G H S b=H b:=by simp[jS,h]
theorem mF{S:List az}(h:b∉S):jS G H S b=G b:=by simp[jS,h]
theorem nA{S:List az}(h:b∈S):jA G S b=none:=by simp[jA,h]
theorem cX{S:List az}(h:b∉S):jA G S b=G b:=by simp[jA,h]
theorem nQ{S:List az}(n:∀b∈S,G b=M):bD G (jS G H S):=λb o e=>by
 by_cases a:b∈S
 ·rw[n b a]at e;cases e
 ·rw[mF a];exact e
theorem me{S:List az}(s:bD G H):bD (jS G H S) H:=λb o e=>by
 by_cases a:b∈S
 ·rw[qx a]at e;exact e
 ·rw[mF a]at e;exact s b o e
theorem cB.frozen{d:D}{v:V}{S:List az}(n:∀b∈T,G b=M)(a:∀b∈S,b∈T)(x:cB K G H g d v S):cO K (jS G H T) d v:=by
 induction x using cB.rec (motive_2:=λ_ g e S _=>(∀b∈S,b∈T)->bz K (jS G H T) g e) with
 |leaf r=>exact cO.mono (nQ n) _ r|lst e t j=>exact cW.mpr ⟨_,_,rfl,by rw[qx (a _ ay)];exact e,j λb c=>a b (aw _ c)⟩
 |ins h e l t j=>exact mr.mpr ⟨_,_,_,_,rfl,h,by rw[qx (a _ ay)];exact e,l,j λb c=>a b (aw _ c)⟩
 |iW e l t=>exact x9.mpr ⟨_,_,rfl,by rw[qx (a _ ay)];exact e,l,bz.mono (nQ n) _ t⟩
 |nil=>exact dE.mpr rfl|cons a t j k=>rename_i c;exact bJ.mpr ⟨_,_,rfl,j λb d=>c b (bc _ d),k λb d=>c b (aR _ d)⟩
mutual
def r9:D->Bool
 |.dJ=>Z'|.bl _=>Z'|.int _=>Z'|.str _=>Z'|.lst _=>Z_|.tup a=>pa a|.mD _=>Z_|.ins _ _ _=>Z_|.iW _ _=>Z_|.obj _ _=>Z_|.dN _ _=>Z_
def pa:List D->Bool
 |[]=>Z'|d::a=>r9 d&&pa a
end
mutual
theorem DN{S:List az}{d:D}(n:∀b∈S,∀c,G b≠Y (.tup c)){v:V}(p:r9 d=Z')(r:cO K G d v):cO K (jA G S) d v:=by
 cases d with
 |tup h=>
  obtain⟨a,c,rfl,e,q⟩:=fg.mp r;have g:a∉S:=λz=>n a z c e
  exact fg.mpr ⟨a,c,rfl,by rw[cX g];exact e,vX n (by simpa only [r9] using p) q⟩
 |_=>first|cases p;done|simpa only [cO] using r
theorem vX{S:List az}{c:List D}(n:∀b∈S,∀a,G b≠Y (.tup a)){a:List V}(p:pa c=Z')(r:bz K G c a):bz K (jA G S) c a:=by
 cases c with
 |nil=>simpa only [bz] using r|cons d c=>obtain⟨v,t,rfl,g,e⟩:=bJ.mp r;simp only[pa,aV]at p;exact bJ.mpr ⟨v,t,rfl,DN n p.1 g,vX n p.2 e⟩
end
theorem zu{S:List az}(s:bD G H)(n:∀b∈S,G b=M)(o:∀b∈S,FT H b)(E:f_ (jS G H S) H f i):f_ G H (jA f S) i/\∀b∈S,∀c,f b≠Y (.tup c):=by
 refine⟨⟨E.hh,λb u e =>?_,λb u e =>?_,λb u e =>?_⟩,λb a c z =>?_⟩
 ·have a:b∉S:=λz=>by rw[n b z]at e;cases e
  rw[cX a];exact E.gg b u (by rw[mF a];exact e)
 ·by_cases a:b∈S
  ·rw[nA a]at e;cases e
  ·rw[cX a]at e;exact E.gh b u e
 ·by_cases a:b∈S
  ·rw[nA a]at e;cases e
  ·rw[cX a]at e;rcases E.fr b u e with q|q
   ·rw[mF a]at q;exact .inl q
   ·exact .inr q
 ·obtain⟨u,g,d⟩:=o b a;have:=E.gg b u (by rw[qx a];exact g);rw[z]at this;cases this;exact d c rfl
end
def Ag(f:aG):List aG->Option Nat
 |[]=>M|k::ks=>if f==k then Y 0 else (Ag f ks).map (· + 1)
theorem SK{f:aG}:∀ {a:List aG}{n:Nat},Ag f a=Y n->n<a.length
 |[],n,h=>by cases h
 | k::a,n,h=>by
  unfold Ag at h;split at h
  ·cases h;simp
  ·obtain⟨m,e,h⟩:=aq.1 h;cases h;have:=SK e;simp;omega
theorem vr{f:aG}:∀ {a:List aG}{n:Nat},Ag f a=Y n->a[n]?=Y f
 |[],n,h=>by cases h
 | k::a,n,h=>by
  unfold Ag at h;split at h
  ·rename_i e;cases h;simp at e;subst e;rfl
  ·obtain⟨m,e,h⟩:=aq.1 h;cases h;simpa using vr e
theorem sQ{f:aG}:∀ {a:List aG}{n:Nat}{xs:List b},Ag f a=Y n->(a.zip xs).lookup f=xs[n]?
 |[],n,xs,h=>by cases h
 |k::a,n,[],h=>by simp
 | k::a,n,x::xs,h=>by
  unfold Ag at h;simp only[cb,dw];cases e:(f==k) with
  |true=>rw[e]at h;simp at h;subst h;rfl|false=>
   rw[e]at h;simp only[eD,if_false]at h;rcases e2:Ag f a with _|m
   ·rw[e2]at h;cases h
   rw[e2]at h;simp at h;subst h;simpa using sQ (xs:=xs) e2
noncomputable def eZ:zW->D->Option D
 |[],d=>Y d|.fld f::p,.ins _ b a=>(Ag f b).bind λn=>(a[n]?).bind (eZ p)
 |.ix k::p,.lst a=>(a[k]?).bind (eZ p)|_::_,_=>M
noncomputable def mC(x:D):zW->D->D
 |[],_=>x|.fld f::p,.ins c b a=>match Ag f b with|none =>.ins c b a|some n=>match a[n]? with|none =>.ins c b a|some d =>.ins c b (a.set n (mC x p d))
 |.ix k::p,.lst a=>match a[k]? with|none =>.lst a|some d =>.lst (a.set k (mC x p d))
 |_::_,d=>d
def mh:zW->Sk->Option Sk
 |[],s=>Y s|.fld f::p,.fs _ a=>mh p (cU a f)|.ix _::p,.li s=>mh p s|_::_,_=>M
def gB(H:Hp):zW->V->Option V
 |[],v=>Y v|.fld f::p,.ref a=>match H a with|some (.ins _ _ c)=>(c.lookup f).bind (gB H p)|_=>M
 |.ix k::p,.ref a=>match H a with|some (.lst b)=>(b[k]?).bind (gB H p)|_=>M
 |_::_,_=>M
section
variable {K:aT}
theorem fT.at{i:List Sk}{ds:List D}{vs:List V}{S:List az}(h:fT K G H i ds vs S):∀ {n:Nat}{s:Sk}{d:D},i[n]?=Y s->ds[n]?=Y d->∃v T U,vs[n]?=Y v/\cB K G H s d v T/\S.Perm (T++U) /\
  ∀(G' H':Hp) (j:Sk) (x:D) (u:V) (f:List az),bD G G'->(∀b∈U,∀o,H b=Y o->H' b=Y o)->cB K G' H' j x u f->∃S',fT K G' H' (i.set n j) (ds.set n x) (vs.set n u) S'/\S'.Perm (f++U):=by
 induction ds generalizing i vs S with
 |nil=>intro n s d _ e;simp at e
 |cons c ds ih=>
  intro n s d es e;cases h with
  |@cons C i _ _ v vs S1 p a t=>
   cases n with
   |zero=>simp at e es;subst e;subst es;refine⟨v,S1,p,rfl,a,.rfl,λG' H' j x u f g k l=>⟨f++p,?_,.rfl⟩⟩;exact .cons l (t.mono g k)
   |succ n=>
    simp at e es;obtain⟨w,T,U,B,z,r,A⟩:=ih t es e;refine⟨w,T,S1++U,by simpa using B,z,?_,λG' H' j x u f g k l =>?_⟩
    ·exact((r.append_left S1).trans (cj S1 T U))
    ·obtain⟨S',y,q⟩:=A G' H' j x u f g (λb m=>k b (aR _ m)) l;refine⟨S1++S',.cons (a.mono g λb m=>k b (bc _ m)) y,?_⟩;exact(q.append_left S1).trans (cj S1 f U)
theorem gf{a:Type}:∀ {l:List a}{n:Nat}{x:a},l[n]?=Y x->l.set n x=l
 |[],n,x,h=>by simp at h
 |y::l,0,x,h=>by simp at h;subst h;rfl
 |y::l,n+1,x,h=>by simp at h;simp[gf h]
theorem cB.focus:∀ {p:zW}{P k:Sk}{d O:D}{v:V}{S:List az},cB K G H P d v S->mh p P=Y k->eZ p d=Y O->∃v' T U,gB H p v=Y v'/\cB K G H k O v' T/\S.Perm (T++U) /\
  ∀(J I:Hp) (x:D) (w:List az),bD G J->(∀b∈U,∀o,H b=Y o->I b=Y o)->cB K J I k x v' w->∃S',cB K J I P (mC x p d) v S'/\S'.Perm (w++U)
 |[],P,k,d,O,v,S,h,u,z=>by cases u;cases z;exact⟨v,S,[],rfl,h,by simp,λJ I x w g r ox=>⟨w,ox,by simp⟩⟩
 | .fld f::p,P,k,d,O,v,S,h,u,z=>by
  cases h with
  |@ins c ks fk L a C dx vs S n e l t=>
   have u:mh p (cU fk f)=Y k:=u;have z:(Ag f ks).bind (λn=>(L[n]?).bind (eZ p))=Y O:=z;obtain⟨m,ei,z⟩:=aa.1 z;have A:(ks.map (cU fk))[m]?=Y (cU fk f):=by rw[aY,vr ei];rfl
   generalize cU fk f=s1 at u A
   ·obtain⟨d1,B,z⟩:=aa.1 z;obtain⟨v1,T1,i,X,o1,p1,k1⟩:=t.at A B;obtain⟨Q,F,j,q2,o2,p2,k2⟩:=cB.focus o1 u z;have hv:gB H (.fld f::p) (.ref a)=Y Q:=by simp only[gB,e];rw[sQ ei,X];exact q2
    refine⟨Q,F,j++(a::i),hv,o2,?_,λJ I y w g r oy =>?_⟩
    ·have:(a::S).Perm (a::(F++j++i)):=(p1.trans (p2.append_right i)).cons a;refine this.trans ?_;have q:(a::(F++j++i)).Perm ((F++j)++(a::i)):=by have:=cj [a] (F++j) i;simpa using this
     exact q.trans (vM (by simp))
    ·obtain⟨S1,o3,p3⟩:=k2 J I y w g (λb N=>r b (bc _ N)) oy;obtain⟨S2,R,p4⟩:=k1 J I s1 (mC y p d1) v1 S1 g (λb N=>r b (aR _ (aw _ N))) o3;rw[gf A,gf X]at R;refine⟨a::S2,?_,?_⟩
     ·have E:mC y (.fld f::p) (.ins c ks L)=.ins c ks (L.set m (mC y p d1)):=by simp only[mC,ei,B]
      rw[E];exact .ins n (r a (aR _ ay) _ e) (by simpa using l) R
     ·have:(a::S2).Perm (a::(w++j++i)):=(p4.trans (p3.append_right i)).cons a;refine this.trans ?_;have q:(a::(w++j++i)).Perm ((w++j)++(a::i)):=by have:=cj [a] (w++j) i;simpa using this
      exact q.trans (vM (by simp))
  |_=>cases u
 | .ix m::p,P,k,d,O,v,S,h,u,z=>by
  cases h with
  |@lst s L a vs S e t=>
   have u:mh p s=Y k:=u;have z:(L[m]?).bind (eZ p)=Y O:=z;obtain⟨d1,B,z⟩:=aa.1 z;have hm:m<L.length:=(au.mp B).1;have A:(bo L.length s)[m]?=Y s:=by simp[hm]
   obtain⟨v1,T1,i,X,o1,p1,k1⟩:=t.at A B;obtain⟨Q,F,j,q2,o2,p2,k2⟩:=cB.focus o1 u z;have hv:gB H (.ix m::p) (.ref a)=Y Q:=by simp only[gB,e];rw[X];exact q2
   refine⟨Q,F,j++(a::i),hv,o2,?_,λJ I y w g r oy =>?_⟩
   ·have:(a::S).Perm (a::(F++j++i)):=(p1.trans (p2.append_right i)).cons a;refine this.trans ?_;have q:(a::(F++j++i)).Perm ((F++j)++(a::i)):=by have:=cj [a] (F++j) i;simpa using this
    exact q.trans (vM (by simp))
   ·obtain⟨S1,o3,p3⟩:=k2 J I y w g (λb N=>r b (bc _ N)) oy;obtain⟨S2,R,p4⟩:=k1 J I s (mC y p d1) v1 S1 g (λb N=>r b (aR _ (aw _ N))) o3;rw[gf A,gf X]at R;refine⟨a::S2,?_,?_⟩
    ·have E:mC y (.ix m::p) (.lst L)=.lst (L.set m (mC y p d1)):=by simp only[mC,B]
     rw[E];exact .lst (r a (aR _ ay) _ e) (by rw[GR];exact R)
    ·have:(a::S2).Perm (a::(w++j++i)):=(p4.trans (p3.append_right i)).cons a;refine this.trans ?_;have q:(a::(w++j++i)).Perm ((w++j)++(a::i)):=by have:=cj [a] (w++j) i;simpa using this
     exact q.trans (vM (by simp))
  |_=>cases u
end
section
variable {K:aT}
theorem jL(s:bD H H'):∀ {p:zW}{v b:V},gB H p v=Y b->gB H' p v=Y b
 |[],v,b,h=>h| .fld f::p,.ref a,b,h=>by
  simp only[gB]at h ⊢;rcases e:H a with _|o
  ·rw[e]at h;cases h
  rw[e]at h;rw[s _ _ e];cases o<;>simp only at h ⊢<;>try (cases h;done)
  rename_i C g d;obtain⟨u,e2,h⟩:=aa.1 h;rw[e2];exact jL s (p:=p) h
 | .ix k::p,.ref a,b,h=>by
  simp only[gB]at h ⊢;rcases e:H a with _|o
  ·rw[e]at h;cases h
  rw[e]at h;rw[s _ _ e];cases o<;>simp only at h ⊢<;>try (cases h;done)
  rename_i c;obtain⟨u,e2,h⟩:=aa.1 h;rw[e2];exact jL s (p:=p) h
 |.fld f::p,.dJ,b,h=>by cases h
 |.fld f::p,.bl _,b,h=>by cases h
 |.fld f::p,.int _,b,h=>by cases h
 |.fld f::p,.str _,b,h=>by cases h
 |.fld f::p,.PZ _,b,h=>by cases h
 |.fld f::p,.NW _,b,h=>by cases h
 |.fld f::p,.ty _,b,h=>by cases h
 |.ix f::p,.dJ,b,h=>by cases h
 |.ix f::p,.bl _,b,h=>by cases h
 |.ix f::p,.int _,b,h=>by cases h
 |.ix f::p,.str _,b,h=>by cases h
 |.ix f::p,.PZ _,b,h=>by cases h
 |.ix f::p,.NW _,b,h=>by cases h
 |.ix f::p,.ty _,b,h=>by cases h
theorem yL(s:bD G H):∀ {p:zW}{d g:D}{v:V},cO K G d v->eZ p d=Y g->∃y,gB H p v=Y y/\cO K G g y
 |[],d,g,v,r,e=>by cases e;exact⟨v,rfl,r⟩
 | .fld f::p,d,g,v,r,e=>by
  cases d with
  |ins c A x=>obtain⟨a,C,F,z,rfl,n,j,l,i⟩:=mr.mp r;have e:(Ag f A).bind (λn=>(x[n]?).bind (eZ p))=Y g:=e;obtain⟨m,B,e⟩:=aa.1 e;obtain⟨E,t,e⟩:=aa.1 e;obtain⟨u,q,h⟩:=i.get t;obtain⟨w,o,b⟩:=yL s (p:=p) h e;refine⟨w,?_,b⟩;simp only[gB,s _ _ j];rw[sQ B,q];exact o
  |_=>cases e
 | .ix k::p,d,g,v,r,e=>by
  cases d with
  |lst x=>obtain⟨a,z,rfl,j,i⟩:=cW.mp r;have e:(x[k]?).bind (eZ p)=Y g:=e;obtain⟨E,t,e⟩:=aa.1 e;obtain⟨u,q,h⟩:=i.get t;obtain⟨w,o,b⟩:=yL s (p:=p) h e;refine⟨w,?_,b⟩;simp only[gB,s _ _ j];rw[q];exact o
  |_=>cases e
theorem yu{f:aG}:∀ {ks:List aG}{vs:List V}{u:V},(ks.zip vs).lookup f=Y u->∃m,Ag f ks=Y m/\vs[m]?=Y u
 |[],vs,u,h=>by simp at h
 |k::ks,[],u,h=>by simp at h
 | k::ks,v::vs,u,h=>by
  simp only[cb,dw]at h;cases e:(f==k) with
  |true=>rw[e]at h;cases h;exact⟨0,by simp[Ag,e],rfl⟩
  |false=>rw[e]at h;obtain⟨m,b,a⟩:=yu (ks:=ks) (vs:=vs) h;exact⟨m+1,by simp[Ag,e,b],by simpa using a⟩
theorem cB.Cf:∀ {p:zW}{y i:Sk}{d:D}{v x:V}{S:List az},cB K G H y d v S->mh p y=Y i->(∀b∈S,∀o,H b=Y o->H' b=Y o)->gB H p v=Y x->gB H' p v=Y x
 |[],y,i,d,v,x,S,h,g,k,e=>e| .fld f::p,y,i,d,v,x,S,h,g,k,e=>by
  cases h with
  |@ins c N r E a C X F S n z l t=>
   have g:mh p (cU r f)=Y i:=g;simp only[gB,z]at e;simp only[gB,k a ay _ z];obtain⟨u,j,e⟩:=aa.1 e;rw[j];simp only[ae]at e ⊢;obtain⟨m,R,O⟩:=yu j;have w:(N.map (cU r))[m]?=Y (cU r f):=by rw[aY,vr R];rfl
   have B:m<E.length:=by rw[t.length.1];exact(au.mp O).1
   obtain⟨P,U,T,A,J,I,Q⟩:=t.at w (bC B);rw[O]at A;cases A;exact cB.Cf J g (λb L o q=>k b (aw _ (I.symm.subset (bc _ L))) o q) e
  |_=>cases g
 | .ix m::p,y,i,d,v,x,S,h,g,k,e=>by
  cases h with
  |@lst s E a F S z t=>
   have g:mh p s=Y i:=g;simp only[gB,z]at e;simp only[gB,k a ay _ z];obtain⟨u,j,e⟩:=aa.1 e;rw[j];simp only[ae]at e ⊢;have B:m<E.length:=by rw[t.length.1];exact(au.mp j).1
   have w:(bo E.length s)[m]?=Y s:=by simp[B]
   obtain⟨P,U,T,A,J,I,Q⟩:=t.at w (bC B);rw[j]at A;cases A;exact cB.Cf J g (λb L o q=>k b (aw _ (I.symm.subset (bc _ L))) o q) e
  |_=>cases g
def zr:zW->List aG
 |[]=>[]|.fld f::p=>f::zr p|.ix _::p=>zr p
theorem vu{s m:List (aG×V)}(j:H x=Y (.ins C A s))(i:H' x=Y (.ins B t m))(l:∀b,b≠x->∀o,H b=Y o->H' b=Y o):∀ {p:zW}{v d:V},(∀g∈zr p,m.lookup g=s.lookup g)->gB H p v=Y d->gB H' p v=Y d
 |[],v,d,c,h=>h| .fld g::p,.ref a,d,c,h=>by
  simp only[gB]at h ⊢;by_cases n:a=x
  ·subst n;rw[j]at h;rw[i];simp only at h ⊢;rw[c g (by simp[zr])];obtain⟨u,e2,h⟩:=aa.1 h;rw[e2];exact vu j i l (p:=p) (λg q=>c g (by simp[zr,q])) h
  ·rcases e:H a with _|o
   ·rw[e]at h;cases h
   rw[e]at h;rw[l a n _ e];cases o<;>simp only at h ⊢<;>try (cases h;done)
   rename_i D y r;obtain⟨u,e2,h⟩:=aa.1 h;rw[e2];exact vu j i l (p:=p) (λg q=>c g (by simp[zr,q])) h
 | .ix k::p,.ref a,d,c,h=>by
  simp only[gB]at h ⊢;rcases e:H a with _|o
  ·rw[e]at h;cases h
  rw[e]at h;cases o<;>simp only at h<;>try (cases h;done)
  rename_i w;have n:a≠x:=λz=>by subst z;rw[j]at e;cases e
  rw[l a n _ e];simp only;obtain⟨u,e2,h⟩:=aa.1 h;rw[e2];exact vu j i l (p:=p) c h
 |.fld f::p,.dJ,d,c,h=>by cases h
 |.fld f::p,.bl _,d,c,h=>by cases h
 |.fld f::p,.int _,d,c,h=>by cases h
 |.fld f::p,.str _,d,c,h=>by cases h
 |.fld f::p,.PZ _,d,c,h=>by cases h
 |.fld f::p,.NW _,d,c,h=>by cases h
 |.fld f::p,.ty _,d,c,h=>by cases h
 |.ix f::p,.dJ,d,c,h=>by cases h
 |.ix f::p,.bl _,d,c,h=>by cases h
 |.ix f::p,.int _,d,c,h=>by cases h
 |.ix f::p,.str _,d,c,h=>by cases h
 |.ix f::p,.PZ _,d,c,h=>by cases h
 |.ix f::p,.NW _,d,c,h=>by cases h
 |.ix f::p,.ty _,d,c,h=>by cases h
theorem cB.root{s:Sk}{v:V}{S:List az}(h:cB K G H s t v S)(b:s ≠ .lf):∃a o,v=.ref a/\H a=Y o/\a∈S:=by
 cases h with|leaf r=>exact absurd rfl b|lst e t=>exact⟨_,_,rfl,e,ay⟩|ins n e l t=>exact⟨_,_,rfl,e,ay⟩|iW e l t=>exact⟨_,_,rfl,e,ay⟩
end
def iT(f:aG)(d:D):List aG->List D->List aG×List D
 |k::a,x::b=>if k=f then (k::a,d::b) else (k::(iT f d a b).1,x::(iT f d a b).2)
 |_,_=>([f],[d])
section
variable {K:aT}
theorem DS{f:aG}{v:V}{m:List az}(s:cB K G H (cU j f) d v m):∀ {b:List aG}{c:List D}{i:List V}{S:List az},b.length=c.length->fT K G H (b.map (cU j)) c i S ->
  ∃g o R,lx f v (b.zip i)=(iT f d b c).1.zip g/\(iT f d b c).1.length=(iT f d b c).2.length/\fT K G H ((iT f d b c).1.map (cU j)) (iT f d b c).2 g o/\o.Perm (m++R)/\R.Sublist S
 |[],[],i,S,h,r=>by cases r;exact⟨[v],m++[],[],rfl,rfl,.cons s .nil,.rfl,.slnil⟩
 |[],x::c,i,S,h,r=>by simp at h
 |k::b,[],i,S,h,r=>by simp at h
 | k::b,x::c,i,S,h,r=>by
  have r:fT K G H (cU j k::b.map (cU j)) (x::c) i S:=r;cases r with
  |@cons _ _ _ _ u n T U a t=>
   simp only[aP,NM]at h;unfold iT;rw[cb,show lx f v ((k,u)::b.zip n)=(if k=f then (k,v)::b.zip n else (k,u)::lx f v (b.zip n)) from rfl];by_cases w:k=f
   ·subst w;rw[if_pos rfl,if_pos rfl];exact⟨v::n,m++U,U,rfl,by simp[h],.cons s t,.rfl,List.sublist_append_right T U⟩
   ·rw[if_neg w,if_neg w];obtain⟨g,o,R,e,l,q,p,z⟩:=DS s h t;exact⟨u::g,T++o,T++R,by rw[cb,e],by simp[l],.cons a q,(p.append_left T).trans (cj T m R),z.append_left T⟩
theorem cB.put{p:zW}{s:Sk}{v:V}{S1:List az}{f:aG}{d:D}{u:V}(h:cB K G H s t v T)(nd:T.Nodup)(es:mh p s=Y (.fs c L))(ep:eZ p t=Y (.ins c j A))(g:bD G G')(k:∀b∈T,∀o,H b=Y o->B b=Y o)(ov:cB K G' B (cU L f) d u S1)(X:S1.Nodup)(dj:∀b∈S1,b∉T):
  ∃x C y r,gB H p v=Y (.ref x)/\x∈T/\gU K aI c=Y (Y (.ref C))/\H x=Y (.ins C y (j.zip r))/\j.length=A.length/\j.length=r.length /\
   ∃F,cB K G' (dg B x (.ins C y (lx f u (j.zip r)))) s (mC (.ins c (iT f d j A).1 (iT f d j A).2) p t) v F/\F.Nodup/\∀b∈F,b∈T∨b∈S1:=by
 obtain⟨v',T1,U,e1,o1,E,k1⟩:=h.focus es ep;cases o1 with
 |@ins _ _ _ _ x C y r J n ex l tt=>
  have m:(x::J++U).Nodup:=E.nodup_iff.mp nd;have hxS:x∉J:=λz=>by simp at m;exact m.1.1 z
  have hxU:x∉U:=λz=>by simp at m;exact m.1.2 z
  have O:x∈T:=E.symm.subset (by simp);have I:∀b∈J,b∈T:=λb i=>E.symm.subset (by simp[i])
  have UT:∀b∈U,b∈T:=λb i=>E.symm.subset (by simp[i])
  have x1:x∉S1:=λz=>dj x z O
  refine⟨x,C,y,r,e1,O,n,ex,l,by rw[l,tt.length.1],?_⟩;have Q:fT K G' B (j.map (cU L)) A r J:=tt.mono g λb i o e=>k b (I b i) o e
  obtain⟨P,S',R,z1,z2,z3,N,W⟩:=DS ov l Q;have hx':∀b∈S',b≠x:=λb i z=>by
   subst z;have:=N.subset i;rcases bq.mp this with q|q
   ·exact x1 q
   ·exact hxS (W.subset q)
  have oo:cB K G' (dg B x (.ins C y (lx f u (j.zip r)))) (.fs c L) (.ins c (iT f d j A).1 (iT f d j A).2) (.ref x) (x::S'):=
   .ins (dx:=y) (vs:=P) n (by rw[br,z1]) z2 (z3.mono (bD.refl _) λb i o e=>by rw[aZ (hx' b i)];exact e)
  obtain⟨F,o2,p2⟩:=k1 G' (dg B x (.ins C y (lx f u (j.zip r)))) _ _ g (λb i o e=>by have Xl:b≠x:=λz=>hxU (z ▸ i);rw[aZ Xl];exact k b (UT b i) o e) oo;refine⟨F,o2,?_,λb i =>?_⟩
  ·rw[p2.nodup_iff];have q:(x::S'++U).Perm (x::(S1++R)++U):=((N.cons x).append_right U);rw[q.nodup_iff];have w:(x::R++U).Sublist (x::J++U):=(W.cons_cons x).append_right U;have S:(x::R++U).Nodup:=m.sublist w;have:(x::(S1++R)++U).Perm (S1++(x::R++U)):=by have:=cj [x] S1 (R++U);simpa [bZ] using this
   rw[this.nodup_iff,iV];refine⟨X,S,λa ha b i z =>?_⟩;subst z;exact dj a ha (E.symm.subset (w.subset i))
  ·have:=p2.subset i;rcases bq.mp this with q|q
   ·rcases aW.mp q with q|q
    ·subst q;exact .inl O
    ·rcases bq.mp (N.subset q) with q|q
     ·exact .inr q
     ·exact .inl (I b (W.subset q))
   ·exact .inl (UT b q)
theorem fT.append{f:List D}{S:List az}(h:fT K G H i f g S)(k:fT K G H c e b j):fT K G H (i++c) (f++e) (g++b) (S++j):=by
 induction f generalizing i g S with
 |nil=>cases h;exact k| cons d f ih=>cases h with
  |cons a t=>rw[bZ];exact .cons a (ih t)
theorem cB.app{p:zW}{s:Sk}{v:V}{S1:List az}{d:D}{u:V}{m:Hp}(h:cB K G H s t v T)(nd:T.Nodup)(es:mh p s=Y (.li n))(ep:eZ p t=Y (.lst l))(g:bD G G')(k:∀b∈T,∀o,H b=Y o->m b=Y o)(R:cB K G' m n d u S1)(C:S1.Nodup)(O:∀b∈S1,b∉T):
  ∃x j,gB H p v=Y (.ref x)/\x∈T/\H x=Y (.lst j)/\l.length=j.length /\
   ∃w,cB K G' (dg m x (.lst (j++[u]))) s (mC (.lst (l++[d])) p t) v w/\w.Nodup/\∀b∈w,b∈T∨b∈S1:=by
 obtain⟨v',T1,U,e1,o1,r,k1⟩:=h.focus es ep;cases o1 with
 |@lst _ _ x j i ex L=>
  have f:(x::i++U).Nodup:=r.nodup_iff.mp nd;have F:x∉i:=λz=>by simp at f;exact f.1.1 z
  have E:x∉U:=λz=>by simp at f;exact f.1.2 z
  have A:x∈T:=r.symm.subset (by simp);have y:∀b∈i,b∈T:=λb c=>r.symm.subset (by simp[c])
  have P:∀b∈U,b∈T:=λb c=>r.symm.subset (by simp[c])
  have Q:x∉S1:=λz=>O x z A
  refine⟨x,j,e1,A,ex,L.length.1,?_⟩;have B:fT K G' m (bo l.length n) l j i:=L.mono g λb c o e=>k b (y b c) o e
  have W:fT K G' m (bo (l++[d]).length n) (l++[d]) (j++[u]) (i++(S1++[])):=by rw[aQ,cI,Uj];exact B.append (.cons R .nil)
  rw[bU]at W;have I:∀b∈i++S1,b≠x:=λb c z=>by
   subst z;rcases bq.mp c with q|q
   ·exact F q
   ·exact Q q
  have S:cB K G' (dg m x (.lst (j++[u]))) (.li n) (.lst (l++[d])) (.ref x) (x::(i++S1)):=
   .lst br (W.mono (bD.refl _) λb c o e=>by rw[aZ (I b c)];exact e)
  obtain⟨w,X,N⟩:=k1 G' (dg m x (.lst (j++[u]))) _ _ g (λb c o e=>by have J:b≠x:=λz=>E (z ▸ c);rw[aZ J];exact k b (P b c) o e) S;refine⟨w,X,?_,λb c =>?_⟩
  ·rw[N.nodup_iff];have:(x::(i++S1)++U).Perm (S1++(x::i++U)):=by have:=cj (x::i) S1 U;simpa [bZ] using this
   rw[this.nodup_iff,iV];refine⟨C,f,λa ha b c z =>?_⟩;subst z;exact O a ha (r.symm.subset c)
  ·have:=N.subset c;rcases bq.mp this with q|q
   ·rcases aW.mp q with q|q
    ·subst q;exact .inl A
    ·rcases bq.mp q with q|q
     ·exact .inl (y b q)
     ·exact .inr q
   ·exact .inl (P b q)
theorem fT.last{f:List D}{S:List az}(h:fT K G H (b++[k]) (f++[d]) e S)(l:b.length=f.length):∃g u j i,e=g++[u]/\S=j++i/\fT K G H b f g j/\cB K G H k d u i:=by
 induction f generalizing b e S with
 |nil=>
  cases b with
  | nil=>cases h with
   |@cons _ _ _ _ v e S T a t=>cases t;exact⟨[],v,[],S,rfl,by simp,.nil,a⟩
  |cons=>simp at l
 |cons c f ih=>
  cases b with
  |nil=>simp at l|cons m b=>
   have h:fT K G H (m::(b++[k])) (c::(f++[d])) e S:=h;cases h with
   |@cons _ _ _ _ v e S T a t=>obtain⟨g,u,j,i,rfl,rfl,o,n⟩:=ih t (by simpa using l);exact⟨v::g,u,S++j,i,rfl,by rw[bZ],.cons a o,n⟩
theorem cB.Ym{p:zW}{s:Sk}{v:V}(h:cB K G H s t v T)(J:T.Nodup)(N:mh p s=Y (.li l))(O:eZ p t=Y (.lst (j++[d]))):
  ∃x f u,gB H p v=Y (.ref x)/\x∈T/\H x=Y (.lst (f++[u]))/\j.length=f.length /\
   ∃k g,cB K G (dg H x (.lst f)) s (mC (.lst j) p t) v k/\cB K G (dg H x (.lst f)) l d u g/\(k++g).Perm T:=by
 obtain⟨R,S,U,P,I,m,L⟩:=h.focus N O;cases I with
 |@lst _ _ x Q X D w=>
  rw[aQ,cI,Uj]at w;obtain⟨f,u,A,g,rfl,rfl,y,B⟩:=w.last (by simp);have a:(x::(A++g)++U).Nodup:=m.nodup_iff.mp J;have q:x∉A:=λz=>by simp at a;exact a.1.1 z
  have r:x∉g:=λz=>by simp at a;exact a.1.2.1 z
  have n:x∉U:=λz=>by simp at a;exact a.1.2.2 z
  refine⟨x,f,u,P,m.symm.subset (by simp),D,y.length.1,?_⟩;have E:cB K G (dg H x (.lst f)) (.li l) (.lst j) (.ref x) (x::A):=
   .lst br (y.mono (bD.refl _) λb i o e=>by have c:b≠x:=λz=>q (z ▸ i);rw[aZ c];exact e)
  obtain⟨k,F,C⟩:=L G (dg H x (.lst f)) _ _ (bD.refl _) (λb i o e=>by have c:b≠x:=λz=>n (z ▸ i);rw[aZ c];exact e) E;refine⟨k,g,F,B.mono (bD.refl _) λb i o e=>by have c:b≠x:=λz=>r (z ▸ i);rw[aZ c];exact e,?_⟩;refine(C.append_right g).trans ((?_:List.Perm _ _).trans m.symm);have:=Q8 (l₁:=U) (l₂:=g);have:=this.append_left (x::A);simpa [bZ] using this
theorem yS{f:List aG}{S:List az}:cB K G H (.fs c []) (.ins c f b) (.ref x) S↔(∃o,H x=Y o/\jk K G (.ins c f b) o)/\S=[x]:=by
 have p:∀ {f:List aG}{b:List D}{g:List V}{S:List az},fT K G H (f.map (cU [])) b g S->bz K G b g/\S=[]:=by
  intro f
  induction f with
  |nil=>intro b g S h;cases h;exact⟨.nil,rfl⟩
  |cons k f ih=>
   intro b g S h;have h:fT K G H (.lf::f.map (cU [])) b g S:=h;cases h with
   |cons a t=>
    cases a with
    |leaf r=>obtain⟨m,rfl⟩:=ih t;exact⟨.cons r m,rfl⟩
 have i:∀ {f:List aG}{b:List D}{g:List V},f.length=b.length->bz K G b g->fT K G H (f.map (cU [])) b g []:=by
  intro f
  induction f with
  |nil=>
   intro b g j r;cases b with
   |nil=>rw[dE.mp r];exact .nil|cons=>simp at j
  |cons k f ih=>
   intro b g j r;cases b with
   |nil=>simp at j|cons d b=>obtain⟨v,u,rfl,s,q⟩:=bJ.mp r;exact .cons (S:=[]) (.leaf s) (ih (by simpa using j) q)
 constructor
 ·intro h;cases h with
  |ins n e l t=>obtain⟨m,rfl⟩:=p t;exact⟨⟨_,e,_,_,_,rfl,n,l,m⟩,rfl⟩
 ·rintro⟨⟨o,e,C,w,g,rfl,n,l,r⟩,rfl⟩;exact .ins n e l (i l r)
theorem cB.dput{p:zW}{s:Sk}{v:V}(h:cB K G H s t v T)(I:T.Nodup)(N:mh p s=Y .di)(O:eZ p t=Y (.iW q y))(g:bD G G')(k:∀b∈T,∀o,H b=Y o->A b=Y o):
  ∃x m,gB H p v=Y (.ref x)/\x∈T/\H x=Y (.dK (q.zip m))/\q.length=y.length/\bz K G y m /\
   ∀(a:List lJ) (c:List D) (d:List V),a.length=c.length->bz K G' c d->∃j,cB K G' (dg A x (.dK (a.zip d))) s (mC (.iW a c) p t) v j/\j.Nodup/\∀b∈j,b∈T:=by
 obtain⟨R,S,U,P,F,n,L⟩:=h.focus N O;cases F with
 |@iW _ _ x m W l r=>
  have f:([x]++U).Nodup:=n.nodup_iff.mp I;have u:x∉U:=λz=>by simp at f;exact f.1 z
  have Q:∀b∈U,b∈T:=λb i=>n.symm.subset (by simp[i])
  refine⟨x,m,P,n.symm.subset (by simp),W,l,r,λa c d J C =>?_⟩;obtain⟨j,E,B⟩:=L G' (dg A x (.dK (a.zip d))) (.iW a c) [x] g (λb i o e=>by have w:b≠x:=λz=>u (z ▸ i);rw[aZ w];exact k b (Q b i) o e) (.iW br J C);exact⟨j,E,by rw[B.nodup_iff];exact f,λb i=>n.symm.subset (B.subset i)⟩
end
end L2
namespace L2
open PySem PySem.Spec PyProof.Rows
def WQ(K:aT)(G H:Hp):D->az->HO->Prop
 |.obj s t,a,_=>∃S,cB K G H s t (.ref a) S/\∀b∈S,G b=M|.dN _ _,_,_=>True|d,_,o=>jk K G d o
def jt(K:aT)(G H:Hp)(d:D)(v:V):Prop:=cO K G d v∨∃a o,v=.ref a/\H a=Y o/\WQ K G H d a o
section
variable {K:aT}
theorem jt.ext{d:D}{v:V}(r:jt K G H d v)(E:f_ G H G' H'):jt K G' H' d v:=by
 rcases r with r|⟨a,o,k,j,c⟩
 ·exact .inl (cO.mono E.gg d r)
 ·refine .inr ⟨a,o,k,E.hh _ _ j,?_⟩;cases d with
  |obj s t=>
   obtain⟨S,g,i⟩:=c;refine⟨S,g.mono E.gg λb f o e=>E.hh b o e,λb f =>?_⟩;obtain⟨u,h,_⟩:=g.here b f;rcases q:G' b with _|w
   ·rfl
   rcases E.fr b w q with z|z
   ·rw[i b f]at z;cases z
   ·rw[h]at z;cases z
  |dN=>trivial|lst=>exact jk.mono E.gg (d :=.lst _) c|ins=>exact jk.mono E.gg (d :=.ins _ _ _) c|iW=>exact jk.mono E.gg (d :=.iW _ _) c|_=>exact c
theorem jt.dJ{v:V}(r:jt K G H .dJ v):v=.dJ:=by
 rcases r with r|⟨a,o,_,_,e⟩
 ·exact gI.mp r
 ·exact e.elim
theorem jt.bl{v:V}(r:jt K G H (.bl b) v):v=.bl b:=by
 rcases r with r|⟨a,o,_,_,e⟩
 ·exact dn.mp r
 ·exact e.elim
theorem jt.int{i:Int}{v:V}(r:jt K G H (.int i) v):v=.int i:=by
 rcases r with r|⟨a,o,_,_,e⟩
 ·exact bX.mp r
 ·exact e.elim
theorem jt.str{v:V}(r:jt K G H (.str x) v):v=.str x:=by
 rcases r with r|⟨a,o,_,_,e⟩
 ·exact iG.mp r
 ·exact e.elim
theorem jt.lst{ds:List D}{v:V}(s:bD G H)(r:jt K G H (.lst ds) v):∃a vs,v=.ref a/\H a=Y (.lst vs)/\bz K G ds vs:=by
 rcases r with r|⟨a,o,d,c,vs,rfl,b⟩
 ·obtain⟨a,vs,e,q,t⟩:=cW.mp r;exact⟨a,vs,e,s _ _ q,t⟩
 ·exact⟨a,vs,d,c,b⟩
theorem jt.tup{ds:List D}{v:V}(s:bD G H)(r:jt K G H (.tup ds) v):∃a b,v=.ref a/\H a=Y (.tup b)/\bz K G ds b:=by
 rcases r with r|⟨a,o,_,_,e⟩
 ·obtain⟨a,b,e,q,t⟩:=fg.mp r;exact⟨a,b,e,s _ _ q,t⟩
 ·exact e.elim
theorem jt.mD{v:V}(s:bD G H)(r:jt K G H (.mD ns) v):∃a,v=.ref a/\nT K H a (ns.map V.int):=by
 rcases r with r|⟨a,o,_,_,e⟩
 ·obtain⟨a,e,q⟩:=Hf.mp r;exact⟨a,e,s.seq q⟩
 ·exact e.elim
theorem jt.YG{f:List aG}{v:V}(s:bD G H)(r:jt K G H (.ins c f g) v):∃a C d b,v=.ref a/\H a=Y (.ins C d (f.zip b))/\gU K aI c=Y (Y (.ref C))/\f.length=g.length/\bz K G g b:=by
 rcases r with r|⟨a,o,j,i,C,d,b,rfl,n,l,h⟩
 ·obtain⟨a,C,d,b,e,n,q,l,t⟩:=mr.mp r;exact⟨a,C,d,b,e,s _ _ q,n,l,t⟩
 ·exact⟨a,C,d,b,j,i,n,l,h⟩
theorem jt.Ts{v:V}(s:bD G H)(r:jt K G H (.iW c d) v):∃a b,v=.ref a/\H a=Y (.dK (c.zip b))/\c.length=d.length/\bz K G d b:=by
 rcases r with r|⟨a,o,h,g,b,rfl,l,f⟩
 ·obtain⟨a,b,e,q,l,t⟩:=x9.mp r;exact⟨a,b,e,s _ _ q,l,t⟩
 ·exact⟨a,b,h,g,l,f⟩
theorem jt.ins{ks:List aG}{d:List D}{v:V}(r:jt K G H (.ins c ks d) v):∃a,v=.ref a:=by
 rcases r with r|⟨a,o,b,_⟩
 ·obtain⟨a,C,dx,vs,e,_⟩:=mr.mp r;exact⟨a,e⟩
 ·exact⟨a,b⟩
theorem jt.iW{ks:List lJ}{ds:List D}{v:V}(r:jt K G H (.iW ks ds) v):∃a,v=.ref a:=by
 rcases r with r|⟨a,o,b,_⟩
 ·obtain⟨a,vs,e,_⟩:=x9.mp r;exact⟨a,e⟩
 ·exact⟨a,b⟩
theorem jt.all{v:V}(s:bD G H)(r:jt K G H d v):cO K H d v:=by
 rcases r with r|⟨a,o,i,e,c⟩
 ·exact cO.mono s d r
 ·subst i;cases d with
  |obj k t=>obtain⟨S,h,g⟩:=c;have:=h.frozen g (λb f=>f);exact qv.mpr (cO.mono (me s) t this)
  |dN=>exact sL.mpr ⟨a,rfl⟩|lst=>exact(jk.mono s (d :=.lst _) c).rep e|ins=>exact(jk.mono s (d :=.ins _ _ _) c).rep e|iW=>exact(jk.mono s (d :=.iW _ _) c).rep e|_=>exact c.elim
end
abbrev cy:=List (Option D)
abbrev DF:=cy->Option D
abbrev DT:=cy->Option Bool
abbrev DL:=cy->Option (List D)
noncomputable abbrev Aw(j:Nat):Nat:=j+1000000
abbrev Ae(j:Nat):Nat:=j+2000000
def CO:List aG:=["rows", "coming"]
def EU(own:List Nat)(H:Hp)(a:St)(c:cy)(j r:Nat)(p:zW):Prop:=r∈own/\Ae r∈own/\∃s t d v b,c[r]?=Y (Y (.obj s t))/\a[r]?=Y (Y v)/\a[j]?=Y (Y b)/\gB H p v=Y b/\mh p s=Y d/\∀g∈zr p,g∈CO
structure kJ(K:aT)(own:List Nat)(G H:Hp)(σ:St)(ρ:cy):Prop where
 len:σ.length=ρ.length
 get:∀(i:Nat) (d:D),ρ[i]?=some (some d)->∃v,σ[i]?=some (some v)/\(if i∈own then jt K G H d v else cO K G d v)
 dN:∀(j r:Nat) (p:zW),j∈own->Aw j∈own->ρ[j]?=some (some (.dN r p))->EU own H σ ρ j r p
theorem EU.ext{H':Hp}{a:St}{r:Nat}(h:EU own H a b j r p)(s:bD H H'):EU own H' a b j r p:=by
 obtain⟨g,i,e,d,f,v,c,q,o,n,l,k⟩:=h;exact⟨g,i,e,d,f,v,c,q,o,n,jL s l,k⟩
theorem kJ.ext{K:aT}{G' H':Hp}{a:St}(h:kJ K own G H a b)(E:f_ G H G' H'):kJ K own G' H' a b:=⟨h.len,λi d e=>by
 obtain⟨v,q,r⟩:=h.get i d e;refine⟨v,q,?_⟩;by_cases c:i∈own
 ·rw[if_pos c]at r ⊢;exact r.ext E
 ·rw[if_neg c]at r ⊢;exact cO.mono E.gg d r,λj r p g f e=>(h.dN j r p g f e).ext E.hh⟩
inductive tP (K:aT) (own:List Nat) (f:DF) (b:St) (H:Hp) (Q:VK):Prop
 |mk G a d:bD G H->kJ K own G H b a->f a=some d->(∀v G' H',f_ G H G' H'->cO K G' d v->Q v H')->tP K own f b H Q
inductive tQ (K:aT) (own:List Nat) (f:DF) (b:St) (H:Hp) (Q:VK):Prop
 |mk G a d:bD G H->kJ K own G H b a->f a=some d->(∀v G' H',f_ G H G' H'->jt K G' H' d v->Q v H')->tQ K own f b H Q
inductive tF (K:aT) (own:List Nat) (f:DL) (d:St) (H:Hp) (Q:VK):Prop
 |mk G a c:bD G H->kJ K own G H d a->f a=some c->(∀p b G' H',f_ G H G' H'->H p=none->G' p=none->H' p=some (.lst b)->bz K G' c b->Q (.ref p) H')->tF K own f d H Q
inductive rg (K:aT) (own:List Nat) (f:DT) (c:St) (H:Hp) (Q:Bool->Hp->Prop):Prop
 |mk G a b:bD G H->kJ K own G H c a->f a=some b->(∀G' H',f_ G H G' H'->Q b H')->rg K own f c H Q
inductive BP (K:aT) (own:List Nat) (f:DL) (d:St) (H:Hp) (Q:List V->Hp->Prop):Prop
 |mk G a c:bD G H->kJ K own G H d a->f a=some c->(∀b G' H',f_ G H G' H'->bz K G' c b->Q b H')->BP K own f d H Q
def Il(K:aT)(G H:Hp):List D->List V->Prop:=Paired (jt K G H)
inductive Ut (K:aT) (own:List Nat) (f:DL) (d:St) (H:Hp) (Q:List V->Hp->Prop):Prop
 |mk G a c:bD G H->kJ K own G H d a->f a=some c->(∀b G' H',f_ G H G' H'->Il K G' H' c b->Q b H')->Ut K own f d H Q
section
variable {X:Cx}
theorem PE.imp(h:PE X e t)(k:∀b H Q,c b H Q->t b H Q):PE X e c:=λa s b H Q I q=>h a s b H Q I (k _ _ _ q)
theorem PT.imp(h:PT X e t)(k:∀b H Q,c b H Q->t b H Q):PT X e c:=λa s b H Q I q=>h a s b H Q I (k _ _ _ q)
theorem PW.imp(h:PW X e t)(k:∀b H Q,c b H Q->t b H Q):PW X e c:=λw a s b H Q I q=>h w a s b H Q I (k _ _ _ q)
theorem PA.imp(h:PA X e t)(k:∀b H Q,c b H Q->t b H Q):PA X e c:=λm a s b H Q I q=>h m a s b H Q I (k _ _ _ q)
theorem PS.imp(h:PS X e t)(k:∀D b H,c D b H->t D b H):PS X e c:=λa s b H D I q=>h a s b H D I (k _ _ _ q)
theorem oP.imp(h:oP X e t)(k:∀D b H,c D b H->t D b H):oP X e c:=λa s b H D I q=>h a s b H D I (k _ _ _ q)
theorem pG.imp{f:ak->ak->Sem ak}(h:pG X f r)(k:∀x y H Q,b x y H Q->r x y H Q):pG X f b:=λa s c H x y v u Q I e d q=>h a s c H x y v u Q I e d (k _ _ _ _ q)
theorem dq{f:DF}(h:PE X e (tP X.K own f)):PE X e (tQ X.K own f):=h.imp <|by rintro i H Q ⟨G,b,d,c,a,g,k⟩;exact⟨G,b,d,c,a,g,λv G' H' E r=>k v G' H' E (.inl r)⟩
def eF(f:DL):DF:=λρ=>(f ρ).map D.lst
theorem df{f:DL}(h:PE X e (tF X.K own f)):PE X e (tP X.K own (eF f)):=h.imp <|by
 rintro s H Q ⟨G,g,d,q,b,l,k⟩;rcases a:f g with _|c
 ·simp[eF,a]at l
 have:d=.lst c:=by simpa [eF,a] using l.symm
 subst this;refine⟨G,g,c,q,b,a,λp i G' H' E o j n r=>k _ (dg G' p (.lst i)) H' (E.freeze o j n) ?_⟩;exact cW.mpr ⟨p,i,rfl,br,bz.mono (.alloc j) c r⟩
noncomputable def eV(i:Nat):DF:=λρ=>(ρ[i]?).join
def eK(d:D):DF:=λ_=>Y d
theorem iO(h:eV i a=Y d):a[i]?=Y (Y d):=by
 unfold eV at h;cases e:a[i]? with
 |none=>rw[e]at h;cases h| some o=>rw[e]at h;cases o with
  |none=>cases h|some c=>rw[show c=d from bM h]
theorem dv{m:Pos}(h:PE X (.Name x m) (iC i))(b:i∉own:=by decide):PE X (.Name x m) (tP X.K own (eV i)):=h.imp <|by
 rintro f H Q ⟨G,g,d,c,a,e,k⟩;obtain⟨v,q,r⟩:=a.get i d (iO e);rw[if_neg b]at r;exact⟨v,q,k v G H (.refl c) r⟩
theorem dvo{i:Nat}{m:Pos}(h:PE X (.Name x m) (iC i))(b:i∈own:=by decide):PE X (.Name x m) (tQ X.K own (eV i)):=h.imp <|by
 rintro f H Q ⟨G,g,d,c,a,e,k⟩;obtain⟨v,q,r⟩:=a.get i d (iO e);rw[if_pos b]at r;exact⟨v,q,k v G H (.refl c) r⟩
theorem Cv{i j m}:PE X (.Constant (.int i) j m) (tP X.K own (eK (.int i))):=LF.imp <|by
 rintro e H Q ⟨G,f,d,a,c,b,k⟩;cases b;exact k _ G H (.refl a) (bX.mpr rfl)
theorem Wp{b j m}:PE X (.Constant (.bool b) j m) (tP X.K own (eK (.bl b))):=Vw.imp <|by
 rintro f H Q ⟨G,g,d,a,e,c,k⟩;cases c;exact k _ G H (.refl a) (dn.mpr rfl)
theorem Nd{j m}:PE X (.Constant .none j m) (tP X.K own (eK .dJ)):=RX.imp <|by
 rintro e H Q ⟨G,f,d,a,c,b,k⟩;cases b;exact k _ G H (.refl a) (gI.mpr rfl)
theorem Tu{x j m}:PE X (.Constant (.str x) j m) (tP X.K own (eK (.str x))):=RV.imp <|by
 rintro e H Q ⟨G,f,d,a,c,b,k⟩;cases b;exact k _ G H (.refl a) (iG.mpr rfl)
def aN:DL:=λ_=>Y []
def aC(f:DF)(g:DL):DL:=λa=>(f a).bind λx=>(g a).bind λb=>Y (x::b)
theorem Ij{f:DF}{e:List D}(h:aC f g a=Y e):∃x b,f a=Y x/\g a=Y b/\e=x::b:=by
 unfold aC at h;obtain⟨x,d,h⟩:=aa.1 h;rw[d];rcases c:g a with _|b
 ·rw[c]at h;cases h
 rw[c]at h;exact⟨x,b,rfl,rfl,(bM h).symm⟩
theorem uy:PA X [] (BP X.K own aN):=gA.imp <|by
 rintro e H Q ⟨G,f,d,a,c,b,k⟩;cases b;exact k _ G H (.refl a) .nil
theorem jO{f:DF}{g:DL}(h:PE X e (tP X.K own f))(t:PA X A (BP X.K own g))(p:ao (e::A) X.env=(Z_,eval e X.env)::ao A X.env:=by rfl):PA X (e::A) (BP X.K own (aC f g)):=
 (cJ h t p).imp <|by rintro z H Q ⟨G,i,d,q,a,s,k⟩;obtain⟨x,l,r,b,rfl⟩:=Ij s;refine⟨G,i,x,q,a,r,λv y D c o=>⟨y,i,l,c.gh,a.ext c,b,λC w u j n=>k _ w u (c.trans j) (.cons (cO.mono j.gg x o) n)⟩⟩
theorem Ct:PA X [] (Ut X.K own aN):=gA.imp <|by
 rintro e H Q ⟨G,f,d,a,c,b,k⟩;cases b;exact k _ G H (.refl a) .nil
theorem zI{f:DF}(h:PE X e (tQ X.K own f))(t:PA X A (Ut X.K own g))(p:ao (e::A) X.env=(Z_,eval e X.env)::ao A X.env:=by rfl):PA X (e::A) (Ut X.K own (aC f g)):=
 (cJ h t p).imp <|by rintro z H Q ⟨G,i,d,q,a,s,k⟩;obtain⟨x,l,r,b,rfl⟩:=Ij s;refine⟨G,i,x,q,a,r,λv y D c o=>⟨y,i,l,c.gh,a.ext c,b,λC w u j n=>k _ w u (c.trans j) (.cons (o.ext j) n)⟩⟩
def dA(g:DL):DF:=λb=>(g b).bind λa=>if a.length<=1000 then Y (.tup a) else M
theorem vn:1000<=bb:=by rw[il];decide
theorem Gr{o m}{g:DL}(h:PA X A (BP X.K own g)):PE X (.Tuple A o m) (tP X.K own (dA g)):=(Ly h).imp <|by
 rintro s H Q ⟨G,i,d,r,c,a,k⟩;unfold dA at a;rw[aa]at a;obtain⟨b,e,a⟩:=a;have a:(if b.length<=1000 then Y (D.tup b) else M)=Y d:=a;split at a
 ·cases a;rename_i q;refine⟨G,i,b,r,c,e,λj u t f l=>⟨?_,λp n=>k _ _ _ (f.trans (f_.alloc (p:=p) (o :=.tup j) f.gh n)) ?_⟩⟩
  ·rw[<- l.length];exact bK q vn
  ·exact fg.mpr ⟨p,j,rfl,br,bz.mono (.alloc (f.gh.free n)) b l⟩
 ·cases a
def fG(g:DL):DL:=λb=>(g b).bind λa=>if a.length<=1000 then Y a else M
theorem Tx{m}{g:DL}(h:PA X A (BP X.K own g)):PE X (.List A m) (tF X.K own (fG g)):=(B0 h).imp <|by
 rintro s H Q ⟨G,l,j,o,d,a,k⟩;unfold fG at a;obtain⟨e,q,a⟩:=aa.1 a;have a:(if e.length<=1000 then Y e else M)=Y j:=a;split at a
 ·cases a;rename_i n;refine⟨G,l,j,o,d,q,λf r t b i=>⟨?_,λp c=>k p f r _ (b.trans (f_.lay (p:=p) (o :=.lst f) b.gh c)) (b.hh.free c) (b.gh.free c) br i⟩⟩;rw[<- i.length];exact bK n vn
 ·cases a
def e2(o:D->D->Option D)(a b:DF):DF:=λρ=>(a ρ).bind λx=>(b ρ).bind λy=>o x y
theorem Cs(h:e2 o a b c=Y d):∃x y,a c=Y x/\b c=Y y/\o x y=Y d:=by
 unfold e2 at h;obtain⟨x,f,h⟩:=aa.1 h;rw[f];rcases e:b c with _|y
 ·rw[e]at h;cases h
 rw[e]at h;exact⟨x,y,rfl,rfl,h⟩
inductive rD (K:aT) (o:D->D->Option D) (x:V) (y:V) (H:Hp) (Q:VK):Prop
 |mk G b a d:bD G H->jt K G H b x->jt K G H a y->o b a=some d->(∀v G' H',f_ G H G' H'->cO K G' d v->Q v H')->rD K o x y H Q
def AF(X:Cx)(f:ak->ak->Sem ak)(o:D->D->Option D):Prop:=pG X f (rD X.K o)
theorem Hg{K:aT}{own:List Nat}{fa fb:DF}{e:St}(h:tP K own (e2 o fa fb) e H Q):Uu (rD K o) (tQ K own fa) (tQ K own fb) e H Q:=by
 obtain⟨G,f,d,l,a,q,k⟩:=h;obtain⟨x,y,p,n,r⟩:=Cs q;exact⟨G,f,x,l,a,p,λv C I c j=>⟨C,f,y,c.gh,a.ext c,n,λu z F b i=>⟨z,x,y,d,b.gh,j.ext b,i,r,λw t s E g=>k w t s ((c.trans b).trans E) g⟩⟩⟩
variable {m:Pos}
theorem Nc{op:Operator}(c:AF X (dX op) o)(e:PE X a (tQ X.K own fa))(d:PE X b (tQ X.K own fb)):PE X (.BinOp a op b m) (tP X.K own (e2 o fa fb)):=(LB c e d).imp λf H Q h=>Hg h
theorem Gs{op:CmpOp}(c:AF X (gr op) o)(f:PE X a (tQ X.K own fa))(e:PE X b (tQ X.K own fb))(d:gy op b=Z_):PE X (.Compare a [op] [b] m) (tP X.K own (e2 o fa fb)):=(ON c f e d).imp λg H Q h=>Hg h
noncomputable def dO(f:DF):DT:=λa=>(f a).bind λd=>match d with|.bl b=>Y b|_=>M
theorem rR{f:DF}{a:cy}{b:Bool}(h:dO f a=Y b):f a=Y (.bl b):=by
 unfold dO at h;obtain⟨d,e,h⟩:=aa.1 h;rw[e];cases d with
 |bl c=>rw[show c=b from bM h]
 |_=>cases h
theorem Tn{op:CmpOp}(f:AF X (gr op) o)(i:PE X a (tQ X.K own fa))(h:PE X b (tQ X.K own fb))(g:gy op b=Z_):PT X (.Compare a [op] [b] m) (rg X.K own (dO (e2 o fa fb))):=
 (Hi f i h g).imp <|by rintro n H Q ⟨G,e,d,j,c,l,k⟩;exact Hg (own:=own) (fa:=fa) (fb:=fb) ⟨G,e,.bl d,j,c,rR l,λv G' H' E r=>⟨d,dn.mp r,k G' H' E⟩⟩
def kO(f g:DT):DT:=λa=>(f a).bind λc=>if c=Z' then g a else Y Z_
def tm(f g:DT):DT:=λa=>(f a).bind λc=>if c=Z' then Y Z' else g a
def kN(f:DT):DT:=λa=>(f a).map λc=> !c
variable {f:DT}
theorem Xr(b:PT X a (rg X.K own f)):PW X (.BoolOp .And [a] m) (rg X.K own f):=Oy b
theorem Zm(b:PT X a (rg X.K own f)):PW X (.BoolOp .Or [a] m) (rg X.K own f):=Ln b
theorem Zn(o : PT X a (rg X.K own f))(n : PW X (.BoolOp .And (b :: B) m) (rg X.K own g)): PW X (.BoolOp .And (a :: b :: B) m) (rg X.K own (kO f g)) := (RJ o n).imp <|by
  rintro v H Q ⟨G,j,d,p,h,e,k⟩
  unfold kO at e
  obtain ⟨c,q,e⟩ := aa.1 e
  refine⟨G,j,c,p,h,q,λl s i => ?_⟩
  cases c with
  |true => exact zg ⟨l,j,d,i.gh,h.ext i,e,λt r u => k t r (i.trans u)⟩
  | false => have : d = Z_ := (bM (show Y Z_ = Y d from e)).symm
             subst this; exact xG (k l s i)
theorem aa7(o : PT X a (rg X.K own f))(n : PW X (.BoolOp .Or (b :: B) m) (rg X.K own g)): PW X (.BoolOp .Or (a :: b :: B) m) (rg X.K own (tm f g)) := (Lo o n).imp <|by
  rintro v H Q ⟨G,j,d,p,h,e,k⟩
  unfold tm at e
  obtain ⟨c,q,e⟩ := aa.1 e
  refine⟨G,j,c,p,h,q,λl s i => ?_⟩
  cases c with
  |false => exact xG ⟨l,j,d,i.gh,h.ext i,e,λt r u => k t r (i.trans u)⟩
  | true => have : d = Z' := (bM (show Y Z' = Y d from e)).symm
            subst this; exact zg (k l s i)
theorem Tj(i:PT X a (rg X.K own f)):PT X (.UnaryOp .Not a m) (rg X.K own (kN f)):=(Lr i).imp <|by
 rintro p H Q ⟨G,h,d,j,e,b,k⟩;unfold kN at b;rcases g:f h with _|c
 ·rw[g]at b;cases b
 rw[g]at b;have:d = !c:=(bM (show Y (!c)=Y d from b)).symm;subst this;exact⟨G,h,c,j,e,g,λn l o=>k n l o⟩
def MW(f g:DF):DF:=λa=>(dO f a).bind λc=>if c=Z' then g a else Y (.bl Z_)
def Zk(f g:DF):DF:=λa=>(dO f a).bind λc=>if c=Z' then Y (.bl Z') else g a
def Po(f:DT):DF:=λa=>(f a).map λc =>.bl (!c)
theorem Tv{b}(h:PE X a (tP X.K own fa)):PE X (.BoolOp b [a] m) (tP X.K own fa):=LC h
theorem TC(o : PE X a (tP X.K own fa))(n : PE X (.BoolOp .And (b :: B) m) (tP X.K own fb)): PE X (.BoolOp .And (a :: b :: B) m) (tP X.K own (MW fa fb)) := (FR o n).imp <|by
  rintro w H Q ⟨G,h,d,p,f,e,k⟩
  unfold MW at e
  obtain ⟨c,q,e⟩ := aa.1 e
  refine⟨G,h,_,p,f,rR q,λv i s g l => ⟨c,dn.mp l,?_⟩⟩
  cases c with
  |true => exact zg ⟨i,h,d,g.gh,f.ext g,e,λv t r u j => k v t r (g.trans u) j⟩
  | false => have : d = .bl Z_ := (bM (show Y (D.bl Z_) = Y d from e)).symm
             subst this; exact xG (k _ i s g (dn.mpr rfl))
theorem abb(o : PE X a (tP X.K own fa))(n : PE X (.BoolOp .Or (b :: B) m) (tP X.K own fb)): PE X (.BoolOp .Or (a :: b :: B) m) (tP X.K own (Zk fa fb)) := (Vv o n).imp <|by
  rintro w H Q ⟨G,h,d,p,f,e,k⟩
  unfold Zk at e
  obtain ⟨c,q,e⟩ := aa.1 e
  refine⟨G,h,_,p,f,rR q,λv i s g l => ⟨c,dn.mp l,?_⟩⟩
  cases c with
  |false => exact xG ⟨i,h,d,g.gh,f.ext g,e,λv t r u j => k v t r (g.trans u) j⟩
  | true => have : d = .bl Z' := (bM (show Y (D.bl Z') = Y d from e)).symm
            subst this; exact zg (k _ i s g (dn.mpr rfl))
theorem Tw(i:PE X a (tP X.K own fa)):PE X (.UnaryOp .Not a m) (tP X.K own (Po (dO fa))):=(RW i).imp <|by
 rintro p H Q ⟨G,g,d,j,e,b,k⟩;unfold Po at b;rcases f:dO fa g with _|c
 ·rw[f]at b;cases b
 rw[f]at b;have:d=.bl (!c):=(bM (show Y (D.bl (!c))=Y d from b)).symm;subst this;exact⟨G,g,_,j,e,rR f,λv n l o h=>⟨c,dn.mp h,k _ n l o (dn.mpr rfl)⟩⟩
def MV(c:DT)(f g:DF):DF:=λa=>(c a).bind λb=>if b=Z' then f a else g a
theorem abd(q:PT X c (rg X.K own f))(s:PE X a (tP X.K own fa))(r:PE X b (tP X.K own fb)):PE X (.IfExp c a b m) (tP X.K own (MV f fa fb)):=(LG q s r).imp <|by
 rintro w H Q ⟨G,i,d,t,e,h,k⟩;unfold MV at h;obtain⟨c,u,h⟩:=aa.1 h;refine⟨G,i,c,t,e,u,λp x g =>?_⟩;cases c with
 |true=>exact zg ⟨p,i,d,g.gh,e.ext g,h,λv n l o j=>k v n l (g.trans o) j⟩
 |false=>exact xG ⟨p,i,d,g.gh,e.ext g,h,λv n l o j=>k v n l (g.trans o) j⟩
end
mutual
noncomputable def tV:D->D->Bool
 |.dJ,.dJ=>Z'|.bl a,.bl b=>a==b|.bl a,.int b=>(if a then 1 else 0)==b
 |.int a,.bl b=>a==(if b then 1 else 0)
 |.int a,.int b=>a==b|.str a,.str b=>a==b|.lst d,.lst c=>qG d c|.tup d,.tup c=>qG d c|_,_=>Z_
noncomputable def qG:List D->List D->Bool
 |[],[]=>Z'|x::b,y::a=>tV x y&&qG b a|_,_=>Z_
end
mutual
def i_:D->Nat->Bool
 |.lst a,n=>n != 0&&lF a (n-1)|.tup a,n=>n != 0&&lF a (n-1)|.mD _,_=>Z_|.ins _ _ _,_=>Z_|.iW _ _,_=>Z_|.obj _ _,_=>Z_|.dN _ _,_=>Z_|.dJ,_=>Z'|.bl _,_=>Z'|.int _,_=>Z'|.str _,_=>Z'
def lF:List D->Nat->Bool
 |[],_=>Z'|x::a,n=>i_ x n&&lF a n
end
theorem zM:∀ {a:List D}{n i:Nat}{d:D},lF a n=Z'->a[i]?=Y d->i_ d n=Z'
 |[],n,i,d,h,e=>by simp at e
 |x::a,n,0,d,h,e=>by simp only[lF,aV]at h;simp at e;subst e;exact h.1
 |x::a,n,i+1,d,h,e=>by simp only[lF,aV]at h;exact zM (i:=i) h.2 (by simpa using e)
theorem vv:∀(b a:List D),qG b a=((cw (min b.length a.length)).all (λj=>tV (b.getD j .dJ) (a.getD j .dJ))&&(b.length==a.length))
 |[],[]=>by simp[qG]
 |[],y::a=>by simp[qG]
 |x::b,[]=>by simp[qG]
 | x::b,y::a=>by
  have e:min (x::b).length (y::a).length=min b.length a.length+1:=by simp[Nat.add_min_add_right]
  rw[e,vI,mq,nN];simp only[qG,vv b a,eU,List.getD_cons_zero,List.getD_cons_succ,aP];rw[Bool.and_assoc]
  congr 2
  simp
mutual
theorem zK:∀(d:D) (n:Nat),i_ d n=Z'->tV d d=Z'
 |.dJ,n,h=>by simp[tV]
 |.bl b,n,h=>by simp[tV]
 |.int b,n,h=>by simp[tV]
 |.str b,n,h=>by simp[tV]
 |.lst a,n,h=>by simp only[i_,aV]at h;simp only[tV];exact qc a _ h.2
 |.tup a,n,h=>by simp only[i_,aV]at h;simp only[tV];exact qc a _ h.2
 |.mD a,n,h=>by simp[i_]at h
 |.ins _ _ _,n,h=>by simp[i_]at h
 |.iW _ _,n,h=>by simp[i_]at h
 |.obj _ _,n,h=>by simp[i_]at h
 |.dN _ _,n,h=>by simp[i_]at h
theorem qc:∀(d:List D) (n:Nat),lF d n=Z'->qG d d=Z'
 |[],n,h=>by simp[qG]
 |x::a,n,h=>by simp only[lF,aV]at h;simp only[qG,zK x n h.1,qc a n h.2,NP]
end
section
variable {K:aT}
mutual
theorem cO.inj:∀(u g:D) (n m:Nat){v:V},i_ u n=Z'->i_ g m=Z'->cO K H u v->cO K H g v->u=g
 |.dJ,g,n,m,v,h,d,i,f=>by have e:=gI.mp i;subst e;cases g<;>simp[cO,i_]at f d ⊢
 |.bl b,g,n,m,v,h,d,i,f=>by have e:=dn.mp i;subst e;cases g<;>simp[cO,i_]at f d ⊢<;>exact f
 |.int b,g,n,m,v,h,d,i,f=>by have e:=bX.mp i;subst e;cases g<;>simp[cO,i_]at f d ⊢<;>exact f
 |.str b,g,n,m,v,h,d,i,f=>by have e:=iG.mp i;subst e;cases g<;>simp[cO,i_]at f d ⊢<;>exact f
 | .lst o,g,n,m,v,h,d,i,f=>by
  obtain⟨a,w,rfl,l,r⟩:=cW.mp i;cases g with
  |lst k=>obtain⟨b,s,e,j,q⟩:=cW.mp f;cases e;rw[l]at j;cases j;simp only[i_,aV]at h d;rw[bz.inj o k _ _ h.2 d.2 r q]
  |tup k=>obtain⟨b,s,e,j,q⟩:=fg.mp f;cases e;rw[l]at j;cases j
  |mD k=>simp[i_]at d|ins c t p=>simp[i_]at d|iW t p=>simp[i_]at d|obj=>simp[i_]at d|dN=>simp[i_]at d|_=>simp[cO]at f
 | .tup o,g,n,m,v,h,d,i,f=>by
  obtain⟨a,w,rfl,l,r⟩:=fg.mp i;cases g with
  |tup k=>obtain⟨b,s,e,j,q⟩:=fg.mp f;cases e;rw[l]at j;cases j;simp only[i_,aV]at h d;rw[bz.inj o k _ _ h.2 d.2 r q]
  |lst k=>obtain⟨b,s,e,j,q⟩:=cW.mp f;cases e;rw[l]at j;cases j
  |mD k=>simp[i_]at d|ins c t p=>simp[i_]at d|iW t p=>simp[i_]at d|obj=>simp[i_]at d|dN=>simp[i_]at d|_=>simp[cO]at f
 |.mD o,g,n,m,v,h,d,i,f=>by simp[i_]at h
 |.ins _ _ _,g,n,m,v,h,d,i,f=>by simp[i_]at h
 |.iW _ _,g,n,m,v,h,d,i,f=>by simp[i_]at h
 |.obj _ _,g,n,m,v,h,d,i,f=>by simp[i_]at h
 |.dN _ _,g,n,m,v,h,d,i,f=>by simp[i_]at h
theorem bz.inj:∀(b a:List D) (n m:Nat){d:List V},lF b n=Z'->lF a m=Z'->bz K H b d->bz K H a d->b=a
 | [],a,n,m,d,g,f,h,c=>by
  rw[dE.mp h]at c;cases a with
  |nil=>rfl|cons y a=>obtain⟨_,_,e,_⟩:=bJ.mp c;cases e
 | x::b,a,n,m,d,g,f,h,c=>by
  obtain⟨v,r,rfl,q,t⟩:=bJ.mp h;cases a with
  |nil=>have:=dE.mp c;cases this
  |cons y a=>obtain⟨k,l,e,j,i⟩:=bJ.mp c;cases e;simp only[lF,aV]at g f;rw[cO.inj x y _ _ g.1 f.1 q j,bz.inj b a _ _ g.2 f.2 t i]
end
end
section
variable {P:bt}{K:aT}{s:av}
theorem F2(c:nU P w H s.heap)(e:H a=Y (.lst d)):∃b:List ak,cg d b/\s.heap.IsList a b.toArray:=by
 obtain⟨z,b,n,r,q⟩:=c a _ e;exact⟨b,r,_,q,rfl,n,rfl⟩
theorem FZ(c:nU P w H s.heap)(e:H a=Y (.tup d)):∃b:List ak,cg d b/\s.heap.IsTuple a b.toArray:=by
 obtain⟨z,b,r,q⟩:=c a _ e;exact⟨b,r,q⟩
open SeqAt
structure z8(A:gD)(s:av)(u1 u2:ak)(b:Bool):Prop where
 rc:RcAt A s u1 u2 b
 ne:RcNeAt A s u1 u2 (!b)
 eq:EqAt A s u1 u2 b
theorem HJ(j:nU P w H s.heap)(g:A.units<rE){v:D}{m:Nat}{F:ak}(u:i_ z 0=Z')(i:i_ v m=Z')(y:cO K H z E)(h:cO K H v C)(x:RelV E G)(f:RelV C F):
  z8 A s G F (tV z v):=by
 cases z with
 |dJ=>
  have e:=gI.mp y;subst e;cases x;cases v with
  |dJ=>have e:=gI.mp h;subst e;cases f;exact⟨.none_none,.none_none,.same _⟩
  |bl b=>have e:=dn.mp h;subst e;cases f;exact⟨.none_bool b,.none_bool b,.none_bool b⟩
  |int b=>have e:=bX.mp h;subst e;obtain⟨t,rfl⟩:=f;exact⟨.none_int b t,.none_int b t,.none_int b t⟩
  |str b=>have e:=iG.mp h;subst e;obtain⟨t,rfl⟩:=f;exact⟨.none_str b t,.none_str b t,.none_str b t⟩
  |lst n=>obtain⟨a,r,rfl,q,_⟩:=cW.mp h;cases f;obtain⟨k,_,l⟩:=F2 j q;exact⟨.none_list l g,.none_list l g,.none_list l g⟩
  |tup n=>obtain⟨a,r,rfl,q,_⟩:=fg.mp h;cases f;obtain⟨k,_,l⟩:=FZ j q;exact⟨.none_tuple l g,.none_tuple l g,.none_tuple l g⟩
  |_=>simp[i_]at i
 |bl c=>
  have e:=dn.mp y;subst e;cases x;cases v with
  |dJ=>have e:=gI.mp h;subst e;cases f;exact⟨.bool_none c,.bool_none c,.bool_none c⟩
  |bl b=>have e:=dn.mp h;subst e;cases f;exact⟨.bool_bool c b,.bool_bool c b,.bool_bool c b⟩
  |int b=>have e:=bX.mp h;subst e;obtain⟨t,rfl⟩:=f;exact⟨.bool_int c b t,.bool_int c b t,.bool_int c b t⟩
  |str b=>have e:=iG.mp h;subst e;obtain⟨t,rfl⟩:=f;exact⟨.bool_str c b t,.bool_str c b t,.bool_str c b t⟩
  |lst n=>obtain⟨a,r,rfl,q,_⟩:=cW.mp h;cases f;obtain⟨k,_,l⟩:=F2 j q;exact⟨.bool_list c l g,.bool_list c l g,.bool_list c l g⟩
  |tup n=>obtain⟨a,r,rfl,q,_⟩:=fg.mp h;cases f;obtain⟨k,_,l⟩:=FZ j q;exact⟨.bool_tuple c l g,.bool_tuple c l g,.bool_tuple c l g⟩
  |_=>simp[i_]at i
 |int c=>
  have e:=bX.mp y;subst e;obtain⟨d,rfl⟩:=x;cases v with
  |dJ=>have e:=gI.mp h;subst e;cases f;exact⟨.int_none c d,.int_none c d,.int_none c d⟩
  |bl b=>have e:=dn.mp h;subst e;cases f;exact⟨.int_bool c d b,.int_bool c d b,.int_bool c d b⟩
  |int b=>have e:=bX.mp h;subst e;obtain⟨t,rfl⟩:=f;exact⟨.int_int c d b t,.int_int c d b t,.int_int c d b t⟩
  |str b=>have e:=iG.mp h;subst e;obtain⟨t,rfl⟩:=f;exact⟨.int_str c d b t,.int_str c d b t,.int_str c d b t⟩
  |lst n=>obtain⟨a,r,rfl,q,_⟩:=cW.mp h;cases f;obtain⟨k,_,l⟩:=F2 j q;exact⟨.int_list c d l g,.int_list c d l g,.int_list c d l g⟩
  |tup n=>obtain⟨a,r,rfl,q,_⟩:=fg.mp h;cases f;obtain⟨k,_,l⟩:=FZ j q;exact⟨.int_tuple c d l g,.int_tuple c d l g,.int_tuple c d l g⟩
  |_=>simp[i_]at i
 |str c=>
  have e:=iG.mp y;subst e;obtain⟨d,rfl⟩:=x;cases v with
  |dJ=>have e:=gI.mp h;subst e;cases f;exact⟨.str_none c d,.str_none c d,.str_none c d⟩
  |bl b=>have e:=dn.mp h;subst e;cases f;exact⟨.str_bool c d b,.str_bool c d b,.str_bool c d b⟩
  |int b=>have e:=bX.mp h;subst e;obtain⟨t,rfl⟩:=f;exact⟨.str_int c d b t,.str_int c d b t,.str_int c d b t⟩
  |str b=>have e:=iG.mp h;subst e;obtain⟨t,rfl⟩:=f;exact⟨.str_str c d b t,.str_str c d b t,.str_str c d b t⟩
  |lst n=>obtain⟨a,r,rfl,q,_⟩:=cW.mp h;cases f;obtain⟨k,_,l⟩:=F2 j q;exact⟨.str_list c d l g,.str_list c d l g,.str_list c d l g⟩
  |tup n=>obtain⟨a,r,rfl,q,_⟩:=fg.mp h;cases f;obtain⟨k,_,l⟩:=FZ j q;exact⟨.str_tuple c d l g,.str_tuple c d l g,.str_tuple c d l g⟩
  |_=>simp[i_]at i
 |_=>simp[i_]at u
theorem z8.refs(a:RcAt A s (.ref l) (.ref b) k)(c:RcNeAt A s (.ref l) (.ref b) (!k))(h:l=b->k=Z'):z8 A s (.ref l) (.ref b) k:=by
 refine⟨a,c,?_⟩;by_cases e:l=b
 ·subst e;rw[h rfl];exact .same _
 ·exact .of_refs e a
theorem M'(h:b.length≠a.length):qG b a=false:=by
 rw[vv];have:(b.length==a.length)=false:=by simpa using h
 rw[this,Kg]
theorem En{m:Nat}(ih:∀(h g:D) (l k:V) (t p:ak),i_ h n=Z'->i_ g m=Z'->cO K H h l->cO K H g k->RelV l t->RelV k p->z8 A s t p (tV h g))(L:lF d n=Z')(J:lF c m=Z')(r:bz K H d i)(q:bz K H c o)(w:cg i b)(x:cg o a)(j:Nat)(P:j<b.toArray.size)(O:j<a.toArray.size):
  EqAt A s b.toArray[j] a.toArray[j] (tV (d.getD j .dJ) (c.getD j .dJ)):=by
 have X:d.length=b.length:=r.length.trans w.length;have U:c.length=a.length:=q.length.trans x.length;have f:j<b.length:=by simpa using P
 have e:j<a.length:=by simpa using O
 have z:d[j]?=Y (d.getD j .dJ):=by rw[Kd,bC (by omega)];rfl
 have y:c[j]?=Y (c.getD j .dJ):=by rw[Kd,bC (by omega)];rfl
 obtain⟨v,T,I⟩:=r.get z;obtain⟨u,S,G⟩:=q.get y;obtain⟨C,R,F⟩:=w.get T;obtain⟨B,Q,E⟩:=x.get S;have N:b.toArray[j]=C:=by
  have:b[j]?=Y b.toArray[j]:=by simp[f]
  rw[R]at this;exact(bM this).symm
 have W:a.toArray[j]=B:=by
  have:a[j]?=Y a.toArray[j]:=by simp[e]
  rw[Q]at this;exact(bM this).symm
 rw[N,W];exact(ih _ _ _ _ _ _ (zM L z) (zM J y) I G F E).eq
theorem MP(g:nU P w H s.heap):∀(n:Nat){A:gD}(_:A.units+n<rE) (J F:D) (m:Nat) (Q O:V) (S R:ak),i_ J n=Z'->i_ F m=Z'->cO K H J Q->cO K H F O->RelV Q S->RelV O R ->
  z8 A s S R (tV J F):=by
 intro n
 induction n with
 |zero=>intro A hu J F m Q O S R C k I o G i;exact HJ g (by omega) C k I o G i
 |succ n ih=>
  intro A hu J F m Q O S R C k I o G i;have d:A.units<rE:=by omega
  have ih':=λ(m':Nat)=>λ(J F:D) (Q O:V) (S R:ak)=>ih (A:=A.in1) (by show A.units+1+n<rE;omega) J F m' Q O S R
  cases J with
  |lst p=>
   obtain⟨a,vs,rfl,X,W⟩:=cW.mp I;cases G;obtain⟨r,U,l⟩:=F2 g X;cases F with
   |lst h=>
    obtain⟨b,us,rfl,x,z⟩:=cW.mp o;cases i;obtain⟨f,L,q⟩:=F2 g x;have B:=C;have N:=k;simp only[i_,aV,Nat.add_sub_cancel]at B N;have v:r.toArray.size=p.length:=by rw[aX];exact(W.length.trans U.length).symm
    have y:f.toArray.size=h.length:=by rw[aX];exact(z.length.trans L.length).symm
    have u:a=b->qG p h=true:=λe=>by subst e;rw[X]at x;cases x;rw[<- bz.inj p h _ _ B.2 N.2 W z];exact qc p _ B.2
    show z8 A s _ _ (qG p h);by_cases hl:p.length=h.length
    ·have E:qG p h=(cw r.toArray.size).all (λj=>tV (p.getD j .dJ) (h.getD j .dJ)):=by rw[vv,<- hl,Qp,v];simp
     have it:=En (ih' _) B.2 N.2 W z U L;exact .refs (by rw[E];exact .lists l q (by omega) d it) (by rw[E];exact .lists l q (by omega) d it) u
    ·have E:=M' hl;have Jz:(r.toArray.size != f.toArray.size)=true:=by rw[v,y];simpa using hl
     refine .refs ?_ ?_ u
     ·rw[E];exact .lists_lengths l q Jz d
     ·rw[E];exact .lists_lengths l q Jz d
   |tup h=>obtain⟨b,us,rfl,x,z⟩:=fg.mp o;cases i;obtain⟨f,L,q⟩:=FZ g x;exact⟨.list_tuple l q d,.list_tuple l q d,.list_tuple l q d⟩
   |dJ=>have e:=gI.mp o;subst e;cases i;exact⟨.list_none l d,.list_none l d,.list_none l d⟩
   |bl b=>have e:=dn.mp o;subst e;cases i;exact⟨.list_bool b l d,.list_bool b l d,.list_bool b l d⟩
   |int b=>have e:=bX.mp o;subst e;obtain⟨t,rfl⟩:=i;exact⟨.list_int b t l d,.list_int b t l d,.list_int b t l d⟩
   |str b=>have e:=iG.mp o;subst e;obtain⟨t,rfl⟩:=i;exact⟨.list_str b t l d,.list_str b t l d,.list_str b t l d⟩
   |_=>simp[i_]at k
  |tup p=>
   obtain⟨a,vs,rfl,X,W⟩:=fg.mp I;cases G;obtain⟨r,U,l⟩:=FZ g X;cases F with
   |tup h=>
    obtain⟨b,us,rfl,x,z⟩:=fg.mp o;cases i;obtain⟨f,L,q⟩:=FZ g x;have B:=C;have N:=k;simp only[i_,aV,Nat.add_sub_cancel]at B N;have v:r.toArray.size=p.length:=by rw[aX];exact(W.length.trans U.length).symm
    have y:f.toArray.size=h.length:=by rw[aX];exact(z.length.trans L.length).symm
    have u:a=b->qG p h=true:=λe=>by subst e;rw[X]at x;cases x;rw[<- bz.inj p h _ _ B.2 N.2 W z];exact qc p _ B.2
    show z8 A s _ _ (qG p h);have E:qG p h=((cw (min r.toArray.size f.toArray.size)).all (λj=>tV (p.getD j .dJ) (h.getD j .dJ))&&r.toArray.size==f.toArray.size):=by rw[vv,v,y]
    have it:=En (ih' _) B.2 N.2 W z U L;exact .refs (by rw[E];exact .tuples l q d it) (by rw[E];exact .tuples l q d it) u
   |lst h=>obtain⟨b,us,rfl,x,z⟩:=cW.mp o;cases i;obtain⟨f,L,q⟩:=F2 g x;exact⟨.tuple_list l q d,.tuple_list l q d,.tuple_list l q d⟩
   |dJ=>have e:=gI.mp o;subst e;cases i;exact⟨.tuple_none l d,.tuple_none l d,.tuple_none l d⟩
   |bl b=>have e:=dn.mp o;subst e;cases i;exact⟨.tuple_bool b l d,.tuple_bool b l d,.tuple_bool b l d⟩
   |int b=>have e:=bX.mp o;subst e;obtain⟨t,rfl⟩:=i;exact⟨.tuple_int b t l d,.tuple_int b t l d,.tuple_int b t l d⟩
   |str b=>have e:=iG.mp o;subst e;obtain⟨t,rfl⟩:=i;exact⟨.tuple_str b t l d,.tuple_str b t l d,.tuple_str b t l d⟩
   |_=>simp[i_]at k
  |mD p=>simp[i_]at C|ins c ks T=>simp[i_]at C|iW ks T=>simp[i_]at C|obj=>simp[i_]at C|dN=>simp[i_]at C|_=>exact HJ g d rfl k I o G i
end
def eP(x y:D):Option D:=if (i_ x 180&&i_ y 180)=Z' then Y (.bl (tV x y)) else M
def Au(x y:D):Option D:=if (i_ x 180&&i_ y 180)=Z' then Y (.bl (!tV x y)) else M
section
variable {X:Cx}
theorem L6(h:eM k X.A):AF X (gr .Eq) eP:=by
 intro e s n H x y v u Q I g f ⟨G,m,l,d,c,j,i,a,q⟩;unfold eP at a;split at a
 ·rename_i b;rw[aV]at b;cases a;have o:=h.un;exact(MP (K:=X.K) I.eW 180 (A:=X.A) (by omega) m l 180 x y v u b.1 b.2 (j.all c) (i.all c) g f).rc _ _ _ _ ⟨.bl _,H,I,rfl,q _ G H (.refl c) (dn.mpr rfl)⟩
 ·cases a
theorem L5(h:eM k X.A):AF X (gr .NotEq) Au:=by
 intro e s n H x y v u Q I g f ⟨G,m,l,d,c,j,i,a,q⟩;unfold Au at a;split at a
 ·rename_i b;rw[aV]at b;cases a;have o:=h.un;exact(MP (K:=X.K) I.eW 180 (A:=X.A) (by omega) m l 180 x y v u b.1 b.2 (j.all c) (i.all c) g f).ne _ _ _ _ ⟨.bl _,H,I,rfl,q _ G H (.refl c) (dn.mpr rfl)⟩
 ·cases a
def Qh:D->D->Option D
 |.int i,.int j=>Y (.bl (decide (i<j)))|_,_=>M
def tR:D->D->Option D
 |.int i,.int j=>Y (.bl (decide (j<i)))|_,_=>M
def oGe:D->D->Option D
 |.int i,.int j=>Y (.bl (decide (j<=i)))|_,_=>M
theorem D3{f:ak->ak->Sem ak}{g':Int->Int->D}(h:pG X f (rI C g))(a:∀x y d,o x y=Y d->∃i j,x=.int i/\y=.int j/\C i j/\d=g' i j)(b:∀i j G,cO X.K G (g' i j) (g i j)):AF X f o:=
 pG.imp h <|by rintro x y H Q ⟨G,p,n,d,l,k,e,m,q⟩;obtain⟨i,j,rfl,rfl,c,rfl⟩:=a _ _ _ m;exact⟨i,j,k.int,e.int,c,q _ G H (.refl l) (b i j G)⟩
theorem LP{f:ak->ak->Sem ak}(h:pG X f (Ov g)):pG X f (rI (λ_ _=>True) g):=pG.imp h <|by rintro x y H Q ⟨i,j,b,a,_,q⟩;exact⟨i,j,b,a,q⟩
theorem aag:AF X (gr .Lt) Qh:=D3 (LP Vz) (g':=λi j =>.bl (decide (i<j))) (λx y d h=>by unfold Qh at h;split at h<;>cases h;exact⟨_,_,rfl,rfl,trivial,rfl⟩) λi j G=>dn.mpr rfl
theorem aai:AF X (gr .Gt) tR:=D3 (LP VA) (g':=λi j =>.bl (decide (j<i))) (λx y d h=>by unfold tR at h;split at h<;>cases h;exact⟨_,_,rfl,rfl,trivial,rfl⟩) λi j G=>dn.mpr rfl
def oU:D->D->Option D
 |.int i,.int j=>Y (.int (i-j))|_,_=>M
theorem Sb:AF X (dX .Sub) oU:=D3 (LP RZ) (g':=λi j =>.int (i-j)) (λx y d h=>by unfold oU at h;split at h<;>cases h;exact⟨_,_,rfl,rfl,trivial,rfl⟩) λi j G=>bX.mpr rfl
def iw:D->D->Option D
 |.int i,.int j=>if 0<j then Y (.int (i%j)) else M
 |_,_=>M
theorem Yx:AF X (dX .Mod) iw:=D3 R6 (g':=λi j =>.int (i%j)) (λx y d h=>by
 unfold iw at h;split at h<;>try (cases h;done)
 split at h<;>cases h;exact⟨_,_,rfl,rfl,by assumption,rfl⟩) λi j G=>bX.mpr rfl
def kg:D->D->Option D
 |.int i,.int j=>if 0<j/\j<2 ^ 64 then Y (.int (i/j)) else M
 |_,_=>M
theorem LQ:pG X (dX .FloorDiv) (rI (λ_ j=>0<j/\j<2 ^ 64) λi j =>.int (i/j)):=VB λi j _ _ _ _ _ a q=>by
 have d:(0:Int)<j:=a.1;have c:j<2 ^ 64:=a.2;have b:j.natAbs<2 ^ 64:=by omega
 refine floordiv_int (by omega) (by rw[Ke i (by omega)];exact q) (.inl (PyProof.noPylong_of_log2 ?_));have:=(Nat.log2_lt (n:=j.natAbs) (k:=64) (by omega)).mpr b;omega
theorem W_:AF X (dX .FloorDiv) kg:=D3 LQ (g':=λi j =>.int (i/j)) (λx y d h=>by
 unfold kg at h;split at h<;>try (cases h;done)
 split at h<;>cases h;exact⟨_,_,rfl,rfl,by assumption,rfl⟩) λi j G=>bX.mpr rfl
noncomputable def dU:Nat:=1000000
theorem h_:dU<=bb:=by rw[il];decide
def gJ:D->D->Option D
 |.int i,.int j=>Y (.int (i+j))|.str x,.str y=>if x.length+y.length<=dU then Y (.str (x++y)) else M
 |.lst xs,.lst a=>if xs.length+a.length<=dU then Y (.lst (xs++a)) else M
 |_,_=>M
theorem Yy:AF X (dX .Add) gJ:=by
 refine pG.imp (R8.or (FU.or LR)) ?_;rintro x y H Q ⟨G,u,t,d,e,h,g,c,q⟩;unfold gJ at c;split at c<;>try (cases c;done)
 ·cases c;exact .inl ⟨_,_,h.int,g.int,q _ G H (.refl e) (bX.mpr rfl)⟩
 ·split at c
  ·cases c;rename_i f;exact .inr (.inl ⟨_,_,h.str,g.str,bK f h_,q _ G H (.refl e) (iG.mpr rfl)⟩)
  ·cases c
 ·split at c
  ·cases c;rename_i f;obtain⟨a,l,s,o,j⟩:=h.lst e;obtain⟨b,m,r,n,i⟩:=g.lst e;refine .inr (.inr ⟨a,b,l,m,s,r,o,n,?_,λp k=>q _ _ _ (f_.alloc (p:=p) e k) ?_⟩)
   ·rw[<- j.length,<- i.length];exact bK f h_
   ·exact cW.mpr ⟨p,_,rfl,br,bz.mono (.alloc (e.free k)) _ (j.append i)⟩
  ·cases c
instance:DecidablePred λp:Int×Int=>ND p.1 p.2:=λp=>by unfold ND;infer_instance
def ri:D->D->Option D
 |.int i,.int j=>if (-(2 ^ 64)<i/\i<2 ^ 64)∨(-(2 ^ 64)<j/\j<2 ^ 64) then Y (.int (i*j)) else M
 |.lst a,.int k=>if (-(2 ^ 63)<=k/\k<2 ^ 63)/\a.length*k.toNat<=dU then Y (.lst (bo k.toNat a).flatten) else M
 |_,_=>M
theorem Yw:AF X (dX .Mult) ri:=by
 refine pG.imp (R5.or R4) ?_;rintro x y H Q ⟨G,o,n,d,c,i,h,b,q⟩;unfold ri at b;split at b<;>try (cases b;done)
 ·split at b
  ·cases b;rename_i l;exact .inl ⟨_,_,i.int,h.int,l,q _ G H (.refl c) (bX.mpr rfl)⟩
  ·cases b
 ·split at b
  ·cases b;rename_i e;obtain⟨a,j,m,k,f⟩:=i.lst c;refine .inr ⟨a,_,j,m,h.int,k,e.1.1,e.1.2,?_,λp g=>q _ _ _ (f_.alloc (p:=p) c g) ?_⟩
   ·rw[<- f.length];exact bK e.2 h_
   ·exact cW.mpr ⟨p,_,rfl,br,bz.mono (.alloc (c.free g)) _ (f.rep _)⟩
  ·cases b
def e1(o:D->Option D)(a:DF):DF:=λρ=>(a ρ).bind o
theorem HM(h:e1 o a b=Y d):∃x,a b=Y x/\o x=Y d:=by
 unfold e1 at h;obtain⟨x,c,h⟩:=aa.1 h;rw[c];exact⟨x,rfl,h⟩
def Jh:D->Option D
 |.int i=>Y (.int (-i))|_=>M
theorem Zx{b:List Nat}{f:DF}{c:Pos}(j:PE X a (tQ X.K b f)):PE X (.UnaryOp .USub a c) (tP X.K b (e1 Jh f)):=(QK Rg j).imp <|by
 rintro r H Q ⟨G,h,d,l,e,n,k⟩;obtain⟨x,m,g⟩:=HM n;cases x<;>simp[Jh]at g
 subst g;exact⟨G,h,_,l,e,m,λv p o q i=>⟨_,i.int,k _ p o q (bX.mpr rfl)⟩⟩
end
inductive DO where
 |nx (ρ:cy)|rt (d:D)|ro (ds:List D)|bk (ρ:cy)|ct (ρ:cy)
 |rm (d:D) (ρ:cy)
 |rf (i:Nat) (ρ:cy)
 |ex (c:aG) (n:Int)
abbrev DG:=cy->Option DO
structure Bs where
 g:Hp
 h:Hp
 pin:List (Nat×az)
 fly:aG->Int->Prop
def nI(K:aT)(G H:Hp):D->az->List az->Prop
 |.obj s t,a,S=>cB K G H s t (.ref a) S|.dN _ _,_,S=>S=[]|d,a,S=>(∃o,H a=Y o/\jk K G d o)/\S=[a]
def vp:D->Bool
 |.lst _=>Z'|.ins _ _ _=>Z'|.iW _ _=>Z'|_=>Z_
theorem jk.vp{K:aT}(h:jk K G d o):vp d=true:=by
 cases d<;>first|rfl|exact h.elim
theorem nI.cell{K:aT}{d:D}{a:az}{S:List az}(b:vp d=Z'):nI K G H d a S↔(∃o,H a=Y o/\jk K G d o)/\S=[a]:=by
 cases d<;>first|exact Iff.rfl|cases b
theorem nI.here{K:aT}{a:az}{S:List az}(h:nI K G H d a S):∀b∈S,∃o,H b=Y o:=λb c=>by
 cases d with
 |obj s t=>obtain⟨o,h,_⟩:=cB.here (show cB K G H s t (.ref a) S from h) b c;exact⟨o,h⟩
 |dN r p=>rw[show S=[] from h]at c;cases c
 |_=>obtain⟨⟨o,e,_⟩,rfl⟩:=h;simp at c;subst c;exact⟨o,e⟩
theorem nI.mono{K:aT}{d:D}{S:List az}(g:bD G G')(k:∀b∈S,∀o,H b=Y o->H' b=Y o)(h:nI K G H d a S):nI K G' H' d a S:=by
 cases d with
 |obj s t=>exact cB.mono g k h|dN r p=>exact h|_=>obtain⟨⟨o,e,c⟩,rfl⟩:=h;exact⟨⟨o,k a (by simp) o e,jk.mono g c⟩,rfl⟩
structure qg(K:aT)(B:Bs)(own:List Nat)(G H:Hp)(σ:St)(ρ:cy)(F:Nat->List az):Prop where
 it:∀(i:Nat) (d:D),i∈own->ρ[i]?=some (some d)->∃a,σ[i]?=some (some (.ref a))/\nI K G H d a (F i)
 ok:∀(i:Nat) (d:D),i∈own->ρ[i]?=some (some d)->(F i).Nodup/\∀b∈F i,G b=none/\B.2 b=none
 ap:∀(i j:Nat) (d c:D),i∈own->j∈own->ρ[i]?=some (some d)->ρ[j]?=some (some c)->i≠j->∀b∈F i,b∉F j
structure SR(K:aT)(B:Bs)(own:List Nat)(G H:Hp)(σ:St)(ρ:cy):Prop where
 gh:bD G H
 g0:bD B.1 G
 h0:bD B.2 H
 fr:∀b o,G b=some o->B.1 b=some o∨B.2 b=none
 env:∀(i:Nat) (d:D),i∉own->ρ[i]?=some (some d)->∃v,σ[i]?=some (some v)/\cO K G d v
 ow:∃F,qg K B own G H σ ρ F
 len:σ.length=ρ.length
 pin:∀(i:Nat) (a:az),(i,a)∈B.3->i∈own/\σ[i]?=some (some (.ref a))
 dN:∀(j r:Nat) (p:zW),j∈own->Aw j∈own->ρ[j]?=some (some (.dN r p))->EU own H σ ρ j r p
section
variable {K:aT}
theorem SR.mX(S:SR K B own G H C A):f_ B.1 B.2 G H:=⟨S.h0,S.g0,S.gh,S.fr⟩
theorem SR.LL(S:SR K B own G H C A)(b:i∈own)(e:A[i]?=Y (Y d))(c:vp d=Z'):∃a o,C[i]?=Y (Y (.ref a))/\H a=Y o/\jk K G d o/\G a=M/\B.2 a=none:=by
 obtain⟨F,W⟩:=S.ow;obtain⟨a,n,m⟩:=W.it i d b e;obtain⟨⟨o,l,k⟩,j⟩:=(nI.cell c).mp m;obtain⟨_,h⟩:=W.ok i d b e;obtain⟨g,f⟩:=h a (by rw[j];simp);exact⟨a,o,n,l,k,g,f⟩
theorem SR.ji(S:SR K B own G H C A):kJ K own G H C A:=⟨S.len,λi d e=>by
 by_cases j:i∈own
 ·obtain⟨F,W⟩:=S.ow;obtain⟨a,q,f⟩:=W.it i d j e;refine⟨_,q,?_⟩;rw[if_pos j];obtain⟨_,m⟩:=W.ok i d j e;cases d with
  |obj s t=>
   have f:cB K G H s t (.ref a) (F i):=f;generalize F i=u at f m;cases f with
   |leaf r=>exact .inl (qv.mpr r)|lst e t=>exact .inr ⟨a,_,rfl,e,_,.lst e t,λb k=>(m b k).1⟩
   |ins n e l t=>exact .inr ⟨a,_,rfl,e,_,.ins n e l t,λb k=>(m b k).1⟩
   |iW e l t=>exact .inr ⟨a,_,rfl,e,_,.iW e l t,λb k=>(m b k).1⟩
  |dN r p=>exact .inl (sL.mpr ⟨a,rfl⟩)|lst=>obtain⟨⟨o,g,c⟩,h⟩:=f;exact .inr ⟨a,o,rfl,g,c⟩
  |ins=>obtain⟨⟨o,g,c⟩,h⟩:=f;exact .inr ⟨a,o,rfl,g,c⟩
  |iW=>obtain⟨⟨o,g,c⟩,h⟩:=f;exact .inr ⟨a,o,rfl,g,c⟩
  |_=>obtain⟨⟨o,g,c⟩,h⟩:=f;exact c.elim
 ·obtain⟨v,q,f⟩:=S.env i d j e;exact⟨v,q,by rw[if_neg j];exact f⟩,S.dN⟩
theorem gH{l:List (Option b)}(h:(l.set i (Y x))[j]?=Y (Y y)):(i=j/\y=x/\i<l.length)∨(i≠j/\l[j]?=Y (Y y)):=by
 by_cases e:i=j
 ·subst e;by_cases a:i<l.length
  ·rw[bj a]at h;cases h;exact .inl ⟨rfl,rfl,a⟩
  ·rw[ia (by simpa using a)]at h;cases h
 ·rw[aj e]at h;exact .inr ⟨e,h⟩
theorem qN{l:List (Option a)}(h:i<l.length):(l.set i (Y x))[i]?=Y (Y x):=by rw[bj h]
theorem qg.ext{F:Nat->List az}(W:qg K B own G H C A F)(E:f_ G H G' H'):qg K B own G' H' C A F:=by
 refine⟨λi d c e =>?_,λi d c e =>?_,W.ap⟩
 ·obtain⟨a,h,g⟩:=W.it i d c e;exact⟨a,h,g.mono E.gg λb _ o=>E.hh b o⟩
 ·obtain⟨a,h,g⟩:=W.it i d c e;obtain⟨n,k⟩:=W.ok i d c e;refine⟨n,λb f=>⟨?_,(k b f).2⟩⟩;obtain⟨o,j⟩:=g.here b f;rcases q:G' b with _|u
  ·rfl
  rcases E.fr b u q with z|z
  ·rw[(k b f).1]at z;cases z
  ·rw[j]at z;cases z
theorem SR.ext(S:SR K B own G H C A)(E:f_ G H G' H'):SR K B own G' H' C A:=by
 refine⟨E.gh,S.g0.trans E.gg,S.h0.trans E.hh,λb o e =>?_,λi d a e =>?_,?_,S.len,S.pin,λj r p f c e=>(S.dN j r p f c e).ext E.hh⟩
 ·rcases E.fr b o e with q|q
  ·exact S.fr b o q
  ·exact .inr (S.h0.free q)
 ·obtain⟨v,h,g⟩:=S.env i d a e;exact⟨v,h,cO.mono E.gg d g⟩
 ·obtain⟨F,W⟩:=S.ow;exact⟨F,W.ext E⟩
theorem SR.xu{v:V}(S:SR K B own G H C A)(P:i∉own)(r:cO K G d v):SR K B own G H (C.set i (Y v)) (A.set i (Y d)):=by
 have f:∀j,j∈own->i≠j:=λj b e=>P (e ▸ b)
 refine⟨S.gh,S.g0,S.h0,S.fr,λj c b e =>?_,?_,by simp[S.len],λj a h=>⟨(S.pin j a h).1,by rw[aj (f j (S.pin j a h).1)];exact(S.pin j a h).2⟩,λj k p q R e =>?_⟩
 ·rcases gH e with⟨rfl,rfl,D⟩|⟨n,e⟩
  ·exact⟨v,qN (by rw[S.len];exact D),r⟩
  ·obtain⟨u,l,g⟩:=S.env j c b e;exact⟨u,by rw[aj n];exact l,g⟩
 ·obtain⟨F,W⟩:=S.ow;have m:∀j c,j∈own->(A.set i (Y d))[j]?=Y (Y c)->A[j]?=Y (Y c):=λj c b e=>by rw[aj (f j b)]at e;exact e
  refine⟨F,λj c b e =>?_,λj c b e=>W.ok j c b (m j c b e),λj k c t b s U T=>W.ap j k c t b s (m j c b U) (m k t s T)⟩;obtain⟨a,l,g⟩:=W.it j c b (m j c b e);exact⟨a,by rw[aj (f j b)];exact l,g⟩
 ·rw[aj (f j q)]at e;obtain⟨o,Q,z,y,E,w,x,l,g,e3,X⟩:=S.dN j k p q R e;exact⟨o,Q,z,y,E,w,x,by rw[aj (f k o)];exact l,by rw[aj (f k o)];exact g,by rw[aj (f j q)];exact e3,X⟩
theorem SR.Gv{i:Nat}{a:az}{d':D}{S' F0:List az}{F:Nat->List az}(S:SR K B own G H C A)(W:qg K B own G H C A F)(hi:i∈own)(h0:∀b∈F0,b∈F i/\∃d,A[i]?=Y (Y d))(gg:bD G G')(gh:bD G' H')(fr:∀b o,G' b=Y o->G b=Y o∨H b=M∨b∈F0)(v:∀b o,b∉F0->H b=Y o->H' b=Y o)(nw:nI K G' H' d' a S')(nd:S'.Nodup)(nf:∀b∈S',G' b=M/\(b∈F0∨H b=M∨(B.2 b=M/\∀k c,k∈own->A[k]?=Y (Y c)->k≠i->b∉F k)))(YU:∀b,(i,b)∈B.3->b=a)(hna:∀r p,d' ≠ .dN r p)(ha:∀j p,j∈own->Aw j∈own->j≠i->A[j]?=Y (Y (.dN i p))->∃s t s' v',d'=.obj s t/\C[j]?=Y (Y v')/\gB H' p (.ref a)=Y v'/\mh p s=Y s'):
  SR K B own G' H' (C.set i (Y (.ref a))) (A.set i (Y d'))/\qg K B own G' H' (C.set i (Y (.ref a))) (A.set i (Y d')) (λj=>if j=i then S' else F j):=by
 have b0:∀b∈F0,G b=M/\B.2 b=none:=λb g=>by obtain⟨X,d,U⟩:=h0 b g;exact(W.ok i d hi U).2 b X
 have P:∀j c,j∈own->A[j]?=Y (Y c)->i≠j->∀b∈F j,b∉F0:=λj c l ej f b g S8=>by obtain⟨X,d,U⟩:=h0 b S8;exact W.ap i j d c hi l U ej f b X g
 have W':qg K B own G' H' (C.set i (Y (.ref a))) (A.set i (Y d')) (λj=>if j=i then S' else F j):=by
  refine⟨λj c l e =>?_,λj c l e =>?_,λj k c c' l hk ej ek Xh =>?_⟩
  ·rcases gH e with⟨rfl,rfl,Q⟩|⟨f,e⟩
   ·exact⟨a,qN (by rw[S.len];exact Q),by simpa using nw⟩
   ·obtain⟨b,R,I⟩:=W.it j c l e;refine⟨b,by rw[aj f];exact R,?_⟩;simp only[if_neg (bG f)];exact I.mono gg λx hx o=>v x o (P j c l e f x hx)
  ·rcases gH e with⟨rfl,rfl,Q⟩|⟨f,e⟩
   ·simp only[if_true];refine⟨nd,λb g=>⟨(nf b g).1,?_⟩⟩;rcases(nf b g).2 with z|z|z
    ·exact(b0 b z).2
    ·exact S.h0.free z
    ·exact z.1
   ·simp only[if_neg (bG f)];obtain⟨n,k⟩:=W.ok j c l e;obtain⟨x,R,I⟩:=W.it j c l e;refine⟨n,λb g=>⟨?_,(k b g).2⟩⟩;rcases q:G' b with _|u
    ·rfl
    rcases fr b u q with z|z|z
    ·rw[(k b g).1]at z;cases z
    ·obtain⟨o,ho⟩:=I.here b g;rw[ho]at z;cases z
    ·exact absurd z (P j c l e f b g)
  ·have y:∀m c,m∈own->A[m]?=Y (Y c)->i≠m->∀b∈S',b∉F m:=λm c hm em f b g T=>by
    rcases(nf b g).2 with z|z|z
    ·exact P m c hm em f b T z
    ·obtain⟨x,R,I⟩:=W.it m c hm em;obtain⟨o,ho⟩:=I.here b T;rw[ho]at z;cases z
    ·exact z.2 m c hm em (bG f) T
   rcases gH ej with⟨rfl,rfl,Q⟩|⟨f,ej1⟩
   ·rcases gH ek with⟨rfl,_,_⟩|⟨f,Zi⟩
    ·exact absurd rfl Xh
    ·simp only[if_true,if_neg (bG f)];exact y k c' hk Zi f
   ·rcases gH ek with⟨rfl,rfl,Q⟩|⟨YY,Zi⟩
    ·simp only[if_true,if_neg (bG f)];exact λb g V5=>y j c l ej1 f b V5 g
    ·simp only[if_neg (bG f),if_neg (bG YY)];exact W.ap j k c c' l hk ej1 Zi Xh
 refine⟨⟨gh,S.g0.trans gg,λb o e =>?_,λb o e =>?_,λj c l e =>?_,⟨_,W'⟩,by simp[S.len],λj b h =>?_,λj r p X U e =>?_⟩,W'⟩
 ·refine v b o (λz =>?_) (S.h0 b o e);rw[(b0 b z).2]at e;cases e
 ·rcases fr b o e with z|z|z
  ·exact S.fr b o z
  ·exact .inr (S.h0.free z)
  ·exact .inr (b0 b z).2
 ·have f:i≠j:=λz=>l (z ▸ hi)
  rw[aj f]at e;obtain⟨u,R,I⟩:=S.env j c l e;exact⟨u,by rw[aj f];exact R,cO.mono gg c I⟩
 ·obtain⟨p1,p2⟩:=S.pin j b h;refine⟨p1,?_⟩;by_cases UC:i=j
  ·subst UC;rw[YU b h,bj (au.mp p2).1]
  ·rw[aj UC];exact p2
 ·rcases gH e with⟨rfl,z,Q⟩|⟨f,e'⟩
  ·exact absurd z.symm (hna r p)
  ·clear e;have e:=e';clear e';by_cases E:r=i
   ·subst E;obtain⟨s,t,s',v',f1,f2,f3,f4⟩:=ha j p X U (bG f) e;obtain⟨g1,g0,s0,t0,s1,w,v1,g2,g3,g4,g5,g6,g7⟩:=S.dN j r p X U e;have Q:r<A.length:=(au.mp g2).1;refine⟨hi,g0,s,t,s',.ref a,v',?_,qN (by rw[S.len];exact Q),?_,f3,f4,g7⟩
    ·rw[qN Q,f1]
    ·rw[aj f];exact f2
   ·obtain⟨g1,g0,s0,t0,s1,w,v1,g2,g3,g4,g5,g6⟩:=S.dN j r p X U e;obtain⟨x,R,I⟩:=W.it r _ g1 g2;rw[g3]at R;cases R;refine⟨g1,g0,s0,t0,s1,.ref x,v1,by rw[aj (bG E)];exact g2,by rw[aj (bG E)];exact g3,by rw[aj f];exact g4,?_,g6⟩;exact cB.Cf (show cB K G H s0 t0 (.ref x) (F r) from I) g6.1 (λb g o=>v b o (P r _ g1 g2 (bG E) b g)) g5
theorem SR.chg{i:Nat}{a:az}{d':D}{S' F0:List az}{F:Nat->List az}(S:SR K B own G H C A)(W:qg K B own G H C A F)(q:i∈own)(v:∀b∈F0,b∈F i/\∃d,A[i]?=Y (Y d))(x:bD G G')(w:bD G' H')(y:∀b o,G' b=Y o->G b=Y o∨H b=M∨b∈F0)(c:∀b o,b∉F0->H b=Y o->H' b=Y o)(m:nI K G' H' d' a S')(n:S'.Nodup)(h:∀b∈S',G' b=M/\(b∈F0∨H b=M))(e:∀b,(i,b)∈B.3->b=a)(f:∀r p,d' ≠ .dN r p)(u:∀j p,j∈own->Aw j∈own->j≠i->A[j]?=Y (Y (.dN i p))->∃s t l g,d'=.obj s t/\C[j]?=Y (Y g)/\gB H' p (.ref a)=Y g/\mh p s=Y l):
  SR K B own G' H' (C.set i (Y (.ref a))) (A.set i (Y d')):=
 (S.Gv W q v x w y c m n (λb k=>⟨(h b k).1,by rcases(h b k).2 with z|z;exact .inl z;exact .inr (.inl z)⟩) e f u).1
theorem SR.QO(S:SR K B own G H C A)(b:A[i]?=Y (Y d))(c:vp d=Z'):∀j p,j∈own->Aw j∈own->A[j]?=Y (Y (.dN i p))->False:=λj p g f e=>by
 obtain⟨n,o,m,k,l,w,h,a,_⟩:=S.dN j i p g f e;rw[b]at a;cases a;cases c
theorem CN(a:vp d=Z'):∀r p,d ≠ .dN r p:=λr p e=>by subst e;cases a
theorem SR.setC(S:SR K B own G H C A)(m:i∈own)(E:f_ G H G' H')(k:H p=M)(t:G' p=M)(g:H' p=Y o)(r:jk K G' d o)(c:∀a,(i,a)∉B.3)(l:Ae i∉own):SR K B own G' H' (C.set i (Y (.ref p))) (A.set i (Y d)):=by
 obtain⟨F,W⟩:=S.ow;exact S.chg (F0:=[]) (S':=[p]) W m (λb f=>by cases f) E.gg E.gh (λb o e=>by rcases E.fr b o e with z|z;exact .inl z;exact .inr (.inl z)) (λb o _ e=>E.hh b o e)
  ((nI.cell r.vp).mpr ⟨⟨o,g,r⟩,rfl⟩) (by simp) (λb f=>by simp at f;subst f;exact⟨t,.inr k⟩) (λb h=>absurd h (c b)) (CN r.vp) (λj q s n _ e=>(l (S.dN j i q s n e).2.1).elim)
theorem SR.VH{f:HO}(S:SR K B own G H C A)(m:i∈own)(g:A[i]?=Y (Y d))(l:C[i]?=Y (Y (.ref a)))(r:jk K G p f)(s:vp d=true:=by rfl):SR K B own G (dg H a f) C (A.set i (Y p)):=by
 obtain⟨F,W⟩:=S.ow;obtain⟨D,v,y⟩:=W.it i d m g;rw[l]at v;cases v;obtain⟨⟨o,E,z⟩,u⟩:=(nI.cell s).mp y;obtain⟨n,k⟩:=W.ok i d m g;rw[u]at k;have t:G a=none:=(k a (by simp)).1;have:=S.chg (i:=i) (a:=a) (d':=p) (F0:=[a]) (S':=[a]) (G':=G) (H':=dg H a f) W m (λb c=>⟨by rw[u];exact c,d,g⟩) (bD.refl _) (λb o e=>by rw[aZ (bI e t)];exact S.gh b o e) (λb o e =>.inl e)
  (λb o c e=>by rw[aZ (by simpa using c)];exact e) ((nI.cell r.vp).mpr ⟨⟨f,br,r⟩,rfl⟩) (by simp) (λb c=>by simp at c;subst c;exact⟨t,.inl (by simp)⟩)
  (λb h=>by have:=(S.pin i b h).2;rw[l]at this;cases this;rfl) (CN r.vp) (λj q x w _ e=>(S.QO g s j q x w e).elim)
 rwa [gf l]at this
theorem SR.Om{p:az}(S:SR K B own G H C A)(h:i∈own)(E:f_ G H G' H')(f:H p=M)(j:G' p=M)(e:H' p=Y (.lst c))(r:bz K G' d c)(b:∀a,(i,a)∉B.3)(g:Ae i∉own):SR K B own G' H' (C.set i (Y (.ref p))) (A.set i (Y (.lst d))):=
 S.setC h E f j e ⟨c,rfl,r⟩ b g
theorem SR.mut(S:SR K B own G H C A)(e:i∈own)(f:A[i]?=Y (Y (.lst g)))(d:C[i]?=Y (Y (.ref a)))(r:bz K G c b):SR K B own G (dg H a (.lst b)) C (A.set i (Y (.lst c))):=
 S.VH e f d ⟨b,rfl,r⟩
theorem SR.freeze{own':List Nat}(S:SR K B own G H C A)(f:∀j∈own',j∈own)(i:Nat)(Q:∀j∈own,j∈own'∨j=i)(hn:i∉own')(P:i∈own)(U:∀a,(i,a)∉B.3)(T:Ae i∉own)(QU:i<1000000):∃G',SR K B own' G' H C A:=by
 obtain⟨F,W⟩:=S.ow;have I:∀(j:Nat) (a:az),(j,a)∈B.3->j∈own'/\C[j]?=Y (Y (.ref a)):=λj a h=>⟨by
  rcases Q j (S.pin j a h).1 with z|z
  ·exact z
  ·subst z;exact absurd h (U a),(S.pin j a h).2⟩
 by_cases R:∃d,A[i]?=Y (Y d)
 ·obtain⟨d,R⟩:=R;obtain⟨a,e1,E⟩:=W.it i d P R;obtain⟨nd,k⟩:=W.ok i d P R;have n0:∀b∈F i,G b=none:=λb D=>(k b D).1
  have l:bD G (jS G H (F i)):=nQ n0;have rep:cO K (jS G H (F i)) d (.ref a):=by
   cases d with
   |obj s t=>exact qv.mpr (cB.frozen n0 (λb D=>D) (show cB K G H s t (.ref a) (F i) from E))
   |dN r p=>exact sL.mpr ⟨a,rfl⟩|dJ=>obtain⟨⟨o,q,g⟩,x⟩:=E;exact g.elim
   |bl=>obtain⟨⟨o,q,g⟩,x⟩:=E;exact g.elim
   |int=>obtain⟨⟨o,q,g⟩,x⟩:=E;exact g.elim
   |str=>obtain⟨⟨o,q,g⟩,x⟩:=E;exact g.elim
   |tup=>obtain⟨⟨o,q,g⟩,x⟩:=E;exact g.elim
   |mD=>obtain⟨⟨o,q,g⟩,x⟩:=E;exact g.elim
   |_=>obtain⟨⟨o,q,g⟩,x⟩:=E;exact(jk.mono l g).rep (by rw[qx (by rw[x];simp)];exact q)
  refine⟨jS G H (F i),me S.gh,S.g0.trans l,S.h0,λb o e =>?_,λj c n e =>?_,⟨F,λj c n e =>?_,λj c n e =>?_,λj m c c' n T=>W.ap j m c c' (f j n) (f m T)⟩,S.len,I,λj r p h1 h2 e =>?_⟩
  ·by_cases D:b∈F i
   ·exact .inr (k b D).2
   ·rw[mF D]at e;exact S.fr _ _ e
  ·by_cases v:j∈own
   ·rcases Q j v with z|z
    ·exact absurd z n
    ·subst z;rw[R]at e;cases e;exact⟨_,e1,rep⟩
   ·obtain⟨u,q,g⟩:=S.env j c v e;exact⟨u,q,cO.mono l c g⟩
  ·obtain⟨b,q,g⟩:=W.it j c (f j n) e;exact⟨b,q,g.mono l λ_ _ _ z=>z⟩
  ·obtain⟨nd',k'⟩:=W.ok j c (f j n) e;refine⟨nd',λb D=>⟨?_,(k' b D).2⟩⟩;have Jz:i≠j:=λz=>hn (z ▸ n)
   rw[mF (λz=>W.ap i j d c P (f j n) R e Jz b z D)];exact(k' b D).1
  ·obtain⟨g1,X,s0,t0,s1,w,v1,g2,g3⟩:=S.dN j r p (f j h1) (f _ h2) e;rcases Q r g1 with z|z
   ·rcases Q _ X with y|y
    ·exact⟨z,y,s0,t0,s1,w,v1,g2,g3⟩
    ·unfold Ae at y;omega
   ·subst z;exact absurd X T
 ·refine⟨G,S.gh,S.g0,S.h0,S.fr,λj c n e =>?_,⟨F,λj c n e=>W.it j c (f j n) e,λj c n e=>W.ok j c (f j n) e,λj m c c' n T=>W.ap j m c c' (f j n) (f m T)⟩,S.len,I,λj r p h1 h2 e =>?_⟩
  ·by_cases v:j∈own
   ·rcases Q j v with z|z
    ·exact absurd z n
    ·subst z;exact absurd ⟨c,e⟩ R
   ·exact S.env j c v e
  ·obtain⟨g1,X,s0,t0,s1,w,v1,g2,g3⟩:=S.dN j r p (f j h1) (f _ h2) e;rcases Q r g1 with z|z
   ·rcases Q _ X with y|y
    ·exact⟨z,y,s0,t0,s1,w,v1,g2,g3⟩
    ·unfold Ae at y;omega
   ·subst z;exact absurd X T
end
def WO(K:aT)(B:Bs)(I own:List Nat)(e:Ends):DO->Prop
 |.nx A=>∀C G H,SR K B own G H C A->e.nx C H|.rt d=>∀v G H,f_ B.1 B.2 G H->cO K G d v->e.rt v H|.ro g=>∀a f G H,f_ B.1 B.2 G H->B.2 a=M->G a=M->H a=Y (.lst f)->bz K G g f->e.rt (.ref a) H|.bk A=>∀C G H,SR K B I G H C A->e.bk C H|.ct A=>∀C G H,SR K B I G H C A->e.ct C H
 |.rm d A=>∀v C G H,(∃b,SR K B b G H C A)->cO K G d v->e.rt v H|.rf i A=>∀v C G H,(∃b,i∈b/\SR K B b G H C A)->C[i]?=Y (Y v)->e.rt v H|.ex c n=>B.fly c n
inductive ib (K:aT) (B:Bs) (I own a:List Nat) (g:DG) (b:Ends) (C:St) (H:Hp):Prop
 |mk G A o:SR K B own G H C A->g A=some o->WO K B I a b o->ib K B I own a g b C H
section
variable {X:Cx}
def da:DG:=λA=>Y (.nx A)
theorem nF:oP X [] (ib X.K B I own own da):=Hj.imp <|by rintro D C H ⟨G,A,o,S,a,k⟩;cases a;exact k C G H S
def ba(g h:DG):DG:=λA=>(g A).bind λo=>match o with|.nx a=>h a|o=>Y o
theorem RD{K:aT}{e:Ends}(q:ib K B I own L (ba g h) e C H):ib K B I own own1 g { e with nx:=λC H=>ib K B I own1 L h e C H } C H:=by
 obtain⟨G,A,o,S,a,k⟩:=q;unfold ba at a;obtain⟨f,l,a⟩:=aa.1 a;refine⟨G,A,f,S,l,?_⟩;cases f with
 |nx b=>exact λj G' H' m=>⟨G',b,o,m,a,k⟩
 |_=>cases a;exact k
theorem aH(b:PS X N (ib X.K B I own own1 g))(a:oP X O (ib X.K B I own1 L h)):oP X (N::O) (ib X.K B I own L (ba g h)):=(oA b a).imp λD C H q=>RD q
theorem cK(a:PS X N (ib X.K B I own own1 g)):oP X [N] (ib X.K B I own own1 g):=vf a
theorem uw{b:List qP}(i:Nat)(n:oP X b (ib X.K B I own1 L g))(d:∀j∈own1,j∈own:=by decide)(m:∀j∈own,j∈own1∨j=i:=by decide)(h:i∉own1:=by decide)(f:i∈own:=by decide)(c:∀a,(i,a)∉B.3:=by intro a;simp_all)(l:Ae i∉own:=by decide)(e:i<1000000:=by decide):oP X b (ib X.K B I own L g):=
 n.imp <|by rintro D C H ⟨G,A,o,S,p,k⟩;obtain⟨G',q⟩:=S.freeze d i m h f c l e;exact⟨G',A,o,q,p,k⟩
def dD(i:Nat)(f:DF):DG:=λA=>(f A).map λd =>.nx (A.set i (Y d))
theorem zH{i:Nat}{f:DF}(n:X.N.Nodup)(j:X.N[i]?=Y x)(c:Loc X.env.scope x)(m:PE X e (tP X.K own f))(h:i∉own:=by decide)(g:cp e (Y (.Name x a)) J.line X.env=dR false:=by rfl)(l:X.fn x=Z'∨X.env.scope.names.lookup x=Y .local:=by first|exact .inl rfl|exact .inr rfl|assumption):
  PS X (.Assign [.Name x a] e J) (ib X.K B I own own (dD i f)):=(ma n j c m g l).imp <|by
 rintro D C H ⟨G,A,o,S,b,k⟩;unfold dD at b;obtain⟨d,p,b⟩:=aq.1 b;cases b;exact⟨G,A,d,S.gh,S.ji,p,λv G' H' E r=>k _ G' H' ((S.ext E).xu h r)⟩
def kQ(i:Nat)(f:DL):DG:=λA=>(f A).map λa =>.nx (A.set i (Y (.lst a)))
theorem Xt{i:Nat}{f:DL}(u:X.N.Nodup)(q:X.N[i]?=Y x)(g:Loc X.env.scope x)(t:PE X e (tF X.K own f))(m:i∈own:=by decide)(c:∀a,(i,a)∉B.3:=by intro a;simp_all)(n:Ae i∉own:=by decide)(j:cp e (Y (.Name x b)) J.line X.env=dR false:=by rfl)(s:X.fn x=Z'∨X.env.scope.names.lookup x=Y .local:=by first|exact .inl rfl|exact .inr rfl|assumption):
  PS X (.Assign [.Name x b] e J) (ib X.K B I own own (kQ i f)):=(ma u q g t j s).imp <|by
 rintro D C H ⟨G,A,o,S,d,k⟩;unfold kQ at d;obtain⟨y,w,d⟩:=aq.1 d;cases d;exact⟨G,A,y,S.gh,S.ji,w,λp z G' H' E l v h r=>k _ G' H' (S.Om m E l v h r c n)⟩
def dF(f:DF):DG:=λA=>(f A).map .rt
theorem oI{f:DF}(b:PE X e (tP X.K own f)):PS X (.Return (Y e) J) (ib X.K B I own own1 (dF f)):=(qw b).imp <|by
 rintro D C H ⟨G,A,o,S,a,k⟩;unfold dF at a;obtain⟨d,c,a⟩:=aq.1 a;cases a;exact⟨G,A,d,S.gh,S.ji,c,λv G' H' E r=>k v G' H' (S.mX.trans E) r⟩
def vd(f:DL):DG:=λA=>(f A).map .ro
theorem HQ{f:DL}(h:PE X e (tF X.K own f)):PS X (.Return (Y e) J) (ib X.K B I own own1 (vd f)):=(qw h).imp <|by
 rintro D C H ⟨G,A,o,S,a,k⟩;unfold vd at a;obtain⟨d,j,a⟩:=aq.1 a;cases a;exact⟨G,A,d,S.gh,S.ji,j,λp b G' H' E g i c r=>k p b G' H' (S.mX.trans E) (S.h0.free g) i c r⟩
def A4(i:Nat):DG:=λA=>(eV i A).bind λd=>match d with|.lst a=>Y (.ro a)|_=>M
theorem Xw{i:Nat}(h:PE X (.Name x p) (iC i))(f:i∈own:=by decide):PS X (.Return (Y (.Name x p)) J) (ib X.K B I own own1 (A4 i)):=(qw h).imp <|by
 rintro D C H ⟨G,A,o,S,b,k⟩;unfold A4 at b;obtain⟨d,g,b⟩:=aa.1 b;cases d<;>simp only[ae]at b<;>try (cases b;done)
 obtain⟨a,q,n,m,c,l,j⟩:=S.LL f (iO g) rfl;obtain⟨e,rfl,c⟩:=c;cases b;exact⟨_,n,k a e G H S.mX j l m c⟩
def G9(i:Nat):DG:=λA=>(eV i A).map λ_ =>.rf i A
theorem Xv{i:Nat}(h:PE X (.Name x p) (iC i))(c:i∈own:=by decide):PS X (.Return (Y (.Name x p)) J) (ib X.K B I own own1 (G9 i)):=(qw h).imp <|by
 rintro D C H ⟨G,A,o,S,b,k⟩;unfold G9 at b;obtain⟨d,f,b⟩:=aq.1 b;cases b;obtain⟨F,W⟩:=S.ow;obtain⟨a,e,_⟩:=W.it i d c (iO f);exact⟨_,e,k _ C G H ⟨own,c,S⟩ e⟩
def eI(f:DT)(g h:DG):DG:=λA=>(f A).bind λb=>if b=Z' then g A else h A
theorem xc{c:Expr}{b:List qP}{f:DT}(j:PT X c (rg X.K own f))(m:oP X a (ib X.K B I own own1 g))(l:oP X b (ib X.K B I own own1 h)):PS X (.If c a b J) (ib X.K B I own own1 (eI f g h)):=(Lw j m l).imp <|by
 rintro D C H ⟨G,A,o,S,d,k⟩;unfold eI at d;obtain⟨c,n,d⟩:=aa.1 d;refine⟨G,A,c,S.gh,S.ji,n,λe p i =>?_⟩;cases c with
 |true=>exact zg ⟨e,A,o,S.ext i,d,k⟩|false=>exact xG ⟨e,A,o,S.ext i,d,k⟩
def iZ(i:Nat)(A:cy):Option (List D):=(eV i A).bind λd=>match d with|.lst a=>Y a|_=>M
theorem fx(h:iZ i A=Y a):A[i]?=Y (Y (.lst a)):=by
 unfold iZ at h;obtain⟨d,b,h⟩:=aa.1 h;have:=iO b;cases d<;>first|(cases h;exact this)|cases h
theorem SR.mG{K:aT}(S:SR K B own G H C A)(d:i∈own)(h:A[i]?=Y (Y (.lst c))):∃a b,C[i]?=Y (Y (.ref a))/\H a=Y (.lst b)/\bz K G c b/\G a=M/\B.2 a=none:=by
 obtain⟨a,k,j,g,⟨b,rfl,f⟩,e⟩:=S.LL d h rfl;exact⟨a,b,j,g,f,e⟩
def qu(i:Nat)(f:DF):DG:=λA=>(iZ i A).bind λa=>(f A).bind λd=>if a.length<dU then Y (.nx (A.set i (Y (.lst (a++[d]))))) else M
theorem Zr{i:Nat}{c b:Pos}{f:DF}(h:PE X (.Name x p) (iC i))(R:PE X e (tP X.K own f))(t:i∈own:=by decide)(m:bY (.Name x p) "append" X.env (eval (.Name x p) X.env)=eval (.Name x p) X.env:=by rfl) (n:((cv b (ao (e::[]) X.env)).all (λx=> !x.1)&&(f' b (cQ [] X.env)).all (λx=>x.1.isSome)
   && decide ((e::[]).length+([]:List nX).length+(if ([]:List nX).isEmpty then 0 else 1)<30))=true:=by rfl) (l:(c.endLine==b.line)=true:=by rfl) (z:ao (e::[]) X.env=(Z_,eval e X.env)::ao [] X.env:=by rfl) (g:(cv b (ao [] X.env)).any (·.1)=false:=by rfl) (s:cp (.Call (.Attribute (.Name x p) "append" c) [e] [] b) M J.line X.env=dR false:=by rfl) :
  PS X (.Expr (.Call (.Attribute (.Name x p) "append" c) [e] [] b) J) (ib X.K B I own own (qu i f)):=
 (sM (DV lL PySem.F.slot_list_append PySem.F.type_list_append pZ h (cJ R gA z) m n l z g) s).imp <|by
  rintro D C H ⟨G,A,o,S,j,k⟩;unfold qu at j;obtain⟨ds,U,j⟩:=aa.1 j;rw[aa]at j;obtain⟨d,w,j⟩:=j;split at j
  ·cases j;rename_i Q;have u:=fx U;obtain⟨a,P,y,e3,e4,e5,e6⟩:=S.mG t u;refine⟨_,y,.inl ⟨rfl,P,.of e3⟩,G,A,d,S.gh,S.ji,w,λv G' H' E r =>?_⟩;have L:=S.ext E;obtain⟨a',q,K,T,F,_⟩:=L.mG t u;rw[y]at K;cases K;refine⟨a,q,v,rfl,rfl,T,?_,k _ G' _ (L.mut t u y (F.append (.cons r .nil)))⟩;rw[<- F.length];exact bw Q h_
  ·cases j
theorem RP{K:aT}(S:SR K B own G H C A)(f:j∈own)(g:A[j]?=Y (Y (.lst b)))(n:b[b.length-1]?=Y d)(k:∀v H',SR K B own G H' C (A.set j (Y (.lst b.dropLast)))->cO K G d v->Q v H'):Va K "list" Vo (iC j) C H Q:=by
 obtain⟨a,e,l,i,c,p,o⟩:=S.mG f g;obtain⟨v,h,m⟩:=c.get n;rw[c.length]at h;exact⟨_,l,.inl ⟨rfl,e,.of i⟩,a,e,v,rfl,rfl,i,h,k v _ (S.mut f g l c.dropLast) m⟩
def BW(i:Nat)(f:DF):DG:=λA=>(iZ i A).bind λb=>(f A).bind λd=>match d with|.lst a=>if b.length+a.length<=dU then Y (.nx (A.set i (Y (.lst (b++a))))) else M|_=>M
theorem JJ{g:Pos}{f:DF}(h:PE X (.Name x p) (iC i))(he:PE X e (tP X.K own f))(u:i∈own:=by decide)(n:bY (.Name x p) "extend" X.env (eval (.Name x p) X.env)=eval (.Name x p) X.env:=by rfl) (q:((cv c (ao (e::[]) X.env)).all (λx=> !x.1)&&(f' c (cQ [] X.env)).all (λx=>x.1.isSome)
   && decide ((e::[]).length+([]:List nX).length+(if ([]:List nX).isEmpty then 0 else 1)<30))=true:=by rfl) (m:(g.endLine==c.line)=true:=by rfl) (L:ao (e::[]) X.env=(Z_,eval e X.env)::ao [] X.env:=by rfl) (l:(cv c (ao [] X.env)).any (·.1)=false:=by rfl) (t:cp (.Call (.Attribute (.Name x p) "extend" g) [e] [] c) M J.line X.env=dR false:=by rfl) :
  PS X (.Expr (.Call (.Attribute (.Name x p) "extend" g) [e] [] c) J) (ib X.K B I own own (BW i f)):=
 (sM (DV lL PySem.F.slot_list_extend PySem.F.type_list_extend Jl h (cJ he gA L) n q m L l) t).imp <|by
  rintro D C H ⟨G,A,o,S,j,k⟩;unfold BW at j;obtain⟨ds,el,j⟩:=aa.1 j;rw[aa]at j;obtain⟨d,y,j⟩:=j;cases d<;>simp only at j<;>try (cases j;done)
  split at j
  ·cases j;rename_i es U;have w:=fx el;obtain⟨a,R,z,e3,e4,e5,e6⟩:=S.mG u w;refine⟨_,z,.inl ⟨rfl,R,.of e3⟩,G,A,_,S.gh,S.ji,y,λv G' H' E r =>?_⟩;have F:=S.ext E;obtain⟨a',s,Q,f3,P,_⟩:=F.mG u w;rw[z]at Q;cases Q;obtain⟨b,T,rfl,gb,K⟩:=cW.mp r;refine⟨a,b,s,T,rfl,rfl,f3,F.gh _ _ gb,?_,k _ G' _ (F.mut u w z (P.append K))⟩;rw[<- P.length,<- K.length];exact bK U h_
  ·cases j
def G_(j:Nat)(b c:DF):DG:=λA=>(c A).bind λd=>(iZ j A).bind λa=>(b A).bind λk=>match k with|.int k=>(B' a.length k).map λn =>.nx (A.set j (Y (.lst (a.set n d))))|_=>M
theorem Pw{g:Expr}{F P:DF}(h:PE X (.Name x p) (iC j))(y:PE X g (tQ X.K own F))(he:PE X e (tP X.K own P))(w:j∈own:=by decide)(hg:∀ {s t:TE},PE X (.Name x p) s->PE X g t->PG X (.Subscript (.Name x p) g b) (V7 s t QJ):=by intro s t h1 h2;exact RT h1 h2 NF)(hs:swapsWithSole [.Subscript (.Name x p) g b] e J.line X.env=dR false:=by rfl)(hw:swappedStores [.Subscript (.Name x p) g b] e X.env=dR none:=by rfl):
  PS X (.Assign [.Subscript (.Name x p) g b] e J) (ib X.K B I own own (G_ j F P)):=
 (RN he (hg h y) hs hw).imp <|by
  rintro D C H ⟨G,A,o,S,c,k⟩;unfold G_ at c;obtain⟨d,ef,c⟩:=aa.1 c;rcases l:iZ j A with _|ds
  ·simp[l]at c
  rcases f:F A with _|i
  ·simp[l,f]at c
  simp only[l,f,ae]at c;cases i<;>simp only at c<;>try (cases c;done)
  rename_i i;rcases K:B' ds.length i with _|n
  ·simp[K]at c
  simp only[K,bP]at c;cases c;have z:=fx l;refine⟨G,A,d,S.gh,S.ji,ef,λv G' H' E r =>?_⟩;have m:=S.ext E;obtain⟨a,vs,L,e3,e4,e5,e6⟩:=m.mG w z;refine⟨_,L,G',A,_,m.gh,m.ji,f,λu G2 H2 U r2 =>?_⟩;have T:=m.ext U;obtain⟨a',q,R,f3,Q,_⟩:=T.mG w z;rw[L]at R;cases R;exact⟨a,q,i,n,rfl,r2.int,f3,by rw[<- Q.length];exact K,k _ G2 _ (T.mut w z L (Q.set n (cO.mono U.gg d r)))⟩
end
section
variable {X:Cx}{f:DF}
theorem Iq.imp(h:Iq X r)(k:∀x y H Q,d x y H Q->r x y H Q):Iq X d:=λa b c s e H x y v u Q I g f q i=>h a b c s e H x y v u Q I g f (k _ _ _ _ q) i
theorem PO.imp{e:Option Expr}(h:PO X e t)(k:∀b H Q,c b H Q->t b H Q):PO X e c:=λa s b H Q I q=>h a s b H Q I (k _ _ _ q)
theorem lU.imp(h:lU X c r)(k:∀b H Q,d b H Q->r b H Q):lU X c d:=λa s e H b f Q I g q=>h a s e H b f Q I g (k _ _ _ q)
theorem bz.ph{K:aT}{a:List D}{b:List V}(r:bz K G a b)(h:ph a i=Y d):∃v,L2.ph b i=Y v/\cO K G d v:=by
 unfold L2.ph at h ⊢;rw[<- r.length];obtain⟨j,e,h⟩:=aa.1 h;rw[e];exact r.get h
theorem CJ{a b:Type}(g:a->b)(xs:List a)(i:Int):ph (xs.map g) i=(ph xs i).map g:=by
 unfold ph;rw[ax];cases B' xs.length i with
 |none=>rfl|some j=>simp[aY]
def bW:D->D->Option D
 |.lst a,.int i=>ph a i|.tup a,.int i=>ph a i|.mD b,.int i=>(ph b i).map .int|.str x,.int i=>if x.length<=dU then (ph x.cps.toList i).map λc =>.str ⟨#[c]⟩ else M
 |_,_=>M
theorem Rb:Iq X (rD X.K bW):=by
 refine Iq.imp SF ?_;rintro x y H Q ⟨G,u,t,d,b,h,g,a,q⟩;unfold bW at a;split at a<;>try (cases a;done)
 ·obtain⟨p,j,f,e,l⟩:=h.lst b;obtain⟨v,o,k⟩:=l.ph a;exact .inl ⟨p,j,_,v,f,g.int,.of e,o,q _ G H (.refl b) k⟩
 ·obtain⟨p,j,f,e,l⟩:=h.tup b;obtain⟨v,o,k⟩:=l.ph a;exact .inr (.inl ⟨p,j,_,v,f,g.int,.of e,o,q _ G H (.refl b) k⟩)
 ·obtain⟨p,f,e⟩:=h.mD b;obtain⟨c,r,a⟩:=aq.1 a;cases a;exact .inl ⟨p,_,_,.int c,f,g.int,e,by rw[CJ,r];rfl,q _ G H (.refl b) (bX.mpr rfl)⟩
 ·split at a<;>try (cases a;done)
  obtain⟨c,r,a⟩:=aq.1 a;cases a;exact .inr (.inr ⟨_,_,c,h.str,g.int,bK (by assumption) h_,r,q _ G H (.refl b) (iG.mpr rfl)⟩)
theorem abc(e:PE X a (tQ X.K own fa))(d:PE X b (tQ X.K own fb))(c:CS b:=by exact λ_ _=>rfl):PE X (.Subscript a b w) (tP X.K own (e2 bW fa fb)):=(QL Rb e d c).imp λf H Q h=>Hg h
abbrev DP:=cy->Option (Option Int)
def pN:DP:=λ_=>Y M
def pS(f:DF):DP:=λa=>(f a).bind λd=>match d with|.int i=>Y (Y i)|_=>M
theorem OO{f:DF}{a:cy}(h:pS f a=Y o):∃i,f a=Y (.int i)/\o=Y i:=by
 unfold pS at h;obtain⟨d,e,h⟩:=aa.1 h;rw[e];cases d<;>first|(cases h;exact⟨_,rfl,rfl⟩)|cases h
inductive Rt (K:aT) (own:List Nat) (f:DP) (c:St) (H:Hp) (Q:Option Int->Hp->Prop):Prop
 |mk G a o:bD G H->kJ K own G H c a->f a=some o->(∀d b,f_ G H d b->Q o b)->Rt K own f c H Q
theorem Wh:PO X M (Rt X.K own pN):=OH.imp <|by rintro d H Q ⟨G,e,o,a,c,b,k⟩;cases b;exact k G H (.refl a)
theorem Wg(h:PE X e (tQ X.K own f)):PO X (Y e) (Rt X.K own (pS f)):=(OG h).imp <|by
 rintro r H Q ⟨G,b,o,d,a,g,k⟩;obtain⟨i,j,rfl⟩:=OO g;exact⟨G,b,_,d,a,j,λv p l q c=>⟨i,c.int,k p l q⟩⟩
def EW{a:Type}(xs:List a)(m n:Option Int):List a:=(xs.drop (HT.A5 xs.length 0 m)).take (HT.A5 xs.length xs.length n-HT.A5 xs.length 0 m)
theorem bz.cut{K:aT}{b:List D}{a:List V}(r:bz K G b a)(m n:Option Int):bz K G (EW b m n) (Ez a m n):=by
 unfold L2.EW Ez;rw[<- r.length];exact(r.drop _).take _
def HF(f:DF)(m n:DP):DL:=λa=>(f a).bind λd=>(m a).bind λl=>(n a).bind λh=>match d with|.lst b=>Y (EW b l h)|.mD c=>Y ((EW c l h).map D.int)|_=>M
variable {m:Option Expr}
theorem Zw(K:PE X e (tQ X.K own f))(J:PO X m (Rt X.K own l))(I:PO X n (Rt X.K own h)):PE X (.Subscript e (.Slice m n M B) w) (tF X.K own (HF f l h)):=(DU Og K J I).imp <|by
 rintro O H Q ⟨G,i,P,L,g,a,k⟩;unfold HF at a;rcases ef:f i with _|d
 ·rw[ef]at a;cases a
 rcases el:l i with _|s
 ·simp[ef,el]at a
 rcases eh:h i with _|t
 ·simp[ef,el,eh]at a
 simp only[ef,el,eh,ae]at a;refine⟨G,i,d,L,g,ef,λv N T o F=>⟨N,i,s,o.gh,g.ext o,el,λA S j=>⟨A,i,t,j.gh,(g.ext o).ext j,eh,λz R b =>?_⟩⟩⟩;have E:=(o.trans j).trans b;have x:=F.ext (j.trans b);cases d<;>simp only at a<;>try (cases a;done)
 ·cases a;obtain⟨p,C,u,r,D⟩:=x.lst b.gh;exact⟨p,C,u,.of r,λq c=>k q _ z _ (E.trans (f_.lay (p:=q) b.gh c)) (E.hh.free c) (b.gh.free c) br (D.cut _ _)⟩
 ·cases a;rename_i y;obtain⟨p,u,r⟩:=x.mD b.gh;refine⟨p,_,u,r,λq c=>k q _ z _ (E.trans (f_.lay (p:=q) b.gh c)) (E.hh.free c) (b.gh.free c) br ?_⟩;have:Ez (y.map V.int) s t=(EW y s t).map V.int:=by unfold Ez EW;rw[ax,<- List.map_drop,<- NN]
  rw[this];exact bz.ints _
theorem RB:ZM X (λx m n H Q=>∃z,x=.str z/\z.length<=bb/\Q (.str (kZ z m n)) H):=by
 intro a s d H x v f e m n g Q I h r o c ⟨z,y,p,q⟩;subst y;obtain⟨t,rfl⟩:=h;refine⟨"str",_,F.slot_str_getitem.lookup,typeIs_str _ _ _,?_⟩;have lS:∀(l u:Option (Int×Tok)),f=partValue l->e=partValue u->l.map (·.1)=m->u.map (·.1)=n->be (aU X.prog X.w) X.A (J9 (.str z t) (.ref g)) (EP X a d Q) X.xe s:=λl u G E D C=>by subst G E D C;exact wpAny_getItem_str_slice (l:=l) (u:=u) (st:=M) r rfl (post_val_or_str ⟨bK (Ka z _ _) p,λJ k=>⟨.str _,H,I.tok _,⟨_,rfl⟩,q⟩⟩)
 cases o with
 |none=>
  cases c with
  |none=>exact lS M M rfl rfl rfl rfl|int j u=>exact lS M (Y (j,u)) rfl rfl rfl rfl
 |int i b=>
  cases c with|none=>exact lS (Y (i,b)) M rfl rfl rfl rfl|int j u=>exact lS (Y (i,b)) (Y (j,u)) rfl rfl rfl rfl
def JG(f:DF)(m n:DP):DF:=λa=>(f a).bind λd=>(m a).bind λl=>(n a).bind λh=>match d with|.str x=>if x.length<=dU then Y (.str (kZ x l h)) else M|_=>M
theorem Zv(y:PE X e (tQ X.K own f))(x:PO X m (Rt X.K own l))(u:PO X n (Rt X.K own h)):PE X (.Subscript e (.Slice m n M B) w) (tP X.K own (JG f l h)):=(DU RB y x u).imp <|by
 rintro K H Q ⟨G,c,L,z,b,a,k⟩;unfold JG at a;rcases g:f c with _|d
 ·rw[g]at a;cases a
 rcases i:l c with _|r
 ·simp[g,i]at a
 rcases o:h c with _|t
 ·simp[g,i,o]at a
 simp only[g,i,o,ae]at a;refine⟨G,c,d,z,b,g,λv I N j q=>⟨I,c,r,j.gh,b.ext j,i,λF A p=>⟨F,c,t,p.gh,(b.ext j).ext p,o,λD C J =>?_⟩⟩⟩;have E:=(j.trans p).trans J;cases d<;>simp only at a<;>try (cases a;done)
 split at a
 ·cases a;rename_i s;exact⟨_,q.str,bK s h_,k _ D C E (iG.mpr rfl)⟩
 ·cases a
def bf(o:List D->Option D)(g:DL):DF:=λa=>(g a).bind o
theorem zF{g:DL}{a:cy}(h:bf o g a=Y d):∃b,g a=Y b/\o b=Y d:=by
 unfold bf at h;obtain⟨x,c,h⟩:=aa.1 h;rw[c];exact⟨x,rfl,h⟩
inductive rC (K:aT) (o:List D->Option D) (e:List V) (H:Hp) (Q:VK):Prop
 |mk G a d:bD G H->Il K G H a e->o a=some d->(∀v c b,f_ G H c b->cO K c d v->Q v b)->rC K o e H Q
theorem Vn{K:aT}{g:DL}{b:St}(h:tP K own (bf o g) b H Q):Uw (rC K o) (Ut K own g) b H Q:=by
 obtain⟨G,f,d,l,a,q,k⟩:=h;obtain⟨c,p,r⟩:=zF q;exact⟨G,f,c,l,a,p,λy u z e j=>⟨u,c,d,e.gh,j,r,λv t s x i=>k v t s (e.trans x) i⟩⟩
theorem Il.one{K:aT}{a:List V}(r:Il K G H [d] a):∃v,a=[v]/\jt K G H d v:=by
 cases r with|cons r t=>cases t;exact⟨_,rfl,r⟩
def iu:List D->Option D
 |[.lst a]=>Y (.int a.length)|[.tup a]=>Y (.int a.length)|[.mD a]=>Y (.int a.length)|[.str x]=>if x.length<=dU then Y (.int x.length) else M
 |_=>M
theorem TL:lU X (.builtin "len") (rC X.K iu):=by
 refine lU.imp (CC.or CB) ?_;rintro i H Q ⟨G,j,d,c,r,a,q⟩;unfold iu at a;split at a
 ·cases a;obtain⟨v,rfl,b⟩:=r.one;obtain⟨p,f,rfl,e,g⟩:=b.lst c;refine .inl ⟨p,f,rfl,.inl (.of e),?_⟩;rw[<- g.length];exact q _ G H (.refl c) (bX.mpr rfl)
 ·cases a;obtain⟨v,rfl,b⟩:=r.one;obtain⟨p,f,rfl,e,g⟩:=b.tup c;refine .inl ⟨p,f,rfl,.inr (.of e),?_⟩;rw[<- g.length];exact q _ G H (.refl c) (bX.mpr rfl)
 ·cases a;obtain⟨v,rfl,b⟩:=r.one;obtain⟨p,rfl,e⟩:=b.mD c;refine .inl ⟨p,_,rfl,.inl e,?_⟩;rw[ax];exact q _ G H (.refl c) (bX.mpr rfl)
 ·split at a
  ·cases a;rename_i h;obtain⟨v,rfl,b⟩:=r.one;exact .inr ⟨_,by rw[b.str],bK h h_,q _ G H (.refl c) (bX.mpr rfl)⟩
  ·cases a
 ·cases a
theorem zL(l:lU X (.builtin c) (rC X.K o))(j:Gl X x)(i:X.mg x=M)(d:fA x=Y (.builtin c))(q:PA X (e::A) (Ut X.K own g))(f:x ≠ "__name__" :=by decide)(b:(x==("__debug__" : aG))=false:=by decide)(k:ao (e::A) X.env=(Z_,eval e X.env)::ao A X.env:=by rfl)(a:(cv w (ao A X.env)).any (·.1)=false:=by rfl):PE X (.Call (.Name x p) (e::A) [] w) (tP X.K own (bf o g)):=
 (yR l j i d q f b k a).imp λr H Q h=>Vn h
theorem Nf(c:Gl X "len")(b:X.mg "len" = M)(h:PE X e (tQ X.K own f))(a:ao (e::[]) X.env=(Z_,eval e X.env)::ao [] X.env:=by rfl):PE X (.Call (.Name "len" p) [e] [] w) (tP X.K own (bf iu (aC f aN))):=
 zL TL c b PySem.boot_len (zI h Ct a) (by decide) (by decide) a rfl
noncomputable def NV(T:String):D->Bool
 |.dJ=>T == "NoneType"|.bl _=>T == "bool" || T == "int"
 |.int _=>T == "int"|.str _=>T == "str"|.lst _=>T == "list"|.mD _=>T == "list"|.tup _=>T == "tuple"|.ins _ _ _=>Z_|.iW _ _=>T == "dict"|.obj _ _=>Z_|.dN _ _=>Z_
def Iv:List String:=["bool", "int", "str", "list", "tuple"]
def Wc(T:String)(f:DF):DF:=λa=>(f a).bind λd=>match d with|.mD _=>M|.ins _ _ _=>M|.iW _ _=>M|.obj _ _=>M|.dN _ _=>M|d=>Y (.bl (NV T d))
theorem O':∀T∈Iv,∀(K:aT),ja K (.type "NoneType") (.type T)=Y (NV T .dJ)/\ja K (.type "bool") (.type T)=Y (NV T (.bl Z'))/\ja K (.type "int") (.type T)=Y (NV T (.int 0)) /\
  ja K (.type "str") (.type T)=Y (NV T (.str Str.empty))/\ja K (.type "list") (.type T)=Y (NV T (.lst []))/\ja K (.type "tuple") (.type T)=Y (NV T (.tup [])):=by
 intro T a K;simp only[Iv,aW,oY,or_false]at a;rcases a with rfl|rfl|rfl|rfl|rfl<;>exact⟨by kernel_rfl,by kernel_rfl,by kernel_rfl,by kernel_rfl,by kernel_rfl,by kernel_rfl⟩
theorem JS(T:String)(S:T∈Iv):lU X (.builtin "isinstance") (λy H Q=>∃G d v,bD G H/\y=[v,.ty T]/\jt X.K G H d v/\(∀o,d ≠ .mD o)/\(∀c g f,d ≠ .ins c g f)/\(∀g f,d ≠ .iW g f)/\((∀s t,d ≠ .obj s t)/\∀s t,d ≠ .dN s t)/\Q (.bl (NV T d)) H):=by
 intro j s D H y us Q I F ⟨G,d,v,C,e,r,R,p,x,k,q⟩;subst e;obtain⟨u,c,rfl,h,J⟩:=cg.two F;cases J;obtain⟨P,O,N,m,L,K⟩:=O' T S X.K;have lS:∀z,EP X j D Q (.bool (NV T d)) { s with toks:=z }:=λz=>⟨.bl _,H,I.tok _,rfl,q⟩
 cases d with
 |dJ=>have:=r.dJ;subst this;exact nR I h (.dJ) P lS
 |bl b=>have:=r.bl;subst this;exact nR I h (.bl b) O lS
 |int i=>have:=r.int;subst this;exact nR I h (.int i) N lS
 |str i=>have:=r.str;subst this;exact nR I h (.str i) m lS
 |lst U=>obtain⟨a,E,rfl,l,_⟩:=r.lst C;exact nR I h (.lst l) L lS
 |tup U=>obtain⟨a,E,rfl,l,_⟩:=r.tup C;exact nR I h (.tup l) K lS
 |mD o=>exact absurd rfl (R o)|ins c g f=>exact absurd rfl (p c g f)|iW g f=>exact absurd rfl (x g f)|obj s t=>exact absurd rfl (k.1 s t)|dN s t=>exact absurd rfl (k.2 s t)
theorem Bv{b:Pos}(U:T∈Iv)(S:Gl X "isinstance")(R:X.mg "isinstance" = M)(D:Gl X y)(C:X.mg y=M)(j:fA y=Y (.type T))(h:PE X e (tQ X.K own f))(x:y ≠ "__name__" :=by decide)(E:(y==("__debug__" : aG))=false:=by decide)(J:ao (e::[.Name y b]) X.env=(Z_,eval e X.env)::ao [.Name y b] X.env:=by rfl)(l:ao [.Name y b] X.env=(Z_,eval (.Name y b) X.env)::ao [] X.env:=by rfl)(o:(cv w (ao [.Name y b] X.env)).any (·.1)=false:=by rfl):
  PE X (.Call (.Name "isinstance" p) [e,.Name y b] [] w) (tP X.K own (Wc T f)):=
 (yR (JS T U) S R GO (cJ h (cJ (Hm (v :=.ty T) D C j rfl x E) gA l) J) (by decide) (by decide) J o).imp <|by
  rintro σ H Q ⟨G,N,d,gh,F,a,k⟩;unfold Wc at a;obtain⟨c,ef,a⟩:=aa.1 a;have P:∀I,c ≠ .mD I:=λI z=>by subst z;cases a
  have r:∀K i g,c ≠ .ins K i g:=λK i g z=>by subst z;cases a
  have u:∀i g,c ≠ .iW i g:=λi g z=>by subst z;cases a
  have q:(∀s t,c ≠ .obj s t)/\∀s t,c ≠ .dN s t:=⟨λs t z=>(by subst z;cases a),λs t z=>(by subst z;cases a)⟩;have ed:d=.bl (NV T c):=by cases c<;>first|(cases a;rfl)|cases a
  subst ed;exact⟨G,N,c,gh,F,ef,λv L H1 m O=>⟨L,c,v,m.gh,rfl,O,P,r,u,q,k _ L H1 m (dn.mpr rfl)⟩⟩
def zt(f:DF):DL:=λb=>(f b).bind λd=>match d with|.lst a=>Y a|.tup a=>Y a|.mD c=>Y (c.map D.int)|_=>M
theorem XD(z:Gl X "list")(y:X.mg "list" = M)(h:PE X e (tQ X.K own f))(x:fA "list" = Y (.type "list"):=by exact PyProof.Rows.boot_list)(t:ao (e::[]) X.env=(Z_,eval e X.env)::ao [] X.env:=by rfl):PE X (.Call (.Name "list" p) [e] [] w) (tF X.K own (zt f)):=
 (Jb CA z y x (cJ h gA t) (by decide) (by decide) t rfl).imp <|by
  rintro E H Q ⟨G,u,F,C,r,g,k⟩;unfold zt at g;obtain⟨c,D,g⟩:=aa.1 g;refine⟨G,u,c,C,r,D,λv s I b o =>?_⟩;cases c<;>simp only[ae]at g<;>try (cases g;done)
  ·cases g;obtain⟨a,j,rfl,i,l⟩:=o.lst b.gh;exact⟨a,j,rfl,.inl (.of i),λq d=>k q _ s _ (b.trans (f_.lay (p:=q) b.gh d)) (b.hh.free d) (b.gh.free d) br l⟩
  ·cases g;obtain⟨a,j,rfl,i,l⟩:=o.tup b.gh;exact⟨a,j,rfl,.inr (.of i),λq d=>k q _ s _ (b.trans (f_.lay (p:=q) b.gh d)) (b.hh.free d) (b.gh.free d) br l⟩
  ·cases g;obtain⟨a,rfl,i⟩:=o.mD b.gh;exact⟨a,_,rfl,.inl i,λq d=>k q _ s _ (b.trans (f_.lay (p:=q) b.gh d)) (b.hh.free d) (b.gh.free d) br (bz.ints _)⟩
def eH(f:DF):DT:=λc=>(f c).bind λd=>match d with
 |.dJ=>Y Z_|.bl b=>Y b|.int i=>Y (i != 0)|.str y=>if y.length<=dU then Y ((y.length:Int) != 0) else M
 |.lst a=>Y (!a.isEmpty)|.tup a=>Y (!a.isEmpty)|.mD a=>Y (!a.isEmpty)|.ins _ _ _=>M|.iW _ _=>M|.obj _ _=>M|.dN _ _=>M
theorem bz.empty{K:aT}{b:List D}{a:List V}(r:bz K G b a):b.isEmpty=a.isEmpty:=by
 have:=r.length;cases b<;>cases a<;>simp at this ⊢
theorem MY(h:PE X e (tQ X.K own f))(C:∀g,isTrue e X.env g=(do let v <- g;lO e.pos;jw [v] (truthy v)):=by intro _;rfl):PT X e (rg X.K own (eH f)):=(Lq h C).imp <|by
 rintro I H Q ⟨G,s,b,D,q,d,k⟩;unfold eH at d;rw[aa]at d;obtain⟨c,r,d⟩:=d;refine⟨G,s,c,D,q,r,λv F E l i=>⟨b,?_,k F E l⟩⟩;cases c with
 |dJ=>cases d;rw[i.dJ];rfl|bl b=>cases d;rw[i.bl];rfl|int b=>cases d;rw[i.int];rfl|str y=>
  rw[i.str];have d:(if y.length<=dU then Y ((y.length:Int) != 0) else M)=Y b:=d;split at d
  ·cases d;rename_i z;exact⟨bK z h_,rfl⟩
  ·cases d
 |lst t=>cases d;obtain⟨a,o,rfl,j,p⟩:=i.lst l.gh;exact .inl ⟨o,.of j,by rw[p.empty]⟩
 |tup t=>cases d;obtain⟨a,o,rfl,j,p⟩:=i.tup l.gh;exact .inr (.inl ⟨o,.of j,by rw[p.empty]⟩)
 |mD t=>cases d;obtain⟨a,rfl,j⟩:=i.mD l.gh;exact .inl ⟨_,j,by simp⟩
 |_=>cases d
end
structure EM(K:aT)(G0:Hp)(J:It)(ds:List D):Prop where
 go:∀i H,bD G0 H->i<ds.length->J.go i H
 stop:∀i H,bD G0 H->ds.length<=i->J.stop i H
 Qw:∀(i:Nat) (H:Hp) (x:V) (H' G:Hp) (d:D),bD G0 G->bD G H->J.Qw i H x H'->ds[i]?=some d->∃G',f_ G H G' H'/\cO K G' d x
inductive C7 (K:aT) (own:List Nat) (f:DL) (l:St) (H:Hp) (R:It->Hp->Prop):Prop
 |mk G ρ a:bD G H->kJ K own G H l ρ->f ρ=some a->(∀J c b,f_ G H c b->EM K c J a->R J b)->C7 K own f l H R
section
variable {X:Cx}{f:DF}
theorem PI.imp{t:TI}(h:PI X L O t)(k:∀l H R,b l H R->t l H R):PI X L O b:=λa s l H R I q=>h a s l H R I (k _ _ _ q)
noncomputable def iL(f:DF):DL:=λρ=>(f ρ).bind λd=>match d with|.lst a=>Y a|_=>M
theorem vt{f:DF}(h:iL f ρ=Y a):f ρ=Y (.lst a):=by
 unfold iL at h;obtain⟨d,e,h⟩:=aa.1 h;rw[e];cases d<;>first|(cases h;rfl)|cases h
theorem Ju{K:aT}(g:G a=Y (.lst b))(r:bz K G n b):EM K G (ZR K a) n:=by
 refine⟨λi H s f =>?_,λi H s f=>⟨b,.of (s _ _ g),by rw[<- r.length];exact f⟩,λi H x B A d j h ⟨e,y⟩ z =>?_⟩
 ·have c:i<b.length:=by rw[<- r.length];exact f
  exact⟨b,b[i],.of (s _ _ g),by simp[c]⟩
 ·subst e;have p:=y b (.of (h _ _ (j _ _ g)));obtain⟨v,k,o⟩:=r.get z;rw[p]at k;cases k;exact⟨A,.refl h,cO.mono j d o⟩
theorem nG(h:PE X e (tP X.K own f)):PI X L e (C7 X.K own (iL f)):=(OJ h).imp <|by
 rintro l H R ⟨G,ρ,p,n,b,o,k⟩;refine⟨G,ρ,_,n,b,vt o,λv A w d j =>?_⟩;obtain⟨a,g,rfl,c,i⟩:=cW.mp j;exact⟨a,rfl,⟨g,.of (d.gh _ _ c)⟩,k _ A w d (Ju c i)⟩
noncomputable def ny(a:Int)(n:Nat):List D:=(cw n).map λ(k:Nat) =>.int (a+(k:Int))
theorem uo{K:aT}(c:Int)(n:Nat):EM K G (WK c n) (ny c n):=by
 have f:(ny c n).length=n:=by simp[ny]
 refine⟨λi H s a=>by rw[f]at a;exact a,λi H s a=>by rw[f]at a;exact a,λi H x p A d k g ⟨e,y⟩ b =>?_⟩;subst e;refine⟨A,.refl g,?_⟩;unfold ny at b;rw[aY]at b;obtain⟨j,q,b⟩:=aq.1 b;cases b;have:j=i:=by obtain⟨o,h⟩:=au.mp q;simpa using h.symm
 subst this;exact bX.mpr y
def Pf(f:DF):DL:=λρ=>(f ρ).bind λd=>match d with|.int j=>if -(2 ^ 62)<=j/\j<2 ^ 62 then Y (ny 0 j.toNat) else M|_=>M
theorem JK(r:Gl X "range")(o:X.mg "range" = M)(h:PE X e (tQ X.K own f))(n:ao [e] X.env=(Z_,eval e X.env)::ao [] X.env:=by rfl)(b:ao [e] X.env=[(Z_,eval e X.env)]:=by rfl):PI X L (.Call (.Name "range" p) [e] [] u) (C7 X.K own (Pf f)):=
 (Ba r o (cJ h gA n) b).imp <|by
  rintro l H R ⟨G,ρ,z,s,c,a,k⟩;unfold Pf at a;obtain⟨d,x,a⟩:=aa.1 a;cases d<;>simp only[ae]at a<;>try (cases a;done)
  split at a
  ·cases a;rename_i j g;exact⟨G,ρ,_,s,c,x,λv A w y i=>⟨j,by rw[i.int],g.1,g.2,k _ A w y (uo 0 j.toNat)⟩⟩
  ·cases a
def My(f g:DF):DL:=λρ=>(f ρ).bind λd=>(g ρ).bind λc=>match d,c with|.int i,.int j=>if -(2 ^ 62)<=i/\i<2 ^ 62 /\ -(2 ^ 62)<=j/\j<2 ^ 62 then Y (ny i (j-i).toNat) else M|_,_=>M
theorem UH{g:DF}(N:Gl X "range")(m:X.mg "range" = M)(h:PE X e (tQ X.K own f))(P:PE X n (tQ X.K own g))(K:ao [e,n] X.env=(Z_,eval e X.env)::ao [n] X.env:=by rfl)(z:ao [n] X.env=(Z_,eval n X.env)::ao [] X.env:=by rfl)(y:ao [e,n] X.env=[(Z_,eval e X.env),(Z_,eval n X.env)]:=by rfl)(x:ao [n] X.env=[(Z_,eval n X.env)]:=by rfl):PI X L (.Call (.Name "range" p) [e,n] [] u) (C7 X.K own (My f g)):=
 (Ja N m (cJ h (cJ P gA z) K) y x).imp <|by
  rintro l H R ⟨G,ρ,ds,Q,o,b,k⟩;unfold My at b;rcases s:f ρ with _|d
  ·rw[s]at b;cases b
  rcases B:g ρ with _|c
  ·simp[s,B]at b
  simp only[s,B,ae]at b;split at b<;>try (cases b;done)
  split at b
  ·cases b;rename_i i j r;exact⟨G,ρ,_,Q,o,s,λv A w C F=>⟨A,ρ,_,C.gh,o.ext C,B,λa G2 S E2 D=>⟨i,j,by rw[F.int,D.int],⟨r.1,r.2.1,r.2.2.1,r.2.2.2⟩,k _ G2 S (C.trans E2) (uo i _)⟩⟩⟩
  ·cases b
end
abbrev ES:=D->cy->Option cy
inductive GX (K:aT) (B:Bs) (own:List Nat) (τ:ES) (v:V) (l:St) (H:Hp) (Q:St->Hp->Prop):Prop
 |mk G ρ d b:SR K B own G H l ρ->cO K G d v->τ d ρ=some b->(∀a e c,SR K B own e c a b->Q a c)->GX K B own τ v l H Q
inductive Us (K:aT) (own:List Nat) (τ:ES) (v:V) (l:St) (H:Hp) (Q:St->Hp->Prop):Prop
 |mk G ρ d b:bD G H->kJ K own G H l ρ->cO K G d v->τ d ρ=some b->(∀a e c,f_ G H e c->kJ K own e c a b->Q a c)->Us K own τ v l H Q
section
variable {X:Cx}
theorem PG.imp{L:Expr}{t:TG}(h:PG X L t)(k:∀v l H Q,b v l H Q->t v l H Q):PG X L b:=λa s l H v u Q I r q=>h a s l H v u Q I r (k _ _ _ _ q)
def gN(i:Nat):ES:=λd ρ=>Y (ρ.set i (Y d))
theorem XC{i:Nat}(h:PG X L (pf i))(b:i∉own:=by decide):PG X L (GX X.K B own (gN i)):=h.imp <|by
 rintro v l H Q ⟨G,ρ,d,a,S,r,c,k⟩;cases c;exact k _ G H (S.xu b r)
theorem kJ.set{K:aT}{i:Nat}{d:D}{v:V}(h:kJ K own G H l ρ)(s:i∉own)(r:cO K G d v):kJ K own G H (l.set i (Y v)) (ρ.set i (Y d)):=
 ⟨by simp[h.len],λj c e=>by
  rcases gH e with⟨rfl,rfl,C⟩|⟨b,e⟩
  ·exact⟨v,qN (by rw[h.len];exact C),by rw[if_neg s];exact r⟩
  ·obtain⟨u,o,n⟩:=h.get j c e;exact⟨u,by rw[aj b];exact o,n⟩,λj k p g N e=>by
  have a:∀j,j∈own->i≠j:=λj F e=>s (e ▸ F)
  rw[aj (a j g)]at e;obtain⟨f,m,z,y,B,w,x,o,n,Q,P⟩:=h.dN j k p g N e;exact⟨f,m,z,y,B,w,x,by rw[aj (a k f)];exact o,by rw[aj (a k f)];exact n,by rw[aj (a j g)];exact Q,P⟩⟩
def Cm(i j:Nat):ES:=λd ρ=>match d with|.tup [a,b]=>Y ((ρ.set i (Y a)).set j (Y b))|_=>M
theorem MJ(h:Cm i j d ρ=Y c):∃a b,d=.tup [a,b]/\c=(ρ.set i (Y a)).set j (Y b):=by
 unfold Cm at h;split at h
 ·cases h;exact⟨_,_,rfl,rfl⟩
 ·cases h
theorem Ot{K:aT}{v:V}(r:cO K G (.tup [a,b]) v):∃p x y,v=.ref p/\G p=Y (.tup [x,y])/\cO K G a x/\cO K G b y:=by
 obtain⟨p,h,e,g,f⟩:=fg.mp r;obtain⟨x,j,rfl,d,t⟩:=bJ.mp f;obtain⟨y,i,rfl,c,t⟩:=bJ.mp t;rw[dE.mp t]at g;exact⟨p,x,y,e,g,d,c⟩
theorem Zs{i:Nat}(h:PG X L (S9 X.K 2 (Bp (pf i) (Bp (pf j) S_))))(o:i∉own:=by decide)(n:j∉own:=by decide):PG X L (GX X.K B own (Cm i j)):=h.imp <|by
 rintro v l H Q ⟨G,ρ,d,c,S,r,s,k⟩;obtain⟨a,b,rfl,rfl⟩:=MJ s;obtain⟨p,x,y,rfl,g,f,e⟩:=Ot r;exact⟨p,_,rfl,.of (S.gh _ _ g),rfl,x,_,rfl,y,_,rfl,rfl,k _ G H ((S.xu o f).xu n e)⟩
end
noncomputable def gx(τ:ES)(g:DG):List D->cy->Option DO
 |[],ρ=>Y (.nx ρ)| d::b,ρ=>(τ d ρ).bind λρ1=>(g ρ1).bind λo=>match o with
  |.nx a=>gx τ g b a|.ct a=>gx τ g b a|.bk a=>Y (.nx a)|.rt d=>Y (.rt d)|.ro d=>Y (.ro d)|.rm d ρ=>Y (.rm d ρ)|.rf i ρ=>Y (.rf i ρ)|.ex c n=>Y (.ex c n)
def ir(f:DL)(τ:ES)(g:DG):DG:=λρ=>(f ρ).bind λa=>gx τ g a ρ
section
variable {K:aT}
theorem qg.base{F:Nat->List az}(W:qg K B own G H l ρ F)(h:a.2=B.2):qg K a own G H l ρ F:=⟨W.it,λi d b e=>by rw[h];exact W.ok i d b e,W.ap⟩
theorem SR.rebase(a:SR K B own A w q ρ1)(S:SR K B own G H l ρ)(s:bD A G):SR K ⟨A,B.2,B.3,B.4⟩ own G H l ρ:=
 ⟨S.gh,s,S.h0,λb o e=>by
  rcases S.fr b o e with z|z
  ·exact .inl (a.g0 b o z)
  ·exact .inr z,S.env,(by obtain⟨F,W⟩:=S.ow;exact⟨F,W.base rfl⟩),S.len,S.pin,S.dN⟩
theorem SR.BM(c:SR K B own A w q ρ1)(S:SR K ⟨A,B.2,B.3,B.4⟩ a G H l ρ):SR K B a G H l ρ:=
 ⟨S.gh,c.g0.trans S.g0,S.h0,λb o e=>by
  rcases S.fr b o e with z|z
  ·exact c.fr b o z
  ·exact .inr z,S.env,(by obtain⟨F,W⟩:=S.ow;exact⟨F,W.base rfl⟩),S.len,S.pin,S.dN⟩
theorem SR.yx(a:SR K B own A w q ρ1)(S:SR K ⟨A,B.2,B.3,B.4⟩ own G H l ρ):SR K B own G H l ρ:=a.BM S
theorem f_.yx(a:SR K B own A w q ρ1)(E:f_ A B.2 G H):f_ B.1 B.2 G H:=
 ⟨E.hh,a.g0.trans E.gg,E.gh,λb o e=>by
  rcases E.fr b o e with z|z
  ·exact a.fr b o z
  ·exact .inr z⟩
end
section
variable {X:Cx}{f:DL}
inductive W4 (K:aT) (B:Bs) (own:List Nat) (f:cy->Option (List D×cy)) (l:St) (H:Hp) (R:It->Hp->Prop):Prop
 |mk G ρ b a:SR K B own G H l ρ->f ρ=some (b,a)->(∀J d c,SR K B own d c l a->EM K d J b->R J c)->W4 K B own f l H R
def A8(f:cy->Option (List D×cy))(τ:ES)(g:DG):DG:=λρ=>(f ρ).bind λp=>gx τ g p.1 p.2
theorem Es{f:cy->Option (List D×cy)}(hp:Dh (aU X.prog X.w) X.A X.env X.xe)(hc:X.calm=Z')(hi:PI X L O (W4 X.K B own f))(hg:∀C:Bs,C.3=B.3->PG X L (GX X.K C own τ))(hb:∀C:Bs,C.3=B.3->C.2=B.2/\C.4=B.4->oP X I (ib X.K C own own own g))(hs:∀x,cY O X.env x=dR x:=by intro _;rfl):PS X (.For L O I [] u) (ib X.K B t own own (A8 f τ g)):=by
 intro Q s l H D' j ⟨G,ρ,o,S,eq,k⟩;unfold A8 at eq;obtain⟨⟨R,ρ0⟩,ef,eq⟩:=aa.1 eq;have eq:gx τ g R ρ0=Y o:=eq;refine wpAny_For (fE (hi Q s l H (λJ w=>∃A,SR X.K B own A w l ρ0/\EM X.K A J R) j ⟨G,ρ,R,ρ0,S,ef,λJ A w S1 ok=>⟨A,S1,ok⟩⟩) λv s1 h1=>fE h1 λitv s2 h2 =>?_) hs;obtain⟨it,fp,tn,J,H2,e,I2,T,Vg,f2,A,S1,ok⟩:=h2;subst e;have Fx:∀ {H':Hp},(∀b∈fp,H' b=M)->∀b∈fp,AJ X Q H' b:=λhn b hb=>⟨hn b hb,(f2 b hb).2⟩
 have adw:∀(ρ':cy) (σ':St) (H' G':Hp) (xT:List D),SR X.K ⟨A,B.2,B.3,B.4⟩ own G' H' σ' ρ'->True:=λ_ _ _ _ _ _=>trivial
 refine codeAny_forLoop_any (λn s'=>∃i σ' H' G' ρ',Inv X Q σ' H' s'/\tn i s'.heap/\(∀b∈fp,H' b=M)/\n=R.length-i/\i<=R.length/\SR X.K ⟨A,B.2,B.3,B.4⟩ own G' H' σ' ρ'/\gx τ g (R.drop i) ρ'=Y o) ?_ R.length
  ⟨0,l,H2,A,ρ0,I2,Vg,λb hb=>(f2 b hb).1,rfl,eG _,S1.rebase S1 (bD.refl _),eq⟩
 rintro n s3 ⟨i,σ3,H3,G3,ρ3,I3,W5,fr3,rfl,Y3,S3,F⟩;have Vc:bD A H3:=S3.g0.trans S3.gh;by_cases QU:i<R.length
 ·have ed:R.drop i=R[i]::R.drop (i+1):=fw QU;rw[ed]at F;unfold gx at F;obtain⟨P,et,F⟩:=aa.1 F;obtain⟨o4,eg,F⟩:=aa.1 F;refine kW hp (fE (T.item X rfl rfl rfl hc i Q s3 σ3 H3 X.xe I3 (Fx fr3) W5 (ok.go i H3 Vc QU)) ?_);rintro r s4 ⟨h,hr,h4⟩;subst hr;refine kW hp (fE h4 ?_);rintro _ s5 ⟨x,H5,I5,r5,y5,Uy,Xn⟩;have I5':=I5.pinned (Fx Xn) (T.obj _ _ Uy);obtain⟨G5,E5,Yf⟩:=ok.Qw i H3 x H5 G3 R[i] S3.g0 S3.gh y5 (bC QU);refine kW hp (fE (hg ⟨A,B.2,B.3,B.4⟩ rfl _ s5 σ3 H5 x h (λN H6=>∃G6,SR X.K ⟨A,B.2,B.3,B.4⟩ own G6 H6 N P) I5' r5 ⟨G5,ρ3,R[i],P,S3.ext E5,Yf,et,λN G6 H6 S6=>⟨G6,S6⟩⟩) ?_);rintro _ s6 ⟨N,H6,I6,G6,S6⟩;have again:∀ {p:St}{K q:Hp}{ρ7:cy}{s7:av},Inv X (Q++vZ fp s5.heap) p K s7->SR X.K ⟨A,B.2,B.3,B.4⟩ own q K p ρ7->gx τ g (R.drop (i+1)) ρ7=Y o ->
    ∃m,m<R.length-i/\∃i σ' H' G' ρ',Inv X Q σ' H' s7/\tn i s7.heap/\(∀b∈fp,H' b=M)/\m=R.length-i/\i<=R.length/\SR X.K ⟨A,B.2,B.3,B.4⟩ own G' H' σ' ρ'/\gx τ g (R.drop i) ρ'=Y o:=fun {p K q ρ7 s7} I7 S7 e7=>by
   refine⟨R.length-(i+1),by omega,i+1,p,K,q,ρ7,I7.uY,T.keep _ _ _ Uy λb hb o e=>(I7.pin (b,o) (aR _ (aR _ (oG hb e)))).1,λb hb =>?_,rfl,QU,S7,e7⟩;obtain⟨o,e,d⟩:=T.obj _ _ Uy b hb;exact(I7.pin (b,o) (aR _ (aR _ (oG hb e)))).2.1
  refine kW hp (fE (hb ⟨A,B.2,B.3,B.4⟩ rfl ⟨rfl,rfl⟩ _ s6 N H6 { nx:=λp K=>∃q r,SR X.K ⟨A,B.2,B.3,B.4⟩ own q K p r/\gx τ g (R.drop (i+1)) r=Y o,ct:=λp K=>∃q r,SR X.K ⟨A,B.2,B.3,B.4⟩ own q K p r/\gx τ g (R.drop (i+1)) r=Y o,bk:=D'.nx,rt:=D'.rt } I6 ⟨G6,P,o4,S6,eg,?_⟩) λfl s7 y =>?_)
  ·cases o4 with
   |nx r=>exact λp q K S7=>⟨q,r,S7,F⟩
   |ct r=>exact λp q K S7=>⟨q,r,S7,F⟩
   |bk r=>cases F;exact λp q K S7=>k _ q K (S1.yx S7)
   |rt d=>cases F;exact λv q K E7 r7=>k v q K (f_.yx S1 E7) r7
   |ro d=>cases F;exact λa vs q K E7 h1 h2 h3 r7=>k a vs q K (f_.yx S1 E7) h1 h2 h3 r7
   |rm d r=>cases F;exact λv p q K ⟨o7,S7⟩ r7=>k v p q K ⟨o7,S1.BM S7⟩ r7
   |rf j r=>cases F;exact λv p q K ⟨o7,ho7,S7⟩ r7=>k v p q K ⟨o7,ho7,S1.BM S7⟩ r7
   |ex c n=>cases F;exact k
  cases fl with
  |ret v=>obtain⟨x7,p,K,I7,r7,y⟩:=y;exact⟨x7,p,K,I7.uY,r7,y⟩
  |brk=>obtain⟨p,K,I7,y⟩:=y;exact⟨p,K,I7.uY,y⟩
  |_=>obtain⟨p,K,I7,q,r,S7,F⟩:=y;exact again I7 S7 F
 ·have e:i=R.length:=by omega
  subst e;rw[uR]at F;unfold gx at F;cases F;refine kW hp (fE (T.done X rfl rfl rfl hc _ Q s3 σ3 H3 X.xe I3 (Fx fr3) W5 (ok.stop _ H3 Vc (aS _))) ?_);rintro r s4 ⟨hr,I4⟩;subst hr;exact nV ⟨σ3,H3,I4,k σ3 G3 H3 (S1.yx S3)⟩
theorem Px(i:Dh (aU X.prog X.w) X.A X.env X.xe)(o:X.calm=Z')(j:PI X L O (C7 X.K own f))(n:∀C:Bs,C.3=B.3->PG X L (GX X.K C own τ))(p:∀C:Bs,C.3=B.3->C.2=B.2/\C.4=B.4->oP X I (ib X.K C own own own g))(h:∀x,cY O X.env x=dR x:=by intro _;rfl):PS X (.For L O I [] u) (ib X.K B t own own (ir f τ g)):=by
 have e:ir f τ g=A8 (λρ=>(f ρ).map λa=>(a,ρ)) τ g:=funext λρ=>by show (f ρ).bind _=(mJ (λa=>(a,ρ)) (f ρ)).bind _;cases f ρ<;>rfl
 rw[e];refine Es i o (j.imp ?_) n p h;rintro l H R ⟨G,ρ,a,c,S,b,k⟩;have b:mJ (λa=>(a,ρ)) (f ρ)=Y (a,c):=b;obtain⟨s,r,b⟩:=aq.1 b;cases b;exact⟨G,ρ,a,S.gh,S.ji,r,λJ A w E d=>k J A w (S.ext E) d⟩
theorem Py{f:cy->Option (List D×cy)}(b:Dh (aU X.prog X.w) X.A X.env X.xe)(e:X.calm=Z')(c:PI X L O (W4 X.K B own f))(d:∀C:Bs,C.3=B.3->PG X L (GX X.K C own τ))(i:∀C:Bs,C.3=B.3->oP X I (ib X.K C own own own g))(a:∀x,cY O X.env x=dR x:=by intro _;rfl):PS X (.For L O I [] u) (ib X.K B t own own (A8 f τ g)):=Es b e c d (λC h _=>i C h) a
theorem ux(b:Dh (aU X.prog X.w) X.A X.env X.xe)(e:X.calm=Z')(c:PI X L O (C7 X.K own f))(d:∀C:Bs,C.3=B.3->PG X L (GX X.K C own τ))(i:∀C:Bs,C.3=B.3->oP X I (ib X.K C own own own g))(a:∀x,cY O X.env x=dR x:=by intro _;rfl):PS X (.For L O I [] u) (ib X.K B t own own (ir f τ g)):=Px b e c d (λC h _=>i C h) a
noncomputable def qp(f:DT)(g:DG):Nat->cy->Option DO
 |0,_=>M| n+1,ρ=>(f ρ).bind λb=>if b=Z' then (g ρ).bind λo=>match o with
   |.nx a=>qp f g n a|.ct a=>qp f g n a|.bk a=>Y (.nx a)|.rt d=>Y (.rt d)|.ro d=>Y (.ro d)|.rm d ρ=>Y (.rm d ρ)|.rf i ρ=>Y (.rf i ρ)|.ex c n=>Y (.ex c n) else Y (.nx ρ)
def FK(n:Nat)(f:DT)(g:DG):DG:=λρ=>qp f g n ρ
theorem M0{c:Expr}{f:DT}(n:Nat)(C:Dh (aU X.prog X.w) X.A X.env X.xe)(D:PT X c (rg X.K own f))(F:oP X I (ib X.K B own own own g)):PS X (.While c I [] u) (ib X.K B t own own (FK n f g)):=(Ls C D F).imp <|by
 rintro R l H ⟨G,ρ,o,S,K,k⟩;refine⟨λm l H=>∃G ρ,SR X.K B own G H l ρ/\qp f g m ρ=Y o,⟨n,G,ρ,S,K⟩,?_⟩;rintro m q w ⟨A,ρ1,v,e⟩;cases m with
 |zero=>cases e|succ m=>
  unfold qp at e;obtain⟨b,N,e⟩:=aa.1 e;refine⟨A,ρ1,b,v.gh,v.ji,N,λz P Q =>?_⟩;have y:=v.ext Q;cases b with
  |false=>cases e;exact xG (k q z P y)|true=>
   refine zg ⟨λh p=>∃j r,SR X.K B own j p h r/\qp f g m r=Y o,λh p a=>⟨m,jx m,a⟩,?_⟩;simp only[ae,if_true]at e;obtain⟨x,d,e⟩:=aa.1 e;refine⟨z,ρ1,x,y,d,?_⟩;cases x with
   |nx i=>exact λh j p s=>⟨j,i,s,e⟩
   |ct i=>exact λh j p s=>⟨j,i,s,e⟩
   |bk i=>cases e;exact λh j p s=>k h j p s
   |_=>cases e;exact k
end
def mR(src:List (Option Nat))(ρ:cy):cy:=src.map λo=>match o with|some j=>(ρ[j]?).getD M|none=>M
def Ay(ρ:cy)(τ:ES)(U:DT)(fe:DF):List D->Option (List D)
 |[]=>Y []|d::a=>(τ d ρ).bind λρ1=>(U ρ1).bind λb=>if b=Z' then (fe ρ1).bind λx=>(Ay ρ τ U fe a).map (x :: ·) else Ay ρ τ U fe a
def nj(f:DL)(src:List (Option Nat))(τ:ES)(U:DT)(fe:DF):DL:=λρ=>(f ρ).bind λa=>if a.length<=dU then Ay (mR src ρ) τ U fe a else M
def hI:DT:=λ_=>Y Z'
def ka(own own':List Nat)(src:List (Option Nat)):Bool:=(own'.all λj=> !own'.contains (Aw j))&&(cw src.length).all λi=>match src[i]? with|some (Y j)=>decide (i∈own')==decide (j∈own)|_=>Z'
theorem kI(h:ka own own' src=Z')(e:src[i]?=Y (Y j)):(i∈own'↔j∈own):=by
 unfold ka at h;rw[aV]at h;have h:=h.2;rw[cA]at h;have a:i<src.length:=(au.mp e).1;have:=h i (by simpa using a);rw[e]at this;simpa using this
theorem Je(h:ka own own' src=Z')(b:j∈own')(a:Aw j∈own'):False:=by
 unfold ka at h;rw[aV,cA]at h;have:=h.1 j b;simp[a]at this
theorem kJ.src{K:aT}{own own':List Nat}{src:List (Option Nat)}(h:kJ K own G H l ρ)(f:ka own own' src=Z'):kJ K own' G H (n_ src l) (mR src ρ):=by
 refine⟨by simp[n_,mR],λi d e =>?_,λj r p k g _=>(Je f k g).elim⟩;unfold mR at e;rw[aY]at e;obtain⟨o,c,e⟩:=aq.1 e;cases o with
 |none=>cases e|some j=>
  have e:(ρ[j]?).getD M=Y d:=by simpa using e
  have s:ρ[j]?=Y (Y d):=by
   rcases q:ρ[j]? with _|z
   ·rw[q]at e;cases e
   rw[q]at e;rw[show z=Y d from e]
  obtain⟨v,n,a⟩:=h.get j d s;refine⟨v,?_,?_⟩
  ·unfold n_;rw[aY,c];simp[n]
  ·have:=kI f c;by_cases b:i∈own'
   ·rw[if_pos b];rw[if_pos (this.mp b)]at a;exact a
   ·rw[if_neg b];rw[if_neg (λz=>b (this.mpr z))]at a;exact a
section
variable {X:Cx}{m:Expr}{f:DL}
theorem Fb.imp{t:TT}(h:Fb X E t)(k:∀l H Q,b l H Q->t l H Q):Fb X E b:=λa s l H Q I q=>h a s l H Q I (k _ _ _ q)
theorem gO:Fb X [] (rg X.K own hI):=OC.imp <|by rintro l H Q ⟨G,ρ,b,a,d,c,k⟩;cases c;exact k G H (.refl a)
theorem HN(h:PT X c (rg X.K own U)):Fb X [c] (rg X.K own U):=OB h
theorem Mm{K:aT}(ho:ka own own' src=Z')(hg:∀v l H Q,Us K own' τ v l H Q->g v l H Q)(q:tF K own (nj f src τ U fe) l H Q):Rv (C7 K own f) src g (rg K own' U) (tP K own' fe) l H Q:=by
 obtain⟨G,ρ,rs,gh,P,s,k⟩:=q;unfold nj at s;obtain⟨h,ef,s⟩:=aa.1 s;have s:(if h.length<=dU then Ay (mR src ρ) τ U fe h else M)=Y rs:=s;split at s
 ·rename_i hz;refine⟨G,ρ,h,gh,P,ef,λJ A w E1 ok =>?_⟩;refine⟨λi m ys D=>m=h.length-i/\i<=h.length/\ys.length<=i/\∃R r c,f_ A w R D/\bz K R r ys/\Ay (mR src ρ) τ U fe (h.drop i)=Y c/\r++c=rs,
   ⟨h.length,rfl,eG _,aS _,A,[],rs,.refl E1.gh,.nil,s,rfl⟩,?_⟩
  rintro i m ys D ⟨rfl,Y3,hyl,R,r,c,o,rx,d,rfl⟩;have t:bD A D:=o.gg.trans o.gh;by_cases n:i<h.length
  ·refine .inr ⟨ok.go i D t n,?_,λC H'=>C.length<=i+1/\∃G3 F a,f_ A w G3 H'/\bz K G3 F C/\Ay (mR src ρ) τ U fe (h.drop (i+1))=Y a/\F++a=r++c,
    λC H' z=>⟨h.length-(i+1),by omega,rfl,n,z⟩,λx H3 y =>?_⟩
   ·have:=h_;omega
   ·obtain⟨G3,X,N⟩:=ok.Qw i D x H3 R h[i] o.gg o.gh y (bC n);rw[fw n]at d;unfold Ay at d;obtain⟨j,et,d⟩:=aa.1 d;obtain⟨b,eb,d⟩:=aa.1 d;have E13:=E1.trans (o.trans X);refine hg _ _ _ _ ⟨G3,mR src ρ,h[i],j,X.gh,(P.ext E13).src ho,N,et,λσ4 G4 H4 E4 B=>⟨G4,j,b,E4.gh,B,eb,λG5 H5 S =>?_⟩⟩;have E15:=(o.trans X).trans (E4.trans S);cases b with
    |false=>exact xG ⟨by omega,G5,r,c,E15,bz.mono ((X.trans (E4.trans S)).gg) r rx,d,rfl⟩
    |true=>
     refine zg ?_;simp only[if_true]at d;obtain⟨x4,ee,d⟩:=aa.1 d;rcases el:Ay (mR src ρ) τ U fe (h.drop (i+1)) with _|a
     ·simp[el]at d
     simp only[el,ae,bP]at d;cases d;refine⟨G5,j,x4,S.gh,B.ext S,ee,λv G6 H6 E6 r6=>⟨by simp;omega,G6,r++[x4],a,E15.trans E6,(bz.mono ((X.trans ((E4.trans S).trans E6)).gg) r rx).append (.cons r6 .nil),rfl,by simp⟩⟩
  ·have e:i=h.length:=by omega
   subst e;rw[uR]at d;unfold Ay at d;cases d;refine .inl ⟨ok.stop _ D t (aS _),λp hp =>?_⟩;have E12:=E1.trans o;refine k p ys R _ (E12.trans (f_.lay (p:=p) o.gh hp)) (E12.hh.free hp) (o.gh.free hp) br ?_;rw[bU];exact rx
 ·cases s
theorem tW(S:fK X N src T)(j:X.calm=Z')(e:PI X L O (C7 X.K own f))(n:NZ J g)(a:∀i∈J,src[i]?=Y M)(h:∀v l H Q,Us X.K own' τ v l H Q->g v l H Q)(k:∀C s H b,PG (X.tZ N T C s H b) L g/\Fb (X.tZ N T C s H b) E (rg X.K own' U)/\PE (X.tZ N T C s H b) m (tP X.K own' fe))(d:ka own own' src=true:=by decide)(c:∀x,cY O X.env x=dR x:=by intro _;rfl):PE X (.ListComp m [⟨L,O,E,0⟩] T u) (tF X.K own (nj f src τ U fe)):=
 (LD S j e n a k c).imp λl H Q q=>Mm d h q
theorem Bt{i:Nat}{c D:Pos}(S:fK X N src T)(hc:X.calm=Z')(hN:X.N.Nodup)(F:X.N[i]?=Y y)(hl:X.env.scope.names.lookup y=Y .local)(hi:PI X L O (C7 X.K own f))(ag:NZ J g)(j:∀i∈J,src[i]?=Y M)(hg:∀v l H Q,Us X.K own' τ v l H Q->g v l H Q)(hb:∀C s H z,PG (X.tZ N T C s H z) L g/\Fb (X.tZ N T C s H z) E (rg X.K own' U)/\PE (X.tZ N T C s H z) m (tP X.K own' fe))(R:ka own own' src=true:=by decide)(n:i∈own:=by decide)(d:∀a,(i,a)∉B.3:=by intro a;simp_all)(hm:Ae i∉own:=by decide)(h:cp (.ListComp m [⟨L,O,E,0⟩] T u) (Y (.Name y D)) c.line X.env=dR true:=by rfl)(q:∀x,cY O X.env x=dR x:=by intro _;rfl):PS X (.Assign [.Name y D] (.ListComp m [⟨L,O,E,0⟩] T u) c) (ib X.K B t own own (kQ i (nj f src τ U fe))):=
 (yP S hc hN F hl hi ag j hb h q).imp λD' l H ⟨G,ρ,o,S,e,k⟩=>Mm R hg (by unfold kQ at e;obtain⟨ds,ef,e⟩:=aq.1 e;cases e;exact⟨G,ρ,ds,S.gh,S.ji,ef,λp vs G' H' b P gp K r=>k _ G' H' (S.Om n b P gp K r d hm)⟩)
theorem Er{B:Bs}{D:Pos}(S:fK X N src T)(hc:X.calm=Z')(hN:X.N.Nodup)(q:X.N[i]?=Y y)(hl:X.env.scope.names.lookup y=Y .local)(hi:PI X L O (C7 X.K own f))(ag:NZ J g)(e:∀i∈J,src[i]?=Y M)(hg:∀v l H Q,Us X.K own' τ v l H Q->g v l H Q)(hb:∀C s H j,PG (X.tZ N T C s H j) L g/\Fb (X.tZ N T C s H j) E (rg X.K own' U)/\PE (X.tZ N T C s H j) m (tP X.K own' fe))(ho:ka own own' src=true:=by decide)(h:i∉own:=by decide)(d:cp (.ListComp m [⟨L,O,E,0⟩] T u) (Y (.Name y D)) b.line X.env=dR true:=by rfl)(R:∀x,cY O X.env x=dR x:=by intro _;rfl):PS X (.Assign [.Name y D] (.ListComp m [⟨L,O,E,0⟩] T u) b) (ib X.K B t own own (dD i (eF (nj f src τ U fe)))):=
 (yP S hc hN q hl hi ag e hb d R).imp λD' l H ⟨G,ρ,o,S,c,k⟩=>Mm ho hg (by
  unfold dD eF at c;rcases n:nj f src τ U fe ρ with _|K
  ·rw[n]at c;cases c
  rw[n]at c;cases c;refine⟨G,ρ,K,S.gh,S.ji,n,λp z G' H' a hp F P r=>k _ (dg G' p (.lst z)) H' ((S.ext (a.freeze hp F P)).xu h ?_)⟩;exact cW.mpr ⟨p,z,rfl,br,bz.mono (.alloc F) K r⟩)
end
inductive iq (K:aT) (F:List D->Option D) (e:List V) (H:Hp) (Q:VK) (_x:XK):Prop
 |mk G a d:bD G H->bz K G a e->F a=some d->(∀v c b,f_ G H c b->cO K c d v->Q v b)->iq K F e H Q _x
inductive Ki (K:aT) (F:List D->Option (List D)) (g:List V) (H:Hp) (Q:VK) (_x:XK):Prop
 |mk G f e:bD G H->bz K G f g->F f=some e->(∀a d c b,f_ G H c b->H a=none->c a=none->b a=some (.lst d)->bz K c e d->Q (.ref a) b)->Ki K F g H Q _x
noncomputable def ic(N:Nat)(a:List D):cy:=a.map Y++bo (N-a.length) M
def nL:DO->Option D
 |.rt d=>Y d|.ro a=>Y (.lst a)|.nx _=>Y .dJ|_=>M
def RY:DO->Option (List D)
 |.ro a=>Y a|_=>M
def j_(n N:Nat)(g:DG)(a:List D):Option D:=if a.length=n then (g (ic N a)).bind nL else M
def FP(n N:Nat)(g:DG)(a:List D):Option (List D):=if a.length=n then (g (ic N a)).bind RY else M
theorem nP{i:Nat}(h:(ic N b)[i]?=Y (Y d)):b[i]?=Y d:=by
 unfold ic at h;by_cases c:i<b.length
 ·rw[fo (by simpa using c),aY]at h;obtain⟨a,e,h⟩:=aq.1 h;rw[e];cases h;rfl
 ·rw[kX (by simpa using c),N5]at h;split at h<;>cases h
theorem u4{K:aT}{H:Hp}{m:List V}(s:bD G H)(r:bz K G k m)(t:∀i∈own,k.length<=i):SR K ⟨G,H,[],x⟩ own G H (start N m) (ic N.length k):=by
 have g:∀i d,i∈own->(ic N.length k)[i]?=Y (Y d)->False:=λi d f e=>by have:=(au.mp (nP e)).1;have:=t i f;omega
 refine⟨s,bD.refl _,bD.refl _,λb o e =>.inl e,λi d f e =>?_,⟨λ_=>[],λi d f e=>(g i d f e).elim,λi d f e=>(g i d f e).elim,λi j d c f z e=>(g i d f e).elim⟩,by simp[start,ic,r.length],λi a h=>(by cases h),λj r p w A e=>(g j _ w e).elim⟩;obtain⟨v,n,q⟩:=r.get (nP e);refine⟨v,?_,q⟩;have f:i<m.length:=(au.mp n).1;unfold start;rw[fo (by simpa using f),aY,n];rfl
section
variable {P:bt}{K:aT}
theorem hG.w3{m:qP}{f:az}{N:List aG}(F:hG K x e m f O)(S:bB N I (aB m)){own own':List Nat}{g:DG}(p:∀i∈own,I.length<=i) (hb:∀(j:ak) (A:gD) (outer:List Env) (s:av) (H:Hp) (E:XK),eM k (A.deeper (qm e (aB m) s.heap.objs.size f j))->∀B:Bs,B.3=[] ->
   oP (qI gS P w K u y N e (aB m) f j A outer s H E).Jj (gv m) (ib K B [] own own' g)):b_ P w K u y gS (k+1) f O I (iq K (j_ I.length N.length g)):=by
 refine F.ok S (λR H Q E h =>?_) (λj A outer s H R Q E U h =>?_)
 ·obtain⟨G,ds,d,c,r,b,_⟩:=h;unfold j_ at b;split at b
  ·rw[<- r.length];assumption
  ·cases b
 ·obtain⟨G,ds,d,c,r,b,q⟩:=h;unfold j_ at b;split at b
  ·rename_i X;refine⟨_,hb j A outer s H E U ⟨G,H,[],λ_ _=>False⟩ rfl,?_⟩;obtain⟨o,eg,b⟩:=aa.1 b;refine⟨G,_,o,u4 c r (by rw[X];exact p),eg,?_⟩;cases o with
   |rt d'=>cases b;exact λv z t E r=>q v z t E r
   |ro T=>cases b;exact λa J z t E h1 L h3 r=>q _ (dg z a (.lst J)) t (E.freeze h1 L h3) (cW.mpr ⟨a,J,rfl,br,bz.mono (.alloc L) T r⟩)
   |nx D=>cases b;exact λσ z t S=>q _ z t S.mX (gI.mpr rfl)
   |_=>cases b
  ·cases b
theorem hG.Yt{f:az}(F:hG K x j p f I)(S:bB N z (aB p)){own own':List Nat}{g:DG}(t:∀i∈own,z.length<=i) (R:∀(m:ak) (A:gD) (e:List Env) (s:av) (H:Hp) (E:XK),eM k (A.deeper (qm j (aB p) s.heap.objs.size f m))->∀B:Bs,B.3=[] ->
   oP (qI gS P w K u y N j (aB p) f m A e s H E).Jj (gv p) (ib K B [] own own' g)):b_ P w K u y gS (k+1) f I z (Ki K (FP z.length N.length g)):=by
 refine F.ok S (λJ H Q E h =>?_) (λm A e s H J Q E c h =>?_)
 ·obtain⟨G,ds,d,D,r,b,_⟩:=h;unfold FP at b;split at b
  ·rw[<- r.length];assumption
  ·cases b
 ·obtain⟨G,ds,d,D,r,b,q⟩:=h;unfold FP at b;split at b
  ·rename_i O;refine⟨_,R m A e s H E c ⟨G,H,[],λ_ _=>False⟩ rfl,?_⟩;obtain⟨o,eg,b⟩:=aa.1 b;refine⟨G,_,o,u4 D r (by rw[O];exact t),eg,?_⟩;cases o with
   |ro rs=>cases b;exact λa L G' H' E X U T r=>q a L G' H' E X U T r
   |_=>cases b
  ·cases b
structure ml(P:bt)(w:cZ)(K:aT)(mg:aG->Option ak)(base:cD)(x:aG)(k:Nat)(sp:Sp):Prop where
 ex:∃f fd ps,b_ P w K mg base gS k f fd ps sp/\mg x=some (.ref f)/\qk K (.ref f)=true/\Binds K fd ps []
theorem ml.mono(h:ml P w K u y x j a)(c:j<=k):ml P w K u y x k a:=by
 obtain⟨f,g,b,e,d⟩:=h.ex;exact⟨f,g,b,e.mono c,d⟩
end
section
variable {X:Cx}
theorem PL{F:List D->Option D}(h:ml X.prog X.w X.K X.mg X.base x k (iq X.K F))(s:eM k X.A)(z:Gl X x)(E:PA X (e::l) (BP X.K own g))(b:(x==("__debug__" : aG))=false:=by decide)(A:ao (e::l) X.env=(Z_,eval e X.env)::ao l X.env:=by rfl)(a:(cv C (ao l X.env)).any (·.1)=false:=by rfl):PE X (.Call (.Name x p) (e::l) [] C) (tP X.K own (bf F g)):=by
 obtain⟨f,fd,U,I,t,w,B⟩:=h.ex;refine(vh I s z t w B .nil oB E b A a).imp ?_;rintro T H Q ⟨G,m,d,J,c,L,q⟩;obtain⟨i,K,u⟩:=zF L;exact⟨G,m,i,J,c,K,λn R O j r=>by show iq X.K F (n++[]) O Q E0;rw[bU];exact⟨R,i,d,j.gh,r,u,λv P N S o=>q v P N (j.trans S) o⟩⟩
def qY(F:List D->Option (List D))(g:DL):DL:=λa=>(g a).bind F
theorem Wo{F:List D->Option (List D)}(h:ml X.prog X.w X.K X.mg X.base x k (Ki X.K F))(w:eM k X.A)(B:Gl X x)(J:PA X (e::l) (BP X.K own g))(d:(x==("__debug__" : aG))=false:=by decide)(E:ao (e::l) X.env=(Z_,eval e X.env)::ao l X.env:=by rfl)(c:(cv C (ao l X.env)).any (·.1)=false:=by rfl):PE X (.Call (.Name x p) (e::l) [] C) (tF X.K own (qY F g)):=by
 obtain⟨f,fd,ps,i,z,A,I⟩:=h.ex;refine(vh i w B z A I .nil oB J d E c).imp ?_;rintro σ H Q ⟨G,o,O,u,j,b,q⟩;unfold qY at b;obtain⟨n,N,b⟩:=aa.1 b;exact⟨G,o,n,u,j,N,λr T R m v=>by show Ki X.K F (r++[]) R Q E0;rw[bU];exact⟨T,n,O,m.gh,v,b,λa s S P U i L K t=>q a s S P (m.trans U) (m.hh.free i) L K t⟩⟩
def A1:D->Bool
 |.dJ=>Z'|.bl _=>Z'|.int _=>Z'|.str _=>Z'|_=>Z_
end
theorem Su{F:List D->Option D}{m:Nat}(e:∀b:List Int,b.length<=m->F [.mD b]=Y (.bl Z'))(K:aT)(H:Hp)(a:az)(b:List Int)(c:b.length<=m)(f:Nv H)(d:nT K H a (b.map V.int)):
  iq K F [.ref a] H (λv _=>v=.bl Z') λ_ _ _=>False:=
 ⟨H,[.mD b],.bl Z',bD.refl _,.cons (Hf.mpr ⟨a,rfl,d⟩) .nil,e b c,λv h g E r=>dn.mp r⟩
def XO(K:aT)(a:az):It:=
 ⟨λi H=>∃b x,nT K H a b/\b[i]?=Y x,λi H v c=>∃x p,(∀b,nT K H a b->b[i]?=Y x)/\H p=M/\v=.ref p/\c=dg H p (.tup [.int i,x]),λi H=>∃b,nT K H a b/\b.length<=i⟩
theorem IK{P:bt}{K:aT}{x1}(a e t:az)(T:e≠t):J5 P w K (.Tuple ZW x1 N) (XO K a) [e,t] e (λi h=>(∃l,IsEnum h e t (i:Int) l)/\h.IsListIter t a i) where
 mem:=by simp
 obj:=λi h D b g=>by
  obtain⟨⟨l,f⟩,j⟩:=D;rcases aW.mp g with rfl|g
  ·exact⟨_,f,λv z=>by cases z⟩
  ·have e:b=t:=by simpa using g
   subst e;obtain⟨o,e,c,d⟩:=j;exact⟨o,e,λv z=>by rw[d]at z;cases z⟩
 keep:=λi h h' D k=>by obtain⟨⟨l,f⟩,j⟩:=D;exact⟨⟨l,k e (by simp) _ f⟩,j.at λo q=>k t (by simp) o q⟩
 item:=by
  intro X hP hw hK hc i J s σ H E I R D hg;subst hP hw hK;obtain⟨⟨l,f⟩,j⟩:=D;obtain⟨xs,x,hq,B⟩:=hg;obtain⟨E_,rv,p,hz⟩:=I.list hq;obtain⟨u,hu,ru⟩:=rv.get B;have fe:=R e (by simp);have U:=R t (by simp);refine wpAny_pyNext_enum_item f j p.isList (x:=u) (by simpa using hu) T λh1 eo it1 t1 z1 k1 =>?_
  refine⟨_,rfl,?_⟩;refine wpAny_letOwnedTupleGo_enum (s:={ s with heap:=h1,toks:=s.toks+1 }) eo λG e2 s2 =>?_
  have S:e<s.heap.objs.size:=aJ f;have V:H s.heap.objs.size=none:=I.eW.fresh (aS _);have L:fD e h1 G:=s2;have m:∀b o,b≠e->b≠t->s.heap.get? b=Y o->G.get? b=Y o:=λb o h3 h4 q=>(L.2 b h3).trans (k1 b o h3 h4 q)
  have tup:G.get? s.heap.objs.size=Y { cls :=.type "tuple",data :=.seq #[.int i s.toks,u] }:=(L.2 _ (fQ S)).trans t1;have C:∀b o,H b=Y o->b≠e/\b≠t:=λb o q=>⟨λz=>by(rw[z,fe.1]at q;cases q),λz=>by(rw[z,U.1]at q;cases q)⟩
  have new:fJ X.prog X.w (dg H s.heap.objs.size (.tup [.int i,x])) G s.heap.objs.size (.tup [.int i,x]):=
   ⟨by show 2<=bb;rw[il];decide,[.int i s.toks,u],.cons ⟨_,rfl⟩ (.cons ru .nil),_,tup,rfl,_,rfl⟩
  have O:nU X.prog X.w (dg H s.heap.objs.size (.tup [.int i,x])) G:=λb o q=>by
   by_cases g:b=s.heap.objs.size
   ·subst g;rw[br]at q;cases q;exact new
   ·rw[aZ g]at q;refine(I.eW b o q).xq (λc v F r =>?_) (λc r=>by rw[aZ (bI r V)];exact r) λc ys r=>by rw[aZ (bI r V)];exact r
    rcases F with rfl|F
    ·exact m _ _ (C _ _ q).1 (C _ _ q).2 r
    ·exact m _ _ (C _ _ F).1 (C _ _ F).2 r
  have un:Un (yk X.stack) [e,t] H (dg H s.heap.objs.size (.tup [.int i,x])) s.heap G:=by
   have y:∀b,b∉[e,t]->b≠e/\b≠t:=λb g=>⟨λz=>g (by simp[z]),λz=>g (by simp[z])⟩
   have l:∀b o,s.heap.get? b=Y o->b≠s.heap.objs.size:=λb o q=>bH (aJ q)
   refine⟨λb o q n _ B=>m b o (y b B).1 (y b B).2 q,λb o q n _ B=>⟨o.slots,m b o (y b B).1 (y b B).2 q⟩,λb o q n B=>by rw[aZ (l b o q)];exact n,
    λb o q B=>⟨o,m b o (y b B).1 (y b B).2 q⟩,λb ys q=>by rw[aZ (bI q V)];exact q,λb o u q=>by rw[aZ (bI q V)];exact q,λb ps q=>⟨#[],by rw[aZ (bI q V)];simpa using q⟩⟩
  have I2:Inv X J σ (dg H s.heap.objs.size (.tup [.int i,x])) { s with heap:=G,toks:=s.toks+1 }:=I.zQ (s':={ s with heap:=G,toks:=s.toks+1 }) rfl un O I.bare λb g=>by
   rcases aW.mp g with rfl|g
   ·exact⟨fe.2.2.2.1,fe.2.1,fe.2.2.2.2.1,fe.2.2.2.2.2⟩
   ·have z:b=t:=by simpa using g
    subst z;exact⟨U.2.2.2.1,U.2.1,U.2.2.2.2.1,U.2.2.2.2.2⟩
  have W5:G.IsListIter t a (i+1):=it1.at λo q=>(L.2 t (bG T)).trans q
  refine⟨.ref s.heap.objs.size,_,I2,rfl,⟨x,s.heap.objs.size,λys hy=>by rw[I.se hy hq];exact B,V,rfl,rfl⟩,⟨⟨u,by exact_mod_cast e2⟩,W5⟩,λb g =>?_⟩;have:b≠s.heap.objs.size:=by
   rcases aW.mp g with rfl|g
   ·exact bH S
   ·have z:b=t:=by simpa using g
    subst z;obtain⟨o,q,_⟩:=j;exact bH (aJ q)
  rw[aZ this];exact(R b g).1
 done:=by intro X hP hw hK hc i J s σ H E I R D hg;subst hP hw hK;obtain⟨⟨l,f⟩,j⟩:=D;obtain⟨xs,hq,B⟩:=hg;obtain⟨E_,rv,p,hz⟩:=I.list hq;obtain⟨f0,f1,f2,f3,f4,f5⟩:=R t (by simp);have hl:=rv.length;exact wpAny_pyNext_enum_end (I.ok.hd hc) f j p.isList (by simp;omega) λh' eb=>⟨rfl,I.turned (t':=s.toks) (λb o g q=>eb b o g q) f0 f1 f3 f4 f5⟩
 self:=λA i s Q E D h=>by obtain⟨⟨l,f⟩,j⟩:=D;exact wpAny_pyIter_enum f h
section
variable {X:Cx}{f:DF}
def SQ(K:aT)(e:TE):TI:=λc H R=>e c H λx b=>∃a,x=.ref a/\(∃d,nT K b a d)/\R (XO K a) b
theorem OK{A}{v:TE}(Q:Gl X "enumerate")(O:X.mg "enumerate" = M)(P:PE X e v)(V:ao [e] X.env=[(Z_,eval e X.env)]:=by rfl)(n:ao [e] X.env=(Z_,eval e X.env)::ao [] X.env:=by rfl)(L:fA "enumerate" = Y (.type "enumerate"):=by decide +kernel):PI X (.Tuple k A g) (.Call (.Name "enumerate" p) [e] [] i) (SQ X.K v):=by
 intro j s y H R I h;refine Call_ (qC I Q O L (gV (fE (cJ P gA n i j s y H (λl f=>match l with|[x]=>∃a,x=.ref a/\(∃r,nT X.K f a r)/\R (XO X.K a) f|_=>False) I h) ?_) V rfl));rintro U c ⟨l,f,d,C,m⟩;cases l with
 |nil=>exact m.elim|cons x t=>
  cases t with
  |cons _ _=>exact m.elim|nil=>
  obtain⟨a,rfl,⟨r,N⟩,q⟩:=m;obtain⟨u,rfl,B⟩:=cg.one C;cases B;obtain⟨K,rv,D,hz⟩:=d.list N;refine call_enumerate_list D.isList λS w G T J =>?_
  refine wpAny_pyIter_enum (s:={ c with heap:=S }) w ?_;have E:f (c.heap.objs.size+1)=none:=d.eW.fresh (iU _);have F:f c.heap.objs.size=none:=d.eW.fresh (aS _);refine⟨c.heap.objs.size+1,[c.heap.objs.size+1,c.heap.objs.size],_,_,f,rfl,d.kept (t':=c.toks) J,IK a (c.heap.objs.size+1) c.heap.objs.size (fQ (jx _)),⟨⟨_,w⟩,G⟩,λb o =>?_,q⟩;rcases aW.mp o with rfl|o
  ·exact d.zq (iU _) E
  ·have z:b=c.heap.objs.size:=by simpa using o
   subst z;exact d.zq (aS _) F
def xb(a:List D):List D:=a.zipIdx.map λp =>.tup [.int (p.2:Nat),p.1]
theorem wx{i:Nat}(h:(xb a)[i]?=Y d):∃x,a[i]?=Y x/\d=.tup [.int i,x]:=by
 unfold xb at h;rw[aY,List.getElem?_zipIdx]at h;rcases e:a[i]? with _|x
 ·rw[e]at h;cases h
 rw[e]at h;cases h;exact⟨x,rfl,by simp⟩
theorem wu(a:List D):(xb a).length=a.length:=by simp[xb]
theorem Jv{K:aT}{a:az}(k:G a=Y (.lst b))(r:bz K G n b):EM K G (XO K a) (xb n):=by
 refine⟨λi H s e =>?_,λi H s e=>⟨b,.of (s _ _ k),by rw[wu]at e;rw[<- r.length];exact e⟩,λi H x B A d l h ⟨y,p,f,m,u,w⟩ t =>?_⟩
 ·rw[wu]at e;have j:i<b.length:=by rw[<- r.length];exact e
  exact⟨b,b[i],.of (s _ _ k),by simp[j]⟩
 ·obtain⟨c,z,rfl⟩:=wx t;have q:=f b (.of (h _ _ (l _ _ k)));obtain⟨v,g,o⟩:=r.get z;rw[q]at g;cases g;subst u w;refine⟨dg A p (.tup [.int i,y]),f_.alloc h m,fg.mpr ⟨p,_,rfl,br,.cons (bX.mpr rfl) (.cons (cO.mono (l.trans (.alloc (h.free m))) c o) .nil)⟩⟩
def iE(f:DF):DL:=λa=>(iL f a).map xb
theorem XB{c:List Expr}{o}(w:Gl X "enumerate")(u:X.mg "enumerate" = M)(h:PE X e (tP X.K own f))(t:ao [e] X.env=[(Z_,eval e X.env)]:=by rfl)(i:ao [e] X.env=(Z_,eval e X.env)::ao [] X.env:=by rfl):
  PI X (.Tuple c o b) (.Call (.Name "enumerate" p) [e] [] g) (C7 X.K own (iE f)):=(OK w u h t i).imp <|by
 rintro B H R ⟨G,n,D,x,j,d,k⟩;unfold iE at d;obtain⟨C,y,d⟩:=aq.1 d;cases d;refine⟨G,n,_,x,j,vt y,λv A z m s =>?_⟩;obtain⟨a,q,rfl,l,r⟩:=cW.mp s;exact⟨a,rfl,⟨q,.of (m.gh _ _ l)⟩,k _ A z m (Jv l r)⟩
def ZQ(x:aG):It:=⟨λi _=>i<x.cps.size,λi H v a=>a=H/\∃c,x.cps[i]?=Y c/\v=.str ⟨#[c]⟩,λi _=>x.cps.size<=i⟩
theorem KJ{P:bt}{K:aT}(x:aG)(t:Tok)(j:az):J5 P w K G (ZQ x) [j] j (λi h=>h.IsStrIter j "str_ascii_iterator" x t i) where
 mem:=by simp
 obj:=λi h a b l=>by
  have e:b=j:=by simpa using l
  subst e;obtain⟨o,e,c,d⟩:=a;exact⟨o,e,λv z=>by rw[d]at z;cases z⟩
 keep:=λi h p a k=>by obtain⟨o,e,c,d⟩:=a;exact⟨o,k j (by simp) o e,c,d⟩
 item:=by
  intro X q hw r F i f s D H E I n a g;subst q hw r;obtain⟨C,B,L,A,y,u⟩:=n j (by simp);have g:i<x.cps.size:=g;refine wpAny_pyNext_ascii_item a (c:=x.cps[i]) (by simp[g]) λp m J =>?_
  have N:Inv X f D H { s with heap:=p,toks:=s.toks+1 }:=I.turned (λb o l e=>(J.2 b l).trans e) C B A y u;obtain⟨o,e,c,d⟩:=id m;exact⟨_,rfl,ME (s:={ s with heap:=p,toks:=s.toks+1 }) e c d (by decide) ⟨.str ⟨#[x.cps[i]]⟩,H,N,⟨_,rfl⟩,⟨rfl,_,by simp[g],rfl⟩,m,λb l=>(n b l).1⟩⟩
 done:=by intro X q hw r F i f s D H E I n a g;subst q hw r;obtain⟨C,B,L,A,y,u⟩:=n j (by simp);have g:x.cps.size<=i:=g;exact wpAny_pyNext_ascii_end (I.ok.hd F) a (by simp[g]) λp O=>⟨rfl,I.turned (t':=s.toks) (λb o l e=>O b o l e) C B A y u⟩
 self:=λ_ _ _ _ _ a h=>wpAny_pyIter_striter_ascii a h
def VQ(b:TE):TI:=λa H R=>b a H λv c=>∃x,v=.str x/\x.cps.all (· < 128)=Z'/\R (ZQ x) c
theorem RS{f:TE}(m:PE X l f):PI X i l (VQ f):=by
 intro a s g H R I h;refine fE (m a s g H _ I h) ?_;rintro v c ⟨x,r,d,j,k⟩;obtain⟨z,e,p,q⟩:=k;subst e;obtain⟨t,rfl⟩:=j;refine wpAny_pyIter_ascii p ?_;refine⟨c.heap.objs.size,[c.heap.objs.size],_,_,r,rfl,d.kept (t':=c.toks) λb o e=>ai _ e,KJ z t _,⟨_,bx _ rfl,rfl,rfl⟩,λb n =>?_,q⟩;have e:b=c.heap.objs.size:=by simpa using n
 subst e;exact d.zq (aS _) (d.eW.fresh (aS _))
noncomputable def ud(x:aG):List D:=x.cps.toList.map λc =>.str ⟨#[c]⟩
def iS(f:DF):DL:=λa=>(f a).bind λd=>match d with|.str x=>if x.cps.all (· < 128)=Z' then Y (ud x) else M|_=>M
theorem Mt{K:aT}(x:aG):EM K G (ZQ x) (ud x):=by
 have f:(ud x).length=x.cps.size:=by simp[ud]
 refine⟨λi H s a=>by rw[f]at a;exact a,λi H s a=>by rw[f]at a;exact a,λi H v m k d l g ⟨e,c,j,h⟩ b =>?_⟩;subst e h;refine⟨k,.refl g,?_⟩;unfold ud at b;rw[aY,wU,j]at b;cases b;exact iG.mpr rfl
theorem Tt{g:Expr}(h:PE X e (tP X.K own f)):PI X g e (C7 X.K own (iS f)):=(RS h).imp <|by
 rintro q H R ⟨G,c,r,l,b,a,k⟩;unfold iS at a;obtain⟨d,m,a⟩:=aa.1 a;cases d<;>simp only[ae]at a<;>try (cases a;done)
 split at a
 ·cases a;rename_i x j;exact⟨G,c,_,l,b,m,λv o n p i=>⟨x,iG.mp i,j,k _ o n p (Mt x)⟩⟩
 ·cases a
end
theorem gL{K:aT}{own:List Nat}(i:Nat)(e:i∉own:=by decide):∀v a H Q,Us K own (gN i) v a H Q->pf i v a H Q:=λv a H Q ⟨G,h,d,c,f,b,r,g,k⟩=>by
 cases g;exact k _ G H (.refl f) (b.set e r)
def vw(b:Scope)(d N:List aG)(c:List (Option Nat))(a:Scope):Bool:=
 (a.names.all λy=>a.names.lookup y.1==Y y.2)&&(a.names.all λy=>y.2 != .free||(b.names.lookup y.1==Y .cell||b.names.lookup y.1==Y .free))&&(c.length==N.length) &&
 ((cw c.length).all λi=>match c[i]?,N[i]? with|some (Y j),Y x=>d[j]? == Y x&&a.names.lookup x==Y .free|_,_=>Z')
theorem jj{X:Cx}{outer:Scope}{oN N:List aG}{src:List (Option Nat)}(d:a.kind=.function)(h:vw outer oN N src a=Z')(p:X.env.scope=outer)(o:X.N=oN):fK X N src a:=by
 unfold vw at h;simp only[aV,cA,beq_iff_eq,vO]at h;obtain⟨⟨⟨n,m⟩,l⟩,k⟩:=h;refine⟨d,λy b=>n y b,λy b f =>?_,l,λi j x c g =>?_⟩
 ·rw[p];rcases m y b with z|z
  ·rw[f]at z;exact absurd z (by decide)
  ·exact z
 ·have e:i<src.length:=(au.mp c).1;have:=k i (by simpa using e);rw[c,g]at this;simp only[aV,beq_iff_eq]at this;rw[o];exact this
section
variable {m:bt}{s:av}{R:NL->av->Prop}
variable {P:Nat->ak->Prop}
end
section
variable {m:bt}{s:av}
variable {P:Nat->ak->Prop}
end
section
variable {X:Cx}{f:DF}
end
abbrev DM:=cy->Option (D×cy)
abbrev J2:=cy->Option (List D×cy)
inductive tM (K:aT) (B:Bs) (own:List Nat) (f:DM) (c:St) (H:Hp) (Q:VK):Prop
 |mk G e d a:SR K B own G H c e->f e=some (d,a)->(∀v b g,SR K B own b g c a->bD G b->cO K b d v->Q v g)->tM K B own f c H Q
inductive Ru (K:aT) (B:Bs) (own:List Nat) (f:J2) (c:St) (H:Hp) (Q:List V->Hp->Prop):Prop
 |mk G d g a:SR K B own G H c d->f d=some (g,a)->(∀e b h,SR K B own b h c a->bD G b->bz K b g e->Q e h)->Ru K B own f c H Q
def Dd(H:Hp)(a:az):Hp:=λb=>if b=a then M else H b
theorem zx:Dd H a a=none:=by simp[Dd]
theorem uv(h:b≠a):Dd H a b=H b:=by simp[Dd,h]
theorem HH:bD (Dd H a) H:=λb o e=>by
 by_cases h:b=a
 ·subst h;rw[zx]at e;cases e
 ·rw[uv h]at e;exact e
section
variable {X:Cx}{m:Pos}
def mP(f:DF):DM:=λρ=>(f ρ).map λd=>(d,ρ)
theorem O4{f:DF}(h:mP f b=Y (d,a)):f b=Y d/\a=b:=by
 unfold mP at h;obtain⟨c,e,h⟩:=aq.1 h;rw[e];cases h;exact⟨rfl,rfl⟩
theorem Cu{f:DF}(h:PE X e (tP X.K own f)):PE X e (tM X.K B own (mP f)):=h.imp <|by
 rintro j H Q ⟨G,n,d,a,S,b,k⟩;obtain⟨c,rfl⟩:=O4 b;exact⟨G,a,d,S.gh,S.ji,c,λv i g E r=>k v i g (S.ext E) E.gg r⟩
def kf:J2:=λρ=>Y ([],ρ)
def iY(f:DM)(g:J2):J2:=λρ=>(f ρ).bind λp=>(g p.2).bind λq=>Y (p.1::q.1,q.2)
theorem Me{f:DM}(h:iY f g d=Y (j,b)):∃x a c,f d=Y (x,a)/\g a=Y (c,b)/\j=x::c:=by
 unfold iY at h;obtain⟨⟨x,a⟩,i,h⟩:=aa.1 h;rw[i];rcases e:g a with _|⟨c,k⟩
 ·rw[e]at h;cases h
 rw[e]at h;cases h;exact⟨x,a,c,rfl,e,rfl⟩
theorem PF:PA X [] (Ru X.K B own kf):=gA.imp <|by
 rintro c H Q ⟨G,e,d,a,S,b,k⟩;cases b;exact k _ G H S (bD.refl _) .nil
theorem zJ{f:DM}{g:J2}(h:PE X e (tM X.K B own f))(t:PA X l (Ru X.K B own g))(r:ao (e::l) X.env=(Z_,eval e X.env)::ao l X.env:=by rfl):PA X (e::l) (Ru X.K B own (iY f g)):=
 (cJ h t r).imp <|by rintro F H Q ⟨G,j,d,b,S,w,k⟩;obtain⟨x,a,n,u,c,rfl⟩:=Me w;exact⟨G,j,x,a,S,u,λv E J z o q=>⟨E,a,n,b,z,c,λI D C y i p=>k _ D C y (o.trans i) (.cons (cO.mono i x q) p)⟩⟩
def xF(g:J2):DM:=λa=>(g a).bind λq=>if q.1.length<=1000 then Y (.tup q.1,q.2) else M
theorem Tp{q}{g:J2}(h:PA X l (Ru X.K B own g)):PE X (.Tuple l q m) (tM X.K B own (xF g)):=(Ly h).imp <|by
 rintro v H Q ⟨G,i,d,b,S,a,k⟩;unfold xF at a;rw[aa]at a;obtain⟨⟨c,e⟩,f,a⟩:=a;have a:(if c.length<=1000 then Y (D.tup c,e) else M)=Y (d,b):=a;split at a
 ·cases a;rename_i t;refine⟨G,i,c,b,S,f,λj x w o r n=>⟨?_,λp u =>?_⟩⟩
  ·rw[<- n.length];exact bK t vn
  ·have E:=f_.alloc (p:=p) (o :=.tup j) o.gh u;exact k _ _ _ (o.ext E) (r.trans E.gg) (fg.mpr ⟨p,j,rfl,br,bz.mono E.gg c n⟩)
 ·cases a
def m2(o:D->D->Option D)(a b:DM):DM:=λc=>(a c).bind λp=>(b p.2).bind λq=>(o p.1 q.1).map λd=>(d,q.2)
theorem O5{f:cy}(h:m2 o a b g=Y (d,f)):∃x e y,a g=Y (x,e)/\b e=Y (y,f)/\o x y=Y d:=by
 unfold m2 at h;obtain⟨⟨x,e⟩,k,h⟩:=aa.1 h;rw[k];rcases j:b e with _|⟨y,n⟩
 ·rw[j]at h;cases h
 rw[j]at h;simp only[ae]at h;rcases i:o x y with _|c
 ·rw[i]at h;cases h
 rw[i]at h;cases h;exact⟨x,e,y,rfl,j,i⟩
theorem QI{K:aT}{s:DM}(h:tM K B own (m2 o s A) c H Q):Uu (rD K o) (tM K B own s) (tM K B own A) c H Q:=by
 obtain⟨G,i,d,b,S,z,k⟩:=h;obtain⟨x,a,y,t,r,C⟩:=O5 z;exact⟨G,i,x,a,S,t,λv L N E j q=>⟨L,a,y,b,E,r,λu J l f e p=>⟨J,x,y,d,f.gh,.inl (cO.mono e x q),.inl p,C,λw I F g n=>k w I F (f.ext g) ((j.trans e).trans g.gg) n⟩⟩⟩
variable {s:DM}
theorem aa9(d:AF X (dX c) o)(f:PE X a (tM X.K B own s))(e:PE X b (tM X.K B own A)):PE X (.BinOp a c b m) (tM X.K B own (m2 o s A)):=(LB d f e).imp λg H Q h=>QI h
def O3(j:Nat):DM:=λb=>(iZ j b).bind λa=>(a[a.length-1]?).map λd=>(d,b.set j (Y (.lst a.dropLast)))
theorem Tq{b a:Pos}(h:PE X (.Name y p) (iC j))(q:j∈own:=by decide)(f:bY (.Name y p) "pop" X.env (eval (.Name y p) X.env)=eval (.Name y p) X.env:=by rfl)(e:(b.endLine==a.line)=true:=by rfl):
  PE X (.Call (.Attribute (.Name y p) "pop" b) [] [] a) (tM X.K B own (O3 j)):=
 (LK lL PySem.F.slot_list_pop PySem.F.type_list_pop L_ h f e).imp <|by
  rintro x H Q ⟨G,z,d,o,S,g,k⟩;unfold O3 at g;obtain⟨n,t,g⟩:=aa.1 g;rcases i:n[n.length-1]? with _|c
  ·simp[i]at g
  simp only[i,ae,bP]at g;cases g;exact RP S q (fx t) i λv w u r=>k v G w u (bD.refl _) r
inductive BQ (K:aT) (p:Nat) (F:List D->Option (D×List D)) (h:List V) (H:Hp) (Q:VK) (_x:XK):Prop
 |mk G f d b a n k:bD G H->f[p]?=some (.lst k)->h[p]?=some (.ref a)->H a=some (.lst n)->bz K G k n->G a=none->(∀(i:Nat) c,i≠p->f[i]?=some c->∃v,h[i]?=some v/\cO K G c v)->f.length=h.length->F f=some (d,b)->(∀v e g j,f_ G (Dd H a) g j->g a=none->j a=some (.lst e)->bz K g b e->cO K g d v->Q v j)->BQ K p F h H Q _x
def OQ(p:Nat):DO->Option (D×List D)
 |.rm d a=>(iZ p a).map λb=>(d,b)
 |.nx a=>(iZ p a).map λb=>(.dJ,b)
 |_=>M
def Aq(n N p:Nat)(g:DG)(a:List D):Option (D×List D):=if a.length=n then (g (ic N a)).bind (OQ p) else M
theorem SR.PY{K:aT}{f v:Hp}{a:az}(S:SR K B own G H g i)(w:j∈own)(t:i[j]?=Y (Y d))(p:g[j]?=Y (Y (.ref a)))(E:f_ G (Dd H a) f v)(L:f a=M)(C:v a=Y n)(r:jk K f u n)(x:vp d=true:=by rfl):SR K B own f v g (i.set j (Y u)):=by
 obtain⟨F,W⟩:=S.ow;obtain⟨Q,y,N⟩:=W.it j d w t;rw[p]at y;cases y;obtain⟨⟨o,P,O⟩,l⟩:=(nI.cell x).mp N;have:=S.chg (i:=j) (a:=a) (d':=u) (F0:=[a]) (S':=[a]) W w (λb c=>⟨by rw[l];exact c,d,t⟩) E.gg E.gh (λb o e=>by
   rcases E.fr b o e with z|z
   ·exact .inl z
   ·by_cases c:b=a
    ·exact .inr (.inr (by simp[c]))
    ·rw[uv c]at z;exact .inr (.inl z))
  (λb o c e=>E.hh b o (by rw[uv (by simpa using c)];exact e)) ((nI.cell r.vp).mpr ⟨⟨n,C,r⟩,rfl⟩) (by simp) (λb c=>by simp at c;subst c;exact⟨L,.inl (by simp)⟩)
  (λb h=>by have:=(S.pin j b h).2;rw[p]at this;cases this;rfl) (CN r.vp) (λk q J I _ e=>(S.QO t x k q J I e).elim)
 rwa [gf p]at this
theorem SR.called{K:aT}{f:Hp}{e:cy}{a:az}{xs':List D}{b:List V}(S:SR K B own G H d e)(i:j∈own)(k:e[j]?=Y (Y (.lst g)))(h:d[j]?=Y (Y (.ref a)))(E:f_ G (Dd H a) c f)(o:c a=M)(n:f a=Y (.lst b))(r:bz K c xs' b):SR K B own c f d (e.set j (Y (.lst xs'))):=
 S.PY i k h E o n ⟨b,rfl,r⟩
def tS(F:List D->Option (D×List D))(j:Nat)(g:DL):DM:=λa=>(iZ j a).bind λb=>(g a).bind λds=>(F (.lst b::ds)).map λq=>(q.1,a.set j (Y (.lst q.2)))
theorem Xz{F:List D->Option (D×List D)}{e:Pos}{g:DL}(h:ml X.prog X.w X.K X.mg X.base x k (BQ X.K 0 F))(hr:eM k X.A)(hg:Gl X x)(hy:PE X (.Name y e) (iC j))(ha:PA X l (BP X.K own g))(w:j∈own:=by decide)(z:(x==("__debug__" : aG))=false:=by decide)(O:ao (.Name y e::l) X.env=(Z_,eval (.Name y e) X.env)::ao l X.env:=by rfl)(u:(cv m (ao l X.env)).any (·.1)=false:=by rfl):PE X (.Call (.Name x p) (.Name y e::l) [] m) (tM X.K B own (tS F j g)):=by
 obtain⟨f,fd,ps,h1,hm,hk,hb⟩:=h.ex;refine(vh h1 hr hg hm hk hb .nil oB (cJ hy ha O) z O u).imp ?_;rintro σ H Q ⟨G,n,d,U,S,b,q⟩;unfold tS at b;obtain⟨r,E,b⟩:=aa.1 b;obtain⟨L,I,b⟩:=aa.1 b;obtain⟨⟨d',o⟩,J,b⟩:=aq.1 b;cases b;have C:=fx E;obtain⟨a,vs,K,e3,e4,e5,e6⟩:=S.mG w C;refine⟨_,K,G,n,L,S.gh,S.ji,I,λus G1 H1 s N =>?_⟩;have R:=S.ext s;obtain⟨a',t,P,f3,f4,f5,f6⟩:=R.mG w C;rw[K]at P;cases P;show BQ X.K 0 F ((.ref a::us)++[]) H1 Q E0;rw[bU];refine⟨G1,.lst r::L,d',o,a,t,r,s.gh,rfl,rfl,f3,f4,f5,λi c hi ec =>?_,by simp[N.length],J,λv ws' G2 H2 T g2 h2 r2 r3 =>?_⟩
 ·cases i with
  |zero=>exact absurd rfl hi|succ i=>exact N.get (i:=i) (by simpa using ec)
 ·exact q v G2 H2 (R.called w C K T g2 h2 r2) (s.gg.trans T.gg) r3
end
section
variable {X:Cx}{m:List Nat}{f:DM}
def nh(i:Nat)(f:DM):DG:=λa=>(f a).map λq =>.nx (q.2.set i (Y q.1))
theorem Xu{i:Nat}(w:X.N.Nodup)(p:X.N[i]?=Y x)(h:Loc X.env.scope x)(s:PE X e (tM X.K B own f))(n:i∉own:=by decide)(j:cp e (Y (.Name x a)) l.line X.env=dR false:=by rfl)(q:X.fn x=Z'∨X.env.scope.names.lookup x=Y .local:=by first|exact .inl rfl|exact .inr rfl|assumption):
  PS X (.Assign [.Name x a] e l) (ib X.K B m own own (nh i f)):=(ma w p h s j q).imp <|by
 rintro D F H ⟨G,g,o,S,b,k⟩;unfold nh at b;obtain⟨⟨d,c⟩,z,b⟩:=aq.1 b;cases b;exact⟨G,g,d,c,S,z,λv E C A _ r=>k _ E C (A.xu n r)⟩
def dm(f:DM):DG:=λa=>(f a).map λq =>.rm q.1 q.2
theorem yn(h:PE X e (tM X.K B own f)):PS X (.Return (Y e) l) (ib X.K B m own t (dm f)):=(qw h).imp <|by
 rintro D c H ⟨G,g,o,S,a,k⟩;unfold dm at a;obtain⟨⟨d,b⟩,i,a⟩:=aq.1 a;cases a;exact⟨G,g,d,b,S,i,λv p n j _ r=>k v c p n ⟨own,j⟩ r⟩
def BS(i:Nat):DG:=λa=>(iZ i a).map λb =>.rm (.lst b) a
theorem M3(h:PE X (.Name x p) (iC i))(g:i∈own:=by decide)(b:∀a,(i,a)∉B.3:=by intro a;simp_all)(s:Ae i∉own:=by decide)(e:i<1000000:=by decide):PS X (.Return (Y (.Name x p)) l) (ib X.K B m own t (BS i)):=(qw h).imp <|by
 rintro D r H ⟨G,F,o,S,d,k⟩;unfold BS at d;obtain⟨O,C,d⟩:=aq.1 d;cases d;have n:=fx C;obtain⟨a,I,N,u,L,K,J⟩:=S.mG g n;obtain⟨E,q⟩:=S.freeze (own':=own.filter (· != i)) (λj f=>(iA.mp f).1) i (λj f=>by
  by_cases c:j=i
  ·exact .inr c
  ·exact .inl (iA.mpr ⟨f,by simpa using c⟩)) (λz=>by have:=(iA.mp z).2;simp at this) g b s e
 obtain⟨v,A,w⟩:=q.env i _ (λz=>by have:=(iA.mp z).2;simp at this) n;exact⟨v,A,k v r E H ⟨_,q⟩ w⟩
def Hc(i:Nat)(f:DM):DG:=λa=>(iZ i a).bind λ_=>(f a).bind λq=>(iZ i q.2).bind λb=>if b.length<dU then Y (.nx (q.2.set i (Y (.lst (b++[q.1]))))) else M
theorem PB(h:PE X (.Name x p) (iC i))(T:PE X e (tM X.K B own f))(F:i∈own:=by decide)(q:bY (.Name x p) "append" X.env (eval (.Name x p) X.env)=eval (.Name x p) X.env:=by rfl) (z:((cv b (ao (e::[]) X.env)).all (λx=> !x.1)&&(f' b (cQ [] X.env)).all (λx=>x.1.isSome)
   && decide ((e::[]).length+([]:List nX).length+(if ([]:List nX).isEmpty then 0 else 1)<30))=true:=by rfl) (n:(g.endLine==b.line)=true:=by rfl) (L:ao (e::[]) X.env=(Z_,eval e X.env)::ao [] X.env:=by rfl) (j:(cv b (ao [] X.env)).any (·.1)=false:=by rfl) (E:cp (.Call (.Attribute (.Name x p) "append" g) [e] [] b) M l.line X.env=dR false:=by rfl) :
  PS X (.Expr (.Call (.Attribute (.Name x p) "append" g) [e] [] b) l) (ib X.K B m own own (Hc i f)):=
 (sM (DV lL PySem.F.slot_list_append PySem.F.type_list_append pZ h (cJ T gA L) q z n L j) E).imp <|by
  rintro D σ H ⟨G,A,o,S,c,k⟩;unfold Hc at c;obtain⟨ds0,I,c⟩:=aa.1 c;rw[aa]at c;obtain⟨⟨d,w⟩,J,c⟩:=c;rcases s:iZ i w with _|ds
  ·rw[s]at c;cases c
  rw[s]at c;simp only[ae]at c;split at c
  ·cases c;rename_i R;obtain⟨a,Q,K,e3,e4,e5,e6⟩:=S.mG F (fx I);refine⟨_,K,.inl ⟨rfl,Q,.of e3⟩,G,A,d,w,S,J,λv G' H' P s' r =>?_⟩;have t:=fx s;obtain⟨a',C,O,U,N,_⟩:=P.mG F t;rw[K]at O;cases O;refine⟨a,C,v,rfl,rfl,U,?_,k _ G' _ (P.mut F t K (N.append (.cons r .nil)))⟩;rw[<- N.length];exact bw R h_
  ·cases c
def Xd(f:DM):J2:=λa=>(f a).bind λq=>match q.1 with|.int j=>if -(2 ^ 62)<=j/\j<2 ^ 62 then Y (ny 0 j.toNat,q.2) else M|_=>M
theorem Gq(w:Gl X "range")(s:X.mg "range" = M)(h:PE X e (tM X.K B own f))(r:ao [e] X.env=(Z_,eval e X.env)::ao [] X.env:=by rfl)(b:ao [e] X.env=[(Z_,eval e X.env)]:=by rfl):PI X o (.Call (.Name "range" p) [e] [] l) (W4 X.K B own (Xd f)):=
 (Ba w s (cJ h gA r) b).imp <|by
  rintro D H R ⟨G,n,F,i,S,a,k⟩;unfold Xd at a;obtain⟨⟨d,g⟩,x,a⟩:=aa.1 a;cases d<;>simp only[ae]at a<;>try (cases a;done)
  split at a
  ·cases a;rename_i j c;exact⟨G,n,_,_,S,x,λv C A z E q=>⟨j,by rw[bX.mp q],c.1,c.2,k _ C A z (uo 0 j.toNat)⟩⟩
  ·cases a
end
theorem AW{K:aT}{c:D}{T:List az}(s:bD G H)(L:bD E H)(I:p∈own)(J:x[p]?=Y c)(F:w[p]?=Y (.ref a))(r:nI K G H c a T)(P:T.Nodup)(X:∀b∈T,G b=M/\E b=M)(C:∀r q,c ≠ .dN r q)(O:∀(i:Nat) c,i≠p->x[i]?=Y c->∃v,w[i]?=Y v/\cO K G c v)(R:x.length=w.length)(Q:∀i∈own,i=p∨x.length<=i):SR K ⟨G,E,[(p,a)],fl⟩ own G H (start N w) (ic N.length x):=by
 have f:∀(i:Nat) v,w[i]?=Y v->(start N w)[i]?=Y (Y v):=λi v e=>by have g:i<w.length:=(au.mp e).1;unfold start;rw[fo (by simpa using g),aY,e];rfl
 have n:∀i∈own,(∃d,(ic N.length x)[i]?=Y (Y d))->i=p:=λi g ⟨d,e⟩=>by
  have:=(au.mp (nP e)).1;rcases Q i g with z|z
  ·exact z
  ·omega
 refine⟨s,bD.refl _,L,λb o e =>.inl e,λi d g e =>?_,⟨λ_=>T,λi d g e =>?_,λi d g e=>⟨P,X⟩,λi j d c g S ei ej B=>absurd ((n i g ⟨d,ei⟩).trans (n j S ⟨c,ej⟩).symm) B⟩,by simp[start,ic,R],λi b h =>?_,λj k q U h2 e =>?_⟩
 ·obtain⟨v,ev,l⟩:=O i d (λz=>g (z ▸ I)) (nP e);exact⟨v,f i v ev,l⟩
 ·have z:=n i g ⟨d,e⟩;subst z;have A:=nP e;rw[J]at A;cases A;exact⟨a,f _ _ F,r⟩
 ·have z:(i,b)=(p,a):=by simpa using h
  cases z;exact⟨I,f _ _ F⟩
 ·have z:=n j U ⟨_,e⟩;subst z;have A:=nP e;rw[J]at A;cases A;exact absurd rfl (C k q)
theorem AY{K:aT}(s:bD G H)(j:p∈own)(q:d[p]?=Y c)(h:e[p]?=Y (.ref a))(w:H a=Y o)(r:jk K G c o)(x:G a=M)(g:∀(i:Nat) c,i≠p->d[i]?=Y c->∃v,e[i]?=Y v/\cO K G c v)(n:d.length=e.length)(k:∀i∈own,i=p∨d.length<=i):SR K ⟨G,Dd H a,[(p,a)],z⟩ own G H (start N e) (ic N.length d):=
 AW s HH j q h ((nI.cell r.vp).mpr ⟨⟨o,w,r⟩,rfl⟩) (by simp) (λb f=>by simp at f;subst f;exact⟨x,zx⟩) (CN r.vp) g n k
theorem IP{K:aT}{f:List D}(s:bD G H)(j:p∈own)(o:b[p]?=Y (.lst f))(h:e[p]?=Y (.ref a))(q:H a=Y (.lst d))(r:bz K G f d)(w:G a=M)(g:∀(i:Nat) c,i≠p->b[i]?=Y c->∃v,e[i]?=Y v/\cO K G c v)(n:b.length=e.length)(k:∀i∈own,i=p∨b.length<=i):SR K ⟨G,Dd H a,[(p,a)],x⟩ own G H (start N e) (ic N.length b):=
 AY s j o h q (show jk K G (.lst f) (.lst d) from⟨d,rfl,r⟩) w g n k
section
variable {P:bt}{K:aT}
theorem hG.sO{st:qP}{f:az}(F:hG K x I st f fd)(S:bB N ps (aB st))(p:Nat){own own':List Nat}{g:DG}(hp:p∈own)(SV:∀i∈own,i=p∨ps.length<=i) (hb:∀(L:ak) (A:gD) (j:List Env) (s:av) (H:Hp) (E:XK),eM k (A.deeper (qm I (aB st) s.heap.objs.size f L))->∀(B:Bs) (a:az),B.3=[(p,a)] ->
   oP (qI gS P w K u y N I (aB st) f L A j s H E).Jj (gv st) (ib K B [] own own' g)):b_ P w K u y gS (k+1) f fd ps (BQ K p (Aq ps.length N.length p g)):=by
 refine F.ok S (λvs H Q E h =>?_) (λL A j s H vs Q E hr h =>?_)
 ·obtain⟨G,ds,d,R,a,ws,X,gh,hd,hv,ha,r,ga,ro,hl,e,_⟩:=h;unfold Aq at e;split at e
  ·rw[<- hl];assumption
  ·cases e
 ·obtain⟨G,ds,d,R,a,ws,X,gh,hd,hv,ha,r,ga,ro,hl,e,q⟩:=h;unfold Aq at e;split at e
  ·rename_i hn;refine⟨_,hb L A j s H E hr ⟨G,Dd H a,[(p,a)],λ_ _=>False⟩ a rfl,?_⟩;obtain⟨o,eg,e⟩:=aa.1 e;have lS:∀ {σ:St}{C:cy}{O T:Hp}{o':List Nat}{U:List D},SR K ⟨G,Dd H a,[(p,a)],λ_ _=>False⟩ o' O T σ C->iZ p C=Y U->∃z,T a=Y (.lst z)/\bz K O U z/\O a=none:=fun {σ C O T o' U} c J=>by obtain⟨SU,hσ⟩:=c.pin p a (by simp);obtain⟨b,vs',f2,f3,f4,f5,_⟩:=c.mG SU (fx J);rw[hσ]at f2;cases f2;exact⟨vs',f3,f4,f5⟩
   refine⟨G,_,o,IP gh hp hd hv ha r ga ro hl (by rw[hn];exact SV),eg,?_⟩;cases o with
   |rm d' C=>have e:mJ (λX=>(d',X)) (iZ p C)=Y (d,R):=e;obtain⟨U,J,e⟩:=aq.1 e;cases e;intro v σ O T ⟨o',c⟩ rv;obtain⟨z,f3,f4,f5⟩:=lS c J;exact q v z O T c.mX f5 f3 f4 rv
   |nx C=>have e:mJ (λX=>(D.dJ,X)) (iZ p C)=Y (d,R):=e;obtain⟨U,J,e⟩:=aq.1 e;cases e;intro σ O T c;obtain⟨z,f3,f4,f5⟩:=lS c J;exact q _ z O T c.mX f5 f3 f4 (gI.mpr rfl)
   |_=>cases e
  ·cases e
end
def O8(n:cy)(w:ES)(u:DM)(i0:Nat):List D->List D->Option (List D×List D)
 |[],c=>Y ([],c)|d::e,c=>(w d (n.set i0 (Y (.lst c)))).bind λa=>(u a).bind λp=>(iZ i0 p.2).bind λb=>(O8 n w u i0 e b).map λq=>(p.1::q.1,q.2)
def VM(f:DL)(src:List (Option Nat))(w:ES)(u:DM)(i0 j0:Nat):DM:=λn=>(f n).bind λa=>if a.length<=dU then (iZ j0 n).bind λb=>(O8 (mR src n) w u i0 a b).map λq=>(.lst q.1,n.set j0 (Y (.lst q.2))) else M
def Uv(K:aT)(i0:Nat)(u:DM):TE:=λt H Q=>∃(B:Bs) (a:az),B.3=[(i0,a)]/\tM K B [i0] u t H Q
theorem Wi{X:Cx}(h:∀(B:Bs) (a:az),B.3=[(i0,a)]->PE X e (tM X.K B [i0] u)):PE X e (Uv X.K i0 u):=by rintro b s t H Q I ⟨B,a,c,q⟩;exact h B a c b s t H Q I q
theorem z9:∀ {l:List a}{i:Nat}{x:a},l[i]?=Y x->l.set i x=l
 |[],i,x,h=>by simp at h
 |y::l,0,x,h=>by simp at h;subst h;rfl
 |y::l,i+1,x,h=>by simp at h;simp[z9 h]
section
variable {K:aT}
theorem Dt{i:Nat}(e:(mR src n)[i]?=Y (Y d)):∃j,src[i]?=Y (Y j)/\n[j]?=Y (Y d):=by
 unfold mR at e;rw[aY]at e;obtain⟨o,a,e⟩:=aq.1 e;rw[a];cases o with
 |none=>cases e|some j=>
  have e:(n[j]?).getD M=Y d:=by simpa using e
  refine⟨j,rfl,?_⟩;rcases q:n[j]? with _|z
  ·rw[q]at e;cases e
  rw[q]at e;rw[show z=Y d from e]
theorem pP{i:Nat}{v:V}(b:src[i]?=Y (Y j))(a:t[j]?=Y (Y v)):(n_ src t)[i]?=Y (Y v):=by
 unfold n_;rw[aY,b];simp[a]
theorem SR.inner{fl:aG->Int->Prop}{i0:Nat}(S:SR K B own G H t (n.set j0 (Y (.lst q))))(y:ka own [i0] src=Z')(x:src[i0]?=Y (Y j0))(k:∃d,n[j0]?=Y d)(s:t[j0]?=Y (Y (.ref a))):
  SR K ⟨G,Dd H a,[(i0,a)],fl⟩ [i0] G H (n_ src t) ((mR src n).set i0 (Y (.lst q))):=by
 have l:j0∈own:=(kI y x).mp (by simp);obtain⟨d0,k⟩:=k;have N:j0<n.length:=(au.mp k).1;have P:(n.set j0 (Y (D.lst q)))[j0]?=Y (Y (.lst q)):=by rw[bj N]
 obtain⟨b,J,I,e3,e4,e5,e6⟩:=S.mG l P;rw[s]at I;cases I;refine⟨S.gh,bD.refl _,HH,λb o e =>.inl e,λi d g e =>?_,⟨λ_=>[a],λi d g e =>?_,λi d g e=>⟨by simp,λb C =>?_⟩,λi j d c g m _ _ f =>?_⟩,by simp[n_,mR],λi b h =>?_,λj r p R Q e =>?_⟩
 ·rcases gH e with⟨rfl,_,_⟩|⟨f,e⟩
  ·exact absurd (by simp) g
  ·obtain⟨j,F,ej⟩:=Dt e;have m:j∉own:=λz=>g ((kI y F).mpr z)
   have:j0≠j:=λz=>m (z ▸ l)
   obtain⟨v,f1,X⟩:=S.env j d m (by rw[aj this];exact ej);exact⟨v,pP F f1,X⟩
 ·have z:i=i0:=by simpa using g
  subst z;rcases gH e with⟨_,rfl,_⟩|⟨f,_⟩
  ·exact⟨a,pP x s,⟨_,e3,J,rfl,e4⟩,rfl⟩
  ·exact absurd rfl f
 ·simp at C;subst C;exact⟨e5,zx⟩
 ·simp at g m;exact absurd (g.trans m.symm) f
 ·have z:(i,b)=(i0,a):=by simpa using h
  cases z;exact⟨by simp,pP x s⟩
 ·have q1:j=i0:=by simpa using R
  have u:Aw j=i0:=by simpa using Q
  unfold Aw at u;omega
end
section
variable {X:Cx}{f:DL}
inductive WJ {α:Type}(K:aT) (B:Bs) (own:List Nat) (t:St) (e:α->cy) (F:Nat->α->Option (List D×α)) (G:Hp) (z:α) (r:List D) (i:Nat) (y:List V) (H:Hp):Prop
 |mk g l x o:y.length<=i->SR K B own g H t (e x)->bD G g->bz K g l y->F i x=some (o,z)->l++o=r->WJ K B own t e F G z r i y H
theorem Ss{K:aT}(ho:ka own [i0] src=Z')(h0:src[i0]?=Y (Y j0))(hg:∀(B:Bs) v t H Q,GX K B [i0] w v t H Q->g v t H Q)(q:tM K B own (VM f src w u i0 j0) t H Q):
  Rv (C7 K own f) src g (rg K [i0] hI) (Uv K i0 u) t H Q:=by
 obtain⟨G,n,d,ρ',S,h,k⟩:=q;have hj0:j0∈own:=(kI ho h0).mp (by simp);unfold VM at h;obtain⟨j,ef,h⟩:=aa.1 h;have h:(if j.length<=dU then (iZ j0 n).bind λxs=>(O8 (mR src n) w u i0 j xs).map λq=>(D.lst q.1,n.set j0 (Y (.lst q.2))) else M)=Y (d,ρ'):=h;split at h
 ·rename_i hz;obtain⟨xs0,el,h⟩:=aa.1 h;obtain⟨⟨rs,Z2⟩,em,h⟩:=aq.1 h;cases h;have F:=fx el;obtain⟨a,vs0,e2,_⟩:=S.mG hj0 F;refine⟨G,n,j,S.gh,S.ji,ef,λJ G1 H1 E1 ok =>?_⟩;have S1:=S.ext E1;rw[<- z9 F]at S1;refine⟨λi m ys H2=>m=j.length-i/\i<=j.length/\WJ K B own t (λb=>n.set j0 (Y (.lst b))) (λi=>O8 (mR src n) w u i0 (j.drop i)) G1 Z2 rs i ys H2,
   ⟨j.length,rfl,eG _,G1,[],xs0,rs,aS _,S1,bD.refl _,.nil,em,rfl⟩,?_⟩
  rintro i m ys H2 ⟨rfl,Y3,G2,l,xs,o,hyl,S2,s2,rx,c,rfl⟩;have sub:bD G1 H2:=s2.trans S2.gh;by_cases C:i<j.length
  ·refine .inr ⟨ok.go i H2 sub C,?_,WJ K B own t (λb=>n.set j0 (Y (.lst b))) (λi=>O8 (mR src n) w u i0 (j.drop i)) G1 Z2 (l++o) (i+1),
    λr H' z=>⟨j.length-(i+1),by omega,rfl,C,z⟩,λx H3 y =>?_⟩
   ·have:=h_;omega
   ·obtain⟨G3,E3,T9⟩:=ok.Qw i H2 x H3 G2 j[i] s2 S2.gh y (bC C);have S3:=S2.ext E3;rw[fw C]at c;unfold O8 at c;obtain⟨s,et,c⟩:=aa.1 c;obtain⟨⟨x4,ρ5⟩,ee,c⟩:=aa.1 c;obtain⟨N,X,c⟩:=aa.1 c;obtain⟨⟨P,xsE⟩,R,c⟩:=aq.1 c;cases c;have SI:=S3.inner (fl:=λ_ _=>False) ho h0 ⟨_,F⟩ e2;refine hg ⟨G3,Dd H3 a,[(i0,a)],λ_ _=>False⟩ _ _ _ _ ⟨G3,_,j[i],s,SI,T9,et,λσ4 G4 H4 S4=>⟨G4,s,Z',S4.gh,S4.ji,rfl,λG5 H5 E5=>zg ?_⟩⟩;refine⟨⟨G3,Dd H3 a,[(i0,a)],λ_ _=>False⟩,a,rfl,G5,s,x4,ρ5,S4.ext E5,ee,λv G6 H6 S6 s6 r6=>⟨G6,l++[x4],N,P,by simp;omega,?_,?_,?_,R,by simp⟩⟩
    ·obtain⟨SU,hσ⟩:=S6.pin i0 a (by simp);obtain⟨b,ws,f2,f3,f4,f5,_⟩:=S6.mG SU (fx X);rw[hσ]at f2;cases f2;have hl:j0<n.length:=(au.mp F).1;have:=S3.called (xs':=N) hj0 (by rw[bj hl]) e2 S6.mX f5 f3 f4;rw[List.set_set]at this;exact this
    ·exact s2.trans (E3.gg.trans S6.g0)
    ·exact(bz.mono (E3.gg.trans S6.g0) l rx).append (.cons r6 .nil)
  ·have e:i=j.length:=by omega
   subst e;rw[uR]at c;unfold O8 at c;cases c;refine .inl ⟨ok.stop _ H2 sub (aS _),λp hp =>?_⟩;have EA:=f_.alloc (p:=p) (o :=.lst ys) S2.gh hp;refine k _ _ _ (S2.ext EA) (E1.gg.trans (s2.trans EA.gg)) ?_;rw[bU];exact cW.mpr ⟨p,ys,rfl,br,bz.mono EA.gg l rx⟩
 ·cases h
theorem Wj(S:fK X N src A)(j:X.calm=Z')(e:PI X E L (C7 X.K own f))(m:NZ T g)(a:∀i∈T,src[i]?=Y M)(h:∀(B:Bs) v t H Q,GX X.K B [i0] w v t H Q->g v t H Q)(k:∀C s H b,PG (X.tZ N A C s H b) E g/\Fb (X.tZ N A C s H b) [] (rg X.K [i0] hI)/\PE (X.tZ N A C s H b) O (Uv X.K i0 u))(l:src[i0]?=Y (Y j0):=by rfl)(d:ka own [i0] src=true:=by decide)(c:∀x,cY L X.env x=dR x:=by intro _;rfl):PE X (.ListComp O [⟨E,L,[],0⟩] A U) (tM X.K B own (VM f src w u i0 j0)):=
 (LD S j e m a k c).imp λt H Q q=>Ss d l h q
theorem sh(K:aT)(i i0:Nat)(b:i∉[i0]:=by decide):∀(B:Bs) v t H Q,GX K B [i0] (gN i) v t H Q->pf i v t H Q:=λB v t H Q ⟨G,n,d,a,S,r,c,k⟩=>by
 cases c;exact k _ G H (S.xu b r)
end
section
variable {X:Cx}
def bp(c f:aG)(g:DF):DF:=λa=>(g a).bind λd=>match d with|.ins h b e=>if h=c then (b.zip e).lookup f else M|_=>M
theorem HD{K:aT}{f:aG}:∀ {b:List aG}{g:List D}{a:List V}{d:D},bz K G g a->(b.zip g).lookup f=Y d->∃v,(b.zip a).lookup f=Y v/\cO K G d v
 |[],g,a,d,r,e=>by simp at e
 |k::b,[],a,d,r,e=>by simp at e
 | k::b,c::g,a,d,r,e=>by
  obtain⟨v,t,rfl,i,l⟩:=bJ.mp r;simp only[cb,dw]at e ⊢;cases h:(f==k) with
  |true=>rw[h]at e;cases e;exact⟨v,rfl,i⟩|false=>rw[h]at e;exact HD l e
def Ur:D->V
 |.bl b =>.bl b|.int i =>.int i|.str x =>.str x|_ =>.dJ
theorem GV{K:aT}{v:V}(h:A1 d=Z')(r:cO K G d v):v=Ur d/\qX v=true:=by
 cases d<;>first|(simp[A1]at h;done)|(simp only[cO]at r;subst r;exact⟨rfl,rfl⟩)
theorem Dp{K:aT}:∀ {b:List D}{a:List V},b.all A1=Z'->bz K G b a->a=b.map Ur/\a.all qX=Z'
 |[],a,h,r=>by rw[dE.mp r];exact⟨rfl,rfl⟩
 |d::b,a,h,r=>by rw[mq,aV]at h;obtain⟨v,t,rfl,c,e⟩:=bJ.mp r;obtain⟨k,g⟩:=GV h.1 c;obtain⟨i,f⟩:=Dp h.2 e;exact⟨by rw[k,i];rfl,by rw[mq,g,f];rfl⟩
def XR(b:Bool)(x:D)(a:List D):Option D:=if (A1 x&&a.all A1)=Z' then Y (.bl (if b then !UA (Ur x) (a.map Ur) else UA (Ur x) (a.map Ur))) else M
def Ji(a:Bool):D->D->Option D
 |x,.lst b=>XR a x b|x,.tup b=>XR a x b|_,_=>M
theorem WV{K:aT}(h:rD K (Ji c) x y H Q):rIn K c x y H Q:=by
 obtain⟨G,t,C,d,k,w,u,l,q⟩:=h;have lS:∀(m:List D) (b:List V),XR c t m=Y d->bz K G m b->qX x=Z'/\b.all qX=Z'/\d=.bl (if c then !UA x b else UA x b):=λm b e r=>by
  unfold XR at e;split at e
  ·rename_i i;rw[aV]at i;have v:cO K G t x:=by
    rcases w with z|⟨a,o,_,_,z⟩
    ·exact z
    ·cases t<;>first|exact z.elim|simp[A1]at i
   obtain⟨B,g⟩:=GV i.1 v;obtain⟨A,f⟩:=Dp i.2 r;cases e;exact⟨g,f,by rw[B,A]⟩
  ·cases e
 unfold Ji at l;split at l<;>try (cases l;done)
 ·obtain⟨p,b,rfl,s,n⟩:=u.lst k;obtain⟨g,f,rfl⟩:=lS _ _ l n;exact⟨p,b,rfl,.inl (.of s),g,f,q _ G H (.refl k) (dn.mpr rfl)⟩
 ·obtain⟨p,b,rfl,s,n⟩:=u.tup k;obtain⟨g,f,rfl⟩:=lS _ _ l n;exact⟨p,b,rfl,.inr (.of s),g,f,q _ G H (.refl k) (dn.mpr rfl)⟩
theorem aah:AF X (gr .In) (Ji Z_):=pG.imp Jf λx y H Q h=>WV h
def Mv:D->Bool
 |.bl _=>Z'|_=>Z_
noncomputable def vx:D->Bool
 |.bl b=>b|_=>Z_
def gu(b:Bool):List D->Option D
 |[.lst a]=>if a.all Mv=Z' then Y (.bl (if b then a.all vx else a.any vx)) else M
 |_=>M
theorem TQ{K:aT}{f:List ak}(h:a.all Mv=Z')(r:bz K G a l)(m:cg l f){i:Nat}{u:ak}(e:f[i]?=Y u):∃b,u=.bool b/\(a[i]?).map vx=Y b:=by
 have q:i<f.length:=(au.mp e).1;have d:i<a.length:=by rw[r.length,m.length];exact q
 have k:a[i]?=Y a[i]:=bC d;obtain⟨v,s,c⟩:=r.get k;obtain⟨w,p,g⟩:=m.get s;rw[e]at p;cases p;have o:Mv a[i]=true:=(cA.mp h) _ (List.getElem_mem d);cases n:a[i] with
 |bl b=>rw[n]at c k;have:=dn.mp c;subst this;exact⟨b,g,by rw[k];rfl⟩
 |_=>rw[n]at o;cases o
theorem J3{ys:List D}{tr:Nat->Bool}(h:∀i,i<ys.length->(ys[i]?).map vx=Y (tr i)):(cw ys.length).all tr=ys.all vx/\(cw ys.length).any tr=ys.any vx:=by
 have:(cw ys.length).map tr=ys.map vx:=by
  apply List.ext_getElem?;intro i;by_cases a:i<ys.length
  ·have:=h i a;rw[aY,aY,List.getElem?_range a,this];rfl
  ·rw[ia (by simpa using a),ia (by simpa using a)]
 constructor
 ·have e:=congrArg (λl=>l.all id) this;simpa [nN] using e
 ·have e:=congrArg (λl=>l.any id) this;simpa [List.any_map] using e
theorem Bz(l:X.calm=Z')(h:Bool):lU X (.builtin (if h then "all" else "any")) (rC X.K (gu h)):=by
 intro A s P H xs us Q I R ⟨G,ds,d,O,r,t,q⟩;unfold gu at t;split at t
 ·rename_i m;split at t
  ·cases t;rename_i hb;obtain⟨v,rfl,T⟩:=r.one;obtain⟨a,vs,rfl,U,L⟩:=T.lst O;obtain⟨u,rfl,S⟩:=cg.one R;cases S;obtain⟨g,y,J,hz⟩:=I.list (.of U);obtain⟨o,j,hc,n0,hd⟩:=J.isList;have D:a≠s.heap.objs.size:=bH (aJ j);have k:g.toArray.size=m.length:=by simp[L.length,y.length]
   let w:Nat->Bool:=λi=>((m[i]?).map vx).getD Z_
   have C:TruthOf X.prog X.w X.A.in1 (λi v=>g.toArray[i]?=Y v) w:=λi v s Q E hP N=>by
    obtain⟨b,rfl,K⟩:=TQ hb L y (i:=i) (u:=v) (by simpa using hP);have:w i=b:=by show ((m[i]?).map vx).getD Z_=b;rw[K];rfl
    rw[this]at N;exact gW N
   have f:=J3 (ys:=m) (tr:=w) λi hi=>by show _=Y (((m[i]?).map vx).getD Z_);rw[bC hi];rfl
   have lS:∀(b:Bool) (p:cD) (n:Nat),(∀c F,c∉[s.heap.objs.size]->(s.heap.push { cls :=.type "list_iterator",data :=.fields #[.ref a,.int 0 0] }).get? c=Y F->p.get? c=Y F)->b=(if h then m.all vx else m.any vx) ->
     EP X A P Q (.bool b) { s with heap:=p,toks:=n }:=λb p n B K=>
    ⟨.bl b,H,I.kept (t':=n) λc F e=>B c F (λz=>by
     have z:c=s.heap.objs.size:=by simpa using z
     exact absurd (aJ e) (by rw[z];exact eQ _)) (ai _ e),rfl,by
     rw[K];exact q _ G H (.refl O) (dn.mpr rfl)⟩
   have x:(s.heap.push { cls :=.type "list_iterator",data :=.fields #[.ref a,.int 0 0] }).IsListIter s.heap.objs.size a 0/\(s.heap.push { cls :=.type "list_iterator",data :=.fields #[.ref a,.int 0 0] }).IsList a g.toArray:=
    ⟨⟨_,bx _ rfl,rfl,rfl⟩,⟨o,ai _ j,hc,n0,hd⟩⟩
   cases h with
   |true=>refine call_all_walk (lN J.isList ⟨s.heap.objs.size,_,_,_,_,_,w,rfl,Walks.list (A:=X.A.in1) (I.ok.hd l) _ a D g.toArray,x,C,λp n B =>?_⟩);rw[k,f.1];exact lS _ p n B rfl
   |false=>refine call_any_walk (lN J.isList ⟨s.heap.objs.size,_,_,_,_,_,w,rfl,Walks.list (A:=X.A.in1) (I.ok.hd l) _ a D g.toArray,x,C,λp n B =>?_⟩);rw[k,f.2];exact lS _ p n B rfl
  ·cases t
 ·cases t
variable {f:DF}
theorem Gu(a:X.calm=Z')(d:Gl X "all")(c:X.mg "all" = M)(h:PE X e (tQ X.K own f))(b:ao (e::[]) X.env=(Z_,eval e X.env)::ao [] X.env:=by rfl):PE X (.Call (.Name "all" p) [e] [] j) (tP X.K own (bf (gu Z') (aC f aN))):=
 zL (Bz a Z') d c PyProof.Rows.boot_all (zI h Ct b) (by decide) (by decide) b rfl
theorem Ng(a:X.calm=Z')(d:Gl X "any")(c:X.mg "any" = M)(h:PE X e (tQ X.K own f))(b:ao (e::[]) X.env=(Z_,eval e X.env)::ao [] X.env:=by rfl):PE X (.Call (.Name "any" p) [e] [] j) (tP X.K own (bf (gu Z_) (aC f aN))):=
 zL (Bz a Z_) d c PyProof.Rows.boot_any (zI h Ct b) (by decide) (by decide) b rfl
end
section
variable {X:Cx}{f:DF}
end
section
variable {X:Cx}{m:List Nat}{f:DF}
end
theorem P4{X:Cx}{g:List aG}{s:av}(k:b.kind=.function)(h:vw a g N d b=Z'):fK (X.tZ g a C s H t) N d b:=by
 unfold vw at h;simp only[aV,cA,beq_iff_eq,vO]at h;obtain⟨⟨⟨r,q⟩,p⟩,o⟩:=h;refine⟨k,λy e=>r y e,λy e m =>?_,p,λi j x f n =>?_⟩
 ·show (Q6 a X.env).names.lookup y.1=Y .cell∨(Q6 a X.env).names.lookup y.1=Y .free;unfold Q6;rw[oH];rcases q y e with z|z
  ·rw[m]at z;exact absurd z (by decide)
  ·rcases z with z|z
   ·rw[z];exact .inl (by simp)
   ·rw[z];simp only[bP];split
    ·exact .inl rfl
    ·exact .inr rfl
 ·have l:i<d.length:=(au.mp f).1;have:=o i (by simpa using l);rw[f,n]at this;simp only[aV,beq_iff_eq]at this;exact this
section
variable {X:Cx}{f:DF}
end
def Ta(i j l:Nat):ES:=λd e=>match d with|.tup [a,b,c]=>Y (((e.set i (Y a)).set j (Y b)).set l (Y c))|_=>M
theorem MI{f:cy}(h:Ta i j l d f=Y e):∃a b c,d=.tup [a,b,c]/\e=((f.set i (Y a)).set j (Y b)).set l (Y c):=by
 unfold Ta at h;split at h
 ·cases h;exact⟨_,_,_,rfl,rfl⟩
 ·cases h
theorem IY{K:aT}{v:V}(r:cO K G (.tup [a,b,c]) v):∃p x y z,v=.ref p/\G p=Y (.tup [x,y,z])/\cO K G a x/\cO K G b y/\cO K G c z:=by
 obtain⟨p,j,e,g,i⟩:=fg.mp r;obtain⟨x,n,rfl,h,t⟩:=bJ.mp i;obtain⟨y,l,rfl,f,t⟩:=bJ.mp t;obtain⟨z,k,rfl,d,t⟩:=bJ.mp t;rw[dE.mp t]at g;exact⟨p,x,y,z,e,g,h,f,d⟩
section
variable {X:Cx}{m:List Nat}
theorem M_{i:Nat}(h:PG X e (S9 X.K 3 (Bp (pf i) (Bp (pf j) (Bp (pf l) S_)))))(u:i∉own:=by decide)(t:j∉own:=by decide)(s:l∉own:=by decide):PG X e (GX X.K B own (Ta i j l)):=h.imp <|by
 rintro v A H Q ⟨G,C,d,f,S,r,w,k⟩;obtain⟨a,b,c,rfl,rfl⟩:=MI w;obtain⟨p,x,y,z,rfl,g,q,o,n⟩:=IY r;exact⟨p,_,rfl,.of (S.gh _ _ g),rfl,x,_,rfl,y,_,rfl,z,_,rfl,rfl,k _ G H (((S.xu u q).xu t o).xu s n)⟩
end
end L2
namespace L2
open PySem PyProof.Rows PySem.Spec
section
variable {s:av}
end
end L2
namespace L2
open PySem PySem.Spec PyProof.Rows
def xr(c:List Int):List Int:=c.mergeSort (λa b=>decide (a<=b))
theorem rV(a:List Int):(xr a).Perm a:=List.mergeSort_perm a _
theorem FC(ns:List Int):(xr ns).Pairwise (· <= ·):=by
 have:=List.pairwise_mergeSort (le:=λa b:Int=>decide (a<=b)) (λa b c h1 h2=>by simp at *;omega) (λa b=>by simp;omega) ns;exact this.imp λh=>by simpa using h
theorem Rz(p:a.Perm b)(h:a.Pairwise (· <= ·)):a=xr b:=PySem.W.ksm_same (p.trans (rV b).symm) h (FC b)
theorem vq:∀ {b:List Int}{a:List ak},cg (b.map V.int) a->Fh a b
 |[],a,h=>by cases h;exact .nil
 | n::r,a,h=>by
  cases h with
  |cons d c=>obtain⟨t,rfl⟩:=d;exact .cons n t (vq c)
theorem BK(h:Fh a b):cg (b.map V.int) a:=by
 induction h with|nil=>exact .nil|cons n t _ ih=>exact .cons ⟨t,rfl⟩ ih
section
variable {X:Cx}{f:DF}
noncomputable def Bi:List D->Option (List Int)
 |[]=>Y []|.int i::r=>(Bi r).map (i :: ·)|_::_=>M
theorem zi:∀ {b:List D}{a:List Int},Bi b=Y a->b=a.map D.int
 |[],a,h=>by cases h;rfl
 | d::r,a,h=>by
  cases d<;>simp only[Bi]at h<;>try (cases h;done)
  obtain⟨c,e,h⟩:=aq.1 h;cases h;rw[zi e];rfl
theorem vY{K:aT}:∀ {b:List Int}{a:List V},bz K G (b.map D.int) a↔a=b.map V.int
 |[],a=>by simp[bz]
 | n::r,a=>by
  simp only[a_,bJ,bX];constructor
  ·rintro⟨v,t,rfl,rfl,h⟩;rw[vY.mp h]
  ·rintro rfl;exact⟨_,_,rfl,rfl,vY.mpr rfl⟩
end
section
variable {X:Cx}{m:List Nat}
end
section
variable {X:Cx}{m:List Nat}
end
end L2
namespace L2
open PySem
section
variable {X:Cx}
theorem vP(i:Nat)(f:X.N[i]?=Y x:=by rfl)(c:TX X.env.scope x:=by first|exact oX rfl|exact rF (oX rfl)|exact rF (rF rfl))(e:(x==("__debug__" : aG))=false:=by decide)(b:(x==("__classdict__" : aG))=false:=by decide)(d:i∉own:=by decide):PE X (.Name x a) (tP X.K own (eV i)):=dv (pv i f c e b) d
theorem vQ(i:Nat)(f:X.N[i]?=Y x:=by rfl)(c:TX X.env.scope x:=by first|exact oX rfl|exact rF (oX rfl)|exact rF (rF rfl))(e:(x==("__debug__" : aG))=false:=by decide)(b:(x==("__classdict__" : aG))=false:=by decide)(d:i∉own:=by decide):PE X (.Name x a) (tQ X.K own (eV i)):=dq (vP i f c e b d)
end
end L2
namespace L2
open PySem PySem.Spec PyProof.Rows
section
variable [DecidableEq G]
def tj(fF:List (G×V))(k:G):Option V:=(fF.find? λa=>decide (a.1=k)).map (·.2)
def wO(fF:List (G×V))(k:G)(v:V):List (G×V):=
 if (fF.any λa=>decide (a.1=k))=Z' then fF.map (λa=>if a.1=k then (a.1,v) else a) else fF++[(k,v)]
theorem uX{p:G×V}(e:p.1=k):tj (p::r) k=Y p.2:=by simp[tj,ke,e]
theorem rO{p:G×V}(e:¬p.1=k):tj (p::r) k=tj r k:=by simp[tj,ke,e]
theorem Dm(k:G):∀fF:List (G×V),(fF.any λa=>decide (a.1=k))=(tj fF k).isSome
 |[]=>rfl| p::r=>by
  rw[pq];by_cases e:p.1=k
  ·simp only[uX e,decide_eq_true e,Bool.true_or,Option.isSome_some]
  ·rw[rO e,decide_eq_false e,Bool.false_or];exact Dm k r
theorem w8(fF:List (G×V))(k:G)(v:V):(wO fF k v).length<=fF.length+1:=by
 unfold wO;split
 ·rw[ax];omega
 ·rw[aQ,aP,iB];omega
theorem pE.wk(r:pE o u):o.isSome=u.isSome:=by
 cases o with
 | none=>cases u with
  |none=>rfl|some _=>exact(show False from r).elim
 | some _=>cases u with
  |none=>exact(show False from r).elim
  |some _=>rfl
theorem pE.getD{u:Option ak}(r:pE o u)(b:RelV d a):RelV (o.getD d) (u.getD a):=by
 cases o with
 | none=>cases u with
  |none=>exact b|some _=>exact(show False from r).elim
 | some _=>cases u with
  |none=>exact(show False from r).elim
  |some _=>exact r
theorem KV.val{f:List (G×ak)}(r:KV fF f)(k:G):pE (tj fF k) (J8 f k):=by
 unfold KV at r
 induction r with
 |nil=>exact hU|@cons p q l a h t ih=>
  obtain⟨g,i⟩:=h;by_cases e:p.1=k
  ·have d:q.1=k:=g.symm.trans e;have b:J8 (q::a) k=Y q.2:=by simp[J8,ke,d]
   rw[uX e,b];exact i
  ·have d:¬q.1=k:=λz=>e (g.trans z)
   have b:J8 (q::a) k=J8 a k:=by simp[J8,ke,d]
   rw[rO e,b];exact ih
theorem KV.any(r:KV fF b)(k:G):(fF.any λa=>decide (a.1=k))=b.any λa=>decide (a.1=k):=by
 unfold KV at r
 induction r with|nil=>rfl|cons h t ih=>rw[pq,pq,ih,h.1]
theorem KV.RH(r:KV fF d)(k:G)(f:RelV y u):
  KV (fF.map λa=>if a.1=k then (a.1,y) else a) (d.map λa=>if a.1=k then (a.1,u) else a):=by
 unfold KV at r ⊢
 induction r with
 |nil=>exact .nil|@cons p q l i h t ih=>
  rw[a_,a_];refine .cons ?_ ih;obtain⟨b,g⟩:=h;by_cases e:p.1=k
  ·rw[if_pos e,if_pos (b.symm.trans e)];exact⟨b,f⟩
  ·rw[if_neg e,if_neg (λz=>e (b.trans z))];exact⟨b,g⟩
theorem KV.put(r:KV fF a)(k:G){u:ak}(b:RelV y u):KV (wO fF k y) (stored a k u):=by
 unfold wO stored;rw[r.any k];by_cases e:(a.any λd=>decide (d.1=k))=Z'
 ·rw[if_pos e,if_pos e];exact r.RH k b
 ·rw[if_neg e,if_neg e];exact Paired.snoc r ⟨rfl,b⟩
theorem KV.length{a:List (G×ak)}(r:KV fF a):fF.length=a.length:=Paired.length r
end
theorem Ek{P:bt}{k:lJ}(r:RelV (kV k) u):(hV P w).is k u=true:=by
 cases k with
 |inl i=>obtain⟨t,e⟩:=(show ∃t,u=js i t from r);subst e;exact D_ P w i t
 |inr x=>obtain⟨t,e⟩:=(show ∃t,u=NK x t from r);subst e;exact D9 P w x t
theorem Bh{P:bt}:∀ {a:List lJ}{b:List ak},cg (a.map kV) b->ItemsAre (hV P w) a b
 |[],_,r=>by rw[C3]at r;cases r;exact .nil
 | k::a,_,r=>by
  rw[a_]at r;cases r with
  |cons h t=>exact .cons (Ek h) (Bh t)
abbrev KT(H:Hp):List (List lJ×V)->List (List lJ×az×ak)->Prop:=Paired λp q=>p.1=q.1/\H q.2.1=Y (.tup (p.1.map kV))/\RelV p.2 q.2.2
theorem KT.val{f:List (List lJ×az×ak)}(r:KT H fF f)(k:List lJ):pE (tj fF k) ((Ug f k).map (·.2)):=by
 induction r with
 |nil=>exact hU|@cons p q l a h t ih=>
  obtain⟨g,_,i⟩:=h;by_cases e:p.1=k
  ·have d:q.1=k:=g.symm.trans e;have b:Ug (q::a) k=Y q.2:=by simp[Ug,ke,d]
   rw[uX e,b];exact i
  ·have d:¬q.1=k:=λz=>e (g.trans z)
   have b:Ug (q::a) k=Ug a k:=by simp[Ug,ke,d]
   rw[rO e,b];exact ih
theorem KT.RH(r:KT H fF d)(k:List lJ)(g:RelV y u):
  KT H (fF.map λb=>if b.1=k then (b.1,y) else b) (d.map (putAt k u)):=by
 induction r with
 |nil=>exact .nil|@cons p q o l h t ih=>
  rw[a_,a_];refine .cons ?_ ih;obtain⟨a,f,i⟩:=h;unfold putAt;by_cases e:p.1=k
  ·rw[if_pos e,if_pos (a.symm.trans e)];exact⟨a,f,g⟩
  ·rw[if_neg e,if_neg (λz=>e (a.trans z))];exact⟨a,f,i⟩
theorem KT.put(r:KT H fF a)(k:List lJ){u:ak}(g:H b=Y (.tup (k.map kV)))(d:RelV y u):
  KT H (wO fF k y) (storedH a k b u):=by
 have e:(fF.any λf=>decide (f.1=k))=(Ug a k).isSome:=by rw[Dm,(r.val k).wk,Option.isSome_map]
 unfold wO storedH;rw[e];by_cases q:(Ug a k).isSome=Z'
 ·rw[if_pos q,if_pos q];exact r.RH k d
 ·rw[if_neg q,if_neg q];exact Paired.snoc r ⟨rfl,g,d⟩
theorem KT.keeps(r:KT H fF d)(f:∀b a,H b=Y (.tup a)->e b=Y (.tup a)):KT e fF d:=
 Paired.VL r λ_ _ z=>⟨z.1,f _ _ z.2.1,z.2.2⟩
section
variable {P:bt}
theorem Lm(b:nU P w H h)(e:Rd H a u):fJ P w H h a u:=e.ok b
theorem Bu(d:nU P w H h)(e:Rd H a (.dK fF)):fF.length<=bb/\(a==kK)=Z_/\∃b,KV fF b/\h.DictOf (hV P w) a b:=
 show fJ P w H h a (.dK fF) from Lm d e
theorem Wk(d:nU P w H h)(e:H a=Y (.dK fF)):fF.length<=bb/\(a==kK)=Z_/\∃b,KV fF b/\h.DictOf (hV P w) a b:=Bu d (.inl e)
theorem zd(f:nU P w H h)(e:H a=Y (.tup (b.map kV))):(De (hV P w)).is h b a:=by
 obtain⟨_,d,r,o,k,i,n,g⟩:=(show fJ P w H h a (.tup (b.map kV)) from f a _ e);exact⟨o,d.toArray,n,k,i,g,by simpa using Bh r⟩
theorem Br(g:nU P w H h)(e:Rd H a (.dT fF)):fF.length<=bb/\(a==kK)=Z_ /\
  ∃d,KT H fF d/\h.DictOfH (De (hV P w)) a d:=by
 obtain⟨z,y,d,r,o,D,E,A,v,u,s,k⟩:=(show fJ P w H h a (.dT fF) from Lm g e);refine⟨z,y,d,r,o,D,E,A,v,u,s,λx b =>?_,k⟩;have f:∀ {l:List (List lJ×V)}{m:List (List lJ×az×ak)},KT H l m->∀x∈m,(De (hV P w)).is h x.1 x.2.1:=by
  intro l m q
  induction q with
  |nil=>intro x b;exact nomatch b
  |@cons p q I F i t ih=>
   intro x b;rcases aW.mp b with e|b
   ·subst e;exact zd g (by rw[<- i.1];exact i.2.1)
   ·exact ih x b
 exact f r x b
theorem Wd(d:nU P w H h)(e:H a=Y (.dT fF)):fF.length<=bb/\(a==kK)=Z_ /\
  ∃b,KT H fF b/\h.DictOfH (De (hV P w)) a b:=Br d (.inl e)
end
def xS(H:Hp)(a:az)(y:V)(r:Option V):Prop:=
 (∃fF k,Rd H a (.dK fF)/\y=kV k/\r=tj fF k)∨∃fF k b,Rd H a (.dT fF)/\y=.ref b/\H b=Y (.tup (k.map kV))/\r=tj fF k
def NC(H:Hp)(a:az)(y v:V)(d:Hp):Prop:=
 (∃fF k,H a=Y (.dK fF)/\y=kV k/\fF.length<bb/\d=dg H a (.dK (wO fF k v))) ∨
 ∃fF k b,H a=Y (.dT fF)/\y=.ref b/\H b=Y (.tup (k.map kV))/\fF.length<bb/\d=dg H a (.dT (wO fF k v))
theorem xS.k{a:az}{k:lJ}(e:H a=Y (.dK fF)):xS H a (kV k) (tj fF k) :=.inl ⟨fF,k,.inl e,rfl,rfl⟩
theorem NC.k{a:az}{k:lJ}{v:V}(e:H a=Y (.dK fF))(b:fF.length<bb):NC H a (kV k) v (dg H a (.dK (wO fF k v))) :=.inl ⟨fF,k,e,rfl,b,rfl⟩
section
variable {X:Cx}{s:av}{v:V}
theorem Inv.big(I:Inv X C B H s):kK<s.heap.objs.size:=by
 have h:aI<s.heap.objs.size:=(I.mod.glob.keeps I.bk).lt;exact Nat.lt_trans (by decide) h
theorem JN(F:A.units+1<rE)(I:Inv X C B H s)(g:xS H a y (Y v))(w:RelV y u)(h:∀i t,Inv X C B H t->RelV v i->Q i t):
  be (aU X.prog X.w) A (J9 (.ref a) u) Q E s:=by
 rcases g with⟨fF,k,e,q,l⟩|⟨fF,k,b,e,q,P,l⟩
 ·subst q;obtain⟨z,c,D,f,r⟩:=Bu I.eW e;obtain⟨i,hw,d⟩:=pE.some_of (v:=v) (o:=J8 D k) (by rw[l];exact f.val k);exact wpAny_getItem_of (Ek w) r.mapOf hw (h i _ (I.tok _) d)
 ·subst q;cases (show u=aE b from w);obtain⟨z,c,x,f,r⟩:=Br I.eW e;obtain⟨i,hw,d⟩:=pE.some_of (v:=v) (o:=(Ug x k).map (·.2)) (by rw[l];exact f.val k);obtain⟨p,K,o⟩:=aq.mp hw;refine wpAny_getItem_heap (uO F) (zd I.eW P) r K ?_;rw[o];exact h i _ (I.tok _) d
theorem PM(v:A.units+1<rE)(I:Inv X C B H s)(g:xS H a y o)(t:RelV y u)(h:∀r,Inv X C B H r->Q (.bool (!o.isSome)) r):
  be (aU X.prog X.w) A (gr .NotIn u (.ref a)) Q E s:=by
 rcases g with⟨fF,k,e,i,l⟩|⟨fF,k,b,e,i,w,l⟩
 ·subst i;obtain⟨z,f,D,d,p⟩:=Bu I.eW e;refine wpAny_notIn_of (Ek t) f p.mapOf ?_;rw[<- (d.val k).wk,<- l];exact h _ (I.tok _)
 ·subst i;cases (show u=aE b from t);obtain⟨z,f,x,d,p⟩:=Br I.eW e;refine wpAny_notIn_heap (uO v) (zd I.eW w) f p ?_;have q:=(d.val k).wk;rw[Option.isSome_map]at q;rw[<- q,<- l];exact h _ (I.tok _)
theorem HS{t':Nat}{e:HO}(I:Inv X C B H s)(g:WH (H a))(h:fD a s.heap d)(i:∃q,d.get? a=Y q)(f:fJ X.prog X.w (dg H a e) d a e):
  Inv X C B (dg H a e) { s with heap:=d,toks:=t' }:=
 I.write (x:=a) (e:=a) g (.inl rfl) (λb q k z=>(h.2 b k).trans z) i f
theorem Tr{P:bt}(z:fF.length<=bb)(f:(a==kK)=Z_)(d:KV fF b)(g:e.DictOf (hV P w) a b):
  fJ P w h e a (.dK fF):=⟨z,f,b,d,g⟩
theorem JM(hu:A.units+1<rE)(I:Inv X C B H s)(g:NC H a y v H')(j:RelV y u)(P:RelV v r)(h:∀K,Inv X C B H' K->Q () K):
  be (aU X.prog X.w) A (setItem (.ref a) u r) Q E s:=by
 rcases g with⟨fF,k,e,x,l,D⟩|⟨fF,k,b,e,x,eb,l,D⟩
 ·subst x D;obtain⟨z,w,vs,d,F⟩:=Wk I.eW e;have o:vs.length<=bb:=by rw[<- d.length];exact z
  have t:(wO fF k v).length<=bb:=by have:=w8 fF k v;omega
  refine wpAny_setItem_pairs (hsz:=o) (Ek j) F λR f p=>h _ ?_
  have he:∃q,R.get? a=Y q:=let ⟨q,_,_,i,_⟩:=f;⟨q,i⟩;exact HS I (by rw[e];exact hU) p he (Tr t w (d.put k P) f)
 ·subst x D;cases (show u=aE b from j);obtain⟨z,w,xs,d,F⟩:=Wd I.eW e;have o:xs.length<=bb:=by rw[<- Paired.length d];exact z
  have t:(wO fF k v).length<=bb:=by have:=w8 fF k v;omega
  refine wpAny_setItem_heap (hsz:=o) (uO hu) (zd I.eW eb) F λR f p=>h _ ?_
  obtain⟨q,es,ep,i,h2,h3,h4,_,h5⟩:=f;refine HS I (by rw[e];exact hU) p ⟨q,i⟩ ⟨t,w,_,(d.put k eb P).keeps λc ys S =>?_,q,es,ep,i,h2,h3,h4,h5⟩;rw[aZ (VF S e (λz=>nomatch z))];exact S
end
section
variable {X:Cx}{s:av}
end
def TZ(i:Expr):Prop:=∀a b,N0 i Z_ a b=operate [a,b] (J9 a b)
theorem Oe{s:av}(y:typeLookup (.type a) "__getitem__" = dR (Y (.builtin u)))(v:TZ d)(h:be (aU b w) A (eval T l) (λo k=>be (aU b w) A (eval d l) (λi e=>e.TypeIs o a/\be (aU b w) A (J9 o i) Q E e) E k) E s):
  be (aU b w) A (eval (.Subscript T d N) l) Q E s:=by
 refine Subscript_ (dS h (λo k q=>dS q (λi e f =>?_) λ_ _ x=>x) λ_ _ x=>x);obtain⟨t,f⟩:=f;unfold subscriptTail;refine ah ?_;rw[getitemInPython_of_ne t.not_modules];refine ah (wpAny_specialOf t y ?_);have lS:be (aU b w) A (N0 d Z_ o i) (λr g=>be (aU b w) A (letTemporaryGo T o r >>= λ_=>dR r) Q E g) E e:=by rw[v o i];exact wpAny_operating (dS f (λr g p=>ah (wpAny_letTemporaryGo (aF p))) λ_ _ x=>x)
 first
  |exact aF (ah lS)
  |exact ah (aF (ah lS))
  |exact ah lS
theorem Ew{X:Cx}{s:av}(I:Inv X C B H s)(g:xS H a y o):s.TypeIs (.ref a) "dict" :=by
 rcases g with⟨fF,k,e,_,_⟩|⟨fF,k,b,e,_,_,_⟩
 ·obtain⟨_,_,h,_,d⟩:=Bu I.eW e;exact d.typeIs
 ·obtain⟨_,_,f,_,d⟩:=Br I.eW e;exact d.typeIs
def U'(J L:TE):TE:=λB H Q=>J B H λx d=>L B d λy b=>∃a v,x=.ref a/\xS b a y (Y v)/\Q v b
def Od(L J:TE):TE:=λB H Q=>L B H λy d=>J B d λx b=>∃a o,x=.ref a/\xS b a y o/\Q (.bl (!o.isSome)) b
def Vl(J L U:TE):TS:=λD B H=>U B H λv f=>J B f λx e=>L B e λy d=>∃a b,x=.ref a/\NC d a y v b/\D.nx B b
section
variable {X:Cx}{m:Pos}
theorem OM(q:X.A.units+1<rE)(t:PE X o J)(w:PE X i L)(r:TZ i):PE X (.Subscript o i N) (U' J L):=by
 intro C s B H Q I h;refine Oe PySem.F.slot_dict_getitem.lookup r (fE (t C s B H _ I h) ?_);rintro u e ⟨x,F,D,k,p⟩;refine fE (w C e B F _ D p) ?_;rintro R P ⟨y,E,d,f,a,v,z,g,l⟩;subst z;obtain rfl:u=aE a:=k;exact⟨Ew d g,JN q d g f λK c A b=>⟨v,E,A,b,l⟩⟩
theorem Jc(p:X.A.units+1<rE)(r:PE X i L)(q:PE X o J):PC X .NotIn i o (Od L J):=by
 intro C s B H Q I h;refine fE (r C s B H _ I h) ?_;rintro K b ⟨y,D,z,d,k⟩;refine fE (q C b B D _ z k) ?_;rintro u F ⟨x,A,w,e,a,l,t,g,f⟩;subst t;obtain rfl:u=aE a:=e;exact PM p w g d λE v=>⟨.bl (!l.isSome),A,v,rfl,f⟩
theorem OF(w:X.A.units+1<rE)(A:PE X o J)(E:PE X i L)(t:PE X T U)(z:cp T (Y (.Subscript o i j)) N.line X.env=dR Z_):
  PS X (.Assign [.Subscript o i j] T N) (Vl J L U):=by
 intro C s B H D I h;refine wpAny_Assign_Subscript (fE (t C s B H _ I h) ?_) z;rintro r d ⟨v,H1,Q,k,q⟩;refine fE (A C d B H1 _ Q q) ?_;rintro u b ⟨x,S,P,f,p⟩;refine fE (E C b B S _ P p) ?_;rintro iv s3 ⟨y,H3,c,e,a,R,F,g,l⟩;subst F;obtain rfl:u=aE a:=f;exact JM w c g e k λs4 K=>⟨B,R,K,l⟩
end
theorem M9{P:bt}{w:cZ}(h:cD)(a:kK<h.objs.size):fJ P w H (h.push { cls :=.type "dict",data :=.dict #[] }) h.objs.size (.dK []):=
 ⟨eG _,beq_eq_false_iff_ne.mpr (bG (bH a)),[],.nil,Heap.DictOf.new h⟩
def Rx:TE:=λ_ H Q=>∀p,H p=M->Q (.ref p) (dg H p (.dK []))
section
variable {X:Cx}
theorem LH:PE X (.Dict [] [] N) Rx:=λC s B H Q I h=>
 wpAny_Dict_empty ⟨.ref s.heap.objs.size,_,I.laid (a:=s.heap.objs.size) (o :=.dK []) (t':=s.toks) (λ_ _ q=>ai _ q) (aS _) (M9 s.heap I.big),rfl,h _ (I.eW.fresh (aS _))⟩
end
structure M2(X:Cx)(o:Expr)(m:aG)(uM:Pos)(e f:Expr)(wz:Pos):Prop where
 base:bY o m X.env (eval o X.env)=eval o X.env
 V':((cv wz (ao [e,f] X.env)).all (λx=> !x.1)&&(f' wz (cQ [] X.env)).all (λx=>x.1.isSome)
  && decide (([e,f]:List Expr).length+([]:List nX).length+(if ([]:List nX).isEmpty then 0 else 1)<30))=true
 line:(uM.endLine==wz.line)=true
 trees:cv wz (ao [e,f] X.env)=[(false,eval e X.env),(false,eval f X.env)]
def IsD(H:Hp)(a:az):Prop:=(∃fF,Rd H a (.dK fF))∨∃fF,Rd H a (.dT fF)
theorem SH{X:Cx}{s:av}(I:Inv X C B H s)(d:IsD H a):
  s.TypeIs (.ref a) "dict" /\(∀b,aE a=.ref b->∃f,s.heap.get? b=Y f/\f.dict=M)/\(a==kK)=false:=by
 rcases d with⟨fF,e⟩|⟨fF,e⟩
 ·obtain⟨_,h,o,_,g⟩:=Bu I.eW e;refine⟨g.typeIs,λb q =>?_,h⟩;cases q;obtain⟨f,_,_,k,i,_⟩:=g;exact⟨f,k,i.2.1⟩
 ·obtain⟨_,h,l,_,g⟩:=Br I.eW e;refine⟨g.typeIs,λb q =>?_,h⟩;cases q;obtain⟨f,_,_,k,i,_⟩:=g;exact⟨f,k,i.2.1⟩
section
variable {X:Cx}{s:av}
theorem TF(F:A.units+1<rE)(I:Inv X C B H s)(g:xS H a y o)(w:RelV y u)(x:RelV d r)(h:∀t v,Inv X C B H v->RelV (o.getD d) t->Q t v):
  be (aU X.prog X.w) A (J_ (.builtin "dict.get") [.ref a,u,r]) Q E s:=by
 rcases g with⟨fF,k,e,q,l⟩|⟨fF,k,b,e,q,K,l⟩
 ·subst q;obtain⟨z,p,c,f,i⟩:=Bu I.eW e;refine call_meetsIn PySem.F.slot_dict_get i.typeIs PySem.F.entry_dict_get (PySem.F.args_dict_get_3 _ _ _) (meets_dict_get_default (hV X.prog X.w) a (Ek w) p r) ⟨_,i.mapOf,h _ _ (I.tok _) ?_⟩;rw[l];exact(f.val k).getD x
 ·subst q;cases (show u=aE b from w);obtain⟨z,p,D,f,i⟩:=Br I.eW e;refine call_meetsIn PySem.F.slot_dict_get i.typeIs PySem.F.entry_dict_get (PySem.F.args_dict_get_3 _ _ _) (meetsH_dict_get_default (De (hV X.prog X.w)) a b p r) ⟨uO F,k,D,zd I.eW K,i,h _ _ (I.tok _) ?_⟩;rw[l];exact(f.val k).getD x
end
def Ry(J L c:TE):TE:=λB H Q=>J B H λx d=>∃a,x=.ref a/\IsD d a/\L B d λy e=>c B e λz b=>∃o,xS b a y o/\Q (o.getD z) b
section
variable {X:Cx}{f:Expr}
theorem LI(E:X.A.units+1<rE)(F:PE X o J)(j:PE X e L)(K:PE X f c)(m:M2 X o "get" n e f O):PE X (.Call (.Attribute o "get" n) [e,f] [] O) (Ry J L c):=by
 intro C s B H Q I h;refine wpAny_Call_method m.base m.V' m.line PySem.F.plainAttrs_dict PySem.F.slot_dict_get PySem.F.type_dict_get (fE (F C s B H _ I h) ?_);rintro u q ⟨x,H1,i,v,a,P,d,D⟩;subst P;obtain rfl:u=aE a:=v;obtain⟨l,k,_⟩:=SH i d;refine⟨l,k,?_⟩;rw[m.trees];refine Ac rfl (Calls.evalArgs_plain (GS (fE (j C q B H1 _ i D) λiv p ⟨y,H2,I2,t,A⟩=>GS (fE (K C p B H2 _ I2 A) λfv s3 ⟨z,H3,S,r,ov,g,w⟩=>Calls.spliced_nil ?_))))
 exact TF E S g t r λw' s4 R b=>⟨_,H3,R,b,w⟩
end
section
variable {X:Cx}{s:av}
end
section
variable {X:Cx}{s:av}
end
abbrev rp(K:aT)(c f:aG):Prop:=∀C,gU K aI c=Y (Y (.ref C))->ET K C/\qK K C f
theorem Hh{K:aT}{f:aG}{d:D}{v:V}(m:cO K G d v):∀ {a:List aG}{g:List D}{h:List V},a.length=g.length->bz K G g h->∃b,lx f v (a.zip h)=(iT f d a g).1.zip b/\(iT f d a g).1.length=(iT f d a g).2.length/\bz K G (iT f d a g).2 b
 |[],[],h,c,r=>by rw[dE.mp r];exact⟨[v],rfl,rfl,.cons m .nil⟩
 |[],x::g,h,c,r=>by simp at c
 |k::a,[],h,c,r=>by simp at c
 | k::a,x::g,h,c,r=>by
  obtain⟨u,i,rfl,o,n⟩:=bJ.mp r;simp only[aP,NM]at c;unfold iT;rw[cb,show lx f v ((k,u)::a.zip i)=(if k=f then (k,v)::a.zip i else (k,u)::lx f v (a.zip i)) from rfl];by_cases j:k=f
  ·rw[if_pos j,if_pos j];exact⟨v::i,rfl,by simp[c],.cons m n⟩
  ·rw[if_neg j,if_neg j];obtain⟨b,e,l,q⟩:=Hh m c n;exact⟨u::b,by rw[cb,e],by simp[l],.cons o q⟩
theorem uW{a:List d}(h:a.length=b.length):(a.zip b).length=a.length:=by simp[h]
theorem kR{K:aT}{G:Hp}{f:aG}:∀ {a:List aG}{b:List V},f∉a->(a.zip b).lookup f=M
 |[],b,h=>by simp
 |k::a,[],h=>by simp
 |k::a,v::b,h=>by simp only[aW,not_or]at h;rw[cb,dw,beq_eq_false_iff_ne.mpr h.1];exact kR (K:=K) (G:=G) h.2
section
variable {X:Cx}
theorem XG{c f:aG}(h:PE X e (tQ X.K own g))(p:rp X.K c f)(x:bY e f X.env (eval e X.env)=eval e X.env:=by rfl):
  PE X (.Attribute e f I) (tP X.K own (bp c f g)):=(qy h x).imp <|by
 rintro F H Q ⟨G,m,d,z,j,b,k⟩;unfold bp at b;rw[aa]at b;obtain⟨o,l,b⟩:=b;refine⟨G,m,o,z,j,l,λv E D q w =>?_⟩;cases o<;>simp only[ae]at b<;>try (cases b;done)
 split at b
 ·rename_i i;subst i;obtain⟨a,C,B,K,rfl,y,n,_,t⟩:=w.YG q.gh;obtain⟨u,A,r⟩:=HD t b;exact⟨a,C,B,_,u,rfl,y,(p C n).1,(p C n).2,A,k u E D q r⟩
 ·cases b
end
section
variable {X:Cx}{s:List Nat}
def FN:DG:=λ_=>M
theorem Wf:PS X a (ib X.K B s own own1 FN):=Lv.imp <|by rintro D c H ⟨G,d,o,S,b,k⟩;cases b
def Bl(c:aG)(i:Nat)(a:cy):Option (List aG×List D):=(eV i a).bind λd=>match d with|.ins f b e=>if f=c then Y (b,e) else M|_=>M
theorem Ga{e:List D}(h:Bl c i a=Y (b,e)):a[i]?=Y (Y (.ins c b e)):=by
 unfold Bl at h;obtain⟨d,g,h⟩:=aa.1 h;have:=iO g;cases d<;>simp only[ae]at h<;>try (cases h;done)
 split at h
 ·rename_i f;cases h;subst f;exact this
 ·cases h
theorem SR.Yp{K:aT}{G:Hp}{d:List aG}{f:List D}(S:SR K B own G H g j)(k:i∈own)(h:j[i]?=Y (Y (.ins c d f))):
  ∃a C e b,g[i]?=Y (Y (.ref a))/\H a=Y (.ins C e (d.zip b))/\gU K aI c=Y (Y (.ref C))/\d.length=f.length/\bz K G f b/\G a=M/\B.2 a=none:=by
 obtain⟨a,q,p,o,⟨C,e,b,rfl,n,l,r⟩,m⟩:=S.LL k h rfl;exact⟨a,C,e,b,p,o,n,l,r,m⟩
def lu(i:Nat)(c f:aG)(b:DF):DG:=λa=>(b a).bind λd=>(Bl c i a).bind λq=>if q.1.length<999 then Y (.nx (a.set i (Y (.ins c (iT f d q.1 q.2).1 (iT f d q.1 q.2).2)))) else M
theorem Zp{i:Nat}{c f:aG}{w:DF}(h:PE X (.Name x p) (iC i))(P:PE X e (tP X.K own w))(u:rp X.K c f)(q:i∈own:=by decide)(N:cp e (Y (.Attribute (.Name x p) f T)) I.line X.env=dR false:=by rfl):
  PS X (.Assign [.Attribute (.Name x p) f T] e I) (ib X.K B s own own (lu i c f w)):=(BZ h P N).imp <|by
 rintro D σ H ⟨G,m,o,S,b,k⟩;unfold lu at b;obtain⟨d,R,b⟩:=aa.1 b;rcases j:Bl c i m with _|⟨ks,ds⟩
 ·simp[j]at b
 simp only[j,ae]at b;split at b
 ·cases b;rename_i hz;have t:=Ga j;refine⟨G,m,d,S.gh,S.ji,R,λv G' H' E r =>?_⟩;have F:=S.ext E;obtain⟨a,C,A,vs,z,e3,n,l,y,e5,e6⟩:=F.Yp q t;obtain⟨g,Q,J,K⟩:=Hh (f:=f) r l y;refine⟨_,z,a,C,A,_,rfl,e3,(u C n).1,(u C n).2,?_,?_⟩
  ·rw[uW (by rw[l,y.length])];omega
  ·rw[Q];exact k _ G' _ (F.VH q t z ⟨C,A,g,rfl,n,J,K⟩)
 ·cases b
abbrev Ou(a:Int->Int->Int):V->V->Hp->VK->Prop:=λx y H Q=>∃i j,x=.int i/\y=.int j/\Q (.int (a i j)) H
def eY(f:DM):DG:=λa=>(f a).map λq =>.nx q.2
theorem Et{f:DM}(i:PE X e (tM X.K B own f))(h:cp e M I.line X.env=dR false:=by rfl):PS X (.Expr e I) (ib X.K B s own own (eY f)):=(sM i h).imp <|by
 rintro D c H ⟨G,g,o,S,a,k⟩;unfold eY at a;obtain⟨⟨d,b⟩,j,a⟩:=aq.1 a;cases a;exact⟨G,g,d,b,S,j,λv n m l _ r=>k c n m l⟩
end
inductive RA (K:aT) (p:Nat) (F:List D->Option (D×D)) (f:List V) (H:Hp) (Q:VK) (_x:XK):Prop
 |mk G b d j a o c:bD G H->b[p]?=some c->f[p]?=some (.ref a)->H a=some o->jk K G c o->G a=none->(∀(i:Nat) c,i≠p->b[i]?=some c->∃v,f[i]?=some v/\cO K G c v)->b.length=f.length->F b=some (d,j)->(∀v h e g,f_ G (Dd H a) e g->e a=none->g a=some h->jk K e j h->cO K e d v->Q v g)->RA K p F f H Q _x
def Yr(p:Nat):DO->Option (D×D)
 |.rm d a=>(eV p a).bind λc=>if vp c=Z' then Y (d,c) else M
 |.nx a=>(eV p a).bind λc=>if vp c=Z' then Y (.dJ,c) else M
 |_=>M
def runC(n N p:Nat)(g:DG)(a:List D):Option (D×D):=if a.length=n then (g (ic N a)).bind (Yr p) else M
section
variable {P:bt}{K:aT}
theorem hG.okC{R:qP}{f:az}(F:hG K x l R f fd)(S:bB N ps (aB R))(p:Nat){own own':List Nat}{g:DG}(hp:p∈own)(SV:∀i∈own,i=p∨ps.length<=i) (hb:∀(t:ak) (A:gD) (j:List Env) (s:av) (H:Hp) (E:XK),eM k (A.deeper (qm l (aB R) s.heap.objs.size f t))->∀(B:Bs) (a:az),B.3=[(p,a)] ->
   oP (qI gS P w K O U N l (aB R) f t A j s H E).Jj (gv R) (ib K B [] own own' g)):b_ P w K O U gS (k+1) f fd ps (RA K p (runC ps.length N.length p g)):=by
 refine F.ok S (λvs H Q E h =>?_) (λt A j s H vs Q E hr h =>?_)
 ·obtain⟨G,ds,d,c',a,o,c,gh,hd,hv,ha,r,ga,ro,hl,e,_⟩:=h;unfold runC at e;split at e
  ·rw[<- hl];assumption
  ·cases e
 ·obtain⟨G,ds,d,c',a,o,c,gh,hd,hv,ha,r,ga,ro,hl,e,q⟩:=h;unfold runC at e;split at e
  ·rename_i hn;refine⟨_,hb t A j s H E hr ⟨G,Dd H a,[(p,a)],λ_ _=>False⟩ a rfl,?_⟩;obtain⟨oo,eg,e⟩:=aa.1 e;have lS:∀ {σ:St}{m:cy}{C n:Hp}{o':List Nat}{y:D},SR K ⟨G,Dd H a,[(p,a)],λ_ _=>False⟩ o' C n σ m->eV p m=Y y->vp y=Z'->∃u,n a=Y u/\jk K C y u/\C a=none:=fun {σ m C n o' y} z el X=>by obtain⟨SU,hσ⟩:=z.pin p a (by simp);obtain⟨b,u,f2,f3,f4,f5,_⟩:=z.LL SU (iO el) X;rw[hσ]at f2;cases f2;exact⟨u,f3,f4,f5⟩
   refine⟨G,_,oo,AY gh hp hd hv ha r ga ro hl (by rw[hn];exact SV),eg,?_⟩;cases oo with
   |rm d' m=>
    have e:((eV p m).bind λc=>if vp c=Z' then Y (d',c) else M)=Y (d,c'):=e;obtain⟨y,el,e⟩:=aa.1 e;split at e
    ·rename_i X;cases e;intro v σ C n ⟨o',z⟩ rv;obtain⟨u,f3,f4,f5⟩:=lS z el X;exact q v u C n z.mX f5 f3 f4 rv
    ·cases e
   |nx m=>
    have e:((eV p m).bind λc=>if vp c=Z' then Y (D.dJ,c) else M)=Y (d,c'):=e;obtain⟨y,el,e⟩:=aa.1 e;split at e
    ·rename_i X;cases e;intro σ C n z;obtain⟨u,f3,f4,f5⟩:=lS z el X;exact q _ u C n z.mX f5 f3 f4 (gI.mpr rfl)
    ·cases e
   |_=>cases e
  ·cases e
structure eC(P:bt)(w:cZ)(K:aT)(mg:aG->Option ak)(base:cD)(c m:aG)(k:Nat)(sp:Sp):Prop where
 ex:∃C f fd ps,gU K aI c=some (some (.ref C))/\ET K C/\GI K C m f/\b_ P w K mg base gS k f fd ps sp/\Binds K fd ps []
theorem eC.mono{m:aG}(h:eC P w K O U c m j a)(d:j<=k):eC P w K O U c m k a:=by
 obtain⟨C,f,o,b,n,l,i,g,e⟩:=h.ex;exact⟨C,f,o,b,n,l,i,g.mono d,e⟩
structure sC(P:bt)(w:cZ)(K:aT)(mg:aG->Option ak)(base:cD)(c:aG)(k:Nat)(sp:Sp):Prop where
 ex:∃C f fd ps,gU K aI c=some (some (.ref C))/\mg c=some (.ref C)/\Mk K C f/\b_ P w K mg base gS k f fd ps sp/\Binds K fd ps []
end
section
variable {X:Cx}
inductive U9 (K:aT) (own:List Nat) (f:DF) (e:St) (H:Hp) (Q:VK):Prop
 |mk G c d:bD G H->kJ K own G H e c->f c=some d->(∀p o b a,f_ G H b a->H p=none->b p=none->a p=some o->jk K b d o->Q (.ref p) a)->U9 K own f e H Q
def HL(c:aG)(F:List D->Option (D×D))(g:DL):DF:=λa=>(g a).bind λb=>(F (.ins c [] []::b)).bind λr=>match r.1 with|.dJ=>Y r.2|_=>M
theorem HR{c:aG}{F:List D->Option (D×D)}(h:sC X.prog X.w X.K X.mg X.base c k (RA X.K 0 F))(hr:eM (k+1) X.A)(hg:Gl X c)(ha:PA X (e::J) (BP X.K own g))(B:(c==("__debug__" : aG))=false:=by decide)(he:ao (e::J) X.env=(Z_,eval e X.env)::ao J X.env:=by rfl)(A:(cv I (ao J X.env)).any (·.1)=false:=by rfl):PE X (.Call (.Name c p) (e::J) [] I) (U9 X.K own (HL c F g)):=by
 obtain⟨C,f,fd,ps,n,hm,hk,h1,a⟩:=h.ex;refine(Hl hk h1 hr hg hm a .nil oB ha B he A).imp ?_;rintro σ H Q ⟨G,R,d,gh,K,j,q⟩;unfold HL at j;obtain⟨N,eg,j⟩:=aa.1 j;obtain⟨⟨d',c'⟩,eF,j⟩:=aa.1 j;cases d'<;>simp only[ae]at j<;>try (cases j;done)
 cases j;refine⟨G,R,N,gh,K,eg,λS s H1 w P x t m l ne =>?_⟩;show RA X.K 0 F (.ref x::(S++[])) _ _ E0;rw[bU];have E:s x=none:=w.gh.free m;have s2:bD s (dg (dg H1 t (.own x)) x (.ins C t [])):=w.gh.trans ((bD.alloc l).trans (.alloc (by rw[aZ (bG ne)];exact m)));refine⟨s,.ins c [] []::N,.dJ,_,x,_,.ins c [] [],s2,rfl,rfl,br,⟨C,t,[],rfl,n,rfl,.nil⟩,E,λi y hi ec =>?_,by simp[P.length],eF,λv o' G2 H2 u g2 h2 r2 r3=>⟨gI.mp r3,?_⟩⟩
 ·cases i with
  |zero=>exact absurd rfl hi|succ i=>exact P.get (i:=i) (by simpa using ec)
 ·refine q x o' G2 H2 (w.trans ⟨λb o e=>u.hh b o ?_,u.gg,u.gh,λb o e =>?_⟩) (w.hh.free m) g2 h2 r2
  ·have a:b≠x:=bI e m;rw[uv a,aZ a,aZ (bI e l)];exact e
  ·rcases u.fr b o e with z|z
   ·exact .inl z
   ·refine .inr ?_;by_cases a:b=x
    ·subst a;exact m
    ·by_cases r:b=t
     ·subst r;exact l
     ·rw[uv a,aZ a,aZ r]at z;exact z
theorem HP{s:List Nat}{i:Nat}{f:DF}(w:X.N.Nodup)(t:X.N[i]?=Y x)(h:Loc X.env.scope x)(v:PE X e (U9 X.K own f))(n:i∈own:=by decide)(b:∀a,(i,a)∉B.3:=by intro a;simp_all)(q:Ae i∉own:=by decide)(l:cp e (Y (.Name x T)) I.line X.env=dR false:=by rfl)(u:X.fn x=Z'∨X.env.scope.names.lookup x=Y .local:=by first|exact .inl rfl|exact .inr rfl|assumption):
  PS X (.Assign [.Name x T] e I) (ib X.K B s own own (dD i f)):=(ma w t h v l u).imp <|by
 rintro D F H ⟨G,g,o,S,c,k⟩;unfold dD at c;obtain⟨d,z,c⟩:=aq.1 c;cases c;exact⟨G,g,d,S.gh,S.ji,z,λp K C A E m y j r=>k _ C A (S.setC n E m y j r b q)⟩
end
section
variable {X:Cx}{m:Pos}{f:DF}
end
section
variable {X:Cx}{m:Pos}{f:DF}
end
section
variable {X:Cx}{m:Pos}{f:DF}
end
section
variable {X:Cx}{f:Expr}
noncomputable def eJ(ks:List lJ)(c:List D)(k:lJ):Option D:=((ks.zip c).find? λa=>decide (a.1=k)).map (·.2)
theorem qH{K:aT}:∀ {c:List lJ}{f:List D}{a:List V}{d:D},bz K G f a->eJ c f k=Y d->∃v,tj (c.zip a) k=Y v/\cO K G d v
 |[],f,a,d,r,h=>by simp[eJ]at h
 |x::c,[],a,d,r,h=>by simp[eJ]at h
 | x::c,y::f,a,d,r,h=>by
  obtain⟨v,t,rfl,i,l⟩:=bJ.mp r;by_cases g:x=k
  ·subst g;have:y=d:=by simpa [eJ] using h
   subst this;exact⟨v,uX rfl,i⟩
  ·have m:eJ c f k=Y d:=by simpa [eJ,g] using h
   obtain⟨u,e,j⟩:=qH l m;exact⟨u,by rw[cb,rO g];exact e,j⟩
theorem uz{K:aT}:∀ {c:List lJ}{d:List D}{a:List V},bz K G d a->eJ c d k=M->tj (c.zip a) k=M
 |[],d,a,r,h=>by simp[tj]
 |x::c,[],a,r,h=>by rw[dE.mp r];simp[tj]
 | x::c,y::d,a,r,h=>by
  obtain⟨v,t,rfl,i,f⟩:=bJ.mp r;by_cases e:x=k
  ·subst e;simp[eJ]at h
  ·have g:eJ c d k=none:=by simpa [eJ,e] using h
   rw[cb,rO e];exact uz f g
def B9:D->Option lJ
 |.int i=>Y (yt i)|.str x=>Y (cN x)|_=>M
theorem vo{K:aT}{v:V}(h:B9 d=Y k)(r:jt K G H d v):v=kV k:=by
 cases d<;>simp only[B9]at h<;>try (cases h;done)
 ·cases h;exact r.int
 ·cases h;exact r.str
def sr(f g e:DF):DF:=λa=>(f a).bind λd=>(g a).bind λk=>(e a).bind λx=>match d with|.iW c h=>(B9 k).map λk=>(eJ c h k).getD x|_=>M
theorem Cw{D F:DF}{i:Pos}(hu:X.A.units+1<rE)(ho:PE X o (tQ X.K own D))(he:PE X e (tQ X.K own F))(hf:PE X f (tP X.K own C))(m:M2 X o "get" j e f i):PE X (.Call (.Attribute o "get" j) [e,f] [] i) (tP X.K own (sr D F C)):=
 (LI hu ho he hf m).imp <|by
  rintro σ H Q ⟨G,r,d,gh,n,c,q⟩;unfold sr at c;rcases g:D r with _|dd
  ·rw[g]at c;cases c
  rcases h:F r with _|N
  ·simp[g,h]at c
  rcases p:C r with _|L
  ·simp[g,h,p]at c
  simp only[g,h,p,ae]at c;cases dd<;>simp only at c<;>try (cases c;done)
  rename_i b J;rcases I:B9 N with _|k
  ·rw[I]at c;cases c
  rw[I]at c;refine⟨G,r,_,gh,n,g,λv G1 H1 x r1 =>?_⟩;obtain⟨a,vs,rfl,O,l,S⟩:=r1.Ts x.gh;refine⟨a,rfl,.inl ⟨_,.of O⟩,G1,r,N,x.gh,n.ext x,h,λu G2 H2 t U=>⟨G2,r,L,t.gh,(n.ext x).ext t,p,λz R P K T =>?_⟩⟩;have hk:u=kV k:=vo I U;have B:=K.hh _ _ (t.hh _ _ O);have s:=bz.mono (t.gg.trans K.gg) J S;refine⟨_,by rw[hk];exact xS.k B,?_⟩;have E:=(x.trans t).trans K;have c:Y ((eJ b J k).getD L)=Y d:=c;rcases y:eJ b J k with _|dv
  ·rw[y]at c;cases c;rw[uz s y];exact q _ R P E T
  rw[y]at c;cases c;obtain⟨w,ew,A⟩:=qH s y;rw[ew];exact q _ R P E A
end
def C9:D->D->Option D
 |.int i,.int j=>Y (.int (c_ i j))|_,_=>M
def d_:D->D->Option D
 |.int i,.int j=>Y (.int (uV i j))|_,_=>M
def pX:D->D->Option D
 |.int i,.int j=>if 0<=j/\j<=1000/\i.natAbs<2 ^ 64 then Y (.int (i*2 ^ j.toNat)) else M
 |_,_=>M
def Sd:D->D->Option D
 |.int i,.int j=>if 0<=j then Y (.int (i/2 ^ j.toNat)) else M
 |_,_=>M
def xE:D->Option D
 |.int i=>Y (.int (uU i))|_=>M
section
variable {X:Cx}{f:Pos}
theorem QN:AF X (dX .BitOr) C9:=pG.imp Vy <|by
 rintro x y H Q ⟨G,k,j,d,i,e,b,a,q⟩;unfold C9 at a;split at a<;>try (cases a;done)
 cases a;exact⟨_,_,e.int,b.int,q _ G H (.refl i) (bX.mpr rfl)⟩
theorem Xa:AF X (dX .BitAnd) d_:=pG.imp R7 <|by
 rintro x y H Q ⟨G,k,j,d,i,e,b,a,q⟩;unfold d_ at a;split at a<;>try (cases a;done)
 cases a;exact⟨_,_,e.int,b.int,q _ G H (.refl i) (bX.mpr rfl)⟩
theorem Yv:AF X (dX .LShift) pX:=pG.imp R3 <|by
 rintro x y H Q ⟨G,l,k,d,j,i,e,a,q⟩;unfold pX at a;split at a<;>try (cases a;done)
 split at a
 ·rename_i b;cases a;exact⟨_,_,i.int,e.int,⟨b.1,by have:=b.2.1;omega,b.2.2⟩,q _ G H (.refl j) (bX.mpr rfl)⟩
 ·cases a
theorem Yu:AF X (dX .RShift) Sd:=pG.imp R1 <|by
 rintro x y H Q ⟨G,l,k,d,j,i,e,a,q⟩;unfold Sd at a;split at a<;>try (cases a;done)
 split at a
 ·rename_i b;cases a;exact⟨_,_,i.int,e.int,b,q _ G H (.refl j) (bX.mpr rfl)⟩
 ·cases a
theorem Zy(l:PE X a (tQ X.K own c)):PE X (.UnaryOp .Invert a f) (tP X.K own (e1 xE c)):=(QK Rh l).imp <|by
 rintro s H Q ⟨G,i,d,m,b,o,k⟩;obtain⟨x,n,e⟩:=HM o;cases x<;>simp[xE]at e
 subst e;exact⟨G,i,_,m,b,n,λv q p r j=>⟨_,j.int,k _ q p r (bX.mpr rfl)⟩⟩
theorem aam:J1 X .BitOr (Ou c_):=by
 rintro b s k H x y u v Q I e d ⟨i,j,rfl,rfl,q⟩;obtain⟨t,rfl⟩:=(show ∃t,u=js i t from e);obtain⟨a,rfl⟩:=(show ∃a,v=js j a from d);exact ior_int ⟨.int (c_ i j),H,I.tok _,⟨_,rfl⟩,q⟩
def tO(i:Nat)(e:Int->Int->Int)(j:DF):DG:=λd=>(eV i d).bind λx=>(j d).bind λy=>match x,y with|.int a,.int b=>Y (.nx (d.set i (Y (.int (e a b)))))|_,_=>M
theorem Zq{i:Nat}{op:Int->Int->Int}(b:J1 X o (Ou op))(w:X.N.Nodup)(q:X.N[i]?=Y x)(p:Loc X.env.scope x)(t:PE X e (tP X.K own j))(n:i∉own:=by decide)(s:X.fn x=Z'∨X.env.scope.names.lookup x=Y .local:=by first|exact .inl rfl|exact .inr rfl|assumption):
  PS X (.AugAssign (.Name x g) o e f) (ib X.K B h own own (tO i op j)):=(RM (ti:=Ou op) w q p t b s).imp <|by
 rintro D I H ⟨G,m,J,S,a,k⟩;unfold tO at a;obtain⟨c,y,a⟩:=aa.1 a;obtain⟨d,l,a⟩:=aa.1 a;split at a
 ·rename_i L K;cases a;obtain⟨v,A,z⟩:=S.env i _ n (iO y);cases bX.mp z;refine⟨_,A,G,m,_,S.gh,S.ji,l,λu F C E r =>?_⟩;cases bX.mp r;exact⟨_,_,rfl,rfl,k _ F C ((S.ext E).xu n (bX.mpr rfl))⟩
 ·cases a
end
section
variable {K:aT}{f:List Nat}
theorem SR.tree{s:Sk}(S:SR K B f G H y l)(c:i∈f)(e:l[i]?=Y (Y (.obj s t))):∃a T,y[i]?=Y (Y (.ref a))/\cB K G H s t (.ref a) T/\T.Nodup/\(∀b∈T,G b=M/\B.2 b=M)/\∃F,qg K B f G H y l F/\F i=T:=by
 obtain⟨F,W⟩:=S.ow;obtain⟨a,g,d⟩:=W.it i _ c e;obtain⟨n,k⟩:=W.ok i _ c e;exact⟨a,F i,g,d,n,k,F,W,rfl⟩
def cS(r:Nat)(l:cy):cy:=l.map λo=>match o with|some (.dN k p)=>if k=r then M else Y (.dN k p)|o=>o
theorem bL{r i:Nat}(h:(cS r l)[i]?=Y (Y d)):l[i]?=Y (Y d)/\∀p,d ≠ .dN r p:=by
 unfold cS at h;rw[aY]at h;obtain⟨o,e,h⟩:=aq.1 h;rw[e];cases o with
 |none=>cases h|some c=>
  cases c with
  |dN k p=>
   simp only[bP,gw]at h;split at h
   ·cases h
   ·rename_i a;cases h;exact⟨rfl,λq z=>a (by cases z;rfl)⟩
  |_=>simp only[bP,gw]at h;cases h;exact⟨rfl,λq z=>by cases z⟩
theorem kM{r i:Nat}(h:l[i]?=Y (Y d))(a:∀p,d ≠ .dN r p):(cS r l)[i]?=Y (Y d):=by
 unfold cS;rw[aY,h];cases d with
 |dN k p=>simp only[bP,gw];rw[if_neg (λz=>a p (by rw[z]))]
 |_=>rfl
theorem SR.IH{r:Nat}(S:SR K B f G H y l):SR K B f G H y (cS r l):=by
 refine⟨S.gh,S.g0,S.h0,S.fr,λi d a e=>S.env i d a (bL e).1,?_,by rw[S.len];simp[L2.cS],S.pin,λj k p s o e =>?_⟩
 ·obtain⟨F,W⟩:=S.ow;exact⟨F,λi d a e=>W.it i d a (bL e).1,λi d a e=>W.ok i d a (bL e).1,λi j d c a n C A=>W.ap i j d c a n (bL C).1 (bL A).1⟩
 ·obtain⟨v,x,m,g,h,w,b,u,t⟩:=S.dN j k p s o (bL e).1;exact⟨v,x,m,g,h,w,b,kM u (λq z=>by cases z),t⟩
theorem SR.Cz{s:Sk}{t':D}{m:List az}{F:Nat->List az}(S:SR K B f G H y l)(W:qg K B f G H y l F)(J:F i=T)(g:i∈f)(I:l[i]?=Y (Y (.obj s t)))(u:y[i]?=Y (Y (.ref a)))(E:f_ G (jA H T) G' H')(v:cB K G' H' n t' (.ref a) m)(x:m.Nodup)(w:∀b∈m,G' b=M/\(b∈T∨H b=M)):SR K B f G' H' y ((cS i l).set i (Y (.obj n t'))):=by
 have A:=kM (r:=i) I (λq z=>by cases z);have N:qg K B f G H y (cS i l) F:=⟨λi d g e=>W.it i d g (bL e).1,λi d g e=>W.ok i d g (bL e).1,λi j d c g C O L=>W.ap i j d c g C (bL O).1 (bL L).1⟩;have:=(S.IH (r:=i)).chg (i:=i) (a:=a) (d' :=.obj n t') (F0:=T) (S':=m) N g (λb k=>⟨by rw[J];exact k,_,A⟩) E.gg E.gh (λb o e=>by
   rcases E.fr b o e with z|z
   ·exact .inl z
   ·by_cases k:b∈T
    ·exact .inr (.inr k)
    ·rw[cX k]at z;exact .inr (.inl z))
  (λb o k e=>E.hh b o (by rw[cX k];exact e)) v x w (λb h=>by have:=(S.pin i b h).2;rw[u]at this;cases this;rfl) (λr p z=>by cases z)
  (λj p _ _ _ e=>absurd rfl ((bL e).2 p))
 rwa [gf u]at this
theorem SR.La{p:zW}{s s':Sk}{v:V}(S:SR K B f G H y l)(hi:i∈f)(N:Ae i∈f)(hj:j∈f)(J:i≠j)(D:Ae j∉f)(C:∀a,(j,a)∉B.3)(hd:l[i]?=Y (Y (.obj s t)))(hs:y[i]?=Y (Y v))(hv:gB H p v=Y (.ref b))(es:mh p s=Y s')(ef:∀g∈zr p,g∈CO):SR K B f G H (y.set j (Y (.ref b))) (l.set j (Y (.dN i p))):=by
 obtain⟨F,W⟩:=S.ow;refine⟨S.gh,S.g0,S.h0,S.fr,λk c o e =>?_,⟨λk=>if k=j then [] else F k,λk c o e =>?_,λk c o e =>?_,λk m c c' o hm ek em L =>?_⟩,by simp[S.len],λk x h =>?_,λk r q h1 h2 e =>?_⟩
 ·have d:j≠k:=λz=>o (z ▸ hj)
  rw[aj d]at e;obtain⟨u,n,O⟩:=S.env k c o e;exact⟨u,by rw[aj d];exact n,O⟩
 ·rcases gH e with⟨rfl,rfl,A⟩|⟨d,n⟩
  ·exact⟨b,qN (by rw[S.len];exact A),by simp[nI]⟩
  ·obtain⟨x,f1,f2⟩:=W.it k c o n;exact⟨x,by rw[aj d];exact f1,by simp only[if_neg (bG d)];exact f2⟩
 ·rcases gH e with⟨rfl,rfl,A⟩|⟨d,n⟩
  ·simp
  ·simp only[if_neg (bG d)];exact W.ok k c o n
 ·rcases gH ek with⟨rfl,rfl,A⟩|⟨d,n⟩
  ·simp
  ·rcases gH em with⟨rfl,rfl,A⟩|⟨E,O⟩
   ·simp
   ·simp only[if_neg (bG d),if_neg (bG E)];exact W.ap k m c c' o hm n O L
 ·obtain⟨p1,X⟩:=S.pin k x h;have:j≠k:=λz=>by subst z;exact C x h
  exact⟨p1,by rw[aj this];exact X⟩
 ·rcases gH e with⟨rfl,z,A⟩|⟨d,n⟩
  ·cases z;exact⟨hi,N,s,t,s',v,.ref b,by rw[aj (bG J)];exact hd,by rw[aj (bG J)];exact hs,qN (by rw[S.len];exact A),hv,es,ef⟩
  ·obtain⟨g1,P,U,R,T,w,Q,g2,g3,g4,g5⟩:=S.dN k r q h1 h2 n;have I:j≠r:=λz=>D (z ▸ P)
   exact⟨g1,P,U,R,T,w,Q,by rw[aj I];exact g2,by rw[aj I];exact g3,by rw[aj d];exact g4,g5⟩
end
section
variable {K:aT}{f:List Nat}
theorem SR.RG{i:Nat}{a:az}{s:Sk}{F:Nat->List az}(S:SR K B f G H y l)(W:qg K B f G H y l F)(O:F i=T)(N:i∈f)(v:l[i]?=Y (Y (.obj s t)))(m:y[i]?=Y (Y (.ref a)))(E:f_ G (jA H T) G' H')(I:cB K G' H' s d (.ref a) k)(L:k.Nodup)(J:∀b∈k,G' b=M/\(b∈T∨H b=M))(D:∀(q:zW) u,(∀g∈zr q,g∈CO)->gB H q (.ref a)=Y u->gB H' q (.ref a)=Y u):SR K B f G' H' y (l.set i (Y (.obj s d))):=by
 have:=S.chg (i:=i) (a:=a) (d' :=.obj s d) (F0:=T) (S':=k) W N (λb c=>⟨by rw[O];exact c,_,v⟩) E.gg E.gh (λb o e=>by
   rcases E.fr b o e with z|z
   ·exact .inl z
   ·by_cases c:b∈T
    ·exact .inr (.inr c)
    ·rw[cX c]at z;exact .inr (.inl z))
  (λb o c e=>E.hh b o (by rw[cX c];exact e)) I L J (λb h=>by have:=(S.pin i b h).2;rw[m]at this;cases this;rfl) (λr p z=>by cases z)
  (λj p Q P _ e=>by obtain⟨g1,g0,s0,t0,C,w,n,A,x,g4,X,U,R⟩:=S.dN j i p Q P e;rw[v]at A;cases A;rw[m]at x;cases x;exact⟨s,d,C,n,rfl,g4,D p n R X,U⟩)
 rwa [gf m]at this
def XX:Option D->Option D
 |some (.obj _ t)=>Y t|some (.lst d)=>Y (.lst d)|some (.ins c a b)=>Y (.ins c a b)|some (.iW a b)=>Y (.iW a b)|_=>M
theorem KC(h:XX o=Y d):(∃s t,o=Y (.obj s t)/\d=t)∨(o=Y d/\vp d=Z'):=by
 unfold XX at h;split at h
 ·cases h;exact .inl ⟨_,_,rfl,rfl⟩
 ·cases h;exact .inr ⟨rfl,rfl⟩
 ·cases h;exact .inr ⟨rfl,rfl⟩
 ·cases h;exact .inr ⟨rfl,rfl⟩
 ·cases h
def WX(l:cy):Option D->Option D
 |some (.dN r p)=>match l[r]? with|some (Y (.obj _ t))=>eZ p t|_=>M
 |_=>M
def res(a b:List Nat)(l:cy):cy:=l.mapIdx λi o=>if i∈a then XX o else if i∈b then WX l o else o
theorem kJ.trees(n:kJ K f G H y l):∀(x:List Nat),∃T:List az,(∀b∈T,G b=M/\FT H b)/\∀i∈x,i∈f->∀s t,l[i]?=Y (Y (.obj s t))->∃v,y[i]?=Y (Y v)/\(cO K G t v∨∃S,cB K G H s t v S/\∀b∈S,b∈T)
 |[]=>⟨[],λb g=>(by cases g),λi d=>by cases d⟩
 | k::x=>by
  obtain⟨T,w,u⟩:=kJ.trees n x;by_cases p:k∈f/\∃s t,l[k]?=Y (Y (.obj s t))
  ·obtain⟨p,s,t,e⟩:=p;obtain⟨v,C,B⟩:=n.get k _ e;rw[if_pos p]at B;rcases B with r|⟨a,o,rfl,N,S,A,J⟩
   ·refine⟨T,w,λi d m j h c =>?_⟩;rcases aW.mp d with z|z
    ·subst z;rw[e]at c;cases c;exact⟨v,C,.inl (qv.mp r)⟩
    ·exact u i z m j h c
   ·refine⟨S++T,λb g =>?_,λi d m j h c =>?_⟩
    ·rcases bq.mp g with q|q
     ·exact⟨J b q,A.here b q⟩
     ·exact w b q
    ·rcases aW.mp d with z|z
     ·subst z;rw[e]at c;cases c;exact⟨_,C,.inr ⟨S,A,λb g=>bc _ g⟩⟩
     ·obtain⟨v,I,F⟩:=u i z m j h c;refine⟨v,I,?_⟩;rcases F with r|⟨L,E,D⟩
      ·exact .inl r
      ·exact .inr ⟨L,E,λb g=>aR _ (D b g)⟩
  ·refine⟨T,w,λi d m j h c =>?_⟩;rcases aW.mp d with z|z
   ·subst z;exact absurd ⟨m,j,h,c⟩ p
   ·exact u i z m j h c
theorem kJ.cells(C:bD G H)(env:kJ K f G H y l):∀(t:List Nat),∃T:List az,(∀b∈T,G b=M/\FT H b)/\∀i∈t,i∈f->∀d,l[i]?=Y (Y d)->vp d=Z'->∃v,y[i]?=Y (Y v)/\(cO K G d v∨∃a o,v=.ref a/\a∈T/\H a=Y o/\jk K G d o)
 |[]=>⟨[],λb h=>(by cases h),λi x=>by cases x⟩
 | k::t=>by
  obtain⟨T,s,R⟩:=kJ.cells C env t;have g:∀u:List az,(∀b∈T,b∈u)->(∀d,l[k]?=Y (Y d)->k∈f->vp d=Z'->∃v,y[k]?=Y (Y v)/\(cO K G d v∨∃a o,v=.ref a/\a∈u/\H a=Y o/\jk K G d o)) ->
    ∀i∈k::t,i∈f->∀d,l[i]?=Y (Y d)->vp d=Z'->∃v,y[i]?=Y (Y v)/\(cO K G d v∨∃a o,v=.ref a/\a∈u/\H a=Y o/\jk K G d o):=λu w n i x p d e m=>by
   rcases aW.mp x with z|z
   ·subst z;exact n d e p m
   ·obtain⟨v,O,N⟩:=R i z p d e m;refine⟨v,O,?_⟩;rcases N with r|⟨a,o,J,I,F⟩
    ·exact .inl r
    ·exact .inr ⟨a,o,J,w a I,F⟩
  by_cases n:k∈f/\∃d,l[k]?=Y (Y d)/\vp d=Z'
  ·obtain⟨n,d,e,m⟩:=n;obtain⟨v,B,D⟩:=env.get k _ e;rw[if_pos n]at D;rcases D with r|⟨a,o,rfl,A,P⟩
   ·exact⟨T,s,g T (λb h=>h) λE j _ _=>by rw[e]at j;cases j;exact⟨v,B,.inl r⟩⟩
   ·have c:jk K G d o:=by cases d<;>first|exact P|cases m
    cases q:G a with
    |some L=>have:=C a L q;rw[A]at this;cases this;exact⟨T,s,g T (λb h=>h) λE j _ _=>by rw[e]at j;cases j;exact⟨_,B,.inl (c.rep q)⟩⟩
    |none=>
     refine⟨a::T,λb h =>?_,g (a::T) (λb h=>aw _ h) λE j _ _=>by rw[e]at j;cases j;exact⟨_,B,.inr ⟨a,o,rfl,ay,A,c⟩⟩⟩;rcases aW.mp h with z|z
     ·subst z;refine⟨q,o,A,λQ z =>?_⟩;subst z;cases d with
      |lst=>obtain⟨_,z,_⟩:=c;cases z
      |ins=>obtain⟨_,_,_,z,_⟩:=c;cases z
      |iW=>obtain⟨_,z,_⟩:=c;cases z
      |_=>cases m
     ·exact s b z
  ·exact⟨T,s,g T (λb h=>h) λd e p m=>absurd ⟨p,d,e,m⟩ n⟩
def mG(f a b c:List Nat):Bool:=(a.all λi=>f.contains i && !a.contains (Aw i) && !b.contains i && !c.contains i)&&(f.all λi=>a.contains i||b.contains i||c.contains i)&&(c.all λj=>f.contains j&&f.contains (Aw j) && !b.contains j)
theorem OP{f:List Nat}(h:mG f e g k=Z'):(∀i∈e,i∈f/\Aw i∉e/\i∉g/\i∉k)/\(∀i∈f,i∈e∨i∈g∨i∈k)/\(∀j∈k,j∈f/\Aw j∈f/\j∉g):=by
 simp only[mG,aV,cA,List.contains_eq_mem,vO,Bool.not_eq_true',decide_eq_true_eq,decide_eq_false_iff_not]at h;exact⟨λi m=>by obtain⟨⟨⟨a,b⟩,c⟩,d⟩:=h.1.1 i m;exact⟨a,b,c,d⟩,λi m=>by rcases h.1.2 i m with (a|a)|a;exact .inl a;exact .inr (.inl a);exact .inr (.inr a),λj n=>by obtain⟨⟨a,b⟩,c⟩:=h.2 j n;exact⟨a,b,c⟩⟩
theorem kJ.Rl(s:bD G H)(m:kJ K f G H y l)(Q:mG f C dp al=Z'):∃T:List az,(∀b∈T,G b=M/\FT H b)/\kJ K C (jS G H T) H y (res dp al l):=by
 obtain⟨o1,o2,o3⟩:=OP Q;obtain⟨T1,Ze,h21⟩:=m.trees f;obtain⟨T2,h12,X⟩:=m.cells s f;generalize U:T1++T2=T;have h1:∀b∈T,G b=M/\FT H b:=λb I=>by
  rw[<- U]at I;rcases bq.mp I with z|z
  ·exact Ze b z
  ·exact h12 b z
 have h2:∀i∈f,i∈f->∀s t,l[i]?=Y (Y (.obj s t))->∃v,y[i]?=Y (Y v)/\(cO K G t v∨∃S,cB K G H s t v S/\∀b∈S,b∈T):=λi x Q s t e=>by
  obtain⟨v,k,c⟩:=h21 i x Q s t e;refine⟨v,k,?_⟩;rcases c with r|⟨S,J,V⟩
  ·exact .inl r
  ·exact .inr ⟨S,J,λb I=>by rw[<- U];exact bc _ (V b I)⟩
 have n:∀b∈T,G b=none:=λb I=>(h1 b I).1
 have g:bD G (jS G H T):=nQ n;have fz:∀(i:Nat) (E:Sk) (t:D),l[i]?=Y (Y (D.obj E t))->∃v,y[i]?=Y (Y v)/\cO K (jS G H T) t v:=λi E t e=>by
  by_cases x:i∈f
  ·obtain⟨v,k,c⟩:=h2 i x x E t e;refine⟨v,k,?_⟩;rcases c with r|⟨S,J,V⟩
   ·exact cO.mono g t r
   ·exact cB.frozen n V J
  ·obtain⟨v,k,c⟩:=m.get i _ e;rw[if_neg x]at c;exact⟨v,k,cO.mono g t (qv.mp c)⟩
 refine⟨T,h1,by rw[m.len];simp[res],λi d e =>?_,λj r p hj hm e=>absurd hm (o1 j hj).2.1⟩;unfold res at e;rw[List.getElem?_mapIdx]at e;rcases L:l[i]? with _|o
 ·rw[L]at e;cases e
 rw[L]at e;simp only[bP,gw]at e;by_cases R:i∈dp
 ·rw[if_pos R]at e;rcases KC e with⟨E,t,rfl,rfl⟩|⟨rfl,hc⟩
  ·obtain⟨v,k,c⟩:=fz i E _ L;exact⟨v,k,by split;exact .inl c;exact c⟩
  ·by_cases x:i∈f
   ·obtain⟨v,k,c⟩:=X i x x d L hc;have F:cO K (jS G H T) d v:=by
     rcases c with r|⟨a,o,rfl,A,h,q4⟩
     ·exact cO.mono g d r
     ·exact(q4.mono g).rep (by rw[qx (by rw[<- U];exact aR _ A)];exact h)
    exact⟨v,k,by split;exact .inl F;exact F⟩
   ·obtain⟨v,k,c⟩:=m.get i _ L;rw[if_neg x]at c;have F:=cO.mono g d c;exact⟨v,k,by split;exact .inl F;exact F⟩
 ·rw[if_neg R]at e;by_cases O:i∈al
  ·rw[if_pos O]at e;unfold WX at e;split at e
   ·rename_i r p;split at e
    ·rename_i E t er;obtain⟨g1,g0,s1,t1,s',v,v',g2,g3,g4,g5,g6,g7⟩:=m.dN i r p (o3 i O).1 (o3 i O).2.1 L;rw[er]at g2;cases g2;obtain⟨w,k,c⟩:=h2 r g1 g1 E t er;rw[g3]at k;cases k;have F:cO K (jS G H T) d v':=by
      rcases c with q|⟨S,J,V⟩
      ·obtain⟨u,P,f4⟩:=yL s q e;rw[g5]at P;cases P;exact cO.mono g d f4
      ·obtain⟨u,T1,U1,P,f4,f5,_⟩:=J.focus g6 e;rw[g5]at P;cases P;exact cB.frozen n (λb I=>V b (f5.symm.subset (bc _ I))) f4
     exact⟨v',g4,by split;exact .inl F;exact F⟩
    ·cases e
   ·cases e
  ·rw[if_neg O]at e;subst e;obtain⟨v,k,c⟩:=m.get i d L;refine⟨v,k,?_⟩;by_cases x:i∈C
   ·rw[if_pos x];rw[if_pos (o1 i x).1]at c;cases d with
    |obj E t=>obtain⟨u,J,V⟩:=fz i E t L;rw[k]at J;cases J;exact .inl (qv.mpr V)
    |dN r p=>
     rcases c with q|⟨a,o,rfl,_⟩
     ·exact .inl (sL.mpr (sL.mp q))
     ·exact .inl (sL.mpr ⟨a,rfl⟩)
    |lst=>rcases c with q|⟨a,o,B,A,h⟩;exact .inl (cO.mono g _ q);exact .inr ⟨a,o,B,A,jk.mono g (d :=.lst _) h⟩
    |ins=>rcases c with q|⟨a,o,B,A,h⟩;exact .inl (cO.mono g _ q);exact .inr ⟨a,o,B,A,jk.mono g (d :=.ins _ _ _) h⟩
    |iW=>rcases c with q|⟨a,o,B,A,h⟩;exact .inl (cO.mono g _ q);exact .inr ⟨a,o,B,A,jk.mono g (d :=.iW _ _) h⟩
    |_=>rcases c with q|⟨a,o,B,A,h⟩;exact .inl (cO.mono g _ q);exact h.elim
   ·rw[if_neg x];by_cases N:i∈f
    ·rcases o2 i N with z|z|z
     ·exact absurd z x
     ·exact absurd z R
     ·exact absurd z O
    ·rw[if_neg N]at c;exact cO.mono g d c
end
section
variable {X:Cx}{m:Pos}
def lE(A I:List Nat)(f:DF):DF:=λρ=>(f (res A I ρ)).bind λd=>if r9 d=Z' then Y d else M
theorem Nb{f:DF}(O A I:List Nat)(h:PE X e (tP X.K O f))(s:mG own O A I=true:=by decide):PE X e (tP X.K own (lE A I f)):=h.imp <|by
 rintro J H Q ⟨G,ρ,d,j,n,a,k⟩;unfold lE at a;obtain⟨c,t,a⟩:=aa.1 a;split at a
 ·rename_i q;cases a;obtain⟨T,o,g⟩:=n.Rl j s;refine⟨jS G H T,res A I ρ,d,me j,g,t,λv N L E r =>?_⟩;obtain⟨u,p⟩:=zu j (λb i=>(o b i).1) (λb i=>(o b i).2) E;exact k v _ L u (DN p q r)
 ·cases a
def Am(A I:List Nat)(f:DT):DT:=λρ=>f (res A I ρ)
theorem Q2{f:DT}(O A I:List Nat)(h:PT X e (rg X.K O f))(n:mG own O A I=true:=by decide):PT X e (rg X.K own (Am A I f)):=h.imp <|by
 rintro J H Q ⟨G,ρ,d,g,i,o,k⟩;obtain⟨T,j,a⟩:=i.Rl g n;refine⟨jS G H T,res A I ρ,d,me g,a,o,λN L E =>?_⟩;obtain⟨p,q⟩:=zu g (λb c=>(j b c).1) (λb c=>(j b c).2) E;exact k _ L p
def QY(A I:List Nat)(f:DL):DL:=λρ=>(f (res A I ρ)).bind λd=>if pa d=Z' then Y d else M
theorem Q3{f:DL}(O A I:List Nat)(h:PE X e (tF X.K O f))(i:mG own O A I=true:=by decide):PE X e (tF X.K own (QY A I f)):=h.imp <|by
 rintro J H Q ⟨G,ρ,d,p,s,a,k⟩;unfold QY at a;obtain⟨c,D,a⟩:=aa.1 a;split at a
 ·rename_i y;cases a;obtain⟨T,n,g⟩:=s.Rl p i;refine⟨jS G H T,res A I ρ,d,me p,g,D,λq u N L E t C B r =>?_⟩;obtain⟨F,v⟩:=zu p (λb j=>(n b j).1) (λb j=>(n b j).2) E;have x:q∉T:=λz=>by obtain⟨o,i,_⟩:=(n q z).2;rw[t]at i;cases i
  exact k q u _ L F t (by rw[cX x];exact C) B (vX v y r)
 ·cases a
def El:Sk->Bool
 |.lf=>Z'|_=>Z_
theorem Cb{s:Sk}(h:El s=Z'):s=.lf:=by cases s<;>first|rfl|cases h
def tU(i:Nat)(c f:aG):DF:=λρ=>(eV i ρ).bind λd=>match d with
 |.obj (.fs g e) (.ins a b ds)=>if (g=c/\a=c)/\El (cU e f)=Z' then (Ag f b).bind λn=>ds[n]? else M
 |_=>M
theorem XE{i:Nat}{c f:aG}(h:PE X (.Name x p) (iC i))(j:rp X.K c f)(hi:i∈own:=by decide)(hb:bY (.Name x p) f X.env (eval (.Name x p) X.env)=eval (.Name x p) X.env:=by rfl):PE X (.Attribute (.Name x p) f l) (tP X.K own (tU i c f)):=
 (qy h hb).imp <|by
  rintro J H Q ⟨G,ρ,d,q,y,e,k⟩;unfold tU at e;rw[aa]at e;obtain⟨o,z,e⟩:=e;split at e
  ·rename_i c' fk ZF E ds;split at e
   ·rename_i U;obtain⟨⟨rfl,rfl⟩,hl⟩:=U;rcases g:Ag f E with _|m
    ·rw[g]at e;cases e
    rw[g]at e;simp only[ae]at e;obtain⟨v,K,F⟩:=y.get i _ (iO z);rw[if_pos hi]at F;rcases F with r|⟨a,o,rfl,e3,S,e4,e5⟩
    ·obtain⟨a,C,B,w,rfl,n,ha,b,R⟩:=mr.mp (qv.mp r);obtain⟨u,eu,P⟩:=R.get e;exact⟨_,K,a,C,B,_,u,rfl,q _ _ ha,(j C n).1,(j C n).2,by rw[sQ g];exact eu,k u G H (.refl q) P⟩
    ·cases e4 with
     |@ins _ _ _ _ _ C B w S n ea b t=>
      have s:(E.map (cU fk))[m]?=Y .lf:=by rw[aY,vr g,<- Cb hl];rfl
      obtain⟨D,T1,U1,f1,T,_⟩:=t.at s e;cases T with
      |leaf r=>exact⟨_,K,a,C,B,_,D,rfl,ea,(j C n).1,(j C n).2,by rw[sQ g];exact f1,k D G H (.refl q) r⟩
   ·cases e
  ·cases e
end
def Hk(b:Bool)(j:Nat)(ρ:cy):Option (Nat×zW):=match b,eV j ρ with
 |false,Y (.obj _ _)=>Y (j,[])|true,Y (.dN r p)=>Y (r,p)|_,_=>M
def xo(r:Nat)(ρ:cy):Option (Sk×D):=match eV r ρ with|some (.obj s t)=>Y (s,t)|_=>M
theorem k_{s:Sk}(h:xo r ρ=Y (s,t)):ρ[r]?=Y (Y (.obj s t)):=by
 unfold xo at h;split at h
 ·rename_i e;cases h;exact iO e
 ·cases h
section
variable {K:aT}
theorem SR.Hk(S:SR K B own G H J ρ)(h:Hk b j ρ=Y (r,p))(d:j∈own)(u:b=Z'->Aw j∈own):r∈own/\∃s t a f,ρ[r]?=Y (Y (.obj s t))/\J[r]?=Y (Y (.ref a))/\J[j]?=Y (Y f)/\gB H p (.ref a)=Y f:=by
 unfold L2.Hk at h;split at h
 ·rename_i e;cases h;have e:=iO e;obtain⟨a,T,c,_⟩:=S.tree d e;exact⟨d,_,_,a,_,e,c,c,rfl⟩
 ·rename_i e;cases h;obtain⟨k,C,q,o,y,w,n,i,g,x,v,z⟩:=S.dN j r p d (u rfl) (iO e);obtain⟨a,T,c,_⟩:=S.tree k i;rw[c]at g;cases g;exact⟨k,q,o,a,n,i,c,x,v⟩
 ·cases h
theorem zb(d:x∈T):bD (jA H T) (dg H x o):=λb u e=>by
 by_cases c:b∈T
 ·rw[nA c]at e;cases e
 ·rw[cX c]at e;have a:b≠x:=λz=>c (z ▸ d)
  rw[aZ a];exact e
theorem SR.Tc{s:Sk}{f:aG}{l:List D}{d:D}{v:V}(S:SR K B own G H J ρ)(Q:r∈own)(R:ρ[r]?=Y (Y (.obj s t)))(w:mh p s=Y (.fs c fk))(ep:eZ p t=Y (.ins c h l))(hf:El (cU fk f)=Z')(ha:f∉CO)(rv:cO K G d v):
  ∃a x C k i,J[r]?=Y (Y (.ref a))/\gB H p (.ref a)=Y (.ref x)/\gU K aI c=Y (Y (.ref C))/\H x=Y (.ins C k (h.zip i))/\h.length=i.length /\
   SR K B own G (dg H x (.ins C k (lx f v (h.zip i)))) J (ρ.set r (Y (.obj s (mC (.ins c (iT f d h l).1 (iT f d h l).2) p t)))):=by
 obtain⟨a,T,e1,o1,nd,P,F,W,hF⟩:=S.tree Q R;obtain⟨x,C,k,i,h1,X,h3,U,h5,h6,T',o2,u,n⟩:=o1.put (f:=f) (d:=d) (u:=v) (S1:=[]) nd w ep (bD.refl G) (λ_ _ _ e=>e) (by rw[Cb hf];exact .leaf rv) (by simp) (λb j=>by cases j);refine⟨a,x,C,k,i,e1,h1,h3,U,h6,S.RG W hF Q R e1 ⟨zb X,bD.refl _,λb o e =>?_,λb o e =>.inl e⟩ o2 u (λb j =>?_) λq v' hq hv =>?_⟩
 ·have E:b≠x:=λz=>by rw[z,(P x X).1]at e;cases e
  rw[aZ E];exact S.gh b o e
 ·rcases n b j with z|z
  ·exact⟨(P b z).1,.inl z⟩
  ·cases z
 ·refine vu U br (λb j o e=>by rw[aZ j];exact e) (λg hg =>?_) hv;have y:g≠f:=λz=>ha (z ▸ hq g hg)
  rw[sd,if_neg y]
theorem SR.Gx{s:Sk}{X:D}(S:SR K B own G H J ρ)(hr:r∈own)(hd:ρ[r]?=Y (Y (.obj s t)))(w:mh p s=Y u)(ep:eZ p t=Y X):
  ∃a x i,J[r]?=Y (Y (.ref a))/\gB H p (.ref a)=Y x/\cB K G H u X x i/\i.Nodup/\(∀b∈i,G b=M) /\
   ∀(g:D) (f:List az) (N L:Hp),f_ G (jA H i) N L->cB K N L u g x f->f.Nodup->(∀b∈f,N b=M/\(b∈i∨H b=M))->SR K B own N L J ((cS r ρ).set r (Y (.obj s (mC g p t)))):=by
 obtain⟨a,T,e1,C,nd,nf,F,W,hF⟩:=S.tree hr hd;obtain⟨x,i,U,h1,o2,v,k1⟩:=C.focus w ep;have k:=v.nodup_iff.mp nd;rw[iV]at k;obtain⟨n1,n2,n3⟩:=k;have h:∀b∈i,b∈T:=λb d=>v.symm.subset (bc _ d)
 have n:∀b∈U,b∈T:=λb d=>v.symm.subset (aR _ d)
 have R:∀b∈U,b∉i:=λb d Q=>n3 b Q b d rfl
 refine⟨a,x,i,e1,h1,o2,n1,λb d=>(nf b (h b d)).1,λg f N L E nw l j =>?_⟩;obtain⟨T',o3,p3⟩:=k1 N L g f E.gg (λb d o e=>E.hh b o (by rw[cX (R b d)];exact e)) nw;refine S.Cz W hF hr hd e1 ⟨λb o e =>?_,E.gg,E.gh,λb o e =>?_⟩ o3 ?_ λb d =>?_
 ·by_cases d:b∈T
  ·rw[nA d]at e;cases e
  ·rw[cX d]at e;exact E.hh b o (by rw[cX (λz=>d (h b z))];exact e)
 ·rcases E.fr b o e with z|z
  ·exact .inl z
  ·refine .inr ?_;by_cases d:b∈T
   ·rw[nA d]
   ·rw[cX d];rw[cX (λz=>d (h b z))]at z;exact z
 ·rw[p3.nodup_iff,iV];refine⟨l,n2,λb d c hc z =>?_⟩;subst z;rcases(j b d).2 with z|z
  ·exact R b hc z
  ·obtain⟨o,P,_⟩:=C.here b (n b hc);rw[P]at z;cases z
 ·rcases bq.mp (p3.subset d) with q|q
  ·refine⟨(j b q).1,?_⟩;rcases(j b q).2 with z|z
   ·exact .inl (h b z)
   ·exact .inr z
  ·refine⟨?_,.inl (n b q)⟩;rcases z:N b with _|o
   ·rfl
   rcases E.fr b o z with y|y
   ·rw[(nf b (n b q)).1]at y;cases y
   ·obtain⟨o,P,_⟩:=C.here b (n b q);rw[cX (R b q),P]at y;cases y
end
mutual
def Sk.ym:Sk->Sk->Bool
 |.lf,.lf=>Z'|.li s,.li t=>Sk.ym s t|.fs c k,.fs d l=>decide (c=d)&&Sk.JF k l|.di,.di=>Z'|_,_=>Z_
def Sk.JF:List (aG×Sk)->List (aG×Sk)->Bool
 |[],[]=>Z'|(c,s)::k,(d,t)::l=>decide (c=d)&&(Sk.ym s t&&Sk.JF k l)|_,_=>Z_
end
mutual
theorem Sk.qF:∀ {s t:Sk},Sk.ym s t=Z'->s=t
 |.lf,.lf,_=>rfl|.di,.di,_=>rfl|.li s,.li t,h=>by rw[Sk.qF (s:=s) (t:=t) (by simpa only [Sk.ym] using h)]
 |.fs c k,.fs d l,h=>by simp only[Sk.ym,aV,decide_eq_true_eq]at h;rw[h.1,Sk.HI h.2]
 |.lf,.li _,h=>by simp[Sk.ym]at h
 |.lf,.fs _ _,h=>by simp[Sk.ym]at h
 |.lf,.di,h=>by simp[Sk.ym]at h
 |.li _,.lf,h=>by simp[Sk.ym]at h
 |.li _,.fs _ _,h=>by simp[Sk.ym]at h
 |.li _,.di,h=>by simp[Sk.ym]at h
 |.fs _ _,.lf,h=>by simp[Sk.ym]at h
 |.fs _ _,.li _,h=>by simp[Sk.ym]at h
 |.fs _ _,.di,h=>by simp[Sk.ym]at h
 |.di,.lf,h=>by simp[Sk.ym]at h
 |.di,.li _,h=>by simp[Sk.ym]at h
 |.di,.fs _ _,h=>by simp[Sk.ym]at h
theorem Sk.HI:∀ {k l:List (aG×Sk)},Sk.JF k l=Z'->k=l
 |[],[],_=>rfl|(c,s)::k,(d,t)::l,h=>by simp only[Sk.JF,aV,decide_eq_true_eq]at h;rw[h.1,Sk.qF h.2.1,Sk.HI h.2.2]
 |[],_::_,h=>by simp[Sk.JF]at h
 |_::_,[],h=>by simp[Sk.JF]at h
end
def xI(c:aG)(s:Sk)(t:D)(p:zW):Option (List (aG×Sk)×List aG×List D):=match mh p s,eZ p t with
 |some (.fs f d),Y (.ins a b e)=>if f=c/\a=c then Y (d,b,e) else M
 |_,_=>M
theorem wm{s:Sk}(h:xI c s t p=Y (b,a,d)):mh p s=Y (.fs c b)/\eZ p t=Y (.ins c a d):=by
 unfold xI at h;split at h
 ·rename_i i f;split at h
  ·rename_i e;obtain⟨rfl,rfl⟩:=e;cases h;exact⟨i,f⟩
  ·cases h
 ·cases h
section
variable {X:Cx}
def fc(b:Bool)(j:Nat)(c f:aG)(h:DF):DG:=λa=>(h a).bind λd=>(Hk b j a).bind λq=>(xo q.1 a).bind λe=>(xI c e.1 e.2 q.2).bind λz=>
 if El (cU z.1 f)=Z'/\z.2.1.length<999 then Y (.nx (a.set q.1 (Y (.obj e.1 (mC (.ins c (iT f d z.2.1 z.2.2).1 (iT f d z.2.1 z.2.2).2) q.2 e.2))))) else M
theorem Pz{b:Bool}{c f:aG}(h:PE X (.Name x p) (iC j))(he:PE X e (tP X.K own y))(w:rp X.K c f)(hj:j∈own:=by decide)(hb:b=Z'->Aw j∈own:=by decide)(ha:f∉CO:=by decide)(hs:cp e (Y (.Attribute (.Name x p) f A)) g.line X.env=dR false:=by rfl):PS X (.Assign [.Attribute (.Name x p) f A] e g) (ib X.K B I own own (fc b j c f y)):=(BZ h he hs).imp <|by
 rintro D σ H ⟨G,q,o,S,i,k⟩;unfold fc at i;obtain⟨d,ef,i⟩:=aa.1 i;rcases l:Hk b j q with _|⟨r,T⟩
 ·simp[l]at i
 rcases n:xo r q with _|⟨s,t⟩
 ·simp[l,n]at i
 rcases u:xI c s t T with _|⟨fk,ks,ds⟩
 ·simp[l,n,u]at i
 simp only[l,n,u,ae]at i;split at i
 ·rename_i hz;cases i;obtain⟨i1,U⟩:=wm u;refine⟨G,q,d,S.gh,S.ji,ef,λv G' H' E R =>?_⟩;have P:=S.ext E;obtain⟨hr,s',t',a,v',J,e2,e3,e4⟩:=P.Hk l hj hb;have m:=k_ n;rw[m]at J;cases J;obtain⟨a',Q,C,dx,vs,K,F,z,f4,f5,f6⟩:=P.Tc (f:=f) (d:=d) hr m i1 U hz.1 ha R;rw[e2]at K;cases K;rw[e4]at F;cases F;refine⟨_,e3,Q,C,dx,_,rfl,f4,(w C z).1,(w C z).2,?_,k _ G' _ f6⟩;rw[uW f5];omega
 ·cases i
def dZ(b:Bool)(j:Nat)(c f:aG)(h:Int->Int->Int)(i:DF):DG:=λa=>(i a).bind λd=>(Hk b j a).bind λq=>(xo q.1 a).bind λe=>(xI c e.1 e.2 q.2).bind λz=>match (z.2.1.zip z.2.2).lookup f,d with
 |some (.int m),.int n=>if El (cU z.1 f)=Z'/\z.2.1.length<999 then Y (.nx (a.set q.1 (Y (.obj e.1 (mC (.ins c (iT f (.int (h m n)) z.2.1 z.2.2).1 (iT f (.int (h m n)) z.2.1 z.2.2).2) q.2 e.2))))) else M
 |_,_=>M
theorem wV{f:aG}:∀ {ks:List aG}{ds:List D}{u:D},(ks.zip ds).lookup f=Y u->∃m,Ag f ks=Y m/\ds[m]?=Y u
 |[],a,u,h=>by simp at h
 |k::ks,[],u,h=>by simp at h
 | k::ks,v::a,u,h=>by
  simp only[cb,dw]at h;cases e:(f==k) with
  |true=>rw[e]at h;cases h;exact⟨0,by simp[Ag,e],rfl⟩
  |false=>rw[e]at h;obtain⟨m,c,b⟩:=wV (ks:=ks) (ds:=a) h;exact⟨m+1,by simp[Ag,e,c],by simpa using b⟩
theorem SR.Zg{K:aT}{o:cy}{s:Sk}{f:aG}{v:List D}(S:SR K B own G H k o)(Q:r∈own)(hd:o[r]?=Y (Y (.obj s t)))(J:mh q s=Y (.fs c h))(ep:eZ q t=Y (.ins c b v))(X:El (cU h f)=Z')(R:(b.zip v).lookup f=Y d):
  ∃a x C j e u,k[r]?=Y (Y (.ref a))/\gB H q (.ref a)=Y (.ref x)/\gU K aI c=Y (Y (.ref C))/\H x=Y (.ins C j (b.zip e))/\(b.zip e).lookup f=Y u/\cO K G d u:=by
 obtain⟨a,T,e1,P,nd,nf,F,W,hF⟩:=S.tree Q hd;obtain⟨x,T1,U,h1,g,p1,k1⟩:=P.focus J ep;cases g with
 |@ins _ _ _ _ w C j e S0 n ex l z=>
  obtain⟨m,p,e2⟩:=wV R;have i:(b.map (cU h))[m]?=Y .lf:=by rw[aY,vr p,<- Cb X];rfl
  obtain⟨y,T1,U1,f1,E,_⟩:=z.at i e2;cases E with
  |leaf r=>exact⟨a,w,C,j,e,y,e1,h1,n,ex,by rw[sQ p];exact f1,r⟩
theorem To{b:Bool}{c f:aG}{op:Int->Int->Int}{o:Operator}(y:J1 X o (Ou op))(h:PE X (.Name x p) (iC j))(he:PE X e (tP X.K own fe))(hc:rp X.K c f)(hj:j∈own:=by decide)(hb:b=Z'->Aw j∈own:=by decide)(ha:f∉CO:=by decide):
  PS X (.AugAssign (.Attribute (.Name x p) f A) o e g) (ib X.K B I own own (dZ b j c f op fe)):=(I_ h he y).imp <|by
 rintro D σ H ⟨G,w,o,S,i,k⟩;unfold dZ at i;obtain⟨d,ef,i⟩:=aa.1 i;rcases q:Hk b j w with _|⟨r,pt⟩
 ·simp[q]at i
 rcases u:xo r w with _|⟨s,t⟩
 ·simp[q,u]at i
 rcases K:xI c s t pt with _|⟨fk,ks,ds⟩
 ·simp[q,u,K]at i
 simp only[q,u,K,ae]at i;split at i
 ·rename_i m n z;split at i
  ·rename_i T;cases i;obtain⟨R,Q⟩:=wm K;obtain⟨U,s',t',a,v',e1,e2,e3,e4⟩:=S.Hk q hj hb;have l:=k_ u;rw[l]at e1;cases e1;obtain⟨a1,x1,P,J,vs1,u1,g1,g2,F,g4,g5,g6⟩:=S.Zg U l R Q T.1 z;rw[e2]at g1;cases g1;rw[e4]at g2;cases g2;cases bX.mp g6;refine⟨_,e3,x1,P,J,_,_,rfl,g4,(hc P F).1,(hc P F).2,g5,G,w,_,S.gh,S.ji,ef,λv G' H' E r =>?_⟩;cases bX.mp r;have S':=S.ext E;obtain⟨a',x',C,dx,vs,f1,f2,f3,f4,f5,f6⟩:=S'.Tc (f:=f) (d :=.int (op m n)) (v :=.int (op m n)) U l R Q T.1 ha (bX.mpr rfl);rw[e2]at f1;cases f1;rw[jL E.hh e4]at f2;cases f2;rw[F]at f3;cases f3;refine⟨_,_,rfl,rfl,dx,_,f4,?_,k _ G' _ f6⟩;rw[uW f5];omega
  ·cases i
 ·cases i
inductive NT (K:aT) (own:List Nat) (s:Sk) (f:DF) (i:St) (H:Hp) (Q:VK):Prop
 |mk G h d:bD G H->kJ K own G H i h->f h=some d->(∀v a e c,f_ G H e c->cB K e c s d v a->a.Nodup->(∀b∈a,e b=none/\H b=none)->Q v c)->NT K own s f i H Q
theorem Zz{s:Sk}:PE X (.List [] g) (NT X.K own (.li s) (eK (.lst []))):=(Tx (own:=own) uy).imp <|by
 rintro o H Q ⟨G,f,d,j,a,l,k⟩;cases l;refine⟨G,f,[],j,a,rfl,λq p n m E i h e r =>?_⟩;rw[dE.mp r]at e;exact k (.ref q) [q] n m E (.lst e .nil) (by simp) (λb c=>by simp at c;subst c;exact⟨h,i⟩)
theorem ZC:PE X (.Dict [] [] g) (NT X.K own .di (eK (.iW [] []))):=LH.imp <|by
 rintro i H Q ⟨G,j,d,e,h,f,k⟩;cases f;exact λq a=>k (.ref q) [q] G _ (f_.lay (o :=.dK []) e a) (.iW (ks:=[]) (ds:=[]) (vs:=[]) br rfl .nil) (by simp) (λb c=>by simp at c;subst c;exact⟨e.free a,a⟩)
def MU(c:aG)(f:DF):DF:=λb=>(f b).bind λd=>match d with|.ins a e h=>if a=c then Y (.ins a e h) else M|_=>M
theorem PN{c:aG}{f:DF}(h:PE X e (U9 X.K own f)):PE X e (NT X.K own (.fs c []) (MU c f)):=h.imp <|by
 rintro x H Q ⟨G,l,d,t,i,a,k⟩;unfold MU at a;obtain⟨y,u,a⟩:=aa.1 a;split at a
 ·split at a
  ·rename_i m;cases a;subst m;exact⟨G,l,_,t,i,u,λq o w v E s p n r=>k (.ref q) [q] w v E (yS.mpr ⟨⟨o,n,r⟩,rfl⟩) (by simp) (λb j=>by simp at j;subst j;exact⟨p,s⟩)⟩
  ·cases a
 ·cases a
def Ti(f:DF):DF:=λa=>(f a).map λd =>.lst [d]
theorem TH{s:Sk}{f:DF}(h:PE X e (NT X.K own s f))(x:ao (e::[]) X.env=(Z_,eval e X.env)::ao [] X.env:=by rfl):PE X (.List [e] g) (NT X.K own (.li s) (Ti f)):=(B0 (cJ h gA x)).imp <|by
 rintro F H Q ⟨G,t,d,B,m,i,k⟩;unfold Ti at i;obtain⟨y,C,i⟩:=aq.1 i;cases i;refine⟨G,t,y,B,m,C,λv r D K E n w u=>⟨by simp;exact bK (by decide) vn,λq c =>?_⟩⟩;have a:q∉r:=λz=>by obtain⟨o,p,_⟩:=n.here q z;rw[c]at p;cases p
 refine k (.ref q) (q::(r++[])) D _ (E.trans (f_.lay (o :=.lst [v]) E.gh c)) (.lst br (.cons (n.mono (bD.refl _) λb l o e =>?_) .nil)) ?_ (λb l =>?_)
 ·have j:b≠q:=λz=>a (z ▸ l)
  rw[aZ j];exact e
 ·simp[a,w]
 ·rcases aW.mp l with z|z
  ·subst z;exact⟨E.gh.free c,E.hh.free c⟩
  ·exact u b (by simpa using z)
theorem Tz{s:Sk}{f:DF}(h:PE X e (NT X.K own s f)):PE X e (tP X.K own f):=h.imp <|by
 rintro t H Q ⟨G,m,d,p,i,q,k⟩;refine⟨G,m,d,p,i,q,λv j r l E n u c=>k v (jS r l j) l ⟨E.hh,E.gg.trans (nQ λb a=>(c b a).1),me E.gh,λb o e =>?_⟩ (n.frozen (λb a=>(c b a).1) λb a=>a)⟩;by_cases a:b∈j
 ·exact .inr (c b a).2
 ·rw[mF a]at e;exact E.fr b o e
def w1(i:Nat)(s:Sk)(f:DF):DG:=λa=>(f a).map λd =>.nx (a.set i (Y (.obj s d)))
theorem SR.X'{K:aT}{m:cy}{s:Sk}(S:SR K B own G H t m)(C:i∈own)(E:f_ G H l n)(v:cB K l n s d (.ref a) k)(x:k.Nodup)(u:∀b∈k,l b=M/\H b=M)(c:∀a,(i,a)∉B.3)(y:Ae i∉own∨∀d,m[i]? ≠ Y (Y d)):SR K B own l n (t.set i (Y (.ref a))) (m.set i (Y (.obj s d))):=by
 obtain⟨F,W⟩:=S.ow;exact S.chg (F0:=[]) (S':=k) W C (λb f=>by cases f) E.gg E.gh (λb o e=>by rcases E.fr b o e with z|z;exact .inl z;exact .inr (.inl z)) (λb o _ e=>E.hh b o e)
  v x (λb f=>⟨(u b f).1,.inr (u b f).2⟩) (λb h=>absurd h (c b)) (λr p z=>by cases z) (λj q P g _ e=>by
   obtain⟨_,R,s0,U,X,w,T,Q,_⟩:=S.dN j i q P g e;rcases y with z|z
   ·exact absurd R z
   ·exact absurd Q (z _))
theorem Xs{i:Nat}{s:Sk}{f:DF}(C:X.N.Nodup)(u:X.N[i]?=Y x)(p:Loc X.env.scope x)(y:PE X e (NT X.K own s f))(r:i∈own:=by decide)(c:∀a,(i,a)∉B.3:=by intro a;simp_all)(t:Ae i∉own:=by decide)(b:El s=false:=by rfl)(q:cp e (Y (.Name x A)) g.line X.env=dR false:=by rfl)(w:X.fn x=Z'∨X.env.scope.names.lookup x=Y .local:=by first|exact .inl rfl|exact .inr rfl|assumption):
  PS X (.Assign [.Name x A] e g) (ib X.K B I own own (w1 i s f)):=(ma C u p y q w).imp <|by
 rintro D P H ⟨G,l,o,S,h,k⟩;unfold w1 at h;obtain⟨d,F,h⟩:=aq.1 h;cases h;refine⟨G,l,d,S.gh,S.ji,F,λv Q J K E j n m =>?_⟩;obtain⟨a,_,rfl,_⟩:=j.root (λz=>by rw[z]at b;cases b);exact k _ J K (S.X' r E j n m c (.inl t))
def pA(j:Nat)(c f:aG)(l:Sk)(m:DF):DG:=λa=>(m a).bind λd=>(xo j a).bind λh=>match h.1,h.2 with
 |.fs n i,.ins e b k=>if (n=c/\e=c)/\Sk.ym (cU i f) l=Z'/\b.length<999 then Y (.nx ((cS j a).set j (Y (.obj (.fs c i) (.ins c (iT f d b k).1 (iT f d b k).2))))) else M
 |_,_=>M
theorem SR.OA{K:aT}{v g:Hp}{X:St}{f:aG}(S:SR K B own G H X ρ)(hr:r∈own)(hd:ρ[r]?=Y (Y (.obj (.fs c fk) (.ins c n U))))(E:f_ G H v g)(o1:cB K v g (cU fk f) d u S1)(nd1:S1.Nodup)(m:∀b∈S1,v b=M/\H b=M):
  ∃x C Q w,X[r]?=Y (Y (.ref x))/\gU K aI c=Y (Y (.ref C))/\g x=Y (.ins C Q (n.zip w))/\n.length=w.length /\
   SR K B own v (dg g x (.ins C Q (lx f u (n.zip w)))) X ((cS r ρ).set r (Y (.obj (.fs c fk) (.ins c (iT f d n U).1 (iT f d n U).2)))):=by
 obtain⟨a,T,e1,ot,nd,nf,F,W,hF⟩:=S.tree hr hd;have inH:∀b∈T,∃o,H b=Y o:=λb l=>by obtain⟨o,s,_⟩:=ot.here b l;exact⟨o,s⟩
 have dj:∀b∈S1,b∉T:=λb l V5=>by obtain⟨o,s⟩:=inH b V5;rw[(m b l).2]at s;cases s
 obtain⟨x,C,Q,w,h1,h2,h3,h4,h5,h6,T',o2,Xb,sub⟩:=ot.put (p:=[]) (f:=f) nd rfl rfl E.gg (λb _ o e=>E.hh b o e) o1 nd1 dj;cases h1;have hu:=kM (r:=r) hd (λq z=>by cases z);have S':=(S.ext E).IH (r:=r);have Wx:=W.ext E;have W':qg K B own v g X (cS r ρ) F:=⟨λi d P e=>Wx.it i d P (bL e).1,λi d P e=>Wx.ok i d P (bL e).1,λi j d c P hj ei ej=>Wx.ap i j d c P hj (bL ei).1 (bL ej).1⟩;have gT:∀b∈T,v b=none:=λb l=>by rw[<- hF]at l;exact((Wx.ok r _ hr hd).2 b l).1
 have R:=S'.Gv (i:=r) (a:=a) (d' :=.obj (.fs c fk) (.ins c (iT f d n U).1 (iT f d n U).2)) (F0:=T) (S':=T') (G':=v) (H':=dg g a (.ins C Q (lx f u (n.zip w)))) W' hr (λb l=>⟨by rw[hF];exact l,_,hu⟩) (bD.refl _) (λb o e=>by
   have t:b≠a:=λz=>by rw[z,gT a h2]at e;cases e
   rw[aZ t];exact E.gh b o e) (λb o e =>.inl e) (λb o l e=>by
   have t:b≠a:=λz=>l (z ▸ h2)
   rw[aZ t];exact e) o2 Xb (λb l=>by
   rcases sub b l with z|z
   ·exact⟨gT b z,.inl z⟩
   ·refine⟨(m b z).1,.inr (.inr ⟨S.h0.free (m b z).2,λk c hk ek Jz Y_ =>?_⟩)⟩;obtain⟨y,f1,f2⟩:=W.it k c hk (bL ek).1;obtain⟨o,s⟩:=f2.here b Y_;rw[(m b z).2]at s;cases s) (λb h=>by have:=(S.pin r b h).2;rw[e1]at this;cases this;rfl) (λr p z=>by cases z)
  (λj p _ _ _ e=>absurd rfl ((bL e).2 p))
 have R:=R.1;rw[gf e1]at R;exact⟨a,C,Q,w,e1,h3,E.hh _ _ h4,h6,R⟩
theorem M6{c f:aG}{s1:Sk}(h:PE X (.Name x p) (iC j))(P:PE X e (NT X.K own s1 q))(n:rp X.K c f)(J:j∈own:=by decide)(K:cp e (Y (.Attribute (.Name x p) f A)) g.line X.env=dR false:=by rfl):PS X (.Assign [.Attribute (.Name x p) f A] e g) (ib X.K B I own own (pA j c f s1 q)):=(BZ h P K).imp <|by
 rintro D σ H ⟨G,l,o,S,a,k⟩;unfold pA at a;obtain⟨d,ef,a⟩:=aa.1 a;rcases i:xo j l with _|⟨s,t⟩
 ·simp[i]at a
 simp only[i,ae]at a;split at a
 ·rename_i c' fk ZF ks ds;split at a
  ·rename_i F;obtain⟨⟨rfl,rfl⟩,b,z⟩:=F;cases a;have Q:=k_ i;refine⟨G,l,d,S.gh,S.ji,ef,λv S1 G' H' E m y w =>?_⟩;rw[<- Sk.qF b]at m;obtain⟨u,C,dx,vs,f1,r,U,T,R⟩:=S.OA J Q E m y w;refine⟨_,f1,u,C,dx,_,rfl,U,(n C r).1,(n C r).2,?_,k _ G' _ R⟩;rw[uW T];omega
  ·cases a
 ·cases a
end
def rh(c f:aG)(j:Nat)(A:cy):Option (List (aG×Sk)×List aG×List D×D):=(xo j A).bind λb=>match b.1,b.2 with
 |.fs k i,.ins a d e=>if k=c/\a=c then (Ag f d).bind λn=>(e[n]?).map λh=>(i,d,e,h) else M
 |_,_=>M
theorem lW{f:aG}{m:List D}(h:rh c f j A=Y (a,e,m,o)):A[j]?=Y (Y (.obj (.fs c a) (.ins c e m)))/\mh [.fld f] (.fs c a)=Y (cU a f)/\eZ [.fld f] (.ins c e m)=Y o:=by
 unfold rh at h;rcases i:xo j A with _|⟨s,t⟩
 ·rw[i]at h;cases h
 rw[i]at h;simp only[ae]at h;split at h
 ·rename_i u q r d l;split at h
  ·rename_i p;obtain⟨rfl,rfl⟩:=p;rcases b:Ag f d with _|n
   ·simp[b]at h
   rcases k:l[n]? with _|y
   ·simp[b,k]at h
   simp only[b,k,ae,bP,gw,Ai]at h;obtain⟨rfl,rfl,rfl,rfl⟩:=h;exact⟨k_ i,rfl,by simp[eZ,b,k]⟩
  ·cases h
 ·cases h
abbrev yO(c f:aG)(b:List (aG×Sk))(a:List aG)(d:List D)(x:D):D :=.obj (.fs c b) (mC x [.fld f] (.ins c a d))
section
variable {K:aT}
theorem SR.Gd{f:aG}{s:List (aG×Sk)}{v:List D}(S:SR K B own G H J A)(p:r∈own)(q:A[r]?=Y (Y (.obj (.fs c s) (.ins c e v))))(t:J[r]?=Y (Y (.ref a)))(b:gB H [.fld f] (.ref a)=Y x):
  ∃C d h,gU K aI c=Y (Y (.ref C))/\H a=Y (.ins C d h)/\h.lookup f=Y x:=by
 obtain⟨y,T,k,o,_⟩:=S.tree p q;rw[t]at k;cases k;cases o with
 |@ins _ _ _ _ _ C d m z n i l w=>refine⟨C,d,_,n,i,?_⟩;simp only[gB,i]at b;obtain⟨u,j,b⟩:=aa.1 b;rw[j];simp at b;rw[b]
theorem SR.yw{p:zW}{s:Sk}(S:SR K B own G H J A)(E:r∈own)(F:A[r]?=Y (Y (.obj s t)))(g:mh p s=Y j)(I:eZ p t=Y n):
  ∃a x f,J[r]?=Y (Y (.ref a))/\gB H p (.ref a)=Y x/\cB K G H j n x f/\f.Nodup /\
   ∀(l:az) (o:HO) (d:D) (c:List az),l∈f->cB K G (dg H l o) j d x c->c.Nodup->(∀b∈c,b∈f)->SR K B own G (dg H l o) J ((cS r A).set r (Y (.obj s (mC d p t)))):=by
 obtain⟨a,x,f,R,P,w,C,q,k⟩:=S.Gx E F g I;refine⟨a,x,f,R,P,w,C,λl o d c v y m h=>k d c G _ ⟨zb v,bD.refl _,λb u e =>?_,λb u e =>.inl e⟩ y m λb i=>⟨q b (h b i),.inl (h b i)⟩⟩;have i:b≠l:=λz=>by rw[z,q l v]at e;cases e
 rw[aZ i];exact S.gh b u e
end
section
variable {X:Cx}
def Hb(j:Nat)(c f:aG)(b:DF):DG:=λA=>(rh c f j A).bind λq=>(b A).bind λd=>match q.2.2.2 with
 |.lst a=>if Sk.ym (cU q.1 f) (.li .lf)=Z'/\a.length<dU then Y (.nx ((cS j A).set j (Y (yO c f q.1 q.2.1 q.2.2.1 (.lst (a++[d])))))) else M
 |_=>M
theorem Xx{c f:aG}(h:PE X (.Name x p) (iC j))(he:PE X e (tP X.K own fe))(hc:rp X.K c f)(hj:j∈own:=by decide)(S8:bY (.Name x p) f X.env (eval (.Name x p) X.env)=eval (.Name x p) X.env:=by rfl)(s:bY (.Attribute (.Name x p) f I) "append" X.env (eval (.Attribute (.Name x p) f I) X.env)=eval (.Attribute (.Name x p) f I) X.env:=by rfl) (u:((cv N (ao (e::[]) X.env)).all (λx=> !x.1)&&(f' N (cQ [] X.env)).all (λx=>x.1.isSome)
   && decide ((e::[]).length+([]:List nX).length+(if ([]:List nX).isEmpty then 0 else 1)<30))=true:=by rfl) (q:(U.endLine==N.line)=true:=by rfl) (hs:ao (e::[]) X.env=(Z_,eval e X.env)::ao [] X.env:=by rfl) (m:(cv N (ao [] X.env)).any (·.1)=false:=by rfl) (YN:cp (.Call (.Attribute (.Attribute (.Name x p) f I) "append" U) [e] [] N) M L.line X.env=dR false:=by rfl) :
  PS X (.Expr (.Call (.Attribute (.Attribute (.Name x p) f I) "append" U) [e] [] N) L) (ib X.K B Q own own (Hb j c f fe)):=
 (sM (DV lL PySem.F.slot_list_append PySem.F.type_list_append pZ (qy h S8) (cJ he gA hs) s u q hs m) YN).imp <|by
  rintro D J H ⟨G,A,o,S,i,k⟩;unfold Hb at i;obtain⟨⟨fk,ks,ds,t1⟩,et,i⟩:=aa.1 i;rcases ef:fe A with _|d
  ·simp[ef]at i
  simp only[ef,ae]at i;split at i
  ·rename_i xs;split at i
   ·rename_i hz;cases i;obtain⟨hd,i1,i2⟩:=lW et;rw[Sk.qF hz.1]at i1;obtain⟨a,y,T1,e1,e2,o1,nd,_⟩:=S.yw hj hd i1 i2;obtain⟨C,dx,fs,n,f1,f2⟩:=S.Gd hj hd e1 e2;cases o1 with
    |@lst _ _ l vs S0 hl tt=>
     refine⟨_,e1,a,C,dx,fs,_,rfl,f1,(hc C n).1,(hc C n).2,f2,.inl ⟨rfl,vs,.of hl⟩,G,A,d,S.gh,S.ji,ef,λv G' H' E r =>?_⟩;have S':=S.ext E;obtain⟨a',y',T1',F,w,g,R,k'⟩:=S'.yw hj hd i1 i2;rw[e1]at F;cases F;rw[jL E.hh e2]at w;cases w;obtain⟨x',K,g1,g2,g3,g4,T2,o2,P,t⟩:=g.app (p:=[]) (d:=d) (u:=v) (S1:=[]) R rfl rfl (bD.refl _) (λ_ _ _ z=>z) (.leaf r) (by simp) (λb hb=>by cases hb);cases g1;refine⟨l,K,v,rfl,rfl,g3,?_,k _ G' _ (k' l _ _ T2 g2 o2 P λb hb =>?_)⟩
     ·rw[<- g4];exact bw hz.2 h_
     ·rcases t b hb with z|z
      ·exact z
      ·cases z
   ·cases i
  ·cases i
def qd(k:lJ)(d:D)(a:List lJ)(b:List D):List lJ×List D:=if (a.any λq=>decide (q=k))=Z' then (a,vH (λq x=>if q=k then d else x) a b) else (a++[k],b++[d])
theorem Ig:∀ {ks:List lJ}{a:List V},ks.length=a.length->((ks.zip a).any λb=>decide (b.1=k))=ks.any λq=>decide (q=k)
 |[],a,h=>by simp
 |q::ks,[],h=>by simp at h
 |q::ks,v::a,h=>by simp only[cb,pq];rw[Ig (ks:=ks) (by simpa using h)]
theorem Hq{v:V}:∀ {ks:List lJ}{a:List V},(ks.zip a).map (λb=>if b.1=k then (b.1,v) else b)=ks.zip (vH (λq x=>if q=k then v else x) ks a)
 |[],a=>by simp
 |q::ks,[]=>by simp
 | q::ks,u::a=>by
  simp only[cb,a_,vG,Hq (ks:=ks)];by_cases h:q=k
  ·simp[h]
  ·simp[h]
theorem ve{K:aT}{v:V}(r:cO K G d v):∀ {b:List lJ}{e:List D}{a:List V},bz K G e a->bz K G (vH (λq x=>if q=k then d else x) b e) (vH (λq x=>if q=k then v else x) b a)
 |[],e,a,h=>by simp;exact .nil
 |q::b,[],a,h=>by rw[dE.mp h];simp;exact .nil
 | q::b,x::e,a,h=>by
  obtain⟨u,j,rfl,i,f⟩:=bJ.mp h;simp only[vG];refine .cons ?_ (ve r f);by_cases c:q=k
  ·rw[if_pos c,if_pos c];exact r
  ·rw[if_neg c,if_neg c];exact i
theorem PQ{K:aT}{k:lJ}{v:V}{f:List V}(r:cO K G d v)(j:a.length=b.length)(i:bz K G b f):∃c,wO (a.zip f) k v=(qd k d a b).1.zip c/\(qd k d a b).1.length=(qd k d a b).2.length/\bz K G (qd k d a b).2 c:=by
 have e:a.length=f.length:=by rw[j,i.length]
 unfold wO qd;rw[Ig e];by_cases h:(a.any λq=>decide (q=k))=Z'
 ·rw[if_pos h,if_pos h];exact⟨_,Hq,by simp[j],ve r i⟩
 ·rw[if_neg h,if_neg h];refine⟨f++[v],?_,by simp[j],i.append (.cons r .nil)⟩;rw[List.zip_append e];rfl
def qt(j:Nat)(c f:aG)(e:DF)(h:DM):DG:=λA=>(h A).bind λw=>(rh c f j w.2).bind λq=>(e w.2).bind λy=>(B9 y).bind λb=>match q.2.2.2 with
 |.iW a d=>if Sk.ym (cU q.1 f) .di=Z'/\a.length<dU then Y (.nx ((cS j w.2).set j (Y (yO c f q.1 q.2.1 q.2.2.1 (.iW (qd b w.1 a d).1 (qd b w.1 a d).2))))) else M
 |_=>M
theorem Eu{c f:aG}(P:X.A.units+1<rE)(h:PE X (.Name x p) (iC j))(hi:PE X i (tP X.K own fk))(he:PE X e (tM X.K B own fe))(hc:rp X.K c f)(R:j∈own:=by decide)(S8:bY (.Name x p) f X.env (eval (.Name x p) X.env)=eval (.Name x p) X.env:=by rfl)(hs:cp e (Y (.Subscript (.Attribute (.Name x p) f I) i O)) L.line X.env=dR false:=by rfl):
  PS X (.Assign [.Subscript (.Attribute (.Name x p) f I) i O] e L) (ib X.K B Q own own (qt j c f fk fe)):=(OF P (qy h S8) hi he hs).imp <|by
 rintro D J H ⟨G,A,o,S,b,k⟩;unfold qt at b;obtain⟨⟨d,l⟩,ef,b⟩:=aa.1 b;obtain⟨⟨fk',ks0,ds0,t1⟩,et,b⟩:=aa.1 b;rcases w:fk l with _|y
 ·simp[w]at b
 rcases m:B9 y with _|ky
 ·simp[w,m]at b
 simp only[w,m,ae]at b;split at b
 ·rename_i ks ds;split at b
  ·rename_i hz;cases b;obtain⟨hd,g,i2⟩:=lW et;rw[Sk.qF hz.1]at g;refine⟨G,A,d,l,S,ef,λv G1 H1 t s1 rv =>?_⟩;obtain⟨a,y',T1,e1,e2,o1,nd,_⟩:=t.yw R hd g i2;obtain⟨C,dx,fs,n,f1,f2⟩:=t.Gd R hd e1 e2;refine⟨_,e1,a,C,dx,fs,_,rfl,f1,(hc C n).1,(hc C n).2,f2,G1,l,y,t.gh,t.ji,w,λu G2 H2 E2 ru =>?_⟩;have P:=vo m (.inl ru:jt X.K G2 H2 y u);have S2:=t.ext E2;obtain⟨a',y2,T2,s,r,o2,K,k2⟩:=S2.yw R hd g i2;rw[e1]at s;cases s;rw[jL E2.hh e2]at r;cases r;obtain⟨x',vs,g1,g2,g3,g4,g5,g6⟩:=o2.dput (p:=[]) K rfl rfl (bD.refl _) (λ_ _ _ z=>z);cases g1;obtain⟨E,z1,z2,z3⟩:=PQ (k:=ky) (cO.mono E2.gg d rv) g4 g5;obtain⟨T3,o3,F,q⟩:=g6 _ _ E z2 z3;refine⟨x',_,rfl,?_,k _ G2 _ (k2 x' _ _ T3 g2 o3 F q)⟩;rw[P,<- z1];refine NC.k g3 ?_;rw[List.length_zip,g4,g5.length,Qp,<- g5.length,<- g4];exact bw hz.2 h_
  ·cases b
 ·cases b
def r8(i j:Nat)(c f:aG)(b:DF):DG:=λA=>(rh c f j A).bind λq=>(b A).bind λy=>match cU q.1 f,q.2.2.2,y with
 |.li (.fs _ _),.lst a,.int n=>(B' a.length n).map λk =>.nx (A.set i (Y (.dN j [.fld f,.ix k])))
 |_,_,_=>M
theorem Xy{i:Nat}{c f:aG}{b:Expr}(hN:X.N.Nodup)(hy:X.N[i]?=Y y)(hly:Loc X.env.scope y)(h:PE X (.Name x p) (iC j))(he:PE X b (tP X.K own fe))(hc:rp X.K c f)(N:j∈own:=by decide)(hj2:Ae j∈own:=by decide)(hi:i∈own:=by decide)(hi2:Ae i∉own:=by decide)(UC:j≠i:=by decide)(s:∀a,(i,a)∉B.3:=by intro a;simp_all)(hal:f∈CO:=by decide)(S8:bY (.Name x p) f X.env (eval (.Name x p) X.env)=eval (.Name x p) X.env:=by rfl)(hpi:CS b:=by exact λ_ _=>rfl)(hs:cp (.Subscript (.Attribute (.Name x p) f I) b q) (Y (.Name y O)) L.line X.env=dR false:=by rfl)(hf:X.fn y=Z'∨X.env.scope.names.lookup y=Y .local:=by first|exact .inl rfl|exact .inr rfl|assumption):
  PS X (.Assign [.Name y O] (.Subscript (.Attribute (.Name x p) f I) b q) L) (ib X.K B Q own own (r8 i j c f fe)):=(ma hN hy hly (QL Hy (qy h S8) he hpi) hs hf).imp <|by
 rintro D J H ⟨G,A,o,S,e,k⟩;unfold r8 at e;obtain⟨⟨fk,ks,ds,t1⟩,et,e⟩:=aa.1 e;rcases ef:fe A with _|d
 ·simp[ef]at e
 simp only[ef,ae]at e;split at e
 ·rename_i c2 t xs n w;rcases R:B' xs.length n with _|m
  ·rw[R]at e;cases e
  rw[R]at e;cases e;obtain⟨P,i1,i2⟩:=lW et;rw[w]at i1;obtain⟨a,y',T1,e1,e2,o1,nd,_⟩:=S.yw N P i1 i2;obtain⟨C,dx,fs,nn,f1,f2⟩:=S.Gd N P e1 e2;refine⟨_,e1,a,C,dx,fs,_,rfl,f1,(hc C nn).1,(hc C nn).2,f2,G,A,_,S.gh,S.ji,ef,λv G' H' E r =>?_⟩;cases bX.mp r;have S':=S.ext E;obtain⟨a',y2,T2,K,F,o2,Xb,k2⟩:=S'.yw N P i1 i2;rw[e1]at K;cases K;rw[jL E.hh e2]at F;cases F;cases o2 with
  |@lst _ _ l vs S0 hl tt=>
   have hm:m<xs.length:=(B_ R).2.1;obtain⟨v1,T3,U3,g1,g2,_⟩:=tt.at (n:=m) (s :=.fs c2 t) (by simp[hm]) (bC hm);obtain⟨b',o',rfl,g3,_⟩:=g2.root (λz=>by cases z);refine⟨l,vs,n,.ref b',rfl,rfl,.of hl,?_,k _ G' H' ?_⟩
   ·unfold ph;rw[<- tt.length.1,R];exact g1
   ·refine S'.La N hj2 hi UC hi2 s P e1 (p:=[.fld f,.ix m]) (s' :=.fs c2 t) ?_ ?_ (λg hg =>?_)
    ·have:=jL E.hh e2;simp only[gB]at this ⊢;rcases ea:H' a with _|ob
     ·rw[ea]at this;cases this
     rw[ea]at this;cases ob<;>simp only at this ⊢<;>try (cases this;done)
     rename_i V9;obtain⟨u,el,this⟩:=aa.1 this;rw[el];simp at this;subst this;simp only[ae,gB,hl,g1]
    ·show (mh [.fld f,.ix m] (.fs c fk))=_;simp only[mh,w]
    ·simp[zr]at hg;subst hg;exact hal
 ·cases e
end
section
variable {K:aT}{m:St}{g:cy}
theorem iX{i:Nat}(h:(g.set j M)[i]?=Y (Y d)):j≠i/\g[i]?=Y (Y d):=by
 by_cases e:j=i
 ·subst e;by_cases a:j<g.length
  ·rw[bj a]at h;cases h
  ·rw[ia (by simpa using a)]at h;cases h
 ·rw[aj e]at h;exact⟨e,h⟩
theorem SR.blank(S:SR K B own G H m g)(q:g[j]?=Y (Y d))(u:vp d=Z'):SR K B own G H m (g.set j M):=by
 refine⟨S.gh,S.g0,S.h0,S.fr,λi c a e=>S.env i c a (iX e).2,?_,by simp[S.len],S.pin,λi r p y x e =>?_⟩
 ·obtain⟨F,W⟩:=S.ow;exact⟨F,λi d a e=>W.it i d a (iX e).2,λi d a e=>W.ok i d a (iX e).2,λi j d c a o Q P=>W.ap i j d c a o (iX Q).2 (iX P).2⟩
 ·obtain⟨s,O,n,k,l,w,h,f,C⟩:=S.dN i r p y x (iX e).2;have b:j≠r:=λz=>by subst z;rw[q]at f;cases f;cases u
  exact⟨s,O,n,k,l,w,h,by rw[aj b];exact f,C⟩
theorem SR.Sh{f:aG}{X s:List D}(S:SR K B own G H m g)(hr:r∈own)(P:j∈own)(YR:r≠j)(hd:g[r]?=Y (Y (.obj (.fs c Q) (.ins c O U))))(E:mh [.fld f] (.fs c Q)=Y (.li (.fs n [])))(ep:eZ [.fld f] (.ins c O U)=Y (.lst X))(h2:g[j]?=Y (Y (.ins n x s))):
  ∃a l y w,m[r]?=Y (Y (.ref a))/\gB H [.fld f] (.ref a)=Y (.ref l)/\m[j]?=Y (Y (.ref y))/\H l=Y (.lst w)/\X.length=w.length/\SR K B own G (dg H l (.lst (w++[.ref y]))) m (((cS r g).set j M).set r (Y (yO c f Q O U (.lst (X++[.ins n x s]))))):=by
 obtain⟨a,T,e1,o1,nd,nf,F,W,hF⟩:=S.tree hr hd;obtain⟨y,e2,oc⟩:=W.it j _ P h2;obtain⟨⟨ob,oh,cell⟩,fj⟩:=(nI.cell (d :=.ins n x s) rfl).mp oc;obtain⟨_,fjn⟩:=W.ok j _ P h2;have yF:y∈F j:=by rw[fj];simp
 have yT:y∉T:=λz=>by rw[<- hF]at z;exact W.ap r j _ _ hr P hd h2 YR y z yF
 have ou:cB K G H (.fs n []) (.ins n x s) (.ref y) [y]:=yS.mpr ⟨⟨ob,oh,cell⟩,rfl⟩;obtain⟨l,w,g1,g2,g3,g4,T',o2,Xb,sub⟩:=o1.app (p:=[.fld f]) (d :=.ins n x s) (u :=.ref y) (S1:=[y]) nd E ep (bD.refl G) (λ_ _ _ z=>z) ou (by simp) (λb u=>by simp at u;subst u;exact yT);refine⟨a,l,y,w,e1,g1,e2,g3,g4,?_⟩;have hu:=kM (r:=r) hd (λq z=>by cases z);have VU:=kM (r:=r) h2 (λq z=>by cases z);have S0:=(S.IH (r:=r)).blank VU rfl;have UB:((cS r g).set j M)[r]?=Y (Y (.obj (.fs c Q) (.ins c O U))):=by rw[aj (bG YR)];exact hu
 have W0:qg K B own G H m ((cS r g).set j M) F:=⟨λi d hi e=>W.it i d hi (bL (iX e).2).1,λi d hi e=>W.ok i d hi (bL (iX e).2).1,λi j d c hi P ei ej=>W.ap i j d c hi P (bL (iX ei).2).1 (bL (iX ej).2).1⟩;have R:=(S0.Gv (i:=r) (a:=a) (d':=yO c f Q O U (.lst (X++[D.ins n x s]))) (F0:=T) (S':=T') (G':=G) (H':=dg H l (.lst (w++[V.ref y]))) W0 hr (λb u=>⟨by rw[hF];exact u,_,UB⟩) (bD.refl _) (λb o e=>by
   have C:b≠l:=λz=>by rw[z,(nf l g2).1]at e;cases e
   rw[aZ C];exact S.gh b o e) (λb o e =>.inl e) (λb o u e=>by
   have C:b≠l:=λz=>u (z ▸ g2)
   rw[aZ C];exact e) (show nI K G (dg H l (.lst (w++[V.ref y]))) (yO c f Q O U (.lst (X++[D.ins n x s]))) a T' from o2) Xb (λb u=>by
   rcases sub b u with z|z
   ·exact⟨(nf b z).1,.inl z⟩
   ·simp at z;subst z;refine⟨(fjn b yF).1,.inr (.inr ⟨(fjn b yF).2,λk c hk ek Jz Y_ =>?_⟩)⟩;obtain⟨Xh,ek⟩:=iX ek;exact W.ap j k _ c P hk h2 (bL ek).1 Xh b yF Y_) (λb h=>by have:=(S.pin r b h).2;rw[e1]at this;cases this;rfl) (λr p z=>by cases z)
  (λj' p _ _ _ e=>absurd rfl ((bL (iX e).2).2 p))).1
 rwa [gf e1]at R
theorem SR.OZ{f:aG}(S:SR K B own G H m g)(hr:r∈own)(hj:j∈own)(YR:r≠j)(hd:g[r]?=Y (Y (.obj (.fs c fk) (.ins c ks ds))))(E:mh [.fld f] (.fs c fk)=Y (.li (.fs c2 [])))(ep:eZ [.fld f] (.ins c ks ds)=Y (.lst (xs++[.ins c2 k2 d2])))(U:∀a,(j,a)∉B.3)(hm:Ae j∉own):
  ∃a l y P,m[r]?=Y (Y (.ref a))/\gB H [.fld f] (.ref a)=Y (.ref l)/\H l=Y (.lst (P++[.ref y]))/\SR K B own G (dg H l (.lst P)) (m.set j (Y (.ref y))) (((cS r g).set r (Y (yO c f fk ks ds (.lst xs)))).set j (Y (.ins c2 k2 d2))):=by
 obtain⟨a,T,e1,o1,nd,nf,F,W,hF⟩:=S.tree hr hd;obtain⟨l,P,u,g1,g2,g3,g4,T',S1,o2,o3,pm⟩:=o1.Ym (p:=[.fld f]) nd E ep;have hu:=kM (r:=r) hd (λq z=>by cases z);have W0:qg K B own G H m (cS r g) F:=⟨λi d X e=>W.it i d X (bL e).1,λi d X e=>W.ok i d X (bL e).1,λi j d c X hj ei ej=>W.ap i j d c X hj (bL ei).1 (bL ej).1⟩;have Q:=pm.nodup_iff.mpr nd;rw[iV]at Q;obtain⟨n1,n2,n3⟩:=Q;have T'T:∀b∈T',b∈T:=λb n=>pm.subset (bc _ n)
 have O:∀b∈S1,b∈T:=λb n=>pm.subset (aR _ n)
 have R:=(S.IH (r:=r)).Gv (i:=r) (a:=a) (d':=yO c f fk ks ds (.lst xs)) (F0:=T) (S':=T') (G':=G) (H':=dg H l (.lst P)) W0 hr (λb n=>⟨by rw[hF];exact n,_,hu⟩) (bD.refl _) (λb o e=>by
   have s:b≠l:=λz=>by rw[z,(nf l g2).1]at e;cases e
   rw[aZ s];exact S.gh b o e) (λb o e =>.inl e) (λb o n e=>by
   have s:b≠l:=λz=>n (z ▸ g2)
   rw[aZ s];exact e) o2 n1 (λb n=>⟨(nf b (T'T b n)).1,.inl (T'T b n)⟩) (λb h=>by have:=(S.pin r b h).2;rw[e1]at this;cases this;rfl) (λr p z=>by cases z)
  (λj' p _ _ _ e=>absurd rfl ((bL e).2 p))
 rw[gf e1]at R;obtain⟨Sr,Wr⟩:=R;obtain⟨y,ob,rfl,hy,hyS⟩:=o3.root (λz=>by cases z);obtain⟨⟨o4,oh,cell⟩,s1⟩:=yS.mp o3;subst s1;have R2:=(Sr.Gv (i:=j) (a:=y) (d' :=.ins c2 k2 d2) (F0:=[]) (S':=[y]) (G':=G) (H':=dg H l (.lst P)) Wr hj (λb n=>by cases n) (bD.refl _) Sr.gh (λb o e =>.inl e) (λb o _ e=>e)
  ((nI.cell rfl).mpr ⟨⟨o4,oh,cell⟩,rfl⟩) (by simp) (λb n=>by
   have C:=n;simp at n;subst n;refine⟨(nf b (O b C)).1,.inr (.inr ⟨(nf b (O b C)).2,λk cc hk ek Jz x =>?_⟩)⟩;by_cases w:k=r
   ·subst w;simp only[if_true]at x;exact n3 b x b C rfl
   ·simp only[if_neg w]at x;rw[aj (bG w)]at ek;exact W.ap r k _ cc hr hk hd (bL ek).1 (bG w) b (by rw[hF];exact O b C) x) (λb h=>absurd h (U b)) (λr p z=>by cases z)
  (λj' p h1 h2 _ e=>by obtain⟨_,g0,_⟩:=Sr.dN j' j p h1 h2 e;exact absurd g0 hm)).1
 exact⟨a,l,y,P,e1,g1,g3,R2⟩
end
section
variable {X:Cx}{s v:Pos}
def yK(j i:Nat)(c f:aG):DG:=λg=>(rh c f j g).bind λq=>(eV i g).bind λd=>match q.2.2.2,d with
 |.lst a,.ins b e h=>if Sk.ym (cU q.1 f) (.li (.fs b []))=Z'/\a.length<dU then Y (.nx (((cS j g).set i M).set j (Y (yO c f q.1 q.2.1 q.2.2.1 (.lst (a++[.ins b e h])))))) else M
 |_,_=>M
theorem M4{i:Nat}{c f:aG}(h:PE X (.Name x p) (iC j))(hy:PE X (.Name y v) (iC i))(U:rp X.K c f)(R:j∈own:=by decide)(hi:i∈own:=by decide)(z:j≠i:=by decide)(F:bY (.Name x p) f X.env (eval (.Name x p) X.env)=eval (.Name x p) X.env:=by rfl)(r:bY (.Attribute (.Name x p) f s) "append" X.env (eval (.Attribute (.Name x p) f s) X.env)=eval (.Attribute (.Name x p) f s) X.env:=by rfl) (u:((cv t (ao ((.Name y v)::[]) X.env)).all (λx=> !x.1)&&(f' t (cQ [] X.env)).all (λx=>x.1.isSome)
   && decide (((.Name y v:Expr)::[]).length+([]:List nX).length+(if ([]:List nX).isEmpty then 0 else 1)<30))=true:=by rfl) (q:(A.endLine==t.line)=true:=by rfl) (Q:ao ((.Name y v)::[]) X.env=(Z_,eval (.Name y v) X.env)::ao [] X.env:=by rfl) (e:(cv t (ao [] X.env)).any (·.1)=false:=by rfl) (w:cp (.Call (.Attribute (.Attribute (.Name x p) f s) "append" A) [.Name y v] [] t) M I.line X.env=dR false:=by rfl) :
  PS X (.Expr (.Call (.Attribute (.Attribute (.Name x p) f s) "append" A) [.Name y v] [] t) I) (ib X.K B J own own (yK j i c f)):=
 (sM (DV lL PySem.F.slot_list_append PySem.F.type_list_append pZ (qy h F) (cJ hy gA Q) r u q Q e) w).imp <|by
  rintro D m H ⟨G,g,o,S,b,k⟩;unfold yK at b;obtain⟨⟨fk,ks,ds,t1⟩,et,b⟩:=aa.1 b;rcases K:eV i g with _|d
  ·simp[K]at b
  simp only[K,ae]at b;split at b
  ·rename_i xs c2 k2 d2;split at b
   ·rename_i P;cases b;obtain⟨T,O,i2⟩:=lW et;rw[Sk.qF P.1]at O;obtain⟨a,l,y,E,e1,e2,e3,e4,e5,S'⟩:=S.Sh R hi z T O i2 (iO K);obtain⟨C,dx,fs,n,f1,f2⟩:=S.Gd R T e1 e2;refine⟨_,e1,a,C,dx,fs,_,rfl,f1,(U C n).1,(U C n).2,f2,.inl ⟨rfl,E,.of e4⟩,_,e3,l,E,_,rfl,rfl,e4,?_,k _ G _ S'⟩;rw[<- e5];exact bw P.2 h_
   ·cases b
  ·cases b
def DH(i j:Nat)(c f:aG):DG:=λg=>(rh c f j g).bind λq=>match q.2.2.2 with
 | .lst a=>(a.getLast?).bind λd=>match d with
  |.ins b e h=>if Sk.ym (cU q.1 f) (.li (.fs b []))=Z' then Y (.nx (((cS j g).set j (Y (yO c f q.1 q.2.1 q.2.2.1 (.lst a.dropLast)))).set i (Y (.ins b e h)))) else M
  |_=>M
 |_=>M
theorem Pu{i:Nat}{c f:aG}(hN:X.N.Nodup)(hy:X.N[i]?=Y y)(w:Loc X.env.scope y)(h:PE X (.Name x p) (iC j))(T:rp X.K c f)(Q:j∈own:=by decide)(hi:i∈own:=by decide)(z:j≠i:=by decide)(r:∀a,(i,a)∉B.3:=by intro a;simp_all)(hm:Ae i∉own:=by decide)(F:bY (.Name x p) f X.env (eval (.Name x p) X.env)=eval (.Name x p) X.env:=by rfl)(q:bY (.Attribute (.Name x p) f s) "pop" X.env (eval (.Attribute (.Name x p) f s) X.env)=eval (.Attribute (.Name x p) f s) X.env:=by rfl)(e:(A.endLine==t.line)=true:=by rfl)(hs:cp (.Call (.Attribute (.Attribute (.Name x p) f s) "pop" A) [] [] t) (Y (.Name y L)) I.line X.env=dR false:=by rfl)(hf:X.fn y=Z'∨X.env.scope.names.lookup y=Y .local:=by first|exact .inl rfl|exact .inr rfl|assumption):
  PS X (.Assign [.Name y L] (.Call (.Attribute (.Attribute (.Name x p) f s) "pop" A) [] [] t) I) (ib X.K B J own own (DH i j c f)):=
 (ma hN hy w (LK lL PySem.F.slot_list_pop PySem.F.type_list_pop L_ (qy h F) q e) hs hf).imp <|by
  rintro D m H ⟨G,g,o,S,b,k⟩;unfold DH at b;rcases K:rh c f j g with _|⟨fk,ks,ds,t1⟩
  ·rw[K]at b;cases b
  rw[K]at b;simp only[ae]at b;split at b
  ·rename_i u;rcases v:u.getLast? with _|d
   ·rw[v]at b;cases b
   rw[v]at b;simp only[ae]at b;split at b
   ·rename_i c2 k2 d2;split at b
    ·rename_i hz;cases b;obtain⟨R,P,O⟩:=lW K;rw[Sk.qF hz]at P;have hx:u=u.dropLast++[.ins c2 k2 d2]:=by obtain⟨ys,rfl⟩:=Ko.mp v;simp
     rw[hx]at O;obtain⟨a,l,y,us,e1,e2,U,S'⟩:=S.OZ Q hi z R P O r hm;obtain⟨C,dx,fs,n,f1,f2⟩:=S.Gd Q R e1 e2;refine⟨_,e1,a,C,dx,fs,_,rfl,f1,(T C n).1,(T C n).2,f2,.inl ⟨rfl,_,.of U⟩,l,_,.ref y,rfl,rfl,U,by simp,?_⟩;rw[xV];exact k _ G _ S'
    ·cases b
   ·cases b
  ·cases b
end
inductive spT (K:aT) (s:Sk) (F:List D->Option (D×D)) (j:List V) (H:Hp) (Q:VK) (_x:XK):Prop
 |mk G t g d i a T h:bD G H->j=.ref a::h->cB K G H s t (.ref a) T->T.Nodup->(∀b∈T,G b=none)->bz K G g h->F (t::g)=some (d,i)->(∀v e c f,f_ G (jA H T) c f->cB K c f s i (.ref a) e->e.Nodup->(∀b∈e,c b=none/\(b∈T∨H b=none))->cO K c d v->Q v f)->spT K s F j H Q _x
inductive K3 (K:aT) (s:Sk) (F:List D->Option (List D×D)) (k:List V) (H:Hp) (Q:VK) (_x:XK):Prop
 |mk G t f j i a T h:bD G H->k=.ref a::h->cB K G H s t (.ref a) T->T.Nodup->(∀b∈T,G b=none)->bz K G f h->F (t::f)=some (j,i)->(∀q g d c e,f_ G (jA H T) c e->cB K c e s i (.ref a) d->d.Nodup->(∀b∈d,c b=none/\(b∈T∨H b=none))->c q=none->(q∈T∨H q=none)->q∉d->e q=some (.lst g)->bz K c j g->Q (.ref q) e)->K3 K s F k H Q _x
inductive Vh (K:aT) (F:List D->Option D) (e:List V) (H:Hp) (Q:VK) (_x:XK):Prop
 |mk G c d:bD G H->bz K G c e->F c=some d->(∀q o b a,f_ G H b a->H q=none->b q=none->a q=some o->jk K b d o->Q (.ref q) a)->Vh K F e H Q _x
def kT(s:Sk)(j:Nat)(b:cy):Option D:=(xo j b).bind λa=>if Sk.ym a.1 s=Z' then Y a.2 else M
theorem lV{s:Sk}(h:kT s j a=Y t):a[j]?=Y (Y (.obj s t)):=by
 unfold kT at h;obtain⟨⟨b,t'⟩,e,h⟩:=aa.1 h;split at h
 ·rename_i z;cases h;rw[<- Sk.qF z];exact k_ e
 ·cases h
def lR(s:Sk):DO->Option (D×D)
 |.rm d a=>(kT s 0 a).map λt=>(d,t)
 |.nx a=>(kT s 0 a).map λt=>(.dJ,t)
 |_=>M
def QM(s:Sk):DO->Option (List D×D)
 |.rf i a=>(kT s 0 a).bind λt=>(iZ i a).map λb=>(b,t)
 |_=>M
def Yq:DO->Option D
 |.rf i a=>(eV i a).bind λd=>if vp d=Z' then Y d else M
 |_=>M
def lQ(n N:Nat)(s:Sk)(g:DG)(b:List D):Option (D×D):=match b with
 |t::a=>if a.length+1=n then (g (ic N (.obj s t::a))).bind (lR s) else M
 |[]=>M
def Hd(n N:Nat)(s:Sk)(g:DG)(b:List D):Option (List D×D):=match b with
 |t::a=>if a.length+1=n then (g (ic N (.obj s t::a))).bind (QM s) else M
 |[]=>M
def Qf(n N:Nat)(g:DG)(a:List D):Option D:=if a.length=n then (g (ic N a)).bind Yq else M
section
variable {P:bt}{K:aT}
theorem AX{s:Sk}{f:List D}{T:List az}(w:bD G H)(m:0∈own)(h:cB K G H s t (.ref a) T)(k:T.Nodup)(j:∀b∈T,G b=M)(r:bz K G f g)(n:∀i∈own,i=0∨f.length+1<=i):
  SR K ⟨G,jA H T,[(0,a)],x⟩ own G H (start N (.ref a::g)) (ic N.length (.obj s t::f)):=
 AW (c :=.obj s t) (T:=T) w (λb o e=>by
  by_cases d:b∈T
  ·rw[nA d]at e;cases e
  ·rw[cX d]at e;exact e) m rfl rfl h k (λb d=>⟨j b d,nA d⟩) (λr q z=>by cases z) (λi c p e=>by
   cases i with
   |zero=>exact absurd rfl p| succ i=>exact r.get (i:=i) (by simpa using e)) (by simp[r.length]) (by simpa using n)
theorem SR.Te{m:List Nat}{s:Sk}(r:SR K ⟨G,jA H T,[(0,a)],p⟩ m d i j e)(y:kT s 0 e=Y k):
  ∃c,cB K d i s k (.ref a) c/\c.Nodup/\(∀b∈c,d b=M/\(b∈T∨H b=M))/\∃F,qg K ⟨G,jA H T,[(0,a)],p⟩ m d i j e F/\F 0=c:=by
 obtain⟨g,f⟩:=r.pin 0 a (by simp);obtain⟨z,c,q,t,w,n,F,W,x⟩:=r.tree g (lV y);rw[f]at q;cases q;refine⟨c,t,w,λb o=>⟨(n b o).1,?_⟩,F,W,x⟩;have:=(n b o).2;by_cases h:b∈T
 ·exact .inl h
 ·exact .inr (by simpa [cX h] using this)
theorem hG.B3{f:az}{N R:List aG}(F:hG K x e p f fd)(S:bB N R (aB p))(s:Sk){own own':List Nat}{g:DG}(hp:0∈own)(C:∀i∈own,i=0∨R.length<=i) (hb:∀(j:ak) (A:gD) (outer:List Env) (s:av) (H:Hp) (E:XK),eM k (A.deeper (qm e (aB p) s.heap.objs.size f j))->∀(B:Bs) (a:az),B.3=[(0,a)] ->
   oP (qI gS P w K O U N e (aB p) f j A outer s H E).Jj (gv p) (ib K B [] own own' g)):b_ P w K O U gS (k+1) f fd R (spT K s (lQ R.length N.length s g)):=by
 refine F.ok S (λvs H Q E h =>?_) (λj A outer s1 H vs Q E hr h =>?_)
 ·obtain⟨G,t,xs,d,X,a,T,us,gh,rfl,ot,nd,nf,r,b,_⟩:=h;simp only[lQ]at b;split at b
  ·rename_i z;simp[<- r.length,z]
  ·cases b
 ·obtain⟨G,t,xs,d,X,a,T,us,gh,rfl,ot,nd,nf,r,b,q⟩:=h;simp only[lQ]at b;split at b
  ·rename_i hn;refine⟨_,hb j A outer s1 H E hr ⟨G,jA H T,[(0,a)],λ_ _=>False⟩ a rfl,?_⟩;obtain⟨oo,eg,b⟩:=aa.1 b;refine⟨G,_,oo,AX gh hp ot nd nf r (by rw[hn];exact C),eg,?_⟩;cases oo with
   |rm d' m=>have b:(kT s 0 m).map (λt=>(d',t))=Y (d,X):=b;obtain⟨y,o,b⟩:=aq.1 b;cases b;intro v σ G' H' ⟨o',c⟩ rv;obtain⟨T',f1,f2,f3,_⟩:=c.Te o;exact q v T' G' H' c.mX f1 f2 f3 rv
   |nx m=>have b:(kT s 0 m).map (λt=>(D.dJ,t))=Y (d,X):=b;obtain⟨y,o,b⟩:=aq.1 b;cases b;intro σ G' H' c;obtain⟨T',f1,f2,f3,_⟩:=c.Te o;exact q _ T' G' H' c.mX f1 f2 f3 (gI.mpr rfl)
   |_=>cases b
  ·cases b
theorem hG.Ys{c:qP}{f:az}(F:hG K x j c f fd)(S:bB N ps (aB c))(s:Sk){own own':List Nat}{g:DG}(hp:0∈own)(R:∀i∈own,i=0∨ps.length<=i) (hb:∀(o:ak) (A:gD) (e:List Env) (s:av) (H:Hp) (E:XK),eM k (A.deeper (qm j (aB c) s.heap.objs.size f o))->∀(B:Bs) (a:az),B.3=[(0,a)] ->
   oP (qI gS P w K O U N j (aB c) f o A e s H E).Jj (gv c) (ib K B [] own own' g)):b_ P w K O U gS (k+1) f fd ps (K3 K s (Hd ps.length N.length s g)):=by
 refine F.ok S (λvs H Q E h =>?_) (λo A e s1 H vs Q E hr h =>?_)
 ·obtain⟨G,t,xs,d,t',a,T,us,gh,rfl,ot,nd,nf,r,b,_⟩:=h;simp only[Hd]at b;split at b
  ·rename_i z;simp[<- r.length,z]
  ·cases b
 ·obtain⟨G,t,xs,d,t',a,T,us,gh,rfl,ot,nd,nf,r,b,q⟩:=h;simp only[Hd]at b;split at b
  ·rename_i hn;refine⟨_,hb o A e s1 H E hr ⟨G,jA H T,[(0,a)],λ_ _=>False⟩ a rfl,?_⟩;obtain⟨oo,eg,b⟩:=aa.1 b;refine⟨G,_,oo,AX gh hp ot nd nf r (by rw[hn];exact R),eg,?_⟩;cases oo with
   |rf i p=>
    have b:((kT s 0 p).bind λt=>(iZ i p).map λds=>(ds,t))=Y (d,t'):=b;obtain⟨y,X,b⟩:=aa.1 b;obtain⟨ds,C,b⟩:=aq.1 b;cases b;intro v σ G' H' ⟨o',hi,S'⟩ hv;obtain⟨T',f1,f2,f3,F',W,hF⟩:=S'.Te X;have m:=fx C;obtain⟨D,e1,oc⟩:=W.it i _ hi m;rw[hv]at e1;cases e1;obtain⟨⟨ob,oh,ws,rfl,rr⟩,fi⟩:=(nI.cell (d :=.lst d) rfl).mp oc;obtain⟨_,lS⟩:=W.ok i _ hi m;have qi:D∈F' i:=by rw[fi];simp
    have hi0:i≠0:=λz=>by subst z;rw[lV X]at m;cases m
    refine q D ws T' G' H' S'.mX f1 f2 f3 (lS D qi).1 ?_ ?_ oh rr
    ·have:=(lS D qi).2;by_cases h:D∈T
     ·exact .inl h
     ·exact .inr (by simpa [cX h] using this)
    ·intro z;rw[<- hF]at z;exact W.ap i 0 _ _ hi (S'.pin 0 a (by simp)).1 m (lV X) hi0 D qi z
   |_=>cases b
  ·cases b
theorem hG.Sa{f:az}{c:dY}(F:hG K x j t f c)(S:bB N C (aB t)){own own':List Nat}{g:DG}(z:∀i∈own,C.length<=i) (hb:∀(m:ak) (A:gD) (e:List Env) (s:av) (H:Hp) (E:XK),eM k (A.deeper (qm j (aB t) s.heap.objs.size f m))->∀B:Bs,B.3=[] ->
   oP (qI gS P w K O U N j (aB t) f m A e s H E).Jj (gv t) (ib K B [] own own' g)):b_ P w K O U gS (k+1) f c C (Vh K (Qf C.length N.length g)):=by
 refine F.ok S (λX H Q E h =>?_) (λm A e s H X Q E hr h =>?_)
 ·obtain⟨G,ds,d,D,r,b,_⟩:=h;unfold Qf at b;split at b
  ·rw[<- r.length];assumption
  ·cases b
 ·obtain⟨G,ds,d,D,r,b,q⟩:=h;unfold Qf at b;split at b
  ·rename_i hl;refine⟨_,hb m A e s H E hr ⟨G,H,[],λ_ _=>False⟩ rfl,?_⟩;obtain⟨o,eg,b⟩:=aa.1 b;refine⟨G,_,o,u4 D r (by rw[hl];exact z),eg,?_⟩;cases o with
   |rf i p=>
    have b:((eV i p).bind λd=>if vp d=Z' then Y d else M)=Y d:=b;obtain⟨y,el,b⟩:=aa.1 b;split at b
    ·rename_i hy;cases b;intro v σ G' H' ⟨o',hi,T⟩ hv;obtain⟨a,ob,R,e2,e3,e4,e5⟩:=T.LL hi (iO el) hy;rw[hv]at R;cases R;exact q a ob G' H' T.mX e5 e4 e2 e3
    ·cases b
   |_=>cases b
  ·cases b
end
section
variable {X:Cx}{v:Pos}
def bQ(c m:aG)(s:Sk)(F:List D->Option (D×D))(j:Nat)(g:J2):DM:=λb=>(xo j b).bind λd=>match d.1,d.2 with
 |.fs f _,.ins a e _=>if (f=c/\a=c)/\m∉e then (g b).bind λq=>(kT s j q.2).bind λt=>(F (t::q.1)).map λr=>(r.1,(cS j q.2).set j (Y (.obj s r.2))) else M
 |_,_=>M
theorem Ea{m:aG}{s:Sk}{F:List D->Option (D×D)}{f:St}(n:gU X.K aI c=Y (Y (.ref C)))(r:j∈own)(ht:∀f H Q,Ru X.K B own g f H Q->t f H Q)(h:tM X.K B own (bQ c m s F j g) f H Q):AU C m (spT X.K s F) [] E0 (iC j) t f H Q:=by
 obtain⟨G,o,d,R,S,e,q⟩:=h;unfold bQ at e;rcases x:xo j o with _|⟨s0,t0⟩
 ·rw[x]at e;cases e
 rw[x]at e;simp only[ae]at e;split at e
 ·rename_i c' fk ZF ks ds;split at e
  ·rename_i hz;obtain⟨⟨rfl,rfl⟩,hm⟩:=hz;rcases y:g o with _|⟨p,i⟩
   ·rw[y]at e;cases e
   rw[y]at e;simp only[ae]at e;rcases I:kT s j i with _|u
   ·rw[I]at e;cases e
   rw[I]at e;simp only[ae]at e;obtain⟨⟨d',t'⟩,eF,e⟩:=aq.1 e;cases e;have hd:=k_ x;obtain⟨a,T,z,ot,_⟩:=S.tree r hd;cases ot with
   |@ins _ _ _ _ _ C' dx vs S0 N ex l tt=>rw[n]at N;cases N;refine⟨_,z,a,dx,_,rfl,ex,kR (K:=X.K) (G:=G) hm,ht _ _ _ ⟨G,o,p,i,S,y,λK G1 H1 A s1 r1 =>?_⟩⟩;show spT X.K s F (.ref a::(K++[])) H1 Q E0;rw[bU];have k:=lV I;obtain⟨a1,T1,P,f2,f3,f4,F1,W1,w⟩:=A.tree r k;rw[z]at P;cases P;exact⟨G1,u,p,d',t',a,T1,K,A.gh,rfl,f2,f3,λb hb=>(f4 b hb).1,r1,eF,λv T' G' H' E nw nd nf rv=>q v G' H' (A.Cz W1 w r k z E nw nd nf) (s1.trans E.gg) rv⟩
  ·cases e
 ·cases e
theorem UG{c m:aG}{s:Sk}{F:List D->Option (D×D)}(h:eC X.prog X.w X.K X.mg X.base c m k (spT X.K s F))(g:eM k X.A)(i:PE X (.Name y p) (iC j))(r:j∈own:=by decide) (e:eval (.Call (.Attribute (.Name y p) m L) [] [] J) X.env=(do
   let a <- eval (.Name y p) X.env
   lO L.atName
   let (f,first) <- jw [a] (jr a m pl)
   mo J f first (cv J (ao [] X.env)) (f' J (cQ [] X.env))):=by rfl):PE X (.Call (.Attribute (.Name y p) m L) [] [] J) (tM X.K B own (bQ c m s F j kf)):=by
 obtain⟨C,f,K,E,n,t,o,x,w⟩:=h.ex;exact(vg (pl:=pl) i t o x g w .nil oB e).imp λb H Q q=>Ea n r (by rintro b H Q ⟨G,A,l,d,S,z,k⟩;cases z;exact k _ G H S (bD.refl _) .nil) q
theorem M8{c m:aG}{s:Sk}{F:List D->Option (D×D)}{g:J2}(h:eC X.prog X.w X.K X.mg X.base c m k (spT X.K s F))(o:eM k X.A)(r:PE X (.Name y p) (iC j))(E:PA X (e::I) (Ru X.K B own g))(w:j∈own:=by decide)(a:ao (e::I) X.env=(Z_,eval e X.env)::ao I X.env:=by rfl)(b:(cv J (ao I X.env)).any (·.1)=false:=by rfl) (i:eval (.Call (.Attribute (.Name y p) m L) (e::I) [] J) X.env=(do
   let d <- eval (.Name y p) X.env
   lO L.atName
   let (f,first) <- jw [d] (jr d m pl)
   mo J f first (cv J (ao (e::I) X.env)) (f' J (cQ [] X.env))):=by rfl):PE X (.Call (.Attribute (.Name y p) m L) (e::I) [] J) (tM X.K B own (bQ c m s F j g)):=by
 obtain⟨C,f,N,l,n,x,t,G,A⟩:=h.ex;exact(ya (pl:=pl) r x t G o A .nil oB E a b i).imp λK H Q q=>Ea n w (λ_ _ _ z=>z) q
def nz(c f k m:aG)(h:Sk)(F:List D->Option (D×D))(j:Nat)(g:DL):DM:=λb=>(rh c f j b).bind λz=>match z.2.2.2 with
 |.ins a d i=>if (Sk.ym (cU z.1 f) h=Z'/\a=k)/\m∉d then (g b).bind λe=>(F (.ins a d i::e)).map λr=>(r.1,(cS j b).set j (Y (yO c f z.1 z.2.1 z.2.2.1 r.2))) else M
 |_=>M
theorem Jm{f o m:aG}{e:List (aG×Sk)}{F:List D->Option (D×D)}(n:gU X.K aI o=Y (Y (.ref C1)))(hc:rp X.K c f)(z:j∈own)(ht:∀i H Q,BP X.K own g i H Q->t i H Q)(h:tM X.K B own (nz c f o m (.fs o e) F j g) i H Q):AU C1 m (spT X.K (.fs o e) F) [] E0 (U8 X.K (iC j) f) t i H Q:=by
 obtain⟨G,p,d,ρ',S,b,q⟩:=h;unfold nz at b;rcases K:rh c f j p with _|⟨fk,ks0,ds0,t0⟩
 ·rw[K]at b;cases b
 rw[K]at b;simp only[ae]at b;split at b
 ·rename_i k ks ds;split at b
  ·rename_i hz;obtain⟨⟨y,rfl⟩,hm⟩:=hz;rcases u:g p with _|r
   ·rw[u]at b;cases b
   rw[u]at b;simp only[ae]at b;rcases eF:F (.ins k ks ds::r) with _|⟨d',t'⟩
   ·rw[eF]at b;cases b
   rw[eF]at b;cases b;obtain⟨A,w,i2⟩:=lW K;rw[Sk.qF y]at w;obtain⟨a,x,T1,N,e2,o1,_⟩:=S.Gx z A w i2;obtain⟨C,dx,fs,nn,f1,f2⟩:=S.Gd z A N e2;cases o1 with
   |@ins _ _ _ _ s C' P vs S0 n' ex l tt=>rw[n]at n';cases n';refine⟨_,N,a,C,dx,fs,_,rfl,f1,(hc C nn).1,(hc C nn).2,f2,s,P,_,rfl,ex,kR (K:=X.K) (G:=G) hm,ht _ _ _ ⟨G,p,r,S.gh,S.ji,u,λT G1 H1 R r1 =>?_⟩⟩;show spT X.K (.fs k e) F (.ref s::(T++[])) H1 Q E0;rw[bU];have S1:=S.ext R;obtain⟨a1,x1,T2,g1,g2,g3,g4,g5,g6⟩:=S1.Gx z A w i2;rw[N]at g1;cases g1;rw[jL R.hh e2]at g2;cases g2;exact⟨G1,_,r,d',t',s,T2,T,S1.gh,rfl,g3,g4,g5,r1,eF,λv T' G' H' E nw nd nf rv=>q v G' H' (g6 t' T' G' H' E nw nd nf) (R.gg.trans E.gg) rv⟩
  ·cases b
 ·cases b
theorem UE{c f m:aG}{fk1:List (aG×Sk)}{F:List D->Option (D×D)}(h:eC X.prog X.w X.K X.mg X.base a m k (spT X.K (.fs a fk1) F))(t:eM k X.A)(i:rp X.K c f)(w:PE X (.Name y p) (iC j))(K:PA X (e::I) (BP X.K own g))(A:j∈own:=by decide)(o:bY (.Name y p) f X.env (eval (.Name y p) X.env)=eval (.Name y p) X.env:=by rfl)(b:ao (e::I) X.env=(Z_,eval e X.env)::ao I X.env:=by rfl)(d:(cv J (ao I X.env)).any (·.1)=false:=by rfl) (s:eval (.Call (.Attribute (.Attribute (.Name y p) f l) m L) (e::I) [] J) X.env=(do
   let r <- eval (.Attribute (.Name y p) f l) X.env
   lO L.atName
   let (f,first) <- jw [r] (jr r m pl)
   mo J f first (cv J (ao (e::I) X.env)) (f' J (cQ [] X.env))):=by rfl):PE X (.Call (.Attribute (.Attribute (.Name y p) f l) m L) (e::I) [] J) (tM X.K B own (nz c f a m (.fs a fk1) F j g)):=by
 obtain⟨C,S,R,P,n,E,x,u,G⟩:=h.ex;exact(ya (pl:=pl) (qy w o) E x u t G .nil oB K b d s).imp λN H Q q=>Jm n i A (λ_ _ _ z=>z) q
def iP(c:aG)(F:List D->Option (D×D))(g:DL):DF:=λa=>(g a).bind λb=>(F (.ins c [] []::b)).bind λr=>match r.1 with|.dJ=>Y r.2|_=>M
theorem XH{c:aG}{fk:List (aG×Sk)}{F:List D->Option (D×D)}{g:DL}(h:sC X.prog X.w X.K X.mg X.base c k (spT X.K (.fs c fk) F))(hr:eM (k+1) X.A)(hg:Gl X c)(ha:PA X (e::I) (BP X.K own g))(B:(c==("__debug__" : aG))=false:=by decide)(he:ao (e::I) X.env=(Z_,eval e X.env)::ao I X.env:=by rfl)(A:(cv J (ao I X.env)).any (·.1)=false:=by rfl):PE X (.Call (.Name c p) (e::I) [] J) (NT X.K own (.fs c fk) (iP c F g)):=by
 obtain⟨C,f,fd,ps,n,hm,hk,h1,a⟩:=h.ex;refine(Hl hk h1 hr hg hm a .nil oB ha B he A).imp ?_;rintro σ H Q ⟨G,ρ,d,gh,l,i,q⟩;unfold iP at i;obtain⟨P,eg,i⟩:=aa.1 i;obtain⟨⟨d',c'⟩,eF,i⟩:=aa.1 i;cases d'<;>simp only[ae]at i<;>try (cases i;done)
 cases i;refine⟨G,ρ,P,gh,l,eg,λR N r w r1 x s m j ne =>?_⟩;show spT X.K (.fs c fk) F (.ref x::(R++[])) _ _ E0;rw[bU];have K:N x=none:=w.gh.free m;have s2:bD N (dg (dg r s (.own x)) x (.ins C s [])):=w.gh.trans ((bD.alloc j).trans (.alloc (by rw[aZ (bG ne)];exact m)));refine⟨N,.ins c [] [],P,.dJ,_,x,[x],R,s2,rfl,.ins (ks:=[]) (vs:=[]) (S:=[]) n br rfl .nil,by simp,(λb a=>by simp at a;subst a;exact K),r1,eF,λv T' G2 H2 t nw nd T rv=>⟨gI.mp rv,?_⟩⟩;have S:∀b o,r b=Y o->jA (dg (dg r s (.own x)) x (.ins C s [])) [x] b=Y o:=λb o e=>by have a:b≠x:=bI e m;rw[cX (by simpa using a),aZ a,aZ (bI e j)];exact e
 refine q (.ref x) T' G2 H2 (w.trans ⟨λb o e=>t.hh b o (S b o e),t.gg,t.gh,λb o e =>?_⟩) nw nd λb a=>⟨(T b a).1,?_⟩
 ·rcases t.fr b o e with z|z
  ·exact .inl z
  ·refine .inr ?_;rcases y:r b with _|u
   ·rfl
   rw[S b u y]at z;cases z
 ·refine w.hh.free ?_;rcases(T b a).2 with z|z
  ·simp at z;subst z;exact m
  ·rcases y:r b with _|u
   ·rfl
   have E:b≠x:=bI y m;rw[aZ E,aZ (bI y j),y]at z;cases z
theorem Nh{F:List D->Option D}(h:ml X.prog X.w X.K X.mg X.base x k (Vh X.K F))(e:eM k X.A)(j:Gl X x)(b:(x==("__debug__" : aG))=false:=by decide):PE X (.Call (.Name x p) [] [] J) (U9 X.K own (λ_=>F [])):=by
 obtain⟨f,l,K,c,g,i,m⟩:=h.ex;exact(LJ c e j g i m .nil oB b).imp <|by rintro B H Q ⟨G,C,d,t,y,w,q⟩;exact⟨G,[],d,t,.nil,w,λa o A z E c s n r=>q a o A z E c s n r⟩
end
def Ax(l:cy)(u:ES)(w:DM)(i0:Nat)(s:Sk):List D->D->Option (List D×D)
 |[],t=>Y ([],t)|d::b,t=>(u d (l.set i0 (Y (.obj s t)))).bind λρ1=>(w ρ1).bind λp=>(kT s i0 p.2).bind λa=>(Ax l u w i0 s b a).map λq=>(p.1::q.1,q.2)
def vm(f:DL)(src:List (Option Nat))(u:ES)(w:DM)(i0 j0:Nat)(s:Sk):DM:=λl=>(f l).bind λa=>if a.length<=dU then (kT s j0 l).bind λt=>(Ax (mR src (cS j0 l)) u w i0 s a t).map λq=>(.lst q.1,(cS j0 l).set j0 (Y (.obj s q.2))) else M
section
variable {K:aT}
theorem SR.SJ{fl:aG->Int->Prop}{s:Sk}(S:SR K B own G H n (l.set j0 (Y (.obj s t))))(C:ka own [i0] src=Z')(x:src[i0]?=Y (Y j0))(y:n[j0]?=Y (Y (.ref a)))(u:cB K G H s t (.ref a) T)(P:T.Nodup)(N:∀b∈T,G b=M):
  SR K ⟨G,jA H T,[(i0,a)],fl⟩ [i0] G H (n_ src n) ((mR src l).set i0 (Y (.obj s t))):=by
 have q:j0∈own:=(kI C x).mp (by simp);refine⟨S.gh,bD.refl _,λb o e =>?_,λb o e =>.inl e,λi d g e =>?_,⟨λ_=>T,λi d g e =>?_,λi d g e=>⟨P,λb m=>⟨N b m,nA m⟩⟩,λi j d c g k _ _ f =>?_⟩,by simp[n_,mR],λi b h =>?_,λj r p R Q e =>?_⟩
 ·have e:jA H T b=Y o:=e;by_cases m:b∈T
  ·rw[nA m]at e;cases e
  ·rw[cX m]at e;exact e
 ·rcases gH e with⟨rfl,_,_⟩|⟨f,e⟩
  ·exact absurd (by simp) g
  ·obtain⟨j,F,ej⟩:=Dt e;have k:j∉own:=λz=>g ((kI C F).mpr z)
   have:j0≠j:=λz=>k (z ▸ q)
   obtain⟨v,f1,X⟩:=S.env j d k (by rw[aj this];exact ej);exact⟨v,pP F f1,X⟩
 ·have z:i=i0:=by simpa using g
  subst z;rcases gH e with⟨_,rfl,_⟩|⟨f,_⟩
  ·exact⟨a,pP x y,u⟩
  ·exact absurd rfl f
 ·simp at g k;exact absurd (g.trans k.symm) f
 ·have z:(i,b)=(i0,a):=by simpa using h
  cases z;exact⟨by simp,pP x y⟩
 ·have q1:j=i0:=by simpa using R
  have J:Aw j=i0:=by simpa using Q
  unfold Aw at J;omega
end
theorem IG{s:Sk}:cS j ((cS j l).set j (Y (.obj s t)))=(cS j l).set j (Y (.obj s t)):=by
 apply List.ext_getElem?;intro i;unfold cS;rw[aY];by_cases h:j=i
 ·subst h;by_cases b:j<l.length
  ·rw[bj (by simpa using b)];rfl
  ·rw[ia (by simpa using b)];rfl
 ·rw[aj h,aY];rcases e:l[i]? with _|o
  ·rfl
  cases o with
  |none=>rfl|some d=>
   cases d with
   |dN r p=>
    simp only[bP];by_cases a:r=j
    ·simp[a]
    ·simp[a]
   |_=>rfl
section
variable {X:Cx}{f:DL}{s:Sk}
theorem Hu{K:aT}(ho:ka own [i0] src=Z')(h0:src[i0]?=Y (Y j0))(hg:∀(B:Bs) v n H Q,GX K B [i0] u v n H Q->g v n H Q)(q:tM K B own (vm f src u w i0 j0 s) n H Q):
  Rv (C7 K own f) src g (rg K [i0] hI) (Uv K i0 w) n H Q:=by
 obtain⟨G,l,d,ρ',S,j,k⟩:=q;have X:j0∈own:=(kI ho h0).mp (by simp);unfold vm at j;obtain⟨C,ef,j⟩:=aa.1 j;split at j
 ·rename_i hz;obtain⟨t0,el,j⟩:=aa.1 j;obtain⟨⟨rs,tF⟩,em,j⟩:=aq.1 j;cases j;have hd0:=lV el;have hu0:=kM (r:=j0) hd0 (λq z=>by cases z);have Y2:j0<(cS j0 l).length:=(au.mp hu0).1;obtain⟨a,T0,e2,_⟩:=S.tree X hd0;refine⟨G,l,C,S.gh,S.ji,ef,λJ G1 H1 E1 ok =>?_⟩;have S1:=(S.ext E1).IH (r:=j0);rw[<- z9 hu0]at S1;refine⟨λi m ys H2=>m=C.length-i/\i<=C.length/\WJ K B own n (λt=>(cS j0 l).set j0 (Y (.obj s t))) (λi=>Ax (mR src (cS j0 l)) u w i0 s (C.drop i)) G1 tF rs i ys H2,
   ⟨C.length,rfl,eG _,G1,[],t0,rs,aS _,S1,bD.refl _,.nil,em,rfl⟩,?_⟩
  rintro i m ys H2 ⟨rfl,Y3,G2,o,t,r,hyl,S2,s2,rx,c,rfl⟩;have sub:bD G1 H2:=s2.trans S2.gh;by_cases N:i<C.length
  ·refine .inr ⟨ok.go i H2 sub N,?_,WJ K B own n (λt=>(cS j0 l).set j0 (Y (.obj s t))) (λi=>Ax (mR src (cS j0 l)) u w i0 s (C.drop i)) G1 tF (o++r) (i+1),
    λR H' z=>⟨C.length-(i+1),by omega,rfl,N,z⟩,λx H3 y =>?_⟩
   ·have:=h_;omega
   ·obtain⟨G3,E3,T9⟩:=ok.Qw i H2 x H3 G2 C[i] s2 S2.gh y (bC N);have S3:=S2.ext E3;rw[fw N]at c;unfold Ax at c;obtain⟨A,et,c⟩:=aa.1 c;obtain⟨⟨x4,ρ5⟩,ee,c⟩:=aa.1 c;obtain⟨t4,el4,c⟩:=aa.1 c;obtain⟨⟨T,tE⟩,em4,c⟩:=aq.1 c;cases c;have hd3:((cS j0 l).set j0 (Y (D.obj s t)))[j0]?=Y (Y (.obj s t)):=by rw[bj Y2]
    obtain⟨a3,T3,f1,ot,nd,nf,F3,W3,hF3⟩:=S3.tree X hd3;rw[e2]at f1;cases f1;have SI:=S3.SJ (fl:=λ_ _=>False) ho h0 e2 ot nd λb hb=>(nf b hb).1
    refine hg ⟨G3,jA H3 T3,[(i0,a)],λ_ _=>False⟩ _ _ _ _ ⟨G3,_,C[i],A,SI,T9,et,λσ4 G4 H4 S4=>⟨G4,A,Z',S4.gh,S4.ji,rfl,λG5 H5 E5=>zg ?_⟩⟩;refine⟨⟨G3,jA H3 T3,[(i0,a)],λ_ _=>False⟩,a,rfl,G5,A,x4,ρ5,S4.ext E5,ee,λv G6 H6 S6 s6 r6=>⟨G6,o++[x4],t4,T,by simp;omega,?_,?_,?_,em4,by simp⟩⟩
    ·obtain⟨SU,hσ⟩:=S6.pin i0 a (by simp);obtain⟨a6,T6,g1,g2,g3,g4,_⟩:=S6.tree SU (lV el4);rw[hσ]at g1;cases g1;have:=S3.Cz (t':=t4) W3 hF3 X hd3 e2 S6.mX g2 g3 (λb hb=>⟨(g4 b hb).1,by
      have:=(g4 b hb).2;by_cases h:b∈T3
      ·exact .inl h
      ·exact .inr (by simpa [cX h] using this)⟩)
     rw[IG,List.set_set]at this;exact this
    ·exact s2.trans (E3.gg.trans S6.g0)
    ·exact(bz.mono (E3.gg.trans S6.g0) o rx).append (.cons r6 .nil)
  ·have e:i=C.length:=by omega
   subst e;rw[uR]at c;unfold Ax at c;cases c;refine .inl ⟨ok.stop _ H2 sub (aS _),λp hp =>?_⟩;have EA:=f_.alloc (p:=p) (o :=.lst ys) S2.gh hp;refine k _ _ _ (S2.ext EA) (E1.gg.trans (s2.trans EA.gg)) ?_;rw[bU];exact cW.mpr ⟨p,ys,rfl,br,bz.mono EA.gg o rx⟩
 ·cases j
theorem Gp(S:fK X N src A)(j:X.calm=Z')(e:PI X E I (C7 X.K own f))(o:NZ O g)(a:∀i∈O,src[i]?=Y M)(h:∀(B:Bs) v n H Q,GX X.K B [i0] u v n H Q->g v n H Q)(k:∀C s H b,PG (X.tZ N A C s H b) E g/\Fb (X.tZ N A C s H b) [] (rg X.K [i0] hI)/\PE (X.tZ N A C s H b) L (Uv X.K i0 w))(m:src[i0]?=Y (Y j0):=by rfl)(d:ka own [i0] src=true:=by decide)(c:∀x,cY I X.env x=dR x:=by intro _;rfl):PE X (.ListComp L [⟨E,I,[],0⟩] A U) (tM X.K B own (vm f src u w i0 j0 s)):=
 (LD S j e o a k c).imp λn H Q q=>Hu d m h q
theorem Gn{i:Nat}(S:fK X N src A)(V:X.calm=Z')(R:X.N.Nodup)(t:X.N[i]?=Y y)(F:X.env.scope.names.lookup y=Y .local)(J:PI X E I (C7 X.K own f))(ag:NZ O g)(h:∀i∈O,src[i]?=Y M)(K:∀(B:Bs) v n H Q,GX X.K B [i0] u v n H Q->g v n H Q)(P:∀C s H m,PG (X.tZ N A C s H m) E g/\Fb (X.tZ N A C s H m) [] (rg X.K [i0] hI)/\PE (X.tZ N A C s H m) L (Uv X.K i0 w))(T:src[i0]?=Y (Y j0):=by rfl)(D:ka own [i0] src=true:=by decide)(j:i∉own:=by decide)(e:cp (.ListComp L [⟨E,I,[],0⟩] A U) (Y (.Name y p)) a.line X.env=dR true:=by rfl)(z:∀x,cY I X.env x=dR x:=by intro _;rfl):PS X (.Assign [.Name y p] (.ListComp L [⟨E,I,[],0⟩] A U) a) (ib X.K B q own own (nh i (vm f src u w i0 j0 s))):=
 (yP S V R t F J ag h P e z).imp λD' n H ⟨G,l,o,S,b,k⟩=>Hu D T K (by unfold nh at b;obtain⟨⟨d,c⟩,ef,b⟩:=aq.1 b;cases b;exact⟨G,l,d,c,S,ef,λv G' H' S' _ r=>k _ G' H' (S'.xu j r)⟩)
end
abbrev TupAt(h:cD)(T:az)(a:Array ak):Prop:=h.get? T=Y { cls :=.type "tuple",data :=.seq a }
structure ZN(h:cD)(z TI TO:az)(n:Nat)(it l:Nat->az)(xs:Nat->Array ak)(pl:Nat->Nat)(f0:ak)(out:Array ak):Prop where
 zz:IsZip h z TI TO f0
 ti:TupAt h TI ((cw n).map λj=>aE (it j)).toArray
 to:TupAt h TO out
 sz:out.size=n
 iter:∀j,j<n->h.IsListIter (it j) (l j) (pl j)
 lst:∀j,j<n->h.IsList (l j) (xs j)
structure ZA(z TI TO:az)(n:Nat)(it l:Nat->az):Prop where
 tiz:TI≠z
 Z7:TO≠z
 X0:TI≠TO
 iz:∀j,j<n->it j≠z/\it j≠TI/\it j≠TO
 ii:∀j k,j<n->k<n->j≠k->it j≠it k
 lz:∀j,j<n->l j≠z/\l j≠TO/\∀k,k<n->l j≠it k
section
variable {f:az}
theorem ZN.adv(N:ZN h z i f n d l p t u r)(A:ZA z i f n d l)(c:k<n)(m:g.IsListIter (d k) (l k) (t k+1))(b:fD (d k) h g):ZN g z i f n d l p (λj=>if j=k then t j+1 else t j) u r:=by
 obtain⟨s,q,o⟩:=A.iz k c;refine⟨b.extBut _ _ (bG s) N.zz,b.extBut _ _ (bG q) N.ti,b.extBut _ _ (bG o) N.to,N.sz,λj a =>?_,λj a =>?_⟩
 ·by_cases e:j=k
  ·subst e;simpa using m
  ·simp only[if_neg e];exact(N.iter j a).extBut b.extBut (A.ii j k a c e)
 ·exact(N.lst j a).extBut b.extBut ((A.lz j a).2.2 k c)
theorem ZN.Om(N:ZN h z i f n d l p t u r)(A:ZA z i f n d l)(k:TupAt g f a)(e:a.size=n)(c:fD f h g):ZN g z i f n d l p t u a:=
 ⟨c.extBut _ _ (bG A.Z7) N.zz,c.extBut _ _ A.X0 N.ti,k,e,λj b=>(N.iter j b).extBut c.extBut (A.iz j b).2.2,λj b=>(N.lst j b).extBut c.extBut (A.lz j b).2.1⟩
theorem ZN.Ol(N:ZN h z i f n d l p t u r)(A:ZA z i f n d l)(e:IsZip g z i f c)(b:fD z h g):ZN g z i f n d l p t c r:=
 ⟨e,b.extBut _ _ A.tiz N.ti,b.extBut _ _ A.Z7 N.to,N.sz,λj a=>(N.iter j a).extBut b.extBut (A.iz j a).1,λj a=>(N.lst j a).extBut b.extBut (A.lz j a).1⟩
end
def EI(z f:az)(n:Nat)(d:Nat->az)(h g:cD):Prop:=∀c o,c≠z->c≠f->(∀j,j<n->c≠d j)->h.get? c=Y o->g.get? c=Y o
section
variable {E:ak->av->Prop}{s:av}
variable {f:az}{d:Nat->az}{m:Nat}
theorem A_(h:a=(cw n).map λj=>aE (d j))(c:k<n):(a.zipIdx).drop k=(aE (d k),k)::(a.zipIdx).drop (k+1):=by
 have b:a.zipIdx.length=n:=by rw[h];simp
 rw[fw (by rw[b];exact c)]
 congr 1
 subst h;simp
theorem Iy{Q:ak->av->Prop}(hh:A.handled=M)(hn:0<n)(YZ:n<=100)(D:ZA z i f n d l)(N:ZN s.heap z i f n d l p (λ_=>m) .none r) (hQ:∀g x,(∀j,j<n->(p j)[m]?=Y (x j))->ZN g z i f n d l p (λ_=>m+1) (lK s.heap.objs.size) ((cw n).map x).toArray->TupAt g s.heap.objs.size ((cw n).map x).toArray->g.objs.size=s.heap.objs.size+1 ->
   EI z f n d s.heap g->Q (.ref s.heap.objs.size) { s with heap:=g }) (hE:(∃j,j<n/\(p j)[m]?=M)->∀g e,EI z f n d s.heap g->(∃o,g.get? e=Y o/\o.cls=.type "StopIteration")->E (.ref e) { s with heap:=g }) :
  be (aU B w) A (Builtin.«zip.__next__» ⟨[.ref z],[]⟩) (λlS s'=>∃v,lS=.done (.ret v)/\Q v s') E s:=by
 unfold Builtin.«zip.__next__»;show be _ _ (field (.ref z) 2 >>= _) _ _ _;refine ah (jv N.zz rfl (x :=.bool Z_) rfl ?_);refine ah (jv N.zz rfl (x :=.ref i) rfl ?_);refine ah (Ua N.ti rfl ?_);have Jz:((cw n).map λj=>aE (d j)).toArray.isEmpty=false:=by
  cases n with|zero=>omega|succ n=>simp[vI]
 simp only[Jz,eD,if_false];refine ah ?_;unfold Builtin.SmallTypes.ownedTupleIsFree;refine ah (jv N.zz rfl (x :=.none) rfl (aF ?_));simp only[if_true];refine ah (Ub ?_);refine ah (jv N.zz rfl (x :=.ref f) rfl ?_);refine ah (uN N.zz (by simp) λh1 z1 k1 =>?_);have N1:ZN h1 z i f n d l p (λ_=>m) .ellipsis r:=N.Ol D z1 k1;refine ah ?_;refine wpAny_forIn_list _ (λL b s1=>b=(M,())/\∃k F C x,k<=n/\L=(((cw n).map λj=>aE (d j)).zipIdx).drop k/\s1={ s with heap:=F }/\ZN F z i f n d l p (λj=>if j<k then m+1 else m) .ellipsis C /\
   (∀j,j<k->(p j)[m]?=Y (x j)/\C[j]?=Y (x j))/\F.objs.size=s.heap.objs.size/\EI z f n d s.heap F) _ ?_ ?_ _ _ ⟨rfl,0,h1,r,λ_ =>.none,eG _,rfl,rfl,by simpa using N1,λj H=>by omega,k1.1,λc o I _ _ e=>k1.extBut _ _ I e⟩
 ·rintro x L b s1 ⟨rfl,k,F,C,J,hk,R,rfl,G,ho,hs,kp⟩;have h:k<n:=by
   rcases Nat.lt_or_ge k n with z|z
   ·exact z
   ·rw[Qs (by simpa using z)]at R;cases R
  rw[A_ rfl h]at R;obtain⟨rfl,P⟩:=List.cons.inj R;refine ah (wpAny_onRaise ?_);show be _ _ (Builtin.SmallTypes.nextOf (.ref (d k)) >>= _) _ _ _;have O:=G.iter k h;simp only[eQ,if_false]at O;cases hx:(p k)[m]? with
  |none=>
   refine ah (wpAny_nextOf_list_end hh O (G.lst k h) hx λh3 e X he =>?_);obtain⟨oe,S,hce⟩:=he;have ZX:IsZip h3 z i f .ellipsis:=X _ _ (bG (D.iz k h).1) G.zz;have hez:e≠z:=λq=>by subst q;rw[ZX]at S;cases S;simp at hce
   refine uN ZX (by simp) λh4 _ t=>hE ⟨k,h,hx⟩ h4 e (λc o I c2 T q=>t.extBut _ _ I (X _ _ (T k h) (kp c o I c2 T q))) ⟨oe,t.extBut _ _ hez S,hce⟩
  |some y=>
   refine ah (wpAny_nextOf_list_item O (G.lst k h) hx λh3 i3 X=>aF ?_);have K:=G.adv D h (by simpa using i3) X;dsimp only;refine ah (Ua K.to rfl ?_);dsimp only;have hsz:C.size<=bb:=by rw[K.sz,il];omega
   refine ah (wpAny_updateSeq K.to rfl ?_ hsz (by simp;omega));have up:TupAt (h3.update f (Obj.mapSeq λq=>q.setIfInBounds k y)) f (C.setIfInBounds k y):=by show Heap.get? _ _=_;rw[cR _ K.to rfl];simp[Obj.mapSeq]
   have N4:=K.Om D up (by simpa using K.sz) (Heap.SameBut.update ..);refine ah (wpAny_letGo (aF ?_));refine⟨rfl,k+1,_,C.setIfInBounds k y,λj=>if j=k then y else J j,h,P,rfl,?_,λj H =>?_,?_,λc o I c2 T q =>?_⟩
   ·have:(λj=>if j=k then (if j<k then m+1 else m)+1 else if j<k then m+1 else m)=λj=>if j<k+1 then m+1 else m:=by
     funext j
     by_cases e:j=k
     ·subst e;simp
     ·by_cases e2:j<k
      ·rw[if_neg e,if_pos e2,if_pos (by omega)]
      ·rw[if_neg e,if_neg e2,if_neg (by omega)]
    rw[this]at N4;exact N4
   ·by_cases e:j=k
    ·subst e;simp only[if_true];exact⟨hx,by rw[Array.getElem?_setIfInBounds_self_of_lt];rw[G.sz];exact h⟩
    ·simp only[if_neg e];obtain⟨a,b⟩:=ho j (by omega);exact⟨a,by rw[oO (by omega)];exact b⟩
   ·rw[xW,X.1,hs]
   ·exact(Heap.SameBut.update h3 f _).extBut _ _ c2 (X.extBut _ _ (T k h) (kp c o I c2 T q))
 ·rintro b s1 ⟨rfl,k,F,C,J,hk,R,rfl,G,ho,hs,kp⟩;have h:k=n:=by
   rcases Nat.lt_or_ge k n with z|z
   ·rw[A_ rfl z]at R;cases R
   ·omega
  subst h;have YV:C=((cw k).map J).toArray:=by
   apply Array.ext_getElem?;intro j;by_cases H:j<k
   ·rw[(ho j H).2];simp[H]
   ·rw[Qv (by rw[G.sz];omega)]
    symm
    apply Qv;simp;omega
  subst YV;dsimp only;refine ah (Ua G.to rfl ?_);dsimp only;refine ah (wpAny_newTuple ?_ (by simp;rw[il];omega));have ZY:z<F.objs.size:=aJ G.zz;have ext:∀c o,F.get? c=Y o->(F.push { cls :=.type "tuple",data :=.seq ((cw k).map J).toArray }).get? c=Y o:=λc o q=>ai _ q
  have K:ZN (F.push { cls :=.type "tuple",data :=.seq ((cw k).map J).toArray }) z i f k d l p (λj=>if j<k then m+1 else m) .ellipsis ((cw k).map J).toArray:=
   ⟨ext _ _ G.zz,ext _ _ G.ti,ext _ _ G.to,G.sz,λj H=>(G.iter j H).at (λo q=>ext _ _ q),λj H=>(G.lst j H).at (λo q=>ext _ _ q)⟩
  refine ah ?_;unfold Builtin.SmallTypes.ownedTupleHandOut;refine ah (uN K.zz (by simp) λh4 z4 t =>?_);have N4:ZN h4 z i f k d l p (λj=>if j<k then m+1 else m) (lK F.objs.size) ((cw k).map J).toArray:=K.Ol D z4 t;refine uN N4.zz (by simp) λh5 z5 k5 =>?_
  have U:ZN h5 z i f k d l p (λj=>if j<k then m+1 else m) (lK F.objs.size) ((cw k).map J).toArray:=N4.Ol D z5 k5;have up:∀c o,c≠z->F.get? c=Y o->h5.get? c=Y o:=λc o I q=>k5.extBut _ _ I (t.extBut _ _ I (ext c o q))
  have tup:TupAt h5 F.objs.size ((cw k).map J).toArray:=k5.extBut _ _ (fQ ZY) (t.extBut _ _ (fQ ZY) (bx _ rfl));have Z9:h5.objs.size=F.objs.size+1:=by rw[k5.1,t.1,cV]
  refine aF ⟨_,rfl,?_⟩;rw[hs]at U tup Z9;show Q (.ref F.objs.size) _;rw[hs];refine hQ h5 J (λj H=>(ho j H).1) ⟨U.zz,U.ti,U.to,U.sz,λj H=>by have:=U.iter j H;simpa [H] using this,U.lst⟩ tup Z9 λc o I c2 T q=>up c o I (kp c o I c2 T q)
theorem wW(v:A.handled=M)(k:0<n)(a:n<=100)(D:ZA z i f n d l)(N:ZN s.heap z i f n d l p (λ_=>m) .none r) (F:∀g x,(∀j,j<n->(p j)[m]?=Y (x j))->ZN g z i f n d l p (λ_=>m+1) (lK s.heap.objs.size) ((cw n).map x).toArray->TupAt g s.heap.objs.size ((cw n).map x).toArray->g.objs.size=s.heap.objs.size+1 ->
   EI z f n d s.heap g->Q (Y (.ref s.heap.objs.size)) { s with heap:=g }) (G:(∃j,j<n/\(p j)[m]?=M)->∀g,EI z f n d s.heap g->Q M { s with heap:=g }):be (aU B w) A (pyNext (.ref z)) Q E s:=by
 have b:s.TypeIs (.ref z) "zip" :=⟨_,N.zz,rfl⟩;unfold pyNext;refine ah (Fc (wpAny_callSpecial?_slot (name:=af "__next__") b PySem.F.slot_zip_next
  (wpAny_call_entry PySem.F.slot_zip_next b PySem.F.entry_zip_next (Iy v k a D N (λg x L K J I H=>aF (F g x L K J I H)) λq g e c y =>?_) (PySem.F.args_zip_next_1 _))))
 obtain⟨o,h,C⟩:=y;exact ah (wpAny_isInstance (T:= "StopIteration") (b:=Z') ⟨o,h,C⟩ isSubtype_stop (aF (G q _ c)))
end
def nK{d:Type}(a b c:d):Nat->d
 |0=>a|1=>b|_=>c
theorem Iz(a b c:ak):checkTypeCall "zip" ⟨[a,b,c],[]⟩=dR ():=by kernel_rfl
theorem Ks(a b c:ak):checkBuiltinCall "zip.__new__" ⟨[.type "zip",a,b,c],[]⟩=dR ():=by kernel_rfl
theorem VP(a b c d:ak):argsOk "object.__init__" ⟨[a,b,c,d],[]⟩:=by
 unfold argsOk;rw[signature?_of (id:= "object.__init__") (n:=['_','_','t','i','n','i','_','_']) (o:=['t','c','e','j','b','o']) (by kernel_rfl) PySem.F.owner_object];kernel_rfl
noncomputable abbrev Uz(l:az):Obj:={ cls :=.type "list_iterator",data :=.fields #[.ref l,.int 0 0] }
section
variable (h:cD)(a b c:az)
abbrev zA:cD:=h.push (Uz a)
abbrev zB:cD:=(zA h a).push (Uz b)
abbrev zC:cD:=(zB h a b).push (Uz c)
abbrev zT:cD:=(zC h a b c).push { cls :=.type "tuple",data :=.seq #[.ref h.objs.size,.ref (zA h a).objs.size,.ref (zB h a b).objs.size] }
abbrev zO:cD:=(zT h a b c).push { cls :=.type "tuple",data :=.seq #[.none,.none,.none] }
abbrev zZ:cD:=(zO h a b c).push { cls :=.type "zip",data :=.fields #[.none,.bool Z_,.bool Z_,.ref (zC h a b c).objs.size,.ref (zT h a b c).objs.size] }
end
theorem Fi(a b c:az)(m l k:Array ak):
  Meets (Builtin.«zip.__new__» ⟨[.type "zip",.ref a,.ref b,.ref c],[]⟩) (λ_ R s=>s.heap.IsList a m/\s.heap.IsList b l/\s.heap.IsList c k/\R (.ok (.ret (.ref (zO s.heap a b c).objs.size))) { s with heap:=zZ s.heap a b c }):=
 .of_wp λf w A R s h=>by
  obtain⟨j,g,d,e,i⟩:=s;obtain⟨q,p,o,h⟩:=h;have n:=sub_zip;have u:Heap.IsList (Shared.heap ⟨j,g,d,e,i⟩) a m:=q;have t:Heap.IsList (Shared.heap ⟨j.push (Uz a),g,d,e,i⟩) b l:=NO p _;have r:Heap.IsList (Shared.heap ⟨(j.push (Uz a)).push (Uz b),g,d,e,i⟩) c k:=(NO (NO o _) _)
  wp_walk using lN u,lN t,lN r
  exact⟨_,rfl,h⟩
section
variable {f:bt}{s:av}
theorem JT{m:Array ak}(B:s.heap.IsList a p)(z:s.heap.IsList b n)(y:s.heap.IsList c m) (h:∀d,IsZip d (s.heap.objs.size+5) (s.heap.objs.size+3) (s.heap.objs.size+4) .none->TupAt d (s.heap.objs.size+3) #[.ref s.heap.objs.size,.ref (s.heap.objs.size+1),.ref (s.heap.objs.size+2)] ->
   TupAt d (s.heap.objs.size+4) #[.none,.none,.none]->d.IsListIter s.heap.objs.size a 0->d.IsListIter (s.heap.objs.size+1) b 0->d.IsListIter (s.heap.objs.size+2) c 0 ->
   (∀c o,s.heap.get? c=Y o->d.get? c=Y o)->Q (.ref (s.heap.objs.size+5)) { s with heap:=d }) :
  be (aU f w) A (J_ (.type "zip") [.ref a,.ref b,.ref c]) Q E s:=by
 refine callType_new PySem.F.called_zip (by decide) (Iz _ _ _) (Ks _ _ _) (λk=>VP k _ _ _) PySem.F.entry_zip_new (Fi a b c p n m) ⟨B,z,y,?_⟩;have j:(zA s.heap a).objs.size=s.heap.objs.size+1:=cV ..;have i:(zB s.heap a b).objs.size=s.heap.objs.size+2:=by rw[cV,j]
 have g:(zC s.heap a b c).objs.size=s.heap.objs.size+3:=by rw[cV,i]
 have e:(zT s.heap a b c).objs.size=s.heap.objs.size+4:=by rw[cV,g]
 have q:(zO s.heap a b c).objs.size=s.heap.objs.size+5:=by rw[cV,e]
 have l:(zZ s.heap a b c).get? (zO s.heap a b c).objs.size=Y _:=bx _ rfl;have r:(zZ s.heap a b c).get? (zT s.heap a b c).objs.size=Y _:=ai _ (bx _ rfl);have t:(zZ s.heap a b c).get? (zC s.heap a b c).objs.size=Y _:=ai _ (ai _ (bx _ rfl));have u:(zZ s.heap a b c).get? (zB s.heap a b).objs.size=Y _:=ai _ (ai _ (ai _ (bx _ rfl)));have v:(zZ s.heap a b c).get? (zA s.heap a).objs.size=Y _:=ai _ (ai _ (ai _ (ai _ (bx _ rfl))));have C:(zZ s.heap a b c).get? s.heap.objs.size=Y _:=ai _ (ai _ (ai _ (ai _ (ai _ (bx _ rfl)))));show _/\_;rw[g,e,q]at l;rw[e]at r;rw[g,j,i]at t;rw[i]at u;rw[j]at v;rw[q];exact⟨⟨_,l,rfl⟩,h _ l t r ⟨_,C,rfl,rfl⟩ ⟨_,v,rfl,rfl⟩ ⟨_,u,rfl,rfl⟩ λc o x=>ai _ (ai _ (ai _ (ai _ (ai _ (ai _ x)))))⟩
end
def T8(K : PySem.W.Frag)(a b c : az): It :=
  ⟨λi H => ∃g e d x y z,nT K H a g /\ nT K H b e /\ nT K H c d /\ g[i]? = Y x /\ e[i]? = Y y /\ d[i]? = Y z,
   λi H v h => ∃x y z p,(∀g,nT K H a g -> g[i]? = Y x) /\ (∀e,nT K H b e -> e[i]? = Y y) /\ (∀d,nT K H c d -> d[i]? = Y z) /\ H p = M /\ v = .ref p /\ h = dg H p (.tup [x,y,z]),
   λi H => ∃g e d,nT K H a g /\ nT K H b e /\ nT K H c d /\ (g.length <= i ∨ e.length <= i ∨ d.length <= i)⟩
def ZSt(z l k j g e a b c:az)(i:Nat)(h:cD):Prop:=∃d:Array ak,d.size=3/\IsZip h z l k .none/\TupAt h l #[.ref j,.ref g,.ref e]/\TupAt h k d/\h.IsListIter j a i/\h.IsListIter g b i/\h.IsListIter e c i
theorem q_{P:Nat->Prop}(c:P 0)(b:P 1)(a:P 2):∀j,j<3->P j
 |0,_=>c|1,_=>b|2,_=>a
theorem II{P:bt}{K:aT}{x1}(a b c z L C J G F:az)(Z:ZA z L C 3 (nK J G F) (nK a b c)):
  J5 P w K (.Tuple ZW x1 XZ) (T8 K a b c) [z,L,C,J,G,F] z (ZSt z L C J G F a b c) where
 mem:=by simp
 obj:=λi h st d hc=>by
  obtain⟨p,s0,s1,s2,s3,s4,s5,s6⟩:=st;simp only[aW,oY,or_false]at hc;rcases hc with rfl|rfl|rfl|rfl|rfl|rfl
  ·exact⟨_,s1,λv z=>by cases z⟩
  ·exact⟨_,s2,λv z=>by cases z⟩
  ·exact⟨_,s3,λv z=>by cases z⟩
  ·obtain⟨o,e,c,d⟩:=s4;exact⟨o,e,λv z=>by rw[d]at z;cases z⟩
  ·obtain⟨o,e,c,d⟩:=s5;exact⟨o,e,λv z=>by rw[d]at z;cases z⟩
  ·obtain⟨o,e,c,d⟩:=s6;exact⟨o,e,λv z=>by rw[d]at z;cases z⟩
 keep:=λi h h' st k=>by obtain⟨p,s0,s1,s2,s3,s4,s5,s6⟩:=st;exact⟨p,s0,k z (by simp) _ s1,k L (by simp) _ s2,k C (by simp) _ s3,s4.at λo q=>k J (by simp) o q,s5.at λo q=>k G (by simp) o q,s6.at λo q=>k F (by simp) o q⟩
 item:=by
  intro X hP hw hK hc i D s σ H E I hf st hg;subst hP hw hK;obtain⟨p,s0,s1,s2,s3,s4,s5,s6⟩:=st;obtain⟨xs,ys,zs,x,y,zz,SS,Xf,Xe,m,hy,hzz⟩:=hg;obtain⟨T,Yd,p1,hz1⟩:=I.list SS;obtain⟨S,Yc,p2,hz2⟩:=I.list Xf;obtain⟨R,Yb,p3,hz3⟩:=I.list Xe;obtain⟨u1,YM,ru1⟩:=Yd.get m;obtain⟨u2,VU,ru2⟩:=Yc.get hy;obtain⟨u3,YL,ru3⟩:=Yb.get hzz;have f:∀d∈[z,L,C,J,G,F],AJ X D H d:=hf;have N:ZN s.heap z L C 3 (nK J G F) (nK a b c) (nK T.toArray S.toArray R.toArray) (λ_=>i) .none p:=⟨s1,s2,s3,s0,q_ s4 s5 s6,q_ p1.isList p2.isList p3.isList⟩;refine wW (I.ok.hd hc) (by decide) (by decide) Z N (λh1 xx t N1 t1 z1 k1 =>?_) λhe =>?_
  ·have e1:xx 0=u1:=by have:=t 0 (by decide);simp[nK]at this;rw[YM]at this;cases this;rfl
   have e2:xx 1=u2:=by have:=t 1 (by decide);simp[nK]at this;rw[VU]at this;cases this;rfl
   have e3:xx 2=u3:=by have:=t 2 (by decide);simp[nK]at this;rw[YL]at this;cases this;rfl
   have t1:TupAt h1 s.heap.objs.size #[u1,u2,u3]:=by have:=t1;simpa [List.range_succ,e1,e2,e3] using this
   refine⟨_,rfl,?_⟩;refine wpAny_letOwnedTupleGo_zip (s:={ s with heap:=h1 }) N1.zz λh2 Zl w2 =>?_
   have hzp:z<s.heap.objs.size:=aJ s1;have hn:H s.heap.objs.size=none:=I.eW.fresh (aS _);have XW:fD z h1 h2:=w2;have N2:=N1.Ol Z Zl XW;have g:∀d o,d∉[z,L,C,J,G,F]->s.heap.get? d=Y o->h2.get? d=Y o:=λd o l q=>by
    have n1:d≠z:=λe=>l (by simp[e])
    have n2:d≠C:=λe=>l (by simp[e])
    exact(XW.2 d n1).trans (k1 d o n1 n2 (q_ (λe=>l (by simp[e,nK])) (λe=>l (by simp[e,nK])) (λe=>l (by simp[e,nK]))) q)
   have tup:h2.get? s.heap.objs.size=Y { cls :=.type "tuple",data :=.seq #[u1,u2,u3] }:=(XW.2 _ (fQ hzp)).trans t1;have O:∀d o,H d=Y o->d∉[z,L,C,J,G,F]:=λd o q l=>by have:=(f d l).1;rw[this]at q;cases q
   have new:fJ X.prog X.w (dg H s.heap.objs.size (.tup [x,y,zz])) h2 s.heap.objs.size (.tup [x,y,zz]):=
    ⟨by show 3<=bb;rw[il];decide,[u1,u2,u3],.cons ru1 (.cons ru2 (.cons ru3 .nil)),_,tup,rfl,_,rfl⟩
   have U:nU X.prog X.w (dg H s.heap.objs.size (.tup [x,y,zz])) h2:=λd o q=>by
    by_cases l:d=s.heap.objs.size
    ·subst l;rw[br]at q;cases q;exact new
    ·rw[aZ l]at q;refine(I.eW d o q).xq (λc v B r =>?_) (λc r=>by rw[aZ (bI r hn)];exact r) λc ys r=>by rw[aZ (bI r hn)];exact r
     rcases B with rfl|B
     ·exact g _ _ (O _ _ q) r
     ·exact g _ _ (O _ _ B) r
   have un:Un (yk X.stack) [z,L,C,J,G,F] H (dg H s.heap.objs.size (.tup [x,y,zz])) s.heap h2:=by
    have old:∀b o,s.heap.get? b=Y o->b≠s.heap.objs.size:=λb o q=>bH (aJ q)
    exact⟨λb o q n _ m=>g b o m q,λb o q n _ m=>⟨o.slots,g b o m q⟩,λb o q n m=>by rw[aZ (old b o q)];exact n,
     λb o q m=>⟨o,g b o m q⟩,λb ys q=>by rw[aZ (bI q hn)];exact q,λb o u q=>by rw[aZ (bI q hn)];exact q,λb ps q=>⟨#[],by rw[aZ (bI q hn)];simpa using q⟩⟩
   have I2:Inv X D σ (dg H s.heap.objs.size (.tup [x,y,zz])) { s with heap:=h2 }:=I.zQ (s':={ s with heap:=h2 }) rfl un U I.bare λb l=>⟨(f b l).2.2.2.1,(f b l).2.1,(f b l).2.2.2.2.1,(f b l).2.2.2.2.2⟩
   refine⟨.ref s.heap.objs.size,_,I2,rfl,⟨x,y,zz,s.heap.objs.size,λq hq=>by rw[I.se hq SS];exact m,λq hq=>by rw[I.se hq Xf];exact hy,λq hq=>by rw[I.se hq Xe];exact hzz,hn,rfl,rfl⟩,⟨_,N2.sz,N2.zz,N2.ti,N2.to,N2.iter 0 (by decide),N2.iter 1 (by decide),N2.iter 2 (by decide)⟩,λd hd =>?_⟩;have:d≠s.heap.objs.size:=by
    simp only[aW,oY,or_false]at hd;rcases hd with rfl|rfl|rfl|rfl|rfl|rfl
    ·exact bH hzp
    ·exact bH (aJ s2)
    ·exact bH (aJ s3)
    ·obtain⟨o,q,_⟩:=s4;exact bH (aJ q)
    ·obtain⟨o,q,_⟩:=s5;exact bH (aJ q)
    ·obtain⟨o,q,_⟩:=s6;exact bH (aJ q)
   rw[aZ this];exact(f d hd).1
  ·exfalso;obtain⟨j,hj,q⟩:=he
   match j,hj,q with
   |0,_,q=>simp[nK]at q;rw[sG.mpr q]at YM;cases YM|1,_,q=>simp[nK]at q;rw[sG.mpr q]at VU;cases VU|2,_,q=>simp[nK]at q;rw[sG.mpr q]at YL;cases YL
 done:=by
  intro X hP hw hK hc i D s σ H E I hf st hg;subst hP hw hK;obtain⟨p,s0,s1,s2,s3,s4,s5,s6⟩:=st;obtain⟨xs,ys,zs,SS,Xf,Xe,m⟩:=hg;obtain⟨T,Yd,p1,hz1⟩:=I.list SS;obtain⟨S,Yc,p2,hz2⟩:=I.list Xf;obtain⟨R,Yb,p3,hz3⟩:=I.list Xe;have l1:=Yd.length;have l2:=Yc.length;have l3:=Yb.length;have f:∀d∈[z,L,C,J,G,F],AJ X D H d:=hf;have N:ZN s.heap z L C 3 (nK J G F) (nK a b c) (nK T.toArray S.toArray R.toArray) (λ_=>i) .none p:=⟨s1,s2,s3,s0,q_ s4 s5 s6,q_ p1.isList p2.isList p3.isList⟩;refine wW (I.ok.hd hc) (by decide) (by decide) Z N (λh1 xx t =>?_) λ_ h' eb=>⟨rfl,?_⟩
  ·exfalso;have q1:=t 0 (by decide);have q2:=t 1 (by decide);have q3:=t 2 (by decide);simp[nK]at q1 q2 q3;have:=(au.mp q1).1;have:=(au.mp q2).1;have:=(au.mp q3).1;omega
  ·have O:∀b o,H b=Y o->b∉[z,L,C,J,G,F]:=λb o q l=>by have:=(f b l).1;rw[this]at q;cases q
   have g:∀d o,d∉[z,L,C,J,G,F]->s.heap.get? d=Y o->h'.get? d=Y o:=λd o l q=>eb d o (λe=>l (by simp[e])) (λe=>l (by simp[e])) (q_ (λe=>l (by simp[e,nK])) (λe=>l (by simp[e,nK])) (λe=>l (by simp[e,nK]))) q
   have U:nU X.prog X.w H h':=λb o q=>by
    refine(I.eW b o q).xq (λc v B r =>?_) (λc r=>r) λc ys r=>r
    rcases B with rfl|B
    ·exact g _ _ (O _ _ q) r
    ·exact g _ _ (O _ _ B) r
   have un:Un (yk X.stack) [z,L,C,J,G,F] H H s.heap h':=
    ⟨λb o q n _ m=>g b o m q,λb o q n _ m=>⟨o.slots,g b o m q⟩,λb o q n m=>n,λb o q m=>⟨o,g b o m q⟩,λb ys q=>q,λb o u q=>q,λb ps q=>⟨#[],by simpa using q⟩⟩
   exact I.zQ (s':={ s with heap:=h' }) rfl un U I.bare λb l=>⟨(f b l).2.2.2.1,(f b l).2.1,(f b l).2.2.2.2.1,(f b l).2.2.2.2.2⟩
 self:=λA i s Q E st h=>by obtain⟨p,s0,s1,_⟩:=st;exact wpAny_pyIter_zip s1 h
section
variable {X:Cx}{f:DF}
def SM(K:aT)(k:TA):TI:=λe H R=>k e H λj d=>∃a b c,j=[.ref a,.ref b,.ref c]/\(∃i,nT K d a i)/\(∃h,nT K d b h)/\(∃f,nT K d c f)/\R (T8 K a b c) d
theorem cg.three(r:cg [x,y,z] a):∃u v w,a=[u,v,w]/\RelV x u/\RelV y v/\RelV z w:=by
 cases r with
 | cons d t=>cases t with
  | cons c t=>cases t with
   |cons b t=>cases t;exact⟨_,_,_,rfl,d,c,b⟩
theorem OI{x1}(hg:Gl X "zip")(hm:X.mg "zip" = M)(ha:PA X [e,l,g] ta)(hs:ao [e,l,g] X.env=[(Z_,eval e X.env),(Z_,eval l X.env),(Z_,eval g X.env)]:=by rfl)(K:ao [l,g] X.env=[(Z_,eval l X.env),(Z_,eval g X.env)]:=by rfl)(hv:fA "zip" = Y (.type "zip"):=by decide +kernel):PI X (.Tuple L x1 t) (.Call (.Name "zip" p) [e,l,g] [] x) (SM X.K ta):=by
 intro D s σ H R I h;refine Call_ (qC I hg hm hv (gV (fE (ha x D s σ H _ I h) ?_) (by rw[hs,K]) (by rw[K];rfl)));rintro us f ⟨vs,H1,r,r1,q1⟩;obtain⟨a,b,c,rfl,⟨xs,P⟩,⟨ys,O⟩,⟨zs,N⟩,q⟩:=q1;obtain⟨u,v,w,rfl,ru,rv,n⟩:=cg.three r1;cases ru;cases rv;cases n;obtain⟨ab7,rx1,C,hz1⟩:=r.list P;obtain⟨ab6,rx2,B,hz2⟩:=r.list O;obtain⟨ab5,rx3,y,hz3⟩:=r.list N;obtain⟨oa,T,_⟩:=C.isList;obtain⟨ob,S,_⟩:=B.isList;obtain⟨oc,Q,_⟩:=y.isList;have J:=aJ T;have G:=aJ S;have F:=aJ Q;refine JT C.isList B.isList y.isList λh' z1 z2 z3 z4 z5 z6 k1 =>?_
 refine wpAny_pyIter_zip (s:={ f with heap:=h' }) z1 ?_;have i:∀k:Nat,H1 (f.heap.objs.size+k)=none:=λk=>r.eW.fresh (g_ _ _)
 have m:∀ {d:az}(k:Nat),d<f.heap.objs.size->d≠f.heap.objs.size+k:=fun {d} k h z=>by rw[z]at h;exact absurd h (Nat.not_lt.mpr (g_ _ _))
 have o:∀j k:Nat,j≠k->f.heap.objs.size+j≠f.heap.objs.size+k:=λj k h z=>h (Nat.add_left_cancel z)
 have Z:ZA (f.heap.objs.size+5) (f.heap.objs.size+3) (f.heap.objs.size+4) 3 (nK (f.heap.objs.size+0) (f.heap.objs.size+1) (f.heap.objs.size+2)) (nK a b c):=by
  refine⟨o 3 5 (by decide),o 4 5 (by decide),o 3 4 (by decide),q_ ⟨o 0 5 (by decide),o 0 3 (by decide),o 0 4 (by decide)⟩ ⟨o 1 5 (by decide),o 1 3 (by decide),o 1 4 (by decide)⟩ ⟨o 2 5 (by decide),o 2 3 (by decide),o 2 4 (by decide)⟩,λj k hj hk U =>?_,?_⟩
  ·have E:∀j,j<3->nK (f.heap.objs.size+0) (f.heap.objs.size+1) (f.heap.objs.size+2) j=f.heap.objs.size+j:=q_ rfl rfl rfl;rw[E j hj,E k hk];exact o j k U
  ·exact q_ ⟨m 5 J,m 4 J,q_ (m 0 J) (m 1 J) (m 2 J)⟩ ⟨m 5 G,m 4 G,q_ (m 0 G) (m 1 G) (m 2 G)⟩ ⟨m 5 F,m 4 F,q_ (m 0 F) (m 1 F) (m 2 F)⟩
 refine⟨f.heap.objs.size+5,[f.heap.objs.size+5,f.heap.objs.size+3,f.heap.objs.size+4,f.heap.objs.size+0,f.heap.objs.size+1,f.heap.objs.size+2],_,_,H1,rfl,r.kept (t':=f.toks) k1,
  II a b c (f.heap.objs.size+5) (f.heap.objs.size+3) (f.heap.objs.size+4) (f.heap.objs.size+0) (f.heap.objs.size+1) (f.heap.objs.size+2) Z,⟨_,rfl,z1,z2,z3,z4,z5,z6⟩,λd hd =>?_,q⟩
 simp only[aW,oY,or_false]at hd;rcases hd with rfl|rfl|rfl|rfl|rfl|rfl
 ·exact r.zq (g_ _ _) (i 5)
 ·exact r.zq (g_ _ _) (i 3)
 ·exact r.zq (g_ _ _) (i 4)
 ·exact r.zq (g_ _ _) (i 0)
 ·exact r.zq (g_ _ _) (i 1)
 ·exact r.zq (g_ _ _) (i 2)
def kL:List D->List D->List D->List D
 |x::c,y::b,z::a =>.tup [x,y,z]::kL c b a|_,_,_=>[]
theorem vR:∀(c b a:List D),(kL c b a).length=min c.length (min b.length a.length)
 |[],b,a=>by simp[kL]
 |x::c,[],a=>by simp[kL]
 |x::c,y::b,[]=>by simp[kL]
 |x::c,y::b,z::a=>by simp[kL,vR c b a]
theorem AO:∀ {c b a:List D}{i:Nat}{d:D},(kL c b a)[i]?=Y d->∃x y z,c[i]?=Y x/\b[i]?=Y y/\a[i]?=Y z/\d=.tup [x,y,z]
 |[],b,a,i,d,h=>by simp[kL]at h
 |x::c,[],a,i,d,h=>by simp[kL]at h
 |x::c,y::b,[],i,d,h=>by simp[kL]at h
 |x::c,y::b,z::a,0,d,h=>by simp[kL]at h;exact⟨x,y,z,rfl,rfl,rfl,h.symm⟩
 |x::c,y::b,z::a,i+1,d,h=>by simp only[kL,N6]at h ⊢;exact AO h
theorem Jt{K:aT}{f e:List V}(g:G a=Y (.lst f))(L:G b=Y (.lst h))(J:G c=Y (.lst e))(r:bz K G ds f)(U:bz K G es h)(o:bz K G fs e):EM K G (T8 K a b c) (kL ds es fs):=by
 have l1:=r.length;have l2:=U.length;have l3:=o.length;refine⟨λi H s I =>?_,λi H s I=>⟨f,h,e,.of (s _ _ g),.of (s _ _ L),.of (s _ _ J),by rw[vR]at I;omega⟩,λi H x H' G1 d v k ⟨y,T,j,p,P,O,N,X,ev,eh⟩ hd =>?_⟩
 ·rw[vR]at I;have P:i<f.length:=by omega
  have O:i<h.length:=by omega
  have N:i<e.length:=by omega
  exact⟨f,h,e,f[i],h[i],e[i],.of (s _ _ g),.of (s _ _ L),.of (s _ _ J),by simp[P],by simp[O],by simp[N]⟩
 ·obtain⟨c1,c2,c3,S,R,Q,rfl⟩:=AO hd;have F:=P f (.of (k _ _ (v _ _ g)));have E:=O h (.of (k _ _ (v _ _ L)));have C:=N e (.of (k _ _ (v _ _ J)));obtain⟨v1,u,B⟩:=r.get S;obtain⟨v2,t,z⟩:=U.get R;obtain⟨v3,q,w⟩:=o.get Q;rw[F]at u;cases u;rw[E]at t;cases t;rw[C]at q;cases q;subst ev eh;have m:=v.trans (.alloc (o :=.tup [y,T,j]) (k.free X));exact⟨dg G1 p (.tup [y,T,j]),f_.alloc k X,fg.mpr ⟨p,_,rfl,br,.cons (cO.mono m c1 B) (.cons (cO.mono m c2 z) (.cons (cO.mono m c3 w) .nil))⟩⟩
def Xc(f n A:DF):DL:=λa=>(iL f a).bind λd=>(iL n a).bind λc=>(iL A a).map λb=>kL d c b
theorem PH{O}{m:Pos}(hg:Gl X "zip")(hm:X.mg "zip" = M)(h:PE X e (tP X.K own f))(h':PE X l (tP X.K own n))(E:PE X g (tP X.K own A))(hs:ao [e,l,g] X.env=[(Z_,eval e X.env),(Z_,eval l X.env),(Z_,eval g X.env)]:=by rfl)(C:ao [l,g] X.env=[(Z_,eval l X.env),(Z_,eval g X.env)]:=by rfl)(D:ao [e,l,g] X.env=(Z_,eval e X.env)::ao [l,g] X.env:=by rfl)(B:ao [l,g] X.env=(Z_,eval l X.env)::ao [g] X.env:=by rfl)(z:ao [g] X.env=(Z_,eval g X.env)::ao [] X.env:=by rfl):
  PI X (.Tuple r O m) (.Call (.Name "zip" p) [e,l,g] [] y) (C7 X.K own (Xc f n A)):=(OI hg hm (jO h (jO h' (jO E uy z) B) D) hs C).imp <|by
 rintro σ H R ⟨G,u,ds,gh,F,j,k⟩;unfold Xc at j;obtain⟨N,ef,j⟩:=aa.1 j;rcases i:iL n u with _|V
 ·simp[i]at j
 rcases d:iL A u with _|L
 ·simp[i,d]at j
 simp only[i,d,ae,bP]at j;cases j;refine⟨G,u,[.lst N,.lst V,.lst L],gh,F,?_,λvs G1 H1 s r1 =>?_⟩
 ·simp only[aC,aN,vt ef,vt i,vt d,ae]
 ·obtain⟨v,t,rfl,rv,rt⟩:=bJ.mp r1;obtain⟨v',t',rfl,w,x⟩:=bJ.mp rt;obtain⟨T,U,rfl,o,q⟩:=bJ.mp x;have:=dE.mp q;subst this;obtain⟨a,S,rfl,K,ra⟩:=cW.mp rv;obtain⟨b,Q,rfl,J,rb⟩:=cW.mp w;obtain⟨c,P,rfl,I,rc⟩:=cW.mp o;exact⟨a,b,c,rfl,⟨S,.of (s.gh _ _ K)⟩,⟨Q,.of (s.gh _ _ J)⟩,⟨P,.of (s.gh _ _ I)⟩,k _ G1 H1 s (Jt K J I ra rb rc)⟩
end
structure TB(kd:SortKind)(a0:Array Keyed)(st:SortSt):Prop where
 pm:(de st).Perm a0
 kn:kindOf st=kd
 fl:UR st=none
 pd:oQ st=#[]
def kx(o:ak->Int)(a:Array Keyed)(i:Nat):Int:=((a[i]?).map λp=>o p.1).getD 0
def Up(o:ak->Int)(a:Array Keyed)(k:Nat):Prop:=∀i j,i<j->j<k->kx o a i<kx o a j
def Dn(o:ak->Int)(a:Array Keyed)(k:Nat):Prop:=∀i j,i<j->j<k->kx o a j<kx o a i
def Df(o:ak->Int)(a:Array Keyed):Prop:=(a.toList.map λp=>o p.1).Nodup
theorem Df.perm(h:Df o a)(p:b.Perm a):Df o b:=by
 have q:=(rJ.mp p).map λp=>o p.1
 exact q.nodup_iff.mpr h
theorem Df.ne(h:Df o a){i j:Nat}(d:i<a.size)(c:j<a.size)(b:i≠j):kx o a i≠kx o a j:=by
 intro e;have g:kx o a i=(a.toList.map λp=>o p.1)[i]'(by simpa using d):=by simp[kx,d]
 have f:kx o a j=(a.toList.map λp=>o p.1)[j]'(by simpa using c):=by simp[kx,c]
 rw[g,f]at e;rcases Nat.lt_or_gt_of_ne b with z|z
 ·exact(sF.mp h) i j _ _ z e
 ·exact(sF.mp h) j i _ _ z e.symm
section
variable {s:av}
theorem TB.size{a:SortSt}(h:TB kd a0 a):(de a).size=a0.size:=h.pm.size_eq
theorem TB.arr(h:TB kd a0 a)(p:b.Perm (de a)):TB kd a0 (setArr a b):=⟨p.trans h.pm,h.kn,h.fl,h.pd⟩
theorem TB.ne(h:TB kd a0 a)(d:Df o a0){i j:Nat}(e:i<a0.size)(c:j<a0.size)(b:i≠j):kx o (de a) i≠kx o (de a) j:=
 (d.perm h.pm).ne (by rw[h.size];exact e) (by rw[h.size];exact c) b
def UP(prog:bt)(w:cZ)(A:gD)(E:ak->av->Prop)(s:av)(a0:Array Keyed)(kd:SortKind)(o:ak->Int):Prop:=
 ∀(a:SortSt) (i j:Nat) (Q:Option Bool->SortSt->Prop),TB kd a0 a->i<a0.size->j<a0.size->i≠j->Q (Y (decide (kx o (de a) i<kx o (de a) j))) a->wpS (aU prog w) A E s (ltAt' i j) Q a
theorem Up.more{i:Nat}(u:Up o c i)(g:1<=i)(h:kx o c (i-1)<kx o c i):Up o c (i+1):=λa b d j=>by
 by_cases e:b=i
 ·subst e;by_cases f:a=b-1
  ·subst f;exact h
  ·exact vK (u a (b-1) (by omega) (by omega)) h
 ·exact u a b d (by omega)
theorem Dn.more{i:Nat}(u:Dn o c i)(g:1<=i)(h:kx o c i<kx o c (i-1)):Dn o c (i+1):=λa b d j=>by
 by_cases e:b=i
 ·subst e;by_cases f:a=b-1
  ·subst f;exact h
  ·exact vK h (u a (b-1) (by omega) (by omega))
 ·exact u a b d (by omega)
theorem GU{m:Nat}(C:UP prog w A E s a0 kd o)(d:Df o a0)(B:TB kd a0 b)(n:m<=a0.size)(p:1<=a)(j:a<=m)(u:Up o (de b) a)(h:∀i,a<=i->i<=m->Up o (de b) i->(i=m∨kx o (de b) i<kx o (de b) (i-1))->Q (M,i) b):wpS (aU prog w) A E s (ascLoop a m) Q b:=by
 unfold ascLoop;refine xm (I:=λi c t=>c=(M,i)/\t=b/\Up o (de b) i) (λi c t g l k =>?_) (λc t k =>?_) ⟨rfl,rfl,u⟩
 ·obtain⟨rfl,rfl,f⟩:=k;refine dk (C _ i (i-1) _ B (by omega) (by omega) (by omega) ?_);dsimp only;by_cases e:kx o (de t) i<kx o (de t) (i-1)
  ·rw[decide_eq_true e,if_pos rfl];exact gG (h i g (by omega) f (.inr e))
  ·rw[decide_eq_false e,if_neg (by decide)];have:=B.ne d (i:=i-1) (j:=i) (by omega) (by omega) (by omega);exact gG ⟨rfl,rfl,f.more (by omega) (by omega)⟩
 ·obtain⟨rfl,rfl,f⟩:=k;have:max a m=m:=by omega
  rw[this]at f ⊢;exact h m j (aS _) f (.inl rfl)
theorem IE{m:Nat}(C:UP prog w A E s a0 kd o)(d:Df o a0)(B:TB kd a0 b)(n:m<=a0.size)(p:1<=a)(j:a<=m)(u:Dn o (de b) a)(h:∀i,a<=i->i<=m->Dn o (de b) i->Q (M,i,0) b):wpS (aU prog w) A E s (descLoop a m) Q b:=by
 unfold descLoop;refine xm (I:=λi c t=>c=(M,i,0)/\t=b/\Dn o (de b) i) (λi c t g l k =>?_) (λc t k =>?_) ⟨rfl,rfl,u⟩
 ·obtain⟨rfl,rfl,f⟩:=k;refine dk (C _ i (i-1) _ B (by omega) (by omega) (by omega) ?_);dsimp only;by_cases e:kx o (de t) i<kx o (de t) (i-1)
  ·rw[decide_eq_true e,if_pos rfl,if_neg (by decide)];exact gG ⟨rfl,rfl,f.more (by omega) e⟩
  ·rw[decide_eq_false e,if_neg (by decide)];refine dk (C _ (i-1) i _ B (by omega) (by omega) (by omega) ?_);have:=B.ne d (i:=i-1) (j:=i) (by omega) (by omega) (by omega);dsimp only;rw[decide_eq_true (by omega:kx o (de t) (i-1)<kx o (de t) i),if_pos rfl];exact gG (h i g (by omega) f)
 ·obtain⟨rfl,rfl,f⟩:=k;have:max a m=m:=by omega
  rw[this]at f ⊢;exact h m j (aS _) f
theorem Fj(b:n<=a.size)(u:Dn o a n):Up o (mirror a 0 n ((n-0)/2)) n:=λi j e d=>by
 have g:∀k,k<n->kx o (mirror a 0 n ((n-0)/2)) k=kx o a (n-1-k):=λk c=>by unfold kx;rw[getElem?_mirror_all b k,if_pos ⟨eG _,c⟩,qQ]
 rw[g i (by omega),g j d];exact u _ _ (by omega) (by omega)
theorem RF{m:Nat}(C:UP prog w A E s a0 kd o)(d:Df o a0)(B:TB kd a0 c)(I:m=a0.size)(G:1<=m)(h:∀i t,TB kd a0 t->1<=i->i<=m->Up o (de t) i->Q (Y i) t):wpS (aU prog w) A E s (countRun' 0 m) Q c:=by
 rw[countRun0_eq];refine dk (GU C d B (by omega) (aS 1) G (λi j D J=>by omega) λi g f l q =>?_);dsimp only;by_cases e:i=m
 ·subst e;rw[if_pos (by simp)];exact gG (h i c B g f l)
 ·rw[if_neg (by simpa using e)];have q:kx o (de c) i<kx o (de c) (i-1):=by rcases q with z|z;exact absurd z e;exact z
  by_cases r:i > 1
  ·rw[if_pos r];refine dk (C _ _ _ _ B (by omega) (by omega) (by show 0≠i-1;omega) ?_);dsimp only;rw[decide_eq_true (l 0 (i-1) (by omega) (by omega)),if_pos rfl];exact gG (h i c B g f l)
  ·rw[if_neg r];have:i=1:=by omega
   subst this;unfold descPart;refine dk (wpS_lift (Ub ⟨rfl,?_⟩));refine dk (IE C d B (by omega) (by omega) (by omega) (Dn.more (i:=1) (λa b F K=>by omega) (aS 1) q) λj y p H =>?_);dsimp only;rw[if_neg (by decide)];unfold tail3;rw[reverseSlice'_eq];refine dk (wpS_modify ?_);have u:TB kd a0 (setArr c (mirror (de c) 0 j ((j-0)/2))):=B.arr (mirror_perm _ _ _ _);refine dk (GU C d u (by omega) (by omega) p (Fj (by rw[B.size];omega) H) λk x n v _ =>?_);exact gG (h k _ u (by omega) n v)
theorem Rf(f:k<a.size)(n:l<=k)(u:Up o a k)(e:∀i,i<l->kx o a i<kx o a k)(h:∀i,l<=i->i<k->kx o a k<kx o a i):Up o (bubble a k (k-l)) (k+1):=λi j b p=>by
 have g:∀q,kx o (bubble a k (k-l)) q=if q=l then kx o a k else if l<q/\q<=k then kx o a (q-1) else kx o a q:=λq=>by
  unfold kx;rw[getElem?_bubble f (k-l) (by omega) q,show k-(k-l)=l by omega];split
  ·rfl
  ·split<;>rfl
 rw[g i,g j];by_cases d:i=l
 ·rw[if_pos d,if_neg (by omega),if_pos (by omega)];exact h _ (by omega) (by omega)
 ·rw[if_neg d];by_cases c:j=l
  ·rw[if_pos c,if_neg (by omega)];exact e _ (by omega)
  ·rw[if_neg c];by_cases s:l<i
   ·rw[if_pos (by omega),if_pos (by omega)];exact u _ _ (by omega) (by omega)
   ·rw[if_neg (by omega)];by_cases r:l<j
    ·rw[if_pos (by omega)];by_cases m:i<j-1
     ·exact u _ _ m (by omega)
     ·omega
    ·rw[if_neg (by omega)];exact u _ _ b (by omega)
theorem Oz{m:Nat}(C:UP prog w A E s a0 kd o)(d:Df o a0)(B:TB kd a0 y)(T:n=a0.size)(K:1<=m)(U:m<=n)(u:Up o (de y) m)(h:∀t,TB kd a0 t->Up o (de t) n->Q Z' t):wpS (aU prog w) A E s (binarySort' 0 n m) Q y:=by
 rw[binarySort'_eq];simp only[qQ];have z:max m 1=m:=by omega
 rw[z];refine dk (wpS_mono (xm (I:=λk c t=>c=(M,())/\TB kd a0 t/\Up o (de t) k) (Q:=λc t=>c=(M,())/\TB kd a0 t/\Up o (de t) n) (λk c t V L D =>?_) (λc t D =>?_) ⟨rfl,B,u⟩) λc t J =>?_)
 ·obtain⟨rfl,g,a⟩:=D;refine dk (wpS_mono (xm (I:=λq c b=>b=t/\∃l r,c=(M,l,r)/\l<=r/\r<=k/\r-l<=k-q/\(∀i,i<l->kx o (de t) i<kx o (de t) k)/\(∀i,r<=i->i<k->kx o (de t) k<kx o (de t) i))
   (Q:=λc b=>b=t/\∃l,c=(M,l,l)/\l<=k/\(∀i,i<l->kx o (de t) i<kx o (de t) k)/\(∀i,l<=i->i<k->kx o (de t) k<kx o (de t) i)) (λq c b I H p =>?_) (λc b p =>?_) ⟨rfl,0,k,rfl,eG _,aS _,by omega,λi f=>by omega,λi f N=>by omega⟩) λc b p =>?_)
  ·obtain⟨rfl,l,r,rfl,G,v,R,j,f⟩:=p;dsimp only;by_cases e:l ≥ r
   ·rw[if_pos e];have:l=r:=by omega
    subst this;exact gG ⟨rfl,l,rfl,v,j,f⟩
   ·rw[if_neg e];refine dk (C _ _ _ _ g (by omega) (by omega) (by omega) ?_);dsimp only;by_cases x:kx o (de b) k<kx o (de b) ((l+r)/2)
    ·rw[decide_eq_true x,if_pos rfl];refine gG ⟨rfl,l,(l+r)/2,rfl,by omega,by omega,by omega,j,λi P O =>?_⟩;by_cases F:i=(l+r)/2
     ·subst F;exact x
     ·exact vK x (a _ _ (by omega) O)
    ·rw[decide_eq_false x,if_neg (by decide)];have S:=g.ne d (i:=k) (j:=(l+r)/2) (by omega) (by omega) (by omega);refine gG ⟨rfl,(l+r)/2+1,r,rfl,by omega,v,by omega,λi P =>?_,f⟩;by_cases F:i=(l+r)/2
     ·subst F;omega
     ·have:=a i ((l+r)/2) (by omega) (by omega);omega
  ·obtain⟨rfl,l,r,rfl,G,v,R,j,f⟩:=p;have:l=r:=by omega
   subst this;exact⟨rfl,l,rfl,v,j,f⟩
  ·obtain⟨rfl,l,rfl,lk,j,f⟩:=p;dsimp only;rw[moveDown'_eq];refine dk (wpS_modify (gG ⟨rfl,g.arr (bubble_perm _ _ _),?_⟩));exact Rf (by rw[g.size];omega) lk a j f
 ·obtain⟨rfl,g,a⟩:=D;have:max m n=n:=by omega
  rw[this]at a;exact⟨rfl,g,a⟩
 ·obtain⟨rfl,g,a⟩:=J;exact gG (h t g a)
theorem K5{st:SortSt}{Q:Unit->SortSt->Prop}(C:UP prog w A E s a0 kd o)(d:Df o a0)(B:TB kd a0 st)(P:2<=a0.size)(m:a0.size<64)(h:∀t,(de t).Perm a0->UR t=M->Up o (de t) a0.size->Q () t):wpS (aU prog w) A E s sortRuns' Q st:=by
 rw[sortRuns'_eq];refine dk (wpS_get ?_);dsimp only;have I:minRun' a0.size a0.size 0=a0.size:=by
  have:∀n,0<n->n<64->minRun' n n 0=n:=λn R N=>by
   cases n with|zero=>omega|succ f=>rw[minRun'_succ,if_pos N,Nat.add_zero]
  exact this _ (by omega) m
 rw[B.size,I];refine dk (wpS_mono (xm (I:=λx c t=>if x=0 then c=(M,0)/\TB kd a0 t else c=(M,a0.size)/\(de t).Perm a0/\UR t=M/\(oQ t).size=1/\Up o (de t) a0.size)
  (Q:=λc t=>c=(M,a0.size)/\(de t).Perm a0/\UR t=M/\(oQ t).size=1/\Up o (de t) a0.size) (λx c t K J g =>?_) (λc t g =>?_) (by simpa using B)) λc t S =>?_)
 ·by_cases e:x=0
  ·subst e;simp only[if_true]at g;obtain⟨rfl,O⟩:=g;dsimp only;rw[if_neg (by omega),Nat.sub_zero];have lS:∀a,TB kd a0 a->Up o (de a) a0.size->(de (setPending a ((oQ a).push (0,a0.size,0)))).Perm a0/\UR (setPending a ((oQ a).push (0,a0.size,0)))=M/\(oQ (setPending a ((oQ a).push (0,a0.size,0)))).size=1/\Up o (de (setPending a ((oQ a).push (0,a0.size,0)))) a0.size:=λa b u=>⟨b.pm,b.fl,by show ((oQ a).push _).size=1;rw[b.pd];rfl,u⟩
   refine dk (RF C d O rfl (by omega) λi D r k j v =>?_);dsimp only;by_cases F:i<a0.size
   ·rw[if_pos F];refine dk (wpS_lift (Ub ⟨rfl,?_⟩));rw[Qp];refine dk (Oz C d r rfl k j v λy G H =>?_);simp only[Bool.not_true,eD,if_false];refine dk (wpS_get ?_);rw[show (oQ y).back? = M by rw[G.pd];rfl];dsimp only;refine dk (wpS_modify (gG ?_));simp only[qQ];exact⟨by simp,lS y G H⟩
   ·rw[if_neg F];have:i=a0.size:=by omega
    subst this;refine dk (wpS_get ?_);rw[show (oQ D).back? = M by rw[r.pd];rfl];dsimp only;refine dk (wpS_modify (gG ?_));simp only[qQ];exact⟨by simp,lS D r v⟩
  ·simp only[if_neg e]at g;obtain⟨rfl,L⟩:=g;dsimp only;rw[if_pos (aS _)];exact gG ⟨rfl,L⟩
 ·have:max 0 a0.size≠0:=by omega
  rw[if_neg this]at g;exact g
 ·obtain⟨rfl,p,f,q,u⟩:=S;dsimp only;refine dk (wpS_mono (xm (I:=λ_ c a=>a=t/\c=(M,())) (Q:=λc a=>a=t/\c=(M,())) (λx c a _ _ l =>?_) (λ_ _ z=>z) ⟨rfl,rfl⟩) λc a l =>?_)
  ·obtain⟨rfl,rfl⟩:=l;refine dk (wpS_get ?_);rw[if_pos (by rw[q];exact aS 1)];exact gG ⟨rfl,rfl⟩
  ·obtain⟨rfl,rfl⟩:=l;exact gG (h a p f u)
end
def mW(h:cD)(v:ak)(n:Int):Prop:=∃a o b k t,v=.ref a/\h.get? a=Y o/\o.cls=.type "tuple" /\o.data=.seq b k/\b[0]?=Y (.int n t)
def oV(h:cD):ak->Int
 | .ref a=>match h.get? a with
  | some o=>match o.data with
   | .seq (b:Array ak) _=>match (b[0]? : Option ak) with
    |some (js n _)=>n|_=>0
   |_=>0
  |none=>0
 |_=>0
theorem mW.key{v:ak}(x:mW h v n):oV h v=n:=by
 obtain⟨a,o,b,k,t,rfl,e,f,d,c⟩:=x;simp only[oV,e,d,c]
theorem mW.keep{v:ak}(x:mW h v n)(k:∀a o,h.get? a=Y o->c.get? a=Y o):mW c v n:=by
 obtain⟨a,o,b,e,t,rfl,f,d⟩:=x;exact⟨a,o,b,e,t,rfl,k a o f,d⟩
theorem Jp(c:Bool)(x y:ak):keyLt' (tuples' c) x y=(do
  let b <- Ad x;let a <- Ad y
  for ((p,q),i) in (b.toList.zip a.toList).zipIdx do
   if !(<- eqBool p q) then return <- oneLt' (c&&i==0) p q
  return b.size<a.size):=rfl
theorem Gg(v:ak):Ql v=(do
  if (<- GL v) != .type "tuple" then return M
  return (<- Ad v)[0]?):=rfl
section
variable {s:av}
theorem Ms{m:Int}(q:mW s.heap x m)(p:mW s.heap y n)(g:m≠n)(h:Q (decide (m<n)) s):be (aU prog w) A (keyLt' (tuples' Z') x y) Q E s:=by
 obtain⟨a,o,d,k,t,rfl,v,J,u,r⟩:=q;obtain⟨b,H,c,I,l,rfl,D,K,C,B⟩:=p;rw[Jp];refine ah (UQ v u (ah (UQ D C ?_)));obtain⟨j,G⟩:∃j,d.toList=.int m t::j:=by
  have:d.toList[0]?=Y (.int m t):=by simpa using r
  cases e:d.toList with|nil=>rw[e]at this;cases this|cons z f=>rw[e]at this;simp at this;subst this;exact⟨f,rfl⟩
 obtain⟨i,F⟩:∃i,c.toList=.int n l::i:=by
  have:c.toList[0]?=Y (.int n l):=by simpa using B
  cases e:c.toList with|nil=>rw[e]at this;cases this|cons z f=>rw[e]at this;simp at this;subst this;exact⟨f,rfl⟩
 rw[G,F];simp only[cb,EY,List.forIn_cons];refine ah (ah (ah (wpAny_eqBool_int ?_)));have:(m==n)=false:=by simpa using g
 rw[this];simp only[Kf,if_true,Bool.true_and];refine ah (oneLt_int ?_);exact aF (aF (aF h))
theorem Gh{v:ak}(d:mW s.heap v n)(h:∀t,Q (Y (.int n t)) s):be (aU prog w) A (Ql v) Q E s:=by
 obtain⟨a,o,b,k,t,rfl,c,g,f,e⟩:=d;rw[Gg];refine ah (wpAny_typeOf (T:= "tuple") ⟨o,c,g⟩ ?_);rw[if_neg (by decide)];refine ah (UQ c f (aF ?_));rw[e];exact h t
theorem JC{s:av}{Q:List (Option ak)->av->Prop}(q:Paired (mW s.heap) b c)(h:∀a,Paired (λf n=>∃t,f=Y (js n t)) a c->Q a s):be (aU prog w) A (b.mapM Ql) Q E s:=by
 induction q generalizing Q with
 |nil=>rw[List.mapM_nil];exact aF (h [] .nil)|cons r t i=>rw[List.mapM_cons];exact ah (Gh r λd=>ah (i λa e=>aF (h _ (.cons ⟨d,rfl⟩ e))))
theorem KG{a:List (Option ak)}(q:Paired (λf n=>∃t,f=Y (js n t)) a c):(a.filterMap id).mapM GL=dR (c.map λ_=>bR "int")/\a.all (·.isSome)=true:=by
 induction q with
 |nil=>exact⟨by simp,rfl⟩
 |cons x r i=>obtain⟨g,d⟩:=i;obtain⟨t,rfl⟩:=x;refine⟨?_,by simp at d ⊢;exact d⟩;rw[qo];simp only[id,List.mapM_cons,g];show (dR (bR "int") >>= λb=>dR _ >>= λh=>dR (b::h))=_;simp
theorem Pa{Q:SortKind->av->Prop}(f:Paired (mW s.heap) c d)(k:c≠[])(h:Q (tuples' Z') s):be (aU prog w) A (keyKind' c.toArray) Q E s:=by
 rw[keyKind'_eq,List.mapM_toArray];refine ah ?_;show be _ _ (List.toArray <$> c.mapM Ql) _ _ _;rw[map_eq_pure_bind];refine ah (JC f λe j=>aF ?_);obtain⟨i,g⟩:=KG j;rw[if_pos (by simpa using g)];refine ah (Ub ?_);rw[oneTypeOnly'_eq];have m:(e.toArray.filterMap id).mapM GL=dR (d.map λ_=>bR "int").toArray:=by
  have:e.toArray.filterMap id=(e.filterMap id).toArray:=by simp
  rw[this,List.mapM_toArray,i];rfl
 rw[m];simp only[pure_bind];obtain⟨n,a,rfl⟩:∃n a,d=n::a:=by
  cases f with|nil=>exact absurd rfl k|cons r t=>exact⟨_,_,rfl⟩
 have l:(Kc (λ_=>bR "int") (n::a)).toArray[0]?=Y (bR "int"):=by simp
 rw[l];have b:((Kc (λ_=>bR "int") (n::a)).toArray.all λx=>x==bR "int")=true:=by simp only[List.all_toArray,nN,cA];intro _ _;rfl
 simp only[b,if_true,pure_bind];exact aF h
theorem Jd(h:p∈(rL a).toList):p.1=p.2/\p.1∈a:=by
 rw[pairsOf_toList]at h;exact mem_zip_self h
theorem qz(h:Paired (mW b) c d):∀v∈c,mW b v (oV b v):=by
 induction h with
 |nil=>intro v a;cases a
 |cons r t ih=>
  intro v a;rcases aW.mp a with rfl|a
  ·rw[r.key];exact r
  ·exact ih v a
theorem DZ(h:Paired (mW s.heap) a b):a.map (oV s.heap)=b:=by
 induction h with|nil=>rfl|cons r t ih=>rw[a_,r.key,ih]
theorem PU{f:List Int}(g:Paired (mW s.heap) a f)(o:f.Nodup):UP prog w A E s (rL a) (tuples' Z') (oV s.heap)/\Df (oV s.heap) (rL a):=by
 have l:Df (oV s.heap) (rL a):=by
  unfold Df;rw[pairsOf_toList];have:((a.zip a).map λp=>oV s.heap p.1)=a.map (oV s.heap):=by have:=congrArg (Kc (oV s.heap)) (List.map_fst_zip (l₁:=a) (l₂:=a) (aS _));rw[C4]at this;exact this
  rw[this,DZ g];exact o
 refine⟨λst i j Q B d k e h =>?_,l⟩;have c:∀i,i<(rL a).size->∃x p,(de st)[i]?=Y (x,p)/\mW s.heap x (kx (oV s.heap) (de st) i):=λi d=>by
  have b:i<(de st).size:=by rw[B.size];exact d
  have r:(de st)[i]∈(rL a).toList:=(rJ.mp B.pm).mem_iff.mp (by simp);refine⟨(de st)[i].1,(de st)[i].2,getElem?_pos _ i b,?_⟩;have:=qz g _ (Jd r).2;simpa [kx,b] using this
 obtain⟨x,p,u,n⟩:=c i d;obtain⟨y,q,t,m⟩:=c j k;rw[ltAt'_eq];refine dk (wpS_get ?_);show wpS _ _ _ _ (do let x <- elem' (de st) i;let y <- elem' (de st) j;lt' x y) Q st;rw[elem'_eq,elem'_eq,u,t];refine dk (gG (dk (gG ?_)));rw[lt'_eq];refine dk (wpS_get ?_);rw[B.kn];refine dk (wpS_lift (Fc (Ms n m (B.ne l d k e) ⟨rfl,?_⟩)));exact gG h
def CT(h:cD)(b:List ak)(a:Array ak):Prop:=a.toList.Perm b/\(a.toList.map (oV h)).Pairwise (· < ·)
theorem LM{xs:Array Keyed}(g:xs.Perm (rL a))(u:Up (oV s.heap) xs (rL a).size):CT s.heap a (xs.map (·.2)):=by
 have h:xs.toList.Perm (a.zip a):=by rw[<- pairsOf_toList];exact rJ.mp g
 have e:(xs.map (·.2)).toList=xs.toList.map (·.1):=by rw[Array.toList_map];exact Ab λp c=>((mem_zip_self (h.mem_iff.mp c)).1).symm
 refine⟨?_,?_⟩
 ·rw[e];have:=h.map (·.1);rwa [List.map_fst_zip (aS _)]at this
 ·rw[e,C4,sF];intro i j l k d;have f:i<xs.size:=by simpa using l
  have b:j<xs.size:=by simpa using k
  have:=u i j d (by rw[<- g.size_eq];exact b);simpa [kx,f,b] using this
end
section
variable {s:av}
theorem D0(f:Paired (mW h) b d)(k:∀a o,h.get? a=Y o->e.get? a=Y o):Paired (mW e) b d:=by
 induction f with|nil=>exact .nil|cons r t ih=>exact .cons (r.keep k) ih
theorem Jo{v:ak}(x:mW h v n)(k:∀a o,h.get? a=Y o->b.get? a=Y o):oV b v=oV h v:=by rw[x.key,(x.keep k).key]
theorem CT.back{f:cD}(i:Paired (mW h) d g)(k:∀a o,h.get? a=Y o->f.get? a=Y o)(o:CT f d b):CT h d b:=by
 refine⟨o.1,?_⟩;have e:b.toList.map (oV h)=b.toList.map (oV f):=Ab λv j=>by have:=qz i v (o.1.mem_iff.mp j);exact(Jo this k).symm
 rw[e];exact o.2
theorem K4{P:Fin->av->Prop}(K:s.heap.get? a=Y (Fd "list" g.toArray n))(F:Paired (mW s.heap) g I)(R:∀v∈g,v ≠ .ref a)(hn:I.Nodup)(V:g.length<64)(h:∀f,CT s.heap g f->P (.done (.ret .none)) { s with heap:=sortedHeap s.heap a g f }):be (aU c w) A (Builtin.«list.sort» ⟨[.ref a],[]⟩) P E s:=by
 rw[list_sort_plain];refine ah (UQ K rfl ?_);refine ah (listUpdate_at K rfl ?_);have T:=get?_update_seq K (λ_ =>#[]);refine ah (seqEpoch_at T rfl ?_);refine ah (wpAny_newTuple ?_);refine ah (wpAny_newList ?_);refine fm ?_;have y:=ai (Fd "list" #[] 0) (ai (Fd "tuple" g.toArray 0) T);generalize S:(((s.heap.update a (Obj.mapSeq λ_ =>#[])).push (Fd "tuple" g.toArray 0)).push (Fd "list" #[] 0))=l at y;have O:∀b o,b≠a->s.heap.get? b=Y o->l.get? b=Y o:=λb o L q=>by rw[<- S];refine ai _ (ai _ ?_);rw[bF _ _ (bG L)];exact q
 have x:Paired (mW l) g I:=by
  have:∀ {D:List ak}{J:List Int},Paired (mW s.heap) D J->(∀v∈D,v ≠ .ref a)->Paired (mW l) D J:=by
   intro D J G
   induction G with
   |nil=>intro _;exact .nil
   |cons r t ih=>intro Q;refine .cons ?_ (ih λv F=>Q v (aw _ F));obtain⟨b,o,m,k,N,rfl,H,p⟩:=r;exact⟨b,o,m,k,N,rfl,O b o (λz=>Q _ ay (by rw[z])) H,p⟩
  exact this F R
 have B:∀f,CT l g f->CT s.heap g f:=λf o=>by
  refine⟨o.1,?_⟩;have e:f.toList.map (oV s.heap)=f.toList.map (oV l):=Ab λv hm=>by
   have u:=o.1.mem_iff.mp hm;have U:=qz F v u;obtain⟨b,X,m,k,N,rfl,H,p⟩:=U;have L:b≠a:=λz=>R _ u (by rw[z])
   simp only[oV,H,O b X L H]
  rw[e];exact o.2
 show be (aU c w) A _ P E { s with heap:=l };dsimp only;have sz:g.toArray.size=g.length:=by simp
 have lS:∀f,CT l g f->P (.done (.ret .none)) { s with heap:=l.update a (Obj.mapSeq λ_=>f) }:=λf o=>by have:=h f (B f o);unfold sortedHeap at this;rw[S]at this;exact this
 by_cases p:g.toArray.size<2
 ·rw[if_pos p,if_pos p];refine ah (aF ?_);rw[StateT.run_pure];refine ah (aF ?_);dsimp only;refine ah (seqEpoch_at y rfl ?_);refine ah (listUpdate_at y rfl ?_ (hsz2:=by rw[Array.size_map];show (rL g).size<=_;rw[Fe,il];omega));simp only[bne_self_eq_false,eD,if_false];refine aF (lS _ (LM (s:={ s with heap:=l }) (xs:=rL g) (Array.Perm.refl _) λi j UC hj =>?_));rw[Fe]at hj;omega
 ·rw[if_neg p,if_neg p];refine ah (Pa (s:={ s with heap:=l }) x (λz=>p (by rw[z];decide)) ?_);obtain⟨C,d⟩:=PU (prog:=c) (w:=w) (A:=A) (E:=E) (s:={ s with heap:=l }) x hn;refine ah (dS (K5 (a0:=rL g) (kd:=tuples' Z') (st:=SortSt.mk' (tuples' Z') (g.toArray.zip g.toArray) #[] 7 M) (Q:=λ_ t=>(de t).Perm (rL g)/\UR t=M/\Up (oV l) (de t) (rL g).size) C d ⟨Array.Perm.refl _,rfl,rfl,rfl⟩ (by rw[Fe];omega) (by rw[Fe];exact V) λt a1 a2 a3=>⟨a1,a2,a3⟩) ?_ λ_ _ e=>e);rintro⟨⟨⟩,t⟩ s' ⟨rfl,G,hf,hu⟩;dsimp only;refine ah (seqEpoch_at y rfl ?_);refine ah (listUpdate_at y rfl ?_ (hsz2:=by refine bK (nM ((Array.size_map ..).trans (G.size_eq.trans (Fe _)))) ?_;rw[il];omega));rw[hf];simp only[bne_self_eq_false,eD,if_false];exact aF (lS _ (LM (s:={ s with heap:=l }) G hu))
theorem FG(F:s.heap.IsList l a.toArray)(m:Paired (mW s.heap) a x)(C:x.Nodup)(r:a.length<64)(h:∀d,CT s.heap a d->Q (.ref (s.heap.objs.size+1)) { s with heap:=sortedAll s.heap a d }):be (aU c w) A (J_ (.builtin "sorted") [.ref l]) Q E s:=by
 refine Calls.call_function_entry kind_sorted plain_sorted entry_sorted (args_sorted1 _) ?_;unfold Builtin.«sorted»;refine ah (m:=checkCount "sorted" 1 1 _) (aF ?_);refine ah (collect_list F ?_);refine ah (wpAny_newList ?_);generalize p:(s.heap.push (Fd "list" #[] 0)).update s.heap.objs.size (Obj.mapSeq (· ++ a.toArray))=g;have u:g.objs.size=s.heap.objs.size+1:=by rw[<- p,xW,size_push']
 have y:∀b o,s.heap.get? b=Y o->(g.push (Fd "list" a.toArray 0)).get? b=Y o:=λb o q=>by refine ai _ ?_;rw[<- p,bF _ _ (λz=>by have:=aJ q;rw[<- z]at this;exact eQ _ this)];exact ai _ q
 have f:(g.push (Fd "list" a.toArray 0)).get? (s.heap.objs.size+1)=Y (Fd "list" a.toArray 0):=by rw[<- u];exact bx _ rfl
 have j:=D0 m y;have n:∀v∈a,v ≠ .ref (s.heap.objs.size+1):=λv D z=>by
  obtain⟨b,o,i,k,t,rfl,G,_⟩:=qz m v D;have e:b=s.heap.objs.size+1:=by cases z;rfl
  have:=aJ G;rw[e]at this;exact absurd this (by simp)
 show be _ _ _ _ _ { s with heap:=g.push (Fd "list" a.toArray 0) };rw[u];refine ah (fm (wpAny_call_entry slot_list_sort ⟨_,f,rfl⟩ entry_list_sort (K4 (s:={ s with heap:=g.push (Fd "list" a.toArray 0) }) f j n C r λd B=>⟨_,rfl,?_⟩) (args_list_sort _)));refine aF ⟨_,rfl,?_⟩;have:=h d (B.back m y);unfold sortedAll at this;rw[p]at this;exact this
end
theorem DY{m:Type}{R:m->k->Prop}(p:o.Perm n):∀ {a:List m},Paired R a o->∃b,b.Perm a/\Paired R b n:=by
 induction p with
 |nil=>intro a h;cases h;exact⟨[],.rfl,.nil⟩
 |cons u _ ih=>
  intro a h;cases h with
  |cons r t=>obtain⟨b,e,d⟩:=ih t;exact⟨_::b,e.cons _,.cons r d⟩
 |swap u v l=>
  intro a h;cases h with
  | cons r t=>cases t with
   |cons w s=>exact⟨_,.swap _ _ _,.cons w (.cons r s)⟩
 |trans _ _ j f=>intro a h;obtain⟨b,e,d⟩:=j h;obtain⟨q,y,x⟩:=f d;exact⟨q,y.trans e,x⟩
theorem IX{K:aT}{s:List V}(p:s.Perm q):∀ {a:List D},bz K G a s->∃f,f.Perm a/\bz K G f q:=by
 induction p with
 | nil=>intro a h;cases a with
  |nil=>exact⟨[],.rfl,.nil⟩|cons d a=>obtain⟨_,_,e,_⟩:=bJ.mp h;cases e
 |cons u _ ih=>
  intro a h;cases a with
  |nil=>have:=dE.mp h;cases this
  |cons d a=>obtain⟨v,r,e,j,b⟩:=bJ.mp h;cases e;obtain⟨f,m,k⟩:=ih b;exact⟨d::f,m.cons _,.cons j k⟩
 |swap u v l=>
  intro a h;cases a with
  |nil=>have:=dE.mp h;cases this
  |cons d a=>
   obtain⟨_,_,e,j,b⟩:=bJ.mp h;cases e;cases a with
   |nil=>have:=dE.mp b;cases this
   |cons A a=>obtain⟨_,_,e,x,w⟩:=bJ.mp b;cases e;exact⟨A::d::a,.swap _ _ _,.cons x (.cons j w)⟩
 |trans _ _ o n=>intro a h;obtain⟨B,m,k⟩:=o h;obtain⟨t,z,y⟩:=n k;exact⟨t,z.trans m,y⟩
theorem DK{d:j->Int}:∀ {l m:List j},l.Perm m->(l.map d).Pairwise (· < ·)->(m.map d).Pairwise (· < ·)->l=m
 |[],m,p,_,_=>by rw[List.Perm.nil_eq p]
 |a::l,[],p,_,_=>by have:=p.length_eq;simp at this
 | a::l,b::m,p,h,f=>by
  simp only[a_,rG]at h f;have e:a=b:=by
   rcases aW.mp (p.subset (ay (a:=a) (l:=l))) with z|z
   ·exact z
   ·rcases aW.mp (p.symm.subset (ay (a:=b) (l:=m))) with y|y
    ·exact y.symm
    ·have n:=h.1 (d b) (US y);have k:=f.1 (d a) (US z);omega
  subst e;rw[DK (List.Perm.cons_inv p) h.2 f.2]
def Cd(a:D->Int)(d:D):List D->List D
 |[]=>[d]|x::b=>if a d<a x then d::x::b else x::Cd a d b
def FD(a:D->Int):List D->List D
 |[]=>[]|d::b=>Cd a d (FD a b)
theorem wo(a:D->Int)(d:D):∀l,(Cd a d l).Perm (d::l)
 |[] =>.rfl| x::b=>by
  unfold Cd;split
  ·exact .rfl
  ·exact((wo a d b).cons x).trans (.swap _ _ _)
theorem vU(a:D->Int):∀l,(FD a l).Perm l
 |[] =>.rfl|d::b=>(wo a d _).trans ((vU a b).cons d)
theorem Bk:∀ {l:List D},(l.map a).Pairwise (· < ·)->a d∉l.map a->((Cd a d l).map a).Pairwise (· < ·)
 |[],_,_=>by simp[Cd]
 | x::f,h,j=>by
  simp only[a_,rG,aW,not_or]at h j;unfold Cd;split
  ·rename_i b;simp only[a_,rG,aW];refine⟨?_,h⟩;rintro k (rfl|e)
   ·exact b
   ·exact vK b (h.1 k e)
  ·rename_i m;simp only[a_,rG];refine⟨λk e =>?_,Bk h.2 j.2⟩;have:k∈(d::f).map a:=((wo a d f).map a).subset e;rcases aW.mp this with z|z
   ·rw[z];omega
   ·exact h.1 k z
theorem AZ:∀ {l:List D},(l.map a).Nodup->((FD a l).map a).Pairwise (· < ·)
 |[],_ =>.nil|d::b,h=>by simp only[a_,ql]at h;exact Bk (AZ h.2) λz=>h.1 (((vU a b).map a).subset z)
noncomputable def QT:D->Int
 |.tup (.int n::_)=>n|_=>0
def VO:D->Bool
 |.tup (.int _::_)=>Z'|_=>Z_
section
variable {X:Cx}{f:DF}
def Rr(K:aT)(c:TE):TE:=λe H Q=>c e H λx d=>∃a b,x=.ref a/\nT K d a (b.map V.int)/\b.length<64/\∀l,d l=M->Q (.ref l) (dg d l (.lst ((xr b).map V.int)))
theorem LA(R:Gl X "sorted")(N:X.mg "sorted" = M)(O:PE X e c)(D:ao [e] X.env=(Z_,eval e X.env)::ao [] X.env:=by rfl)(y:fA "sorted" = Y (.builtin "sorted"):=by decide +kernel):PE X (.Call (.Name "sorted" p) [e] [] g) (Rr X.K c):=by
 intro f s F H Q I h;refine gm (qC I R N y ?_);refine oW ?_ D rfl;refine fE (cJ O gA D g f s F H (λr n=>match r with|[x]=>∃a d,x=.ref a/\nT X.K n a (d.map V.int)/\d.length<64/\∀l,n l=M->Q (.ref l) (dg n l (.lst ((xr d).map V.int)))|_=>False) I h) ?_;rintro us C ⟨r,n,B,K,v⟩;cases r with
 |nil=>exact v.elim|cons x t=>
  cases t with
  |cons _ _=>exact v.elim|nil=>
   obtain⟨a,d,rfl,i,A,q⟩:=v;obtain⟨u,rfl,J⟩:=cg.one K;cases J;obtain⟨m,G,L,hz⟩:=B.list i;have E:Fh m d:=vq G;refine sorted_ints L.isList E (by rw[Em E];exact A) λj w a1 U T =>?_
   have S:w=xr d:=Rz U T;subst S;obtain⟨k,P⟩:=sortedAll_at C.heap m j;refine⟨.ref _,_,B.laid (t':=C.toks) (λb o z=>sortedAll_old z) (iU _) (show fJ X.prog X.w _ _ _ (.lst ((xr d).map V.int)) from⟨?_,j.toList,k,BK a1,?_⟩),rfl,q _ (B.eW.fresh (iU _))⟩
   ·rw[ax,(rV _).length_eq];have e:bb ≥ 64:=by decide
    omega
   ·rw[Uq];exact P
def mi(f:DF):DL:=λb=>(f b).bind λd=>match d with|.lst e=>(Bi e).bind λa=>if a.length<64 then Y ((xr a).map D.int) else M|_=>M
theorem Wm(x:Gl X "sorted")(w:X.mg "sorted" = M)(h:PE X e (tQ X.K own f))(u:ao [e] X.env=(Z_,eval e X.env)::ao [] X.env:=by rfl):PE X (.Call (.Name "sorted" p) [e] [] g) (tF X.K own (mi f)):=
 (LA x w h u).imp <|by
  rintro D H Q ⟨G,q,I,z,n,b,k⟩;unfold mi at b;obtain⟨d,B,b⟩:=aa.1 b;split at b
  ·rename_i E;obtain⟨s,A,b⟩:=aa.1 b;split at b
   ·rename_i t;cases b;refine⟨G,q,_,z,n,B,λv C J j r =>?_⟩;obtain⟨a,F,rfl,y,o⟩:=r.lst j.gh;rw[zi A]at o;have:=vY.mp o;subst this;exact⟨a,s,rfl,.of y,t,λl m=>k l _ C _ (j.trans (f_.lay (p:=l) j.gh m)) (j.hh.free m) (j.gh.free m) br (bz.ints _)⟩
   ·cases b
  ·cases b
def Km(H:Hp)(v:V)(n:Int):Prop:=∃b a,v=.ref b/\H b=Y (.tup (.int n::a))
def Rq(K:aT)(c:TE):TE:=λj H Q=>c j H λx b=>∃a d f,x=.ref a/\nT K b a d/\Paired (Km b) d f/\f.Nodup/\d.length<64/\∀l e h,b l=M->e.Perm d->Paired (Km b) e h->h.Pairwise (· < ·)->Q (.ref l) (dg b l (.lst e))
theorem Mq{s:av}{a:List ak}(I:Inv X d j H s)(p:Paired (Km H) l h)(q:cg l a):Paired (mW s.heap) a h:=by
 induction p generalizing a with
 |nil=>cases q;exact .nil|cons g t i=>
  obtain⟨b,x,rfl,w⟩:=g;rcases q with _|⟨r,m⟩;cases r;obtain⟨y,a,n,o,q,v,k,u⟩:=I.eW b _ w;cases n with
  |cons p _=>obtain⟨l,rfl⟩:=p;exact .cons ⟨b,o,_,k,l,rfl,q,v,u,by simp⟩ (i m)
theorem O_{f:St}{s:av}(I:Inv X a f H s)(q:cg b d)(h:∀y∈b,∃n,Km H y n):Paired (Km H) b (d.map (oV s.heap)):=by
 induction q with
 |nil=>exact .nil|cons r k i=>
  obtain⟨n,e⟩:=h _ ay;have t:=Mq I (.cons e .nil) (.cons r .nil);cases t with
  |cons j _=>refine .cons ?_ (i λy l=>h y (aw _ l));rw[j.key];exact e
theorem Sv(h:Paired (Km H) b d):∀y∈b,∃n,Km H y n:=by
 induction h with
 |nil=>intro y a;cases a
 |cons r t ih=>
  intro y a;rcases aW.mp a with rfl|a
  ·exact⟨_,r⟩
  ·exact ih y a
theorem Lz(hg:Gl X "sorted")(hm:X.mg "sorted" = M)(hl:PE X e c)(i:ao [e] X.env=(Z_,eval e X.env)::ao [] X.env:=by rfl)(E:fA "sorted" = Y (.builtin "sorted"):=by decide +kernel):PE X (.Call (.Name "sorted" p) [e] [] g) (Rq X.K c):=by
 intro m s P H Q I h;refine gm (qC I hg hm E ?_);refine oW ?_ i rfl;refine fE (cJ hl gA i g m s P H (λv f=>match v with|[x]=>∃a j C,x=.ref a/\nT X.K f a j/\Paired (Km f) j C/\C.Nodup/\j.length<64/\∀l d L,f l=M->d.Perm j->Paired (Km f) d L->L.Pairwise (· < ·)->Q (.ref l) (dg f l (.lst d))|_=>False) I h) ?_;rintro us J ⟨v,f,r,S,A⟩;cases v with
 |nil=>exact A.elim|cons x t=>
  cases t with
  |cons _ _=>exact A.elim|nil=>
   obtain⟨a,j,C,rfl,hq,O,hn,G,q⟩:=A;obtain⟨u,rfl,R⟩:=cg.one S;cases R;obtain⟨D,w,T,hz⟩:=r.list hq;refine FG T.isList (Mq r O w) hn (by rw[<- w.length];exact G) λn N =>?_
   obtain⟨d,B,K⟩:=DY N.1.symm w;obtain⟨k,F⟩:=sortedAll_at J.heap D n;refine⟨.ref _,_,r.laid (t':=J.toks) (λb o z=>sortedAll_old z) (iU _) (show fJ X.prog X.w _ _ _ (.lst d) from⟨?_,n.toList,k,K,?_⟩),rfl,q _ d _ (r.eW.fresh (iU _)) B (O_ r K λy U=>Sv O y (B.subset U)) N.2⟩
   ·rw[B.length_eq];have e:bb ≥ 64:=by decide
    omega
   ·rw[Uq];exact F
def wt(f:DF):DL:=λρ=>(f ρ).bind λd=>match d with|.lst a=>if (a.all VO=Z'/\(a.map QT).Nodup)/\a.length<64 then Y (FD QT a) else M|_=>M
theorem Mu(h:VO d=Z'):∃b,d=.tup (.int (QT d)::b):=by
 cases d with
 |tup a=>
  cases a with
  |nil=>cases h|cons x a=>cases x<;>first|exact⟨a,rfl⟩|cases h
 |_=>cases h
theorem B8{K:aT}(s:bD G H):∀ {f:List D}{a:List V},f.all VO=Z'->bz K G f a->Paired (Km H) a (f.map QT)
 |[],a,_,r=>by rw[dE.mp r];exact .nil
 |d::f,a,h,r=>by obtain⟨v,t,rfl,l,o⟩:=bJ.mp r;simp only[mq,aV]at h;refine .cons ?_ (B8 s h.2 o);obtain⟨p,e⟩:=Mu h.1;rw[e]at l;obtain⟨b,q,rfl,m,n⟩:=fg.mp l;obtain⟨w,j,rfl,k,_⟩:=bJ.mp n;rw[bX.mp k]at m;exact⟨b,j,rfl,s _ _ m⟩
theorem O9{g h:List Int}(p:Paired (Km H) d g)(q:Paired (Km H) d h):g=h:=by
 induction p generalizing h with
 |nil=>cases q;rfl|cons r t i=>obtain⟨b,n,rfl,l⟩:=r;rcases q with _|⟨⟨o,j,m,a⟩,k⟩;cases m;rw[l]at a;cases a;rw[i k]
theorem Wl(hg:Gl X "sorted")(hm:X.mg "sorted" = M)(h:PE X e (tQ X.K own f))(hs:ao [e] X.env=(Z_,eval e X.env)::ao [] X.env:=by rfl):PE X (.Call (.Name "sorted" p) [e] [] g) (tF X.K own (wt f)):=
 (Lz hg hm h hs).imp <|by
  rintro σ H Q ⟨G,ρ,ds,gh,env,eq,k⟩;unfold wt at eq;obtain⟨d,ef,eq⟩:=aa.1 eq;split at eq
  ·rename_i xs;split at eq
   ·rename_i hz;cases eq;refine⟨G,ρ,_,gh,env,ef,λv G1 H1 E1 r1 =>?_⟩;obtain⟨a,vs,rfl,ha,rs⟩:=r1.lst E1.gh;refine⟨a,vs,_,rfl,.of ha,B8 E1.gh hz.1.1 rs,hz.1.2,by rw[<- rs.length];exact hz.2,λl ys ms hl p1 q1 q2 =>?_⟩;obtain⟨zs,p2,rz⟩:=IX p1.symm rs;have Y':zs.all VO=true:=by rw[cA];intro z hz';exact cA.mp hz.1.1 z (p2.subset hz')
    have e1:=O9 q1 (B8 E1.gh Y' rz);rw[e1]at q2;have e2:zs=FD QT xs:=DK (p2.trans (vU QT xs).symm) q2 (AZ hz.1.2);rw[e2]at rz;exact k l ys G1 _ (E1.trans (f_.lay (p:=l) E1.gh hl)) (E1.hh.free hl) (E1.gh.free hl) br rz
   ·cases eq
  ·cases eq
end
section
variable {X:Cx}
def dr(c m:aG)(F:List D->Option D)(f:DF)(g:DL):DF:=λa=>(f a).bind λx=>match x with
 |.ins d b h=>if d=c/\m∉b then (g a).bind λe=>F (.ins d b h::e) else M
 |_=>M
theorem Eb{m:aG}{F:List D->Option D}{e:St}(n:gU X.K aI c=Y (Y (.ref C)))(u:∀e H Q,BP X.K own g e H Q->t e H Q)(h:tP X.K own (dr c m F k g) e H Q):AU C m (iq X.K F) [] E0 (tP X.K own k) t e H Q:=by
 obtain⟨G,i,d,T,f,b,q⟩:=h;unfold dr at b;rw[aa]at b;obtain⟨x,p,b⟩:=b;split at b
 ·rename_i c' ks ds;split at b
  ·rename_i R;obtain⟨rfl,P⟩:=R;rcases o:g i with _|z
   ·rw[o]at b;cases b
   rw[o]at b;refine⟨G,i,_,T,f,p,λv y H1 j s =>?_⟩;obtain⟨a,C',dx,vs,rfl,w,S,l,rs⟩:=mr.mp s;rw[n]at w;cases w;refine⟨a,dx,_,rfl,j.gh _ _ S,kR (K:=X.K) (G:=y) P,u _ _ _ ⟨y,i,z,j.gh,f.ext j,o,λB G2 H2 r K =>?_⟩⟩;show iq X.K F (.ref a::(B++[])) H2 Q E0;rw[bU];exact⟨G2,_,d,r.gh,.cons (cO.mono r.gg _ s) K,b,λv G3 H3 E3 E=>q v G3 H3 ((j.trans r).trans E3) E⟩
  ·cases b
 ·cases b
theorem nS{c m:aG}{F:List D->Option D}(h:eC X.prog X.w X.K X.mg X.base c m k (iq X.K F))(g:eM k X.A)(i:PE X o (tP X.K own b)) (e:eval (.Call (.Attribute o m I) [] [] A) X.env=(do
   let a <- eval o X.env
   lO I.atName
   let (f,first) <- jw [a] (jr a m pl)
   mo A f first (cv A (ao [] X.env)) (f' A (cQ [] X.env))):=by rfl):PE X (.Call (.Attribute o m I) [] [] A) (tP X.K own (dr c m F b aN)):=by
 obtain⟨C,f,y,x,n,l,j,r,p⟩:=h.ex;exact(vg (pl:=pl) i l j r g p .nil oB e).imp λd H Q q=>Eb n (by rintro d H Q ⟨G,w,z,s,v,t,k⟩;cases t;exact k _ G H (.refl s) .nil) q
theorem Wn{c m:aG}{F:List D->Option D}{i:DF}{g:DL}(h:eC X.prog X.w X.K X.mg X.base c m k (iq X.K F))(l:eM k X.A)(p:PE X o (tP X.K own i))(v:PA X (e::J) (BP X.K own g))(a:ao (e::J) X.env=(Z_,eval e X.env)::ao J X.env:=by rfl)(b:(cv A (ao J X.env)).any (·.1)=false:=by rfl) (j:eval (.Call (.Attribute o m I) (e::J) [] A) X.env=(do
   let d <- eval o X.env
   lO I.atName
   let (f,first) <- jw [d] (jr d m pl)
   mo A f first (cv A (ao (e::J) X.env)) (f' A (cQ [] X.env))):=by rfl):PE X (.Call (.Attribute o m I) (e::J) [] A) (tP X.K own (dr c m F i g)):=by
 obtain⟨C,f,B,y,n,s,r,w,t⟩:=h.ex;exact(ya (pl:=pl) p s r w l t .nil oB v a b j).imp λx H Q q=>Eb n (λ_ _ _ z=>z) q
def Cp(c m:aG)(F:List D->Option (List D))(e:DF):DL:=λd=>(e d).bind λx=>match x with
 |.ins b a f=>if b=c/\m∉a then F [.ins b a f] else M
 |_=>M
theorem JL{m:aG}{F:List D->Option (List D)}{p:DF}(h:eC X.prog X.w X.K X.mg X.base c m k (Ki X.K F))(R:eM k X.A)(S:PE X o (tP X.K own p)) (P:eval (.Call (.Attribute o m I) [] [] A) X.env=(do
   let y <- eval o X.env
   lO I.atName
   let (f,first) <- jw [y] (jr y m pl)
   mo A f first (cv A (ao [] X.env)) (f' A (cQ [] X.env))):=by rfl):PE X (.Call (.Attribute o m I) [] [] A) (tF X.K own (Cp c m F p)):=by
 obtain⟨C,f,fd,ps,n,i,g,j,T⟩:=h.ex;refine(vg (pl:=pl) S i g j R T .nil oB P).imp ?_;rintro σ H Q ⟨G,t,d,gh,r,b,q⟩;unfold Cp at b;rw[aa]at b;obtain⟨x,s,b⟩:=b;split at b
 ·rename_i c' ks ds;split at b
  ·rename_i i;obtain⟨rfl,g⟩:=i;refine⟨G,t,_,gh,r,s,λv B H1 e w =>?_⟩;obtain⟨a,C',dx,vs,rfl,z,ha,l,rs⟩:=mr.mp w;rw[n]at z;cases z;refine⟨a,dx,_,rfl,e.gh _ _ ha,kR (K:=X.K) (G:=B) g,?_⟩;exact⟨B,_,d,e.gh,.cons w .nil,b,λu E G3 H3 E3 j h2 h3 K=>q u E G3 H3 (e.trans E3) (e.hh.free j) h2 h3 K⟩
  ·cases b
 ·cases b
def D4(a:Bool):D->D->Option D
 |y,.iW b c=>(B9 y).map λk =>.bl (if a then !(eJ b c k).isSome else (eJ b c k).isSome)
 |_,_=>M
theorem Mh{K:aT}(r:bz K G b c):(tj (a.zip c) k).isSome=(eJ a b k).isSome:=by
 rcases e:eJ a b k with _|d
 ·rw[uz r e];rfl
 obtain⟨v,f,_⟩:=qH r e;rw[f];rfl
theorem JH(n:X.A.units+1<rE)(s:PE X e (tQ X.K own L))(r:PE X o (tQ X.K own N))(t:gy .NotIn o=false:=by rfl):PT X (.Compare e [.NotIn] [o] A) (rg X.K own (dO (e2 (D4 Z') L N))):=
 (RL (Jc n s r) t).imp <|by
  rintro I H Q ⟨G,h,d,w,c,C,q⟩;obtain⟨x,y,B,z,b⟩:=Cs (rR C);cases y<;>simp only[D4]at b<;>try (cases b;done)
  rename_i R T;obtain⟨S,D,b⟩:=aq.1 b;simp only[bP,if_true]at b;cases b;refine⟨G,h,x,w,c,B,λv K H1 g k=>⟨K,h,_,g.gh,c.ext g,z,λu F E f j =>?_⟩⟩;obtain⟨a,P,rfl,p,l,i⟩:=j.Ts f.gh;have m:=vo D (k.ext f);subst m;exact⟨a,_,rfl,xS.k p,_,rfl,by rw[Mh i];exact q F E (g.trans f)⟩
def D5:D->D->Option D
 |.iW a b,y=>(B9 y).bind λk=>eJ a b k
 |_,_=>M
theorem PK(p:X.A.units+1<rE)(z:PE X o (tQ X.K own L))(t:PE X e (tQ X.K own N))(r:TZ e:=by exact λ_ _=>rfl):PE X (.Subscript o e A) (tP X.K own (e2 D5 L N)):=
 (OM p z t r).imp <|by
  rintro S H Q ⟨G,i,d,B,c,F,q⟩;obtain⟨x,y,D,C,b⟩:=Cs F;cases x<;>simp only[D5]at b<;>try (cases b;done)
  rename_i ks ds;obtain⟨kk,K,b⟩:=aa.1 b;refine⟨G,i,_,B,c,D,λv R H1 h m=>⟨R,i,y,h.gh,c.ext h,C,λu P I g k =>?_⟩⟩;obtain⟨a,T,rfl,s,l,j⟩:=(m.ext g).Ts g.gh;have n:=vo K k;subst n;obtain⟨w,E,f⟩:=qH j b;exact⟨a,w,rfl,by rw[<- E];exact xS.k s,q w P I (h.trans g) f⟩
def yJ(i j:Nat)(c m:aG)(s:Sk)(F:List D->Option (List D×D)):DG:=λa=>(xo j a).bind λd=>match d.1,d.2 with
 |.fs f _,.ins b e _=>if (f=c/\b=c)/\m∉e then (kT s j a).bind λt=>(F [t]).map λr =>.nx (((cS j a).set j (Y (.obj s r.2))).set i (Y (.lst r.1))) else M
 |_,_=>M
theorem M1{i:Nat}{c m:aG}{s:Sk}{F:List D->Option (List D×D)}(hN:X.N.Nodup)(hx:X.N[i]?=Y x)(hlx:Loc X.env.scope x)(h:eC X.prog X.w X.K X.mg X.base c m k (K3 X.K s F))(hr:eM k X.A)(ho:PE X (.Name y p) (iC j))(hj:j∈own:=by decide)(L:i∈own:=by decide)(UC:j≠i:=by decide)(Q:∀a,(i,a)∉B.3:=by intro a;simp_all)(hm2:Ae i∉own:=by decide) (ht:eval (.Call (.Attribute (.Name y p) m I) [] [] A) X.env=(do
   let ov <- eval (.Name y p) X.env
   lO I.atName
   let (f,first) <- jw [ov] (jr ov m pl)
   mo A f first (cv A (ao [] X.env)) (f' A (cQ [] X.env))):=by rfl) (hs:cp (.Call (.Attribute (.Name y p) m I) [] [] A) (Y (.Name x O)) U.line X.env=dR false:=by rfl) (hf:X.fn x=Z'∨X.env.scope.names.lookup x=Y .local:=by first|exact .inl rfl|exact .inr rfl|assumption) :
  PS X (.Assign [.Name x O] (.Call (.Attribute (.Name y p) m I) [] [] A) U) (ib X.K B u own own (yJ i j c m s F)):=by
 obtain⟨C,f,fd,ps,n,hc,hm,h1,g⟩:=h.ex;refine(ma hN hx hlx (vg (pl:=pl) ho hc hm h1 hr g .nil oB ht) hs hf).imp ?_;rintro D σ H ⟨G,ρ,o,S,t,q⟩;unfold yJ at t;rcases et:xo j ρ with _|⟨s0,t0⟩
 ·rw[et]at t;cases t
 rw[et]at t;simp only[ae]at t;split at t
 ·rename_i c' fk ZF ks ds;split at t
  ·rename_i hz;obtain⟨⟨rfl,rfl⟩,hmk⟩:=hz;rcases J:kT s j ρ with _|t1
   ·rw[J]at t;cases t
   rw[J]at t;simp only[ae]at t;rcases eF:F [t1] with _|⟨zs,t'⟩
   ·rw[eF]at t;cases t
   rw[eF]at t;cases t;have hd:=k_ et;have K:=lV J;rw[K]at hd;obtain⟨a,T,e1,ot,nd,nf,F1,W1,hF1⟩:=S.tree hj K;obtain⟨dx,vs,ex⟩:∃dx vs,H a=Y (.ins C dx (ks.zip vs)):=by
    cases hd;cases ot with|ins n' ex l tt=>rw[n]at n';cases n';exact⟨_,_,ex⟩
   refine⟨_,e1,a,dx,_,rfl,ex,kR (K:=X.K) (G:=G) hmk,?_⟩;refine⟨G,t1,[],zs,t',a,T,[],S.gh,rfl,ot,nd,λb g=>(nf b g).1,.nil,eF,λq' ws T' G' H' E nw ndw P gq fq nq hq rq =>?_⟩;have hu:=kM (r:=j) K (λq z=>by cases z);have W0:qg X.K B own G H σ (cS j ρ) F1:=⟨λi d L e=>W1.it i d L (bL e).1,λi d L e=>W1.ok i d L (bL e).1,λi j d c L hj ei ej=>W1.ap i j d c L hj (bL ei).1 (bL ej).1⟩;have R:=(S.IH (r:=j)).Gv (i:=j) (a:=a) (d' :=.obj s t') (F0:=T) (S':=T') (G':=G') (H':=H') W0 hj (λb g=>⟨by rw[hF1];exact g,_,hu⟩) E.gg E.gh (λb o e=>by
     rcases E.fr b o e with z|z
     ·exact .inl z
     ·by_cases g:b∈T
      ·exact .inr (.inr g)
      ·rw[cX g]at z;exact .inr (.inl z))
    (λb o g e=>E.hh b o (by rw[cX g];exact e)) nw ndw (λb g=>⟨(P b g).1,by rcases(P b g).2 with z|z;exact .inl z;exact .inr (.inl z)⟩) (λb h=>by have:=(S.pin j b h).2;rw[e1]at this;cases this;rfl) (λr p z=>by cases z)
    (λj' p _ _ _ e=>absurd rfl ((bL e).2 p))
   rw[gf e1]at R;obtain⟨Sr,Wr⟩:=R;have R2:=(Sr.Gv (i:=i) (a:=q') (d' :=.lst zs) (F0:=[]) (S':=[q']) (G':=G') (H':=H') Wr L (λb g=>by cases g) (bD.refl _) Sr.gh (λb o e =>.inl e) (λb o _ e=>e)
    ((nI.cell rfl).mpr ⟨⟨_,hq,ws,rfl,rq⟩,rfl⟩) (by simp) (λb g=>by
     simp at g;subst g;have hB:B.2 b=none:=by
      rcases fq with z|z
      ·exact(nf b z).2
      ·exact S.h0.free z
     refine⟨gq,.inr (.inr ⟨hB,λk cc hk ek Jz v =>?_⟩)⟩;by_cases w:k=j
     ·subst w;simp only[if_true]at v;exact nq v
     ·simp only[if_neg w]at v;rw[aj (bG w)]at ek;have ek':=(bL ek).1;rcases fq with z|z
      ·exact W1.ap j k _ cc hj hk K ek' (bG w) b (by rw[hF1];exact z) v
      ·obtain⟨y,f1,f2⟩:=W1.it k cc hk ek';obtain⟨o,ho⟩:=f2.here b v;rw[ho]at z;cases z) (λb h=>absurd h (Q b)) (λr p z=>by cases z)
    (λj' p h1 h2 _ e=>by obtain⟨_,g0,_⟩:=Sr.dN j' i p h1 h2 e;exact absurd g0 hm2)).1
   exact q _ G' H' R2
  ·cases t
 ·cases t
end
section
variable {X:Cx}{m:Pos}
end
section
variable {X:Cx}
def BV(b:Bool)(j:Nat)(c f:aG)(e:DM):DG:=λd=>(e d).bind λw=>(Hk b j w.2).bind λq=>(xo q.1 w.2).bind λa=>(xI c a.1 a.2 q.2).bind λz=>
 if El (cU z.1 f)=Z'/\z.2.1.length<999 then Y (.nx (w.2.set q.1 (Y (.obj a.1 (mC (.ins c (iT f w.1 z.2.1 z.2.2).1 (iT f w.1 z.2.1 z.2.2).2) q.2 a.2))))) else M
theorem M7{b:Bool}{c f:aG}{K:DM}(h:PE X (.Name x p) (iC j))(he:PE X e (tM X.K B own K))(J:rp X.K c f)(hj:j∈own:=by decide)(hb:b=Z'->Aw j∈own:=by decide)(ha:f∉CO:=by decide)(hs:cp e (Y (.Attribute (.Name x p) f u)) n.line X.env=dR false:=by rfl):PS X (.Assign [.Attribute (.Name x p) f u] e n) (ib X.K B y own own (BV b j c f K)):=(BZ h he hs).imp <|by
 rintro D σ H ⟨G,E,o,S,i,k⟩;unfold BV at i;obtain⟨⟨d,F⟩,ef,i⟩:=aa.1 i;rcases q:Hk b j F with _|⟨r,T⟩
 ·simp[q]at i
 rcases z:xo r F with _|⟨s,t⟩
 ·simp[q,z]at i
 rcases I:xI c s t T with _|⟨fk,ks,ds⟩
 ·simp[q,z,I]at i
 simp only[q,z,I,ae]at i;split at i
 ·rename_i hz;cases i;obtain⟨i1,U⟩:=wm I;refine⟨G,E,d,F,S,ef,λv G' H' P s' R =>?_⟩;obtain⟨hr,s1,t',a,v',O,e2,e3,e4⟩:=P.Hk q hj hb;have w:=k_ z;rw[w]at O;cases O;obtain⟨a',Q,C,dx,vs,N,g,L,f4,f5,f6⟩:=P.Tc (f:=f) (d:=d) hr w i1 U hz.1 ha R;rw[e2]at N;cases N;rw[e4]at g;cases g;refine⟨_,e3,Q,C,dx,_,rfl,f4,(J C L).1,(J C L).2,?_,k _ G' _ f6⟩;rw[uW f5];omega
 ·cases i
end
section
variable {X:Cx}{m:List Nat}
def sU(F:List D->Option (D×List D))(g:DL)(h:DL):DF:=λb=>(g b).bind λc=>(h b).bind λd=>(F (.lst c::d)).map λq=>q.1
theorem UI{F:List D->Option (D×List D)}(ho:ml X.prog X.w X.K X.mg X.base x k (BQ X.K 0 F))(hr:eM k X.A)(hg:Gl X x)(hl:PE X b (tF X.K m g))(ha:PA X a (BP X.K m h))(J:(x==("__debug__" : aG))=false:=by decide)(S:ao (b::a) X.env=(Z_,eval b X.env)::ao a X.env:=by rfl)(I:(cv n (ao a X.env)).any (·.1)=false:=by rfl):PE X (.Call (.Name x p) (b::a) [] n) (tP X.K m (sU F g h)):=by
 obtain⟨f,fd,ps,h1,hm,hk,r⟩:=ho.ex;refine(vh h1 hr hg hm hk r .nil oB (cJ hl ha S) J S I).imp ?_;rintro σ H Q ⟨G,A,d,gh,u,j,q⟩;unfold sU at j;obtain⟨s,K,j⟩:=aa.1 j;obtain⟨V,L,j⟩:=aa.1 j;obtain⟨⟨d',E⟩,eF,j⟩:=aq.1 j;cases j;refine⟨G,A,s,gh,u,K,λl U G1 H1 O R gn t rl=>⟨G1,A,V,O.gh,u.ext O,L,λus N H2 w P =>?_⟩⟩;show BQ X.K 0 F ((.ref l::us)++[]) H2 Q E0;rw[bU];have g2:N l=none:=by
  rcases z:N l with _|o
  ·rfl
  rcases w.fr l o z with y|y
  ·rw[gn]at y;cases y
  ·rw[t]at y;cases y
 refine⟨N,.lst s::V,d',E,l,U,s,w.gh,rfl,rfl,w.hh _ _ t,bz.mono w.gg s rl,g2,λi c hi ec =>?_,by simp[P.length],eF,λv T G3 H3 C g3 h3 r4 r5 =>?_⟩
 ·cases i with
  |zero=>exact absurd rfl hi|succ i=>exact P.get (i:=i) (by simpa using ec)
 ·have B:=O.trans w;refine q v G3 H3 ⟨λb o e=>C.hh b o ?_,B.gg.trans C.gg,C.gh,λb o e =>?_⟩ r5
  ·have r:b≠l:=λz=>by rw[z,R]at e;cases e
   rw[uv r];exact B.hh b o e
  ·rcases C.fr b o e with z|z
   ·exact B.fr b o z
   ·by_cases r:b=l
    ·subst r;exact .inr R
    ·rw[uv r]at z;refine .inr ?_;rcases qq:H b with _|o'
     ·rfl
     rw[B.hh b o' qq]at z;cases z
end
theorem sC.mono{P:bt}{K:aT}{d:Sp}(h:sC P w K e b c j d)(i:j<=k):sC P w K e b c k d:=by
 obtain⟨C,f,s,g,r,q,p,o,l⟩:=h.ex;exact⟨C,f,s,g,r,q,p,o.mono i,l⟩
def WN(h:cD)(e:az)(b:ak)(l:Option az)(j f:ak)(T:az):Prop:=
 ∃g a d c,h.get? e=Y g/\g.cls=b/\g.dict=l/\g.data=.fields a/\a[0]?=Y j/\a[1]?=Y (.ref T)/\T≠e/\h.get? T=Y d/\d.data=.fields c/\c[3]?=Y f
structure Nz(fs:List az)(e:az)(h h':cD):Prop where
 keep:∀b o,b≠e->b∉fs->h.get? b=some o->h'.get? b=some o
 slot:∀b o,b≠e->b∈fs->h.get? b=some o->∃sl,h'.get? b=some { o with slots:=sl }
theorem Obj.su(o:Obj)(f:Array ak->Array ak):(Obj.mapFields f o).dict=o.dict:=by
 obtain⟨c,d,b,s⟩:=o;cases b<;>rfl
section
variable {V:Uh}{s:av}
theorem Dk(O:A.frames=Y (i::k))(X:s.heap.FunFrames base (i::k))(hf:i.frame=Y L)(P:s.heap.get? e=Y g)(I:g.data=.fields a)(h1:a[1]?=Y .none)(h0:a[0]?=Y j)(h:∀S T,Nz (yk (i::k)) e s.heap S->WN S e g.cls g.dict j .none T->T=s.heap.objs.size->Q () { s with heap:=S }):be V A (leaving i (.ref e)) Q E s:=by
 have F:e∉yk (i::k):=λhm=>by obtain⟨_,o,U,N⟩:=X.mem hm;rw[P]at U;cases U;exact N a I
 have D:1<a.size:=(kY.mp h1).1;unfold leaving;refine ah ?_;unfold NI;rw[hf];refine ah (jv P I h1 ?_);rw[if_neg (by decide)];refine ah (wpAny_frameOf_fun O X hf λc d =>?_);refine ah (wpAny_entryPlaceOf λw K =>?_);refine ah ?_;unfold EntryCells.newEntry;refine J7 ?_ (IsPlace.sizeOk5 K _ _ _ _ _);have t:c.get? e=Y g:=(d.2.1 e F).trans P;have r:=ai { cls:=bR "traceback",data:=fM ([aM,aE L,aM,lK ↑L,aM]++if w.isEmpty=Z' then bo 6 aM else w).toArray } t;refine pH r I D ?_;have B:c.objs.size≠e:=fQ (aJ t);have l:=Obj.data_mapFields I λx=>x.setIfInBounds 1 (aE c.objs.size)
 have p:=cR (Obj.mapFields λx=>x.setIfInBounds 1 (aE c.objs.size)) r (Obj.isFreed_of_fields l);have v:=(bF (c.push { cls:=bR "traceback",data:=fM ([aM,aE L,aM,lK ↑L,aM]++if w.isEmpty=Z' then bo 6 aM else w).toArray }) (Obj.mapFields λx=>x.setIfInBounds 1 (aE c.objs.size)) (bG B)).trans (bx c rfl);have g1:(a.setIfInBounds 1 (aE c.objs.size))[1]?=Y (aE c.objs.size):=by simp[D]
 have g0:(a.setIfInBounds 1 (aE c.objs.size))[0]?=Y j:=by rw[oO (by decide)];exact h0
 unfold xU;refine ah (jv p l g1 ?_);rw[if_pos (by simp)];have C:3<([aM,aE L,aM,lK ↑L,aM]++if w.isEmpty=Z' then bo 6 aM else w).toArray.size:=by simp
 refine pH v rfl C ?_;have n:s.heap.get? c.objs.size=none:=by
  rw[d.1];rcases q:s.heap.get? s.heap.objs.size with _|o
  ·rfl
  exact absurd (aJ q) (eQ _)
 have m:∀b o,b≠e->b≠c.objs.size->c.get? b=Y o->((Heap.update (c.push { cls:=bR "traceback",data:=fM ([aM,aE L,aM,lK ↑L,aM]++if w.isEmpty=Z' then bo 6 aM else w).toArray }) e (Obj.mapFields λx=>x.setIfInBounds 1 (aE c.objs.size))).update c.objs.size (Obj.mapFields λx=>x.setIfInBounds 3 (Fg M aM λf=>lK ↑f))).get? b=Y o:=λb o u R y=>by rw[bF _ _ (bG R),bF _ _ (bG u)];exact ai _ y
 refine h _ c.objs.size ⟨λb o u H y =>?_,λb o u H y =>?_⟩ ?_ d.1
 ·refine m b o u ?_ ((d.2.1 b H).trans y);intro z;rw[z,n]at y;cases y
 ·obtain⟨sl,J⟩:=d.2.2 b o y;refine⟨sl,m b _ u ?_ J⟩;intro z;rw[z,n]at y;cases y
 ·have G:=Obj.data_mapFields (o:={ cls:=bR "traceback",data:=fM ([aM,aE L,aM,lK ↑L,aM]++if w.isEmpty=Z' then bo 6 aM else w).toArray }) rfl λx=>x.setIfInBounds 3 (Fg M aM λf=>lK ↑f)
  refine⟨_,_,_,_,(bF _ _ B).trans p,Obj.cls_mapFields _ _,Obj.su _ _,l,g0,g1,B,cR _ v (Obj.isFreed_of_fields G),G,?_⟩;simp
end
section
variable {m:aG}{v:List ak}
abbrev pD(h:cD)(C:az)(d:List ak):cD:=(h.push { cls:=bR "tuple",data:=Data.seq d.toArray }).push { cls:=aE C,data:=fM #[aE h.objs.size,aM,aM,aM,oM Z_,aM] }
theorem IB(Fn:tK k l z o)(Zd:i.contains (bR k)=Z')(F:tK B U b i)(T:OwnTail h i j){R:List ak}{f:az}(hC:h.get? C=Y (N3 m q C N n j p u v x y G H I J L O l))(hn:h.Ns N mN)(hni:mN (af "__init__")=Y (.ref f))(VX:R.length<=bb)(hf:∀(s:av) (P:ak->av->Prop),s.heap=pD h C R->P (.type "function") s->be (aU a w) A (GL (.ref f)) P E s)(hq:be (aU a w) A (J_ (.ref f) (.ref (h.objs.size+1)::R)) (λr s'=>r=.none/\Q (Fin.done (Flow.ret (aE (h.objs.size+1)))) s') E { heap:=pD h C R,gens:=g,drawn:=d,toks:=t,os:=c }):
  be (aU a w) A (Builtin.«type.__call__» { pos:=aE C::R }) Q E { heap:=h,gens:=g,drawn:=d,toks:=t,os:=c }:=by
 unfold Builtin.«type.__call__»;refine gY rfl ?_;refine ah ?_;refine ah (M:=aU a w) ?_;refine ah (M:=aU a w) ?_;refine wpAny_load' hC ?_;refine aF (aF ?_);refine gY rfl ?_;refine ah (wpAny_madeBy_exc hC ?_);refine ah (aF ?_);refine ah (fm (qO (codeAny_call_builtin_code (Code.quiet_builtin { pos:=aE C::R } Fn.quiet) (wpAny_check_new_subU Fn Zd T hC (codeAny_exc_new_subU Fn Zd F T hC ?_ VX)))));have S:=ai { cls:=aE C,data:=fM #[aE h.objs.size,aM,aM,aM,oM Z_,aM] } (ai { cls:=bR "tuple",data:=Data.seq R.toArray } hC);have hn₁:(pD h C R).Ns N mN:=by obtain⟨D,es,ep,e,r⟩:=hn;exact⟨D,es,ep,ai _ (ai _ e),r⟩
 have X:(pD h C R).get? (h.objs.size+1)=Y { cls:=aE C,data:=fM #[aE h.objs.size,aM,aM,aM,oM Z_,aM] }:=Heap.get?_push_at (by simp[cV]) rfl;have T₁:OwnTail (pD h C R) i j:=T.keeps λK D e=>ai _ (ai _ e)
 have hcC:(aE C::j).contains (aE C)=true:=by simp
 show be (aU a w) A (Ue (.ref (h.objs.size+1)) (.ref C) >>= _) Q E { heap:=pD h C R,gens:=g,drawn:=d,toks:=t,os:=c };refine ah ?_;refine ah (M:=aU a w) ?_;refine ah (M:=aU a w) ?_;refine ju X ?_;refine aF ?_;refine wpAny_isSubtype_exc S ?_;rw[hcC];refine gY rfl ?_;refine ah (fm ?_);unfold callSpecial?;refine ah ?_;unfold specialOf;refine ah (M:=aU a w) ?_;refine ah (M:=aU a w) ?_;refine ju X ?_;refine aF ?_;refine wpAny_typeLookup_tail S hn₁ T₁ F.mroIs F.init.lookup ?_;rw[hni];refine fm ?_;refine ah ?_;unfold bindSpecial;refine ah (hf _ _ rfl ?_);rw[if_pos (by decide)];refine aF ?_;refine ah ?_;refine dS hq (λr s' hr =>?_) (λ_ _ V=>V);obtain⟨rfl,hr⟩:=hr;refine aF ?_;refine gY rfl ?_;exact aF hr
theorem Dl(Fn:tK k l z o)(S:i.contains (bR k)=Z')(F:tK B U b i)(T:OwnTail h i j){X:aG->Option ak}{D:List ak}{f:az}(V:h.get? C=Y (N3 m q C N n j p u v x y G H I J L O l))(hn:h.Ns N X)(R:X (af "__init__")=Y (.ref f))(K:D.length<=bb)(hf:∀(A:gD) (E:ak->av->Prop) (s:av) (P:ak->av->Prop),s.heap=pD h C D->P (.type "function") s->be (aU a w) A (GL (.ref f)) P E s)(hq:be (aU a w) (A.under (.builtin "type.__call__" ⟨.ref C::D,[]⟩)) (J_ (.ref f) (.ref (h.objs.size+1)::D)) (λr s'=>r=.none/\Q (aE (h.objs.size+1)) s') E { heap:=pD h C D,gens:=g,drawn:=d,toks:=t,os:=c }):
  be (aU a w) A (J_ (.ref C) D) Q E { heap:=h,gens:=g,drawn:=d,toks:=t,os:=c }:=by
 have hT:({ heap:=h,gens:=g,drawn:=d,toks:=t,os:=c }:av).TypeIs (aE C) "type" :=⟨_,V,rfl⟩;refine qO (codeAny_of_tree ?_);refine ah (M:=aU a w) (wpAny_load' V ?_);refine ah (M:=aU a w) (wpAny_specialOf hT tc_lookup ?_);refine ah (M:=aU a w) (wpAny_of_eq (tc_bind (aE C)) ?_);refine ah (M:=aU a w) ?_;refine aF (Uc rfl (aF ⟨rfl,?_⟩));refine codeAny_call_builtin_at (args:=⟨aE C::D,[]⟩) (Code.quiet_builtin _ (by decide +kernel)) entry_typeCall (wpAny_check_type_call_sub V ?_);exact IB Fn S F T V hn R K (λs P e q=>hf _ _ s P e q) hq
end
end L2
namespace L2
open PySem PySem.Spec PyProof.Rows PySem.W
section
variable {s:av}{K:aT}{name:aG}
structure UL(K:aT)(C:az):Prop where
 ga:hR K (.ref C) "__getattribute__" = some (some (.builtin "BaseException.__getattribute__"))
 gt:hR K (.ref C) "__getattr__" = some none
 mb:mroIn K C (.type "BaseException")=some true
theorem Kv{m:Bool}(X:K.In s.heap)(I:InstAt s.heap x c C b)(g:UL K C) (h:∀R:NL->av->Prop,(∀v j,be (aU a w) A (handedOut v) Q E j->R (.ok (.ret v)) j)->be (aU a w) A.in1 (Builtin.«object.__getattribute__» ⟨[.ref x,.str name i],[]⟩)
   (λlS j=>match lS with|.done f=>R (.ok f) j|.again F=>F.quiet=Z'/\nW (aU a w) A F R j) (λe j=>R (.error e) j) s) :
  be (aU a w) A (getAttrBy (.ref x) (.str name i) m k) Q E s:=by
 obtain⟨y,D,d,t,B⟩:=s;have G:=I.type (M:=aU a w);have N:=looks_findIn (M:=aU a w) X g.ga;have L:=looks_findIn (M:=aU a w) X g.gt;have J:=PySem.F.attr_ValueError.ga.bind (.ref x);have u:(k&&onTheHeap (wR "BaseException.__getattribute__"))=false:=by cases k<;>rfl
 have p:(wR "BaseException.__getattribute__" == wR "object.__getattribute__")=false:=by decide +kernel
 have q:(onTheHeap (aE C)&&wR "BaseException.__getattribute__" == wR "object.__getattribute__")=false:=by rw[p];rfl
 have H:builtinKind "BaseException.__getattribute__" = Y .slot:=by decide +kernel
 have l:splitId "BaseException.__getattribute__" = Y ("BaseException", "__getattribute__"):=by decide +kernel
 have n:Looks (aU a w) y (Ue (.ref x) (.type "BaseException")) true:=G.andThen (looks_mroIn X g.mb);unfold getAttrBy;refine fm (ah (G.at (ah (N.at ?_))));dsimp only;rw[if_neg (by rw[q];decide)];unfold getAttrByItsOwn hookBefore;refine ah ?_;rw[if_pos (show onTheHeap (aE C)=Z' from rfl)];refine L.at (ah (Fc (fm ?_)));unfold callGetattribute;rw[if_neg (by rw[u];decide)];unfold boundAndCalled;rw[J];have o:nW (aU a w) A (.call (.builtin "BaseException.__getattribute__") ⟨[.ref x,.str name i],[]⟩) (λr j=>match r with|.ok (.ret v)=>be (aU a w) A (handedOut v) Q E j|_=>False) ⟨y,D,d,t,B⟩:=
  codeAny_call_builtin PySem.F.attr_ValueError.ga.plain PySem.F.entry_bexc_ga (@check_slot (aU a w) _ _ ⟨y,D,d,t,B⟩ "BaseException.__getattribute__" "BaseException" "__getattribute__" (.ref x) [.str name i] [] _ H l n (PySem.F.args_bexc_ga (.ref x) (.str name i)) (h (λr j=>match r with|.ok (.ret v)=>be (aU a w) A (handedOut v) Q E j|_=>False) λv j z=>z))
 refine ah (aF (qO (pI o λr j z =>?_)));rcases r with e|(v|_|_|_)
 ·exact cE z
 ·exact cE z
 ·exact cE z
 ·exact cE z
 ·exact z
theorem Kt{v:ak}(X:K.In s.heap)(I:InstAt s.heap x c C b)(g:UL K C)(k:findObj K C b name=Y (.value v))(j:handedIn v=Z')(h:Q v { s with toks:=s.toks+1 }):
  be (aU a w) A (getAttr (.ref x) name e) Q E s:=by
 unfold getAttr;refine ah (wpAny_mkText (Kv (s:={ s with toks:=s.toks+1 }) X I g λR l =>?_));obtain⟨f,p,d,t,o⟩:=s;have n:=I.type (M:=aU a w);have m:=looks_find (M:=aU a w) X I k;unfold Builtin.«object.__getattribute__»;refine ah (aF ?_);refine ah (aF (ah (n.at (ah (m.at ?_)))));refine aF (l v _ ?_);rw[handedOut_of j];exact aF h
theorem Ku(X:K.In s.heap)(I:InstAt s.heap x c C b)(g:UL K C)(k:findObj K C b "__class__" = Y (.bind (.builtin "getset_descriptor.__get__") (.builtin "object.__class__")))(j:mroIn K C (.type "object")=Y Z')(h:Q (Y (.ref C)) { s with toks:=s.toks+1 }):
  be (aU a w) A (getAttr? (.ref x) "__class__") Q E s:=by
 unfold getAttr? getAttrBy?;refine ah (wpAny_mkText (ah (Fc (Kv (s:={ s with toks:=s.toks+1 }) X I g λR l =>?_))));obtain⟨e,m,d,t,f⟩:=s;have o:=I.type (M:=aU a w);have n:=looks_find (M:=aU a w) X I k;unfold Builtin.«object.__getattribute__»;refine ah (aF ?_);refine ah (aF (ah (o.at (ah (n.at ?_)))));show be _ _ (jw _ (J_ _ _) >>= ret) _ _ _;refine ah (fm (qO (class_get (ox:=c) (od:=b) (s:=⟨e,m,d,t+1,f⟩) X I j ?_)));refine aF (l _ _ ?_);rw[handedOut_of rfl];exact aF (aF h)
theorem Mr{b:Obj}(g:UL K C)(f:pk K C=Z')(y:hR K (.ref C) "__class__" = Y (Y (.builtin "object.__class__")))(u:specialIn K (.builtin "object.__class__") "__get__" = Y (Y (.builtin "getset_descriptor.__get__")))(m:takesIn K (.builtin "object.__class__")=Y Z')(v:mroIn K C (.type "object")=Y Z'):
  KitX K (.ref x) (.ref C) (λh=>InstAt h x c C (Y b)) where
 ty:=λ_ _ _ I=>I.type
 it:=λ_ _ X _=>by
  obtain⟨p,d,_⟩:=any_some f;unfold clsIn at d;split at d
  ·rename_i B A r j o;intro L H J E k q;unfold isType loadHead;exact ah (CZ (k _ _ (X _ _ o)) (aF q))
  ·cases d
 ne:=λh s F t n D X l=>by
  obtain⟨p,d,_⟩:=any_some f;refine Bool.eq_false_iff.mpr λq =>?_
  have e:C=s:=Value.ref.inj (beq_iff_eq.mp q);subst e;unfold clsIn at d;split at d
  ·rename_i B A r j o;have z:=(X _ _ o).symm.trans l;cases z
  ·cases d
 ca:=λX I k=>Ku X I g (findObj_data (by obtain⟨G,w,_⟩:=any_some f;rw[w];rfl) y u m) v k
end
end L2
namespace L2
open PySem PySem.Spec PyProof.Rows
section
variable {s:av}{K:aT}{name:aG}{v:ak}
def yb:List ak->Bool
 |.ref _::r=>yb r|l=>l==[.type "ValueError",.type "Exception",.type "BaseException",.type "object"]
theorem yN(self:ak):∀ {l:List ak},yb l=Z'->refuseLoop self "__setattr__" l=dR ()
 |.ref c::r,e=>by rw[refuseLoop_ref];exact yN self e
 |[],e=>by cases e
 |.type n::r,e=>by have e:(bR n::r==_)=true:=e;rw[beq_iff_eq.mp e];exact PySem.F.store_ValueError.passes self
 |.none::r,e=>by cases e
 |.bool b::r,e=>by cases e
 |.int i t::r,e=>by cases e
 |.float i t::r,e=>by cases e
 |.str i t::r,e=>by cases e
 |.bytes i t::r,e=>by cases e
 |.builtin i::r,e=>by cases e
 |.ellipsis::r,e=>by cases e
 |.notImplemented::r,e=>by cases e
theorem HG:∀ {l:List ak},yb l=Z'->l.contains (.type "object")=Z'
 |.ref c::r,e=>by rw[List.contains_cons,HG (l:=r) e,Bool.or_true]
 |[],e=>by cases e
 |.type n::r,e=>by have e:(bR n::r==_)=true:=e;rw[beq_iff_eq.mp e];decide
 |.none::r,e=>by cases e
 |.bool b::r,e=>by cases e
 |.int i t::r,e=>by cases e
 |.float i t::r,e=>by cases e
 |.str i t::r,e=>by cases e
 |.bytes i t::r,e=>by cases e
 |.builtin i::r,e=>by cases e
 |.ellipsis::r,e=>by cases e
 |.notImplemented::r,e=>by cases e
def yl(K:aT)(C:az):Bool:=(PySem.W.clsIn K C).any λa=>yb a.mro
theorem OR{R:NL->av->Prop}{r:Option ak}(X:K.In s.heap)(I:PySem.W.InstAt s.heap x u C y)(D:yl K C=Z')(B:NH K C name=Y r) (h:∀b,be (aU d w) A.in1 (match r with|some a=>Builtin.ObjectAttr.setByDescriptor a (.ref x) v|none=>Builtin.ObjectAttr.storeInOwnDict (.ref x) (.ref C) (.str name j) name v b)
   (λlS k=>match lS with|.done f=>R (.ok f) k|.again t=>t.quiet=Z'/\nW (aU d w) A t R k) (λe k=>R (.error e) k) s) :
  nW (aU d w) A (.call (.builtin "object.__setattr__") ⟨[.ref x,.str name j,v],[]⟩) R s:=by
 have i:=PySem.F.store_object;obtain⟨n,p,l⟩:=PySem.W.any_some D;have z:n.mro.isEmpty=false:=by cases q:n.mro with|nil=>rw[q]at l;cases l|cons _ _=>rfl
 have m:PySem.W.Looks (aU d w) s.heap (Ue (.ref x) (.type "object")) true:=I.type.andThen (PySem.W.looks_mroIn X (by unfold PySem.W.mroIn;rw[p,ae,if_neg (by rw[z];decide),HG l]));refine codeAny_call_builtin i.slot.plain i.entry (@PySem.W.check_slot (aU d w) _ _ s "object.__setattr__" "object" "__setattr__" (.ref x) [.str name j,v] [] _ i.kind i.split m (i.args (.ref x) (.str name j) v) ?_);obtain⟨c,G,o⟩:=aa.mp B;have E:PySem.W.Looks (aU d w) s.heap (mroOf (.ref C)) n.mro:=(PySem.W.looks_clsIn X p).andThen .now;have H:PySem.W.Looks (aU d w) s.heap (Builtin.ObjectAttr.storeTaker? c) r:=by
  cases c with
  |none=>cases o;exact .now|some a=>obtain⟨b,F,rfl⟩:=aq.mp o;refine(PySem.W.looks_takesIn X F).andThen ?_;cases b<;>exact .now
 rw[PySem.W.osa_eq,refuse_eq];refine ah (ah (I.type.here (ah (E.here ?_))));rw[yN _ l];refine aF (ah (I.type.here (ah ((PySem.W.looks_findIn X G).here (ah (H.here ?_))))));exact h _
theorem Pl(X:K.In s.heap)(hx:s.heap.get? x=Y ⟨.ref C,M,.fields g,#[]⟩)(hs:hR K (.ref C) "__setattr__" = Y (Y (.builtin "object.__setattr__")))(hp:yl K C=Z')(ht:NH K C name=Y M)(hh:pk K C=Z')(h:∀h',h'.get? x=Y ⟨.ref C,Y s.heap.objs.size,.fields g,#[]⟩->h'.Ns1 s.heap.objs.size (λy=>if y=name then Y v else M)->(∀b o,b≠x->s.heap.get? b=Y o->h'.get? b=Y o)->Q () { s with heap:=h',toks:=s.toks+2 }):
  be (aU d w) A (setAttr (.ref x) name v) Q E s:=by
 have J:PySem.W.InstAt s.heap x ⟨.ref C,M,.fields g,#[]⟩ C none:=⟨hx,rfl,rfl,trivial⟩;refine PySem.W.set_plain X J hs (OR (s:={ s with toks:=s.toks+1 }) (r:=M) X J hp ht λb =>?_);obtain⟨cd,hc,hd'⟩:=PySem.W.any_some hh;refine ah (aF (ah ?_));refine ah (M:=aU d w) ?_;refine CZ hx ?_;refine ah (PySem.W.Looks.here (s:={ s with toks:=s.toks+1 }) (PySem.W.looks_clsIn X hc) ?_);rw[hd'];refine gY rfl ?_;refine gY rfl ?_;refine ah (wpAny_alloc ?_);have hx1:(s.heap.push { cls:=bR "dict",data:=qR #[] }).get? x=Y ⟨.ref C,M,.fields g,#[]⟩:=ai _ hx;refine ah (wpAny_update hx1 ?_);refine aF (a:=Y s.heap.objs.size) (ah (aF (ah ?_)));have hxd:s.heap.objs.size≠x:=fQ (aJ hx);have hx2:=cR (λo:Obj=>{ cls:=o.cls,dict:=Y s.heap.objs.size,data:=o.data,slots:=o.slots }) hx1 rfl;have hd2:((s.heap.push { cls:=bR "dict",data:=qR #[] }).update x λo=>{ cls:=o.cls,dict:=Y s.heap.objs.size,data:=o.data,slots:=o.slots }).get? s.heap.objs.size=Y { cls:=bR "dict",data:=qR #[] }:=
  (bF _ _ (bG hxd)).trans (bx s.heap rfl)
 have SW:((s.heap.push { cls:=bR "dict",data:=qR #[] }).update x λo=>{ cls:=o.cls,dict:=Y s.heap.objs.size,data:=o.data,slots:=o.slots }).Ns1 s.heap.objs.size (λ_=>M):=
  Heap.Ns1.of_empty ⟨_,#[],_,hd2,rfl,(λe he=>absurd he (by simp)),λ_=>rfl⟩
 refine wpAny_nsSet1 (s:={ s with heap:=(s.heap.push { cls:=bR "dict",data:=qR #[] }).update x λo=>{ cls:=o.cls,dict:=Y s.heap.objs.size,data:=o.data,slots:=o.slots },toks:=s.toks+1 }) SW λh' YZ hs2 =>?_
 have hw:PySem.Within (λ_:aG=>(M:Option ak)) []:=λy hy=>absurd rfl hy
 obtain⟨oD,esD,epD,hoD,hdD,hcD⟩:=YZ.count (PySem.Within.cons name v hw);refine ah (wpAny_lookBehind hoD (by rw[hdD];exact pastItsLine_dict (bK hcD (by rw[aP];exact Nat.le_add_left _ _))) ?_);refine aF (h h' ((hs2.2 _ (bG hxd)).trans hx2) YZ λb o hb e =>?_);have Xk:b≠s.heap.objs.size:=bH (aJ e);refine(hs2.2 b Xk).trans ?_;refine(bF _ _ (bG hb)).trans ?_;exact ai _ e
end
section
variable {sub:List ak}{s:av}
theorem BJ(i:a.contains (bR "BaseException")=Z')(t:A.handled=M)(h:be U A x (λv f=>∃e j m,v=.ref e/\f.heap.get? C=Y (N3 nm q C N bs a hdct sn sub ab col dd k0 k1 k2 k3 k5 newId)/\f.heap.get? e=Y j/\j.cls=.ref C/\j.data=.fields m/\m[1]?=Y .none/\E (.ref e) f) E s):
  be U A (raiseStmt b (Y x) M) Q E s:=by
 unfold raiseStmt;refine ah (dS h ?_ λ_ _ z=>z);rintro v f ⟨e,j,m,y,r,k,p,l,w,u⟩;subst y;obtain⟨F,g,d,B,D⟩:=f;have n:(aE C::a).contains (bR "BaseException")=true:=by rw[List.contains_cons,i];simp
 have o:∀c,j.data≠Data.cls c:=λc z=>by rw[l]at z;cases z
 refine ah (aF (ah (fm ?_)));unfold excFromValue;refine ah ?_;unfold isExcClass;refine ah (M:=U) ?_;unfold isType;refine ah (M:=U) ?_;refine ju k ?_;refine aF ?_;rw[l];refine gY rfl (aF (gY rfl ?_));refine ah ?_;unfold Ue GL;refine ah (M:=U) ?_;refine ah (M:=U) ?_;refine ju k ?_;refine aF ?_;rw[p];refine wpAny_isSubtype_exc r ?_;rw[n];refine Uc rfl (aF ?_);refine ah (M:=U) ?_;refine ah (M:=U) ?_;refine ju k ?_;refine aF ?_;rw[l];refine gY rfl ?_;refine ah ?_;unfold raisedInstance GL;refine ah (M:=U) ?_;refine ah (M:=U) ?_;refine ju k ?_;refine aF ?_;rw[p];refine ah (M:=U) ?_;refine ah (M:=U) ?_;refine ju r ?_;refine aF ?_;refine Uc rfl (aF ?_);refine ah ?_;unfold xU;refine ah (jv k l w ?_);rw[if_neg (by decide)];refine aF ?_;exact wpAny_raiseNew_none t u
end
def eL(a:az)(o:Obj):HO :=.ext λh=>h.get? a=Y o
theorem eL.ok{P:bt}{H:Hp}{h:cD}{a:az}(e:h.get? a=Y o):fJ P w H h a (eL a o):=
 ⟨e,⟨o,e⟩,λ_ _ p k=>k o p⟩
theorem eL.get{P:bt}{H:Hp}{h:cD}{a:az}(b:nU P w H h)(e:H a=Y (eL a o)):h.get? a=Y o:=(b a _ e).1
abbrev Di(C t:az):Obj:={ cls:=aE C,data:=fM #[aE t,aM,aM,aM,oM Z_,aM] }
abbrev Rc(C t a:az):Obj:={ cls:=aE C,dict:=Y a,data:=fM #[aE t,aM,aM,aM,oM Z_,aM] }
structure P9(K:aT)(C:az)(f:aG):Prop where
 sa:hR K (.ref C) "__setattr__" = some (some (.builtin "object.__setattr__"))
 po:yl K C=true
 tk:NH K C f=some none
 hd:pk K C=true
section
variable {X:Cx}{d:List (az×Obj)}{i:St}{H:Hp}{s:av}{A:gD}{E:ak->av->Prop}{C a t:az}{f:aG}
theorem N7(I:Inv X d i H s)(e:H a=Y (eL a (Di C t)))(c:P9 X.K C f)(V:RelV y u)(h:∀p F,H p=M->p≠a->Inv X d i (dg (dg H p (.xd [(f,y)])) a (eL a (Rc C t p))) F->Q () F):be (aU X.prog X.w) A (setAttr (.ref a) f u) Q E s:=by
 have G:=eL.get I.eW e;refine Pl I.rj G c.sa c.po c.tk c.hd λR l B N =>?_
 have O:=I.eW.fresh (aS s.heap.objs.size);have m:s.heap.objs.size≠a:=fQ (aJ G);obtain⟨j,J,K,z,n,x,w,r⟩:=id B;have D:j.isFreed=false:=by obtain⟨c1,d1,T,sl⟩:=j;have:T=qR J K:=n;subst this;rfl
 have L:(s.heap.push j).get? s.heap.objs.size=Y j:=bx s.heap D;have k:∀g,pE ([(f,y)].lookup g) (if g=f then Y u else M):=λg=>by
  by_cases q:g=f
  ·rw[if_pos q,q];simp[jG];exact V
  ·rw[if_neg q];have:(g==f)=false:=by simp[q]
   simp[jG,this];exact hU
 have U:=I.laid (a:=s.heap.objs.size) (o :=.xd [(f,y)]) (h':=s.heap.push j) (t':=s.toks+2) (λb v q=>ai _ q) (aS _) ⟨_,⟨j,J,K,L,n,x,w,r⟩,k⟩;have S:dg H s.heap.objs.size (.xd [(f,y)]) a=Y (eL a (Di C t)):=by rw[aZ (bG m)];exact e
 refine h s.heap.objs.size _ O m (U.write (h':=R) (h:=s.toks+2) (x:=a) (e:=a) (by rw[S];exact hU) (.inl rfl) (λb v P q =>?_) ⟨_,l⟩ (eL.ok l));by_cases o:b=s.heap.objs.size
 ·subst o;have q:(s.heap.push j).get? s.heap.objs.size=Y v:=q;rw[L]at q;cases q;exact z
 ·have q:(s.heap.push j).get? b=Y v:=q;rw[Heap.get?_push_ne _ _ _ o]at q;exact N b v P q
end
section
variable {X:Cx}{m:TE}{f:aG}
def Vi(K:aT)(j l:TE)(f:aG):TS:=λD c H=>l c H λy e=>j c e λx d=>∃a C t,x=.ref a/\d a=Y (eL a (Di C t))/\P9 K C f/\∀b,d b=M->b≠a->D.nx c (dg (dg d b (.xd [(f,y)])) a (eL a (Rc C t b)))
theorem OD(E:PE X o j)(r:PE X z l)(v:cp z (Y (.Attribute o f A)) i.line X.env=dR Z_):PS X (.Assign [.Attribute o f A] z i) (Vi X.K j l f):=by
 intro b s d H D I h;refine Kn (fE (r b s d H _ I h) ?_) v;rintro u e ⟨y,N,m,g,q⟩;refine fE (E b e d N _ m q) ?_;rintro p P ⟨x,Q,L,k,a,C,t,F,G,c,n⟩;subst F;obtain rfl:p=aE a:=k;exact N7 L G c g λJ O B w K=>⟨d,_,K,n J B w⟩
def x5(C:az)(f:aG):Sp:=λc H Q _=>∃a t v,c=[.ref a,v]/\H a=Y (eL a (Di C t))/\∀b,H b=M->b≠a->Q .dJ (dg (dg H b (.xd [(f,v)])) a (eL a (Rc C t b)))
structure Q4(K:aT)(C fI:az):Prop where
 cl:∃(nm q:aG) (N:az) (bs bm UK:List ak) (sn:List aG) (sub:List ak) (ab:Bool) (col:Option Bool) (dd:Option az) (k0 k1 k2 k3 k5:Option ak) (B Bn newId YA Mx YJ:String) (XJ:List ak) (mN:aG->Option ak),
  tK Bn newId YJ XJ/\UK.contains (bR Bn)=true/\tK B YA Mx UK/\bm.contains (bR "BaseException")=true /\
  K.lookup C=some (N3 nm q C N bs bm true sn sub ab col dd k0 k1 k2 k3 k5 newId)/\(∀h:cD,K.In h->OwnTail h UK bm/\h.Ns N mN)/\mN (af "__init__")=some (.ref fI)
 fn:PySem.W.typeIn K (.ref fI)=some (.type "function")
 kp:qk K (.ref C)=true
theorem NB{K:aT}(X:K.In h){o:Obj}(e:K.lookup a=Y o):h.get? a=Y o:=X a o e
theorem IV{s:av}{v:V}(i:Q4 X.K C fI)(F:b_ X.prog X.w X.K X.mg X.base gS k fI fd ["self",f] (x5 C f))(hr:eM (k+1) X.A)(hb:Binds X.K fd ["self",f] [])(I:Inv X n U H s)(r:RelV v u)(h:∀a t D,H a=M->H D=M->D≠a->Q (.ref a) (dg (dg (dg H a (eL a (Di C t))) D (.xd [(f,v)])) a (eL a (Rc C t D)))):
  be (aU X.prog X.w) X.A (J_ (.ref C) [u]) (EP X n U Q) X.xe s:=by
 obtain⟨nm,q,N,bs,bm,UK,sn,sub,ab,col,dd,k0,k1,k2,k3,k5,B,Bn,L,YA,J,YJ,XJ,mN,Fn,R,FB,hbm,lk,hT,O⟩:=i.cl;have hC:=NB I.rj lk;obtain⟨T,K⟩:=hT _ I.rj;have I1:=I.kept (h':=s.heap.push { cls:=bR "tuple",data:=Data.seq [u].toArray }) (t':=s.toks) λb o e=>ai _ e
 have E:(pD s.heap C [u]).get? (s.heap.objs.size+1)=Y (Di C s.heap.objs.size):=Heap.get?_push_at (by simp[cV]) rfl;have S:=I1.laid (a:=s.heap.objs.size+1) (o:=eL (s.heap.objs.size+1) (Di C s.heap.objs.size)) (h':=pD s.heap C [u]) (t':=s.toks) (λb o e=>ai _ e) (nM (cV _ _)) (eL.ok E);have x:=S.rj;have G:=S.Pn;obtain⟨y,g,d,tk,os⟩:=s;refine Dl Fn R FB T hC K O (show [u].length<=bb from fR (IQ (n:=1) (by decide))) (λA' E' s1 P' e p =>?_) ?_
 ·have:X.K.In s1.heap:=by rw[e];exact x
  exact PySem.W.Looks.here (PySem.W.looks_typeIn this i.fn) p
 ·refine qO (pI (F.run _ X.stack _ _ ⟨[aE (y.objs.size+1),u],[]⟩ [aE (y.objs.size+1),u] [V.ref (y.objs.size+1),v] (λw H2=>w=.dJ/\Q (.ref (y.objs.size+1)) H2) E0 (hr.make C [u] []) (G.make C [u] []) (hb _ [aE (y.objs.size+1),u] x rfl) (.cons rfl (.cons r .nil)) ⟨y.objs.size+1,y.objs.size,v,rfl,br,λD hd K=>⟨rfl,?_⟩⟩) λr s' c =>?_)
  ·have P:H D=none:=by rw[aZ K]at hd;exact hd
   exact h _ _ D (I.eW.fresh (iU _)) P K
  ·cases r with
   |error e=>exact cE c|ok fl=>
    cases fl with
    |ret u'=>obtain⟨v',H',I3,rv,ev,q3⟩:=S.after c;subst ev;exact⟨rv,⟨V.ref (y.objs.size+1),H',I3,rfl,q3⟩⟩
    |next=>exact cE c|brk=>exact cE c|cont=>exact cE c
def Rn(C:az)(f:aG)(t:TA):TE:=λd H Q=>t d H λe c=>∃v,e=[v]/\∀a t b,c a=M->c b=M->b≠a->Q (.ref a) (dg (dg (dg c a (eL a (Di C t))) b (.xd [(f,v)])) a (eL a (Rc C t b)))
theorem Lx(j:Q4 X.K C g)(F:b_ X.prog X.w X.K X.mg X.base gS k g d ["self",f] (x5 C f))(y:eM (k+1) X.A)(D:Gl X x)(B:X.mg x=Y (.ref C))(G:Binds X.K d ["self",f] [])(J:PA X [e] t)(c:(x==("__debug__" : aG))=false:=by decide)(E:ao [e] X.env=(Z_,eval e X.env)::ao [] X.env:=by rfl)(b:(cv i (ao [] X.env)).any (·.1)=false:=by rfl):
  PE X (.Call (.Name x p) [e] [] i) (Rn C f t):=by
 intro a s o H Q I h;refine gm (sP I D B ?_ c);refine PySem.W.callWith_K (h₀:=X.base) I.ok.mod.Sw j.kp (fE (J i a s o H _ I h) ?_) E b;rintro N O ⟨L,P,n,r,v,K,q⟩;refine⟨n.rj,?_⟩;subst K;obtain⟨u,rfl,w⟩:=vals1 r;exact IV j F y G n w q
def RE(X:Cx)(C:az)(m:TE):TS:=λ_ c H=>m c H λv e=>∃a t f,v=.ref a/\e a=Y (eL a (Rc C t f))/\∀b d,Inv X b c e d->X.xe (.ref a) d
theorem Lu(j:Q4 X.K C T)(R:X.calm=Z')(Q:PE X e m):PS X (.Raise (Y e) M i) (RE X C m):=by
 intro b s o H D I h;obtain⟨y,q,N,bs,bm,UK,p,f,ab,k,dd,L,K,J,G,F,B,Bn,c,E,d,O,XJ,mN,Fn,S,FB,g,lk,hT,P⟩:=j.cl;rw[arm_exec_Raise];refine ah (wQ ?_);refine BJ (C:=C) (nm:=y) (q:=q) (N:=N) (bs:=bs) (hdct:=Z') (sn:=p) (sub:=f) (ab:=ab) (col:=k) (dd:=dd) (k0:=L) (k1:=K) (k2:=J) (k3:=G) (k5:=F) (newId:=c) g (I.ok.hd R) ?_;refine ah (fE (Q b s o H _ I h) ?_);rintro u r ⟨v,H1,n,x,a,t,dx,U,ea,w⟩;subst U;obtain rfl:u=aE a:=x;refine ah (wQ (aF ?_));exact⟨a,_,_,rfl,NB n.rj lk,eL.get n.eW ea,rfl,rfl,rfl,w b r n⟩
end
structure XT(H:Hp)(a C dx T:az)(oe oT:Obj):Prop where
 ea:H a=some (eL a oe)
 cls:oe.cls=.ref C
 dict:oe.dict=some dx
 fl:∃vs,oe.data=.fields vs/\vs[1]?=some (.ref T)/\∃a0,vs[0]?=some a0
 ne:T≠a
 eT:H T=some (eL T oT)
 tr:∃ts,oT.data=.fields ts/\ts[3]?=some .none
section
variable {P:bt}{w:cZ}{K:aT}{m:aG->Option ak}{l:cD}{N:List aG}{i:aG}{j:Scope}{f:az}{k:ak}{A:gD}{g:List Env}{d s:av}{p H:Hp}{E:XK}{x:List (az×Obj)}{y:St}{a C t h:az}
end
section
variable {V:Uh}{s:av}{m:Obj}
theorem Kx(hfr:A.frames=Y (a::j))(hl:s.heap.FunFrames base (a::j))(hf:a.frame=Y L)(he:s.heap.get? e=Y k)(hd:k.data=.fields g)(h1:g[1]?=Y (.ref T))(h0:g[0]?=Y n)(hT:s.heap.get? T=Y m)(t:m.data=.fields l)(h3:l[3]?=Y .none)(Jz:T≠e)(h:∀h' T',Nz (yk (a::j)) e s.heap h'->WN h' e k.cls k.dict n .none T'->T'=s.heap.objs.size->Q () { s with heap:=h' }):
  be V A (NI (.ref e) a) (λ_ s2=>be V A (xU (.ref e) M) Q E s2) E s:=by
 have Y5:e∉yk (a::j):=λhm=>by obtain⟨_,o,U,N⟩:=hl.mem hm;rw[he]at U;cases U;exact N g hd
 have ade:T∉yk (a::j):=λhm=>by obtain⟨_,o,U,N⟩:=hl.mem hm;rw[hT]at U;cases U;exact N l t
 have S:1<g.size:=(kY.mp h1).1;have P:3<l.size:=(kY.mp h3).1;have X:Obj.mapFields (λx=>x.setIfInBounds 3 aM) m=m:=by
  obtain⟨c,d,dt,sl⟩:=m;have:dt=.fields l:=t;subst this;show (⟨c,d,.fields (l.setIfInBounds 3 aM),sl⟩:Obj)=_
  congr 2
  apply Array.ext
  ·simp
  ·intro i h1 h2;by_cases hi:3=i
   ·subst hi;rw[C6];have:=sH h2;rw[h3]at this;injection this
   ·rw[E9 _ hi]
 have w:∀b o,s.heap.get? b=Y o->(s.heap.update T (Obj.mapFields λx=>x.setIfInBounds 3 aM)).get? b=Y o:=λb o v=>by
  by_cases J:b=T
  ·subst J;rw[hT]at v;cases v;have hh:=cR (Obj.mapFields λx=>x.setIfInBounds 3 aM) hT (by rw[X];exact Obj.isFreed_of_fields t);rw[X]at hh;exact hh
  ·rw[bF _ _ (bG J)];exact v
 have he2:=w e k he;have hl2:(s.heap.update T (Obj.mapFields λx=>x.setIfInBounds 3 aM)).FunFrames base (a::j):=Heap.FunFrames.of_keeps (λb o v _=>⟨o,w b o v,rfl⟩) hl;unfold NI;rw[hf];refine ah (jv he hd h1 ?_);rw[if_pos (by simp)];refine ah (jv hT t h3 ?_);rw[if_neg (by simp[lK])];refine ah (pH hT t P ?_);refine ah (wpAny_frameOf_fun hfr hl2 hf λp r =>?_);refine ah (wpAny_entryPlaceOf λI Xg =>?_);refine ah ?_;unfold EntryCells.newEntry;refine J7 ?_ (IsPlace.sizeOk5 Xg _ _ _ _ _);have F:p.get? e=Y k:=(r.2.1 e Y5).trans he2;have D:=ai { cls:=bR "traceback",data:=fM ([aE T,aE L,aM,lK ↑L,aM]++if I.isEmpty=Z' then bo 6 aM else I).toArray } F;refine pH D hd S ?_;have O:p.objs.size≠e:=fQ (aJ F);have u:=Obj.data_mapFields hd λx=>x.setIfInBounds 1 (aE p.objs.size)
 have C:=cR (Obj.mapFields λx=>x.setIfInBounds 1 (aE p.objs.size)) D (Obj.isFreed_of_fields u);have H:=(bF (p.push { cls:=bR "traceback",data:=fM ([aE T,aE L,aM,lK ↑L,aM]++if I.isEmpty=Z' then bo 6 aM else I).toArray }) (Obj.mapFields λx=>x.setIfInBounds 1 (aE p.objs.size)) (bG O)).trans (bx p rfl);have g1:(g.setIfInBounds 1 (aE p.objs.size))[1]?=Y (aE p.objs.size):=by simp[S]
 have g0:(g.setIfInBounds 1 (aE p.objs.size))[0]?=Y n:=by rw[oO (by decide)];exact h0
 unfold xU;refine ah (jv C u g1 ?_);rw[if_pos (by simp)];have R:3<([aE T,aE L,aM,lK ↑L,aM]++if I.isEmpty=Z' then bo 6 aM else I).toArray.size:=by simp
 refine pH H rfl R ?_;have K:p.objs.size=s.heap.objs.size:=r.1.trans (xW _ _ _);have B:s.heap.get? p.objs.size=none:=by
  rw[K];rcases q:s.heap.get? s.heap.objs.size with _|o
  ·rfl
  exact absurd (aJ q) (eQ _)
 have y:∀b o,b≠e->b≠p.objs.size->p.get? b=Y o->((Heap.update (p.push { cls:=bR "traceback",data:=fM ([aE T,aE L,aM,lK ↑L,aM]++if I.isEmpty=Z' then bo 6 aM else I).toArray }) e (Obj.mapFields λx=>x.setIfInBounds 1 (aE p.objs.size))).update p.objs.size (Obj.mapFields λx=>x.setIfInBounds 3 (Fg M aM λf=>lK ↑f))).get? b=Y o:=λb o G J v=>by rw[bF _ _ (bG J),bF _ _ (bG G)];exact ai _ v
 refine h _ p.objs.size ⟨λb o G hbf v =>?_,λb o G hbf v =>?_⟩ ?_ K
 ·refine y b o G ?_ ((r.2.1 b hbf).trans (w b o v));intro z;rw[z,B]at v;cases v
 ·obtain⟨sl,YO⟩:=r.2.2 b o (w b o v);refine⟨sl,y b _ G ?_ YO⟩;intro z;rw[z,B]at v;cases v
 ·have t:=Obj.data_mapFields (o:={ cls:=bR "traceback",data:=fM ([aE T,aE L,aM,lK ↑L,aM]++if I.isEmpty=Z' then bo 6 aM else I).toArray }) rfl λx=>x.setIfInBounds 3 (Fg M aM λf=>lK ↑f)
  refine⟨_,_,_,_,(bF _ _ O).trans C,Obj.cls_mapFields _ _,Obj.su _ _,u,g0,g1,O,cR _ H (Obj.isFreed_of_fields t),t,?_⟩;simp
end
theorem Hr{P:bt}{H:Hp}{h B:cD}{a T:az}{d f:Obj}(E:nU P w H h)(x:∀b∈I,H b=M)(A:H a=Y (eL a o))(D:Nz I a h B)(K:B.get? a=Y d)(Q:B.get? T=Y f)(L:T=h.objs.size):
  Un I [] H (dg (dg H T (eL T f)) a (eL a d)) h B/\nU P w (dg (dg H T (eL T f)) a (eL a d)) B:=by
 have J:H T=none:=E.fresh (nM L.symm);have m:∀b,H b=M->b≠a:=λb s z=>by rw[z,A]at s;cases s
 have C:∀b o,h.get? b=Y o->b≠T:=λb o e z=>by have:=aJ e;rw[z,L]at this;exact eQ _ this
 have k:∀b u,b≠a->H b=Y u->dg (dg H T (eL T f)) a (eL a d) b=Y u:=λb u s e=>by rw[aZ s,aZ (bI e J)];exact e
 have p:∀c v,c≠a->H c≠M->h.get? c=Y v->B.get? c=Y v:=λc v y N e=>D.keep c v y (λG=>N (x c G)) e
 refine⟨⟨λb o e n s t=>D.keep b o (m b n) s e,λb o e n s t=>D.slot b o (m b n) s e,λb o e n t =>?_,λb o e t =>?_,λb g e=>k b _ (λz=>by rw[z,A]at e;cases e) e,λb o u e=>k b _ (λz=>by rw[z,A]at e;cases e) e,λb S e=>⟨#[],by rw[k b _ (λz=>by rw[z,A]at e;cases e) e];simp⟩⟩,λb u e =>?_⟩
 ·rw[aZ (m b n),aZ (C b o e)];exact n
 ·by_cases l:b=a
  ·exact⟨d,by rw[l];exact K⟩
  ·by_cases G:b∈I
   ·obtain⟨R,O⟩:=D.slot b o l G e;exact⟨_,O⟩
   ·exact⟨o,D.keep b o l G e⟩
 ·by_cases l:b=a
  ·subst l;rw[br]at e;cases e;exact eL.ok K
  ·rw[aZ l]at e;by_cases F:b=T
   ·subst F;rw[br]at e;cases e;exact eL.ok Q
   ·rw[aZ F]at e;refine(E b u e).xq (λc v y q =>?_) (λc r =>?_) λc g r =>?_
    ·rcases y with rfl|y
     ·exact p c v l (by rw[e];simp) q
     ·exact p c v (λz=>by rw[z,A]at y;cases y) (by rw[y];simp) q
    ·exact k c _ (λz=>by rw[z,A]at r;cases r) r
    ·exact k c _ (λz=>by rw[z,A]at r;cases r) r
section
variable {X:Cx}{i:List (az×Obj)}{j:St}{H:Hp}{s:av}{E:ak->av->Prop}{a C g T L:az}{d f:Obj}
theorem Hw(n:X.stack=X.env::X.outer)(K:X.env.frame=Y L)(I:Inv X i j H s)(x:XT H a C g T d f)(h:∀A y p c k,Inv X i j y A->XT y a C g p c k->(∀b o,b≠a->H b=Y o->y b=Y o)->Q () A):
  be (aU X.prog X.w) X.A (NI (.ref a) X.env) (λ_ J=>be (aU X.prog X.w) X.A (xU (.ref a) M) Q E J) E s:=by
 obtain⟨vs,V,P,a0,R⟩:=x.fl;obtain⟨ts,u,O⟩:=x.tr;have m:=I.ok.frames;rw[n]at m;have l:=I.stack;rw[n]at l;refine Kx (base:=X.base) m l K (eL.get I.eW x.ea) V P R (eL.get I.eW x.eT) u O x.ne λS p B ext F =>?_
 obtain⟨c,q,k,r,g1,g2,g3,g4,g5,g6,D,g8,U,w⟩:=ext;rw[<- n]at B;obtain⟨G,t⟩:=Hr I.eW I.xY x.ea B g1 g8 F;have v:H p=none:=I.eW.fresh (nM F.symm);refine h _ (dg (dg H p (eL p k)) a (eL a c)) p c k (I.zQ (s':={ s with heap:=S }) (g:=[]) rfl G t I.bare (λb z=>absurd z (by simp))) ⟨br,g2.trans x.cls,g3.trans x.dict,⟨q,g4,g6,_,g5⟩,D,by rw[aZ D,br],⟨r,U,w⟩⟩ λb o N e =>?_
 rw[aZ N,aZ (bI e v)];exact e
end
theorem find_erase{l:List a}(h:∀x,l[i]?=Y x->p x=Z_):(l.eraseIdx i).find? p=l.find? p:=by
 by_cases b:i<l.length
 ·have e:l=l.take i++l[i]::l.drop (i+1):=by rw[<- fw b,List.take_append_drop]
  have c:p l[i]=false:=h _ (bC b);rw[List.eraseIdx_eq_take_drop_succ]
  conv=>rhs;rw[e]
  rw[C5,C5,ke,c]
 ·rw[List.eraseIdx_of_length_le (by omega)]
theorem nsFind_erase{a:Array DictEntry}(h:StrKeys a)(e:a.findIdx? (λy=>y.key.isStr n)=Y i)(g:x≠n):nsFind (a.eraseIdxIfInBounds i) x=nsFind a x:=by
 obtain⟨b,c,_⟩:=AM.mp e;have j:a.eraseIdxIfInBounds i=a.eraseIdx i b:=by unfold NQ;rw[dif_pos b]
 have:(a.eraseIdx i b).find? (λy=>y.key.isStr x)=a.find? (λy=>y.key.isStr x):=by
  rw[<- rK,<- rK,Array.toList_eraseIdx];refine find_erase λy f =>?_
  rw[wU,sH b]at f;cases f;obtain⟨m,t,d⟩:=h a[i] (Array.getElem_mem b);rw[d]at c ⊢;have c:(m==n)=true:=c;show (m==x)=Z_;have d:m=n:=by simpa using c
  rw[d];simpa using bG g
 rw[j];show mJ _ _=mJ _ _;rw[this]
theorem An(c:StrKeys b):StrKeys (b.eraseIdxIfInBounds i):=λe a=>by
 refine c e ?_;unfold NQ at a;split at a
 ·exact Array.mem_of_mem_eraseIdx a
 ·exact a
section
variable {s:av}
theorem Kw{m:aG->Option ak}{name:aG}(I:s.heap.Ns a m)(l:∃v,m name=Y v)(K:∀w C,w.Ns a C->(∀x,x≠name->C x=m x)->fD a s.heap w->Q Z' { s with heap:=w }):be U A (nsDel a name) Q E s:=by
 obtain⟨o,f,z,n,H,F,D⟩:=id I;obtain⟨v,l⟩:=l;have u:∃i,f.findIdx? (λy=>y.key.isStr name)=Y i:=by
  cases q:f.findIdx? (λy=>y.key.isStr name) with
  |some i=>exact⟨i,rfl⟩|none=>
   exfalso;have j:=D name;rw[l]at j;have j:mJ _ (f.find? (λy=>y.key.isStr name))=Y v:=j;have:f.find? (λy=>y.key.isStr name)=none:=by rw[Array.find?_eq_none];intro x k G;have:=Array.findIdx?_eq_none_iff.mp q x k;rw[this]at G;cases G
   rw[this]at j;cases j
 obtain⟨i,t⟩:=u;obtain⟨r,p,_⟩:=AM.mp t;have h:nsHas name o=dR true:=by rw[nsHas_eq];unfold nsHasByArray;rw[H];show (if (f.any λy=>y.key.isStr name)=Z' then _ else _)=_;rw[if_pos (Array.any_eq_true.mpr ⟨i,r,p⟩)]
 unfold nsDel;refine ah (CZ n ?_);rw[h];refine ah (aF ?_);rw[if_pos rfl];refine ah (wpAny_updatePart n (aF ?_));obtain⟨c,d,L,B⟩:=o;have:L=.dict f z:=H;subst this;have e:Obj.dropName name { cls:=c,dict:=d,data:=qR f z,slots:=B }={ cls:=c,dict:=d,data:=qR (f.eraseIdxIfInBounds i) (z+1),slots:=B }:=by rw[Obj.dropName_eq,Obj.dropNameByArray.eq_1,t]
 have g:=cR (Obj.dropName name) n (by rw[e];rfl);rw[e]at g;refine K _ (nsFind (f.eraseIdxIfInBounds i)) ⟨_,_,_,g,rfl,An F,λ_=>rfl⟩ (λx k=>by rw[nsFind_erase F t k];exact D x) ⟨xW _ _ _,λb J=>bF _ _ (bG J)⟩
theorem Dj{m:aG->Option ak}(q:a.kindOf n=Y .local)(r:s.heap.Ns a.locals m)(p:(a.scope.kind == .class||a.scope.kind == .module&&a.locals != a.globals)=Z_)(h:∀j k,j.Ns a.locals k->(∀x,x≠n->k x=m x)->fD a.locals s.heap j->Q () { s with heap:=j,toks:=s.toks+1 }):
  be U A (do bindName a n aM;C0 a n i) Q E s:=by
 refine ah (wpAny_bindName (wpAny_storeName_local q r (λl e c =>?_) p));unfold C0;refine wpAny_onRaise ?_;unfold unbindName;refine ah (wpAny_point (ah ?_));unfold deleteName;simp only[q];rw[if_neg (by rw[p];decide)];refine ah (Kw e ⟨_,if_pos rfl⟩ λg f d t b =>?_);rw[if_neg (by decide)];refine aF (wpAny_point (h g f d (λx o =>?_) (fD.trans c b)));rw[t x o,if_neg o]
end
structure wK(o:Obj)(C dx:az):Prop where
 cls:o.cls=.ref C
 dict:o.dict=some dx
 no:PySem.W.notCls o=true
abbrev Cx.mark(X:Cx)(e:ak):Cx:={ X with A:=X.A.mark (Y e),calm:=Z_,xe:=λ_ _=>False }
section
variable {X:Cx}{s:av}
theorem Cx.Ok.mark{X:Cx}(a:X.Ok)(e:ak):(X.mark e).Ok:=
 ⟨a.mod,a.kind,a.glob,a.blt,a.above,a.inj,a.has,a.UJ,λh=>(nomatch h),a.frames,a.Vd,a.Zh,a.bs,a.Nl,a.Jk,a.MO,a.wq,a.QW⟩
theorem Inv.mark(I:Inv X B t H s)(e:ak):Inv (X.mark e) B t H s:=⟨I.ok.mark e,I.os,I.bare,I.base,I.loc,I.cell,I.free,I.ni,I.pin,I.eW,I.len⟩
theorem Inv.unmark(a:X.Ok)(I:Inv (X.mark e) B t H s):Inv X B t H s:=⟨a,I.os,I.bare,I.base,I.loc,I.cell,I.free,I.ni,I.pin,I.eW,I.len⟩
theorem Pg{w:Uh}{L:Pos}(I:Inv X B t H s)(hN:X.N.Nodup)(hi:X.N[i]?=Y x)(hk:X.env.scope.names.lookup x=Y .local)(h:∀U,Inv X B (t.set i M) H U->Q () U):be w A (do bindName X.env x aM;C0 X.env x L) Q E s:=by
 obtain⟨m,hn,hl⟩:=id I.loc;have C:(X.env.scope.kind == .class||(X.env.scope.kind == .module&&X.env.locals != X.env.globals))=false:=by rw[I.ok.kind];rfl
 have v:i<t.length:=by rw[I.len];exact(au.mp hi).1
 have D:=I.XI;have f:∀ {a:az}{J:cD},(∃o,s.heap.get? a=Y o/\H a=M)->fD a s.heap J->nU X.prog X.w H J:=fun {a J} ha l b ob e=>by
  obtain⟨_,_,g⟩:=ha;refine(I.eW b ob e).xq (λc T F q=>(l.2 c ?_).trans q) (λ_ q=>q) λ_ _ q=>q
  rintro rfl;rcases F with rfl|F
  ·rw[g]at e;cases e
  ·rw[g]at F;cases F
 refine Dj hk hn C (λJ m' P hm l =>?_);obtain⟨oL,_,_,O,_⟩:=id hn;refine h _ ⟨I.ok,I.os,I.bare,⟨λb o e n S u =>?_,λb o e n S u =>?_,I.base.free,λb o e u =>?_,I.base.BN,I.base.Az,I.base.BO⟩,⟨_,P,λj y v' r K e3 =>?_⟩,λy c e =>?_,I.free,I.ni,λp hp =>?_,f ⟨oL,O,I.free⟩ l,by simpa using I.len⟩
 ·exact(l.2 b (bH (bw (aJ e) I.ok.above))).trans (I.base.keep b o e n S u)
 ·obtain⟨sl,r⟩:=I.base.slot b o e n S u;exact⟨sl,(l.2 b (bH (bw (aJ e) I.ok.above))).trans r⟩
 ·obtain⟨o',r⟩:=I.base.there b o e u;exact⟨o',(l.2 b (bH (bw (aJ e) I.ok.above))).trans r⟩
 ·by_cases R:j=i
  ·subst R;rw[bj v]at K;cases K
  ·rw[aj (bG R)]at K;obtain⟨u',r',q⟩:=hl j y v' r K e3;refine⟨u',r',?_⟩;rcases q with⟨k,e⟩|⟨k,c,e,z⟩
   ·refine .inl ⟨k,?_⟩;have:y≠x:=λe=>R (y6 hN r (e ▸ hi))
    rw[hm y this];exact e
   ·exact .inr ⟨k,c,e,z.sameBut l (D y c e)⟩
 ·obtain⟨T,z⟩:=I.cell y c e;exact⟨T,z.sameBut l (D y c e)⟩
 ·obtain⟨e,n,ne,nf,d⟩:=I.pin p hp;exact⟨(l.2 p.1 ne).trans e,n,ne,nf,d⟩
theorem JB{O:Uh}(I:Inv X B t H s)(x:XT H a C w T G N)(h:∀n,Inv X B t H n->Q () n):be O A (xU (.ref a) M) Q E s:=by
 obtain⟨J,z,u,L,K⟩:=x.fl;obtain⟨k,e,r⟩:=x.tr;have y:=eL.get I.eW x.ea;have m:=eL.get I.eW x.eT;have f:3<k.size:=(kY.mp r).1;have g:Obj.mapFields (λx=>x.setIfInBounds 3 aM) N=N:=by
  obtain⟨c,d,F,v⟩:=N;have:F=.fields k:=e;subst this;show (⟨c,d,.fields (k.setIfInBounds 3 aM),v⟩:Obj)=_
  congr 2
  apply Array.ext
  ·simp
  ·intro i u D;by_cases p:3=i
   ·subst p;rw[C6];have:=sH D;rw[r]at this;injection this
   ·rw[E9 _ p]
 unfold xU;refine ah (jv y z u ?_);rw[if_pos (by simp)];refine pH m e f ?_;refine h _ (I.kept (t':=s.toks) λb o l =>?_);by_cases j:b=T
 ·subst j;rw[m]at l;cases l;have q:=cR (Obj.mapFields λx=>x.setIfInBounds 3 aM) m (by rw[g];exact Obj.isFreed_of_fields e);rw[g]at q;exact q
 ·rw[bF _ _ (bG j)];exact l
theorem XT.Ve(x:XT H a C w T G N):wK G C w:=⟨x.cls,x.dict,by
 obtain⟨c,b,_⟩:=x.fl;unfold PySem.W.notCls;rw[b]⟩
theorem Qx(I:Inv X B t H s)(k:H a=Y (eL a G))(d:wK G C w)(j:H w=Y (.xd e)):∃(b:Obj) (c:aG->Option ak),PySem.W.InstAt s.heap a G C (Y b)/\(∀name,lookIn name b=Y (c name))/\∀f,pE (e.lookup f) (c f):=by
 obtain⟨c,g,r⟩:=(show fJ X.prog X.w H s.heap w (.xd e) from I.eW w _ j);obtain⟨b,h,i⟩:=Be g;exact⟨b,c,⟨eL.get I.eW k,d.cls,d.no,by rw[d.dict];exact h⟩,i,r⟩
structure Nr(K:aT)(C:az)(f:aG):Prop where
 pg:UL K C
 hd:pk K C=true
 na:hR K (.ref C) f=some none
def QA(K:aT)(d:TE)(f:aG):TE:=λt H Q=>d t H λx b=>∃a C w G c v,x=.ref a/\b a=Y (eL a G)/\wK G C w/\b w=Y (.xd c)/\Nr K C f/\c.lookup f=Y v/\Q v b
theorem OL{f:aG}(p:PE X e d)(y:bY e f X.env (eval e X.env)=eval e X.env):PE X (.Attribute e f b) (QA X.K d f):=by
 intro B s t H Q I h;refine Ia y (fE (p B s t H _ I h) ?_);rintro u F ⟨x,E,c,k,a,C,w,G,L,v,z,D,j,A,g,l,q⟩;subst z;obtain rfl:u=aE a:=k;obtain⟨K,m,J,o,r⟩:=Qx c D j A;obtain⟨u,n,i⟩:=pE.some_of (v:=v) (o:=m f) (by rw[<- l];exact r f);exact Kt c.rj J g.pg (PySem.W.findObj_own g.hd g.na rfl (by rw[o,n])) (Bm i) ⟨v,E,c.tok _,i,q⟩
structure Wu(K:aT)(C:az):Prop where
 pg:UL K C
 hd:pk K C=true
 ha:hR K (.ref C) "__class__" = some (some (.builtin "object.__class__"))
 hn:PySem.W.specialIn K (.builtin "object.__class__") "__get__" = some (some (.builtin "getset_descriptor.__get__"))
 htk:PySem.W.takesIn K (.builtin "object.__class__")=some true
 hm:PySem.W.mroIn K C (.type "object")=some true
theorem Ra{W:cZ}(I:Inv X B t H s)(k:H a=Y (eL a G))(g:wK G C w)(j:H w=Y (.xd i))(d:Wu X.K C)(e:ja X.K (.ref C) c=Y b)(h:∀f,Inv X B t H f->Q (.bool b) f):
  be (aU X.prog X.w) A (J_ (.builtin "isinstance") [.ref a,c]) Q E s:=by
 obtain⟨m,n,J,o,r⟩:=Qx I k g j;exact rM (Mr d.pg d.hd d.ha d.hn d.htk d.hm) I.rj J e (λz=>nomatch z) (λl=>h _ (I.tok _))
end
section
variable {X:Cx}{f:az}{m:Pos}
end
section
variable {X:Cx}{f:DF}
end
def XIn(H:Hp)(a C d:az):Prop:=(∃t,H a=Y (eL a (Rc C t d)))∨∃T b c,XT H a C d T b c
def Ir(P:bt)(w:cZ):Q5:=λk H s E e b=>∃a C d T f h c,e=.ref a/\b.os=s.os/\AN b.gens/\Un (yk k) [] H c s.heap b.heap/\nU P w c b.heap/\XT c a C d T f h/\E (.ref a) (Y d) c
section
variable {P:bt}{w:cZ}{K:aT}{l:aG->Option ak}{base:cD}{N:List aG}{m:aG}{p:Scope}{f:az}{r:ak}{A:gD}{k:List Env}{u s:av}{v H:Hp}{E:XK}{g:List (az×Obj)}{j:St}{a C d:az}
theorem Sq(I:Inv (qI (Ir P w) P w K l base N m p f r A k u v E) g j H s)(x:XIn H a C d)(W:∀i D,(∀b o,b≠a->H b=Y o->i b=Y o)->i a=Y (eL a D)->D.cls=.ref C->E (.ref a) (Y d) i):(qI (Ir P w) P w K l base N m p f r A k u v E).xe (.ref a) s:=by
 rcases x with⟨t,R⟩|⟨T,D,oT,x⟩
 ·have hx:=eL.get I.eW R;refine Dk (V:=aU P w) (base:=base) I.ok.frames I.stack rfl hx rfl rfl rfl λh' T X ext S =>?_
  obtain⟨c,y,h,B,g1,Q,g3,g4,g5,g6,O,g8,g9,L⟩:=ext;obtain⟨U,F⟩:=Hr I.eW I.xY R X g1 g8 S;have G:H T=none:=I.eW.fresh (nM S.symm);have J:=I.zQ (s':={ s with heap:=h' }) (g:=[]) rfl U F I.bare (λb z=>absurd z (by simp));refine⟨a,C,d,T,c,h,_,rfl,J.os,J.bare,J.base,J.eW,⟨br,Q,g3,⟨y,g4,g6,_,g5⟩,O,by rw[aZ O,br],⟨B,g9,L⟩⟩,W _ c (λb o hb e =>?_) br Q⟩;rw[aZ hb,aZ (bI e G)];exact e
 ·exact ah (Hw (X:=qI (Ir P w) P w K l base N m p f r A k u v E) rfl rfl I x λs' i T' c h J q n=>⟨a,C,d,T',c,h,i,rfl,J.os,J.bare,J.base,J.eW,q,W i c n q.ea q.cls⟩)
end
section
variable {X:Cx}{g:List (az×Obj)}{j:St}{H:Hp}{s:av}
theorem Inv.HZ{w:XK}(I:Inv X g j H s)(c:Ir X.prog X.w X.stack H s w e t):∃a C d T i n h,e=.ref a/\Inv X g j h t/\XT h a C d T i n/\w (.ref a) (Y d) h:=by
 obtain⟨a,C,d,T,i,n,h,rfl,A,f,y,o,x,q⟩:=c;exact⟨a,C,d,T,i,n,h,rfl,I.zQ A y o f (λb z=>absurd z (by simp)),x,q⟩
end
structure XF(K:aT)(hb:Hp)(c:aG)(n:Int)(H:Hp)(a dx:az):Prop where
 cl:∃C oe,gU K aI c=some (some (.ref C))/\H a=some (eL a oe)/\oe.cls=.ref C
 dx:H dx=some (.xd [("at",.int n)])
 same:bD hb H
 fr:hb a=none
theorem XF.step{K:aT}{H:Hp}{a d:az}{f:Obj}{C:az}(x:XF K i c n H a d)(t:gU K aI c=Y (Y (.ref C)))(q:∀b o,b≠a->H b=Y o->h b=Y o)(y:h a=Y (eL a f))(w:f.cls=.ref C):XF K i c n h a d:=by
 obtain⟨E,s,B,A,D⟩:=x.cl;refine⟨⟨C,f,t,y,w⟩,q _ _ (λz =>?_) x.dx,λb o e=>q b o (λz =>?_) (x.same b o e),x.fr⟩
 ·have:=x.dx;rw[z,A]at this;cases this
 ·rw[z,x.fr]at e;cases e
structure Fl(X:Cx)(B:Bs)(c:aG)(n:Int)(H:Hp)(a dx:az):Prop where
 xf:XF X.K B.2 c n H a dx
 pin:∀i b,(i,b)∈B.3->b≠a
 Z3:∃C,gU X.K aI c=some (some (.ref C))/\XIn H a C dx
def xj(X:Cx)(B:Bs):Prop:=∀c n,B.4 c n->∀g j H s a d,Inv X g j H s->Fl X B c n H a d->X.xe (.ref a) s
theorem xj.to{X:Cx}{B C:Bs}(h:xj X B)(t:C.3=B.3)(e:C.2=B.2/\C.4=B.4):xj X C:=λc n o g j H s a d I f=>
 h c n (e.2 ▸ o) g j H s a d I ⟨e.1 ▸ f.xf,λi b q=>f.pin i b (t ▸ q),f.Z3⟩
inductive Xo (α:Type) where
 |ok (a:α)|er (c:aG) (n:Int)
structure ZO(P:bt)(w:cZ)(K:aT)(mg:aG->Option ak)(base:cD)(c:aG)(k:Nat):Prop where
 ex:∃C fI Wa,gU K aI c=some (some (.ref C))/\mg c=some (.ref C)/\Q4 K C fI/\b_ P w K mg base gS k fI Wa ["self", "at"] (x5 C "at")/\Binds K Wa ["self", "at"] []
section
variable {X:Cx}
def BU(c:aG)(f:DF):DG:=λa=>(f a).bind λd=>match d with|.int n=>Y (.ex c n)|_=>M
theorem JI{c:aG}{f:DF}(hx:ZO X.prog X.w X.K X.mg X.base c k)(hr:eM (k+1) X.A)(x:xj X B)(hg:Gl X c)(he:PE X e (tP X.K own f))(hp:B.3=[])(hc:X.calm=true:=by rfl)(A:(c==("__debug__" : aG))=false:=by decide)(q:ao [e] X.env=(Z_,eval e X.env)::ao [] X.env:=by rfl)(s:(cv u (ao [] X.env)).any (·.1)=false:=by rfl):
  PS X (.Raise (Y (.Call (.Name c p) [e] [] u)) M j) (ib X.K B l own T (BU c f)):=by
 obtain⟨C,fI,Wa,K,hm,y,F,hb⟩:=hx.ex;refine(Lu y hc (Lx y F hr hg hm hb (cJ he gA q) A q s)).imp ?_;rintro D σ H ⟨G,ρ,o,S,g,k⟩;unfold BU at g;obtain⟨d,ef,g⟩:=aa.1 g;split at g
 ·rename_i n;cases g;refine⟨G,ρ,.int n,S.gh,S.ji,ef,λv G' H' E r =>?_⟩;have R:=S.ext E;cases bX.mp r;refine⟨.int n,rfl,λa t Q N z w=>⟨a,t,Q,rfl,br,λm s' I =>?_⟩⟩;refine x c n k m σ _ s' a Q I ⟨⟨⟨C,_,K,br,rfl⟩,by rw[aZ w,br],λb o e =>?_,R.h0.free N⟩,λi b h=>(by rw[hp]at h;cases h),C,K,.inl ⟨t,br⟩⟩;have J:=R.h0 b o e;have P:b≠a:=bI J N;rw[aZ P,aZ (bI J z),aZ P];exact J
 ·cases g
abbrev DX:=cy->Option (Xo D)
def ZI(K:aT)(B:Bs)(G H:Hp)(Q:VK):Xo D->Prop
 |.ok d=>∀v b a,f_ G H b a->cO K b d v->Q v a|.er c n=>B.4 c n
inductive tX (K:aT) (B:Bs) (own:List Nat) (f:DX) (b:St) (H:Hp) (Q:VK):Prop
 |mk G a o:SR K B own G H b a->f a=some o->ZI K B G H Q o->tX K B own f b H Q
def G8(f:DX):DG:=λa=>(f a).map λr=>match r with|.ok d =>.rt d|.er c n =>.ex c n
theorem Pq{f:DX}(d:PE X e (tX X.K B own f)):PS X (.Return (Y e) u) (ib X.K B l own T (G8 f)):=(qw d).imp λD m H ⟨G,b,o,S,a,k⟩=>by
 unfold G8 at a;obtain⟨r,g,a⟩:=aq.1 a;refine⟨G,b,r,S,g,?_⟩;cases r with
 |er c n=>cases a;exact k|ok q=>cases a;exact λv i h E r=>k v i h (S.mX.trans E) r
end
def ZT(K:aT)(G H:Hp)(Q:VK)(E:XK):Xo D->Prop
 |.ok d=>∀v e a,f_ G H e a->cO K e d v->Q v a|.er c n=>∀x b a,XF K H c n a x b->E (.ref x) (Y b) a
inductive Ao (K:aT) (F:List D->Option (Xo D)) (b:List V) (H:Hp) (Q:VK) (E:XK):Prop
 |mk G a r:bD G H->bz K G a b->F a=some r->ZT K G H Q E r->Ao K F b H Q E
def LN:DO->Option (Xo D)
 |.rt d=>Y (.ok d)|.ro a=>Y (.ok (.lst a))|.nx _=>Y (.ok .dJ)|.ex c n=>Y (.er c n)|_=>M
def DI(n N:Nat)(g:DG)(a:List D):Option (Xo D):=if a.length=n then (g (ic N a)).bind LN else M
section
variable {P:bt}{K:aT}
theorem hG.VD{f:az}{R:List aG}(F:hG K x e z f fd)(S:bB N R (aB z)){own own':List Nat}{g:DG}(D:∀i∈own,R.length<=i) (hb:∀(p:ak) (A:gD) (b:List Env) (s:av) (H:Hp) (E:XK),eM k (A.deeper (qm e (aB z) s.heap.objs.size f p))->∀(B:Bs),B.3=[]->xj (qI (Ir P w) P w K y L N e (aB z) f p A b s H E) B ->
   oP (qI (Ir P w) P w K y L N e (aB z) f p A b s H E) (gv z) (ib K B [] own own' g)):b_ P w K y L (Ir P w) (k+1) f fd R (Ao K (DI R.length N.length g)):=by
 obtain⟨oc,od,kV,Qk,pm,an,p,ct,W8,rfl,lk,Xi⟩:=F.ex;refine QX lk Xi S (λvs H Q E h =>?_) (λA b s H vs Q E hr h =>?_)
 ·obtain⟨G,ds,r,gh,rr,m,_⟩:=h;unfold DI at m;split at m
  ·rw[<- rr.length];assumption
  ·cases m
 ·obtain⟨G,ds,r,gh,rr,m,q⟩:=h;unfold DI at m;split at m
  ·rename_i hl;have hfl:xj (qI (Ir P w) P w K y L N e (aB z) f p A b s H E) ⟨G,H,[],λc n=>∀x dx t,XF K H c n t x dx->E (.ref x) (Y dx) t⟩:=λc n hf tJ σ H1 s1 x dx I fl=>by obtain⟨C,hC,xi⟩:=fl.Z3;exact Sq I xi λt oe h1 X h3=>hf x dx t (fl.xf.step hC h1 X h3)
   refine⟨_,hb p A b s H E hr ⟨G,H,[],_⟩ rfl hfl,?_⟩;obtain⟨o,eg,m⟩:=aa.1 m;refine⟨G,_,o,u4 gh rr (by rw[hl];exact D),eg,?_⟩;cases o with
   |rt d'=>cases m;exact λv J t E r=>q v J t E r
   |ro rs=>cases m;exact λa us J t E h1 X h3 r=>q _ (dg J a (.lst us)) t (E.freeze h1 X h3) (cW.mpr ⟨a,us,rfl,br,bz.mono (.alloc X) rs r⟩)
   |nx j=>cases m;exact λσ J t S=>q _ J t S.mX (gI.mpr rfl)
   |ex c n=>cases m;exact q|rm d j=>cases m|rf i j=>cases m|bk j=>cases m|ct j=>cases m
  ·cases m
structure GF(P:bt)(w:cZ)(K:aT)(mg:aG->Option ak)(base:cD)(c m:aG)(k:Nat)(sp:Sp):Prop where
 ex:∃C f fd ps,gU K aI c=some (some (.ref C))/\ET K C/\GI K C m f/\b_ P w K mg base (Ir P w) k f fd ps sp/\Binds K fd ps []
theorem GF.mono{c m:aG}(h:GF P w K y L c m j a)(d:j<=k):GF P w K y L c m k a:=by
 obtain⟨C,f,p,b,o,n,i,g,e⟩:=h.ex;exact⟨C,f,p,b,o,n,i,g.mono d,e⟩
end
section
variable {X:Cx}
inductive EX (K:aT) (B:Bs) (f:ak) (d:Option az) (H:Hp):Prop
 |mk a e c n:f=.ref a->d=some e->XF K B.2 c n H a e->(∀i b,(i,b)∈B.3->b≠a)->B.4 c n->EX K B f d H
theorem Vx(f:xj X B):qJ (Ir X.prog X.w) X (EX X.K B):=λb i H s e k I c=>by
 obtain⟨a,C,E,T,p,q,F,rfl,J,d,K,D,c,n,x,w,g,r,v⟩:=I.HZ c;cases x;cases w;obtain⟨G,o,t,A,z⟩:=g.cl;have m:=eL.get J.eW d.ea;have h:=eL.get J.eW A;rw[m]at h;cases h;have:C=G:=by have:=d.cls.symm.trans z;cases this;rfl
 subst this;exact f c n v b i F k a E J ⟨g,r,C,t,.inr ⟨T,p,q,d⟩⟩
def rN(c m:aG)(F:List D->Option (Xo D))(f:DF)(g:DL):DX:=λa=>(f a).bind λx=>match x with
 |.ins d b h=>if d=c/\m∉b then (g a).bind λe=>F (.ins d b h::e) else M
 |_=>M
theorem IA{m:aG}{F:List D->Option (Xo D)}{f:St}(n:gU X.K aI c=Y (Y (.ref C)))(hp:B.3=[])(ht:∀f H Q,BP X.K own g f H Q->t f H Q)(h:tX X.K B own (rN c m F A g) f H Q):AU C m (Ao X.K F) [] (EX X.K B) (tP X.K own A) t f H Q:=by
 obtain⟨G,r,d,S,e,q⟩:=h;have gh:=S.gh;have k:=S.ji;unfold rN at e;rw[aa]at e;obtain⟨x,I,e⟩:=e;split at e
 ·rename_i c' ks ds;split at e
  ·rename_i hc;obtain⟨rfl,hm⟩:=hc;rcases E:g r with _|xs
   ·rw[E]at e;cases e
   rw[E]at e;refine⟨G,r,_,gh,k,I,λv G1 H1 w N =>?_⟩;obtain⟨a,C',dx,vs,rfl,P,ha,l,rs⟩:=mr.mp N;rw[n]at P;cases P;refine⟨a,dx,_,rfl,w.gh _ _ ha,kR (K:=X.K) (G:=G1) hm,ht _ _ _ ⟨G1,r,xs,w.gh,k.ext w,E,λus G2 H2 K r2 =>?_⟩⟩;show Ao X.K F (.ref a::(us++[])) H2 Q (EX X.K B);rw[bU];refine⟨G2,_,d,K.gh,.cons (cO.mono K.gg _ N) r2,e,?_⟩;have p:=w.trans K;cases d with
   |ok d'=>exact λv G3 H3 E3 r3=>q v G3 H3 (p.trans E3) r3
   |er c2 n2=>
    intro x J H' s;have j:∀b o,B.2 b=Y o->H2 b=Y o:=λb o z=>p.hh _ _ (S.h0 b o z)
    refine⟨x,J,c2,n2,rfl,rfl,⟨s.cl,s.dx,λb o z=>s.same b o (j b o z),?_⟩,λi b R=>(by rw[hp]at R;cases R),q⟩;rcases z:B.2 x with _|o
    ·rfl
    have:=j x o z;rw[s.fr]at this;cases this
  ·cases e
 ·cases e
theorem MX{c m:aG}{F:List D->Option (Xo D)}{p:DF}{g:DL}(h:GF X.prog X.w X.K X.mg X.base c m k (Ao X.K F))(s:eM k X.A)(d:xj X B)(t:B.3=[])(v:PE X o (tP X.K own p))(E:PA X (e::O) (BP X.K own g))(a:ao (e::O) X.env=(Z_,eval e X.env)::ao O X.env:=by rfl)(b:(cv u (ao O X.env)).any (·.1)=false:=by rfl) (r:eval (.Call (.Attribute o m U) (e::O) [] u) X.env=(do
   let i <- eval o X.env
   lO U.atName
   let (f,first) <- jw [i] (jr i m pl)
   mo u f first (cv u (ao (e::O) X.env)) (f' u (cQ [] X.env))):=by rfl):PE X (.Call (.Attribute o m U) (e::O) [] u) (tX X.K B own (rN c m F p g)):=by
 obtain⟨C,f,K,J,n,x,w,G,A⟩:=h.ex;exact(ya (pl:=pl) v x w G s A .nil (Vx d) E a b r).imp λI H Q q=>IA n t (λ_ _ _ z=>z) q
end
section
variable {X:Cx}{f:az}{m:aG}{s:Pos}
def QE(C i:az)(m:aG)(w:Sp)(j:Nat)(E:TE)(t:TA)(G:TS):TS:=λD k H=>E k H λx K=>∃u r F,x=.ref u/\K u=Y (.ins i r F)/\F.lookup m=M/\t k K λL R=>w (.ref u::L) R (λv f=>D.nx k f) λc q f=>∃a I,c=.ref a/\q=Y I/\(∃e,f a=Y (eL a e)/\e.cls=.ref C) /\
 ∀p e z,f a=Y (eL a p)->(∀b o,b≠a->f b=Y o->z b=Y o)->z a=Y (eL a e)->wK e C I->G { nx:=λn P=>D.nx (n.set j M) P,rt:=λ_ _=>False } (k.set j (Y (.ref a))) z
theorem OE(K:ET X.K i)(hmm:GI X.K i m f)(F:b_ X.prog X.w X.K X.mg X.base (Ir X.prog X.w) k f O J w)(hr:eM k X.A)(hbi:Binds X.K O J [])(ho:PE X.Jj o E)(ha:PA X.Jj (e::g) t)(hN:X.N.Nodup)(hj:X.N[j]?=Y n)(hn:X.env.scope.names.lookup n=Y .local)(V:Q4 X.K C N)(hgC:Gl X y)(hmC:X.mg y=Y (.ref C))(hst:X.stack=X.env::X.outer)(hf:X.env.frame=Y L)(hsu:∀a,oP (X.mark (.ref a)) (U::B) G)(hdC:(y==("__debug__" : aG))=false:=by decide)(he:ao (e::g) X.env=(Z_,eval e X.env)::ao g X.env:=by rfl)(Xg:(cv d (ao g X.env)).any (·.1)=false:=by rfl)(YN:cp (.Call (.Attribute o m A) (e::g) [] d) M Q.line X.env=dR false:=by rfl) (ht:eval (.Call (.Attribute o m A) (e::g) [] d) X.env=(do
   let ov <- eval o X.env
   lO A.atName
   let (f,first) <- jw [ov] (jr ov m pl)
   mo d f first (cv d (ao (e::g) X.env)) (f' d (cQ [] X.env))):=by rfl) :
  PS X (.Try [.Expr (.Call (.Attribute o m A) (e::g) [] d) Q] (.ExceptHandler (Y (.Name y T)) (Y n) (U::B) c::l) [] [] h) (QE C i m w j E t G):=by
 intro tJ s σ H D I p;refine wpAny_Try_except (NG (wpAny_Expr_any ?_ I.quiet YN));refine PySem.W.methodCall_KW (pl:=pl) (dS (ho tJ s σ H _ (I.xn _) p) ?_ λ_ _ z=>cE z) ht;rintro u s0 ⟨x,H0,I0',rx,a0,dx0,fs,ex,ea,b,q0⟩;subst ex;obtain rfl:u=aE a0:=rx;have I0:Inv X tJ σ H0 s0:=I0'.rP;refine qD I0 ea K hmm b ?_;refine PySem.W.callWith_K (first:=[.ref a0]) (h₀:=X.base) I.ok.mod.Sw hmm.kp (dS (ha d tJ s0 σ H0 _ (I0.xn _) q0) ?_ λ_ _ z=>cE z) he Xg;rintro us s1 ⟨vs,H1,I1',r,q⟩;refine⟨I1'.rj,?_⟩;have I1:Inv X tJ σ H1 s1:=I1'.rP;have r:cg (.ref a0::vs) (.ref a0::us) :=.cons rfl r;have hl:((aE a0::us)++[]).length=J.length:=by rw[bU,<- r.length];exact F.len _ _ _ _ q
 have Xk:=hbi s1 (aE a0::us) I1.rj hl;rw[bU]at Xk;refine qO (pI (F.run X.A X.stack s1 H1 ⟨.ref a0::us,[]⟩ (.ref a0::us) (.ref a0::vs) _ _ hr I1.Pn Xk r q) λr s' hq =>?_);cases r with
 |ok fl=>
  cases fl with
  |ret u=>obtain⟨v,H2,I2,rv,q2⟩:=I1.after hq;exact nV (nV ⟨_,H2,I2,q2⟩)
  |next=>exact cE hq|brk=>exact cE hq|cont=>exact cE hq
 |error ev=>
  dsimp only [CR]at hq;obtain⟨a,C',dx,P,oe,oT,H2,rfl,I2,xt,a2,dx',ec,ed,⟨oe2,YW,Y8⟩,q2⟩:=I1.HZ hq;cases ec;cases ed;have qa:=eL.get I2.eW xt.ea;have qb:=eL.get I2.eW YW;rw[qa]at qb;cases qb;have:C'=C:=by have:=xt.cls.symm.trans Y8;cases this;rfl
  subst this;refine Hw hst hf I2 xt λs3 H3 T3 oe3 oT3 I3 UX same =>?_
  obtain⟨nm,q',R,bs,bm,UK,sn,sub,ab,col,dd,k0,k1,k2,k3,k5,S,Bn,newId,YA,Mx,YJ,XJ,mN,Fn,Zd,FB,hbm,lk,hT,hni⟩:=V.cl;refine wpAny_handleBy_cons ?_ (λz=>nomatch z);have IM:=I3.mark (.ref a);refine codeAny_handlers_test (sP IM hgC hmC ?_ hdC);obtain⟨h3,g3,d3,t3,os3⟩:=s3;refine wpAny_excMatches_sub_self (NB I3.rj lk) (eL.get I3.eW UX.ea) UX.cls hbm ?_;show nW _ _ _ _ _;refine codeAny_handlers_suite_as (JB I3 UX λs4 I4 =>?_);refine u0 I4 hN hj (.inl hn) (show RelV (.ref a) _ from rfl) (λs5 I5 =>?_) (.inr hn);refine dS (hsu a tJ s5 _ _ _ (I5.mark (.ref a)) (q2 oe oe3 H3 xt.ea same UX.ea UX.Ve)) (λfl s6 W6 =>?_) λ_ _ z=>cE z
  cases fl with
  |next=>obtain⟨σ',H6,I6,q6⟩:=W6;exact Pg (I6.unmark I.ok) hN hj hn λs7 I7=>⟨_,_,I7,q6⟩
  |brk=>obtain⟨_,_,_,z⟩:=W6;exact cE z
  |cont=>obtain⟨_,_,_,z⟩:=W6;exact cE z
  |ret u=>obtain⟨_,_,_,_,_,z⟩:=W6;exact cE z
end
section
variable {X:Cx}{f:List Nat}{m:Pos}
def IU(o:D->D->Option D)(d b:DM)(g h:DG):DG:=λa=>(m2 o d b a).bind λp=>match p.1 with|.bl c=>if c then g p.2 else h p.2|_=>M
theorem M5{s:DM}(z:AF X (gr q) o)(I:PE X a (tM X.K B e t))(F:PE X b (tM X.K B e s))(E:gy q b=Z_)(K:oP X A (ib X.K B f e l g))(J:oP X C (ib X.K B f e l h)):
  PS X (.If (.Compare a [q] [b] m) A C n) (ib X.K B f e l (IU o t s g h)):=(Lw (Hi z I F E) K J).imp λD P H ⟨G,x,r,S,j,k⟩=>by
 unfold IU at j;obtain⟨p,L,j⟩:=aa.1 j;obtain⟨d,i⟩:=p;cases d with
 |bl c=>
  refine QI ⟨G,x,.bl c,i,S,L,λv w O u N y=>⟨c,dn.mp y,?_⟩⟩;cases c with
  |true=>exact zg ⟨w,i,r,u,j,k⟩|false=>exact xG ⟨w,i,r,u,j,k⟩
 |_=>cases j
def L7:D->D->Option D
 |.bl i,.bl j=>Y (.bl (!(i==j)))|_,_=>M
theorem OT:pG X (gr .IsNot) (λx y H Q=>∃i j,x=.bl i/\y=.bl j/\Q (.bl (!(i==j))) H):=by
 intro a s d H x y v u Q I c b h;obtain⟨i,j,rfl,rfl,q⟩:=h;cases c;cases b;exact isnot_bool (Td I q rfl)
theorem W9:AF X (gr .IsNot) L7:=pG.imp OT λx y H Q ⟨G,i,h,d,g,c,b,a,q⟩=>by
 unfold L7 at a;split at a
 ·cases a;exact⟨_,_,c.bl,b.bl,q _ G H (.refl g) (dn.mpr rfl)⟩
 ·cases a
end
section
variable {X:Cx}{m:Pos}
def Li(i j:Nat)(c f:aG):DG:=λa=>(rh c f j a).bind λq=>match cU q.1 f with
 |.fs _ _=>Y (.nx (a.set i (Y (.dN j [.fld f]))))|_=>M
theorem PD{i:Nat}{c f:aG}(R:X.N.Nodup)(N:X.N[i]?=Y y)(g:Loc X.env.scope y)(h:PE X (.Name x p) (iC j))(J:rp X.K c f)(r:j∈own:=by decide)(q:Ae j∈own:=by decide)(P:i∈own:=by decide)(t:Ae i∉own:=by decide)(s:j≠i:=by decide)(d:∀a,(i,a)∉B.3:=by intro a;simp_all)(A:f∈CO:=by decide)(w:bY (.Name x p) f X.env (eval (.Name x p) X.env)=eval (.Name x p) X.env:=by rfl)(O:cp (.Attribute (.Name x p) f u) (Y (.Name y n)) m.line X.env=dR false:=by rfl)(Q:X.fn y=Z'∨X.env.scope.names.lookup y=Y .local:=by first|exact .inl rfl|exact .inr rfl|assumption):
  PS X (.Assign [.Name y n] (.Attribute (.Name x p) f u) m) (ib X.K B l own own (Li i j c f)):=(ma R N g (qy h w) O Q).imp λD σ H ⟨G,ρ,o,S,b,k⟩=>by
 unfold Li at b;obtain⟨⟨fk,ks,ds,t1⟩,et,b⟩:=aa.1 b;simp only at b;split at b
 ·rename_i c2 U E;cases b;obtain⟨v,e,V⟩:=lW et;rw[E]at e;obtain⟨a,y',T1,F,K,L,nd,_⟩:=S.yw r v e V;obtain⟨C,dx,T,I,f1,f2⟩:=S.Gd r v F K;obtain⟨b',o',rfl,g3,_⟩:=L.root (λz=>by cases z);exact⟨_,F,a,C,dx,T,_,rfl,f1,(J C I).1,(J C I).2,f2,k _ G H (S.La r q P s t d v F K e (by simpa [zr] using A))⟩
 ·cases b
theorem zG:oP X a (ib X.K B l own own1 λ_=>M):=IZ.imp <|by rintro D b H ⟨_,_,_,_,e,_⟩;cases e
def Ha(b:List Nat)(g:DG):DG:=λa=>if (b.all λi=>(eV i a).isNone)=Z' then g a else M
theorem MZ{s:List qP}{p:List Nat}(A:List Nat)(h:oP X s (ib X.K B l own1 p g))(b:∀j∈own,j∈own1:=by decide)(I:∀j∈own1,j∈own∨j∈A:=by decide)(J:∀j∈own,Aw j∈own1->Aw j∈own:=by decide):oP X s (ib X.K B l own p (Ha A g)):=
 h.imp λD P H ⟨G,y,o,S,w,k⟩=>by
  unfold Ha at w;split at w
  ·rename_i K;have t:∀i∈own1,∀d,y[i]?=Y (Y d)->i∈own:=λi f d e=>by
    rcases I i f with z|z
    ·exact z
    ·have:=cA.mp K i z;simp[eV,e]at this
   obtain⟨F,W⟩:=S.ow;exact⟨G,y,o,⟨S.gh,S.g0,S.h0,S.fr,λi d f e=>S.env i d (λz=>f (b i z)) e,⟨F,λi d f e=>W.it i d (t i f d e) e,λi d f e=>W.ok i d (t i f d e) e,λi j d c f x E C=>W.ap i j d c (t i f d E) (t j x c C) E C⟩,S.len,λi a h=>⟨b i (S.pin i a h).1,(S.pin i a h).2⟩,λj r q x L e=>by have v:=t j x _ e;obtain⟨O,N,m⟩:=S.dN j r q v (J j v L) e;exact⟨b r O,b _ N,m⟩⟩,w,k⟩
  ·cases w
def Lg(i:Nat):DG:=λa=>(xo i a).map λb =>.rt b.2
theorem Pp(h:PE X (.Name x p) (iC i))(j:i∈own:=by decide):PS X (.Return (Y (.Name x p)) m) (ib X.K B l own own1 (Lg i)):=(qw h).imp λD v H ⟨G,w,o,S,d,k⟩=>by
 unfold Lg at d;obtain⟨⟨s,t⟩,q,d⟩:=aq.1 d;cases d;obtain⟨a,T,r,g,y,f,F,W,z⟩:=S.tree j (k_ q);exact⟨_,r,k _ (jS G H T) H ⟨S.h0,S.g0.trans (nQ λb c=>(f b c).1),me S.gh,λb o e=>by
  by_cases c:b∈T
  ·exact .inr (f b c).2
  ·rw[mF c]at e;exact S.fr b o e⟩ (g.frozen (λb c=>(f b c).1) λb c=>c)⟩
end
open PySem.W in
def Gj(K:aT)(C d:az):Bool:=match K.lookup C with
 | some ⟨.type "type",_,.cls a,c⟩=>(match a.mro,c.toList with
  |.ref e::b,[_,_,_,_,Y (.builtin n),_]=>e==C&&n == "ValueError.__new__" && !a.hasDel&&a.hasDict&&tailIn K [.type "ValueError",.type "Exception",.type "BaseException",.type "object"] b&&b.contains (.type "BaseException")&&nsOkIn K a.ns&&gU K a.ns "__init__" == Y (Y (.ref d))
  | _,_=>Z_)
 |_=>Z_
theorem VE{K:aT}{v:ak}(e:PySem.W.nsOkIn K N=Z')(q:gU K N x=Y (Y v)):∃b:aG->Option ak,(∀h:cD,K.In h->h.Ns N b)/\b x=Y v:=by
 unfold PySem.W.nsOkIn at e;split at e
 ·rename_i c d g n l f;refine⟨nsFind g,λh X=>⟨_,g,n,X _ _ f,rfl,λi a =>?_,λ_=>rfl⟩,?_⟩
  ·have:=Array.all_eq_true'.mp e i a;split at this
   ·rename_i s t j;exact⟨s,t,j⟩
   ·cases this
  ·unfold gU at q;rw[f]at q;simp only at q;split at q
   ·rename_i i k;cases q;unfold nsFind findBy;rw[<- rK];rw[k];rfl
   ·split at q<;>cases q
 ·cases e
theorem Q'{K:aT}(q:Gj K C i=Z')(H:PySem.W.typeIn K (.ref i)=Y (.type "function"))(B:qk K (.ref C)=Z'):Q4 K C i:=by
 refine⟨?_,H,B⟩;unfold Gj at q;split at q
 ·rename_i J L k E;split at q
  ·rename_i Q N s r p o n m u t;simp only[aV,beq_iff_eq,Bool.not_eq_true']at q;obtain⟨⟨⟨⟨⟨⟨⟨rfl,rfl⟩,a⟩,b⟩,D⟩,g⟩,c⟩,d⟩:=q;obtain⟨y,R,z,x,w,P,v,e,O,j,I⟩:=L;dsimp only at u a c d b;subst u a b;have f:k=#[s,r,p,o,Y (.builtin "ValueError.__new__"),m]:=by obtain⟨l⟩:=k;simp only at t;rw[t]
   subst f;obtain⟨A,G,F⟩:=VE c d;exact⟨y,w,x,R,N,_,v,e,O,j,J,s,r,p,o,m,_,_,_,_,_,_,_,A,PySem.F.excBase_ValueError,by decide,PySem.F.excBase_ValueError,g,E,λh X=>⟨PySem.W.tail_of_in X D,G h X⟩,F⟩
  ·cases q
 ·cases q
end L2
namespace K21
open PySem L2
local macro_rules | `(tactic|walk_at "s") => `(tactic|exact⟨rfl,rfl,rfl,by decide +kernel,rfl,by decide +kernel,by decide +kernel⟩)
abbrev KL:List (aG×aG):=[("Coming", "able"),("Coming", "facts"),("Coming", "full"),("Coming", "opened"),("Coming", "rests"),("Coming", "rows"),("Coming", "taken"),("Facts", "asks"),("Facts", "bits"),("Facts", "by_name"),("Facts", "by_text"),("Facts", "inner"),("Facts", "leads"),("Facts", "question"),("Facts", "starred"),("Facts", "stars"),("Lean", "coming"),("Row", "atoms"),("Row", "fits"),("Row", "hoped"),("Row", "hoped_around"),("Row", "named"),("Row", "number"),("Row", "reached"),("Row", "reached_around"),("Sift", "coming"),("Sift", "numbers")]
abbrev ZL:List aG:=["ValueError", "all", "any", "bool", "enumerate", "int", "isinstance", "len", "list", "range", "sorted", "zip"]
structure KS(K:aT)(mg:aG->Option ak):Prop where
 c:∀p∈KL,rp K p.1 p.2
 z:∀x∈ZL,mg x=none
theorem KS.q{K:aT}{t:aG->Option ak}{c f:aG}(k:KS K t)(h:(c,f)∈KL:=by decide):rp K c f:=k.c _ h
theorem KS.y{K:aT}{t:aG->Option ak}{x:aG}(k:KS K t)(h:x∈ZL:=by decide):t x=none:=k.z _ h
def JQ(own y G:List Nat):List Nat:=own.filter λi=> !(y.contains i||G.contains i)
section
variable {X:Cx}{own y G:List Nat}{e:Expr}
theorem We(b:PS X N (ib X.K B I own own g))(a:oP X O (ib X.K B I own L h)):oP X (N::O) (ib X.K B I own L (ba g h)):=aH b a
theorem Zu{f:DF}(h:PE X e (tP X.K (JQ own y G) f))(a:mG own (JQ own y G) y G=true:=by decide):PE X e (tP X.K own (lE y G f)):=Nb _ y G h a
theorem Zo{f:DT}(h:PT X e (rg X.K (JQ own y G) f))(a:mG own (JQ own y G) y G=true:=by decide):PT X e (rg X.K own (Am y G f)):=Q2 _ y G h a
theorem Zt{f:DL}(h:PE X e (tF X.K (JQ own y G) f))(a:mG own (JQ own y G) y G=true:=by decide):PE X e (tF X.K own (QY y G f)):=Q3 _ y G h a
end
local macro_rules | `(tactic|walk_at "o") => do
 let o ← `(_)
 let f : String → Lean.Term → Lean.MacroM Lean.Term := fun s x=>do
  let a ← ((s.splitOn ":").getLastD "").toList.toArray.mapM fun c=>match c with
   | '?'=>`(?_)
   | 'a'=>`(by assumption)
   | 'r'=>`(rfl)
   | 'i'=>`(.inl rfl)
   | 'q'=>`(KS.q (by assumption))
   | 'y'=>`(KS.y (by assumption))
   | 'n'=>`(wg _)
   | 'p'=>`(pv _)
   | 'v'=>`(gZ)
   | 'f'=>`(fun _ _=>?_)
   | 'x'=>return x
   | _=>`(_)
  `($(Lean.mkIdent ((s.splitOn ":").headD "").toName) $a*)
 let t ← ("PE:__x tP:__x lE:___|Zu:?/PE:__x tF:__x QY:___|Zt:?/PT:__x rg:__x Am:___|Zo:?/oP:___|nF: cK:? We:??/PS:___|zH:ari? xc:??? oI:? yn:? Pz:??q Xt:ari? Zr:?? Zp:??q Et:? Xu:ari? HQ:? Xw:? Xv:? HP:ari? To:???q Xy:ari??q M6:??q Xs:ari? Zq:?ari? Xx:??q Wf: ux:vr?ff/PE:__x tQ:___|vQ:_ dvo:p dq:?/PE:__x tP:___|vP:_ Cv: Tu: XG:?q abc:?? Nc:??? Gr:? df:? PL:aar? UI:aar?? Wp: Nf:ry? nS:aa? Wn:aa?? Gs:???n Nd: Zy:? Zx:? XE:?q TC:?? abb:?? Tv:? Tw:? abd:??? Zv:???/PE:__x tF:___|Tx:? Wo:aar? Wm:ry? XD:ry? Zw:??? Wl:ry?/PE:__x tM:____|M8:aa?? Cu:? Tp:? UG:aa? aa9:??? Xz:aar?? UE:aaq??/PA:__x BP:___|jO:?? uy:/PA:__x Ru:____|zJ:?? PF:/PT:___|Tn:???n Tn:???r Tj:? MY:? PW.pt:?/PW:___|Xr:? Zn:?? Zm:? aa7:??/PI:____|nG:? JK:ry? XB:ry? UH:ry??/PE:__x NT:____|XH:aar? Zz: ZC: TH:?/J1:___|YI: aam: YH:/PO:___|Wg:? Wh:/PE:__x iC:_|pv:_/PG:__x GX:____|XC:? Zs:?/XN:___|Vu:?? W7:/AF:___|aah: Xa: Yy: Sb: Yx: Yw: W_: QN: aag: aai: Yv: Yu: W9:|/AF:___|L6:a L5:a/PG:___|fN:ari Yo:r?".splitOn "/").toArray.mapM fun s=>do
  let p := s.splitOn "|"
  let h ← ((p.headD "").splitOn " ").foldrM f o
  let a ← ((p.getD 1 "").splitOn " ").toArray.mapM fun s=>do `(tacticSeq| refine $(← f s o))
  if p.length < 3 then `(tacticSeq| (with_reducible show $h); first $[| $a]*) else `(tacticSeq| with_reducible (show $h; first $[| $a]*))
 `(tactic| repeat' first $[| $t]*)
noncomputable def mm(i:Nat):qP:=PySem.Challenge.pw_earlysift_k25_what_a_lean_sift_refuses.main.body.getD i (.Pass ⟨0,0,0,0⟩)
noncomputable abbrev so:List (aG×Sk):=[("by_name",.di),("by_text",.di),("leads",.li .lf)]
abbrev aA:Sk :=.fs "Facts" so
noncomputable abbrev sT:List (aG×Sk):=[("rows",.li (.fs "Row" []))]
abbrev aD:Sk :=.fs "Coming" sT
abbrev Ph:List (aG×Sk):=[("coming",aD)]
abbrev dH:Sk :=.fs "Sift" Ph
abbrev Pj:List (aG×Sk):=[("coming",aD)]
abbrev dI:Sk :=.fs "Lean" Pj
def ko:=
  (ba (dZ Z_ 0 "Facts" "bits" (λi j=>i+j) (eK (.int 1)))
  (dm (mP (lE [0] [] (e2 pX (eK (.int 1)) (e2 oU (bp "Facts" "bits" (eV 0)) (eK (.int 1))))))))
def eE:=lQ 1 1 aA ko
abbrev lZ:=cC (mm 9) 1
abbrev xO:List aG:=["self"]
theorem pT:bB xO ["self"] (aB lZ):=by walk_at "s"
def iI:=
  (ba (nh 2 (bQ "Facts" "new_bit" aA eE 0 kf))
  (ba (eI (dO (e2 eP (e2 bW (eV 1) (eK (.int 0))) (eK (.str (af "inner")))))
  (dZ Z_ 0 "Facts" "inner" c_ (eV 2))
  da)
  (ba (eI (dO (e2 eP (e2 bW (eV 1) (eK (.int 1))) (eK (.str (af "*")))))
  (ba (dZ Z_ 0 "Facts" "starred" c_ (eV 2))
   (dZ Z_ 0 "Facts" "stars" (λi j=>i+j) (eK (.int 1))))
  (qt 0 "Facts" "by_name" (e2 bW (eV 1) (eK (.int 1))) (mP (lE [0] [] (e2 C9 (sr (bp "Facts" "by_name" (eV 0)) (e2 bW (eV 1) (eK (.int 1))) (eK (.int 0))) (eV 2))))))
  (dm (mP (eV 2))))))
def du:=lQ 2 3 aA iI
abbrev jU:=cC (mm 9) 3
abbrev uH:List aG:=["self", "step", "bit"]
theorem mZ:bB uH ["self", "step"] (aB jU):=by walk_at "s"
def mx:=
  (dm (vm (iL (eV 1)) [M,Y 0] (gN 0) (bQ "Facts" "enter_step" aA du 1 (iY (mP (eV 0)) kf)) 1 0 aA))
def jf:=lQ 2 2 aA mx
abbrev lg:=cC (mm 9) 2
abbrev t7:List aG:=["self", "steps"]
theorem rZ:bB t7 ["self", "steps"] (aB lg):=by walk_at "s"
def eN:=
  (ba (eI (Am [0] [] (dO (e2 (D4 Z') (eV 1) (bp "Facts" "by_text" (eV 0)))))
  (qt 0 "Facts" "by_text" (eV 1) (bQ "Facts" "new_bit" aA eE 0 kf))
  da)
  (dm (mP (lE [0] [] (e2 D5 (bp "Facts" "by_text" (eV 0)) (eV 1))))))
def cM:=lQ 2 2 aA eN
abbrev jT:=cC (mm 9) 4
abbrev uG:List aG:=["self", "text"]
theorem mY:bB uG ["self", "text"] (aB jT):=by walk_at "s"
def ig:=
  (Hb 0 "Facts" "leads" (dA (aC (eV 6) (aC (dA (aC (e2 C9 (e2 bW (eV 5) (eK (.int 0))) (eV 7)) (aC (e2 bW (eV 5) (eK (.int 1))) aN))) aN))))
def nE:=
  (ba (dD 4 (e2 gJ (eF (HF (eV 2) (pS (eK (.int 1))) pN)) (eF (fG (aC (eV 3) aN)))))
  (ir (Xc (eV 1) (eV 2) (eV 4)) (Ta 5 6 7)
  ig))
def nJ:=lQ 4 8 aA nE
abbrev pz:=cC (mm 9) 6
abbrev CW:List aG:=["self", "asks", "bits", "end", "follows", "ask", "bit", "follow"]
theorem tN:bB CW ["self", "asks", "bits", "end"] (aB pz):=by walk_at "s"
def gF:=
  (ba (tO 1 c_ (e2 bW (eV 3) (eK (.int 0))))
   (BW 2 (e2 bW (eV 3) (eK (.int 1)))))
def mu:=
  (ba (dD 1 (eK (.int 0)))
  (ba (kQ 2 (fG aN))
  (ba (ir (iL (eV 0)) (gN 3)
  gF)
  (dF (dA (aC (eV 1) (aC (eV 2) aN)))))))
def ki:=j_ 1 4 mu
abbrev nY:=mm 10
abbrev AG:List aG:=["asks", "need", "choices", "ask"]
theorem rW:bB AG ["asks"] (aB nY):=by walk_at "s"
section
variable {P:bt}{w:cZ}{K:aT}{t:aG->Option ak}{Q:cD}{f:az}{J:dY}
theorem wb(F:hG K "new_bit" "Facts.new_bit" lZ f J)(e:KS K t):b_ P w K t Q gS 1 f J ["self"] (spT K aA eE):=
 F.B3 (own:=[0]) (own':=[0]) (g:=ko) pT aA (by decide) (by decide) λc A b s H E g B a h=>
  have d:=pT.nd
  by walk_at "o"
theorem tq(F:hG K "enter_step" "Facts.enter_step" jU f J)(e:KS K t)(b:eC P w K t Q "Facts" "new_bit" 1 (spT K aA eE)):b_ P w K t Q gS 2 f J ["self", "step"] (spT K aA du):=
 F.B3 (own:=[0]) (own':=[0]) (g:=iI) mZ aA (by decide) (by decide) λg A c s H E d B a i=>
  have h:=mZ.nd
  (aH (by walk_at "o") (aH (by walk_at "o") (aH (xc (by walk_at "o") (by walk_at "o") (cK (Eu (c:= "Facts") (zl d) (pv 0) (by walk_at "o") (Cu (Nb [] [0] [] (Nc QN (dq (Cw (zl d) (by walk_at "o") (by walk_at "o") Cv ⟨rfl,rfl,rfl,rfl⟩)) (vQ 2)))) e.q))) (by walk_at "o"))))
theorem yY(F:hG K "enter" "Facts.enter" lg f J)(b:eC P w K t Q "Facts" "enter_step" 2 (spT K aA du)):b_ P w K t Q gS 3 f J ["self", "steps"] (spT K aA jf):=
 F.B3 (own:=[0]) (own':=[0]) (g:=mx) rZ aA (by decide) (by decide) λd A outer s H E g B a c=>
  have e:=rZ.nd
  (cK (yn (Gp (i0:=1) (j0:=0) (s:=aA) (N:=[("step" : aG),("self" : aG)]) (src:=[M,Y 0]) (jj (outer:=aB lg) (oN:=t7) rfl (by decide +kernel) rfl rfl) rfl (nG (vP 1)) (fP 0) (by decide) (sh _ 0 1) (λC s H h=>⟨fN (i:=0) (show ([("step" : aG),("self" : aG)]:List aG).Nodup by decide +kernel) rfl (oX rfl),gO,Wi λB a c=>(by walk_at "o")⟩))))
theorem tp(F:hG K "enter_text" "Facts.enter_text" jT f J)(e:KS K t)(b:eC P w K t Q "Facts" "new_bit" 1 (spT K aA eE)):b_ P w K t Q gS 2 f J ["self", "text"] (spT K aA cM):=
 F.B3 (own:=[0]) (own':=[0]) (g:=eN) mY aA (by decide) (by decide) λg A c s H E d B a i=>
  have h:=mY.nd
  (aH (xc (Q2 [] [0] [] (JH (zl d) (vQ 1) (by walk_at "o"))) (cK (Eu (c:= "Facts") (zl d) (pv 0) (vP 1) (by walk_at "o") e.q)) nF) (cK (yn (Cu (Nb [] [0] [] (PK (zl d) (by walk_at "o") (vQ 1)))))))
theorem As(F:hG K "lead" "Facts.lead" pz f J)(d:KS K t):b_ P w K t Q gS 1 f J ["self", "asks", "bits", "end"] (spT K aA nJ):=
 F.B3 (own:=[0]) (own':=[0]) (g:=nE) tN aA (by decide) (by decide) λe A b s H E h B a c=>
  have g:=tN.nd
  (aH (by walk_at "o") (cK (ux gZ rfl (PH rfl d.y (vP 1) (vP 2) (vP 4)) (λB c=>(M_ (by walk_at "o"))) (λB c=>(by walk_at "o")))))
theorem yU(F:hG K "joined_asks" "joined_asks" nY f J):b_ P w K t Q gS 1 f J ["asks"] (iq K ki):=
 F.w3 (own:=[2]) (own':=[2]) (g:=mu) rW (by decide) λc A a s H E e B b=>
  have d:=rW.nd
  (aH (by walk_at "o") (aH (by walk_at "o") (aH (ux gZ rfl (nG (vP 0)) (λB b=>(by walk_at "o")) (λB b=>(aH (by walk_at "o") (cK (JJ (pv 2) (by walk_at "o")))))) (uw (own1:=[]) 2 (by walk_at "o")))))
end
def cz(c:List D->Option (D×D))(a:List D->Option (D×D)):DG:=
  (ba (eI (dO (e2 eP (e2 bW (eV 1) (eK (.int 0))) (eK (.str (af "any")))))
  (dm (mP (dA (aC (eK (.int 0)) (aC (eF (fG aN)) aN)))))
  da)
  (ba (eI (dO (e2 eP (e2 bW (eV 1) (eK (.int 0))) (eK (.str (af "text")))))
  (dm (xF (iY (bQ "Facts" "enter_text" aA cM 0 (iY (mP (e2 bW (eV 1) (eK (.int 1)))) kf)) (iY (mP (eF (fG aN))) kf))))
  da)
  (ba (eI (dO (e2 eP (e2 bW (eV 1) (eK (.int 0))) (eK (.str (af "has")))))
  (dm (xF (iY (bQ "Facts" "enter_has" aA a 0 (iY (mP (e2 bW (eV 1) (eK (.int 1)))) kf)) (iY (mP (eF (fG aN))) kf))))
  da)
  (ba (nh 2 (vm (iL (e2 bW (eV 1) (eK (.int 1)))) [M,Y 0] (gN 0) (bQ "Facts" "asked" aA c 1 (iY (mP (eV 0)) kf)) 1 0 aA))
  (ba (eI (dO (e2 eP (e2 bW (eV 1) (eK (.int 0))) (eK (.str (af "one")))))
  (dm (mP (dA (aC (eK (.int 0)) (aC (eF (fG (aC (eV 2) aN))) aN)))))
  da)
  (dm (mP (bf ki (aC (eV 2) aN)))))))))
abbrev lh:=cC (mm 9) 7
abbrev t9:List aG:=["self", "wish", "asks"]
theorem oq:bB t9 ["self", "wish"] (aB lh):=by walk_at "s"
def gM(a:List D->Option (D×D))(c:List D->Option (D×D)):DG:=
  (ba (nh 2 (bQ "Facts" "enter" aA jf 0 (iY (mP (eV 1)) kf)))
  (ba (eY (bQ "Facts" "lead" aA nJ 0 (iY (vm (iL (eV 1)) [M,Y 0] (gN 0) (bQ "Facts" "asked" aA a 1 (iY (mP (e2 bW (eV 0) (eK (.int 2)))) kf)) 1 0 aA) (iY (mP (eV 2)) (iY (mP (eK (.int 0))) kf)))))
  (dm (mP (e2 bW (eV 2) (eK (.int 0)))))))
abbrev iD:=cC (mm 9) 5
abbrev pj:List aG:=["self", "steps", "bits"]
theorem om:bB pj ["self", "steps"] (aB iD):=by walk_at "s"
def si(c:List D->Option D)(a:List D->Option D):DG:=
  (vd (nj (iL (eV 0)) [M] (gN 0) hI (dA (aC (e2 bW (eV 0) (eK (.int 0))) (aC (e2 bW (eV 0) (eK (.int 1))) (aC (bf a (aC (e2 bW (eV 0) (eK (.int 2))) aN)) aN))))))
abbrev sI:=mm 13
abbrev EJ:List aG:=["steps"]
theorem A3:bB EJ ["steps"] (aB sI):=by walk_at "s"
def jb(c:List D->Option D)(a:List D->Option D):DG:=
  (ba (eI (dO (e2 eP (e2 bW (eV 0) (eK (.int 0))) (eK (.str (af "has")))))
  (dF (dA (aC (eK (.str (af "has"))) (aC (bf c (aC (e2 bW (eV 0) (eK (.int 1))) aN)) aN))))
  da)
  (ba (eI (dO (e2 (Ji Z_) (e2 bW (eV 0) (eK (.int 0))) (dA (aC (eK (.str (af "both"))) (aC (eK (.str (af "one"))) aN)))))
  (dF (dA (aC (e2 bW (eV 0) (eK (.int 0))) (aC (eF (nj (iL (e2 bW (eV 0) (eK (.int 1)))) [M] (gN 0) hI (bf a (aC (eV 0) aN)))) aN))))
  da)
  (dF (eV 0))))
abbrev la:=mm 14
abbrev t5:List aG:=["wish"]
theorem rX:bB t5 ["wish"] (aB la):=by walk_at "s"
def yh(a:List D->Option D):DG:=
  (ba (eI (dO (e2 Au (e2 d_ (eV 1) (e2 bW (eV 0) (eK (.int 0)))) (e2 bW (eV 0) (eK (.int 0)))))
  (dF (eK (.bl Z_)))
  da)
  (dF (bf (gu Z') (aC (eF (nj (iL (e2 bW (eV 0) (eK (.int 1)))) [M,Y 1] (gN 0) hI (bf (gu Z_) (aC (eF (nj (iL (eV 0)) [M,Y 1] (gN 0) hI (bf a (aC (eV 0) (aC (eV 1) aN))))) aN)))) aN))))
abbrev u7:=mm 11
abbrev Io:List aG:=["ask", "atoms"]
theorem DD:bB Io ["ask", "atoms"] (aB u7):=by walk_at "s"
def qE(a:List D->Option D):DG:=
  (ba (eI (dO (e2 eP (e2 bW (eV 0) (eK (.int 0))) (eK (.str (af "has")))))
  (dF (bf (gu Z') (aC (eF (nj (iL (e2 bW (eV 0) (eK (.int 1)))) [M] (gN 0) hI (bf a (aC (e2 bW (eV 0) (eK (.int 2))) aN)))) aN)))
  da)
  (ba (eI (dO (e2 eP (e2 bW (eV 0) (eK (.int 0))) (eK (.str (af "both")))))
  (dF (bf (gu Z') (aC (eF (nj (iL (e2 bW (eV 0) (eK (.int 1)))) [M] (gN 0) hI (bf a (aC (eV 0) aN)))) aN)))
  da)
  (ba (eI (dO (e2 eP (e2 bW (eV 0) (eK (.int 0))) (eK (.str (af "one")))))
  (dF (bf (gu Z_) (aC (eF (nj (iL (e2 bW (eV 0) (eK (.int 1)))) [M] (gN 0) hI (bf a (aC (eV 0) aN)))) aN)))
  da)
  (dF (eK (.bl Z'))))))
abbrev kP:=mm 12
abbrev qL:List aG:=["wish"]
theorem wY:bB qL ["wish"] (aB kP):=by walk_at "s"
mutual
noncomputable def cP:Nat->List D->Option (D×D)
 |0=>λ_=>M
 |n+1=>lQ 2 3 aA (cz (cP n) (cL n))
noncomputable def cL:Nat->List D->Option (D×D)
 |0=>λ_=>M
 |n+1=>lQ 2 3 aA (gM (cP n) (cL n))
end
mutual
noncomputable def jd:Nat->List D->Option D
 |0=>λ_=>M
 |n+1=>j_ 1 1 (si (jd n) (dP n))
noncomputable def dP:Nat->List D->Option D
 |0=>λ_=>M
 |n+1=>j_ 1 1 (jb (jd n) (dP n))
end
noncomputable def kh:Nat->List D->Option D
 |0=>λ_=>M
 |n+1=>j_ 2 2 (yh (kh n))
noncomputable def e_:Nat->List D->Option D
 |0=>λ_=>M
 |n+1=>j_ 1 1 (qE (e_ n))
section
variable {P:bt}{w:cZ}{K:aT}{b:aG->Option ak}{h:cD}{f:az}{j:dY}
theorem yZ(F:hG K "asked" "Facts.asked" lh f j)(c:eC P w K b h "Facts" "enter_text" (n+3) (spT K aA cM))(d:eC P w K b h "Facts" "enter_has" (n+3) (spT K aA (cL n)))(g:eC P w K b h "Facts" "asked" (n+3) (spT K aA (cP n)))(e:ml P w K b h "joined_asks" (n+3) (iq K ki)):b_ P w K b h gS (n+3+1) f j ["self", "wish"] (spT K aA (cP (n+1))):=
 F.B3 (own:=[0]) (own':=[0]) (g:=(cz (cP n) (cL n))) oq aA (by decide) (by decide) λk A outer s H E m B a i=>
  have l:=oq.nd
  (aH (by walk_at "o") (aH (by walk_at "o") (aH (by walk_at "o") (aH (Gn (i:=2) (i0:=1) (j0:=0) (s:=aA) (N:=[("other" : aG),("self" : aG)]) (src:=[M,Y 0]) (jj (outer:=aB lh) (oN:=t9) rfl (by decide +kernel) rfl rfl) rfl oq.nd rfl rfl (by walk_at "o") (fP 0) (by decide) (sh _ 0 1) (λC s H o=>⟨fN (i:=0) (show ([("other" : aG),("self" : aG)]:List aG).Nodup by decide +kernel) rfl (oX rfl),gO,Wi λB a i=>(by walk_at "o")⟩)) (by walk_at "o")))))
theorem uj(F:hG K "enter_has" "Facts.enter_has" iD f j)(d:eC P w K b h "Facts" "enter" (n+3) (spT K aA jf))(c:eC P w K b h "Facts" "lead" (n+3) (spT K aA nJ))(e:eC P w K b h "Facts" "asked" (n+3) (spT K aA (cP n))):b_ P w K b h gS (n+3+1) f j ["self", "steps"] (spT K aA (cL (n+1))):=
 F.B3 (own:=[0]) (own':=[0]) (g:=(gM (cP n) (cL n))) om aA (by decide) (by decide) λk A outer s H E g B a i=>
  have l:=om.nd
  (aH (by walk_at "o") (aH (Et (M8 c g (pv 0) (zJ (Gp (i0:=1) (j0:=0) (s:=aA) (N:=[("step" : aG),("self" : aG)]) (src:=[M,Y 0]) (jj (outer:=aB iD) (oN:=pj) rfl (by decide +kernel) rfl rfl) rfl (nG (vP 1)) (fP 0) (by decide) (sh _ 0 1) (λC s H m=>⟨fN (i:=0) (show ([("step" : aG),("self" : aG)]:List aG).Nodup by decide +kernel) rfl (oX rfl),gO,Wi λB a i=>(by walk_at "o")⟩)) (by walk_at "o")))) (by walk_at "o")))
theorem Jg(F:hG K "copied" "copied" sI f j)(a:ml P w K b h "copied_wish" (n+0) (iq K (dP n))):b_ P w K b h gS (n+0+1) f j ["steps"] (iq K (jd (n+1))):=
 F.w3 (own:=[]) (own':=[]) (g:=(si (jd n) (dP n))) A3 (by decide) λc A outer s H E e B g=>
  have d:=A3.nd
  (cK (HQ (tW (own':=[]) (N:=[("step" : aG)]) (src:=[M]) (jj (outer:=aB sI) (oN:=EJ) rfl (by decide +kernel) rfl rfl) rfl (nG (vP 0)) (fP 0) (by decide) (gL 0) (λC s H i=>⟨fN (i:=0) (show ([("step" : aG)]:List aG).Nodup by decide +kernel) rfl (.inl rfl),gO,(by walk_at "o")⟩))))
theorem yV(F:hG K "copied_wish" "copied_wish" la f j)(c:ml P w K b h "copied" (n+0) (iq K (jd n)))(a:ml P w K b h "copied_wish" (n+0) (iq K (dP n))):b_ P w K b h gS (n+0+1) f j ["wish"] (iq K (dP (n+1))):=
 F.w3 (own:=[]) (own':=[]) (g:=(jb (jd n) (dP n))) rX (by decide) λd A outer s H E g B i=>
  have e:=rX.nd
  (aH (by walk_at "o") (aH (xc (by walk_at "o") (cK (oI (Gr (jO (by walk_at "o") (jO (df (tW (own':=[]) (N:=[("other" : aG)]) (src:=[M]) (jj (outer:=aB la) (oN:=t5) rfl (by decide +kernel) rfl rfl) rfl (by walk_at "o") (fP 0) (by decide) (gL 0) (λC s H k=>⟨fN (i:=0) (show ([("other" : aG)]:List aG).Nodup by decide +kernel) rfl (.inl rfl),gO,(by walk_at "o")⟩))) uy))))) nF) (by walk_at "o")))
theorem L0(F:hG K "meets" "meets" u7 f j)(c:KS K b)(a:ml P w K b h "meets" (n+0) (iq K (kh n))):b_ P w K b h gS (n+0+1) f j ["ask", "atoms"] (iq K (kh (n+1))):=
 F.w3 (own:=[]) (own':=[]) (g:=(yh (kh n))) DD (by decide) λe A outer s H E i B k=>
  have g:=DD.nd
  (aH (by walk_at "o") (cK (oI (Gu rfl rfl c.y (dq (df (tW (own':=[]) (N:=[("choice" : aG),("atoms" : aG)]) (src:=[M,Y 1]) (jj (outer:=aB u7) (oN:=Io) rfl (by decide +kernel) rfl rfl) rfl (by walk_at "o") (fP 0) (by decide) (gL 0) (λC s H d=>⟨fN (i:=0) (show ([("choice" : aG),("atoms" : aG)]:List aG).Nodup by decide +kernel) rfl (by first|exact oX rfl|exact rF rfl),gO,(Ng rfl rfl c.y (dq (df (tW (own':=[]) (N:=[("other" : aG),("atoms" : aG)]) (src:=[M,Y 1]) (P4 rfl (by decide +kernel)) rfl (nG (vP 0)) (fP 0) (by decide) (gL 0) (λC s H d=>⟨fN (i:=0) (show ([("other" : aG),("atoms" : aG)]:List aG).Nodup by decide +kernel) rfl (.inl rfl),gO,(by walk_at "o")⟩)))))⟩))))))))
theorem D1(F:hG K "can_hold" "can_hold" kP f j)(c:KS K b)(a:ml P w K b h "can_hold" (n+0) (iq K (e_ n))):b_ P w K b h gS (n+0+1) f j ["wish"] (iq K (e_ (n+1))):=
 F.w3 (own:=[]) (own':=[]) (g:=(qE (e_ n))) wY (by decide) λe A outer s H E i B k=>
  have g:=wY.nd
  (aH (xc (by walk_at "o") (cK (oI (Gu rfl rfl c.y (dq (df (tW (own':=[]) (N:=[("step" : aG)]) (src:=[M]) (jj (outer:=aB kP) (oN:=qL) rfl (by decide +kernel) rfl rfl) rfl (by walk_at "o") (fP 0) (by decide) (gL 0) (λC s H d=>⟨fN (i:=0) (show ([("step" : aG)]:List aG).Nodup by decide +kernel) rfl (.inl rfl),gO,(by walk_at "o")⟩))))))) nF) (aH (xc (by walk_at "o") (cK (oI (Gu rfl rfl c.y (dq (df (tW (own':=[]) (N:=[("other" : aG)]) (src:=[M]) (jj (outer:=aB kP) (oN:=qL) rfl (by decide +kernel) rfl rfl) rfl (by walk_at "o") (fP 0) (by decide) (gL 0) (λC s H d=>⟨fN (i:=0) (show ([("other" : aG)]:List aG).Nodup by decide +kernel) rfl (.inl rfl),gO,(by walk_at "o")⟩))))))) nF) (aH (xc (by walk_at "o") (cK (oI (Ng rfl rfl c.y (dq (df (tW (own':=[]) (N:=[("other" : aG)]) (src:=[M]) (jj (outer:=aB kP) (oN:=qL) rfl (by decide +kernel) rfl rfl) rfl (by walk_at "o") (fP 0) (by decide) (gL 0) (λC s H d=>⟨fN (i:=0) (show ([("other" : aG)]:List aG).Nodup by decide +kernel) rfl (.inl rfl),gO,(by walk_at "o")⟩))))))) nF) (by walk_at "o"))))
end
def vF:=jd 12
def s_:=kh 12
def oJ:=e_ 12
def my:=cP 12
def jM:=
  (ba (fc Z_ 0 "Facts" "question" (bf vF (aC (eV 1) aN)))
  (ba (fc Z_ 0 "Facts" "bits" (eK (.int 0)))
  (ba (pA 0 "Facts" "by_name" .di (eK (.iW [] [])))
  (ba (pA 0 "Facts" "by_text" .di (eK (.iW [] [])))
  (ba (fc Z_ 0 "Facts" "starred" (eK (.int 0)))
  (ba (fc Z_ 0 "Facts" "stars" (eK (.int 0)))
  (ba (fc Z_ 0 "Facts" "inner" (eK (.int 0)))
  (ba (pA 0 "Facts" "leads" (.li .lf) (eK (.lst [])))
  (ba (eY (bQ "Facts" "enter" aA jf 0 (iY (mP (tU 0 "Facts" "question")) kf)))
  (BV Z_ 0 "Facts" "asks" (vm (iL (tU 0 "Facts" "question")) [M,Y 0] (gN 0) (bQ "Facts" "asked" aA my 1 (iY (mP (e2 bW (eV 0) (eK (.int 2)))) kf)) 1 0 aA)))))))))))
def fY:=lQ 2 2 aA jM
abbrev jl:=cC (mm 9) 0
abbrev qh:List aG:=["self", "question"]
theorem oZ:bB qh ["self", "question"] (aB jl):=by walk_at "s"
def jn:=
  (dF (e2 C9 (bp "Facts" "starred" (eV 0)) (sr (bp "Facts" "by_name" (eV 0)) (eV 1) (eK (.int 0)))))
def eB:=j_ 2 2 jn
abbrev kF:=cC (mm 9) 8
abbrev vA:List aG:=["self", "name"]
theorem oj:bB vA ["self", "name"] (aB kF):=by walk_at "s"
def jm:=
  (dF (sr (bp "Facts" "by_text" (eV 0)) (eV 1) (eK (.int 0))))
def ez:=j_ 2 2 jm
abbrev kE:=cC (mm 9) 9
abbrev vz:List aG:=["self", "text"]
theorem oi:bB vz ["self", "text"] (aB kE):=by walk_at "s"
def fV:=
  (eI (kO (eH (e2 d_ (eV 1) (eV 4))) (eH (bf s_ (aC (eV 5) (aC (eV 2) aN)))))
   (tO 3 c_ (eV 4))
   da)
def lC:=
  (ba (dD 3 (e2 d_ (eV 2) (bp "Facts" "inner" (eV 0))))
  (ba (ir (iL (bp "Facts" "leads" (eV 0))) (Cm 4 5)
  fV)
  (dF (eV 3))))
def ik:=j_ 3 6 lC
abbrev mQ:=cC (mm 9) 10
abbrev z7:List aG:=["self", "named", "atoms", "up", "bit", "ask"]
theorem qV:bB z7 ["self", "named", "atoms"] (aB mQ):=by walk_at "s"
def fh:=
  (ba (dD 6 (e2 pX (eK (.int 1)) (eV 4)))
   (eI (kO (eH (e2 d_ (eV 1) (eV 6))) (eH (bf s_ (aC (eV 5) (aC (eV 2) aN)))))
   (tO 3 c_ (eV 6))
   da))
def kq:=
  (ba (dD 3 (eK (.int 0)))
  (ba (ir (iE (bp "Facts" "asks" (eV 0))) (Cm 4 5)
  fh)
  (dF (eV 3))))
def dQ:=j_ 3 7 kq
abbrev l_:=cC (mm 9) 11
abbrev xP:List aG:=["self", "named", "atoms", "fits", "place", "ask", "bit"]
theorem pU:bB xP ["self", "named", "atoms"] (aB l_):=by walk_at "s"
def zp:=
  (ba (eI (dO (e2 eP (e2 bW (eV 0) (eK (.int 0))) (eK (.str (af "open")))))
  (dF (Zk (eV 1) (Po (dO (eV 2)))))
  da)
  (dF (eV 1)))
def iQ:=j_ 3 3 zp
abbrev rT:=mm 16
abbrev GH:List aG:=["sign", "within", "begun"]
theorem wZ:bB GH ["sign", "within", "begun"] (aB rT):=by walk_at "s"
def sj:=
  (ba (lu 0 "Row" "number" (eV 1))
  (ba (lu 0 "Row" "named" (eV 2))
  (ba (lu 0 "Row" "atoms" (eV 3))
  (ba (lu 0 "Row" "fits" (eK (.int 0)))
  (ba (lu 0 "Row" "reached" (eK (.int 0)))
  (ba (lu 0 "Row" "reached_around" (eK (.int 0)))
  (ba (lu 0 "Row" "hoped" (eK (.int 0)))
  (lu 0 "Row" "hoped_around" (eK (.int 0))))))))))
def jD:=runC 4 4 0 sj
abbrev mL:=cC (mm 18) 0
abbrev zX:List aG:=["self", "number", "named", "atoms"]
theorem qS:bB zX ["self", "number", "named", "atoms"] (aB mL):=by walk_at "s"
def ie:=
  (eI (eH (bf oJ (aC (e2 bW (eV 3) (eK (.int 2))) aN)))
   (tO 1 c_ (e2 pX (eK (.int 1)) (eV 2)))
   da)
def nB:=
  (ba (dD 1 (eK (.int 0)))
  (ba (ir (iE (eV 0)) (Cm 2 3)
  ie)
  (dF (eV 1))))
def jQ:=j_ 1 4 nB
abbrev px:=mm 21
abbrev CV:List aG:=["question", "able", "place", "step"]
theorem tL:bB CV ["question"] (aB px):=by walk_at "s"
section
variable {P:bt}{w:cZ}{K:aT}{h:aG->Option ak}{t:cD}{f:az}{j:dY}
theorem vi(F:hG K "__init__" "Facts.__init__" jl f j)(e:KS K h)(d:ml P w K h t "copied" 59 (iq K vF))(b:eC P w K h t "Facts" "enter" 59 (spT K aA jf))(c:eC P w K h t "Facts" "asked" 59 (spT K aA my)):b_ P w K h t gS 60 f j ["self", "question"] (spT K aA fY):=
 F.B3 (own:=[0]) (own':=[0]) (g:=jM) oZ aA (by decide) (by decide) λi A outer s H E l B a g=>
  have k:=oZ.nd
  (aH (by walk_at "o") (aH (by walk_at "o") (aH (by walk_at "o") (aH (by walk_at "o") (aH (by walk_at "o") (aH (by walk_at "o") (aH (by walk_at "o") (aH (by walk_at "o") (aH (by walk_at "o") (cK (M7 (b:=Z_) (c:= "Facts") (pv 0) (Gp (i0:=1) (j0:=0) (s:=aA) (N:=[("step" : aG),("self" : aG)]) (src:=[M,Y 0]) (jj (outer:=aB jl) (oN:=qh) rfl (by decide +kernel) rfl rfl) rfl (by walk_at "o") (fP 0) (by decide) (sh _ 0 1) (λC s H m=>⟨fN (i:=0) (show ([("step" : aG),("self" : aG)]:List aG).Nodup by decide +kernel) rfl (oX rfl),gO,Wi λB a g=>(by walk_at "o")⟩)) e.q)))))))))))
theorem ui(F:hG K "steps_for" "Facts.steps_for" kF f j)(e:KS K h):b_ P w K h t gS 1 f j ["self", "name"] (iq K eB):=
 F.w3 (own:=[]) (own':=[]) (g:=jn) oj (by decide) λc A a s H E b B g=>
  have d:=oj.nd
  (cK (oI (Nc QN (by walk_at "o") (dq (Cw (zl b) (by walk_at "o") (vQ 1) Cv ⟨rfl,rfl,rfl,rfl⟩)))))
theorem uh(F:hG K "text_fact" "Facts.text_fact" kE f j)(e:KS K h):b_ P w K h t gS 1 f j ["self", "text"] (iq K ez):=
 F.w3 (own:=[]) (own':=[]) (g:=jm) oi (by decide) λc A a s H E b B g=>
  have d:=oi.nd
  (cK (oI (Cw (zl b) (by walk_at "o") (vQ 1) Cv ⟨rfl,rfl,rfl,rfl⟩)))
theorem xC(F:hG K "lifted" "Facts.lifted" mQ f j)(e:KS K h)(a:ml P w K h t "meets" 59 (iq K s_)):b_ P w K h t gS 60 f j ["self", "named", "atoms"] (iq K ik):=
 F.w3 (own:=[]) (own':=[]) (g:=lC) qV (by decide) λc A b s H E g B i=>
  have d:=qV.nd
  by walk_at "o"
theorem wc(F:hG K "fitting" "Facts.fitting" l_ f j)(e:KS K h)(a:ml P w K h t "meets" 59 (iq K s_)):b_ P w K h t gS 60 f j ["self", "named", "atoms"] (iq K dQ):=
 F.w3 (own:=[]) (own':=[]) (g:=kq) pU (by decide) λc A b s H E g B i=>
  have d:=pU.nd
  by walk_at "o"
theorem D2(F:hG K "can_come" "can_come" rT f j):b_ P w K h t gS 1 f j ["sign", "within", "begun"] (iq K iQ):=
 F.w3 (own:=[]) (own':=[]) (g:=zp) wZ (by decide) λb A a s H E d B e=>
  have c:=wZ.nd
  by walk_at "o"
theorem xy(F:hG K "__init__" "Row.__init__" mL f j)(e:KS K h):b_ P w K h t gS 1 f j ["self", "number", "named", "atoms"] (RA K 0 jD):=
 F.okC (own:=[0]) (own':=[0]) (g:=sj) qS 0 (by decide) (by decide) λc A b s H E g B a i=>
  have d:=qS.nd
  by walk_at "o"
theorem Ar(F:hG K "able_steps" "able_steps" px f j)(e:KS K h)(a:ml P w K h t "can_hold" 59 (iq K oJ)):b_ P w K h t gS 60 f j ["question"] (iq K jQ):=
 F.w3 (own:=[]) (own':=[]) (g:=nB) tL (by decide) λc A b s H E g B i=>
  have d:=tL.nd
  by walk_at "o"
end
def Bo:=
  (ba (dD 0 (HL "Row" jD (aC (e1 Jh (eK (.int 1))) (aC (eK (.int 0)) (aC (eK (.int 0)) aN)))))
  (ba (lu 0 "Row" "reached" (eK (.int 1)))
  (ba (lu 0 "Row" "reached_around" (eK (.int 1)))
  (ba (lu 0 "Row" "hoped" (eK (.int 1)))
  (ba (lu 0 "Row" "hoped_around" (eK (.int 1)))
  (G9 0))))))
def wN:=Qf 0 1 Bo
abbrev ub:=mm 20
abbrev JZ:List aG:=["row"]
theorem ue:bB JZ [] (aB ub):=by walk_at "s"
def iK:=
  (dF (MW (e2 tR (bp "Coming" "opened" (eV 0)) (eK (.int 0))) (e2 eP (bf iu (aC (bp "Coming" "rows" (eV 0)) aN)) (eK (.int 1)))))
def iR:=j_ 1 1 iK
abbrev jW:=cC (mm 19) 2
abbrev uJ:List aG:=["self"]
theorem nc:bB uJ ["self"] (aB jW):=by walk_at "s"
def p':=
  (dF (e2 pX (e2 d_ (e2 C9 (eV 1) (e2 d_ (eV 2) (bp "Facts" "inner" (bp "Coming" "facts" (eV 0))))) (eV 3)) (eK (.int 1))))
def dB:=j_ 4 4 p'
abbrev lj:=cC (mm 19) 4
abbrev wL:List aG:=["self", "parent", "around", "fits"]
theorem o_:bB wL ["self", "parent", "around", "fits"] (aB lj):=by walk_at "s"
def iJ:=
  (ba (dD 3 (e2 bW (bp "Coming" "rows" (eV 0)) (e1 Jh (eK (.int 1)))))
  (ba (dD 4 (e2 d_ (e2 Sd (e2 C9 (e2 bW (eV 1) (eK (.int 2))) (e2 bW (eV 1) (eK (.int 3)))) (eK (.int 1))) (bp "Row" "fits" (eV 2))))
  (ba (dD 5 (e2 d_ (e2 d_ (eV 4) (e1 xE (bp "Facts" "inner" (bp "Coming" "facts" (eV 0))))) (bp "Row" "hoped" (eV 3))))
  (ba (dD 6 (e2 d_ (e2 C9 (e2 d_ (eV 4) (bp "Facts" "inner" (bp "Coming" "facts" (eV 0)))) (e2 bW (eV 1) (eK (.int 3)))) (bp "Row" "hoped_around" (eV 3))))
  (dF (dA (aC (e2 bW (eV 1) (eK (.int 0))) (aC (e2 oU (e2 bW (eV 1) (eK (.int 1))) (eK (.int 1))) (aC (eV 5) (aC (eV 6) aN))))))))))
def gi:=j_ 3 7 iJ
abbrev jV:=cC (mm 19) 10
abbrev uI:List aG:=["self", "rest", "row", "parent", "steps", "own", "around"]
theorem m_:bB uI ["self", "rest", "row"] (aB jV):=by walk_at "s"
def fW:=
  (eI (eH (e2 d_ (e2 d_ (bp "Row" "hoped" (eV 2)) (e1 xE (bp "Row" "reached" (eV 2)))) (bp "Coming" "full" (eV 0))))
   (qu 1 (bp "Row" "number" (eV 2)))
   da)
def lD:=
  (ba (kQ 1 (nj (iL (bp "Coming" "rests" (eV 0))) [M] (gN 0) hI (e2 bW (eV 0) (eK (.int 0)))))
  (ba (ir (iL (bp "Coming" "rows" (eV 0))) (gN 2)
  fW)
  (vd (mi (eV 1)))))
def jF:=j_ 1 3 lD
abbrev kj:=cC (mm 19) 11
abbrev sD:List aG:=["self", "numbers", "row"]
theorem mS:bB sD ["self"] (aB kj):=by walk_at "s"
section
variable {P:bt}{w:cZ}{K:aT}{a:aG->Option ak}{h:cD}{f:az}{b:dY}
theorem FV(F:hG K "top_row" "top_row" ub f b)(j:KS K a)(c:sC P w K a h "Row" 1 (RA K 0 jD)):b_ P w K a h gS 3 f b [] (Vh K wN):=
 F.Sa (own:=[0]) (own':=[0]) (g:=Bo) ue (by decide) λg A d s H E e B k=>
  have i:=ue.nd
  (aH (HP (i:=0) ue.nd rfl (.inl rfl) (HR c e rfl (by walk_at "o"))) (by walk_at "o"))
theorem tw(F:hG K "has_ended" "Coming.has_ended" jW f b)(g:KS K a):b_ P w K a h gS 1 f b ["self"] (iq K iR):=
 F.w3 (own:=[]) (own':=[]) (g:=iK) nc (by decide) λd A c s H E i B j=>
  have e:=nc.nd
  by walk_at "o"
theorem vj(F:hG K "gone_on" "Coming.gone_on" lj f b)(g:KS K a):b_ P w K a h gS 1 f b ["self", "parent", "around", "fits"] (iq K dB):=
 F.w3 (own:=[]) (own':=[]) (g:=p') o_ (by decide) λd A c s H E i B j=>
  have e:=o_.nd
  by walk_at "o"
theorem tu(F:hG K "moved_out" "Coming.moved_out" jV f b)(g:KS K a):b_ P w K a h gS 1 f b ["self", "rest", "row"] (iq K gi):=
 F.w3 (own:=[]) (own':=[]) (g:=iJ) m_ (by decide) λd A c s H E i B j=>
  have e:=m_.nd
  by walk_at "o"
theorem xD(F:hG K "waits" "Coming.waits" kj f b)(e:KS K a):b_ P w K a h gS 1 f b ["self"] (iq K jF):=
 F.w3 (own:=[1]) (own':=[1]) (g:=lD) mS (by decide) λc A outer s H E g B i=>
  have d:=mS.nd
  (aH (Bt (i:=1) (own':=[]) (N:=[("rest" : aG)]) (src:=[M]) (jj (outer:=aB kj) (oN:=sD) rfl (by decide +kernel) rfl rfl) rfl mS.nd rfl rfl (by walk_at "o") (fP 0) (by decide) (gL 0) (λC s H j=>⟨fN (i:=0) (show ([("rest" : aG)]:List aG).Nodup by decide +kernel) rfl (.inl rfl),gO,(by walk_at "o")⟩)) (by walk_at "o"))
end
def jo:=
  (ba (fc Z_ 0 "Coming" "facts" (iP "Facts" fY (aC (eV 1) aN)))
  (ba (fc Z_ 0 "Coming" "full" (lE [0] [] (e2 pX (eK (.int 1)) (bf iu (aC (bp "Facts" "question" (bp "Coming" "facts" (eV 0))) aN)))))
  (ba (fc Z_ 0 "Coming" "able" (lE [0] [] (bf jQ (aC (bp "Facts" "question" (bp "Coming" "facts" (eV 0))) aN))))
  (ba (fc Z_ 0 "Coming" "taken" (eK (.int 0)))
  (ba (fc Z_ 0 "Coming" "opened" (eK (.int 0)))
  (ba (pA 0 "Coming" "rows" (.li (.fs "Row" [])) (Ti (MU "Row" (λ_=>wN []))))
  (fc Z_ 0 "Coming" "rests" (eF (fG aN)))))))))
def cf:=lQ 2 2 aD jo
abbrev kG:=cC (mm 19) 0
abbrev vB:List aG:=["self", "question"]
theorem oz:bB vB ["self", "question"] (aB kG):=by walk_at "s"
def iM:=
  (ba (dD 4 (HL "Row" jD (aC (eV 1) (aC (eV 2) (aC (eV 3) aN)))))
  (ba (r8 5 0 "Coming" "rows" (e1 Jh (eK (.int 1))))
  (ba (lu 4 "Row" "fits" (lE [0] [5] (dr "Facts" "fitting" dQ (bp "Coming" "facts" (eV 0)) (aC (eV 2) (aC (eV 3) aN)))))
  (ba (lu 4 "Row" "hoped" (lE [0] [5] (dr "Coming" "gone_on" dB (eV 0) (aC (bp "Row" "hoped" (eV 5)) (aC (bp "Row" "hoped_around" (eV 5)) (aC (e2 d_ (eV 2) (bp "Coming" "able" (eV 0))) aN))))))
  (ba (lu 4 "Row" "hoped_around" (lE [0] [5] (e2 C9 (bp "Row" "hoped_around" (eV 5)) (bp "Row" "hoped" (eV 4)))))
  (yK 0 4 "Coming" "rows"))))))
def gj:=lQ 4 6 aD iM
abbrev jX:=cC (mm 19) 3
abbrev uK:List aG:=["self", "number", "named", "atoms", "row", "parent"]
theorem jZ:bB uK ["self", "number", "named", "atoms"] (aB jX):=by walk_at "s"
def jq:=
  (ba (r8 3 0 "Coming" "rows" (eV 1))
   (ba (fc Z' 3 "Row" "fits" (lE [0] [3,5] (dr "Facts" "fitting" dQ (bp "Coming" "facts" (eV 0)) (aC (bp "Row" "named" (eV 3)) (aC (bp "Row" "atoms" (eV 3)) aN)))))
   (ba (dD 4 (lE [0] [3,5] (dr "Facts" "lifted" ik (bp "Coming" "facts" (eV 0)) (aC (bp "Row" "named" (eV 3)) (aC (bp "Row" "atoms" (eV 3)) aN)))))
   (ba (tO 1 (λi j=>i-j) (eK (.int 1)))
   (ba (r8 5 0 "Coming" "rows" (eV 1))
   (ba (dD 2 (lE [0] [3,5] (e2 Au (e2 d_ (eV 4) (e1 xE (bp "Row" "atoms" (eV 5)))) (eK (.int 0)))))
   (dZ Z' 5 "Row" "atoms" c_ (eV 4))))))))
def ku:=
  (ba (dD 1 (lE [0] [3,5] (e2 oU (bf iu (aC (bp "Coming" "rows" (eV 0)) aN)) (eK (.int 1)))))
  (ba (dD 2 (eK (.bl Z')))
  (FK 1000000 (kO (eH (eV 2)) (dO (e2 tR (eV 1) (eK (.int 0)))))
  jq)))
def dy:=lQ 1 6 aD ku
abbrev l':=cC (mm 19) 6
abbrev xQ:List aG:=["self", "place", "changed", "row", "up", "parent"]
theorem pV:bB xQ ["self"] (aB l'):=by walk_at "s"
def iN:=
  (ba (r8 2 0 "Coming" "rows" (e1 Jh (eK (.int 1))))
  (eI (Am [0] [2] (eH (e2 d_ (eV 1) (e1 xE (bp "Row" "atoms" (eV 2))))))
  (ba (dZ Z' 2 "Row" "atoms" c_ (eV 1))
   (eY (bQ "Coming" "spread" aD dy 0 kf)))
  da))
def gk:=lQ 2 3 aD iN
abbrev jY:=cC (mm 19) 5
abbrev uL:List aG:=["self", "atoms", "row"]
theorem ng:bB uL ["self", "atoms"] (aB jY):=by walk_at "s"
section
variable {P:bt}{w:cZ}{K:aT}{h:aG->Option ak}{t:cD}{f:az}{y:dY}
theorem uk(F:hG K "__init__" "Coming.__init__" kG f y)(g:KS K h)(d:sC P w K h t "Facts" 88 (spT K aA fY))(c:ml P w K h t "able_steps" 89 (iq K jQ))(b:ml P w K h t "top_row" 89 (Vh K wN)):b_ P w K h t gS 90 f y ["self", "question"] (spT K aD cf):=
 F.B3 (own:=[0]) (own':=[0]) (g:=jo) oz aD (by decide) (by decide) λj A e s H E i B a l=>
  have k:=oz.nd
  (aH (Pz (b:=Z_) (c:= "Coming") (pv 0) (Tz (by walk_at "o")) g.q) (aH (by walk_at "o") (aH (by walk_at "o") (aH (by walk_at "o") (aH (by walk_at "o") (aH (M6 (c:= "Coming") (s1:=(.li (.fs "Row" []))) (pv 0) (TH (PN (c:= "Row") (Nh b i rfl))) g.q) (by walk_at "o")))))))
theorem tD(F:hG K "begin_row" "Coming.begin_row" jX f y)(g:KS K h)(d:sC P w K h t "Row" 60 (RA K 0 jD))(c:eC P w K h t "Facts" "fitting" 61 (iq K dQ))(b:eC P w K h t "Coming" "gone_on" 61 (iq K dB)):b_ P w K h t gS 62 f y ["self", "number", "named", "atoms"] (spT K aD gj):=
 F.B3 (own:=[0,4,5,1000005,2000000]) (own':=[0,4,5,1000005,2000000]) (g:=iM) jZ aD (by decide) (by decide) λj A e s H E i B a l=>
  have k:=jZ.nd
  (aH (HP (i:=4) jZ.nd rfl (.inl rfl) (HR d i rfl (by walk_at "o"))) (aH (by walk_at "o") (aH (by walk_at "o") (aH (by walk_at "o") (aH (by walk_at "o") (cK (M4 (c:= "Coming") (pv 0) (pv 4) g.q)))))))
theorem wd(F:hG K "spread" "Coming.spread" l' f y)(i:KS K h)(b:eC P w K h t "Facts" "fitting" 61 (iq K dQ))(c:eC P w K h t "Facts" "lifted" 61 (iq K ik)):b_ P w K h t gS 62 f y ["self"] (spT K aD dy):=
 F.B3 (own:=[0,3,5,1000003,1000005,2000000]) (own':=[0,3,5,1000003,1000005,2000000]) (g:=ku) pV aD (by decide) (by decide) λe A d s H E j B a k=>
  have g:=pV.nd
  (aH (by walk_at "o") (aH (by walk_at "o") (cK (M0 1000000 gZ (by walk_at "o") (by walk_at "o")))))
theorem tG(F:hG K "add_atoms" "Coming.add_atoms" jY f y)(g:KS K h)(b:eC P w K h t "Coming" "spread" 62 (spT K aD dy)):b_ P w K h t gS 63 f y ["self", "atoms"] (spT K aD gk):=
 F.B3 (own:=[0,2,1000002,2000000]) (own':=[0,2,1000002,2000000]) (g:=iN) ng aD (by decide) (by decide) λd A c s H E i B a j=>
  have e:=ng.nd
  by walk_at "o"
end
def gP:=
  (ba (r8 3 0 "Coming" "rows" (e2 oU (eV 2) (eK (.int 1))))
   (ba (r8 4 0 "Coming" "rows" (eV 2))
   (ba (dD 5 (lE [0] [4,3] (bp "Row" "reached" (eV 4))))
   (ba (fc Z' 4 "Row" "reached" (lE [0] [4,3] (dr "Coming" "gone_on" dB (eV 0) (aC (bp "Row" "reached" (eV 3)) (aC (bp "Row" "reached_around" (eV 3)) (aC (bp "Row" "fits" (eV 4)) aN))))))
   (ba (fc Z' 4 "Row" "reached_around" (lE [0] [4,3] (e2 C9 (bp "Row" "reached_around" (eV 3)) (bp "Row" "reached" (eV 4)))))
   (eI (Am [0] [4,3] (eH (e2 d_ (e2 d_ (bp "Row" "reached" (eV 4)) (e1 xE (eV 5))) (bp "Coming" "full" (eV 0)))))
   (qu 1 (lE [0] [4,3] (bp "Row" "number" (eV 4))))
   da))))))
def kv:=
  (ba (kQ 1 (fG aN))
  (ba (ir (My (eK (.int 1)) (lE [0] [4,3] (bf iu (aC (bp "Coming" "rows" (eV 0)) aN)))) (gN 2)
  gP)
  (G9 1)))
def kB:=Hd 1 6 aD kv
abbrev jI:=cC (mm 19) 7
abbrev xR:List aG:=["self", "found", "place", "parent", "row", "ahead"]
theorem jJ:bB xR ["self"] (aB jI):=by walk_at "s"
def dM:=
  (ba (r8 4 0 "Coming" "rows" (e2 bW (eV 3) (eK (.int 1))))
   (eI (Am [0] [4] (tm (eH (e2 d_ (bp "Row" "reached" (eV 4)) (e2 bW (eV 3) (eK (.int 2))))) (eH (e2 d_ (bp "Row" "reached_around" (eV 4)) (e2 bW (eV 3) (eK (.int 3)))))))
   (qu 1 (e2 bW (eV 3) (eK (.int 0))))
   (qu 2 (eV 3))))
def hW:=
  (ba (yJ 1 0 "Coming" "settle" aD kB)
  (ba (kQ 2 (fG aN))
  (ba (ir (iL (tU 0 "Coming" "rests")) (gN 3)
  dM)
  (ba (fc Z_ 0 "Coming" "rests" (eV 2))
  (dm (mP (eF (mi (eV 1)))))))))
def dG:=lQ 1 5 aD hW
abbrev jy:=cC (mm 19) 8
abbrev tH:List aG:=["self", "found", "kept", "rest", "row"]
theorem jz:bB tH ["self"] (aB jy):=by walk_at "s"
def eO:=
  (ba (dD 6 (lE [0,1] [] (MV (dO (e2 eP (e2 bW (eV 5) (eK (.int 1))) (eV 2))) (dr "Coming" "moved_out" gi (eV 0) (aC (eV 5) (aC (eV 1) aN))) (eV 5))))
   (eI (tm (eH (e2 bW (eV 6) (eK (.int 2)))) (eH (e2 bW (eV 6) (eK (.int 3)))))
   (qu 4 (eV 6))
   da))
def jN:=
  (ba (DH 1 0 "Coming" "rows")
  (ba (dD 2 (lE [0] [] (bf iu (aC (bp "Coming" "rows" (eV 0)) aN))))
  (ba (kQ 3 (zt (tU 0 "Coming" "rests")))
  (ba (eI (Am [0] [] (kN (eH (e2 d_ (bp "Row" "reached" (eV 1)) (bp "Coming" "full" (eV 0))))))
  (qu 3 (lE [0] [] (dA (aC (bp "Row" "number" (eV 1)) (aC (eV 2) (aC (bp "Coming" "full" (eV 0)) (aC (eK (.int 0)) aN)))))))
  da)
  (ba (kQ 4 (fG aN))
  (ba (ir (iL (eF (wt (eV 3)))) (gN 5)
  eO)
  (fc Z_ 0 "Coming" "rests" (eV 4))))))))
def fZ:=lQ 1 7 aD jN
abbrev lp:=cC (mm 19) 9
abbrev wM:List aG:=["self", "row", "place", "rests", "kept", "rest", "moved"]
theorem lr:bB wM ["self"] (aB lp):=by walk_at "s"
section
variable {P:bt}{w:cZ}{K:aT}{b:aG->Option ak}{h:cD}{f:az}{j:dY}
theorem we(F:hG K "settle" "Coming.settle" jI f j)(i:KS K b)(c:eC P w K b h "Coming" "gone_on" 61 (iq K dB)):b_ P w K b h gS 62 f j ["self"] (K3 K aD kB):=
 F.Ys (own:=[0,1,4,3,1000004,1000003,2000000]) (own':=[0,1,4,3,1000004,1000003,2000000]) (g:=kv) jJ aD (by decide) (by decide) λe A d s H E k B a l=>
  have g:=jJ.nd
  by walk_at "o"
theorem r_(F:hG K "newly_told" "Coming.newly_told" jy f j)(k:KS K b)(c:eC P w K b h "Coming" "settle" 62 (K3 K aD kB)):b_ P w K b h gS 63 f j ["self"] (spT K aD dG):=
 F.B3 (own:=[0,1,2,4,1000004,2000000]) (own':=[0,1,2,4,1000004,2000000]) (g:=hW) jz aD (by decide) (by decide) λg A d s H E e B a l=>
  have i:=jz.nd
  (aH (M1 (i:=1) jz.nd rfl (.inl rfl) c e (pv 0)) (aH (by walk_at "o") (aH (by walk_at "o") (uw (own1:=[0,1,4,1000004,2000000]) 2 (by walk_at "o")))))
theorem vk(F:hG K "end_row" "Coming.end_row" lp f j)(e:KS K b)(c:eC P w K b h "Coming" "moved_out" 61 (iq K gi)):b_ P w K b h gS 62 f j ["self"] (spT K aD fZ):=
 F.B3 (own:=[0,1,3,4]) (own':=[0,1,3]) (g:=jN) lr aD (by decide) (by decide) λg A d s H E k B a l=>
  have i:=lr.nd
  (aH (Pu (i:=1) (c:= "Coming") lr.nd rfl (.inl rfl) (pv 0) e.q) (aH (by walk_at "o") (aH (by walk_at "o") (aH (by walk_at "o") (aH (by walk_at "o") (aH (by walk_at "o") (uw (own1:=[0,1,3]) 4 (by walk_at "o"))))))))
end
def fS:=
  (ba (eI (Am [0] [] (kN (eH (bf iQ (aC (eV 1) (aC (e2 tR (bf iu (aC (bp "Coming" "rows" (eV 0)) aN)) (eK (.int 1))) (aC (e2 tR (bp "Coming" "opened" (eV 0)) (eK (.int 0))) aN)))))))
  FN
  da)
  (ba (dZ Z_ 0 "Coming" "taken" (λi j=>i+j) (eK (.int 1)))
  (ba (eI (dO (e2 eP (e2 bW (eV 1) (eK (.int 0))) (eK (.str (af "close")))))
  (ba (eY (bQ "Coming" "end_row" aD fZ 0 kf))
   (dm (mP (eF (fG aN)))))
  da)
  (ba (eI (dO (e2 eP (e2 bW (eV 1) (eK (.int 0))) (eK (.str (af "open")))))
  (ba (eY (bQ "Coming" "begin_row" aD gj 0 (iY (mP (lE [0] [] (bp "Coming" "opened" (eV 0)))) (iY (mP (lE [0] [] (dr "Facts" "steps_for" eB (bp "Coming" "facts" (eV 0)) (aC (e2 bW (eV 1) (eK (.int 1))) aN)))) (iY (mP (eK (.int 0))) kf)))))
   (ba (dZ Z_ 0 "Coming" "opened" (λi j=>i+j) (eK (.int 1)))
   (eY (bQ "Coming" "spread" aD dy 0 kf))))
  (eY (bQ "Coming" "add_atoms" aD gk 0 (iY (mP (lE [0] [] (dr "Facts" "text_fact" ez (bp "Coming" "facts" (eV 0)) (aC (e2 bW (eV 1) (eK (.int 1))) aN)))) kf))))
  (dm (bQ "Coming" "newly_told" aD dG 0 kf))))))
def dz:=lQ 2 2 aD fS
abbrev ll:=cC (mm 19) 1
abbrev AI:List aG:=["self", "sign"]
theorem lq:bB AI ["self", "sign"] (aB ll):=by walk_at "s"
def kl:=
  (ba (pA 0 "Sift" "coming" aD (iP "Coming" cf (aC (eV 1) aN)))
  (fc Z_ 0 "Sift" "numbers" (eF (fG aN))))
def kA:=lQ 2 2 dH kl
abbrev lX:=cC (mm 26) 0
abbrev xM:List aG:=["self", "question"]
theorem pQ:bB xM ["self", "question"] (aB lX):=by walk_at "s"
def pb:=
  (ba (nh 2 (nz "Sift" "coming" "Coming" "feed" aD dz 0 (aC (eV 1) aN)))
  (ba (fc Z_ 0 "Sift" "numbers" (eF (QY [0] [] (mi (e2 gJ (bp "Sift" "numbers" (eV 0)) (eV 2))))))
  (dm (mP (eV 2)))))
def jC:=lQ 2 3 dH pb
abbrev qr:=cC (mm 26) 1
abbrev EK:List aG:=["self", "sign", "fresh"]
theorem vc:bB EK ["self", "sign"] (aB qr):=by walk_at "s"
def km:=
  (pA 0 "Lean" "coming" aD (iP "Coming" cf (aC (eV 1) aN)))
def fy:=lQ 2 2 dI km
abbrev lY:=cC (mm 23) 0
abbrev xN:List aG:=["self", "question"]
theorem pR:bB xN ["self", "question"] (aB lY):=by walk_at "s"
def xa:=
  (dm (nz "Lean" "coming" "Coming" "feed" aD dz 0 (aC (eV 1) aN)))
def jE:=lQ 2 2 dI xa
abbrev nr:=cC (mm 23) 1
abbrev EL:List aG:=["self", "sign"]
theorem nt:bB EL ["self", "sign"] (aB nr):=by walk_at "s"
def lA:=
  (dF (dr "Coming" "waits" jF (bp "Lean" "coming" (eV 0)) aN))
def lH:=j_ 1 1 lA
abbrev mM:=cC (mm 23) 2
abbrev zY:List aG:=["self"]
theorem qT:bB zY ["self"] (aB mM):=by walk_at "s"
def lB:=
  (dF (dr "Coming" "has_ended" iR (bp "Lean" "coming" (eV 0)) aN))
def ij:=j_ 1 1 lB
abbrev mO:=cC (mm 23) 3
abbrev z0:List aG:=["self"]
theorem qU:bB z0 ["self"] (aB mO):=by walk_at "s"
def mw:=
  (ba (dD 1 (bp "Lean" "coming" (eV 0)))
  (ba (dD 2 (eF (nj (iL (eF (HF (bp "Coming" "rows" (eV 1)) (pS (eK (.int 1))) pN))) [M] (gN 0) hI (dA (aC (bp "Row" "number" (eV 0)) (aC (bp "Row" "named" (eV 0)) (aC (bp "Row" "atoms" (eV 0)) aN)))))))
  (dF (dA (aC (bp "Coming" "taken" (eV 1)) (aC (bp "Coming" "opened" (eV 1)) (aC (eV 2) (aC (eF (zt (bp "Coming" "rests" (eV 1)))) aN))))))))
def eR:=j_ 1 3 mw
abbrev lb:=cC (mm 23) 4
abbrev t6:List aG:=["self", "coming", "rows"]
theorem og:bB t6 ["self"] (aB lb):=by walk_at "s"
section
variable {P:bt}{w:cZ}{K:aT}{b:aG->Option ak}{h:cD}{f:az}{t:dY}
theorem y0(F:hG K "feed" "Coming.feed" ll f t)(p:KS K b)(l:ml P w K b h "can_come" 63 (iq K iQ))(j:eC P w K b h "Coming" "end_row" 63 (spT K aD fZ))(d:eC P w K b h "Coming" "begin_row" 63 (spT K aD gj))(k:eC P w K b h "Coming" "spread" 63 (spT K aD dy))(e:eC P w K b h "Coming" "add_atoms" 63 (spT K aD gk))(c:eC P w K b h "Coming" "newly_told" 63 (spT K aD dG))(i:eC P w K b h "Facts" "steps_for" 63 (iq K eB))(g:eC P w K b h "Facts" "text_fact" 63 (iq K ez)):b_ P w K b h gS 64 f t ["self", "sign"] (spT K aD dz):=
 F.B3 (own:=[0]) (own':=[0]) (g:=fS) lq aD (by decide) (by decide) λn A m s H E q B a r=>
  have o:=lq.nd
  by walk_at "o"
theorem v_(F:hG K "__init__" "Sift.__init__" lX f t)(i:KS K b)(c:sC P w K b h "Coming" 90 (spT K aD cf)):b_ P w K b h gS 92 f t ["self", "question"] (spT K dH kA):=
 F.B3 (own:=[0]) (own':=[0]) (g:=kl) pQ dH (by decide) (by decide) λe A d s H E j B a k=>
  have g:=pQ.nd
  by walk_at "o"
theorem B1(F:hG K "take" "Sift.take" qr f t)(i:KS K b)(c:eC P w K b h "Coming" "feed" 64 (spT K aD dz)):b_ P w K b h gS 65 f t ["self", "sign"] (spT K dH jC):=
 F.B3 (own:=[0]) (own':=[0]) (g:=pb) vc dH (by decide) (by decide) λe A d s H E j B a k=>
  have g:=vc.nd
  by walk_at "o"
theorem wa(F:hG K "__init__" "Lean.__init__" lY f t)(i:KS K b)(c:sC P w K b h "Coming" 90 (spT K aD cf)):b_ P w K b h gS 92 f t ["self", "question"] (spT K dI fy):=
 F.B3 (own:=[0]) (own':=[0]) (g:=km) pR dI (by decide) (by decide) λe A d s H E j B a k=>
  have g:=pR.nd
  by walk_at "o"
theorem B2(F:hG K "take" "Lean.take" nr f t)(i:KS K b)(c:eC P w K b h "Coming" "feed" 64 (spT K aD dz)):b_ P w K b h gS 65 f t ["self", "sign"] (spT K dI jE):=
 F.B3 (own:=[0]) (own':=[0]) (g:=xa) nt dI (by decide) (by decide) λe A d s H E j B a k=>
  have g:=nt.nd
  by walk_at "o"
theorem xA(F:hG K "waiting" "Lean.waiting" mM f t)(g:KS K b)(a:eC P w K b h "Coming" "waits" 1 (iq K jF)):b_ P w K b h gS 2 f t ["self"] (iq K lH):=
 F.w3 (own:=[]) (own':=[]) (g:=lA) qT (by decide) λd A c s H E i B j=>
  have e:=qT.nd
  by walk_at "o"
theorem xB(F:hG K "is_over" "Lean.is_over" mO f t)(g:KS K b)(a:eC P w K b h "Coming" "has_ended" 1 (iq K iR)):b_ P w K b h gS 2 f t ["self"] (iq K ij):=
 F.w3 (own:=[]) (own':=[]) (g:=lB) qU (by decide) λd A c s H E i B j=>
  have e:=qU.nd
  by walk_at "o"
theorem yX(F:hG K "asleep" "Lean.asleep" lb f t)(d:KS K b):b_ P w K b h gS 1 f t ["self"] (iq K eR):=
 F.w3 (own:=[]) (own':=[]) (g:=mw) og (by decide) λa A outer s H E e B g=>
  have c:=og.nd
  (aH (by walk_at "o") (aH (Er (i:=2) (own':=[]) (N:=[("row" : aG)]) (src:=[M]) (jj (outer:=aB lb) (oN:=t6) rfl (by decide +kernel) rfl rfl) rfl og.nd rfl rfl (by walk_at "o") (fP 0) (by decide) (gL 0) (λC s H i=>⟨fN (i:=0) (show ([("row" : aG)]:List aG).Nodup by decide +kernel) rfl (.inl rfl),gO,(by walk_at "o")⟩)) (by walk_at "o")))
end
def MH:=
  (ba (dD 2 (e2 iw (e2 ri (e2 gJ (e2 gJ (e2 iw (eV 0) (eK (.int 2147483647))) (e2 ri (e2 ri (eV 1) (eV 1)) (eK (.int 7919)))) (eK (.int 104729))) (eK (.int 48271))) (eK (.int 2147483647))))
  (dF (e2 iw (e2 gJ (e2 ri (eV 2) (eV 2)) (e2 ri (eK (.int 69621)) (eV 1))) (eK (.int 2147483629)))))
def BI:=j_ 2 3 MH
abbrev Fz:=mm 28
abbrev WD:List aG:=["_law_cell", "_law_turn", "_law_number"]
theorem Ld:bB WD ["_law_cell", "_law_turn"] (aB Fz):=by walk_at "s"
def wI:=
  (ba (dD 7 (e2 iw (eV 6) (bf iu (aC (eV 5) aN))))
    (ba (qu 4 (e2 iw (e2 bW (eV 5) (eV 7)) (eK (.int 2147483587))))
    (G_ 5 (eV 7) (e2 kg (e2 bW (eV 5) (eV 7)) (eK (.int 2147483587))))))
def wH:=
  (dD 8 (e2 iw (e2 gJ (e2 ri (eV 8) (eK (.int 31))) (bf BI (aC (eV 9) (aC (e2 gJ (eV 6) (eV 1)) aN)))) (eK (.int 2147483629))))
def wG:=
  (ba (dD 10 (bf BI (aC (e2 bW (eV 3) (e2 iw (eV 6) (bf iu (aC (eV 3) aN)))) (aC (e2 gJ (e2 gJ (e2 iw (eV 8) (eK (.int 1009))) (eV 6)) (eV 1)) aN))))
   (qu 4 (e2 iw (e2 gJ (e2 ri (eV 10) (eV 10)) (e2 ri (eK (.int 7)) (eV 6))) (eK (.int 2147483587)))))
def Ck:=
  (ba (dD 3 (e2 gJ (eF (HF (eV 0) pN (pS (eK (.int 63))))) (eF (fG (aC (eV 1) aN)))))
  (ba (kQ 4 (fG aN))
  (ba (eI (dO (e2 eP (e2 iw (e2 kg (e2 bW (eV 3) (eK (.int 0))) (eK (.int 50000))) (eK (.int 2))) (eK (.int 1))))
  (ba (kQ 5 (nj (iL (eV 3)) [M] (gN 0) hI (e2 kg (eV 0) (eK (.int 100000)))))
   (ba (ir (Pf (e2 gJ (e2 gJ (eV 1) (eV 2)) (eK (.int 1)))) (gN 6)
   wI)
   (ba (kQ 4 (HF (eV 4) (pS (eV 1)) pN))
   (vd (HF (eV 4) pN (pS (e2 gJ (eK (.int 1)) (e2 iw (e2 bW (eV 4) (eV 2)) (eV 2)))))))))
  da)
  (ba (dD 8 (eK (.int 0)))
  (ba (ir (iE (eV 3)) (Cm 6 9)
  wH)
  (ba (ir (Pf (e2 gJ (eK (.int 1)) (e2 iw (e2 kg (eV 8) (eK (.int 1009))) (eV 2)))) (gN 6)
  wG)
  (A4 4)))))))
def jP:=FP 3 11 Ck
abbrev u9:=mm 29
abbrev Ip:List aG:=["_law_script", "_law_turn", "_law_most", "_law_cells_here", "_law_found", "_law_lefts", "_law_k", "_law_at", "_law_number", "_law_cell", "_law_other"]
theorem yI:bB Ip ["_law_script", "_law_turn", "_law_most"] (aB u9):=by walk_at "s"
def Cj:=
  (ba (dD 1 (e2 bW (eF (qY jP (aC (eV 0) (aC (eK (.int 40)) (aC (eK (.int 1)) aN))))) (eK (.int 0))))
  (ba (dD 2 (JG (eK (.str (af "abcdefabcde"))) pN (pS (e2 iw (eV 1) (eK (.int 12))))))
  (ba (dD 3 (e2 iw (e2 kg (eV 1) (eK (.int 12))) (e2 gJ (bf iu (aC (eV 2) aN)) (eK (.int 1)))))
  (vd (nj (iS (eK (.str (af "mnopq")))) [M,Y 2,Y 3] (gN 0) hI (e2 gJ (e2 gJ (JG (eV 1) pN (pS (eV 2))) (eV 0)) (JG (eV 1) (pS (eV 2)) pN)))))))
def vD:=j_ 1 4 Cj
abbrev u6:=mm 30
abbrev Im:List aG:=["_law_script", "_law_number", "_law_stem", "_law_at"]
theorem vb:bB Im ["_law_script"] (aB u6):=by walk_at "s"
def wF:=
  (ba (dD 8 (eV 7))
   (ba (eI (dO (e2 eP (eV 6) (eK (.int 0))))
   (dD 5 (e2 iw (e2 kg (eV 8) (eK (.int 7))) (eK (.int 3))))
   da)
   (ba (dD 9 (e2 iw (e2 gJ (eV 8) (e2 ri (e2 ri (eV 5) (e2 iw (eV 6) (eK (.int 2)))) (eK (.int 5)))) (eK (.int 7))))
   (eI (tm (dO (e2 eP (eV 3) (eF (fG aN)))) (kO (dO (e2 Qh (eV 9) (eK (.int 3)))) (dO (e2 tR (eV 4) (eK (.int 0))))))
   (ba (qu 3 (dA (aC (eK (.str (af "open"))) (aC (e2 bW (eV 1) (e2 iw (e2 iw (e2 kg (eV 8) (eK (.int 7))) (eK (.int 11))) (eK (.int 5)))) aN))))
    (dD 4 (e2 gJ (eV 4) (eK (.int 1)))))
   (eI (kO (dO (e2 Qh (eV 9) (eK (.int 5)))) (dO (e2 tR (eV 4) (eK (.int 0)))))
    (qu 3 (dA (aC (eK (.str (af "text"))) (aC (e2 bW (eV 2) (e2 iw (e2 kg (eV 8) (eK (.int 7))) (eK (.int 5)))) aN))))
    (eI (tm (dO (e2 tR (eV 4) (eK (.int 1)))) (kO (dO (e2 eP (eV 4) (eK (.int 1)))) (dO (e2 eP (e2 iw (e2 kg (eV 8) (eK (.int 7))) (eK (.int 6))) (eK (.int 0))))))
     (ba (qu 3 (dA (aC (eK (.str (af "close"))) aN)))
      (dD 4 (e2 oU (eV 4) (eK (.int 1)))))
     da))))))
def Ci:=
  (ba (dD 2 (eF (fG (aC (eK (.str (af "x"))) (aC (eK (.str (af ""))) (aC (eK (.str (af "y x"))) (aC (eK (.str (af "\""))) (aC (eK (.str (af "[a]"))) aN))))))))
  (ba (kQ 3 (fG aN))
  (ba (dD 4 (eK (.int 0)))
  (ba (dD 5 (eK (.int 0)))
  (ba (ir (iE (eV 0)) (Cm 6 7)
  wF)
  (A4 3))))))
def sY:=FP 2 10 Ci
abbrev yC:=mm 31
abbrev Qd:List aG:=["_law_cells_here", "_law_some", "_law_texts", "_law_signs_here", "_law_depth_here", "_law_lean", "_law_k", "_law_cell", "_law_number", "_law_kind"]
theorem DC:bB Qd ["_law_cells_here", "_law_some"] (aB yC):=by walk_at "s"
def yj:=
  (dF (e2 oU (bf iu (aC (eF (nj (iL (eV 0)) [M] (gN 0) (dO (e2 eP (e2 bW (eV 0) (eK (.int 0))) (eK (.str (af "open"))))) (eV 0))) aN)) (bf iu (aC (eF (nj (iL (eV 0)) [M] (gN 0) (dO (e2 eP (e2 bW (eV 0) (eK (.int 0))) (eK (.str (af "close"))))) (eV 0))) aN))))
def qM:=j_ 1 1 yj
abbrev rS:=mm 32
abbrev CU:List aG:=["_law_signs_here"]
theorem DE:bB CU ["_law_signs_here"] (aB rS):=by walk_at "s"
def MG:=
  (ba (eI (dO (e2 eP (eV 0) (eF (fG aN))))
  (dm (mP (eK (.int 0))))
  da)
  (dm (O3 0)))
def xk:=Aq 1 1 0 MG
abbrev Fy:=mm 33
abbrev WC:List aG:=["_law_draws"]
theorem Lb:bB WC ["_law_draws"] (aB Fy):=by walk_at "s"
def Hz:=
  (dF (MW (Wc "int" (eV 0)) (Po (dO (Wc "bool" (eV 0))))))
def yq:=j_ 1 1 Hz
abbrev yA:=mm 36
abbrev Qb:List aG:=["_law_found"]
theorem DA:bB Qb ["_law_found"] (aB yA):=by walk_at "s"
section
variable {P:bt}{w:cZ}{K:aT}{b:aG->Option ak}{j:cD}{f:az}{h:dY}
theorem R_(F:hG K "_law_mix" "_law_mix" Fz f h):b_ P w K b j gS 1 f h ["_law_cell", "_law_turn"] (iq K BI):=
 F.w3 (own:=[]) (own':=[]) (g:=MH) Ld (by decide) λc A a s H E e B g=>
  have d:=Ld.nd
  by walk_at "o"
theorem L4(F:hG K "_law_cells" "_law_cells" u9 f h)(g:KS K b)(a:ml P w K b j "_law_mix" 1 (iq K BI)):b_ P w K b j gS 2 f h ["_law_script", "_law_turn", "_law_most"] (Ki K jP):=
 F.Yt (own:=[4,5]) (own':=[4,5]) (g:=Ck) yI (by decide) λd A outer s H E i B c=>
  have e:=yI.nd
  (aH (by walk_at "o") (aH (by walk_at "o") (aH (xc (by walk_at "o") (aH (Bt (i:=5) (own':=[]) (N:=[("_law_cell" : aG)]) (src:=[M]) (jj (outer:=aB u9) (oN:=Ip) rfl (by decide +kernel) rfl rfl) rfl yI.nd rfl rfl (nG (vP 3)) (fP 0) (by decide) (gL 0) (λC s H k=>⟨fN (i:=0) (show ([("_law_cell" : aG)]:List aG).Nodup by decide +kernel) rfl (.inl rfl),gO,(by walk_at "o")⟩)) (aH (ux gZ rfl (by walk_at "o") (λB c=>(by walk_at "o")) (λB c=>(aH (by walk_at "o") (aH (by walk_at "o") (cK (Pw (pv 5) (vQ 7) (by walk_at "o"))))))) (by walk_at "o"))) nF) (by walk_at "o"))))
theorem LZ(F:hG K "_law_names" "_law_names" u6 f h)(e:KS K b)(a:ml P w K b j "_law_cells" 2 (Ki K jP)):b_ P w K b j gS 3 f h ["_law_script"] (iq K vD):=
 F.w3 (own:=[]) (own':=[]) (g:=Cj) vb (by decide) λc A outer s H E g B i=>
  have d:=vb.nd
  (aH (by walk_at "o") (aH (zH (i:=2) vb.nd rfl (.inr rfl) (by walk_at "o")) (aH (zH (i:=3) vb.nd rfl (.inr rfl) (by walk_at "o")) (cK (HQ (tW (own':=[]) (N:=[("_law_letter" : aG),("_law_stem" : aG),("_law_at" : aG)]) (src:=[M,Y 2,Y 3]) (jj (outer:=aB u6) (oN:=Im) rfl (by decide +kernel) rfl rfl) rfl (Tt Tu) (fP 0) (by decide) (gL 0) (λC s H k=>⟨fN (i:=0) (show ([("_law_letter" : aG),("_law_stem" : aG),("_law_at" : aG)]:List aG).Nodup by decide +kernel) rfl (.inl rfl),gO,(by walk_at "o")⟩)))))))
theorem LX(F:hG K "_law_signs" "_law_signs" yC f h)(e:KS K b):b_ P w K b j gS 1 f h ["_law_cells_here", "_law_some"] (Ki K sY):=
 F.Yt (own:=[3]) (own':=[3]) (g:=Ci) DC (by decide) λc A a s H E g B i=>
  have d:=DC.nd
  by walk_at "o"
theorem L3(F:hG K "_law_depth" "_law_depth" rS f h)(a:KS K b):b_ P w K b j gS 1 f h ["_law_signs_here"] (iq K qM):=
 F.w3 (own:=[]) (own':=[]) (g:=yj) DE (by decide) λd A outer s H E g B i=>
  have e:=DE.nd
  (cK (oI (Nc Sb (dq (Nf rfl a.y (dq (df (tW (own':=[]) (N:=[("_law_sign" : aG)]) (src:=[M]) (jj (outer:=aB rS) (oN:=CU) rfl (by decide +kernel) rfl rfl) rfl (nG (vP 0)) (fP 0) (by decide) (gL 0) (λC s H c=>⟨fN (i:=0) (show ([("_law_sign" : aG)]:List aG).Nodup by decide +kernel) rfl (.inl rfl),(HN (by walk_at "o")),(vP 0)⟩)))))) (dq (Nf rfl a.y (dq (df (tW (own':=[]) (N:=[("_law_sign" : aG)]) (src:=[M]) (jj (outer:=aB rS) (oN:=CU) rfl (by decide +kernel) rfl rfl) rfl (nG (vP 0)) (fP 0) (by decide) (gL 0) (λC s H c=>⟨fN (i:=0) (show ([("_law_sign" : aG)]:List aG).Nodup by decide +kernel) rfl (.inl rfl),(HN (by walk_at "o")),(vP 0)⟩)))))))))
theorem R9(F:hG K "_law_pop" "_law_pop" Fy f h):b_ P w K b j gS 1 f h ["_law_draws"] (BQ K 0 xk):=
 F.sO (own:=[0]) (own':=[0]) (g:=MG) Lb 0 (by decide) (by decide) λd A c s H E g B a i=>
  have e:=Lb.nd
  (aH (by walk_at "o") (cK (yn (Tq (pv 0)))))
theorem LU(F:hG K "_law_whole" "_law_whole" yA f h)(a:KS K b):b_ P w K b j gS 1 f h ["_law_found"] (iq K yq):=
 F.w3 (own:=[]) (own':=[]) (g:=Hz) DA (by decide) λd A c s H E g B i=>
  have e:=DA.nd
  (cK (oI (TC (Bv (T:= "int") (by decide) rfl a.y rfl a.y (by decide +kernel) (vQ 0)) (Tv (Tw (Bv (T:= "bool") (by decide) rfl a.y rfl a.y (by decide +kernel) (vQ 0)))))))
end
def Cg(c:List D->Option (D×List D))(a:List D->Option (D×List D)):DG:=
  (ba (nh 3 (tS xk 0 aN))
  (ba (dD 4 (e2 iw (eV 3) (eK (.int 8))))
  (ba (eI (tm (dO (e2 Qh (eV 4) (eK (.int 2)))) (kO (dO (e2 eP (eV 1) (eK (.int 0)))) (dO (e2 tR (eV 4) (eK (.int 2))))))
  (dm (mP (dA (aC (eK (.str (af "any"))) aN))))
  da)
  (ba (eI (dO (e2 eP (eV 4) (eK (.int 2))))
  (dm (mP (dA (aC (eK (.str (af "text"))) (aC (e2 bW (eF (fG (aC (eK (.str (af "x"))) (aC (eK (.str (af ""))) (aC (eK (.str (af "y x"))) (aC (eK (.str (af "\""))) (aC (eK (.str (af "[a]"))) aN))))))) (e2 iw (e2 kg (eV 3) (eK (.int 8))) (eK (.int 5)))) aN)))))
  da)
  (ba (eI (dO (e2 Qh (eV 4) (eK (.int 5))))
  (dm (xF (iY (mP (eK (.str (af "has")))) (iY (tS a 0 (aC (e2 oU (eV 1) (eK (.int 1))) (aC (eV 2) aN))) kf))))
  da)
  (ba (eI (dO (e2 eP (eV 4) (eK (.int 5))))
  (dm (mP (dA (aC (eK (.str (af "has"))) (aC (eF (fG (aC (dA (aC (eK (.str (af "own"))) (aC (eK (.str (af "*"))) (aC (dA (aC (eK (.str (af "any"))) aN)) aN)))) aN))) aN)))))
  da)
  (dm (xF (iY (mP (e2 bW (eF (fG (aC (eK (.str (af "both"))) (aC (eK (.str (af "one"))) aN)))) (e2 oU (eV 4) (eK (.int 6))))) (iY (VM (Pf (e2 iw (e2 kg (eV 3) (eK (.int 8))) (eK (.int 4)))) [M,Y 0,Y 2,Y 1] (gN 0) (tS c 1 (aC (e2 oU (eV 3) (eK (.int 1))) (aC (eV 2) aN))) 1 0) kf))))))))))
abbrev xZ:=mm 34
abbrev Nw:List aG:=["_law_draws", "_law_deep", "_law_some", "_law_number", "_law_kind"]
theorem GY:bB Nw ["_law_draws", "_law_deep", "_law_some"] (aB xZ):=by walk_at "s"
def wD(a:List D->Option (D×List D))(c:List D->Option (D×List D)):DG:=
  (ba (nh 5 (tS xk 0 aN))
   (ba (dD 6 (e2 bW (e2 gJ (eF (HF (eV 2) pN (pS (eK (.int 4))))) (eF (fG (aC (eK (.str (af "*"))) (aC (eK (.str (af "*"))) (aC (eK (.str (af "*"))) aN)))))) (e2 iw (e2 kg (eV 5) (eK (.int 2))) (eK (.int 7)))))
   (Hc 3 (xF (iY (mP (e2 bW (eF (fG (aC (eK (.str (af "own"))) (aC (eK (.str (af "inner"))) aN)))) (e2 iw (eV 5) (eK (.int 2))))) (iY (mP (eV 6)) (iY (tS a 0 (aC (eV 1) (aC (eV 2) aN))) kf)))))))
def yg(c:List D->Option (D×List D))(a:List D->Option (D×List D)):DG:=
  (ba (kQ 3 (fG aN))
  (ba (A8 (Xd (m2 gJ (mP (eK (.int 1))) (m2 iw (tS xk 0 aN) (mP (eK (.int 3)))))) (gN 4)
  (wD c a))
  (BS 3)))
abbrev yB:=mm 35
abbrev Qc:List aG:=["_law_draws", "_law_deep", "_law_some", "_law_steps_here", "_law_k", "_law_number", "_law_name"]
theorem DB:bB Qc ["_law_draws", "_law_deep", "_law_some"] (aB yB):=by walk_at "s"
mutual
noncomputable def gQ:Nat->List D->Option (D×List D)
 |0=>λ_=>M
 |n+1=>Aq 3 5 0 (Cg (gQ n) (gR n))
noncomputable def gR:Nat->List D->Option (D×List D)
 |0=>λ_=>M
 |n+1=>Aq 3 7 0 (yg (gQ n) (gR n))
end
section
variable {P:bt}{w:cZ}{K:aT}{b:aG->Option ak}{h:cD}{f:az}{j:dY}
theorem OV(F:hG K "_law_wish" "_law_wish" xZ f j)(l:KS K b)(e:ml P w K b h "_law_pop" (n+1) (BQ K 0 xk))(c:ml P w K b h "_law_steps" (n+1) (BQ K 0 (gR n)))(d:ml P w K b h "_law_wish" (n+1) (BQ K 0 (gQ n))):b_ P w K b h gS (n+1+1) f j ["_law_draws", "_law_deep", "_law_some"] (BQ K 0 (gQ (n+1))):=
 F.sO (own:=[0]) (own':=[0]) (g:=(Cg (gQ n) (gR n))) GY 0 (by decide) (by decide) λi A outer s H E m B a g=>
  have k:=GY.nd
  (aH (by walk_at "o") (aH (by walk_at "o") (aH (by walk_at "o") (aH (by walk_at "o") (aH (by walk_at "o") (aH (by walk_at "o") (cK (yn (Tp (zJ (by walk_at "o") (zJ (Wj (i0:=1) (j0:=0) (N:=[("_law_k" : aG),("_law_draws" : aG),("_law_some" : aG),("_law_deep" : aG)]) (src:=[M,Y 0,Y 2,Y 1]) (jj (outer:=aB xZ) (oN:=Nw) rfl (by decide +kernel) rfl rfl) rfl (by walk_at "o") (fP 0) (by decide) (sh _ 0 1) (λC s H o=>⟨fN (i:=0) (show ([("_law_k" : aG),("_law_draws" : aG),("_law_some" : aG),("_law_deep" : aG)]:List aG).Nodup by decide +kernel) rfl (oX rfl),gO,Wi λB a g=>(by walk_at "o")⟩)) PF)))))))))))
theorem LW(F:hG K "_law_steps" "_law_steps" yB f j)(i:KS K b)(e:ml P w K b h "_law_pop" (n+1) (BQ K 0 xk))(c:ml P w K b h "_law_wish" (n+1) (BQ K 0 (gQ n))):b_ P w K b h gS (n+1+1) f j ["_law_draws", "_law_deep", "_law_some"] (BQ K 0 (gR (n+1))):=
 F.sO (own:=[0,3]) (own':=[0,3]) (g:=(yg (gQ n) (gR n))) DB 0 (by decide) (by decide) λk A d s H E m B a g=>
  have l:=DB.nd
  (aH (by walk_at "o") (aH (Py gZ rfl (Gq rfl i.y (by walk_at "o")) (λB g=>(by walk_at "o")) (λB g=>(aH (by walk_at "o") (aH (by walk_at "o") (cK (PB (pv 3) (by walk_at "o"))))))) (cK (M3 (pv 3)))))
end
local macro_rules | `(tactic|walk_at "i") => `(tactic|(intros; walk_at "o"))
def vC:=gR 12
def sR:=ba (kQ 1 (fG aN)) (ba (ir (My (eK (.int 1)) (bf iu (aC (bp "Coming" "rows" (eV 0)) aN))) (gN 2) λ_=>M) (A4 1))
def sZ:=FP 1 6 sR
def yi:=ba (eI (kN (eH (bf iQ (aC (eV 1) (aC (e2 tR (bf iu (aC (bp "Coming" "rows" (eV 0)) aN)) (eK (.int 1))) (aC (e2 tR (bp "Coming" "opened" (eV 0)) (eK (.int 0))) aN)))))) (BU "NoSign" (bp "Coming" "taken" (eV 0))) da) λ_=>M
def yr:=DI 2 2 yi
def yf:=G8 (rN "Coming" "feed" yr (bp "Lean" "coming" (eV 0)) (aC (eV 1) aN))
def sX:=DI 2 2 yf
def ye:=
  (ba (w1 2 dI (iP "Lean" fy (aC (eV 0) aN)))
  (Ha [3,1000003,2000002] (ba (Li 3 2 "Lean" "coming")
  (ba (fc Z' 3 "Coming" "taken" (e2 bW (eV 1) (eK (.int 0))))
  (ba (fc Z' 3 "Coming" "opened" (e2 bW (eV 1) (eK (.int 1))))
  (ba (ir (iL (e2 bW (eV 1) (eK (.int 2)))) (gN 4) λ_=>M)
  (ba (eY (mP (eF (QY [2] [3] (Cp "Coming" "settle" sZ (eV 3))))))
  (ba (fc Z' 3 "Coming" "rests" (eF (zt (e2 bW (eV 1) (eK (.int 3))))))
  (Lg 2)))))))))
def yp:=j_ 2 5 ye
abbrev yz:=mm 24
abbrev Qa:List aG:=["question", "value", "lean", "coming", "row"]
theorem yH:bB Qa ["question", "value"] (aB yz):=by walk_at "s"
section
variable {P:bt}{w:cZ}{K:aT}{a:aG->Option ak}{b:cD}{f:az}{j:dY}
theorem FX(F:hG K "settle" "Coming.settle" jI f j)(h:KS K a):b_ P w K a b gS 1 f j ["self"] (Ki K sZ):=
 F.Yt (own:=[1]) (own':=[1]) (g:=sR) jJ (by decide) λe A c s H E i B d=>
  have g:=jJ.nd
  (aH (by walk_at "o") (aH (ux gZ rfl (by walk_at "o") (λB d=>(by walk_at "o")) (λB d=>zG)) (by walk_at "o")))
theorem L1(F:hG K "feed" "Coming.feed" ll f j)(l:KS K a)(c:ml P w K a b "can_come" 63 (iq K iQ))(x:ZO P w K a b "NoSign" 60):b_ P w K a b (Ir P w) 64 f j ["self", "sign"] (Ao K yr):=
 F.VD (own:=[]) (own':=[]) (g:=yi) lq (by decide) λi A d s H E g B h e=>
  have k:=lq.nd
  (aH (xc (by walk_at "o") (cK (JI x (g.mono (by decide)) e rfl (by walk_at "o") h)) nF) zG)
theorem LV(F:hG K "take" "Lean.take" nr f j)(l:KS K a)(h:GF P w K a b "Coming" "feed" 64 (Ao K yr)):b_ P w K a b (Ir P w) 65 f j ["self", "sign"] (Ao K sX):=
 F.VD (own:=[]) (own':=[]) (g:=yf) nt (by decide) λi A c s H E e B g d=>
  have k:=nt.nd
  (cK (Pq (MX h e d g (by walk_at "o") (by walk_at "o"))))
theorem LS(F:hG K "woken" "woken" yz f j)(h:KS K a)(d:sC P w K a b "Lean" 93 (spT K dI fy))(c:eC P w K a b "Coming" "settle" 94 (Ki K sZ)):b_ P w K a b gS 95 f j ["question", "value"] (iq K yp):=
 F.w3 (own:=[2]) (own':=[2,3,1000003,2000002]) (g:=ye) yH (by decide) λk A e s H E i B g=>
  have l:=yH.nd
  (aH (by walk_at "o") (MZ (own1:=[2,3,1000003,2000002]) [3,1000003,2000002] (aH (PD (i:=3) (c:= "Lean") yH.nd rfl (.inl rfl) (pv 2) h.q) (aH (by walk_at "o") (aH (by walk_at "o") (aH (ux gZ rfl (by walk_at "o") (λB g=>(by walk_at "o")) (λB g=>zG)) (aH (Et (Cu (df (Q3 [1000003,2000002] [2] [3] (JL c i (vP 3)))))) (aH (by walk_at "o") (cK (Pp (pv 2)))))))))))
end
abbrev pM:=cC (mm 3) 0
theorem Lc:bB ["self", "at"] ["self", "at"] (aB pM):=by walk_at "s"
theorem LY{P:bt}{K:aT}{f C:az}(F:hG K "__init__" "NoSign.__init__" pM f d)(T:P9 K C "at"):b_ P w K g b gS 1 f d ["self", "at"] (x5 C "at"):=by
 refine F.ok Lc (λe H Q E h =>?_) (λn A c s H e Q E o h =>?_)
 ·obtain⟨a,t,v,rfl,_⟩:=h
  rfl
 ·obtain⟨a,t,v,rfl,l,k⟩:=h
  refine⟨_,vf (OD (pv 0) (pv 1) rfl),?_⟩
  exact⟨_,rfl,_,rfl,a,C,t,rfl,l,T,λm j i=>k m j i⟩
abbrev x3:=mm 37
abbrev Ny:List aG:=["_law_error", "_law_which", "_law_found", "_law_due"]
theorem x8:bB Ny ["_law_error", "_law_which"] (aB x3):=by walk_at "s"
structure P8(H:Hp)(a C:az)(n:Int):Prop where
 ex:∃dx oe,H a=some (eL a oe)/\wK oe C dx/\H dx=some (.xd [("at",.int n)])
theorem P8.same{b:Hp}{C:az}(x:P8 H a C n)(s:bD H b):P8 b a C n:=by
 obtain⟨g,c,f,e,d⟩:=x.ex;exact⟨g,c,s _ _ f,e,s _ _ d⟩
section
variable {X:Cx}{p J G:Pos}{x y:aG}{C:az}{L O:TE}{e:Expr}
theorem TM(h:Wu X.K C):lU X (.builtin "isinstance") (λf H Q=>∃a n d c b,f=[.ref a,d]/\P8 H a C n/\(∀u,RelV d u->u=c)/\ja X.K (.ref C) c=Y b/\Q (.bl b) H):=by
 intro g s x H f y Q I r ⟨a,n,d,c,b,e,j,o,k,q⟩;subst e;obtain⟨D,B,v,t,p⟩:=j.ex;cases r with
 |cons m r=>
  cases r with|cons l r=>cases r;rename_i i z;obtain rfl:i=aE a:=m;obtain rfl:=o _ l;exact Ra (W:=X.w) I v t p h k λA w=>⟨.bl b,H,w,rfl,q⟩
def RI(K:aT)(C:az):List V->Hp->VK->Prop:=λe H Q=>∃a n d c b,e=[.ref a,d]/\P8 H a C n/\(∀u,RelV d u->u=c)/\ja K (.ref C) c=Y b/\Q (.bl b) H
theorem ug{v:V}(d:Wu X.K C)(g:Gl X "isinstance")(f:X.mg "isinstance" = M)(h:PE X e L)(i:PE X (.Name y G) (tC v))(c:ao (e::[.Name y G]) X.env=(Z_,eval e X.env)::ao [.Name y G] X.env:=by rfl)(a:ao (.Name y G::[]) X.env=(Z_,eval (.Name y G) X.env)::ao [] X.env:=by rfl)(b:(cv J (ao [.Name y G] X.env)).any (·.1)=false:=by rfl):
  PE X (.Call (.Name "isinstance" p) [e,.Name y G] [] J) (Uw (RI X.K C) (uZ L (uZ (tC v) Fu))):=
 yR (TM d) g f GO (cJ h (cJ i gA a) c) (by decide) (by decide) c b
theorem wj{K:aT}(e:d[i]?=Y (Y (.ref a)))(x:P8 H a C n)(k:ja K (.ref C) (.ref c)=Y b)(q:Q (.bl b) H):Uw (RI K C) (uZ (iC i) (uZ (tC (.ref c)) Fu)) d H Q:=
 ⟨_,e,a,n,.ref c,.ref c,b,rfl,x,λu r=>r,k,q⟩
theorem Pc{K:aT}(e:c[i]?=Y (Y (.ref a)))(x:P8 H a C n)(k:ja K (.ref C) (.type T)=Y b)(q:Q (.bl b) H):Uw (RI K C) (uZ (iC i) (uZ (tC (.ty T)) Fu)) c H Q:=
 ⟨_,e,a,n,.ty T,.type T,b,rfl,x,λu r=>r,k,q⟩
end
def FF(C:az):Sp:=λc H Q _=>∃a n,c=[.ref a,.int 0]/\P8 H a C n/\∀b,bD H b->Q (.bl Z') b
structure TV(K:aT)(mg:aG->Option ak)(C:az):Prop where
 xi:Wu K C
 m1:mg "NoSign" = some (.ref C)
 k1:ja K (.ref C) (.ref C)=some true
 m2:∃c,mg "NoText" = some (.ref c)/\ja K (.ref C) (.ref c)=some false
 m3:∃c,mg "NoPart" = some (.ref c)/\ja K (.ref C) (.ref c)=some false
 m4:∃c,mg "Taken" = some (.ref c)/\ja K (.ref C) (.ref c)=some false
 m5:∃c,mg "Late" = some (.ref c)/\ja K (.ref C) (.ref c)=some false
 m6:∃c,mg "SiftError" = some (.ref c)/\ja K (.ref C) (.ref c)=some true
 m7:ja K (.ref C) (.type "ValueError")=some true
def Pk:List D:=[.bl Z',.bl Z_,.bl Z_,.bl Z_,.bl Z_]
theorem OW{P:bt}{K:aT}{y:cD}{f C:az}(F:hG K "_law_only" "_law_only" x3 f fd)(k:KS K N)(g:TV K N C):
  b_ P w K N y gS 2 f fd ["_law_error", "_law_which"] (FF C):=by
 obtain⟨c2,m2,k2⟩:=g.m2
 obtain⟨c3,m3,k3⟩:=g.m3
 obtain⟨c4,m4,k4⟩:=g.m4
 obtain⟨c5,m5,k5⟩:=g.m5
 obtain⟨c6,m6,k6⟩:=g.m6
 have big:100000<bb:=by rw[il];decide
 refine F.ok x8 (λvs H Q E h =>?_) (λTK A I s H vs Q E hr h =>?_)
 ·obtain⟨a,n,rfl,_⟩:=h
  rfl
 ·obtain⟨a,n,rfl,m,q⟩:=h
  refine⟨_,oA (ma (i:=2) x8.nd rfl (by first|exact oX rfl|exact rF rfl) (B0 (cJ (ug (v :=.ref C) g.xi rfl k.y (pv 0) (sN rfl g.m1 rfl)) (cJ (ug (v :=.ref c2) g.xi rfl k.y (pv 0) (sN rfl m2 rfl)) (cJ (ug (v :=.ref c3) g.xi rfl k.y (pv 0) (sN rfl m3 rfl)) gA)))))
   (oA (ma (i:=2) x8.nd rfl (by first|exact oX rfl|exact rF rfl) (LB LR (pv 2) (B0 (cJ (ug (v :=.ref c4) g.xi rfl k.y (pv 0) (sN rfl m4 rfl)) (cJ (ug (v :=.ref c5) g.xi rfl k.y (pv 0) (sN rfl m5 rfl)) gA)))))
   (oA (Er (B:=⟨λ_=>M,H,[(0,a)],λ_ _=>False⟩) (t:=[]) (own:=[0]) (i:=3) (own':=[]) (N:=[("_law_k" : aG),("_law_which" : aG)]) (src:=[M,Y 1]) (jj (outer:=aB x3) (oN:=Ny) rfl (by decide +kernel) rfl rfl) rfl x8.nd rfl rfl (JK rfl k.y (dq Cv)) (fP 0) (by decide) (gL 0) (λC s H ex=>⟨fN (i:=0) (show ([("_law_k" : aG),("_law_which" : aG)]:List aG).Nodup by decide +kernel) rfl (by first|exact oX rfl|exact rF rfl),gO,(Gs (L6 hr) (dq (dv (pv 0))) (dq (dv (pv 1))) (wg _))⟩))
   (vf (qw (FR (Gs (own:=[0]) (L6 hr) (dq (dv (pv 2))) (dq (dv (pv 3))) (wg _)) (FR (ug (v :=.ty "ValueError") g.xi rfl k.y (pv 0) (Hm rfl k.y (by decide +kernel) rfl)) (LC (ug (v :=.ref c6) g.xi rfl k.y (pv 0) (sN rfl m6 rfl))))))))),?_⟩
  refine wj rfl m g.k1 (wj rfl m k2 (wj rfl m k3 ⟨by show 3<=bb;omega,λR T =>?_⟩))
  have D:bD H (dg H R (.lst [.bl Z',.bl Z_,.bl Z_])) :=.alloc T
  refine⟨_,rfl,wj rfl (m.same D) k4 (wj rfl (m.same D) k5 ⟨by show 2<=bb;omega,λX p =>?_⟩)⟩
  have G:R≠X:=λz=>by rw[z,br]at p;cases p
  have U:=D.trans (.alloc (o :=.lst [.bl Z_,.bl Z_]) p)
  refine⟨R,X,_,_,rfl,rfl,by rw[aZ G];exact br,br,by show 5<=bb;omega,λt x =>?_⟩
  have s3:=U.trans (.alloc (o :=.lst [.bl Z',.bl Z_,.bl Z_,.bl Z_,.bl Z_]) x)
  have h3:H t=none:=U.free x
  refine⟨dg (λ_=>M) t (.lst [.bl Z',.bl Z_,.bl Z_,.bl Z_,.bl Z_]),[M,Y (.int 0),Y (.lst Pk),M],.nx [M,Y (.int 0),Y (.lst Pk),Y (.lst Pk)],⟨λb o e =>?_,λb o e=>(nomatch e),s3,λb o e =>?_,λi d u e =>?_,⟨λ_=>[],λi d u e =>?_,λi d u e =>?_,λi j d c u hj di dj =>?_⟩,rfl,λi b l =>?_,λj r q hj h1 e =>?_⟩,rfl,λσ' G' H' S =>?_⟩
  ·by_cases l:b=t
   ·subst l;rw[br]at e ⊢;exact e
   ·rw[aZ l]at e;cases e
  ·by_cases l:b=t
   ·subst l;exact .inr h3
   ·rw[aZ l]at e;cases e
  ·have r5:bz K (dg (λ_=>M) t (.lst [.bl Z',.bl Z_,.bl Z_,.bl Z_,.bl Z_])) Pk [.bl Z',.bl Z_,.bl Z_,.bl Z_,.bl Z_]:=
    .cons (dn.mpr rfl) (.cons (dn.mpr rfl) (.cons (dn.mpr rfl) (.cons (dn.mpr rfl) (.cons (dn.mpr rfl) .nil))))
   match i,e with
   |1,e=>cases e;exact⟨_,rfl,bX.mpr rfl⟩|2,e=>cases e;exact⟨_,rfl,cW.mpr ⟨t,_,rfl,br,r5⟩⟩|0,e=>cases e|3,e=>cases e|i+4,e=>simp at e
  ·have:i=0:=by simpa using u
   subst this;cases e
  ·have:i=0:=by simpa using u
   subst this;cases e
  ·have:i=0:=by simpa using u
   subst this;cases di
  ·have l:(i,b)=(0,a):=by simpa using l
   cases l
   exact⟨by simp,rfl⟩
  ·have:j=0:=by simpa using hj
   subst this;cases e
  ·refine⟨G',_,.bl Z',S.gh,S.ji,rfl,λv G2 H2 E2 r2 =>?_⟩
   have:=dn.mp r2;subst this
   have B:bD H H2:=S.h0.trans E2.hh
   obtain⟨_,e0⟩:=S.pin 0 a (by simp)
   refine⟨Z',rfl,?_⟩
   rw[if_pos rfl]
   refine Pc e0 (m.same B) g.m7 ⟨Z',rfl,?_⟩
   rw[if_pos rfl]
   exact wj e0 (m.same B) k6 (q _ B)
def fB:DF:=dA (aC (dr "Lean" "waiting" lH (eV 0) aN) (aC (dr "Lean" "is_over" ij (eV 0) aN) (aC (dr "Lean" "asleep" eR (eV 0) aN) aN)))
def zR(n:Int)(a:cy):cy:=((a.set 3 M).set 4 (Y (.int n))).set 6 M
def GZ:DG:=λa=>(rN "Lean" "take" sX (eV 0) (aC (eV 1) aN) a).bind λr=>match r with
 |.er c n=>match eV 2 a with|some (.int m)=>if (c = "NoSign" /\a.length=7)/\m=n then dF (e2 eP (eV 5) fB) (zR n a) else M|_=>M
 |.ok _=>M
def sS:=ba (dD 3 (eK .dJ)) (ba (dD 4 (eK .dJ)) (ba (dD 5 fB) GZ))
def qj:=j_ 3 7 sS
abbrev uc:=mm 38
abbrev J0:List aG:=["_law_lean", "_law_sign", "_law_many", "_law_kept", "_law_place", "_law_before", "e"]
theorem kH:bB J0 ["_law_lean", "_law_sign", "_law_many"] (aB uc):=by walk_at "s"
abbrev Rp(K:aT):TS:=KQ (KZ (iC 6) (pf 3)) (KZ (QA K (iC 6) "at") (pf 4))
abbrev QB(K:aT)(C:az):TT:=X4 (U6 (tB (KY (FF C) [] E0 (uZ (iC 3) (uZ (tC (.int 0)) Fu))))) (X4 (rg K [] (kN (eH (bf yq (aC (eV 4) aN))))) (rg K [] (dO (e2 Au (eV 4) (eV 2)))))
abbrev KP(K:aT)(B:Bs)(C a:az):TS:=KQ (QE C a "take" (Ao K sX) 6 (tP K [] (eV 0)) (BP K [] (aC (eV 1) aN)) (Rp K)) (KQ (Rw (QB K C) (ib K B [] [] [] (dF (eK (.bl Z_)))) KU) (ib K B [] [] [] (dF (e2 eP (eV 5) fB))))
theorem SR.slots{K:aT}{B:Bs}{b:St}{f:cy}(S:SR K B [] G H k l)(m:B.3=[])(n:b.length=f.length)(q:∀(i:Nat) (d:D),f[i]?=Y (Y d)->∃v,b[i]?=Y (Y v)/\cO K G d v):SR K B [] G H b f:=
 ⟨S.gh,S.g0,S.h0,S.fr,λi d _ e=>q i d e,⟨λ_=>[],λi d g=>(by cases g),λi d g=>(by cases g),λi j d c g=>(by cases g)⟩,n,λi a h=>(by rw[m]at h;cases h),λj r p o=>(by cases o)⟩
theorem ID(n:Int):yq [.int n]=Y (.bl Z'):=by rfl
theorem KO{K:aT}{B:Bs}{c:cy}{y:List D}(hp:B.3=[])(n2:gU K aI "Lean" = Y (Y (.ref C2)))(nC:gU K aI "NoSign" = Y (Y (.ref C)))(xg:Nr K C "at")(S:SR K B [] G H h c)(k:WO K B [] [] D' o)(e0:eV 0 c=Y (.ins "Lean" Q ds))(hm:("take" : aG)∉Q)(eg:aC (eV 1) aN c=Y y)(eF:sX (.ins "Lean" Q ds::y)=Y (.er "NoSign" n))(a:c.length=7)(Zl:eV 2 c=Y (.int n))(eq:dF (e2 eP (eV 5) fB) (zR n c)=Y o):KP K B C C2 D' h H:=by
 refine⟨G,c,_,S.gh,S.ji,e0,λv G1 H1 F r1 =>?_⟩;obtain⟨a0,C',dx0,vs,rfl,n',ha,l,rs⟩:=mr.mp r1;rw[n2]at n';cases n';refine⟨a0,dx0,_,rfl,F.gh _ _ ha,kR (K:=K) (G:=G1) hm,G1,c,y,F.gh,S.ji.ext F,eg,λus u H2 E r2 =>?_⟩;refine⟨u,_,.er "NoSign" n,E.gh,.cons (cO.mono E.gg _ r1) r2,eF,λx s H3 p =>?_⟩;obtain⟨C',O,r,U,cl1⟩:=p.cl;rw[nC]at r;cases r;refine⟨x,s,rfl,rfl,⟨O,U,cl1⟩,λoe0 oe t X j ea st =>?_⟩;have P:s≠x:=λz=>by have:=p.dx;rw[z,X]at this;cases this
 have m:=j s _ P p.dx;have q:bD H2 t:=λb o e=>j b o (λz=>by rw[z,p.fr]at e;cases e) (p.same b o e)
 have S4:SR K B [] u t h c:=((S.ext F).ext E).ext ⟨q,bD.refl _,E.gh.trans q,λb o e =>.inl e⟩;have L:P8 t x C n:=⟨s,oe,ea,st,m⟩;have w:h.length=7:=by rw[S.len];exact a
 have q6:(Ui h 6 (Y (V.ref x)))[6]?=Y (Y (.ref x)):=bj (by rw[w];decide);refine⟨_,q6,?_⟩;have N:((Ui h 6 (Y (V.ref x))).set 3 (Y (V.ref x)))[6]?=Y (Y (.ref x)):=by rw[aj (by decide)];exact q6
 refine⟨_,N,x,C,s,oe,_,_,rfl,ea,st,m,xg,rfl,?_⟩;show KQ (Rw (QB K C) (ib K B [] [] [] (dF (eK (.bl Z_)))) KU) (ib K B [] [] [] (dF (e2 eP (eV 5) fB))) D' ((((Ui h 6 (Y (V.ref x))).set 3 (Y (V.ref x))).set 4 (Y (V.int n))).set 6 M) t;generalize g:(((Ui h 6 (Y (V.ref x))).set 3 (Y (V.ref x))).set 4 (Y (V.int n))).set 6 M=f;have l4:f.length=7:=by rw[<- g];simp[w]
 have s3:f[3]?=Y (Y (.ref x)):=by rw[<- g,aj (by decide),aj (by decide),bj (by simp[w])]
 have s4:f[4]?=Y (Y (.int n)):=by rw[<- g,aj (by decide),bj (by simp[w])]
 have T4:SR K B [] u t f (zR n c):=SR.slots S4 hp (by rw[l4];simp[zR,a]) λi d e=>by
  unfold zR at e;by_cases A:i=6
  ·subst A;rw[bj (by simp[a])]at e;cases e
  rw[aj (bG A)]at e;by_cases R:i=4
  ·subst R;rw[bj (by simp[a])]at e;cases e;exact⟨_,s4,bX.mpr rfl⟩
  rw[aj (bG R)]at e;by_cases T:i=3
  ·subst T;rw[bj (by simp[a])]at e;cases e
  rw[aj (bG T)]at e;obtain⟨v,ev,rv⟩:=S4.env i d (by simp) e;exact⟨v,by rw[<- g,aj (bG A),aj (bG R),aj (bG T),aj (bG A)];exact ev,rv⟩
 have b4:eV 4 (zR n c)=Y (.int n):=by unfold zR eV;rw[aj (by decide),bj (by simp[a])];rfl
 have b2:eV 2 (zR n c)=Y (.int n):=by rw[<- Zl];unfold zR eV;rw[aj (by decide),aj (by decide),aj (by decide)]
 refine⟨_,s3,x,n,rfl,L,λH5 s5=>⟨Z',rfl,?_⟩⟩;have T5:=T4.ext (G':=u) ⟨s5,bD.refl _,T4.gh.trans s5,λb o e =>.inl e⟩;refine xG ⟨u,_,Z_,T5.gh,T5.ji,?_,λG6 H6 E6 =>?_⟩
 ·simp only[kN,eH,bf,aC,aN,b4,ae,ID];rfl
 have T6:=T5.ext E6;refine xG ⟨G6,_,Z_,T6.gh,T6.ji,?_,λG7 H7 E7 =>?_⟩
 ·simp only[dO,e2,b4,b2,ae];simp[Au,i_,tV]
 have T7:=T6.ext E7;exact xG ⟨G7,_,o,T7,eq,k⟩
theorem Ob{K:aT}{B:Bs}{i:Ends}(t:B.3=[])(q:gU K aI "Lean" = Y (Y (.ref j)))(p:gU K aI "NoSign" = Y (Y (.ref C)))(l:Nr K C "at")(h:ib K B [] [] [] GZ i g H):KP K B C j i g H:=by
 obtain⟨G,A,o,S,b,k⟩:=h;unfold GZ rN at b;obtain⟨r,a,b⟩:=aa.1 b;obtain⟨E,z,a⟩:=aa.1 a;split at a
 ·rename_i y F L;split at a
  ·rename_i v;obtain⟨rfl,u⟩:=v;obtain⟨D,w,x⟩:=aa.1 a;cases r with
   |ok d=>cases b|er c n=>
    simp only at b;split at b
    ·rename_i m f;split at b
     ·rename_i s;obtain⟨⟨rfl,e⟩,rfl⟩:=s;exact KO t q p l S k z u w x e f b
     ·cases b
    ·cases b
  ·cases a
 ·cases a
section
variable {P:bt}{w:cZ}{K:aT}{y:aG->Option ak}{I:cD}{f:az}{J:dY}
theorem FY(F:hG K "_law_refused" "_law_refused" uc f J)(i:GF P w K y I "Lean" "take" 95 (Ao K sX))(b:eC P w K y I "Lean" "waiting" 95 (iq K lH))(d:eC P w K y I "Lean" "is_over" 95 (iq K ij))(c:eC P w K y I "Lean" "asleep" 95 (iq K eR))(g:ml P w K y I "_law_whole" 95 (iq K yq))(V:Q4 K C z)(r:gU K aI "NoSign" = Y (Y (.ref C)))(R:TV K y C)(p:Nr K C "at")(O:b_ P w K y I gS 2 o j ["_law_error", "_law_which"] (FF C))(l:y "_law_only" = Y (.ref o))(m:qk K (.ref o)=Z')(n:Binds K j ["_law_error", "_law_which"] []):b_ P w K y I gS 96 f J ["_law_lean", "_law_sign", "_law_many"] (iq K qj):=by
 obtain⟨Q,T,x,q,t,G,u,N,L⟩:=i.ex
 exact F.w3 (own:=[]) (own':=[]) (g:=sS) kH (by decide) λD A k s H E e B v=>
  (aH (zH (i:=3) kH.nd rfl (.inl rfl) Nd)
  (aH (zH (i:=4) kH.nd rfl (.inl rfl) Nd)
  (aH (zH (i:=5) kH.nd rfl (.inl rfl) (Gr (jO (nS b e (vP 0)) (jO (nS d e (vP 0)) (jO (nS c e (vP 0)) uy)))))
  (by
   refine oP.imp (t:=KP K B C Q) ?_ λX S U h=>Ob v t r p h
   exact(oA (OE (L:=s.heap.objs.size) G u N e L (vP 0) (jO (vP 1) uy) kH.nd rfl rfl V rfl R.m1 rfl rfl (λa=>oA (ma (i:=3) kH.nd rfl (.inl rfl) (pv 6)) (vf (ma (i:=4) kH.nd rfl (.inl rfl) (OL (pv 6) rfl)))))
   (oA (Lw (PW.pt (Lo (Lr (RK (vh (O.mono (by decide)) e rfl l m n .nil oB (cJ (pv 3) (cJ LF gA))))) (Lo (Tj (MY (dq (PL g e rfl (jO (vP 4) uy))))) (Ln (Tn (L5 e) (vQ 4) (vQ 2) (wg _))))))
   (cK (oI Wp))
   Hj)
   (vf (oI (Gs (L6 e) (vQ 5) (dq (Gr (jO (nS b e (vP 0)) (jO (nS d e (vP 0)) (jO (nS c e (vP 0)) uy))))) (wg _))))))))))
end
def mV:=
  (eI (tm (kN (eH (bf qj (aC (eV 0) (aC (eV 5) (aC (eV 3) aN)))))) (kN (eH (bf qj (aC (eV 4) (aC (eV 5) (aC (eV 3) aN)))))))
   (dF (eK (.bl Z_)))
   da)
def mv:=
  (ba (dD 4 (bf yp (aC (eV 1) (aC (dr "Lean" "asleep" eR (eV 0) aN) aN))))
  (ba (ir (iL (eV 2)) (gN 5)
  mV)
  (dF (eK (.bl Z')))))
def je:=j_ 4 6 mv
abbrev nZ:=mm 39
abbrev AH:List aG:=["_law_lean", "_law_question", "_law_signs_here", "_law_many", "_law_other", "_law_sign"]
theorem rY:bB AH ["_law_lean", "_law_question", "_law_signs_here", "_law_many"] (aB nZ):=by walk_at "s"
section
variable {P:bt}{w:cZ}{K:aT}{a:aG->Option ak}{b:cD}{f:az}{h:dY}
theorem yW(F:hG K "_law_all_refused" "_law_all_refused" nZ f h)(e:ml P w K a b "woken" 96 (iq K yp))(d:ml P w K a b "_law_refused" 96 (iq K qj))(c:eC P w K a b "Lean" "asleep" 96 (iq K eR)):b_ P w K a b gS 97 f h ["_law_lean", "_law_question", "_law_signs_here", "_law_many"] (iq K je):=
 F.w3 (own:=[]) (own':=[]) (g:=mv) rY (by decide) λi A g s H E k B l=>
  have j:=rY.nd
  by walk_at "o"
end
def CH:=
  (IU Au (bQ "Lean" "take" dI jE 4 (iY (mP (eV 6)) kf)) (bQ "Sift" "take" dH jC 5 (iY (mP (eV 6)) kf))
   (dF (eK (.bl Z_)))
   da)
def H_:=
  (IU Au (bQ "Lean" "take" dI jE 4 (iY (mP (dA (aC (eK (.str (af "close"))) aN))) kf)) (bQ "Sift" "take" dH jC 5 (iY (mP (dA (aC (eK (.str (af "close"))) aN))) kf))
   (dF (eK (.bl Z_)))
   da)
def HA:=
  (ba (dD 1 (bf vD (aC (eV 0) aN)))
  (ba (dD 2 (sU vC (qY jP (aC (eV 0) (aC (eK (.int 100)) (aC (eK (.int 12)) aN)))) (aC (eK (.int 3)) (aC (eV 1) aN))))
  (ba (dD 3 (eF (qY sY (aC (eF (qY jP (aC (eV 0) (aC (eK (.int 500)) (aC (eK (.int 20)) aN))))) (aC (eV 1) aN)))))
  (ba (w1 4 dI (iP "Lean" fy (aC (eV 2) aN)))
  (ba (w1 5 dH (iP "Sift" kA (aC (eV 2) aN)))
  (ba (eI (Am [4,5] [] (kN (eH (bf je (aC (eV 4) (aC (eV 2) (aC (eF (fG (aC (dA (aC (eK (.str (af "close"))) aN)) (aC (dA (aC (eK (.str (af "text"))) (aC (eK (.str (af ""))) aN))) (aC (dA (aC (eK (.str (af "text"))) (aC (eK (.str (af "x"))) aN))) aN))))) (aC (eK (.int 0)) aN))))))))
  (dF (eK (.bl Z_)))
  da)
  (ba (ir (iL (eV 3)) (gN 6)
  CH)
  (ba (ir (Pf (bf qM (aC (eV 3) aN))) (gN 7)
  H_)
  (ba (eI (dO (e2 eP (eV 3) (eF (fG aN))))
  (dF (eK (.bl Z')))
  da)
  (ba (dD 8 (e2 gJ (bf iu (aC (eV 3) aN)) (bf qM (aC (eV 3) aN))))
  (ba (eI (Am [4,5] [] (dO (e2 L7 (dr "Lean" "is_over" ij (eV 4) aN) (eK (.bl Z')))))
  (dF (eK (.bl Z_)))
  da)
  (dF (lE [4,5] [] (bf je (aC (eV 4) (aC (eV 2) (aC (eF (fG (aC (dA (aC (eK (.str (af "open"))) (aC (e2 bW (eV 1) (eK (.int 0))) aN))) (aC (dA (aC (eK (.str (af "text"))) (aC (eK (.str (af "x"))) aN))) (aC (dA (aC (eK (.str (af "close"))) aN)) aN))))) (aC (eV 8) aN))))))))))))))))))
def ER:=j_ 1 9 HA
abbrev vT:=mm 40
abbrev WE:List aG:=["_law_script", "_law_some", "_law_question", "_law_signs_here", "_law_lean", "_law_sift", "_law_sign", "_law_k", "_law_many"]
theorem Lf:bB WE ["_law_script"] (aB vT):=by walk_at "s"
section
variable {P:bt}{w:cZ}{K:aT}{a:aG->Option ak}{b:cD}{f:az}{h:dY}
theorem R'(F:hG K "law" "law" vT f h)(v:KS K a)(o:sC P w K a b "Lean" 98 (spT K dI fy))(n:sC P w K a b "Sift" 98 (spT K dH kA))(k:ml P w K a b "_law_names" 99 (iq K vD))(i:ml P w K a b "_law_steps" 99 (BQ K 0 vC))(m:ml P w K a b "_law_cells" 99 (Ki K jP))(j:ml P w K a b "_law_signs" 99 (Ki K sY))(l:ml P w K a b "_law_depth" 99 (iq K qM))(e:eC P w K a b "Sift" "take" 99 (spT K dH jC))(g:eC P w K a b "Lean" "take" 99 (spT K dI jE))(c:eC P w K a b "Lean" "is_over" 99 (iq K ij))(d:ml P w K a b "_law_all_refused" 99 (iq K je)):b_ P w K a b gS 100 f h ["_law_script"] (iq K ER):=
 F.w3 (own:=[4,5]) (own':=[4,5]) (g:=HA) Lf (by decide) λt A q s H E r B p=>
  have u:=Lf.nd
  (aH (by walk_at "o") (aH (by walk_at "o") (aH (by walk_at "o") (aH (by walk_at "o") (aH (by walk_at "o") (aH (by walk_at "o") (aH (ux gZ rfl (nG (vP 3)) (λB p=>(by walk_at "o")) (λB p=>(cK (M5 (L5 r) (by walk_at "o") (by walk_at "o") (wg _) (by walk_at "o") nF)))) (aH (ux gZ rfl (by walk_at "o") (λB p=>(by walk_at "o")) (λB p=>(cK (M5 (L5 r) (by walk_at "o") (by walk_at "o") (wg _) (by walk_at "o") nF)))) (by walk_at "o")))))))))
end
end K21
namespace K21
open PySem L2
structure EO where
 q:List D
 bits:Int
 nk:List lJ
 nv:List D
 tk:List lJ
 tv:List D
 jH:Int
 u5:Int
 inner:Int
 cT:List D
 asks:List D
def fU(f:EO):D :=.ins "Facts" ["question", "bits", "by_name", "by_text", "starred", "stars", "inner", "leads", "asks"] [.lst f.q,.int f.bits,.iW f.nk f.nv,.iW f.tk f.tv,.int f.jH,.int f.u5,.int f.inner,.lst f.cT,.lst f.asks]
structure jB where
 number:Int
 named:Int
 atoms:Int
 fits:Int
 bu:Int
 ra:Int
 p_:Int
 ha:Int
noncomputable abbrev rk:List aG:=["number", "named", "atoms", "fits", "reached", "reached_around", "hoped", "hoped_around"]
abbrev rl(r:jB):List D:=[.int r.number,.int r.named,.int r.atoms,.int r.fits,.int r.bu,.int r.ra,.int r.p_,.int r.ha]
def cn(r:jB):D :=.ins "Row" rk (rl r)
structure uF where
 num:Int
 place:Int
 own:Int
 around:Int
def cH(r:uF):D :=.tup [.int r.num,.int r.place,.int r.own,.int r.around]
structure jg where
 f:EO
 full:Int
 qf:Int
 taken:Int
 opened:Int
 rows:List jB
 rests:List uF
def bE(c:jg):D :=.ins "Coming" ["facts", "full", "able", "taken", "opened", "rows", "rests"] [fU c.f,.int c.full,.int c.qf,.int c.taken,.int c.opened,.lst (c.rows.map cn),.lst (c.rests.map cH)]
noncomputable abbrev bA:=uV
noncomputable abbrev bO:=c_
abbrev bN:=uU
theorem zm(c:jg)(p a f:Int)(h:(bA (bO p (bA a c.f.inner)) f).natAbs<2 ^ 64):dB [bE c,.int p,.int a,.int f]=Y (.int (bA (bO p (bA a c.f.inner)) f*2)):=by
 have e:dB [bE c,.int p,.int a,.int f]=((pX (.int (bA (bO p (bA a c.f.inner)) f)) (.int 1)).map DO.rt).bind nL:=by kernel_rfl
 rw[e];simp only[pX];rw[if_pos ⟨by decide,by decide,h⟩];rfl
theorem zf(h:0<n):B' n (-1)=Y (n-1):=by
 unfold B';rw[if_neg (by decide),if_pos (by omega)]
 congr 1
 omega
theorem pB{n k:Nat}(h:k<n):B' n (k:Int)=Y k:=by
 unfold B';rw[if_pos (by omega),if_pos (by omega)]
 congr 1
theorem Nm(b:List a)(x:a):ph (b++[x]) (-1)=Y x:=by
 unfold ph;rw[zf (by simp)];simp
theorem aK{ρ':cy}(e:g ρ=Y (.nx ρ')):ba g h ρ=h ρ':=by unfold ba;rw[e];rfl
theorem iF{f:DF}{a:cy}{d:D}(e:f a=Y d):dD i f a=Y (.nx (a.set i (Y d))):=by unfold dD;rw[e];rfl
theorem mB{f:DF}{ρ':cy}{d:D}(r:res b c a=ρ')(e:f ρ'=Y d)(p:r9 d=Z'):lE b c f a=Y d:=by unfold lE;rw[r,e];simp[p]
theorem rQ{f:DT}{ρ':cy}(r:res c d a=ρ')(e:f ρ'=Y b):Am c d f a=Y b:=by unfold Am;rw[r,e]
abbrev oC(c:jg):Option D:=Y (.obj aD (bE c))
abbrev dN(k:Nat):Option D:=Y (.dN 0 [.fld "rows",.ix k])
def VI(c:jg)(b:uF)(r pr:jB):uF:=
 let a:=bA (bO b.own b.around/2) r.fits
 ⟨b.num,b.place-1,bA (bA a (bN c.f.inner)) pr.p_,bA (bO (bA a c.f.inner) b.around) pr.ha⟩
theorem IW{c:jg}(h:c.rows.getLast? = Y a):ph (c.rows.map cn) (-1)=Y (cn a):=by
 obtain⟨b,e⟩:=Ko.mp h;rw[e,cq];exact Nm _ _
theorem B5(c:jg)(b:uF)(r a:jB)(h:c.rows.getLast? = Y a):gi [bE c,cH b,cn r]=Y (cH (VI c b r a)):=by
 show (iJ [Y (bE c),Y (cH b),Y (cn r),M,M,M,M]).bind nL=_;unfold iJ;rw[aK (iF (d:=cn a) (show (ph (c.rows.map cn) (-1):Option D)=Y (cn a) from IW h))];kernel_rfl
theorem BY{c:jg}{k:Nat}{r r':jB}{f:aG}{d:D}(h:c.rows[k]?=Y r)(m:eV 0 a=oC c)(i:eV j a=dN k)(l:e a=Y d)(g:D.ins "Row" (iT f d rk (rl r)).1 (iT f d rk (rl r)).2=cn r'):
  fc Z' j "Row" f e a=Y (.nx (a.set 0 (oC { c with rows:=c.rows.set k r' }))):=by
 have b:(c.rows.map cn)[k]?=Y (cn r):=by rw[aY,h];rfl
 unfold fc Hk xo;rw[l,i];simp only[ae];rw[m];simp only[ae];have p:xI "Row" aD (bE c) [.fld "rows",.ix k]=Y ([],rk,rl r):=by
  have o:eZ [.fld "rows",.ix k] (bE c)=Y (cn r):=by
   have:eZ [.fld "rows",.ix k] (bE c)=((c.rows.map cn)[k]?).bind (eZ []):=by kernel_rfl
   rw[this,b];rfl
  unfold xI;rw[o];kernel_rfl
 rw[p];simp only[ae];rw[if_pos ⟨rfl,by decide⟩,g];have n:mC (cn r') [.fld "rows",.ix k] (bE c)=bE { c with rows:=c.rows.set k r' }:=by
  have:mC (cn r') [.fld "rows",.ix k] (bE c)=D.ins "Coming" ["facts", "full", "able", "taken", "opened", "rows", "rests"] [fU c.f,D.int c.full,D.int c.qf,D.int c.taken,D.int c.opened,(match (c.rows.map cn)[k]? with|none=>D.lst (c.rows.map cn)|some _=>D.lst ((c.rows.map cn).set k (cn r'))),D.lst (c.rests.map cH)]:=by kernel_rfl
  rw[this,b];unfold bE;simp only[vJ]
 rw[n]
abbrev ck:List aG:=["facts", "full", "able", "taken", "opened", "rows", "rests"]
abbrev cl(c:jg):List D:=[fU c.f,.int c.full,.int c.qf,.int c.taken,.int c.opened,.lst (c.rows.map cn),.lst (c.rests.map cH)]
theorem uD{c:jg}{n:Int}{k:Nat}(g:eV 0 a=oC c)(f:b a=Y (.int n))(d:B' c.rows.length n=Y k):r8 i 0 "Coming" "rows" b a=Y (.nx (a.set i (dN k))):=by
 have e:rh "Coming" "rows" 0 a=Y (sT,ck,cl c,D.lst (c.rows.map cn)):=by unfold rh xo;rw[g];kernel_rfl
 unfold r8;rw[e,f];show (B' (c.rows.map cn).length n).map _=_;rw[ax,d];rfl
theorem He{c:jg}{k:Nat}{r r':jB}{f:aG}{m n:Int}(i:c.rows[k]?=Y r)(p:eV 0 a=oC c)(l:eV j a=dN k)(o:e a=Y (.int n))(h:(rk.zip (rl r)).lookup f=Y (.int m))(g:D.ins "Row" (iT f (.int (b m n)) rk (rl r)).1 (iT f (.int (b m n)) rk (rl r)).2=cn r'):
  dZ Z' j "Row" f b e a=Y (.nx (a.set 0 (oC { c with rows:=c.rows.set k r' }))):=by
 have d:(c.rows.map cn)[k]?=Y (cn r):=by rw[aY,i];rfl
 unfold dZ Hk xo;rw[o,l];simp only[ae];rw[p];simp only[ae];have t:xI "Row" aD (bE c) [.fld "rows",.ix k]=Y ([],rk,rl r):=by
  have s:eZ [.fld "rows",.ix k] (bE c)=Y (cn r):=by
   have:eZ [.fld "rows",.ix k] (bE c)=((c.rows.map cn)[k]?).bind (eZ []):=by kernel_rfl
   rw[this,d];rfl
  unfold xI;rw[s];kernel_rfl
 rw[t];simp only[ae,h];rw[if_pos ⟨rfl,by decide⟩,g];have q:mC (cn r') [.fld "rows",.ix k] (bE c)=bE { c with rows:=c.rows.set k r' }:=by
  have:mC (cn r') [.fld "rows",.ix k] (bE c)=D.ins "Coming" ["facts", "full", "able", "taken", "opened", "rows", "rests"] [fU c.f,D.int c.full,D.int c.qf,D.int c.taken,D.int c.opened,(match (c.rows.map cn)[k]? with|none=>D.lst (c.rows.map cn)|some _=>D.lst ((c.rows.map cn).set k (cn r'))),D.lst (c.rests.map cH)]:=by kernel_rfl
  rw[this,d];unfold bE;simp only[vJ]
 rw[q]
theorem oK{c:jg}{k:Nat}{r:jB}(a:c.rows[k]?=Y r):(c.rows.map cn)[k]?=Y (cn r):=by rw[aY,a];rfl
structure Qe(f:EO)(fit lift:Int->Int->Int):Prop where
 fit:∀n a,dQ [fU f,.int n,.int a]=some (.int (fit n a))
 lift:∀n a,ik [fU f,.int n,.int a]=some (.int (lift n a))
def K2(c b:Int->Int->Int)(p:Nat)(r d:jB)(a:List jB):List jB:=
 (a.set (p+1) { r with fits:=c r.named r.atoms }).set p { d with atoms:=bO d.atoms (b r.named r.atoms) }
theorem Du(w:Qe c.f e a){p:Nat}{f:jB}(s:c.rows[p+1]?=Y r)(z:c.rows[p]?=Y f)(d A l g:Option D):
  jq [oC c,Y (.int ((p:Int)+1)),d,A,l,g]=Y (.nx [oC { c with rows:=K2 e a p r f c.rows },Y (.int p),Y (.bl (bA (a r.named r.atoms) (bN f.atoms) != 0)),dN (p+1),Y (.int (a r.named r.atoms)),dN p]):=by
 have v:p+1<c.rows.length:=(au.mp s).1;unfold jq;rw[aK (uD (c:=c) (n:=(p:Int)+1) (k:=p+1) rfl rfl (by have:=pB (n:=c.rows.length) (k:=p+1) v;simpa using this))];simp only[bg,bh];have q:res [0] [3,5] [oC c,Y (.int ((p:Int)+1)),d,dN (p+1),l,g]=[Y (bE c),Y (.int ((p:Int)+1)),d,((c.rows.map cn)[p+1]?).bind (eZ []),l,WX [oC c,Y (.int ((p:Int)+1)),d,dN (p+1),l,g] g]:=by kernel_rfl
 rw[oK s]at q;simp only[ae,eZ]at q;rw[aK (BY (c:=c) (k:=p+1) (r:=r) (r':={ r with fits:=e r.named r.atoms }) (d :=.int (e r.named r.atoms)) s rfl rfl (mB q (show dQ [fU c.f,.int r.named,.int r.atoms]=_ from w.fit _ _) rfl) (by kernel_rfl))];simp only[bg,bh];generalize h:({ c with rows:=c.rows.set (p+1) { r with fits:=e r.named r.atoms } }:jg)=b;have u:b.f=c.f:=by rw[<- h]
 have m:b.rows[p+1]?=Y { r with fits:=e r.named r.atoms }:=by rw[<- h];simp[v]
 have k:b.rows[p]?=Y f:=by rw[<- h];simp only;rw[aj (by omega)];exact z
 have o:res [0] [3,5] [oC b,Y (.int ((p:Int)+1)),d,dN (p+1),l,g]=[Y (bE b),Y (.int ((p:Int)+1)),d,((b.rows.map cn)[p+1]?).bind (eZ []),l,WX [oC b,Y (.int ((p:Int)+1)),d,dN (p+1),l,g] g]:=by kernel_rfl
 rw[oK m]at o;simp only[ae,eZ]at o;rw[aK (iF (d :=.int (a r.named r.atoms)) (mB o (show ik [fU b.f,.int r.named,.int r.atoms]=_ from by rw[u];exact w.lift _ _) rfl))];simp only[bg,bh];show ba (tO 1 (λi j=>i-j) (eK (.int 1))) _ [oC b,Y (.int ((p:Int)+1)),d,dN (p+1),Y (.int (a r.named r.atoms)),g]=_;rw[aK (ρ':=[oC b,Y (.int p),d,dN (p+1),Y (.int (a r.named r.atoms)),g]) ?y]
 case y=>
  have:tO 1 (λi j=>i-j) (eK (.int 1)) [oC b,Y (.int ((p:Int)+1)),d,dN (p+1),Y (.int (a r.named r.atoms)),g]=Y (.nx [oC b,Y (.int ((p:Int)+1-1)),d,dN (p+1),Y (.int (a r.named r.atoms)),g]):=by kernel_rfl
  rw[this,AL]
 have t:p<b.rows.length:=(au.mp k).1;rw[aK (uD (c:=b) (n:=(p:Int)) (k:=p) rfl rfl (pB t))];simp only[bg,bh];have n:res [0] [3,5] [oC b,Y (.int p),d,dN (p+1),Y (.int (a r.named r.atoms)),dN p]=[Y (bE b),Y (.int p),d,((b.rows.map cn)[p+1]?).bind (eZ []),Y (.int (a r.named r.atoms)),((b.rows.map cn)[p]?).bind (eZ [])]:=by kernel_rfl
 rw[oK m,oK k]at n;simp only[ae,eZ]at n;have x:lE [0] [3,5] (e2 Au (e2 d_ (eV 4) (e1 xE (bp "Row" "atoms" (eV 5)))) (eK (.int 0))) [oC b,Y (.int p),d,dN (p+1),Y (.int (a r.named r.atoms)),dN p]=Y (.bl (bA (a r.named r.atoms) (bN f.atoms) != 0)):=by
  refine mB n ?_ rfl;have:e2 Au (e2 d_ (eV 4) (e1 xE (bp "Row" "atoms" (eV 5)))) (eK (.int 0)) [Y (bE b),Y (.int p),d,Y (cn { r with fits:=e r.named r.atoms }),Y (.int (a r.named r.atoms)),Y (cn f)]=Au (.int (bA (a r.named r.atoms) (bN f.atoms))) (.int 0):=by kernel_rfl
  rw[this];simp[Au,i_,tV,bne]
 show ba (dD 2 _) _ [oC b,Y (.int p),d,dN (p+1),Y (.int (a r.named r.atoms)),dN p]=_;rw[aK (iF x)];simp only[bg,bh];show dZ Z' 5 "Row" "atoms" c_ (eV 4) [oC b,Y (.int p),Y (.bl (bA (a r.named r.atoms) (bN f.atoms) != 0)),dN (p+1),Y (.int (a r.named r.atoms)),dN p]=_;rw[He (c:=b) (k:=p) (r:=f) (r':={ f with atoms:=bO f.atoms (a r.named r.atoms) }) (m:=f.atoms) (n:=a r.named r.atoms) k rfl rfl rfl rfl (by kernel_rfl)];rw[<- h];rfl
def Dv(fit lift:Int->Int->Int):Bool->Nat->List jB->List jB
 | true,p+1,a=>match a[p+1]?,a[p]? with
  |some r,Y b=>Dv fit lift (bA (lift r.named r.atoms) (bN b.atoms) != 0) p (K2 fit lift p r b a)|_,_=>a
 |_,_,a=>a
theorem K1:(K2 fit lift p r b a).length=a.length:=by unfold K2;simp
theorem va:∀(p n:Nat) (c:jg) (f:Bool) (d b a:Option D),Qe c.f fit lift->p<n->p<c.rows.length->∃v u j i g,
  qp (kO (eH (eV 2)) (dO (e2 tR (eV 1) (eK (.int 0))))) jq n [oC c,Y (.int p),Y (.bl f),d,b,a]=Y (.nx [oC { c with rows:=Dv fit lift f p c.rows },v,u,j,i,g])
 |p,0,c,f,d,b,a,_,h,_=>by omega
 | 0,n+1,c,f,d,b,a,k,h,o=>by
  refine⟨Y (.int 0),Y (.bl f),d,b,a,?_⟩;rw[qp];have e:kO (eH (eV 2)) (dO (e2 tR (eV 1) (eK (.int 0)))) [oC c,Y (.int ((0:Nat):Int)),Y (.bl f),d,b,a]=Y false:=by cases f<;>rfl
  rw[e];simp only[ae,eD,if_false];cases f<;>rfl
 | p+1,n+1,c,f,d,b,a,k,h,o=>by
  rw[qp];cases f with
  |false=>refine⟨Y (.int ((p+1:Nat):Int)),Y (.bl Z_),d,b,a,?_⟩;have e:kO (eH (eV 2)) (dO (e2 tR (eV 1) (eK (.int 0)))) [oC c,Y (.int ((p+1:Nat):Int)),Y (.bl Z_),d,b,a]=Y false:=rfl;rw[e];rfl
  |true=>
   have l:c.rows[p+1]?=Y c.rows[p+1]:=bC o;have m:c.rows[p]?=Y (c.rows[p]'(by omega)):=bC (by omega);have e:kO (eH (eV 2)) (dO (e2 tR (eV 1) (eK (.int 0)))) [oC c,Y (.int ((p+1:Nat):Int)),Y (.bl Z'),d,b,a]=Y true:=by have:kO (eH (eV 2)) (dO (e2 tR (eV 1) (eK (.int 0)))) [oC c,Y (.int ((p+1:Nat):Int)),Y (.bl Z'),d,b,a]=dO (λ_=>tR (.int ((p+1:Nat):Int)) (.int 0)) []:=rfl;rw[this];simp[dO,tR]
   rw[e];simp only[ae,if_true];have r:=Du k l m (Y (.bl Z')) d b a;rw[show ((p+1:Nat):Int)=(p:Int)+1 by omega,r];simp only[ae];obtain⟨t,s,j,i,g,q⟩:=va p n { c with rows:=K2 fit lift p c.rows[p+1] (c.rows[p]'(by omega)) c.rows } (bA (lift c.rows[p+1].named c.rows[p+1].atoms) (bN (c.rows[p]'(by omega)).atoms) != 0) (dN (p+1)) (Y (.int (lift c.rows[p+1].named c.rows[p+1].atoms))) (dN p) k (by omega) (by simp only[K1];omega);refine⟨t,s,j,i,g,q.trans ?_⟩;simp only[Dv,l,m]
theorem A0{c:jg}(b:Qe c.f fit lift)(e:0<c.rows.length)(d:c.rows.length<1000000):dy [bE c]=Y (.dJ,bE { c with rows:=Dv fit lift Z' (c.rows.length-1) c.rows }):=by
 show (ku [oC c,M,M,M,M,M]).bind (lR aD)=_;unfold ku;have a:lE [0] [3,5] (e2 oU (bf iu (aC (bp "Coming" "rows" (eV 0)) aN)) (eK (.int 1))) [oC c,M,M,M,M,M]=Y (.int ((c.rows.length-1:Nat):Int)):=by
  have:lE [0] [3,5] (e2 oU (bf iu (aC (bp "Coming" "rows" (eV 0)) aN)) (eK (.int 1))) [oC c,M,M,M,M,M]=Y (.int (((c.rows.map cn).length:Int)-1)):=by kernel_rfl
  rw[this,ax]
  congr 2
  omega
 rw[aK (iF a)];simp only[bg,bh];rw[aK (iF (d :=.bl Z') rfl)];simp only[bg,bh];obtain⟨j,i,h,g,f,q⟩:=va (c.rows.length-1) 1000000 c Z' M M M b (by omega) (by omega);unfold FK;rw[q];kernel_rfl
def CQ(fit lift:Int->Int->Int)(c:jg)(atoms:Int)(r:jB):jg:=if bA atoms (bN r.atoms) != 0 then { c with rows:=Dv fit lift Z' (c.rows.length-1) (c.rows.set (c.rows.length-1) { r with atoms:=bO r.atoms atoms }) } else c
theorem CP{c:jg}(j:Qe c.f fit lift){r:jB}(b:c.rows[c.rows.length-1]?=Y r)(i:c.rows.length<1000000)(atoms:Int):gk [bE c,.int atoms]=Y (.dJ,bE (CQ fit lift c atoms r)):=by
 have f:0<c.rows.length:=by have:=(au.mp b).1;omega
 show (iN [oC c,Y (.int atoms),M]).bind (lR aD)=_;unfold iN;rw[aK (uD (c:=c) (n:= -1) (k:=c.rows.length-1) rfl rfl (zf f))];simp only[bg,bh];have a:res [0] [2] [oC c,Y (.int atoms),dN (c.rows.length-1)]=[Y (bE c),Y (.int atoms),((c.rows.map cn)[c.rows.length-1]?).bind (eZ [])]:=by kernel_rfl
 rw[oK b]at a;simp only[ae,eZ]at a;have h:Am [0] [2] (eH (e2 d_ (eV 1) (e1 xE (bp "Row" "atoms" (eV 2))))) [oC c,Y (.int atoms),dN (c.rows.length-1)]=Y (bA atoms (bN r.atoms) != 0):=rQ a (by kernel_rfl);unfold eI;rw[h];simp only[ae];unfold CQ;by_cases e:(bA atoms (bN r.atoms) != 0)=Z'
 ·rw[if_pos e,if_pos e];rw[aK (He (c:=c) (k:=c.rows.length-1) (r:=r) (r':={ r with atoms:=bO r.atoms atoms }) (m:=r.atoms) (n:=atoms) b rfl rfl rfl rfl (by kernel_rfl))];simp only[bg,bh];have d:=A0 (c:={ c with rows:=c.rows.set (c.rows.length-1) { r with atoms:=bO r.atoms atoms } }) j (by simpa using f) (by simpa using i);simp only[GR]at d;unfold eY;have g:bQ "Coming" "spread" aD dy 0 kf [oC { c with rows:=c.rows.set (c.rows.length-1) { r with atoms:=bO r.atoms atoms } },Y (.int atoms),dN (c.rows.length-1)]=(dy [bE { c with rows:=c.rows.set (c.rows.length-1) { r with atoms:=bO r.atoms atoms } }]).map λq=>(q.1,[Y (.obj aD q.2),Y (.int atoms),M]):=by kernel_rfl
  rw[g,d];kernel_rfl
 ·rw[if_neg e,if_neg e];kernel_rfl
def Dc(b p a f:Int):Int:=bA (bO p (bA a b)) f*2
def pw(a:Int)(b r:jB):jB:={ r with bu:=Dc a b.bu b.ra r.fits,ra:=bO b.ra (Dc a b.bu b.ra r.fits) }
abbrev Cn(a b:Int)(c r:jB):Bool:=bA (bA (Dc a c.bu c.ra r.fits) (bN r.bu)) b != 0
theorem Dx{p:Nat}(n:c.rows[p+1]?=Y r)(v:c.rows[p]?=Y a)(F:(bA (bO a.bu (bA a.ra c.f.inner)) r.fits).natAbs<2 ^ 64)(b:List D)(y:b.length<dU)(A z l:Option D):
  gP [oC c,Y (.lst b),Y (.int ((p:Int)+1)),A,z,l]=Y (.nx [oC { c with rows:=c.rows.set (p+1) (pw c.f.inner a r) },Y (.lst (b++if Cn c.f.inner c.full a r then [.int r.number] else [])),Y (.int ((p:Int)+1)),dN p,dN (p+1),Y (.int r.bu)]):=by
 have w:p+1<c.rows.length:=(au.mp n).1;unfold gP;have E:e2 oU (eV 2) (eK (.int 1)) [oC c,Y (.lst b),Y (.int ((p:Int)+1)),A,z,l]=Y (.int (p:Int)):=by
  have:e2 oU (eV 2) (eK (.int 1)) [oC c,Y (.lst b),Y (.int ((p:Int)+1)),A,z,l]=Y (.int ((p:Int)+1-1)):=by kernel_rfl
  rw[this,AL]
 rw[aK (uD (c:=c) (n:=(p:Int)) (k:=p) rfl E (pB (by omega)))];simp only[bg,bh];rw[aK (uD (c:=c) (n:=(p:Int)+1) (k:=p+1) rfl rfl (by have:=pB (n:=c.rows.length) (k:=p+1) w;simpa using this))];simp only[bg,bh];have s:res [0] [4,3] [oC c,Y (.lst b),Y (.int ((p:Int)+1)),dN p,dN (p+1),l]=[Y (bE c),Y (.lst b),Y (.int ((p:Int)+1)),((c.rows.map cn)[p]?).bind (eZ []),((c.rows.map cn)[p+1]?).bind (eZ []),l]:=by kernel_rfl
 rw[oK n,oK v]at s;simp only[ae,eZ]at s;rw[aK (iF (d :=.int r.bu) (mB s (by kernel_rfl) rfl))];simp only[bg,bh];have q:res [0] [4,3] [oC c,Y (.lst b),Y (.int ((p:Int)+1)),dN p,dN (p+1),Y (.int r.bu)]=[Y (bE c),Y (.lst b),Y (.int ((p:Int)+1)),((c.rows.map cn)[p]?).bind (eZ []),((c.rows.map cn)[p+1]?).bind (eZ []),Y (.int r.bu)]:=by kernel_rfl
 rw[oK n,oK v]at q;simp only[ae,eZ]at q;rw[aK (BY (c:=c) (k:=p+1) (r:=r) (r':={ r with bu:=Dc c.f.inner a.bu a.ra r.fits }) (d :=.int (Dc c.f.inner a.bu a.ra r.fits)) n rfl rfl (mB q (show dB [bE c,.int a.bu,.int a.ra,.int r.fits]=_ from zm _ _ _ _ F) rfl) (by kernel_rfl))];simp only[bg,bh];generalize f:({ c with rows:=c.rows.set (p+1) { r with bu:=Dc c.f.inner a.bu a.ra r.fits } }:jg)=g;have i:g.rows[p+1]?=Y { r with bu:=Dc c.f.inner a.bu a.ra r.fits }:=by rw[<- f];simp[w]
 have j:g.rows[p]?=Y a:=by rw[<- f];simp only;rw[aj (by omega)];exact v
 have o:res [0] [4,3] [oC g,Y (.lst b),Y (.int ((p:Int)+1)),dN p,dN (p+1),Y (.int r.bu)]=[Y (bE g),Y (.lst b),Y (.int ((p:Int)+1)),((g.rows.map cn)[p]?).bind (eZ []),((g.rows.map cn)[p+1]?).bind (eZ []),Y (.int r.bu)]:=by kernel_rfl
 rw[oK i,oK j]at o;simp only[ae,eZ]at o;rw[aK (BY (c:=g) (k:=p+1) (r':=pw c.f.inner a r) (d :=.int (bO a.ra (Dc c.f.inner a.bu a.ra r.fits))) i rfl rfl (mB o (by kernel_rfl) rfl) (by kernel_rfl))];simp only[bg,bh];generalize h:({ g with rows:=g.rows.set (p+1) (pw c.f.inner a r) }:jg)=d;have t:d.rows[p+1]?=Y (pw c.f.inner a r):=by rw[<- h,<- f];simp[w]
 have u:d.rows[p]?=Y a:=by rw[<- h];simp only;rw[aj (by omega)];exact j
 have k:d={ c with rows:=c.rows.set (p+1) (pw c.f.inner a r) }:=by rw[<- h,<- f];simp
 have x:d.full=c.full:=by rw[k]
 have m:res [0] [4,3] [oC d,Y (.lst b),Y (.int ((p:Int)+1)),dN p,dN (p+1),Y (.int r.bu)]=[Y (bE d),Y (.lst b),Y (.int ((p:Int)+1)),((d.rows.map cn)[p]?).bind (eZ []),((d.rows.map cn)[p+1]?).bind (eZ []),Y (.int r.bu)]:=by kernel_rfl
 rw[oK t,oK u]at m;simp only[ae,eZ]at m;have C:Am [0] [4,3] (eH (e2 d_ (e2 d_ (bp "Row" "reached" (eV 4)) (e1 xE (eV 5))) (bp "Coming" "full" (eV 0)))) [oC d,Y (.lst b),Y (.int ((p:Int)+1)),dN p,dN (p+1),Y (.int r.bu)]=Y (Cn c.f.inner d.full a r):=rQ m (by kernel_rfl);show eI _ _ _ [oC d,Y (.lst b),Y (.int ((p:Int)+1)),dN p,dN (p+1),Y (.int r.bu)]=_;unfold eI;rw[C,x];simp only[ae];rw[<- k];by_cases e:Cn c.f.inner c.full a r=Z'
 ·rw[if_pos e,if_pos e];unfold qu;have B:lE [0] [4,3] (bp "Row" "number" (eV 4)) [oC d,Y (.lst b),Y (.int ((p:Int)+1)),dN p,dN (p+1),Y (.int r.bu)]=Y (.int r.number):=mB m (by kernel_rfl) rfl;rw[B];show (if b.length<dU then _ else M)=_;rw[if_pos y];rfl
 ·rw[if_neg e,if_neg e];simp only[bU];rfl
def lP(a:Int):jB->List jB->List jB
 |_,[]=>[]|pr,r::b=>pw a pr r::lP a (pw a pr r) b
def vl(a b:Int):jB->List jB->List Int
 |_,[]=>[]|pr,r::c=>(if Cn a b pr r then [r.number] else [])++vl a b (pw a pr r) c
def WA(a:Int):jB->List jB->Prop
 |_,[]=>True|pr,r::b=>(bA (bO pr.bu (bA pr.ra a)) r.fits).natAbs<2 ^ 64/\WA a (pw a pr r) b
theorem Dz(a:Int):∀(c:jB) (b:List jB),(lP a c b).length=b.length
 |_,[]=>rfl|c,r::b=>by simp[lP,Dz a (pw a c r) b]
theorem D7(a b:Int):∀(d:jB) (c:List jB),(vl a b d c).length<=c.length
 |_,[]=>aS _|d,r::c=>by have:=D7 a b (pw a d r) c;unfold vl;split<;>simp<;>omega
theorem A9(b:Int)(n:Nat):ny b (n+1)=.int b::ny (b+1) n:=by
 unfold ny;rw[vI];simp[eU];intro a _;omega
theorem mT{ρ1:cy}(h:b d c=Y ρ1)(f:g ρ1=Y (.nx a)):gx b g (d::e) c=gx b g e a:=by
 rw[gx,h];simp only[ae,f]
theorem yE:∀(rs pre:List jB) (pr:jB) (c:jg) (ds:List D) (a2 a3 a4 a5:Option D),c.rows=pre++pr::rs->WA c.f.inner pr rs->ds.length+rs.length<dU->∃b2 b3 b4 b5,
  gx (gN 2) gP (ny ((pre.length:Int)+1) rs.length) [oC c,Y (.lst ds),a2,a3,a4,a5]=Y (.nx [oC { c with rows:=pre++pr::lP c.f.inner pr rs },Y (.lst (ds++(vl c.f.inner c.full pr rs).map D.int)),b2,b3,b4,b5])
 |[],pre,pr,c,ds,a2,a3,a4,a5,e,h,hd=>by refine⟨a2,a3,a4,a5,?_⟩;show Y (DO.nx _)=_;simp only[lP,vl,C3,bU,<- e]
 | r::rs,pre,pr,c,ds,a2,a3,a4,a5,e,h,hd=>by
  have hr:c.rows[pre.length+1]?=Y r:=by rw[e,kX (by omega)];simp
  have hp:c.rows[pre.length]?=Y pr:=by rw[e,kX (by omega)];simp
  simp only[aP]at hd ⊢;have hb:=Dx hr hp h.1 ds (by omega) a3 a4 a5;rw[A9,mT (ρ1:=[oC c,Y (.lst ds),Y (.int ((pre.length:Int)+1)),a3,a4,a5]) rfl hb];obtain⟨b2,b3,b4,b5,q⟩:=yE rs (pre++[pr]) (pw c.f.inner pr r) { c with rows:=c.rows.set (pre.length+1) (pw c.f.inner pr r) } (ds++if Cn c.f.inner c.full pr r then [.int r.number] else []) (Y (.int ((pre.length:Int)+1))) (dN pre.length) (dN (pre.length+1)) (Y (.int r.bu)) (by simp only[e];rw[List.set_append_right _ _ (by omega)];simp) h.2 (by split<;>simp<;>omega);refine⟨b2,b3,b4,b5,?_⟩;simp only[aQ,aP,iB,Int.natCast_add,Int.natCast_one,Int.natCast_zero,Int.zero_add]at q;rw[q];rw[lP,vl];simp only[bZ,uS,dh,cq];have:(if Cn c.f.inner c.full pr r=Z' then [D.int r.number] else [])=Kc D.int (if Cn c.f.inner c.full pr r=Z' then [r.number] else []):=by split<;>rfl
  rw[this]
theorem SN{f:DF}{i:Int}(c:f a=Y (.int i))(b:g a=Y (.int j))(h : -(2 ^ 62)<=i/\i<2 ^ 62 /\ -(2 ^ 62)<=j/\j<2 ^ 62):My f g a=Y (ny i (j-i).toNat):=by
 simp only[My,c,b,ae];rw[if_pos h]
theorem CD:1000000<=dU:=by unfold dU;decide
theorem IS(e:c.rows=t::a)(h:WA c.f.inner t a)(m:a.length<1000000):kB [bE c]=Y ((vl c.f.inner c.full t a).map D.int,bE { c with rows:=t::lP c.f.inner t a }):=by
 show (kv [oC c,M,M,M,M,M]).bind (QM aD)=_;unfold kv;have g:kQ 1 (fG aN) [oC c,M,M,M,M,M]=Y (.nx [oC c,Y (.lst []),M,M,M,M]):=by kernel_rfl
 rw[aK g];obtain⟨l,k,j,i,q⟩:=yE a [] t c [] M M M M (by simpa using e) h (by have:=CD;simp only[iB];omega);have f:lE [0] [4,3] (bf iu (aC (bp "Coming" "rows" (eV 0)) aN)) [oC c,Y (.lst []),M,M,M,M]=Y (.int (a.length+1:Int)):=by
  have:lE [0] [4,3] (bf iu (aC (bp "Coming" "rows" (eV 0)) aN)) [oC c,Y (.lst []),M,M,M,M]=Y (.int ((c.rows.map cn).length:Int)):=by kernel_rfl
  rw[this,ax,e];simp
 have d:My (eK (.int 1)) (lE [0] [4,3] (bf iu (aC (bp "Coming" "rows" (eV 0)) aN))) [oC c,Y (.lst []),M,M,M,M]=Y (ny 1 a.length):=by have:=SN (f:=eK (.int 1)) (i:=1) rfl f ⟨by decide,by decide,Qt (by decide) (show (0:Int)<=(a.length:Int)+1 by omega),AK (show (a.length:Int)+1<=1000000 by omega) (by decide)⟩;rw[this,AL,dC]
 have b:ir (My (eK (.int 1)) (lE [0] [4,3] (bf iu (aC (bp "Coming" "rows" (eV 0)) aN)))) (gN 2) gP [oC c,Y (.lst []),M,M,M,M]=Y (.nx [oC { c with rows:=t::lP c.f.inner t a },Y (.lst ((vl c.f.inner c.full t a).map D.int)),l,k,j,i]):=by unfold ir;rw[d];simpa using q
 rw[aK b];kernel_rfl
abbrev MB(r:jB)(a:uF):Bool:=bA r.bu a.own != 0||bA r.ra a.around != 0
def mH(a:List jB)(b:uF):Bool:=match a[b.place.toNat]? with|some r=>MB r b|none=>Z_
abbrev TY(a:List jB)(b:uF):Prop:=0<=b.place/\b.place<a.length
theorem IL(h:TY c.rows rs)(fs ks:List D)(hf:fs.length<dU)(hk:ks.length<dU)(a4:Option D):
  ∃b4,dM [oC c,Y (.lst fs),Y (.lst ks),Y (cH rs),a4]=Y (.nx [oC c,Y (.lst (fs++if mH c.rows rs then [.int rs.num] else [])),Y (.lst (ks++if mH c.rows rs then [] else [cH rs])),Y (cH rs),b4]):=by
 obtain⟨k,hk'⟩:∃k:Nat,rs.place=k:=⟨rs.place.toNat,by omega⟩;have hl:k<c.rows.length:=by have:=h.2;omega
 have hr:c.rows[k]?=Y c.rows[k]:=bC hl;generalize c.rows[k]=r at hr;have hm:mH c.rows rs=MB r rs:=by unfold mH;rw[hk',dC,hr]
 rw[hm];refine⟨dN k,?_⟩;unfold dM;have q0:e2 bW (eV 3) (eK (.int 1)) [oC c,Y (.lst fs),Y (.lst ks),Y (cH rs),a4]=Y (.int rs.place):=by kernel_rfl
 rw[hk']at q0;rw[aK (uD (c:=c) (n:=(k:Int)) (k:=k) rfl q0 (pB hl))];simp only[bg,bh];have q1:res [0] [4] [oC c,Y (.lst fs),Y (.lst ks),Y (cH rs),dN k]=[Y (bE c),Y (.lst fs),Y (.lst ks),Y (cH rs),((c.rows.map cn)[k]?).bind (eZ [])]:=by kernel_rfl
 rw[oK hr]at q1;simp only[ae,eZ]at q1;have q2:Am [0] [4] (tm (eH (e2 d_ (bp "Row" "reached" (eV 4)) (e2 bW (eV 3) (eK (.int 2))))) (eH (e2 d_ (bp "Row" "reached_around" (eV 4)) (e2 bW (eV 3) (eK (.int 3)))))) [oC c,Y (.lst fs),Y (.lst ks),Y (cH rs),dN k]=Y (MB r rs):=by
  refine rQ q1 ?_;have e1:eH (e2 d_ (bp "Row" "reached" (eV 4)) (e2 bW (eV 3) (eK (.int 2)))) [Y (bE c),Y (.lst fs),Y (.lst ks),Y (cH rs),Y (cn r)]=Y (bA r.bu rs.own != 0):=by kernel_rfl
  have e2:eH (e2 d_ (bp "Row" "reached_around" (eV 4)) (e2 bW (eV 3) (eK (.int 3)))) [Y (bE c),Y (.lst fs),Y (.lst ks),Y (cH rs),Y (cn r)]=Y (bA r.ra rs.around != 0):=by kernel_rfl
  unfold tm MB;rw[e1,e2];cases (bA r.bu rs.own != 0)<;>rfl
 unfold eI;rw[q2];simp only[ae];cases MB r rs with
 |true=>show (if fs.length<dU then _ else M)=_;rw[if_pos hf];simp
 |false=>show (if ks.length<dU then _ else M)=_;rw[if_pos hk];simp
theorem Dr:∀(d:List uF) (c:jg) (g f:List D) (j i:Option D),(∀a∈d,TY c.rows a)->g.length+d.length<dU->f.length+d.length<dU->∃l k,
  gx (gN 3) dM (d.map cH) [oC c,Y (.lst g),Y (.lst f),j,i]=Y (.nx [oC c,Y (.lst (g++(d.filter (mH c.rows)).map λa=>D.int a.num)),Y (.lst (f++(d.filter λa=> !mH c.rows a).map cH)),l,k])
 |[],c,g,f,j,i,h,n,m=>⟨j,i,by simp[gx]⟩
 |a::d,c,g,f,j,i,h,n,m=>by simp only[aP]at n m;obtain⟨b,p⟩:=IL (h a (ay ..)) g f (by omega) (by omega) i;rw[a_,mT (ρ1:=[oC c,Y (.lst g),Y (.lst f),Y (cH a),i]) rfl p];obtain⟨l,k,q⟩:=Dr d c (g++if mH c.rows a then [.int a.num] else []) (f++if mH c.rows a then [] else [cH a]) (Y (cH a)) b (λy o=>h y (aw _ o)) (by split<;>simp<;>omega) (by split<;>simp<;>omega);refine⟨l,k,q.trans ?_⟩;cases e:mH c.rows a<;>simp[e]
theorem zj:∀(a:List Int),Bi (a.map D.int)=Y a
 |[]=>rfl|n::a=>by simp[Bi,zj a]
theorem yD{f:DF}(e:f b=Y (.lst (a.map D.int)))(h:a.length<64):mi f b=Y ((xr a).map D.int):=by
 unfold mi;rw[e];simp only[ae,zj];rw[if_pos h]
def Fp(c:jg)(rows:List jB):jg:={ c with rows:=rows,rests:=c.rests.filter λa=> !mH rows a }
theorem K'{F:List D->Option (List D×D)}(d:F [bE c]=Y (a,bE b)):yJ 1 0 "Coming" "settle" aD F [oC c,M,M,M,M]=Y (.nx [oC b,Y (.lst a),M,M,M]):=by
 have:yJ 1 0 "Coming" "settle" aD F [oC c,M,M,M,M]=(F [bE c]).map λr =>.nx [Y (.obj aD r.2),Y (.lst r.1),M,M,M]:=by kernel_rfl
 rw[this,d];rfl
theorem iH{n:Nat}(h:n<2000):n<dU:=bw (Nat.lt_trans h (by decide)) CD
theorem Av{c:jg}(e:c.rows=t::a)(h:WA c.f.inner t a)(A:∀y∈c.rests,TY c.rows y)(B:(vl c.f.inner c.full t a++(c.rests.filter (mH (t::lP c.f.inner t a))).map (·.num)).length<64)(F:a.length<64)(G:c.rests.length<1000):
  dG [bE c]=Y (.lst ((xr (vl c.f.inner c.full t a++(c.rests.filter (mH (t::lP c.f.inner t a))).map (·.num))).map D.int),bE (Fp c (t::lP c.f.inner t a))):=by
 show (hW [oC c,M,M,M,M]).bind (lR aD)=_;unfold hW;have z:=IS e h (by omega);have C:=D7 c.f.inner c.full t a;generalize vl c.f.inner c.full t a=i at *
 generalize n:t::lP c.f.inner t a=rows at *
 have o:rows.length=c.rows.length:=by rw[<- n,e];simp[Dz]
 generalize k:({ c with rows:=rows }:jg)=f at *
 have j:f.rows=rows:=by rw[<- k]
 have b:f.rests=c.rests:=by rw[<- k]
 rw[aK (K' z)];rw[aK (ρ':=[oC f,Y (.lst (i.map D.int)),Y (.lst []),M,M]) ?w]
 case w=>kernel_rfl
 obtain⟨m,l,v⟩:=Dr f.rests f (i.map D.int) [] M M (by rw[b,j];intro y x;have:=A y x;exact⟨this.1,by rw[o];exact this.2⟩) (iH (by rw[b,ax];omega)) (iH (by rw[b,iB];omega));have u:ir (iL (tU 0 "Coming" "rests")) (gN 3) dM [oC f,Y (.lst (i.map D.int)),Y (.lst []),M,M]=gx (gN 3) dM (f.rests.map cH) [oC f,Y (.lst (i.map D.int)),Y (.lst []),M,M]:=by kernel_rfl
 rw[aK (u.trans v)];simp only[dh];rw[b,j];have s:(i.map D.int++(c.rests.filter (mH rows)).map λa=>D.int a.num)=(i++(c.rests.filter (mH rows)).map (·.num)).map D.int:=by simp[eU]
 rw[s];generalize i++(c.rests.filter (mH rows)).map (·.num)=g at *
 rw[aK (ρ':=[oC (Fp c rows),Y (.lst (g.map D.int)),Y (.lst ((c.rests.filter λa=> !mH rows a).map cH)),m,l]) ?r]
 case r=>rw[<- k];kernel_rfl
 have q:mi (eV 1) [oC (Fp c rows),Y (.lst (g.map D.int)),Y (.lst ((c.rests.filter λa=> !mH rows a).map cH)),m,l]=Y ((xr g).map D.int):=yD rfl B;generalize (xr g).map D.int=E at *
 have p:(dm (mP (eF (mi (eV 1)))) [oC (Fp c rows),Y (.lst (g.map D.int)),Y (.lst ((c.rests.filter λa=> !mH rows a).map cH)),m,l])=((mi (eV 1) [oC (Fp c rows),Y (.lst (g.map D.int)),Y (.lst ((c.rests.filter λa=> !mH rows a).map cH)),m,l]).map D.lst).bind λd=>Y (.rm d [oC (Fp c rows),Y (.lst (g.map D.int)),Y (.lst ((c.rests.filter λa=> !mH rows a).map cH)),m,l]):=by unfold dm mP eF;cases mi (eV 1) [oC (Fp c rows),Y (.lst (g.map D.int)),Y (.lst ((c.rests.filter λa=> !mH rows a).map cH)),m,l]<;>rfl
 rw[p,q];kernel_rfl
theorem Gc{r r':jB}{f:aG}{d:D}(h:eV i a=Y (cn r))(g:b a=Y d)(c:D.ins "Row" (iT f d rk (rl r)).1 (iT f d rk (rl r)).2=cn r'):lu i "Row" f b a=Y (.nx (a.set i (Y (cn r')))):=by
 have e:Bl "Row" i a=Y (rk,rl r):=by unfold Bl;rw[h];kernel_rfl
 unfold lu;rw[g,e];simp only[ae];rw[if_pos (by decide),c]
def CG(fit:Int->Int->Int)(c:jg)(d a b:Int)(e:jB):jB:=⟨d,a,b,fit a b,0,0,Dc c.f.inner e.p_ e.ha (bA a c.qf),bO e.ha (Dc c.f.inner e.p_ e.ha (bA a c.qf))⟩
theorem OY{m:Int}(h:c.rows.length<dU):yK 0 4 "Coming" "rows" [oC c,Y (.int n),Y (.int m),Y (.int k),Y (cn r),dN j]=Y (.nx [oC { c with rows:=c.rows++[r] },Y (.int n),Y (.int m),Y (.int k),M,M]):=by
 have e:rh "Coming" "rows" 0 [oC c,Y (.int n),Y (.int m),Y (.int k),Y (cn r),dN j]=Y (sT,ck,cl c,D.lst (c.rows.map cn)):=by kernel_rfl
 unfold yK;rw[e];simp only[ae];have b:eV 4 [oC c,Y (.int n),Y (.int m),Y (.int k),Y (cn r),dN j]=Y (.ins "Row" rk (rl r)):=rfl;rw[b];simp only[ae];rw[if_pos ⟨by decide,by rw[ax];exact h⟩];have a:c.rows.map cn++[D.ins "Row" rk (rl r)]=(c.rows++[r]).map cn:=by rw[cq];rfl
 rw[a];kernel_rfl
theorem CF{c:jg}(l:Qe c.f fit lift){pr:jB}(g:c.rows.getLast? = Y pr)(d a b:Int)(j:(bA (bO pr.p_ (bA pr.ha c.f.inner)) (bA a c.qf)).natAbs<2 ^ 64)(i:c.rows.length<dU):
  gj [bE c,.int d,.int a,.int b]=Y (.dJ,bE { c with rows:=c.rows++[CG fit c d a b pr] }):=by
 show (iM [oC c,Y (.int d),Y (.int a),Y (.int b),M,M]).bind (lR aD)=_;unfold iM;have k:0<c.rows.length:=by cases h:c.rows with|nil=>rw[h]at g;cases g|cons=>simp
 have f:c.rows[c.rows.length-1]?=Y pr:=by rw[<- Kq];exact g
 rw[aK (iF (d:=cn ⟨d,a,b,0,0,0,0,0⟩) (by kernel_rfl))];simp only[bg,bh];rw[aK (uD (c:=c) (n:= -1) (k:=c.rows.length-1) rfl rfl (zf k))];simp only[bg,bh];have e:∀x,res [0] [5] [oC c,Y (.int d),Y (.int a),Y (.int b),Y (cn x),dN (c.rows.length-1)]=[Y (bE c),Y (.int d),Y (.int a),Y (.int b),Y (cn x),Y (cn pr)]:=by
  intro x;have:res [0] [5] [oC c,Y (.int d),Y (.int a),Y (.int b),Y (cn x),dN (c.rows.length-1)]=[Y (bE c),Y (.int d),Y (.int a),Y (.int b),Y (cn x),((c.rows.map cn)[c.rows.length-1]?).bind (eZ [])]:=by kernel_rfl
  rw[this,oK f];rfl
 rw[aK (Gc (r:=⟨d,a,b,0,0,0,0,0⟩) (r':=⟨d,a,b,fit a b,0,0,0,0⟩) (d :=.int (fit a b)) rfl (mB (e _) (show dQ [fU c.f,.int a,.int b]=_ from l.fit _ _) rfl) (by kernel_rfl))];simp only[bg,bh];rw[aK (Gc (r:=⟨d,a,b,fit a b,0,0,0,0⟩) (r':=⟨d,a,b,fit a b,0,0,Dc c.f.inner pr.p_ pr.ha (bA a c.qf),0⟩) (d :=.int (Dc c.f.inner pr.p_ pr.ha (bA a c.qf))) rfl (mB (e _) (show dB [bE c,.int pr.p_,.int pr.ha,.int (bA a c.qf)]=_ from zm _ _ _ _ j) rfl) (by kernel_rfl))];simp only[bg,bh];rw[aK (Gc (r:=⟨d,a,b,fit a b,0,0,Dc c.f.inner pr.p_ pr.ha (bA a c.qf),0⟩) (r':=CG fit c d a b pr) (d :=.int (bO pr.ha (Dc c.f.inner pr.p_ pr.ha (bA a c.qf)))) rfl (mB (e _) (by kernel_rfl) rfl) (by kernel_rfl))];simp only[bg,bh];rw[OY i];kernel_rfl
abbrev N8(a:Int)(r:jB):Bool:=bA (bA r.p_ (bN r.bu)) a != 0
theorem AR(c:jg):∀(b:List jB) (a:List D) (d:Option D),a.length+b.length<dU->∃f,
  gx (gN 2) fW (b.map cn) [Y (bE c),Y (.lst a),d]=Y (.nx [Y (bE c),Y (.lst (a++(b.filter (N8 c.full)).map λr=>D.int r.number)),f])
 |[],a,d,_=>⟨d,by simp[gx]⟩
 | r::b,a,d,h=>by
  simp only[aP]at h;have g:fW [Y (bE c),Y (.lst a),Y (cn r)]=Y (.nx [Y (bE c),Y (.lst (a++if N8 c.full r then [.int r.number] else [])),Y (cn r)]):=by
   unfold fW eI;have e:eH (e2 d_ (e2 d_ (bp "Row" "hoped" (eV 2)) (e1 xE (bp "Row" "reached" (eV 2)))) (bp "Coming" "full" (eV 0))) [Y (bE c),Y (.lst a),Y (cn r)]=Y (N8 c.full r):=by kernel_rfl
   rw[e];simp only[ae];cases N8 c.full r with
   |true=>show (if a.length<dU then _ else M)=_;rw[if_pos (by omega)];rfl
   |false=>simp;rfl
  rw[a_,mT (ρ1:=[Y (bE c),Y (.lst a),Y (cn r)]) rfl g];obtain⟨f,q⟩:=AR c b (a++if N8 c.full r then [.int r.number] else []) (Y (cn r)) (by split<;>simp<;>omega);refine⟨f,q.trans ?_⟩;cases e:N8 c.full r<;>simp[e]
def Aj(c:jg):List Int:=c.rests.map (·.num)++(c.rows.filter (N8 c.full)).map (·.number)
theorem Ht:∀(a:List uF),Ay [M] (gN 0) hI (e2 bW (eV 0) (eK (.int 0))) (a.map cH)=Y ((a.map (·.num)).map D.int)
 |[]=>rfl|x::a=>by rw[a_,Ay];have b:gN 0 (cH x) [M]=Y [Y (cH x)]:=rfl;rw[b,Ht a];rfl
theorem KA(c:jg)(l:c.rests.length<=1000)(k:c.rows.length<=500)(i:(Aj c).length<64):jF [bE c]=Y (.lst ((xr (Aj c)).map D.int)):=by
 show (lD [Y (bE c),M,M]).bind nL=_;unfold lD;have b:=CD;rw[aK (ρ':=[Y (bE c),Y (.lst ((c.rests.map (·.num)).map D.int)),M]) ?h]
 case h=>
  have e:nj (iL (bp "Coming" "rests" (eV 0))) [M] (gN 0) hI (e2 bW (eV 0) (eK (.int 0))) [Y (bE c),M,M]=Y ((c.rests.map (·.num)).map D.int):=by
   unfold nj;have a:iL (bp "Coming" "rests" (eV 0)) [Y (bE c),M,M]=Y (c.rests.map cH):=by kernel_rfl
   rw[a];simp only[ae];rw[if_pos (by rw[ax];omega)];exact Ht _
  unfold kQ;rw[e];rfl
 obtain⟨j,g⟩:=AR c c.rows ((c.rests.map (·.num)).map D.int) M (iH (by simp only[ax];omega));have f:ir (iL (bp "Coming" "rows" (eV 0))) (gN 2) fW [Y (bE c),Y (.lst ((c.rests.map (·.num)).map D.int)),M]=gx (gN 2) fW (c.rows.map cn) [Y (bE c),Y (.lst ((c.rests.map (·.num)).map D.int)),M]:=by
  have a:iL (bp "Coming" "rows" (eV 0)) [Y (bE c),Y (.lst ((c.rests.map (·.num)).map D.int)),M]=Y (c.rows.map cn):=by kernel_rfl
  unfold ir;rw[a];rfl
 rw[aK (f.trans g)];have e:(c.rests.map (·.num)).map D.int++(c.rows.filter (N8 c.full)).map (λr=>D.int r.number)=(Aj c).map D.int:=by unfold Aj;simp[eU]
 rw[e];have d:mi (eV 1) [Y (bE c),Y (.lst ((Aj c).map D.int)),j]=Y ((xr (Aj c)).map D.int):=yD rfl i;unfold vd;rw[d];rfl
theorem MR(c:jg):iR [bE c]=Y (.bl (decide (0<c.opened)&&decide (c.rows.length=1))):=by
 show (iK [Y (bE c)]).bind nL=_;unfold iK dF MW;have e1:dO (e2 tR (bp "Coming" "opened" (eV 0)) (eK (.int 0))) [Y (bE c)]=Y (decide (0<c.opened)):=by kernel_rfl
 have e2:e2 eP (bf iu (aC (bp "Coming" "rows" (eV 0)) aN)) (eK (.int 1)) [Y (bE c)]=eP (.int ((c.rows.map cn).length:Int)) (.int 1):=by kernel_rfl
 rw[e1,e2,ax];simp only[ae];have e3:eP (.int (c.rows.length:Int)) (.int 1)=Y (.bl (decide (c.rows.length=1))):=by
  unfold eP;rw[if_pos (by rfl)];have:tV (.int (c.rows.length:Int)) (.int 1)=((c.rows.length:Int)==1):=by simp[tV]
  rw[this]
  congr 2
  by_cases h:c.rows.length=1
  ·rw[h];rfl
  ·rw[decide_eq_false h];simp;omega
 rw[e3];cases decide (0<c.opened)<;>rfl
theorem Oi{p:Nat}(h:p<=1000):pX (.int 1) (.int (p:Int))=Y (.int (2 ^ p)):=by
 simp only[pX];rw[if_pos ⟨by omega,by omega,by decide⟩];simp
def Jy(x:uF):List uF->List uF
 |[]=>[x]|y::b=>if x.num<y.num then x::y::b else y::Jy x b
def u_:List uF->List uF
 |[]=>[]|x::b=>Jy x (u_ b)
theorem Bj(x:uF):∀l,(Jy x l).Perm (x::l)
 |[] =>.rfl| y::b=>by
  unfold Jy;split
  ·exact .rfl
  ·exact((Bj x b).cons y).trans (.swap x y b)
theorem pO:∀l,(u_ l).Perm l
 |[] =>.rfl|x::b=>(Bj x (u_ b)).trans ((pO b).cons x)
theorem Mw(x:uF):∀l:List uF,Cd QT (cH x) (l.map cH)=(Jy x l).map cH
 |[]=>rfl| y::b=>by
  unfold Jy;rw[a_,Cd];show (if x.num<y.num then _ else _)=_;split
  ·rfl
  ·rw[Mw x b];rfl
theorem K0:∀l:List uF,FD QT (l.map cH)=(u_ l).map cH
 |[]=>rfl|x::b=>by rw[a_,FD,K0 b,Mw];rfl
abbrev oR(r:jB):Option D:=Y (cn r)
abbrev qW(m:uF):Bool:=m.own != 0||m.around != 0
def B4(c:jg)(b:Nat)(r pr:jB)(m:uF):uF:=if m.place=b then VI c m r pr else m
theorem O0{F:List D->Option D}{f:Option D}{m:uF}:dr "Coming" "moved_out" F (eV 0) (aC (eV 5) (aC (eV 1) aN)) [Y (bE c),oR r,Y (.int n),f,e,Y (cH m),b]=F [bE c,cH m,cn r]:=by kernel_rfl
theorem MS{r:jB}(hp:c.rows.getLast? = Y pr)(m:uF)(place:Nat)(xs ks:List D)(hk:ks.length<dU)(a6:Option D):∃b6,
  eO [oC c,oR r,Y (.int place),Y (.lst xs),Y (.lst ks),Y (cH m),a6]=Y (.nx [oC c,oR r,Y (.int place),Y (.lst xs),Y (.lst (ks++if qW (B4 c place r pr m) then [cH (B4 c place r pr m)] else [])),Y (cH m),b6]):=by
 refine⟨Y (cH (B4 c place r pr m)),?_⟩;have q1:res [0,1] [] [oC c,oR r,Y (.int place),Y (.lst xs),Y (.lst ks),Y (cH m),a6]=[Y (bE c),oR r,Y (.int place),Y (.lst xs),Y (.lst ks),Y (cH m),a6]:=by kernel_rfl
 have q2:MV (dO (e2 eP (e2 bW (eV 5) (eK (.int 1))) (eV 2))) (dr "Coming" "moved_out" gi (eV 0) (aC (eV 5) (aC (eV 1) aN))) (eV 5) [Y (bE c),oR r,Y (.int place),Y (.lst xs),Y (.lst ks),Y (cH m),a6]=Y (cH (B4 c place r pr m)):=by
  have e1:dO (e2 eP (e2 bW (eV 5) (eK (.int 1))) (eV 2)) [Y (bE c),oR r,Y (.int place),Y (.lst xs),Y (.lst ks),Y (cH m),a6]=Y (tV (.int m.place) (.int (place:Int))):=by kernel_rfl
  have e2:tV (.int m.place) (.int (place:Int))=decide (m.place=place):=by by_cases h:m.place=place<;>simp[tV,h]
  unfold MV;rw[e1,e2];simp only[ae];unfold B4;by_cases h:m.place=place
  ·rw[decide_eq_true h,if_pos rfl,if_pos h,O0];exact B5 c m r pr hp
  ·rw[decide_eq_false h,if_neg (by decide),if_neg h];rfl
 unfold eO;rw[aK (iF (mB q1 q2 (by kernel_rfl)))];simp only[bg,bh];generalize B4 c place r pr m=m';have q3:tm (eH (e2 bW (eV 6) (eK (.int 2)))) (eH (e2 bW (eV 6) (eK (.int 3)))) [oC c,oR r,Y (.int place),Y (.lst xs),Y (.lst ks),Y (cH m),Y (cH m')]=Y (qW m'):=by
  have e1:eH (e2 bW (eV 6) (eK (.int 2))) [oC c,oR r,Y (.int place),Y (.lst xs),Y (.lst ks),Y (cH m),Y (cH m')]=Y (m'.own != 0):=by kernel_rfl
  have e2:eH (e2 bW (eV 6) (eK (.int 3))) [oC c,oR r,Y (.int place),Y (.lst xs),Y (.lst ks),Y (cH m),Y (cH m')]=Y (m'.around != 0):=by kernel_rfl
  unfold tm qW;rw[e1,e2];cases (m'.own != 0)<;>rfl
 unfold eI;rw[q3];simp only[ae];cases qW m' with
 |true=>show (if ks.length<dU then _ else M)=_;rw[if_pos hk];rfl
 |false=>simp;rfl
theorem HK{r:jB}(s:c.rows.getLast? = Y k)(f:Nat)(j:List D):∀(l:List uF) (g:List D) (n i:Option D),g.length+l.length<dU->∃p o,
  gx (gN 5) eO (l.map cH) [oC c,oR r,Y (.int f),Y (.lst j),Y (.lst g),n,i]=Y (.nx [oC c,oR r,Y (.int f),Y (.lst j),Y (.lst (g++((l.map (B4 c f r k)).filter qW).map cH)),p,o])
 |[],g,n,i,h=>⟨n,i,by simp[gx]⟩
 |m::l,g,n,i,h=>by simp only[aP]at h;obtain⟨b,t⟩:=MS s m f j g (r:=r) (by omega) i;rw[a_,mT (ρ1:=[oC c,oR r,Y (.int f),Y (.lst j),Y (.lst g),Y (cH m),i]) rfl t];obtain⟨p,o,q⟩:=HK s f j l (g++if qW (B4 c f r k m) then [cH (B4 c f r k m)] else []) (Y (cH m)) b (by split<;>simp<;>omega);refine⟨p,o,q.trans ?_⟩;simp only[a_];cases e:qW (B4 c f r k m)<;>simp[tf,e]
def jK(c:jg):jg:={ c with rows:=c.rows.dropLast }
def rn(b:jg)(r:jB):List uF:=b.rests++if bA r.bu b.full != 0 then [] else [uF.mk r.number (b.rows.length:Int) b.full 0]
def Cr(c:jg)(r b:jB):jg:={ jK c with rests:=((u_ (rn (jK c) r)).map (B4 (jK c) (jK c).rows.length r b)).filter qW }
theorem K6{f:DF}{ρ:cy}(e:f ρ=Y (.lst (b.map cH)))(c:(b.map (·.num)).Nodup)(g:b.length<64):wt f ρ=Y ((u_ b).map cH):=by
 unfold wt;rw[e];simp only[ae];rw[if_pos ⟨⟨by simp[nN,eU,VO,cH],by rw[C4];exact c⟩,by rw[ax];exact g⟩,K0]
theorem RQ(b:c.rows.getLast? = Y r):DH 1 0 "Coming" "rows" [oC c,M,M,M,M,M,M]=Y (.nx [oC { c with rows:=c.rows.dropLast },oR r,M,M,M,M,M]):=by
 have e:rh "Coming" "rows" 0 [oC c,M,M,M,M,M,M]=Y (sT,ck,cl c,D.lst (c.rows.map cn)):=by kernel_rfl
 unfold DH;rw[e];simp only[ae];have f:(c.rows.map cn).getLast? = Y (.ins "Row" rk (rl r)):=by rw[List.getLast?_map,b];rfl
 rw[f];simp only[ae];rw[if_pos (by decide),<- List.map_dropLast];kernel_rfl
theorem Gm{c:jg}(hr:c.rows.getLast? = Y r)(hp:(jK c).rows.getLast? = Y pr)(hn:((rn (jK c) r).map (·.num)).Nodup)(hl:(rn (jK c) r).length<64):
  fZ [bE c]=Y (.dJ,bE (Cr c r pr)):=by
 show (jN [oC c,M,M,M,M,M,M]).bind (lR aD)=_;unfold jN;rw[aK (RQ hr)];unfold Cr;show (ba _ _ [oC (jK c),oR r,M,M,M,M,M]).bind _=_;generalize jK c=c1 at *
 have hlr:c1.rests.length<64:=by unfold rn at hl;rw[aQ]at hl;omega
 rw[aK (ρ':=[oC c1,oR r,Y (.int (c1.rows.length:Int)),M,M,M,M]) ?q1]
 case q1=>
  have:lE [0] [] (bf iu (aC (bp "Coming" "rows" (eV 0)) aN)) [oC c1,oR r,M,M,M,M,M]=Y (.int ((c1.rows.map cn).length:Int)):=by kernel_rfl
  rw[ax]at this;rw[iF this];rfl
 rw[aK (ρ':=[oC c1,oR r,Y (.int (c1.rows.length:Int)),Y (.lst (c1.rests.map cH)),M,M,M]) ?q2]
 case q2=>kernel_rfl
 rw[aK (ρ':=[oC c1,oR r,Y (.int (c1.rows.length:Int)),Y (.lst ((rn c1 r).map cH)),M,M,M]) ?q3]
 case q3=>
  have e1:Am [0] [] (kN (eH (e2 d_ (bp "Row" "reached" (eV 1)) (bp "Coming" "full" (eV 0))))) [oC c1,oR r,Y (.int (c1.rows.length:Int)),Y (.lst (c1.rests.map cH)),M,M,M]=Y (!(bA r.bu c1.full != 0)):=by kernel_rfl
  unfold eI rn;rw[e1];simp only[ae];cases bA r.bu c1.full != 0 with
  |true=>simp;rfl|false=>
   have e2:lE [0] [] (dA (aC (bp "Row" "number" (eV 1)) (aC (eV 2) (aC (bp "Coming" "full" (eV 0)) (aC (eK (.int 0)) aN))))) [oC c1,oR r,Y (.int (c1.rows.length:Int)),Y (.lst (c1.rests.map cH)),M,M,M]=Y (cH (uF.mk r.number (c1.rows.length:Int) c1.full 0)):=by kernel_rfl
   simp only[Kf,if_true];unfold qu;rw[e2];show (if (c1.rests.map cH).length<dU then _ else M)=_;rw[if_pos (iH (by rw[ax];omega))];simp
 generalize rn c1 r=ms at *
 rw[aK (ρ':=[oC c1,oR r,Y (.int (c1.rows.length:Int)),Y (.lst (ms.map cH)),Y (.lst []),M,M]) ?q4]
 case q4=>kernel_rfl
 obtain⟨b5,b6,q5⟩:=HK (r:=r) hp c1.rows.length (ms.map cH) (u_ ms) [] M M (iH (by rw[(pO ms).length_eq];simp;omega));have q6:ir (iL (eF (wt (eV 3)))) (gN 5) eO [oC c1,oR r,Y (.int (c1.rows.length:Int)),Y (.lst (ms.map cH)),Y (.lst []),M,M]=gx (gN 5) eO ((u_ ms).map cH) [oC c1,oR r,Y (.int (c1.rows.length:Int)),Y (.lst (ms.map cH)),Y (.lst []),M,M]:=by have e1:=K6 (f:=eV 3) (ρ:=[oC c1,oR r,Y (.int (c1.rows.length:Int)),Y (.lst (ms.map cH)),Y (.lst []),M,M]) rfl hn hl;unfold ir iL eF;rw[e1];rfl
 rw[aK (q6.trans q5)];simp only[dh];generalize ((u_ ms).map (B4 c1 c1.rows.length r pr)).filter qW=kept;kernel_rfl
inductive pL
 |op (n:aG)
 |tx (t:aG)
 |cl
def cG:pL->D
 |.op n =>.tup [.str (af "open"),.str n]|.tx t =>.tup [.str (af "text"),.str t]|.cl =>.tup [.str (af "close")]
noncomputable def PX(s:pL)(w b:Bool):Bool:=match s with|.op _=>w || !b|_=>w
theorem Nk(s:pL)(w b:Bool):iQ [cG s,.bl w,.bl b]=Y (.bl (PX s w b)):=by
 cases s<;>cases w<;>cases b<;>kernel_rfl
theorem BA{F:List D->Option D}{s:D}:bf F (aC (eV 1) (aC (e2 tR (bf iu (aC (bp "Coming" "rows" (eV 0)) aN)) (eK (.int 1))) (aC (e2 tR (bp "Coming" "opened" (eV 0)) (eK (.int 0))) aN))) [Y (bE c),Y s]=F [s,.bl (decide (1<((c.rows.map cn).length:Int))),.bl (decide (0<c.opened))]:=by kernel_rfl
abbrev uq(c:jg)(s:pL):Bool:=PX s (decide (1<c.rows.length)) (decide (0<c.opened))
theorem uu{c:jg}{s:pL}(h:uq c s=Z'):eI (Am [0] [] (kN (eH (bf iQ (aC (eV 1) (aC (e2 tR (bf iu (aC (bp "Coming" "rows" (eV 0)) aN)) (eK (.int 1))) (aC (e2 tR (bp "Coming" "opened" (eV 0)) (eK (.int 0))) aN))))))) FN da [oC c,Y (cG s)]=Y (.nx [oC c,Y (cG s)]):=by
 have a:res [0] [] [oC c,Y (cG s)]=[Y (bE c),Y (cG s)]:=rfl;have d:decide (1<((c.rows.map cn).length:Int))=decide (1<c.rows.length):=by
  rw[ax];by_cases h:1<c.rows.length
  ·rw[decide_eq_true h,decide_eq_true (by omega)]
  ·rw[decide_eq_false h,decide_eq_false (by omega)]
 have b:Am [0] [] (kN (eH (bf iQ (aC (eV 1) (aC (e2 tR (bf iu (aC (bp "Coming" "rows" (eV 0)) aN)) (eK (.int 1))) (aC (e2 tR (bp "Coming" "opened" (eV 0)) (eK (.int 0))) aN)))))) [oC c,Y (cG s)]=Y false:=by refine rQ a ?_;unfold kN eH;rw[BA,d,Nk,show PX s _ _=Z' from h];rfl
 unfold eI;rw[b];rfl
def mK(c:jg):jg:={ c with taken:=c.taken+1 }
theorem ur(c:jg)(s:pL):dZ Z_ 0 "Coming" "taken" (λi j=>i+j) (eK (.int 1)) [oC c,Y (cG s)]=Y (.nx [oC (mK c),Y (cG s)]):=by
 cases s<;>kernel_rfl
theorem zw{F:List D->Option (D×D)}{m:aG}{s:pL}(b:m∉ck)(h:F [bE c]=Y (d,bE a)):bQ "Coming" m aD F 0 kf [oC c,Y (cG s)]=Y (d,[oC a,Y (cG s)]):=by
 have:bQ "Coming" m aD F 0 kf [oC c,Y (cG s)]=if (("Coming" : aG) = "Coming" /\("Coming" : aG) = "Coming")/\m∉ck then (F [bE c]).map λr=>(r.1,(cS 0 [oC c,Y (cG s)]).set 0 (Y (.obj aD r.2))) else none:=rfl
 rw[this,if_pos ⟨⟨rfl,rfl⟩,b⟩,h];cases s<;>rfl
theorem HV(c:jg)(s:pL):dO (e2 eP (e2 bW (eV 1) (eK (.int 0))) (eK (.str (af "close")))) [oC c,Y (cG s)]=Y (match s with|.cl=>Z'|_=>Z_):=by cases s<;>kernel_rfl
theorem LO(c:jg)(s:pL):dO (e2 eP (e2 bW (eV 1) (eK (.int 0))) (eK (.str (af "open")))) [oC c,Y (cG s)]=Y (match s with|.op _=>Z'|_=>Z_):=by cases s<;>kernel_rfl
theorem RC(e:g b=Y (.rm d a)):ba g h b=Y (.rm d a):=by unfold ba;rw[e];rfl
theorem Gi(h:uq c .cl=Z')(d:c.rows.getLast? = Y r)(e:(jK c).rows.getLast? = Y pr)(f:((rn (jK c) r).map (·.num)).Nodup)(g:(rn (jK c) r).length<64):
  dz [bE c,cG .cl]=Y (.lst [],bE (Cr (mK c) r pr)):=by
 show (fS [oC c,Y (cG .cl)]).bind (lR aD)=_;unfold fS;rw[aK (uu h),aK (ur c _)];have i:=Gm (c:=mK c) d e f g;generalize Cr (mK c) r pr=a at *
 generalize mK c=b at *
 have q:eI (dO (e2 eP (e2 bW (eV 1) (eK (.int 0))) (eK (.str (af "close"))))) (ba (eY (bQ "Coming" "end_row" aD fZ 0 kf)) (dm (mP (eF (fG aN))))) da [oC b,Y (cG .cl)]=Y (.rm (.lst []) [oC a,Y (cG .cl)]):=by
  unfold eI;rw[HV];simp only[ae,if_true];have:eY (bQ "Coming" "end_row" aD fZ 0 kf) [oC b,Y (cG .cl)]=Y (.nx [oC a,Y (cG .cl)]):=by unfold eY;rw[zw (by decide) i];rfl
  rw[aK this];rfl
 rw[RC q];kernel_rfl
structure WL(f:EO)(Ux txt:aG->Int):Prop where
 Ux:∀n,eB [fU f,.str n]=some (.int (Ux n))
 txt:∀t,ez [fU f,.str t]=some (.int (txt t))
theorem Of{F:List D->Option D}:lE [0] [] (dr "Facts" "steps_for" F (bp "Coming" "facts" (eV 0)) (aC (e2 bW (eV 1) (eK (.int 1))) aN)) [oC c,Y (cG (.op n))]=(F [fU c.f,.str n]).bind λd=>if r9 d=Z' then Y d else none:=by kernel_rfl
theorem N'{F:List D->Option D}:lE [0] [] (dr "Facts" "text_fact" F (bp "Coming" "facts" (eV 0)) (aC (e2 bW (eV 1) (eK (.int 1))) aN)) [oC c,Y (cG (.tx n))]=(F [fU c.f,.str n]).bind λd=>if r9 d=Z' then Y d else none:=by kernel_rfl
theorem Gy{F:List D->Option (D×D)}{s:pL}(d:a [oC c,Y (cG s)]=Y (.int n))(h:F [bE c,.int c.opened,.int n,.int 0]=Y (.dJ,bE b)):
  eY (bQ "Coming" "begin_row" aD F 0 (iY (mP (lE [0] [] (bp "Coming" "opened" (eV 0)))) (iY (mP a) (iY (mP (eK (.int 0))) kf)))) [oC c,Y (cG s)]=Y (.nx [oC b,Y (cG s)]):=by
 have i:lE [0] [] (bp "Coming" "opened" (eV 0)) [oC c,Y (cG s)]=Y (.int c.opened):=by kernel_rfl
 have e:iY (mP (lE [0] [] (bp "Coming" "opened" (eV 0)))) (iY (mP a) (iY (mP (eK (.int 0))) kf)) [oC c,Y (cG s)]=Y ([.int c.opened,.int n,.int 0],[oC c,Y (cG s)]):=by unfold iY mP;simp only[i,d,bP,ae];rfl
 unfold eY;have:∀g:J2,bQ "Coming" "begin_row" aD F 0 g [oC c,Y (cG s)]=(g [oC c,Y (cG s)]).bind λq=>(kT aD 0 q.2).bind λt=>(F (t::q.1)).map λr=>(r.1,(cS 0 q.2).set 0 (Y (.obj aD r.2))):=by intro g;kernel_rfl
 rw[this,e];simp only[ae];have f:kT aD 0 [oC c,Y (cG s)]=Y (bE c):=by kernel_rfl
 rw[f];simp only[ae,h];cases s<;>rfl
theorem Np{F:List D->Option (D×D)}{s:pL}(d:a [oC c,Y (cG s)]=Y (.int n))(h:F [bE c,.int n]=Y (.dJ,bE b)):
  eY (bQ "Coming" "add_atoms" aD F 0 (iY (mP a) kf)) [oC c,Y (cG s)]=Y (.nx [oC b,Y (cG s)]):=by
 have e:iY (mP a) kf [oC c,Y (cG s)]=Y ([.int n],[oC c,Y (cG s)]):=by unfold iY mP;simp only[d,bP,ae];rfl
 unfold eY;have:∀g:J2,bQ "Coming" "add_atoms" aD F 0 g [oC c,Y (cG s)]=(g [oC c,Y (cG s)]).bind λq=>(kT aD 0 q.2).bind λt=>(F (t::q.1)).map λr=>(r.1,(cS 0 q.2).set 0 (Y (.obj aD r.2))):=by intro g;kernel_rfl
 rw[this,e];simp only[ae];have f:kT aD 0 [oC c,Y (cG s)]=Y (bE c):=by kernel_rfl
 rw[f];simp only[ae,h];cases s<;>rfl
theorem Bq{F:List D->Option (D×D)}{s:pL}(h:F [bE c]=Y (d,bE a)):(dm (bQ "Coming" "newly_told" aD F 0 kf) [oC c,Y (cG s)]).bind (lR aD)=Y (d,bE a):=by
 unfold dm;rw[zw (by decide) h];kernel_rfl
theorem Bc{c:jg}{s:pL}(h:(match s with|.cl=>Z'|_=>Z_)=Z_)(g:DG):eI (dO (e2 eP (e2 bW (eV 1) (eK (.int 0))) (eK (.str (af "close"))))) g da [oC c,Y (cG s)]=Y (.nx [oC c,Y (cG s)]):=by
 unfold eI;rw[HV,h];rfl
def OS(fit lift:Int->Int->Int)(c:jg)(b:Int)(pr:jB):jg:=
 let a:=c.rows++[CG fit c c.opened b 0 pr]
 { c with opened:=c.opened+1,rows:=Dv fit lift Z' (a.length-1) a }
theorem JE{f:aG->Int}(q:Qe c.f fit lift)(v:WL c.f a f)(t:uq c (.op n)=Z')(s:c.rows.getLast? = Y pr)(u:(bA (bO pr.p_ (bA pr.ha c.f.inner)) (bA (a n) c.qf)).natAbs<2 ^ 64)(w:c.rows.length<1000)(r:dG [bE (OS fit lift (mK c) (a n) pr)]=Y (d,bE p)):dz [bE c,cG (.op n)]=Y (d,bE p):=by
 show (fS [oC c,Y (cG (.op n))]).bind (lR aD)=_;unfold fS;rw[aK (uu t),aK (ur c _),aK (Bc rfl _)];have m:=CF (c:=mK c) (fit:=fit) (lift:=lift) q (pr:=pr) s c.opened (a n) 0 u (iH (by show c.rows.length<2000;omega));have h:=A0 (c:={ mK c with opened:=(mK c).opened+1,rows:=(mK c).rows++[CG fit (mK c) c.opened (a n) 0 pr] }) (fit:=fit) (lift:=lift) q (by simp) (by simp[mK];omega);have g:lE [0] [] (dr "Facts" "steps_for" eB (bp "Coming" "facts" (eV 0)) (aC (e2 bW (eV 1) (eK (.int 1))) aN)) [oC (mK c),Y (cG (.op n))]=Y (.int (a n)):=by rw[Of];rw[show eB [fU (mK c).f,.str n]=_ from v.Ux n];rfl
 have b:=Gy (s :=.op n) g m;have e:dZ Z_ 0 "Coming" "opened" (λi j=>i+j) (eK (.int 1)) [oC { mK c with rows:=(mK c).rows++[CG fit (mK c) c.opened (a n) 0 pr] },Y (cG (.op n))]=Y (.nx [oC { mK c with opened:=(mK c).opened+1,rows:=(mK c).rows++[CG fit (mK c) c.opened (a n) 0 pr] },Y (cG (.op n))]):=by kernel_rfl
 have l:eY (bQ "Coming" "spread" aD dy 0 kf) [oC { mK c with opened:=(mK c).opened+1,rows:=(mK c).rows++[CG fit (mK c) c.opened (a n) 0 pr] },Y (cG (.op n))]=Y (.nx [oC (OS fit lift (mK c) (a n) pr),Y (cG (.op n))]):=by unfold eY;rw[zw (by decide) h];rfl
 have k:∀o,eI (dO (e2 eP (e2 bW (eV 1) (eK (.int 0))) (eK (.str (af "open"))))) (ba (eY (bQ "Coming" "begin_row" aD gj 0 (iY (mP (lE [0] [] (bp "Coming" "opened" (eV 0)))) (iY (mP (lE [0] [] (dr "Facts" "steps_for" eB (bp "Coming" "facts" (eV 0)) (aC (e2 bW (eV 1) (eK (.int 1))) aN)))) (iY (mP (eK (.int 0))) kf))))) (ba (dZ Z_ 0 "Coming" "opened" (λi j=>i+j) (eK (.int 1))) (eY (bQ "Coming" "spread" aD dy 0 kf)))) o [oC (mK c),Y (cG (.op n))]=Y (.nx [oC (OS fit lift (mK c) (a n) pr),Y (cG (.op n))]):=by intro o;unfold eI;rw[LO];simp only[ae,if_true];rw[aK b,aK e,l]
 rw[aK (k _)];exact Bq r
theorem JD{f:aG->Int}(o:Qe c.f fit lift)(n:WL c.f f a)(m:uq c (.tx t)=Z')(l:c.rows[c.rows.length-1]?=Y r)(p:c.rows.length<1000)(k:dG [bE (CQ fit lift (mK c) (a t) r)]=Y (d,bE j)):dz [bE c,cG (.tx t)]=Y (d,bE j):=by
 show (fS [oC c,Y (cG (.tx t))]).bind (lR aD)=_;unfold fS;rw[aK (uu m),aK (ur c _),aK (Bc rfl _)];have e:=CP (c:=mK c) (fit:=fit) (lift:=lift) o (r:=r) l (by show c.rows.length<1000000;omega) (a t);have g:lE [0] [] (dr "Facts" "text_fact" ez (bp "Coming" "facts" (eV 0)) (aC (e2 bW (eV 1) (eK (.int 1))) aN)) [oC (mK c),Y (cG (.tx t))]=Y (.int (a t)):=by rw[N'];rw[show ez [fU (mK c).f,.str t]=_ from n.txt t];rfl
 have b:=Np (s :=.tx t) g e;have h:∀i,eI (dO (e2 eP (e2 bW (eV 1) (eK (.int 0))) (eK (.str (af "open"))))) i (eY (bQ "Coming" "add_atoms" aD gk 0 (iY (mP (lE [0] [] (dr "Facts" "text_fact" ez (bp "Coming" "facts" (eV 0)) (aC (e2 bW (eV 1) (eK (.int 1))) aN)))) kf))) [oC (mK c),Y (cG (.tx t))]=Y (.nx [oC (CQ fit lift (mK c) (a t) r),Y (cG (.tx t))]):=by intro i;unfold eI;rw[LO];simp only[ae,eD,if_false];exact b
 rw[aK (h _)];exact Bq k
def vV(c:jg)(a:List Int):D :=.ins "Sift" ["coming", "numbers"] [bE c,.lst (a.map D.int)]
abbrev oS(c:jg)(a:List Int):Option D:=Y (.obj dH (vV c a))
theorem Fq{F:List D->Option (D×D)}{s:pL}:nh 2 (nz "Sift" "coming" "Coming" "feed" aD F 0 (aC (eV 1) aN)) [oS c a,Y (cG s),M]=(F [bE c,cG s]).map λr =>.nx [Y (.obj dH (.ins "Sift" ["coming", "numbers"] [r.2,.lst (a.map D.int)])),Y (cG s),Y r.1]:=by
 have e:nz "Sift" "coming" "Coming" "feed" aD F 0 (aC (eV 1) aN) [oS c a,Y (cG s),M]=(F [bE c,cG s]).map λr=>(r.1,[Y (.obj dH (.ins "Sift" ["coming", "numbers"] [r.2,.lst (a.map D.int)])),Y (cG s),M]):=by cases s<;>kernel_rfl
 unfold nh;rw[e];cases F [bE c,cG s]<;>rfl
theorem yQ:∀a:List Int,pa (a.map D.int)=Z'
 |[]=>rfl|n::a=>by rw[a_,pa,yQ a];rfl
theorem Oa{s:pL}(h:dz [bE c,cG s]=Y (.lst (b.map D.int),bE d))(e:(a++b).length<64):
  jC [vV c a,cG s]=Y (.lst (b.map D.int),vV d (xr (a++b))):=by
 show (pb [oS c a,Y (cG s),M]).bind (lR dH)=_;unfold pb;rw[aK (ρ':=[oS d a,Y (cG s),Y (.lst (b.map D.int))]) ?l]
 case l=>rw[Fq,h];rfl
 have k:res [0] [] [oS d a,Y (cG s),Y (.lst (b.map D.int))]=[Y (vV d a),Y (cG s),Y (.lst (b.map D.int))]:=rfl;have j:e2 gJ (bp "Sift" "numbers" (eV 0)) (eV 2) [Y (vV d a),Y (cG s),Y (.lst (b.map D.int))]=Y (.lst ((a++b).map D.int)):=by
  have:e2 gJ (bp "Sift" "numbers" (eV 0)) (eV 2) [Y (vV d a),Y (cG s),Y (.lst (b.map D.int))]=gJ (.lst (a.map D.int)) (.lst (b.map D.int)):=by kernel_rfl
  rw[this];simp only[gJ];rw[if_pos (by have:=iH (n:=(a.map D.int).length+(b.map D.int).length) (by simp only[ax];rw[aQ]at e;omega);omega),cq]
 have i:=yD j e;have g:QY [0] [] (mi (e2 gJ (bp "Sift" "numbers" (eV 0)) (eV 2))) [oS d a,Y (cG s),Y (.lst (b.map D.int))]=Y ((xr (a++b)).map D.int):=by unfold QY;rw[k,i];simp only[ae];rw[if_pos (yQ _)]
 rw[aK (ρ':=[oS d (xr (a++b)),Y (cG s),Y (.lst (b.map D.int))]) ?f]
 case f=>unfold fc eF;rw[g];kernel_rfl
 kernel_rfl
def lI:Nat->D->Prop
 |0,_=>False|n+1,d=>∃a e,d=.tup [.int a,.lst e]/\0<=a/\e.length<=1000/\∀c∈e,∃b,c=.lst b/\b.length<=1000/\∀x∈b,lI n x
def jh:Nat->D->Int->Bool
 |n+1,.tup [.int b,.lst e],a=>(bA a b==b)&&e.all λc=>match c with|.lst d=>d.any λx=>jh n x a|_=>Z_
 |_,_,_=>Z_
theorem sf:∀(b:List D),(∀d∈b,∃a,gN 0 d c=Y a/\e a=Y (g d))->Ay c (gN 0) hI e b=Y (b.map g)
 |[],_=>rfl|d::b,h=>by obtain⟨a,j,i⟩:=h d (ay ..);rw[Ay,j];simp only[ae,hI,if_true,i];rw[sf b λx f=>h x (aw _ f)];rfl
theorem PJ(x y:Int):tV (.int x) (.int y)=(x==y):=by simp[tV]
theorem GD{a:List D}{f:D->Bool}:gu Z' [.lst (a.map λd =>.bl (f d))]=Y (.bl (a.all f)):=by
 simp only[gu];rw[if_pos (by simp[nN,eU,Mv])];simp[nN,eU,vx]
theorem Nn{a:List D}{f:D->Bool}:gu Z_ [.lst (a.map λd =>.bl (f d))]=Y (.bl (a.any f)):=by
 simp only[gu];rw[if_pos (by simp[nN,eU,Mv])];simp[List.any_map,eU,vx]
theorem uB{f:DL}(e:f a=Y b):bf G (aC (eF f) aN) a=G [.lst b]:=by
 unfold bf aC eF;rw[e];rfl
theorem Mc{F:List D->Option D}(f:b.length<=1000)(h:∀x∈b,F [x,.int a]=Y (.bl (g x))):
  bf (gu Z_) (aC (eF (nj (iL (eV 0)) [M,Y 1] (gN 0) hI (bf F (aC (eV 0) (aC (eV 1) aN))))) aN) [Y (.lst b),Y (.int a)]=Y (.bl (b.any g)):=by
 have e:nj (iL (eV 0)) [M,Y 1] (gN 0) hI (bf F (aC (eV 0) (aC (eV 1) aN))) [Y (.lst b),Y (.int a)]=Y (b.map λx =>.bl (g x)):=by unfold nj;show (if b.length<=dU then Ay [M,Y (.int a)] (gN 0) hI (bf F (aC (eV 0) (aC (eV 1) aN))) b else M)=_;rw[if_pos (fR (iH (by omega)))];exact sf b λd c=>⟨[Y d,Y (.int a)],rfl,h d c⟩
 rw[uB e];exact Nn
theorem Ed:∀(n m:Nat) (d:D) (a:Int),n<=m->lI n d->kh m [d,.int a]=Y (.bl (jh n d a))
 |0,_,_,_,_,h=>h.elim|n+1,0,_,_,hm,_=>by omega
 | n+1,m+1,d,a,hm,h=>by
  obtain⟨sE,cs,rfl,hn,hl,hc⟩:=h;show (yh (kh m) [Y (.tup [.int sE,.lst cs]),Y (.int a)]).bind nL=_;unfold yh;have ih:∀x,lI n x->kh m [x,.int a]=Y (.bl (jh n x a)):=λx hx=>Ed n m x a (by omega) hx
  generalize kh m=F at *
  have e1:dO (e2 Au (e2 d_ (eV 1) (e2 bW (eV 0) (eK (.int 0)))) (e2 bW (eV 0) (eK (.int 0)))) [Y (.tup [.int sE,.lst cs]),Y (.int a)]=Y (!(bA a sE==sE)):=by
   have:dO (e2 Au (e2 d_ (eV 1) (e2 bW (eV 0) (eK (.int 0)))) (e2 bW (eV 0) (eK (.int 0)))) [Y (.tup [.int sE,.lst cs]),Y (.int a)]=Y (!tV (.int (bA a sE)) (.int sE)):=by kernel_rfl
   rw[this,PJ]
  simp only[jh];cases hx:(bA a sE==sE) with
  |false=>
   rw[hx]at e1;have:∀h,ba (eI (dO (e2 Au (e2 d_ (eV 1) (e2 bW (eV 0) (eK (.int 0)))) (e2 bW (eV 0) (eK (.int 0))))) (dF (eK (.bl Z_))) da) h [Y (.tup [.int sE,.lst cs]),Y (.int a)]=Y (.rt (.bl Z_)):=by intro h;unfold ba eI;rw[e1];rfl
   rw[this];rfl
  |true=>
   rw[hx]at e1;have:eI (dO (e2 Au (e2 d_ (eV 1) (e2 bW (eV 0) (eK (.int 0)))) (e2 bW (eV 0) (eK (.int 0))))) (dF (eK (.bl Z_))) da [Y (.tup [.int sE,.lst cs]),Y (.int a)]=Y (.nx [Y (.tup [.int sE,.lst cs]),Y (.int a)]):=by unfold eI;rw[e1];rfl
   rw[aK this];have e2:nj (iL (e2 bW (eV 0) (eK (.int 1)))) [M,Y 1] (gN 0) hI (bf (gu Z_) (aC (eF (nj (iL (eV 0)) [M,Y 1] (gN 0) hI (bf F (aC (eV 0) (aC (eV 1) aN))))) aN)) [Y (.tup [.int sE,.lst cs]),Y (.int a)]=Y (cs.map λc =>.bl (match c with|.lst xs=>xs.any λx=>jh n x a|_=>Z_)):=by
    unfold nj;show (if cs.length<=dU then Ay [M,Y (.int a)] (gN 0) hI _ cs else M)=_;rw[if_pos (fR (iH (by omega)))];refine sf cs λc Xj=>⟨[Y c,Y (.int a)],rfl,?_⟩
    obtain⟨xs,rfl,hxl,hxs⟩:=hc c Xj;exact Mc hxl λx hx=>ih x (hxs x hx)
   unfold dF;rw[uB e2,GD];rfl
def O6(n:Nat)(named atoms:Int)(b:Int):List (Int×D)->Int
 |[]=>b|(a,ask)::r=>O6 n named atoms (if bA named a != 0&&jh n ask atoms then bO b a else b) r
def Kj(p:Int×D):D :=.tup [.int p.1,p.2]
theorem Ho{d:D}{a:Int}(b:n<=12)(h:lI n d):s_ [d,.int a]=Y (.bl (jh n d a)):=Ed n 12 d a b h
theorem HU{F:List D->Option D}{x:Int}{d:D}{a:Int}{f:DF}(k:eH e c=Y (x != 0))(i:f c=Y d)(h:g c=Y (.int a))(j:F [d,.int a]=Y (.bl b)):kO (eH e) (eH (bf F (aC f (aC g aN)))) c=Y (x != 0&&b):=by
 have l:eH (bf F (aC f (aC g aN))) c=Y b:=by unfold eH bf aC;rw[i,h];show ((F [d,.int a]).bind _)=_;rw[j];rfl
 unfold kO;rw[k,l];cases (x != 0)<;>rfl
theorem Eh(k:n<=12)(self:D)(b a:Int):∀(e:List (Int×D)) (d:Int) (g f:Option D),(∀p∈e,lI n p.2)->∃j i,
  gx (Cm 4 5) fV (e.map Kj) [Y self,Y (.int b),Y (.int a),Y (.int d),g,f]=Y (.nx [Y self,Y (.int b),Y (.int a),Y (.int (O6 n b a d e)),j,i])
 |[],d,g,f,_=>⟨g,f,rfl⟩| (c,ask)::e,d,g,f,h=>by
  have m:=Ho (a:=a) k (h _ (ay ..));have o:fV [Y self,Y (.int b),Y (.int a),Y (.int d),Y (.int c),Y ask]=Y (.nx [Y self,Y (.int b),Y (.int a),Y (.int (if bA b c != 0&&jh n ask a then bO d c else d)),Y (.int c),Y ask]):=by unfold fV eI;rw[HU (x:=bA b c) (d:=ask) (a:=a) rfl rfl rfl m];simp only[ae];cases (bA b c != 0&&jh n ask a)<;>rfl
  rw[a_,mT (ρ1:=[Y self,Y (.int b),Y (.int a),Y (.int d),Y (.int c),Y ask]) rfl o];obtain⟨j,i,q⟩:=Eh k self b a e (if bA b c != 0&&jh n ask a then bO d c else d) (Y (.int c)) (Y ask) (λp l=>h p (aw _ l));exact⟨j,i,q.trans rfl⟩
theorem Jn{f:EO}{n:Nat}(g:n<=12)(e:f.cT=c.map Kj)(h:∀p∈c,lI n p.2)(b a:Int):ik [fU f,.int b,.int a]=Y (.int (O6 n b a (bA a f.inner) c)):=by
 show (lC [Y (fU f),Y (.int b),Y (.int a),M,M,M]).bind nL=_;unfold lC;rw[aK (iF (d :=.int (bA a f.inner)) (by kernel_rfl))];simp only[bg,bh];obtain⟨j,i,q⟩:=Eh g (fU f) b a c (bA a f.inner) M M h;have d:ir (iL (bp "Facts" "leads" (eV 0))) (Cm 4 5) fV [Y (fU f),Y (.int b),Y (.int a),Y (.int (bA a f.inner)),M,M]=gx (Cm 4 5) fV (c.map Kj) [Y (fU f),Y (.int b),Y (.int a),Y (.int (bA a f.inner)),M,M]:=by
  have:iL (bp "Facts" "leads" (eV 0)) [Y (fU f),Y (.int b),Y (.int a),Y (.int (bA a f.inner)),M,M]=Y f.cT:=by kernel_rfl
  unfold ir;rw[this,e];rfl
 rw[aK (d.trans q)];rfl
def Gf(n:Nat)(named atoms:Int):Nat->Int->List D->Int
 |_,a,[]=>a|k,a,ask::r=>Gf n named atoms (k+1) (if bA named (2 ^ k) != 0&&jh n ask atoms then bO a (2 ^ k) else a) r
theorem HE(m:n<=12)(self:D)(b a:Int):∀(e:List D) (k:Nat) (c:Int) (g f d:Option D),(∀p∈e,lI n p)->k+e.length<=1000->∃l j i,
  gx (Cm 4 5) fh ((e.zipIdx k).map λp =>.tup [.int (p.2:Nat),p.1]) [Y self,Y (.int b),Y (.int a),Y (.int c),g,f,d]=Y (.nx [Y self,Y (.int b),Y (.int a),Y (.int (Gf n b a k c e)),l,j,i])
 |[],k,c,g,f,d,_,_=>⟨g,f,d,rfl⟩| ask::e,k,c,g,f,d,h,s=>by
  simp only[aP]at s;have r:=Ho (a:=a) m (h _ (ay ..));have t:fh [Y self,Y (.int b),Y (.int a),Y (.int c),Y (.int (k:Nat)),Y ask,d]=Y (.nx [Y self,Y (.int b),Y (.int a),Y (.int (if bA b (2 ^ k) != 0&&jh n ask a then bO c (2 ^ k) else c)),Y (.int (k:Nat)),Y ask,Y (.int (2 ^ k))]):=by
   unfold fh;rw[aK (ρ':=[Y self,Y (.int b),Y (.int a),Y (.int c),Y (.int (k:Nat)),Y ask,Y (.int (2 ^ k))]) ?u]
   case u=>rw[iF ((show e2 pX (eK (.int 1)) (eV 4) [Y self,Y (.int b),Y (.int a),Y (.int c),Y (.int (k:Nat)),Y ask,d]=pX (.int 1) (.int (k:Nat)) from rfl).trans (Oi (by omega)))];rfl
   unfold eI;rw[HU (x:=bA b (2 ^ k)) (d:=ask) (a:=a) rfl rfl rfl r];simp only[ae];cases (bA b (2 ^ k) != 0&&jh n ask a)<;>rfl
  rw[EY,a_,mT (ρ1:=[Y self,Y (.int b),Y (.int a),Y (.int c),Y (.int (k:Nat)),Y ask,d]) rfl t];obtain⟨l,j,i,q⟩:=HE m self b a e (k+1) (if bA b (2 ^ k) != 0&&jh n ask a then bO c (2 ^ k) else c) (Y (.int (k:Nat))) (Y ask) (Y (.int (2 ^ k))) (λp o=>h p (aw _ o)) (by omega);exact⟨l,j,i,q.trans rfl⟩
theorem Ge{f:EO}{n:Nat}(d:n<=12)(h:∀p∈f.asks,lI n p)(e:f.asks.length<=1000)(a b:Int):dQ [fU f,.int a,.int b]=Y (.int (Gf n a b 0 0 f.asks)):=by
 show (kq [Y (fU f),Y (.int a),Y (.int b),M,M,M,M]).bind nL=_;unfold kq;rw[aK (iF (d :=.int 0) rfl)];simp only[bg,bh];obtain⟨j,i,g,q⟩:=HE d (fU f) a b f.asks 0 0 M M M h (by omega);have c:ir (iE (bp "Facts" "asks" (eV 0))) (Cm 4 5) fh [Y (fU f),Y (.int a),Y (.int b),Y (.int 0),M,M,M]=gx (Cm 4 5) fh ((f.asks.zipIdx 0).map λp =>.tup [.int (p.2:Nat),p.1]) [Y (fU f),Y (.int a),Y (.int b),Y (.int 0),M,M,M]:=by
  have:iL (bp "Facts" "asks" (eV 0)) [Y (fU f),Y (.int a),Y (.int b),Y (.int 0),M,M,M]=Y f.asks:=by kernel_rfl
  unfold ir iE;rw[this];rfl
 rw[aK (c.trans q)];rfl
theorem GA(a b:Nat):bA (a:Int) (b:Int)=((a &&& b:Nat):Int):=by
 unfold bA;rw[Qm (by omega) (by omega)];simp
theorem Gz(a b:Nat):bO (a:Int) (b:Int)=((a ||| b:Nat):Int):=by
 unfold bO;rw[PyProof.Rows.bitOr_and,show uV (a:Int) (b:Int)=_ from GA a b];have:=Iw a b;omega
theorem uC(d:0<=x)(c:0<=y):0<=bO x y:=by
 obtain⟨a,rfl⟩:=bV d;obtain⟨b,rfl⟩:=bV c;have:=Gz a b;omega
structure FB where
 q:List D
 bits:Nat
 nk:List lJ
 nv:List D
 tk:List lJ
 tv:List D
 jH:Int
 u5:Int
 inner:Int
 cT:List D
noncomputable abbrev UD:List aG:=["question", "bits", "by_name", "by_text", "starred", "stars", "inner", "leads"]
def dW(s:FB):D :=.ins "Facts" UD [.lst s.q,.int (s.bits:Nat),.iW s.nk s.nv,.iW s.tk s.tv,.int s.jH,.int s.u5,.int s.inner,.lst s.cT]
abbrev oF(s:FB):Option D:=Y (.obj aA (dW s))
theorem y8(s:FB)(h:s.bits<=999):eE [dW s]=Y (.int (2 ^ s.bits),dW { s with bits:=s.bits+1 }):=by
 show (ko [oF s]).bind (lR aA)=_;unfold ko;rw[aK (ρ':=[oF { s with bits:=s.bits+1 }]) ?b]
 case b=>kernel_rfl
 have a:lE [0] [] (e2 pX (eK (.int 1)) (e2 oU (bp "Facts" "bits" (eV 0)) (eK (.int 1)))) [oF { s with bits:=s.bits+1 }]=Y (.int (2 ^ s.bits)):=by refine mB (ρ':=[Y (dW { s with bits:=s.bits+1 })]) rfl ?_ rfl;have:e2 pX (eK (.int 1)) (e2 oU (bp "Facts" "bits" (eV 0)) (eK (.int 1))) [Y (dW { s with bits:=s.bits+1 })]=pX (.int 1) (.int (((s.bits+1:Nat):Int)-1)):=rfl;rw[this,show ((s.bits+1:Nat):Int)-1=(s.bits:Int) by omega,Oi (by omega)]
 unfold dm mP;rw[a];kernel_rfl
theorem ly{F:List D->Option (D×D)}{m:aG}{ρ1:cy}{s s1 b:FB}{args:List D}(c:m∉UD)(i:eV j a=oF s)(e:g a=Y (args,ρ1))(f:eV j ρ1=oF s1)(h:F (dW s1::args)=Y (d,dW b)):
  bQ "Facts" m aA F j g a=Y (d,(cS j ρ1).set j (oF b)):=by
 have l:xo j a=Y (aA,dW s):=by unfold xo;rw[i]
 have k:kT aA j ρ1=Y (dW s1):=by unfold kT xo;rw[f];kernel_rfl
 unfold bQ;rw[l];simp only[ae];show (if _ then _ else _)=_;rw[if_pos ⟨⟨rfl,rfl⟩,c⟩,e];simp only[ae,k,h];rfl
structure Kl(s:FB):Prop where
 nv:∀v∈s.nv,∃i,0<=i/\v=D.int i
 star:0<=s.jH
 inner:0<=s.inner
 nk:s.nk.length<=s.bits
noncomputable abbrev C8(a b:aG)(w:D):D :=.tup [.str a,.str b,w]
theorem mE(n:Nat):(0:Int)<=2 ^ n:=Int.le_of_lt (Int.pow_pos (by decide))
structure bD(s s':FB):Prop where
 q:s'.q=s.q
 tk:s'.tk=s.tk
 tv:s'.tv=s.tv
 cT:s'.cT=s.cT
theorem Kr:∀ {b:List lJ}{a:List D},∀v∈vH (λq x=>if q=k then d else x) b a,v=d∨v∈a
 |[],a,v,h=>by simp at h
 |q::b,[],v,h=>by simp at h
 | q::b,x::a,v,h=>by
  simp only[vG,aW]at h;rcases h with h|h
  ·by_cases e:q=k
   ·rw[if_pos e]at h;exact .inl h
   ·rw[if_neg e]at h;exact .inr (by rw[h];exact ay ..)
  ·rcases Kr v h with h|h
   ·exact .inl h
   ·exact .inr (aw _ h)
theorem JO{k:lJ}{d:D}{ks:List lJ}{ds:List D}(v:D)(h:v∈(qd k d ks ds).2):v=d∨v∈ds:=by
 unfold qd at h;split at h
 ·exact Kr v h
 ·rcases bq.mp h with h|h
  ·exact .inr h
  ·exact .inl (cx.mp h)
theorem Ni{k:lJ}{d:D}{ks:List lJ}{ds:List D}:(qd k d ks ds).1.length<=ks.length+1:=by
 unfold qd;split<;>simp
theorem Bw(h:eJ b a k=Y d):d∈a:=by
 unfold eJ at h;obtain⟨p,e,h⟩:=aq.1 h;cases h;have:=List.mem_of_find?_eq_some e;exact(vL this).2
theorem Ef{k:lJ}{ks:List lJ}(h:∀v∈a,∃i,0<=i/\v=D.int i):∃i,0<=i/\(eJ ks a k).getD (.int 0)=.int i:=by
 cases e:eJ ks a k with
 |none=>exact⟨0,by decide,rfl⟩
 |some d=>obtain⟨i,b,rfl⟩:=h d (Bw e);exact⟨i,b,rfl⟩
theorem Lp{s:FB}(hi:(eJ s.nk s.nv (cN nm)).getD (.int 0)=.int i)(hl:s.nk.length<dU):
  qt 0 "Facts" "by_name" (e2 bW (eV 1) (eK (.int 1))) (mP (lE [0] [] (e2 C9 (sr (bp "Facts" "by_name" (eV 0)) (e2 bW (eV 1) (eK (.int 1))) (eK (.int 0))) (eV 2)))) [oF s,Y (C8 CY nm w),Y (.int b)]=Y (.nx [oF { s with nk:=(qd (cN nm) (.int (bO i b)) s.nk s.nv).1,nv:=(qd (cN nm) (.int (bO i b)) s.nk s.nv).2 },Y (C8 CY nm w),Y (.int b)]):=by
 have e1:lE [0] [] (e2 C9 (sr (bp "Facts" "by_name" (eV 0)) (e2 bW (eV 1) (eK (.int 1))) (eK (.int 0))) (eV 2)) [oF s,Y (C8 CY nm w),Y (.int b)]=Y (.int (bO i b)):=by refine mB (ρ':=[Y (dW s),Y (C8 CY nm w),Y (.int b)]) rfl ?_ rfl;have:e2 C9 (sr (bp "Facts" "by_name" (eV 0)) (e2 bW (eV 1) (eK (.int 1))) (eK (.int 0))) (eV 2) [Y (dW s),Y (C8 CY nm w),Y (.int b)]=C9 ((eJ s.nk s.nv (cN nm)).getD (.int 0)) (.int b):=rfl;rw[this,hi];rfl
 unfold qt mP;rw[e1];simp only[bP,ae];have e2:rh "Facts" "by_name" 0 [oF s,Y (C8 CY nm w),Y (.int b)]=Y (so,UD,[.lst s.q,.int (s.bits:Nat),.iW s.nk s.nv,.iW s.tk s.tv,.int s.jH,.int s.u5,.int s.inner,.lst s.cT],.iW s.nk s.nv):=by kernel_rfl
 rw[e2];simp only[ae];have e3:(L2.e2 bW (eV 1) (eK (.int 1)) [oF s,Y (C8 CY nm w),Y (.int b)]).bind B9=Y (cN nm):=rfl;show (if _/\s.nk.length<dU then _ else M)=_;rw[if_pos ⟨by decide,hl⟩];kernel_rfl
theorem AB{s:FB}(W:Kl s)(h:s.bits<=999)(CY nm:aG)(w:D):∃s',du [dW s,C8 CY nm w]=Y (.int (2 ^ s.bits),dW s')/\s'.bits=s.bits+1/\bD s s'/\Kl s':=by
 have e0:du [dW s,C8 CY nm w]=(iI [oF s,Y (C8 CY nm w),M]).bind (lR aA):=rfl;have hb:(0:Int)<=2 ^ s.bits:=mE _;rw[e0];unfold iI;rw[aK (ρ':=[oF { s with bits:=s.bits+1 },Y (C8 CY nm w),Y (.int (2 ^ s.bits))]) ?q0]
 case q0=>unfold nh;rw[ly (by decide) rfl rfl rfl (y8 s h)];rfl
 generalize (2:Int) ^ s.bits=b at *
 have W1:Kl { s with bits:=s.bits+1 }:=⟨W.nv,W.star,W.inner,td W.nk⟩;have hk1:s.nk.length<=s.bits:=W.nk;have S1:bD s { s with bits:=s.bits+1 }:=⟨rfl,rfl,rfl,rfl⟩;have hb1:({ s with bits:=s.bits+1 }:FB).bits=s.bits+1:=rfl;have V3:({ s with bits:=s.bits+1 }:FB).nk.length<=s.bits:=hk1;generalize ({ s with bits:=s.bits+1 }:FB)=s1 at *
 obtain⟨s2,q1,W2,S2,Xl,hk2⟩:∃s2,eI (dO (e2 eP (e2 bW (eV 1) (eK (.int 0))) (eK (.str (af "inner"))))) (dZ Z_ 0 "Facts" "inner" c_ (eV 2)) da [oF s1,Y (C8 CY nm w),Y (.int b)]=Y (.nx [oF s2,Y (C8 CY nm w),Y (.int b)])/\Kl s2/\bD s s2/\s2.bits=s.bits+1/\s2.nk.length<=s.bits:=by
  have e1:dO (e2 eP (e2 bW (eV 1) (eK (.int 0))) (eK (.str (af "inner")))) [oF s1,Y (C8 CY nm w),Y (.int b)]=Y (tV (.str CY) (.str (af "inner"))):=by kernel_rfl
  unfold eI;rw[e1];cases tV (.str CY) (.str (af "inner")) with
  |true=>exact⟨{ s1 with inner:=bO s1.inner b },by kernel_rfl,⟨W1.nv,W1.star,uC W1.inner hb,W1.nk⟩,⟨S1.q,S1.tk,S1.tv,S1.cT⟩,hb1,V3⟩
  |false=>exact⟨s1,rfl,W1,S1,hb1,V3⟩
 rw[aK q1];obtain⟨s3,q2,W3,S3,hb3⟩:∃s3,eI (dO (e2 eP (e2 bW (eV 1) (eK (.int 1))) (eK (.str (af "*"))))) (ba (dZ Z_ 0 "Facts" "starred" c_ (eV 2)) (dZ Z_ 0 "Facts" "stars" (λi j=>i+j) (eK (.int 1)))) (qt 0 "Facts" "by_name" (e2 bW (eV 1) (eK (.int 1))) (mP (lE [0] [] (e2 C9 (sr (bp "Facts" "by_name" (eV 0)) (e2 bW (eV 1) (eK (.int 1))) (eK (.int 0))) (eV 2))))) [oF s2,Y (C8 CY nm w),Y (.int b)]=Y (.nx [oF s3,Y (C8 CY nm w),Y (.int b)])/\Kl s3/\bD s s3/\s3.bits=s.bits+1:=by
  have e1:dO (e2 eP (e2 bW (eV 1) (eK (.int 1))) (eK (.str (af "*")))) [oF s2,Y (C8 CY nm w),Y (.int b)]=Y (tV (.str nm) (.str (af "*"))):=by kernel_rfl
  unfold eI;rw[e1];cases tV (.str nm) (.str (af "*")) with
  |true=>exact⟨{ s2 with jH:=bO s2.jH b,u5:=s2.u5+1 },by kernel_rfl,⟨W2.nv,uC W2.star hb,W2.inner,W2.nk⟩,⟨S2.q,S2.tk,S2.tv,S2.cT⟩,Xl⟩
  |false=>
   obtain⟨i,hi,hl⟩:=Ef (k:=cN nm) (ks:=s2.nk) W2.nv;refine⟨{ s2 with nk:=(qd (cN nm) (.int (bO i b)) s2.nk s2.nv).1,nv:=(qd (cN nm) (.int (bO i b)) s2.nk s2.nv).2 },?_,⟨?_,W2.star,W2.inner,?_⟩,⟨S2.q,S2.tk,S2.tv,S2.cT⟩,Xl⟩
   ·exact Lp hl (iH (by omega))
   ·intro v hv;rcases JO v hv with rfl|hv
    ·exact⟨_,uC hi hb,rfl⟩
    ·exact W2.nv v hv
   ·have:=Ni (k:=cN nm) (d :=.int (bO i b)) (ks:=s2.nk) (ds:=s2.nv);show (qd (cN nm) (.int (bO i b)) s2.nk s2.nv).1.length<=s2.bits;omega
 rw[aK q2];exact⟨s3,by kernel_rfl,hb3,S3,W3⟩
def fH:Nat->Nat->List Int
 |_,0=>[]|n,k+1=>2 ^ n::fH (n+1) k
theorem sW:∀n k,(fH n k).length=k
 |_,0=>rfl|n,k+1=>by simp[fH,sW (n+1) k]
abbrev cm(p:aG×aG×D):D:=C8 p.1 p.2.1 p.2.2
theorem bD.trans(h:bD a b)(g:bD b c):bD a c:=⟨g.q.trans h.q,g.tk.trans h.tk,g.tv.trans h.tv,g.cT.trans h.cT⟩
theorem Eo:∀(a:List (aG×aG×D)) (s:FB) (x:Option D),Kl s->s.bits+a.length<=1000->∃c,Ax [M,x] (gN 0) (bQ "Facts" "enter_step" aA du 1 (iY (mP (eV 0)) kf)) 1 aA (a.map cm) (dW s)=Y ((fH s.bits a.length).map D.int,dW c)/\c.bits=s.bits+a.length/\bD s c/\Kl c
 |[],s,x,W,h=>⟨s,rfl,rfl,⟨rfl,rfl,rfl,rfl⟩,W⟩| p::a,s,x,W,h=>by
  simp only[aP]at h;obtain⟨b,k,e,q,n⟩:=AB W (by omega) p.1 p.2.1 p.2.2;obtain⟨f,d,l,o,m⟩:=Eo a b x n (by omega);refine⟨f,?_,by rw[l,e];simp only[aP];omega,q.trans o,m⟩;rw[a_,Ax];have j:gN 0 (cm p) ([M,x].set 1 (Y (.obj aA (dW s))))=Y [Y (cm p),oF s]:=rfl;have i:bQ "Facts" "enter_step" aA du 1 (iY (mP (eV 0)) kf) [Y (cm p),oF s]=Y (.int (2 ^ s.bits),[Y (cm p),oF b]):=by rw[ly (ρ1:=[Y (cm p),oF s]) (args:=[cm p]) (by decide) rfl rfl rfl k];rfl
  have g:kT aA 1 [Y (cm p),oF b]=Y (dW b):=by kernel_rfl
  rw[j];simp only[ae,i,g];rw[e]at d;rw[d];rfl
theorem Ep{s:FB}(W:Kl s)(a:List (aG×aG×D))(h:s.bits+a.length<=1000):∃b,jf [dW s,.lst (a.map cm)]=Y (.lst ((fH s.bits a.length).map D.int),dW b)/\b.bits=s.bits+a.length/\bD s b/\Kl b:=by
 obtain⟨b,e,r⟩:=Eo a s (Y (.obj aA (dW s))) W h;refine⟨b,?_,r⟩;show (mx [oF s,Y (.lst (a.map cm))]).bind (lR aA)=_;have g:vm (iL (eV 1)) [M,Y 0] (gN 0) (bQ "Facts" "enter_step" aA du 1 (iY (mP (eV 0)) kf)) 1 0 aA [oF s,Y (.lst (a.map cm))]=Y (.lst ((fH s.bits a.length).map D.int),[oF b,Y (.lst (a.map cm))]):=by
  unfold vm;have f:iL (eV 1) [oF s,Y (.lst (a.map cm))]=Y (a.map cm):=rfl;have d:kT aA 0 [oF s,Y (.lst (a.map cm))]=Y (dW s):=by kernel_rfl
  have c:mR [M,Y 0] (cS 0 [oF s,Y (.lst (a.map cm))])=[M,Y (.obj aA (dW s))]:=rfl;rw[f];simp only[ae];rw[if_pos (fR (iH (by rw[ax];omega))),d];simp only[ae];rw[c,e];rfl
 unfold mx dm;rw[g];kernel_rfl
def Sub(a:Int)(P:Nat->Prop):Prop:=0<=a/\∀i,a.toNat.testBit i=Z'->P i
def UM(b:Nat)(P:Nat->Prop)(d:D)(c:Prop):Prop:=∀e:Nat->Prop,(∀i,i<b->e i->P i)->∀a n,Sub a e->jh n d a=Z'->c
theorem UM.ext{b':Nat}{P P2:Nat->Prop}{d:D}(h:UM b P d c)(l:b<=b')(g:∀i,i<b->P2 i->P i):UM b' P2 d c:=
 λk f a n=>h k (λi j e=>g i j (f i (by omega) e)) a n
structure Inv(s:FB)(P:Nat->Prop):Prop where
 NR:Kl s
 tv:∀v∈s.tv,∃j,j<s.bits/\v=D.int (2 ^ j)/\P j
 tk:s.tk.length<=s.bits
 WZ:s.tk.length=s.tv.length
 cT:∀l∈s.cT,∃j ask,l=Kj ((2:Int) ^ j,ask)/\j<s.bits/\lI 6 ask/\UM s.bits P ask (P j)
 V':s.cT.length<=s.bits
structure f_(s:FB)(P:Nat->Prop)(s':FB)(P':Nat->Prop)(z:Nat):Prop where
 q:s'.q=s.q
 lo:s.bits<=s'.bits
 hi:s'.bits<=s.bits+z
 same:∀i,i<s.bits->(P' i↔P i)
 ld:s'.cT.length+s.bits<=s.cT.length+s'.bits
theorem f_.trans{s:FB}{P:Nat->Prop}(h:f_ s P b d y)(g:f_ b d a c z):f_ s P a c (y+z):=
 ⟨g.q.trans h.q,bK h.lo g.lo,by have:=h.hi;have:=g.hi;omega,λi e=>(g.same i (by have:=h.lo;omega)).trans (h.same i e),by have:=h.ld;have:=g.ld;omega⟩
theorem JP{d:D}(m:a.length=b.length)(h:eJ a b k=M):qd k d a b=(a++[k],b++[d])/\eJ (a++[k]) (b++[d]) k=Y d:=by
 have c:∀p∈a.zip b,¬p.1=k:=by unfold eJ at h;simp only[Option.map_eq_none_iff,List.find?_eq_none,decide_eq_true_eq]at h;exact h
 have n:¬(a.any λq=>decide (q=k))=true:=by intro f;simp only[uT,decide_eq_true_eq]at f;obtain⟨q,j,rfl⟩:=f;obtain⟨i,o,e⟩:=List.getElem_of_mem j;exact c (q,b[i]'(by omega)) (by rw[<- e];exact List.mem_iff_getElem.mpr ⟨i,by simp;omega,by simp⟩) rfl
 refine⟨by unfold qd;rw[if_neg n],?_⟩;unfold eJ;rw[List.zip_append m,C5];have:(a.zip b).find? (λg=>decide (g.1=k))=none:=by rw[List.find?_eq_none];intro p l;simp only[decide_eq_true_eq];exact c p l
 rw[this];simp
theorem zD{s:FB}(hb:s.bits<=999)(hl:s.tk.length<=s.bits)(hkv:s.tk.length=s.tv.length)(h:eJ s.tk s.tv (cN t)=M):
  cM [dW s,.str t]=Y (.int (2 ^ s.bits),dW { s with bits:=s.bits+1,tk:=s.tk++[cN t],tv:=s.tv++[.int (2 ^ s.bits)] }):=by
 show (eN [oF s,Y (.str t)]).bind (lR aA)=_;unfold eN;obtain⟨hp,hlk⟩:=JP (d :=.int (2 ^ s.bits)) hkv h;have e1:Am [0] [] (dO (e2 (D4 Z') (eV 1) (bp "Facts" "by_text" (eV 0)))) [oF s,Y (.str t)]=Y true:=by refine rQ (ρ':=[Y (dW s),Y (.str t)]) rfl ?_;have:dO (e2 (D4 Z') (eV 1) (bp "Facts" "by_text" (eV 0))) [Y (dW s),Y (.str t)]=Y (!(eJ s.tk s.tv (cN t)).isSome):=rfl;rw[this,h];rfl
 have e2:qt 0 "Facts" "by_text" (eV 1) (bQ "Facts" "new_bit" aA eE 0 kf) [oF s,Y (.str t)]=Y (.nx [oF { s with bits:=s.bits+1,tk:=s.tk++[cN t],tv:=s.tv++[.int (2 ^ s.bits)] },Y (.str t)]):=by
  have m1:bQ "Facts" "new_bit" aA eE 0 kf [oF s,Y (.str t)]=Y (.int (2 ^ s.bits),[oF { s with bits:=s.bits+1 },Y (.str t)]):=by rw[ly (by decide) rfl rfl rfl (y8 s hb)];rfl
  unfold qt;rw[m1];simp only[ae];have e3:rh "Facts" "by_text" 0 [oF { s with bits:=s.bits+1 },Y (.str t)]=Y (so,UD,[.lst s.q,.int ((s.bits+1:Nat):Int),.iW s.nk s.nv,.iW s.tk s.tv,.int s.jH,.int s.u5,.int s.inner,.lst s.cT],.iW s.tk s.tv):=by kernel_rfl
  rw[e3];simp only[ae];show (if _/\s.tk.length<dU then _ else M)=_;rw[if_pos ⟨by decide,iH (by omega)⟩];show Y (DO.nx [Y (yO "Facts" "by_text" so UD _ (.iW (qd (cN t) (.int (2 ^ s.bits)) s.tk s.tv).1 (qd (cN t) (.int (2 ^ s.bits)) s.tk s.tv).2)),Y (.str t)])=_;rw[hp];generalize (2:Int) ^ s.bits=b;kernel_rfl
 rw[aK (ρ':=[oF { s with bits:=s.bits+1,tk:=s.tk++[cN t],tv:=s.tv++[.int (2 ^ s.bits)] },Y (.str t)]) ?e4]
 case e4=>unfold eI;rw[e1];exact e2
 have e5:lE [0] [] (L2.e2 D5 (bp "Facts" "by_text" (eV 0)) (eV 1)) [oF { s with bits:=s.bits+1,tk:=s.tk++[cN t],tv:=s.tv++[.int (2 ^ s.bits)] },Y (.str t)]=Y (.int (2 ^ s.bits)):=by refine mB (ρ':=[Y (dW { s with bits:=s.bits+1,tk:=s.tk++[cN t],tv:=s.tv++[.int (2 ^ s.bits)] }),Y (.str t)]) rfl ?_ rfl;exact hlk
 unfold dm mP;rw[e5];generalize (2:Int) ^ s.bits=b;kernel_rfl
theorem zy{s:FB}(h:eJ s.tk s.tv (cN t)=Y (.int i)):cM [dW s,.str t]=Y (.int i,dW s):=by
 show (eN [oF s,Y (.str t)]).bind (lR aA)=_;unfold eN;have c:Am [0] [] (dO (e2 (D4 Z') (eV 1) (bp "Facts" "by_text" (eV 0)))) [oF s,Y (.str t)]=Y false:=by refine rQ (ρ':=[Y (dW s),Y (.str t)]) rfl ?_;have:dO (e2 (D4 Z') (eV 1) (bp "Facts" "by_text" (eV 0))) [Y (dW s),Y (.str t)]=Y (!(eJ s.tk s.tv (cN t)).isSome):=rfl;rw[this,h];rfl
 have b:∀g,eI (Am [0] [] (dO (L2.e2 (D4 Z') (eV 1) (bp "Facts" "by_text" (eV 0))))) g da [oF s,Y (.str t)]=Y (.nx [oF s,Y (.str t)]):=by intro g;unfold eI;rw[c];rfl
 rw[aK (b _)];have a:lE [0] [] (L2.e2 D5 (bp "Facts" "by_text" (eV 0)) (eV 1)) [oF s,Y (.str t)]=Y (.int i):=mB (ρ':=[Y (dW s),Y (.str t)]) rfl h rfl;unfold dm mP;rw[a];kernel_rfl
theorem AA{s:FB}{P:Nat->Prop}(I:Inv s P)(u:s.bits<=999)(t:aG):∃j f k,cM [dW s,.str t]=Y (.int (2 ^ j),dW f)/\j<f.bits/\f_ s P f k 1/\Inv f k:=by
 cases h:eJ s.tk s.tv (cN t) with
 |some d=>obtain⟨j,b,rfl,_⟩:=I.tv d (Bw h);exact⟨j,s,P,zy h,b,⟨rfl,aS _,by omega,λ_ _=>Iff.rfl,aS _⟩,I⟩
 |none=>
  have g:∀i,i<s.bits->((if i<s.bits then P i else True)↔P i):=λi o=>by rw[if_pos o]
  refine⟨s.bits,_,λi=>if i<s.bits then P i else True,zD u I.tk I.WZ h,jx _,⟨rfl,iU _,aS _,g,iU _⟩,?_⟩;refine⟨⟨I.NR.nv,I.NR.star,I.NR.inner,td I.NR.nk⟩,?_,?_,?_,?_,td I.V'⟩
  ·intro v c;rcases bq.mp c with c|c
   ·obtain⟨j,b,e,p⟩:=I.tv v c;exact⟨j,tb b,e,(g j b).mpr p⟩
   ·exact⟨s.bits,jx _,cx.mp c,by simp⟩
  ·have:=I.tk;show (s.tk++[_]).length<=s.bits+1;rw[aQ];simp;omega
  ·show (s.tk++[_]).length=(s.tv++[_]).length;rw[aQ,aQ,I.WZ];rfl
  ·intro l r;obtain⟨j,q,e,b,w,m⟩:=I.cT l r;refine⟨j,q,e,tb b,w,?_⟩;have:=m.ext (b':=s.bits+1) (P2:=λi=>if i<s.bits then P i else True) (iU _) (λi o h=>(g i o).mp h);intro k z a n y x;exact(g j b).mpr (this k z a n y x)
end K21
namespace L2
open PySem PySem.Spec PyProof.Rows
section
variable {K:aT}{f:Hp}
end
section
variable {K:aT}{v:Hp}
end
theorem HC{τ:ES}{g:DG}(I:Nat->cy->Prop):∀(k:List D) (i:Nat) (a:cy),I i a->(∀j d a,k[j]?=Y d->I (i+j) a->∃f b,τ d a=Y f/\g f=Y (.nx b)/\I (i+j+1) b) ->
  ∃c,gx τ g k a=Y (.nx c)/\I (i+k.length) c
 |[],i,a,h,_=>⟨a,rfl,h⟩| d::k,i,a,h,st=>by
  obtain⟨f,b,q,p,n⟩:=st 0 d a rfl h;obtain⟨c,e,o⟩:=HC I k (i+1) b n λj d a l m=>by have:=st (j+1) d a (by simpa using l) (by rw[show i+(j+1)=i+1+j by omega];exact m);rw[show i+(j+1)+1=i+1+j+1 by omega]at this;exact this
  refine⟨c,?_,by rw[show i+(d::k).length=i+1+k.length by simp;omega];exact o⟩;unfold gx;rw[q];simp only[ae,p];exact e
theorem sk{τ:ES}{g:DG}(I:Nat->cy->Prop){ds:List D}{ρ:cy}(i:I 0 ρ)(f:∀j d ρ,ds[j]?=Y d->I j ρ->∃b a,τ d ρ=Y b/\g b=Y (.nx a)/\I (j+1) a):∃c,gx τ g ds ρ=Y (.nx c)/\I ds.length c:=by
 have:=HC (τ:=τ) (g:=g) I ds 0 ρ i (λj d ρ h e=>by rw[qQ]at e ⊢;exact f j d ρ h e);rw[qQ]at this;exact this
theorem Ib{xs:List b}{z:Int}(d:0<=z)(c:z<xs.length):∃v,ph xs z=Y v/\v∈xs:=by
 have a:z.toNat<xs.length:=by omega
 refine⟨xs[z.toNat],?_,List.getElem_mem a⟩;have e:((z.toNat:Nat):Int)=z:=by omega
 have:=P5 (xs:=xs) (j:=z.toNat) (v:=xs[z.toNat]) (by simp[a]);rw[e]at this;exact this
theorem vy{xs:List Int}{z:Int}(h0:0<=z)(h1:z<xs.length):∃v,ph (xs.map D.int) z=Y (.int v):=by
 obtain⟨v,e,hm⟩:=Ib (xs:=xs) h0 h1;exact⟨v,by rw[CJ,e];rfl⟩
theorem yo{xs:List aG}{z:Int}(h0:0<=z)(h1:z<xs.length):∃v,ph (xs.map D.str) z=Y (.str v)/\v∈xs:=by
 obtain⟨v,e,hm⟩:=Ib (xs:=xs) h0 h1;exact⟨v,by rw[CJ,e];rfl,hm⟩
theorem Pb{n:Nat}{z:Int}(b:0<=z)(a:z<n):B' n z=Y z.toNat:=by unfold B';rw[if_pos b,if_pos a]
theorem DJ(h:(ny a n)[j]?=Y d):j<n/\d=.int (a+j):=by
 unfold ny at h;rw[aY]at h;obtain⟨k,q,h⟩:=aq.1 h;cases h;obtain⟨c,b⟩:=au.mp q;have:k=j:=by simpa using b.symm
 subst this;exact⟨by simpa using c,rfl⟩
theorem pW(a:Int)(n:Nat):(ny a n).length=n:=by simp[ny]
theorem sf{h:D->D}:∀ {b:List D},(∀d∈b,∃a,c d e=Y a/\g a=Y (h d))->Ay e c hI g b=Y (b.map h)
 |[],_=>rfl|d::b,f=>by obtain⟨a,j,i⟩:=f d ay;unfold Ay;rw[j];simp only[hI,ae,if_true,i];rw[sf λd h=>f d (aw _ h)];rfl
theorem kz:dU=1000000:=rfl
theorem TJ(a:List b)(l h:Option Int):(EW a l h).length<=a.length:=by
 unfold EW;rw[uQ,EZ];omega
theorem Nj(a:List b)(c:0<=k):EW a M (Y k)=a.take k.toNat:=by
 unfold EW HT.A5;simp only[List.drop_zero,Nat.sub_zero,if_neg (show ¬k<0 by omega)];by_cases h:k.toNat<=a.length
 ·rw[GQ h]
 ·rw[Nat.min_eq_right (by omega),List.take_length,Qq (by omega)]
theorem Ex(xs:List a)(b:0<=k):EW xs (Y k) M=xs.drop k.toNat:=by
 unfold EW HT.A5;simp only[if_neg (show ¬k<0 by omega)];by_cases h:k.toNat<=xs.length
 ·rw[GQ h,Qq (by simp)]
 ·rw[Nat.min_eq_right (by omega),Nat.sub_self,List.take_zero,Qs (by omega)]
end L2
namespace K21
open PySem L2
abbrev fX(a:Int)(b:List D):D :=.tup [.int a,.lst b]
def gX:List D->List Int->List Int->List D
 |.tup [.int a,.lst d]::g,b::e,f::c=>Kj (b,fX (bO a f) d)::gX g e c|_,_,_=>[]
theorem Ej{y1 y2 y4:List D}{y3:Int}:∀(e:List D) (l k:List Int) (s:FB) (j i g:Option D),(∀a∈e,∃c d,a=fX c d)->s.cT.length+e.length<dU->∃o n m,
  gx (Ta 5 6 7) ig (kL e (l.map D.int) (k.map D.int)) [oF s,Y (.lst y1),Y (.lst y2),Y (.int y3),Y (.lst y4),j,i,g]=Y (.nx [oF { s with cT:=s.cT++gX e l k },Y (.lst y1),Y (.lst y2),Y (.int y3),Y (.lst y4),o,n,m])
 |[],l,k,s,j,i,g,_,_=>⟨j,i,g,by simp[kL,gx,gX]⟩
 |a::e,[],k,s,j,i,g,h,_=>by obtain⟨c,d,rfl⟩:=h a (ay ..);exact⟨j,i,g,by simp[kL,gx,gX]⟩
 |a::e,b::l,[],s,j,i,g,h,_=>by obtain⟨c,d,rfl⟩:=h a (ay ..);exact⟨j,i,g,by simp[kL,gx,gX]⟩
 | a::e,b::l,f::k,s,j,i,g,h,r=>by
  obtain⟨c,d,rfl⟩:=h a (ay ..);simp only[aP]at r;have t:ig [oF s,Y (.lst y1),Y (.lst y2),Y (.int y3),Y (.lst y4),Y (fX c d),Y (.int b),Y (.int f)]=Y (.nx [oF { s with cT:=s.cT++[Kj (b,fX (bO c f) d)] },Y (.lst y1),Y (.lst y2),Y (.int y3),Y (.lst y4),Y (fX c d),Y (.int b),Y (.int f)]):=by
   unfold ig Hb;have u:rh "Facts" "leads" 0 [oF s,Y (.lst y1),Y (.lst y2),Y (.int y3),Y (.lst y4),Y (fX c d),Y (.int b),Y (.int f)]=Y (so,UD,[.lst s.q,.int (s.bits:Nat),.iW s.nk s.nv,.iW s.tk s.tv,.int s.jH,.int s.u5,.int s.inner,.lst s.cT],.lst s.cT):=by kernel_rfl
   have v:dA (aC (eV 6) (aC (dA (aC (e2 C9 (e2 bW (eV 5) (eK (.int 0))) (eV 7)) (aC (e2 bW (eV 5) (eK (.int 1))) aN))) aN)) [oF s,Y (.lst y1),Y (.lst y2),Y (.int y3),Y (.lst y4),Y (fX c d),Y (.int b),Y (.int f)]=Y (Kj (b,fX (bO c f) d)):=by kernel_rfl
   rw[u];simp only[ae];rw[v];simp only[ae];rw[if_pos ⟨by decide,by omega⟩];kernel_rfl
  rw[a_,a_,kL,mT (ρ1:=[oF s,Y (.lst y1),Y (.lst y2),Y (.int y3),Y (.lst y4),Y (fX c d),Y (.int b),Y (.int f)]) rfl t];obtain⟨o,n,m,q⟩:=Ej e l k { s with cT:=s.cT++[Kj (b,fX (bO c f) d)] } (Y (fX c d)) (Y (.int b)) (Y (.int f)) (λx p=>h x (aw _ p)) (by rw[aQ,cI];omega);refine⟨o,n,m,q.trans ?_⟩;simp only[gX,bZ,List.singleton_append]
theorem O7{s:FB}{as:List D}{b:Int}{bs:List Int}(h:∀a∈as,∃sE cs,a=fX sE cs)(hl:s.cT.length+as.length<dU)(hb:bs.length<=1000):nJ [dW s,.lst as,.lst ((b::bs).map D.int),.int 0]=Y (.dJ,dW { s with cT:=s.cT++gX as (b::bs) (bs++[0]) }):=by
 show (nE [oF s,Y (.lst as),Y (.lst ((b::bs).map D.int)),Y (.int 0),M,M,M,M]).bind (lR aA)=_;unfold nE;rw[aK (ρ':=[oF s,Y (.lst as),Y (.lst ((b::bs).map D.int)),Y (.int 0),Y (.lst ((bs++[0]).map D.int)),M,M,M]) ?q0]
 case q0=>
  have e1:e2 gJ (eF (HF (eV 2) (pS (eK (.int 1))) pN)) (eF (fG (aC (eV 3) aN))) [oF s,Y (.lst as),Y (.lst ((b::bs).map D.int)),Y (.int 0),M,M,M,M]=gJ (.lst (EW ((b::bs).map D.int) (Y 1) M)) (.lst [.int 0]):=rfl;have e2:EW ((b::bs).map D.int) (Y 1) M=bs.map D.int:=by rw[Ex _ (by decide)];rfl
  rw[e2]at e1;have e3:gJ (.lst (bs.map D.int)) (.lst [.int 0])=Y (.lst ((bs++[0]).map D.int)):=by simp only[gJ];rw[if_pos (fR (iH (by rw[ax,cI];omega)))];simp
  rw[iF (e1.trans e3)];rfl
 obtain⟨b5,b6,b7,q⟩:=Ej (y1:=as) (y2:=(b::bs).map D.int) (y3:=0) (y4:=(bs++[0]).map D.int) as (b::bs) (bs++[0]) s M M M h hl;have q2:ir (Xc (eV 1) (eV 2) (eV 4)) (Ta 5 6 7) ig [oF s,Y (.lst as),Y (.lst ((b::bs).map D.int)),Y (.int 0),Y (.lst ((bs++[0]).map D.int)),M,M,M]=gx (Ta 5 6 7) ig (kL as ((b::bs).map D.int) ((bs++[0]).map D.int)) [oF s,Y (.lst as),Y (.lst ((b::bs).map D.int)),Y (.int 0),Y (.lst ((bs++[0]).map D.int)),M,M,M]:=rfl;rw[q2,q];kernel_rfl
def jn1(c:List D):Int:=c.foldl (λn a=>match a with|.tup [.int b,_]=>bO n b|_=>n) 0
def Kk(c:List D):List D:=c.flatMap λa=>match a with|.tup [_,.lst b]=>b|_=>[]
theorem ze{x0:List D}:∀(f:List D) (n:Int) (d:List D) (g:Option D),(∀a∈f,∃b d,a=fX b d)->d.length+(Kk f).length<dU->∃i,
  gx (gN 3) gF f [Y (.lst x0),Y (.int n),Y (.lst d),g]=Y (.nx [Y (.lst x0),Y (.int (f.foldl (λn a=>match a with|.tup [.int b,_]=>bO n b|_=>n) n)),Y (.lst (d++Kk f)),i])
 |[],n,d,g,_,_=>⟨g,by simp[gx,Kk]⟩
 | a::f,n,d,g,h,k=>by
  obtain⟨b,c,rfl⟩:=h a (ay ..);have e:Kk (fX b c::f)=c++Kk f:=rfl;rw[e,aQ]at k;have l:gF [Y (.lst x0),Y (.int n),Y (.lst d),Y (fX b c)]=Y (.nx [Y (.lst x0),Y (.int (bO n b)),Y (.lst (d++c)),Y (fX b c)]):=by
   unfold gF;rw[aK (ρ':=[Y (.lst x0),Y (.int (bO n b)),Y (.lst d),Y (fX b c)]) ?m]
   case m=>kernel_rfl
   show (if d.length+c.length<=dU then _ else M)=_;rw[if_pos (by omega)];rfl
  rw[mT (ρ1:=[Y (.lst x0),Y (.int n),Y (.lst d),Y (fX b c)]) rfl l];obtain⟨i,q⟩:=ze f (bO n b) (d++c) (Y (fX b c)) (λx j=>h x (aw _ j)) (by rw[aQ];omega);refine⟨i,q.trans ?_⟩;rw[e,List.foldl_cons,bZ]
theorem Js{as:List D}(h:∀a∈as,∃b e,a=fX b e)(f:(Kk as).length<dU):ki [.lst as]=Y (fX (jn1 as) (Kk as)):=by
 show (mu [Y (.lst as),M,M,M]).bind nL=_;unfold mu;rw[aK (iF (d :=.int 0) rfl)];simp only[bg,bh];rw[aK (ρ':=[Y (.lst as),Y (.int 0),Y (.lst []),M]) ?d]
 case d=>exact rfl
 obtain⟨g,q⟩:=ze (x0:=as) as 0 [] M h (by rw[iB];omega);have c:ir (iL (eV 0)) (gN 3) gF [Y (.lst as),Y (.int 0),Y (.lst []),M]=gx (gN 3) gF as [Y (.lst as),Y (.int 0),Y (.lst []),M]:=rfl;rw[aK (c.trans q)];rfl
abbrev kS(x:String):D :=.str (af x)
def gz:Nat->D->Prop
 |0,_=>False|n+1,w=>w=.tup [kS "any"]∨(∃t,w=.tup [kS "text",.str t])∨(∃a:List (aG×aG×D),w=.tup [kS "has",.lst (a.map cm)]/\a≠[]/\a.length<=3/\∀p∈a,gz n p.2.2)∨(∃b:List D,w=.tup [kS "both",.lst b]/\b.length<=3/\∀x∈b,gz n x)∨(∃b:List D,w=.tup [kS "one",.lst b]/\b.length<=3/\∀x∈b,gz n x)
def Qy:D->D
 |.tup [_,_,w]=>w|d=>d
def tY:Nat->D->Bool
 |n+1,.tup [.str k,.lst a]=>if k=af "has" then a.all λb=>tY n (Qy b) else if k=af "both" then a.all (tY n) else if k=af "one" then a.any (tY n) else Z'
 |_,_=>Z'
def Zb:Nat->Nat
 |0=>0|n+1=>3*(1+Zb n)
def HY:D->Nat
 |.tup [_,.lst a]=>a.length|_=>0
structure xl(b:Nat)(P:Nat->Prop)(n:Nat)(ask w:D):Prop where
 ad:lI n ask
 len:HY ask<=3 ^ n
 snd:UM b P ask (tY n w=true)
theorem xl.ext{b':Nat}{P P2:Nat->Prop}{a:D}(h:xl b P n a w)(e:b<=b')(c:∀i,i<b->(P2 i↔P i)):xl b' P2 n a w:=⟨h.ad,h.len,h.snd.ext e λi d=>(c i d).mp⟩
def BH(F:List D->Option (D×D))(n:Nat):Prop:=∀s P w,gz n w->Inv s P->s.bits+Zb n<=999->∃a b c,F [dW s,w]=Y (a,dW b)/\f_ s P b c (Zb n)/\Inv b c/\xl b.bits c n a w
inductive tI (R:D->D->Prop):List D->List D->Prop
 |nil:tI R [] []
 |cons {a b:D}{as bs:List D}:R a b->tI R as bs->tI R (a::as) (b::bs)
theorem tI.imp{R S:D->D->Prop}(h:∀a b,R a b->S a b)(q:tI R d c):tI S d c:=by
 induction q with|nil=>exact .nil|cons r t i=>exact .cons (h _ _ r) i
theorem tI.len{R:D->D->Prop}:∀ {b a:List D},tI R b a->b.length=a.length
 |_,_,.nil=>rfl|_,_,.cons _ t=>by simp[t.len]
theorem tI.left{R:D->D->Prop}(q:tI R d c):∀a∈d,∃b∈c,R a b:=by
 induction q with
 |nil=>exact nofun
 |cons r t i=>refine gc.2 ⟨⟨_,ay ..,r⟩,λa h =>?_⟩;obtain⟨b,e,k⟩:=i a h;exact⟨b,aw _ e,k⟩
theorem tI.right{R:D->D->Prop}(q:tI R d c):∀b∈c,∃a∈d,R a b:=by
 induction q with
 |nil=>exact nofun
 |cons r t i=>refine gc.2 ⟨⟨_,ay ..,r⟩,λa h =>?_⟩;obtain⟨b,e,k⟩:=i a h;exact⟨b,aw _ e,k⟩
theorem f_.refl(s:FB)(P:Nat->Prop):f_ s P s P 0:=⟨rfl,aS _,aS _,λ_ _=>Iff.rfl,aS _⟩
theorem Ic{F:List D->Option (D×D)}(o:BH F n){f:D->D}:∀(c:List D) (s:FB) (P:Nat->Prop) (x:Option D),(∀d∈c,gz n (f d)/\∀s,g [Y d,oF s]=Y ([f d],[Y d,oF s])/\cS 1 [Y d,oF s]=[Y d,oF s])->Inv s P->s.bits+c.length*Zb n<=999 ->
  ∃b j k,Ax [M,x] (gN 0) (bQ "Facts" "asked" aA F 1 g) 1 aA c (dW s)=Y (b,dW j)/\f_ s P j k (c.length*Zb n)/\Inv j k/\tI (λa d=>xl j.bits k n a (f d)) b c
 |[],s,P,x,_,I,_=>⟨[],s,P,rfl,by simpa using f_.refl s P,I,.nil⟩
 | d::c,s,P,x,h,I,t=>by
  simp only[aP,Qn]at t ⊢;obtain⟨hw,m⟩:=h d (ay ..);obtain⟨e,i,C,A,p,G,J⟩:=o s P (f d) hw I (by omega);obtain⟨b,q,B,z,l,E,H⟩:=Ic o c i C x (λy r=>h y (aw _ r)) G (by have:=p.hi;omega);refine⟨e::b,q,B,?_,?_,E,.cons (J.ext l.lo l.same) H⟩
  ·rw[Ax];have w:gN 0 d ([M,x].set 1 (Y (.obj aA (dW s))))=Y [Y d,oF s]:=rfl;have v:bQ "Facts" "asked" aA F 1 g [Y d,oF s]=Y (e,[Y d,oF i]):=by rw[ly (ρ1:=[Y d,oF s]) (args:=[f d]) (by decide) rfl (m s).1 rfl A,(m s).2];rfl
   have u:kT aA 1 [Y d,oF i]=Y (dW i):=by kernel_rfl
   rw[w];simp only[ae,v,u,z];rfl
  ·have:=p.trans l;rw[Nat.add_comm];exact this
theorem B6{F:List D->Option (D×D)}(o:BH F n){g:J2}{ar:D->D}{f:DL}{ρ:cy}{ds:List D}{s:FB}{P:Nat->Prop}(k:f ρ=Y ds)(i:eV 0 ρ=oF s)(j:cS 0 ρ=ρ)(l:∀d∈ds,gz n (ar d)/\∀s,g [Y d,oF s]=Y ([ar d],[Y d,oF s])/\cS 1 [Y d,oF s]=[Y d,oF s])(I:Inv s P)(m:s.bits+ds.length*Zb n<=999)(t:ds.length<=1000):
  ∃b c h,vm f [M,Y 0] (gN 0) (bQ "Facts" "asked" aA F 1 g) 1 0 aA ρ=Y (.lst b,ρ.set 0 (oF c))/\f_ s P c h (ds.length*Zb n)/\Inv c h/\tI (λa d=>xl c.bits h n a (ar d)) b ds:=by
 obtain⟨b,c,h,e,r⟩:=Ic o ds s P (Y (.obj aA (dW s))) l I m;refine⟨b,c,h,?_,r⟩;unfold vm;have q:kT aA 0 ρ=Y (dW s):=by unfold kT xo;rw[i];kernel_rfl
 have p:mR [M,Y 0] ρ=[M,Y (.obj aA (dW s))]:=by
  have:(ρ[0]?).getD M=oF s:=by rw[iO i];rfl
  show [M,(ρ[0]?).getD M]=_;rw[this]
 rw[k];simp only[ae];rw[if_pos (fR (iH (by omega))),q,j];simp only[ae];rw[p,e];rfl
def Nt(F:List D->Option (D×D))(n:Nat):Prop:=∀s P (a:List (aG×aG×D)),a≠[]->a.length<=3->(∀p∈a,gz n p.2.2)->Inv s P->s.bits+Zb (n+1)<=999->∃j b c,F [dW s,.lst (a.map cm)]=Y (.int (2 ^ j),dW b)/\f_ s P b c (Zb (n+1))/\Inv b c/\j<b.bits/\(c j->∀p∈a,tY n p.2.2=Z')
theorem lI.succ:∀ {n:Nat}{d:D},lI n d->lI (n+1) d
 |0,_,h=>h.elim|n+1,d,⟨a,p,e,m,i,j⟩=>⟨a,p,e,m,i,λc b=>by obtain⟨f,o,l,k⟩:=j c b;exact⟨f,o,l,λx g=>(k x g).succ⟩⟩
theorem lI.up{m:Nat}(h:lI n d)(a:n<=m):lI m d:=by
 induction a with|refl=>exact h|step _ ih=>exact ih.succ
theorem P6(n:Nat):lI (n+1) (fX 0 []):=⟨0,[],rfl,by decide,by simp,λc h=>by simp at h⟩
theorem Ie(n:Nat)(a:0<=i):lI (n+1) (fX i []):=⟨i,[],rfl,a,by simp,λc h=>by simp at h⟩
theorem wX(j:Nat):((2:Int) ^ j).toNat.testBit j=true:=by
 have:((2:Int) ^ j).toNat=2 ^ j:=by
  have:((2:Int) ^ j)=((2 ^ j:Nat):Int):=by simp
  rw[this,dC]
 rw[this];simp[Nat.testBit_two_pow_self]
theorem za(d:0<=b)(f:0<=a)(h:jh n (fX b j) a=Z')(c:b.toNat.testBit i=Z'):a.toNat.testBit i=true:=by
 cases n with
 |zero=>simp[jh]at h|succ n=>
  simp only[jh,aV,beq_iff_eq]at h;obtain⟨x,rfl⟩:=bV d;obtain⟨y,rfl⟩:=bV f;have e:=h.1;rw[GA]at e;have g:y &&& x=x:=by omega
  rw[dC]at c ⊢;rw[<- g,kb]at c;simp at c;exact c.1
theorem O2{P:Nat->Prop}(b:Sub a P)(h:jh n (fX (2 ^ j) c) a=Z'):P j:=b.2 j (za (mE j) b.1 h (wX j))
theorem C_{b:Bool}(h:t a=Y b):eI t g da a=if b=Z' then g a else Y (.nx a):=by
 unfold eI;rw[h];cases b<;>rfl
theorem x6{b:cy}(e:g b=Y (.rm d a)):ba g h b=Y (.rm d a):=by unfold ba;rw[e];rfl
theorem NU{s:FB}{r:List D}{y:Option D}{b:Bool}(h:eP (kS x) (kS k)=Y (.bl b)):dO (e2 eP (e2 bW (eV 1) (eK (.int 0))) (eK (kS k))) [oF s,Y (.tup (kS x::r)),y]=Y b:=by
 have e:e2 bW (eV 1) (eK (.int 0)) [oF s,Y (.tup (kS x::r)),y]=Y (kS x):=by show ph (kS x::r) ((0:Nat):Int)=_;unfold ph;rw[pB (by simp)];rfl
 have c:e2 eP (e2 bW (eV 1) (eK (.int 0))) (eK (kS k)) [oF s,Y (.tup (kS x::r)),y]=eP (kS x) (kS k):=by show ((e2 bW (eV 1) (eK (.int 0)) [oF s,Y (.tup (kS x::r)),y]).bind λa=>(Y (kS k)).bind λb=>eP a b)=_;rw[e];rfl
 unfold dO;rw[c,h];rfl
theorem v8{s:FB}:(Y (DO.rm d [oF s,x,y])).bind (lR aA)=Y (d,dW s):=by kernel_rfl
theorem JX{F:List D->Option (D×D)}{s:FB}:lQ 2 3 aA (cz F a) [dW s,.tup [kS "any"]]=Y (fX 0 [],dW s):=by
 show (cz F a [oF s,Y (.tup [kS "any"]),M]).bind (lR aA)=_;unfold cz;have q:eI (dO (e2 eP (e2 bW (eV 1) (eK (.int 0))) (eK (kS "any")))) (dm (mP (dA (aC (eK (.int 0)) (aC (eF (fG aN)) aN))))) da [oF s,Y (.tup [kS "any"]),M]=Y (.rm (fX 0 []) [oF s,Y (.tup [kS "any"]),M]):=by rw[C_ (b:=Z') (NU (by kernel_rfl))];rfl
 rw[x6 q,v8]
theorem GB{F:List D->Option (D×D)}{s:FB}(h:cM [dW s,.str t]=Y (.int i,dW a)):lQ 2 3 aA (cz F c) [dW s,.tup [kS "text",.str t]]=Y (fX i [],dW a):=by
 show (cz F c [oF s,Y (.tup [kS "text",.str t]),M]).bind (lR aA)=_;unfold cz;have d:∀g,eI (dO (e2 eP (e2 bW (eV 1) (eK (.int 0))) (eK (kS "any")))) g da [oF s,Y (.tup [kS "text",.str t]),M]=Y (.nx [oF s,Y (.tup [kS "text",.str t]),M]):=λg=>by rw[C_ (b:=Z_) (NU (by kernel_rfl))];rfl
 rw[aK (d _)];have m:bQ "Facts" "enter_text" aA cM 0 (iY (mP (e2 bW (eV 1) (eK (.int 1)))) kf) [oF s,Y (.tup [kS "text",.str t]),M]=Y (.int i,[oF a,Y (.tup [kS "text",.str t]),M]):=by rw[ly (ρ1:=[oF s,Y (.tup [kS "text",.str t]),M]) (args:=[.str t]) (by decide) rfl rfl rfl h];rfl
 have q:eI (dO (e2 eP (e2 bW (eV 1) (eK (.int 0))) (eK (kS "text")))) (dm (xF (iY (bQ "Facts" "enter_text" aA cM 0 (iY (mP (e2 bW (eV 1) (eK (.int 1)))) kf)) (iY (mP (eF (fG aN))) kf)))) da [oF s,Y (.tup [kS "text",.str t]),M]=Y (.rm (fX i []) [oF a,Y (.tup [kS "text",.str t]),M]):=by rw[C_ (b:=Z') (NU (by kernel_rfl)),if_pos rfl];unfold dm xF;rw[show ∀f g b,iY f g b=(f b).bind λp=>(g p.2).bind λq=>Y (p.1::q.1,q.2) from λ_ _ _=>rfl,m];rfl
 rw[x6 q,v8]
theorem JW{F:List D->Option (D×D)}{s:FB}(h:a [dW s,.lst x]=Y (.int i,dW b)):lQ 2 3 aA (cz F a) [dW s,.tup [kS "has",.lst x]]=Y (fX i [],dW b):=by
 show (cz F a [oF s,Y (.tup [kS "has",.lst x]),M]).bind (lR aA)=_;unfold cz;have e:∀g,eI (dO (e2 eP (e2 bW (eV 1) (eK (.int 0))) (eK (kS "any")))) g da [oF s,Y (.tup [kS "has",.lst x]),M]=Y (.nx [oF s,Y (.tup [kS "has",.lst x]),M]):=λg=>by rw[C_ (b:=Z_) (NU (by kernel_rfl))];rfl
 have d:∀g,eI (dO (e2 eP (e2 bW (eV 1) (eK (.int 0))) (eK (kS "text")))) g da [oF s,Y (.tup [kS "has",.lst x]),M]=Y (.nx [oF s,Y (.tup [kS "has",.lst x]),M]):=λg=>by rw[C_ (b:=Z_) (NU (by kernel_rfl))];rfl
 rw[aK (e _),aK (d _)];have m:bQ "Facts" "enter_has" aA a 0 (iY (mP (e2 bW (eV 1) (eK (.int 1)))) kf) [oF s,Y (.tup [kS "has",.lst x]),M]=Y (.int i,[oF b,Y (.tup [kS "has",.lst x]),M]):=by rw[ly (ρ1:=[oF s,Y (.tup [kS "has",.lst x]),M]) (args:=[.lst x]) (by decide) rfl rfl rfl h];rfl
 have q:eI (dO (e2 eP (e2 bW (eV 1) (eK (.int 0))) (eK (kS "has")))) (dm (xF (iY (bQ "Facts" "enter_has" aA a 0 (iY (mP (e2 bW (eV 1) (eK (.int 1)))) kf)) (iY (mP (eF (fG aN))) kf)))) da [oF s,Y (.tup [kS "has",.lst x]),M]=Y (.rm (fX i []) [oF b,Y (.tup [kS "has",.lst x]),M]):=by rw[C_ (b:=Z') (NU (by kernel_rfl)),if_pos rfl];unfold dm xF;rw[show ∀f g c,iY f g c=(f c).bind λp=>(g p.2).bind λq=>Y (p.1::q.1,q.2) from λ_ _ _=>rfl,m];rfl
 rw[x6 q,v8]
theorem f_.mono{s:FB}{P:Nat->Prop}(h:f_ s P a b y)(c:y<=z):f_ s P a b z:=⟨h.q,h.lo,by have:=h.hi;omega,h.same,h.ld⟩
theorem qe(h:lI n d):∃a b,d=fX a b:=by
 cases n with
 |zero=>exact h.elim|succ n=>obtain⟨a,b,e,_⟩:=h;exact⟨a,b,e⟩
theorem wJ{f:List D}(h:lI n (fX a f)):0<=a:=by
 cases n with
 |zero=>exact h.elim|succ n=>obtain⟨b,d,e,c,_⟩:=h;cases e;exact c
theorem w7(g:0<=b)(h:0<=a)(k:∀i,b.toNat.testBit i=Z'->a.toNat.testBit i=Z')(j:(d.all λc=>match c with|.lst f=>f.any λx=>jh n x a|_=>Z_)=Z'):jh (n+1) (fX b d) a=true:=by
 simp only[jh,aV,beq_iff_eq];refine⟨?_,j⟩;obtain⟨x,rfl⟩:=bV g;obtain⟨y,rfl⟩:=bV h;rw[GA]
 congr 1
 apply pK;intro i;rw[kb];have:=k i;rw[dC,dC]at this;cases e:x.testBit i with
 |true=>rw[this e];rfl|false=>simp
theorem F5(h:jh (n+1) (fX b d) a=Z'):(d.all λc=>match c with|.lst e=>e.any λx=>jh n x a|_=>Z_)=true:=by
 simp only[jh,aV,beq_iff_eq]at h;exact h.2
theorem CI(d:0<=x)(c:0<=y)(i:Nat):(bO x y).toNat.testBit i=(x.toNat.testBit i||y.toNat.testBit i):=by
 obtain⟨a,rfl⟩:=bV d;obtain⟨b,rfl⟩:=bV c;rw[Gz,dC,dC,dC,Kb]
theorem Ma{f:Int}(d:0<=b)(e:0<=f)(j:0<=a)(h:jh n (fX (bO b f) k) a=Z'):jh n (fX b k) a=Z'/\∀i,f.toNat.testBit i=Z'->a.toNat.testBit i=true:=by
 cases n with
 |zero=>simp[jh]at h|succ n=>
  have g:∀i,(bO b f).toNat.testBit i=Z'->a.toNat.testBit i=true:=λi c=>za (uC d e) j h c
  exact⟨w7 d j (λi c=>g i (by rw[CI d e,c];rfl)) (F5 h),λi c=>g i (by rw[CI d e,c];simp)⟩
theorem lI.mk(h:lI n (fX b c))(d:0<=a):lI n (fX a c):=by
 cases n with
 |zero=>exact h.elim|succ n=>obtain⟨x,y,e,_,f,g⟩:=h;cases e;exact⟨a,c,rfl,d,f,g⟩
theorem Ei{b:Nat}{P:Nat->Prop}(v:n<=6):∀(k:List (aG×aG×D)) (p:aG×aG×D) (f:List D) (c:Nat),tI (λa d=>xl b P n a (Qy d)) f ((p::k).map cm)->(∀i,i<k.length+1->(P (c+i)↔∀q∈(p::k).drop i,tY n q.2.2=Z'))->c+k.length+1<=b ->
  ∀l∈gX f (fH c (k.length+1)) (fH (c+1) k.length++[0]),∃j w,l=Kj ((2:Int) ^ j,w)/\j<b/\lI 6 w/\UM b P w (P j)
 | [],p,f,c,A,B,y,l,C=>by
  cases A with
  |cons r t=>cases t;obtain⟨o,K,rfl⟩:=qe r.ad;have g:=wJ r.ad;simp only[fH,gX,iB,dh,cx,aW,oY,or_false]at C;refine⟨c,_,C,by simp at y;omega,(r.ad.mk (uC g (by decide))).up v,?_⟩;intro J E a m x F;have:=(Ma g (by decide) x.1 F).1;have H:=r.snd J E a m x this;refine(B 0 (by simp)).mpr ?_;intro q s;simp at s;rw[s];exact H
 | p2::k,p,f,c,A,B,y,l,C=>by
  cases A with
  |@cons _ _ I _ r t=>
   obtain⟨o,K,rfl⟩:=qe r.ad;have g:=wJ r.ad;have G:l=Kj ((2:Int) ^ c,fX (bO o (2 ^ (c+1))) K)∨l∈gX I (fH (c+1) (k.length+1)) (fH (c+1+1) k.length++[0]):=by simpa only [fH,gX,aP,uS,aW] using C
   have ih:=Ei v k p2 _ (c+1) t (λi N=>by have:=B (i+1) (by simp only[aP];omega);rw[show c+(i+1)=c+1+i by omega]at this;simpa using this) (by simp only[aP]at y;omega)
   rcases G with e|h
   ·refine⟨c,_,e,by simp only[aP]at y;omega,(r.ad.mk (uC g (mE _))).up v,?_⟩;intro J E a m x F;obtain⟨O,L⟩:=Ma g (mE _) x.1 F;have H:=r.snd J E a m x O;have u:P (c+1):=E (c+1) (by simp only[aP]at y;omega) (x.2 (c+1) (L (c+1) (wX _)));have z:=(B 1 (by simp)).mp u;refine(B 0 (by simp)).mpr ?_;intro q s;rw[List.drop_zero]at s;rcases aW.mp s with rfl|s
    ·exact H
    ·exact z q (by simpa using s)
   ·exact ih l h
theorem y9:∀(e:List D) (d g:List Int),(∀a∈e,∃c i,a=fX c i)->(gX e d g).length<=d.length
 |[],d,g,_=>by simp[gX]
 |a::e,[],g,h=>by obtain⟨c,i,rfl⟩:=h a (ay ..);simp[gX]
 |a::e,b::d,[],h=>by obtain⟨c,i,rfl⟩:=h a (ay ..);simp[gX]
 | a::e,b::d,f::g,h=>by
  obtain⟨c,i,rfl⟩:=h a (ay ..);have:=y9 e d g λx j=>h x (aw _ j)
  simp only[gX,aP];omega
theorem Inv.enter{s:FB}{P:Nat->Prop}(I:Inv s P)(S:bD s b)(W:Kl b)(r:s.bits<=b.bits)(f:∀i,i<s.bits->(k i↔P i)):Inv b k:=by
 refine⟨W,?_,by rw[S.tk];have:=I.tk;omega,by rw[S.tk,S.tv];exact I.WZ,?_,by rw[S.cT];have:=I.V';omega⟩
 ·intro v m;rw[S.tv]at m;obtain⟨j,d,e,p⟩:=I.tv v m;exact⟨j,by omega,e,(f j d).mpr p⟩
 ·intro l o;rw[S.cT]at o;obtain⟨j,g,e,d,t,c⟩:=I.cT l o;refine⟨j,g,e,by omega,t,?_⟩;have:=c.ext (b':=b.bits) (P2:=k) r (λi q h=>(f i q).mp h);intro y x a n w u;exact(f j d).mpr (this y x a n w u)
theorem zE{F:List D->Option (D×D)}(hF:BH F n)(hn6:n<=6):Nt (lQ 2 3 aA (gM F F')) n:=by
 intro s P gE Jz GK hw I hb;cases gE with
 |nil=>exact absurd rfl Jz|cons p ps=>
  have hZ:Zb (n+1)=3*(1+Zb n):=rfl;have hk:(p::ps).length*Zb n<=3*Zb n:=pJ _ GK;obtain⟨s1,e1,b1,S1,W1⟩:=Ep I.NR (p::ps) (by omega)
  let P1:Nat->Prop:=λi=>if i<s.bits then P i else ∀q∈(p::ps).drop (i-s.bits),tY n q.2.2=Z'
  have hP1:∀i,i<s.bits->(P1 i↔P i):=λi hi=>by show (if _ then _ else _)↔_;rw[if_pos hi]
  have I1:Inv s1 P1:=I.enter S1 W1 (by omega) hP1;obtain⟨asks,s2,P2,e2,E2,I2,A2⟩:=B6 hF (g:=iY (mP (e2 bW (eV 0) (eK (.int 2)))) kf) (ar:=Qy) (f:=iL (eV 1)) (ρ:=[oF s1,Y (.lst ((p::ps).map cm)),Y (.lst ((fH s.bits (ps.length+1)).map D.int))]) (ds:=(p::ps).map cm) (s:=s1) (P:=P1) rfl rfl rfl (by intro d hd;obtain⟨q,hq,rfl⟩:=lM.mp hd;exact⟨hw q hq,λs=>⟨rfl,rfl⟩⟩) I1 (by rw[ax];omega) (by rw[ax];omega)
  have hfm:∀a∈asks,∃sE cs,a=fX sE cs:=λa ha=>by obtain⟨d,_,r⟩:=A2.left a ha;exact qe r.ad
  have hal:asks.length=ps.length+1:=by rw[A2.len,ax];rfl
  have hld:=E2.ld;have acS:=I.V';rw[S1.cT]at hld;have hlo:=E2.lo;have hhi:=E2.hi;rw[ax]at hhi;simp only[aP]at b1 hk GK hhi hZ;have e3:=O7 (s:=s2) (as:=asks) (b:=2 ^ s.bits) (bs:=fH (s.bits+1) ps.length) hfm (iH (by omega)) (by rw[sW];omega);have hP2:∀i,i<ps.length+1->(P2 (s.bits+i)↔∀q∈(p::ps).drop i,tY n q.2.2=Z'):=by intro i hi;rw[E2.same (s.bits+i) (by omega)];show (if _ then _ else _)↔_;rw[if_neg (by omega),Nat.add_sub_cancel_left]
  have SX:=Ei (b:=s2.bits) (P:=P2) hn6 ps p asks s.bits A2 hP2 (by omega);have hnl:=y9 asks (fH s.bits (ps.length+1)) (fH (s.bits+1) ps.length++[0]) hfm;rw[sW]at hnl;refine⟨s.bits,{ s2 with cT:=s2.cT++gX asks (fH s.bits (ps.length+1)) (fH (s.bits+1) ps.length++[0]) },P2,?_,?_,?_,?_,?_⟩
  ·show (gM F F' [oF s,Y (.lst ((p::ps).map cm)),M]).bind (lR aA)=_;unfold gM;rw[aK (ρ':=[oF s1,Y (.lst ((p::ps).map cm)),Y (.lst ((fH s.bits (ps.length+1)).map D.int))]) ?q0]
   case q0=>unfold nh;rw[ly (ρ1:=[oF s,Y (.lst ((p::ps).map cm)),M]) (args:=[.lst ((p::ps).map cm)]) (by decide) rfl rfl rfl e1];rfl
   have V6:iY (vm (iL (eV 1)) [M,Y 0] (gN 0) (bQ "Facts" "asked" aA F 1 (iY (mP (L2.e2 bW (eV 0) (eK (.int 2)))) kf)) 1 0 aA) (iY (mP (eV 2)) (iY (mP (eK (.int 0))) kf)) [oF s1,Y (.lst ((p::ps).map cm)),Y (.lst ((fH s.bits (ps.length+1)).map D.int))]=Y ([.lst asks,.lst ((fH s.bits (ps.length+1)).map D.int),.int 0],[oF s2,Y (.lst ((p::ps).map cm)),Y (.lst ((fH s.bits (ps.length+1)).map D.int))]):=by rw[show ∀f g ρ,iY f g ρ=(f ρ).bind λp=>(g p.2).bind λq=>Y (p.1::q.1,q.2) from λ_ _ _=>rfl,e2];rfl
   rw[aK (ρ':=[oF { s2 with cT:=s2.cT++gX asks (fH s.bits (ps.length+1)) (fH (s.bits+1) ps.length++[0]) },Y (.lst ((p::ps).map cm)),Y (.lst ((fH s.bits (ps.length+1)).map D.int))]) ?q1]
   case q1=>unfold eY;rw[ly (s:=s1) (s1:=s2) (by decide) rfl V6 rfl e3];rfl
   have q2:L2.e2 bW (eV 2) (eK (.int 0)) [oF { s2 with cT:=s2.cT++gX asks (fH s.bits (ps.length+1)) (fH (s.bits+1) ps.length++[0]) },Y (.lst ((p::ps).map cm)),Y (.lst ((fH s.bits (ps.length+1)).map D.int))]=Y (.int (2 ^ s.bits)):=by show ph ((fH s.bits (ps.length+1)).map D.int) ((0:Nat):Int)=_;unfold ph;rw[pB (by rw[ax,sW];omega)];rfl
   unfold dm mP;rw[q2];exact v8
  ·refine⟨E2.q.trans S1.q,by show s.bits<=s2.bits;omega,by show s2.bits<=_;omega,λi hi=>(E2.same i (by omega)).trans (hP1 i hi),?_⟩;show (s2.cT++gX asks (fH s.bits (ps.length+1)) (fH (s.bits+1) ps.length++[0])).length+s.bits<=s.cT.length+s2.bits;rw[aQ];omega
  ·refine⟨⟨I2.NR.nv,I2.NR.star,I2.NR.inner,I2.NR.nk⟩,I2.tv,I2.tk,I2.WZ,?_,?_⟩
   ·intro l hl;rcases bq.mp hl with hl|hl
    ·exact I2.cT l hl
    ·exact SX l hl
   ·show (s2.cT++gX asks (fH s.bits (ps.length+1)) (fH (s.bits+1) ps.length++[0])).length<=s2.bits;rw[aQ];omega
  ·show s.bits<s2.bits;omega
  ·intro hp;exact(hP2 0 (by omega)).mp hp
theorem zU{F:List D->Option (D×D)}{s:FB}(w:eP (kS k) (kS "any")=Y (.bl Z_))(v:eP (kS k) (kS "text")=Y (.bl Z_))(u:eP (kS k) (kS "has")=Y (.bl Z_)){b:Bool}(t:eP (kS k) (kS "one")=Y (.bl b))(h:vm (iL (e2 bW (eV 1) (eK (.int 1)))) [M,Y 0] (gN 0) (bQ "Facts" "asked" aA F 1 (iY (mP (eV 0)) kf)) 1 0 aA [oF s,Y (.tup [kS k,.lst a]),M]=Y (.lst c,[oF e,Y (.tup [kS k,.lst a]),M]))(p:b=Z_->ki [.lst c]=Y d)(r:b=Z'->d=fX 0 [.lst c]):
  lQ 2 3 aA (cz F i) [dW s,.tup [kS k,.lst a]]=Y (d,dW e):=by
 show (cz F i [oF s,Y (.tup [kS k,.lst a]),M]).bind (lR aA)=_;unfold cz;have o:∀g,eI (dO (e2 eP (e2 bW (eV 1) (eK (.int 0))) (eK (kS "any")))) g da [oF s,Y (.tup [kS k,.lst a]),M]=Y (.nx [oF s,Y (.tup [kS k,.lst a]),M]):=λg=>by rw[C_ (b:=Z_) (NU w)];rfl
 have n:∀g,eI (dO (e2 eP (e2 bW (eV 1) (eK (.int 0))) (eK (kS "text")))) g da [oF s,Y (.tup [kS k,.lst a]),M]=Y (.nx [oF s,Y (.tup [kS k,.lst a]),M]):=λg=>by rw[C_ (b:=Z_) (NU v)];rfl
 have m:∀g,eI (dO (e2 eP (e2 bW (eV 1) (eK (.int 0))) (eK (kS "has")))) g da [oF s,Y (.tup [kS k,.lst a]),M]=Y (.nx [oF s,Y (.tup [kS k,.lst a]),M]):=λg=>by rw[C_ (b:=Z_) (NU u)];rfl
 rw[aK (o _),aK (n _),aK (m _)];rw[aK (ρ':=[oF e,Y (.tup [kS k,.lst a]),Y (.lst c)]) ?l]
 case l=>unfold nh;rw[h];rfl
 have f:=NU (s:=e) (r:=[.lst a]) (y:=Y (.lst c)) t;cases b with
 |true=>
  have q:eI (dO (e2 eP (e2 bW (eV 1) (eK (.int 0))) (eK (kS "one")))) (dm (mP (dA (aC (eK (.int 0)) (aC (eF (fG (aC (eV 2) aN))) aN))))) da [oF e,Y (.tup [kS k,.lst a]),Y (.lst c)]=Y (.rm (fX 0 [.lst c]) [oF e,Y (.tup [kS k,.lst a]),Y (.lst c)]):=by rw[C_ (b:=Z') f];rfl
  rw[x6 q,v8,r rfl]
 |false=>
  have q:∀g,eI (dO (e2 eP (e2 bW (eV 1) (eK (.int 0))) (eK (kS "one")))) g da [oF e,Y (.tup [kS k,.lst a]),Y (.lst c)]=Y (.nx [oF e,Y (.tup [kS k,.lst a]),Y (.lst c)]):=λg=>by rw[C_ (b:=Z_) f];rfl
  rw[aK (q _)];have j:∀J:List D->Option D,bf J (aC (eV 2) aN) [oF e,Y (.tup [kS k,.lst a]),Y (.lst c)]=J [.lst c]:=λJ=>rfl
  unfold dm mP;rw[j,p rfl];exact v8
theorem yc(i:Nat):∀(g:List D) (x:Int),0<=x->(∀a∈g,∃c k,a=fX c k/\0<=c) ->
  0<=g.foldl (λn a=>match a with|.tup [.int c,_]=>bO n c|_=>n) x/\(x.toNat.testBit i=Z'->(g.foldl (λn a=>match a with|.tup [.int c,_]=>bO n c|_=>n) x).toNat.testBit i=Z')/\∀a∈g,∀c k,a=fX c k->c.toNat.testBit i=Z'->(g.foldl (λn a=>match a with|.tup [.int c,_]=>bO n c|_=>n) x).toNat.testBit i=Z'
 |[],x,j,_=>⟨j,id,λa h=>by simp at h⟩
 | a::g,x,j,h=>by
  obtain⟨c,k,rfl,m⟩:=h a (ay ..);obtain⟨s,q,r⟩:=yc i g (bO x c) (uC j m) λy t=>h y (aw _ t)
  refine⟨s,λl=>q (by rw[CI j m,l];rfl),?_⟩;intro b o f p e d;rcases aW.mp o with rfl|o
  ·cases e;exact q (by rw[CI j m,d];simp)
  ·exact r b o f p e d
theorem HX:tY (n+1) (.tup [kS "has",.lst a])=a.all λb=>tY n (Qy b):=by
 simp only[tY];rw[if_pos trivial]
theorem EC:tY (n+1) (.tup [kS "both",.lst a])=a.all (tY n):=by
 simp only[tY];rw[if_neg (by decide),if_pos trivial]
theorem HW:tY (n+1) (.tup [kS "one",.lst a])=a.any (tY n):=by
 simp only[tY];rw[if_neg (by decide),if_neg (by decide),if_pos trivial]
theorem yv{s:FB}(h:gz n d):cS 1 [Y d,oF s]=[Y d,oF s]:=by
 cases n with
 |zero=>exact h.elim|succ n=>rcases h with rfl|⟨t,rfl⟩|⟨b,rfl,_⟩|⟨a,rfl,_⟩|⟨a,rfl,_⟩<;>rfl
def ZE:D->List D
 |.tup [_,.lst a]=>a|_=>[]
theorem PV(a:D):(ZE a).length=HY a:=by
 unfold ZE HY;split
 ·rfl
 ·first|rfl|(rename_i h;split;exact(h _ _ rfl).elim;rfl)
theorem Hx:∀(b:List D) (k:Nat),(∀a∈b,HY a<=k)->(Kk b).length<=b.length*k
 |[],k,_=>by simp[Kk]
 | a::b,k,h=>by
  have g:=Hx b k λx c=>h x (aw _ c)
  have f:=h a (ay ..);have e:Kk (a::b)=ZE a++Kk b:=rfl;have d:=PV a;rw[e,aQ,aP,Qn];omega
theorem GC{F:List D->Option (D×D)}(hF:BH F n)(hH:Nt F' n)(hn:n<=5):BH (lQ 2 3 aA (cz F F')) (n+1):=by
 intro s P w hw I hb;have hZ:Zb (n+1)=3*(1+Zb n):=rfl;have h3:1<=3 ^ (n+1):=Nat.one_le_pow _ _ (by decide);have h3b:3 ^ (n+1)<=729:=bK (Nat.pow_le_pow_right (by decide) (show n+1<=6 by omega)) (by decide);rcases hw with rfl|⟨t,rfl⟩|⟨N,rfl,S,H,y⟩|⟨o,rfl,H,y⟩|⟨o,rfl,H,y⟩
 ·exact⟨_,s,P,JX,(f_.refl s P).mono (eG _),I,⟨P6 n,eG _,λ_ _ _ _ _ _=>rfl⟩⟩
 ·obtain⟨j,v,C,e,hj,E,G⟩:=AA I (by omega) t;exact⟨_,v,C,GB e,E.mono (by omega),G,⟨Ie n (mE j),eG _,λ_ _ _ _ _ _=>rfl⟩⟩
 ·obtain⟨j,v,C,e,E,G,hj,hp⟩:=hH s P N S H y I hb;refine⟨_,v,C,JW e,E,G,⟨Ie n (mE j),eG _,?_⟩⟩;intro V B a m g p;have:=hp (B j hj (O2 g p));rw[HX,cA];intro st R;obtain⟨q,hq,rfl⟩:=lM.mp R;exact this q hq
 ·have hk:o.length*Zb n<=3*Zb n:=pJ _ H;obtain⟨b,v,C,e,E,G,A⟩:=B6 hF (g:=iY (mP (eV 0)) kf) (ar:=λd=>d) (f:=iL (e2 bW (eV 1) (eK (.int 1)))) (ρ:=[oF s,Y (.tup [kS "both",.lst o]),M]) (ds:=o) (s:=s) (P:=P) rfl rfl rfl (λd K=>⟨y d K,λs=>⟨rfl,yv (y d K)⟩⟩) I (by omega) (by omega);have J:(Kk b).length<=3 ^ (n+1):=by
   have B:=Hx b (3 ^ n) λa z=>by obtain⟨d,_,r⟩:=A.left a z;exact r.len
   rw[A.len]at B;have h2:o.length*3 ^ n<=3*3 ^ n:=pJ _ H;rw[Qo];omega
  have k:∀a∈b,∃f u,a=fX f u/\0<=f:=λa z=>by obtain⟨d,_,r⟩:=A.left a z;obtain⟨f,u,rfl⟩:=qe r.ad;exact⟨f,u,rfl,wJ r.ad⟩
  have hJ:=Js (as:=b) (λa z=>by obtain⟨f,u,e,_⟩:=k a z;exact⟨f,u,e⟩) (iH (by omega));refine⟨_,v,C,zU (by kernel_rfl) (by kernel_rfl) (by kernel_rfl) (b:=Z_) (by kernel_rfl) e (λ_=>hJ) (λh=>by cases h),E.mono (by omega),G,⟨?_,J,?_⟩⟩
  ·refine⟨_,_,rfl,(yc 0 b 0 (by decide) k).1,by omega,?_⟩;intro c L;obtain⟨a,z,hca⟩:=List.mem_flatMap.mp L;obtain⟨d,_,r⟩:=A.left a z;obtain⟨f,u,rfl⟩:=qe r.ad;obtain⟨O,cs',e',_,_,X⟩:=r.ad.succ;cases e';exact X c hca
  ·intro V B a m g p;rw[EC,cA];intro w hw;obtain⟨ask,l,r⟩:=A.right w hw;obtain⟨f,u,rfl,T⟩:=k ask l;cases m with
   |zero=>simp[jh]at p|succ m=>
    refine r.snd V B a (m+1) g ?_;refine w7 T g.1 (λi hi =>?_) ?_
    ·exact za (yc 0 b 0 (by decide) k).1 g.1 p ((yc i b 0 (by decide) k).2.2 _ l f u rfl hi)
    ·have:=F5 p;rw[cA]at this ⊢;intro c L;exact this c (List.mem_flatMap.mpr ⟨_,l,L⟩)
 ·have hk:o.length*Zb n<=3*Zb n:=pJ _ H;obtain⟨b,v,C,e,E,G,A⟩:=B6 hF (g:=iY (mP (eV 0)) kf) (ar:=λd=>d) (f:=iL (e2 bW (eV 1) (eK (.int 1)))) (ρ:=[oF s,Y (.tup [kS "one",.lst o]),M]) (ds:=o) (s:=s) (P:=P) rfl rfl rfl (λd K=>⟨y d K,λs=>⟨rfl,yv (y d K)⟩⟩) I (by omega) (by omega);refine⟨fX 0 [.lst b],v,C,zU (by kernel_rfl) (by kernel_rfl) (by kernel_rfl) (b:=Z') (by kernel_rfl) e (λh=>by cases h) (λ_=>rfl),E.mono (by omega),G,⟨?_,h3,?_⟩⟩
  ·refine⟨0,_,rfl,by decide,by simp,?_⟩;intro c L;rw[cx.mp L];refine⟨b,rfl,by rw[A.len];omega,λx Q =>?_⟩;obtain⟨d,_,r⟩:=A.left x Q;exact r.ad
  ·intro V B a m g p;rw[HW,uT];cases m with
   |zero=>simp[jh]at p|succ m=>have:=F5 p;simp only[mq,List.all_nil,Bool.and_true]at this;rw[uT]at this;obtain⟨x,Q,U⟩:=this;obtain⟨w,hw,r⟩:=A.left x Q;exact⟨w,hw,r.snd V B a m g U⟩
mutual
theorem zV:∀(n m:Nat),n<=6->2*n<=m->BH (cP m) n
 |0,m,_,_=>λ_ _ _ h=>h.elim
 |n+1,0,_,h=>by omega
 |n+1,m+1,a,h=>by rw[cP];exact GC (zV n m (by omega) (by omega)) (Cq n m (by omega) (by omega)) (by omega)
theorem Cq:∀(n m:Nat),n<=6->2*n+1<=m->Nt (cL m) n
 |n,0,_,h=>by omega
 |n,m+1,a,h=>by rw[cL];exact zE (zV n m a (by omega)) a
end
theorem kq1(h:eP (kS x) (kS k)=Y (.bl b)):dO (e2 eP (e2 bW (eV 0) (eK (.int 0))) (eK (kS k))) [Y (.tup (kS x::r))]=Y b:=by
 have e:e2 bW (eV 0) (eK (.int 0)) [Y (.tup (kS x::r))]=Y (kS x):=by show ph (kS x::r) ((0:Nat):Int)=_;unfold ph;rw[pB (by simp)];rfl
 have c:e2 eP (e2 bW (eV 0) (eK (.int 0))) (eK (kS k)) [Y (.tup (kS x::r))]=eP (kS x) (kS k):=by show ((e2 bW (eV 0) (eK (.int 0)) [Y (.tup (kS x::r))]).bind λa=>(Y (kS k)).bind λb=>eP a b)=_;rw[e];rfl
 unfold dO;rw[c,h];rfl
theorem vW(e:g a=Y (.rt d)):ba g h a=Y (.rt d):=by unfold ba;rw[e];rfl
theorem J4(h:eP (kS x) (kS k)=Y (.bl Z_)):eI (dO (e2 eP (e2 bW (eV 0) (eK (.int 0))) (eK (kS k)))) g da [Y (.tup (kS x::r))]=Y (.nx [Y (.tup (kS x::r))]):=by
 rw[C_ (kq1 h)];rfl
theorem XU(h:eP (kS x) (kS k)=Y (.bl Z')):eI (dO (e2 eP (e2 bW (eV 0) (eK (.int 0))) (eK (kS k)))) g da [Y (.tup (kS x::r))]=g [Y (.tup (kS x::r))]:=by
 rw[C_ (kq1 h)];rfl
theorem wh{f:DL}{b:cy}(e:f b=Y a)(j:a.length<=1000)(h:∀d∈a,c [Y d]=Y (g d)):nj f [M] (gN 0) hI c b=Y (a.map g):=by
 unfold nj;rw[e];simp only[ae];rw[if_pos (fR (iH (by omega)))];exact sf a λd i=>⟨[Y d],rfl,h d i⟩
theorem xh:∀(n m:Nat) (w:D),n<=m->gz n w->e_ m [w]=Y (.bl (tY n w))
 |0,_,_,_,h=>h.elim|n+1,0,_,h,_=>by omega
 | n+1,m+1,w,r,h=>by
  have ih:∀x,gz n x->e_ m [x]=Y (.bl (tY n x)):=λx j=>xh n m x (by omega) j
  have o:e_ (m+1) [w]=(qE (e_ m) [Y w]).bind nL:=rfl;rw[o];generalize e_ m=F at *
  unfold qE;rcases h with rfl|⟨t,rfl⟩|⟨b,rfl,l,i,c⟩|⟨a,rfl,i,c⟩|⟨a,rfl,i,c⟩
  ·rw[aK (J4 (by kernel_rfl)),aK (J4 (by kernel_rfl)),aK (J4 (by kernel_rfl))];rfl
  ·rw[aK (J4 (by kernel_rfl)),aK (J4 (by kernel_rfl)),aK (J4 (by kernel_rfl))];rfl
  ·have f:nj (iL (e2 bW (eV 0) (eK (.int 1)))) [M] (gN 0) hI (bf F (aC (e2 bW (eV 0) (eK (.int 2))) aN)) [Y (.tup [kS "has",.lst (b.map cm)])]=Y ((b.map cm).map λg =>.bl (tY n (Qy g))):=by
    refine wh rfl (by rw[ax];omega) λd e =>?_
    obtain⟨p,k,rfl⟩:=lM.mp e;exact ih p.2.2 (c p k)
   have q:eI (dO (e2 eP (e2 bW (eV 0) (eK (.int 0))) (eK (kS "has")))) (dF (bf (gu Z') (aC (eF (nj (iL (e2 bW (eV 0) (eK (.int 1)))) [M] (gN 0) hI (bf F (aC (e2 bW (eV 0) (eK (.int 2))) aN)))) aN))) da [Y (.tup [kS "has",.lst (b.map cm)])]=Y (.rt (.bl ((b.map cm).all λg=>tY n (Qy g)))):=by rw[XU (by kernel_rfl)];unfold dF;rw[uB f,GD];rfl
   rw[vW q,HX];rfl
  ·have f:nj (iL (e2 bW (eV 0) (eK (.int 1)))) [M] (gN 0) hI (bf F (aC (eV 0) aN)) [Y (.tup [kS "both",.lst a])]=Y (a.map λx =>.bl (tY n x)):=
    wh rfl (by omega) λd e=>ih d (c d e)
   have q:eI (dO (e2 eP (e2 bW (eV 0) (eK (.int 0))) (eK (kS "both")))) (dF (bf (gu Z') (aC (eF (nj (iL (e2 bW (eV 0) (eK (.int 1)))) [M] (gN 0) hI (bf F (aC (eV 0) aN)))) aN))) da [Y (.tup [kS "both",.lst a])]=Y (.rt (.bl (a.all λx=>tY n x))):=by rw[XU (by kernel_rfl)];unfold dF;rw[uB f,GD];rfl
   rw[aK (J4 (by kernel_rfl)),vW q,EC];rfl
  ·have f:nj (iL (e2 bW (eV 0) (eK (.int 1)))) [M] (gN 0) hI (bf F (aC (eV 0) aN)) [Y (.tup [kS "one",.lst a])]=Y (a.map λx =>.bl (tY n x)):=
    wh rfl (by omega) λd e=>ih d (c d e)
   have q:eI (dO (e2 eP (e2 bW (eV 0) (eK (.int 0))) (eK (kS "one")))) (dF (bf (gu Z_) (aC (eF (nj (iL (e2 bW (eV 0) (eK (.int 1)))) [M] (gN 0) hI (bf F (aC (eV 0) aN)))) aN))) da [Y (.tup [kS "one",.lst a])]=Y (.rt (.bl (a.any λx=>tY n x))):=by rw[XU (by kernel_rfl)];unfold dF;rw[uB f,Nn];rfl
   rw[aK (J4 (by kernel_rfl)),aK (J4 (by kernel_rfl)),vW q,HW];rfl
def Nu(F:List D->Option D)(n:Nat):Prop:=∀a:List (aG×aG×D),a.length<=1000->(∀p∈a,gz n p.2.2)->F [.lst (a.map cm)]=Y (.lst (a.map cm))
def Ik(F:List D->Option D)(n:Nat):Prop:=∀w,gz n w->F [w]=Y w
theorem EB{F:List D->Option D}(h:Ik a n):Nu (j_ 1 1 (si F a)) n:=by
 intro c l j;show (si F a [Y (.lst (c.map cm))]).bind nL=_;unfold si;have e:nj (iL (eV 0)) [M] (gN 0) hI (dA (aC (e2 bW (eV 0) (eK (.int 0))) (aC (e2 bW (eV 0) (eK (.int 1))) (aC (bf a (aC (e2 bW (eV 0) (eK (.int 2))) aN)) aN)))) [Y (.lst (c.map cm))]=Y ((c.map cm).map λd=>d):=by
  refine wh rfl (by rw[ax];exact l) λd m =>?_
  obtain⟨p,k,rfl⟩:=lM.mp m;have hw:=h p.2.2 (j p k);have:bf a (aC (e2 bW (eV 0) (eK (.int 2))) aN) [Y (cm p)]=a [p.2.2]:=rfl;rw[hw]at this;unfold dA;rw[show ∀f g b,aC f g b=(f b).bind λx=>(g b).bind λi=>Y (x::i) from λ_ _ _=>rfl];rw[show ∀b,aC (e2 bW (eV 0) (eK (.int 1))) (aC (bf a (aC (e2 bW (eV 0) (eK (.int 2))) aN)) aN) b=(e2 bW (eV 0) (eK (.int 1)) b).bind λx=>((bf a (aC (e2 bW (eV 0) (eK (.int 2))) aN) b).bind λy=>Y [y]).bind λi=>Y (x::i) from λ_=>rfl,this];rfl
 unfold vd;rw[e,Qr];rfl
theorem XS{b:Bool}(h:Ji Z_ (kS x) (.tup [kS "both",kS "one"])=Y (.bl b)):dO (e2 (Ji Z_) (e2 bW (eV 0) (eK (.int 0))) (dA (aC (eK (kS "both")) (aC (eK (kS "one")) aN)))) [Y (.tup (kS x::r))]=Y b:=by
 have e:e2 bW (eV 0) (eK (.int 0)) [Y (.tup (kS x::r))]=Y (kS x):=by show ph (kS x::r) ((0:Nat):Int)=_;unfold ph;rw[pB (by simp)];rfl
 have c:e2 (Ji Z_) (e2 bW (eV 0) (eK (.int 0))) (dA (aC (eK (kS "both")) (aC (eK (kS "one")) aN))) [Y (.tup (kS x::r))]=Ji Z_ (kS x) (.tup [kS "both",kS "one"]):=by show ((e2 bW (eV 0) (eK (.int 0)) [Y (.tup (kS x::r))]).bind λa=>(Y (.tup [kS "both",kS "one"])).bind λb=>Ji Z_ a b)=_;rw[e];rfl
 unfold dO;rw[c,h];rfl
theorem wA{F:List D->Option D}(s:Nu F n)(o:Ik e n):Ik (j_ 1 1 (jb F e)) (n+1):=by
 intro w h;have u:j_ 1 1 (jb F e) [w]=(jb F e [Y w]).bind nL:=rfl;rw[u];unfold jb;rcases h with rfl|⟨t,rfl⟩|⟨a,rfl,p,m,j⟩|⟨c,rfl,m,j⟩|⟨c,rfl,m,j⟩
 ·have q:∀g,eI (dO (e2 (Ji Z_) (e2 bW (eV 0) (eK (.int 0))) (dA (aC (eK (kS "both")) (aC (eK (kS "one")) aN))))) g da [Y (.tup [kS "any"])]=Y (.nx [Y (.tup [kS "any"])]):=λg=>by rw[C_ (XS (b:=Z_) (by kernel_rfl))];rfl
  rw[aK (J4 (by kernel_rfl)),aK (q _)];rfl
 ·have q:∀g,eI (dO (e2 (Ji Z_) (e2 bW (eV 0) (eK (.int 0))) (dA (aC (eK (kS "both")) (aC (eK (kS "one")) aN))))) g da [Y (.tup [kS "text",.str t])]=Y (.nx [Y (.tup [kS "text",.str t])]):=λg=>by rw[C_ (XS (b:=Z_) (by kernel_rfl))];rfl
  rw[aK (J4 (by kernel_rfl)),aK (q _)];rfl
 ·have r:=s a (by omega) j;have q:eI (dO (e2 eP (e2 bW (eV 0) (eK (.int 0))) (eK (kS "has")))) (dF (dA (aC (eK (kS "has")) (aC (bf F (aC (e2 bW (eV 0) (eK (.int 1))) aN)) aN)))) da [Y (.tup [kS "has",.lst (a.map cm)])]=Y (.rt (.tup [kS "has",.lst (a.map cm)])):=by rw[XU (by kernel_rfl)];have:bf F (aC (e2 bW (eV 0) (eK (.int 1))) aN) [Y (.tup [kS "has",.lst (a.map cm)])]=F [.lst (a.map cm)]:=rfl;rw[r]at this;unfold dF dA;rw[show ∀b,aC (eK (kS "has")) (aC (bf F (aC (e2 bW (eV 0) (eK (.int 1))) aN)) aN) b=((bf F (aC (e2 bW (eV 0) (eK (.int 1))) aN) b).bind λy=>Y [y]).bind λi=>Y (kS "has" :: i) from λ_=>rfl,this];rfl
  rw[vW q];rfl
 ·have k:nj (iL (e2 bW (eV 0) (eK (.int 1)))) [M] (gN 0) hI (bf e (aC (eV 0) aN)) [Y (.tup [kS "both",.lst c])]=Y (c.map λd=>d):=
   wh rfl (by omega) λd l=>o d (j d l)
  rw[Qr]at k;have q:eI (dO (e2 (Ji Z_) (e2 bW (eV 0) (eK (.int 0))) (dA (aC (eK (kS "both")) (aC (eK (kS "one")) aN))))) (dF (dA (aC (e2 bW (eV 0) (eK (.int 0))) (aC (eF (nj (iL (e2 bW (eV 0) (eK (.int 1)))) [M] (gN 0) hI (bf e (aC (eV 0) aN)))) aN)))) da [Y (.tup [kS "both",.lst c])]=Y (.rt (.tup [kS "both",.lst c])):=by rw[C_ (XS (b:=Z') (by kernel_rfl)),if_pos rfl];unfold dF dA;rw[show ∀(f:DL) b,aC (e2 bW (eV 0) (eK (.int 0))) (aC (eF f) aN) b=(e2 bW (eV 0) (eK (.int 0)) b).bind λx=>(((f b).map D.lst).bind λy=>Y [y]).bind λi=>Y (x::i) from λ_ _=>rfl,k];rfl
  rw[aK (J4 (by kernel_rfl)),vW q];rfl
 ·have k:nj (iL (e2 bW (eV 0) (eK (.int 1)))) [M] (gN 0) hI (bf e (aC (eV 0) aN)) [Y (.tup [kS "one",.lst c])]=Y (c.map λd=>d):=
   wh rfl (by omega) λd l=>o d (j d l)
  rw[Qr]at k;have q:eI (dO (e2 (Ji Z_) (e2 bW (eV 0) (eK (.int 0))) (dA (aC (eK (kS "both")) (aC (eK (kS "one")) aN))))) (dF (dA (aC (e2 bW (eV 0) (eK (.int 0))) (aC (eF (nj (iL (e2 bW (eV 0) (eK (.int 1)))) [M] (gN 0) hI (bf e (aC (eV 0) aN)))) aN)))) da [Y (.tup [kS "one",.lst c])]=Y (.rt (.tup [kS "one",.lst c])):=by rw[C_ (XS (b:=Z') (by kernel_rfl)),if_pos rfl];unfold dF dA;rw[show ∀(f:DL) b,aC (e2 bW (eV 0) (eK (.int 0))) (aC (eF f) aN) b=(e2 bW (eV 0) (eK (.int 0)) b).bind λx=>(((f b).map D.lst).bind λy=>Y [y]).bind λi=>Y (x::i) from λ_ _=>rfl,k];rfl
  rw[aK (J4 (by kernel_rfl)),vW q];rfl
mutual
theorem Bx:∀(n m:Nat),2*n+1<=m->Nu (jd m) n
 |n,0,h=>by omega
 |n,m+1,h=>by rw[jd];exact EB (sx n m (by omega))
theorem sx:∀(n m:Nat),2*n<=m->Ik (dP m) n
 |0,m,_=>λ_ h=>h.elim
 |n+1,0,h=>by omega
 |n+1,m+1,h=>by rw[dP];exact wA (Bx n m (by omega)) (sx n m (by omega))
end
def xJ(n:Nat):Nat->Int->List (aG×aG×D)->Int
 |_,a,[]=>a|k,a,p::b=>xJ n (k+1) (if tY n p.2.2 then bO a (2 ^ k) else a) b
theorem EH(hn:n<=12)(q:D):∀(ps:List (aG×aG×D)) (k:Nat) (a:Int) (a2 a3:Option D),(∀p∈ps,gz n p.2.2)->k+ps.length<=1000->∃b2 b3,
  gx (Cm 2 3) ie (((ps.map cm).zipIdx k).map λp =>.tup [.int (p.2:Nat),p.1]) [Y q,Y (.int a),a2,a3]=Y (.nx [Y q,Y (.int (xJ n k a ps)),b2,b3])
 |[],k,a,a2,a3,_,_=>⟨a2,a3,rfl⟩| p::ps,k,a,a2,a3,h,hk=>by
  simp only[aP]at hk;have hc:oJ [p.2.2]=Y (.bl (tY n p.2.2)):=xh n 12 p.2.2 hn (h p (ay ..));have hb:ie [Y q,Y (.int a),Y (.int (k:Nat)),Y (cm p)]=Y (.nx [Y q,Y (.int (if tY n p.2.2 then bO a (2 ^ k) else a)),Y (.int (k:Nat)),Y (cm p)]):=by
   have e1:eH (bf oJ (aC (e2 bW (eV 3) (eK (.int 2))) aN)) [Y q,Y (.int a),Y (.int (k:Nat)),Y (cm p)]=Y (tY n p.2.2):=by
    have:∀F,bf F (aC (e2 bW (eV 3) (eK (.int 2))) aN) [Y q,Y (.int a),Y (.int (k:Nat)),Y (cm p)]=F [p.2.2]:=λF=>rfl
    unfold eH;rw[this,hc];rfl
   unfold ie;rw[C_ e1];cases tY n p.2.2 with
   |false=>rfl|true=>have e2:L2.e2 pX (eK (.int 1)) (eV 2) [Y q,Y (.int a),Y (.int (k:Nat)),Y (cm p)]=Y (.int (2 ^ k)):=(show _=pX (.int 1) (.int (k:Nat)) from rfl).trans (Oi (by omega));simp only[if_true];unfold tO;rw[e2];rfl
  rw[a_,EY,a_,mT (ρ1:=[Y q,Y (.int a),Y (.int (k:Nat)),Y (cm p)]) rfl hb];obtain⟨b2,b3,e⟩:=EH hn q ps (k+1) (if tY n p.2.2 then bO a (2 ^ k) else a) (Y (.int (k:Nat))) (Y (cm p)) (λy hy=>h y (aw _ hy)) (by omega);exact⟨b2,b3,e.trans rfl⟩
theorem P7(c:n<=12)(a:List (aG×aG×D))(h:∀p∈a,gz n p.2.2)(d:a.length<=1000):jQ [.lst (a.map cm)]=Y (.int (xJ n 0 0 a)):=by
 show (nB [Y (.lst (a.map cm)),M,M,M]).bind nL=_;unfold nB;rw[aK (iF (d :=.int 0) rfl)];simp only[bg,bh];obtain⟨g,f,e⟩:=EH c (.lst (a.map cm)) a 0 0 M M h (by omega);have b:ir (iE (eV 0)) (Cm 2 3) ie [Y (.lst (a.map cm)),Y (.int 0),M,M]=gx (Cm 2 3) ie (((a.map cm).zipIdx 0).map λp =>.tup [.int (p.2:Nat),p.1]) [Y (.lst (a.map cm)),Y (.int 0),M,M]:=rfl;rw[aK (b.trans e)];rfl
def MN(s:FB)(a:List D):EO:=⟨s.q,(s.bits:Int),s.nk,s.nv,s.tk,s.tv,s.jH,s.u5,s.inner,s.cT,a⟩
abbrev pF(a:List aG)(b:List D):Option D:=Y (.obj aA (.ins "Facts" a b))
theorem Vs{F:List D->Option D}(h:F [q]=Y d):fc Z_ 0 "Facts" "question" (bf F (aC (eV 1) aN)) [pF [] [],Y q]=Y (.nx [pF ["question"] [d],Y q]):=by
 have e:bf F (aC (eV 1) aN) [pF [] [],Y q]=Y d:=(show bf F (aC (eV 1) aN) [pF [] [],Y q]=F [q] from rfl).trans h;unfold fc;rw[e];simp only[ae];kernel_rfl
def Lj(q:List D):FB:=⟨q,0,[],[],[],[],0,0,0,[]⟩
theorem QH(q:List D):Kl (Lj q):=⟨λv a=>by simp[Lj]at a,Um 0,Um 0,aS 0⟩
theorem Vm(q:List D):Inv (Lj q) λ_=>True:=⟨QH q,λv a=>by simp[Lj]at a,aS 0,rfl,λv a=>by simp[Lj]at a,aS 0⟩
theorem Pe(hn:n<=5)(gE:List (aG×aG×D))(h:∀p∈gE,gz n p.2.2)(hl:gE.length<=3)(hz:gE.length*(1+Zb n)<=999):
  ∃asks s P,fY [.ins "Facts" [] [],.lst (gE.map cm)]=Y (.dJ,fU (MN s asks))/\s.q=gE.map cm/\Inv s P/\tI (λa d=>xl s.bits P n a (Qy d)) asks (gE.map cm):=by
 have hc:vF [.lst (gE.map cm)]=Y (.lst (gE.map cm)):=Bx n 12 (by omega) gE (by omega) h;have es:Lj (gE.map cm)=Lj (gE.map cm):=rfl;have W0:=QH (gE.map cm);have I0:=Vm (gE.map cm);obtain⟨s1,e1,b1,S1,W1⟩:=Ep W0 gE (by show 0+gE.length<=1000;omega);have b1':s1.bits=gE.length:=by rw[b1];show 0+gE.length=_;omega
 have I1:Inv s1 λ_=>True:=I0.enter S1 W1 (eG _) λ_ _=>Iff.rfl
 have SS:s1.q=gE.map cm:=S1.q;have hm:gE.length*(1+Zb n)=gE.length+gE.length*Zb n:=by rw[Nat.mul_add,Nat.mul_one]
 have V2:iL (tU 0 "Facts" "question") [oF s1,Y (.lst (gE.map cm))]=Y (gE.map cm):=by
  have:iL (tU 0 "Facts" "question") [oF s1,Y (.lst (gE.map cm))]=Y s1.q:=by kernel_rfl
  rw[this,SS]
 obtain⟨asks,s2,P2,e2,E2,I2,A2⟩:=B6 (zV n 12 (by omega) (by omega)) (g:=iY (mP (e2 bW (eV 0) (eK (.int 2)))) kf) (ar:=Qy) (f:=iL (tU 0 "Facts" "question")) (ρ:=[oF s1,Y (.lst (gE.map cm))]) (ds:=gE.map cm) (s:=s1) (P:=λ_=>True) V2 rfl rfl (by intro d hd;obtain⟨q,hq,rfl⟩:=lM.mp hd;exact⟨h q hq,λs=>⟨rfl,rfl⟩⟩) I1 (by rw[ax];omega) (by rw[ax];omega)
 refine⟨asks,s2,P2,?_,E2.q.trans SS,I2,A2⟩;show (jM [pF [] [],Y (.lst (gE.map cm))]).bind (lR aA)=_;unfold jM;rw[aK (Vs hc)];generalize gE.map cm=q at *
 rw[aK (ρ':=[pF ["question", "bits"] [.lst q,.int 0],Y (.lst q)]) ?q2,aK (ρ':=[pF ["question", "bits", "by_name"] [.lst q,.int 0,.iW [] []],Y (.lst q)]) ?q3,aK (ρ':=[pF ["question", "bits", "by_name", "by_text"] [.lst q,.int 0,.iW [] [],.iW [] []],Y (.lst q)]) ?q4,aK (ρ':=[pF ["question", "bits", "by_name", "by_text", "starred"] [.lst q,.int 0,.iW [] [],.iW [] [],.int 0],Y (.lst q)]) ?q5,aK (ρ':=[pF ["question", "bits", "by_name", "by_text", "starred", "stars"] [.lst q,.int 0,.iW [] [],.iW [] [],.int 0,.int 0],Y (.lst q)]) ?q6,aK (ρ':=[pF ["question", "bits", "by_name", "by_text", "starred", "stars", "inner"] [.lst q,.int 0,.iW [] [],.iW [] [],.int 0,.int 0,.int 0],Y (.lst q)]) ?q7,aK (ρ':=[oF (Lj q),Y (.lst q)]) ?q8]
 case q8=>kernel_rfl
 case q7=>kernel_rfl
 case q6=>kernel_rfl
 case q5=>kernel_rfl
 case q4=>kernel_rfl
 case q3=>kernel_rfl
 case q2=>kernel_rfl
 rw[aK (ρ':=[oF s1,Y (.lst q)]) ?q9]
 case q9=>unfold eY;rw[ly (s:=(Lj q)) (s1:=(Lj q)) (ρ1:=[oF (Lj q),Y (.lst q)]) (args:=[.lst q]) (by decide) rfl (by kernel_rfl) rfl e1];rfl
 unfold BV;rw[show cP 12=my from rfl]at e2;rw[e2];kernel_rfl
def xp:jB:=⟨-1,0,0,0,1,1,1,1⟩
abbrev pC(a:List aG)(b:List D):Option D:=Y (.obj aD (.ins "Coming" a b))
theorem Si{F:List D->Option (D×D)}{f:EO}(h:F [.ins "Facts" [] [],q]=Y (.dJ,fU f)):fc Z_ 0 "Coming" "facts" (iP "Facts" F (aC (eV 1) aN)) [pC [] [],Y q]=Y (.nx [pC ["facts"] [fU f],Y q]):=by
 have e:iP "Facts" F (aC (eV 1) aN) [pC [] [],Y q]=Y (fU f):=by unfold iP;show ((F [.ins "Facts" [] [],q]).bind _)=_;rw[h];rfl
 unfold fc;rw[e];simp only[ae];kernel_rfl
theorem Sj{F:List D->Option D}{f:EO}(h:F [.lst f.q]=Y (.int a)):fc Z_ 0 "Coming" "able" (lE [0] [] (bf F (aC (bp "Facts" "question" (bp "Coming" "facts" (eV 0))) aN))) [pC ["facts", "full"] [fU f,.int b],Y q]=Y (.nx [pC ["facts", "full", "able"] [fU f,.int b,.int a],Y q]):=by
 have e:lE [0] [] (bf F (aC (bp "Facts" "question" (bp "Coming" "facts" (eV 0))) aN)) [pC ["facts", "full"] [fU f,.int b],Y q]=Y (.int a):=by
  have:lE [0] [] (bf F (aC (bp "Facts" "question" (bp "Coming" "facts" (eV 0))) aN)) [pC ["facts", "full"] [fU f,.int b],Y q]=(F [.lst f.q]).bind λd=>if r9 d=Z' then Y d else none:=by kernel_rfl
  rw[this,h];rfl
 unfold fc;rw[e];simp only[ae];kernel_rfl
theorem JR{f:EO}(j:f.q.length<=1000)(k:fY [.ins "Facts" [] [],.lst q]=Y (.dJ,fU f))(l:jQ [.lst f.q]=Y (.int a)):
  cf [.ins "Coming" [] [],.lst q]=Y (.dJ,bE ⟨f,2 ^ f.q.length,a,0,0,[xp],[]⟩):=by
 show (jo [pC [] [],Y (.lst q)]).bind (lR aD)=_;unfold jo;rw[aK (Si k)];rw[aK (ρ':=[pC ["facts", "full"] [fU f,.int (2 ^ f.q.length)],Y (.lst q)]) ?i]
 case i=>
  have e:lE [0] [] (e2 pX (eK (.int 1)) (bf iu (aC (bp "Facts" "question" (bp "Coming" "facts" (eV 0))) aN))) [pC ["facts"] [fU f],Y (.lst q)]=Y (.int (2 ^ f.q.length)):=by refine mB (ρ':=[Y (.ins "Coming" ["facts"] [fU f]),Y (.lst q)]) rfl ?_ rfl;exact(show _=pX (.int 1) (.int (f.q.length:Nat)) from rfl).trans (Oi j)
  unfold fc;rw[e];simp only[ae];generalize (2:Int) ^ f.q.length=b;kernel_rfl
 generalize (2:Int) ^ f.q.length=b;rw[aK (Sj l)];have c:fc Z_ 0 "Coming" "rests" (eF (fG aN)) [pC ["facts", "full", "able", "taken", "opened", "rows"] [fU f,.int b,.int a,.int 0,.int 0,.lst [cn xp]],Y (.lst q)]=Y (.nx [oC ⟨f,b,a,0,0,[xp],[]⟩,Y (.lst q)]):=by kernel_rfl
 rw[aK (ρ':=[pC ["facts", "full", "able", "taken"] [fU f,.int b,.int a,.int 0],Y (.lst q)]) ?h,aK (ρ':=[pC ["facts", "full", "able", "taken", "opened"] [fU f,.int b,.int a,.int 0,.int 0],Y (.lst q)]) ?g,aK (ρ':=[pC ["facts", "full", "able", "taken", "opened", "rows"] [fU f,.int b,.int a,.int 0,.int 0,.lst [cn xp]],Y (.lst q)]) ?d,c]
 case d=>kernel_rfl
 case g=>kernel_rfl
 case h=>kernel_rfl
 kernel_rfl
theorem Oh(h:cf [.ins "Coming" [] [],.lst q]=Y (.dJ,bE c)):kA [.ins "Sift" [] [],.lst q]=Y (.dJ,vV c []):=by
 show (kl [Y (.obj dH (.ins "Sift" [] [])),Y (.lst q)]).bind (lR dH)=_;unfold kl;rw[aK (ρ':=[Y (.obj dH (.ins "Sift" ["coming"] [bE c])),Y (.lst q)]) ?a]
 case a=>
  have e:iP "Coming" cf (aC (eV 1) aN) [Y (.obj dH (.ins "Sift" [] [])),Y (.lst q)]=Y (bE c):=by
   have:∀F,iP "Coming" F (aC (eV 1) aN) [Y (.obj dH (.ins "Sift" [] [])),Y (.lst q)]=(F [.ins "Coming" [] [],.lst q]).bind λr=>match r.1 with|.dJ=>Y r.2|_=>none:=λF=>rfl
   rw[this,h];rfl
  unfold pA;rw[e];simp only[ae];kernel_rfl
 kernel_rfl
def Bf(ks:List lJ)(a:List D)(n:aG):Int:=match (eJ ks a (cN n)).getD (.int 0) with|.int i=>i|_=>0
theorem Eg{ks:List lJ}(h:∀v∈a,∃i,0<=i/\v=D.int i):(eJ ks a (cN n)).getD (.int 0)=.int (Bf ks a n):=by
 obtain⟨i,b,e⟩:=Ef (k:=cN n) (ks:=ks) h;unfold Bf;rw[e]
theorem Tb{f:EO}(b:∀v∈f.nv,∃i,0<=i/\v=D.int i)(a:∀v∈f.tv,∃i,0<=i/\v=D.int i):WL f (λn=>bO f.jH (Bf f.nk f.nv n)) (λt=>Bf f.tk f.tv t):=by
 refine⟨λn =>?_,λt =>?_⟩
 ·show (jn [Y (fU f),Y (.str n)]).bind nL=_;unfold jn dF;have:e2 C9 (bp "Facts" "starred" (eV 0)) (sr (bp "Facts" "by_name" (eV 0)) (eV 1) (eK (.int 0))) [Y (fU f),Y (.str n)]=C9 (.int f.jH) ((eJ f.nk f.nv (cN n)).getD (.int 0)):=by kernel_rfl
  rw[this,Eg b];rfl
 ·show (jm [Y (fU f),Y (.str t)]).bind nL=_;unfold jm dF;have:sr (bp "Facts" "by_text" (eV 0)) (eV 1) (eK (.int 0)) [Y (fU f),Y (.str t)]=Y ((eJ f.tk f.tv (cN t)).getD (.int 0)):=by kernel_rfl
  rw[this,Eg a];rfl
theorem zc:∀(d:List D),(∀l∈d,∃j a,l=Kj ((2:Int) ^ j,a)/\lI 6 a)->∃c:List (Int×D),d=c.map Kj/\∀p∈c,lI 6 p.2
 |[],_=>⟨[],rfl,λp h=>by simp at h⟩
 | l::d,h=>by
  obtain⟨j,a,e,i⟩:=h l (ay ..);obtain⟨c,k,g⟩:=zc d λx f=>h x (aw _ f)
  refine⟨((2:Int) ^ j,a)::c,by rw[e,k];rfl,λp b =>?_⟩;rcases aW.mp b with rfl|b
  ·exact i
  ·exact g p b
abbrev Sm(k:Nat)(x:Int):Prop:=0<=x/\x<2 ^ k
theorem CM{x:Int}(a:0<=y):0<=bA x y/\bA x y<=y:=by
 unfold bA uV;rw[decide_eq_true a];cases decide (0<=x) with
 |true=>have:=Nat.and_le_right (n:=x.toNat) (m:=y.toNat);exact⟨rH _,by show ((_:Nat):Int)<=y;omega⟩
 |false=>have:=Nat.and_le_left (n:=y.toNat) (m:=(uU x).toNat);exact⟨by show 0<=y-((_:Nat):Int);omega,by show y-((_:Nat):Int)<=y;omega⟩
theorem FH{x:Int}(h:Sm k y):Sm k (bA x y):=⟨(CM h.1).1,AK (CM h.1).2 h.2⟩
theorem QC(h:Sm k x):Sm (k+1) (bO x (2 ^ k)):=by
 obtain⟨a,rfl⟩:=bV h.1;have e:((2 ^ k:Nat):Int)=(2:Int) ^ k:=by simp
 have c:((2 ^ (k+1):Nat):Int)=(2:Int) ^ (k+1):=by simp
 have b:=h.2;rw[<- e]at b ⊢;rw[Gz];have:a ||| 2 ^ k<2 ^ (k+1):=Nat.or_lt_two_pow (by rw[Qo];omega) (by rw[Qo];have:=Nat.two_pow_pos k;omega);exact⟨rH _,by rw[<- c];omega⟩
theorem K7(h:Sm k x):Sm (k+1) x:=⟨h.1,by have:=h.2;rw[Int.pow_succ];omega⟩
theorem ML{n:Nat}{named atoms:Int}:∀(c:List D) (k:Nat) (b:Int),Sm k b->Sm (k+c.length) (Gf n named atoms k b c)
 |[],k,b,h=>h|a::c,k,b,h=>by have:=ML (n:=n) (named:=named) (atoms:=atoms) c (k+1) (if bA named (2 ^ k) != 0&&jh n a atoms then bO b (2 ^ k) else b) (by split;exact QC h;exact K7 h);rw[aP,show k+(c.length+1)=k+1+c.length by omega];exact this
theorem Nq{n:Nat}:∀(a:List (aG×aG×D)) (k:Nat) (x:Int),Sm k x->Sm (k+a.length) (xJ n k x a)
 |[],k,x,h=>h|q::a,k,x,h=>by have:=Nq (n:=n) a (k+1) (if tY n q.2.2 then bO x (2 ^ k) else x) (by split;exact QC h;exact K7 h);rw[aP,show k+(a.length+1)=k+1+a.length by omega];exact this
theorem QD:∀ {j k:Nat},Sm j x->j<=k->Sm k x
 | j,k,h,a=>by
  obtain⟨m,rfl⟩:=Nat.exists_eq_add_of_le a
  induction m with
  |zero=>exact h|succ m ih=>exact K7 (ih (by omega))
def tz(x:Int)(i:Nat):Bool:=if 0<=x then x.toNat.testBit i else !(bN x).toNat.testBit i
theorem t_(a i:Nat):tz (a:Int) i=a.testBit i:=by unfold tz;rw[if_pos (rH a)];rfl
theorem yy(x:Int)(i:Nat):tz (bN x) i = !tz x i:=by
 have n:0<=bN x↔¬0<=x:=PyProof.Rows.bitNot_nonneg;unfold tz;rw[show bN (bN x)=x from PyProof.Rows.bitNot_bitNot x];by_cases h:0<=x
 ·rw[if_neg λz=>n.mp z h,if_pos h]
 ·rw[if_pos (n.mpr h),if_neg h,Qu]
theorem JY(x y:Nat)(i:Nat):(x-(x &&& y)).testBit i=(x.testBit i && !y.testBit i):=by
 have h:=Iw (x ^^^ (x &&& y)) (x &&& y);have b:(x ^^^ (x &&& y)) ||| (x &&& y)=x:=pK λj=>by rw[Kb,GP,kb];cases x.testBit j<;>cases y.testBit j<;>rfl
 have a:(x ^^^ (x &&& y)) &&& (x &&& y)=0:=pK λj=>by rw[kb,GP,kb,Nat.zero_testBit];cases x.testBit j<;>cases y.testBit j<;>rfl
 rw[b,a]at h;rw[show x-(x &&& y)=x ^^^ (x &&& y) by omega,GP,kb];cases x.testBit i<;>cases y.testBit i<;>rfl
theorem Dq(b:0<=x)(y:Nat)(i:Nat):tz (x-((x.toNat &&& y:Nat):Int)) i=(x.toNat.testBit i && !y.testBit i):=by
 obtain⟨a,rfl⟩:=bV b;rw[dC,show ((a:Int)-((a &&& y:Nat):Int))=((a-(a &&& y):Nat):Int) by have:=Nat.and_le_left (n:=a) (m:=y);omega,t_,JY]
theorem vS(x y:Int)(i:Nat):tz (bA x y) i=(tz x i&&tz y i):=by
 by_cases b:0<=x<;>by_cases a:0<=y
 ·rw[show bA x y=_ from Qm b a,t_,kb,tz,if_pos b,tz,if_pos a]
 ·rw[show bA x y=_ from PyProof.Rows.bitAnd_pn b a,Dq b,tz,if_pos b,tz,if_neg a]
 ·rw[show bA x y=_ from PyProof.Rows.bitAnd_np b a,Dq a,tz,if_neg b,tz,if_pos a,Bool.and_comm]
 ·rw[show bA x y=_ from PyProof.Rows.bitAnd_nn b a,yy,t_,Kb,tz,if_neg b,tz,if_neg a,Bool.not_or]
theorem Qz(x y:Int)(i:Nat):tz (bO x y) i=(tz x i||tz y i):=by
 show tz (bN (bA (bN x) (bN y))) i=_;rw[yy,vS,yy,yy,Bool.not_and,Qu,Qu]
theorem Rj(x:Int)(i:Nat):tz (x*2) i=(decide (1<=i)&&tz x (i-1)):=by
 have b:∀a:Nat,(2*a).testBit i=(decide (1<=i)&&a.testBit (i-1)):=λa=>by rw[show 2*a=a <<< 1 by rw[Nat.shiftLeft_eq];omega,Nat.testBit_shiftLeft]
 unfold tz;by_cases h:0<=x
 ·rw[if_pos (by omega),if_pos h,show (x*2).toNat=2*x.toNat by omega,b]
 ·rw[if_neg (by omega),if_neg h,show (bN (x*2)).toNat=2*(bN x).toNat+1 by unfold bN uU;omega];cases i with
  |zero=>simp|succ i=>rw[Nat.testBit_succ,show (2*(bN x).toNat+1)/2=(bN x).toNat by omega];simp
theorem Ri(k i:Nat):tz ((2:Int) ^ k) i=decide (k=i):=by
 have e:((2 ^ k:Nat):Int)=(2:Int) ^ k:=by simp
 rw[<- e,t_,Nat.testBit_two_pow]
theorem KD(d:0<=x)(c:0<=y)(h:∀i,tz x i=tz y i):x=y:=by
 obtain⟨a,rfl⟩:=bV d;obtain⟨b,rfl⟩:=bV c;have:a=b:=pK λi=>by have:=h i;rwa [t_,t_]at this
 rw[this]
theorem xX(i:Nat):tz 0 i=false:=by rw[show (0:Int)=((0:Nat):Int) from rfl,t_,Nat.zero_testBit]
theorem KE(x:Int)(k:Nat):(bA x (2 ^ k) != 0)=tz x k:=by
 have a:0<=(2:Int) ^ k:=mE k;have c:=(CM (x:=x) a).1;have b:∀i,tz (bA x (2 ^ k)) i=(tz x i&&decide (k=i)):=λi=>by rw[vS,Ri]
 cases e:tz x k with
 |true=>rw[bne_iff_ne];intro z;have:=b k;rw[z,xX,e]at this;simp at this
 |false=>
  have:bA x (2 ^ k)=0:=KD c (by decide) λi=>by
   rw[b i,xX];by_cases h:k=i
   ·subst h;rw[e];rfl
   ·simp[h]
  rw[this];rfl
abbrev Le(x y:Int):Prop:=∀i,tz x i=Z'->tz y i=Z'
theorem Mj{x:Int}(h:Le x b)(g:Le y a):Le (bO x y) (bO b a):=λi e=>by
 rw[Qz,vO]at e ⊢;exact e.imp (h i) (g i)
theorem Ml(h:Le x b)(g:Le y a):Le (bA x y) (bA b a):=λi e=>by
 rw[vS,aV]at e ⊢;exact⟨h i e.1,g i e.2⟩
theorem Mi(x y:Int):Le x (bO x y):=λi e=>by rw[Qz,e];rfl
theorem Iu(x:Int):Le 0 x:=λi e=>by rw[xX]at e;cases e
theorem QV{f:Int}(l:Le p c)(k:Le a g)(j:Le f d):Le (Dc b p a f) (Dc b c g d):=λi e=>by
 unfold Dc at e ⊢;rw[Rj,aV]at e ⊢;exact⟨e.1,Ml (Mj l (Ml k λ_ h=>h)) j _ e.2⟩
theorem Mb:∀(n m:Nat) (b:D) (a f:Int),lI m b->Le a f->jh n b a=Z'->jh n b f=Z'
 |0,m,b,a,f,_,_,h=>by simp[jh]at h
 |n+1,0,b,a,f,h,_,_=>h.elim| n+1,m+1,b,a,f,s,l,h=>by
  obtain⟨d,u,rfl,o,_,r⟩:=s;simp only[jh,aV,beq_iff_eq]at h ⊢;refine⟨KD (CM o).1 o λi =>?_,?_⟩
  ·rw[vS];cases e:tz d i with
   |false=>rw[Kg]|true=>
    have:tz (bA a d) i=true:=by rw[h.1];exact e
    rw[vS,aV]at this;rw[l i this.1];rfl
  ·rw[cA]at h ⊢;intro c j;obtain⟨t,rfl,_,q⟩:=r c j;have p:=h.2 _ j;simp only[uT]at p ⊢;obtain⟨x,g,k⟩:=p;exact⟨x,g,Mb n m x a f (q x g) l k⟩
theorem fit_le{m:Nat}{f:Int}(h:Le a j):∀(b:List D) (k:Nat) (x d:Int),(∀p∈b,lI m p)->Le x d->Le (Gf n f a k x b) (Gf n f j k d b)
 |[],k,x,d,_,g=>g| p::b,k,x,d,l,g=>by
  refine fit_le h b (k+1) _ _ (λq o=>l q (aw _ o)) ?_;by_cases c:(bA f (2 ^ k) != 0&&jh n p a)=Z'
  ·have:(bA f (2 ^ k) != 0&&jh n p j)=true:=by rw[aV]at c ⊢;exact⟨c.1,Mb n m p a j (l p ay) h c.2⟩
   rw[if_pos c,if_pos this];exact Mj g λ_ h=>h
  ·rw[if_neg c];split
   ·exact λi e=>Mi _ _ i (g i e)
   ·exact g
structure FW(f:EO)(qf:Int)(fit lift:Int->Int->Int)(Ux txt:aG->Int):Prop where
 ok:Qe f fit lift
 st:WL f Ux txt
 sm:∀n a,Sm 63 (fit n a)
 mono:∀n a a',Le a a'->Le (fit n a) (fit n a')
 qf:Sm 63 qf
theorem V8{n:Nat}(F:n<=5)(c:List (aG×aG×D))(h:∀p∈c,gz n p.2.2)(u:c.length<=3)(B:c.length*(1+Zb n)<=999):
  ∃f x k o m,fY [.ins "Facts" [] [],.lst (c.map cm)]=Y (.dJ,fU f)/\f.q=c.map cm/\FW f (xJ n 0 0 c) x k o m:=by
 obtain⟨b,s,P,e,E,I,A⟩:=Pe F c h u B;have G:b.length=c.length:=by rw[A.len,ax]
 have i:∀a∈b,lI 6 a:=λa w=>by obtain⟨d,_,r⟩:=A.left a w;exact r.ad.up (by omega)
 obtain⟨z,H,q⟩:=zc s.cT λl u=>by obtain⟨j,y,e,_,w,_⟩:=I.cT l u;exact⟨j,y,e,w⟩
 refine⟨MN s b,λg a=>Gf 6 g a 0 0 b,λg a=>O6 6 g a (bA a s.inner) z,λn=>bO s.jH (Bf s.nk s.nv n),λt=>Bf s.tk s.tv t,e,E,?_⟩;exact⟨⟨λg a=>Ge (f:=MN s b) (n:=6) (by decide) i (by show b.length<=1000;omega) g a,λg a=>Jn (f:=MN s b) (n:=6) (by decide) H q g a⟩,Tb (f:=MN s b) I.NR.nv (λv C=>by obtain⟨j,_,e,_⟩:=I.tv v C;exact⟨_,mE j,e⟩),
  λg a=>QD (ML b 0 0 ⟨by decide,by decide⟩) (by omega),λg a J h=>fit_le h b 0 0 0 i λ_ h=>h,QD (Nq c 0 0 ⟨by decide,by decide⟩) (by omega)⟩
end K21
namespace L2
open PySem
theorem Oo(e:g b=Y (.nx a)):ba g h b=h a:=by simp only[ba,e,ae]
theorem Vk(e:t a=Y Z_):eI t g h a=h a:=by simp[eI,e]
theorem Vj(e:t a=Y Z'):eI t g h a=g a:=by simp[eI,e]
theorem PR(h:lF a 179=Z'):i_ (.lst a) 180=true:=by simp only[i_];rw[show 180-1=179 by rfl,h];rfl
end L2
namespace K21
open PySem L2
theorem EV{j:Int}(h : -(2 ^ 64)<j/\j<2 ^ 64):ri (.int i) (.int j)=Y (.int (i*j)):=by simp only[ri];rw[if_pos (.inr h)]
theorem WS(h : -(2 ^ 64)<i/\i<2 ^ 64):ri (.int i) (.int j)=Y (.int (i*j)):=by simp only[ri];rw[if_pos (.inl h)]
theorem mf{j:Int}(h:0<j):iw (.int i) (.int j)=Y (.int (i%j)):=by simp only[iw];rw[if_pos h]
theorem sq(h:0<j/\j<2 ^ 64):kg (.int i) (.int j)=Y (.int (i/j)):=by simp only[kg];rw[if_pos h]
theorem ZG:gJ (.int i) (.int j)=Y (.int (i+j)):=rfl
theorem X9:oU (.int i) (.int j)=Y (.int (i-j)):=rfl
theorem eqI:eP (.int i) (.int j)=Y (.bl (i==j)):=rfl
theorem eqB:eP (.bl i) (.bl j)=Y (.bl (i==j)):=rfl
theorem eqS:eP (.str i) (.str j)=Y (.bl (i==j)):=rfl
theorem neI:Au (.int i) (.int j)=Y (.bl (!(i==j))):=rfl
theorem neS:Au (.str i) (.str j)=Y (.bl (!(i==j))):=rfl
theorem ltI:Qh (.int i) (.int j)=Y (.bl (decide (i<j))):=rfl
theorem gtI:tR (.int i) (.int j)=Y (.bl (decide (j<i))):=rfl
theorem ixL:bW (.lst a) (.int i)=ph a i:=rfl
theorem ixT:bW (.tup a) (.int i)=ph a i:=rfl
theorem YD{a:List D}:iu [.lst a]=Y (.int a.length):=rfl
theorem YB{a:List D}:iu [.tup a]=Y (.int a.length):=rfl
theorem geI:oGe (.int i) (.int j)=Y (.bl (decide (j<=i))):=rfl
local macro_rules | `(tactic|walk_at "v")=>do
 let a←("j_ FP ic ba dD kQ dF vd A4 eI da ir qu G_ iZ e2 eV eK eF fG dA bf qY aC aN dO kO tm kN nj iL iE Pf My pN pS HF JG iS mR eH Wc aP iB a_ C3 uS dh bo List.getElem?_cons_zero N6 List.getElem?_nil Option.join_some Option.join_none ae bP Option.getD_some ZG X9 eqI eqB eqS neI neS ltI gtI geI ixL ixT YD YB bg bh if_true if_false eD nL RY Nat.reduceAdd Nat.reduceSub Nat.reduceLeDiff Aq nh dm BS Hc A8 Xd m2 mP kf iY xF tS VM OQ".splitOn " ").toArray.mapM fun s=>`(Lean.Parser.Tactic.simpLemma|$(Lean.mkIdent s.toName):term)
 `(tactic|simp only[$a,*])
noncomputable def VJ(c t:Int):Int:=(c%2147483647+t*t*7919+104729)*48271%2147483647
def D8(c t:Int):Int:=(VJ c t*VJ c t+69621*t)%2147483629
theorem L'(c t:Int)(e:0<=t)(d:t<=100000):BI [.int c,.int t]=Y (.int (D8 c t)):=by
 have a:=cu ((c%2147483647+t*t*7919+104729)*48271) (show (2147483647:Int)≠0 by decide);have b:=bT ((c%2147483647+t*t*7919+104729)*48271) (show (0:Int)<2147483647 by decide);unfold BI MH D8;walk_at "v";rw[mf (by decide),EV ⟨by omega,by omega⟩];walk_at "v";rw[EV ⟨by decide,by decide⟩];walk_at "v";rw[EV ⟨by decide,by decide⟩];walk_at "v";rw[mf (by decide)];walk_at "v";rw[EV (j:=(c%2147483647+t*t*7919+104729)*48271%2147483647) ⟨by omega,by omega⟩,EV (j:=t) ⟨by omega,by omega⟩];walk_at "v";rw[mf (by decide)];rfl
theorem O1(c t:Int):0<=D8 c t/\D8 c t<2147483629:=⟨cu _ (by decide),bT _ (by decide)⟩
theorem zk{a:List Int}{j:Nat}{d:D}(h:(a.map D.int)[j]?=Y d):∃c,a[j]?=Y c/\d=.int c:=by
 rw[aY]at h;obtain⟨c,e,h⟩:=aq.1 h;rw[e];cases h;exact⟨c,rfl,rfl⟩
theorem Dy(a:List Int)(n:Nat)(v:Int):(a.map D.int).set n (.int v)=(a.set n v).map D.int:=by rw[vJ]
theorem zN(ns:List Int)(SW:ns.length<=63)(kU most:Int)(t0:0<=kU)(t1:kU<=1000)(m0:1<=most)(m1:most<=100):∃xs:List Int,jP [.mD ns,.int kU,.int most]=Y (xs.map D.int)/\1<=xs.length/\(xs.length:Int)<=most:=by
 have hcl:(EW ns M (Y 63)).length<=63:=bK (TJ _ _ _) SW;generalize Y6:EW ns M (Y 63)++[kU]=cs;have ac2:1<=cs.length:=by rw[<- Y6];simp
 have ac1:cs.length<=64:=by rw[<- Y6];simp;omega
 have e1:gJ (.lst ((EW ns M (Y 63)).map D.int)) (.lst [.int kU])=Y (.lst (cs.map D.int)):=by simp only[gJ];rw[if_pos (by simp[kz];omega),<- Y6];simp
 obtain⟨c0,ec0⟩:=vy (xs:=cs) (z:=0) (by decide) (by omega);unfold jP Ck;walk_at "v";rw[e1];walk_at "v";rw[ec0];walk_at "v";rw[sq ⟨by decide,by decide⟩];walk_at "v";rw[mf (by decide)];walk_at "v";by_cases hb:(c0/50000%2==1)=Z'
 ·rw[hb];walk_at "v";have hz:(cs.map D.int).length<=dU:=by simp[kz];omega
  rw[if_pos hz];rw[L2.sf (h:=λd=>match d with|.int i =>.int (i/100000)|d=>d) (λd hd=>by obtain⟨i,_,rfl⟩:=lM.mp hd;exact⟨_,rfl,by walk_at "v";rw[sq ⟨by decide,by decide⟩]⟩)]
  have el:(cs.map D.int).map (λd=>match d with|.int i =>.int (i/100000)|d=>d)=(cs.map (· / 100000)).map D.int:=by simp
  rw[el];walk_at "v";rw[if_pos (show -(2 ^ 62)<=kU+most+1/\kU+most+1<2 ^ 62 from⟨by omega,by omega⟩)];walk_at "v";have Y2:(cs.map (· / 100000)).length=cs.length:=by simp
  obtain⟨ρ',ef,⟨fs,ls,v6,v7,rfl,S5,hls⟩⟩:=sk (τ:=gN 6) (g:=wI) (ds:=ny 0 (kU+most+1).toNat) (λi ρ=>∃(fs ls:List Int) (v6 v7:Option D),ρ=[Y (.mD ns),Y (.int kU),Y (.int most),Y (.lst (cs.map D.int)),Y (.lst (fs.map D.int)),Y (.lst (ls.map D.int)),v6,v7,M,M,M]/\fs.length=i/\ls.length=cs.length)
   (ρ:=[Y (.mD ns),Y (.int kU),Y (.int most),Y (.lst (cs.map D.int)),Y (.lst []),Y (.lst ((cs.map (· / 100000)).map D.int)),M,M,M,M,M]) ⟨[],cs.map (· / 100000),M,M,rfl,rfl,Y2⟩ (by
   rintro j d ρ hd ⟨fs,ls,v6,v7,rfl,S5,hls⟩;obtain⟨hj,rfl⟩:=DJ hd;have V0:(0:Int)<(ls.length:Int):=by omega
   have k0:=cu (0+(j:Int)) (show (ls.length:Int)≠0 by omega);have k1:=bT (0+(j:Int)) V0;obtain⟨v,ev⟩:=vy (xs:=ls) k0 k1;refine⟨_,[Y (.mD ns),Y (.int kU),Y (.int most),Y (.lst (cs.map D.int)),Y (.lst ((fs++[v%2147483587]).map D.int)),Y (.lst ((ls.set ((0+(j:Int))%(ls.length:Int)).toNat (v/2147483587)).map D.int)),Y (.int (0+(j:Int))),Y (.int ((0+(j:Int))%(ls.length:Int))),M,M,M],rfl,?_,⟨_,_,_,_,rfl,by simp[S5],by simp[hls]⟩⟩;unfold wI;walk_at "v";rw[ax,mf V0];walk_at "v";rw[ev];walk_at "v";rw[mf (by decide)];walk_at "v";rw[if_pos (by rw[ax,kz];omega)];walk_at "v";rw[ev];walk_at "v";rw[sq ⟨by decide,by decide⟩];walk_at "v";rw[ax,Pb k0 k1];walk_at "v";rw[Dy];simp)
  rw[ef];walk_at "v";rw[Ex _ t0,<- List.map_drop];have hl:(fs.drop kU.toNat).length=most.toNat+1:=by rw[EZ,S5,pW];omega
  obtain⟨v,ev⟩:=vy (xs:=fs.drop kU.toNat) (z:=most) (by omega) (by rw[hl];omega);rw[ev];walk_at "v";rw[mf (by omega)];walk_at "v";have k0:=cu v (show most≠0 by omega);have k1:=bT v (show 0<most by omega);rw[Nj _ (by omega),<- NN];refine⟨_,rfl,?_⟩;rw[uQ,hl,GQ (by omega)];exact⟨by omega,by omega⟩
 ·have V5:(c0/50000%2==1)=false:=by simpa using hb
  rw[V5];walk_at "v";obtain⟨ρ',ef,⟨num,v6,v9,rfl,Y0,hn1⟩⟩:=sk (τ:=Cm 6 9) (g:=wH) (ds:=xb (cs.map D.int)) (λi ρ=>∃(num:Int) (v6 v9:Option D),ρ=[Y (.mD ns),Y (.int kU),Y (.int most),Y (.lst (cs.map D.int)),Y (.lst []),M,v6,M,Y (.int num),v9,M]/\0<=num/\num<2147483629)
   (ρ:=[Y (.mD ns),Y (.int kU),Y (.int most),Y (.lst (cs.map D.int)),Y (.lst []),M,M,M,Y (.int 0),M,M]) ⟨0,M,M,rfl,by decide,by decide⟩ (by
   rintro j d ρ hd ⟨num,v6,v9,rfl,Y0,hn1⟩;obtain⟨x,hx,rfl⟩:=wx hd;obtain⟨c,hc,rfl⟩:=zk hx;have hj:j<cs.length:=(au.mp hc).1;refine⟨_,[Y (.mD ns),Y (.int kU),Y (.int most),Y (.lst (cs.map D.int)),Y (.lst []),M,Y (.int j),M,Y (.int ((num*31+D8 c ((j:Int)+kU))%2147483629)),Y (.int c),M],rfl,?_,⟨_,_,_,rfl,cu _ (by decide),bT _ (by decide)⟩⟩;unfold wH;walk_at "v";rw[EV ⟨by decide,by decide⟩];walk_at "v";rw[L' _ _ (by omega) (by omega)];walk_at "v";rw[mf (by decide)];walk_at "v")
  rw[ef];walk_at "v";rw[sq ⟨by decide,by decide⟩];walk_at "v";rw[mf (by omega)];walk_at "v";have k0:=cu (num/1009) (show most≠0 by omega);have k1:=bT (num/1009) (show 0<most by omega);rw[if_pos (show -(2 ^ 62)<=1+num/1009%most/\1+num/1009%most<2 ^ 62 from⟨by omega,by omega⟩)];walk_at "v";obtain⟨ρ',ef,⟨fs,v6,ZV,rfl,S5⟩⟩:=sk (τ:=gN 6) (g:=wG) (ds:=ny 0 (1+num/1009%most).toNat) (λi ρ=>∃(fs:List Int) (Z4 ZV:Option D),ρ=[Y (.mD ns),Y (.int kU),Y (.int most),Y (.lst (cs.map D.int)),Y (.lst (fs.map D.int)),M,Z4,M,Y (.int num),v9,ZV]/\fs.length=i)
   (ρ:=[Y (.mD ns),Y (.int kU),Y (.int most),Y (.lst (cs.map D.int)),Y (.lst []),M,v6,M,Y (.int num),v9,M]) ⟨[],v6,M,rfl,rfl⟩ (by
   rintro j d ρ hd ⟨fs,Z4,ZV,rfl,S5⟩;obtain⟨hj,rfl⟩:=DJ hd;have V0:(0:Int)<(cs.length:Int):=by omega
   have q0:=cu (0+(j:Int)) (show (cs.length:Int)≠0 by omega);have q1:=bT (0+(j:Int)) V0;obtain⟨v,ev⟩:=vy (xs:=cs) q0 q1;have r0:=cu num (show (1009:Int)≠0 by decide);have r1:=bT num (show (0:Int)<1009 by decide);have mz:=O1 v (num%1009+(0+(j:Int))+kU);refine⟨_,[Y (.mD ns),Y (.int kU),Y (.int most),Y (.lst (cs.map D.int)),Y (.lst ((fs++[(D8 v (num%1009+(0+(j:Int))+kU)*D8 v (num%1009+(0+(j:Int))+kU)+7*(0+(j:Int)))%2147483587]).map D.int)),M,Y (.int (0+(j:Int))),M,Y (.int num),v9,Y (.int (D8 v (num%1009+(0+(j:Int))+kU)))],rfl,?_,⟨_,_,_,rfl,by simp[S5]⟩⟩;unfold wG;walk_at "v";rw[ax,mf V0];walk_at "v";rw[ev];walk_at "v";rw[mf (by decide)];walk_at "v";rw[L' _ _ (by omega) (by omega)];walk_at "v";rw[EV ⟨by omega,by omega⟩];walk_at "v";rw[WS ⟨by decide,by decide⟩];walk_at "v";rw[mf (by decide)];walk_at "v";rw[if_pos (by rw[ax,kz];omega)];simp)
  rw[ef];walk_at "v";rw[pW]at S5;exact⟨fs,rfl,by omega,by omega⟩
theorem X_{x:aG}(a:x.length<=dU):(match D.str x with|.str x=>if x.length<=dU then Y (D.str (kZ x l h)) else M|_=>M)=Y (.str (kZ x l h)):=by simp[a]
theorem YC{x:aG}(h:x.length<=dU):iu [.str x]=Y (.int x.length):=by simp[iu,h]
theorem Ws{x y:aG}(h:x.length+y.length<=dU):gJ (.str x) (.str y)=Y (.str (x++y)):=by simp[gJ,h]
theorem L9(j:List Int)(l:j.length<=63):∃f:List aG,vD [.mD j]=Y (.lst (f.map D.str))/\f.length=5:=by
 obtain⟨xs,q,v,u⟩:=zN j l 40 1 (by decide) (by decide) (by decide) (by decide);obtain⟨c,r⟩:=vy (xs:=xs) (z:=0) (by decide) (by omega);have h:(af "abcdefabcde").length<=dU:=by decide +kernel
 have m:(af "abcdefabcde").length<=11:=by decide +kernel
 have o:(af "mnopq").cps.all (· < 128)=true:=by decide +kernel
 have g:(af "mnopq").cps.toList.length=5:=by decide +kernel
 unfold vD Cj;walk_at "v";rw[q];walk_at "v";rw[r];walk_at "v";rw[mf (by decide)];walk_at "v";rw[if_pos h];walk_at "v";have k:=Ka (af "abcdefabcde") M (Y (c%12));generalize kZ (af "abcdefabcde") M (Y (c%12))=a at k;have e:a.length<=dU:=by rw[kz];omega
 rw[sq ⟨by decide,by decide⟩,YC e];walk_at "v";rw[mf (by omega)];walk_at "v";generalize c/12%((a.length:Int)+1)=b;rw[if_pos o];walk_at "v";rw[if_pos (by simp[ud,g,kz])];rw[L2.sf (h:=λd=>match d with|.str z =>.str ((kZ a M (Y b)++z)++kZ a (Y b) M)|d=>d) (λd p=>by
  obtain⟨i,_,rfl⟩:=lM.mp p;refine⟨_,rfl,?_⟩;have t:=Ka a M (Y b);have s:=Ka a (Y b) M;have n:(⟨#[i]⟩:aG).length=1:=rfl;walk_at "v";rw[if_pos e];walk_at "v";rw[Ws (by rw[n,kz];omega)];walk_at "v";rw[if_pos e];walk_at "v";rw[Ws (by
   have:(kZ a M (Y b)++(⟨#[i]⟩:aG)).length=(kZ a M (Y b)).length+1:=by show ((kZ a M (Y b)).cps ++ #[i]).size=_;simp;rfl
   rw[this,kz];omega)])]
 walk_at "v";refine⟨(af "mnopq").cps.toList.map λi=>(kZ a M (Y b)++⟨#[i]⟩)++kZ a (Y b) M,?_,by rw[ax];exact g⟩;simp[ud]
abbrev QG:aG:=af "open"
abbrev QF:aG:=af "text"
abbrev Lh:aG:=af "close"
def z_(s:D):Prop:=(∃x,s=.tup [.str QG,.str x])∨(∃x,s=.tup [.str QF,.str x])∨s=.tup [.str Lh]
theorem z_.ok{s:D}(h:z_ s)(n:Nat):i_ s (n+1)=true:=by
 rcases h with⟨x,rfl⟩|⟨x,rfl⟩|rfl<;>simp[i_,lF]
theorem FI(h:∀s∈a,z_ s)(n:Nat):lF a (n+1)=true:=by
 induction a with
 |nil=>simp[lF]|cons s a ih=>simp only[lF,(h s ay).ok n,ih λs b=>h s (aw _ b),NP]
def iy:Nat×Bool->pL->Option (Nat×Bool)
 |(d,b),.op _=>if 0<d∨b=Z_ then Y (d+1,Z') else M
 |(d,b),.tx _=>if 0<d then Y (d,b) else M
 |(d,b),.cl=>if 0<d then Y (d-1,b) else M
def xw:List pL->Nat×Bool->Option (Nat×Bool)
 |[],z=>Y z|g::a,z=>(iy z g).bind (xw a)
theorem sJ(g:pL):∀(a:List pL) (z:Nat×Bool),xw (a++[g]) z=(xw a z).bind λb=>iy b g
 |[],z=>by show (iy z g).bind (xw [])=iy z g;cases iy z g<;>rfl
 | t::a,z=>by
  show (iy z t).bind (xw (a++[g]))=((iy z t).bind (xw a)).bind _;cases iy z t with
  |none=>rfl|some b=>exact sJ g a b
structure SG(ss:List D)(dep:Int):Prop where
 sg:∀s∈ss,z_ s
 ex:∃gs d b,ss=gs.map cG/\xw gs (0,false)=some (d,b)/\dep=(d:Nat)/\(gs=[]->b=false)
theorem SG.nil:SG [] 0:=⟨λs h=>(by cases h),[],0,Z_,rfl,rfl,rfl,λ_=>rfl⟩
theorem SG.open{f:List D}{a:Int}(h:SG f a)(x:aG)(e:f=[]∨0<a):SG (f++[.tup [.str QG,.str x]]) (a+1):=by
 obtain⟨i,d,b,g,k,l,j⟩:=h.ex;refine⟨λs c =>?_,i++[.op x],d+1,Z',by rw[g,cq];rfl,?_,by omega,λh=>by simp at h⟩
 ·rcases bq.mp c with c|c
  ·exact h.sg s c
  ·exact .inl ⟨x,cx.mp c⟩
 ·rw[sJ,k];show (if 0<d∨b=Z_ then _ else _)=_;rw[if_pos];rcases e with e|e
  ·exact .inr (j (by rw[e]at g;cases i with|nil=>rfl|cons=>cases g))
  ·exact .inl (by omega)
theorem SG.text(h:SG e a)(x:aG)(k:0<a):SG (e++[.tup [.str QF,.str x]]) a:=by
 obtain⟨f,d,b,j,i,g,l⟩:=h.ex;refine⟨λs c =>?_,f++[.tx x],d,b,by rw[j,cq];rfl,?_,g,λh=>by simp at h⟩
 ·rcases bq.mp c with c|c
  ·exact h.sg s c
  ·exact .inr (.inl ⟨x,cx.mp c⟩)
 ·rw[sJ,i];show (if 0<d then _ else _)=_;rw[if_pos (by omega)]
theorem SG.close(h:SG e a)(j:0<a):SG (e++[.tup [.str Lh]]) (a-1):=by
 obtain⟨f,d,b,i,g,l,k⟩:=h.ex;refine⟨λs c =>?_,f++[.cl],d-1,b,by rw[i,cq];rfl,?_,by omega,λh=>by simp at h⟩
 ·rcases bq.mp c with c|c
  ·exact h.sg s c
  ·exact .inr (.inr (cx.mp c))
 ·rw[sJ,g];show (if 0<d then _ else _)=_;rw[if_pos (by omega)]
theorem Wb{a:List D}(h:∀s∈a,z_ s):eP (.lst a) (.lst [])=Y (.bl a.isEmpty):=by
 have:i_ (.lst a) 180=true:=by simp only[i_];rw[show 180-1=178+1 by rfl,FI h];rfl
 simp only[eP];rw[if_pos (by rw[this];rfl)];cases a<;>rfl
def Ft: DG := (ba (dD 9 (e2 iw (e2 gJ (eV 8) (e2 ri (e2 ri (eV 5) (e2 iw (eV 6) (eK (.int 2)))) (eK (.int 5)))) (eK (.int 7))))
      (eI (tm (dO (e2 eP (eV 3) (eF (fG aN)))) (kO (dO (e2 Qh (eV 9) (eK (.int 3)))) (dO (e2 tR (eV 4) (eK (.int 0))))))
       (ba (qu 3 (dA (aC (eK (.str (af "open"))) (aC (e2 bW (eV 1) (e2 iw (e2 iw (e2 kg (eV 8) (eK (.int 7))) (eK (.int 11))) (eK (.int 5)))) aN))))
        (dD 4 (e2 gJ (eV 4) (eK (.int 1)))))
       (eI (kO (dO (e2 Qh (eV 9) (eK (.int 5)))) (dO (e2 tR (eV 4) (eK (.int 0)))))
         (qu 3 (dA (aC (eK (.str (af "text"))) (aC (e2 bW (eV 2) (e2 iw (e2 kg (eV 8) (eK (.int 7))) (eK (.int 5)))) aN))))
         (eI (tm (dO (e2 tR (eV 4) (eK (.int 1)))) (kO (dO (e2 eP (eV 4) (eK (.int 1)))) (dO (e2 eP (e2 iw (e2 kg (eV 8) (eK (.int 7))) (eK (.int 6))) (eK (.int 0))))))
           (ba (qu 3 (dA (aC (eK (.str (af "close"))) aN)))
            (dD 4 (e2 oU (eV 4) (eK (.int 1)))))
           da))))
theorem zS:wF=ba (dD 8 (eV 7)) (ba (eI (dO (e2 eP (eV 6) (eK (.int 0)))) (dD 5 (e2 iw (e2 kg (eV 8) (eK (.int 7))) (eK (.int 3)))) da) Ft):=rfl
theorem AS{a0:D}{nms txs:List aG}{k:List D}{lean j c:Int}{v9:Option D}(K:nms.length=5)(J:txs.length=5)(l:SG k a)(L:k.length<=i)(N:i<=1000)(n:0<=lean/\lean<3)(O:0<=j):
  ∃g f m,Ft [Y a0,Y (.lst (nms.map D.str)),Y (.lst (txs.map D.str)),Y (.lst k),Y (.int a),Y (.int lean),Y (.int j),Y (.int c),Y (.int c),v9] =
   Y (.nx [Y a0,Y (.lst (nms.map D.str)),Y (.lst (txs.map D.str)),Y (.lst g),Y (.int f),Y (.int lean),Y (.int j),Y (.int c),Y (.int c),m])/\SG g f/\g.length<=i+1:=by
 have q:=cu (c/7%11) (show (5:Int)≠0 by decide);have I:=bT (c/7%11) (show (0:Int)<5 by decide);have p:=cu (c/7) (show (5:Int)≠0 by decide);have H:=bT (c/7) (show (0:Int)<5 by decide);obtain⟨r,z,_⟩:=yo (xs:=nms) q (by omega);obtain⟨o,y,_⟩:=yo (xs:=txs) p (by omega);have d:k.length<dU:=by rw[kz];omega
 unfold Ft;walk_at "v";rw[mf (by decide)];walk_at "v";rw[WS ⟨by omega,by omega⟩];walk_at "v";rw[EV ⟨by decide,by decide⟩];walk_at "v";rw[mf (by decide)];walk_at "v";rw[Wb l.sg];walk_at "v";generalize (c+lean*(j%2)*5)%7=e;have u:∃b,(if k.isEmpty=Z' then Y Z' else if decide (e<3)=Z' then Y (decide (0<a)) else Y Z_)=Y b/\(b=Z'->k=[]∨0<a):=by
  split
  ·rename_i h;exact⟨Z',rfl,λ_ =>.inl (by simpa using h)⟩
  ·split
   ·exact⟨_,rfl,λh =>.inr (of_decide_eq_true h)⟩
   ·exact⟨Z_,rfl,λh=>by cases h⟩
 obtain⟨G,C,x⟩:=u;rw[C];cases G with
 |true=>walk_at "v";rw[sq ⟨by decide,by decide⟩];walk_at "v";rw[mf (by decide)];walk_at "v";rw[mf (by decide)];walk_at "v";rw[z];walk_at "v";rw[if_pos d];walk_at "v";exact⟨_,_,_,rfl,l.open r (x rfl),by simp;omega⟩
 |false=>
  walk_at "v";have t:∃b,(if decide (e<5)=Z' then Y (decide (0<a)) else Y Z_)=Y b/\(b=Z'->0<a):=by
   split
   ·exact⟨_,rfl,λh=>of_decide_eq_true h⟩
   ·exact⟨Z_,rfl,λh=>by cases h⟩
  obtain⟨F,B,w⟩:=t;rw[B];cases F with
  |true=>walk_at "v";rw[sq ⟨by decide,by decide⟩];walk_at "v";rw[mf (by decide)];walk_at "v";rw[y];walk_at "v";rw[if_pos d];exact⟨_,_,_,rfl,l.text o (w rfl),by simp;omega⟩
  |false=>
   walk_at "v";rw[sq ⟨by decide,by decide⟩];walk_at "v";rw[mf (by decide)];walk_at "v";have s:∃b,(if decide (1<a)=Z' then Y Z' else if (a==1)=Z' then Y (c/7%6==0) else Y Z_)=Y b/\(b=Z'->0<a):=by
    split
    ·rename_i h;exact⟨Z',rfl,λ_=>by have:=of_decide_eq_true h;omega⟩
    ·split
     ·rename_i h;exact⟨_,rfl,λ_=>by have:=eq_of_beq h;omega⟩
     ·exact⟨Z_,rfl,λh=>by cases h⟩
   obtain⟨E,A,v⟩:=s;rw[A];cases E with
   |true=>walk_at "v";rw[if_pos d];walk_at "v";exact⟨_,_,_,rfl,l.close (v rfl),by simp;omega⟩
   |false=>walk_at "v";exact⟨_,_,_,rfl,l,by omega⟩
theorem K8(k:List Int)(f:List aG)(O:k.length<=500)(G:f.length=5):∃h b,sY [.lst (k.map D.int),.lst (f.map D.str)]=Y h/\SG h b/\h.length<=k.length:=by
 unfold sY Ci;walk_at "v";have B:([af "x",af "",af "y x",af "\"",af "[a]"]:List aG).length=5:=rfl;have K:[D.str (af "x"),D.str (af ""),D.str (af "y x"),D.str (af "\""),D.str (af "[a]")]=([af "x",af "",af "y x",af "\"",af "[a]"]:List aG).map D.str:=rfl;rw[K];generalize ([af "x",af "",af "y x",af "\"",af "[a]"]:List aG)=l at B;obtain⟨H,L,⟨h,b,a,z,y,w,q,rfl,v,s,_⟩⟩:=sk (τ:=Cm 6 7) (g:=wF) (ds:=xb (k.map D.int)) (λi C=>∃(h:List D) (b a:Int) (z y w q:Option D),C=[Y (.lst (k.map D.int)),Y (.lst (f.map D.str)),Y (.lst (l.map D.str)),Y (.lst h),Y (.int b),Y (.int a),z,y,w,q]/\SG h b/\h.length<=i/\(0<=a/\a<3))
  (ρ:=[Y (.lst (k.map D.int)),Y (.lst (f.map D.str)),Y (.lst (l.map D.str)),Y (.lst []),Y (.int 0),Y (.int 0),M,M,M,M]) ⟨[],0,0,M,M,M,M,rfl,SG.nil,aS _,by decide,by decide⟩ (by
  rintro j d C I ⟨h,b,a,z,y,w,q,rfl,v,s,r⟩;obtain⟨x,A,rfl⟩:=wx I;obtain⟨c,J,rfl⟩:=zk A;have N:j<k.length:=(au.mp J).1;have F:=cu (c/7) (show (3:Int)≠0 by decide);have E:=bT (c/7) (show (0:Int)<3 by decide);by_cases u:((j:Int)==0)=Z'
  ·obtain⟨n,g,m,e,o,p⟩:=AS (a0 :=.lst (k.map D.int)) (nms:=f) (txs:=l) (lean:=c/7%3) (j:=(j:Int)) (c:=c) (v9:=q) G B v s (by omega) ⟨F,E⟩ (by omega);refine⟨_,_,rfl,?_,⟨n,g,c/7%3,Y (.int j),Y (.int c),Y (.int c),m,rfl,o,p,F,E⟩⟩;rw[zS];walk_at "v";rw[u];walk_at "v";rw[sq ⟨by decide,by decide⟩];walk_at "v";rw[mf (by decide)];walk_at "v";exact e
  ·have t:((j:Int)==0)=false:=by simpa using u
   obtain⟨n,g,m,e,o,p⟩:=AS (a0 :=.lst (k.map D.int)) (nms:=f) (txs:=l) (lean:=a) (j:=(j:Int)) (c:=c) (v9:=q) G B v s (by omega) r (by omega);refine⟨_,_,rfl,?_,⟨n,g,a,Y (.int j),Y (.int c),Y (.int c),m,rfl,o,p,r⟩⟩;rw[zS];walk_at "v";rw[t];walk_at "v";exact e)
 rw[L];walk_at "v";rw[wu,ax]at s;exact⟨h,b,rfl,v,s⟩
theorem Jx(a:List Int)(n:Nat):lF (a.map D.int) n=true:=by
 induction a with|nil=>rfl|cons x a ih=>simp only[a_,lF,i_,ih,NP]
theorem Tf(a:List Int):eP (.lst (a.map D.int)) (.lst [])=Y (.bl a.isEmpty):=by
 simp only[eP];rw[if_pos (by rw[PR (Jx a 179)];rfl)];cases a<;>rfl
def uf(a:List Int):Int:=a.getLastD 0
theorem FQ(a:List Int):xk [.lst (a.map D.int)]=Y (.int (uf a),a.dropLast.map D.int):=by
 unfold xk MG Aq;have t:dO (e2 eP (eV 0) (eF (fG aN))) [Y (.lst (a.map D.int))]=Y a.isEmpty:=by walk_at "v";rw[Tf];walk_at "v"
 rw[if_pos (show [D.lst (a.map D.int)].length=1 from rfl)];show (ba _ _ [Y (.lst (a.map D.int))]).bind (OQ 0)=_;rcases List.eq_nil_or_concat a with rfl|⟨b,x,rfl⟩
 ·have e:eI (dO (e2 eP (eV 0) (eF (fG aN)))) (dm (mP (eK (.int 0)))) da [Y (.lst (([]:List Int).map D.int))]=Y (.rm (.int 0) [Y (.lst [])]):=by rw[Vj t];rfl
  simp only[ba,e,ae];rfl
 ·have e:eI (dO (e2 eP (eV 0) (eF (fG aN)))) (dm (mP (eK (.int 0)))) da [Y (.lst ((b.concat x).map D.int))]=Y (.nx [Y (.lst ((b.concat x).map D.int))]):=by rw[Vk (by rw[t];simp)];rfl
  rw[Oo e];simp only[dm,O3];walk_at "v";simp[OQ,iZ,eV,uf]
theorem Mn{ρ:cy}{τ:ES}{fe:DM}{i0:Nat}{Pr:D->Prop}:∀ {ds:List D}(e:List Int),(∀d∈ds,∀e:List Int,∃(c:cy) (x:D) (b:cy) (a:List Int),τ d (ρ.set i0 (Y (.lst (e.map D.int))))=Y c/\fe c=Y (x,b)/\iZ i0 b=Y (a.map D.int)/\Pr x)->∃f a,O8 ρ τ fe i0 ds (e.map D.int)=Y (f,Kc D.int a)/\f.length=ds.length/\∀x∈f,Pr x
 |[],e,_=>⟨[],e,rfl,rfl,λx h=>by cases h⟩
 | d::ds,e,h=>by
  obtain⟨c,x,b,g,q,p,o,j⟩:=h d ay e;obtain⟨f,a,n,l,k⟩:=Mn (ds:=ds) g λd m=>h d (aw _ m)
  refine⟨x::f,a,?_,by simp[l],λy i =>?_⟩
  ·simp only[O8,q,ae,p,o,n,bP]
  ·rcases aW.mp i with rfl|i
   ·exact j
   ·exact k y i
abbrev qA(xs:List Int)(a:List aG)(b:Int):List D:=[.lst (xs.map D.int),.int b,.lst (a.map D.str)]
theorem AQ(Fw Fs:List D->Option (D×List D))(n:Nat)(dp:Int)(hdp:dp=n)(nms:List aG)
  (hs:∀m,n=m+1->∀xs:List Int,∃(gE:List (aG×aG×D)) (xs':List Int),Fs (qA xs nms (dp-1))=Y (.lst (gE.map cm),xs'.map D.int)/\1<=gE.length/\gE.length<=3/\∀p∈gE,gz (m+1) p.2.2)
  (hw:∀m,n=m+1->∀xs:List Int,∃(w:D) (xs':List Int),Fw (qA xs nms (dp-1))=Y (w,xs'.map D.int)/\gz (m+1) w)
  (xs:List Int):∃(w:D) (xs':List Int),Aq 3 5 0 (Cg Fw Fs) (qA xs nms dp)=Y (w,xs'.map D.int)/\gz (n+1) w:=by
 have q0:=cu (uf xs) (show (8:Int)≠0 by decide);have q1:=bT (uf xs) (show (0:Int)<8 by decide);have e8:iw (.int (uf xs)) (.int 8)=Y (.int (uf xs%8)):=mf (by decide);have f8:kg (.int (uf xs)) (.int 8)=Y (.int (uf xs/8)):=sq ⟨by decide,by decide⟩;have Mz:=FQ xs;generalize uf xs=num at *
 generalize num%8=kd at *
 generalize num/8=nd at *
 unfold Cg;walk_at "v";rw[Mz];walk_at "v";rw[e8];walk_at "v";by_cases k1:kd<2∨(dp=0/\2<kd)
 ·have:(if decide (kd<2)=Z' then Y Z' else if (dp==0)=Z' then Y (decide (2<kd)) else Y Z_)=Y true:=by
   by_cases a:kd<2
   ·rw[decide_eq_true a];rfl
   ·rw[decide_eq_false a];rcases k1 with z|⟨z,z'⟩
    ·exact absurd z a
    ·rw[z,decide_eq_true z'];rfl
  rw[this];walk_at "v";exact⟨_,xs.dropLast,rfl,.inl rfl⟩
 ·have:(if decide (kd<2)=Z' then Y Z' else if (dp==0)=Z' then Y (decide (2<kd)) else Y Z_)=Y false:=by
   have a:¬kd<2:=λz=>k1 (.inl z)
   rw[decide_eq_false a];by_cases b:dp=0
   ·have c:¬2<kd:=λz=>k1 (.inr ⟨b,z⟩)
    rw[decide_eq_false c,b];rfl
   ·rw[show (dp==0)=Z_ by simp[b]];rfl
  rw[this];walk_at "v";by_cases k2:kd=2
  ·rw[show (kd==2)=Z' by simp[k2]];walk_at "v";rw[f8];walk_at "v";rw[mf (by decide)];walk_at "v";have r0:=cu nd (show (5:Int)≠0 by decide);have r1:=bT nd (show (0:Int)<5 by decide);obtain⟨tx,et,_⟩:=yo (xs:=[af "x",af "",af "y x",af "\"",af "[a]"]) (z:=nd%5) r0 r1;rw[show ph [D.str (af "x"),D.str (af ""),D.str (af "y x"),D.str (af "\""),D.str (af "[a]")] (nd%5)=Y (.str tx) from et];walk_at "v";exact⟨_,xs.dropLast,rfl,.inr (.inl ⟨tx,rfl⟩)⟩
  ·rw[show (kd==2)=Z_ by simp[k2]];walk_at "v";obtain⟨m,hm⟩:∃m,n=m+1:=by
    cases n with
    |zero=>exact absurd (.inr ⟨by rw[hdp];rfl,by have:=λz=>k1 (.inl z);omega⟩) k1
    |succ m=>exact⟨m,rfl⟩
   subst hm;by_cases k5:kd<5
   ·rw[decide_eq_true k5];walk_at "v";obtain⟨gE,xs',es,l0,l1,VV⟩:=hs m rfl xs.dropLast;simp only[qA]at es;rw[es];walk_at "v";exact⟨_,xs',rfl,.inr (.inr (.inl ⟨gE,rfl,by intro h;rw[h]at l0;simp at l0,l1,VV⟩))⟩
   ·rw[decide_eq_false k5];walk_at "v";by_cases k6:kd=5
    ·rw[show (kd==5)=Z' by simp[k6]];walk_at "v";exact⟨_,xs.dropLast,rfl,.inr (.inr (.inl ⟨[(af "own",af "*",.tup [kS "any"])],rfl,by simp,by simp,λp hp=>by rw[cx.mp hp];exact .inl rfl⟩))⟩
    ·rw[show (kd==5)=Z_ by simp[k6]];walk_at "v";obtain⟨kn,ek,hk⟩:∃kn:aG,ph [D.str (af "both"),D.str (af "one")] (kd-6)=Y (.str kn)/\(kn=af "both" ∨kn=af "one"):=by
      have:kd=6∨kd=7:=by have:=λz=>k1 (.inl z);omega
      rcases this with rfl|rfl
      ·exact⟨_,rfl,.inl rfl⟩
      ·exact⟨_,rfl,.inr rfl⟩
     rw[ek];walk_at "v";rw[f8];walk_at "v";rw[mf (by decide)];walk_at "v";have r0:=cu nd (show (4:Int)≠0 by decide);have r1:=bT nd (show (0:Int)<4 by decide);generalize nd%4=mn at *
     have YT : -(2 ^ 62)<=mn/\mn<2 ^ 62:=⟨Qt (by decide) r0,vK r1 (by decide)⟩;rw[if_pos YT];walk_at "v";have hz:(ny 0 mn.toNat).length<=dU:=by rw[pW,kz];omega
     rw[if_pos hz];obtain⟨ws,xs',el,hl,hws⟩:=Mn (ρ:=[M,Y (.lst (xs.dropLast.map D.int)),Y (.lst (nms.map D.str)),Y (.int dp)]) (τ:=gN 0) (fe:=tS Fw 1 (aC (e2 oU (eV 3) (eK (.int 1))) (aC (eV 2) aN))) (i0:=1) (Pr:=gz (m+1)) (ds:=ny 0 mn.toNat) xs.dropLast λd _ ys=>by obtain⟨w,Z1,ew,YK⟩:=hw m rfl ys;simp only[qA]at ew;refine⟨_,w,[Y d,Y (.lst (Z1.map D.int)),Y (.lst (nms.map D.str)),Y (.int dp)],Z1,rfl,?_,rfl,YK⟩;walk_at "v";rw[ew];walk_at "v"
     rw[el];walk_at "v";rw[pW]at hl;refine⟨_,xs',rfl,?_⟩;rcases hk with rfl|rfl
     ·exact .inr (.inr (.inr (.inl ⟨ws,rfl,by omega,hws⟩)))
     ·exact .inr (.inr (.inr (.inr ⟨ws,rfl,by omega,hws⟩)))
theorem Fv(Fw Fs:List D->Option (D×List D))(n:Nat)(dp:Int)(nms:List aG)(hn:nms.length=5)
  (hw:∀xs:List Int,∃(w:D) (xs':List Int),Fw (qA xs nms dp)=Y (w,xs'.map D.int)/\gz (n+1) w)
  (xs:List Int):∃(gE:List (aG×aG×D)) (xs':List Int),Aq 3 7 0 (yg Fw Fs) (qA xs nms dp)=Y (.lst (gE.map cm),xs'.map D.int)/\1<=gE.length/\gE.length<=3/\∀p∈gE,gz (n+1) p.2.2:=by
 have r0:=cu (uf xs) (show (3:Int)≠0 by decide);have r1:=bT (uf xs) (show (0:Int)<3 by decide);have e4:iw (.int (uf xs)) (.int 3)=Y (.int (uf xs%3)):=mf (by decide);have Mz:=FQ xs;generalize uf xs=num at *
 generalize num%3=md at *
 have YT : -(2 ^ 62)<=1+md/\1+md<2 ^ 62:=⟨Qt (by decide) (show (0:Int)<=1+md by omega),AK (show 1+md<=3 by omega) (by decide)⟩;unfold yg;walk_at "v";rw[Mz];walk_at "v";rw[e4];walk_at "v";rw[if_pos YT];walk_at "v";obtain⟨ρ',ef,ys,gE,v4,v5,v6,rfl,hl,VV⟩:=sk (τ:=gN 4) (g:=wD Fw Fs) (ds:=ny 0 (1+md).toNat) (λi ρ=>∃(ys:List Int) (gE:List (aG×aG×D)) (v4 v5 v6:Option D),ρ=[Y (.lst (ys.map D.int)),Y (.int dp),Y (.lst (nms.map D.str)),Y (.lst (gE.map cm)),v4,v5,v6]/\gE.length=i/\∀p∈gE,gz (n+1) p.2.2)
  (ρ:=[Y (.lst (xs.dropLast.map D.int)),Y (.int dp),Y (.lst (nms.map D.str)),Y (.lst []),M,M,M]) ⟨xs.dropLast,[],M,M,M,rfl,rfl,λs h=>(by cases h)⟩ (by
  rintro j d ρ hd ⟨ys,gE,v4,v5,v6,rfl,hl,VV⟩;have hj:j<(1+md).toNat:=by have:=(au.mp hd).1;rw[pW]at this;exact this
  have Mz:=FQ ys;generalize uf ys=num at *
  obtain⟨w,zs,ew,YK⟩:=hw ys.dropLast;simp only[qA]at ew;have t0:=cu (num/2) (show (7:Int)≠0 by decide);have t1:=bT (num/2) (show (0:Int)<7 by decide);obtain⟨nm,en,_⟩:=yo (xs:=nms.take 4++[af "*",af "*",af "*"]) (z:=num/2%7) t0 (by simp[hn];omega);rw[cq]at en;obtain⟨wy,ey⟩:∃wy:aG,ph [D.str (af "own"),D.str (af "inner")] (num%2)=Y (.str wy):=by
   have:num%2=0∨num%2=1:=by omega
   rcases this with z|z
   ·rw[z];exact⟨_,rfl⟩
   ·rw[z];exact⟨_,rfl⟩
  refine⟨_,[Y (.lst (zs.map D.int)),Y (.int dp),Y (.lst (nms.map D.str)),Y (.lst ((gE++[(wy,nm,w)]).map cm)),Y d,Y (.int num),Y (.str nm)],rfl,?_,zs,gE++[(wy,nm,w)],Y d,Y (.int num),Y (.str nm),rfl,by simp[hl],λs hs =>?_⟩
  ·unfold wD;walk_at "v";rw[Mz];walk_at "v";rw[sq ⟨by decide,by decide⟩];walk_at "v";rw[Nj _ (by decide),<- NN];have Za:gJ (.lst ((nms.take (4:Int).toNat).map D.str)) (.lst [.str (af "*"),.str (af "*"),.str (af "*")])=Y (.lst ((nms.take 4).map D.str++[.str (af "*"),.str (af "*"),.str (af "*")])):=by simp only[gJ];rw[if_pos (by simp[kz];omega)];rfl
   rw[Za];walk_at "v";rw[mf (by decide)];walk_at "v";rw[show ph ((nms.take 4).map D.str++[D.str (af "*"),D.str (af "*"),D.str (af "*")]) (num/2%7)=Y (.str nm) from en];walk_at "v";rw[mf (by decide)];walk_at "v";rw[ey];walk_at "v";rw[ew];walk_at "v";rw[if_pos (by rw[kz,ax];omega),cq];rfl
  ·rcases bq.mp hs with hs|hs
   ·exact VV s hs
   ·rw[cx.mp hs];exact YK)
 rw[ef];walk_at "v";rw[pW]at hl;exact⟨gE,ys,rfl,by omega,by omega,VV⟩
end K21
namespace K21
open PySem L2
def Ca:pL->Bool|.op _=>Z'|_=>Z_
def Cc:pL->Bool|.cl=>Z'|_=>Z_
theorem Co{ρ:cy}(h:∀g:pL,dO (e2 eP (e2 bW (eV 0) (eK (.int 0))) (eK (.str k))) [Y (cG g)]=Y (p g)):∀a:List pL,Ay [M] (gN 0) (dO (e2 eP (e2 bW (eV 0) (eK (.int 0))) (eK (.str k)))) (eV 0) (a.map cG)=Y ((a.filter p).map cG)
 |[]=>rfl| g::a=>by
  rw[a_,Ay];have c:gN 0 (cG g) [M]=Y [Y (cG g)]:=rfl;have b:eV 0 [Y (cG g)]=Y (cG g):=rfl;rw[c];simp only[ae,h g,b,Co (ρ:=ρ) h a];cases e:p g with
  |true=>simp[tf,e]|false=>simp[tf,e]
theorem sV:∀(a:List pL) (d:Nat) (b:Bool) (f:Nat) (i:Bool),xw a (d,b)=Y (f,i)->(d:Int)+(a.filter Ca).length-(a.filter Cc).length=f
 |[],d,b,f,i,h=>by cases h;simp
 | g::a,d,b,f,i,h=>by
  rw[xw]at h;cases g with
  |op n=>
   by_cases c:0<d∨b=Z_
   ·have e:iy (d,b) (.op n)=Y (d+1,Z'):=by show (if _ then _ else _)=_;rw[if_pos c]
    rw[e]at h;have:=sV a (d+1) Z' f i h;simp only[tf,Ca,Cc,aP];omega
   ·have e:iy (d,b) (.op n)=none:=by show (if _ then _ else _)=_;rw[if_neg c]
    rw[e]at h;cases h
  |tx n=>
   by_cases c:0<d
   ·have e:iy (d,b) (.tx n)=Y (d,b):=by show (if _ then _ else _)=_;rw[if_pos c]
    rw[e]at h;have:=sV a d b f i h;simpa only [tf,Ca,Cc] using this
   ·have e:iy (d,b) (.tx n)=none:=by show (if _ then _ else _)=_;rw[if_neg c]
    rw[e]at h;cases h
  |cl=>
   by_cases c:0<d
   ·have e:iy (d,b) .cl=Y (d-1,b):=by show (if _ then _ else _)=_;rw[if_pos c]
    rw[e]at h;have:=sV a (d-1) b f i h;simp only[tf,Ca,Cc,aP];omega
   ·have e:iy (d,b) .cl=none:=by show (if _ then _ else _)=_;rw[if_neg c]
    rw[e]at h;cases h
theorem Na(n:a.length<=1000)(h:xw a (0,Z_)=Y (d,b)):qM [.lst (a.map cG)]=Y (.int (d:Nat)):=by
 show (yj [Y (.lst (a.map cG))]).bind nL=_;have e:∀g:pL,dO (e2 eP (e2 bW (eV 0) (eK (.int 0))) (eK (.str (af "open")))) [Y (cG g)]=Y (Ca g):=λg=>by cases g<;>kernel_rfl
 have i:∀g:pL,dO (e2 eP (e2 bW (eV 0) (eK (.int 0))) (eK (.str (af "close")))) [Y (cG g)]=Y (Cc g):=λg=>by cases g<;>kernel_rfl
 have m:nj (iL (eV 0)) [M] (gN 0) (dO (e2 eP (e2 bW (eV 0) (eK (.int 0))) (eK (.str (af "open"))))) (eV 0) [Y (.lst (a.map cG))]=Y ((a.filter Ca).map cG):=by unfold nj;show (if (a.map cG).length<=dU then Ay [M] (gN 0) _ (eV 0) (a.map cG) else M)=_;rw[if_pos (fR (iH (by rw[ax];omega)))];exact Co (ρ:=[]) e a
 have l:nj (iL (eV 0)) [M] (gN 0) (dO (e2 eP (e2 bW (eV 0) (eK (.int 0))) (eK (.str (af "close"))))) (eV 0) [Y (.lst (a.map cG))]=Y ((a.filter Cc).map cG):=by unfold nj;show (if (a.map cG).length<=dU then Ay [M] (gN 0) _ (eV 0) (a.map cG) else M)=_;rw[if_pos (fR (iH (by rw[ax];omega)))];exact Co (ρ:=[]) i a
 have k:bf iu (aC (eF (nj (iL (eV 0)) [M] (gN 0) (dO (e2 eP (e2 bW (eV 0) (eK (.int 0))) (eK (.str (af "open"))))) (eV 0))) aN) [Y (.lst (a.map cG))]=Y (.int ((a.filter Ca).length:Nat)):=by rw[uB m];show Y (D.int (((a.filter Ca).map cG).length:Nat))=_;rw[ax]
 have j:bf iu (aC (eF (nj (iL (eV 0)) [M] (gN 0) (dO (e2 eP (e2 bW (eV 0) (eK (.int 0))) (eK (.str (af "close"))))) (eV 0))) aN) [Y (.lst (a.map cG))]=Y (.int ((a.filter Cc).length:Nat)):=by rw[uB l];show Y (D.int (((a.filter Cc).map cG).length:Nat))=_;rw[ax]
 unfold yj dF;rw[show ∀(f g:DF) c,L2.e2 oU f g c=(f c).bind λx=>(g c).bind λy=>oU x y from λ_ _ _=>rfl,k,j];have:=sV a 0 Z_ d b h;show Y (D.int (((a.filter Ca).length:Nat)-((a.filter Cc).length:Nat):Int))=_
 congr 2
 omega
theorem Ak(c:List aG)(q:c.length=5):∀(n:Nat),
  (∀(a:Nat) (e:List Int),2*n+1<=a->∃(w:D) (b:List Int),gQ a (qA e c (n:Int))=Y (w,b.map D.int)/\gz (n+1) w) /\
  (∀(a:Nat) (e:List Int),2*n+2<=a->∃(d:List (aG×aG×D)) (b:List Int),gR a (qA e c (n:Int))=Y (.lst (d.map cm),b.map D.int)/\1<=d.length/\d.length<=3/\∀p∈d,gz (n+1) p.2.2):=by
 intro n;have i:∀(k:Nat),(∀(a:Nat) (e:List Int),2*k+1<=a->∃(w:D) (b:List Int),gQ a (qA e c (k:Int))=Y (w,b.map D.int)/\gz (k+1) w)->(∀(a:Nat) (e:List Int),2*k+2<=a->∃(d:List (aG×aG×D)) (b:List Int),gR a (qA e c (k:Int))=Y (.lst (d.map cm),b.map D.int)/\1<=d.length/\d.length<=3/\∀p∈d,gz (k+1) p.2.2):=by
  intro k r a e l;cases a with
  |zero=>omega|succ f=>rw[gR];exact Fv (gQ f) (gR f) k (k:Int) c q (λg=>r f g (by omega)) e
 induction n with
 |zero=>
  have j:∀(a:Nat) (e:List Int),2*0+1<=a->∃(w:D) (b:List Int),gQ a (qA e c ((0:Nat):Int))=Y (w,b.map D.int)/\gz (0+1) w:=by
   intro a e l;cases a with
   |zero=>omega|succ f=>rw[gQ];exact AQ (gQ f) (gR f) 0 _ rfl c (λm h=>by cases h) (λm h=>by cases h) e
  exact⟨j,i 0 j⟩
 |succ m ih=>
  have j:∀(a:Nat) (e:List Int),2*(m+1)+1<=a->∃(w:D) (b:List Int),gQ a (qA e c ((m+1:Nat):Int))=Y (w,b.map D.int)/\gz (m+1+1) w:=by
   intro a e l;cases a with
   |zero=>omega|succ f=>
    rw[gQ];have o:((m+1:Nat):Int)-1=(m:Int):=by omega
    refine AQ (gQ f) (gR f) (m+1) _ rfl c (λk h =>?_) (λk h =>?_) e
    ·cases h;rw[o];exact λg=>ih.2 f g (by omega)
    ·cases h;rw[o];exact λg=>ih.1 f g (by omega)
  exact⟨j,i (m+1) j⟩
theorem JU{F:List D->Option (D×List D)}(f:g a=Y b)(e:h a=Y c)(d:F (.lst b::c)=Y r):sU F g h a=Y r.1:=by
 unfold sU;rw[f,e];simp only[ae,d];rfl
theorem DR(c:List Int)(f:c.length<=63)(b:List aG)(g:b.length=5):∃a:List (aG×aG×D),sU vC (qY jP (aC (eV 0) (aC (eK (.int 100)) (aC (eK (.int 12)) aN)))) (aC (eK (.int 3)) (aC (eV 1) aN)) [Y (.mD c),Y (.lst (b.map D.str)),M,M,M,M,M,M,M]=Y (.lst (a.map cm))/\1<=a.length/\a.length<=3/\∀p∈a,gz 4 p.2.2:=by
 obtain⟨e,k,_⟩:=zN c f 100 12 (by decide) (by decide) (by decide) (by decide);obtain⟨a,d,l,j,i,h⟩:=(Ak b g 3).2 12 e (by decide);refine⟨a,?_,j,i,h⟩;have n:qY jP (aC (eV 0) (aC (eK (.int 100)) (aC (eK (.int 12)) aN))) [Y (.mD c),Y (.lst (b.map D.str)),M,M,M,M,M,M,M]=Y (e.map D.int):=(show _=jP [.mD c,.int 100,.int 12] from rfl).trans k;have m:vC [.lst (e.map D.int),.int 3,.lst (b.map D.str)]=Y (.lst (a.map cm),d.map D.int):=l;exact JU n rfl m
structure P_(fit:Int->Int->Int)(r:jB):Prop where
 sm:Sm 63 r.fits
 ft:Le r.fits (fit r.named r.atoms)
structure Lax(inner:Int)(pr r:jB):Prop where
 re:Le r.bu (Dc inner pr.bu pr.ra r.fits)
 ra:Le r.ra (bO pr.ra r.bu)
structure KR(fit:Int->Int->Int)(inner:Int)(rows:List jB):Prop where
 rl:∀(i:Nat) (r:jB),rows[i+1]?=some r->P_ fit r
 ch:∀(i:Nat) (p r:jB),rows[i]?=some p->rows[i+1]?=some r->Lax inner p r
structure Kp(fit:Int->Int->Int)(inner:Int)(rows Ll:List jB):Prop where
 nu:Ll.map (·.number)=rows.map (·.number)
 re:Ll.map (·.bu)=rows.map (·.bu)
 kr:KR fit inner rows->KR fit inner Ll
section
variable {f:EO}{v:Int}
theorem Kp.trans(h:Kp n a o A)(g:Kp n a A G):Kp n a o G:=⟨g.nu.trans h.nu,g.re.trans h.re,λz=>g.kr (h.kr z)⟩
theorem Kp.set{i:Nat}{r r':jB}(h:o[i]?=Y r)(k:r'.number=r.number)(d:r'.bu=r.bu)(f:r'.ra=r.ra)(g:P_ n r->P_ n r'/\Le r.fits r'.fits):Kp n a o (o.set i r'):=by
 refine⟨?_,?_,λK=>⟨λj s e =>?_,λj p s b c =>?_⟩⟩
 ·rw[vJ,k];exact gf (by rw[aY,h];rfl)
 ·rw[vJ,d];exact gf (by rw[aY,h];rfl)
 ·by_cases z:i=j+1
  ·subst z;rw[bj (au.mp h).1]at e;cases e;exact(g (K.rl j r h)).1
  ·rw[aj z]at e;exact K.rl j s e
 ·by_cases z:i=j+1
  ·subst z;rw[bj (au.mp h).1]at c;cases c;rw[aj (by omega)]at b;have L:=K.ch j p r b h;refine⟨?_,by rw[d,f];exact L.ra⟩;rw[d];exact λi e=>QV (λ_ h=>h) (λ_ h=>h) (g (K.rl j r h)).2 i (L.re i e)
  ·rw[aj z]at c;by_cases y:i=j
   ·subst y;rw[bj (au.mp h).1]at b;cases b;have L:=K.ch i r s h c;exact⟨by rw[d,f];exact L.re,by rw[f];exact L.ra⟩
   ·rw[aj y]at b;exact K.ch j p s b c
theorem Kp.atoms(W:FW f v n B C E){i:Nat}{r:jB}(h:o[i]?=Y r)(x:Int):Kp n a o (o.set i { r with atoms:=bO r.atoms x }):=
 .set h rfl rfl rfl λL=>⟨⟨L.sm,λi e=>W.mono _ _ _ (Mi _ _) i (L.ft i e)⟩,λ_ h=>h⟩
theorem FE(W:FW f v n B C E):∀(p:Nat) (b:Bool) (o:List jB),Kp n a o (Dv n B b p o)
 |0,b,o=>by cases b<;>exact⟨rfl,rfl,id⟩
 |p+1,Z_,o=>⟨rfl,rfl,id⟩| p+1,Z',o=>by
  unfold Dv;split
  ·rename_i r c e d;refine .trans (.trans (.set (r':={ r with fits:=n r.named r.atoms }) e rfl rfl rfl λL=>⟨⟨W.sm _ _,λ_ h=>h⟩,L.ft⟩) (.atoms W (r:=c) (i:=p) ?_ _)) (FE W p _ _);rw[aj (by omega)];exact d
  ·exact⟨rfl,rfl,id⟩
theorem DW{b:Type}(p:b->Bool):∀l:List b,(l.filter p).length+(l.filter λx=> !p x).length=l.length
 |[]=>rfl|x::l=>by have:=DW p l;rw[E8,E8];cases p x<;>simp<;>omega
def Bd(k:Nat)(b:List Int):Nat:=(b.filter λx=> !tz x k).length
theorem oE(x:Int)(b:List Int):Bd k (x::b)=(if tz x k then 0 else 1)+Bd k b:=by
 unfold Bd;rw[E8];cases tz x k
 ·simp;omega
 ·simp
theorem K_:∀(b:List jB) (p q:jB),Le p.bu q.bu->Le p.ra q.ra->KR n a (p::b) ->
  WA a q b/\KR n a (q::lP a q b)/\(lP a q b).map (·.number)=b.map (·.number)/\(vl a (2 ^ k) q b).length+Bd k ((lP a q b).map (·.bu))<=Bd k (b.map (·.bu))
 |[],p,q,j,f,K=>⟨trivial,⟨λi r e=>(by simp[lP]at e),λi p r _ e=>(by simp[lP]at e)⟩,rfl,aS _⟩
 | r::b,p,q,j,f,K=>by
  have L:=K.ch 0 p r rfl rfl;have R:=K.rl 0 r rfl;have g:Le r.bu (pw a q r).bu:=λi e=>QV j f (λ_ h=>h) i (L.re i e)
  have x:Le r.ra (pw a q r).ra:=λi e=>Mj f g i (L.ra i e)
  obtain⟨z,l,y,D⟩:=K_ b r (pw a q r) g x ⟨λi s e=>K.rl (i+1) s e,λi s t d c=>K.ch (i+1) s t d c⟩;have s:=(FH (x:=bO q.bu (bA q.ra a)) R.sm);refine⟨⟨by have:=s.1;have:=s.2;omega,z⟩,⟨λi t e =>?_,λi t u d c =>?_⟩,?_,?_⟩
  ·cases i with|zero=>cases e;exact⟨R.sm,R.ft⟩|succ i=>exact l.rl i t e
  ·cases i with
   |zero=>cases d;cases c;exact⟨λ_ h=>h,λ_ h=>h⟩
   |succ i=>exact l.ch i t u d c
  ·show r.number::_=r.number::_;rw[y]
  ·show ((if Cn a (2 ^ k) q r then [r.number] else [])++vl a (2 ^ k) (pw a q r) b).length+Bd k ((pw a q r).bu::_)<=Bd k (r.bu::_);rw[oE,oE,aQ];have e:Cn a (2 ^ k) q r=(tz (pw a q r).bu k && !tz r.bu k):=by show (bA (bA (pw a q r).bu (bN r.bu)) (2 ^ k) != 0)=_;rw[KE,vS,yy]
   rw[e];have m:=g k;cases h:tz r.bu k with
   |true=>rw[m h];simp;omega|false=>cases tz (pw a q r).bu k<;>simp<;>omega
structure SI(f:EO)(qf:Int)(fit:Int->Int->Int)(c:jg)(nl d:Nat)(b:Bool):Prop where
 ff:c.f=f
 fa:c.qf=qf
 fu:c.full=2 ^ f.q.length
 len:c.rows.length=d+1
 kr:KR fit f.inner c.rows
 pl:∀y∈c.rests,TY c.rows y
 nd:(c.rests.map (·.num)++c.rows.map (·.number)).Nodup
 lt:∀x∈c.rests.map (·.num)++c.rows.map (·.number),x<c.opened
 RO:((nl+c.rests.length+Bd f.q.length (c.rows.map (·.bu)):Nat):Int)<=c.opened+1
 cnt:((c.rests.length+c.rows.length:Nat):Int)<=c.opened+1
 tk:c.opened<=c.taken
 op:b=decide (0<c.opened)
theorem SI.keep(I:SI f v n c w d b)(K:Kp n f.inner c.rows o):SI f v n { c with rows:=o } w d b:=by
 have g:o.length=c.rows.length:=by have:=congrArg Uk K.nu;simpa using this
 have h:=I.nd;have i:=I.lt;have e:=I.RO;have j:=I.tk;rw[<- K.nu]at h i;rw[<- K.re]at e;exact⟨I.ff,I.fa,I.fu,g.trans I.len,K.kr I.kr,λy k=>by have:=I.pl y k;unfold TY at this ⊢;rw[g];exact this,h,i,e,by show ((_+o.length:Nat):Int)<=_;rw[g];exact I.cnt,j,I.op⟩
theorem SI.Z8(I:SI f v n c w d b):SI f v n (mK c) w d b:=⟨I.ff,I.fa,I.fu,I.len,I.kr,I.pl,I.nd,I.lt,I.RO,I.cnt,by have:=I.tk;show c.opened<=c.taken+1;omega,I.op⟩
theorem SI.UY(I:SI f v n c w d b)(K:c.opened<=60):∃(q:List Int) (j:jg),dG [bE c]=Y (.lst (q.map D.int),bE j)/\SI f v n j (w+q.length) d b/\j.taken=c.taken/\j.opened=c.opened:=by
 obtain⟨t,g,e⟩:∃t g,c.rows=t::g:=by
  cases h:c.rows with
  |nil=>have:=I.len;rw[h]at this;cases this
  |cons t g=>exact⟨t,g,rfl⟩
 obtain⟨J,H,p,N⟩:=K_ (k:=f.q.length) g t t (λ_ h=>h) (λ_ h=>h) (e ▸ I.kr);have m:=I.cnt;have l:=I.RO;have a:(vl f.inner (2 ^ f.q.length) t g).length<=g.length:=by have:Bd f.q.length (g.map (·.bu))<=g.length:=bK (Q9 _ _) (by simp);omega
 rw[e]at m l;rw[a_,oE]at l;rw[aP]at m;have L:(c.rests.filter (mH (t::lP f.inner t g))).length+(c.rests.filter λr=> !mH (t::lP f.inner t g) r).length=c.rests.length:=DW _ _;have s:=Av (c:=c) e (by rw[I.ff];exact J) I.pl (by rw[I.ff,I.fu,aQ,ax];omega) (by omega) (by omega);rw[I.ff,I.fu]at s;have k:(t::lP f.inner t g).length=c.rows.length:=by have:=congrArg Uk p;rw[ax,ax]at this;rw[e,aP,aP,this]
 have F:(t::lP f.inner t g).map (·.number)=c.rows.map (·.number):=by rw[e,a_,a_,p]
 have i:((c.rests.filter λr=> !mH (t::lP f.inner t g) r).map (·.num)++(t::lP f.inner t g).map (·.number)).Sublist (c.rests.map (·.num)++c.rows.map (·.number)):=by rw[F];exact((UU).map _).append (kD _)
 refine⟨_,_,s,⟨I.ff,I.fa,I.fu,k.trans I.len,H,λy u =>?_,i.nodup I.nd,λx z=>I.lt x (i.subset z),?_,?_,I.tk,I.op⟩,rfl,rfl⟩
 ·have:=I.pl y (iA.mp u).1;show 0<=y.place/\y.place<(t::lP f.inner t g).length;rw[k];exact this
 ·show ((w+_+(c.rests.filter λr=> !mH (t::lP f.inner t g) r).length+Bd f.q.length (t.bu::(lP f.inner t g).map (·.bu)):Nat):Int)<=c.opened+1;rw[oE,(rV _).length_eq,aQ,ax];omega
 ·show (((c.rests.filter λr=> !mH (t::lP f.inner t g) r).length+(t::lP f.inner t g).length:Nat):Int)<=c.opened+1;rw[k,e,aP];omega
end
section
variable {f:EO}{v:aG->Int}
theorem Hv(h:rows≠[]):∃b r,rows=b++[r]:=⟨rows.dropLast,rows.getLast h,(List.dropLast_concat_getLast h).symm⟩
theorem Hn(c b:List Int):Bd k (c++b)=Bd k c+Bd k b:=by unfold Bd;rw[List.filter_append,aQ]
theorem KR.app{r:jB}(K:KR a t rows)(h:P_ a r)(c:r.bu=0)(b:r.ra=0):KR a t (rows++[r]):=by
 have g:∀(i:Nat) (s:jB),(rows++[r])[i]?=Y s->rows[i]?=Y s∨(i=rows.length/\s=r):=λi s e=>by
  rcases Nat.lt_trichotomy i rows.length with z|z|z
  ·rw[fo z]at e;exact .inl e
  ·subst z;rw[List.getElem?_concat_length]at e;cases e;exact .inr ⟨rfl,rfl⟩
  ·rw[ia (by rw[aQ,cI];omega)]at e;cases e
 refine⟨λi s e =>?_,λi p s f d =>?_⟩
 ·rcases g _ s e with z|⟨_,rfl⟩
  ·exact K.rl i s z
  ·exact h
 ·rcases g _ s d with z|⟨z,rfl⟩
  ·rcases g _ p f with y|⟨y,rfl⟩
   ·exact K.ch i p s y z
   ·have:=(au.mp z).1;omega
  ·exact⟨by rw[c];exact Iu _,by rw[b];exact Iu _⟩
theorem KR.pop(K:KR a t (rows++[r])):KR a t rows:=by
 have g:∀(i:Nat) (s:jB),rows[i]?=Y s->(rows++[r])[i]?=Y s:=λi s e=>by rw[fo (au.mp e).1];exact e
 exact⟨λi s e=>K.rl i s (g _ s e),λi p s c b=>K.ch i p s (g _ p c) (g _ s b)⟩
theorem SI.open(W:FW f o a u v w)(I:SI f o a c j d b)(n:Int)(p:jB):SI f o a (OS a u (mK c) n p) j (d+1) true:=by
 have h:SI f o a { mK c with opened:=c.opened+1,rows:=c.rows++[CG a (mK c) c.opened n 0 p] } j (d+1) true:=by
  have i:=I.RO;have q:=I.cnt;have m:=I.tk;have k:=I.len;have l:(0:Int)<=c.opened:=by omega
  refine⟨I.ff,I.fa,I.fu,?_,I.kr.app ⟨W.sm _ _,λ_ h=>h⟩ rfl rfl,λy g =>?_,?_,λx e =>?_,?_,?_,?_,(decide_eq_true (by show 0<c.opened+1;omega)).symm⟩
  ·show (c.rows++[_]).length=_;rw[aQ,k];rfl
  ·have:=I.pl y g;show 0<=y.place/\y.place<((c.rows++[_]).length:Int);rw[aQ,cI];unfold TY at this;omega
  ·show (c.rests.map (·.num)++(c.rows++[_]).map jB.number).Nodup;rw[cq,<- bZ];refine iV.mpr ⟨I.nd,by simp,λx e y g =>?_⟩;have:=I.lt x e;rw[cx.mp g];show x≠c.opened;omega
  ·have e:x∈c.rests.map (·.num)++(c.rows++[CG a (mK c) c.opened n 0 p]).map (·.number):=e;rw[cq,<- bZ]at e;show x<c.opened+1;rcases bq.mp e with z|z
   ·have:=I.lt x z;omega
   ·rw[cx.mp z];show c.opened<c.opened+1;omega
  ·show ((j+c.rests.length+Bd f.q.length ((c.rows++[_]).map jB.bu):Nat):Int)<=c.opened+1+1;rw[cq,Hn];show ((_+(_+Bd _ [0]):Nat):Int)<=_;rw[oE,xX];have i:((j+c.rests.length+Bd f.q.length (c.rows.map jB.bu):Nat):Int)<=c.opened+1:=i;show ((_+(_+(1+0)):Nat):Int)<=_;omega
  ·show ((c.rests.length+(c.rows++[_]).length:Nat):Int)<=c.opened+1+1;rw[aQ,cI];omega
  ·show c.opened+1<=c.taken+1;omega
 exact h.keep (FE W _ _ _)
theorem Sg(c:jg)(p:Nat)(r q:jB)(m:uF):(B4 c p r q m).num=m.num:=by unfold B4;split<;>rfl
theorem SI.close(I:SI f o a c j d b)(hd:0<d):∃rs p r,c.rows=rs++[p]++[r]/\((rn (jK c) r).map (·.num)).Nodup/\((rn (jK c) r).length:Int)<=c.opened+1/\SI f o a (Cr (mK c) r p) j (d-1) b:=by
 have hl:=I.len;obtain⟨rs1,r,e⟩:=Hv (rows:=c.rows) (λz=>by rw[z]at hl;simp at hl);have SY:rs1.length=d:=by rw[e,aQ,cI]at hl;omega
 obtain⟨rs,p,rfl⟩:=Hv (rows:=rs1) (λz=>by rw[z]at SY;simp at SY;omega);have ep:(jK c).rows=rs++[p]:=by show c.rows.dropLast=_;rw[e,xV]
 have hp:=I.RO;have hc:=I.cnt;have ht:=I.tk;have hn:=I.nd;have QU:=I.lt;rw[e,cq]at hn QU;rw[e,cq,Hn]at hp;have hx:Bd f.q.length ([r].map (·.bu))=if tz r.bu f.q.length then 0 else 1:=oE _ _
 rw[hx]at hp;rw[e,aQ,cI]at hc;have ha:∃X:List uF,rn (jK c) r=c.rests++X/\X.length=(if tz r.bu f.q.length then 0 else 1)/\(∀m∈X,m.num=r.number/\m.place=d)/\(X.map (·.num)).Sublist [r.number]:=by
  unfold rn;rw[show (jK c).full=2 ^ f.q.length from I.fu,KE,ep,SY];refine⟨_,rfl,?_⟩;cases tz r.bu f.q.length
  ·exact⟨rfl,λm hm=>by rw[cx.mp hm];exact⟨rfl,rfl⟩,kD _⟩
  ·exact⟨rfl,λm hm=>by simp at hm,List.nil_sublist _⟩
 obtain⟨X,eX,hX,hX2,hX3⟩:=ha;have n1:(((rn (jK c) r).map (·.num))++(rs++[p]).map (·.number)).Nodup:=by rw[eX,cq,bZ];refine List.Perm.nodup (List.Perm.append_left _ Q8) (List.Sublist.nodup ?_ hn);exact(kD _).append ((kD _).append hX3)
 have l1:∀x∈((rn (jK c) r).map (·.num))++(rs++[p]).map (·.number),x<c.opened:=λx hx=>by
  refine QU x ?_;rw[eX,cq,bZ]at hx;rcases bq.mp hx with z|z
  ·exact bc _ z
  ·rcases bq.mp z with z|z
   ·exact aR _ (aR _ (hX3.subset z))
   ·exact aR _ (bc _ z)
 have k1:(rn (jK c) r).length=c.rests.length+if tz r.bu f.q.length then 0 else 1:=by rw[eX,aQ,hX]
 generalize hA:rn (jK c) r=A at n1 l1 k1 eX;have pm:((u_ A).map (·.num)).Perm (A.map (·.num)):=(pO A).map _;have er:(Cr (mK c) r p).rests=((u_ A).map (B4 (jK (mK c)) d r p)).filter qW:=by show ((u_ (rn (jK c) r)).map (B4 (jK (mK c)) (jK c).rows.length r p)).filter qW=_;rw[hA,ep,SY]
 have sb:((Cr (mK c) r p).rests.map (·.num)).Sublist ((u_ A).map (·.num)):=by rw[er];have:=(UU (p:=qW) (l:=(u_ A).map (B4 (jK (mK c)) d r p))).map (·.num);rwa [C4,show ((λx:uF=>x.num) ∘ B4 (jK (mK c)) d r p)=(·.num) from funext λm=>Sg ..]at this
 have kr:(Cr (mK c) r p).rests.length<=A.length:=by have:=sb.length_le;rwa [ax,ax,(pO A).length_eq]at this
 refine⟨rs,p,r,e,by rw[hA];exact(iV.mp n1).1,?_,I.ff,I.fa,I.fu,?_,?_,λy hy =>?_,?_,λx hx =>?_,?_,?_,?_,I.op⟩
 ·rw[hA,k1];split<;>omega
 ·show (jK c).rows.length=_;rw[ep,SY];omega
 ·show KR a f.inner (jK c).rows;rw[ep];exact KR.pop (e ▸ I.kr)
 ·rw[er]at hy;obtain⟨m,hm,rfl⟩:=lM.mp (iA.mp hy).1;have hm:=(pO A).subset hm;have h2:0<=m.place/\m.place<=d:=by
   rw[eX]at hm;rcases bq.mp hm with z|z
   ·have:=I.pl m z;unfold TY at this;omega
   ·rw[(hX2 m z).2];omega
  show 0<=_/\_<((jK c).rows.length:Int);rw[ep,SY];unfold B4;split
  ·show 0<=m.place-1/\m.place-1<_;omega
  ·omega
 ·show (_++(jK c).rows.map (·.number)).Nodup;rw[ep];exact List.Sublist.nodup (sb.append (kD _)) (List.Perm.nodup (pm.symm.append_right _) n1)
 ·have hx:x∈(Cr (mK c) r p).rests.map (·.num)++(jK c).rows.map (·.number):=hx;rw[ep]at hx;show x<c.opened;exact l1 x ((pm.append_right _).subset ((sb.append (kD _)).subset hx))
 ·show ((j+_+Bd _ ((jK c).rows.map (·.bu)):Nat):Int)<=c.opened+1;rw[ep];omega
 ·show ((_+(jK c).rows.length:Nat):Int)<=c.opened+1;rw[ep,SY];split at k1<;>omega
 ·show c.opened<=c.taken+1;omega
end
variable {f:EO}{m:Nat}
theorem SI.step(W:FW f g a j l k)(I:SI f g a c m d b)(P:c.taken<=45)(s:pL){d':Nat}{b':Bool}(n:iy (d,b) s=Y (d',b')):
  ∃(q:List Int) (o:jg),dz [bE c,cG s]=Y (.lst (q.map D.int),bE o)/\SI f g a o (m+q.length) d' b'/\o.taken=c.taken+1:=by
 have N:=I.len;have A:Qe c.f a j:=by rw[I.ff];exact W.ok
 have z:WL c.f l k:=by rw[I.ff];exact W.st
 have C:=I.tk;have G:=I.cnt;have hw:0<d->decide (1<c.rows.length)=true:=λh=>decide_eq_true (by omega)
 have t:c.rows[c.rows.length-1]?=Y (c.rows[c.rows.length-1]'(by omega)):=bC (by omega);generalize (c.rows[c.rows.length-1]'(by omega))=r at t;have E:c.rows.getLast? = Y r:=by rw[Kq];exact t
 cases s with
 |cl=>
  by_cases i:0<d
  ·simp only[iy,if_pos i,gw,Ai]at n;obtain⟨rfl,rfl⟩:=n;obtain⟨L,p,r,e,K,O,H⟩:=I.close i;exact⟨[],_,Gi (hw i) (by rw[e,Ul]) (by show c.rows.dropLast.getLast? = _;rw[e,xV,Ul]) K (by omega),H,rfl⟩
  ·simp[iy,i]at n
 |tx x=>
  by_cases i:0<d
  ·simp only[iy,if_pos i,gw,Ai]at n;obtain⟨rfl,rfl⟩:=n;have J:SI f g a (CQ a j (mK c) (k x) r) m d b:=by
    unfold CQ;split
    ·exact I.Z8.keep (.trans (.atoms W (i:=c.rows.length-1) t _) (FE W _ _ _))
    ·exact I.Z8
   have y:(CQ a j (mK c) (k x) r).opened=c.opened/\(CQ a j (mK c) (k x) r).taken=c.taken+1:=by unfold CQ;split<;>exact⟨rfl,rfl⟩
   obtain⟨q,o,e,w,u,B⟩:=J.UY (by rw[y.1];omega);exact⟨q,o,JD A z (hw i) t (by omega) e,w,by rw[u,y.2]⟩
  ·simp[iy,i]at n
 |op x=>
  by_cases i:0<d∨b=Z_
  ·simp only[iy,if_pos i,gw,Ai]at n;obtain⟨rfl,rfl⟩:=n;have F:uq c (.op x)=true:=by
    show (decide (1<c.rows.length) || !decide (0<c.opened))=Z';rcases i with h|h
    ·rw[hw h];rfl
    ·rw[<- I.op,h,Kf,Bool.or_true]
   obtain⟨q,o,e,w,u,B⟩:=(I.open W (l x) r).UY (by show c.opened+1<=60;omega);have v:=FH (x:=bO r.p_ (bA r.ha c.f.inner)) (FH (x:=l x) W.qf);rw[<- I.fa]at v;exact⟨q,o,JE A z F E (by have:=v.1;have:=v.2;omega) (by omega) e,w,u⟩
  ·simp[iy,i]at n
theorem SI.new:SI f g a ⟨f,2 ^ f.q.length,g,0,0,[xp],[]⟩ 0 0 false:=
 ⟨rfl,rfl,rfl,rfl,⟨λi r e=>(by simp at e),λi p r _ e=>(by simp at e)⟩,λy b=>(by cases b),by show [(-1:Int)].Nodup;decide,λx c=>(by rw[cx.mp c];show (-1:Int)<0;decide),by show ((0+0+Bd _ [1]:Nat):Int)<=0+1;rw[oE];show ((_+(_+0):Nat):Int)<=_;split<;>omega,by show ((0+1:Nat):Int)<=0+1;decide,Um 0,rfl⟩
end K21
namespace K21
open PySem L2
def bS(c:jg):D :=.ins "Lean" ["coming"] [bE c]
abbrev oN(c:jg):Option D:=Y (.obj dI (bS c))
theorem Hs(h:cf [.ins "Coming" [] [],.lst q]=Y (.dJ,bE c)):fy [.ins "Lean" [] [],.lst q]=Y (.dJ,bS c):=by
 show (km [Y (.obj dI (.ins "Lean" [] [])),Y (.lst q)]).bind (lR dI)=_;unfold km;have e:iP "Coming" cf (aC (eV 1) aN) [Y (.obj dI (.ins "Lean" [] [])),Y (.lst q)]=Y (bE c):=by
  have:∀F,iP "Coming" F (aC (eV 1) aN) [Y (.obj dI (.ins "Lean" [] [])),Y (.lst q)]=(F [.ins "Coming" [] [],.lst q]).bind λr=>match r.1 with|.dJ=>Y r.2|_=>none:=λF=>rfl
  rw[this,h];rfl
 unfold pA;rw[e];simp only[ae];kernel_rfl
theorem Mg{s:pL}(h:dz [bE c,cG s]=Y (d,bE a)):jE [bS c,cG s]=Y (d,bS a):=by
 have:∀F,(dm (nz "Lean" "coming" "Coming" "feed" aD F 0 (aC (eV 1) aN)) [oN c,Y (cG s)]).bind (lR dI)=(F [bE c,cG s]).map λr=>(r.1,.ins "Lean" ["coming"] [r.2]):=λF=>by
  have e:nz "Lean" "coming" "Coming" "feed" aD F 0 (aC (eV 1) aN) [oN c,Y (cG s)]=(F [bE c,cG s]).map λr=>(r.1,[Y (.obj dI (.ins "Lean" ["coming"] [r.2])),Y (cG s)]):=by cases s<;>kernel_rfl
  unfold dm;rw[e];cases F [bE c,cG s]<;>rfl
 refine(this _).trans ?_;rw[h];rfl
theorem QS{F:List D->Option D}{m:aG}(h:m∉ck):dr "Coming" m F (bp "Lean" "coming" (eV 0)) aN [Y (bS c)]=F [bE c]:=by
 have:dr "Coming" m F (bp "Lean" "coming" (eV 0)) aN [Y (bS c)]=if ("Coming" : aG) = "Coming" /\m∉ck then F [bE c] else none:=rfl
 rw[this,if_pos ⟨rfl,h⟩]
theorem Mf(h:jF [bE c]=Y d):lH [bS c]=Y d:=by
 show (lA [Y (bS c)]).bind nL=_;unfold lA dF;rw[QS (by decide),h];rfl
theorem Ee(c:jg):ij [bS c]=Y (.bl (decide (0<c.opened)&&decide (c.rows.length=1))):=by
 show (lB [Y (bS c)]).bind nL=_;unfold lB dF;rw[QS (by decide),MR];rfl
def Dw(c:jg):D :=.tup [.int c.taken,.int c.opened,.lst [],.lst (c.rests.map cH)]
theorem BG(h:c.rows=[t])(k:c.rests.length<=1000):eR [bS c]=Y (Dw c):=by
 show (mw [Y (bS c),M,M]).bind nL=_;unfold mw;rw[aK (show dD 1 (bp "Lean" "coming" (eV 0)) [Y (bS c),M,M]=Y (.nx [Y (bS c),Y (bE c),M]) by kernel_rfl)];have e:bp "Coming" "rows" (eV 1) [Y (bS c),Y (bE c),M]=Y (.lst [cn t]):=by
  have:bp "Coming" "rows" (eV 1) [Y (bS c),Y (bE c),M]=Y (.lst (c.rows.map cn)):=by kernel_rfl
  rw[this,h];rfl
 have j:HF (bp "Coming" "rows" (eV 1)) (pS (eK (.int 1))) pN [Y (bS c),Y (bE c),M]=Y []:=by unfold HF;rw[e];kernel_rfl
 rw[aK (ρ':=[Y (bS c),Y (bE c),Y (.lst [])]) ?a]
 case a=>
  have a:iL (eF (HF (bp "Coming" "rows" (eV 1)) (pS (eK (.int 1))) pN)) [Y (bS c),Y (bE c),M]=Y []:=by unfold iL eF;rw[j];rfl
  have g:nj (iL (eF (HF (bp "Coming" "rows" (eV 1)) (pS (eK (.int 1))) pN))) [M] (gN 0) hI (dA (aC (bp "Row" "number" (eV 0)) (aC (bp "Row" "named" (eV 0)) (aC (bp "Row" "atoms" (eV 0)) aN)))) [Y (bS c),Y (bE c),M]=Y []:=by unfold nj;rw[a];kernel_rfl
  show (mJ D.lst (nj _ _ _ _ _ _)).map _=_;rw[g];rfl
 have i:zt (bp "Coming" "rests" (eV 1)) [Y (bS c),Y (bE c),Y (.lst [])]=Y (c.rests.map cH):=by unfold zt;rw[show bp "Coming" "rests" (eV 1) [Y (bS c),Y (bE c),Y (.lst [])]=Y (.lst (c.rests.map cH)) by kernel_rfl];rfl
 have f:bp "Coming" "taken" (eV 1) [Y (bS c),Y (bE c),Y (.lst [])]=Y (.int c.taken):=by kernel_rfl
 have d:bp "Coming" "opened" (eV 1) [Y (bS c),Y (bE c),Y (.lst [])]=Y (.int c.opened):=by kernel_rfl
 have b:eV 2 [Y (bS c),Y (bE c),Y (.lst [])]=Y (.lst []):=rfl;simp only[dF,dA,aC,aN,eF,f,d,b,i,ae,bP];rfl
theorem MM{s:pL}(h:uq c s=Z_):yr [bE c,cG s]=Y (.er "NoSign" c.taken):=by
 show (yi [Y (bE c),Y (cG s)]).bind LN=_;have b:decide (1<((c.rows.map cn).length:Int))=decide (1<c.rows.length):=by
  rw[ax];by_cases h:1<c.rows.length
  ·rw[decide_eq_true h,decide_eq_true (by omega)]
  ·rw[decide_eq_false h,decide_eq_false (by omega)]
 have a:kN (eH (bf iQ (aC (eV 1) (aC (e2 tR (bf iu (aC (bp "Coming" "rows" (eV 0)) aN)) (eK (.int 1))) (aC (e2 tR (bp "Coming" "opened" (eV 0)) (eK (.int 0))) aN))))) [Y (bE c),Y (cG s)]=Y true:=by unfold kN eH;rw[BA,b,Nk,show PX s _ _=Z_ from h];rfl
 unfold yi ba eI;rw[a];rfl
theorem KN{s:pL}(h:uq c s=Z_):sX [bS c,cG s]=Y (.er "NoSign" c.taken):=by
 show (yf [Y (bS c),Y (cG s)]).bind LN=_;have:∀F,rN "Coming" "feed" F (bp "Lean" "coming" (eV 0)) (aC (eV 1) aN) [Y (bS c),Y (cG s)]=if ("Coming" : aG) = "Coming" /\("feed" : aG)∉ck then F [bE c,cG s] else none:=λF=>rfl
 unfold yf G8;rw[this,if_pos ⟨rfl,by decide⟩,MM h];rfl
theorem sv(g:b->D)(h:∀a,i_ (g a) n=Z'):∀l:List b,lF (l.map g) n=Z'
 |[]=>rfl|a::l=>by rw[a_,lF,h a,sv g h l];rfl
def AE(c:jg):D :=.tup [.lst ((xr (Aj c)).map D.int),.bl (decide (0<c.opened)&&decide (c.rows.length=1)),Dw c]
theorem TU(c:jg):eP (AE c) (AE c)=Y (.bl Z'):=by
 have h:i_ (AE c) 180=true:=by have b:lF ((xr (Aj c)).map D.int) 178=true:=sv D.int (λ_=>by simp[i_]) _;have a:lF (c.rests.map cH) 177=true:=sv cH (λ_=>by simp[cH,i_,lF]) _;simp[AE,Dw,i_,lF,b,a]
 unfold eP;rw[if_pos (by rw[h];rfl),zK _ _ h]
theorem B7{F:List D->Option D}{m:aG}(h:m∉(["coming"]:List aG))(e:eV 0 a=Y (bS c)):dr "Lean" m F (eV 0) aN a=F [bS c]:=by
 have:dr "Lean" m F (eV 0) aN a=(eV 0 a).bind λx=>match x with|.ins d b f=>if d = "Lean" /\m∉b then F [.ins d b f] else M|_=>none:=rfl
 rw[this,e];exact if_pos ⟨rfl,h⟩
structure NY(c:jg)(t:jB):Prop where
 rows:c.rows=[t]
 rests:c.rests.length<=50
theorem NY.wts(h:NY c t):(Aj c).length<64:=by
 unfold Aj;have:=Q9 (N8 c.full) c.rows;have a:=h.rests;rw[h.rows]at this;rw[aQ,ax,ax,h.rows];simp only[aP,iB]at this;omega
theorem QZ{c:jg}(h:NY c t)(e:eV 0 a=Y (bS c)):fB a=Y (AE c):=by
 have b:=h.rests;unfold fB dA aC;rw[B7 (by decide) e,Mf (KA c (by omega) (by rw[h.rows];show 1<=500;decide) h.wts)];simp only[ae];rw[B7 (by decide) e,Ee];simp only[ae];rw[B7 (by decide) e,BG h.rows (by omega)];rfl
theorem yM(h:NY c t){s:pL}(a:uq c s=Z_):qj [bS c,cG s,.int c.taken]=Y (.bl Z'):=by
 show (sS [Y (bS c),Y (cG s),Y (.int c.taken),M,M,M,M]).bind nL=_;unfold sS;rw[aK (show dD 3 (eK .dJ) [Y (bS c),Y (cG s),Y (.int c.taken),M,M,M,M]=Y (.nx [Y (bS c),Y (cG s),Y (.int c.taken),Y .dJ,M,M,M]) from rfl)];rw[aK (show dD 4 (eK .dJ) [Y (bS c),Y (cG s),Y (.int c.taken),Y .dJ,M,M,M]=Y (.nx [Y (bS c),Y (cG s),Y (.int c.taken),Y .dJ,Y .dJ,M,M]) from rfl)];rw[aK (ρ':=[Y (bS c),Y (cG s),Y (.int c.taken),Y .dJ,Y .dJ,Y (AE c),M]) ?d]
 case d=>unfold dD;rw[QZ h rfl];rfl
 have b:∀F,rN "Lean" "take" F (eV 0) (aC (eV 1) aN) [Y (bS c),Y (cG s),Y (.int c.taken),Y .dJ,Y .dJ,Y (AE c),M]=if ("Lean" : aG) = "Lean" /\("take" : aG)∉(["coming"]:List aG) then F [bS c,cG s] else none:=λF=>rfl
 unfold GZ;rw[b,if_pos ⟨rfl,by decide⟩,KN a];simp only[ae];rw[show eV 2 [Y (bS c),Y (cG s),Y (.int c.taken),Y .dJ,Y .dJ,Y (AE c),M]=Y (.int c.taken) from rfl];simp only;rw[if_pos (by simp)];unfold dF e2;rw[QZ h (c:=c) (show eV 0 (zR c.taken _)=Y (bS c) from rfl),show eV 5 (zR c.taken [Y (bS c),Y (cG s),Y (.int c.taken),Y .dJ,Y .dJ,Y (AE c),M])=Y (AE c) from rfl];simp only[ae,TU];rfl
theorem FJ{c:jg}{t:jB}(h:c.rows=[t]):sZ [bE c]=Y []:=by
 show (sR [Y (bE c),M,M,M,M,M]).bind RY=_;unfold sR;rw[aK (show kQ 1 (fG aN) [Y (bE c),M,M,M,M,M]=Y (.nx [Y (bE c),Y (.lst []),M,M,M,M]) by kernel_rfl)];have e:bf iu (aC (bp "Coming" "rows" (eV 0)) aN) [Y (bE c),Y (.lst []),M,M,M,M]=Y (.int 1):=by
  have:bf iu (aC (bp "Coming" "rows" (eV 0)) aN) [Y (bE c),Y (.lst []),M,M,M,M]=Y (.int (c.rows.map cn).length):=by kernel_rfl
  rw[this,h];rfl
 have b:My (eK (.int 1)) (bf iu (aC (bp "Coming" "rows" (eV 0)) aN)) [Y (bE c),Y (.lst []),M,M,M,M]=Y []:=by unfold My;rw[e];kernel_rfl
 rw[aK (ρ':=[Y (bE c),Y (.lst []),M,M,M,M]) ?a]
 case a=>unfold ir;rw[b];rfl
 rfl
def IC(c a:jg):jg:={ a with taken:=c.taken,opened:=c.opened,rests:=c.rests }
abbrev Al(c:jg)(q:List D)(x:jg)(a:Option D):cy:=[Y (.lst q),Y (Dw c),oN x,a,M]
theorem Ky(f:cf [.ins "Coming" [] [],.lst q]=Y (.dJ,bE a))(b:a.rows=[t]):yp [.lst q,Dw c]=Y (bS (IC c a)):=by
 show (ye [Y (.lst q),Y (Dw c),M,M,M]).bind nL=_;unfold ye;have h:∀g:DG,Ha [3,1000003,2000002] g (Al c q a M)=g (Al c q a M):=λg=>if_pos (by kernel_rfl)
 rw[aK (ρ':=(Al c q a M)) ?o,h,aK (ρ':=(Al c q a (Y (.dN 2 [.fld "coming"])))) ?n,aK (ρ':=(Al c q { a with taken:=c.taken } (Y (.dN 2 [.fld "coming"])))) ?m,aK (ρ':=(Al c q { a with taken:=c.taken,opened:=c.opened } (Y (.dN 2 [.fld "coming"])))) ?l,aK (ρ':=(Al c q { a with taken:=c.taken,opened:=c.opened } (Y (.dN 2 [.fld "coming"])))) ?k,aK (ρ':=(Al c q { a with taken:=c.taken,opened:=c.opened } (Y (.dN 2 [.fld "coming"])))) ?j,aK (ρ':=(Al c q (IC c a) (Y (.dN 2 [.fld "coming"])))) ?i]
 case i=>kernel_rfl
 case j=>
  have:∀F,QY [2] [3] (Cp "Coming" "settle" F (eV 3)) (Al c q { a with taken:=c.taken,opened:=c.opened } (Y (.dN 2 [.fld "coming"])))=(F [bE { a with taken:=c.taken,opened:=c.opened }]).bind λd=>if pa d=Z' then Y d else none:=λF=>by kernel_rfl
  unfold eY mP eF;rw[this,FJ (c:={ a with taken:=c.taken,opened:=c.opened }) (t:=t) b];rfl
 case k=>kernel_rfl
 case l=>kernel_rfl
 case m=>kernel_rfl
 case n=>kernel_rfl
 case o=>
  have e:iP "Lean" fy (aC (eV 0) aN) [Y (.lst q),Y (Dw c),M,M,M]=Y (bS a):=by
   have:∀F,iP "Lean" F (aC (eV 0) aN) [Y (.lst q),Y (Dw c),M,M,M]=(F [.ins "Lean" [] [],.lst q]).bind λr=>match r.1 with|.dJ=>Y r.2|_=>none:=λF=>rfl
   rw[this,Hs f];rfl
  unfold w1;rw[e];rfl
 rfl
theorem Ii{q:D}{qs:List D}(i:NY c t)(f:NY x u)(g:x.taken=c.taken):∀(b:List pL) (a:Option D),(∀s∈b,uq c s=Z_/\uq x s=Z_)->∃d,gx (gN 5) mV (b.map cG) [Y (bS c),Y q,Y (.lst qs),Y (.int c.taken),Y (bS x),a]=Y (.nx [Y (bS c),Y q,Y (.lst qs),Y (.int c.taken),Y (bS x),d])
 |[],a,_=>⟨a,rfl⟩| s::b,a,h=>by
  obtain⟨n,m⟩:=h s ay;obtain⟨d,ih⟩:=Ii (q:=q) (qs:=qs) i f g b (Y (cG s)) λy l=>h y (aw _ l)
  refine⟨d,?_⟩;rw[a_,mT (ρ1:=[Y (bS c),Y q,Y (.lst qs),Y (.int c.taken),Y (bS x),Y (cG s)]) (a:=[Y (bS c),Y q,Y (.lst qs),Y (.int c.taken),Y (bS x),Y (cG s)]) rfl ?_,ih];unfold mV;have k:∀F,bf F (aC (eV 0) (aC (eV 5) (aC (eV 3) aN))) [Y (bS c),Y q,Y (.lst qs),Y (.int c.taken),Y (bS x),Y (cG s)]=F [bS c,cG s,.int c.taken]:=λF=>rfl
  have j:∀F,bf F (aC (eV 4) (aC (eV 5) (aC (eV 3) aN))) [Y (bS c),Y q,Y (.lst qs),Y (.int c.taken),Y (bS x),Y (cG s)]=F [bS x,cG s,.int c.taken]:=λF=>rfl
  have e:=yM f m;rw[g]at e;unfold eI tm kN eH;rw[k,j,yM i n,e];rfl
theorem sA{q:List D}(d:NY c t)(k:cf [.ins "Coming" [] [],.lst q]=Y (.dJ,bE b))(i:b.rows=[u])(a:List pL)(h:∀s∈a,uq c s=Z_):je [bS c,.lst q,.lst (a.map cG),.int c.taken]=Y (.bl Z'):=by
 have f:NY (IC c b) u:=⟨i,d.rests⟩;obtain⟨n,e⟩:=Ii (q :=.lst q) (qs:=a.map cG) d f rfl a M λs g=>⟨h s g,by have:=h s g;unfold uq at this ⊢;rw[show (IC c b).rows.length=c.rows.length by rw[d.rows,f.rows];rfl];exact this⟩
 show (mv [Y (bS c),Y (.lst q),Y (.lst (a.map cG)),Y (.int c.taken),M,M]).bind nL=_;unfold mv;rw[aK (ρ':=[Y (bS c),Y (.lst q),Y (.lst (a.map cG)),Y (.int c.taken),Y (bS (IC c b)),M]) ?m]
 case m=>
  have:∀F,bf F (aC (eV 1) (aC (dr "Lean" "asleep" eR (eV 0) aN) aN)) [Y (bS c),Y (.lst q),Y (.lst (a.map cG)),Y (.int c.taken),M,M]=((dr "Lean" "asleep" eR (eV 0) aN [Y (bS c),Y (.lst q),Y (.lst (a.map cG)),Y (.int c.taken),M,M]).bind λx=>Y [x]).bind λj=>F (.lst q::j):=λF=>by unfold bf aC;cases dr "Lean" "asleep" eR (eV 0) aN [Y (bS c),Y (.lst q),Y (.lst (a.map cG)),Y (.int c.taken),M,M]<;>rfl
  unfold dD;rw[this,B7 (by decide) rfl,BG d.rows (by have:=d.rests;omega)];simp only[ae];rw[Ky k i];rfl
 rw[aK (ρ':=[Y (bS c),Y (.lst q),Y (.lst (a.map cG)),Y (.int c.taken),Y (bS (IC c b)),n]) ?l]
 case l=>exact e
 rfl
section
variable {m:jg}{s:pL}
abbrev wE(ns:List Int)(nm q ss:List D)(x c:jg)(i:List Int)(l j:Option D):cy:=[Y (.mD ns),Y (.lst nm),Y (.lst q),Y (.lst ss),oN x,oS c i,l,j,M]
abbrev A6(a:Option D):Prop:=a=M∨∃s,a=Y (cG s)
abbrev A7(a:Option D):Prop:=a=M∨∃k,a=Y (.int k)
theorem Z5(b:A6 l)(a:A7 j):cS r (wE ns nm q ss x c i l j)=wE ns nm q ss x c i l j:=by
 rcases b with rfl|⟨s,rfl⟩<;>rcases a with rfl|⟨k,rfl⟩
 ·rfl
 ·rfl
 ·cases s<;>rfl
 ·cases s<;>rfl
theorem Pd(a:List Int):Au (.lst (a.map D.int)) (.lst (a.map D.int))=Y (.bl Z_):=by
 have h:i_ (.lst (a.map D.int)) 180=true:=(show i_ (.lst (a.map D.int)) 180=lF (a.map D.int) 179 from rfl).trans (sv D.int (λ_=>by simp[i_]) _);unfold Au;rw[if_pos (by rw[h];rfl),zK _ _ h];rfl
theorem KI(f:A6 l)(e:A7 j)(A:∀x c i,a (wE ns nm q ss x c i l j)=Y (cG s))(d:dz [bE c,cG s]=Y (.lst (o.map D.int),bE m))(z:(i++o).length<64)(g h:DG):
  IU Au (bQ "Lean" "take" dI jE 4 (iY (mP a) kf)) (bQ "Sift" "take" dH jC 5 (iY (mP a) kf)) g h (wE ns nm q ss c c i l j)=h (wE ns nm q ss m m (xr (i++o)) l j):=by
 have k:∀x c i,iY (mP a) kf (wE ns nm q ss x c i l j)=Y ([cG s],wE ns nm q ss x c i l j):=λx c i=>by unfold iY mP;rw[A];rfl
 have n:∀F g,bQ "Lean" "take" dI F 4 g (wE ns nm q ss c c i l j)=(g (wE ns nm q ss c c i l j)).bind λq=>(kT dI 4 q.2).bind λt=>(F (t::q.1)).map λr=>(r.1,(cS 4 q.2).set 4 (Y (.obj dI r.2))):=λF g=>by kernel_rfl
 have b:∀F g,bQ "Sift" "take" dH F 5 g (wE ns nm q ss m c i l j)=(g (wE ns nm q ss m c i l j)).bind λq=>(kT dH 5 q.2).bind λt=>(F (t::q.1)).map λr=>(r.1,(cS 5 q.2).set 5 (Y (.obj dH r.2))):=λF g=>by kernel_rfl
 have C:bQ "Lean" "take" dI jE 4 (iY (mP a) kf) (wE ns nm q ss c c i l j)=Y (.lst (o.map D.int),wE ns nm q ss m c i l j):=by rw[n,k,ae,show kT dI 4 (wE ns nm q ss c c i l j)=Y (bS c) by kernel_rfl,ae,Mg d,Z5 f e];rfl
 have B:bQ "Sift" "take" dH jC 5 (iY (mP a) kf) (wE ns nm q ss m c i l j)=Y (.lst (o.map D.int),wE ns nm q ss m m (xr (i++o)) l j):=by rw[b,k,ae,show kT dH 5 (wE ns nm q ss m c i l j)=Y (vV c i) by kernel_rfl,ae,Oa d z,Z5 f e];rfl
 unfold IU m2;rw[C,ae,B,ae,Pd];rfl
end
section
variable {f:EO}{v:Int->Int->Int}
theorem QR(W:FW f p u v w y):∀(k:List pL) (c:jg) (i:List Int) (a:Option D) (d:Nat) (b:Bool) (z:Nat×Bool),A6 a->SI f p u c i.length d b->xw k (d,b)=Y z->c.taken+k.length<=45 ->
  ∃n r L,gx (gN 6) CH (k.map cG) (wE ns nm q ss c c i a M)=Y (.nx (wE ns nm q ss n n r L M))/\A6 L/\SI f p u n r.length z.1 z.2/\n.taken=c.taken+k.length/\(b=Z'∨k≠[]->z.2=Z')
 |[],c,i,a,d,b,z,G,I,t,F=>by cases t;exact⟨c,i,a,rfl,G,I,by simp,λh=>by rcases h with h|h;exact h;exact absurd rfl h⟩
 | s::k,c,i,a,d,b,z,G,I,t,F=>by
  obtain⟨⟨K,A⟩,g,t⟩:=aa.1 (show (iy (d,b) s).bind (xw k)=Y z from t);rw[aP]at F;obtain⟨o,n,e,B,N⟩:=I.step W (by omega) s g;have hp:=B.RO;have hk:=B.tk;have P:(i++o).length<64:=by rw[aQ];omega
  have X:SI f p u n (xr (i++o)).length K A:=by rw[(rV _).length_eq,aQ];exact B
  have Q:A=true:=by
   cases A with
   |true=>rfl|false=>
    exfalso;have H:=I.op;have h2:=B.op;cases s with
    |op x=>simp only[iy]at g;split at g<;>simp at g|tx x=>
     simp only[iy]at g;split at g
     ·have S:=I.len;have R:=I.cnt;cases g;have:=of_decide_eq_false H.symm;omega
     ·cases g
    |cl=>
     simp only[iy]at g;split at g
     ·have S:=I.len;have R:=I.cnt;cases g;have:=of_decide_eq_false H.symm;omega
     ·cases g
  obtain⟨m,C,U,T,E,J,j,O⟩:=QR W k n (xr (i++o)) (Y (cG s)) K A z (.inr ⟨s,rfl⟩) X t (by omega);refine⟨m,C,U,?_,E,J,by rw[j,N,aP];omega,λ_=>O (.inl Q)⟩;rw[a_,mT (ρ1:=wE ns nm q ss c c i (Y (cG s)) M) rfl (KI (s:=s) (.inr ⟨s,rfl⟩) (.inl rfl) (λ_ _ _=>rfl) e P _ _)];exact T
theorem QQ(W:FW f p u v w y)(x:A6 a):∀(n:Nat) (k:Int) (c:jg) (i:List Int) (j:Option D) (b:Bool),A7 j->SI f p u c i.length n b->c.taken+n<=45 ->
  ∃d g h,gx (gN 7) H_ (ny k n) (wE ns nm q ss c c i a j)=Y (.nx (wE ns nm q ss d d g a h))/\A7 h/\SI f p u d g.length 0 b/\d.taken=c.taken+n
 |0,k,c,i,j,b,z,I,C=>⟨c,i,j,rfl,z,I,by simp⟩
 | n+1,k,c,i,j,b,z,I,C=>by
  obtain⟨o,d,e,t,B⟩:=I.step W (by omega) .cl (d':=n) (b':=b) (by simp[iy]);have K:=t.RO;have L:=t.tk;have E:(i++o).length<64:=by rw[aQ];omega
  have H:SI f p u d (xr (i++o)).length n b:=by rw[(rV _).length_eq,aQ];exact t
  obtain⟨m,r,G,F,s,J,A⟩:=QQ W x n (k+1) d (xr (i++o)) (Y (.int k)) b (.inr ⟨k,rfl⟩) H (by omega);refine⟨m,r,G,?_,s,J,by rw[A,B];omega⟩;rw[A9,mT (ρ1:=wE ns nm q ss c c i a (Y (.int k))) rfl (KI (s :=.cl) x (.inr ⟨k,rfl⟩) (λ_ _ _=>rfl) e E _ _)];exact F
theorem SI.rst(I:SI f p u c a 0 b)(g:c.taken<=45):∃t,NY c t:=by
 have d:=I.len;have k:=I.cnt;have h:=I.tk;obtain⟨t,e⟩:=List.length_eq_one_iff.mp d;exact⟨t,e,by omega⟩
end
theorem Gw{F:List D->Option D}{f:DF}(h:f a=Y d):bf F (aC f aN) a=F [d]:=by
 unfold bf aC aN;rw[h];rfl
theorem TN{F:List D->Option (List D)}{n:D}(f:g a=Y b)(d:eV 1 a=Y n)(h:F [.lst b,n]=Y c):eF (qY F (aC (eF g) (aC (eV 1) aN))) a=Y (.lst c):=by
 have e:aC (eF g) (aC (eV 1) aN) a=Y [.lst b,n]:=by unfold aC aN eF;rw[f,d];rfl
 unfold eF qY;rw[show aC (λa=>mJ D.lst (g a)) (aC (eV 1) aN) a=Y [.lst b,n] from e];show (F [.lst b,n]).map D.lst=_;rw[h];rfl
theorem SO{f:DF}(e:f a=Y (.int j))(h : -(2 ^ 62)<=j/\j<2 ^ 62):Pf f a=Y (ny 0 j.toNat):=by
 simp only[Pf,e,ae];rw[if_pos h]
theorem MK{f:DL}(e:f a=Y c):ir f b g a=gx b g c a:=by
 unfold ir;rw[e];rfl
theorem qZ{f:DF}(h:f a=Y x)(k:g a=Y b):aC f g a=Y (x::b):=by
 unfold aC;rw[h,k];rfl
theorem Fo(h:g b=Y a)(c:a.length<=1000):dA g b=Y (.tup a):=by
 unfold dA;rw[h];exact if_pos c
theorem Sl(h:g b=Y a)(c:a.length<=1000):eF (fG g) b=Y (.lst a):=by
 unfold eF fG;rw[h];simp[c]
theorem K9(a:List pL):eP (.lst (a.map cG)) (.lst [])=Y (.bl (decide (a=[]))):=by
 have h:i_ (.lst (a.map cG)) 180=true:=(show i_ (.lst (a.map cG)) 180=lF (a.map cG) 179 from rfl).trans (sv cG (λs=>by cases s<;>simp[cG,i_,lF]) _);unfold eP;rw[if_pos (by rw[h];rfl)];cases a with
 |nil=>rfl|cons g a=>simp[tV,qG]
abbrev vE(h:List Int)(g:List aG)(f:List (aG×aG×D))(i:List pL)(a b c d e:Option D):cy:=[Y (.mD h),Y (.lst (g.map D.str)),Y (.lst (f.map cm)),Y (.lst (i.map cG)),a,b,c,d,e]
abbrev uE(g:List Int)(e:List aG)(d:List (aG×aG×D))(h:List pL)(x c:jg)(f:List Int)(a b:Option D):cy:=vE g e d h (oN x) (oS c f) a b M
theorem Mo(ns:List Int)(SW:ns.length<=63):ER [.mD ns]=Y (.bl Z'):=by
 obtain⟨nms,en,hn⟩:=L9 ns SW;obtain⟨gE,eq,h1,h3,hw⟩:=DR ns SW nms hn;obtain⟨xs,ex,_,hxl⟩:=zN ns SW 500 20 (by decide) (by decide) (by decide) (by decide);obtain⟨ss,dep,es,hsg,YO⟩:=K8 xs nms (by omega) hn;obtain⟨gs,gd,gb,rfl,VW,_,_⟩:=hsg.ex;obtain⟨f,fit,lift,Ux,txt,hf,hfq,W⟩:=V8 (n:=4) (by decide) gE hw h3 (by rw[show Zb 4=120 from by decide];omega);have hql:f.q.length=gE.length:=by rw[hfq,ax]
 have hab:jQ [.lst f.q]=Y (.int (xJ 4 0 0 gE)):=by rw[hfq];exact P7 (by decide) gE hw (by omega)
 have MD:=JR (by omega) hf hab;have I0:SI f (xJ 4 0 0 gE) fit ⟨f,2 ^ f.q.length,xJ 4 0 0 gE,0,0,[xp],[]⟩ ([]:List Int).length 0 false:=SI.new;have hc0:(⟨f,2 ^ f.q.length,xJ 4 0 0 gE,0,0,[xp],[]⟩:jg).rows=[xp]/\(⟨f,2 ^ f.q.length,xJ 4 0 0 gE,0,0,[xp],[]⟩:jg).taken=0/\(⟨f,2 ^ f.q.length,xJ 4 0 0 gE,0,0,[xp],[]⟩:jg).rests=[]:=⟨rfl,rfl,rfl⟩;generalize (⟨f,2 ^ f.q.length,xJ 4 0 0 gE,0,0,[xp],[]⟩:jg)=c0 at MD I0 hc0;obtain⟨UB,ht0,hs0⟩:=hc0;have R0:NY c0 xp:=⟨UB,by rw[hs0];decide⟩;have hgl:gs.length<=20:=by rw[ax]at YO;omega
 have hgo:∀s,(∀x,s≠pL.op x)->uq c0 s=false:=λs h=>by
  unfold uq;rw[UB];cases s with
  |op x=>exact absurd rfl (h x)|tx x=>rfl|cl=>rfl
 show (HA [Y (.mD ns),M,M,M,M,M,M,M,M]).bind nL=_;unfold HA;rw[aK (ρ':=[Y (.mD ns),Y (.lst (nms.map D.str)),M,M,M,M,M,M,M]) ?q1,aK (ρ':=[Y (.mD ns),Y (.lst (nms.map D.str)),Y (.lst (gE.map cm)),M,M,M,M,M,M]) ?q2,aK (ρ':=(vE ns nms gE gs M M M M M)) ?q3,aK (ρ':=(vE ns nms gE gs (oN c0) M M M M)) ?q4,aK (ρ':=(uE ns nms gE gs c0 c0 [] M M)) ?q5]
 case q5=>
  have e:∀F,iP "Sift" F (aC (eV 2) aN) (vE ns nms gE gs (oN c0) M M M M)=(F [.ins "Sift" [] [],.lst (gE.map cm)]).bind λr=>match r.1 with|.dJ=>Y r.2|_=>none:=λF=>rfl
  unfold w1;rw[e,Oh MD];rfl
 case q4=>
  have e:∀F,iP "Lean" F (aC (eV 2) aN) (vE ns nms gE gs M M M M M)=(F [.ins "Lean" [] [],.lst (gE.map cm)]).bind λr=>match r.1 with|.dJ=>Y r.2|_=>none:=λF=>rfl
  unfold w1;rw[e,Hs MD];rfl
 case q3=>have e1:qY jP (aC (eV 0) (aC (eK (.int 500)) (aC (eK (.int 20)) aN))) [Y (.mD ns),Y (.lst (nms.map D.str)),Y (.lst (gE.map cm)),M,M,M,M,M,M]=Y (xs.map D.int):=(show _=jP [.mD ns,.int 500,.int 20] from rfl).trans ex;have e2:=TN (F:=sY) (n :=.lst (nms.map D.str)) e1 rfl es;rw[iF e2];rfl
 case q2=>rw[iF eq];rfl
 case q1=>rw[iF ((Gw rfl).trans en)];rfl
 have r1:∀x c tl a6 a7,res [4,5] [] (uE ns nms gE gs x c tl a6 a7)=(vE ns nms gE gs (Y (bS x)) (Y (vV c tl)) a6 a7 M):=λ_ _ _ _ _=>rfl
 rw[aK (ρ':=(uE ns nms gE gs c0 c0 [] M M)) ?q6]
 case q6=>
  have e:=sA R0 MD UB [.cl,.tx (af ""),.tx (af "x")] λs hs=>hgo s λx z=>by subst z;simp at hs
  rw[ht0]at e;have k:∀F,bf F (aC (eV 4) (aC (eV 2) (aC (eF (fG (aC (dA (aC (eK (.str (af "close"))) aN)) (aC (dA (aC (eK (.str (af "text"))) (aC (eK (.str (af ""))) aN))) (aC (dA (aC (eK (.str (af "text"))) (aC (eK (.str (af "x"))) aN))) aN))))) (aC (eK (.int 0)) aN)))) (vE ns nms gE gs (Y (bS c0)) (Y (vV c0 [])) M M M)=F [bS c0,.lst (gE.map cm),.lst ([pL.cl,.tx (af ""),.tx (af "x")].map cG),.int 0]:=λF=>by kernel_rfl
  unfold eI;rw[rQ (r1 _ _ _ _ _) (show kN (eH _) _=Y Z_ by unfold kN eH;rw[k,e];rfl)];rfl
 obtain⟨c1,tl1,a1,e7,ha1,I1,t1,hz⟩:=QR (ns:=ns) (nm:=nms.map D.str) (q:=gE.map cm) (ss:=gs.map cG) W gs c0 [] M 0 Z_ (gd,gb) (.inl rfl) I0 VW (by omega);have q7:ir (iL (eV 3)) (gN 6) CH (uE ns nms gE gs c0 c0 [] M M)=_:=(MK rfl).trans e7;rw[aK q7];have V4:=Na (by omega) VW;have hgd:gd<=20:=by have:=I1.len;have:=I1.cnt;have:=I1.tk;omega
 obtain⟨c2,NS,a2,e8,ha2,I2,t2⟩:=QQ (ns:=ns) (nm:=nms.map D.str) (q:=gE.map cm) (ss:=gs.map cG) W ha1 gd 0 c1 tl1 M gb (.inl rfl) I1 (by omega);rw[aK (ρ':=(uE ns nms gE gs c2 c2 NS a1 a2)) ?q8]
 case q8=>exact(MK (SO ((Gw rfl).trans V4) ⟨by omega,by omega⟩)).trans (by rw[dC];exact e8)
 have q9:dO (e2 eP (eV 3) (eF (fG aN))) (uE ns nms gE gs c2 c2 NS a1 a2)=Y (decide (gs=[])):=by show (((Y (D.lst [])).bind λy=>eP (.lst (gs.map cG)) y).bind _)=_;rw[ae,K9];rfl
 by_cases hg:gs=[]
 ·unfold ba eI;rw[q9,decide_eq_true hg];rfl
 rw[aK (ρ':=(uE ns nms gE gs c2 c2 NS a1 a2)) ?q9']
 case q9'=>unfold eI;rw[q9,decide_eq_false hg];rfl
 have hb:gb=true:=hz (.inr hg);subst hb;obtain⟨t,R2⟩:=I2.rst (by omega);have hop:decide (0<c2.opened)=true:=I2.op.symm;have VZ:(gs.length:Int)+(gd:Int)=c2.taken:=by omega
 rw[aK (ρ':=(vE ns nms gE gs (oN c2) (oS c2 NS) a1 a2 (Y (.int c2.taken)))) ?Yl]
 case Yl=>
  have e:e2 gJ (bf iu (aC (eV 3) aN)) (bf qM (aC (eV 3) aN)) (uE ns nms gE gs c2 c2 NS a1 a2)=Y (.int c2.taken):=by unfold e2;rw[Gw (F:=qM) rfl,V4];show Y (D.int (((gs.map cG).length:Int)+(gd:Int)))=_;rw[ax,VZ]
  rw[iF e];rfl
 have r2:res [4,5] [] (vE ns nms gE gs (oN c2) (oS c2 NS) a1 a2 (Y (.int c2.taken)))=(vE ns nms gE gs (Y (bS c2)) (Y (vV c2 NS)) a1 a2 (Y (.int c2.taken))):=rfl;rw[aK (ρ':=(vE ns nms gE gs (oN c2) (oS c2 NS) a1 a2 (Y (.int c2.taken)))) ?q11]
 case q11=>
  have k:∀F,dr "Lean" "is_over" F (eV 4) aN (vE ns nms gE gs (Y (bS c2)) (Y (vV c2 NS)) a1 a2 (Y (.int c2.taken)))=if ("Lean" : aG) = "Lean" /\("is_over" : aG)∉(["coming"]:List aG) then F [bS c2] else none:=λF=>rfl
  unfold eI;rw[rQ r2 (show dO _ _=Y Z_ by unfold dO e2;rw[k,if_pos ⟨rfl,by decide⟩,Ee,hop,R2.rows];rfl)]
  rfl
 obtain⟨n0,Y0⟩:∃n0:aG,bW (.lst (nms.map D.str)) (.int 0)=Y (.str n0):=by
  cases nms with
  |nil=>cases hn|cons n0 r=>exact⟨n0,by show ph ((n0::r).map D.str) ((0:Nat):Int)=_;unfold ph;rw[pB (by simp)];rfl⟩
 have e:=sA R2 MD UB [.op n0,.tx (af "x"),.cl] λs hs=>by unfold uq;rw[hop,R2.rows];cases s<;>rfl
 generalize hρ:((vE ns nms gE gs (Y (bS c2)) (Y (vV c2 NS)) a1 a2 (Y (.int c2.taken))):cy)=ρ at r2;have k1:dA (aC (eK (.str (af "open"))) (aC (e2 bW (eV 1) (eK (.int 0))) aN)) ρ=Y (cG (.op n0)):=Fo (qZ rfl (qZ (by rw[<- hρ];exact Y0) rfl)) (by simp);have k2:eF (fG (aC (dA (aC (eK (.str (af "open"))) (aC (e2 bW (eV 1) (eK (.int 0))) aN))) (aC (dA (aC (eK (.str (af "text"))) (aC (eK (.str (af "x"))) aN))) (aC (dA (aC (eK (.str (af "close"))) aN)) aN)))) ρ=Y (.lst ([pL.op n0,.tx (af "x"),.cl].map cG)):=Sl (qZ k1 (qZ (Fo (qZ rfl (qZ rfl rfl)) (by simp)) (qZ (Fo (qZ rfl rfl) (by simp)) rfl))) (by simp);have k3:aC (eV 4) (aC (eV 2) (aC (eF (fG (aC (dA (aC (eK (.str (af "open"))) (aC (e2 bW (eV 1) (eK (.int 0))) aN))) (aC (dA (aC (eK (.str (af "text"))) (aC (eK (.str (af "x"))) aN))) (aC (dA (aC (eK (.str (af "close"))) aN)) aN))))) (aC (eV 8) aN))) ρ=Y [bS c2,.lst (gE.map cm),.lst ([pL.op n0,.tx (af "x"),.cl].map cG),.int c2.taken]:=qZ (by rw[<- hρ];rfl) (qZ (by rw[<- hρ];rfl) (qZ k2 (qZ (by rw[<- hρ];rfl) rfl)));unfold dF;rw[mB r2 (show bf je _ ρ=Y (.bl Z') by unfold bf;rw[k3];exact e) rfl];rfl
end K21
namespace L2
open PySem PySem.Spec PyProof.Rows
section
variable {P:bt}{w:cZ}{K:aT}{mg:aG->Option ak}{base:cD}{x c:aG}{sp:Sp}{f:az}{fd:dY}{ps:List aG}{n k:Nat}
theorem ml.m(h:ml P w K mg base x n sp)(hk:n<=k:=by decide):ml P w K mg base x k sp:=h.mono hk
theorem eC.m(h:eC P w K mg base c x n sp)(hk:n<=k:=by decide):eC P w K mg base c x k sp:=h.mono hk
theorem sC.m(h:sC P w K mg base c n sp)(hk:n<=k:=by decide):sC P w K mg base c k sp:=h.mono hk
theorem ml.o(h:ml P w K mg base x n sp)(hk:n<=k:=by omega):ml P w K mg base x k sp:=h.mono hk
theorem eC.o(h:eC P w K mg base c x n sp)(hk:n<=k:=by omega):eC P w K mg base c x k sp:=h.mono hk
theorem WW{F:List D->Option D}(e:∀ds,F ds=M):b_ P w K mg base gS n f fd ps (iq K F):=by
 constructor
 ·rintro vs H Q E ⟨G,ds,d,gh,r,eq,_⟩;rw[e]at eq;cases eq
 ·rintro A o s H args us vs Q E hr he hb hv ⟨G,ds,d,gh,r,eq,_⟩;rw[e]at eq;cases eq
theorem ZZ{s:Sk}{F:List D->Option (D×D)}(e:∀ds,F ds=M):b_ P w K mg base gS n f fd ps (spT K s F):=by
 constructor
 ·rintro vs H Q E ⟨G,t,xs,d,t',a,T,us,_,_,_,_,_,_,eq,_⟩;rw[e]at eq;cases eq
 ·rintro A o s H args us vs Q E hr he hb hv ⟨G,t,xs,d,t',a,T,us,_,_,_,_,_,_,eq,_⟩;rw[e]at eq;cases eq
theorem Z0{F:List D->Option (D×List D)}(e:∀ds,F ds=M):b_ P w K mg base gS n f fd ps (BQ K 0 F):=by
 constructor
 ·rintro vs H Q E ⟨G,ds,d,xs',a,ws,xs,_,_,_,_,_,_,_,_,eq,_⟩;rw[e]at eq;cases eq
 ·rintro A o s H args us vs Q E hr he hb hv ⟨G,ds,d,xs',a,ws,xs,_,_,_,_,_,_,_,_,eq,_⟩;rw[e]at eq;cases eq
end
end L2
namespace K21
open PySem L2
theorem ac{α:Type}{P:α->Prop}{a:α}{l:List α}(h:P a)(t:∀x∈l,P x):∀x∈a::l,P x:=gc.mpr ⟨h,t⟩
abbrev FA(K:aT)(x:aG)(st:qP):Prop:=∃f fd,gU K aI x=Y (Y (.ref f))/\hG K x x st f fd
theorem WM{K:aT}{x:aG}{st:qP}{f:az}{od an:Option az}{sl:Array (Option ak)}{oc kV dc pm cd ct:ak}(a:gU K aI x=Y (Y (.ref f)))(l:K.lookup f=Y ⟨oc,od,.func (fnOf x x (nH st) (gv st) (aB st) .none kV dc pm an cd ct),sl⟩)(c:codeIn K cd x=Z')(k:qk K (.ref f)=Z'):FA K x st:=⟨f,_,a,Gb l c k⟩
abbrev MA(K:aT)(c m qual:aG)(st:qP):Prop:=∃C f fd,gU K aI c=Y (Y (.ref C))/\hR K (.ref C) m=Y (Y (.ref f))/\PySem.W.isFn K (.ref f)=Z'/\hG K m qual st f fd
theorem WI{K:aT}{x:aG}{st:qP}{f:az}{od an:Option az}{sl:Array (Option ak)}{oc kV dc pm cd ct:ak}{c0 qual:aG}{C:az}(aC:gU K aI c0=Y (Y (.ref C)))(a:hR K (.ref C) x=Y (Y (.ref f)))(i:PySem.W.isFn K (.ref f)=Z')(l:K.lookup f=Y ⟨oc,od,.func (fnOf x qual (nH st) (gv st) (aB st) .none kV dc pm an cd ct),sl⟩)(c:codeIn K cd qual=Z')(k:qk K (.ref f)=Z'):MA K c0 x qual st:=⟨C,f,_,aC,a,i,Gb l c k⟩
local macro_rules | `(tactic|walk_at "b") => `(tactic|(intro _ _ _ _ _ _ us hl; rcases us with _ | ⟨_,_ | ⟨_,_ | ⟨_,_ | ⟨_,_ |_⟩⟩⟩⟩ <;> first |rfl |simp at hl))
section
variable {P:bt}{w:cZ}{K:aT}{h base:cD}{mg:aG->Option ak}{x c q:aG}{st:qP}{sp:Sp}{ps:List aG}{n:Nat}{C:az}
structure EN(P:bt)(w:cZ)(K:aT)(mg:aG->Option ak)(base h:cD):Prop where
 X:K.In h
 G:h.Ns aI mg
abbrev CL(K:aT)(c:aG):Prop:=∃C,gU K aI c=Y (Y (.ref C))/\ET K C/\makesIn K C=Z'/\qk K (.ref C)=Z'
abbrev NA(K:aT)(c f:aG):Prop:=∃C,gU K aI c=Y (Y (.ref C))/\qK K C f
theorem WR(a:gU K aI c=Y (Y (.ref C)))(pg:plainGet K C Str.empty=Z')(hd:pk K C=Z')(po:plainOver K C=Z')(sa:hR K (.ref C) "__setattr__" = Y (Y (.builtin "object.__setattr__")))(mk:makesIn K C=Z')(kc:qk K (.ref C)=Z'):CL K c:=⟨C,a,⟨pg,hd,po,sa⟩,mk,kc⟩
theorem WG(a:gU K aI c=Y (Y (.ref C)))(n:hR K (.ref C) x=Y M):NA K c x:=⟨C,a,n⟩
theorem mj(h:CL K c)(n:NA K c x):rp K c x:=by
 obtain⟨C,a,cl,_,_⟩:=h;obtain⟨C',a',n⟩:=n;intro D e;rw[a]at e a';cases e;cases a';exact⟨cl,n⟩
abbrev BB(x q:aG)(st:qP)(ps:List aG):Prop:=∀(kV Qk pm:ak) (an:Option az) (TK ct:ak) (us:List ak),us.length=ps.length->bindArgs (fnOf x q (nH st) (gv st) (aB st) .none kV Qk pm an TK ct) ⟨us,[]⟩=dR (ps.zip us)
theorem FA.w6(q:FA K x st)(e:EN P w K mg base h)(o:∀f fd,hG K x x st f fd->b_ P w K mg base gS n f fd ps sp)(hb:BB x x st ps:=by walk_at "b"):ml P w K mg base x n sp:=by
 obtain⟨f,fd,a,F⟩:=q;exact⟨f,fd,ps,o f fd F,Q7 e.X e.G a,F.kp,F.binds hb⟩
theorem MA.sO(r:MA K c x q st)(_:EN P w K mg base h)(h:CL K c)(o:∀f fd,hG K x q st f fd->b_ P w K mg base gS n f fd ps sp)(hb:BB x q st ps:=by walk_at "b"):eC P w K mg base c x n sp:=by
 obtain⟨C',f,fd,a',i,j,F⟩:=r;obtain⟨C,a,cl,_,_⟩:=h;rw[a]at a';cases a';exact⟨_,f,fd,ps,a,cl,⟨i,j,F.kp⟩,o f fd F,F.binds hb⟩
theorem MA.Sa(r:MA K c "__init__" q st)(e:EN P w K mg base h)(k:CL K c)(o:∀f fd,hG K "__init__" q st f fd->b_ P w K mg base gS n f fd ps sp)(hb:BB "__init__" q st ps:=by walk_at "b"):sC P w K mg base c n sp:=by
 obtain⟨C',f,fd,a',i,j,F⟩:=r;obtain⟨C,a,cl,m,y⟩:=k;rw[a]at a';cases a';exact⟨_,f,fd,ps,a,Q7 e.X e.G a,⟨m,i,j,y⟩,o f fd F,F.binds hb⟩
theorem MA.okX(r:MA K c x q st)(_:EN P w K mg base h)(h:CL K c)(o:∀f fd,hG K x q st f fd->b_ P w K mg base (Ir P w) n f fd ps sp)(hb:BB x q st ps:=by walk_at "b"):GF P w K mg base c x n sp:=by
 obtain⟨C',f,fd,a',i,j,F⟩:=r;obtain⟨C,a,cl,_,_⟩:=h;rw[a]at a';cases a';exact⟨_,f,fd,ps,a,cl,⟨i,j,F.kp⟩,o f fd F,F.binds hb⟩
abbrev XQ(K:aT)(C:az)(x:aG)(b:Bool):Prop:=∃c,gU K aI x=Y (Y (.ref c))/\ja K (.ref C) (.ref c)=Y b
structure XA(K:aT)(C f:az)(fd:dY):Prop where
 a:gU K aI "NoSign" = some (some (.ref C))
 M:Q4 K C f
 T:P9 K C "at"
 I:Wu K C
 G:Nr K C "at"
 F:hG K "__init__" "NoSign.__init__" pM f fd
 k:ja K (.ref C) (.ref C)=some true/\XQ K C "NoText" false/\XQ K C "NoPart" false/\XQ K C "Taken" false/\XQ K C "Late" false/\XQ K C "SiftError" true/\ja K (.ref C) (.type "ValueError")=some true
theorem Wt{b:Bool}{d:az}(a:gU K aI x=Y (Y (.ref d)))(k:ja K (.ref C) (.ref d)=Y b):XQ K C x b:=⟨d,a,k⟩
theorem Wv{f:az}{od an:Option az}{sl:Array (Option ak)}{oc kV dc pm cd ct:ak}(a:gU K aI "NoSign" = Y (Y (.ref C)))(i:hR K (.ref C) "__init__" = Y (Y (.ref f)))(e:Gj K C f=Z')(ty:PySem.W.typeIn K (.ref f)=Y (.type "function"))(l:K.lookup f=Y ⟨oc,od,.func (fnOf "__init__" "NoSign.__init__" (nH pM) (gv pM) (aB pM) .none kV dc pm an cd ct),sl⟩)(c:codeIn K cd "NoSign.__init__" = Z')(k:qk K (.ref f)=Z')
  (sa:hR K (.ref C) "__setattr__" = Y (Y (.builtin "object.__setattr__"))) (po:yl K C=Z') (tk:NH K C "at" = Y M) (hd:pk K C=Z') (ga:hR K (.ref C) "__getattribute__" = Y (Y (.builtin "BaseException.__getattribute__"))) (gt:hR K (.ref C) "__getattr__" = Y M) (mb:PySem.W.mroIn K C (.type "BaseException")=Y Z') (na:hR K (.ref C) "at" = Y M)
  (ha:hR K (.ref C) "__class__" = Y (Y (.builtin "object.__class__"))) (hn:PySem.W.specialIn K (.builtin "object.__class__") "__get__" = Y (Y (.builtin "getset_descriptor.__get__"))) (ht:PySem.W.takesIn K (.builtin "object.__class__")=Y Z') (hm:PySem.W.mroIn K C (.type "object")=Y Z') (kp:qk K (.ref C)=Z')
  (q:ja K (.ref C) (.ref C)=Y Z'/\XQ K C "NoText" Z_/\XQ K C "NoPart" Z_/\XQ K C "Taken" Z_/\XQ K C "Late" Z_/\XQ K C "SiftError" Z'/\ja K (.ref C) (.type "ValueError")=Y Z'):∃C f fd,XA K C f fd:=
 ⟨C,f,_,a,Q' e ty kp,⟨sa,po,tk,hd⟩,⟨⟨ga,gt,mb⟩,hd,ha,hn,ht,hm⟩,⟨⟨ga,gt,mb⟩,hd,na⟩,Gb l c k,q⟩
theorem XA.ask{f:az}{fd:dY}(x:XA K C f fd)(X:K.In h)(G:h.Ns aI mg):TV K mg C:=by
 obtain⟨k1,⟨_,a2,k2⟩,⟨_,a3,k3⟩,⟨_,a4,k4⟩,⟨_,a5,k5⟩,⟨_,a6,k6⟩,k7⟩:=x.k;exact⟨x.I,Q7 X G x.a,k1,⟨_,Q7 X G a2,k2⟩,⟨_,Q7 X G a3,k3⟩,⟨_,Q7 X G a4,k4⟩,⟨_,Q7 X G a5,k5⟩,⟨_,Q7 X G a6,k6⟩,k7⟩
end
theorem T_{l:PySem.W.OpenLaw}{w:cZ}{K:aT}{h:cD}{mg:aG->Option ak}{fa:az}(X:K.In h)(G:h.Ns aI mg)(hfa:mg "law" = Y (.ref fa))(c:CL K "Coming" /\CL K "Facts" /\CL K "Lean" /\CL K "Row" /\CL K "Sift")(n:NA K "Coming" "able" /\NA K "Coming" "facts" /\NA K "Coming" "full" /\NA K "Coming" "opened" /\NA K "Coming" "rests" /\NA K "Coming" "rows" /\NA K "Coming" "taken" /\NA K "Facts" "asks" /\NA K "Facts" "bits" /\NA K "Facts" "by_name" /\NA K "Facts" "by_text" /\NA K "Facts" "inner" /\NA K "Facts" "leads" /\NA K "Facts" "question" /\NA K "Facts" "starred" /\NA K "Facts" "stars" /\NA K "Lean" "coming" /\NA K "Row" "atoms" /\NA K "Row" "fits" /\NA K "Row" "hoped" /\NA K "Row" "hoped_around" /\NA K "Row" "named" /\NA K "Row" "number" /\NA K "Row" "reached" /\NA K "Row" "reached_around" /\NA K "Sift" "coming" /\NA K "Sift" "numbers")(z:gU K aI "ValueError" = Y M/\gU K aI "all" = Y M/\gU K aI "any" = Y M/\gU K aI "bool" = Y M/\gU K aI "enumerate" = Y M/\gU K aI "int" = Y M/\gU K aI "isinstance" = Y M/\gU K aI "len" = Y M/\gU K aI "list" = Y M/\gU K aI "range" = Y M/\gU K aI "sorted" = Y M/\gU K aI "zip" = Y M)(q:FA K "joined_asks" nY/\FA K "copied" sI/\FA K "copied_wish" la/\FA K "meets" u7/\FA K "can_hold" kP/\FA K "can_come" rT/\FA K "top_row" ub/\FA K "able_steps" px/\FA K "_law_mix" Fz/\FA K "_law_cells" u9/\FA K "_law_names" u6/\FA K "_law_signs" yC/\FA K "_law_depth" rS/\FA K "_law_pop" Fy/\FA K "_law_wish" xZ/\FA K "_law_steps" yB/\FA K "_law_whole" yA/\FA K "_law_all_refused" nZ/\FA K "woken" yz/\FA K "_law_only" x3/\FA K "_law_refused" uc/\FA K "law" vT)(r:MA K "Facts" "new_bit" "Facts.new_bit" lZ/\MA K "Facts" "enter_step" "Facts.enter_step" jU/\MA K "Facts" "enter" "Facts.enter" lg/\MA K "Facts" "enter_text" "Facts.enter_text" jT/\MA K "Facts" "lead" "Facts.lead" pz/\MA K "Facts" "asked" "Facts.asked" lh/\MA K "Facts" "enter_has" "Facts.enter_has" iD/\MA K "Facts" "__init__" "Facts.__init__" jl/\MA K "Facts" "steps_for" "Facts.steps_for" kF/\MA K "Facts" "text_fact" "Facts.text_fact" kE/\MA K "Facts" "lifted" "Facts.lifted" mQ/\MA K "Facts" "fitting" "Facts.fitting" l_/\MA K "Row" "__init__" "Row.__init__" mL/\MA K "Coming" "__init__" "Coming.__init__" kG/\MA K "Coming" "gone_on" "Coming.gone_on" lj/\MA K "Coming" "moved_out" "Coming.moved_out" jV/\MA K "Coming" "has_ended" "Coming.has_ended" jW/\MA K "Coming" "waits" "Coming.waits" kj/\MA K "Coming" "begin_row" "Coming.begin_row" jX/\MA K "Coming" "spread" "Coming.spread" l'/\MA K "Coming" "add_atoms" "Coming.add_atoms" jY/\MA K "Coming" "settle" "Coming.settle" jI/\MA K "Coming" "newly_told" "Coming.newly_told" jy/\MA K "Coming" "end_row" "Coming.end_row" lp/\MA K "Coming" "feed" "Coming.feed" ll/\MA K "Sift" "__init__" "Sift.__init__" lX/\MA K "Sift" "take" "Sift.take" qr/\MA K "Lean" "__init__" "Lean.__init__" lY/\MA K "Lean" "take" "Lean.take" nr/\MA K "Lean" "waiting" "Lean.waiting" mM/\MA K "Lean" "is_over" "Lean.is_over" mO/\MA K "Lean" "asleep" "Lean.asleep" lb)(x:∃C f fd,XA K C f fd):
  ∃fd:dY,(∀(s:av) (v:ak),Kh s fd ⟨[v],[]⟩ [("_law_script",v)])/\∀base:cD,K.In base->base.Ns aI mg->b_ l.prog w K mg base gS 100 fa fd ["_law_script"] (iq K ER):=by
 obtain⟨a1,a0,a8,a7,a9⟩:=c;obtain⟨e3,e4,e5,e6,e7,e8,e9,f0,f1,f2,f3,f4,f5,f6,f7,f8,f9,g0,g1,g2,g3,g4,g5,g6,g7,g8,g9⟩:=n;obtain⟨h0,h1,h2,h3,h4,h5,h6,h7,h8,h9,i0,i1⟩:=z;obtain⟨i2,b5,b6,b7,b8,i3,i4,i5,i6,i7,i8,i9,j0,j1,b9,c1,j2,j3,j4,j5,j6,⟨fL,fdL,aL,FL⟩⟩:=q;obtain⟨j7,j8,j9,k0,k8,c2,c3,k9,l0,l1,l2,l3,l4,l5,l6,l7,l8,l9,m0,m1,m2,c4,m3,m4,c5,m5,m6,m7,c6,m8,m9,n0⟩:=r;obtain⟨C,fI,Wa,x⟩:=x;have e:=hfa.symm.trans (Q7 X G aL);cases e;have k:KS K mg:=⟨ac (mj a1 e3) (ac (mj a1 e4) (ac (mj a1 e5) (ac (mj a1 e6) (ac (mj a1 e7) (ac (mj a1 e8) (ac (mj a1 e9) (ac (mj a0 f0) (ac (mj a0 f1) (ac (mj a0 f2) (ac (mj a0 f3) (ac (mj a0 f4) (ac (mj a0 f5) (ac (mj a0 f6) (ac (mj a0 f7) (ac (mj a0 f8) (ac (mj a8 f9) (ac (mj a7 g0) (ac (mj a7 g1) (ac (mj a7 g2) (ac (mj a7 g3) (ac (mj a7 g4) (ac (mj a7 g5) (ac (mj a7 g6) (ac (mj a7 g7) (ac (mj a9 g8) (ac (mj a9 g9) (nofun))))))))))))))))))))))))))),ac (jR X G h0) (ac (jR X G h1) (ac (jR X G h2) (ac (jR X G h3) (ac (jR X G h4) (ac (jR X G h5) (ac (jR X G h6) (ac (jR X G h7) (ac (jR X G h8) (ac (jR X G h9) (ac (jR X G i0) (ac (jR X G i1) (nofun))))))))))))⟩;obtain⟨oc,od,kV,Qk,pm,an,TK,ct,W8,rfl,_⟩:=FL.ex;refine⟨fnOf "law" "law" (nH vT) (gv vT) (aB vT) .none kV Qk pm an TK ct,λs v =>.of_eq rfl,λbase _ _ =>?_⟩;have e:EN l.prog w K mg base h:=⟨X,G⟩;have n1:=i2.w6 e λ_ _ F=>yU F
 have n2:∀n,ml l.prog w K mg base "copied" (n+0) (iq K (jd n))/\ml l.prog w K mg base "copied_wish" (n+0) (iq K (dP n)):=λn=>by
  induction n with
  |zero=>exact⟨b5.w6 (ps:=["steps"]) e λ_ _ _=>WW λ_=>rfl,b6.w6 (ps:=["wish"]) e λ_ _ _=>WW λ_=>rfl⟩
  |succ n ih=>obtain⟨b2,c7⟩:=ih;exact⟨b5.w6 e λ_ _ F=>(Jg F c7).mono (by omega),b6.w6 e λ_ _ F=>(yV F b2 c7).mono (by omega)⟩
 have b2:ml _ _ _ _ _ "copied" 12 (iq K vF):=(n2 12).1;have n3:∀n,ml l.prog w K mg base "meets" (n+0) (iq K (kh n)):=λn=>by
  induction n with
  |zero=>exact b7.w6 (ps:=["ask", "atoms"]) e λ_ _ _=>WW λ_=>rfl
  |succ n b0=>exact b7.w6 e λ_ _ F=>(L0 F k b0).mono (by omega)
 have b0:ml _ _ _ _ _ "meets" 12 (iq K s_):=(n3 12);have n4:∀n,ml l.prog w K mg base "can_hold" (n+0) (iq K (e_ n)):=λn=>by
  induction n with
  |zero=>exact b8.w6 (ps:=["wish"]) e λ_ _ _=>WW λ_=>rfl
  |succ n b3=>exact b8.w6 e λ_ _ F=>(D1 F k b3).mono (by omega)
 have b3:ml _ _ _ _ _ "can_hold" 12 (iq K oJ):=(n4 12);have c8:=i3.w6 e λ_ _ F=>D2 F
 have c9:=j7.sO e a0 λ_ _ F=>wb F k
 have n5:=j8.sO e a0 λ_ _ F=>tq F k c9.m
 have d0:=j9.sO e a0 λ_ _ F=>yY F n5.m
 have n6:=k0.sO e a0 λ_ _ F=>tp F k c9.m
 have n7:=k8.sO e a0 λ_ _ F=>As F k
 have n8:∀n,eC l.prog w K mg base "Facts" "asked" (n+3) (spT K aA (cP n))/\eC l.prog w K mg base "Facts" "enter_has" (n+3) (spT K aA (cL n)):=λn=>by
  induction n with
  |zero=>exact⟨c2.sO (ps:=["self", "wish"]) e a0 λ_ _ _=>ZZ λ_=>rfl,c3.sO (ps:=["self", "steps"]) e a0 λ_ _ _=>ZZ λ_=>rfl⟩
  |succ n ih=>obtain⟨b1,n9⟩:=ih;exact⟨c2.sO e a0 λ_ _ F=>(yZ F n6.o n9 b1 n1.o).mono (by omega),c3.sO e a0 λ_ _ F=>(uj F d0.o n7.o b1).mono (by omega)⟩
 have b1:eC _ _ _ _ _ "Facts" "asked" 15 (spT K aA my):=(n8 12).1;have o0:=k9.Sa e a0 λ_ _ F=>vi F k b2.m d0.m b1.m
 have o1:=l0.sO e a0 λ_ _ F=>ui F k
 have o2:=l1.sO e a0 λ_ _ F=>uh F k
 have o3:=l2.sO e a0 λ_ _ F=>xC F k b0.m
 have d1:=l3.sO e a0 λ_ _ F=>wc F k b0.m
 have d2:=l4.Sa e a7 λ_ _ F=>xy F k
 have o4:=i4.w6 e λ_ _ F=>FV F k d2.m
 have o5:=i5.w6 e λ_ _ F=>Ar F k b3.m
 have d3:=l5.Sa e a1 λ_ _ F=>uk F k o0.m o5.m o4.m
 have d4:=l6.sO e a1 λ_ _ F=>vj F k
 have o6:=l7.sO e a1 λ_ _ F=>tu F k
 have o7:=l8.sO e a1 λ_ _ F=>tw F k
 have o8:=l9.sO e a1 λ_ _ F=>xD F k
 have o9:=m0.sO e a1 λ_ _ F=>tD F k d2.m d1.m d4.m
 have d5:=m1.sO e a1 λ_ _ F=>wd F k d1.m o3.m
 have p0:=m2.sO e a1 λ_ _ F=>tG F k d5.m
 have p7:=c4.sO e a1 λ_ _ F=>we F k d4.m
 have p8:=m3.sO e a1 λ_ _ F=>r_ F k p7.m
 have p9:=m4.sO e a1 λ_ _ F=>vk F k o6.m
 have d6:=c5.sO e a1 λ_ _ F=>y0 F k c8.m p9.m o9.m d5.m p0.m p8.m o1.m o2.m
 have q0:=m5.Sa e a9 λ_ _ F=>v_ F k d3.m
 have q1:=m6.sO e a9 λ_ _ F=>B1 F k d6.m
 have d7:=m7.Sa e a8 λ_ _ F=>wa F k d3.m
 have q2:=c6.sO e a8 λ_ _ F=>B2 F k d6.m
 have q3:=m8.sO e a8 λ_ _ F=>xA F k o8.m
 have d8:=m9.sO e a8 λ_ _ F=>xB F k o7.m
 have d9:=n0.sO e a8 λ_ _ F=>yX F k
 have q4:=i6.w6 e λ_ _ F=>R_ F
 have e0:=i7.w6 e λ_ _ F=>L4 F k q4.m
 have q5:=i8.w6 e λ_ _ F=>LZ F k e0.m
 have q6:=i9.w6 e λ_ _ F=>LX F k
 have q7:=j0.w6 e λ_ _ F=>L3 F k
 have e1:=j1.w6 e λ_ _ F=>R9 F
 have q8:∀n,ml l.prog w K mg base "_law_wish" (n+1) (BQ K 0 (gQ n))/\ml l.prog w K mg base "_law_steps" (n+1) (BQ K 0 (gR n)):=λn=>by
  induction n with
  |zero=>exact⟨b9.w6 (ps:=["_law_draws", "_law_deep", "_law_some"]) e λ_ _ _=>Z0 λ_=>rfl,c1.w6 (ps:=["_law_draws", "_law_deep", "_law_some"]) e λ_ _ _=>Z0 λ_=>rfl⟩
  |succ n ih=>obtain⟨e2,b4⟩:=ih;exact⟨b9.w6 e λ_ _ F=>(OV F k e1.o b4 e2).mono (by omega),c1.w6 e λ_ _ F=>(LW F k e1.o e2).mono (by omega)⟩
 have b4:ml _ _ _ _ _ "_law_steps" 13 (BQ K 0 vC):=(q8 12).2;have q9:=j2.w6 e λ_ _ F=>LU F k
 have r0:=c4.sO e a1 λ_ _ F=>FX F k
 have A7:=x.ask X G;have y:ZO l.prog w K mg base "NoSign" 60:=⟨C,fI,Wa,x.a,A7.m1,x.M,(LY x.F x.T).mono (by decide),x.F.binds (by walk_at "b")⟩;have r1:=c5.okX e a1 λ_ _ F=>L1 F k c8.m y
 have r2:=c6.okX e a8 λ_ _ F=>LV F k r1
 have r3:=j4.w6 e λ_ _ F=>LS F k d7.m r0.m
 obtain⟨fO,fdO,aO,FO⟩:=j5;have r4:=j6.w6 e λ_ _ F=>FY F (r2.mono (by decide)) q3.m d8.m d9.m q9.m x.M x.a A7 x.G (OW FO k A7) (Q7 X G aO) FO.kp (FO.binds (by walk_at "b"))
 have r5:=j3.w6 e λ_ _ F=>yW F r3.m r4.m d9.m
 exact R' FL k d7.m q0.m q5.m b4.m e0.m q6.m q7.m q1.m q2.m d8.m r5.m
theorem walk{l:PySem.W.OpenLaw}{q:bt}{WT:List aG}{XP:(aG->Option ak)->cD->Prop}{YP:cZ->cD->Prop}{d:DefRec}{K:Params->aT}(hn:l.most=Y 63)(hdf:d.params.defaults=[])
  (hY:∀(w:cZ) (h:cD),YP w h->(K w.params).In h)
  (F:∀(w:cZ) (mg:aG->Option ak) (fa:az) (h:cD),(K w.params).In h->h.Ns aI mg->mg d.name=Y (.ref fa) ->
   ∃fd:dY,(∀(s:av) (u:ak),Kh s fd ⟨[u],[]⟩ [("_law_script",u)])/\∀base:cD,(K w.params).In base->base.Ns aI mg->b_ l.prog w (K w.params) mg base gS 100 fa fd ["_law_script"] (iq (K w.params) ER)) :
  PySem.W.WalkO q WT XP YP l.row.toRowW d [] (λf vs=>PySem.call f vs):=
 L2.Kz (n:=63) (k:=100) (x:= "_law_script") (CX:=gS) (sp:=λK=>iq K ER) hn (by decide) hdf ⟨rfl,by decide,by decide⟩ hY F (λK H a ns hl hO hS=>Su Mo K H a ns hl hO hS) λ_ _ _ _ z=>z
end K21
open PySem PySem.W PyProof.Rows
structure PySem.W.Fast:Prop where(tw12862605942640866178 tw15110323141177852829 tw14740199008785340047 tw9710235739933818891 tw2974332861819004819 tw16769656616737277295 tw1978351606055826294 tw17635358497174949304 tw12563825237188228268 tw536424645850502908 tw9490750014971691052 tw1799681434985450249 tw8647006491128124735 tw13032193443540888762 tw4871997649175624363 tw14957918041351202370 tw4598626565242858626 tw9848453242895352821 tw13766338681344216654 tw12587592785125613480 tw9735409282208750295 tw12989362866310915806 tw752610773268024998 tw2818607305176822652 tw7781119494509098030 tw6856603874238379656 tw4225381249257424907 tw6476882907318876479 tw7824622500326230543 tw12645906479750275187 tw9874038378465457445 tw16816419641203295396 tw12143034071306060444 tw2716355351177802804 tw7948890025321099500 tw16022921780474198507 tw11119383490866074465 tw7411416066574404125 tw14430851483482223761 tw3362668075084611995 tw14273518786064864894 tw7412234459562332272 tw3709168661638940897 tw3395603755313079695 tw6010104255296790229 tw5026369627004385308 tw7109805512515969335 tw11472180977749336292 tw10319400727178186373 tw9473745660547884055 tw12371402307188552618 tw9386552713334729349 tw1146476330615526978 tw18193181844572726400 tw17375470150933092077 tw6094628344042697012 tw5874163217828382193 tw7584494005059180838 tw16104893551531097531 tw5977070195398042012 tw4691343705652458403 tw5522188501258871854 tw15851242212553716163 tw16958151714574631175 tw14424939216432491299 tw11172299829042413129 tw18360801662765723197 tw13368158202467331974 tw8376449181822857112 tw3653081863114877759 tw1658898939899563270 tw7453734691219200702 tw7003163155381022118 tw17811165582196883531 tw4476775181573056238 tw16697597025118570385 tw15670903944043854545 tw13063321691798617775 tw15424703455503884385 tw10135651645546860224 tw9675928476328694471 tw6928689930247311168 tw2911407376640583390 tw7884488930566732516 tw2868536698961561736 tw5488985801521671421 tw9969688220027042711 tw16641672476643872481 tw6507581743895242160 tw13503259968108370006 tw15978000151858146696 tw4411116533085543852 tw9730979331152979120 tw2312584198813898587 tw16861921955296401106 tw5505652101993938625 tw16620656440655855767 tw13771031198387381457 tw18354390902859099093 tw3217055101893335529 tw11239398549957434170 tw16081556399929309064 tw1746495070547612978 tw17635455895028849613 tw16696729452846982682 tw8988341704878354692 tw4777242689819945900 tw3104641182735318516 tw7166948996096671689 tw6664914258053466250 tw15116067338461487111 tw2918887061644507932 tw9059763621898886056 tw16855292941439586831 tw13525362699173223591 tw10072628990972997955 tw15408333581305077842 tw7247811743898512333 tw10486442768828936188 tw4557638552088823074 tw8608673407428042054 tw14593281578097627810 tw10626672588190516784 tw14683641902692057105 tw5305183673137811938 tw8337290294436540680 tw6638594079484227820 tw11405931536917290282 tw5150695285168024624 tw14238029644593524618 tw16803526428710692415 tw1610726333199105985 tw16623825534562750969 tw13200854715100726936 tw2794178555135861548 tw6774155290263691605 tw4253456787504649809 tw14726333057763360219 tw3309123349456531665 tw748902843037546240 tw16769158449072000454 tw4005859859932062547 tw13042799691890954680 tw923840817605267959 tw5569338465848121129 tw6594896459154048021 tw6632160087319642647 tw17435694790353249924 tw9236961453463494924 tw16332158541028954874 tw702072374599138104 tw9821737296376059267 tw12422012712542052093 tw17364608828023261192 tw9712442057091207256 tw8429805241711020460 tw6991322005191571292 tw9982911115036383977 tw6316840439671945935 tw16832707019089658053 tw2042106742071112719 tw22415236514351053 tw13894874051193511927 tw553699057912029133 tw3232304566829115398 tw4970623838373757170 tw12140892272814474751 tw6422491334258252534 tw13163999207056783197 tw4373596763792079062 tw5172189958956755371 tw17767889736049965067 tw7353698427591432520 tw2340043562775786602 tw12986320259359431108 tw14961828889291611011 tw677651413584526234 tw15380834774580904986 tw5871148654624635435 tw2378326693387815624 tw4899355908351118095 tw8757481173259480158 tw3292703995233645720 tw6627925682551347801 tw9115571306622490284 tw15367874091034062609 tw3172345140041179792 tw3952478212545087194 tw7086888472616986030 tw15529932816764528858 tw1031998077909850881 tw17308999208435495621 tw16612529495709953884 tw1883368129578518417 tw2078582145656243031 tw3456672570047272787 tw17971243275821261656 tw14718800182125989124 tw3887195390190870991 tw7292212046502761195 tw2061638093616765766 tw2265271888451802642 tw16102392293472108118 tw11641686856747646459 tw17580037807207938441 tw16943063537757332813 tw654163156979042403 tw11655512499633673256 tw17517909043640302830 tw1301504239131421435 tw2745672961530777052 tw17023738178879085255 tw8429437928978403971 tw13530757547978136846 tw6125679961361047295 tw9672271196082820742 tw16893625481721707414 tw875016635822384002 tw171554340519570448 tw4170448781932243640 tw125154777952269847 tw1091770666037912527 tw15507977139972436116 tw12224429461185178637 tw7530758953953376549 tw868787368938995577 tw6389155210901222316 tw18305194138447717869 tw14755986705497067795 tw16321752877497277654 tw17750629468919321640 tw6793832231727712223 tw10883572161020561969 tw5246655096929105097 tw14766631678390030366 tw15701687232290203424 tw1401144794345259665 tw11227961251628226711 tw1501328292763482101 tw7262588249672812843 tw7932072834669143732 tw5831055104954644846 tw8365338820966029205 tw13328891541175539924 tw15495713833916697131 tw100329288702152317 tw7084495469959560505 tw8710037248241040242 tw14286765701191464386 tw17735555433041051376 tw2500684786016976983 tw12738979447991671816 tw12093067879488668161 tw13683176652996404509 tw18123758851181842723 tw13379971184422846956 tw10156070068213095744 tw15769786297338760178 tw9856500535685924486 tw17931565928724510824 tw4246093619793149141 tw18296107117754823726 tw14292816419988201537 tw2183039996200325311 tw3601761186444361403 tw3014911330544470424 tw9146366188062462696 tw15356381774194502656 tw7811100620007297436 tw11100191419400885979 tw5034844636907118027 tw14827453432555829852 tw8510089816222167469 tw13376666581904037398 tw8743911732305956028 tw16908084435254989873 tw6525005858717188450 tw14829323519520695448 tw13051581212198765261 tw17572786315566838960 tw18033693277982366577 tw8115189391148143890 tw14189940643546555274 tw5974900037596318026 tw17018752660393981010 tw3469402876989088029 tw4406526758723124302 tw8830804426471238480 tw3038605361909563789 tw18053322990350462967 tw16790001797309147385 tw242962553701955725 tw16551887532841021351 tw13228912483223871101 tw11837962428091719946 tw13506357370701543615 tw8104085925949938048 tw2697370772116802331 tw393567367083189341 tw2625750190800884500 tw10051918894499624369 tw15849954374884888527 tw531763463585529715 tw2094078499193541596 tw12220474682125644271 tw6030064733366362752 tw1797227538301592618 tw6773854801053716159 tw3049356491413436753 tw10642828311296091025 tw11518960163775517026 tw14274173309045053942 tw842324523555262877 tw10270239651419113338 tw8175269980998778500 tw747434468038437284 tw7179643478055871172 tw13931733593334539564 tw8821595542884181187 tw15626830954725072778 tw13605539559882420697 tw11516489352624018861 tw16891214111185914561 tw13557363991861375297 tw6464822265244214610 tw3646022721109785633 tw15380466369061919695 tw8162863221605262815 tw11400401721883218568 tw15195302701648699162 tw17119461342809341114 tw5527410798559510783 tw15075355287881675351 tw15655369133024324823 tw15816730376167506106 tw16894008201941673078 tw7021188656166359347 tw11114114952268871062 tw4550445566654583374 tw6355130064152572070 tw17585787407274892155 tw15263442270294347599 tw6368957505425053598 tw17213593829315507634 tw5497895196809175710 tw8690091964469127381 tw748910994414506656 tw6806183802346073136 tw2224123730552700200 tw13103224138694068495 tw15315628108558022165 tw3125976113657482670 tw16056149224303203781 tw6506527488622769333 tw16416742116710972886 tw8368289756649109257 tw17220990414931871419 tw11788569788092781839 tw16836802371909936297 tw14817609617029743877 tw5675551547109181277 tw17996662973906881884 tw16890204855068308931 tw15631099043361486713 tw500309682615496006 tw485193868174528022 tw4396784589989836710 tw18236433957155952904 tw11615764242365105092 tw13823837390255211926 tw3525060643216842837 tw11152420030599318654 tw3133436491704823310 tw17092712492178326856 tw3505063693222863609 tw13117179891519220009 tw13848206703829966889 tw17452244221061787273 tw9676423405768698683 tw12061189138525991487 tw12999208549088467888 tw363653569986555926 tw6524228144236601823 tw6349938815751069190 tw9377291225628680452 tw7383377189664552611 tw18036812027454394656 tw18017854214819390588 tw2561457858511971229 tw15160476445056889380 tw6920240752966392307 tw10961895442586222007 tw14281968046402134595 tw16361267867877786118 tw15649179749975790947 tw2637857207880243415 tw3168046129469953122 tw5098331569333551132 tw3519705436258260822 tw13858418471157146891 tw556026976101465501 tw4991215647878918247 tw16890514453519412557 tw4956807061227076604 tw1909525706996067083 tw1182897583292719902 tw13778723869741237916 tw369665604979028096 tw18032351712793302381 tw17947770590499624203 tw14109741309247717346 tw342204700171978879 tw5449998155771670924 tw10776685336469531615 tw11202587287781915690 tw7781418521470233964 tw5064385576673895796 tw10748262678715886883 tw16258225029976297049 tw11584237539859572168 tw5247469232561271921 tw8506544352763453139 tw14131293931260878304 tw17103345176531927712 tw17265252186652425093 tw13227392447413053296 tw9532752078493758507 tw2911888325604333211 tw5385801881324736150 tw18423208696593661867 tw3888780601084914112 tw14955216965620133928 tw6199349795503968146 tw5892794596642289988 tw12796035267616274201 tw2035587762185486330 tw11014961502232001467 tw7736162636377937243 tw17784909294638830600 tw995037146070745936 tw11163445508159380129 tw14685397098585341808 tw12050792369697890735 tw1225152970654857639 tw17499106268652858745 tw7122959169934155805 tw9312364550879094131 tw4074710907300555929 tw7428806619924181456 tw15272526635354721588 tw18083217923292193461 tw5597973911118660593 tw4242064214271347453 tw6914974473250606315 tw9810553588357254019 tw13613230621624780733 tw14250548557133969955 tw17687536469906168713 tw11558723944788499490 tw10174011189234133311 tw3693696740549930051 tw17323630009418647304 tw6344172074948600712 tw13287741524875921393 tw9986485759807385209 tw12560995981263576715 tw12049829323707112762 tw16589832858307777768 tw4730766703005869348 tw617286121793632719 tw16873418605975124333 tw12068217280916335206 tw3297021592992632371 tw2072544154616177582 tw2503035093034766776 tw12436970952190753462 tw7466412599750723905 tw1903948892347442 tw18025667866843046638 tw17219616900506492373 tw203059792320682840 tw1659292282351819941 tw5557511607257035129 tw16612722495405782556 tw8708399166792620174:True)
set_option maxRecDepth 100000 in
set_option maxHeartbeats 0 in
theorem PySem.Challenge.cw_earlysift_k25_what_a_lean_sift_refuses_holds : PySem.Challenge.rw_earlysift_k25_what_a_lean_sift_refuses.Holds := by
  w_on; o_law; k_head; (case hw => w_witness2)
  k_fill
  refine K21.walk (l := PySem.Challenge.rw_earlysift_k25_what_a_lean_sift_refuses) rfl rfl (λw h y => PySem.W.kIn_of y) ?F
  case F =>
    intro w mg fa h KX G hmg
    refine' K21.T_ KX G hmg ?p1 ?p2 ?p3 ?p4 ?p5 ?p6
    (case p1 => and_intros <;> exact K21.WR (by k_is) (by k_is) (by k_is) (by k_is) (by k_is) (by k_is) (by k_is))
    (case p2 => and_intros <;> exact K21.WG (by k_is) (by k_is))
    (case p3 => and_intros <;> k_is)
    (case p4 => and_intros <;> exact K21.WM (by k_is) (by k_is) (by k_is) (by k_is))
    (case p5 => and_intros <;> exact K21.WI (by k_is) (by k_is) (by k_is) (by k_is) (by k_is) (by k_is))
    (case p6 => exact K21.Wv (by k_is) (by k_is) (by kernel_rfl) (by k_is) (by k_is) (by k_is) (by k_is) (by k_is) (by kernel_rfl) (by k_is) (by k_is) (by k_is) (by k_is) (by k_is) (by k_is) (by k_is) (by k_is) (by k_is) (by k_is) (by k_is) (by and_intros <;> first |kit_is |exact K21.Wt (by k_is) (by kit_is)))
