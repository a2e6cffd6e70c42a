import PyProof.Rows.All
import Wide.All
import OpenK.AllK
import Wide.FinOn
import Lean
import PyProof.EqAt
import PyProof.EqKinds
import PyProof.TupleCall
import PyProof.NeKinds
import PyProof.StrCalls6
import PyProof.FString5
import PyProof.Rows.StrClose
import PyProof.Rows.BitMore
import PyProof.Rows.SortWalk
import PySem.Challenge.RW_earlysift_k08_what_a_sift_refuses
open Option renaming some->Y,none->M,bind_eq_some_iff->aa,bind_some->ae,map_eq_some_iff->au,map_some->bP,map->mB,elim->Fe
open Bool renaming true->Z',false->Z_,and_eq_true->aZ,false_ne_true->bJ,false_eq_true->eM,or_eq_true->vM,eq_iff_iff->vN,not_false->Kh,and_false->Ki,and_self->NK,not_not->Qq
open PySem.Str renaming ofString->af
open PySem renaming wpAny_bind->ah,Value->ak,starEach->ao,Shared->av,Addr->ax,wpAny_pure->aE,Str->aJ,mainGlobals->aP,model->aV,sizeLine->bc,wpAny->bq,Program->br,attributeBase->b_,swapsWith->cj,backTo->cn,Heap->cF,foldedSetIterable->cI,World->cY,keywordEach->dh,wpAny_mono->dJ,binaryOp->dN,wpAny_passesOwn->dY,FuncData->eO,wpAny_Call_Name_kw->eZ,cellsFrom->fm,wpAny_holding->fG,bootBuiltins->fJ,compareOp->gr,sizeLine_eq->gF,backToKw->gG,Around->gI,wpAny_truthy_bool->gZ,wpAny_ite_false->g_,behindInMarks->iu,getMethod->jm,wpAny_loadPart_at->jo,wpAny_field->jq,holding->jr,sysModules->kI,wpAny_execs_nil->kR,rawInt->lF,wpAny_pyIter_list->lM,standAt->lN,wpAny_standAt->nI,callWith->nJ,codeAny->nU,Keyword->nV,wpAny_setField->pI,codeAny_mono->pJ,Stmt->pK,wpAny_call->qX,sliceBounds->rN,cLine->rP,ExcBaseFacts->tU,wpAny_setField_rec->uL,wpAny_loadPart->uM,tupleKind_room_in1->uN,NameKind->uO,setFlight->xK,PassesOwn->xM,typeOf->z7,assignEach->z8,letOwnedTupleGo->Ad,unbindBehindTheSuite->CZ,tupleKind->Dg,callerA->Dh,wpAny_attempt->E_,call_meets->GO,call->GP,wpAny_newObj_type->J_,valueAt->Ka,getItem->Kb,BindsTo->Kj,plainObj_wpAny_Assign_Attribute->Ko,wpAny_execs_cons->Nz,noteFrame->NC,assign->NF,Result->NH,subscripted->NY,excClassObj->NZ,Model->N0,relabel->Q3,wpAny_seqItems->TV,wpAny_rule->TY,wpAny_ite_true->TZ,nsFind->T8,newFunctionEnv->T9,isInstance->T_,atKey->Ua
open List renaming getElem?_set_ne->ai,getElem?_eq_some_iff->aq,length_map->aw,mem_cons_of_mem->ay,mem_cons_self->az,mem_append_right->aG,length_append->aS,length_cons->aU,mem_cons->aW,getElem?_map->aY,getElem?_set_self->a_,getElem?_eq_getElem->ba,size_toArray->bb,map_cons->bh,mem_append_left->bj,set_cons_zero->bo,set_cons_succ->bp,replicate->bt,mem_append->bu,append_nil->bV,append_assoc->bY,zip_cons_cons->cb,perm_append_comm_assoc->cm,map_append->cp,range->cv,mem_singleton->cw,getElem?_append_left->cC,length_singleton->cK,nil_append->dk,lookup_cons->dw,all_eq_true->dU,drop_eq_getElem_cons->dX,replicate_succ->gH,getElem?_eq_none->ib,mem_filter->iA,nodup_append->iR,lookup->jB,length_nil->jU,find?_cons->jV,flatten_cons->kq,getElem?_append_right->kW,forall_mem_cons->kX,length_take->lG,all_map->lH,mem_map->nL,not_mem_nil->oY,drop_length->oZ,any_cons->px,all_cons->pz,nodup_cons->qt,filterMap_cons->qv,pairwise_cons->rR,pairwise_iff_getElem->sU,getElem?_eq_none_iff->sV,filter->tI,map_take->tT,cons_append->uP,zipWith_cons_cons->vD,zipWith->vE,range_succ_eq_map->vF,map_set->vG,of_mem_zip->vJ,dropLast_concat->xO,map_congr_left->z9,set->C0,map_nil->C3,map_map->C5,find?_append->C6,zipIdx_cons->EU,length_drop->EV,filter_cons->EW,length_set->GU,map->Ke,getD_eq_getElem?_getD->Kf,getLast?_eq_some_iff->Kq,getLast?_eq_getElem?->Kr,getElem?_replicate->N3,getElem?_cons_succ->N5,take_of_length_le->Qm,map_id'->Qn,drop_eq_nil_of_le->Qo,perm_append_comm->Q4,length_filter_le->Q5,dropLast_eq_take->Q6,replicate_succ'->Ub,length->Uc,getLast?_concat->Ud,mem_map_of_mem->UP,filter_sublist->UQ
open PySem.Heap renaming get?_push_of_some->aj,lt_size->aI,get?_push_size->bz,get?_update_other->bG,get?_update_self->cU,size_push->cW,SameBut->fK,size_update->xP
open PySem.Value renaming ref->aD,none->aK,type->bS,int->jn,bool->oK,builtin->wX,str->NG
open Nat renaming le_refl->aQ,lt_of_lt_of_le->bx,ne_of_lt->bI,le_trans->bQ,zero_le->cy,lt_irrefl->fg,le_succ->fA,ne_of_gt->fS,le_of_lt->fT,le_add_right->hG,lt_succ_self->js,le_of_eq->nK,mul_le_mul_right->pL,testBit_and->qr,zero_add->qY,lt_succ_of_lt->tG,le_succ_of_le->tH,eq_of_testBit_eq->xN,testBit_xor->GR,min_eq_left->GS,testBit_or->Kd,add_right_cancel_iff->NI,succ_mul->Qj,pow_succ->Qk,min_self->Ql
open PySem.W renaming Frag->aT,findIn->hI,nsIn->iy,kitOne->jK,keepIn->kT,hasDictIn->pw,emptyDict->rO,kia_one->rW,mg_of->xr,instObj->Fd,takerIn->NB
open Ne renaming symm->bF
open Option.some renaming inj->bM,injEq->gz
open Int renaming emod_lt_of_pos->bR,emod_nonneg->cf,eq_ofNat_of_zero_le->dG,toNat_natCast->iT,natCast_nonneg->rS,lt_trans->vH,lt_of_le_of_lt->AB,add_sub_cancel->AD,fdiv_eq_ediv_of_nonneg->Kg,le_trans->Qp,le_refl->Ue
open False renaming elim->cD
open Sum renaming inr->cN,inl->yr
open PySem.Builtin renaming bitOr->cZ,bitNot->uQ,bitAnd->uR
open PyProof.Rows renaming arrOf->da,wpS_bind->dm,wpS_pure->gL,callWith_type1->gX,pendingOf->oO,callWith_builtin1->oX,envOfC->qu,pairsOf->rV,wpS_forRange->xq,AllBare->AF,seqObj->Fb,pairsOf_size->Fc,IntsAre->Ff,boot_isinstance->GQ,nat_or_add_and->Iz,firstOfTuple'->Qh,bitAnd_pp->Qi,listItems_at->UN,failedOf->UO
open Pure renaming pure->dP
open Function renaming comp_def->fo
open PySem.Data renaming fields->fQ,dict->qZ
open PySem.F renaming plainAttrs_list->fX
open True renaming intro->gB
open PySem.NameKind renaming free->iw,cell->rF
open Or renaming inl->ka,inr->rQ
open List.Sublist renaming refl->ku
open PySem.PassesOwn renaming never->kU
open Array renaming getElem?_eq_some_iff->kY,find?_toList->mC,getElem?_setIfInBounds_ne->oM,perm_iff_toList_perm->rT,getElem?_eq_getElem->sW,getElem?_toList->wY,findIdx?_eq_some_iff_getElem->AE,getElem_setIfInBounds_self->C7,getElem_setIfInBounds_ne->EY,eraseIdxIfInBounds->NL,getElem?_eq_none->Qr,toArray_toList->Uh,length_toList->UR
open PySem.Builtin.List renaming listTooLong->nM,listItems->Aa
open PySem.Txt renaming slice->oP,slice_le->Kc
open List.Perm renaming of_eq->vK
open ForInStep renaming yield->vL
open PySem.Calls renaming callWith_builtin->z_,spliced_cons->GV,Name_function_global->Ug
open Prod.mk renaming injEq->Ae
open PySem.Heap.IsList renaming push->NJ
set_option bootstrap.genMatcherCode false
set_option compiler.extract_closed false
set_option genSizeOfSpec false
noncomputable section
set_option maxRecDepth 100000
set_option maxHeartbeats 4000000
open PySem.W (Frag mg_of nsIn mg_none_of findIn kia_one fnOf emptyDict keepIn instObj kitOne codeIn plainGet hasDictIn plainOver takerIn makesIn methodObj lookIn)
open PySem.F (plainAttrs_list)
set_option Elab.async false
set_option linter.all false
theorem ſ{p:Prop}(h:p:=by decide):p:=h
theorem ž{p:Prop}(h:p:=by omega):p:=h
theorem Ž{p:Prop}(h:p:=by simp):p:=h
theorem ŵ{p:Prop}(h:p:=by first|exact ka rfl|exact rQ (ka rfl)|exact rQ (rQ rfl)):p:=h
def Ŷ:Lean.Syntax:=ŵ._auto_1
theorem ų{p:Prop}(h:p:=by walk_at "b"):p:=h
def Ŵ:Lean.Syntax:=ų._auto_1
theorem ű{p:Prop}(h:p:=by rfl):p:=h
def Ų:Lean.Syntax:=ű._auto_1
def Ű:Lean.Syntax:=ſ._auto_1
theorem Ů{p:Prop}(h:p:=by intro _;rfl):p:=h
def ů:Lean.Syntax:=Ů._auto_1
theorem Ŭ{p:Prop}(h:p:=by first|exact .inl rfl|exact .inr rfl|assumption):p:=h
def ŭ:Lean.Syntax:=Ŭ._auto_1
theorem Ū{p:Prop}(h:p:=by intro a;simp_all):p:=h
def ū:Lean.Syntax:=Ū._auto_1
theorem Ũ{p:Prop}(h:p:=by decide +kernel):p:=h
def ũ:Lean.Syntax:=Ũ._auto_1
def ŧ:Lean.Syntax:=ž._auto_1
theorem ť{p:Prop}(h:p:=by exact λ_ _=>rfl):p:=h
def Ŧ:Lean.Syntax:=ť._auto_1
namespace L2
open PySem PySem.Spec PyProof.Rows
abbrev lL:=Sum Int aJ
noncomputable def Bc:lL->ak->Bool
 |.inl k,v=>Value.isInt k v|.inr x,v=>Value.isStrOf x v
noncomputable def YA(w:cY):lL->Int
 |.inl k=>hashInt k|.inr x=>hashStr w x
theorem gQ:∀ {k:lL}{v:ak},Bc k v=Z'->(∃i t,k=yr i/\v=jn i t)\/(∃x t,k=cN x/\v=NG x t)
 |.inl i,v,h=>by obtain⟨t,e⟩:=Value.isInt_shape (k:=i) (v:=v) h;exact .inl ⟨i,t,rfl,e⟩
 |.inr x,v,h=>by obtain⟨t,e⟩:=Value.isStrOf_shape (x:=x) (v:=v) h;exact .inr ⟨x,t,rfl,e⟩
def Jw(i:Int)(t:Tok):Bc (.inl i) (.int i t)=true:=by simp[Bc,Value.isInt]
def Jv(x:aJ)(t:Tok):Bc (.inr x) (.str x t)=true:=by simp[Bc,Value.isStrOf]
def Ss(a b:Int):decide ((yr a:lL)=yr b)=(a==b):=by
 by_cases e:a=b
 ·subst e;simp
 ·have h:¬(yr a:lL)=yr b:=λq=>e (Sum.inl.inj q)
  rw[decide_eq_false h];exact(beq_eq_false_iff_ne.mpr e).symm
def Sn(a b:aJ):decide ((cN a:lL)=cN b)=decide (a=b):=by
 by_cases e:a=b
 ·subst e;simp
 ·have h:¬(cN a:lL)=cN b:=λq=>e (Sum.inr.inj q)
  rw[decide_eq_false h,decide_eq_false e]
def Sq(a:Int)(b:aJ):decide ((yr a:lL)=cN b)=false:=decide_eq_false (λq=>nomatch q)
def So(a:aJ)(b:Int):decide ((cN a:lL)=yr b)=false:=decide_eq_false (λq=>nomatch q)
def hV(prog:br)(w:cY):PySem.KeyKind prog w lL where
 is:=Bc
 hash:=YA w
 inj:=λv a b l f=>by
  rcases gQ l with⟨i,t,rfl,rfl⟩|⟨x,t,rfl,rfl⟩
  ·rcases gQ f with⟨j,u,rfl,e⟩|⟨y,u,rfl,e⟩
   ·injection e with e1 _;rw[e1]
   ·exact nomatch e
  ·rcases gQ f with⟨j,u,rfl,e⟩|⟨y,u,rfl,e⟩
   ·exact nomatch e
   ·injection e with e1 _;rw[e1]
 byValue:=λk v h=>by
  rcases gQ h with⟨i,t,rfl,rfl⟩|⟨x,t,rfl,rfl⟩<;>rfl
 pyHash:=λc h=>by
  rcases gQ c with⟨i,t,rfl,rfl⟩|⟨x,t,rfl,rfl⟩
  ·exact wpAny_pyHash_int h
  ·exact wpAny_pyHash_str h
 eqBool:=λg c h=>by
  rcases gQ g with⟨i,t,rfl,rfl⟩|⟨x,t,rfl,rfl⟩
  ·rcases gQ c with⟨j,u,rfl,rfl⟩|⟨y,u,rfl,rfl⟩
   ·rw[Ss]at h;exact wpAny_eqBool_int h
   ·rw[Sq]at h;exact SeqAt.EqAt.int_str i t y u _ _ _ _ h
  ·rcases gQ c with⟨j,u,rfl,rfl⟩|⟨y,u,rfl,rfl⟩
   ·rw[So]at h;exact SeqAt.EqAt.str_int x t j u _ _ _ _ h
   ·rw[Sn]at h;exact wpAny_eqBool_str h
 «strs» :=λk x t v h=>by
  rcases gQ h with⟨i,u,rfl,e⟩|⟨y,u,rfl,e⟩
  ·exact nomatch e
  ·injection e with e1 _
   subst e1
   cases v<;>rfl
def D_(prog:br)(w:cY)(i:Int)(t:Tok):(hV prog w).is (.inl i) (.int i t)=true:=Jw i t
def D9(prog:br)(w:cY)(x:aJ)(t:Tok):(hV prog w).is (.inr x) (.str x t)=true:=Jv x t
inductive V where
 |dg|bl (b:Bool)|int (i:Int)|str (x:aJ)|GB (b:Array UInt8)|NT (b:UInt64)|ref (a:ax)|ty (n:String)
 deriving DecidableEq
def RelV:V->ak->Prop
 |.dg,u=>u=aK|.bl b,u=>u=oK b|.int i,u=>∃t,u=jn i t|.str x,u=>∃t,u=NG x t|.GB b,u=>∃t,u=Value.bytes b t|.NT b,u=>∃t,u=Value.float b t|.ref a,u=>u=aD a|.ty n,u=>u=bS n
abbrev cg:List V->List ak->Prop:=Paired RelV
def cg.length{xs:List V}{a:List ak}(r:cg xs a):xs.length=a.length:=Paired.length r
theorem cg.get:∀ {xs:List V}{a:List ak}{i:Nat}{x:V},cg xs a->xs[i]?=Y x->∃u,a[i]?=Y u/\RelV x u
 |_,_,_,_,.nil,e=>by simp at e
 |_,_,0,_,.cons r _,e=>by simp at e;subst e;exact⟨_,rfl,r⟩
 |_,_,i+1,x,.cons _ t,e=>by obtain⟨u,J,z⟩:=cg.get (i:=i) (x:=x) t (by simpa using e);exact⟨u,by simpa using J,z⟩
theorem cg.set{u:ak}(r:RelV x u):∀ {xs:List V}{a:List ak}(i:Nat),cg xs a->cg (xs.set i x) (a.set i u)
 |_,_,_,.nil =>.nil|_,_,0,.cons _ t =>.cons r t|_,_,i+1,.cons q t =>.cons q (cg.set r i t)
def cg.append{xs ys:List V}{b a:List ak}(h:cg xs b)(s:cg ys a):cg (xs++ys) (b++a):=by
 induction h with|nil=>exact s|cons r t i=>exact .cons r i
theorem cg.take:∀ {xs:List V}{a:List ak}(n:Nat),cg xs a->cg (xs.take n) (a.take n)
 |_,_,0,_ =>.nil|_,_,_+1,.nil =>.nil|_,_,n+1,.cons r t =>.cons r (cg.take n t)
theorem cg.drop:∀ {xs:List V}{a:List ak}(n:Nat),cg xs a->cg (xs.drop n) (a.drop n)
 |_,_,0,r=>r|_,_,_+1,.nil =>.nil|_,_,n+1,.cons _ t=>cg.drop n t
def pH:Option V->Option ak->Prop
 |some v,Y u=>RelV v u|none,M=>True|_,_=>False
def KV{a:Type}:List (a×V)->List (a×ak)->Prop:=Paired λ(p:a×V) (q:a×ak)=>p.1=q.1/\RelV p.2 q.2
noncomputable def kV:lL->V
 |.inl i =>.int i|.inr x =>.str x
inductive HO where
 |lst (xs:List V)
 |tup (xs:List V)
 |dK (fM:List (lL×V))|dT (fM:List (List lL×V))
 |set (S:Int->Bool) (n:Nat)
 |ins (C dx:ax) (fs:List (aJ×V))
 |Z (x:ax)
 |xd (fs:List (aJ×V))
 |met (f x:ax)
 |W5 (lo hi:Int)
 |Gf (o:Obj) (u:HO)
 |Qx (ps:Array ak)
 |ext (φ:cF->Prop)
abbrev Hp:=ax->Option HO
noncomputable def cx(H:Hp)(a:ax)(o:HO):Hp:=λb=>if b=a then Y o else H b
def aX{a:ax}{o:HO}:cx H a o a=Y o:=by unfold cx;rw[if_pos rfl]
def aM{a:ax}{o:HO}(h:b≠a):cx H a o b=H b:=by unfold cx;rw[if_neg h]
def N_{o:HO}:cx (cx H a o) a u=cx H a u:=by
 funext b;unfold cx;split<;>rfl
def VD{H:Hp}{a:ax}(h:H a=Y o)(h':H b=Y u)(d:o≠u):a≠b:=by
 intro e;subst e;rw[h]at h';exact d (bM h')
def bf{H:Hp}(h:H a=Y o)(h':H b=M):a≠b:=by
 intro e;subst e;rw[h]at h';cases h'
section
variable (P:br)(w:cY)
def e_(H:Hp)(h:cF)(a:ax):HO->Prop
 |.lst xs=>xs.length<=bc/\∃(g:List ak) (b:Nat),cg xs g/\h.get? a=Y { cls :=.type "list",data :=.seq g.toArray b }|.tup xs=>xs.length<=bc/\∃g:List ak,cg xs g/\IsTup h a g.toArray|.dK e=>e.length<=bc/\(a==kI)=Z_/\∃l,KV e l/\h.DictOf (hV P w) a l| .dT e=>e.length<=bc/\(a==kI)=Z_/\∃xs:List (List lL×ax×ak),
   Paired (λ(p:List lL×V) (c:List lL×ax×ak)=>p.1=c.1/\H c.2.1=Y (.tup (p.1.map kV))/\RelV p.2 c.2.2) e xs /\
   ∃o es m,h.get? a=Y o/\o.ExactDict/\o.data=.dict es m/\es.toList=xs.map (entryOfKey (Dg (hV P w)))/\(xs.map (·.1)).Nodup
 |.set S b=>h.SetOf (intKind P w) a S b| .ins C dx j=>H dx=Y (.Z a)/\j.length<=1000/\dx≠a/\h.get? a=Y (Fd C dx) /\
   ∃mA,h.Ns1 dx mA/\(∀f,pH (j.lookup f) (mA f))/\PySem.Within mA (j.map (·.1))
 |.Z _=>∃o,h.get? a=Y o|.xd j=>∃mA,h.Ns1 a mA/\∀f,pH (j.lookup f) (mA f)|.W5 n L=>∃t u v,h.get? a=Y { cls :=.type "range",data :=.fields #[.int n t,.int L u,.int 1 v] }|.Gf o u=>h.get? a=Y o/\e_ H h a u|.Qx q=>h.get? a=Y { cls :=.none,data :=.fields q }|.met f x=>h.get? a=Y (methodObj (.ref f) (.ref x))
 |.ext k=>k h/\(∃o,h.get? a=Y o)/\∀J z:cF,k J->(∀o,J.get? a=Y o->z.get? a=Y o)->k z
def nS(H:Hp)(h:cF):Prop:=∀a o,H a=Y o->e_ P w H h a o
end
section
variable {P:br}
def e_.lt(x:e_ P w H h a o):a<h.objs.size:=by
 cases o with
 |lst xs=>obtain⟨_,_,_,_,e⟩:=x;exact aI e
 |tup xs=>obtain⟨_,_,_,p⟩:=x;exact p.lt
 |set S b=>obtain⟨o,_,_,_,e,_⟩:=x;exact aI e
 |ins C dx j=>obtain⟨_,_,_,e,_⟩:=x;exact aI e
 |Z y=>obtain⟨_,e⟩:=x;exact aI e
 |xd j=>obtain⟨_,⟨_,_,_,e,_⟩,_⟩:=x;exact aI e
 |W5 n L=>obtain⟨_,_,_,e⟩:=x;exact aI e
 |Gf k u=>obtain⟨e,_⟩:=x;exact aI e
 |Qx q=>exact aI (show h.get? a=Y _ from x)
 |met f y=>exact aI (show h.get? a=Y _ from x)
 |ext g=>obtain⟨_,⟨_,e⟩,_⟩:=x;exact aI e
 |_=>obtain⟨_,_,_,_,o,_,_,e,_⟩:=x;exact aI e
def Paired.VJ{h:Type}{F G:h->g->Prop}{e:List h}{c:List g}(h:Paired F e c)(f:∀a b,F a b->G a b):Paired G e c:=by
 induction h with|nil=>exact .nil|cons r t i=>exact .cons (f _ _ r) i
def e_.vV(x:e_ P w H h a o)(k:∀b u,(b=a\/H b=Y (.Z a))->h.get? b=Y u->h'.get? b=Y u)(Q:∀b,H b=Y (.Z a)->H' b=Y (.Z a))(i:∀b xs,H b=Y (.tup xs)->H' b=Y (.tup xs)):e_ P w H' h' a o:=by
 induction o with
 |lst xs=>obtain⟨z,A,g,r,e⟩:=x;exact⟨z,A,g,r,k _ _ (.inl rfl) e⟩
 |tup xs=>obtain⟨z,A,r,m,e,c⟩:=x;exact⟨z,A,r,m,k _ _ (.inl rfl) e,c⟩
 |dK E=>obtain⟨z,y,F,r,m,es,s,e,c⟩:=x;exact⟨z,y,F,r,m,es,s,k _ _ (.inl rfl) e,c⟩
 |dT E=>obtain⟨z,y,xs,r,m,es,s,e,c⟩:=x;exact⟨z,y,xs,Paired.VJ r λp l z=>⟨z.1,i _ _ z.2.1,z.2.2⟩,m,es,s,k _ _ (.inl rfl) e,c⟩
 |set S g=>obtain⟨m,es,s,t,e,c⟩:=x;exact⟨m,es,s,t,k _ _ (.inl rfl) e,c⟩
 |ins C dx j=>obtain⟨d,z,K,e,mA,⟨D,es,s,R,c⟩,r⟩:=x;exact⟨Q _ d,z,K,k _ _ (.inl rfl) e,mA,⟨D,es,s,k _ _ (.inr d) R,c⟩,r⟩
 |Z y=>obtain⟨m,e⟩:=x;exact⟨m,k _ _ (.inl rfl) e⟩
 |xd j=>obtain⟨mA,⟨D,es,s,e,c⟩,r⟩:=x;exact⟨mA,⟨D,es,s,k _ _ (.inl rfl) e,c⟩,r⟩
 |W5 n L=>obtain⟨t,u,v,e⟩:=x;exact⟨t,u,v,k _ _ (.inl rfl) e⟩
 |Gf m u ih=>obtain⟨e,l⟩:=x;exact⟨k _ _ (.inl rfl) e,ih l⟩
 |Qx q=>have e:h.get? a=Y { cls :=.none,data :=.fields q }:=x;show h'.get? a=Y { cls :=.none,data :=.fields q };exact k a _ (.inl rfl) e
 |met f y=>have e:h.get? a=Y (methodObj (.ref f) (.ref y)):=x;show h'.get? a=Y (methodObj (.ref f) (.ref y));exact k a _ (.inl rfl) e
 |ext T=>obtain⟨p,⟨o,e⟩,st⟩:=x;exact⟨st _ _ p λo l=>k _ _ (.inl rfl) l,⟨o,k _ _ (.inl rfl) e⟩,st⟩
def nS.lt(x:nS P w H h)(e:H a=Y o):a<h.objs.size:=(x a o e).lt
def nS.fresh(x:nS P w H h)(e:h.objs.size<=a):H a=none:=by
 rcases q:H a with _|u
 ·rfl
 exact absurd (bx (x.lt q) e) (fg _)
def nS.kept(x:nS P w H h)(k:∀b u,h.get? b=Y u->h'.get? b=Y u):nS P w H h':=λa o e=>
 (x a o e).vV (λb u _ q=>k b u q) (λ_ q=>q) λ_ _ q=>q
def nS.laid(x:nS P w H h)(k:∀b u,h.get? b=Y u->h'.get? b=Y u)(m:h.objs.size<=a)(f:e_ P w (cx H a o) h' a o):nS P w (cx H a o) h':=λb u e=>by
 have g:=x.fresh m;by_cases l:b=a
 ·subst l;rw[aX]at e;cases e;exact f
 ·rw[aM l]at e;exact(x b u e).vV (λc v _ q=>k c v q) (λc q=>by rw[aM (bf q g)];exact q) λc xs q=>by rw[aM (bf q g)];exact q
end
def Rd(H:Hp)(a:ax)(u:HO):Prop:=H a=Y u\/∃o,H a=Y (.Gf o u)
def Rd.of(h:H a=Y u):Rd H a u :=.inl h
def Rd.ok{P:br}{a:ax}(r:Rd H a u)(x:nS P w H h):e_ P w H h a u:=by
 rcases r with r|⟨o,r⟩
 ·exact x a u r
 ·obtain⟨_,q⟩:=x a _ r;exact q
def WE:Option HO->Prop
 |some (.lst _)=>True|some (.dK _)=>True|some (.dT _)=>True|some (.set _ _)=>True|some (.ins _ _ _)=>True|some (.ext _)=>True|_=>False
section
variable {P:br}
def nS.write(C:nS P w H h)(l:WE (H x))(A:e=x\/H e=Y (.Z x))(k:∀b u,b≠e->h.get? b=Y u->h'.get? b=Y u)(s:∃u,h'.get? e=Y u)(p:e_ P w (cx H x o') h' x o'):nS P w (cx H x o') h':=λb u q=>by
 have f:∀c y,H c=Y (.Z y)->c≠x:=λc y r z=>by subst z;rw[r]at l;exact l
 have g:∀c xs,H c=Y (.tup xs)->c≠x:=λc xs r z=>by subst z;rw[r]at l;exact l
 by_cases o:b=x
 ·subst o;rw[aX]at q;cases q;exact p
 ·rw[aM o]at q;by_cases a:b=e
  ·have t:H b=Y (.Z x):=by
    rcases A with z|z
    ·exact absurd (a.trans z) o
    ·rw[a];exact z
   rw[q]at t;cases t;obtain⟨v,D⟩:=s;exact⟨v,by rw[a];exact D⟩
  ·refine(C b u q).vV (λc v m r=>k c v ?_ r) (λc r=>by rw[aM (f c b r)];exact r) λc xs r=>by rw[aM (g c xs r)];exact r
   rcases m with rfl|m
   ·exact a
   ·rintro rfl;rcases A with z|z
    ·exact f c b m z
    ·rw[m]at z;cases z;exact o rfl
end
structure Un(fs ex:List ax)(H H':Hp)(h h':cF):Prop where
 keep:∀b o,h.get? b=some o->H b=none->b∉fs->b∉ex->h'.get? b=some o
 slot:∀b o,h.get? b=some o->H b=none->b∈fs->b∉ex->∃sl,h'.get? b=some { o with slots:=sl }
 free:∀b o,h.get? b=some o->H b=none->b∉ex->H' b=none
 there:∀b o,h.get? b=some o->b∉ex->∃o',h'.get? b=some o'
 BJ:∀b xs,H b=some (.tup xs)->H' b=some (.tup xs)
 Ar:∀b o u,H b=some (.Gf o u)->H' b=some (.Gf o u)
 BK:∀b ps,H b=some (.Qx ps)->∃more,H' b=some (.Qx (ps++more))
def Un.any(u:Un j ex H O h J){a:Obj}(q:h.get? b=Y a)(n:H b=M)(c:b∉ex):∃f,J.get? b=Y { a with slots:=f }:=by
 by_cases e:b∈j
 ·exact u.slot b a q n e c
 ·exact⟨a.slots,u.keep b a q n e c⟩
def Un.kept(k:∀b u,h.get? b=Y u->h'.get? b=Y u):Un j ex H H h h':=
 ⟨λb c a _ _ _=>k b c a,λb c a _ _ _=>⟨c.slots,k b c a⟩,λ_ _ _ n _=>n,λb c a _=>⟨c,k b c a⟩,λ_ _ a=>a,λ_ _ _ a=>a,λ_ q a=>⟨#[],by rw[a];simp⟩⟩
def Un.refl:Un j ex H H h h:=Un.kept λ_ _ q=>q
def Un.laid(k:∀b u,h.get? b=Y u->h'.get? b=Y u)(f:h.objs.size<=a)(e:H a=M):Un j ex H (cx H a o) h h' where
 keep:=λb u c _ _ _=>k b u c
 slot:=λb u c _ _ _=>⟨u.slots,k b u c⟩
 free:=λb u c n _=>by rw[aM (bI (bx (aI c) f))];exact n
 there:=λb u c _=>⟨u,k b u c⟩
 BJ:=λb xs c=>by rw[aM (bf c e)];exact c
 Ar:=λb u xs c=>by rw[aM (bf c e)];exact c
 BK:=λb q c=>⟨#[],by rw[aM (bf c e),c];simp⟩
def Un.write(f:WE (H x))(s:e=x\/H e=Y (.Z x))(k:∀b u,b≠e->h.get? b=Y u->h'.get? b=Y u)(l:∃u,h'.get? e=Y u):Un j ex H (cx H x o) h h':=by
 have m:∀b,H b=M->b≠x:=λb n z=>by subst z;rw[n]at f;exact f
 have p:∀b,H b=M->b≠e:=λb n z=>by
  subst z;rcases s with r|r
  ·exact m b n r
  ·rw[n]at r;cases r
 have g:∀b u,H b=Y u->¬WE (Y u)->b≠x:=λb u a nm z=>by subst z;rw[a]at f;exact nm f
 refine⟨λb u a n _ _=>k b u (p b n) a,λb u a n _ _=>⟨u.slots,k b u (p b n) a⟩,λb u a n _=>by rw[aM (m b n)];exact n,λb u a _ =>?_,
  λb xs a=>by rw[aM (g b _ a λz=>z)];exact a,λb u xs a=>by rw[aM (g b _ a λz=>z)];exact a,λb q a=>⟨#[],by rw[aM (g b _ a λz=>z),a];simp⟩⟩
 by_cases c:b=e
 ·subst c;exact l
 ·exact⟨u,k b u c a⟩
noncomputable def WV(h:cF)(H:Hp):List ax:=(cv h.objs.size).filter λa=>(H a).isSome
def Ci(h:cF)(H:Hp):cF:=PySem.W.hideAll h (WV h H)
def JF(h:cF)(H:Hp):(Ci h H).objs.size=h.objs.size:=PySem.W.hideAll_size _ _
def Mq(e:h.get? b=Y o)(n:H b=M):(Ci h H).get? b=Y o:=
 PySem.W.hideAll_get _ e λa=>by have q:(H b).isSome=true:=(iA.mp a).2;rw[n]at q;simp at q
def O0(e:(Ci h H).get? b=Y o):h.get? b=Y o/\H b=none:=by
 have a:h.get? b=Y o:=PySem.W.of_hideAll (WV h H) e;refine⟨a,?_⟩;rcases q:H b with _|x
 ·rfl
 have c:b∈WV h H:=iA.mpr ⟨List.mem_range.mpr (aI a),by simp[q]⟩;have z:(Ci h H).get? b=none:=PySem.W.hideAll_none (WV h H) c;rw[z]at e;cases e
structure Mod(K:aT)(mg:aJ->Option ak)(base:cF):Prop where
 Sl:K.In base
 glob:base.Ns aP mg
 blt:∃mb,base.Ns builtinsNs mb/\∀x:aJ,x ≠ "__name__" ->mb x=fJ x
 nolimit:base.NoLimit
structure Cx where
 prog:br
 w:cY
 K:aT
 mg:aJ->Option ak
 base:cF
 A:gI
 N:List aJ
 s₀:av
 H₀:Hp
 env:Env
 outer:List Env
 stack:List Env
 ex:List ax
 fn:aJ->Bool
 calm:Bool
 pn:List (ax×Obj)
 xe:ak->av->Prop
noncomputable def yf(l:List Env):List ax:=l.filterMap (·.frame)
abbrev Cx.fs(X:Cx):List ax:=yf X.outer
def TK(a:Scope)(x:aJ):Prop:=a.names.lookup x=Y .local\/a.names.lookup x=Y .cell\/a.names.lookup x=Y .free
def Loc(a:Scope)(x:aJ):Prop:=a.names.lookup x=Y .local\/a.names.lookup x=Y .cell
def Look(a:Env)(h:cF)(m:aJ->Option ak)(x:aJ)(u:ak):Prop:=
 (a.kindOf x=Y .local/\m x=Y u)\/((a.kindOf x=Y .cell\/a.kindOf x=Y .free)/\∃c,a.cells.lookup x=Y c/\h.IsCell c (Y u))
structure Cx.Ok(X:Cx):Prop where
 mod:Mod X.K X.mg X.base
 kind:X.env.scope.kind=.function
 glob:X.env.globals=aP
 blt:X.env.builtins=builtinsNs
 above:X.s₀.heap.objs.size<=X.env.locals
 inj:∀x y c,X.env.cells.lookup x=some c->X.env.cells.lookup y=some c->x=y
 has:∀x,(X.env.kindOf x=some .cell\/X.env.kindOf x=some .free)->∃c,X.env.cells.lookup x=some c
 UD:∀x c,X.fn x=true->X.env.cells.lookup x=some c->X.s₀.heap.objs.size<=c
 hd:X.calm=true->X.A.handled=none
 frames:X.A.frames=some X.stack
 Vb:X.stack=X.outer\/(X.stack=X.env::X.outer/\X.env.frame=some X.env.locals)
 Y9:∀b∈X.ex,b≠X.env.locals/\∀x c,X.env.cells.lookup x=some c->c≠b
 bs:∀b o,X.base.get? b=some o->X.s₀.heap.get? b=some o/\X.H₀ b=none
 NU:X.base.objs.size<=X.s₀.heap.objs.size
 Jn:∀b o,X.base.get? b=some o->b∉X.ex
 MC:∀b∈X.ex,b∉X.fs
 wz:X.s₀.heap.FunFrames X.base X.outer
 QS:∀b∈X.fs,X.H₀ b=none
structure Inv(X:Cx)(AA:List (ax×Obj))(σ:List (Option V))(H:Hp)(s:av):Prop where
 ok:X.Ok
 os:s.os=X.s₀.os
 bare:AF s.gens
 base:Un X.fs X.ex X.H₀ H X.s₀.heap s.heap
 loc:∃m,s.heap.Ns X.env.locals m/\∀(i:Nat) (x:aJ) (v:V),X.N[i]?=some x->σ[i]?=some (some v)->TK X.env.scope x->∃u,RelV v u/\Look X.env s.heap m x u
 cell:∀x c,X.env.cells.lookup x=some c->∃v,s.heap.IsCell c v
 free:H X.env.locals=none
 mZ:∀x c,X.env.cells.lookup x=some c->H c=none
 pin:∀p∈X.pn++AA,s.heap.get? p.1=some p.2/\H p.1=none/\p.1≠X.env.locals/\p.1∉X.fs/\∀v,p.2.data ≠ .cell v
 eR:nS X.prog X.w H s.heap
 len:σ.length=X.N.length
section
variable {X:Cx}{s:av}
def Cx.Ok.Yv(a:X.Ok)(e:X.base.get? b=Y o):b∉X.fs:=λc=>by
 have:=(a.wz.mem c).1;rw[e]at this;cases this
def Inv.bs(I:Inv X B U H s):∀b o,X.base.get? b=Y o->s.heap.get? b=Y o/\H b=none:=λb o e=>
 ⟨I.base.keep b o (I.ok.bs b o e).1 (I.ok.bs b o e).2 (I.ok.Yv e) (I.ok.Jn b o e),I.base.free b o (I.ok.bs b o e).1 (I.ok.bs b o e).2 (I.ok.Jn b o e)⟩
def Inv.bk(I:Inv X B U H s):∀b o,X.base.get? b=Y o->s.heap.get? b=Y o:=λb o e=>(I.bs b o e).1
def Inv.mod(I:Inv X B U H s):Mod X.K X.mg X.base:=I.ok.mod
def Inv.pM(I:Inv X B U H s):X.K.In s.heap:=I.ok.mod.Sl.keeps I.bk
def Inv.lt(I:Inv X B U H s):X.env.locals<s.heap.objs.size:=let ⟨_,a,_⟩:=I.loc;a.lt
def Inv.sz(I:Inv X B U H s):X.s₀.heap.objs.size<=s.heap.objs.size:=bQ I.ok.above (fT I.lt)
def Inv.R8(I:Inv X B U H s)(h:s.heap.objs.size<=a):a∉X.fs:=λc=>by
 obtain⟨_,o,b,_⟩:=I.ok.wz.mem c;exact absurd (bx (aI b) (bQ I.sz h)) (fg _)
def Inv.XC(I:Inv X B U H s):∀x c,X.env.cells.lookup x=Y c->c≠X.env.locals:=λx c e z=>by
 obtain⟨v,o,f,g⟩:=I.cell x c e;obtain⟨m,⟨o',es,h,a,b,_⟩,_⟩:=I.loc;rw[z,a]at f;cases f;rw[b]at g;cases g
def Inv.wz(I:Inv X B U H s):s.heap.FunFrames X.base X.outer:=by
 have g:∀(l:List Env),(∀b∈yf l,b∈X.fs)->X.s₀.heap.FunFrames X.base l->s.heap.FunFrames X.base l:=by
  intro l
  induction l with
  |nil=>intro _ _;trivial
  |cons w r ih=>
   intro h t;obtain⟨u,⟨L,o,a,p,m,v⟩,k⟩:=t;have f:L∈X.fs:=h L (by unfold yf;rw[qv,a];exact az);obtain⟨x,e⟩:=I.base.slot L o m (I.ok.QS L f) f λz=>I.ok.MC L z f
   exact⟨u,⟨L,_,a,p,e,v⟩,ih (λb c=>h b (by unfold yf;rw[qv,a];exact ay _ c)) k⟩
 exact g X.outer (λ_ c=>c) I.ok.wz
def Inv.stack(I:Inv X B U H s):s.heap.FunFrames X.base X.stack:=by
 rcases I.ok.Vb with e|⟨e,b⟩
 ·rw[e];exact I.wz
 ·rw[e];obtain⟨m,a,_⟩:=I.loc;refine .cons (by rw[I.ok.kind];decide) b a ?_ I.wz;exact Heap.get?_none_of_le (bQ I.ok.NU I.ok.above)
def Inv.ue(I:Inv X B U H s):∀b∈yf X.stack,b∈X.env.locals::X.fs:=λb a=>by
 rcases I.ok.Vb with e|⟨e,c⟩
 ·rw[e]at a;exact ay _ a
 ·rw[e]at a;unfold yf at a;rw[qv,c]at a;exact a
def Inv.xT(I:Inv X B U H s):∀b∈yf X.stack,H b=none:=λb a=>by
 rcases aW.mp (I.ue b a) with e|a
 ·rw[e];exact I.free
 ·obtain⟨_,o,c,_⟩:=I.ok.wz.mem a;exact I.base.free b o c (I.ok.QS b a) λz=>I.ok.MC b z a
def Inv.step{g':Array GenState}{t':Nat}{d':Drawn}{ch:List ax}(I:Inv X B U H s)(w:∀b∈ch,(b∈X.ex\/X.s₀.heap.objs.size<=b)/\b≠X.env.locals/\(∀x c,X.env.cells.lookup x=Y c->c≠b)/\∀p∈X.pn++B,p.1≠b)(t:∀b o,b≠X.env.locals->b∉X.fs->b∉ch->s.heap.get? b=Y o->H b=M->h'.get? b=Y o)(E:∀b o,b≠X.env.locals->b∈X.fs->b∉ch->s.heap.get? b=Y o->H b=M->∃sl,h'.get? b=Y { o with slots:=sl })(g:∀b o,b∉ch->s.heap.get? b=Y o->H b=M->H' b=M)(F:∀b o,b∉ch->s.heap.get? b=Y o->∃o',h'.get? b=Y o')(P:∀b xs,H b=Y (.tup xs)->H' b=Y (.tup xs))(T:∀b o u,H b=Y (.Gf o u)->H' b=Y (.Gf o u))(Q:∀b q,H b=Y (.Qx q)->∃S,H' b=Y (.Qx (q++S)))(ns:∀m,s.heap.Ns X.env.locals m->h'.Ns X.env.locals m)(eR:nS X.prog X.w H' h')(hg:AF g'):
  Inv X B U H' { s with heap:=h',gens:=g',drawn:=d',toks:=t' }:=by
 have R:∀b o,X.s₀.heap.get? b=Y o->b≠X.env.locals:=λb o e=>bI (bx (aI e) I.ok.above)
 have C:∀b o,X.s₀.heap.get? b=Y o->b∉X.ex->b∉ch:=λb o e f K=>by
  rcases(w b K).1 with z|z
  ·exact f z
  ·exact absurd (bx (aI e) z) (fg _)
 have A:∀x c,X.env.cells.lookup x=Y c->∀v,s.heap.IsCell c v->h'.IsCell c v:=λx c e v ⟨o,j,hd⟩=>by
  have h:c∉ch:=λz=>(w c z).2.2.1 x c e rfl
  by_cases hc:c∈X.fs
  ·obtain⟨sl,a⟩:=E c o (I.XC x c e) hc h j (I.mZ x c e);exact⟨_,a,hd⟩
  ·exact⟨o,t c o (I.XC x c e) hc h j (I.mZ x c e),hd⟩
 refine⟨I.ok,I.os,hg,⟨λb o e n K f =>?_,λb o e n K f =>?_,λb o e n f =>?_,λb o e f =>?_,λb xs e=>P b xs (I.base.BJ b xs e),λb o xs e=>T b o xs (I.base.Ar b o xs e),λb q e =>?_⟩,?_,λx c e =>?_,?_,λx c e =>?_,λp hp =>?_,eR,I.len⟩
 ·exact t b o (R b o e) K (C b o e f) (I.base.keep b o e n K f) (I.base.free b o e n f)
 ·obtain⟨sl,D⟩:=I.base.slot b o e n K f;obtain⟨sl',e2⟩:=E b _ (R b o e) K (C b o e f) D (I.base.free b o e n f);exact⟨sl',e2⟩
 ·obtain⟨o',D⟩:=I.base.there b o e f;exact g b o' (C b o e f) D (I.base.free b o e n f)
 ·obtain⟨o',D⟩:=I.base.there b o e f;exact F b o' (C b o e f) D
 ·obtain⟨m1,D⟩:=I.base.BK b q e;obtain⟨m2,e2⟩:=Q b _ D;exact⟨m1++m2,by rw[e2,Array.append_assoc]⟩
 ·obtain⟨m,hn,hl⟩:=I.loc;refine⟨m,ns m hn,λi x v D e2 e3 =>?_⟩;obtain⟨u,r,l⟩:=hl i x v D e2 e3;refine⟨u,r,?_⟩;rcases l with l|⟨k,c,e,z⟩
  ·exact .inl l
  ·exact .inr ⟨k,c,e,A x c e _ z⟩
 ·obtain⟨v,z⟩:=I.cell x c e;exact⟨v,A x c e v z⟩
 ·obtain⟨m,⟨o,_,_,j,_⟩,_⟩:=I.loc;exact g _ o (λz=>(w _ z).2.1 rfl) j I.free
 ·obtain⟨v,o,j,hd⟩:=I.cell x c e;exact g c o (λz=>(w c z).2.2.1 x c e rfl) j (I.mZ x c e)
 ·obtain⟨e,n,ne,nf,d⟩:=I.pin p hp;have h:p.1∉ch:=λz=>(w p.1 z).2.2.2 p hp rfl
  exact⟨t p.1 p.2 ne nf h e n,g p.1 p.2 h e n,ne,nf,d⟩
def Inv.un{t':Nat}(I:Inv X B U H s)(u:Un X.fs [] H H' s.heap h')(c:nS X.prog X.w H' h'):Inv X B U H' { s with heap:=h',toks:=t' }:=by
 obtain⟨m,⟨o,es,x,k,r⟩,_⟩:=id I.loc;obtain⟨v,t⟩:=u.any k I.free Ž;exact I.step (g':=s.gens) (d':=s.drawn) (ch:=[]) (λ_ z=>nomatch z) (λb o _ f _ e n=>u.keep b o e n f Ž) (λb o _ f _ e n=>u.slot b o e n f Ž) (λb o _ e n=>u.free b o e n Ž) (λb o _ e=>u.there b o e Ž) u.BJ u.Ar u.BK (λw p=>by obtain⟨o',g,h,a,l⟩:=p;rw[k]at a;cases a;exact⟨_,g,h,t,l⟩) c I.bare
def Inv.call{g':Array GenState}{t':Nat}{d':Drawn}{ch:List ax}(I:Inv X B U H s)(u:Un (yf X.stack) ch H H' s.heap h')(h:nS X.prog X.w H' h')(C:AF g')(g:∀b∈ch,(b∈X.ex\/X.s₀.heap.objs.size<=b)/\b≠X.env.locals/\(∀x c,X.env.cells.lookup x=Y c->c≠b)/\∀p∈X.pn++B,p.1≠b):
  Inv X B U H' { s with heap:=h',gens:=g',drawn:=d',toks:=t' }:=by
 obtain⟨m,⟨o,es,K,v,r⟩,_⟩:=id I.loc;obtain⟨E,k⟩:=u.any v I.free λz=>(g _ z).2.1 rfl
 exact I.step (ch:=ch) g (λb o k D a e n=>u.keep b o e n (λz=>(aW.mp (I.ue b z)).elim k D) a) (λb o _ _ a e n=>u.any e n a) (λb o a e n=>u.free b o e n a) (λb o a e=>u.there b o e a) u.BJ u.Ar u.BK (λF A=>by obtain⟨o',l,t,f,w⟩:=A;rw[v]at f;cases f;exact⟨_,l,t,k,w⟩) h C
def Inv.turned{t':Nat}(I:Inv X B U H s)(k:∀b o,b≠g->s.heap.get? b=Y o->h'.get? b=Y o)(A:H g=M)(t:g≠X.env.locals)(J:g∈X.ex\/X.s₀.heap.objs.size<=g)(z:∀x c,X.env.cells.lookup x=Y c->c≠g)(E:∀p∈X.pn++B,p.1≠g):Inv X B U H { s with heap:=h',toks:=t' }:=by
 have l:∀b u,H b=Y u->b≠g:=λb u e f=>by rw[f,A]at e;cases e
 refine I.step (g':=s.gens) (d':=s.drawn) (ch:=[g]) (λb D =>?_) (λb o _ _ h e _=>k b o (λf=>h (by simp[f])) e) (λb o _ _ h e _=>⟨o.slots,k b o (λf=>h (by simp[f])) e⟩) (λ_ _ _ _ n=>n)
  (λb o h e=>⟨o,k b o (λf=>h (by simp[f])) e⟩) (λ_ _ e=>e) (λ_ _ _ e=>e) (λb q e=>⟨#[],by rw[e];simp⟩) (λm C =>?_) (λb u e =>?_) I.bare
 ·have e:b=g:=by simpa using D
  subst e;exact⟨J,t,z,E⟩
 ·obtain⟨o,es,F,w,r⟩:=C;exact⟨o,es,F,k _ o (bF t) w,r⟩
 ·refine(I.eR b u e).vV (λc v h a=>k c v ?_ a) (λ_ a=>a) λ_ _ a=>a
  rcases h with f|f
  ·rw[f];exact l b u e
  ·exact l c _ f
def Inv.tok(I:Inv X B U H s)(t:Nat):Inv X B U H { s with toks:=t }:=I.un (h':=s.heap) (t':=t) Un.refl I.eR
def Inv.kept{t':Nat}(I:Inv X B U H s)(k:∀b u,s.heap.get? b=Y u->h'.get? b=Y u):Inv X B U H { s with heap:=h',toks:=t' }:=I.un (Un.kept k) (I.eR.kept k)
def Inv.laid{a:ax}{o:HO}{t':Nat}(I:Inv X B U H s)(k:∀b u,s.heap.get? b=Y u->h'.get? b=Y u)(e:s.heap.objs.size<=a)(c:e_ X.prog X.w (cx H a o) h' a o):
  Inv X B U (cx H a o) { s with heap:=h',toks:=t' }:=I.un (Un.laid k e (I.eR.fresh e)) (I.eR.laid k e c)
def Inv.write{x e:ax}{h:Nat}(I:Inv X B U H s)(f:WE (H x))(g:e=x\/H e=Y (.Z x))(k:∀b u,b≠e->s.heap.get? b=Y u->h'.get? b=Y u)(a:∃u,h'.get? e=Y u)(c:e_ X.prog X.w (cx H x o) h' x o):Inv X B U (cx H x o) { s with heap:=h',toks:=h }:=I.un (Un.write f g k a) (I.eR.write f g k a c)
def Inv.weak(I:Inv X B U H s)(e:a.length=U.length)(w:∀(i:Nat) v,a[i]?=Y (Y v)->U[i]?=Y (Y v)):Inv X B a H s:=
 ⟨I.ok,I.os,I.bare,I.base,let ⟨m,c,b⟩:=I.loc;⟨m,c,λi x v h g f=>b i x v h (w i v g) f⟩,I.cell,I.free,I.mZ,I.pin,I.eR,e.trans I.len⟩
def Inv.x5(I:Inv X B U H s)(h:∀p∈a,s.heap.get? p.1=Y p.2/\H p.1=M/\p.1≠X.env.locals/\p.1∉X.fs/\∀v,p.2.data ≠ .cell v):Inv X a U H s:=
 ⟨I.ok,I.os,I.bare,I.base,I.loc,I.cell,I.free,I.mZ,λp b=>(bu.mp b).elim (λz=>I.pin p (bj _ z)) (h p),I.eR,I.len⟩
def yZ{N:List aJ}(c:N.Nodup){j:Nat}(a:N[i]?=Y x)(b:N[j]?=Y x):i=j:=by
 obtain⟨J,f⟩:=aq.mp a;obtain⟨z,e⟩:=aq.mp b;exact(List.getElem_inj c).mp (f.trans e.symm)
def AN{G:N0}{A:gI}{i:Nat}{v:V}(I:Inv X B U H s)(hN:X.N.Nodup)(L:X.N[i]?=Y x)(w:Loc X.env.scope x)(r:RelV v u)(h:∀s',Inv X B (U.set i (Y v)) H s'->(∃a,fK a s.heap s'.heap/\(a=X.env.locals\/X.env.cells.lookup x=Y a))->Q () s')(hf:autoParam (X.fn x=Z'\/X.env.scope.names.lookup x=Y .local) ŭ):bq G A (storeName X.env x u) Q E s:=by
 obtain⟨m,hn,hl⟩:=id I.loc;have Y0:(X.env.scope.kind == .class||(X.env.scope.kind == .module&&X.env.locals != X.env.globals))=false:=by rw[I.ok.kind];rfl
 have K:i<U.length:=by rw[I.len];exact(aq.mp L).1
 have T:=I.XC;have g:∀ {a:ax}{h':cF},(∃o,s.heap.get? a=Y o/\H a=M)->fK a s.heap h'->nS X.prog X.w H h':=fun {a h'} ha f b ob e=>by
  obtain⟨_,_,C⟩:=ha;refine(I.eR b ob e).vV (λc w' t q=>(f.2 c ?_).trans q) (λ_ q=>q) λ_ _ q=>q
  rintro rfl;rcases t with rfl|t
  ·rw[C]at e;cases e
  ·rw[C]at t;cases t
 rcases w with F|F
 ·refine wpAny_storeName_local F hn (λh' hn' f =>?_) Y0;obtain⟨oL,_,_,hoL,_⟩:=id hn;refine h _ ⟨I.ok,I.os,I.bare,⟨λb o e n S w =>?_,λb o e n S w =>?_,I.base.free,λb o e w =>?_,I.base.BJ,I.base.Ar,I.base.BK⟩,⟨_,hn',λj y v' l D e3 =>?_⟩,λy c e =>?_,I.free,I.mZ,λp hp =>?_,g ⟨oL,hoL,I.free⟩ f,by simpa using I.len⟩ ⟨_,f,.inl rfl⟩
  ·exact(f.2 b (bI (bx (aI e) I.ok.above))).trans (I.base.keep b o e n S w)
  ·obtain⟨sl,l⟩:=I.base.slot b o e n S w;exact⟨sl,(f.2 b (bI (bx (aI e) I.ok.above))).trans l⟩
  ·obtain⟨o',l⟩:=I.base.there b o e w;exact⟨o',(f.2 b (bI (bx (aI e) I.ok.above))).trans l⟩
  ·by_cases P:j=i
   ·subst P;rw[L]at l;cases l;rw[a_ K]at D;cases D;exact⟨u,r,.inl ⟨F,Ž⟩⟩
   ·rw[ai (bF P)]at D;obtain⟨u',r',q⟩:=hl j y v' l D e3;refine⟨u',r',?_⟩;rcases q with⟨k,e⟩|⟨k,c,e,z⟩
    ·refine .inl ⟨k,?_⟩;have:y≠x:=λe=>P (yZ hN l (e ▸ L))
     simp[this,e]
    ·exact .inr ⟨k,c,e,z.sameBut f (T y c e)⟩
  ·obtain⟨w',z⟩:=I.cell y c e;exact⟨w',z.sameBut f (T y c e)⟩
  ·obtain⟨e,n,ne,nf,d⟩:=I.pin p hp;exact⟨(f.2 p.1 ne).trans e,n,ne,nf,d⟩
 ·have R:X.fn x=true:=by
   rcases hf with z|z
   ·exact z
   ·rw[z]at F;cases F
  obtain⟨c,t⟩:=I.ok.has x (.inl F);obtain⟨w',z⟩:=I.cell x c t;refine wpAny_storeName_cell I.ok.kind F t z (λh' hc' f =>?_);obtain⟨oc,hoc,YO⟩:=id z;refine h { s with heap:=h' } ⟨I.ok,I.os,I.bare,⟨λb o e n S w =>?_,λb o e n S w =>?_,I.base.free,λb o e w =>?_,I.base.BJ,I.base.Ar,I.base.BK⟩,⟨m,hn.sameBut f (bF (T x c t)),λj y v' l D e3 =>?_⟩,λy c' e =>?_,I.free,I.mZ,λp hp =>?_,g ⟨oc,hoc,I.mZ x c t⟩ f,by simpa using I.len⟩ ⟨c,f,.inr t⟩
  ·exact(f.2 b (bI (bx (aI e) (I.ok.UD x c R t)))).trans (I.base.keep b o e n S w)
  ·obtain⟨sl,l⟩:=I.base.slot b o e n S w;exact⟨sl,(f.2 b (bI (bx (aI e) (I.ok.UD x c R t)))).trans l⟩
  ·obtain⟨o',l⟩:=I.base.there b o e w;exact⟨o',(f.2 b (bI (bx (aI e) (I.ok.UD x c R t)))).trans l⟩
  ·by_cases P:j=i
   ·subst P;rw[L]at l;cases l;rw[a_ K]at D;cases D;exact⟨u,r,.inr ⟨.inl F,c,t,hc'⟩⟩
   ·rw[ai (bF P)]at D;obtain⟨u',r',q⟩:=hl j y v' l D e3;refine⟨u',r',?_⟩;rcases q with q|⟨k,c',e,z'⟩
    ·exact .inl q
    ·refine .inr ⟨k,c',e,z'.sameBut f ?_⟩;rintro rfl;exact P (yZ hN l (I.ok.inj _ _ _ e t ▸ L))
  ·by_cases Xg:c'=c
   ·subst Xg;exact⟨_,hc'⟩
   ·obtain⟨w2,z2⟩:=I.cell y c' e;exact⟨w2,z2.sameBut f Xg⟩
  ·obtain⟨e,n,ne,nf,d⟩:=I.pin p hp;refine⟨(f.2 p.1 ?_).trans e,n,ne,nf,d⟩;intro q;rw[q,hoc]at e;have q':oc=p.2:=bM e;exact d w' (by rw[<- q'];exact YO)
def uV{d:N0}{v:V}(I:Inv X B U H s)(c:X.N.Nodup)(L:X.N[i]?=Y x)(a:Loc X.env.scope x)(r:RelV v u)(h:∀s',Inv X B (U.set i (Y v)) H s'->Q () s')(b:autoParam (X.fn x=Z'\/X.env.scope.names.lookup x=Y .local) ŭ):bq d A (storeName X.env x u) Q E s:=
 AN I c L a r (λs' e _=>h s' e) b
def Inv.zJ{s':av}{g:List ax}(I:Inv X B U H s)(k:s'.os=s.os)(u:Un (yf X.stack) g H H' s.heap s'.heap)(a:nS X.prog X.w H' s'.heap)(l:AF s'.gens)(f:∀b∈g,(b∈X.ex\/X.s₀.heap.objs.size<=b)/\b≠X.env.locals/\(∀x c,X.env.cells.lookup x=Y c->c≠b)/\∀p∈X.pn++B,p.1≠b):Inv X B U H' s':=by
 obtain⟨h',m,o,h,o'⟩:=s';have e:o'=s.os:=k;subst e;exact I.call (g':=m) (t':=h) (d':=o) u a l f
end
abbrev XK:=ak->Option ax->Hp->Prop
abbrev St:=List (Option V)
abbrev VK:=V->Hp->Prop
abbrev TE:=St->Hp->VK->Prop
abbrev TT:=St->Hp->(Bool->Hp->Prop)->Prop
abbrev TA:=St->Hp->(List V->Hp->Prop)->Prop
structure Ends where
 nx:St->Hp->Prop
 rt:VK
 bk:St->Hp->Prop:=λ_ _=>False
 ct:St->Hp->Prop:=λ_ _=>False
abbrev TS:=Ends->St->Hp->Prop
inductive EP (X:Cx) (B:List (ax×Obj)) (U:St) (Q:VK) (u:ak) (s':av):Prop
 |mk v H':Inv X B U H' s'->RelV v u->Q v H'->EP X B U Q u s'
inductive TP (X:Cx) (B:List (ax×Obj)) (U:St) (Q:Bool->Hp->Prop) (b:Bool) (s':av):Prop
 |mk H':Inv X B U H' s'->Q b H'->TP X B U Q b s'
inductive AP (X:Cx) (B:List (ax×Obj)) (U:St) (Q:List V->Hp->Prop) (b:List ak) (s':av):Prop
 |mk a H':Inv X B U H' s'->cg a b->Q a H'->AP X B U Q b s'
def SP(X:Cx)(B:List (ax×Obj))(D:Ends)(f:Flow)(s':av):Prop:=
 match f with
 |.next=>∃a H',Inv X B a H' s'/\D.nx a H'|.brk=>∃a H',Inv X B a H' s'/\D.bk a H'|.cont=>∃a H',Inv X B a H' s'/\D.ct a H'|.ret u=>∃v a H',Inv X B a H' s'/\RelV v u/\D.rt v H'
def PE(X:Cx)(e:Expr)(t:TE):Prop:=
 ∀(B:List (ax×Obj)) (s:av) (U:St) (H:Hp) (Q:VK),Inv X B U H s->t U H Q->bq (aV X.prog X.w) X.A (eval e X.env) (EP X B U Q) X.xe s
def PT(X:Cx)(e:Expr)(t:TT):Prop:=
 ∀(B:List (ax×Obj)) (s:av) (U:St) (H:Hp) (Q:Bool->Hp->Prop),Inv X B U H s->t U H Q->bq (aV X.prog X.w) X.A (isTrue e X.env (eval e X.env)) (TP X B U Q) X.xe s
def PW(X:Cx)(e:Expr)(t:TT):Prop:=
 ∀(a:Sem ak) (B:List (ax×Obj)) (s:av) (U:St) (H:Hp) (Q:Bool->Hp->Prop),Inv X B U H s->t U H Q->bq (aV X.prog X.w) X.A (isTrue e X.env a) (TP X B U Q) X.xe s
def PW.pt{X:Cx}(h:PW X e t):PT X e t:=h _
def PA(X:Cx)(es:List Expr)(t:TA):Prop:=
 ∀(G:Pos) (B:List (ax×Obj)) (s:av) (U:St) (H:Hp) (Q:List V->Hp->Prop),Inv X B U H s->t U H Q->bq (aV X.prog X.w) X.A (spliced (cn G (ao es X.env))) (AP X B U Q) X.xe s
def PS(X:Cx)(st:pK)(t:TS):Prop:=
 ∀(B:List (ax×Obj)) (s:av) (U:St) (H:Hp) (D:Ends),Inv X B U H s->t D U H->bq (aV X.prog X.w) X.A (exec st X.env) (SP X B D) X.xe s
def oV(X:Cx)(st:List pK)(t:TS):Prop:=
 ∀(B:List (ax×Obj)) (s:av) (U:St) (H:Hp) (D:Ends),Inv X B U H s->t D U H->bq (aV X.prog X.w) X.A (execs st X.env) (SP X B D) X.xe s
def fw{b:N0}{s:av}(h:bq b A t Q E s)(e:∀a s,Q a s->c a s):bq b A t c E s:=dJ h e λ_ _ x=>x
section
variable {X:Cx}
def iB(i:Nat):TE:=λU H Q=>∃v,U[i]?=Y (Y v)/\Q v H
def tC(v:V):TE:=λ_ H Q=>Q v H
def RQ(A:X.N[i]?=Y x)(o:TK X.env.scope x)(f:autoParam ((x==("__debug__" : aJ))=false) Ű)(g:autoParam ((x==("__classdict__" : aJ))=false) Ű):PE X (.Name x G) (iB i):=by
 intro B s U H Q I h;obtain⟨v,e,h⟩:=h;obtain⟨m,p,w⟩:=I.loc;obtain⟨u,r,l⟩:=w i x v A e o;have lQ:EP X B U Q u s:=⟨v,H,I,r,h⟩;rcases l with⟨b,t⟩|⟨b,c,k,a⟩
 ·exact wpAny_Name (wpAny_loadName_local I.ok.kind b p t lQ) f
 ·rcases b with b|b
  ·exact wpAny_Name (wpAny_loadName_cell I.ok.kind b k a lQ) f
  ·exact wpAny_Name (wpAny_loadName_free I.ok.kind b k a lQ g) f
def kD{i j G}:PE X (.Constant (.int i) j G) (tC (.int i)):=λ_ _ _ H _ I h=>wpAny_Constant_int ⟨.int i,H,I.tok _,⟨_,rfl⟩,h⟩
def Vu{b j G}:PE X (.Constant (.bool b) j G) (tC (.bl b)):=λ_ _ _ H _ I h=>Constant_bool ⟨.bl b,H,I,rfl,h⟩
def RT{j G}:PE X (.Constant .none j G) (tC .dg):=λ_ _ _ H _ I h=>Constant_none ⟨.dg,H,I,rfl,h⟩
def FN{x j G}:PE X (.Constant (.str x) j G) (tC (.str x)):=λ_ _ _ H _ I h=>Calls.Constant_str ⟨.str x,H,I.tok _,⟨_,rfl⟩,h⟩
def Gl(X:Cx)(x:aJ):Prop:=X.env.kindOf x=Y .globalImplicit
def qK{s:av}(I:Inv X B U H s)(b:Gl X x)(a:X.mg x=Y u)(h:Q u s)(c:autoParam ((x==("__debug__" : aJ))=false) Ű):bq (aV X.prog X.w) X.A (eval (.Name x G) X.env) Q E s:=
 Ug I.ok.kind b (Calls.loadGlobal_global (by rw[I.ok.glob];exact I.mod.glob.keeps I.bk) a h) c
def qL{s:av}(I:Inv X B U H s)(e:Gl X x)(c:X.mg x=M)(a:fJ x=Y u)(h:Q u s)(b:autoParam (x ≠ "__name__") Ű)(f:autoParam ((x==("__debug__" : aJ))=false) Ű):bq (aV X.prog X.w) X.A (eval (.Name x G) X.env) Q E s:=by
 obtain⟨g,J,z⟩:=I.mod.blt;exact Ug I.ok.kind e (Calls.loadGlobal_builtin (by rw[I.ok.glob];exact I.mod.glob.keeps I.bk) c (by rw[I.ok.blt];exact J.keeps I.bk) ((z x b).trans a) h) f
def sZ{v:V}(b:Gl X x)(a:X.mg x=Y u)(r:RelV v u)(c:autoParam ((x==("__debug__" : aJ))=false) Ű):PE X (.Name x G) (tC v):=
 λ_ _ _ H _ I h=>qK I b a ⟨v,H,I,r,h⟩ c
def Hs{v:V}(e:Gl X x)(c:X.mg x=M)(a:fJ x=Y u)(r:RelV v u)(b:autoParam (x ≠ "__name__") Ű)(f:autoParam ((x==("__debug__" : aJ))=false) Ű):PE X (.Name x G) (tC v):=
 λ_ _ _ H _ I h=>qL I e c a ⟨v,H,I,r,h⟩ b f
def PC(X:Cx)(f:CmpOp)(a b:Expr)(t:TE):Prop:=
 ∀(B:List (ax×Obj)) (s:av) (U:St) (H:Hp) (Q:VK),Inv X B U H s->t U H Q ->
  bq (aV X.prog X.w) X.A (eval a X.env) (λv e=>bq (aV X.prog X.w) X.A (eval b X.env) (λu c=>bq (aV X.prog X.w) X.A (gr f v u) (EP X B U Q) X.xe c) X.xe e) X.xe s
def LZ(b:Expr){a:CmpOp}(h:a ≠ .In)(z:a ≠ .NotIn):iu a b=false:=by
 have e:(a==CmpOp.In)=false:=by cases a<;>first|rfl|exact absurd rfl h
 have c:(a==CmpOp.NotIn)=false:=by cases a<;>first|rfl|exact absurd rfl z
 cases b<;>simp[iu,e,c]
def tB(t:TE):TT:=λU H Q=>t U H λx O=>∃c,x=.bl c/\Q c O
def RI(h:PC X e a b t)(J:iu e b=false:=by first|exact LZ _ ſ ſ|rfl):PT X (.Compare a [e] [b] G) (tB t):=by
 intro B s U H Q I hw;refine wpAny_isTrue_Compare1 (fw (h B s U H _ I hw) λv o J=>fw J λu m z=>fw z ?_) J;rintro c l ⟨x,O,k,f,g⟩;obtain⟨d,rfl,q⟩:=g;cases f;exact gZ ⟨O,k,q⟩
def RH(h:PE X e t)(f:autoParam (∀a,isTrue e X.env a=(do let v <- a;lN e.pos;jr [v] (truthy v))) ů):PT X e (tB t):=by
 intro B s U H Q I hw;refine isTrue_plain (fw (h B s U H _ I hw) ?_) (f _);rintro v k ⟨x,O,g,b,c⟩;obtain⟨d,rfl,q⟩:=c;cases b;exact gZ ⟨O,g,q⟩
variable {xJ:List Expr}
def X5(t u:TT):TT:=λU H Q=>t U H λc O=>if c=Z' then u U O Q else Q Z_ O
def X0(t u:TT):TT:=λU H Q=>t U H λc O=>if c=Z' then Q Z' O else u U O Q
def U2(t:TT):TT:=λU H Q=>t U H λc O=>Q (!c) O
def OC(b:PT X a tA):PW X (.BoolOp .And [a] G) tA:=by
 intro f B s U H Q I h;refine isTrue_and (fw (b B s U H Q I h) λc g e =>?_);cases c with
 |true=>exact isTrue_and_nil e|false=>exact e
def Lj(b:PT X a tA):PW X (.BoolOp .Or [a] G) tA:=by
 intro f B s U H Q I h;refine isTrue_or (fw (b B s U H Q I h) λc g e =>?_);cases c with
 |false=>exact isTrue_or_nil e|true=>exact e
def RG(m:PT X a tA)(l:PW X (.BoolOp .And (b::xJ) G) X3):PW X (.BoolOp .And (a::b::xJ) G) (X5 tA X3):=by
 intro g B s U H Q I h;refine isTrue_and (fw (m B s U H _ I h) ?_);rintro c k ⟨O,f,e⟩;cases c with
 |true=>exact l g B k U O Q f e|false=>exact⟨O,f,e⟩
def Lk(m:PT X a tA)(l:PW X (.BoolOp .Or (b::xJ) G) X3):PW X (.BoolOp .Or (a::b::xJ) G) (X0 tA X3):=by
 intro g B s U H Q I h;refine isTrue_or (fw (m B s U H _ I h) ?_);rintro c k ⟨O,f,e⟩;cases c with
 |true=>exact⟨O,f,e⟩|false=>exact l g B k U O Q f e
def Ln(b:PT X a tA):PT X (.UnaryOp .Not a G) (U2 tA):=by
 intro B s U H Q I h;exact isTrue_not (fw (b B s U H (λc O=>Q (!c) O) I h) (by rintro c k ⟨O,f,e⟩;exact⟨O,f,e⟩))
def U_(N y:TE):TE:=λU H Q=>N U H λx O=>∃c,x=.bl c/\if c=Z' then y U O Q else Q (.bl Z_) O
def XZ(N y:TE):TE:=λU H Q=>N U H λx O=>∃c,x=.bl c/\if c=Z' then Q (.bl Z') O else y U O Q
def U0(N:TE):TE:=λU H Q=>N U H λx O=>∃c,x=.bl c/\Q (.bl (!c)) O
def Lv{b}(h:PE X a t):PE X (.BoolOp b [a] G) t:=λB s U H Q I hw=>BoolOp_one (h B s U H Q I hw)
def FP(m:PE X a N)(l:PE X (.BoolOp .And (b::xJ) G) y):PE X (.BoolOp .And (a::b::xJ) G) (U_ N y):=by
 intro B s U H Q I h;refine BoolOp_and (fw (m B s U H _ I h) ?_);rintro v g ⟨x,O,f,k,e⟩;obtain⟨c,rfl,e⟩:=e;cases k;refine gZ ?_;cases c with
 |true=>exact l B g U O Q f e|false=>exact⟨.bl Z_,O,f,rfl,e⟩
def Vt(m:PE X a N)(l:PE X (.BoolOp .Or (b::xJ) G) y):PE X (.BoolOp .Or (a::b::xJ) G) (XZ N y):=by
 intro B s U H Q I h;refine BoolOp_or (fw (m B s U H _ I h) ?_);rintro v g ⟨x,O,f,k,e⟩;obtain⟨c,rfl,e⟩:=e;cases k;refine gZ ?_;cases c with
 |false=>exact l B g U O Q f e|true=>exact⟨.bl Z',O,f,rfl,e⟩
def RS(f:PE X a N):PE X (.UnaryOp .Not a G) (U0 N):=by
 intro B s U H Q I h;refine UnaryOp_ (fw (f B s U H _ I h) ?_);rintro v k ⟨x,O,g,e,b⟩;obtain⟨c,rfl,b⟩:=b;cases e;exact not_of (gZ ⟨.bl (!c),O,g,rfl,b⟩)
def tIf(t:TT)(N y:TE):TE:=λU H Q=>t U H λc O=>if c=Z' then N U O Q else y U O Q
def Lx(k:PT X c tA)(m:PE X a N)(l:PE X b y):PE X (.IfExp c a b G) (tIf tA N y):=by
 intro B s U H Q I h;refine wpAny_IfExp (fw (k B s U H _ I h) ?_);rintro d e ⟨O,g,f⟩;cases d with
 |true=>exact m B e U O Q g f|false=>exact l B e U O Q g f
end
def m_(K:aT)(H:Hp)(a:ax)(xs:List V):Prop:=
 Rd H a (.lst xs) \/
  ∃(o:Obj) (b:Array ak) (n:Nat),K.lookup a=Y o/\o.cls=.type "list" /\o.dict=M/\o.data=.seq b n/\b.size<=bc/\cg xs b.toList
def NW(K:aT)(H:Hp)(a:ax)(xs:List V):Prop:=
 Rd H a (.tup xs) \/
  ∃(o:Obj) (b:Array ak) (n:Nat),K.lookup a=Y o/\o.cls=.type "tuple" /\o.data=.seq b n/\b.size<=bc/\cg xs b.toList
noncomputable def Zz:ak->Option V
 |.none=>Y .dg|.bool b=>Y (.bl b)|.int i _=>Y (.int i)|.str x _=>Y (.str x)|.bytes b _=>Y (.GB b)|.float b _=>Y (.NT b)|.ref a=>Y (.ref a)|.type n=>Y (.ty n)|_=>M
def RelV.abs(r:RelV x u):Zz u=Y x:=by
 cases x with
 |dg=>cases r;rfl|bl _=>cases r;rfl|ref _=>cases r;rfl|ty _=>cases r;rfl|_=>obtain⟨t,rfl⟩:=r;rfl
def RelV.inj{x:V}(r:RelV x u)(q:RelV y u):x=y:=bM (r.abs.symm.trans q.abs)
def cg.inj{xs ys:List V}{a:List ak}(h:cg xs a)(g:cg ys a):xs=ys:=by
 induction h generalizing ys with
 |nil=>cases g;rfl|cons r t i=>rcases g with _|⟨c,b⟩;rw[r.inj c,i b]
section
variable {X:Cx}{s:av}
def m_.of{K:aT}(h:H a=Y (.lst xs)):m_ K H a xs :=.inl (.inl h)
def NW.of{K:aT}(h:H a=Y (.tup xs)):NW K H a xs :=.inl (.inl h)
def Inv.list(I:Inv X B U H s)(h:m_ X.K H a xs):∃b:List ak,cg xs b/\PlainL s.heap a b.toArray/\xs.length<=bc:=by
 rcases h with h|⟨o,b,n,f,k,g,c,l,r⟩
 ·obtain⟨z,b,n,r,e⟩:=h.ok I.eR;exact⟨b,r,⟨_,n,e,rfl,rfl,rfl⟩,z⟩
 ·refine⟨b.toList,r,⟨o,n,I.pM a o f,k,g,by simpa using c⟩,?_⟩;have e:=r.length;simp only[UR]at e;omega
def Inv.tuple(I:Inv X B U H s)(h:NW X.K H a xs):∃b:List ak,cg xs b/\IsTup s.heap a b.toArray/\xs.length<=bc:=by
 rcases h with h|⟨o,b,n,f,g,c,k,r⟩
 ·obtain⟨z,b,r,p⟩:=h.ok I.eR;exact⟨b,r,p,z⟩
 ·refine⟨b.toList,r,⟨o,I.pM a o f,g,n,by simpa using c⟩,?_⟩;have e:=r.length;simp only[UR]at e;omega
def Inv.su(I:Inv X B U H s)(h:m_ X.K H a xs)(h':m_ X.K H a ys):xs=ys:=by
 obtain⟨c,r,⟨o,n,e,_,_,d⟩,_⟩:=I.list h;obtain⟨b,k,⟨o',m,f,_,_,g⟩,_⟩:=I.list h';rw[e]at f;cases f;rw[d]at g;injection g with l _;have:c=b:=by simpa using congrArg Array.toList l
 subst this;exact r.inj k
end
noncomputable abbrev Cx.vT(X:Cx)(E:ak->av->Prop):Cx:={ X with xe:=E }
abbrev Cx.Ht(X:Cx):Cx:=X.vT λ_ _=>False
def Cx.Ok.vT{X:Cx}(a:X.Ok)(E:ak->av->Prop):(X.vT E).Ok:=
 ⟨a.mod,a.kind,a.glob,a.blt,a.above,a.inj,a.has,a.UD,a.hd,a.frames,a.Vb,a.Y9,a.bs,a.NU,a.Jn,a.MC,a.wz,a.QS⟩
def Cx.Ok.qx{X:Cx}(a:(X.vT E).Ok):X.Ok:=
 ⟨a.mod,a.kind,a.glob,a.blt,a.above,a.inj,a.has,a.UD,a.hd,a.frames,a.Vb,a.Y9,a.bs,a.NU,a.Jn,a.MC,a.wz,a.QS⟩
section
variable {X:Cx}{s:av}
def Inv.vT(I:Inv X B U H s)(E:ak->av->Prop):Inv (X.vT E) B U H s:=⟨I.ok.vT E,I.os,I.bare,I.base,I.loc,I.cell,I.free,I.mZ,I.pin,I.eR,I.len⟩
def Inv.qx(I:Inv (X.vT E) B U H s):Inv X B U H s:=⟨I.ok.qx,I.os,I.bare,I.base,I.loc,I.cell,I.free,I.mZ,I.pin,I.eR,I.len⟩
def SP.qx{D:Ends}{f:Flow}(h:SP (X.vT E) B D f s'):SP X B D f s':=by
 cases f with
 |ret u=>obtain⟨v,a,H',I,r,q⟩:=h;exact⟨v,a,H',I.qx,r,q⟩
 |_=>obtain⟨a,H',I,q⟩:=h;exact⟨a,H',I.qx,q⟩
def oV.Ht{st:List pK}(h:oV X.Ht st t):oV X st t:=λB s U H D I hw=>
 dJ (h B s U H D (I.vT _) hw) (λ_ _ q=>q.qx) λ_ _ z=>cD z
end
section
variable {X:Cx}{st:pK}{xJ:List pK}
def KP:TS:=λD U H=>D.nx U H
def IP(t u:TS):TS:=λD U H=>t { D with nx:=u D } U H
def B0:oV X [] KP:=λ_ _ U H _ I h=>kR ⟨U,H,I,h⟩
def gP(J:PS X st t)(z:oV X xJ u):oV X (st::xJ) (IP t u):=by
 intro B s U H D I h;refine Nz (fw (J B s U H { D with nx:=u D } I h) λf b q =>?_);cases f with
 |next=>obtain⟨a,H',c,q⟩:=q;exact z B b a H' D c q
 |_=>exact q
def hU(J:PS X st t):oV X [st] t:=by
 intro B s U H D I h;refine Nz (fw (J B s U H D I h) λf a q =>?_);cases f with
 |next=>exact kR q|_=>exact q
def Inv.quiet{s:av}(I:Inv X B U H s):interactive X.env=false:=by simp[interactive,I.ok.kind]
def U7(te:TE):TS:=λD U H=>te U H λ_ O=>D.nx U O
def mf(c:PE X e te)(b:autoParam (cj e M G.line X.env=dP false) Ų):PS X (.Expr e G) (U7 te):=by
 intro B s U H D I h;exact wpAny_Expr_any (fw (c B s U H _ I h) (by rintro v g ⟨x,O,f,k,a⟩;exact⟨U,O,f,a⟩)) I.quiet b
def UY(te:TE):TS:=λD U H=>te U H D.rt
def pE(c:PE X e te):PS X (.Return (Y e) G) (UY te):=by
 intro B s U H D I h;exact wpAny_Return_some (fw (c B s U H _ I h) (by rintro v g ⟨x,O,f,a,b⟩;exact⟨x,U,O,f,a,b⟩))
def Ro(c:TT)(t u:TS):TS:=λD U H=>c U H λb O=>if b=Z' then t D U O else u D U O
def DU(k:PT X c tc)(m:oV X a t)(l:oV X b u):PS X (.If c a b G) (Ro tc t u):=by
 intro B s U H D I h;refine wpAny_If (fw (k B s U H _ I h) ?_);rintro d e ⟨O,g,f⟩;cases d with
 |true=>exact m B e U O D g f|false=>exact l B e U O D g f
def KQ:TS:=λ_ _ _=>False
def Lq:PS X st KQ:=λ_ _ _ _ _ _ h=>h.elim
def Ja:oV X a KQ:=λ_ _ _ _ _ _ h=>h.elim
end
abbrev TG:=V->St->Hp->(St->Hp->Prop)->Prop
abbrev WA:=List V->St->Hp->(St->Hp->Prop)->Prop
def PG(X:Cx)(a:Expr)(t:TG):Prop:=
 ∀(B:List (ax×Obj)) (s:av) (U:St) (H:Hp) (v:V) (u:ak) (Q:St->Hp->Prop),Inv X B U H s->RelV v u->t v U H Q ->
  bq (aV X.prog X.w) X.A (NF a X.env u) (λ_ s'=>∃b H',Inv X B b H' s'/\Q b H') X.xe s
def XG(X:Cx)(e:List Expr)(t:WA):Prop:=
 ∀(B:List (ax×Obj)) (s:av) (U:St) (H:Hp) (b:List V) (c:List ak) (Q:St->Hp->Prop),Inv X B U H s->cg b c->t b U H Q ->
  bq (aV X.prog X.w) X.A (assignInOrder ((z8 e X.env).map (·.2)) c) (λ_ s'=>∃a H',Inv X B a H' s'/\Q a H') X.xe s
abbrev Wz:=V->V->V->Hp->(Hp->Prop)->Prop
def WC(X:Cx)(t:Wz):Prop:=
 ∀(B:List (ax×Obj)) (s:av) (U:St) (H:Hp) (o i v:V) (a b u:ak) (Q:Hp->Prop),Inv X B U H s->RelV o a->RelV i b->RelV v u->t o i v H Q ->
  bq (aV X.prog X.w) X.A (setItem a b u) (λ_ s'=>∃H',Inv X B U H' s'/\Q H') X.xe s
abbrev ZE:=V->V->Hp->VK->Prop
def PIp(X:Cx)(a:Operator)(t:ZE):Prop:=
 ∀(B:List (ax×Obj)) (s:av) (U:St) (H:Hp) (x y:V) (v u:ak) (Q:VK),Inv X B U H s->RelV x v->RelV y u->t x y H Q ->
  bq (aV X.prog X.w) X.A (inplaceOp a v u) (EP X B U Q) X.xe s
section
variable {X:Cx}
def oB(i:Nat):TG:=λv U H Q=>Q (U.set i (Y v)) H
def fR{i:Nat}(c:X.N.Nodup)(L:X.N[i]?=Y x)(a:Loc X.env.scope x)(b:autoParam (X.fn x=Z'\/X.env.scope.names.lookup x=Y .local) ŭ):PG X (.Name x G) (oB i):=by
 intro B s U H v u Q I r h;exact wpAny_assign_Name (uV I c L a r (λs' e=>⟨_,H,e,h⟩) b)
def SS:WA:=λa U H Q=>a=[]/\Q U H
def Bk(t:TG)(u:WA):WA:=λb U H Q=>∃v r,b=v::r/\t v U H λa H'=>u r a H' Q
def W6:XG X [] SS:=by
 intro B s U H a b Q I r h;obtain⟨e,h⟩:=h;subst e;cases r;exact assignInOrder_nil ⟨U,H,I,h⟩
def Vs(J:PG X e t)(z:XG X es u)(g:autoParam ((z8 (e::es) X.env).map (·.2)=NF e X.env::(z8 es X.env).map (·.2)) Ų):XG X (e::es) (Bk t u):=by
 intro B s U H m p Q I r h;obtain⟨v,o,k,h⟩:=h;subst k;cases r with
 |cons r c=>rw[g];refine assignInOrder_cons (fw (J B s U H _ _ _ I r h) ?_);rintro _ b ⟨a,O,l,f⟩;exact z B b a O _ _ Q l c f
def SQ(K:aT)(n:Nat)(t:WA):TG:=λv U H Q=>∃a xs,v=.ref a/\NW K H a xs/\xs.length=n/\t xs U H Q
def Yk(A:X.calm=Z')(h:XG X es t)(w:autoParam ((z8 es X.env).length=n) Ų)(c:autoParam ((z8 es X.env).findIdx? (·.1)=none) Ų):PG X (.Tuple es k G) (SQ X.K n t):=by
 intro B s U H v u Q I r hw;obtain⟨a,xs,C,p,x,hw⟩:=hw;subst C;cases r;obtain⟨g,f,m,E⟩:=I.tuple p;refine assign_Tuple_tuple (I.ok.hd A) m (by simp[w,<- x,f.length]) c λh' l =>?_
 have D:Inv X B U H { s with heap:=h' }:=I.kept (t':=s.toks) λb o e=>l b o (bI (aI e)) e
 exact h B _ U H xs _ Q D (by simpa using f) hw
def V3(to a:TE)(t:Wz):TG:=λv U H Q=>to U H λo O=>a U O λi d=>t o i v d λb=>Q U b
def RP(A:PE X o to)(L:PE X i c)(w:WC X t) (C:autoParam (∀v,NF (.Subscript o i G) X.env v=(do
   let a <- jr [v] (eval o X.env)
   let b <- jr [v,a] (eval i X.env)
   lN G
   jr [v,a,b] (setItem a b v)
   release [v,a,b] [])) ů):PG X (.Subscript o i G) (V3 to c t):=by
 intro B s U H v u Q I r h;rw[C];refine ah (fG (fw (A B s U H _ I h) ?_));rintro a f ⟨x,O,F,k,p⟩;refine ah (fG (fw (L B f U O _ F p) ?_));rintro b e ⟨y,d,E,g,m⟩;refine ah (nI (ah (fG (fw (w B e U d x y v a b u _ E k g r m) ?_))));rintro _ j ⟨K,D,l⟩;exact wpAny_release ⟨U,K,D,l⟩
def IQ(te:TE)(g:TG):TS:=λD U H=>te U H λx O=>g x U O D.nx
def RL(l:PE X e te)(k:PG X tg g)(f:autoParam (swapsWithSole [tg] e G.line X.env=dP false) Ų)(hw:autoParam (swappedStores [tg] e X.env=dP none) Ų)(J:autoParam ((z8 [tg] X.env).map (·.2)=[NF tg X.env]) Ų):PS X (.Assign [tg] e G) (IQ te g):=by
 intro B s U H D I h;refine wpAny_Assign_stores (fw (l B s U H _ I h) ?_) f hw;rintro v a ⟨x,O,m,b,c⟩;rw[J];exact fw (k B a U O x v _ m b c) λ_ o q=>q
def iF{i:Nat}(l:X.N.Nodup)(L:X.N[i]?=Y x)(c:Loc X.env.scope x)(k:PE X e te)(f:autoParam (cj e (Y (.Name x Qd)) G.line X.env=dP false) Ų)(g:autoParam (X.fn x=Z'\/X.env.scope.names.lookup x=Y .local) ŭ):
  PS X (.Assign [.Name x Qd] e G) (IQ te (oB i)):=by
 intro B s U H D I h;refine wpAny_Assign_Name (fw (k B s U H _ I h) ?_) f;rintro v r ⟨y,O,o,a,b⟩;exact uV o l L c a (λp m=>⟨_,O,m,b⟩) g
def X4(i:Nat)(te:TE)(a:ZE):TS:=λD U H=>∃x,U[i]?=Y (Y x)/\te U H λy O=>a x y O λz d=>D.nx (U.set i (Y z)) d
def RK{ti:ZE}(hN:X.N.Nodup)(L:X.N[i]?=Y x)(t:Loc X.env.scope x)(he:PE X e te)(P:PIp X p ti)(T:autoParam (X.fn x=Z'\/X.env.scope.names.lookup x=Y .local) ŭ):
  PS X (.AugAssign (.Name x Qd) p e G) (X4 i te ti):=by
 intro B s U H D I h;obtain⟨v,e1,h⟩:=h;obtain⟨m,Q,S⟩:=I.loc;have o:TK X.env.scope x:=by rcases t with k|k;exact .inl k;exact .inr (.inl k)
 obtain⟨u,r,l⟩:=S i x v L e1 o;refine wpAny_AugAssign_Name ?_;have A:bq (aV X.prog X.w) X.A (eval e X.env) (λw g=>bq (aV X.prog X.w) X.A (inplaceOp p u w) (λr f=>bq (aV X.prog X.w) X.A (storeName X.env x r) (λ_=>SP X B D .next) X.xe f) X.xe g) X.xe s:=by refine fw (he B s U H _ I h) ?_;rintro w C ⟨y,O,I1,F,j⟩;refine fw (P B C U O v y u w _ I1 r F j) ?_;rintro z s2 ⟨zv,d,I2,E,K⟩;exact uV I2 hN L t E (λs3 I3=>⟨_,d,I3,K⟩) T
 rcases l with⟨a,R⟩|⟨a,c,hc,b⟩
 ·exact wpAny_loadName_local I.ok.kind a Q R A
 ·rcases a with a|a
  ·exact wpAny_loadName_cell I.ok.kind a hc b A
  ·rcases t with k|k
   ·have:X.env.scope.names.lookup x=Y .free:=a;rw[k]at this;cases this
   ·have:X.env.scope.names.lookup x=Y .free:=a;rw[k]at this;cases this
end
section
variable {X:Cx}
def Rh(c:TT)(y:TS):TS:=λD U H=>∃W:Nat->St->Hp->Prop,(∃m,W m U H)/\∀m U H,W m U H ->
 c U H λb O=>if b=Z' then ∃N:St->Hp->Prop,(∀a H',N a H'->∃e,e<m/\W e a H')/\y { D with nx:=N,ct:=N,bk:=D.nx } U O else D.nx U O
def Lo(x:xM (aV X.prog X.w) X.A X.env X.xe)(Q:PT X c tc)(R:oV X g y):PS X (.While c g [] G) (Rh tc y):=by
 intro B s U H D I h;obtain⟨W,⟨P,F⟩,j_⟩:=h;refine wpAny_While (codeAny_whileLoop (λn s'=>∃k H',Inv X B k H' s'/\W n k H') ?_ P ⟨U,H,I,F⟩);rintro n i ⟨e,O,S,E⟩;refine dY x (fw (Q B i e O _ S (j_ n e O E)) ?_);rintro b K ⟨d,C,o⟩;cases b with
 |true=>
  obtain⟨N,A,o⟩:=o;rw[if_pos rfl];refine dY x (fw (R B K e d _ C o) λf T m =>?_);cases f with
  |brk=>exact m|ret v=>exact m|_=>obtain⟨a,l,w,r⟩:=m;obtain⟨t,u,p⟩:=A a l r;exact⟨t,u,a,l,w,p⟩
 |false=>rw[if_neg bJ];exact kR ⟨e,d,C,o⟩
end
structure It where
 go:Nat->Hp->Prop
 NM:Nat->Hp->V->Hp->Prop
 stop:Nat->Hp->Prop
def zR(X:Cx)(B:List (ax×Obj))(H:Hp)(b:ax):Prop:=
 H b=M/\b≠X.env.locals/\b∉X.fs/\(b∈X.ex\/X.s₀.heap.objs.size<=b)/\(∀x c,X.env.cells.lookup x=Y c->c≠b)/\∀p∈X.pn++B,p.1≠b
def Inv.zo{X:Cx}{s:av}(I:Inv X B U H s)(a:s.heap.objs.size<=b)(g:H' b=M):zR X B H' b:=by
 refine⟨g,fS (bx I.lt a),I.R8 a,.inr (bQ I.sz a),λx c e z =>?_,λp f z =>?_⟩
 ·obtain⟨v,q⟩:=I.cell x c e;exact absurd (bx q.lt (by rw[z];exact a)) (fg _)
 ·exact absurd (bx (aI (I.pin p f).1) (by rw[z];exact a)) (fg _)
structure J9(P:br)(w:cY)(K:aT)(tg:Expr)(J:It)(fp:List ax)(it:ax)(tn:Nat->cF->Prop):Prop where
 mem:it∈fp
 obj:∀i h,tn i h->∀b∈fp,∃o,h.get? b=some o/\∀v,o.data ≠ .cell v
 keep:∀i h h',tn i h->(∀b∈fp,∀o,h.get? b=some o->h'.get? b=some o)->tn i h'
 item:∀(X:Cx),X.prog=P->X.w=w->X.K=K->X.calm=true->∀(i:Nat) (AA:List (ax×Obj)) (s:av) (σ:St) (H:Hp) (E:ak->av->Prop),Inv X AA σ H s->(∀b∈fp,zR X AA H b)->tn i s.heap->J.go i H ->
  bq (aV P w) X.A (pyNext (.ref it)) (λr s1=>∃u,r=some u /\
   bq (aV P w) X.A (Ad tg (.ref it) u) (λ_ s2=>∃x H',Inv X AA σ H' s2/\RelV x u/\J.NM i H x H'/\tn (i+1) s2.heap/\∀b∈fp,H' b=none) E s1) E s
 done:∀(X:Cx),X.prog=P->X.w=w->X.K=K->X.calm=true->∀(i:Nat) (AA:List (ax×Obj)) (s:av) (σ:St) (H:Hp) (E:ak->av->Prop),Inv X AA σ H s->(∀b∈fp,zR X AA H b)->tn i s.heap->J.stop i H ->
  bq (aV P w) X.A (pyNext (.ref it)) (λr s1=>r=none/\Inv X AA σ H s1) E s
 self:∀(A:gI) (i:Nat) (s:av) (Q:ak->av->Prop) (E:ak->av->Prop),tn i s.heap->Q (.ref it) s->bq (aV P w) A (pyIter (.ref it)) Q E s
abbrev TI:=St->Hp->(It->Hp->Prop)->Prop
def PIE(X:Cx)(B:List (ax×Obj))(U:St)(tg:Expr)(R:It->Hp->Prop)(a:ak)(e:av):Prop:=
 ∃(f:ax) (g:List ax) (c:Nat->cF->Prop) (J:It) (H':Hp),a=.ref f/\Inv X B U H' e/\J9 X.prog X.w X.K tg J g f c/\c 0 e.heap/\(∀b∈g,zR X B H' b)/\R J H'
def PI(X:Cx)(tg a:Expr)(b:TI):Prop:=
 ∀(B:List (ax×Obj)) (s:av) (U:St) (H:Hp) (R:It->Hp->Prop),Inv X B U H s->b U H R ->
  bq (aV X.prog X.w) X.A (eval a X.env) (λv c=>bq (aV X.prog X.w) X.A (pyIter v) (PIE X B U tg R) X.xe c) X.xe s
def Mr{d : N0}{s : av}{n : String}(e : s.heap.get? c = Y o)(k : o.cls = .type n)(g : o.data = .fields b)(f : ["enumerate", "zip", "dict_itemiterator", "dict_reverseitemiterator", "odict_iterator", "itertools.zip_longest", "itertools.pairwise"].contains n = Z_)(a : Q () s): bq d A (Ad tg (.ref c) u) Q E s := by
  unfold Ad
  cases tg <;> first
    |exact aE a
    | (cases u <;> first
        |exact aE a
        | (refine ah (wpAny_load e ?_)
           rw [k,g]
           show bq d A (if (["enumerate", "zip", "dict_itemiterator", "dict_reverseitemiterator", "odict_iterator", "itertools.zip_longest", "itertools.pairwise"].contains n && b[0]? == Y (lF _)) = Z' then _ else _) Q E s
           rw [if_neg (by intro h; rw [f,Bool.false_and]at h; cases h)]
           exact aE a))
noncomputable def UI(K:aT)(a:ax):It:=
 ⟨λi H=>∃xs x,m_ K H a xs/\xs[i]?=Y x,λi H x H'=>H'=H/\∀xs,m_ K H a xs->xs[i]?=Y x,λi H=>∃xs,m_ K H a xs/\xs.length<=i⟩
noncomputable def WI(n:Int)(a:Nat):It:=⟨λi _=>i<a,λi H x H'=>H'=H/\x=.int (n+i),λi _=>a<=i⟩
def IJ{P:br}{K:aT}(a f:ax):J9 P w K tg (UI K a) [f] f (λi h=>h.IsListIter f a i) where
 mem:=by simp
 obj:=λi h st b g=>by
  have e:b=f:=by simpa using g
  subst e;obtain⟨o,e,c,d⟩:=st;exact⟨o,e,λv z=>by rw[d]at z;cases z⟩
 keep:=λi h h' st k=>st.at λo e=>k f Ž o e
 item:=by
  intro X F hw j hc i B s U H E I r st D;subst F hw j;obtain⟨xs,x,m,C⟩:=D;obtain⟨A,t,p,hz⟩:=I.list m;obtain⟨u,hu,ru⟩:=t.get C;obtain⟨f0,T,f2,S,R,Q⟩:=r f Ž;refine wpAny_pyNext_list_item st p.isList (x:=u) (by simpa using hu) λh' l sb =>?_
  have I1:Inv X B U H { s with heap:=h' }:=I.turned (t':=s.toks) (λb o g e=>(sb.2 b g).trans e) f0 T S R Q;obtain⟨o,e,c,d⟩:=id l;exact⟨u,rfl,Mr (s:={ s with heap:=h' }) e c d ſ ⟨x,H,I1,ru,⟨rfl,λys hy=>by rw[I.su hy m];exact C⟩,l,λb g=>(r b g).1⟩⟩
 done:=by intro X F hw j hc i B s U H E I r st D;subst F hw j;obtain⟨xs,m,C⟩:=D;obtain⟨A,t,p,hz⟩:=I.list m;obtain⟨f0,T,f2,S,R,Q⟩:=r f Ž;have hl:=t.length;exact wpAny_pyNext_list_end (I.ok.hd hc) st p.isList (by simp;omega) λh' eb=>⟨rfl,I.turned (t':=s.toks) (λb o g e=>eb b o g e) f0 T S R Q⟩
 self:=λ_ _ _ _ _ st h=>wpAny_pyIter_listiter st h
def Fk{P:br}{K:aT}(c:ax)(n:Int)(a:Nat):J9 P w K tg (WI n a) [c] c (λi h=>IsRangeIter h c (n+(i:Nat)*1) ((a:Int)-(i:Nat)) 1) where
 mem:=by simp
 obj:=λi h st b f=>by
  have e:b=c:=by simpa using f
  subst e;exact⟨_,st,λv z=>by have d:fQ _=Data.cell v:=z;cases d⟩
 keep:=λi h h' st k=>k c Ž _ st
 item:=by
  intro X r hw u p i B s U H E I l st m;subst r hw u;obtain⟨F,D,S,C,A,x⟩:=l c Ž;have W:=Walks.range (prog:=X.prog) (w:=X.w) (I.ok.hd p) c n 1 a;refine W.item i s _ _ m st λv h' tk R g Q =>?_
  obtain⟨t,rfl⟩:=R;have I1:Inv X B U H { s with heap:=h',toks:=tk }:=I.turned (λb o f e=>Q b o (by simpa using f) e) F D C A x;refine⟨_,rfl,Mr (s:={ s with heap:=h',toks:=tk }) (n:= "range_iterator") g rfl rfl ſ ⟨.int (n+i),H,I1,⟨t,?_⟩,⟨rfl,rfl⟩,g,λb f=>(l b f).1⟩⟩;rw[Int.mul_one]
 done:=by intro X r hw u p i B s U H E I l st m;subst r hw u;obtain⟨F,D,S,C,A,x⟩:=l c Ž;exact wpAny_pyNext_range_end (I.ok.hd p) st (by have:a<=i:=m;omega) λh' T=>⟨rfl,I.turned (t':=s.toks) (λb o f e=>T b o f e) F D C A x⟩
 self:=λ_ _ _ _ _ st h=>wpAny_pyIter_rangeiter st h
section
variable {X:Cx}
def VT(K:aT)(tl:TE):TI:=λU H R=>tl U H λx O=>∃a,x=.ref a/\(∃xs,m_ K O a xs)/\R (UI K a) O
def Hq(t:PE X l tl):PI X tg l (VT X.K tl):=by
 intro B s U H R I h;refine fw (t B s U H _ I h) ?_;rintro v c ⟨x,O,f,g,k⟩;obtain⟨a,e,⟨xs,r⟩,q⟩:=k;subst e;cases g;obtain⟨m,w,p,A⟩:=f.list r;refine lM p.isList ?_;refine⟨c.heap.objs.size,[c.heap.objs.size],_,_,O,rfl,f.kept (t':=c.toks) λb o e=>aj _ e,IJ a _,⟨_,bz _ rfl,rfl,rfl⟩,λb u =>?_,q⟩;have e:b=c.heap.objs.size:=by simpa using u
 subst e;exact f.zo (aQ _) (f.eR.fresh (aQ _))
def DR{s:av}{R:It->Hp->Prop}{v:Tok}(I:Inv X B U H s)(J : -(2 ^ 62)<=n)(z:n<2 ^ 62)(g : -(2 ^ 62)<=L)(f:L<2 ^ 62)(q:R (WI n (L-n).toNat) H):bq (aV X.prog X.w) X.A (pyIter (.ref s.heap.objs.size)) (PIE X B U tg R) E { s with heap:=s.heap.push { cls :=.type "range",data :=.fields #[.int n t,.int L u,.int 1 v] },toks:=tk }:=by
 refine wpAny_pyIter_range (IsRange.new ..) (small_one J z g f) ?_;have a:Inv X B U H { s with heap:=s.heap.push { cls :=.type "range",data :=.fields #[.int n t,.int L u,.int 1 v] },toks:=tk }:=I.kept λb o e=>aj _ e
 refine⟨(s.heap.push { cls :=.type "range",data :=.fields #[.int n t,.int L u,.int 1 v] }).objs.size,[(s.heap.push { cls :=.type "range",data :=.fields #[.int n t,.int L u,.int 1 v] }).objs.size],_,_,H,rfl,
  a.kept (t':=tk) λb o e=>aj _ e,Fk _ n (L-n).toNat,?_,λb c =>?_,q⟩
 ·have k:n+((0:Nat):Int)*1=n:=by simp
  have h:(((L-n).toNat:Nat):Int)-((0:Nat):Int)=Builtin.Range.rangeSize n L 1:=by rw[rangeSize_one];split<;>omega
  show IsRangeIter _ _ (n+((0:Nat):Int)*1) ((((L-n).toNat:Nat):Int)-((0:Nat):Int)) 1;rw[k,h];exact bz _ rfl
 ·have e:b=(s.heap.push { cls :=.type "range",data :=.fields #[.int n t,.int L u,.int 1 v] }).objs.size:=by simpa using c
  subst e;exact a.zo (aQ _) (a.eR.fresh (aQ _))
def VS(N:TA):TI:=λU H R=>N U H λa O=>∃j:Int,a=[.int j] /\ -(2 ^ 62)<=j/\j<2 ^ 62/\R (WI 0 j.toNat) O
def VR(N:TA):TI:=λU H R=>N U H λa O=>∃i j:Int,a=[.int i,.int j]/\(-(2 ^ 62)<=i/\i<2 ^ 62 /\ -(2 ^ 62)<=j/\j<2 ^ 62)/\R (WI i (j-i).toNat) O
def A1(m:Gl X "range")(l:X.mg "range" = M)(o:PA X [a] N)(k:autoParam (ao [a] X.env=[(Z_,eval a X.env)]) Ų):PI X tg (.Call (.Name "range" p) [a] [] G) (VS N):=by
 intro B s U H R I h;refine Call_ (qL I m l boot_range (gX (fw (o G B s U H _ I h) ?_) k rfl));rintro w x ⟨v,O,u,f,b⟩;obtain⟨j,e,b,g,q⟩:=b;subst e;cases f with
 |cons r c=>cases c;obtain⟨t,rfl⟩:=r;exact call_range_1 (DR u ž ž b g (by simpa using q))
def Je(x:Gl X "range")(w:X.mg "range" = M)(A:PA X [a,b] N)(v:autoParam (ao [a,b] X.env=[(Z_,eval a X.env),(Z_,eval b X.env)]) Ų)(c:autoParam (ao [b] X.env=[(Z_,eval b X.env)]) Ų):
  PI X tg (.Call (.Name "range" p) [a,b] [] G) (VR N):=by
 intro B s U H R I h;refine Call_ (qL I x w boot_range (gX (fw (A G B s U H _ I h) ?_) (by rw[v,c]) (by rw[c];rfl)));rintro E K ⟨D,O,C,k,g⟩;obtain⟨i,j,e,⟨g,u,o,m⟩,q⟩:=g;subst e;cases k with
 |cons r f=>
  cases f with
  |cons l f=>cases f;obtain⟨t,rfl⟩:=r;obtain⟨F,rfl⟩:=l;exact call_range_2 (DR C g u o m q)
def X2(e:TI)(g:TG)(y:TS):TS:=λD U H=>e U H λJ O=>∃W:Nat->Nat->St->Hp->Prop,(∃m,W 0 m U O)/\∀i m U H,W i m U H ->
 (J.stop i H/\D.nx U H)\/(J.go i H/\∃N:St->Hp->Prop,(∀a H',N a H'->∃c,c<m/\W (i+1) c a H')/\∀x H',J.NM i H x H'->g x U H' λb d=>y { D with nx:=N,ct:=N,bk:=D.nx } b d)
noncomputable def uq(a:List ax)(h:cF):List (ax×Obj):=a.filterMap λb=>(h.get? b).map λo=>(b,o)
def kF(c:b∈a)(e:h.get? b=Y o):(b,o)∈uq a h:=List.mem_filterMap.mpr ⟨b,c,by rw[e];rfl⟩
def A4(c:p∈uq a h):p.1∈a/\h.get? p.1=Y p.2:=by
 obtain⟨b,f,e⟩:=List.mem_filterMap.mp c;rcases q:h.get? b with _|o
 ·rw[q]at e;cases e
 rw[q]at e;have g:(b,o)=p:=bM e;subst g;exact⟨f,q⟩
def Inv.pinned{s:av}(I:Inv X B U H s)(k:∀b∈a,zR X B H b)(h:∀b∈a,∃o,s.heap.get? b=Y o/\∀v,o.data ≠ .cell v):Inv X (B++uq a s.heap) U H s:=
 I.x5 λp g=>(bu.mp g).elim (λz=>I.pin p (aG _ z)) λz=>by obtain⟨c,e⟩:=A4 z;obtain⟨r,m,l,_⟩:=k p.1 c;obtain⟨o,f,d⟩:=h p.1 c;rw[e]at f;cases f;exact⟨e,r,m,l,d⟩
def Inv.nW{s:av}(I:Inv X (B++a) U H s):Inv X B U H s:=I.x5 λp b=>I.pin p (aG _ (bj _ b))
def RJ{j:List pK}(hp:xM (aV X.prog X.w) X.A X.env X.xe)(hc:X.calm=Z')(L:PI X tg w wi)(hg:PG X tg g)(A:oV X j y)(hs:autoParam (∀x,cI w X.env x=dP x) ů):PS X (.For tg w j [] G) (X2 wi g y):=by
 intro B s U H D I h;refine wpAny_For (fw (L B s U H _ I h) λv s1 J=>fw J λitv s2 z =>?_) hs;obtain⟨it,fp,tn,c,d,e,I2,T,Rr,f2,W,⟨m0,w0⟩,j_⟩:=z;subst e;have t:∀ {H':Hp},(∀b∈fp,H' b=M)->∀b∈fp,zR X B H' b:=λhn b A=>⟨hn b A,(f2 b A).2⟩
 refine codeAny_forLoop_any (λn s'=>∃i p H',Inv X B p H' s'/\tn i s'.heap/\(∀b∈fp,H' b=M)/\W i n p H') ?_ m0 ⟨0,U,d,I2,Rr,λb A=>(f2 b A).1,w0⟩;rintro n s3 ⟨i,l,H3,I3,R,V7,w3⟩;rcases j_ i n l H3 w3 with⟨stop,qn⟩|⟨go,N,hN,Q⟩
 ·refine dY hp (fw (T.done X rfl rfl rfl hc i B s3 l H3 X.xe I3 (t V7) R stop) ?_);rintro r s4 ⟨hr,I4⟩;subst hr;exact kR ⟨l,H3,I4,qn⟩
 ·refine dY hp (fw (T.item X rfl rfl rfl hc i B s3 l H3 X.xe I3 (t V7) R go) ?_);rintro r s4 ⟨u,hr,h4⟩;subst hr;refine dY hp (fw h4 ?_);rintro _ s5 ⟨x,H5,I5,r5,y5,P,Ux⟩;have ZJ:=I5.pinned (t Ux) (T.obj _ _ P);refine dY hp (fw (hg _ s5 l H5 x u _ ZJ r5 (Q x H5 y5)) ?_);rintro _ s6 ⟨σ6,H6,I6,q6⟩;refine dY hp (fw (A _ s6 σ6 H6 _ I6 q6) λf s7 K =>?_);have C:∀ {k:St}{F:Hp},Inv X (B++uq fp s5.heap) k F s7->N k F->∃m,m<n/\∃i p H',Inv X B p H' s7/\tn i s7.heap/\(∀b∈fp,H' b=M)/\W i m p H':=fun {k F} E S=>by obtain⟨m',hm,w7⟩:=hN k F S;refine⟨m',hm,i+1,k,F,E.nW,T.keep _ _ _ P λb A o e=>(E.pin (b,o) (aG _ (aG _ (kF A e)))).1,λb A =>?_,w7⟩;obtain⟨o,e,a⟩:=T.obj _ _ P b A;exact(E.pin (b,o) (aG _ (aG _ (kF A e)))).2.1
  cases f with
  |brk=>obtain⟨k,F,E,K⟩:=K;exact⟨k,F,E.nW,K⟩
  |ret v=>obtain⟨x7,k,F,E,r7,K⟩:=K;exact⟨x7,k,F,E.nW,r7,K⟩
  |_=>obtain⟨k,F,E,S⟩:=K;exact C E S
end
def Mx{K:aT}{g:TG}{y:TS}{D:Ends}(c:Nat->St->Hp->Prop)(u:c 0 U H)(s:∀i U H,i<=xs.length->c i U H->m_ K H a xs)(r:∀(E:Ends) i x U H,xs[i]?=Y x->c i U H->(∀f d,c (i+1) f d->E.nx f d)->g x U H λf d=>y E f d)(t:∀U H,c xs.length U H->D.nx U H):
  ∃W:Nat->Nat->St->Hp->Prop,(∃m,W 0 m U H)/\∀i m U H,W i m U H ->
   ((UI K a).stop i H/\D.nx U H)\/((UI K a).go i H/\∃N:St->Hp->Prop,(∀h H',N h H'->∃l,l<m/\W (i+1) l h H')/\∀x H',(UI K a).NM i H x H'->g x U H' λf d=>y { D with nx:=N,ct:=N,bk:=D.nx } f d):=by
 refine⟨λi m U H=>m=xs.length-i/\i<=xs.length/\c i U H,⟨xs.length,Ž,cy _,u⟩,?_⟩;rintro i m U H ⟨rfl,L,p⟩;have q:=s i U H L p;by_cases k:i<xs.length
 ·refine .inr ⟨⟨xs,xs[i],q,by simp[k]⟩,c (i+1),λh H' o=>⟨xs.length-(i+1),ž,rfl,k,o⟩,λx H' b =>?_⟩;obtain⟨e,b⟩:=b;subst e;exact r _ i x U _ (b xs q) p λ_ _ k=>k
 ·have e:i=xs.length:=by omega
  subst e;exact .inl ⟨⟨xs,q,aQ _⟩,t U H p⟩
abbrev R2:=V->V->Hp->VK->Prop
def oW(X:Cx)(f:ak->ak->Sem ak)(r:R2):Prop:=
 ∀(B:List (ax×Obj)) (s:av) (U:St) (H:Hp) (x y:V) (v u:ak) (Q:VK),Inv X B U H s->RelV x v->RelV y u->r x y H Q ->
  bq (aV X.prog X.w) X.A (f v u) (EP X B U Q) X.xe s
def XE(X:Cx)(f:ak->Sem ak)(r:V->Hp->VK->Prop):Prop:=
 ∀(B:List (ax×Obj)) (s:av) (U:St) (H:Hp) (x:V) (v:ak) (Q:VK),Inv X B U H s->RelV x v->r x H Q ->
  bq (aV X.prog X.w) X.A (f v) (EP X B U Q) X.xe s
def lS(X:Cx)(f:ak)(r:List V->Hp->VK->Prop):Prop:=
 ∀(B:List (ax×Obj)) (s:av) (U:St) (H:Hp) (xs:List V) (a:List ak) (Q:VK),Inv X B U H s->cg xs a->r xs H Q ->
  bq (aV X.prog X.w) X.A (GP f a) (EP X B U Q) X.xe s
def ZD(X:Cx)(r:V->Hp->(Bool->Hp->Prop)->Prop):Prop:=
 ∀(B:List (ax×Obj)) (s:av) (U:St) (H:Hp) (x:V) (v:ak) (Q:Bool->Hp->Prop),Inv X B U H s->RelV x v->r x H Q ->
  bq (aV X.prog X.w) X.A (truthy v) (TP X B U Q) X.xe s
def Ul(r:R2)(N y:TE):TE:=λU H Q=>N U H λx O=>y U O λa d=>r x a d Q
def tUn(r:V->Hp->VK->Prop)(N:TE):TE:=λU H Q=>N U H λx O=>r x O Q
def rI(C:Int->Int->Prop)(g:Int->Int->V):R2:=λx y H Q=>∃i j,x=.int i/\y=.int j/\C i j/\Q (g i j) H
def Oz(g:Int->Int->V):R2:=λx y H Q=>∃i j,x=.int i/\y=.int j/\Q (g i j) H
def rU(g:Int->V):V->Hp->VK->Prop:=λx H Q=>∃i,x=.int i/\Q (g i) H
section
variable {X:Cx}
def TF(A:PE X a N)(w:PE X b y){s:av}{R:V->V->Hp->Prop}(I:Inv X B U H s)(h:N U H λx O=>y U O λc d=>R x c d){f:ak->ak->Sem ak}(t:∀v u k x c d,Inv X B U d k->RelV x v->RelV c u->R x c d->bq (aV X.prog X.w) X.A (f v u) Q X.xe k):
  bq (aV X.prog X.w) X.A (eval a X.env) (λv g=>bq (aV X.prog X.w) X.A (eval b X.env) (λu e=>bq (aV X.prog X.w) X.A (f v u) Q X.xe e) X.xe g) X.xe s:=by
 refine fw (A B s U H _ I h) ?_;rintro v l ⟨x,O,D,o,r⟩;refine fw (w B l U O _ D r) ?_;rintro u k ⟨c,d,C,m,p⟩;exact t v u k x c d C o m p
def DW(l:oW X (dN e) r)(o:PE X a N)(m:PE X b y):PE X (.BinOp a e b G) (Ul r N y):=by
 intro B s U H Q I h;exact wpAny_BinOp (TF o m I h λv u f x c d p k g q=>l B f U d x c v u Q p k g q)
def Hr{b:UnaryOp}(g:XE X (unaryOp b) r)(k:PE X a N):PE X (.UnaryOp b a G) (tUn r N):=by
 intro B s U H Q I h;exact UnaryOp_ (fw (k B s U H _ I h) (by rintro v c ⟨x,O,l,e,f⟩;exact g B c U O x v Q l e f))
def Ut{f:ak->ak->Sem ak}{g:Int->Int->Int}(a:∀(i j:Int) (t u:Tok) (s:av) (Q:ak->av->Prop) (E:ak->av->Prop),C i j->Q (.int (g i j) s.toks) { s with toks:=s.toks+1 }->bq (aV X.prog X.w) X.A (f (.int i t) (.int j u)) Q E s):
  oW X f (rI C λi j =>.int (g i j)):=by
 intro B s U H x y v u Q I e c h;obtain⟨i,j,rfl,rfl,k,q⟩:=h;obtain⟨t,rfl⟩:=e;obtain⟨b,rfl⟩:=c;exact a i j t b s _ _ k ⟨.int (g i j),H,I.tok _,⟨_,rfl⟩,q⟩
def OW{f:ak->ak->Sem ak}{g:Int->Int->Int}(a:∀(i j:Int) (t u:Tok) (s:av) (Q:ak->av->Prop) (E:ak->av->Prop),Q (.int (g i j) s.toks) { s with toks:=s.toks+1 }->bq (aV X.prog X.w) X.A (f (.int i t) (.int j u)) Q E s):
  oW X f (Oz λi j =>.int (g i j)):=by
 intro B s U H x y v u Q I e c h;obtain⟨i,j,rfl,rfl,q⟩:=h;obtain⟨t,rfl⟩:=e;obtain⟨b,rfl⟩:=c;exact a i j t b s _ _ ⟨.int (g i j),H,I.tok _,⟨_,rfl⟩,q⟩
def Vy{f:ak->ak->Sem ak}{g:Int->Int->Bool}(a:∀(i j:Int) (t u:Tok) (s:av) (Q:ak->av->Prop) (E:ak->av->Prop),Q (.bool (g i j)) s->bq (aV X.prog X.w) X.A (f (.int i t) (.int j u)) Q E s):
  oW X f (Oz λi j =>.bl (g i j)):=by
 intro B s U H x y v u Q I e c h;obtain⟨i,j,rfl,rfl,q⟩:=h;obtain⟨t,rfl⟩:=e;obtain⟨b,rfl⟩:=c;exact a i j t b s _ _ ⟨.bl (g i j),H,I,rfl,q⟩
def WO(i j:Int):Prop:=0<=j/\j<=1000000/\i.natAbs<2 ^ 64
def Nu(i j:Int):Prop:=(-(2 ^ 64)<i/\i<2 ^ 64)\/(-(2 ^ 64)<j/\j<2 ^ 64)
def Nu.ok{i:Int}(h:Nu i j):IntMulOk i j:=by
 rcases h with⟨J,z⟩|⟨J,z⟩
 ·exact .of_left (intBits_le_64 J z)
 ·exact .of_right (intBits_le_64 J z)
def Fj(k:Nat):(0:Int)<=2 ^ k:=by
 rw[two_pow_cast];exact rS _
def R1:oW X (dN .Add) (Oz λi j =>.int (i+j)):=OW λ_ _ _ _ _ _ _ q=>add_int q
def FR:oW X (dN .Sub) (Oz λi j =>.int (i-j)):=OW λ_ _ _ _ _ _ _ q=>sub_int q
def RY:oW X (dN .Mult) (rI Nu λi j =>.int (i*j)):=Ut λ_ _ _ _ _ _ _ a q=>mul_int q a.ok
def RZ:oW X (dN .Mod) (rI (λ_ j=>0<j) λi j =>.int (i%j)):=Ut λi j _ _ _ _ _ a q=>by
 have J:(0:Int)<j:=a;exact mod_int' ž (by rw[Int.fmod_eq_emod_of_nonneg i (by omega)];exact q)
def RX:oW X (dN .Pow) (rI WO λi j =>.int (i ^ j.toNat)):=Ut λ_ _ _ _ _ _ _ a q=>pow_int_small a.1 a.2.1 a.2.2 q
def RV:oW X (dN .LShift) (rI WO λi j =>.int (i*2 ^ j.toNat)):=Ut λ_ _ _ _ _ _ _ a q=>lshift_int_small a.1 a.2.1 a.2.2 q
def RU:oW X (dN .RShift) (rI (λ_ j=>0<=j) λi j =>.int (i/2 ^ j.toNat)):=Ut λi j _ _ _ _ _ a q=>
 rshift_int a (by rw[Kg i (Fj _)];exact q)
def R0:oW X (dN .BitAnd) (Oz λi j =>.int (uR i j)):=OW λ_ _ _ _ _ _ _ q=>and_int q
def Vw:oW X (dN .BitOr) (Oz λi j =>.int (cZ i j)):=OW λ_ _ _ _ _ _ _ q=>or_int q
def ZX{f:ak->Sem ak}{g:Int->Int}(a:∀(i:Int) (t:Tok) (s:av) (Q:ak->av->Prop) (E:ak->av->Prop),Q (.int (g i) s.toks) { s with toks:=s.toks+1 }->bq (aV X.prog X.w) X.A (f (.int i t)) Q E s):
  XE X f (rU λi =>.int (g i)):=by
 intro B s U H x v Q I b h;obtain⟨i,rfl,q⟩:=h;obtain⟨t,rfl⟩:=b;exact a i t s _ _ ⟨.int (g i),H,I.tok _,⟨_,rfl⟩,q⟩
def Fi:XE X (unaryOp .USub) (rU λi =>.int (-i)):=ZX λ_ _ _ _ _ q=>neg_int q
def Q':XE X (unaryOp .Invert) (rU λi =>.int (uQ i)):=ZX λ_ _ _ _ _ q=>invert_int q
end
noncomputable def X8:V->V->Bool
 |.dg,.dg=>Z'|.dg,.int _=>Z'|.int _,.dg=>Z'|.dg,.bl _=>Z'|.bl _,.dg=>Z'|.dg,.str _=>Z'|.str _,.dg=>Z'|.int _,.int _=>Z'|.bl _,.bl _=>Z'|.str _,.str _=>Z'|.GB _,.GB _=>Z'|.int _,.str _=>Z'|.str _,.int _=>Z'|.bl _,.str _=>Z'|.str _,.bl _=>Z'|_,_=>Z_
def rEq:R2:=λx y H Q=>X8 x y=Z'/\Q (.bl (decide (x=y))) H
def PH:decide (V.int i=V.int j)=(i==j):=by
 rw[vN];simp
def Ti:decide (V.bl i=V.bl j)=(i==j):=by
 rw[vN];simp
def PF:decide (V.str i=V.str j)=(i==j):=by
 rw[vN];simp
def PJ:decide (V.GB i=V.GB j)=(i.toList==j.toList):=by
 rw[vN];cases i;cases j;simp
section
variable {X:Cx}
def kG{s:av}{a:Bool}(I:Inv X B U H s)(q:Q (.bl k) H)(e:k=a):EP X B U Q (.bool a) s:=by
 subst e;exact⟨.bl k,H,I,rfl,q⟩
def QK:oW X (gr .Eq) rEq:=by
 intro B s U H x y v u Q I e a h;obtain⟨c,q⟩:=h;cases x with
 |dg=>
  cases e;cases y with
  |dg=>cases a;exact PySem.EqNone.eq_none_none (kG I q Ž)
  |bl j=>cases a;exact PySem.EqNone.eq_none_bool (kG I q Ž)
  |int j=>obtain⟨b,rfl⟩:=a;exact PySem.EqNone.eq_none_int (kG I q Ž)
  |str j=>obtain⟨b,rfl⟩:=a;exact PySem.EqNone.eq_none_str (kG I q Ž)
  |_=>exact absurd (show Z_=Z' from c) bJ
 |bl i=>
  cases e;cases y with
  |dg=>cases a;exact PySem.EqNone.eq_bool_none (kG I q Ž)
  |bl j=>cases a;exact eq_bool (kG I q Ti)|str j=>obtain⟨b,rfl⟩:=a;exact PySem.EqMixed.eq_bool_str (kG I q Ž)
  |_=>exact absurd (show Z_=Z' from c) bJ
 |int i=>
  obtain⟨t,rfl⟩:=e;cases y with
  |dg=>cases a;exact PySem.EqNone.eq_int_none (kG I q Ž)
  |int j=>obtain⟨b,rfl⟩:=a;exact eq_int (kG I q PH)
  |str j=>obtain⟨b,rfl⟩:=a;exact PySem.EqMixed.eq_int_str (kG I q Ž)
  |_=>exact absurd (show Z_=Z' from c) bJ
 |str i=>
  obtain⟨t,rfl⟩:=e;cases y with
  |dg=>cases a;exact PySem.EqNone.eq_str_none (kG I q Ž)
  |bl j=>cases a;exact PySem.EqMixed.eq_str_bool (kG I q Ž)
  |int j=>obtain⟨b,rfl⟩:=a;exact PySem.EqMixed.eq_str_int (kG I q Ž)
  |str j=>obtain⟨b,rfl⟩:=a;exact eq_str (kG I q PF)
  |_=>exact absurd (show Z_=Z' from c) bJ
 |GB i=>
  obtain⟨t,rfl⟩:=e;cases y with
  |GB j=>obtain⟨b,rfl⟩:=a;exact PySem.W.eq_bytes (kG I q PJ)
  |_=>exact absurd (show Z_=Z' from c) bJ
 |_=>cases y<;>exact absurd (show Z_=Z' from c) bJ
def Vx:oW X (gr .Lt) (Oz λi j =>.bl (decide (i<j))):=Vy λ_ _ _ _ _ _ _ q=>lt_int q
def QJ:oW X (gr .Gt) (Oz λi j =>.bl (decide (j<i))):=Vy λ_ _ _ _ _ _ _ q=>gt_int q
def oW.or{f:ak->ak->Sem ak}{r c:R2}(h:oW X f r)(h':oW X f c):oW X f (λx y H Q=>r x y H Q\/c x y H Q):=by
 intro B s U H x y v u Q I b a q;rcases q with q|q
 ·exact h B s U H x y v u Q I b a q
 ·exact h' B s U H x y v u Q I b a q
def uz(b:Expr)(h:autoParam (op ≠ .In) Ű)(z:autoParam (op ≠ .NotIn) Ű):iu op b=false:=by
 have c:(op==CmpOp.In)=false:=by cases op<;>first|rfl|exact absurd rfl h
 have a:(op==CmpOp.NotIn)=false:=by cases op<;>first|rfl|exact absurd rfl z
 cases b<;>simp[iu,c,a]
def OQ(l:oW X (gr e) r)(p:PE X a N)(o:PE X b y)(m:iu e b=Z_):PE X (.Compare a [e] [b] G) (Ul r N y):=by
 intro B s U H Q I h;exact wpAny_Compare1 (TF p o I h λv u f x c d t k g q=>l B f U d x c v u Q t k g q) m
def UX(t:TE):TT:=λU H Q=>t U H λx H'=>∃k,x=.bl k/\Q k H'
def x3(D:oW X (gr g) r)(K:PE X a N)(F:PE X b y)(E:iu g b=Z_):PT X (.Compare a [g] [b] G) (UX (Ul r N y)):=by
 intro B s U H Q I h;refine wpAny_isTrue_Compare1 (fw (K B s U H _ I h) λv m ⟨x,O,R,t,C⟩=>fw (F B m U O _ R C) λu l ⟨f,d,P,p,A⟩=>fw (D B l U d x f v u _ P t p A) λc T ⟨z,S,i,o,k,e,w⟩ =>?_) E
 subst e;cases o;exact gZ ⟨S,i,w⟩
def Wy(K:aT)(x:V)(H:Hp)(k:Bool):Prop:=
 match x with
 |.dg=>k=Z_|.bl b=>k=b|.int i=>k=(i != 0)|.str y=>y.length<=bc/\k=((y.length:Int) != 0)|.GB y=>y.size<=bc/\k=((y.size:Int) != 0)|.ref p=>(∃xs,m_ K H p xs/\k = !xs.isEmpty)\/(∃xs,NW K H p xs/\k = !xs.isEmpty)\/∃a,H p=Y (.dK a)/\k = !a.isEmpty|_=>False
def Gc{b:Type}{a:List (b×V)}{c:List (b×ak)}(r:KV a c):(!c.isEmpty) = !a.isEmpty:=by
 cases r<;>rfl
def ze{xs:List V}{a:List ak}(r:cg xs a):(!a.toArray.isEmpty) = !xs.isEmpty:=by
 cases r<;>simp
def uA:(bc:Nat)<2 ^ 63:=by rw[gF];decide
def Rc:ZD X (λx H Q=>∃k,Wy X.K x H k/\Q k H):=by
 intro B s U H x v Q I rx h;obtain⟨k,e,q⟩:=h;have hl:=uA;have hs:bc=16777216:=gF;cases x with
 |dg=>cases rx;have e':k=false:=e;subst e';exact truthy_none ⟨H,I,q⟩
 |bl b=>cases rx;have e':k=b:=e;subst e';exact gZ ⟨H,I,q⟩
 |int i=>obtain⟨t,rfl⟩:=rx;have e':k=(i != 0):=e;subst e';exact PySem.P.truthy_int ⟨H,I,q⟩
 |str y=>obtain⟨t,rfl⟩:=rx;obtain⟨hy,e'⟩:y.length<=bc/\k=((y.length:Int) != 0):=e;subst e';exact PySem.P.truthy_str ž ⟨H,I.tok _,q⟩
 |GB y=>obtain⟨t,rfl⟩:=rx;obtain⟨hy,e'⟩:y.size<=bc/\k=((y.size:Int) != 0):=e;subst e';exact PySem.W.truthy_bytes ž ⟨H,I.tok _,q⟩
 |ref p=>
  cases rx;have e':(∃xs,m_ X.K H p xs/\k = !xs.isEmpty)\/(∃xs,NW X.K H p xs/\k = !xs.isEmpty)\/∃fM,H p=Y (.dK fM)/\k = !fM.isEmpty:=e;rcases e' with⟨xs,hx,e'⟩|⟨xs,hx,e'⟩|⟨fM,hx,e'⟩
  ·subst e';obtain⟨E8,r,pl,hz⟩:=I.list hx;have GN:=r.length;exact wpAny_truthy_list pl.isList (by simp only[bb];omega) ⟨H,I.tok _,by rw[ze r];exact q⟩
  ·subst e';obtain⟨E8,r,pl,hz⟩:=I.tuple hx;have GN:=r.length;exact truthy_tuple pl (by simp only[bb];omega) ⟨H,I.tok _,by rw[ze r];exact q⟩
  ·subst e';obtain⟨hz,hS,vs,r,m⟩:fM.length<=bc/\(p==kI)=Z_/\∃vs,KV fM vs/\s.heap.DictOf (hV X.prog X.w) p vs:=I.eR p _ hx;have GN:fM.length=vs.length:=Paired.length r;exact wpAny_truthy_dict hS m ž ⟨H,I.tok _,by rw[Gc r];exact q⟩
 |_=>exact(show False from e).elim
def Lm(l:PE X a N)(g:∀b,isTrue a X.env b=(do let v <- b;lN a.pos;jr [v] (truthy v))):
  PT X a (λU H Q=>N U H λx H'=>∃k,Wy X.K x H' k/\Q k H'):=by
 intro B s U H Q I h;exact isTrue_plain (fw (l B s U H _ I h) (by rintro v c ⟨x,O,m,e,f⟩;exact Rc B c U O x v Q m e f)) (g _)
def FT:oW X (dN .Add) (λx y H Q=>∃i j,x=.str i/\y=.str j/\i.length+j.length<=bc/\Q (.str (i++j)) H):=by
 intro B s U H x y v u Q I c b h;obtain⟨i,j,rfl,rfl,e,q⟩:=h;obtain⟨t,rfl⟩:=c;obtain⟨a,rfl⟩:=b;exact add_str (λa tk=>⟨.str (i++j),H,I.tok _,⟨_,rfl⟩,q⟩) e
def vals1{x:V}{a:List ak}(r:cg [x] a):∃u,a=[u]/\RelV x u:=by
 cases r with|cons c b=>cases b;exact⟨_,rfl,c⟩
end
structure GJ(h:cF)(x dx C:ax)(mA:aJ->Option ak):Prop where
 obj:h.get? x=some (Fd C dx)
 ns:h.Ns1 dx mA
 ne:dx≠x
def A_{h:cF}{dx:ax}{mA:aJ->Option ak}(n:h.Ns1 dx mA):∃c,h.get? dx=Y c/\∀name,lookIn name c=Y (mA name):=by
 obtain⟨o,es,r,g,m,l,_,k⟩:=n;refine⟨o,g,λname =>?_⟩;have e:=k name;unfold T8 findBy at e;rw[<- mC]at e;unfold lookIn;rw[m];dsimp only;split
 ·rename_i y q;rw[q]at e;exact congrArg Y e
 ·rename_i q;rw[q]at e;have a:es.toList.any (·.refKey)=false:=by rw[List.any_eq_false];intro y f;obtain⟨z,t,b⟩:=l y (Array.mem_toList_iff.mp f);simp[DictEntry.refKey,b]
  have p:¬es.toList.any (·.refKey)=true:=by rw[a];exact bJ
  rw[if_neg p];exact congrArg Y e
def GJ.look(I:GJ h x dx C mA):∃a,PySem.W.InstAt h x (Fd C dx) C (Y a)/\∀name,lookIn name a=Y (mA name):=
 let ⟨a,b,c⟩:=A_ I.ns
 ⟨a,⟨I.obj,rfl,rfl,b⟩,c⟩
section
variable {s:av}{K:aT}{f:ax}{name:aJ}{v:ak}
def Qf(X:K.In s.heap)(I:GJ s.heap x dx C mA)(g:plainGet K C name=Z')(f:pw K C=Z')(k:hI K (.ref C) name=Y M)(c:mA name=Y v)(b:PySem.W.handedIn v=Z')(h:Q v { s with toks:=s.toks+1 }):
  bq (aV prog w) A (getAttr (.ref x) name a) Q E s:=by
 obtain⟨l,J,e⟩:=I.look;exact PySem.W.get_value X J (PySem.W.plainGet_of g).1 (PySem.W.findObj_own f k rfl (by rw[e,c])) b h
def Ms(X:K.In s.heap)(I:GJ s.heap x dx C mA)(a:plainGet K C name=Z')(l:hI K (.ref C) name=Y (Y (.ref f)))(g:PySem.W.isFn K (.ref f)=Z')(e:mA name=M)(h:Q (.ref f,[.ref x]) s):
  bq (aV prog w) A (jm (.ref x) name b) Q E s:=by
 obtain⟨c,J,k⟩:=I.look;exact PySem.W.method_fn X J (PySem.W.plainGet_of a).1 (PySem.W.plainGet_of a).2 l (beq_iff_eq.mp g) (by show (lookIn name c).map (·.isSome)=Y Z_;rw[k,e];rfl) h
def Oo(X:K.In s.heap)(I:GJ s.heap x dx C mA)(r:hI K (.ref C) "__setattr__" = Y (Y (.builtin "object.__setattr__")))(t:plainOver K C=Z')(o:NB K C name=Y M)(u:pw K C=Z')(hw:PySem.Within mA l)(p:l.length<=bc)(h:∀h',GJ h' x dx C (λy=>if y=name then Y v else mA y)->fK dx s.heap h'->Q () { s with heap:=h',toks:=s.toks+2 }):
  bq (aV prog w) A (setAttr (.ref x) name v) Q E s:=by
 obtain⟨d,J,R⟩:=I.look;refine PySem.W.set_plain X J r (PySem.W.osa_open (s:={ s with toks:=s.toks+1 }) (r:=M) X J t o λb =>?_);obtain⟨S,D,g⟩:=PySem.W.any_some u;have m:s.heap.get? x=Y ⟨.ref C,Y dx,.plain,#[]⟩:=I.obj;refine ah (aE (ah (ah (uM m (ah (PySem.W.Looks.here (s:={ s with toks:=s.toks+1 }) (PySem.W.looks_clsIn X D) ?_))))));rw[g];refine aE (a:=Y dx) (ah (aE (ah ?_)));refine wpAny_nsSet1 (s:={ s with toks:=s.toks+1 }) I.ns λh' c a =>?_
 obtain⟨P,F,H,e,f,k⟩:=c.count (PySem.Within.cons name v hw);refine ah (wpAny_lookBehind e (by rw[f];exact pastItsLine_dict (bQ k (by rw[aU];omega))) ?_);exact aE (h _ ⟨(a.2 _ (bF I.ne)).trans I.obj,c,I.ne⟩ a)
def L6{R:NH->av->Prop}(X:K.In s.heap)(c:makesIn K C=Z')(L:hI K (.ref C) "__init__" = Y (Y (.ref f)))(e:PySem.W.typeIn K (.ref f)=Y (.type "function")) (h:nU (aV prog w) (A.under (.builtin "type.__call__" ⟨.ref C::a,b⟩)) (.call (.ref f) ⟨.ref (s.heap.objs.size+1)::a,b⟩) (PySem.W.InitBack (s.heap.objs.size+1) R)
   { s with heap:=(s.heap.push rO).push (Fd C s.heap.objs.size) }) :
  nU (aV prog w) A (.call (.ref C) ⟨a,b⟩) R s:=by
 obtain⟨l,g,d,t,k⟩:=s;exact PySem.W.make_core (PySem.W.makes_of X c) (PySem.W.looks_findIn X L) (λself=>PySem.W.bind_fn X self e) (.inl rfl) h
end
noncomputable def lr(f:aJ)(v:V):List (aJ×V)->List (aJ×V)
 |[]=>[(f,v)]|(g,x)::r=>if g=f then (g,v)::r else (g,x)::lr f v r
theorem sr(f g:aJ)(v:V):∀j:List (aJ×V),(lr f v j).lookup g=if g=f then Y v else j.lookup g
 | []=>by
  show jB g [(f,v)]=_;by_cases h:g=f
  ·have a:(g==f)=true:=beq_iff_eq.mpr h;simp only[jB,a,if_pos h]
  ·have a:(g==f)=false:=beq_eq_false_iff_ne.mpr h;simp only[jB,a,if_neg h]
 | (k,x)::r=>by
  have ih:=sr f g v r;rw[show lr f v ((k,x)::r)=(if k=f then (k,v)::r else (k,x)::lr f v r) from rfl];by_cases b:k=f
  ·rw[if_pos b];by_cases h:g=k
   ·have a:(g==k)=true:=beq_iff_eq.mpr h;simp only[jB,a,if_pos (h.trans b)]
   ·have a:(g==k)=false:=beq_eq_false_iff_ne.mpr h;simp only[jB,a,if_neg (λe:g=f=>h (e.trans b.symm))]
  ·rw[if_neg b];by_cases h:g=k
   ·have a:(g==k)=true:=beq_iff_eq.mpr h;simp only[jB,a,if_neg (λe:g=f=>b (h.symm.trans e))]
   ·have a:(g==k)=false:=beq_eq_false_iff_ne.mpr h;simp only[jB,a];exact ih
theorem wo(f:aJ)(v:V):∀j:List (aJ×V),f∈(lr f v j).map (·.1)/\∀g,g∈j.map (·.1)->g∈(lr f v j).map (·.1)
 |[]=>⟨by simp[lr],λg h=>by simp at h⟩
 | (k,x)::r=>by
  obtain⟨c,b⟩:=wo f v r;rw[show lr f v ((k,x)::r)=(if k=f then (k,v)::r else (k,x)::lr f v r) from rfl];by_cases a:k=f
  ·rw[if_pos a];subst a;exact⟨Ž,λg h=>by simpa using h⟩
  ·rw[if_neg a];refine⟨?_,λg h =>?_⟩
   ·rw[bh];exact ay _ c
   ·rw[bh]at h ⊢;rcases aW.mp h with e|e
    ·exact aW.mpr (.inl e)
    ·exact ay _ (b g e)
theorem xj(f:aJ)(v:V):∀j:List (aJ×V),(lr f v j).length<=j.length+1
 |[]=>by simp[lr]
 | (k,x)::r=>by
  have ih:=xj f v r;rw[show lr f v ((k,x)::r)=(if k=f then (k,v)::r else (k,x)::lr f v r) from rfl];by_cases a:k=f
  ·rw[if_pos a,aU,aU];omega
  ·rw[if_neg a,aU,aU];omega
def pH.some_of{v:V}{o:Option ak}(r:pH (Y v) o):∃u,o=Y u/\RelV v u:=by
 cases o with
 |none=>exact(show False from r).elim
 |some u=>exact⟨u,rfl,r⟩
def pH.none_of(r:pH M o):o=none:=by
 cases o with
 |none=>rfl|some u=>exact(show False from r).elim
def Bi{v:V}(r:RelV v u):PySem.W.handedIn u=true:=by
 cases v with
 |dg=>cases (show u=aK from r);rfl
 |bl b=>cases (show u=oK b from r);rfl
 |int i=>obtain⟨t,e⟩:=(show ∃t,u=jn i t from r);cases e;rfl
 |str x=>obtain⟨t,e⟩:=(show ∃t,u=NG x t from r);cases e;rfl
 |GB b=>obtain⟨t,e⟩:=(show ∃t,u=Value.bytes b t from r);cases e;rfl
 |NT b=>obtain⟨t,e⟩:=(show ∃t,u=Value.float b t from r);cases e;rfl
 |ref a=>cases (show u=aD a from r);rfl
 |ty n=>cases (show u=bS n from r);rfl
section
variable {P:br}
def x9(b:nS P w H h)(e:H a=Y (.ins C dx j)):∃mA,GJ h a dx C mA/\(∀f,pH (j.lookup f) (mA f))/\PySem.Within mA (j.map (·.1))/\j.length<=1000/\H dx=Y (.Z a):=by
 obtain⟨d,z,g,c,mA,n,r,q⟩:=(show e_ P w H h a (.ins C dx j) from b a _ e);exact⟨mA,⟨c,n,g⟩,r,q,z,d⟩
end
structure ER(K:aT)(C:ax):Prop where
 pg:plainGet K C Str.empty=true
 hd:pw K C=true
 po:plainOver K C=true
 sa:hI K (.ref C) "__setattr__" = some (some (.builtin "object.__setattr__"))
def ER.get{K:aT}(c:ER K C)(f:aJ):plainGet K C f=true:=c.pg
def qU(K:aT)(C:ax)(f:aJ):Prop:=hI K (.ref C) f=Y M
def qU.UU{K:aT}{f:aJ}(n:qU K C f):NB K C f=Y none:=by
 unfold NB;rw[show hI K (.ref C) f=Y M from n];rfl
structure GK(K:aT)(C:ax)(m:aJ)(f:ax):Prop where
 at_:hI K (.ref C) m=some (some (.ref f))
 fn:PySem.W.isFn K (.ref f)=true
 kp:kT K (.ref f)=true
section
variable {X:Cx}{s:av}{f:aJ}{v:V}
def zl(I:Inv X B U H s)(e:H a=Y (.ins C dx j))(c:ER X.K C)(n:qU X.K C f)(l:j.lookup f=Y v)(h:∀u s',Inv X B U H s'->RelV v u->Q u s'):bq (aV X.prog X.w) A (getAttr (.ref a) f b) Q E s:=by
 obtain⟨mA,O,r,_,_,_⟩:=x9 I.eR e;obtain⟨u,k,g⟩:=pH.some_of (v:=v) (o:=mA f) (by rw[<- l];exact r f);exact Qf I.pM O (c.get f) c.hd n k (Bi g) (h u _ (I.tok _) g)
def qN{m:aJ}(I:Inv X B U H s)(e:H a=Y (.ins C dx j))(c:ER X.K C)(k:GK X.K C m g)(l:j.lookup m=M)(h:Q (.ref g,[.ref a]) s):bq (aV X.prog X.w) A (jm (.ref a) m b) Q E s:=by
 obtain⟨mA,O,r,_,_,_⟩:=x9 I.eR e;have f:mA m=none:=pH.none_of (by rw[<- l];exact r m);exact Ms I.pM O (c.get m) k.at_ k.fn f h
def yG(I:Inv X B U H s)(e:H a=Y (.ins C dx j))(c:ER X.K C)(n:qU X.K C f)(K:j.length<1000)(t:RelV y u)(h:∀s',Inv X B U (cx H a (.ins C dx (lr f y j))) s'->Q () s'):bq (aV X.prog X.w) A (setAttr (.ref a) f u) Q E s:=by
 obtain⟨mA,O,r,l,_,m⟩:=x9 I.eR e;have v:(j.map (·.1)).length<=bc:=by rw[aw,gF];omega
 refine Oo I.pM O c.sa c.po n.UU c.hd l v λh' k p=>h _ ?_
 have x:∃o,h'.get? dx=Y o:=let ⟨o,_,_,F,_⟩:=k.ns;⟨o,F⟩;refine I.write (x:=a) (e:=dx) (by rw[e];exact gB) (.inr m) (λb q D z=>(p.2 b D).trans z) x ?_;refine⟨by rw[aM O.ne];exact m,?_,O.ne,k.obj,_,k.ns,λg =>?_,λg w =>?_⟩
 ·have:=xj f y j;omega
 ·show pH ((lr f y j).lookup g) (if g=f then Y u else mA g);rw[sr];by_cases q:g=f
  ·rw[if_pos q,if_pos q];exact t
  ·rw[if_neg q,if_neg q];exact r g
 ·by_cases q:g=f
  ·rw[q];exact(wo f y j).1
  ·refine(wo f y j).2 g (l g λz=>w ?_);show (if g=f then Y u else mA g)=M;rw[if_neg q];exact z
def Inv.made(I:Inv X B U H s):Inv X B U (cx (cx H s.heap.objs.size (.Z (s.heap.objs.size+1))) (s.heap.objs.size+1) (.ins C s.heap.objs.size []))
  { s with heap:=(s.heap.push rO).push (Fd C s.heap.objs.size) }:=by
 have c:(s.heap.push rO).get? s.heap.objs.size=Y rO:=bz s.heap rfl;have k:((s.heap.push rO).push (Fd C s.heap.objs.size)).get? (s.heap.objs.size+1)=Y (Fd C s.heap.objs.size):=by have:=bz (s.heap.push rO) (o:=Fd C s.heap.objs.size) rfl;rwa [cW]at this
 have h:(s.heap.push rO).Ns s.heap.objs.size (λ_=>M):=⟨rO,#[],_,c,rfl,(λe g=>absurd g Ž),λ_=>rfl⟩;have l:=I.laid (a:=s.heap.objs.size) (o :=.Z (s.heap.objs.size+1)) (h':=s.heap.push rO) (t':=s.toks) (λb u q=>aj _ q) (aQ _) ⟨_,c⟩;refine l.laid (a:=s.heap.objs.size+1) (o :=.ins C s.heap.objs.size []) (t':=s.toks) (λb u q=>aj _ q) (nK (cW _ _)) ?_;have a:s.heap.objs.size≠s.heap.objs.size+1:=bI (js _);refine⟨by rw[aM a,aX],cy _,a,k,λ_=>M,(Heap.Ns1.of_empty h).at λo q=>aj _ q,λ_=>gB,λy f=>absurd rfl f⟩
def Ig{prog:br}{w:cY}{a:Env}{e:Expr}{f:aJ}{G:Pos}{s:av}{Q:ak->av->Prop}(c:b_ e f a (eval e a)=eval e a)(h:bq (aV prog w) A (eval e a) (λo b=>bq (aV prog w) A (getAttr o f Z') Q E b) E s):bq (aV prog w) A (eval (.Attribute e f G) a) Q E s:=
 Attribute_any_ h (by rw[arm_eval_Attribute,c])
end
def U5(K:aT)(N:TE)(f:aJ):TE:=λU H Q=>N U H λx O=>∃a C dx j v,x=.ref a/\O a=Y (.ins C dx j)/\ER K C/\qU K C f/\j.lookup f=Y v/\Q v O
def X9(K:aT)(N tv:TE)(f:aJ):TS:=λD U H=>tv U H λy O=>N U O λx d=>∃a C dx j,x=.ref a/\d a=Y (.ins C dx j)/\ER K C/\qU K C f/\j.length<1000 /\
 D.nx U (cx d a (.ins C dx (lr f y j)))
def J4(X:Cx)(b:Operator)(a:V->V->Hp->VK->Prop):Prop:=
 ∀(B:List (ax×Obj)) (s:av) (U:St) (H:Hp) (x y:V) (u v:ak) (Q:VK),Inv X B U H s->RelV x u->RelV y v->a x y H Q->bq (aV X.prog X.w) X.A (inplaceOp b u v) (EP X B U Q) X.xe s
def Ov(K:aT)(N tv:TE)(e:V->V->Hp->VK->Prop)(f:aJ):TS:=λD U H=>N U H λx O=>∃a C dx j v,x=.ref a/\O a=Y (.ins C dx j)/\ER K C/\qU K C f/\j.lookup f=Y v /\
 tv U O λy d=>e v y d λz c=>∃b V5,c a=Y (.ins C b V5)/\V5.length<1000/\D.nx U (cx c a (.ins C b (lr f z V5)))
section
variable {X:Cx}{f:aJ}
def so(k:PE X e N)(m:b_ e f X.env (eval e X.env)=eval e X.env):PE X (.Attribute e f G) (U5 X.K N f):=by
 intro B s U H Q I h;refine Ig m (fw (k B s U H _ I h) ?_);rintro u A ⟨x,O,r,b,a,C,dx,j,v,ex,o,c,n,l,q⟩;subst ex;obtain rfl:u=aD a:=b;exact zl r o c n l λt w p g=>⟨v,O,p,g,q⟩
def B1(t:PE X o N)(p:PE X value tv)(r:cj value (Y (.Attribute o f Qd)) G.line X.env=dP Z_):PS X (.Assign [.Attribute o f Qd] value G) (X9 X.K N tv f):=by
 intro B s U H D I h;refine Ko (fw (p B s U H _ I h) ?_) r;rintro u b ⟨y,O,E,e,q⟩;refine fw (t B b U O _ E q) ?_;rintro m K ⟨x,d,A,g,a,C,dx,j,ex,v,c,n,l,k⟩;subst ex;obtain rfl:m=aD a:=g;exact yG A v c n l e λF w=>⟨U,_,w,k⟩
def Jc(R:PE X o N)(Q:PE X value tv)(b:J4 X k g):PS X (.AugAssign (.Attribute o f XU) k value G) (Ov X.K N tv g f):=by
 intro B s U H D I h;refine wpAny_AugAssign_AttributeAny (fw (R B s U H _ I h) ?_);rintro i s1 ⟨x,O,I1,A,a,C,dx,j,v,ex,S,c,n,l,q⟩;subst ex;obtain rfl:i=aD a:=A;refine zl I1 S c n l λu r I2 E=>fw (Q B r U O _ I2 q) ?_
 rintro m p ⟨y,d,I3,w,K⟩;refine fw (b B p U d v y u m _ I3 E w K) ?_;rintro w4 s4 ⟨z,H3,I4,t,T,V5,e,P,F⟩;exact yG I4 e c n P t λs5 I5=>⟨U,_,I5,F⟩
def Yh:V->V->Hp->VK->Prop:=λx y H Q=>∃i j,x=.int i/\y=.int j/\Q (.int (i+j)) H
def Yc:V->V->Hp->VK->Prop:=λx y H Q=>∃i j,x=.int i/\y=.int j/\Q (.int (i-j)) H
def YE:J4 X .Add Yh:=by
 rintro B s U H x y u v Q I c b ⟨i,j,rfl,rfl,q⟩;obtain⟨t,rfl⟩:=(show ∃t,u=jn i t from c);obtain⟨a,rfl⟩:=(show ∃a,v=jn j a from b);exact PyProof.Rows.iadd_int ⟨.int (i+j),H,I.tok _,⟨_,rfl⟩,q⟩
def YD:J4 X .Sub Yc:=by
 rintro B s U H x y u v Q I c b ⟨i,j,rfl,rfl,q⟩;obtain⟨t,rfl⟩:=(show ∃t,u=jn i t from c);obtain⟨a,rfl⟩:=(show ∃a,v=jn j a from b);exact PyProof.Rows.isub_int ⟨.int (i-j),H,I.tok _,⟨_,rfl⟩,q⟩
end
section
variable {X:Cx}{s:av}
inductive xH (K:aT) (H:Hp):V->ak->Prop where
 |dg:xH K H .dg (.type "NoneType")
 |bl (x:Bool):xH K H (.bl x) (.type "bool")
 |int (i:Int):xH K H (.int i) (.type "int")
 |str (x:aJ):xH K H (.str x) (.type "str")
 |NT (x:UInt64):xH K H (.NT x) (.type "float")
 |lst {a:ax}{xs:List V}(e:H a=some (.lst xs)):xH K H (.ref a) (.type "list")
 |Gf {a:ax}{o:Obj}{xs:List V}(e:H a=some (.Gf o (.lst xs))):xH K H (.ref a) (.type "list")
 |tup {a:ax}{xs:List V}(e:H a=some (.tup xs)):xH K H (.ref a) (.type "tuple")
 |dK {a:ax}{fM:List (lL×V)}(e:H a=some (.dK fM)):xH K H (.ref a) (.type "dict")
 |dT {a:ax}{fM:List (List lL×V)}(e:H a=some (.dT fM)):xH K H (.ref a) (.type "dict")
 | ins {a C dx:ax}{fs:List (aJ×V)}(e:H a=some (.ins C dx fs)) (cl:ER K C) (ha:hI K (.ref C) "__class__" = some (some (.builtin "object.__class__")))
   (hn:PySem.W.specialIn K (.builtin "object.__class__") "__get__" = some (some (.builtin "getset_descriptor.__get__"))) (htk:PySem.W.takesIn K (.builtin "object.__class__")=some true)
   (hm:PySem.W.mroIn K C (.type "object")=some true):xH K H (.ref a) (.ref C)
def nQ(I:Inv X B U H s)(k:RelV x u)(v:xH X.K H x t)(e:jK X.K t c=Y b)(h:∀tk,Q (.bool b) { s with toks:=tk }):
  bq (aV X.prog X.w) A (GP (.builtin "isinstance") [u,c]) Q E s:=by
 cases v with
 |dg=>cases (show u=aK from k);exact rW PySem.W.kitx_none I.pM gB e (λf=>nomatch f) h
 |bl y=>cases (show u=oK y from k);exact rW PySem.W.kitx_bool I.pM gB e (λf=>nomatch f) h
 |int i=>obtain⟨t,q⟩:=(show ∃t,u=jn i t from k);cases q;exact rW PySem.W.kitx_int I.pM gB e (λf=>nomatch f) h
 |str y=>obtain⟨t,q⟩:=(show ∃t,u=NG y t from k);cases q;exact rW PySem.W.kitx_str I.pM gB e (λf=>nomatch f) h
 |NT y=>obtain⟨t,q⟩:=(show ∃t,u=Value.float y t from k);cases q;exact rW PySem.W.kitx_float I.pM gB e (λf=>nomatch f) h
 |@lst a xs l=>cases (show u=aD a from k);obtain⟨_,_,n,_,J⟩:=(show e_ X.prog X.w H s.heap a (.lst xs) from I.eR a _ l);exact rW PySem.W.kitx_list I.pM ⟨_,J,rfl⟩ e (λf=>nomatch f) h
 |@Gf a w xs l=>cases (show u=aD a from k);obtain⟨_,_,_,n,_,J⟩:=(show e_ X.prog X.w H s.heap a (.Gf w (.lst xs)) from I.eR a _ l);exact rW PySem.W.kitx_list I.pM ⟨_,J,rfl⟩ e (λf=>nomatch f) h
 |@tup a xs l=>cases (show u=aD a from k);obtain⟨_,_,_,p⟩:=(show e_ X.prog X.w H s.heap a (.tup xs) from I.eR a _ l);obtain⟨o,J,z,_⟩:=p;exact rW PySem.W.kitx_tuple I.pM ⟨o,J,z⟩ e (λf=>nomatch f) h
 |@dK a m l=>cases (show u=aD a from k);obtain⟨_,_,P,_,p⟩:=(show e_ X.prog X.w H s.heap a (.dK m) from I.eR a _ l);obtain⟨o,es,d,J,z,_⟩:=p;exact rW PySem.W.kitx_dict I.pM ⟨o,J,z.1⟩ e (λf=>nomatch f) h
 |@dT a m l=>cases (show u=aD a from k);obtain⟨_,_,xs,_,o,es,d,J,z,_⟩:=(show e_ X.prog X.w H s.heap a (.dT m) from I.eR a _ l);exact rW PySem.W.kitx_dict I.pM ⟨o,J,z.1⟩ e (λf=>nomatch f) h
 |@ins a C dx j l cl K D r F=>cases (show u=aD a from k);obtain⟨mA,O,_⟩:=x9 I.eR l;obtain⟨R,g,_⟩:=O.look;exact rW (PySem.W.kitx_own (cl.get _) cl.hd K D r F) I.pM g e (λf=>nomatch f) h
end
structure eH(k:Nat)(A:gI):Prop where
 hd:A.handled=none
 dp:A.depth+3*k+5<recursionLimit
 un:A.units+16*k+200<rP
def eH.mono(r:eH k A)(h:j<=k):eH j A:=⟨r.hd,by have:=r.dp;omega,by have:=r.un;omega⟩
def eH.deeper(r:eH (k+1) A)(a:Env):eH k (A.deeper a):=
 ⟨r.hd,by have:=r.dp;show A.depth+1+3*k+5<_;omega,by have:=r.un;show A.units+3+16*k+200<_;omega⟩
def F9{A:gI}{C:ax}{a:List ak}{b:List (aJ×ak)}:(A.under (.builtin "type.__call__" ⟨.ref C::a,b⟩)).depth=A.depth+1:=by
 first|rfl|simp[Around.under,Code.weight,Code.isCreation,Code.isGuard,Code.isCaller,Code.frames,Code.isFrame,guardIds]
def F8{A:gI}{C:ax}{a:List ak}{b:List (aJ×ak)}:(A.under (.builtin "type.__call__" ⟨.ref C::a,b⟩)).units=A.units+1:=by
 first|rfl|simp[Around.under,Code.cUnits,Code.frames,Code.isFrame]
def eH.make(r:eH (k+1) A)(C:ax)(a:List ak)(b:List (aJ×ak)):eH k (A.under (.builtin "type.__call__" ⟨.ref C::a,b⟩)):=
 ⟨r.hd,by have:=r.dp;rw[F9];omega,by have:=r.un;rw[F8];omega⟩
def eH.depth(r:eH k A):A.depth<recursionLimit:=by have:=r.dp;omega
def eH.units{A:gI}(r:eH k A):A.units+64<rP:=by have:=r.un;omega
def Ah:TA:=λ_ H Q=>Q [] H
def rY(N:TE)(a:TA):TA:=λU H Q=>N U H λx O=>a U O λxs d=>Q (x::xs) d
section
variable {X:Cx}
def dn:PA X [] Ah:=λ_ _ _ _ H Q I h=>Calls.spliced_nil ⟨[],H,I,.nil,h⟩
def bT(m:PE X e te)(l:PA X es t)(k:autoParam (ao (e::es) X.env=(Z_,eval e X.env)::ao es X.env) Ų):PA X (e::es) (rY te t):=by
 intro G B s U H Q I h;rw[k];show bq _ _ (spliced ((Z_,eval e X.env)::cn G (ao es X.env))) _ _ s;refine GV (fw (m B s U H _ I h) ?_);rintro u a ⟨x,O,p,c,g⟩;exact fw (l G B a U O _ p g) <|by rintro r v ⟨xs,d,o,b,f⟩;exact⟨x::xs,d,o,.cons c b,f⟩
def XX(t:TA):TE:=λU H Q=>t U H λxs O=>xs.length<=bc/\∀p,O p=M->Q (.ref p) (cx O p (.tup xs))
def X1(t:TA):TE:=λU H Q=>t U H λxs O=>xs.length<=bc/\∀p,O p=M->Q (.ref p) (cx O p (.lst xs))
def FK{f}(h:PA X es t):PE X (.Tuple es f G) (XX t):=by
 intro B s U H Q I k;refine wpAny_Tuple_spliced (fw (h G B s U H _ I k) ?_);rintro g a ⟨xs,O,c,r,z,q⟩;refine⟨by rw[<- r.length];exact z,?_⟩;have l:O a.heap.objs.size=none:=c.eR.fresh (aQ _);refine⟨.ref a.heap.objs.size,cx O a.heap.objs.size (.tup xs),c.laid (t':=a.toks) (λb u e=>aj _ e) (aQ _) ?_,rfl,q _ l⟩;exact⟨z,g,r,⟨_,bz _ rfl,rfl,_,rfl⟩⟩
def ur(h:PA X es t):PE X (.List es G) (X1 t):=by
 intro B s U H Q I g;refine wpAny_List_spliced (fw (h G B s U H _ I g) ?_);rintro f a ⟨xs,O,c,r,z,q⟩;refine⟨by rw[<- r.length];exact z,?_⟩;have k:O a.heap.objs.size=none:=c.eR.fresh (aQ _);refine⟨.ref a.heap.objs.size,cx O a.heap.objs.size (.lst xs),c.laid (t':=a.toks) (λb u e=>aj _ e) (aQ _) ?_,rfl,q _ k⟩;exact⟨z,f,0,r,bz _ rfl⟩
end
abbrev Sp:=List V->Hp->VK->XK->Prop
abbrev Q1:=List Env->Hp->av->XK->ak->av->Prop
structure GL(P:br)(w:cY)(K:aT)(mg:aJ->Option ak)(base:cF)(A:gI)(outer:List Env)(s:av)(H:Hp):Prop where
 frames:A.frames=some outer
 mod:Mod K mg base
 bs:∀b o,base.get? b=some o->s.heap.get? b=some o/\H b=none
 NU:base.objs.size<=s.heap.objs.size
 wz:s.heap.FunFrames base outer
 QS:∀b∈yf outer,H b=none
 eR:nS P w H s.heap
 bare:AF s.gens
def CE(a:List Env)(P:br)(w:cY)(H:Hp)(s:av)(Q:VK)(u:ak)(s':av):Prop:=
 ∃v H',s'.os=s.os/\AF s'.gens/\Un (yf a) [] H H' s.heap s'.heap/\nS P w H' s'.heap/\RelV v u/\Q v H'
def CR(CX:Q1)(a:List Env)(P:br)(w:cY)(H:Hp)(s:av)(Q:VK)(E:XK)(r:NH)(s':av):Prop:=
 match r with
 |.ok (.ret u)=>CE a P w H s Q u s'|.ok _=>False|.error e=>CX a H s E e s'
structure bZ(P:br)(w:cY)(K:aT)(mg:aJ->Option ak)(base:cF)(CX:Q1)(k:Nat)(f:ax)(fd:eO)(ps:List aJ)(sp:Sp):Prop where
 len:∀vs H Q E,sp vs H Q E->vs.length=ps.length
 run:∀(A:gI) (outer:List Env) (s:av) (H:Hp) (args:Args) (us:List ak) (vs:List V) (Q:VK) (E:XK),eH k A->GL P w K mg base A outer s H->Kj s fd args (ps.zip us)->cg vs us->sp vs H Q E ->
  nU (aV P w) A (.call (.ref f) args) (CR CX outer P w H s Q E) s
def bZ.mono{P:br}{K:aT}{i:aJ->Option ak}{f:ax}(F:bZ P w K i base CX j f I q sp)(h:j<=k):
  bZ P w K i base CX k f I q sp:=⟨F.len,λA a s H args c b Q E e=>F.run A a s H args c b Q E (e.mono h)⟩
def GL.make{P:br}{K:aT}{s:av}(e:GL P w K i base A a s H)(C:ax)(b:List ak)(c:List (aJ×ak)):
  GL P w K i base (A.under (.builtin "type.__call__" ⟨.ref C::b,c⟩)) a s H:=⟨by first|exact e.frames|(simpa [Around.under,Code.envs,Code.isFrame,pushEnvs] using e.frames),e.mod,e.bs,e.NU,e.wz,e.QS,e.eR,e.bare⟩
section
variable {X:Cx}{s:av}
def Inv.Pm(I:Inv X B U H s):GL X.prog X.w X.K X.mg X.base X.A X.stack s H:=
 ⟨I.ok.frames,I.ok.mod,I.bs,bQ I.ok.NU I.sz,I.stack,I.xT,I.eR,I.bare⟩
def Inv.after(I:Inv X B U H s)(h:CE X.stack X.prog X.w H s Q u s'):EP X B U Q u s':=by
 obtain⟨v,H',k,a,f,e,r,q⟩:=h;obtain⟨l,g,d,t,c⟩:=s';obtain rfl:c=s.os:=k;exact⟨v,H',I.call (h':=l) (g':=g) (d':=d) (t':=t) (ch:=[]) f e a (λb z=>absurd z Ž),r,q⟩
end
def G_(sp:Sp)(Ac:List V)(E:XK)(t:TA):TE:=λU H Q=>t U H λa O=>sp (a++Ac) O Q E
def AM(C:ax)(m:aJ)(sp:Sp)(Ac:List V)(E:XK)(N:TE)(t:TA):TE:=λU H Q=>N U H λx O=>∃a dx j,x=.ref a/\O a=Y (.ins C dx j)/\j.lookup m=M /\
 t U O λb d=>sp (x::(b++Ac)) d Q E
def U4(C:ax)(sp:Sp)(Ac:List V)(E:XK)(t:TA):TE:=λU H Q=>t U H λa O=>∀x dx,O x=M->O dx=M->dx≠x ->
 sp (.ref x::(a++Ac)) (cx (cx O dx (.Z x)) x (.ins C dx [])) (λv d=>v=.dg/\Q (.ref x) d) E
def Binds(K:aT)(I:eO)(q:List aJ)(ds:List ak):Prop:=
 ∀(s:av) (a:List ak),K.In s.heap->(a++ds).length=q.length->Kj s I ⟨a,[]⟩ (q.zip (a++ds))
def Binds.all{K:aT}(h:∀a:List ak,a.length=q.length->bindArgs I ⟨a,[]⟩=dP (q.zip a)):Binds K I q []:=λs a _ b=>by
 rw[bV]at b ⊢;exact .of_eq (h a b)
def qT(CX:Q1)(X:Cx)(E:XK):Prop:=∀(B:List (ax×Obj)) (U:St) (H:Hp) (s:av) (e:ak) (s':av),Inv X B U H s->CX X.stack H s E e s'->X.xe e s'
section
variable {X:Cx}{f:ax}{m:aJ}
def BX{s:av}{us:List ak}{vs:List V}(F:bZ X.prog X.w X.K X.mg X.base CX k f I q sp)(l:eH k X.A)(p:Binds X.K I q ds)(o:cg Ac ds)(g:qT CX X E)(a:Inv X B U H s)(r:cg vs us)(h:sp (vs++Ac) H Q E):bq (aV X.prog X.w) X.A (GP (.ref f) us) (EP X B U Q) X.xe s:=by
 have c:cg (vs++Ac) (us++ds):=r.append o;have m:(us++ds).length=q.length:=by rw[<- c.length];exact F.len _ _ _ _ h
 refine qX (pJ (F.run X.A X.stack s H ⟨us,[]⟩ (us++ds) (vs++Ac) Q E l a.Pm (p s us a.pM m) c h) λr s' b =>?_);cases r with
 |error e=>exact g B U H s e s' a b|ok t=>
  cases t with|ret u=>exact a.after b|_=>exact cD b
def qH(F:bZ X.prog X.w X.K X.mg X.base CX k f I q sp)(o:eH k X.A)(w:Gl X x)(u:X.mg x=Y (.ref f))(v:kT X.K (.ref f)=Z')(D:Binds X.K I q ds)(C:cg Ac ds)(m:qT CX X E)(K:PA X (e::es) t)(g:autoParam ((x==("__debug__" : aJ))=false) Ű)(A:autoParam (ao (e::es) X.env=(Z_,eval e X.env)::ao es X.env) Ų)(c:autoParam ((cn G (ao es X.env)).any (·.1)=false) Ų):
  PE X (.Call (.Name x p) (e::es) [] G) (G_ sp Ac E t):=by
 intro B s U H Q b h;refine eZ (qK b w u ?_ g);refine PySem.W.callWith_K (h₀:=X.base) b.ok.mod.Sl v (fw (K G B s U H _ b h) ?_) A c;rintro P R ⟨d,O,l,r,a⟩;refine⟨l.pM,?_⟩;exact BX F o D C m l r a
def LA(F:bZ X.prog X.w X.K X.mg X.base CX k f I q sp)(e:eH k X.A)(m:Gl X x)(g:X.mg x=Y (.ref f))(l:kT X.K (.ref f)=Z')(r:Binds X.K I q ds)(o:cg Ac ds)(c:qT CX X E)(b:autoParam ((x==("__debug__" : aJ))=false) Ű):PE X (.Call (.Name x p) [] [] G) (G_ sp Ac E Ah):=by
 intro B s U H Q a h;refine eZ (qK a m g ?_ b);exact PySem.W.callWith_K0 a.pM l (BX (us:=[]) F e r o c a .nil h)
def x6{pl:Sem Bool}(he:PE X o N)(c:ER X.K C)(A:GK X.K C m f)(F:bZ X.prog X.w X.K X.mg X.base CX k f I q sp)(hr:eH k X.A)(hb:Binds X.K I q ds)(hd:cg Ac ds)(hx:qT CX X E)(ha:PA X (e::es) t)(p:autoParam (ao (e::es) X.env=(Z_,eval e X.env)::ao es X.env) Ų)(v:autoParam ((cn G (ao es X.env)).any (·.1)=false) Ų) (ht:autoParam (eval (.Call (.Attribute o m z0) (e::es) [] G) X.env=(do
   let w <- eval o X.env
   lN z0.atName
   let (f,first) <- jr [w] (jm w m pl)
   nJ G f first (cn G (ao (e::es) X.env)) (gG G (dh [] X.env)))) Ų) :
  PE X (.Call (.Attribute o m z0) (e::es) [] G) (AM C m sp Ac E N t):=by
 intro B s U H Q b h;refine PySem.W.methodCall_KW (pl:=pl) (fw (he B s U H _ b h) ?_) ht;rintro u R ⟨x,O,K,S,a,dx,j,ex,ea,l,g⟩;subst ex;obtain rfl:u=aD a:=S;refine qN K ea c A l ?_;refine PySem.W.callWith_K (first:=[.ref a]) (h₀:=X.base) b.ok.mod.Sl A.kp (fw (ha G B R U O _ K g) ?_) p v;rintro P s2 ⟨i,d,D,r,T⟩;refine⟨D.pM,?_⟩;exact BX (us :=.ref a::P) (vs :=.ref a::i) F hr hb hd hx D (.cons rfl r) T
def vb{pl:Sem Bool}(D:PE X o N)(c:ER X.K C)(r:GK X.K C m f)(F:bZ X.prog X.w X.K X.mg X.base CX k f I q sp)(A:eH k X.A)(d:Binds X.K I q ds)(K:cg Ac ds)(v:qT CX X E) (w:autoParam (eval (.Call (.Attribute o m z0) [] [] G) X.env=(do
   let p <- eval o X.env
   lN z0.atName
   let (f,first) <- jr [p] (jm p m pl)
   nJ G f first (cn G (ao [] X.env)) (gG G (dh [] X.env)))) Ų) :
  PE X (.Call (.Attribute o m z0) [] [] G) (AM C m sp Ac E N Ah):=by
 intro B s U H Q b h;refine PySem.W.methodCall_KW (pl:=pl) (fw (D B s U H _ b h) ?_) w;rintro u R ⟨x,O,g,t,a,dx,j,ex,P,l,e⟩;subst ex;obtain rfl:u=aD a:=t;refine qN g P c r l ?_;exact PySem.W.callWith_K0 (first:=[.ref a]) g.pM r.kp (BX (us:=[.ref a]) (vs:=[.ref a]) F A d K v g (.cons rfl .nil) e)
structure Mk(K:aT)(C f:ax):Prop where
 makes:makesIn K C=true
 init:hI K (.ref C) "__init__" = some (some (.ref f))
 fn:PySem.W.isFn K (.ref f)=true
 kp:kT K (.ref C)=true
theorem Ld{s:av}{us:List ak}(i:Mk X.K C f)(F:bZ X.prog X.w X.K X.mg X.base CX k f I q sp)(w:eH (k+1) X.A)(K:Binds X.K I q ds)(D:cg Ac ds)(t:qT CX X E)(a:Inv X B U H s)(r:cg g us)(h:∀x dx,H x=M->H dx=M->dx≠x->sp (.ref x::(g++Ac)) (cx (cx H dx (.Z x)) x (.ins C dx [])) (λv d=>v=.dg/\Q (.ref x) d) E):
  bq (aV X.prog X.w) X.A (GP (.ref C) us) (EP X B U Q) X.xe s:=by
 have m:=h (s.heap.objs.size+1) s.heap.objs.size (a.eR.fresh (fA _)) (a.eR.fresh (aQ _)) (bI (js _));have c:=Inv.made (C:=C) a;have l:cg (V.ref (s.heap.objs.size+1)::(g++Ac)) (aD (s.heap.objs.size+1)::(us++ds)) :=.cons rfl (r.append D);have A:(aD (s.heap.objs.size+1)::us++ds).length=q.length:=by have e:=l.length;rw[F.len _ _ _ _ m]at e;exact e.symm
 refine qX (L6 (f:=f) a.pM i.makes i.init (beq_iff_eq.mp i.fn) (pJ (F.run _ X.stack _ _ ⟨aD (s.heap.objs.size+1)::us,[]⟩ (aD (s.heap.objs.size+1)::(us++ds)) _ _ E (w.make C us [])
  (c.Pm.make C us []) (K _ (aD (s.heap.objs.size+1)::us) c.pM A) l m) λr s' b =>?_))
 cases r with
 |error e=>exact t B U _ _ e s' c b|ok P=>
  cases P with
  |ret u=>obtain⟨v,H',S,o,R,p⟩:=c.after b;subst R;exact⟨o,⟨V.ref (s.heap.objs.size+1),H',S,rfl,p⟩⟩
  |_=>exact cD b
def B2(d:Mk X.K C f)(F:bZ X.prog X.w X.K X.mg X.base CX k f I q sp)(o:eH (k+1) X.A)(v:Gl X x)(u:X.mg x=Y (.ref C))(D:Binds X.K I q ds)(A:cg Ac ds)(m:qT CX X E)(K:PA X (e::es) t)(g:autoParam ((x==("__debug__" : aJ))=false) Ű)(w:autoParam (ao (e::es) X.env=(Z_,eval e X.env)::ao es X.env) Ų)(c:autoParam ((cn G (ao es X.env)).any (·.1)=false) Ų):
  PE X (.Call (.Name x p) (e::es) [] G) (U4 C sp Ac E t):=by
 intro B s U H Q b h;refine eZ (qK b v u ?_ g);refine PySem.W.callWith_K (h₀:=X.base) b.ok.mod.Sl d.kp (fw (K G B s U H _ b h) ?_) w c;rintro R S ⟨P,O,l,r,a⟩;refine⟨l.pM,?_⟩;exact Ld d F o D A m l r a
end
section
variable {X:Cx}{f:ax}{m:aJ}
end
structure bB(N P:List aJ)(sc:Scope):Prop where
 kind:sc.kind=.function
 co:sc.isCoroutine=false
 gen:sc.isGenerator=false
 nd:N.Nodup
 pre:N.take P.length=P
 par:∀x∈P,sc.names.lookup x=some .local\/sc.names.lookup x=some .cell
 R9:∀y∈sc.names,y.2 ≠ .free
theorem By:∀ {a:List (aJ×ak)}{m:aJ->Option ak},(∀v,(x,v)∉a)->bindL b a m x=m x
 |[],_,_=>rfl| (n,v)::r,m,h=>by
  unfold bindL;rw[By λw hw=>h w (ay _ hw)];split
  ·have:x≠n:=by rintro rfl;exact h v az
   simp[this]
  ·rfl
theorem BA:∀ {a:List (aJ×ak)}{m:aJ->Option ak},(∀v,(x,v)∉a)->bindC b a m x=m x
 |[],_,_=>rfl| (n,v)::r,m,h=>by
  unfold bindC;rw[BA λw hw=>h w (ay _ hw)];split
  ·rfl
  ·have:x≠n:=by rintro rfl;exact h v az
   simp[this]
theorem Bz{v:ak}:∀ {P:List aJ}{b:List ak}{i:Nat}{m:aJ->Option ak},P.Nodup->P[i]?=Y x->b[i]?=Y v->a x=Y .local ->
  bindL a (P.zip b) m x=Y v
 |[],_,_,_,_,h,_,_=>by simp at h
 |_::_,[],_,_,_,_,h,_=>by simp at h
 |p::P,w::b,0,m,c,J,z,e=>by simp at J z;subst J;subst z;show bindL a ((p,w)::P.zip b) m p=_;unfold bindL;rw[By λv f=>(qt.mp c).1 (vJ f).1,if_pos e];simp
 |p::P,w::b,i+1,m,c,J,z,e=>by show bindL a ((p,w)::P.zip b) m x=_;unfold bindL;exact Bz (i:=i) (qt.mp c).2 (by simpa using J) (by simpa using z) e
theorem BC{v:ak}:∀ {P:List aJ}{b:List ak}{i:Nat}{m:aJ->Option ak},P.Nodup->P[i]?=Y x->b[i]?=Y v->a x≠Y .local ->
  bindC a (P.zip b) m x=Y v
 |[],_,_,_,_,h,_,_=>by simp at h
 |_::_,[],_,_,_,_,h,_=>by simp at h
 |p::P,w::b,0,m,c,J,z,e=>by simp at J z;subst J;subst z;show bindC a ((p,w)::P.zip b) m p=_;unfold bindC;rw[BA λv f=>(qt.mp c).1 (vJ f).1,if_neg e];simp
 |p::P,w::b,i+1,m,c,J,z,e=>by show bindC a ((p,w)::P.zip b) m x=_;unfold bindC;exact BC (i:=i) (qt.mp c).2 (by simpa using J) (by simpa using z) e
noncomputable def start(N:List aJ)(a:List V):St:=a.map Y++bt (N.length-a.length) M
noncomputable def qS(CX:Q1)(P:br)(w:cY)(K:aT)(i:aJ->Option ak)(base:cF)(N:List aJ)(c:aJ)(a:Scope)(f:ax)(h:ak)(A:gI)(b:List Env)(s:av)(H:Hp)(E:XK):Cx where
 prog:=P
 w:=w
 K:=K
 mg:=i
 base:=base
 A:=A.deeper (qu c a s.heap.objs.size f h)
 N:=N
 s₀:=s
 H₀:=H
 env:=qu c a s.heap.objs.size f h
 outer:=b
 stack:=qu c a s.heap.objs.size f h::b
 ex:=[]
 calm:=Z'
 fn:=λ_=>Z'
 pn:=[]
 xe:=λe s'=>bq (aV P w) (A.deeper (qu c a s.heap.objs.size f h)) (leaving (qu c a s.heap.objs.size f h) e) (λ_ g=>CX b H s E e g) (λk g=>CX b H s E k g) s'
def zI{sc:Scope}{n:Nat}(h:sc.names.lookup x=Y .cell):∃c,(fm n sc.names []).lookup x=Y c:=by
 have q:=PySem.W.cellsFrom_some sc.names n [] (.inl h);exact Option.isSome_iff_exists.mp q
def JB{P:br}{K:aT}{f:ax}{X:ak}{s:av}{F:List V}(S:bB N q o)(hd:A.handled=M)(D:GL P w K i base A t s H)(hl:F.length=q.length)(r:cg F us)(x:InCallC s s.heap.objs.size (bindL (qu C o s.heap.objs.size f X).kindOf (q.zip us) λ_=>M) (fm (s.heap.objs.size+1) o.names []) (bindC (qu C o s.heap.objs.size f X).kindOf (q.zip us) λ_=>M) s1):
  Inv (qS CX P w K i base N C o f X A t s H E) [] (start N F) H s1:=by
 have hpl:q.length<=N.length:=by have:=congrArg Uc S.pre;rw[lG]at this;omega
 obtain⟨J,tk,rfl,hk⟩:=x.done;have d:∀b:ax,b∉(qS CX P w K i base N C o f X A t s H E).ex:=λb g=>absurd (show b∈([]:List ax) from g) Ž
 refine⟨⟨D.mod,S.kind,rfl,rfl,aQ _,λy g c J z =>?_,λy Q =>?_,λy c _ h =>?_,λ_=>hd,Around.frames_deeper D.frames,.inr ⟨rfl,rfl⟩,λb g=>absurd g (d b),D.bs,D.NU,λb _ _=>d b,λb g=>absurd g (d b),D.wz,D.QS⟩,
  rfl,D.bare,Un.kept hk,⟨_,x.toInCall.ns,λl y v J z h3 =>?_⟩,λy c h=>⟨_,x.cell y c h⟩,D.eR.fresh (aQ _),λy c h =>?_,λp T=>absurd (show p∈([]:List (ax×Obj)) from T) Ž,D.eR.kept hk,?_⟩
 ·exact name_of_addr x.apart (PySem.mem_of_lookup J) (PySem.mem_of_lookup z)
 ·have Q:o.names.lookup y=Y .cell\/o.names.lookup y=Y .free:=Q;rcases Q with Q|Q
  ·exact zI Q
  ·exact absurd rfl (S.R9 _ (PySem.mem_of_lookup Q))
 ·exact fT (x.above y c (PySem.mem_of_lookup h))
 ·have L:l<F.length:=by
   unfold start at z;by_cases L:l<F.length
   ·exact L
   ·rw[kW (by simpa using L)]at z;rw[N3]at z;split at z<;>cases z
  have ha:F[l]?=Y v:=by
   unfold start at z;rw[cC (by simpa using L),aY]at z;rcases e:F[l]? with _|a
   ·rw[e]at z;cases z
   rw[e]at z;cases z;rfl
  obtain⟨u,hu,rv⟩:=r.get ha;have T:q[l]?=Y y:=by rw[<- S.pre,List.getElem?_take_of_lt (by omega)];exact J
  have R:q.Nodup:=by rw[<- S.pre];exact S.nd.sublist (List.take_sublist _ _)
  refine⟨u,rv,?_⟩;rcases S.par y (List.mem_of_getElem? T) with k|k
  ·exact .inl ⟨k,Bz R T hu k⟩
  ·obtain⟨c,e⟩:=zI (n:=s.heap.objs.size+1) k;refine .inr ⟨.inl k,c,e,?_⟩;have m:=x.cell y c e;rw[BC R T hu (by show o.names.lookup y≠_;rw[k];decide)]at m;exact m
 ·exact D.eR.fresh (fT (x.above y c (PySem.mem_of_lookup h)))
 ·unfold start;show _=N.length;rw[aS,aw,List.length_replicate];omega
theorem QT{P:br}{K:aT}{f:ax}{name:aJ}{m:Arguments}{kV ct oc:ak}(lk:K.lookup f=Y ⟨oc,od,.func (fnOf name h m p c dV kV Qg pm an l ct),W7⟩)(Xf:codeIn K l h=Z')(S:bB N q c)(T:∀D H Q E,sp D H Q E->D.length=q.length) (d:∀(A:gI) (g:List Env) (s:av) (H:Hp) (D:List V) (Q:VK) (E:XK),eH k (A.deeper (qu h c s.heap.objs.size f l))->sp D H Q E ->
   ∃t,oV (qS CX P w K i base N h c f l A g s H E) p t/\t { nx:=λ_ H'=>Q .dg H',rt:=Q } (start N D) H) :
  bZ P w K i base CX (k+1) f (fnOf name h m p c dV kV Qg pm an l ct) q sp:=by
 refine⟨T,λA g s H args us D Q E hr e0 hb r X =>?_⟩;have hl:=T _ _ _ _ X;have KX:K.In s.heap:=e0.mod.Sl.keeps λb o e=>(e0.bs b o e).1
 have lim:s.heap.NoLimit:=e0.mod.nolimit.keeps λb o e=>(e0.bs b o e).1
 have F:∀y∈q.zip us,c.names.lookup y.1=Y .local\/(c.names.lookup y.1=Y .cell/\((fm (s.heap.objs.size+1) c.names []).lookup y.1).isSome=Z'):=λ⟨n,v⟩ hy=>by
  rcases S.par n (vJ hy).1 with a|a
  ·exact .inl a
  ·exact .inr ⟨a,PySem.W.cellsFrom_some _ _ _ (.inl a)⟩
 refine codeAny_call_function hr.depth (KX _ _ lk) rfl S.co S.gen rfl (PySem.W.codeRec_of KX Xf) (hb _ _ _ _ ?_);refine wpAny_newFunctionEnv_cells S.kind F λenv he s1 x =>?_
 subst he;refine⟨lim.keeps x.toInCall.keep,codeAny_func ?_⟩;obtain⟨t,ht,hq⟩:=d A g s H D Q E (hr.deeper _) X;have I:Inv (qS CX P w K i base N h c f l A g s H E) [] (start N D) H s1:=JB S hr.hd e0 hl r x;refine dJ (ht [] s1 (start N D) H _ I hq) (λfl s' R =>?_) λe s' R=>R
 have lQ:∀ {C:St}{H':Hp}{v:V}{u:ak},Inv (qS CX P w K i base N h c f l A g s H E) [] C H' s'->RelV v u->Q v H'->CE g P w H s Q u s':=
  fun {C H' v u} J rv a=>⟨v,H',J.os,J.bare,J.base,J.eR,rv,a⟩
 cases fl with
 |ret u=>obtain⟨v,C,H',J,rv,a⟩:=R;exact lQ J rv a
 |next=>obtain⟨C,H',J,a⟩:=R;exact lQ (v:=V.dg) (u:=aK) J rfl a
 |_=>obtain⟨_,_,_,a⟩:=R;exact cD a
section
variable {X:Cx}{id:String}
def Uo(r:List V->Hp->VK->Prop)(t:TA):TE:=λU H Q=>t U H λa O=>r a O Q
def qc(A:lS X (.builtin id) r)(v:Gl X x)(u:X.mg x=M)(m:fJ x=Y (.builtin id))(C:PA X (e::es) t)(o:autoParam (x ≠ "__name__") Ű)(b:autoParam ((x==("__debug__" : aJ))=false) Ű)(w:autoParam (ao (e::es) X.env=(Z_,eval e X.env)::ao es X.env) Ų)(a:autoParam ((cn G (ao es X.env)).any (·.1)=false) Ų):PE X (.Call (.Name x p) (e::es) [] G) (Uo r t):=by
 intro B s U H Q I h;refine eZ (qL I v u m ?_ o b);exact oX (fw (C G B s U H _ I h) (by rintro f g ⟨c,O,D,k,l⟩;exact A B g U O c f Q D k l)) w a
def Jg(A:lS X (.type T) r)(v:Gl X x)(u:X.mg x=M)(m:fJ x=Y (.type T))(C:PA X (e::es) t)(o:autoParam (x ≠ "__name__") Ű)(b:autoParam ((x==("__debug__" : aJ))=false) Ű)(w:autoParam (ao (e::es) X.env=(Z_,eval e X.env)::ao es X.env) Ų)(a:autoParam ((cn G (ao es X.env)).any (·.1)=false) Ų):PE X (.Call (.Name x p) (e::es) [] G) (Uo r t):=by
 intro B s U H Q I h;refine eZ (qL I v u m ?_ o b);exact gX (fw (C G B s U H _ I h) (by rintro f g ⟨c,O,D,k,l⟩;exact A B g U O c f Q D k l)) w a
end
end L2
namespace HT
open PySem PyProof.Rows
section
open PySem.SeqAt
open PySem.AutoSeq1 (wpAny_loadPart')
open PySem.MeetsSeq PySem.MeetsSeq2 PySem.MeetsSeq3
end
section
variable {s:av}
noncomputable def AW(n d:Nat):Option Int->Nat
 |none=>d|some v=>if v<0 then (v+(n:Int)).toNat else min v.toNat n
end
end HT
namespace L2
open PySem PySem.Spec PyProof.Rows
abbrev TO:=St->Hp->(Option Int->Hp->Prop)->Prop
def PO(X:Cx)(e:Option Expr)(t:TO):Prop:=
 ∀(B:List (ax×Obj)) (s:av) (U:St) (H:Hp) (Q:Option Int->Hp->Prop),Inv X B U H s->t U H Q ->
  bq (aV X.prog X.w) X.A (evalPart e X.env) (λu s'=>∃o H',Inv X B U H' s'/\IsPart u o/\Q o H') X.xe s
def Od:TO:=λ_ H Q=>Q M H
def UZ(t:TE):TO:=λU H Q=>t U H λx O=>∃i,x=.int i/\Q (Y i) O
section
variable {X:Cx}
def OK:PO X M Od:=by
 intro B s U H Q I h;rw[evalPart_none];exact aE ⟨M,H,I,.none,h⟩
def OJ(h:PE X e te):PO X (Y e) (UZ te):=by
 intro B s U H Q I hw;rw[evalPart_some];refine fw (h B s U H _ I hw) ?_;rintro u f ⟨x,O,c,a,b⟩;obtain⟨i,rfl,q⟩:=b;obtain⟨t,rfl⟩:=a;exact⟨Y i,O,c,.int i t,q⟩
def ZF(X:Cx)(r:V->Option Int->Option Int->Hp->VK->Prop):Prop:=
 ∀(B:List (ax×Obj)) (s:av) (U:St) (H:Hp) (x:V) (v b a:ak) (n L:Option Int) (c:ax) (Q:VK),Inv X B U H s->RelV x v->s.heap.IsSliceOf c b a .none->IsPart b n->IsPart a L->r x n L H Q ->
  ∃T id,typeLookup (.type T) "__getitem__" = dP (Y (.builtin id))/\s.TypeIs v T/\bq (aV X.prog X.w) X.A (Kb v (.ref c)) (EP X B U Q) X.xe s
def tSl(r:V->Option Int->Option Int->Hp->VK->Prop)(te:TE)(tl th:TO):TE:=λU H Q=>te U H λx O=>tl U O λl d=>th U d λu a=>r x l u a Q
def DV(F:ZF X r)(P:PE X e te)(K:PO X n tl)(D:PO X L th):PE X (.Subscript e (.Slice n L M p2) G) (tSl r te tl th):=by
 intro B s U H Q I h;refine Subscript_ (fw (P B s U H _ I h) ?_);rintro v m ⟨x,O,I1,o,w⟩;refine wpAny_Slice (fw (K B m U O _ I1 w) ?_);rintro f k ⟨l,d,I2,C,t⟩;refine fw (D B k U d _ I2 t) ?_;rintro c a ⟨u,g,I3,A,p⟩;rw[evalPart_none];refine aE ?_;have S:Inv X B U g { a with heap:=a.heap.push { cls :=.type "slice",data :=.fields #[f,c,.none] } }:=I3.kept (t':=a.toks) λb ob q=>aj _ q
 obtain⟨T,id,R,E,i⟩:=F B { a with heap:=a.heap.push { cls :=.type "slice",data :=.fields #[f,c,.none] } } U g x v f c l u a.heap.objs.size Q S o (Heap.IsSliceOf.new ..) C A p;show bq (aV X.prog X.w) X.A (subscriptTail e (.Slice n L M p2) v (.ref a.heap.objs.size)) (EP X B U Q) X.xe { a with heap:=a.heap.push { cls :=.type "slice",data :=.fields #[f,c,.none] } };exact tail_any (ops:=[.ref a.heap.objs.size,v]) E R i (by with_unfolding_all rfl)
def Ez(xs:List V)(n L:Option Int):List V:=(xs.drop (HT.AW xs.length 0 n)).take (HT.AW xs.length xs.length L-HT.AW xs.length 0 n)
def Ey(xs:List V)(n L:Option Int):(Ez xs n L).length<=xs.length:=by
 unfold Ez;rw[lG,EV];omega
end
noncomputable def Cc(n:Nat)(i:Int):Option Nat:=if 0<=i then (if i<n then Y i.toNat else M) else if -(n:Int)<=i then Y (i+n).toNat else M
def oU{a:Type}(xs:List a)(i:Int):Option a:=(Cc xs.length i).bind λj=>xs[j]?
def Cb{n:Nat}(h:Cc n i=Y j):seqIndex? i n=Y j/\j<n /\ -(n:Int)<=i/\i<n:=by
 unfold Cc at h;by_cases a:0<=i
 ·rw[if_pos a]at h;by_cases J:i<n
  ·rw[if_pos J]at h;have e:i.toNat=j:=bM h;exact⟨by rw[seqIndex_of a J,e],ž,ž,J⟩
  ·rw[if_neg J]at h;cases h
 ·rw[if_neg a]at h;by_cases J : -(n:Int)<=i
  ·rw[if_pos J]at h;have e:(i+n).toNat=j:=bM h;exact⟨by rw[seqIndex_neg (by omega) J,e],ž,J,ž⟩
  ·rw[if_neg J]at h;cases h
def CN{v:a}(h:oU xs i=Y v):∃j,seqIndex? i xs.length=Y j/\xs[j]?=Y v/\j<xs.length /\ -(xs.length:Int)<=i/\i<xs.length:=by
 unfold oU at h;obtain⟨j,e,h⟩:=aa.1 h;obtain⟨J,z,c,b⟩:=Cb e;exact⟨j,J,h,z,c,b⟩
def jl{xs:List a}{j:Nat}{v:a}(h:xs[j]?=Y v):oU xs (j:Int)=Y v:=by
 have b:j<xs.length:=(aq.mp h).1;have e:Cc xs.length (j:Int)=Y j:=by unfold Cc;rw[if_pos (by omega),if_pos (by omega)];simp
 unfold oU;rw[e];exact h
def CT(b:Expr):Prop:=∀o i,NY b Z_ o i=operate [o,i] (Kb o i)
def Iv(X:Cx)(r:R2):Prop:=
 ∀(value a:Expr) (B:List (ax×Obj)) (s:av) (U:St) (H:Hp) (x y:V) (v u:ak) (Q:VK),Inv X B U H s->RelV x v->RelV y u->r x y H Q ->
  NY a Z_ v u=operate [v,u] (Kb v u)->bq (aV X.prog X.w) X.A (subscriptTail value a v u) (EP X B U Q) X.xe s
def MtR(X:Cx)(id:String)(r:V->List V->Hp->VK->Prop):Prop:=
 ∀(B:List (ax×Obj)) (s:av) (U:St) (H:Hp) (x:V) (xs:List V) (v:ak) (a:List ak) (Q:VK),Inv X B U H s->RelV x v->cg xs a->r x xs H Q ->
  bq (aV X.prog X.w) X.A (GP (.builtin id) (v::a)) (EP X B U Q) X.xe s
section
variable {X:Cx}
def Iv.or(h:Iv X r)(h':Iv X e):Iv X (λx y H Q=>r x y H Q\/e x y H Q):=by
 intro value a B s U H x y v u Q I c b q f;rcases q with q|q
 ·exact h value a B s U H x y v u Q I c b q f
 ·exact h' value a B s U H x y v u Q I c b q f
def ri(l:Iv X r)(o:PE X a N)(m:PE X b y)(k:CT b):PE X (.Subscript a b G) (Ul r N y):=by
 intro B s U H Q I h;exact Subscript_ (TF o m I h λv u e x c d p g f q=>l a b B e U d x c v u Q p g f q (k _ _))
def Vp(K:aT):R2:=λx y H Q=>∃p xs i v,x=.ref p/\y=.int i/\m_ K H p xs/\oU xs i=Y v/\Q v H
def Vn(K:aT):R2:=λx y H Q=>∃p xs i v,x=.ref p/\y=.int i/\NW K H p xs/\oU xs i=Y v/\Q v H
def Vo:R2:=λx y H Q=>∃z i c,x=.str z/\y=.int i/\z.length<=bc/\oU z.cps.toList i=Y c/\Q (.str ⟨#[c]⟩) H
def vl:Iv X (Vp X.K):=by
 intro value b B s U H x y v u Q I A o h k;obtain⟨p,xs,i,a,rfl,rfl,C,E,q⟩:=h;cases A;obtain⟨t,rfl⟩:=o;obtain⟨f,r,e,d⟩:=I.list C;obtain⟨j,J,z,R,K,F⟩:=CN E;obtain⟨w,m,c⟩:=r.get z;have D:=r.length;have P:=uA;have lQ:EP X B U Q w s:=⟨a,H,I,c,q⟩;by_cases l:0<=i
 ·have g:i.toNat=j:=by rw[seqIndex_of l F]at J;exact bM J
  exact item_listR e.isList l ž (by rw[g];simpa using m) lQ k
 ·have g:(i+(f.toArray.size:Int)).toNat=j:=by rw[seqIndex_neg (by omega) K]at J;rw[bb,<- D];exact bM J
  exact subscriptTail_builtinR (x:=w) e.isList.typeIs slot_list_getitem.lookup
   (wpAny_getItem_list_neg (Q:=λr s'=>r=w/\EP X B U Q r s') e.isList ž (by rw[bb]<;>omega) ž (by rw[g];simpa using m) ⟨rfl,lQ⟩) k
def sx:Iv X (Vn X.K):=by
 intro value b B s U H x y v u Q I g f h l;obtain⟨p,xs,i,a,rfl,rfl,m,A,q⟩:=h;cases g;obtain⟨t,rfl⟩:=f;obtain⟨k,r,e,D⟩:=I.tuple m;obtain⟨j,J,z,d,K,F⟩:=CN A;obtain⟨w,C,c⟩:=r.get z;have o:=r.length;have E:=uA;have lQ:EP X B U Q w s:=⟨a,H,I,c,q⟩;exact subscriptTail_builtinR (x:=w) e.typeIs slot_tuple_getitem.lookup
  (getItem_tuple (j:=j) (Q:=λr s'=>r=w/\EP X B U Q r s') e ž ž (by rw[bb,<- o];exact J) (by simpa using C) ⟨rfl,lQ⟩) l
def Su:Iv X Vo:=by
 intro value b B s U H x y v u Q I f e h g;obtain⟨a,i,c,rfl,rfl,A,l,q⟩:=h;obtain⟨t,rfl⟩:=f;obtain⟨w,rfl⟩:=e;obtain⟨j,J,z,D,o,m⟩:=CN l;have k:a.cps.toList.length=a.length:=by simp[Str.length]
 rw[k]at J o m;have C:=uA;exact tail_any (typeIs_str s a t) slot_str_getitem.lookup (getItem_str (c:=c) (by have r:decide (i < -(2 ^ 63:Int))=false:=decide_eq_false ž;have p:decide (i ≥ 2 ^ 63)=false:=decide_eq_false ž;rw[r,p,Bool.or_false]) (by rw[J];simpa using z) ⟨.str ⟨#[c]⟩,H,I.tok _,⟨_,rfl⟩,q⟩) g
def rIx(K:aT):R2:=λx y H Q=>Vp K x y H Q\/Vn K x y H Q\/Vo x y H Q
def Sv:Iv X (rIx X.K):=vl.or (sx.or Su)
def F7(a:List ak)(n j:Nat)(u:ak):Obj.mapSeq (·.setIfInBounds j u) { cls :=.type "list",data :=.seq a.toArray n }={ cls :=.type "list",data :=.seq (a.set j u).toArray n }:=by
 simp[Obj.mapSeq]
def Inv.lst{s:av}{p:ax}{xs:List V}(I:Inv X B U H s)(h:H p=Y (.lst xs)):
  ∃(a:List ak) (n:Nat),cg xs a/\s.heap.get? p=Y { cls :=.type "list",data :=.seq a.toArray n }/\xs.length<=bc:=by
 obtain⟨z,a,n,r,e⟩:=I.eR p _ h;exact⟨a,n,r,e,z⟩
def Inv.Se{B:List (ax×Obj)}{U:St}{H:Hp}{s:av}{p:ax}{xs ys:List V}{c a:List ak}{n g:Nat}{f:Obj->Obj}(I:Inv X B U H s)(h:H p=Y (.lst xs))(m:s.heap.get? p=Y { cls :=.type "list",data :=.seq c.toArray n })(k:f { cls :=.type "list",data :=.seq c.toArray n }={ cls :=.type "list",data :=.seq a.toArray g })(r:cg ys a)(l:ys.length<=bc)(t:Nat):
  Inv X B U (cx H p (.lst ys)) { s with heap:=s.heap.update p f,toks:=t }:=by
 have e:(s.heap.update p f).get? p=Y { cls :=.type "list",data :=.seq a.toArray g }:=by rw[cU f m (by rw[k]<;>rfl),k]
 refine I.write (x:=p) (e:=p) (by rw[h];trivial) (.inl rfl) (λb u o q=>(bG _ _ (bF o)).trans q) ⟨_,e⟩ ?_;exact⟨l,a,g,r,e⟩
def QG:V->V->V->Hp->(Hp->Prop)->Prop:=λo i v H Q=>∃p xs k j,o=.ref p/\i=.int k/\H p=Y (.lst xs)/\Cc xs.length k=Y j/\Q (cx H p (.lst (xs.set j v)))
def Nv:WC X QG:=by
 intro B s U H o i v F K u Q I A C x h;obtain⟨p,xs,k,j,rfl,rfl,f,E,q⟩:=h;cases A;obtain⟨t,rfl⟩:=C;obtain⟨a,n,r,b,D⟩:=I.lst f;obtain⟨J,z,l,g⟩:=Cb E;have c:=r.length;have d:=uA;have w:Inv X B U (cx H p (.lst (xs.set j v))) { s with heap:=s.heap.update p (Obj.mapSeq (·.setIfInBounds j u)) }:=
  I.Se f b (F7 a n j u) (r.set x j) (by rw[GU];exact D) s.toks
 by_cases m:0<=k
 ·have e:k.toNat=j:=by rw[seqIndex_of m g]at J;exact bM J
  exact PySem.W.ki_setAt b m ž (by rw[bb,<- c];exact g) (by rw[e];exact⟨_,w,q⟩)
 ·have e:(k+(a.toArray.size:Int)).toNat=j:=by rw[seqIndex_neg (by omega) l]at J;rw[bb,<- c];exact bM J
  exact PySem.W.ki_setBack b ž (by rw[bb,<- c];exact l) ž (by rw[e];exact⟨_,w,q⟩)
def BO(n L:Option Int)(a:Nat):(rN n L M a).1=((HT.AW a 0 n:Nat):Int)/\(rN n L M a).2.1=((HT.AW a a L:Nat):Int)/\(rN n L M a).2.2=1:=by
 refine⟨?_,?_,rfl⟩
 ·cases n with
  |none=>simp[rN,HT.AW]|some i=>
   simp only[rN,HT.AW,Option.getD_none,show (1:Int) > 0 by decide,if_true];by_cases h:i<0
   ·simp only[h,if_true]<;>omega
   ·simp only[h,if_false]<;>omega
 ·cases L with
  |none=>simp[rN,HT.AW]|some i=>
   simp only[rN,HT.AW,Option.getD_none,show (1:Int) > 0 by decide,if_true];by_cases h:i<0
   ·simp only[h,if_true]<;>omega
   ·simp only[h,if_false]<;>omega
def Aj(a:List ak)(n L:Option Int):slicePick a.toArray n L M=((a.drop (HT.AW a.length 0 n)).take (HT.AW a.length a.length L-HT.AW a.length 0 n)).toArray:=by
 obtain⟨J,z,b⟩:=BO n L a.toArray.size;unfold slicePick;rw[J,z,b];simp only[sliceRange_one,pick_run,bb]<;>rfl
def Yd(K:aT):V->Option Int->Option Int->Hp->VK->Prop:=λx n L H Q=>∃a xs,x=.ref a/\m_ K H a xs/\∀p,H p=M->Q (.ref p) (cx H p (.lst (Ez xs n L)))
def Oj:ZF X (Yd X.K):=by
 intro B s U H x v u t n L w Q I f p k g h;obtain⟨a,xs,rfl,o,q⟩:=h;cases f;obtain⟨l,r,e,m⟩:=I.list o;have c:=r.length;refine⟨"list",_,slot_list_getitem.lookup,e.isList.typeIs,?_⟩;refine wpAny_getItem_list_slice e.isList p k g .none Ž ?_ (by rw[bb]<;>omega);rw[Aj,<- c];refine⟨.ref s.heap.objs.size,_,I.laid (t':=s.toks) (o :=.lst (Ez xs n L)) (λb A q=>aj _ q) (aQ _) ?_,rfl,q _ (I.eR.fresh (aQ _))⟩;exact⟨bQ (Ey xs n L) m,_,0,(r.drop (HT.AW xs.length 0 n)).take (HT.AW xs.length xs.length L-HT.AW xs.length 0 n),bz _ rfl⟩
noncomputable def rA:V->Bool
 |.dg=>Z'|.bl _=>Z'|.int _=>Z'|.str _=>Z'|_=>Z_
noncomputable def QV:V->V->Bool
 |.dg,.dg=>Z'|.bl a,.bl b=>a==b|.bl a,.int b=>(if a then 1 else 0)==b
 |.int a,.bl b=>a==(if b then 1 else 0)
 |.int a,.int b=>a==b|.str a,.str b=>a==b|_,_=>Z_
def S8{A:gI}{s:av}{y x:V}{u v:ak}(f:RelV y u)(c:RelV x v)(h:rA y=Z')(g:rA x=Z'):SeqAt.EqAt A s u v (QV y x):=by
 cases y with
 |dg=>
  cases f;cases x with
  |dg=>cases c;exact SeqAt.EqAt.same _|bl b=>cases c;exact SeqAt.EqAt.none_bool b|int b=>obtain⟨t,rfl⟩:=c;exact SeqAt.EqAt.none_int b t
  |str b=>obtain⟨t,rfl⟩:=c;exact SeqAt.EqAt.none_str b t
  |_=>exact absurd (show Z_=Z' from g) bJ
 |bl a=>
  cases f;cases x with
  |dg=>cases c;exact SeqAt.EqAt.bool_none a|bl b=>cases c;exact SeqAt.EqAt.bool_bool a b|int b=>obtain⟨t,rfl⟩:=c;exact SeqAt.EqAt.bool_int a b t
  |str b=>obtain⟨t,rfl⟩:=c;exact SeqAt.EqAt.bool_str a b t
  |_=>exact absurd (show Z_=Z' from g) bJ
 |int a=>
  obtain⟨e,rfl⟩:=f;cases x with
  |dg=>cases c;exact SeqAt.EqAt.int_none a e|bl b=>cases c;exact SeqAt.EqAt.int_bool a e b|int b=>obtain⟨t,rfl⟩:=c;exact SeqAt.EqAt.int_int a e b t
  |str b=>obtain⟨t,rfl⟩:=c;exact SeqAt.EqAt.int_str a e b t
  |_=>exact absurd (show Z_=Z' from g) bJ
 |str a=>
  obtain⟨e,rfl⟩:=f;cases x with
  |dg=>cases c;exact SeqAt.EqAt.str_none a e|bl b=>cases c;exact SeqAt.EqAt.str_bool a e b|int b=>obtain⟨t,rfl⟩:=c;exact SeqAt.EqAt.str_int a e b t
  |str b=>obtain⟨t,rfl⟩:=c;exact SeqAt.EqAt.str_str a e b t
  |_=>exact absurd (show Z_=Z' from g) bJ
 |_=>exact absurd (show Z_=Z' from h) bJ
def Gp(x:V)(u:ak):Bool:=match u with
 |.none=>QV .dg x|.bool b=>QV (.bl b) x|.int i _=>QV (.int i) x|.str z _=>QV (.str z) x|_=>Z_
def ME{x y:V}{u:ak}(r:RelV y u)(f:rA y=Z'):Gp x u=QV y x:=by
 cases y with
 |dg=>cases r;rfl|bl b=>cases r;rfl|int i=>obtain⟨t,rfl⟩:=r;rfl
 |str z=>obtain⟨t,rfl⟩:=r;rfl
 |_=>exact absurd (show Z_=Z' from f) bJ
def ym{x:V}{xs:List V}{a:List ak}(h:cg xs a)(f:xs.all rA=Z'):a.any (Gp x)=xs.any λy=>QV y x:=by
 induction h with|nil=>rfl|cons r t i=>rw[pz,aZ]at f;rw[px,px,ME r f.1,i f.2]
def vg{s:av}{v:ak}(c:RelV x v)(e:rA x=Z'){xs:List V}{b:List ak}(h:cg xs b)(f:xs.all rA=Z')(g)(a:g∈b):SeqAt.EqAt A s g v (Gp x g):=by
 induction h with
 |nil=>cases a|cons r t i=>
  rw[pz,aZ]at f;rcases aW.mp a with rfl|a
  ·rw[ME r f.1];exact S8 r c f.1 e
  ·exact i f.2 a
def QO(x:V)(xs:List V):Bool:=xs.any λy=>QV y x
def Yf(K:aT)(a:Bool):R2:=λx y H Q=>∃p xs,y=.ref p/\(m_ K H p xs\/NW K H p xs)/\rA x=Z'/\xs.all rA=Z'/\Q (.bl (if a then !QO x xs else QO x xs)) H
def Jk:oW X (gr .In) (Yf X.K Z_):=by
 intro B s U H x y v u Q I e g h;obtain⟨p,xs,rfl,b,f,j,q⟩:=h;cases g;rcases b with b|b
 ·obtain⟨a,r,c,k⟩:=I.list b;refine SeqAt.in_listAt (Gp x) c.isList (λw hw=>vg e f r j w (by simpa using hw)) ⟨.bl _,H,I,rfl,?_⟩;rw[show a.toArray.any (Gp x)=a.any (Gp x) by simp,ym r j];exact q
 ·obtain⟨a,r,c,k⟩:=I.tuple b;refine SeqAt.in_tupleAt (Gp x) c (λw hw=>vg e f r j w (by simpa using hw)) ⟨.bl _,H,I,rfl,?_⟩;rw[show a.toArray.any (Gp x)=a.any (Gp x) by simp,ym r j];exact q
def B3:oW X (gr .NotIn) (Yf X.K Z'):=by
 intro B s U H x y v u Q I e g h;obtain⟨p,xs,rfl,b,f,j,q⟩:=h;cases g;rcases b with b|b
 ·obtain⟨a,r,c,k⟩:=I.list b;refine SeqAt.notIn_listAt (Gp x) c.isList (λw hw=>vg e f r j w (by simpa using hw)) ⟨.bl _,H,I,rfl,?_⟩;rw[show a.toArray.any (Gp x)=a.any (Gp x) by simp,ym r j];exact q
 ·obtain⟨a,r,c,k⟩:=I.tuple b;refine SeqAt.notIn_tupleAt (Gp x) c (λw hw=>vg e f r j w (by simpa using hw)) ⟨.bl _,H,I,rfl,?_⟩;rw[show a.toArray.any (Gp x)=a.any (Gp x) by simp,ym r j];exact q
def nE:lS X (.builtin "len") (λxs H Q=>∃p ys,xs=[.ref p]/\(m_ X.K H p ys\/NW X.K H p ys)/\Q (.int ys.length) H):=by
 intro B s U H xs l Q I r h;obtain⟨p,ys,rfl,b,q⟩:=h;obtain⟨u,rfl,g⟩:=vals1 r;cases g;have m:=uA;rcases b with b|b
 ·obtain⟨f,c,e,k⟩:=I.list b;have a:=c.length;exact Calls.call_len_list e.isList (by simp only[bb]<;>omega) ⟨.int ys.length,H,I.tok _,⟨s.toks+1,by rw[bb,a]⟩,q⟩
 ·obtain⟨f,c,e,k⟩:=I.tuple b;have a:=c.length;exact len_tuple e (by simp only[bb]<;>omega) ⟨.int ys.length,H,I.tok _,⟨s.toks+1,by rw[bb,a]⟩,q⟩
def CH:lS X (.builtin "len") (λxs H Q=>∃z,xs=[.str z]/\z.length<=bc/\Q (.int z.length) H):=by
 intro B s U H xs a Q I r h;obtain⟨z,rfl,b,q⟩:=h;obtain⟨u,rfl,t,rfl⟩:=vals1 r;have c:=uA;exact len_str ž ⟨.int z.length,H,I.tok _,⟨_,rfl⟩,q⟩
def lS.or{f:ak}(h:lS X f r)(h':lS X f c):lS X f (λxs H Q=>r xs H Q\/c xs H Q):=by
 intro B s U H xs a Q I b q;rcases q with q|q
 ·exact h B s U H xs a Q I b q
 ·exact h' B s U H xs a Q I b q
def CG:lS X (.type "list") (λxs H Q=>∃p ys,xs=[.ref p]/\(m_ X.K H p ys\/NW X.K H p ys)/\∀l,H l=M->Q (.ref l) (cx H l (.lst ys))):=by
 intro B s U H xs D Q I r h;obtain⟨p,ys,rfl,m,q⟩:=h;obtain⟨u,rfl,C⟩:=vals1 r;cases C;have lQ:∀(a:List ak),cg ys a->ys.length<=bc->∀(h':cF) (f:Nat),(∀b o',s.heap.get? b=Y o'->h'.get? b=Y o') ->
   h'.get? s.heap.objs.size=Y { cls :=.type "list",dict:=M,data :=.seq a.toArray f,slots :=#[] }->EP X B U Q (.ref s.heap.objs.size) { s with heap:=h' }:=λa c k h' f g e=>
  ⟨.ref s.heap.objs.size,_,I.laid (t':=s.toks) g (aQ _) (show e_ X.prog X.w _ h' _ (.lst ys) from⟨k,a,f,c,e⟩),rfl,q _ (I.eR.fresh (aQ _))⟩
 rcases m with m|m
 ·obtain⟨a,c,v,k⟩:=I.list m;have t:=c.length;obtain⟨o,w,A,n,x⟩:=v.isList;exact call_list_seq p (.inl rfl) w A x (λh' f g e=>lQ a c k h' f g e) (by simp only[bb]<;>omega)
 ·obtain⟨a,c,v,k⟩:=I.tuple m;have t:=c.length;obtain⟨o,w,A,n,x⟩:=v;exact call_list_seq p (.inr rfl) w A x (λh' f g e=>lQ a c k h' f g e) (by simp only[bb]<;>omega)
def XS(K:aT)(T:String)(x:V)(H:Hp):Prop:=match x with
 |.str _=>T = "str"|.int _=>T = "int"| .ref p=>(T = "list" /\ ∃xs,m_ K H p xs)\/(T = "tuple" /\ ∃o,K.lookup p=Y o/\o.cls=.type "tuple" /\o.dict=M) \/
   (T = "dict" /\((∃a,H p=Y (.dK a))\/∃a,H p=Y (.dT a)))\/(T = "set" /\ ∃S n,H p=Y (.set S n))
 |_=>False
theorem KH{s:av}{v:ak}(I:Inv X B U H s)(r:RelV x v)(f:XS X.K T x H):
  s.TypeIs v T/\∀a,v=.ref a->∃m,s.heap.get? a=Y m/\m.dict=none:=by
 cases x with
 |str z=>obtain⟨t,rfl⟩:=r;cases (show T = "str" from f);exact⟨typeIs_str s z t,λ_ e=>nomatch e⟩
 |int i=>obtain⟨t,rfl⟩:=r;cases (show T = "int" from f);exact⟨typeIs_int s i t,λ_ e=>nomatch e⟩
 |ref p=>
  cases r;rcases f with⟨rfl,xs,w⟩|⟨rfl,o,b,A,h⟩|⟨rfl,b⟩|⟨rfl,S,n,b⟩
  ·obtain⟨u,_,l,_⟩:=I.list w;refine⟨l.isList.typeIs,λa e =>?_⟩;cases e;obtain⟨o,n,e,c,h,_⟩:=l;exact⟨o,e,h⟩
  ·refine⟨⟨o,I.pM p o b,A⟩,λa e =>?_⟩;cases e;exact⟨o,I.pM _ o b,h⟩
  ·have z:∃o,s.heap.get? p=Y o/\o.ExactDict:=by
    rcases b with⟨g,b⟩|⟨g,b⟩
    ·obtain⟨_,_,_,_,o,_,_,e,ex,_⟩:=I.eR p _ b;exact⟨o,e,ex⟩
    ·obtain⟨_,_,_,_,o,_,_,e,ex,_⟩:=I.eR p _ b;exact⟨o,e,ex⟩
   obtain⟨o,e,ex⟩:=z;refine⟨⟨o,e,ex.1⟩,λa k =>?_⟩;cases k;exact⟨o,e,ex.2.1⟩
  ·obtain⟨o,_,_,_,e,ex,_⟩:=I.eR p _ b;refine⟨⟨o,e,ex.1⟩,λa k =>?_⟩;cases k;exact⟨o,e,ex.2.1⟩
 |_=>exact cD f
def U9(K:aT)(T:String)(r:V->List V->Hp->VK->Prop)(to:TE):TE:=λU H Q=>to U H λx O=>XS K T x O/\r x [] O Q
def tBM(K:aT)(T:String)(r:V->List V->Hp->VK->Prop)(to:TE)(t:TA):TE:=λU H Q=>to U H λx O=>XS K T x O/\t U O λxs d=>r x xs d Q
variable {name:aJ}{id:String}
def LB(p:PlainAttrs T)(c:Slot T name id)(e:z7 (.builtin id)=dP (.type "method_descriptor"))(u:MtR X id r)(t:PE X o to)(b:autoParam (b_ o name X.env (eval o X.env)=eval o X.env) Ų)(a:autoParam ((z0.endLine==wF.line)=true) Ų):PE X (.Call (.Attribute o name z0) [] [] wF) (U9 X.K T r to):=by
 intro B s U H Q I h;refine wpAny_Call_method0_late b a (fw (t B s U H _ I h) ?_);rintro v l ⟨x,O,g,f,k,m⟩;obtain⟨J,z⟩:=KH g f k;exact⟨T,id,p,c,e,J,z,z_ rfl (PySem.evalArgs_none (u B l U O x [] v [] Q g f .nil m))⟩
def xc(i:PlainAttrs T)(f:Slot T name id)(k:z7 (.builtin id)=dP (.type "method_descriptor"))(S:MtR X id r)(R:PE X o to)(ha:PA X (e::es) t)(c:autoParam (b_ o name X.env (eval o X.env)=eval o X.env) Ų) (g:autoParam (((cn wF (ao (e::es) X.env)).all (λx=> !x.1)&&(gG wF (dh [] X.env)).all (λx=>x.1.isSome)
   && decide ((e::es).length+([]:List nV).length+(if ([]:List nV).isEmpty then 0 else 1)<30))=true) Ų) (b:autoParam ((z0.endLine==wF.line)=true) Ų) (P:autoParam (ao (e::es) X.env=(Z_,eval e X.env)::ao es X.env) Ų) (a:autoParam ((cn wF (ao es X.env)).any (·.1)=false) Ų) :
  PE X (.Call (.Attribute o name z0) (e::es) [] wF) (tBM X.K T r to t):=by
 intro B s U H Q I h;refine wpAny_Call_method_late c g b rfl (fw (R B s U H _ I h) ?_);rintro v D ⟨x,O,p,l,A,K⟩;obtain⟨J,z⟩:=KH p l A;refine⟨T,id,i,f,k,J,z,?_⟩;have m:=ha wF B D U O _ p K;rw[P]at m ⊢;refine z_ (by show (Z_||(cn wF (ao es X.env)).any (·.1))=Z_;rw[a]<;>rfl) (Calls.evalArgs_plain ?_);exact fw m <|by rintro w C ⟨u,d,I2,E,F⟩;exact S B C U d x u v w Q I2 l E F
end
def ZH(X:Cx)(id:String)(r:V->List V->Hp->VK->Prop):Prop:=
 ∀(B:List (ax×Obj)) (s:av) (U:St) (H:Hp) (x:V) (xs:List V) (v:ak) (a:List ak) (Q:VK),Inv X B U H s->RelV x v->cg xs a->r x xs H Q ->
  bq (aV X.prog X.w) X.A (GP (.builtin id) (v::a)) (EP X B U Q) X.xe s
def cg.one{a:List ak}(h:cg [x] a):∃u,a=[u]/\RelV x u:=by
 rcases h with _|⟨r,_|_⟩;exact⟨_,rfl,r⟩
def cg.two{a:List ak}(h:cg [x,y] a):∃u v,a=[u,v]/\RelV x u/\RelV y v:=by
 rcases h with _|⟨r,_|⟨q,_|_⟩⟩;exact⟨_,_,rfl,r,q⟩
def cg.zero{a:List ak}(h:cg [] a):a=[]:=by
 cases h;rfl
def cg.dropLast(h:cg xs a):cg xs.dropLast a.dropLast:=by
 induction h with
 |nil=>exact .nil|cons r t ih=>
  cases t with|nil=>exact .nil|cons q b=>exact .cons r ih
theorem cg.rep(h:cg xs a):∀k:Nat,cg (bt k xs).flatten (bt k a).flatten
 |0 =>.nil|k+1=>by rw[gH,gH,kq,kq];exact cg.append h (cg.rep h k)
def Gn(l:List c):l.eraseIdx (l.length-1)=l.dropLast:=by
 induction l with
 |nil=>rfl|cons a r ih=>
  cases r with
  |nil=>rfl|cons b r=>
   have e:(a::b::r).length-1=((b::r).length-1)+1:=by have J:(a::b::r).length=r.length+2:=rfl;have z:(b::r).length=r.length+1:=rfl;omega
   rw[e,List.eraseIdx_cons_succ,ih]
   all_goals rfl
theorem foldl_rep(a:List ak):∀(k:Nat) (b:List ak),
  List.foldl (λf c=>f++c) b.toArray (bt k a.toArray)=(b++(bt k a).flatten).toArray
 |0,b=>by simp
 | k+1,b=>by
  have e:b.toArray++a.toArray=(b++a).toArray:=by simp
  have g:(b++a)++(bt k a).flatten=b++(bt (k+1) a).flatten:=by rw[gH,kq,bY]
  rw[<- g,<- foldl_rep a k (b++a),<- e,gH,List.foldl_cons]
section
variable {X:Cx}{s:av}
def Inv.Sf{a its':List ak}{n:Nat}{f:Array ak->Array ak}{t':Nat}(I:Inv X B U H s)(m:H l=Y (.lst xs))(e:s.heap.get? l=Y { cls :=.type "list",data :=.seq a.toArray n })(h:f a.toArray=its'.toArray)(c:cg ys its')(b:ys.length<=bc):
  Inv X B U (cx H l (.lst ys)) { s with heap:=s.heap.update l (Obj.mapSeq f),toks:=t' }:=by
 have q:=PySem.IsL.update e f;rw[h]at q;refine I.write (x:=l) (e:=l) (by rw[m];exact trivial) (.inl rfl) (λo u k g=>(bG s.heap (Obj.mapSeq f) (bF k)).trans g) ⟨_,q⟩ ?_;exact⟨b,its',_,c,q⟩
def Inv.VM{t':Nat}(I:Inv X B U H s)(c:cg ys a)(b:ys.length<=bc):
  Inv X B U (cx H s.heap.objs.size (.lst ys)) { s with heap:=s.heap.push { cls :=.type "list",data :=.seq a.toArray },toks:=t' }:=
 I.laid (λ_ _ q=>aj _ q) (aQ _) ⟨b,a,0,c,bz _ rfl⟩
def Inv.fresh(I:Inv X B U H s):H s.heap.objs.size=none:=I.eR.fresh (aQ _)
def Inv.F_(I:Inv X B U H s)(b:H l=Y (.lst xs)):xs.length<=bc/\∃(a:List ak) (n:Nat),cg xs a/\xs.length=a.length/\s.heap.get? l=Y { cls :=.type "list",data :=.seq a.toArray n }:=by
 obtain⟨z,a,n,r,e⟩:=I.eR l _ b;exact⟨z,a,n,r,r.length,e⟩
def D7(h:n<=bc):nM n=false:=by
 unfold nM;exact decide_eq_false ž
end
section
variable {X:Cx}
def OB:V->List V->Hp->VK->Prop:=λx a H Q=>∃l xs y,x=.ref l/\a=[y]/\H l=Y (.lst xs)/\xs.length<bc/\Q .dg (cx H l (.lst (xs++[y])))
def kO:ZH X "list.append" OB:=by
 intro B s U H x k v m Q I c f h;obtain⟨l,xs,y,rfl,rfl,b,o,q⟩:=h;cases c;obtain⟨u,rfl,g⟩:=f.one;obtain⟨z,a,n,r,p,e⟩:=I.F_ b;refine GO F.slot_list_append ⟨_,e,rfl⟩ F.entry_list_append (F.args_list_append_2 _ _) (PySem.list_append l a.toArray n u (by rw[bb];omega)) ⟨e,?_⟩;refine⟨.dg,_,I.Sf (its':=a++[u]) b e Ž (r.append (.cons g .nil)) ?_,rfl,q⟩;rw[aS,cK];omega
def OA:V->List V->Hp->VK->Prop:=λx a H Q=>∃l b xs zs,x=.ref l/\a=[.ref b]/\H l=Y (.lst xs)/\H b=Y (.lst zs)/\xs.length+zs.length<=bc/\Q .dg (cx H l (.lst (xs++zs)))
def Jo:ZH X "list.extend" OA:=by
 intro B s U H x K v d Q I m o h;obtain⟨l,b,xs,zs,rfl,rfl,k,C,P,q⟩:=h;cases m;obtain⟨u,rfl,p⟩:=o.one;cases p;obtain⟨z,c,n,r,R,e⟩:=I.F_ k;obtain⟨E,a,w,t,A,D⟩:=I.F_ C;have g:c.toArray.size+a.toArray.size<=bc:=by rw[bb,bb];omega
 have f:¬(!c.toArray.isEmpty&&nM (c.toArray.size+a.toArray.size))=true:=by rw[D7 g,Ki];exact bJ
 refine GO F.slot_list_extend ⟨_,e,rfl⟩ F.entry_list_extend (F.args_list_extend_2 _ _)
  (AutoSeq1.list_extend_list_list_0 l c.toArray n b a.toArray w f (by rw[bb];omega) ž) ⟨e,D,?_⟩
 refine⟨.dg,_,I.Sf (its':=c++a) k e Ž (r.append t) ?_,rfl,q⟩;rw[aS];omega
def Vm:V->List V->Hp->VK->Prop:=λx a H Q=>∃l xs y,x=.ref l/\a=[]/\H l=Y (.lst xs)/\xs[xs.length-1]?=Y y/\Q y (cx H l (.lst xs.dropLast))
def L1:ZH X "list.pop" Vm:=by
 intro B s U H x w v A Q I g k h;obtain⟨l,xs,y,rfl,rfl,f,o,q⟩:=h;cases g;have c:=k.zero;subst c;obtain⟨z,a,n,r,t,e⟩:=I.F_ f;obtain⟨u,p,m⟩:=r.get o;have b:a.toArray[a.toArray.size-1]?=Y u:=by show a.toArray[a.length-1]?=Y u;rw[<- wY,<- t];exact p
 refine GO F.slot_list_pop ⟨_,e,rfl⟩ F.entry_list_pop (F.args_list_pop_1 _) (MeetsSeq.list_pop_last l a.toArray n u b (by rw[bb];omega)) ⟨e,?_⟩;refine⟨y,_,I.Sf (its':=a.dropLast) f e ?_ r.dropLast ?_,m,q⟩
 ·show a.toArray.eraseIdxIfInBounds (a.toArray.size-1)=a.dropLast.toArray;rw[bb,List.eraseIdxIfInBounds_toArray,Gn]
 ·rw[List.length_dropLast];omega
def Yg:R2:=λx y H Q=>∃l b xs zs,x=.ref l/\y=.ref b/\H l=Y (.lst xs)/\H b=Y (.lst zs)/\xs.length+zs.length<=bc/\∀p,H p=M->Q (.ref p) (cx H p (.lst (xs++zs)))
def LI:oW X (dN .Add) Yg:=by
 intro B s U H x y v u Q I g f h;obtain⟨l,b,xs,zs,rfl,rfl,o,p,D,q⟩:=h;cases g;cases f;obtain⟨z,c,n,r,E,e⟩:=I.F_ o;obtain⟨A,a,C,k,m,w⟩:=I.F_ p;refine PySem.P.add_list e w ?_ (by rw[bb,bb];omega);have t:c.toArray++a.toArray=(c++a).toArray:=by simp
 rw[t];exact⟨.ref _,_,I.VM (t':=s.toks) (r.append k) (by rw[aS];omega),rfl,q _ I.fresh⟩
def Ye:R2:=λx y H Q=>∃l k xs,x=.ref l/\y=.int k/\H l=Y (.lst xs) /\ -(2 ^ 63)<=k/\k<2 ^ 63/\xs.length*k.toNat<=bc /\
 ∀p,H p=M->Q (.ref p) (cx H p (.lst (bt k.toNat xs).flatten))
def Qe(xs:List a)(k:Nat):(bt k xs).flatten.length=k*xs.length:=by
 induction k with|zero=>simp|succ k ih=>rw[gH,kq,aS,ih,Qj,Nat.add_comm]
def RW:oW X (dN .Mult) Ye:=by
 intro B s U H x y v u Q I rx ry h;obtain⟨l,k,xs,rfl,rfl,hH,J,z,hz,q⟩:=h;cases rx;obtain⟨t,rfl⟩:=ry;obtain⟨b,E8,n,r,hl,e⟩:=I.F_ hH;have GN:E8.toArray.size*k.toNat<=bc:=by rw[bb,<- hl];exact hz
 have Y1:¬E8.toArray.size*k.toNat > (2 ^ 63-1)/8:=by
  have:(bc:Nat)<=(2 ^ 63-1)/8:=by decide
  omega
 have YX:¬(!Builtin.List.listFitsIndex k)=true:=by rw[fitsIndex_both J z];exact bJ
 have VZ:¬nM (E8.toArray.size*k.toNat)=true:=by rw[D7 GN];exact bJ
 have SK:List.foldl (λx1 x2=>x1++x2) #[] (bt (if E8.toArray.isEmpty=Z' then 0 else k.toNat) E8.toArray)=(bt k.toNat E8).flatten.toArray:=by
  have f0:∀m:Nat,List.foldl (λx1 x2=>x1++x2) #[] (bt m E8.toArray)=(bt m E8).flatten.toArray:=λm=>by have:=foldl_rep E8 m [];rw[dk]at this;exact this
  rw[f0];cases E8 with
  |nil=>simp|cons a r'=>rw[if_neg (by simp)]
 refine wpAny_binaryOp_repeat_ref (T:= "list") (U:= "int") ſ ⟨_,e,rfl⟩ (λs'=>typeIs_int s' k t) noFill_list_mul F.fills_int_mul F.slot_int_rmul repeat_list F.slot_int_index.lookup
  (GO F.slot_int_rmul (typeIs_int s k t) F.entry_int_rmul (F.args_int_rmul_2 _ _) (int___rmul___int_list k t l E8.toArray n)
   ⟨e,rfl,⟨_,e,rfl⟩,GO F.slot_list_mul ⟨_,e,rfl⟩ F.entry_list_mul (F.args_list_mul_2 _ _) (AutoListH.list___mul___list_int_3 l E8.toArray n k t YX Y1 VZ) ⟨e,?_⟩⟩)
 rw[SK];exact⟨.ref _,_,I.VM (t':=s.toks) (r.rep k.toNat) (by rw[Qe,Nat.mul_comm];exact hz),rfl,q _ I.fresh⟩
end
section
variable {s:av}
end
section
variable {X:Cx}
end
end L2
namespace Att
open PySem PySem.W PySem.Calls PyProof.Rows
def xE{P:Params}:∀(c:List Int) (e:List ak),WellAll P h e (c.map WData.int)->Ff e c:=by
 intro c
 induction c with
 |nil=>intro e w;rw[C3]at w;cases w;exact .nil
 |cons n c ih=>
  intro e w;rw[bh]at w;cases w with
  |cons a b=>cases a;exact .cons _ _ (ih _ b)
theorem IV{l:OpenLaw}{n:Nat}(A:l.most=Y n){P:Params}{h:cF}{args:List WData}{c:List ak}(e:l.row.toRowW.claim.pre args=Z')(o:WellAll P h c args):
  ∃a s b,c=[aD a]/\args=[WData.list (b.map WData.int)]/\h.get? a=Y { cls :=.type "list",data :=.seq s.toArray }/\Ff s b/\b.length<=n:=by
 have p:WShape.hasAll [] args [.list .int]=true:=(pre_splitW e).1;have t:l.pre.holds [] { args:=args }=true:=(pre_splitW e).2;obtain⟨d,r,rfl,J,z⟩:=hasAllW_cons p;obtain rfl:=hasAllW_nil z;obtain⟨xs,rfl,C⟩:=hasW_list J;obtain⟨b,rfl⟩:=items_int C;have f:b.length<=n:=by
  unfold OpenLaw.pre at t;have m:(WTm.not (.lt (.lit (.int (n:Int))) (.len (.arg 0)))).holds [] { args:=[.list (b.map .int)] }=true:=by have m:=(holds_andW t).1;rw[A]at m;exact m
  have k:=condW_of m (w_not (w_lt w_lit (w_len_list (w_arg rfl))));rw[aw]at k;refine Nat.le_of_not_lt λq =>?_
  have w:(n:Int)<((b.length:Nat):Int):=by omega
  first
   |(rw[decide_eq_true w]at k;exact absurd k ſ)
   |(simp at k;omega)
 cases o with
 |cons v u=>
  cases u;cases v with|list x g=>exact⟨_,_,b,rfl,rfl,x,xE b _ g,f⟩
def Jd(l:OpenLaw)(args:List WData):l.row.toRowW.claim.post args (.bool Z') args=true:=
 postW_of (r:=l.row.toRowW) (X:=(Z'==Z'))
  (show WShape.has [] (.bool Z') .bool=Z' by first|rfl|decide|simp[WShape.has,WShape.arms,WShape.armsAll])
  (show (WTm.eq .res (.lit (.bool Z'))).value [] { args:=args,res:=Y (.bool Z'),after:=args }=Y (.bool (Z'==Z')) from w_eq_bool (w_res rfl) w_lit) rfl
def EF{l:OpenLaw}{n:Nat}{q:br}{e:List aJ}{R:(aJ->Option ak)->cF->Prop}{Q:cY->cF->Prop}{d:DefRec}(hn:l.most=Y n)(F:d.params.defaults=[]) (u:∀(w:cY) (c b:av) (i C:aJ->Option ak) (t:ax) (o:Obj) (A x h:ak) (a:ax) (k:List ak) (v:List Int),
   Ground q e [] R w c i C b.heap->Q w b.heap ->
   b.heap.get? t=Y o->o.data=.func (docDef d.name d.params d.body d.scope A x h)->b.heap.CodeRec x d.name->i d.name=Y (.ref t) ->
   b.heap.get? a=Y { cls :=.type "list",data :=.seq k.toArray }->Ff k v->v.length<=n->b.gens=#[] ->
   nU (aV l.prog w) Dh (.call (.ref t) ⟨[.ref a],[]⟩) (λr s'=>r=.ok (.ret (.bool Z'))/\OldK b.heap s'.heap/\s'.os=b.os/\AF s'.gens) b) :
  WalkO q e R Q l.row.toRowW d [] (λf k=>PySem.call f k):=by
 intro w c b i C G j t o A x h dV S ho hd H P E hg args K as m y T D hlo;obtain rfl:dV=.none:=Dflts.none P F;obtain rfl:S=.none:=Dflts.noKw P;obtain⟨a,k,v,rfl,rfl,p,g,s⟩:=IV hn m D;refine enter_call (pJ (u w c b i C t o A x h a k v G j ho (fd_plain hd) H E p g s hg) λr s' X =>?_);obtain⟨rfl,z,h3,h4⟩:=X;exact⟨.inl ⟨.bool Z',.bool Z',[],rfl,λ_=>rfl,.bool Z',Jd l _,λ_=>⟨List.Pairwise.nil,λ_ hm=>(nomatch hm)⟩⟩,z,h3,h4⟩
section
variable {s:av}{K:aT}
end
end Att
namespace L2
open PySem PySem.Spec PyProof.Rows
def IF{a:List ak}{b:List Int}(h:Ff a b):cg (b.map V.int) a:=by
 induction h with|nil=>exact .nil|cons n t h i=>exact .cons ⟨t,rfl⟩ i
def Nn(H:Hp):Prop:=∀b,H b=M\/∃o xs,H b=Y (.Gf o (.lst xs))
def Me{P:br}{K:aT}{f:av}(KX:K.In f.heap)(S:f.heap.Ns aP i)(l:f.heap.Ns builtinsNs mb)(hbb:∀x:aJ,x ≠ "__name__" ->mb x=fJ x)(T:f.heap.NoLimit)(hg:f.gens=#[])(ha:f.heap.get? a=Y { cls :=.type "list",data :=.seq A.toArray })(L:Ff A E)(hl:E.length<=bc)(hr:eH k Dh)(F:∀base:cF,K.In base->base.Ns aP i->bZ P w K i base CX k fa I [x] sp)(C:∀(s:av) (u:ak),Kj s I ⟨[u],[]⟩ [(x,u)])(hsp:∀H:Hp,Nn H->m_ K H a (E.map V.int)->sp [.ref a] H (λv _=>v=.bl Z') λ_ _ _=>False)(hCX:∀H e s',CX [] H f (λ_ _ _=>False) e s'->False):
  nU (aV P w) Dh (.call (.ref fa) ⟨[.ref a],[]⟩) (λr s'=>r=.ok (.ret (.bool Z'))/\OldK f.heap s'.heap/\s'.os=f.os/\AF s'.gens) f:=by
 have rv:=IF L;have j:=L.length;have t:∀H:Hp,Nn H->m_ K H a (E.map V.int)->nS P w H f.heap->(∀b,H b≠M->b=a)->(H a≠M->K.lookup a=M) ->
   nU (aV P w) Dh (.call (.ref fa) ⟨[.ref a],[]⟩) (λr s'=>r=.ok (.ret (.bool Z'))/\OldK f.heap s'.heap/\s'.os=f.os/\AF s'.gens) f:=by
  intro H hO hS R hA hK;have g:∀ {b:ax}{o:Obj},f.heap.get? b=Y o->H b=M->(Ci f.heap H).get? b=Y o:=λe n=>Mq e n
  have noA:∀ {b:ax}{o:Obj}{es:Array DictEntry}{ep:Nat},f.heap.get? b=Y o->o.data=.dict es ep->H b=none:=fun {b o es ep} e d=>by
   rcases q:H b with _|u
   ·rfl
   have e':b=a:=hA b (by rw[q];simp);subst e';rw[ha]at e;cases e;have d':Data.seq A.toArray _=qZ es ep:=d;cases d'
  have p:∀ {b:ax}{m:aJ->Option ak},f.heap.Ns b m->(Ci f.heap H).Ns b m:=fun {b m} ⟨o,es,ep,e,d,r⟩=>⟨o,es,ep,g e (noA e d),d,r⟩
  have X:K.In (Ci f.heap H):=λb o e=>g (KX b o e) (by
   rcases q:H b with _|u
   ·rfl
   have e':b=a:=hA b (by rw[q];simp);subst e';rw[hK (by rw[q];simp)]at e;cases e)
  have hM:Mod K i (Ci f.heap H):=⟨X,p S,⟨mb,p l,hbb⟩,let ⟨mc,J,z⟩:=T;⟨mc,p J,z⟩⟩;have e0:GL P w K i (Ci f.heap H) Dh [] f H:=⟨rfl,hM,λb o e=>O0 e,nK (JF _ _),trivial,λb l=>absurd (show b∈([]:List ax) from l) Ž,R,.of_eq hg⟩;refine pJ ((F _ X (p S)).run Dh [] f H ⟨[.ref a],[]⟩ [.ref a] [.ref a] _ _ hr e0 (C f (.ref a)) (.cons rfl .nil) (hsp H hO hS)) λr s' h =>?_
  cases r with
  |error e=>exact(hCX H e s' h).elim|ok fl=>
   cases fl with
   |ret u=>
    obtain⟨v,H',os,bare,un,Q,r',q⟩:=h;have q':v=.bl true:=q;subst q';obtain rfl:u=oK true:=r';refine⟨rfl,OldK.of_keep λb o e =>?_,os,bare⟩;cases q:H b with
    |none=>exact un.keep b o e q (by intro c;exact absurd (show b∈([]:List ax) from c) Ž) Ž
    |some u=>
     rcases hO b with c|⟨ob,xs,c⟩
     ·rw[q]at c;cases c
     ·have z2:=un.Ar b ob _ c;obtain⟨e1,_⟩:=R b _ c;obtain⟨e2,_⟩:=Q b _ z2;rw[e]at e1;cases e1;exact e2
   |_=>exact cD h
 cases hk:K.lookup a with
 |some o=>have e:=KX a o hk;rw[ha]at e;cases e;refine t (λ_=>M) (λ_ =>.inl rfl) (.inr ⟨_,A.toArray,_,hk,rfl,rfl,rfl,by rw[bb,j];exact hl,by simpa using rv⟩) (λb u c=>by have D:(M:Option HO)=Y u:=c;cases D) (λb c=>absurd rfl c) λc=>absurd rfl c
 |none=>
  refine t (λb=>if b=a then Y (.Gf { cls :=.type "list",data :=.seq A.toArray } (.lst (E.map V.int))) else M) (λb =>?_) (.inl (.inr ⟨{ cls :=.type "list",data :=.seq A.toArray },if_pos rfl⟩)) (λb u c =>?_) (λb c =>?_) λ_=>hk
  ·by_cases l:b=a
   ·exact .inr ⟨_,_,if_pos l⟩
   ·exact .inl (if_neg l)
  ·by_cases l:b=a
   ·have D:=(if_pos l).symm.trans c;cases D;subst l;exact⟨ha,by rw[aw];exact hl,A,_,rv,ha⟩
   ·have D:=(if_neg l).symm.trans c;cases D
  ·by_cases l:b=a
   ·exact l
   ·exact absurd (if_neg l) c
def N9{l:PySem.W.OpenLaw}{n k:Nat}{q:br}{c:List aJ}{R:cY->cF->Prop}{d:DefRec}{K:Params->aT}{CX:cY->Q1}{sp:cY->Sp}{x:aJ}(X:l.most=Y n)(C:n<=bc)(E:d.params.defaults=[])(T:eH k Dh)(hY:∀(w:cY) (h:cF),R w h->(K w.params).In h) (F:∀(w:cY) (i:aJ->Option ak) (t:ax) (h:cF),(K w.params).In h->h.Ns aP i->i d.name=Y (.ref t) ->
   ∃I:eO,(∀(s:av) (u:ak),Kj s I ⟨[u],[]⟩ [(x,u)]) /\
    ∀base:cF,(K w.params).In base->base.Ns aP i->bZ l.prog w (K w.params) i base (CX w) k t I [x] (sp w)) (A:∀(w:cY) (H:Hp) (a:ax) (r:List Int),r.length<=n->Nn H->m_ (K w.params) H a (r.map V.int)->sp w [.ref a] H (λv _=>v=.bl Z') λ_ _ _=>False) (y:∀(w:cY) (H:Hp) (s:av) (e:ak) (s':av),CX w [] H s (λ_ _ _=>False) e s'->False) :
  PySem.W.WalkO q c XP R l.row.toRowW d [] (λf P=>PySem.call f P):=by
 refine Att.EF X E λw Q m i mb t o pm cd Qg a P r G j ho hd Xf D p g b hg =>?_
 have S:=hY w _ j;obtain⟨I,hb,hF⟩:=F w i t _ S G.T.g D;exact Me S G.T.g G.T.b G.T.builtins G.T.nolimit hg p g (bQ b C) T hF hb (λH hO hS=>A w H a r b hO hS) λH e s'=>y w H m e s'
def Kz{l:PySem.W.OpenLaw}{n k:Nat}{q:br}{b:List aJ}{P:(aJ->Option ak)->cF->Prop}{t:cY->cF->Prop}{d:DefRec}{K:Params->aT}{CX:Q1}{sp:aT->Sp}{x:aJ}(D:l.most=Y n)(m:n<=bc)(o:d.params.defaults=[])(C:eH k Dh)(E:∀(w:cY) (h:cF),t w h->(K w.params).In h) (F:∀(w:cY) (i:aJ->Option ak) (r:ax) (h:cF),(K w.params).In h->h.Ns aP i->i d.name=Y (.ref r) ->
   ∃I:eO,(∀(s:av) (u:ak),Kj s I ⟨[u],[]⟩ [(x,u)]) /\
    ∀base:cF,(K w.params).In base->base.Ns aP i->bZ l.prog w (K w.params) i base CX k r I [x] (sp (K w.params))) (g:∀(K:aT) (H:Hp) (a:ax) (c:List Int),c.length<=n->Nn H->m_ K H a (c.map V.int)->sp K [.ref a] H (λv _=>v=.bl Z') λ_ _ _=>False) (p:∀(H:Hp) (s:av) (e:ak) (s':av),CX [] H s (λ_ _ _=>False) e s'->False) :
  PySem.W.WalkO q b P t l.row.toRowW d [] (λf A=>PySem.call f A):=
 N9 (K:=K) (CX:=λ_=>CX) (sp:=λw=>sp (K w.params)) D m o C E F (λw H a c J z j=>g (K w.params) H a c J z j) λ_ H s e s'=>p H s e s'
noncomputable def cB(s:pK)(j:Nat):pK:=match s with
 |.ClassDef _ _ _ a _ _ _ _ _ _ _=>a.getD j (.Pass ⟨0,0,0,0⟩)|_ =>.Pass ⟨0,0,0,0⟩
noncomputable def nz(s:pK):Arguments:=match s with
 |.FunctionDef _ a _ _ _ _ _ _ _ _=>a|_=>{ posonlyargs:=[],args:=[],vararg:=M,kwonlyargs:=[],kw_defaults:=[],kwarg:=M,defaults:=[] }
noncomputable def gx(s:pK):List pK:=match s with
 |.FunctionDef _ _ b _ _ _ _ _ _ _=>b|_=>[]
noncomputable def aA(s:pK):Scope:=match s with
 |.FunctionDef _ _ _ _ _ _ a _ _ _=>a|_=>{ kind :=.function,names:=[],isGenerator:=Z_,isCoroutine:=Z_ }
abbrev gK:Q1:=λ_ _ _ _ _ _=>False
abbrev E0:XK:=λ_ _ _=>False
def mq{X:Cx}:qT gK X E0:=λ_ _ _ _ _ _ _ h=>h.elim
structure gY(K:aT)(x qual:aJ)(st:pK)(f:ax)(fd:eO):Prop where
 ex:∃(oc:ak) (od:Option ax) (kV Qg pm:ak) (an:Option ax) (QY ct:ak) (W7:Array (Option ak)),
  fd=fnOf x qual (nz st) (gx st) (aA st) .none kV Qg pm an QY ct/\K.lookup f=some ⟨oc,od,.func fd,W7⟩/\codeIn K QY qual=true
 kp:kT K (.ref f)=true
section
variable {P:br}{K:aT}
def gY.ok{st:pK}{f:ax}(F:gY K x c st f I)(S:bB N q (aA st))(m:∀g H Q E,sp g H Q E->g.length=q.length) (l:∀(e:ak) (A:gI) (b:List Env) (s:av) (H:Hp) (g:List V) (Q:VK) (E:XK),eH k (A.deeper (qu c (aA st) s.heap.objs.size f e))->sp g H Q E ->
   ∃t,oV (qS gK P w K i base N c (aA st) f e A b s H E).Ht (gx st) t/\t { nx:=λ_ H'=>Q .dg H',rt:=Q } (start N g) H):bZ P w K i base gK (k+1) f I q sp:=by
 obtain⟨d,D,R,v,C,X,e,T,r,rfl,lk,p⟩:=F.ex;refine QT lk p S m λA b s H g Q E u o =>?_
 obtain⟨t,h,a⟩:=l e A b s H g Q E u o;exact⟨t,h.Ht,a⟩
def gY.binds{st:pK}{f:ax}(F:gY K x a st f I)(h:∀(k b g:ak) (m:Option ax) (c l:ak) (e:List ak),e.length=q.length->bindArgs (fnOf x a (nz st) (gx st) (aA st) .none k b g m c l) ⟨e,[]⟩=dP (q.zip e)):Binds K I q []:=by
 obtain⟨s,r,k,b,g,m,c,l,o,rfl,lk,p⟩:=F.ex;exact .all (h k b g m c l)
def Ge{st:pK}{f:ax}{s:ak}{m:ak}(l:K.lookup f=Y ⟨s,r,.func (fnOf x a (nz st) (gx st) (aA st) .none m e h p b o),g⟩)(c:codeIn K b a=Z')(k:kT K (.ref f)=Z'):gY K x a st f (fnOf x a (nz st) (gx st) (aA st) .none m e h p b o):=⟨⟨s,r,m,e,h,p,b,o,g,rfl,l,c⟩,k⟩
end
def zj(a:eH k A):A.units+1<rP:=Nat.lt_of_le_of_lt (Nat.add_le_add_left (by decide:1<=64) _) a.units
def IT{n:Nat}(h:n<=1000):n<bc:=Nat.lt_of_le_of_lt h ſ
section
variable {X:Cx}
def pv(i:Nat)(e:autoParam (X.N[i]?=Y x) Ų)(b:autoParam (TK X.env.scope x) Ŷ)(c:autoParam ((x==("__debug__" : aJ))=false) Ű)(a:autoParam ((x==("__classdict__" : aJ))=false) Ű):PE X (.Name x G) (iB i):=RQ e b c a
end
def zd{A B:Prop}(h:B):if Z_=Z' then A else B:=by
 rw[if_neg bJ];exact h
def Aq{A B:Prop}(h:A):if Z'=Z' then A else B:=by
 rw[if_pos rfl];exact h
def Ga{c A B:Prop}[Decidable c](J:c->A)(z:¬c->B):if c then A else B:=by
 by_cases h:c
 ·rw[if_pos h];exact J h
 ·rw[if_neg h];exact z h
def bC(H H':Hp):Prop:=∀b o,H b=Y o->H' b=Y o
def bC.refl(H:Hp):bC H H:=λ_ _ h=>h
def bC.trans{d:Hp}(a:bC H O)(b:bC O d):bC H d:=λc o h=>b c o (a c o h)
def bC.free(e:bC H H')(h:H' l=Option.none):H l=Option.none:=by
 rcases q:H l with _|o
 ·rfl
 rw[e l o q]at h;cases h
def bC.seq{K:aT}{a:ax}(e:bC H H')(h:m_ K H a xs):m_ K H' a xs:=by
 rcases h with (h|⟨o,h⟩)|h
 ·exact .inl (.inl (e _ _ h))
 ·exact .inl (.inr ⟨o,e _ _ h⟩)
 ·exact .inr h
end L2
namespace L2
open PySem
end L2
namespace L2
open PySem PyProof.Rows
def El(h:Ff a b):a.length=b.length:=by
 induction h with|nil=>rfl|cons _ _ _ ih=>simp[ih]
section
variable {s:av}
end
end L2
namespace L2
open PySem PyProof.Rows PySem.Spec
section
variable {R:NH->av->Prop}{f:List ax}{P:Nat->ak->Prop}{m:Nat->av->Prop}
end
section
variable {s:av}
end
section
variable {s:av}
end
section
variable {s:av}
end
section
variable {s:av}
end
end L2
namespace L2
open PySem PySem.Spec PyProof.Rows
section
variable {P:br}
def nS.GY(x:nS P w H h)(f:H a=M)(d:e_ P w (cx H a o) h a o):nS P w (cx H a o) h:=λb u e=>by
 by_cases k:b=a
 ·subst k;rw[aX]at e;cases e;exact d
 ·rw[aM k]at e;exact(x b u e).vV (λc v _ q=>q) (λc q=>by rw[aM (bf q f)];exact q) λc l q=>by rw[aM (bf q f)];exact q
def nS.BH(x:nS P w (cx H a (.lst d)) h)(m:H a=M):nS P w H h:=λb u e=>by
 have n:b≠a:=bf e m;have k:∀c v,cx H a (.lst d) c=Y v->v ≠ .lst d->H c=Y v:=λc v q l=>by
  by_cases f:c=a
  ·subst f;rw[aX]at q;cases q;exact absurd rfl l
  ·rwa [aM f]at q
 exact(x b u (by rw[aM n];exact e)).vV (λc v _ q=>q) (λc q=>k c _ q (by intro z;cases z)) λc i q=>k c _ q (by intro z;cases z)
end
noncomputable def lobj(g:List ak)(n:Nat):Obj:={ cls :=.type "list",data :=.seq g.toArray n }
section
variable {X:Cx}{s:av}{D:ax}
def Inv.GY(I:Inv X (j++[(D,lobj g n)]) t H s)(r:cg i g)(A:i.length<=bc)(E:X.s₀.heap.objs.size<=D)(B:∀p∈X.pn++j,p.1≠D):Inv X j t (cx H D (.lst i)) s:=by
 obtain⟨e,d,C,N,_⟩:=I.pin (D,lobj g n) Ž;have f:∀b o,X.s₀.heap.get? b=Y o->b≠D:=λb o q z=>by have l:=aI q;subst z;exact fg _ (bx l E)
 refine⟨I.ok,I.os,I.bare,⟨I.base.keep,I.base.slot,λb o q m x =>?_,I.base.there,λb k q =>?_,λb o u q =>?_,λb w q =>?_⟩,I.loc,I.cell,?_,λx c q =>?_,λp q =>?_,I.eR.GY d ⟨A,g,n,r,e⟩,I.len⟩
 ·rw[aM (f b o q)];exact I.base.free b o q m x
 ·have:=I.base.BJ b k q;rw[aM (bf this d)];exact this
 ·have:=I.base.Ar b o u q;rw[aM (bf this d)];exact this
 ·obtain⟨a,this⟩:=I.base.BK b w q;exact⟨a,by rw[aM (bf this d)];exact this⟩
 ·rw[aM (bF C)];exact I.free
 ·have y:c≠D:=λz=>by obtain⟨v,L,h,F⟩:=I.cell x c q;rw[z,e]at h;cases h;cases F
  rw[aM y];exact I.mZ x c q
 ·obtain⟨K,J,G⟩:=I.pin p (by rw[<- bY];exact bj _ q);exact⟨K,by rw[aM (B p q)];exact J,G⟩
def Inv.BH(I:Inv X j t (cx H D (.lst i)) s)(h:H D=M)(B:D≠X.env.locals)(C:D∉X.fs):∃g n,cg i g/\i.length<=bc/\Inv X (j++[(D,lobj g n)]) t H s:=by
 obtain⟨A,g,n,r,e⟩:=I.eR D _ aX;have k:∀c v,cx H D (.lst i) c=Y v->v ≠ .lst i->H c=Y v:=λc v q y=>by
  by_cases d:c=D
  ·subst d;rw[aX]at q;cases q;exact absurd rfl y
  ·rwa [aM d]at q
 have f:∀c,cx H D (.lst i) c=M->H c=none:=λc q=>by
  by_cases d:c=D
  ·subst d;exact h
  ·rwa [aM d]at q
 refine⟨g,n,r,A,I.ok,I.os,I.bare,⟨I.base.keep,I.base.slot,λb o q m x=>f _ (I.base.free b o q m x),I.base.there,λb l q=>k _ _ (I.base.BJ b l q) (by intro z;cases z),λb o u q=>k _ _ (I.base.Ar b o u q) (by intro z;cases z),λb w q =>?_⟩,I.loc,I.cell,f _ I.free,λx c q=>f _ (I.mZ x c q),λp q =>?_,I.eR.BH h,I.len⟩
 ·obtain⟨a,this⟩:=I.base.BK b w q;exact⟨a,k _ _ this (by intro z;cases z)⟩
 ·rw[<- bY]at q;rcases bu.mp q with q|q
  ·obtain⟨G,F,E⟩:=I.pin p q;exact⟨G,f _ F,E⟩
  ·have:p=(D,lobj g n):=by simpa using q
   subst this;exact⟨e,h,B,C,λv z=>by cases z⟩
end
theorem i_:∀(a:List (aJ×uO)) (n:Nat) (acc:List (aJ×ax)),fm n a acc=fm n a []++acc
 |[],n,acc=>rfl| (x,k)::r,n,acc=>by
  unfold fm;split
  ·rw[i_ r (n+1) ((x,n)::acc),i_ r (n+1) [(x,n)],bY];rfl
  ·exact i_ r n acc
theorem lC:∀(a:List (aJ×uO)) (n:Nat) (b:List (aJ×ax)) (x:aJ) (c:ax),(x,c)∈fm n a b->(x,c)∈b\/(x,rF)∈a
 |[],n,b,x,c,h =>.inl h| (y,k)::r,n,b,x,c,h=>by
  unfold fm at h;split at h
  ·rename_i d;rcases lC r _ _ x c h with q|q
   ·rcases aW.mp q with e|q
    ·cases e;have:k=.cell:=by simpa using d
     subst this;exact .inr Ž
    ·exact .inl q
   ·exact .inr (ay _ q)
  ·rcases lC r _ _ x c h with q|q
   ·exact .inl q
   ·exact .inr (ay _ q)
noncomputable def lR(a:List (aJ×ax)):List (aJ×uO)->List (aJ×ax)->List (aJ×ax)
 |[],b=>b|(x,k)::r,b=>if k == .free then lR a r ((x,(a.lookup x).getD 0)::b) else lR a r b
theorem sP{env:Env}(f:aJ×uO->List (aJ×ax)->Sem (ForInStep (List (aJ×ax))))
  (hf:∀name kind cs,f (name,kind) cs=if kind == .free then (do let a <- cellOf env name;dP (.yield ((name,a)::cs))) else dP (.yield cs)) :
  ∀(names:List (aJ×uO)) (acc:List (aJ×ax)),(∀y∈names,y.2=.free->∃c,env.cells.lookup y.1=Y c)->(forIn names acc f:Sem _)=dP (lR env.cells names acc)
 |[],acc,_=>by rw[List.forIn_nil];rfl
 | (x,k)::r,acc,h=>by
  rw[List.forIn_cons,hf];unfold lR;cases hk:k==iw with
  |false=>simp only[eM,if_false];exact sP f hf r acc λy hy=>h y (ay _ hy)
  |true=>
   obtain⟨c,e⟩:=h (x,k) az (by simpa using hk);have e:env.cells.lookup x=Y c:=e;have e2:cellOf env x=dP c:=by unfold cellOf;rw[e]
   simp only[if_true];rw[e2,e];exact sP f hf r _ λy hy=>h y (ay _ hy)
def Ax{env:Env}(h:∀y∈a.names,y.2=.free->∃c,env.cells.lookup y.1=Y c):closureFor a env=dP (lR env.cells a.names []):=by
 simp only[closureFor];rw[sP (env:=env) _ (λname b d=>by cases b==iw<;>rfl) a.names [] h];rfl
theorem wH:∀ {a:List (aJ×uO)}{d:List (aJ×ax)}{x:aJ}{c:ax},(x,c)∈lR b a d->(x,c)∈d\/((x,iw)∈a/\c=(b.lookup x).getD 0)
 |[],d,x,c,h =>.inl h| (y,k)::r,d,x,c,h=>by
  unfold lR at h;split at h
  ·rename_i f;rcases wH h with q|q
   ·rcases aW.mp q with e|q
    ·cases e;have:k=.free:=by simpa using f
     subst this;exact .inr ⟨Ž,rfl⟩
    ·exact .inl q
   ·exact .inr ⟨ay _ q.1,q.2⟩
  ·rcases wH h with q|q
   ·exact .inl q
   ·exact .inr ⟨ay _ q.1,q.2⟩
theorem uG:∀ {b:List (aJ×uO)}{a:List (aJ×ax)}{x:aJ},(∃c,(x,c)∈a)->∃c,(x,c)∈lR d b a
 |[],a,x,h=>h| (y,k)::r,a,x,⟨c,h⟩=>by
  unfold lR;split
  ·exact uG ⟨c,ay _ h⟩
  ·exact uG ⟨c,h⟩
theorem wI{cells:List (aJ×ax)}:∀ {a:List (aJ×uO)}{acc:List (aJ×ax)}{x:aJ},(x,iw)∈a->∃c,(x,c)∈lR cells a acc
 | (y,k)::r,acc,x,h=>by
  unfold lR;rcases aW.mp h with e|h
  ·cases e;exact uG ⟨_,az⟩
  ·split
   ·exact wI h
   ·exact wI h
theorem t5:∀ {l:List (aJ×a)}{x:aJ}{c:a},(x,c)∈l->∃d,l.lookup x=Y d
 | (y,v)::r,x,c,h=>by
  rw[dw];cases b:x==y with
  |true=>exact⟨v,rfl⟩|false=>
   rcases aW.mp h with e|h
   ·cases e;simp at b
   ·exact t5 h
theorem qJ:∀ {l r:List (aJ×a)}{x:aJ},(l++r).lookup x=(l.lookup x).or (r.lookup x)
 |[],r,x=>by simp
 | (y,v)::l,r,x=>by
  rw[uP,dw,dw];cases b:x==y with
  |true=>rfl|false=>exact qJ
theorem oA{a:Env}:∀ {b:List (aJ×uO)}{x:aJ},(b.map λ(n,k)=>if (k==iw&&a.scope.kind == .function&&a.kindOf n==Y .cell) then (n,rF) else (n,k)).lookup x =
  (b.lookup x).map λk=>if (k==iw&&a.scope.kind == .function&&a.kindOf x==Y .cell) then rF else k
 |[],_=>rfl| (n,k)::r,x=>by
  have ih :=@oA a r x;show jB x ((if (k==iw&&a.scope.kind == .function&&a.kindOf n==Y .cell)=Z' then (n,rF) else (n,k))::_)=_;cases d:x==n with
  |true=>
   have e:x=n:=by simpa using d
   subst e;by_cases c:(k==iw&&a.scope.kind == .function&&a.kindOf x==Y .cell)=Z'
   ·rw[if_pos c];simp only[dw,d,bP,if_pos c]
   ·rw[if_neg c];simp only[dw,d,bP,if_neg c]
  |false=>
   by_cases c:(k==iw&&a.scope.kind == .function&&a.kindOf n==Y .cell)=Z'
   ·rw[if_pos c];simp only[dw,d];exact ih
   ·rw[if_neg c];simp only[dw,d];exact ih
def qf{a b:Nat}(h:a<b):a<b:=h
def VE{b:Nat}(h:a<=b):a<=b:=h
def y8{a b:Nat}(h:a=b):a=b:=h
abbrev mL(X:Cx)(f:Scope)(C:ax):Env:=
 { scope:=Q3 f X.env,locals:=C,globals:=X.env.globals,cells:=fm (C+1) f.names (lR X.env.cells f.names []),qual:=X.env.qual,func:=M,code:=X.env.code,frame:=X.env.frame,builtins:=X.env.builtins }
def Cx.t_(X:Cx)(N:List aJ)(f:Scope)(C:ax)(s:av)(H:Hp)(a:List ax):Cx:=
 { X with N:=N,s₀:=s,H₀:=H,env:=mL X f C,outer:=X.stack,stack:=X.stack,ex:=a,fn:=λx=>f.names.lookup x==Y .cell,pn:=[],xe:=λ_ _=>False }
noncomputable def nY(t:List (Option Nat))(w:St):St:=t.map λo=>match o with|some j=>(w[j]?).getD M|none=>M
structure fP(X:Cx)(N:List aJ)(src:List (Option Nat))(scope:Scope):Prop where
 kind:scope.kind=.function
 uniq:∀y∈scope.names,scope.names.lookup y.1=some y.2
 free:∀y∈scope.names,y.2=.free->X.env.scope.names.lookup y.1=some .cell\/X.env.scope.names.lookup y.1=some .free
 len:src.length=N.length
 V6:∀(i j:Nat) (x:aJ),src[i]?=some (some j)->N[i]?=some x->X.N[j]?=some x/\scope.names.lookup x=some .free
section
variable {X:Cx}{s:av}{f:Scope}
def F5{g:N0}(l:∀c,(∀b o,s.heap.get? b=Y o->c.get? b=Y o)->c.Ns s.heap.objs.size (λ_=>M)->CellsOk c (s.heap.objs.size+1) (fm (s.heap.objs.size+1) f.names []) ->
   Q { scope:=f,locals:=s.heap.objs.size,globals:=X.env.globals,cells:=fm (s.heap.objs.size+1) f.names j,qual:=X.env.qual,func:=M,code:=X.env.code,frame:=X.env.frame,builtins:=X.env.builtins } { s with heap:=c }) :
  bq g A (T9 f X.env.globals j [] X.env.qual M .none (Y X.env)) Q E s:=by
 simp only[T9,Option.isSome_some,if_true];refine ah (wpAny_alloc ?_);refine ah (wpAny_layCells _ (λname a h=>by cases d:a==rF<;>simp[d]) _ _ _ _ ?_);have i:=cellsFrom_ok f.names (s.heap.push { cls :=.type "dict",data :=.dict #[] }) (s.heap.objs.size+1) [] ⟨λ_ _ k=>(nomatch k),List.Pairwise.nil⟩ (by rw[cW];exact aQ _);rw[cW]at i;rw[show ({ s with heap:=s.heap.push { cls :=.type "dict",data :=.dict #[] } }:av).heap.objs.size=s.heap.objs.size+1 from cW ..];rw[List.forIn_nil];exact ah (aE (aE (l _ (λb o e=>pushCells_keeps _ _ b o (aj _ e)) ((Heap.Ns.new s.heap (.type "dict")).keeps (pushCells_keeps _ _)) i)))
theorem mw(S:fP X N t f)(i:X.Ok)(h:(mL X f C).cells.lookup x=Y c):
  (f.names.lookup x=Y .cell/\(x,c)∈fm (C+1) f.names [])\/(f.names.lookup x=Y .free/\X.env.cells.lookup x=Y c):=by
 have h:(fm (C+1) f.names (lR X.env.cells f.names [])).lookup x=Y c:=h;rw[i_,qJ]at h;cases e:(fm (C+1) f.names []).lookup x with
 |some d=>
  rw[e]at h;have:d=c:=by simpa using h
  subst this;have q:=PySem.mem_of_lookup e;rcases lC _ _ _ _ _ q with z|z
  ·simp at z
  ·exact .inl ⟨S.uniq _ z,q⟩
 |none=>
  rw[e]at h;have h:(lR X.env.cells f.names []).lookup x=Y c:=by simpa using h
  rcases wH (PySem.mem_of_lookup h) with z|⟨z,a⟩
  ·simp at z
  ·obtain⟨d,b⟩:=i.has x (S.free _ z rfl);rw[b]at a;exact .inr ⟨S.uniq _ z,by rw[b,a];rfl⟩
def P6(S:fP X N t f)(h:f.names.lookup x=Y .cell):∃c,(mL X f C).cells.lookup x=Y c:=by
 obtain⟨c,e⟩:=zI (sc:=f) (n:=C+1) h;refine⟨c,?_⟩;show (fm (C+1) f.names (lR X.env.cells f.names [])).lookup x=Y c;rw[i_,qJ,e];rfl
def ED(S:fP X N t f)(a:X.Ok){C:ax}(h:f.names.lookup x=Y .free):∃c,(mL X f C).cells.lookup x=Y c/\X.env.cells.lookup x=Y c:=by
 have b:=PySem.mem_of_lookup h;obtain⟨d,i⟩:=wI (cells:=X.env.cells) (acc:=[]) b;obtain⟨c,j⟩:=t5 i;have e:(mL X f C).cells.lookup x=Y c:=by
  show (fm (C+1) f.names (lR X.env.cells f.names [])).lookup x=Y c;rw[i_,qJ];rcases e:(fm (C+1) f.names []).lookup x with _|d
  ·simpa using j
  rcases lC _ _ _ _ _ (PySem.mem_of_lookup e) with z|z
  ·simp at z
  ·have:=S.uniq _ z;rw[h]at this;cases this
 rcases mw S a e with⟨z,_⟩|⟨_,z⟩
 ·rw[h]at z;cases z
 ·exact⟨c,e,z⟩
def EC(x:aJ):(mL X f C).kindOf x=(f.names.lookup x).map λk=>if (k==iw&&X.env.scope.kind == .function&&X.env.kindOf x==Y .cell) then rF else k:=by
 show (Q3 f X.env).names.lookup x=_;exact oA
def Ds{i:Nat}{v:V}(h:(nY t w)[i]?=Y (Y v)):∃j,t[i]?=Y (Y j)/\w[j]?=Y (Y v):=by
 unfold nY at h;rw[aY]at h;obtain⟨o,e,h⟩:=au.1 h;rw[e];cases o with
 |none=>cases h|some j=>
  refine⟨j,rfl,?_⟩;have h:(w[j]?).getD M=Y v:=by simpa using h
  rcases q:w[j]? with _|z
  ·rw[q]at h;cases h
  rw[q]at h;rw[show z=Y v from h]
def J0{ex:List ax}{h':cF}{D C:Nat}{o:Obj}(S:fP X N t f)(I:Inv X B w H g)(J:∀b∈ex,zR X B H b)(P:∀b∈ex,∃o,g.heap.get? b=Y o)
  (hD:D=g.heap.objs.size) (hC:C=g.heap.objs.size+1) (G:∀b o,g.heap.get? b=Y o->h'.get? b=Y o) (T:h'.get? D=Y o) (R:∀v,o.data ≠ .cell v)
  (Q:h'.Ns C (λ_=>M)) (E:CellsOk h' (C+1) (fm (C+1) f.names [])) :
  Inv (X.t_ N f C g H ex) (X.pn++B++[(D,o)]) (nY t w) H { g with heap:=h' }:=by
 have lt:∀ {b:Nat}{o:Obj},g.heap.get? b=Y o->b<g.heap.objs.size:=λe=>aI e
 have fr:∀a:Nat,g.heap.objs.size<=a->H a=none:=λa h=>I.eR.fresh h
 have A:∀(x:aJ) (c:Nat),X.env.cells.lookup x=Y c->c<g.heap.objs.size:=λx c e=>by obtain⟨v,z⟩:=I.cell x c e;exact z.lt
 have d:∀ {x:aJ}{c:Nat},(x,c)∈fm (C+1) f.names []->C+1<=c:=λq=>(E.empty _ _ q).2
 refine⟨⟨I.mod,S.kind,I.ok.glob,I.ok.blt,?_,?_,?_,?_,I.ok.hd,I.ok.frames,.inl rfl,?_,I.bs,?_,?_,?_,I.stack,I.xT⟩,rfl,I.bare,Un.kept G,⟨_,Q,?_⟩,?_,?_,?_,?_,I.eR.kept G,?_⟩
 ·show g.heap.objs.size<=C;omega
 ·intro x y c s U;rcases mw S I.ok s with⟨_,a⟩|⟨_,a⟩<;>rcases mw S I.ok U with⟨_,b⟩|⟨_,b⟩
  ·exact name_of_addr E.apart a b
  ·have:C+1<=(c:Nat):=d a;have:=qf (A _ _ b);omega
  ·have:C+1<=(c:Nat):=d b;have:=qf (A _ _ a);omega
  ·exact I.ok.inj x y c a b
 ·intro x n;have n:(mL X f C).kindOf x=Y .cell\/(mL X f C).kindOf x=Y .free:=n;rw[EC]at n;rcases e:f.names.lookup x with _|k
  ·rw[e]at n;rcases n with z|z<;>cases z
  cases k with
  |cell=>exact P6 S e|free=>obtain⟨c,q,_⟩:=ED S I.ok e;exact⟨c,q⟩
  |_=>rw[e]at n;exfalso;revert n;simp
 ·intro x c n s;have n:f.names.lookup x=Y .cell:=by have:(f.names.lookup x==Y .cell)=true:=n;simpa using this
  show g.heap.objs.size<=c;rcases mw S I.ok s with⟨_,a⟩|⟨z,_⟩
  ·have:C+1<=(c:Nat):=d a;show g.heap.objs.size<=(c:Nat);omega
  ·rw[n]at z;cases z
 ·intro b F;obtain⟨L,e⟩:=P b F;have l:=qf (lt e);refine⟨λz =>?_,λx c s z =>?_⟩
  ·have z:=y8 (a:=b) (b:=C) z;omega
  ·subst z;rcases mw S I.ok s with⟨_,a⟩|⟨_,a⟩
   ·have:C+1<=(c:Nat):=d a;omega
   ·exact(J c F).2.2.2.2.1 x c a rfl
 ·show X.base.objs.size<=g.heap.objs.size;have:=I.ok.NU;have:=I.sz;omega
 ·intro b L e F;rcases(J b F).2.2.2.1 with z|z
  ·exact I.ok.Jn b L e z
  ·have e:X.base.get? b=Y L:=e;have a:=qf (aI e);have:=I.ok.NU;have z:X.s₀.heap.objs.size<=(b:Nat):=z;omega
 ·intro b F;intro z;have z:b∈yf X.stack:=z;have:=I.ue b z;rcases aW.mp this with q|q
  ·exact(J b F).2.1 q
  ·exact(J b F).2.2.1 q
 ·intro i x v s U h3;obtain⟨j,e1,e2⟩:=Ds U;obtain⟨e3,e4⟩:=S.V6 i j x e1 s;obtain⟨m,hm,hl⟩:=I.loc;have V:=S.free _ (PySem.mem_of_lookup e4) rfl;have K:TK X.env.scope x :=.inr V;obtain⟨u,r,lk⟩:=hl j x v e3 e2 K;refine⟨u,r,?_⟩;rcases lk with⟨z,_⟩|⟨_,c,ec,cc⟩
  ·exfalso;have z:X.env.scope.names.lookup x=Y .local:=z;rw[z]at V;rcases V with q|q<;>cases q
  ·obtain⟨c',q1,q2⟩:=ED (C:=C) S I.ok e4;rw[ec]at q2;cases q2;refine .inr ⟨?_,c,q1,cc.keeps G⟩;show (mL X f C).kindOf x=Y .cell\/(mL X f C).kindOf x=Y .free;rw[EC,e4,bP];split
   ·exact .inl rfl
   ·exact .inr rfl
 ·intro x c s;rcases mw S I.ok s with⟨_,a⟩|⟨_,a⟩
  ·exact⟨M,(E.empty _ _ a).1⟩
  ·obtain⟨v,z⟩:=I.cell x c a;exact⟨v,z.keeps G⟩
 ·exact fr C ž
 ·intro x c s;rcases mw S I.ok s with⟨_,a⟩|⟨_,a⟩
  ·have:C+1<=(c:Nat):=d a;exact fr c ž
  ·exact I.mZ x c a
 ·intro p O;have O:p∈X.pn++B++[(D,o)]:=by simpa [Cx.t_] using O
  rcases bu.mp O with q|q
  ·obtain⟨a1,a2,a3,a4,a5⟩:=I.pin p q;refine⟨G _ _ a1,a2,λz =>?_,λz =>?_,a5⟩
   ·have z:=y8 (a:=p.1) (b:=C) z;have q:=qf (lt a1);omega
   ·have z:p.1∈yf X.stack:=z;rcases aW.mp (I.ue _ z) with q|q
    ·exact a3 q
    ·exact a4 q
  ·have:p=(D,o):=by simpa using q
   subst this;refine⟨T,fr D ž,λz =>?_,λz =>?_,R⟩
   ·have z:D=C:=z;omega
   ·have z:D∈yf X.stack:=z;rcases aW.mp (I.ue _ z) with q|q
    ·have l:=qf I.lt;have q:=y8 (a:=D) (b:=X.env.locals) q;omega
    ·exact I.R8 (show g.heap.objs.size<=D by omega) q
 ·show (nY t w).length=N.length;unfold nY;rw[aw];exact S.len
end
section
variable {R:NH->av->Prop}{s:av}
theorem CD{f:Scope}(I:Nat->av->Prop) (j_:∀n s,I n s->bq (aV E w) A (pyNext J) (λr i=>match r with
   |none=>R (.ok .next) i| some v=>bq (aV E w) A (Ad b J v) (λ_ g=>bq (aV E w) A (NF b d v) (λ_ p=>
     bq (aV E w) A (forIn B Z' λc r=>if r=Z' then do let C <- isTrue c d (eval c d);dP (vL C) else dP (vL r)) (λC e=>
      if C=Z' then bq (aV E w) A (eval L d) (λx o=>bq (aV E w) A (GP (.builtin "list.append") [z,x]) (λ_ k=>∃m,m<n/\I m k) (λ_ _=>False) o) (λ_ _=>False) e
      else ∃m,m<n/\I m e) (λ_ _=>False) p) (λ_ _=>False) g) (λ_ _=>False) i) (λ_ _=>False) s) (n:Nat) (h:I n s) :
  nU (aV E w) A (.compLoop (.ListComp L [⟨b,G,B,0⟩] f U) 0 J z d) R s:=by
 refine codeAny_loop rfl I (λn s K =>?_) n h;show bq _ A ((compTurn (.ListComp L [⟨b,G,B,0⟩] f U) 0 J z d).onRaise (λx=>do NC x d;theTreesLotGoes x)) _ _ s;refine wpAny_noted ?_;rw[compTurn_list];refine ah (nI (ah (dJ (j_ n s K) (λr i t =>?_) λ_ _ j=>j.elim)));cases r with
 |none=>exact aE t|some v=>
  refine ah (dJ t (λ_ g y=>ah (dJ y (λ_ p H=>ah (dJ H (λC e q =>?_) λ_ _ j=>j.elim)) λ_ _ j=>j.elim)) λ_ _ j=>j.elim);cases C with
  |false=>exact aE ⟨rfl,q⟩|true=>exact ah (ah (dJ q (λx o F=>ah (dJ F (λ_ k D=>aE (aE ⟨rfl,D⟩)) λ_ _ j=>j.elim)) λ_ _ j=>j.elim))
end
def NX(Z:List Nat)(g:TG):Prop:=∀x c H (Q:St->Hp->Prop),g x c H Q->g x c H λb d=>(b.length=c.length/\∀i,i∉Z->b[i]?=c[i]?)/\Q b d
def gy(i:Nat):NX [i] (oB i):=λx c H Q h=>⟨⟨Ž,λj b=>by
 have:i≠j:=λe=>b (by simp[e])
 rw[ai this]⟩,h⟩
def E9(X:Cx)(B:List Expr)(t:TT):Prop:=
 ∀(b:List (ax×Obj)) (s:av) (d:St) (H:Hp) (Q:Bool->Hp->Prop),Inv X b d H s->t d H Q ->
  bq (aV X.prog X.w) X.A (forIn B Z' λc r=>if r=Z' then do let e <- isTrue c X.env (eval c X.env);dP (vL e) else dP (vL r)) (TP X b d Q) X.xe s
def UW:TT:=λ_ H Q=>Q Z' H
section
variable {X:Cx}
def OG:E9 X [] UW:=λb s c H Q I h=>wpAny_tests_nil ⟨H,I,h⟩
def OF(h:PT X c t):E9 X [c] t:=λb s d H Q I q=>wpAny_tests_one (h b s d H Q I q)
end
def Rn(l:TI)(src:List (Option Nat))(g:TG)(u:TT)(O:TE):TE:=λk H Q=>l k H λJ r=>∃W:Nat->Nat->List V->Hp->Prop,(∃m,W 0 m [] r)/\∀i m e H,W i m e H ->
 (J.stop i H/\∀D,H D=M->Q (.ref D) (cx H D (.lst e))) \/
 (J.go i H/\e.length<bc/\∃j:List V->Hp->Prop,(∀d h,j d h->∃n,n<m/\W (i+1) n d h)/\∀x h,J.NM i H x h ->
  g x (nY src k) h λc q=>u c q λb o=>if b=Z' then O c o λv p=>j (e++[v]) p else j e o)
section
variable {X:Cx}{f:Scope}
def Bv{s:av}{F:List (ax×Obj)}{RR:ak->ax->NH->av->Prop}(S:fP X N src f)(hc:X.calm=Z')(hi:PI X a G l)(ag:NX Z g)(ho:∀i∈Z,src[i]?=Y M)(E:∀C s H ex,PG (X.t_ N f C s H ex) a g/\E9 (X.t_ N f C s H ex) B u/\PE (X.t_ N f C s H ex) L O)(I:Inv X F σ H s)(h:Rn l src g u O σ H Q) (hRR:∀(D C:ax) (s':av) (H':Hp),Inv X F σ H' s'->(∃m,s'.heap.Ns C m)->H' C=M->C≠X.env.locals->(C∈X.ex\/X.s₀.heap.objs.size<=C)->(∀x c,X.env.cells.lookup x=Y c->c≠C)->(∀p∈X.pn++F,p.1≠C) ->
   Q (.ref D) H'->RR (.ref D) C (.ok .next) s') :
  bq (aV X.prog X.w) X.A (eval G X.env) (λx s₁=>bq (aV X.prog X.w) X.A (pyIter x) (λit s₂=>bq (aV X.prog X.w) X.A (newList []) (λacc s₃=>
   bq (aV X.prog X.w) X.A (T9 f X.env.globals (lR X.env.cells f.names []) [] X.env.qual M .none (Y X.env)) (λWq s₄=>
    nU (aV X.prog X.w) X.A (.compStart (.ListComp L [⟨a,G,B,0⟩] f U) 0 it acc { Wq with scope:=Q3 f X.env }) (RR acc Wq.locals) s₄) X.xe s₃) X.xe s₂) X.xe s₁) X.xe s:=by
 refine fw (hi F s σ H _ I h) λv s1 h1=>fw h1 λitv A h2 =>?_
 obtain⟨it,fp,tn,J,H2,e,I2,T,Rr,f2,W,⟨m0,w0⟩,j_⟩:=h2;subst e;refine J_ ?_;generalize YI:A.heap.push { cls :=.type "list",dict:=M,data :=.seq ([]:List ak).toArray }=h3;have sz3:h3.objs.size=A.heap.objs.size+1:=by rw[<- YI,cW]
 have k3:∀b o,A.heap.get? b=Y o->h3.get? b=Y o:=λb o e=>YI ▸ aj _ e
 have d3:h3.get? A.heap.objs.size=Y (lobj [] 0):=YI ▸ bz _ rfl;refine F5 (X:=X) (s:={ A with heap:=h3 }) λh4 k4 ns4 Zs =>?_
 rw[show ({ A with heap:=h3 }:av).heap.objs.size=A.heap.objs.size+1 from sz3]at ns4 Zs ⊢;have YB:∀b o,A.heap.get? b=Y o->h4.get? b=Y o:=λb o e=>k4 b o (k3 b o e)
 have Y7:∀b∈fp,∃o,A.heap.get? b=Y o:=λb E=>by obtain⟨o,e,_⟩:=T.obj _ _ Rr b E;exact⟨o,e⟩
 have I4:=J0 (ex:=fp) (h':=h4) (D:=A.heap.objs.size) (C:=A.heap.objs.size+1) (o:=lobj [] 0) S I2 f2 Y7 rfl rfl YB (k4 _ _ d3) (λv z=>by cases z) ns4 Zs;have I4:Inv (X.t_ N f (A.heap.objs.size+1) A H2 fp) (X.pn++F++[(A.heap.objs.size,lobj [] 0)]) (nY src σ) H2 { A with heap:=h4 }:=I4;generalize hX:X.t_ N f (A.heap.objs.size+1) A H2 fp=P at I4;obtain⟨pg,pt,pe⟩:=E (A.heap.objs.size+1) A H2 fp;rw[hX]at pg pt pe;have K:P.prog=X.prog:=by rw[<- hX];rfl
 have ew:P.w=X.w:=by rw[<- hX];rfl
 have eK:P.K=X.K:=by rw[<- hX];rfl
 have eA:P.A=X.A:=by rw[<- hX];rfl
 have QW:P.calm=true:=by rw[<- hX];exact hc
 have Xj:P.xe=λ_ _=>False:=by rw[<- hX];rfl
 have MH:P.env=mL X f (A.heap.objs.size+1):=by rw[<- hX];rfl
 have S9:P.pn=[]:=by rw[<- hX];rfl
 have Xk:P.s₀=A:=by rw[<- hX];rfl
 have eH0:P.H₀=H2:=by rw[<- hX];rfl
 have eex:P.ex=fp:=by rw[<- hX];rfl
 have Y':P.fs=yf X.stack:=by rw[<- hX];rfl
 have Xi:P.env.locals=A.heap.objs.size+1:=by rw[MH]
 have hDC:A.heap.objs.size≠P.env.locals:=by rw[Xi];exact bI (js _)
 have hDF:A.heap.objs.size∉P.fs:=by
  rw[Y'];intro z;rcases aW.mp (I2.ue _ z) with q|q
  ·exact absurd (y8 q) (fS (qf I2.lt))
  ·exact I2.R8 (aQ _) q
 have hpD:∀p∈P.pn++(X.pn++F),p.1≠A.heap.objs.size:=λp hp=>by rw[S9,dk]at hp;exact bI (qf (aI (I2.pin p hp).1))
 have fpD:∀b∈fp,b≠A.heap.objs.size:=λb E=>by obtain⟨o,e⟩:=Y7 b E;exact bI (qf (aI e))
 have Ft:∀ {P':List (ax×Obj)}{H':Hp},(∀p∈P',p∈X.pn++F\/p.1=A.heap.objs.size)->(∀b∈fp,H' b=M)->∀b∈fp,zR P P' H' b:=fun {P' H'} hP hn b E=>by
  obtain⟨a1,a2,a3,a4,a5,a6⟩:=f2 b E;obtain⟨o,e⟩:=Y7 b E;have w:=qf (aI e);refine⟨hn b E,?_,?_,.inl (by rw[eex];exact E),λx c q z =>?_,λp hp z =>?_⟩
  ·rw[Xi];exact bI (tG w)
  ·rw[Y'];intro z;rcases aW.mp (I2.ue b z) with q|q
   ·exact a2 q
   ·exact a3 q
  ·subst z;rw[MH]at q;rcases mw S I2.ok q with⟨_,r⟩|⟨_,r⟩
   ·have:=VE (Zs.empty _ _ r).2;omega
   ·exact a5 x c r rfl
  ·rw[S9,dk]at hp;rcases hP p hp with q|q
   ·exact a6 p q z
   ·exact fpD b E (z.symm.trans q)
 have Ny:nU (aV X.prog X.w) X.A (.compLoop (.ListComp L [⟨a,G,B,0⟩] f U) 0 (.ref it) (.ref A.heap.objs.size) (mL X f (A.heap.objs.size+1))) (RR (.ref A.heap.objs.size) (A.heap.objs.size+1)) { A with heap:=h4 }:=by
  refine CD (λn s'=>∃i ys R nn H',Inv P (X.pn++F++[(A.heap.objs.size,lobj R nn)]) (nY src σ) H' s'/\cg ys R/\ys.length<=bc/\tn i s'.heap/\(∀b∈fp,H' b=M)/\W i n ys H') ?_ m0
   ⟨0,[],[],0,H2,I4,.nil,cy _,T.keep _ _ _ Rr (λb _ o e=>YB b o e),λb E=>(f2 b E).1,w0⟩
  rintro n s5 ⟨i,ys,R,nn,H5,I5,r5,z5,Uq,Ux,w5⟩;have Yj:∀p∈X.pn++F++[(A.heap.objs.size,lobj R nn)],p∈X.pn++F\/p.1=A.heap.objs.size:=λp hp=>by
   rcases bu.mp hp with q|q
   ·exact .inl q
   ·exact .inr (by rw[show p=(A.heap.objs.size,lobj R nn) by simpa using q])
  rcases j_ i n ys H5 w5 with⟨stop,qn⟩|⟨go,lt5,Nx,hN,step⟩
  ·have d:=T.done P K ew eK QW i _ s5 (nY src σ) H5 (λ_ _=>False) I5 (Ft Yj Ux) Uq stop;rw[eA]at d;refine fw d λr s6 YK =>?_
   obtain⟨hr,I6⟩:=YK;subst hr;have UJ:Inv P (X.pn++F) (nY src σ) (cx H5 A.heap.objs.size (.lst ys)) s6:=I6.GY r5 z5 (by rw[Xk];exact aQ _) hpD;have hD5:H5 A.heap.objs.size=none:=(I6.pin (A.heap.objs.size,lobj R nn) Ž).2.1;have Un6:=UJ.base;rw[Y',eex,eH0,Xk]at Un6;have Z5:=UJ.os;rw[Xk]at Z5;have VX:=UJ.eR;rw[K,ew]at VX;have J6:Inv X F σ (cx H5 A.heap.objs.size (.lst ys)) s6:=I2.zJ Z5 Un6 VX UJ.bare λb E=>⟨(f2 b E).2.2.2.1,(f2 b E).2.1,(f2 b E).2.2.2.2.1,(f2 b E).2.2.2.2.2⟩
   obtain⟨m,hm,_⟩:=UJ.loc;rw[Xi]at hm;have fC:=UJ.free;rw[Xi]at fC;refine hRR _ _ s6 _ J6 ⟨m,hm⟩ fC ?_ (.inr ?_) ?_ ?_ (qn _ hD5)
   ·exact λz=>absurd (y8 z) (fS (tG (qf I2.lt)))
   ·exact tH I2.sz
   ·intro x c q z;obtain⟨v,cc⟩:=I2.cell x c q;have:=qf cc.lt;have z:=y8 z;omega
   ·intro p hp z;have:=qf (aI (I2.pin p hp).1);have z:=y8 z;omega
  ·have d:=T.item P K ew eK QW i _ s5 (nY src σ) H5 (λ_ _=>False) I5 (Ft Yj Ux) Uq go;rw[eA]at d;refine fw d λr s6 YK =>?_
   obtain⟨t,hr,h6⟩:=YK;subst hr;refine fw h6 λ_ s7 h7 =>?_
   obtain⟨x,H7,I7,r7,y7,Vd,fr7⟩:=h7;have I7':=I7.pinned (Ft Yj fr7) (T.obj _ _ Vd);have g7:=pg _ s7 (nY src σ) H7 x t _ I7' r7 (ag _ _ _ _ (step x H7 y7));rw[eA,Xj,K,ew,MH]at g7;refine fw g7 λ_ s8 h8 =>?_
   obtain⟨σ8,H8,I8,⟨l8,a8⟩,q8⟩:=h8;have t8:=pt _ s8 σ8 H8 _ I8 q8;rw[eA,Xj,K,ew,MH]at t8;refine fw t8 λok s9 h9 =>?_
   obtain⟨H9,I9,q9⟩:=h9;have weak:∀ {P':List (ax×Obj)}{H':Hp}{s':av},Inv P P' σ8 H' s'->Inv P P' (nY src σ) H' s':=λJ=>J.weak l8.symm λj v hj=>by
    obtain⟨k,e1,_⟩:=Ds hj;have:j∉Z:=λz=>by have:=ho j z;rw[e1]at this;cases this
    rw[a8 j this];exact hj
   cases ok with
   |false=>have q9:Nx ys H9:=q9;obtain⟨m',YU,w9⟩:=hN _ _ q9;refine⟨m',YU,i+1,ys,R,nn,H9,(weak I9).nW,r5,z5,T.keep _ _ _ Vd λb E o e=>(I9.pin (b,o) (aG _ (aG _ (kF E e)))).1,λb E =>?_,w9⟩;obtain⟨o,e,d⟩:=T.obj _ _ Vd b E;exact(I9.pin (b,o) (aG _ (aG _ (kF E e)))).2.1
   |true=>
    have q9:O σ8 H9 λv H4=>Nx (ys++[v]) H4:=q9
    have e9:=pe _ s9 σ8 H9 _ I9 q9;rw[eA,Xj,K,ew,MH]at e9;refine fw e9 λxv Z3 h10 =>?_
    obtain⟨y,UK,I10,r10,q10⟩:=h10;have J10:Inv P (X.pn++F++uq fp s7.heap++[(A.heap.objs.size,lobj R nn)]) σ8 UK Z3:=I10.x5 λp hp=>by
     refine I10.pin p ?_;rw[S9,dk];rcases bu.mp hp with q|q
     ·rcases bu.mp q with q|q
      ·exact bj _ (bj _ q)
      ·exact aG _ q
     ·exact bj _ (aG _ q)
    have nD:∀p∈P.pn++(X.pn++F++uq fp s7.heap),p.1≠A.heap.objs.size:=λp hp=>by
     rw[S9,dk]at hp;rcases bu.mp hp with q|q
     ·exact hpD p (by rw[S9,dk];exact q)
     ·exact fpD _ (A4 q).1
    have Y5:UK A.heap.objs.size=none:=(J10.pin (A.heap.objs.size,lobj R nn) Ž).2.1;have T10:=J10.GY r5 z5 (by rw[Xk];exact aQ _) nD;have ap:=kO (X:=P) _ Z3 σ8 _ (.ref A.heap.objs.size) [y] (.ref A.heap.objs.size) [xv] (λv H'=>v=.dg/\H'=cx (cx UK A.heap.objs.size (.lst ys)) A.heap.objs.size (.lst (ys++[y]))) T10 rfl (.cons r10 .nil) ⟨_,ys,y,rfl,rfl,aX,lt5,rfl,rfl⟩;rw[eA,Xj,K,ew]at ap;refine fw ap λ_ Z2 Y6 =>?_
    obtain⟨v11,H11,I11,_,_,e11⟩:=Y6;subst e11;rw[N_]at I11;obtain⟨its',nn',r11,z11,ZK⟩:=I11.BH Y5 hDC hDF;obtain⟨m',YU,w11⟩:=hN _ _ q10;have I13:Inv P (X.pn++F++[(A.heap.objs.size,lobj its' nn')]) (nY src σ) UK Z2:=(weak ZK).x5 λp hp=>by
     refine ZK.pin p ?_;rw[S9,dk];rcases bu.mp hp with q|q
     ·exact bj _ (bj _ q)
     ·exact aG _ q
    have Vr:∀b∈fp,∀o,s7.heap.get? b=Y o->Z2.heap.get? b=Y o/\UK b=none:=λb E o e=>by have:=ZK.pin (b,o) (by rw[S9,dk];exact bj _ (aG _ (kF E e)));exact⟨this.1,this.2.1⟩
    refine⟨m',YU,i+1,ys++[y],its',nn',UK,I13,r11,z11,T.keep _ _ _ Vd λb E o e=>(Vr b E o e).1,λb E =>?_,w11⟩;obtain⟨o,e,d⟩:=T.obj _ _ Vd b E;exact(Vr b E o e).2
 have st4:tn 0 h4:=T.keep _ _ _ Rr λb _ o e=>YB b o e
 exact codeAny_compStart_list Ny (T.self _ 0 _ _ _ st4 Ny)
end
section
variable {X:Cx}{f:List (Option Nat)}
def EE{s:av}(S:fP X N f c)(I:Inv X a b H s):closureFor c X.env=dP (lR X.env.cells c.names []):=
 Ax λy d e=>I.ok.has y.1 (S.free y d e)
def Lw(S:fP X N f c)(P:X.calm=Z')(O:PI X r l w)(ag:NX B g)(K:∀i∈B,f[i]?=Y M)(p:∀C s H v,PG (X.t_ N c C s H v) r g/\E9 (X.t_ N c C s H v) u j/\PE (X.t_ N c C s H v) t k)(G:autoParam (∀x,cI l X.env x=dP x) ů):PE X (.ListComp t [⟨r,l,u,0⟩] c A) (Rn w f g j k):=by
 intro a s z H Q I h;rw[eval_ListComp];refine wpAny_comprehension_free (use:=M) rfl G (EE S I) S.kind (λx F V=>by rw[S.uniq x F,V]) ?_;refine Bv (RR:=λy C=>compPost (aV X.prog X.w) X.A X.xe M (EP X a z Q) y C) S P O ag K p I h ?_;intro D C E H' J n L R h1 U T q;obtain⟨m,n⟩:=n;exact⟨m,n,λh' d=>⟨.ref D,H',J.turned (h':=h') (t':=E.toks) (λb o p e=>d.extBut b o p e) L R h1 U T,rfl,q⟩⟩
def yP{F:Pos}(S:fP X N f c)(hc:X.calm=Z')(hN:X.N.Nodup)(hy:X.N[i]?=Y y)(K:X.env.scope.names.lookup y=Y .local)(hi:PI X r l w)(ag:NX B g)(ho:∀i∈B,f[i]?=Y M)(Q:∀C s H T,PG (X.t_ N c C s H T) r g/\E9 (X.t_ N c C s H T) u j/\PE (X.t_ N c C s H T) t k)(V:cj (.ListComp t [⟨r,l,u,0⟩] c A) (Y (.Name y F)) n.line X.env=dP Z')(hs:autoParam (∀x,cI l X.env x=dP x) ů):
  PS X (.Assign [.Name y F] (.ListComp t [⟨r,l,u,0⟩] c A) n) (IQ (Rn w f g j k) (oB i)):=by
 intro p s σ H D I h;have h:Rn w f g j k σ H λv H1=>D.nx (σ.set i (Y v)) H1:=h
 rw[exec_Assign_Name_used _ _ _ _ V];refine ah (nI (ah ?_));show bq _ X.A (do let _ <- comprehension (.ListComp t [⟨r,l,u,0⟩] c A) c X.env _ (newList []) Z_ (eval l X.env) (Y (NF (.Name y F) X.env))) _ _ s;refine ah (dJ (wpAny_comprehension_free (use:=Y (NF (.Name y F) X.env)) (Q:=λ_ E=>SP X p D .next E) rfl hs (EE S I) S.kind (λx hx K=>by rw[S.uniq x hx,K])
  (Bv (RR:=λU C=>compPost (aV X.prog X.w) X.A X.xe (Y (NF (.Name y F) X.env)) (λ_ E=>SP X p D .next E) U C) S hc hi ag ho Q I h ?_))
  (λ_ E hq=>aE (aE hq)) λ_ _ e=>e)
 intro d C E H' J P hn hL h1 h2 h3 q;obtain⟨m,P⟩:=P;refine wpAny_assign_Name (AN J hN hy (.inl K) (v :=.ref d) rfl (λL J' G =>?_) (.inr K));obtain⟨a,sb,ha⟩:=G;have R:C≠a:=by
  rcases ha with z|z
  ·rw[z];exact hL
  ·exact λe=>h2 _ _ z e.symm
 exact⟨m,P.sameBut sb R,λh' O=>⟨_,H',J'.turned (h':=h') (t':=L.toks) (λb o Q e=>O.extBut b o Q e) hn hL h1 h2 h3,q⟩⟩
end
inductive Sk where
 |lf
 |li (s:Sk)
 |fs (c:aJ) (fk:List (aJ×Sk))
 |di
inductive Pt where
 |fld (f:aJ)
 |ix (k:Nat)
abbrev zP:=List Pt
inductive D where
 |dg|bl (b:Bool)|int (i:Int)|str (x:aJ)|lst (xs:List D)|tup (xs:List D)|jt (ns:List Int)
 |ins (c:aJ) (ks:List aJ) (ds:List D)
 |iZ (ks:List lL) (ds:List D)
 |obj (s:Sk) (t:D)
 |eB (r:Nat) (p:zP)
mutual
def cJ(K:aT)(G:Hp):D->V->Prop
 |.dg,v=>v=.dg|.bl b,v=>v=.bl b|.int i,v=>v=.int i|.str x,v=>v=.str x|.lst e,v=>∃a d,v=.ref a/\G a=Y (.lst d)/\bE K G e d|.tup e,v=>∃a d,v=.ref a/\G a=Y (.tup d)/\bE K G e d|.jt g,v=>∃a,v=.ref a/\m_ K G a (g.map V.int)|.ins c f e,v=>∃a C h d,v=.ref a/\iy K aP c=Y (Y (.ref C))/\G a=Y (.ins C h (f.zip d))/\f.length=e.length/\bE K G e d
 |.iZ f e,v=>∃a d,v=.ref a/\G a=Y (.dK (f.zip d))/\f.length=e.length/\bE K G e d|.obj _ t,v=>cJ K G t v|.eB _ _,v=>∃a,v=.ref a
def bE(K:aT)(G:Hp):List D->List V->Prop
 |[],a=>a=[]|d::b,a=>∃v r,a=v::r/\cJ K G d v/\bE K G b r
end
mutual
theorem cJ.mono{K:aT}(s:bC G G'):∀(d:D){v:V},cJ K G d v->cJ K G' d v
 |.dg,v,h=>by simpa only [cJ] using h
 |.bl _,v,h=>by simpa only [cJ] using h
 |.int _,v,h=>by simpa only [cJ] using h
 |.str _,v,h=>by simpa only [cJ] using h
 |.lst f,v,h=>by simp only[cJ]at h ⊢;obtain⟨a,b,e,q,r⟩:=h;exact⟨a,b,e,s _ _ q,bE.mono s f r⟩
 |.tup f,v,h=>by simp only[cJ]at h ⊢;obtain⟨a,b,e,q,r⟩:=h;exact⟨a,b,e,s _ _ q,bE.mono s f r⟩
 |.jt j,v,h=>by simp only[cJ]at h ⊢;obtain⟨a,e,q⟩:=h;exact⟨a,e,s.seq q⟩
 |.ins c g f,v,h=>by simp only[cJ]at h ⊢;obtain⟨a,C,i,b,e,n,q,l,r⟩:=h;exact⟨a,C,i,b,e,n,s _ _ q,l,bE.mono s f r⟩
 |.iZ g f,v,h=>by simp only[cJ]at h ⊢;obtain⟨a,b,e,q,l,r⟩:=h;exact⟨a,b,e,s _ _ q,l,bE.mono s f r⟩
 |.obj _ t,v,h=>by simp only[cJ]at h ⊢;exact cJ.mono s t h
 |.eB _ _,v,h=>by simpa only [cJ] using h
theorem bE.mono{K:aT}(s:bC G G'):∀(b:List D){a:List V},bE K G b a->bE K G' b a
 |[],a,h=>by simpa only [bE] using h
 |d::b,a,h=>by simp only[bE]at h ⊢;obtain⟨v,r,e,q,t⟩:=h;exact⟨v,r,e,cJ.mono s d q,bE.mono s b t⟩
end
section
variable {K:aT}
def gv{v:V}:cJ K G .dg v↔v=.dg:=by simp only[cJ]
def dB{v:V}:cJ K G (.bl b) v↔v=.bl b:=by simp only[cJ]
def bU{v:V}:cJ K G (.int i) v↔v=.int i:=by simp only[cJ]
def gu{v:V}:cJ K G (.str x) v↔v=.str x:=by simp only[cJ]
def cS{v:V}:cJ K G (.lst c) v↔∃a b,v=.ref a/\G a=Y (.lst b)/\bE K G c b:=by simp only[cJ]
def eP{v:V}:cJ K G (.tup c) v↔∃a b,v=.ref a/\G a=Y (.tup b)/\bE K G c b:=by simp only[cJ]
def Hk{v:V}:cJ K G (.jt b) v↔∃a,v=.ref a/\m_ K G a (b.map V.int):=by simp only[cJ]
def ni{v:V}:cJ K G (.ins c b d) v↔∃a C f e,v=.ref a/\iy K aP c=Y (Y (.ref C))/\G a=Y (.ins C f (b.zip e))/\b.length=d.length/\bE K G d e:=by simp only[cJ]
def BZ{v:V}:cJ K G (.iZ b c) v↔∃a d,v=.ref a/\G a=Y (.dK (b.zip d))/\b.length=c.length/\bE K G c d:=by simp only[cJ]
def qE{s:Sk}{v:V}:cJ K G (.obj s t) v↔cJ K G t v:=by simp only[cJ]
def sY{v:V}:cJ K G (.eB r p) v↔∃a,v=.ref a:=by simp only[cJ]
def cP:bE K G [] a↔a=[]:=by simp only[bE]
def bH:bE K G (d::b) a↔∃v r,a=v::r/\cJ K G d v/\bE K G b r:=by simp only[bE]
def bE.cons{d:D}{v:V}(h:cJ K G d v)(t:bE K G b a):bE K G (d::b) (v::a):=bH.mpr ⟨v,a,rfl,h,t⟩
def bE.nil:bE K G [] []:=cP.mpr rfl
theorem bE.length:∀ {ds:List D}{a:List V},bE K G ds a->ds.length=a.length
 |[],a,h=>by rw[cP.mp h];rfl
 |d::ds,a,h=>by obtain⟨v,r,rfl,_,t⟩:=bH.mp h;simp[bE.length t]
theorem bE.get:∀ {b:List D}{a:List V}{i:Nat}{d:D},bE K G b a->b[i]?=Y d->∃v,a[i]?=Y v/\cJ K G d v
 |[],a,i,d,h,e=>by simp at e
 |c::b,a,0,d,h,e=>by obtain⟨v,r,rfl,q,t⟩:=bH.mp h;simp at e;subst e;exact⟨v,rfl,q⟩
 |c::b,a,i+1,d,h,e=>by obtain⟨v,r,rfl,q,t⟩:=bH.mp h;obtain⟨u,g,f⟩:=bE.get (i:=i) t (by simpa using e);exact⟨u,by simpa using g,f⟩
theorem bE.append:∀ {e c:List D}{a b:List V},bE K G e a->bE K G c b->bE K G (e++c) (a++b)
 |[],c,a,b,h,k=>by rw[cP.mp h];exact k
 |d::e,c,a,b,h,k=>by obtain⟨v,r,rfl,q,t⟩:=bH.mp h;exact .cons q (bE.append t k)
theorem bE.take:∀ {b:List D}{a:List V}(n:Nat),bE K G b a->bE K G (b.take n) (a.take n)
 |[],a,n,h=>by rw[cP.mp h];simp;exact .nil
 |d::b,a,0,h=>by simp;exact .nil
 |d::b,a,n+1,h=>by obtain⟨v,r,rfl,q,t⟩:=bH.mp h;exact .cons q (bE.take n t)
theorem bE.drop:∀ {ds:List D}{a:List V}(n:Nat),bE K G ds a->bE K G (ds.drop n) (a.drop n)
 |[],a,n,h=>by rw[cP.mp h];simp;exact .nil
 |d::ds,a,0,h=>by simpa using h
 |d::ds,a,n+1,h=>by obtain⟨v,r,rfl,q,t⟩:=bH.mp h;exact bE.drop n t
theorem bE.set:∀ {b:List D}{a:List V}{d:D}{v:V}(n:Nat),bE K G b a->cJ K G d v->bE K G (b.set n d) (a.set n v)
 |[],a,d,v,n,h,q=>by rw[cP.mp h];simp;exact .nil
 |c::b,a,d,v,0,h,q=>by obtain⟨u,r,rfl,_,t⟩:=bH.mp h;exact .cons q t
 |c::b,a,d,v,n+1,h,q=>by obtain⟨u,r,rfl,p,t⟩:=bH.mp h;exact .cons p (bE.set n t q)
def bE.dropLast(h:bE K G b a):bE K G b.dropLast a.dropLast:=by
 rw[Q6,Q6,h.length];exact h.take _
theorem bE.rep(h:bE K G b a):∀k:Nat,bE K G (bt k b).flatten (bt k a).flatten
 |0 =>.nil|k+1=>by rw[gH,gH,kq,kq];exact h.append (bE.rep h k)
theorem bE.ints:∀(a:List Int),bE K G (a.map D.int) (a.map V.int)
 |[] =>.nil|n::a =>.cons (bU.mpr rfl) (bE.ints a)
end
structure gc(G H G' H':Hp):Prop where
 hh:bC H H'
 gg:bC G G'
 gh:bC G' H'
 fr:∀b o,G' b=some o->G b=some o\/H b=none
def gc.refl(s:bC G H):gc G H G H:=⟨bC.refl _,bC.refl _,s,λ_ _ e =>.inl e⟩
def gc.trans{f:Hp}(a:gc G H h f)(b:gc h f g d):gc G H g d:=
 ⟨a.hh.trans b.hh,a.gg.trans b.gg,b.gh,λc o e=>by
  rcases b.fr c o e with q|q
  ·exact a.fr c o q
  ·exact .inr (a.hh.free q)⟩
def bC.alloc{p:ax}{o:HO}(h:H p=M):bC H (cx H p o):=λb u e=>by rw[aM (bf e h)];exact e
def bC.both(s:bC G H):bC (cx G p o) (cx H p o):=λb u e=>by
 by_cases a:b=p
 ·subst a;rw[aX]at e ⊢;exact e
 ·rw[aM a]at e ⊢;exact s _ _ e
def gc.alloc{p:ax}{o:HO}(s:bC G H)(h:H p=M):gc G H (cx G p o) (cx H p o):=
 ⟨.alloc h,.alloc (s.free h),s.both,λb u e=>by
  by_cases a:b=p
  ·subst a;exact .inr h
  ·rw[aM a]at e;exact .inl e⟩
def gc.lay{p:ax}{o:HO}(s:bC G H)(h:H p=M):gc G H G (cx H p o):=
 ⟨.alloc h,bC.refl _,s.trans (.alloc h),λ_ _ e =>.inl e⟩
def gc.freeze(E:gc G H G' c)(h:H p=M)(g:G' p=M)(e:c p=Y o):gc G H (cx G' p o) c:=
 ⟨E.hh,E.gg.trans (.alloc g),λb u q=>by
  by_cases a:b=p
  ·subst a;rw[aX]at q;cases q;exact e
  ·rw[aM a]at q;exact E.gh _ _ q,λb u q=>by
  by_cases a:b=p
  ·subst a;exact .inr h
  ·rw[aM a]at q;exact E.fr _ _ q⟩
def jd(K:aT)(G:Hp):D->HO->Prop
 |.lst b,o=>∃a,o=.lst a/\bE K G b a|.ins c d b,o=>∃C e a,o=.ins C e (d.zip a)/\iy K aP c=Y (Y (.ref C))/\d.length=b.length/\bE K G b a|.iZ d b,o=>∃a,o=.dK (d.zip a)/\d.length=b.length/\bE K G b a|_,_=>False
section
variable {K:aT}
def jd.mono(s:bC G G'){d:D}(h:jd K G d o):jd K G' d o:=by
 cases d with
 |lst b=>obtain⟨a,e,r⟩:=h;exact⟨a,e,bE.mono s b r⟩
 |ins c f b=>obtain⟨C,g,a,e,n,l,r⟩:=h;exact⟨C,g,a,e,n,l,bE.mono s b r⟩
 |iZ f b=>obtain⟨a,e,l,r⟩:=h;exact⟨a,e,l,bE.mono s b r⟩
 |_=>exact h.elim
def jd.rep{d:D}(h:jd K G d o)(e:G a=Y o):cJ K G d (.ref a):=by
 cases d with
 |lst f=>obtain⟨b,rfl,r⟩:=h;exact cS.mpr ⟨a,b,rfl,e,r⟩
 |ins c g f=>obtain⟨C,i,b,rfl,n,l,r⟩:=h;exact ni.mpr ⟨a,C,i,b,rfl,n,e,l,r⟩
 |iZ g f=>obtain⟨b,rfl,l,r⟩:=h;exact BZ.mpr ⟨a,b,rfl,e,l,r⟩
 |_=>exact h.elim
end
end L2
namespace L2
open PySem
noncomputable def c_(a:List (aJ×Sk))(k:aJ):Sk:=(a.lookup k).getD .lf
mutual
inductive cE (K:aT) (G H:Hp):Sk->D->V->List ax->Prop
 |leaf {d:D}{v:V}:cJ K G d v->cE K G H .lf d v []
 |lst {s:Sk}{ds:List D}{a:ax}{vs:List V}{S:List ax}:H a=some (.lst vs)->fW K G H (bt ds.length s) ds vs S->cE K G H (.li s) (.lst ds) (.ref a) (a::S)
 | ins {c:aJ}{ks:List aJ}{fk:List (aJ×Sk)}{ds:List D}{a C dx:ax}{vs:List V}{S:List ax}:iy K aP c=some (some (.ref C))->H a=some (.ins C dx (ks.zip vs))->ks.length=ds.length ->
   fW K G H (ks.map (c_ fk)) ds vs S->cE K G H (.fs c fk) (.ins c ks ds) (.ref a) (a::S)
 |iZ {ks:List lL}{ds:List D}{a:ax}{vs:List V}:H a=some (.dK (ks.zip vs))->ks.length=ds.length->bE K G ds vs->cE K G H .di (.iZ ks ds) (.ref a) [a]
inductive fW (K:aT) (G H:Hp):List Sk->List D->List V->List ax->Prop
 |nil:fW K G H [] [] [] []
 |cons {s:Sk}{ss:List Sk}{d:D}{ds:List D}{v:V}{vs:List V}{S T:List ax}:cE K G H s d v S->fW K G H ss ds vs T->fW K G H (s::ss) (d::ds) (v::vs) (S++T)
end
section
variable {K:aT}{f:Hp}
def cE.mono{d:D}{v:V}{S:List ax}(g:bC G f)(h:∀b∈S,∀o,H b=Y o->i b=Y o)(x:cE K G H c d v S):cE K f i c d v S:=by
 induction x using cE.rec (motive_2:=λe j d S _=>(∀b∈S,∀o,H b=Y o->i b=Y o)->fW K f i e j d S) with
 |leaf r=>exact .leaf (cJ.mono g _ r)|lst e t j=>exact .lst (h _ az _ e) (j λb a=>h b (ay _ a))
 |ins n e l t j=>exact .ins n (h _ az _ e) l (j λb a=>h b (ay _ a))
 |iZ e l t=>exact .iZ (h _ az _ e) l (bE.mono g _ t)|nil=>exact .nil|cons a t j k=>rename_i h;exact .cons (j λb c=>h b (bj _ c)) (k λb c=>h b (aG _ c))
def fW.mono{d:List V}{S:List ax}(g:bC G f)(h:∀b∈S,∀o,H b=Y o->i b=Y o)(x:fW K G H e j d S):fW K f i e j d S:=by
 induction x using fW.rec (motive_1:=λ_ _ _ _ _=>True) with
 |nil=>exact .nil|cons a t _ k=>exact .cons (cE.mono g (λb c=>h b (bj _ c)) a) (k λb c=>h b (aG _ c))
 |_=>trivial
def FQ(H:Hp)(b:ax):Prop:=∃o,H b=Y o/\∀a,o ≠ .tup a
def cE.here{v:V}{S:List ax}(x:cE K G H g d v S):∀b∈S,FQ H b:=by
 induction x using cE.rec (motive_2:=λ_ _ _ S _=>∀b∈S,FQ H b) with
 |lst e t j=>exact kX.2 ⟨⟨_,e,nofun⟩,j⟩
 |ins n e l t j=>exact kX.2 ⟨⟨_,e,nofun⟩,j⟩
 |iZ e l t=>exact kX.2 ⟨⟨_,e,nofun⟩,nofun⟩
 |cons a t j k=>rename_i h;exact(bu.1 h).elim (j _) (k _)|leaf=>exact nofun
 |nil=>contradiction
def fW.length{ds:List D}{a:List V}{S:List ax}(h:fW K G H ss ds a S):ds.length=a.length/\ss.length=ds.length:=by
 induction ds generalizing ss a S with
 |nil=>cases h;exact⟨rfl,rfl⟩| cons d ds ih=>cases h with
  |cons _ t=>have:=ih t;simp[this.1,this.2]
noncomputable def jW(G H:Hp)(S:List ax):Hp:=λb=>if b∈S then H b else G b
noncomputable def jf(G:Hp)(S:List ax):Hp:=λb=>if b∈S then M else G b
def qF{S:List ax}(h:b∈S):jW G H S b=H b:=by simp[jW,h]
def oq{S:List ax}(h:b∉S):jW G H S b=G b:=by simp[jW,h]
def nj{S:List ax}(h:b∈S):jf G S b=none:=by simp[jf,h]
def cQ{S:List ax}(h:b∉S):jf G S b=G b:=by simp[jf,h]
def qb{S:List ax}(n:∀b∈S,G b=M):bC G (jW G H S):=λb o e=>by
 by_cases a:b∈S
 ·rw[n b a]at e;cases e
 ·rw[oq a];exact e
def nP{S:List ax}(s:bC G H):bC (jW G H S) H:=λb o e=>by
 by_cases a:b∈S
 ·rw[qF a]at e;exact e
 ·rw[oq a]at e;exact s b o e
def cE.frozen{d:D}{v:V}{S:List ax}(n:∀b∈T,G b=M)(a:∀b∈S,b∈T)(x:cE K G H g d v S):cJ K (jW G H T) d v:=by
 induction x using cE.rec (motive_2:=λ_ g e S _=>(∀b∈S,b∈T)->bE K (jW G H T) g e) with
 |leaf r=>exact cJ.mono (qb n) _ r|lst e t j=>exact cS.mpr ⟨_,_,rfl,by rw[qF (a _ az)];exact e,j λb c=>a b (ay _ c)⟩
 |ins h e l t j=>exact ni.mpr ⟨_,_,_,_,rfl,h,by rw[qF (a _ az)];exact e,l,j λb c=>a b (ay _ c)⟩
 |iZ e l t=>exact BZ.mpr ⟨_,_,rfl,by rw[qF (a _ az)];exact e,l,bE.mono (qb n) _ t⟩
 |nil=>exact cP.mpr rfl|cons a t j k=>rename_i c;exact bH.mpr ⟨_,_,rfl,j λb d=>c b (bj _ d),k λb d=>c b (aG _ d)⟩
mutual
def sk:D->Bool
 |.dg=>Z'|.bl _=>Z'|.int _=>Z'|.str _=>Z'|.lst _=>Z_|.tup a=>qG a|.jt _=>Z_|.ins _ _ _=>Z_|.iZ _ _=>Z_|.obj _ _=>Z_|.eB _ _=>Z_
def qG:List D->Bool
 |[]=>Z'|d::a=>sk d&&qG a
end
mutual
theorem DQ{S:List ax}{d:D}(n:∀b∈S,∀c,G b≠Y (.tup c)){v:V}(p:sk d=Z')(r:cJ K G d v):cJ K (jf G S) d v:=by
 cases d with
 |tup h=>
  obtain⟨a,c,rfl,e,q⟩:=eP.mp r;have g:a∉S:=λz=>n a z c e
  exact eP.mpr ⟨a,c,rfl,by rw[cQ g];exact e,wa n (by simpa only [sk] using p) q⟩
 |_=>first|cases p;done|simpa only [cJ] using r
theorem wa{S:List ax}{c:List D}(n:∀b∈S,∀a,G b≠Y (.tup a)){a:List V}(p:qG c=Z')(r:bE K G c a):bE K (jf G S) c a:=by
 cases c with
 |nil=>simpa only [bE] using r|cons d c=>obtain⟨v,t,rfl,g,e⟩:=bH.mp r;simp only[qG,aZ]at p;exact bH.mpr ⟨v,t,rfl,DQ n p.1 g,wa n p.2 e⟩
end
def zp{S:List ax}(s:bC G H)(n:∀b∈S,G b=M)(o:∀b∈S,FQ H b)(E:gc (jW G H S) H f i):gc G H (jf f S) i/\∀b∈S,∀c,f b≠Y (.tup c):=by
 refine⟨⟨E.hh,λb u e =>?_,λb u e =>?_,λb u e =>?_⟩,λb a c z =>?_⟩
 ·have a:b∉S:=λz=>by rw[n b z]at e;cases e
  rw[cQ a];exact E.gg b u (by rw[oq a];exact e)
 ·by_cases a:b∈S
  ·rw[nj a]at e;cases e
  ·rw[cQ a]at e;exact E.gh b u e
 ·by_cases a:b∈S
  ·rw[nj a]at e;cases e
  ·rw[cQ a]at e;rcases E.fr b u e with q|q
   ·rw[oq a]at q;exact .inl q
   ·exact .inr q
 ·obtain⟨u,g,d⟩:=o b a;have:=E.gg b u (by rw[qF a];exact g);rw[z]at this;cases this;exact d c rfl
end
noncomputable def BE(f:aJ):List aJ->Option Nat
 |[]=>M|k::ks=>if f==k then Y 0 else (BE f ks).map (· + 1)
theorem vo{f:aJ}:∀ {a:List aJ}{n:Nat},BE f a=Y n->a[n]?=Y f
 |[],n,h=>by cases h
 | k::a,n,h=>by
  unfold BE at h;split at h
  ·rename_i e;cases h;simp at e;subst e;rfl
  ·obtain⟨m,e,h⟩:=au.1 h;cases h;simpa using vo e
theorem tb{f:aJ}:∀ {a:List aJ}{n:Nat}{xs:List b},BE f a=Y n->(a.zip xs).lookup f=xs[n]?
 |[],n,xs,h=>by cases h
 |k::a,n,[],h=>by simp
 | k::a,n,x::xs,h=>by
  unfold BE at h;simp only[cb,dw];cases e:(f==k) with
  |true=>rw[e]at h;simp at h;subst h;rfl|false=>
   rw[e]at h;simp only[eM,if_false]at h;rcases e2:BE f a with _|m
   ·rw[e2]at h;cases h
   rw[e2]at h;simp at h;subst h;simpa using tb (xs:=xs) e2
noncomputable def fx:zP->D->Option D
 |[],d=>Y d|.fld f::p,.ins _ b a=>(BE f b).bind λn=>(a[n]?).bind (fx p)
 |.ix k::p,.lst a=>(a[k]?).bind (fx p)|_::_,_=>M
noncomputable def mm(x:D):zP->D->D
 |[],_=>x|.fld f::p,.ins c b a=>match BE f b with|none =>.ins c b a|some n=>match a[n]? with|none =>.ins c b a|some d =>.ins c b (a.set n (mm x p d))
 |.ix k::p,.lst a=>match a[k]? with|none =>.lst a|some d =>.lst (a.set k (mm x p d))
 |_::_,d=>d
noncomputable def ma:zP->Sk->Option Sk
 |[],s=>Y s|.fld f::p,.fs _ a=>ma p (c_ a f)|.ix _::p,.li s=>ma p s|_::_,_=>M
noncomputable def gC(H:Hp):zP->V->Option V
 |[],v=>Y v|.fld f::p,.ref a=>match H a with|some (.ins _ _ c)=>(c.lookup f).bind (gC H p)|_=>M
 |.ix k::p,.ref a=>match H a with|some (.lst b)=>(b[k]?).bind (gC H p)|_=>M
 |_::_,_=>M
section
variable {K:aT}
theorem fW.at{i:List Sk}{ds:List D}{vs:List V}{S:List ax}(h:fW K G H i ds vs S):∀ {n:Nat}{s:Sk}{d:D},i[n]?=Y s->ds[n]?=Y d->∃v T U,vs[n]?=Y v/\cE K G H s d v T/\S.Perm (T++U) /\
  ∀(G' H':Hp) (j:Sk) (x:D) (u:V) (f:List ax),bC G G'->(∀b∈U,∀o,H b=Y o->H' b=Y o)->cE K G' H' j x u f->∃S',fW K G' H' (i.set n j) (ds.set n x) (vs.set n u) S'/\S'.Perm (f++U):=by
 induction ds generalizing i vs S with
 |nil=>intro n s d _ e;simp at e
 |cons c ds ih=>
  intro n s d es e;cases h with
  |@cons C i _ _ v vs S1 p a t=>
   cases n with
   |zero=>simp at e es;subst e;subst es;refine⟨v,S1,p,rfl,a,.rfl,λG' H' j x u f g k l=>⟨f++p,?_,.rfl⟩⟩;exact .cons l (t.mono g k)
   |succ n=>
    simp at e es;obtain⟨w,T,U,B,z,r,A⟩:=ih t es e;refine⟨w,T,S1++U,by simpa using B,z,?_,λG' H' j x u f g k l =>?_⟩
    ·exact((r.append_left S1).trans (cm S1 T U))
    ·obtain⟨S',y,q⟩:=A G' H' j x u f g (λb m=>k b (aG _ m)) l;refine⟨S1++S',.cons (a.mono g λb m=>k b (bj _ m)) y,?_⟩;exact(q.append_left S1).trans (cm S1 f U)
theorem gf{a:Type}:∀ {l:List a}{n:Nat}{x:a},l[n]?=Y x->l.set n x=l
 |[],n,x,h=>by simp at h
 |y::l,0,x,h=>by simp at h;subst h;rfl
 |y::l,n+1,x,h=>by simp at h;simp[gf h]
theorem cE.focus:∀ {p:zP}{P k:Sk}{d O:D}{v:V}{S:List ax},cE K G H P d v S->ma p P=Y k->fx p d=Y O->∃v' T U,gC H p v=Y v'/\cE K G H k O v' T/\S.Perm (T++U) /\
  ∀(J I:Hp) (x:D) (w:List ax),bC G J->(∀b∈U,∀o,H b=Y o->I b=Y o)->cE K J I k x v' w->∃S',cE K J I P (mm x p d) v S'/\S'.Perm (w++U)
 |[],P,k,d,O,v,S,h,u,z=>by cases u;cases z;exact⟨v,S,[],rfl,h,Ž,λJ I x w g r ox=>⟨w,ox,Ž⟩⟩
 | .fld f::p,P,k,d,O,v,S,h,u,z=>by
  cases h with
  |@ins c ks fk L a C dx vs S n e l t=>
   have u:ma p (c_ fk f)=Y k:=u;have z:(BE f ks).bind (λn=>(L[n]?).bind (fx p))=Y O:=z;obtain⟨m,ei,z⟩:=aa.1 z;have A:(ks.map (c_ fk))[m]?=Y (c_ fk f):=by rw[aY,vo ei];rfl
   generalize c_ fk f=s1 at u A
   ·obtain⟨d1,B,z⟩:=aa.1 z;obtain⟨v1,T1,i,X,o1,p1,k1⟩:=t.at A B;obtain⟨Q,F,j,q2,o2,p2,k2⟩:=cE.focus o1 u z;have hv:gC H (.fld f::p) (.ref a)=Y Q:=by simp only[gC,e];rw[tb ei,X];exact q2
    refine⟨Q,F,j++(a::i),hv,o2,?_,λJ I y w g r oy =>?_⟩
    ·have:(a::S).Perm (a::(F++j++i)):=(p1.trans (p2.append_right i)).cons a;refine this.trans ?_;have q:(a::(F++j++i)).Perm ((F++j)++(a::i)):=by have:=cm [a] (F++j) i;simpa using this
     exact q.trans (vK Ž)
    ·obtain⟨S1,o3,p3⟩:=k2 J I y w g (λb N=>r b (bj _ N)) oy;obtain⟨S2,R,p4⟩:=k1 J I s1 (mm y p d1) v1 S1 g (λb N=>r b (aG _ (ay _ N))) o3;rw[gf A,gf X]at R;refine⟨a::S2,?_,?_⟩
     ·have E:mm y (.fld f::p) (.ins c ks L)=.ins c ks (L.set m (mm y p d1)):=by simp only[mm,ei,B]
      rw[E];exact .ins n (r a (aG _ az) _ e) (by simpa using l) R
     ·have:(a::S2).Perm (a::(w++j++i)):=(p4.trans (p3.append_right i)).cons a;refine this.trans ?_;have q:(a::(w++j++i)).Perm ((w++j)++(a::i)):=by have:=cm [a] (w++j) i;simpa using this
      exact q.trans (vK Ž)
  |_=>cases u
 | .ix m::p,P,k,d,O,v,S,h,u,z=>by
  cases h with
  |@lst s L a vs S e t=>
   have u:ma p s=Y k:=u;have z:(L[m]?).bind (fx p)=Y O:=z;obtain⟨d1,B,z⟩:=aa.1 z;have hm:m<L.length:=(aq.mp B).1;have A:(bt L.length s)[m]?=Y s:=by simp[hm]
   obtain⟨v1,T1,i,X,o1,p1,k1⟩:=t.at A B;obtain⟨Q,F,j,q2,o2,p2,k2⟩:=cE.focus o1 u z;have hv:gC H (.ix m::p) (.ref a)=Y Q:=by simp only[gC,e];rw[X];exact q2
   refine⟨Q,F,j++(a::i),hv,o2,?_,λJ I y w g r oy =>?_⟩
   ·have:(a::S).Perm (a::(F++j++i)):=(p1.trans (p2.append_right i)).cons a;refine this.trans ?_;have q:(a::(F++j++i)).Perm ((F++j)++(a::i)):=by have:=cm [a] (F++j) i;simpa using this
    exact q.trans (vK Ž)
   ·obtain⟨S1,o3,p3⟩:=k2 J I y w g (λb N=>r b (bj _ N)) oy;obtain⟨S2,R,p4⟩:=k1 J I s (mm y p d1) v1 S1 g (λb N=>r b (aG _ (ay _ N))) o3;rw[gf A,gf X]at R;refine⟨a::S2,?_,?_⟩
    ·have E:mm y (.ix m::p) (.lst L)=.lst (L.set m (mm y p d1)):=by simp only[mm,B]
     rw[E];exact .lst (r a (aG _ az) _ e) (by rw[GU];exact R)
    ·have:(a::S2).Perm (a::(w++j++i)):=(p4.trans (p3.append_right i)).cons a;refine this.trans ?_;have q:(a::(w++j++i)).Perm ((w++j)++(a::i)):=by have:=cm [a] (w++j) i;simpa using this
     exact q.trans (vK Ž)
  |_=>cases u
end
section
variable {K:aT}
theorem jF(s:bC H H'):∀ {p:zP}{v b:V},gC H p v=Y b->gC H' p v=Y b
 |[],v,b,h=>h| .fld f::p,.ref a,b,h=>by
  simp only[gC]at h ⊢;rcases e:H a with _|o
  ·rw[e]at h;cases h
  rw[e]at h;rw[s _ _ e];cases o<;>simp only at h ⊢<;>try (cases h;done)
  rename_i C g d;obtain⟨u,e2,h⟩:=aa.1 h;rw[e2];exact jF s (p:=p) h
 | .ix k::p,.ref a,b,h=>by
  simp only[gC]at h ⊢;rcases e:H a with _|o
  ·rw[e]at h;cases h
  rw[e]at h;rw[s _ _ e];cases o<;>simp only at h ⊢<;>try (cases h;done)
  rename_i c;obtain⟨u,e2,h⟩:=aa.1 h;rw[e2];exact jF s (p:=p) h
 |.fld f::p,.dg,b,h=>by cases h
 |.fld f::p,.bl _,b,h=>by cases h
 |.fld f::p,.int _,b,h=>by cases h
 |.fld f::p,.str _,b,h=>by cases h
 |.fld f::p,.GB _,b,h=>by cases h
 |.fld f::p,.NT _,b,h=>by cases h
 |.fld f::p,.ty _,b,h=>by cases h
 |.ix f::p,.dg,b,h=>by cases h
 |.ix f::p,.bl _,b,h=>by cases h
 |.ix f::p,.int _,b,h=>by cases h
 |.ix f::p,.str _,b,h=>by cases h
 |.ix f::p,.GB _,b,h=>by cases h
 |.ix f::p,.NT _,b,h=>by cases h
 |.ix f::p,.ty _,b,h=>by cases h
theorem yM(s:bC G H):∀ {p:zP}{d g:D}{v:V},cJ K G d v->fx p d=Y g->∃y,gC H p v=Y y/\cJ K G g y
 |[],d,g,v,r,e=>by cases e;exact⟨v,rfl,r⟩
 | .fld f::p,d,g,v,r,e=>by
  cases d with
  |ins c A x=>obtain⟨a,C,F,z,rfl,n,j,l,i⟩:=ni.mp r;have e:(BE f A).bind (λn=>(x[n]?).bind (fx p))=Y g:=e;obtain⟨m,B,e⟩:=aa.1 e;obtain⟨E,t,e⟩:=aa.1 e;obtain⟨u,q,h⟩:=i.get t;obtain⟨w,o,b⟩:=yM s (p:=p) h e;refine⟨w,?_,b⟩;simp only[gC,s _ _ j];rw[tb B,q];exact o
  |_=>cases e
 | .ix k::p,d,g,v,r,e=>by
  cases d with
  |lst x=>obtain⟨a,z,rfl,j,i⟩:=cS.mp r;have e:(x[k]?).bind (fx p)=Y g:=e;obtain⟨E,t,e⟩:=aa.1 e;obtain⟨u,q,h⟩:=i.get t;obtain⟨w,o,b⟩:=yM s (p:=p) h e;refine⟨w,?_,b⟩;simp only[gC,s _ _ j];rw[q];exact o
  |_=>cases e
theorem yt{f:aJ}:∀ {ks:List aJ}{vs:List V}{u:V},(ks.zip vs).lookup f=Y u->∃m,BE f ks=Y m/\vs[m]?=Y u
 |[],vs,u,h=>by simp at h
 |k::ks,[],u,h=>by simp at h
 | k::ks,v::vs,u,h=>by
  simp only[cb,dw]at h;cases e:(f==k) with
  |true=>rw[e]at h;cases h;exact⟨0,by simp[BE,e],rfl⟩
  |false=>rw[e]at h;obtain⟨m,b,a⟩:=yt (ks:=ks) (vs:=vs) h;exact⟨m+1,by simp[BE,e,b],by simpa using a⟩
theorem cE.Cj:∀ {p:zP}{y i:Sk}{d:D}{v x:V}{S:List ax},cE K G H y d v S->ma p y=Y i->(∀b∈S,∀o,H b=Y o->H' b=Y o)->gC H p v=Y x->gC H' p v=Y x
 |[],y,i,d,v,x,S,h,g,k,e=>e| .fld f::p,y,i,d,v,x,S,h,g,k,e=>by
  cases h with
  |@ins c N r E a C X F S n z l t=>
   have g:ma p (c_ r f)=Y i:=g;simp only[gC,z]at e;simp only[gC,k a az _ z];obtain⟨u,j,e⟩:=aa.1 e;rw[j];simp only[ae]at e ⊢;obtain⟨m,R,O⟩:=yt j;have w:(N.map (c_ r))[m]?=Y (c_ r f):=by rw[aY,vo R];rfl
   have B:m<E.length:=by rw[t.length.1];exact(aq.mp O).1
   obtain⟨P,U,T,A,J,I,Q⟩:=t.at w (ba B);rw[O]at A;cases A;exact cE.Cj J g (λb L o q=>k b (ay _ (I.symm.subset (bj _ L))) o q) e
  |_=>cases g
 | .ix m::p,y,i,d,v,x,S,h,g,k,e=>by
  cases h with
  |@lst s E a F S z t=>
   have g:ma p s=Y i:=g;simp only[gC,z]at e;simp only[gC,k a az _ z];obtain⟨u,j,e⟩:=aa.1 e;rw[j];simp only[ae]at e ⊢;have B:m<E.length:=by rw[t.length.1];exact(aq.mp j).1
   have w:(bt E.length s)[m]?=Y s:=by simp[B]
   obtain⟨P,U,T,A,J,I,Q⟩:=t.at w (ba B);rw[j]at A;cases A;exact cE.Cj J g (λb L o q=>k b (ay _ (I.symm.subset (bj _ L))) o q) e
  |_=>cases g
noncomputable def As:zP->List aJ
 |[]=>[]|.fld f::p=>f::As p|.ix _::p=>As p
theorem vr{s m:List (aJ×V)}(j:H x=Y (.ins C A s))(i:H' x=Y (.ins B t m))(l:∀b,b≠x->∀o,H b=Y o->H' b=Y o):∀ {p:zP}{v d:V},(∀g∈As p,m.lookup g=s.lookup g)->gC H p v=Y d->gC H' p v=Y d
 |[],v,d,c,h=>h| .fld g::p,.ref a,d,c,h=>by
  simp only[gC]at h ⊢;by_cases n:a=x
  ·subst n;rw[j]at h;rw[i];simp only at h ⊢;rw[c g (by simp[As])];obtain⟨u,e2,h⟩:=aa.1 h;rw[e2];exact vr j i l (p:=p) (λg q=>c g (by simp[As,q])) h
  ·rcases e:H a with _|o
   ·rw[e]at h;cases h
   rw[e]at h;rw[l a n _ e];cases o<;>simp only at h ⊢<;>try (cases h;done)
   rename_i D y r;obtain⟨u,e2,h⟩:=aa.1 h;rw[e2];exact vr j i l (p:=p) (λg q=>c g (by simp[As,q])) h
 | .ix k::p,.ref a,d,c,h=>by
  simp only[gC]at h ⊢;rcases e:H a with _|o
  ·rw[e]at h;cases h
  rw[e]at h;cases o<;>simp only at h<;>try (cases h;done)
  rename_i w;have n:a≠x:=λz=>by subst z;rw[j]at e;cases e
  rw[l a n _ e];simp only;obtain⟨u,e2,h⟩:=aa.1 h;rw[e2];exact vr j i l (p:=p) c h
 |.fld f::p,.dg,d,c,h=>by cases h
 |.fld f::p,.bl _,d,c,h=>by cases h
 |.fld f::p,.int _,d,c,h=>by cases h
 |.fld f::p,.str _,d,c,h=>by cases h
 |.fld f::p,.GB _,d,c,h=>by cases h
 |.fld f::p,.NT _,d,c,h=>by cases h
 |.fld f::p,.ty _,d,c,h=>by cases h
 |.ix f::p,.dg,d,c,h=>by cases h
 |.ix f::p,.bl _,d,c,h=>by cases h
 |.ix f::p,.int _,d,c,h=>by cases h
 |.ix f::p,.str _,d,c,h=>by cases h
 |.ix f::p,.GB _,d,c,h=>by cases h
 |.ix f::p,.NT _,d,c,h=>by cases h
 |.ix f::p,.ty _,d,c,h=>by cases h
def cE.root{s:Sk}{v:V}{S:List ax}(h:cE K G H s t v S)(b:s ≠ .lf):∃a o,v=.ref a/\H a=Y o/\a∈S:=by
 cases h with|leaf r=>exact absurd rfl b|lst e t=>exact⟨_,_,rfl,e,az⟩|ins n e l t=>exact⟨_,_,rfl,e,az⟩|iZ e l t=>exact⟨_,_,rfl,e,az⟩
end
noncomputable def iQ(f:aJ)(d:D):List aJ->List D->List aJ×List D
 |k::a,x::b=>if k=f then (k::a,d::b) else (k::(iQ f d a b).1,x::(iQ f d a b).2)
 |_,_=>([f],[d])
section
variable {K:aT}
theorem DS{f:aJ}{v:V}{m:List ax}(s:cE K G H (c_ j f) d v m):∀ {b:List aJ}{c:List D}{i:List V}{S:List ax},b.length=c.length->fW K G H (b.map (c_ j)) c i S ->
  ∃g o R,lr f v (b.zip i)=(iQ f d b c).1.zip g/\(iQ f d b c).1.length=(iQ f d b c).2.length/\fW K G H ((iQ f d b c).1.map (c_ j)) (iQ f d b c).2 g o/\o.Perm (m++R)/\R.Sublist S
 |[],[],i,S,h,r=>by cases r;exact⟨[v],m++[],[],rfl,rfl,.cons s .nil,.rfl,.slnil⟩
 |[],x::c,i,S,h,r=>by simp at h
 |k::b,[],i,S,h,r=>by simp at h
 | k::b,x::c,i,S,h,r=>by
  have r:fW K G H (c_ j k::b.map (c_ j)) (x::c) i S:=r;cases r with
  |@cons _ _ _ _ u n T U a t=>
   simp only[aU,NI]at h;unfold iQ;rw[cb,show lr f v ((k,u)::b.zip n)=(if k=f then (k,v)::b.zip n else (k,u)::lr f v (b.zip n)) from rfl];by_cases w:k=f
   ·subst w;rw[if_pos rfl,if_pos rfl];exact⟨v::n,m++U,U,rfl,by simp[h],.cons s t,.rfl,List.sublist_append_right T U⟩
   ·rw[if_neg w,if_neg w];obtain⟨g,o,R,e,l,q,p,z⟩:=DS s h t;exact⟨u::g,T++o,T++R,by rw[cb,e],by simp[l],.cons a q,(p.append_left T).trans (cm T m R),z.append_left T⟩
theorem cE.put{p:zP}{s:Sk}{v:V}{S1:List ax}{f:aJ}{d:D}{u:V}(h:cE K G H s t v T)(nd:T.Nodup)(es:ma p s=Y (.fs c L))(ep:fx p t=Y (.ins c j A))(g:bC G G')(k:∀b∈T,∀o,H b=Y o->B b=Y o)(ov:cE K G' B (c_ L f) d u S1)(X:S1.Nodup)(dj:∀b∈S1,b∉T):
  ∃x C y r,gC H p v=Y (.ref x)/\x∈T/\iy K aP c=Y (Y (.ref C))/\H x=Y (.ins C y (j.zip r))/\j.length=A.length/\j.length=r.length /\
   ∃F,cE K G' (cx B x (.ins C y (lr f u (j.zip r)))) s (mm (.ins c (iQ f d j A).1 (iQ f d j A).2) p t) v F/\F.Nodup/\∀b∈F,b∈T\/b∈S1:=by
 obtain⟨v',T1,U,e1,o1,E,k1⟩:=h.focus es ep;cases o1 with
 |@ins _ _ _ _ x C y r J n ex l tt=>
  have m:(x::J++U).Nodup:=E.nodup_iff.mp nd;have hxS:x∉J:=λz=>by simp at m;exact m.1.1 z
  have hxU:x∉U:=λz=>by simp at m;exact m.1.2 z
  have O:x∈T:=E.symm.subset Ž;have I:∀b∈J,b∈T:=λb i=>E.symm.subset (by simp[i])
  have UT:∀b∈U,b∈T:=λb i=>E.symm.subset (by simp[i])
  have x1:x∉S1:=λz=>dj x z O
  refine⟨x,C,y,r,e1,O,n,ex,l,by rw[l,tt.length.1],?_⟩;have Q:fW K G' B (j.map (c_ L)) A r J:=tt.mono g λb i o e=>k b (I b i) o e
  obtain⟨P,S',R,z1,z2,z3,N,W⟩:=DS ov l Q;have hx':∀b∈S',b≠x:=λb i z=>by
   subst z;have:=N.subset i;rcases bu.mp this with q|q
   ·exact x1 q
   ·exact hxS (W.subset q)
  have oo:cE K G' (cx B x (.ins C y (lr f u (j.zip r)))) (.fs c L) (.ins c (iQ f d j A).1 (iQ f d j A).2) (.ref x) (x::S'):=
   .ins (dx:=y) (vs:=P) n (by rw[aX,z1]) z2 (z3.mono (bC.refl _) λb i o e=>by rw[aM (hx' b i)];exact e)
  obtain⟨F,o2,p2⟩:=k1 G' (cx B x (.ins C y (lr f u (j.zip r)))) _ _ g (λb i o e=>by have Xh:b≠x:=λz=>hxU (z ▸ i);rw[aM Xh];exact k b (UT b i) o e) oo;refine⟨F,o2,?_,λb i =>?_⟩
  ·rw[p2.nodup_iff];have q:(x::S'++U).Perm (x::(S1++R)++U):=((N.cons x).append_right U);rw[q.nodup_iff];have w:(x::R++U).Sublist (x::J++U):=(W.cons_cons x).append_right U;have S:(x::R++U).Nodup:=m.sublist w;have:(x::(S1++R)++U).Perm (S1++(x::R++U)):=by have:=cm [x] S1 (R++U);simpa [bY] using this
   rw[this.nodup_iff,iR];refine⟨X,S,λa ha b i z =>?_⟩;subst z;exact dj a ha (E.symm.subset (w.subset i))
  ·have:=p2.subset i;rcases bu.mp this with q|q
   ·rcases aW.mp q with q|q
    ·subst q;exact .inl O
    ·rcases bu.mp (N.subset q) with q|q
     ·exact .inr q
     ·exact .inl (I b (W.subset q))
   ·exact .inl (UT b q)
def fW.append{f:List D}{S:List ax}(h:fW K G H i f g S)(k:fW K G H c e b j):fW K G H (i++c) (f++e) (g++b) (S++j):=by
 induction f generalizing i g S with
 |nil=>cases h;exact k| cons d f ih=>cases h with
  |cons a t=>rw[bY];exact .cons a (ih t)
theorem cE.app{p:zP}{s:Sk}{v:V}{S1:List ax}{d:D}{u:V}{m:Hp}(h:cE K G H s t v T)(nd:T.Nodup)(es:ma p s=Y (.li n))(ep:fx p t=Y (.lst l))(g:bC G G')(k:∀b∈T,∀o,H b=Y o->m b=Y o)(R:cE K G' m n d u S1)(C:S1.Nodup)(O:∀b∈S1,b∉T):
  ∃x j,gC H p v=Y (.ref x)/\x∈T/\H x=Y (.lst j)/\l.length=j.length /\
   ∃w,cE K G' (cx m x (.lst (j++[u]))) s (mm (.lst (l++[d])) p t) v w/\w.Nodup/\∀b∈w,b∈T\/b∈S1:=by
 obtain⟨v',T1,U,e1,o1,r,k1⟩:=h.focus es ep;cases o1 with
 |@lst _ _ x j i ex L=>
  have f:(x::i++U).Nodup:=r.nodup_iff.mp nd;have F:x∉i:=λz=>by simp at f;exact f.1.1 z
  have E:x∉U:=λz=>by simp at f;exact f.1.2 z
  have A:x∈T:=r.symm.subset Ž;have y:∀b∈i,b∈T:=λb c=>r.symm.subset (by simp[c])
  have P:∀b∈U,b∈T:=λb c=>r.symm.subset (by simp[c])
  have Q:x∉S1:=λz=>O x z A
  refine⟨x,j,e1,A,ex,L.length.1,?_⟩;have B:fW K G' m (bt l.length n) l j i:=L.mono g λb c o e=>k b (y b c) o e
  have W:fW K G' m (bt (l++[d]).length n) (l++[d]) (j++[u]) (i++(S1++[])):=by rw[aS,cK,Ub];exact B.append (.cons R .nil)
  rw[bV]at W;have I:∀b∈i++S1,b≠x:=λb c z=>by
   subst z;rcases bu.mp c with q|q
   ·exact F q
   ·exact Q q
  have S:cE K G' (cx m x (.lst (j++[u]))) (.li n) (.lst (l++[d])) (.ref x) (x::(i++S1)):=
   .lst aX (W.mono (bC.refl _) λb c o e=>by rw[aM (I b c)];exact e)
  obtain⟨w,X,N⟩:=k1 G' (cx m x (.lst (j++[u]))) _ _ g (λb c o e=>by have J:b≠x:=λz=>E (z ▸ c);rw[aM J];exact k b (P b c) o e) S;refine⟨w,X,?_,λb c =>?_⟩
  ·rw[N.nodup_iff];have:(x::(i++S1)++U).Perm (S1++(x::i++U)):=by have:=cm (x::i) S1 U;simpa [bY] using this
   rw[this.nodup_iff,iR];refine⟨C,f,λa ha b c z =>?_⟩;subst z;exact O a ha (r.symm.subset c)
  ·have:=N.subset c;rcases bu.mp this with q|q
   ·rcases aW.mp q with q|q
    ·subst q;exact .inl A
    ·rcases bu.mp q with q|q
     ·exact .inl (y b q)
     ·exact .inr q
   ·exact .inl (P b q)
def fW.last{f:List D}{S:List ax}(h:fW K G H (b++[k]) (f++[d]) e S)(l:b.length=f.length):∃g u j i,e=g++[u]/\S=j++i/\fW K G H b f g j/\cE K G H k d u i:=by
 induction f generalizing b e S with
 |nil=>
  cases b with
  | nil=>cases h with
   |@cons _ _ _ _ v e S T a t=>cases t;exact⟨[],v,[],S,rfl,Ž,.nil,a⟩
  |cons=>simp at l
 |cons c f ih=>
  cases b with
  |nil=>simp at l|cons m b=>
   have h:fW K G H (m::(b++[k])) (c::(f++[d])) e S:=h;cases h with
   |@cons _ _ _ _ v e S T a t=>obtain⟨g,u,j,i,rfl,rfl,o,n⟩:=ih t (by simpa using l);exact⟨v::g,u,S++j,i,rfl,by rw[bY],.cons a o,n⟩
theorem cE.Yi{p:zP}{s:Sk}{v:V}(h:cE K G H s t v T)(J:T.Nodup)(N:ma p s=Y (.li l))(O:fx p t=Y (.lst (j++[d]))):
  ∃x f u,gC H p v=Y (.ref x)/\x∈T/\H x=Y (.lst (f++[u]))/\j.length=f.length /\
   ∃k g,cE K G (cx H x (.lst f)) s (mm (.lst j) p t) v k/\cE K G (cx H x (.lst f)) l d u g/\(k++g).Perm T:=by
 obtain⟨R,S,U,P,I,m,L⟩:=h.focus N O;cases I with
 |@lst _ _ x Q X D w=>
  rw[aS,cK,Ub]at w;obtain⟨f,u,A,g,rfl,rfl,y,B⟩:=w.last Ž;have a:(x::(A++g)++U).Nodup:=m.nodup_iff.mp J;have q:x∉A:=λz=>by simp at a;exact a.1.1 z
  have r:x∉g:=λz=>by simp at a;exact a.1.2.1 z
  have n:x∉U:=λz=>by simp at a;exact a.1.2.2 z
  refine⟨x,f,u,P,m.symm.subset Ž,D,y.length.1,?_⟩;have E:cE K G (cx H x (.lst f)) (.li l) (.lst j) (.ref x) (x::A):=
   .lst aX (y.mono (bC.refl _) λb i o e=>by have c:b≠x:=λz=>q (z ▸ i);rw[aM c];exact e)
  obtain⟨k,F,C⟩:=L G (cx H x (.lst f)) _ _ (bC.refl _) (λb i o e=>by have c:b≠x:=λz=>n (z ▸ i);rw[aM c];exact e) E;refine⟨k,g,F,B.mono (bC.refl _) λb i o e=>by have c:b≠x:=λz=>r (z ▸ i);rw[aM c];exact e,?_⟩;refine(C.append_right g).trans ((?_:List.Perm _ _).trans m.symm);have:=Q4 (l₁:=U) (l₂:=g);have:=this.append_left (x::A);simpa [bY] using this
def yR{f:List aJ}{S:List ax}:cE K G H (.fs c []) (.ins c f b) (.ref x) S↔(∃o,H x=Y o/\jd K G (.ins c f b) o)/\S=[x]:=by
 have p:∀ {f:List aJ}{b:List D}{g:List V}{S:List ax},fW K G H (f.map (c_ [])) b g S->bE K G b g/\S=[]:=by
  intro f
  induction f with
  |nil=>intro b g S h;cases h;exact⟨.nil,rfl⟩
  |cons k f ih=>
   intro b g S h;have h:fW K G H (.lf::f.map (c_ [])) b g S:=h;cases h with
   |cons a t=>
    cases a with
    |leaf r=>obtain⟨m,rfl⟩:=ih t;exact⟨.cons r m,rfl⟩
 have i:∀ {f:List aJ}{b:List D}{g:List V},f.length=b.length->bE K G b g->fW K G H (f.map (c_ [])) b g []:=by
  intro f
  induction f with
  |nil=>
   intro b g j r;cases b with
   |nil=>rw[cP.mp r];exact .nil|cons=>simp at j
  |cons k f ih=>
   intro b g j r;cases b with
   |nil=>simp at j|cons d b=>obtain⟨v,u,rfl,s,q⟩:=bH.mp r;exact .cons (S:=[]) (.leaf s) (ih (by simpa using j) q)
 constructor
 ·intro h;cases h with
  |ins n e l t=>obtain⟨m,rfl⟩:=p t;exact⟨⟨_,e,_,_,_,rfl,n,l,m⟩,rfl⟩
 ·rintro⟨⟨o,e,C,w,g,rfl,n,l,r⟩,rfl⟩;exact .ins n e l (i l r)
theorem cE.dput{p:zP}{s:Sk}{v:V}(h:cE K G H s t v T)(I:T.Nodup)(N:ma p s=Y .di)(O:fx p t=Y (.iZ q y))(g:bC G G')(k:∀b∈T,∀o,H b=Y o->A b=Y o):
  ∃x m,gC H p v=Y (.ref x)/\x∈T/\H x=Y (.dK (q.zip m))/\q.length=y.length/\bE K G y m /\
   ∀(a:List lL) (c:List D) (d:List V),a.length=c.length->bE K G' c d->∃j,cE K G' (cx A x (.dK (a.zip d))) s (mm (.iZ a c) p t) v j/\j.Nodup/\∀b∈j,b∈T:=by
 obtain⟨R,S,U,P,F,n,L⟩:=h.focus N O;cases F with
 |@iZ _ _ x m W l r=>
  have f:([x]++U).Nodup:=n.nodup_iff.mp I;have u:x∉U:=λz=>by simp at f;exact f.1 z
  have Q:∀b∈U,b∈T:=λb i=>n.symm.subset (by simp[i])
  refine⟨x,m,P,n.symm.subset Ž,W,l,r,λa c d J C =>?_⟩;obtain⟨j,E,B⟩:=L G' (cx A x (.dK (a.zip d))) (.iZ a c) [x] g (λb i o e=>by have w:b≠x:=λz=>u (z ▸ i);rw[aM w];exact k b (Q b i) o e) (.iZ aX J C);exact⟨j,E,by rw[B.nodup_iff];exact f,λb i=>n.symm.subset (B.subset i)⟩
end
end L2
namespace L2
open PySem PySem.Spec PyProof.Rows
def WN(K:aT)(G H:Hp):D->ax->HO->Prop
 |.obj s t,a,_=>∃S,cE K G H s t (.ref a) S/\∀b∈S,G b=M|.eB _ _,_,_=>True|d,_,o=>jd K G d o
def jX(K:aT)(G H:Hp)(d:D)(v:V):Prop:=cJ K G d v\/∃a o,v=.ref a/\H a=Y o/\WN K G H d a o
section
variable {K:aT}
def jX.ext{d:D}{v:V}(r:jX K G H d v)(E:gc G H G' H'):jX K G' H' d v:=by
 rcases r with r|⟨a,o,k,j,c⟩
 ·exact .inl (cJ.mono E.gg d r)
 ·refine .inr ⟨a,o,k,E.hh _ _ j,?_⟩;cases d with
  |obj s t=>
   obtain⟨S,g,i⟩:=c;refine⟨S,g.mono E.gg λb f o e=>E.hh b o e,λb f =>?_⟩;obtain⟨u,h,_⟩:=g.here b f;rcases q:G' b with _|w
   ·rfl
   rcases E.fr b w q with z|z
   ·rw[i b f]at z;cases z
   ·rw[h]at z;cases z
  |eB=>trivial|lst=>exact jd.mono E.gg (d :=.lst _) c|ins=>exact jd.mono E.gg (d :=.ins _ _ _) c|iZ=>exact jd.mono E.gg (d :=.iZ _ _) c|_=>exact c
def jX.dg{v:V}(r:jX K G H .dg v):v=.dg:=by
 rcases r with r|⟨a,o,_,_,e⟩
 ·exact gv.mp r
 ·exact e.elim
def jX.bl{v:V}(r:jX K G H (.bl b) v):v=.bl b:=by
 rcases r with r|⟨a,o,_,_,e⟩
 ·exact dB.mp r
 ·exact e.elim
def jX.int{i:Int}{v:V}(r:jX K G H (.int i) v):v=.int i:=by
 rcases r with r|⟨a,o,_,_,e⟩
 ·exact bU.mp r
 ·exact e.elim
def jX.str{v:V}(r:jX K G H (.str x) v):v=.str x:=by
 rcases r with r|⟨a,o,_,_,e⟩
 ·exact gu.mp r
 ·exact e.elim
def jX.lst{ds:List D}{v:V}(s:bC G H)(r:jX K G H (.lst ds) v):∃a vs,v=.ref a/\H a=Y (.lst vs)/\bE K G ds vs:=by
 rcases r with r|⟨a,o,d,c,vs,rfl,b⟩
 ·obtain⟨a,vs,e,q,t⟩:=cS.mp r;exact⟨a,vs,e,s _ _ q,t⟩
 ·exact⟨a,vs,d,c,b⟩
def jX.tup{ds:List D}{v:V}(s:bC G H)(r:jX K G H (.tup ds) v):∃a b,v=.ref a/\H a=Y (.tup b)/\bE K G ds b:=by
 rcases r with r|⟨a,o,_,_,e⟩
 ·obtain⟨a,b,e,q,t⟩:=eP.mp r;exact⟨a,b,e,s _ _ q,t⟩
 ·exact e.elim
def jX.jt{v:V}(s:bC G H)(r:jX K G H (.jt ns) v):∃a,v=.ref a/\m_ K H a (ns.map V.int):=by
 rcases r with r|⟨a,o,_,_,e⟩
 ·obtain⟨a,e,q⟩:=Hk.mp r;exact⟨a,e,s.seq q⟩
 ·exact e.elim
def jX.YC{f:List aJ}{v:V}(s:bC G H)(r:jX K G H (.ins c f g) v):∃a C d b,v=.ref a/\H a=Y (.ins C d (f.zip b))/\iy K aP c=Y (Y (.ref C))/\f.length=g.length/\bE K G g b:=by
 rcases r with r|⟨a,o,j,i,C,d,b,rfl,n,l,h⟩
 ·obtain⟨a,C,d,b,e,n,q,l,t⟩:=ni.mp r;exact⟨a,C,d,b,e,s _ _ q,n,l,t⟩
 ·exact⟨a,C,d,b,j,i,n,l,h⟩
def jX.Tg{v:V}(s:bC G H)(r:jX K G H (.iZ c d) v):∃a b,v=.ref a/\H a=Y (.dK (c.zip b))/\c.length=d.length/\bE K G d b:=by
 rcases r with r|⟨a,o,h,g,b,rfl,l,f⟩
 ·obtain⟨a,b,e,q,l,t⟩:=BZ.mp r;exact⟨a,b,e,s _ _ q,l,t⟩
 ·exact⟨a,b,h,g,l,f⟩
def jX.all{v:V}(s:bC G H)(r:jX K G H d v):cJ K H d v:=by
 rcases r with r|⟨a,o,i,e,c⟩
 ·exact cJ.mono s d r
 ·subst i;cases d with
  |obj k t=>obtain⟨S,h,g⟩:=c;have:=h.frozen g (λb f=>f);exact qE.mpr (cJ.mono (nP s) t this)
  |eB=>exact sY.mpr ⟨a,rfl⟩|lst=>exact(jd.mono s (d :=.lst _) c).rep e|ins=>exact(jd.mono s (d :=.ins _ _ _) c).rep e|iZ=>exact(jd.mono s (d :=.iZ _ _) c).rep e|_=>exact c.elim
end
abbrev cA:=List (Option D)
abbrev DF:=cA->Option D
abbrev DT:=cA->Option Bool
abbrev DL:=cA->Option (List D)
noncomputable abbrev B9(j:Nat):Nat:=j+1000000
noncomputable abbrev A9(j:Nat):Nat:=j+2000000
noncomputable def EG:List aJ:=["rows", "coming"]
def ES(Z:List Nat)(H:Hp)(a:St)(c:cA)(j r:Nat)(p:zP):Prop:=r∈Z/\A9 r∈Z/\∃s t d v b,c[r]?=Y (Y (.obj s t))/\a[r]?=Y (Y v)/\a[j]?=Y (Y b)/\gC H p v=Y b/\ma p s=Y d/\∀g∈As p,g∈EG
structure kH(K:aT)(Z:List Nat)(G H:Hp)(σ:St)(ρ:cA):Prop where
 len:σ.length=ρ.length
 get:∀(i:Nat) (d:D),ρ[i]?=some (some d)->∃v,σ[i]?=some (some v)/\(if i∈Z then jX K G H d v else cJ K G d v)
 eB:∀(j r:Nat) (p:zP),j∈Z->B9 j∈Z->ρ[j]?=some (some (.eB r p))->ES Z H σ ρ j r p
def ES.ext{H':Hp}{a:St}{r:Nat}(h:ES Z H a b j r p)(s:bC H H'):ES Z H' a b j r p:=by
 obtain⟨g,i,e,d,f,v,c,q,o,n,l,k⟩:=h;exact⟨g,i,e,d,f,v,c,q,o,n,jF s l,k⟩
def kH.ext{K:aT}{G' H':Hp}{a:St}(h:kH K Z G H a b)(E:gc G H G' H'):kH K Z G' H' a b:=⟨h.len,λi d e=>by
 obtain⟨v,q,r⟩:=h.get i d e;refine⟨v,q,?_⟩;by_cases c:i∈Z
 ·rw[if_pos c]at r ⊢;exact r.ext E
 ·rw[if_neg c]at r ⊢;exact cJ.mono E.gg d r,λj r p g f e=>(h.eB j r p g f e).ext E.hh⟩
inductive tP (K:aT) (Z:List Nat) (f:DF) (b:St) (H:Hp) (Q:VK):Prop
 |mk G a d:bC G H->kH K Z G H b a->f a=some d->(∀v G' H',gc G H G' H'->cJ K G' d v->Q v H')->tP K Z f b H Q
inductive tQ (K:aT) (Z:List Nat) (f:DF) (b:St) (H:Hp) (Q:VK):Prop
 |mk G a d:bC G H->kH K Z G H b a->f a=some d->(∀v G' H',gc G H G' H'->jX K G' H' d v->Q v H')->tQ K Z f b H Q
inductive tF (K:aT) (Z:List Nat) (f:DL) (d:St) (H:Hp) (Q:VK):Prop
 |mk G a c:bC G H->kH K Z G H d a->f a=some c->(∀p b G' H',gc G H G' H'->H p=none->G' p=none->H' p=some (.lst b)->bE K G' c b->Q (.ref p) H')->tF K Z f d H Q
inductive rG (K:aT) (Z:List Nat) (f:DT) (c:St) (H:Hp) (Q:Bool->Hp->Prop):Prop
 |mk G a b:bC G H->kH K Z G H c a->f a=some b->(∀G' H',gc G H G' H'->Q b H')->rG K Z f c H Q
inductive Ag (K:aT) (Z:List Nat) (f:DL) (d:St) (H:Hp) (Q:List V->Hp->Prop):Prop
 |mk G a c:bC G H->kH K Z G H d a->f a=some c->(∀b G' H',gc G H G' H'->bE K G' c b->Q b H')->Ag K Z f d H Q
def Io(K:aT)(G H:Hp):List D->List V->Prop:=Paired (jX K G H)
inductive Uk (K:aT) (Z:List Nat) (f:DL) (d:St) (H:Hp) (Q:List V->Hp->Prop):Prop
 |mk G a c:bC G H->kH K Z G H d a->f a=some c->(∀b G' H',gc G H G' H'->Io K G' H' c b->Q b H')->Uk K Z f d H Q
section
variable {X:Cx}
def PE.imp(h:PE X e t)(k:∀b H Q,c b H Q->t b H Q):PE X e c:=λa s b H Q I q=>h a s b H Q I (k _ _ _ q)
def PT.imp(h:PT X e t)(k:∀b H Q,c b H Q->t b H Q):PT X e c:=λa s b H Q I q=>h a s b H Q I (k _ _ _ q)
def PW.imp(h:PW X e t)(k:∀b H Q,c b H Q->t b H Q):PW X e c:=λw a s b H Q I q=>h w a s b H Q I (k _ _ _ q)
def PA.imp(h:PA X e t)(k:∀b H Q,c b H Q->t b H Q):PA X e c:=λm a s b H Q I q=>h m a s b H Q I (k _ _ _ q)
def PS.imp(h:PS X e t)(k:∀D b H,c D b H->t D b H):PS X e c:=λa s b H D I q=>h a s b H D I (k _ _ _ q)
def oV.imp(h:oV X e t)(k:∀D b H,c D b H->t D b H):oV X e c:=λa s b H D I q=>h a s b H D I (k _ _ _ q)
def oW.imp{f:ak->ak->Sem ak}(h:oW X f r)(k:∀x y H Q,b x y H Q->r x y H Q):oW X f b:=λa s c H x y v u Q I e d q=>h a s c H x y v u Q I e d (k _ _ _ _ q)
def dq{f:DF}(h:PE X e (tP X.K Z f)):PE X e (tQ X.K Z f):=h.imp <|by rintro i H Q ⟨G,b,d,c,a,g,k⟩;exact⟨G,b,d,c,a,g,λv G' H' E r=>k v G' H' E (.inl r)⟩
noncomputable def eF(f:DL):DF:=λρ=>(f ρ).map D.lst
def df{f:DL}(h:PE X e (tF X.K Z f)):PE X e (tP X.K Z (eF f)):=h.imp <|by
 rintro s H Q ⟨G,g,d,q,b,l,k⟩;rcases a:f g with _|c
 ·simp[eF,a]at l
 have:d=.lst c:=by simpa [eF,a] using l.symm
 subst this;refine⟨G,g,c,q,b,a,λp i G' H' E o j n r=>k _ (cx G' p (.lst i)) H' (E.freeze o j n) ?_⟩;exact cS.mpr ⟨p,i,rfl,aX,bE.mono (.alloc j) c r⟩
noncomputable def eV(i:Nat):DF:=λρ=>(ρ[i]?).join
noncomputable def eK(d:D):DF:=λ_=>Y d
def iN(h:eV i a=Y d):a[i]?=Y (Y d):=by
 unfold eV at h;cases e:a[i]? with
 |none=>rw[e]at h;cases h| some o=>rw[e]at h;cases o with
  |none=>cases h|some c=>rw[show c=d from bM h]
def dv{m:Pos}(h:PE X (.Name x m) (iB i))(b:autoParam (i∉Z) Ű):PE X (.Name x m) (tP X.K Z (eV i)):=h.imp <|by
 rintro f H Q ⟨G,g,d,c,a,e,k⟩;obtain⟨v,q,r⟩:=a.get i d (iN e);rw[if_neg b]at r;exact⟨v,q,k v G H (.refl c) r⟩
def dvo{i:Nat}{m:Pos}(h:PE X (.Name x m) (iB i))(b:autoParam (i∈Z) Ű):PE X (.Name x m) (tQ X.K Z (eV i)):=h.imp <|by
 rintro f H Q ⟨G,g,d,c,a,e,k⟩;obtain⟨v,q,r⟩:=a.get i d (iN e);rw[if_pos b]at r;exact⟨v,q,k v G H (.refl c) r⟩
def CB{i j m}:PE X (.Constant (.int i) j m) (tP X.K Z (eK (.int i))):=kD.imp <|by
 rintro e H Q ⟨G,f,d,a,c,b,k⟩;cases b;exact k _ G H (.refl a) (bU.mpr rfl)
def Wp{b j m}:PE X (.Constant (.bool b) j m) (tP X.K Z (eK (.bl b))):=Vu.imp <|by
 rintro f H Q ⟨G,g,d,a,e,c,k⟩;cases c;exact k _ G H (.refl a) (dB.mpr rfl)
abbrev Å:=eK .dg
def CA{j m}:PE X (.Constant .none j m) (tP X.K Z Å):=RT.imp <|by
 rintro e H Q ⟨G,f,d,a,c,b,k⟩;cases b;exact k _ G H (.refl a) (gv.mpr rfl)
def Tj{x j m}:PE X (.Constant (.str x) j m) (tP X.K Z (eK (.str x))):=FN.imp <|by
 rintro e H Q ⟨G,f,d,a,c,b,k⟩;cases b;exact k _ G H (.refl a) (gu.mpr rfl)
noncomputable def aN:DL:=λ_=>Y []
noncomputable def aC(f:DF)(g:DL):DL:=λa=>(f a).bind λx=>(g a).bind λb=>Y (x::b)
def Il{f:DF}{e:List D}(h:aC f g a=Y e):∃x b,f a=Y x/\g a=Y b/\e=x::b:=by
 unfold aC at h;obtain⟨x,d,h⟩:=aa.1 h;rw[d];rcases c:g a with _|b
 ·rw[c]at h;cases h
 rw[c]at h;exact⟨x,b,rfl,rfl,(bM h).symm⟩
def sN:PA X [] (Ag X.K Z aN):=dn.imp <|by
 rintro e H Q ⟨G,f,d,a,c,b,k⟩;cases b;exact k _ G H (.refl a) .nil
def jj{f:DF}{g:DL}(h:PE X e (tP X.K Z f))(t:PA X A (Ag X.K Z g))(p:autoParam (ao (e::A) X.env=(Z_,eval e X.env)::ao A X.env) Ų):PA X (e::A) (Ag X.K Z (aC f g)):=
 (bT h t p).imp <|by rintro z H Q ⟨G,i,d,q,a,s,k⟩;obtain⟨x,l,r,b,rfl⟩:=Il s;refine⟨G,i,x,q,a,r,λv y D c o=>⟨y,i,l,c.gh,a.ext c,b,λC w u j n=>k _ w u (c.trans j) (.cons (cJ.mono j.gg x o) n)⟩⟩
def Cz:PA X [] (Uk X.K Z aN):=dn.imp <|by
 rintro e H Q ⟨G,f,d,a,c,b,k⟩;cases b;exact k _ G H (.refl a) .nil
def zD{f:DF}(h:PE X e (tQ X.K Z f))(t:PA X A (Uk X.K Z g))(p:autoParam (ao (e::A) X.env=(Z_,eval e X.env)::ao A X.env) Ų):PA X (e::A) (Uk X.K Z (aC f g)):=
 (bT h t p).imp <|by rintro z H Q ⟨G,i,d,q,a,s,k⟩;obtain⟨x,l,r,b,rfl⟩:=Il s;refine⟨G,i,x,q,a,r,λv y D c o=>⟨y,i,l,c.gh,a.ext c,b,λC w u j n=>k _ w u (c.trans j) (.cons (o.ext j) n)⟩⟩
noncomputable def eW(g:DL):DF:=λb=>(g b).bind λa=>if a.length<=1000 then Y (.tup a) else M
def vj:1000<=bc:=by rw[gF];decide
def Gv{o m}{g:DL}(h:PA X A (Ag X.K Z g)):PE X (.Tuple A o m) (tP X.K Z (eW g)):=(FK h).imp <|by
 rintro s H Q ⟨G,i,d,r,c,a,k⟩;unfold eW at a;rw[aa]at a;obtain⟨b,e,a⟩:=a;have a:(if b.length<=1000 then Y (D.tup b) else M)=Y d:=a;split at a
 ·cases a;rename_i q;refine⟨G,i,b,r,c,e,λj u t f l=>⟨?_,λp n=>k _ _ _ (f.trans (gc.alloc (p:=p) (o :=.tup j) f.gh n)) ?_⟩⟩
  ·rw[<- l.length];exact bQ q vj
  ·exact eP.mpr ⟨p,j,rfl,aX,bE.mono (.alloc (f.gh.free n)) b l⟩
 ·cases a
noncomputable def gE(g:DL):DL:=λb=>(g b).bind λa=>if a.length<=1000 then Y a else M
def Tp{m}{g:DL}(h:PA X A (Ag X.K Z g)):PE X (.List A m) (tF X.K Z (gE g)):=(ur h).imp <|by
 rintro s H Q ⟨G,l,j,o,d,a,k⟩;unfold gE at a;obtain⟨e,q,a⟩:=aa.1 a;have a:(if e.length<=1000 then Y e else M)=Y j:=a;split at a
 ·cases a;rename_i n;refine⟨G,l,j,o,d,q,λf r t b i=>⟨?_,λp c=>k p f r _ (b.trans (gc.lay (p:=p) (o :=.lst f) b.gh c)) (b.hh.free c) (b.gh.free c) aX i⟩⟩;rw[<- i.length];exact bQ n vj
 ·cases a
noncomputable def e2(o:D->D->Option D)(a b:DF):DF:=λρ=>(a ρ).bind λx=>(b ρ).bind λy=>o x y
def Cw(h:e2 o a b c=Y d):∃x y,a c=Y x/\b c=Y y/\o x y=Y d:=by
 unfold e2 at h;obtain⟨x,f,h⟩:=aa.1 h;rw[f];rcases e:b c with _|y
 ·rw[e]at h;cases h
 rw[e]at h;exact⟨x,y,rfl,rfl,h⟩
inductive rD (K:aT) (o:D->D->Option D) (x:V) (y:V) (H:Hp) (Q:VK):Prop
 |mk G b a d:bC G H->jX K G H b x->jX K G H a y->o b a=some d->(∀v G' H',gc G H G' H'->cJ K G' d v->Q v H')->rD K o x y H Q
def Az(X:Cx)(f:ak->ak->Sem ak)(o:D->D->Option D):Prop:=oW X f (rD X.K o)
def Hl{K:aT}{Z:List Nat}{fa fb:DF}{e:St}(h:tP K Z (e2 o fa fb) e H Q):Ul (rD K o) (tQ K Z fa) (tQ K Z fb) e H Q:=by
 obtain⟨G,f,d,l,a,q,k⟩:=h;obtain⟨x,y,p,n,r⟩:=Cw q;exact⟨G,f,x,l,a,p,λv C I c j=>⟨C,f,y,c.gh,a.ext c,n,λu z F b i=>⟨z,x,y,d,b.gh,j.ext b,i,r,λw t s E g=>k w t s ((c.trans b).trans E) g⟩⟩⟩
variable {m:Pos}
def M6{op:Operator}(c:Az X (dN op) o)(e:PE X a (tQ X.K Z fa))(d:PE X b (tQ X.K Z fb)):PE X (.BinOp a op b m) (tP X.K Z (e2 o fa fb)):=(DW c e d).imp λf H Q h=>Hl h
def Gw{op:CmpOp}(c:Az X (gr op) o)(f:PE X a (tQ X.K Z fa))(e:PE X b (tQ X.K Z fb))(d:iu op b=Z_):PE X (.Compare a [op] [b] m) (tP X.K Z (e2 o fa fb)):=(OQ c f e d).imp λg H Q h=>Hl h
noncomputable def dA(f:DF):DT:=λa=>(f a).bind λd=>match d with|.bl b=>Y b|_=>M
def rZ{f:DF}{a:cA}{b:Bool}(h:dA f a=Y b):f a=Y (.bl b):=by
 unfold dA at h;obtain⟨d,e,h⟩:=aa.1 h;rw[e];cases d with
 |bl c=>rw[show c=b from bM h]
 |_=>cases h
def Tb{op:CmpOp}(f:Az X (gr op) o)(i:PE X a (tQ X.K Z fa))(h:PE X b (tQ X.K Z fb))(g:iu op b=Z_):PT X (.Compare a [op] [b] m) (rG X.K Z (dA (e2 o fa fb))):=
 (x3 f i h g).imp <|by rintro n H Q ⟨G,e,d,j,c,l,k⟩;exact Hl (Z:=Z) (fa:=fa) (fb:=fb) ⟨G,e,.bl d,j,c,rZ l,λv G' H' E r=>⟨d,dB.mp r,k G' H' E⟩⟩
noncomputable def kL(f g:DT):DT:=λa=>(f a).bind λc=>if c=Z' then g a else Y Z_
noncomputable def qz(f g:DT):DT:=λa=>(f a).bind λc=>if c=Z' then Y Z' else g a
noncomputable def gM(f:DT):DT:=λa=>(f a).map λc=> !c
variable {f:DT}
def Xm(b:PT X a (rG X.K Z f)):PW X (.BoolOp .And [a] m) (rG X.K Z f):=OC b
def Zd(b:PT X a (rG X.K Z f)):PW X (.BoolOp .Or [a] m) (rG X.K Z f):=Lj b
def Ze(o : PT X a (rG X.K Z f))(n : PW X (.BoolOp .And (b :: B) m) (rG X.K Z g)): PW X (.BoolOp .And (a :: b :: B) m) (rG X.K Z (kL f g)) := (RG o n).imp <|by
  rintro v H Q ⟨G,j,d,p,h,e,k⟩
  unfold kL at e
  obtain ⟨c,q,e⟩ := aa.1 e
  refine⟨G,j,c,p,h,q,λl s i => ?_⟩
  cases c with
  |true => exact Aq ⟨l,j,d,i.gh,h.ext i,e,λt r u => k t r (i.trans u)⟩
  | false => have : d = Z_ := (bM (show Y Z_ = Y d from e)).symm
             subst this; exact zd (k l s i)
def aaY(o : PT X a (rG X.K Z f))(n : PW X (.BoolOp .Or (b :: B) m) (rG X.K Z g)): PW X (.BoolOp .Or (a :: b :: B) m) (rG X.K Z (qz f g)) := (Lk o n).imp <|by
  rintro v H Q ⟨G,j,d,p,h,e,k⟩
  unfold qz at e
  obtain ⟨c,q,e⟩ := aa.1 e
  refine⟨G,j,c,p,h,q,λl s i => ?_⟩
  cases c with
  |false => exact zd ⟨l,j,d,i.gh,h.ext i,e,λt r u => k t r (i.trans u)⟩
  | true => have : d = Z' := (bM (show Y Z' = Y d from e)).symm
            subst this; exact Aq (k l s i)
def Ta(i:PT X a (rG X.K Z f)):PT X (.UnaryOp .Not a m) (rG X.K Z (gM f)):=(Ln i).imp <|by
 rintro p H Q ⟨G,h,d,j,e,b,k⟩;unfold gM at b;rcases g:f h with _|c
 ·rw[g]at b;cases b
 rw[g]at b;have:d = !c:=(bM (show Y (!c)=Y d from b)).symm;subst this;exact⟨G,h,c,j,e,g,λn l o=>k n l o⟩
def MK(f g:DF):DF:=λa=>(dA f a).bind λc=>if c=Z' then g a else Y (.bl Z_)
def Za(f g:DF):DF:=λa=>(dA f a).bind λc=>if c=Z' then Y (.bl Z') else g a
noncomputable def Pn(f:DT):DF:=λa=>(f a).map λc =>.bl (!c)
def Tn{b}(h:PE X a (tP X.K Z fa)):PE X (.BoolOp b [a] m) (tP X.K Z fa):=Lv h
def Tr(o : PE X a (tP X.K Z fa))(n : PE X (.BoolOp .And (b :: B) m) (tP X.K Z fb)): PE X (.BoolOp .And (a :: b :: B) m) (tP X.K Z (MK fa fb)) := (FP o n).imp <|by
  rintro w H Q ⟨G,h,d,p,f,e,k⟩
  unfold MK at e
  obtain ⟨c,q,e⟩ := aa.1 e
  refine⟨G,h,_,p,f,rZ q,λv i s g l => ⟨c,dB.mp l,?_⟩⟩
  cases c with
  |true => exact Aq ⟨i,h,d,g.gh,f.ext g,e,λv t r u j => k v t r (g.trans u) j⟩
  | false => have : d = .bl Z_ := (bM (show Y (D.bl Z_) = Y d from e)).symm
             subst this; exact zd (k _ i s g (dB.mpr rfl))
def aa2(o : PE X a (tP X.K Z fa))(n : PE X (.BoolOp .Or (b :: B) m) (tP X.K Z fb)): PE X (.BoolOp .Or (a :: b :: B) m) (tP X.K Z (Za fa fb)) := (Vt o n).imp <|by
  rintro w H Q ⟨G,h,d,p,f,e,k⟩
  unfold Za at e
  obtain ⟨c,q,e⟩ := aa.1 e
  refine⟨G,h,_,p,f,rZ q,λv i s g l => ⟨c,dB.mp l,?_⟩⟩
  cases c with
  |false => exact zd ⟨i,h,d,g.gh,f.ext g,e,λv t r u j => k v t r (g.trans u) j⟩
  | true => have : d = .bl Z' := (bM (show Y (D.bl Z') = Y d from e)).symm
            subst this; exact Aq (k _ i s g (dB.mpr rfl))
def To(i:PE X a (tP X.K Z fa)):PE X (.UnaryOp .Not a m) (tP X.K Z (Pn (dA fa))):=(RS i).imp <|by
 rintro p H Q ⟨G,g,d,j,e,b,k⟩;unfold Pn at b;rcases f:dA fa g with _|c
 ·rw[f]at b;cases b
 rw[f]at b;have:d=.bl (!c):=(bM (show Y (D.bl (!c))=Y d from b)).symm;subst this;exact⟨G,g,_,j,e,rZ f,λv n l o h=>⟨c,dB.mp h,k _ n l o (dB.mpr rfl)⟩⟩
noncomputable def MJ(c:DT)(f g:DF):DF:=λa=>(c a).bind λb=>if b=Z' then f a else g a
def aa4(q:PT X c (rG X.K Z f))(s:PE X a (tP X.K Z fa))(r:PE X b (tP X.K Z fb)):PE X (.IfExp c a b m) (tP X.K Z (MJ f fa fb)):=(Lx q s r).imp <|by
 rintro w H Q ⟨G,i,d,t,e,h,k⟩;unfold MJ at h;obtain⟨c,u,h⟩:=aa.1 h;refine⟨G,i,c,t,e,u,λp x g =>?_⟩;cases c with
 |true=>exact Aq ⟨p,i,d,g.gh,e.ext g,h,λv n l o j=>k v n l (g.trans o) j⟩
 |false=>exact zd ⟨p,i,d,g.gh,e.ext g,h,λv n l o j=>k v n l (g.trans o) j⟩
end
mutual
noncomputable def Aw:D->D->Bool
 |.dg,.dg=>Z'|.bl a,.bl b=>a==b|.bl a,.int b=>(if a then 1 else 0)==b
 |.int a,.bl b=>a==(if b then 1 else 0)
 |.int a,.int b=>a==b|.str a,.str b=>a==b|.lst d,.lst c=>rK d c|.tup d,.tup c=>rK d c|_,_=>Z_
noncomputable def rK:List D->List D->Bool
 |[],[]=>Z'|x::b,y::a=>Aw x y&&rK b a|_,_=>Z_
end
mutual
def jA:D->Nat->Bool
 |.lst a,n=>n != 0&&nB a (n-1)|.tup a,n=>n != 0&&nB a (n-1)|.jt _,_=>Z_|.ins _ _ _,_=>Z_|.iZ _ _,_=>Z_|.obj _ _,_=>Z_|.eB _ _,_=>Z_|.dg,_=>Z'|.bl _,_=>Z'|.int _,_=>Z'|.str _,_=>Z'
def nB:List D->Nat->Bool
 |[],_=>Z'|x::a,n=>jA x n&&nB a n
end
theorem zG:∀ {a:List D}{n i:Nat}{d:D},nB a n=Z'->a[i]?=Y d->jA d n=Z'
 |[],n,i,d,h,e=>by simp at e
 |x::a,n,0,d,h,e=>by simp only[nB,aZ]at h;simp at e;subst e;exact h.1
 |x::a,n,i+1,d,h,e=>by simp only[nB,aZ]at h;exact zG (i:=i) h.2 (by simpa using e)
theorem vv:∀(b a:List D),rK b a=((cv (min b.length a.length)).all (λj=>Aw (b.getD j .dg) (a.getD j .dg))&&(b.length==a.length))
 |[],[]=>by simp[rK]
 |[],y::a=>by simp[rK]
 |x::b,[]=>by simp[rK]
 | x::b,y::a=>by
  have e:min (x::b).length (y::a).length=min b.length a.length+1:=by simp[Nat.add_min_add_right]
  rw[e,vF,pz,lH];simp only[rK,vv b a,fo,List.getD_cons_zero,List.getD_cons_succ,aU];rw[Bool.and_assoc]
  congr 2
  simp
def M3:Aw (.int x) (.int y)=(x==y):=rfl
mutual
theorem Eu:∀(d:D) (n:Nat),jA d n=Z'->Aw d d=Z'
 |.dg,n,h=>rfl|.bl b,n,h=>beq_self_eq_true b|.int b,n,h=>beq_self_eq_true b|.str b,n,h=>beq_self_eq_true b|.lst a,n,h=>by simp only[jA,aZ]at h;exact qk a _ h.2
 |.tup a,n,h=>by simp only[jA,aZ]at h;exact qk a _ h.2
 |.jt a,n,h=>by simp[jA]at h
 |.ins _ _ _,n,h=>by simp[jA]at h
 |.iZ _ _,n,h=>by simp[jA]at h
 |.obj _ _,n,h=>by simp[jA]at h
 |.eB _ _,n,h=>by simp[jA]at h
theorem qk:∀(d:List D) (n:Nat),nB d n=Z'->rK d d=Z'
 |[],n,h=>by simp[rK]
 |x::a,n,h=>by simp only[nB,aZ]at h;simp only[rK,Eu x n h.1,qk a n h.2,NK]
end
section
variable {K:aT}
mutual
theorem cJ.inj:∀(u g:D) (n m:Nat){v:V},jA u n=Z'->jA g m=Z'->cJ K H u v->cJ K H g v->u=g
 |.dg,g,n,m,v,h,d,i,f=>by have e:=gv.mp i;subst e;cases g<;>simp[cJ,jA]at f d ⊢
 |.bl b,g,n,m,v,h,d,i,f=>by have e:=dB.mp i;subst e;cases g<;>simp[cJ,jA]at f d ⊢<;>exact f
 |.int b,g,n,m,v,h,d,i,f=>by have e:=bU.mp i;subst e;cases g<;>simp[cJ,jA]at f d ⊢<;>exact f
 |.str b,g,n,m,v,h,d,i,f=>by have e:=gu.mp i;subst e;cases g<;>simp[cJ,jA]at f d ⊢<;>exact f
 | .lst o,g,n,m,v,h,d,i,f=>by
  obtain⟨a,w,rfl,l,r⟩:=cS.mp i;cases g with
  |lst k=>obtain⟨b,s,e,j,q⟩:=cS.mp f;cases e;rw[l]at j;cases j;simp only[jA,aZ]at h d;rw[bE.inj o k _ _ h.2 d.2 r q]
  |tup k=>obtain⟨b,s,e,j,q⟩:=eP.mp f;cases e;rw[l]at j;cases j
  |jt k=>simp[jA]at d|ins c t p=>simp[jA]at d|iZ t p=>simp[jA]at d|obj=>simp[jA]at d|eB=>simp[jA]at d|_=>simp[cJ]at f
 | .tup o,g,n,m,v,h,d,i,f=>by
  obtain⟨a,w,rfl,l,r⟩:=eP.mp i;cases g with
  |tup k=>obtain⟨b,s,e,j,q⟩:=eP.mp f;cases e;rw[l]at j;cases j;simp only[jA,aZ]at h d;rw[bE.inj o k _ _ h.2 d.2 r q]
  |lst k=>obtain⟨b,s,e,j,q⟩:=cS.mp f;cases e;rw[l]at j;cases j
  |jt k=>simp[jA]at d|ins c t p=>simp[jA]at d|iZ t p=>simp[jA]at d|obj=>simp[jA]at d|eB=>simp[jA]at d|_=>simp[cJ]at f
 |.jt o,g,n,m,v,h,d,i,f=>by simp[jA]at h
 |.ins _ _ _,g,n,m,v,h,d,i,f=>by simp[jA]at h
 |.iZ _ _,g,n,m,v,h,d,i,f=>by simp[jA]at h
 |.obj _ _,g,n,m,v,h,d,i,f=>by simp[jA]at h
 |.eB _ _,g,n,m,v,h,d,i,f=>by simp[jA]at h
theorem bE.inj:∀(b a:List D) (n m:Nat){d:List V},nB b n=Z'->nB a m=Z'->bE K H b d->bE K H a d->b=a
 | [],a,n,m,d,g,f,h,c=>by
  rw[cP.mp h]at c;cases a with
  |nil=>rfl|cons y a=>obtain⟨_,_,e,_⟩:=bH.mp c;cases e
 | x::b,a,n,m,d,g,f,h,c=>by
  obtain⟨v,r,rfl,q,t⟩:=bH.mp h;cases a with
  |nil=>have:=cP.mp c;cases this
  |cons y a=>obtain⟨k,l,e,j,i⟩:=bH.mp c;cases e;simp only[nB,aZ]at g f;rw[cJ.inj x y _ _ g.1 f.1 q j,bE.inj b a _ _ g.2 f.2 t i]
end
end
section
variable {P:br}{K:aT}{s:av}
def F2(c:nS P w H s.heap)(e:H a=Y (.lst d)):∃b:List ak,cg d b/\s.heap.IsList a b.toArray:=by
 obtain⟨z,b,n,r,q⟩:=c a _ e;exact⟨b,r,_,q,rfl,n,rfl⟩
def FZ(c:nS P w H s.heap)(e:H a=Y (.tup d)):∃b:List ak,cg d b/\s.heap.IsTuple a b.toArray:=by
 obtain⟨z,b,r,q⟩:=c a _ e;exact⟨b,r,q⟩
open SeqAt
structure zV(A:gI)(s:av)(u1 u2:ak)(b:Bool):Prop where
 rc:RcAt A s u1 u2 b
 ne:RcNeAt A s u1 u2 (!b)
 eq:EqAt A s u1 u2 b
theorem HQ(j:nS P w H s.heap)(g:A.units<rP){v:D}{m:Nat}{F:ak}(u:jA z 0=Z')(i:jA v m=Z')(y:cJ K H z E)(h:cJ K H v C)(x:RelV E G)(f:RelV C F):
  zV A s G F (Aw z v):=by
 cases z with
 |dg=>
  have e:=gv.mp y;subst e;cases x;cases v with
  |dg=>have e:=gv.mp h;subst e;cases f;exact⟨.none_none,.none_none,.same _⟩
  |bl b=>have e:=dB.mp h;subst e;cases f;exact⟨.none_bool b,.none_bool b,.none_bool b⟩
  |int b=>have e:=bU.mp h;subst e;obtain⟨t,rfl⟩:=f;exact⟨.none_int b t,.none_int b t,.none_int b t⟩
  |str b=>have e:=gu.mp h;subst e;obtain⟨t,rfl⟩:=f;exact⟨.none_str b t,.none_str b t,.none_str b t⟩
  |lst n=>obtain⟨a,r,rfl,q,_⟩:=cS.mp h;cases f;obtain⟨k,_,l⟩:=F2 j q;exact⟨.none_list l g,.none_list l g,.none_list l g⟩
  |tup n=>obtain⟨a,r,rfl,q,_⟩:=eP.mp h;cases f;obtain⟨k,_,l⟩:=FZ j q;exact⟨.none_tuple l g,.none_tuple l g,.none_tuple l g⟩
  |_=>simp[jA]at i
 |bl c=>
  have e:=dB.mp y;subst e;cases x;cases v with
  |dg=>have e:=gv.mp h;subst e;cases f;exact⟨.bool_none c,.bool_none c,.bool_none c⟩
  |bl b=>have e:=dB.mp h;subst e;cases f;exact⟨.bool_bool c b,.bool_bool c b,.bool_bool c b⟩
  |int b=>have e:=bU.mp h;subst e;obtain⟨t,rfl⟩:=f;exact⟨.bool_int c b t,.bool_int c b t,.bool_int c b t⟩
  |str b=>have e:=gu.mp h;subst e;obtain⟨t,rfl⟩:=f;exact⟨.bool_str c b t,.bool_str c b t,.bool_str c b t⟩
  |lst n=>obtain⟨a,r,rfl,q,_⟩:=cS.mp h;cases f;obtain⟨k,_,l⟩:=F2 j q;exact⟨.bool_list c l g,.bool_list c l g,.bool_list c l g⟩
  |tup n=>obtain⟨a,r,rfl,q,_⟩:=eP.mp h;cases f;obtain⟨k,_,l⟩:=FZ j q;exact⟨.bool_tuple c l g,.bool_tuple c l g,.bool_tuple c l g⟩
  |_=>simp[jA]at i
 |int c=>
  have e:=bU.mp y;subst e;obtain⟨d,rfl⟩:=x;cases v with
  |dg=>have e:=gv.mp h;subst e;cases f;exact⟨.int_none c d,.int_none c d,.int_none c d⟩
  |bl b=>have e:=dB.mp h;subst e;cases f;exact⟨.int_bool c d b,.int_bool c d b,.int_bool c d b⟩
  |int b=>have e:=bU.mp h;subst e;obtain⟨t,rfl⟩:=f;exact⟨.int_int c d b t,.int_int c d b t,.int_int c d b t⟩
  |str b=>have e:=gu.mp h;subst e;obtain⟨t,rfl⟩:=f;exact⟨.int_str c d b t,.int_str c d b t,.int_str c d b t⟩
  |lst n=>obtain⟨a,r,rfl,q,_⟩:=cS.mp h;cases f;obtain⟨k,_,l⟩:=F2 j q;exact⟨.int_list c d l g,.int_list c d l g,.int_list c d l g⟩
  |tup n=>obtain⟨a,r,rfl,q,_⟩:=eP.mp h;cases f;obtain⟨k,_,l⟩:=FZ j q;exact⟨.int_tuple c d l g,.int_tuple c d l g,.int_tuple c d l g⟩
  |_=>simp[jA]at i
 |str c=>
  have e:=gu.mp y;subst e;obtain⟨d,rfl⟩:=x;cases v with
  |dg=>have e:=gv.mp h;subst e;cases f;exact⟨.str_none c d,.str_none c d,.str_none c d⟩
  |bl b=>have e:=dB.mp h;subst e;cases f;exact⟨.str_bool c d b,.str_bool c d b,.str_bool c d b⟩
  |int b=>have e:=bU.mp h;subst e;obtain⟨t,rfl⟩:=f;exact⟨.str_int c d b t,.str_int c d b t,.str_int c d b t⟩
  |str b=>have e:=gu.mp h;subst e;obtain⟨t,rfl⟩:=f;exact⟨.str_str c d b t,.str_str c d b t,.str_str c d b t⟩
  |lst n=>obtain⟨a,r,rfl,q,_⟩:=cS.mp h;cases f;obtain⟨k,_,l⟩:=F2 j q;exact⟨.str_list c d l g,.str_list c d l g,.str_list c d l g⟩
  |tup n=>obtain⟨a,r,rfl,q,_⟩:=eP.mp h;cases f;obtain⟨k,_,l⟩:=FZ j q;exact⟨.str_tuple c d l g,.str_tuple c d l g,.str_tuple c d l g⟩
  |_=>simp[jA]at i
 |_=>simp[jA]at u
def zV.refs(a:RcAt A s (.ref l) (.ref b) k)(c:RcNeAt A s (.ref l) (.ref b) (!k))(h:l=b->k=Z'):zV A s (.ref l) (.ref b) k:=by
 refine⟨a,c,?_⟩;by_cases e:l=b
 ·subst e;rw[h rfl];exact .same _
 ·exact .of_refs e a
def M1(h:b.length≠a.length):rK b a=false:=by
 rw[vv];have:(b.length==a.length)=false:=by simpa using h
 rw[this,Ki]
def En{m:Nat}(ih:∀(h g:D) (l k:V) (t p:ak),jA h n=Z'->jA g m=Z'->cJ K H h l->cJ K H g k->RelV l t->RelV k p->zV A s t p (Aw h g))(L:nB d n=Z')(J:nB c m=Z')(r:bE K H d i)(q:bE K H c o)(w:cg i b)(x:cg o a)(j:Nat)(P:j<b.toArray.size)(O:j<a.toArray.size):
  EqAt A s b.toArray[j] a.toArray[j] (Aw (d.getD j .dg) (c.getD j .dg)):=by
 have X:d.length=b.length:=r.length.trans w.length;have U:c.length=a.length:=q.length.trans x.length;have f:j<b.length:=by simpa using P
 have e:j<a.length:=by simpa using O
 have z:d[j]?=Y (d.getD j .dg):=by rw[Kf,ba (by omega)];rfl
 have y:c[j]?=Y (c.getD j .dg):=by rw[Kf,ba (by omega)];rfl
 obtain⟨v,T,I⟩:=r.get z;obtain⟨u,S,G⟩:=q.get y;obtain⟨C,R,F⟩:=w.get T;obtain⟨B,Q,E⟩:=x.get S;have N:b.toArray[j]=C:=by
  have:b[j]?=Y b.toArray[j]:=by simp[f]
  rw[R]at this;exact(bM this).symm
 have W:a.toArray[j]=B:=by
  have:a[j]?=Y a.toArray[j]:=by simp[e]
  rw[Q]at this;exact(bM this).symm
 rw[N,W];exact(ih _ _ _ _ _ _ (zG L z) (zG J y) I G F E).eq
theorem MD(g:nS P w H s.heap):∀(n:Nat){A:gI}(_:A.units+n<rP) (J F:D) (m:Nat) (Q O:V) (S R:ak),jA J n=Z'->jA F m=Z'->cJ K H J Q->cJ K H F O->RelV Q S->RelV O R ->
  zV A s S R (Aw J F):=by
 intro n
 induction n with
 |zero=>intro A hu J F m Q O S R C k I o G i;exact HQ g ž C k I o G i
 |succ n ih=>
  intro A hu J F m Q O S R C k I o G i;have d:A.units<rP:=by omega
  have ih':=λ(m':Nat)=>λ(J F:D) (Q O:V) (S R:ak)=>ih (A:=A.in1) (by show A.units+1+n<rP;omega) J F m' Q O S R
  cases J with
  |lst p=>
   obtain⟨a,vs,rfl,X,W⟩:=cS.mp I;cases G;obtain⟨r,U,l⟩:=F2 g X;cases F with
   |lst h=>
    obtain⟨b,us,rfl,x,z⟩:=cS.mp o;cases i;obtain⟨f,L,q⟩:=F2 g x;have B:=C;have N:=k;simp only[jA,aZ,Nat.add_sub_cancel]at B N;have v:r.toArray.size=p.length:=by rw[bb];exact(W.length.trans U.length).symm
    have y:f.toArray.size=h.length:=by rw[bb];exact(z.length.trans L.length).symm
    have u:a=b->rK p h=true:=λe=>by subst e;rw[X]at x;cases x;rw[<- bE.inj p h _ _ B.2 N.2 W z];exact qk p _ B.2
    show zV A s _ _ (rK p h);by_cases hl:p.length=h.length
    ·have E:rK p h=(cv r.toArray.size).all (λj=>Aw (p.getD j .dg) (h.getD j .dg)):=by rw[vv,<- hl,Ql,v];simp
     have it:=En (ih' _) B.2 N.2 W z U L;exact .refs (by rw[E];exact .lists l q ž d it) (by rw[E];exact .lists l q ž d it) u
    ·have E:=M1 hl;have JE:(r.toArray.size != f.toArray.size)=true:=by rw[v,y];simpa using hl
     refine .refs ?_ ?_ u
     ·rw[E];exact .lists_lengths l q JE d
     ·rw[E];exact .lists_lengths l q JE d
   |tup h=>obtain⟨b,us,rfl,x,z⟩:=eP.mp o;cases i;obtain⟨f,L,q⟩:=FZ g x;exact⟨.list_tuple l q d,.list_tuple l q d,.list_tuple l q d⟩
   |dg=>have e:=gv.mp o;subst e;cases i;exact⟨.list_none l d,.list_none l d,.list_none l d⟩
   |bl b=>have e:=dB.mp o;subst e;cases i;exact⟨.list_bool b l d,.list_bool b l d,.list_bool b l d⟩
   |int b=>have e:=bU.mp o;subst e;obtain⟨t,rfl⟩:=i;exact⟨.list_int b t l d,.list_int b t l d,.list_int b t l d⟩
   |str b=>have e:=gu.mp o;subst e;obtain⟨t,rfl⟩:=i;exact⟨.list_str b t l d,.list_str b t l d,.list_str b t l d⟩
   |_=>simp[jA]at k
  |tup p=>
   obtain⟨a,vs,rfl,X,W⟩:=eP.mp I;cases G;obtain⟨r,U,l⟩:=FZ g X;cases F with
   |tup h=>
    obtain⟨b,us,rfl,x,z⟩:=eP.mp o;cases i;obtain⟨f,L,q⟩:=FZ g x;have B:=C;have N:=k;simp only[jA,aZ,Nat.add_sub_cancel]at B N;have v:r.toArray.size=p.length:=by rw[bb];exact(W.length.trans U.length).symm
    have y:f.toArray.size=h.length:=by rw[bb];exact(z.length.trans L.length).symm
    have u:a=b->rK p h=true:=λe=>by subst e;rw[X]at x;cases x;rw[<- bE.inj p h _ _ B.2 N.2 W z];exact qk p _ B.2
    show zV A s _ _ (rK p h);have E:rK p h=((cv (min r.toArray.size f.toArray.size)).all (λj=>Aw (p.getD j .dg) (h.getD j .dg))&&r.toArray.size==f.toArray.size):=by rw[vv,v,y]
    have it:=En (ih' _) B.2 N.2 W z U L;exact .refs (by rw[E];exact .tuples l q d it) (by rw[E];exact .tuples l q d it) u
   |lst h=>obtain⟨b,us,rfl,x,z⟩:=cS.mp o;cases i;obtain⟨f,L,q⟩:=F2 g x;exact⟨.tuple_list l q d,.tuple_list l q d,.tuple_list l q d⟩
   |dg=>have e:=gv.mp o;subst e;cases i;exact⟨.tuple_none l d,.tuple_none l d,.tuple_none l d⟩
   |bl b=>have e:=dB.mp o;subst e;cases i;exact⟨.tuple_bool b l d,.tuple_bool b l d,.tuple_bool b l d⟩
   |int b=>have e:=bU.mp o;subst e;obtain⟨t,rfl⟩:=i;exact⟨.tuple_int b t l d,.tuple_int b t l d,.tuple_int b t l d⟩
   |str b=>have e:=gu.mp o;subst e;obtain⟨t,rfl⟩:=i;exact⟨.tuple_str b t l d,.tuple_str b t l d,.tuple_str b t l d⟩
   |_=>simp[jA]at k
  |jt p=>simp[jA]at C|ins c ks T=>simp[jA]at C|iZ ks T=>simp[jA]at C|obj=>simp[jA]at C|eB=>simp[jA]at C|_=>exact HQ g d rfl k I o G i
end
def fc(x y:D):Option D:=if (jA x 180&&jA y 180)=Z' then Y (.bl (Aw x y)) else M
def EZ(x y:D):Option D:=if (jA x 180&&jA y 180)=Z' then Y (.bl (!Aw x y)) else M
section
variable {X:Cx}
def LX(h:eH k X.A):Az X (gr .Eq) fc:=by
 intro e s n H x y v u Q I g f ⟨G,m,l,d,c,j,i,a,q⟩;unfold fc at a;split at a
 ·rename_i b;rw[aZ]at b;cases a;have o:=h.un;exact(MD (K:=X.K) I.eR 180 (A:=X.A) ž m l 180 x y v u b.1 b.2 (j.all c) (i.all c) g f).rc _ _ _ _ ⟨.bl _,H,I,rfl,q _ G H (.refl c) (dB.mpr rfl)⟩
 ·cases a
def VB(h:eH k X.A):Az X (gr .NotEq) EZ:=by
 intro e s n H x y v u Q I g f ⟨G,m,l,d,c,j,i,a,q⟩;unfold EZ at a;split at a
 ·rename_i b;rw[aZ]at b;cases a;have o:=h.un;exact(MD (K:=X.K) I.eR 180 (A:=X.A) ž m l 180 x y v u b.1 b.2 (j.all c) (i.all c) g f).ne _ _ _ _ ⟨.bl _,H,I,rfl,q _ G H (.refl c) (dB.mpr rfl)⟩
 ·cases a
noncomputable def Nw:D->D->Option D
 |.int i,.int j=>Y (.bl (decide (i<j)))|_,_=>M
noncomputable def t2:D->D->Option D
 |.int i,.int j=>Y (.bl (decide (j<i)))|_,_=>M
noncomputable def oGe:D->D->Option D
 |.int i,.int j=>Y (.bl (decide (j<=i)))|_,_=>M
def A5{f:ak->ak->Sem ak}{g':Int->Int->D}(h:oW X f (rI C g))(a:∀x y d,o x y=Y d->∃i j,x=.int i/\y=.int j/\C i j/\d=g' i j)(b:∀i j G,cJ X.K G (g' i j) (g i j)):Az X f o:=
 oW.imp h <|by rintro x y H Q ⟨G,p,n,d,l,k,e,m,q⟩;obtain⟨i,j,rfl,rfl,c,rfl⟩:=a _ _ _ m;exact⟨i,j,k.int,e.int,c,q _ G H (.refl l) (b i j G)⟩
def LG{f:ak->ak->Sem ak}(h:oW X f (Oz g)):oW X f (rI (λ_ _=>True) g):=oW.imp h <|by rintro x y H Q ⟨i,j,b,a,_,q⟩;exact⟨i,j,b,a,q⟩
def Z7:Az X (gr .Lt) Nw:=A5 (LG Vx) (g':=λi j =>.bl (decide (i<j))) (λx y d h=>by unfold Nw at h;split at h<;>cases h;exact⟨_,_,rfl,rfl,trivial,rfl⟩) λi j G=>dB.mpr rfl
def Z9:Az X (gr .Gt) t2:=A5 (LG QJ) (g':=λi j =>.bl (decide (j<i))) (λx y d h=>by unfold t2 at h;split at h<;>cases h;exact⟨_,_,rfl,rfl,trivial,rfl⟩) λi j G=>dB.mpr rfl
noncomputable def lZ:D->D->Option D
 |.int i,.int j=>Y (.int (i-j))|_,_=>M
def R6:Az X (dN .Sub) lZ:=A5 (LG FR) (g':=λi j =>.int (i-j)) (λx y d h=>by unfold lZ at h;split at h<;>cases h;exact⟨_,_,rfl,rfl,trivial,rfl⟩) λi j G=>bU.mpr rfl
noncomputable def fD:D->D->Option D
 |.int i,.int j=>if 0<j then Y (.int (i%j)) else M
 |_,_=>M
def Yt:Az X (dN .Mod) fD:=A5 RZ (g':=λi j =>.int (i%j)) (λx y d h=>by
 unfold fD at h;split at h<;>try (cases h;done)
 split at h<;>cases h;exact⟨_,_,rfl,rfl,by assumption,rfl⟩) λi j G=>bU.mpr rfl
noncomputable def iU:D->D->Option D
 |.int i,.int j=>if 0<j/\j<2 ^ 64 then Y (.int (i/j)) else M
 |_,_=>M
def LH:oW X (dN .FloorDiv) (rI (λ_ j=>0<j/\j<2 ^ 64) λi j =>.int (i/j)):=Ut λi j _ _ _ _ _ a q=>by
 have d:(0:Int)<j:=a.1;have c:j<2 ^ 64:=a.2;have b:j.natAbs<2 ^ 64:=by omega
 refine floordiv_int ž (by rw[Kg i (by omega)];exact q) (.inl (PyProof.noPylong_of_log2 ?_));have:=(Nat.log2_lt (n:=j.natAbs) (k:=64) ž).mpr b;omega
def W8:Az X (dN .FloorDiv) iU:=A5 LH (g':=λi j =>.int (i/j)) (λx y d h=>by
 unfold iU at h;split at h<;>try (cases h;done)
 split at h<;>cases h;exact⟨_,_,rfl,rfl,by assumption,rfl⟩) λi j G=>bU.mpr rfl
noncomputable def eC:Nat:=1000000
def ia:eC<=bc:=by rw[gF];decide
def d9:D->D->Option D
 |.int i,.int j=>Y (.int (i+j))|.str x,.str y=>if x.length+y.length<=eC then Y (.str (x++y)) else M
 |.lst xs,.lst a=>if xs.length+a.length<=eC then Y (.lst (xs++a)) else M
 |_,_=>M
def Yu:Az X (dN .Add) d9:=by
 refine oW.imp (R1.or (FT.or LI)) ?_;rintro x y H Q ⟨G,u,t,d,e,h,g,c,q⟩;unfold d9 at c;split at c<;>try (cases c;done)
 ·cases c;exact .inl ⟨_,_,h.int,g.int,q _ G H (.refl e) (bU.mpr rfl)⟩
 ·split at c
  ·cases c;rename_i f;exact .inr (.inl ⟨_,_,h.str,g.str,bQ f ia,q _ G H (.refl e) (gu.mpr rfl)⟩)
  ·cases c
 ·split at c
  ·cases c;rename_i f;obtain⟨a,l,s,o,j⟩:=h.lst e;obtain⟨b,m,r,n,i⟩:=g.lst e;refine .inr (.inr ⟨a,b,l,m,s,r,o,n,?_,λp k=>q _ _ _ (gc.alloc (p:=p) e k) ?_⟩)
   ·rw[<- j.length,<- i.length];exact bQ f ia
   ·exact cS.mpr ⟨p,_,rfl,aX,bE.mono (.alloc (e.free k)) _ (j.append i)⟩
  ·cases c
instance:DecidablePred λp:Int×Int=>Nu p.1 p.2:=λp=>by unfold Nu;infer_instance
def rJ:D->D->Option D
 |.int i,.int j=>if (-(2 ^ 64)<i/\i<2 ^ 64)\/(-(2 ^ 64)<j/\j<2 ^ 64) then Y (.int (i*j)) else M
 |.lst a,.int k=>if (-(2 ^ 63)<=k/\k<2 ^ 63)/\a.length*k.toNat<=eC then Y (.lst (bt k.toNat a).flatten) else M
 |_,_=>M
def Ys:Az X (dN .Mult) rJ:=by
 refine oW.imp (RY.or RW) ?_;rintro x y H Q ⟨G,o,n,d,c,i,h,b,q⟩;unfold rJ at b;split at b<;>try (cases b;done)
 ·split at b
  ·cases b;rename_i l;exact .inl ⟨_,_,i.int,h.int,l,q _ G H (.refl c) (bU.mpr rfl)⟩
  ·cases b
 ·split at b
  ·cases b;rename_i e;obtain⟨a,j,m,k,f⟩:=i.lst c;refine .inr ⟨a,_,j,m,h.int,k,e.1.1,e.1.2,?_,λp g=>q _ _ _ (gc.alloc (p:=p) c g) ?_⟩
   ·rw[<- f.length];exact bQ e.2 ia
   ·exact cS.mpr ⟨p,_,rfl,aX,bE.mono (.alloc (c.free g)) _ (f.rep _)⟩
  ·cases b
noncomputable def e1(o:D->Option D)(a:DF):DF:=λρ=>(a ρ).bind o
def HU(h:e1 o a b=Y d):∃x,a b=Y x/\o x=Y d:=by
 unfold e1 at h;obtain⟨x,c,h⟩:=aa.1 h;rw[c];exact⟨x,rfl,h⟩
noncomputable def yY:D->Option D
 |.int i=>Y (.int (-i))|_=>M
def Zo{b:List Nat}{f:DF}{c:Pos}(j:PE X a (tQ X.K b f)):PE X (.UnaryOp .USub a c) (tP X.K b (e1 yY f)):=(Hr Fi j).imp <|by
 rintro r H Q ⟨G,h,d,l,e,n,k⟩;obtain⟨x,m,g⟩:=HU n;cases x<;>simp[yY]at g
 subst g;exact⟨G,h,_,l,e,m,λv p o q i=>⟨_,i.int,k _ p o q (bU.mpr rfl)⟩⟩
end
inductive DO where
 |nx (ρ:cA)|rt (d:D)|ro (ds:List D)|bk (ρ:cA)|ct (ρ:cA)
 |rm (d:D) (ρ:cA)
 |rf (i:Nat) (ρ:cA)
 |ex (c:aJ) (n:Int)
abbrev DG:=cA->Option DO
structure Bs where
 g:Hp
 h:Hp
 pin:List (Nat×ax)
 fly:aJ->Int->Prop
def nF(K:aT)(G H:Hp):D->ax->List ax->Prop
 |.obj s t,a,S=>cE K G H s t (.ref a) S|.eB _ _,_,S=>S=[]|d,a,S=>(∃o,H a=Y o/\jd K G d o)/\S=[a]
noncomputable def vm:D->Bool
 |.lst _=>Z'|.ins _ _ _=>Z'|.iZ _ _=>Z'|_=>Z_
def jd.vm{K:aT}(h:jd K G d o):vm d=true:=by
 cases d<;>first|rfl|exact h.elim
def nF.cell{K:aT}{d:D}{a:ax}{S:List ax}(b:vm d=Z'):nF K G H d a S↔(∃o,H a=Y o/\jd K G d o)/\S=[a]:=by
 cases d<;>first|exact Iff.rfl|cases b
def nF.here{K:aT}{a:ax}{S:List ax}(h:nF K G H d a S):∀b∈S,∃o,H b=Y o:=λb c=>by
 cases d with
 |obj s t=>obtain⟨o,h,_⟩:=cE.here (show cE K G H s t (.ref a) S from h) b c;exact⟨o,h⟩
 |eB r p=>rw[show S=[] from h]at c;cases c
 |_=>obtain⟨⟨o,e,_⟩,rfl⟩:=h;simp at c;subst c;exact⟨o,e⟩
def nF.mono{K:aT}{d:D}{S:List ax}(g:bC G G')(k:∀b∈S,∀o,H b=Y o->H' b=Y o)(h:nF K G H d a S):nF K G' H' d a S:=by
 cases d with
 |obj s t=>exact cE.mono g k h|eB r p=>exact h|_=>obtain⟨⟨o,e,c⟩,rfl⟩:=h;exact⟨⟨o,k a Ž o e,jd.mono g c⟩,rfl⟩
structure qp(K:aT)(B:Bs)(Z:List Nat)(G H:Hp)(σ:St)(ρ:cA)(F:Nat->List ax):Prop where
 it:∀(i:Nat) (d:D),i∈Z->ρ[i]?=some (some d)->∃a,σ[i]?=some (some (.ref a))/\nF K G H d a (F i)
 ok:∀(i:Nat) (d:D),i∈Z->ρ[i]?=some (some d)->(F i).Nodup/\∀b∈F i,G b=none/\B.2 b=none
 ap:∀(i j:Nat) (d c:D),i∈Z->j∈Z->ρ[i]?=some (some d)->ρ[j]?=some (some c)->i≠j->∀b∈F i,b∉F j
structure SR(K:aT)(B:Bs)(Z:List Nat)(G H:Hp)(σ:St)(ρ:cA):Prop where
 gh:bC G H
 g0:bC B.1 G
 h0:bC B.2 H
 fr:∀b o,G b=some o->B.1 b=some o\/B.2 b=none
 env:∀(i:Nat) (d:D),i∉Z->ρ[i]?=some (some d)->∃v,σ[i]?=some (some v)/\cJ K G d v
 ow:∃F,qp K B Z G H σ ρ F
 len:σ.length=ρ.length
 pin:∀(i:Nat) (a:ax),(i,a)∈B.3->i∈Z/\σ[i]?=some (some (.ref a))
 eB:∀(j r:Nat) (p:zP),j∈Z->B9 j∈Z->ρ[j]?=some (some (.eB r p))->ES Z H σ ρ j r p
section
variable {K:aT}
def SR.mR(S:SR K B Z G H C A):gc B.1 B.2 G H:=⟨S.h0,S.g0,S.gh,S.fr⟩
def SR.LC(S:SR K B Z G H C A)(b:i∈Z)(e:A[i]?=Y (Y d))(c:vm d=Z'):∃a o,C[i]?=Y (Y (.ref a))/\H a=Y o/\jd K G d o/\G a=M/\B.2 a=none:=by
 obtain⟨F,W⟩:=S.ow;obtain⟨a,n,m⟩:=W.it i d b e;obtain⟨⟨o,l,k⟩,j⟩:=(nF.cell c).mp m;obtain⟨_,h⟩:=W.ok i d b e;obtain⟨g,f⟩:=h a (by rw[j];simp);exact⟨a,o,n,l,k,g,f⟩
def SR.iX(S:SR K B Z G H C A):kH K Z G H C A:=⟨S.len,λi d e=>by
 by_cases j:i∈Z
 ·obtain⟨F,W⟩:=S.ow;obtain⟨a,q,f⟩:=W.it i d j e;refine⟨_,q,?_⟩;rw[if_pos j];obtain⟨_,m⟩:=W.ok i d j e;cases d with
  |obj s t=>
   have f:cE K G H s t (.ref a) (F i):=f;generalize F i=u at f m;cases f with
   |leaf r=>exact .inl (qE.mpr r)|lst e t=>exact .inr ⟨a,_,rfl,e,_,.lst e t,λb k=>(m b k).1⟩
   |ins n e l t=>exact .inr ⟨a,_,rfl,e,_,.ins n e l t,λb k=>(m b k).1⟩
   |iZ e l t=>exact .inr ⟨a,_,rfl,e,_,.iZ e l t,λb k=>(m b k).1⟩
  |eB r p=>exact .inl (sY.mpr ⟨a,rfl⟩)|lst=>obtain⟨⟨o,g,c⟩,h⟩:=f;exact .inr ⟨a,o,rfl,g,c⟩
  |ins=>obtain⟨⟨o,g,c⟩,h⟩:=f;exact .inr ⟨a,o,rfl,g,c⟩
  |iZ=>obtain⟨⟨o,g,c⟩,h⟩:=f;exact .inr ⟨a,o,rfl,g,c⟩
  |_=>obtain⟨⟨o,g,c⟩,h⟩:=f;exact c.elim
 ·obtain⟨v,q,f⟩:=S.env i d j e;exact⟨v,q,by rw[if_neg j];exact f⟩,S.eB⟩
def gO{l:List (Option b)}(h:(l.set i (Y x))[j]?=Y (Y y)):(i=j/\y=x/\i<l.length)\/(i≠j/\l[j]?=Y (Y y)):=by
 by_cases e:i=j
 ·subst e;by_cases a:i<l.length
  ·rw[a_ a]at h;cases h;exact .inl ⟨rfl,rfl,a⟩
  ·rw[ib (by simpa using a)]at h;cases h
 ·rw[ai e]at h;exact .inr ⟨e,h⟩
def qW{l:List (Option a)}(h:i<l.length):(l.set i (Y x))[i]?=Y (Y x):=by rw[a_ h]
def qp.ext{F:Nat->List ax}(W:qp K B Z G H C A F)(E:gc G H G' H'):qp K B Z G' H' C A F:=by
 refine⟨λi d c e =>?_,λi d c e =>?_,W.ap⟩
 ·obtain⟨a,h,g⟩:=W.it i d c e;exact⟨a,h,g.mono E.gg λb _ o=>E.hh b o⟩
 ·obtain⟨a,h,g⟩:=W.it i d c e;obtain⟨n,k⟩:=W.ok i d c e;refine⟨n,λb f=>⟨?_,(k b f).2⟩⟩;obtain⟨o,j⟩:=g.here b f;rcases q:G' b with _|u
  ·rfl
  rcases E.fr b u q with z|z
  ·rw[(k b f).1]at z;cases z
  ·rw[j]at z;cases z
def SR.ext(S:SR K B Z G H C A)(E:gc G H G' H'):SR K B Z G' H' C A:=by
 refine⟨E.gh,S.g0.trans E.gg,S.h0.trans E.hh,λb o e =>?_,λi d a e =>?_,?_,S.len,S.pin,λj r p f c e=>(S.eB j r p f c e).ext E.hh⟩
 ·rcases E.fr b o e with q|q
  ·exact S.fr b o q
  ·exact .inr (S.h0.free q)
 ·obtain⟨v,h,g⟩:=S.env i d a e;exact⟨v,h,cJ.mono E.gg d g⟩
 ·obtain⟨F,W⟩:=S.ow;exact⟨F,W.ext E⟩
def SR.v8{v:V}(S:SR K B Z G H C A)(P:i∉Z)(r:cJ K G d v):SR K B Z G H (C.set i (Y v)) (A.set i (Y d)):=by
 have f:∀j,j∈Z->i≠j:=λj b e=>P (e ▸ b)
 refine⟨S.gh,S.g0,S.h0,S.fr,λj c b e =>?_,?_,by simp[S.len],λj a h=>⟨(S.pin j a h).1,by rw[ai (f j (S.pin j a h).1)];exact(S.pin j a h).2⟩,λj k p q R e =>?_⟩
 ·rcases gO e with⟨rfl,rfl,D⟩|⟨n,e⟩
  ·exact⟨v,qW (by rw[S.len];exact D),r⟩
  ·obtain⟨u,l,g⟩:=S.env j c b e;exact⟨u,by rw[ai n];exact l,g⟩
 ·obtain⟨F,W⟩:=S.ow;have m:∀j c,j∈Z->(A.set i (Y d))[j]?=Y (Y c)->A[j]?=Y (Y c):=λj c b e=>by rw[ai (f j b)]at e;exact e
  refine⟨F,λj c b e =>?_,λj c b e=>W.ok j c b (m j c b e),λj k c t b s U T=>W.ap j k c t b s (m j c b U) (m k t s T)⟩;obtain⟨a,l,g⟩:=W.it j c b (m j c b e);exact⟨a,by rw[ai (f j b)];exact l,g⟩
 ·rw[ai (f j q)]at e;obtain⟨o,Q,z,y,E,w,x,l,g,e3,X⟩:=S.eB j k p q R e;exact⟨o,Q,z,y,E,w,x,by rw[ai (f k o)];exact l,by rw[ai (f k o)];exact g,by rw[ai (f j q)];exact e3,X⟩
def SR.Gz{i:Nat}{a:ax}{d':D}{S' F0:List ax}{F:Nat->List ax}(S:SR K B Z G H C A)(W:qp K B Z G H C A F)(hi:i∈Z)(h0:∀b∈F0,b∈F i/\∃d,A[i]?=Y (Y d))(gg:bC G G')(gh:bC G' H')(fr:∀b o,G' b=Y o->G b=Y o\/H b=M\/b∈F0)(v:∀b o,b∉F0->H b=Y o->H' b=Y o)(nw:nF K G' H' d' a S')(nd:S'.Nodup)(nf:∀b∈S',G' b=M/\(b∈F0\/H b=M\/(B.2 b=M/\∀k c,k∈Z->A[k]?=Y (Y c)->k≠i->b∉F k)))(YM:∀b,(i,b)∈B.3->b=a)(hna:∀r p,d' ≠ .eB r p)(ha:∀j p,j∈Z->B9 j∈Z->j≠i->A[j]?=Y (Y (.eB i p))->∃s t s' v',d'=.obj s t/\C[j]?=Y (Y v')/\gC H' p (.ref a)=Y v'/\ma p s=Y s'):
  SR K B Z G' H' (C.set i (Y (.ref a))) (A.set i (Y d'))/\qp K B Z G' H' (C.set i (Y (.ref a))) (A.set i (Y d')) (λj=>if j=i then S' else F j):=by
 have b0:∀b∈F0,G b=M/\B.2 b=none:=λb g=>by obtain⟨X,d,U⟩:=h0 b g;exact(W.ok i d hi U).2 b X
 have P:∀j c,j∈Z->A[j]?=Y (Y c)->i≠j->∀b∈F j,b∉F0:=λj c l ej f b g SO=>by obtain⟨X,d,U⟩:=h0 b SO;exact W.ap i j d c hi l U ej f b X g
 have W':qp K B Z G' H' (C.set i (Y (.ref a))) (A.set i (Y d')) (λj=>if j=i then S' else F j):=by
  refine⟨λj c l e =>?_,λj c l e =>?_,λj k c c' l hk ej ek Xe =>?_⟩
  ·rcases gO e with⟨rfl,rfl,Q⟩|⟨f,e⟩
   ·exact⟨a,qW (by rw[S.len];exact Q),by simpa using nw⟩
   ·obtain⟨b,R,I⟩:=W.it j c l e;refine⟨b,by rw[ai f];exact R,?_⟩;simp only[if_neg (bF f)];exact I.mono gg λx hx o=>v x o (P j c l e f x hx)
  ·rcases gO e with⟨rfl,rfl,Q⟩|⟨f,e⟩
   ·simp only[if_true];refine⟨nd,λb g=>⟨(nf b g).1,?_⟩⟩;rcases(nf b g).2 with z|z|z
    ·exact(b0 b z).2
    ·exact S.h0.free z
    ·exact z.1
   ·simp only[if_neg (bF f)];obtain⟨n,k⟩:=W.ok j c l e;obtain⟨x,R,I⟩:=W.it j c l e;refine⟨n,λb g=>⟨?_,(k b g).2⟩⟩;rcases q:G' b with _|u
    ·rfl
    rcases fr b u q with z|z|z
    ·rw[(k b g).1]at z;cases z
    ·obtain⟨o,ho⟩:=I.here b g;rw[ho]at z;cases z
    ·exact absurd z (P j c l e f b g)
  ·have y:∀m c,m∈Z->A[m]?=Y (Y c)->i≠m->∀b∈S',b∉F m:=λm c hm em f b g T=>by
    rcases(nf b g).2 with z|z|z
    ·exact P m c hm em f b T z
    ·obtain⟨x,R,I⟩:=W.it m c hm em;obtain⟨o,ho⟩:=I.here b T;rw[ho]at z;cases z
    ·exact z.2 m c hm em (bF f) T
   rcases gO ej with⟨rfl,rfl,Q⟩|⟨f,ej1⟩
   ·rcases gO ek with⟨rfl,_,_⟩|⟨f,Y_⟩
    ·exact absurd rfl Xe
    ·simp only[if_true,if_neg (bF f)];exact y k c' hk Y_ f
   ·rcases gO ek with⟨rfl,rfl,Q⟩|⟨YS,Y_⟩
    ·simp only[if_true,if_neg (bF f)];exact λb g QQ=>y j c l ej1 f b QQ g
    ·simp only[if_neg (bF f),if_neg (bF YS)];exact W.ap j k c c' l hk ej1 Y_ Xe
 refine⟨⟨gh,S.g0.trans gg,λb o e =>?_,λb o e =>?_,λj c l e =>?_,⟨_,W'⟩,by simp[S.len],λj b h =>?_,λj r p X U e =>?_⟩,W'⟩
 ·refine v b o (λz =>?_) (S.h0 b o e);rw[(b0 b z).2]at e;cases e
 ·rcases fr b o e with z|z|z
  ·exact S.fr b o z
  ·exact .inr (S.h0.free z)
  ·exact .inr (b0 b z).2
 ·have f:i≠j:=λz=>l (z ▸ hi)
  rw[ai f]at e;obtain⟨u,R,I⟩:=S.env j c l e;exact⟨u,by rw[ai f];exact R,cJ.mono gg c I⟩
 ·obtain⟨p1,p2⟩:=S.pin j b h;refine⟨p1,?_⟩;by_cases Uw:i=j
  ·subst Uw;rw[YM b h,a_ (aq.mp p2).1]
  ·rw[ai Uw];exact p2
 ·rcases gO e with⟨rfl,z,Q⟩|⟨f,e'⟩
  ·exact absurd z.symm (hna r p)
  ·clear e;have e:=e';clear e';by_cases E:r=i
   ·subst E;obtain⟨s,t,s',v',f1,f2,f3,f4⟩:=ha j p X U (bF f) e;obtain⟨g1,g0,s0,t0,s1,w,v1,g2,g3,g4,g5,g6,g7⟩:=S.eB j r p X U e;have Q:r<A.length:=(aq.mp g2).1;refine⟨hi,g0,s,t,s',.ref a,v',?_,qW (by rw[S.len];exact Q),?_,f3,f4,g7⟩
    ·rw[qW Q,f1]
    ·rw[ai f];exact f2
   ·obtain⟨g1,g0,s0,t0,s1,w,v1,g2,g3,g4,g5,g6⟩:=S.eB j r p X U e;obtain⟨x,R,I⟩:=W.it r _ g1 g2;rw[g3]at R;cases R;refine⟨g1,g0,s0,t0,s1,.ref x,v1,by rw[ai (bF E)];exact g2,by rw[ai (bF E)];exact g3,by rw[ai f];exact g4,?_,g6⟩;exact cE.Cj (show cE K G H s0 t0 (.ref x) (F r) from I) g6.1 (λb g o=>v b o (P r _ g1 g2 (bF E) b g)) g5
def SR.chg{i:Nat}{a:ax}{d':D}{S' F0:List ax}{F:Nat->List ax}(S:SR K B Z G H C A)(W:qp K B Z G H C A F)(q:i∈Z)(v:∀b∈F0,b∈F i/\∃d,A[i]?=Y (Y d))(x:bC G G')(w:bC G' H')(y:∀b o,G' b=Y o->G b=Y o\/H b=M\/b∈F0)(c:∀b o,b∉F0->H b=Y o->H' b=Y o)(m:nF K G' H' d' a S')(n:S'.Nodup)(h:∀b∈S',G' b=M/\(b∈F0\/H b=M))(e:∀b,(i,b)∈B.3->b=a)(f:∀r p,d' ≠ .eB r p)(u:∀j p,j∈Z->B9 j∈Z->j≠i->A[j]?=Y (Y (.eB i p))->∃s t l g,d'=.obj s t/\C[j]?=Y (Y g)/\gC H' p (.ref a)=Y g/\ma p s=Y l):
  SR K B Z G' H' (C.set i (Y (.ref a))) (A.set i (Y d')):=
 (S.Gz W q v x w y c m n (λb k=>⟨(h b k).1,by rcases(h b k).2 with z|z;exact .inl z;exact .inr (.inl z)⟩) e f u).1
def SR.QM(S:SR K B Z G H C A)(b:A[i]?=Y (Y d))(c:vm d=Z'):∀j p,j∈Z->B9 j∈Z->A[j]?=Y (Y (.eB i p))->False:=λj p g f e=>by
 obtain⟨n,o,m,k,l,w,h,a,_⟩:=S.eB j i p g f e;rw[b]at a;cases a;cases c
def CP(a:vm d=Z'):∀r p,d ≠ .eB r p:=λr p e=>by subst e;cases a
def SR.setC(S:SR K B Z G H C A)(m:i∈Z)(E:gc G H G' H')(k:H p=M)(t:G' p=M)(g:H' p=Y o)(r:jd K G' d o)(c:∀a,(i,a)∉B.3)(l:A9 i∉Z):SR K B Z G' H' (C.set i (Y (.ref p))) (A.set i (Y d)):=by
 obtain⟨F,W⟩:=S.ow;exact S.chg (F0:=[]) (S':=[p]) W m (λb f=>by cases f) E.gg E.gh (λb o e=>by rcases E.fr b o e with z|z;exact .inl z;exact .inr (.inl z)) (λb o _ e=>E.hh b o e)
  ((nF.cell r.vm).mpr ⟨⟨o,g,r⟩,rfl⟩) Ž (λb f=>by simp at f;subst f;exact⟨t,.inr k⟩) (λb h=>absurd h (c b)) (CP r.vm) (λj q s n _ e=>(l (S.eB j i q s n e).2.1).elim)
def SR.VG{f:HO}(S:SR K B Z G H C A)(m:i∈Z)(g:A[i]?=Y (Y d))(l:C[i]?=Y (Y (.ref a)))(r:jd K G p f)(s:autoParam (vm d=true) Ų):SR K B Z G (cx H a f) C (A.set i (Y p)):=by
 obtain⟨F,W⟩:=S.ow;obtain⟨D,v,y⟩:=W.it i d m g;rw[l]at v;cases v;obtain⟨⟨o,E,z⟩,u⟩:=(nF.cell s).mp y;obtain⟨n,k⟩:=W.ok i d m g;rw[u]at k;have t:G a=none:=(k a Ž).1;have:=S.chg (i:=i) (a:=a) (d':=p) (F0:=[a]) (S':=[a]) (G':=G) (H':=cx H a f) W m (λb c=>⟨by rw[u];exact c,d,g⟩) (bC.refl _) (λb o e=>by rw[aM (bf e t)];exact S.gh b o e) (λb o e =>.inl e)
  (λb o c e=>by rw[aM (by simpa using c)];exact e) ((nF.cell r.vm).mpr ⟨⟨f,aX,r⟩,rfl⟩) Ž (λb c=>by simp at c;subst c;exact⟨t,.inl Ž⟩)
  (λb h=>by have:=(S.pin i b h).2;rw[l]at this;cases this;rfl) (CP r.vm) (λj q x w _ e=>(S.QM g s j q x w e).elim)
 rwa [gf l]at this
def SR.Ot{p:ax}(S:SR K B Z G H C A)(h:i∈Z)(E:gc G H G' H')(f:H p=M)(j:G' p=M)(e:H' p=Y (.lst c))(r:bE K G' d c)(b:∀a,(i,a)∉B.3)(g:A9 i∉Z):SR K B Z G' H' (C.set i (Y (.ref p))) (A.set i (Y (.lst d))):=
 S.setC h E f j e ⟨c,rfl,r⟩ b g
def SR.mut(S:SR K B Z G H C A)(e:i∈Z)(f:A[i]?=Y (Y (.lst g)))(d:C[i]?=Y (Y (.ref a)))(r:bE K G c b):SR K B Z G (cx H a (.lst b)) C (A.set i (Y (.lst c))):=
 S.VG e f d ⟨b,rfl,r⟩
def SR.freeze{Ź:List Nat}(S:SR K B Z G H C A)(f:∀j∈Ź,j∈Z)(i:Nat)(Q:∀j∈Z,j∈Ź\/j=i)(hn:i∉Ź)(P:i∈Z)(U:∀a,(i,a)∉B.3)(T:A9 i∉Z)(Mo:i<1000000):∃G',SR K B Ź G' H C A:=by
 obtain⟨F,W⟩:=S.ow;have I:∀(j:Nat) (a:ax),(j,a)∈B.3->j∈Ź/\C[j]?=Y (Y (.ref a)):=λj a h=>⟨by
  rcases Q j (S.pin j a h).1 with z|z
  ·exact z
  ·subst z;exact absurd h (U a),(S.pin j a h).2⟩
 by_cases R:∃d,A[i]?=Y (Y d)
 ·obtain⟨d,R⟩:=R;obtain⟨a,e1,E⟩:=W.it i d P R;obtain⟨nd,k⟩:=W.ok i d P R;have n0:∀b∈F i,G b=none:=λb D=>(k b D).1
  have l:bC G (jW G H (F i)):=qb n0;have rep:cJ K (jW G H (F i)) d (.ref a):=by
   cases d with
   |obj s t=>exact qE.mpr (cE.frozen n0 (λb D=>D) (show cE K G H s t (.ref a) (F i) from E))
   |eB r p=>exact sY.mpr ⟨a,rfl⟩|dg=>obtain⟨⟨o,q,g⟩,x⟩:=E;exact g.elim
   |bl=>obtain⟨⟨o,q,g⟩,x⟩:=E;exact g.elim
   |int=>obtain⟨⟨o,q,g⟩,x⟩:=E;exact g.elim
   |str=>obtain⟨⟨o,q,g⟩,x⟩:=E;exact g.elim
   |tup=>obtain⟨⟨o,q,g⟩,x⟩:=E;exact g.elim
   |jt=>obtain⟨⟨o,q,g⟩,x⟩:=E;exact g.elim
   |_=>obtain⟨⟨o,q,g⟩,x⟩:=E;exact(jd.mono l g).rep (by rw[qF (by rw[x];simp)];exact q)
  refine⟨jW G H (F i),nP S.gh,S.g0.trans l,S.h0,λb o e =>?_,λj c n e =>?_,⟨F,λj c n e =>?_,λj c n e =>?_,λj m c c' n T=>W.ap j m c c' (f j n) (f m T)⟩,S.len,I,λj r p h1 h2 e =>?_⟩
  ·by_cases D:b∈F i
   ·exact .inr (k b D).2
   ·rw[oq D]at e;exact S.fr _ _ e
  ·by_cases v:j∈Z
   ·rcases Q j v with z|z
    ·exact absurd z n
    ·subst z;rw[R]at e;cases e;exact⟨_,e1,rep⟩
   ·obtain⟨u,q,g⟩:=S.env j c v e;exact⟨u,q,cJ.mono l c g⟩
  ·obtain⟨b,q,g⟩:=W.it j c (f j n) e;exact⟨b,q,g.mono l λ_ _ _ z=>z⟩
  ·obtain⟨nd',k'⟩:=W.ok j c (f j n) e;refine⟨nd',λb D=>⟨?_,(k' b D).2⟩⟩;have JE:i≠j:=λz=>hn (z ▸ n)
   rw[oq (λz=>W.ap i j d c P (f j n) R e JE b z D)];exact(k' b D).1
  ·obtain⟨g1,X,s0,t0,s1,w,v1,g2,g3⟩:=S.eB j r p (f j h1) (f _ h2) e;rcases Q r g1 with z|z
   ·rcases Q _ X with y|y
    ·exact⟨z,y,s0,t0,s1,w,v1,g2,g3⟩
    ·unfold A9 at y;omega
   ·subst z;exact absurd X T
 ·refine⟨G,S.gh,S.g0,S.h0,S.fr,λj c n e =>?_,⟨F,λj c n e=>W.it j c (f j n) e,λj c n e=>W.ok j c (f j n) e,λj m c c' n T=>W.ap j m c c' (f j n) (f m T)⟩,S.len,I,λj r p h1 h2 e =>?_⟩
  ·by_cases v:j∈Z
   ·rcases Q j v with z|z
    ·exact absurd z n
    ·subst z;exact absurd ⟨c,e⟩ R
   ·exact S.env j c v e
  ·obtain⟨g1,X,s0,t0,s1,w,v1,g2,g3⟩:=S.eB j r p (f j h1) (f _ h2) e;rcases Q r g1 with z|z
   ·rcases Q _ X with y|y
    ·exact⟨z,y,s0,t0,s1,w,v1,g2,g3⟩
    ·unfold A9 at y;omega
   ·subst z;exact absurd X T
end
def WM(K:aT)(B:Bs)(I Z:List Nat)(e:Ends):DO->Prop
 |.nx A=>∀C G H,SR K B Z G H C A->e.nx C H|.rt d=>∀v G H,gc B.1 B.2 G H->cJ K G d v->e.rt v H|.ro g=>∀a f G H,gc B.1 B.2 G H->B.2 a=M->G a=M->H a=Y (.lst f)->bE K G g f->e.rt (.ref a) H|.bk A=>∀C G H,SR K B I G H C A->e.bk C H|.ct A=>∀C G H,SR K B I G H C A->e.ct C H
 |.rm d A=>∀v C G H,(∃b,SR K B b G H C A)->cJ K G d v->e.rt v H|.rf i A=>∀v C G H,(∃b,i∈b/\SR K B b G H C A)->C[i]?=Y (Y v)->e.rt v H|.ex c n=>B.fly c n
inductive iC (K:aT) (B:Bs) (I Z a:List Nat) (g:DG) (b:Ends) (C:St) (H:Hp):Prop
 |mk G A o:SR K B Z G H C A->g A=some o->WM K B I a b o->iC K B I Z a g b C H
section
variable {X:Cx}
noncomputable def cO:DG:=λA=>Y (.nx A)
def ny:oV X [] (iC X.K B I Z Z cO):=B0.imp <|by rintro D C H ⟨G,A,o,S,a,k⟩;cases a;exact k C G H S
noncomputable def be(g h:DG):DG:=λA=>(g A).bind λo=>match o with|.nx a=>h a|o=>Y o
def Ry{K:aT}{e:Ends}(q:iC K B I Z L (be g h) e C H):iC K B I Z own1 g { e with nx:=λC H=>iC K B I own1 L h e C H } C H:=by
 obtain⟨G,A,o,S,a,k⟩:=q;unfold be at a;obtain⟨f,l,a⟩:=aa.1 a;refine⟨G,A,f,S,l,?_⟩;cases f with
 |nx b=>exact λj G' H' m=>⟨G',b,o,m,a,k⟩
 |_=>cases a;exact k
def aH(b:PS X N (iC X.K B I Z own1 g))(a:oV X O (iC X.K B I own1 L h)):oV X (N::O) (iC X.K B I Z L (be g h)):=(gP b a).imp λD C H q=>Ry q
def cT(a:PS X N (iC X.K B I Z own1 g)):oV X [N] (iC X.K B I Z own1 g):=hU a
def uE{b:List pK}(i:Nat)(n:oV X b (iC X.K B I own1 L g))(d:autoParam (∀j∈own1,j∈Z) Ű)(m:autoParam (∀j∈Z,j∈own1\/j=i) Ű)(h:autoParam (i∉own1) Ű)(f:autoParam (i∈Z) Ű)(c:autoParam (∀a,(i,a)∉B.3) ū)(l:autoParam (A9 i∉Z) Ű)(e:autoParam (i<1000000) Ű):oV X b (iC X.K B I Z L g):=
 n.imp <|by rintro D C H ⟨G,A,o,S,p,k⟩;obtain⟨G',q⟩:=S.freeze d i m h f c l e;exact⟨G',A,o,q,p,k⟩
noncomputable def dF(i:Nat)(f:DF):DG:=λA=>(f A).map λd =>.nx (A.set i (Y d))
def sL{i:Nat}{f:DF}(n:X.N.Nodup)(j:X.N[i]?=Y x)(c:Loc X.env.scope x)(m:PE X e (tP X.K Z f))(h:autoParam (i∉Z) Ű)(g:autoParam (cj e (Y (.Name x a)) J.line X.env=dP false) Ų)(l:autoParam (X.fn x=Z'\/X.env.scope.names.lookup x=Y .local) ŭ):
  PS X (.Assign [.Name x a] e J) (iC X.K B I Z Z (dF i f)):=(iF n j c m g l).imp <|by
 rintro D C H ⟨G,A,o,S,b,k⟩;unfold dF at b;obtain⟨d,p,b⟩:=au.1 b;cases b;exact⟨G,A,d,S.gh,S.iX,p,λv G' H' E r=>k _ G' H' ((S.ext E).v8 h r)⟩
noncomputable def kN(i:Nat)(f:DL):DG:=λA=>(f A).map λa =>.nx (A.set i (Y (.lst a)))
def Xn{i:Nat}{f:DL}(u:X.N.Nodup)(q:X.N[i]?=Y x)(g:Loc X.env.scope x)(t:PE X e (tF X.K Z f))(m:autoParam (i∈Z) Ű)(c:autoParam (∀a,(i,a)∉B.3) ū)(n:autoParam (A9 i∉Z) Ű)(j:autoParam (cj e (Y (.Name x b)) J.line X.env=dP false) Ų)(s:autoParam (X.fn x=Z'\/X.env.scope.names.lookup x=Y .local) ŭ):
  PS X (.Assign [.Name x b] e J) (iC X.K B I Z Z (kN i f)):=(iF u q g t j s).imp <|by
 rintro D C H ⟨G,A,o,S,d,k⟩;unfold kN at d;obtain⟨y,w,d⟩:=au.1 d;cases d;exact⟨G,A,y,S.gh,S.iX,w,λp z G' H' E l v h r=>k _ G' H' (S.Ot m E l v h r c n)⟩
noncomputable def dH(f:DF):DG:=λA=>(f A).map .rt
def oH{f:DF}(b:PE X e (tP X.K Z f)):PS X (.Return (Y e) J) (iC X.K B I Z own1 (dH f)):=(pE b).imp <|by
 rintro D C H ⟨G,A,o,S,a,k⟩;unfold dH at a;obtain⟨d,c,a⟩:=au.1 a;cases a;exact⟨G,A,d,S.gh,S.iX,c,λv G' H' E r=>k v G' H' (S.mR.trans E) r⟩
noncomputable def u_(f:DL):DG:=λA=>(f A).map .ro
def HX{f:DL}(h:PE X e (tF X.K Z f)):PS X (.Return (Y e) J) (iC X.K B I Z own1 (u_ f)):=(pE h).imp <|by
 rintro D C H ⟨G,A,o,S,a,k⟩;unfold u_ at a;obtain⟨d,j,a⟩:=au.1 a;cases a;exact⟨G,A,d,S.gh,S.iX,j,λp b G' H' E g i c r=>k p b G' H' (S.mR.trans E) (S.h0.free g) i c r⟩
def DI(i:Nat):DG:=λA=>(eV i A).bind λd=>match d with|.lst a=>Y (.ro a)|_=>M
def Xr{i:Nat}(h:PE X (.Name x p) (iB i))(f:autoParam (i∈Z) Ű):PS X (.Return (Y (.Name x p)) J) (iC X.K B I Z own1 (DI i)):=(pE h).imp <|by
 rintro D C H ⟨G,A,o,S,b,k⟩;unfold DI at b;obtain⟨d,g,b⟩:=aa.1 b;cases d<;>simp only[ae]at b<;>try (cases b;done)
 obtain⟨a,q,n,m,c,l,j⟩:=S.LC f (iN g) rfl;obtain⟨e,rfl,c⟩:=c;cases b;exact⟨_,n,k a e G H S.mR j l m c⟩
def He(i:Nat):DG:=λA=>(eV i A).map λ_ =>.rf i A
def Xq{i:Nat}(h:PE X (.Name x p) (iB i))(c:autoParam (i∈Z) Ű):PS X (.Return (Y (.Name x p)) J) (iC X.K B I Z own1 (He i)):=(pE h).imp <|by
 rintro D C H ⟨G,A,o,S,b,k⟩;unfold He at b;obtain⟨d,f,b⟩:=au.1 b;cases b;obtain⟨F,W⟩:=S.ow;obtain⟨a,e,_⟩:=W.it i d c (iN f);exact⟨_,e,k _ C G H ⟨Z,c,S⟩ e⟩
noncomputable def d7(f:DT)(g h:DG):DG:=λA=>(f A).bind λb=>if b=Z' then g A else h A
def t7{c:Expr}{b:List pK}{f:DT}(j:PT X c (rG X.K Z f))(m:oV X a (iC X.K B I Z own1 g))(l:oV X b (iC X.K B I Z own1 h)):PS X (.If c a b J) (iC X.K B I Z own1 (d7 f g h)):=(DU j m l).imp <|by
 rintro D C H ⟨G,A,o,S,d,k⟩;unfold d7 at d;obtain⟨c,n,d⟩:=aa.1 d;refine⟨G,A,c,S.gh,S.iX,n,λe p i =>?_⟩;cases c with
 |true=>exact Aq ⟨e,A,o,S.ext i,d,k⟩|false=>exact zd ⟨e,A,o,S.ext i,d,k⟩
def iW(i:Nat)(A:cA):Option (List D):=(eV i A).bind λd=>match d with|.lst a=>Y a|_=>M
def fH(h:iW i A=Y a):A[i]?=Y (Y (.lst a)):=by
 unfold iW at h;obtain⟨d,b,h⟩:=aa.1 h;have:=iN b;cases d<;>first|(cases h;exact this)|cases h
def SR.mr{K:aT}(S:SR K B Z G H C A)(d:i∈Z)(h:A[i]?=Y (Y (.lst c))):∃a b,C[i]?=Y (Y (.ref a))/\H a=Y (.lst b)/\bE K G c b/\G a=M/\B.2 a=none:=by
 obtain⟨a,k,j,g,⟨b,rfl,f⟩,e⟩:=S.LC d h rfl;exact⟨a,b,j,g,f,e⟩
def qD(i:Nat)(f:DF):DG:=λA=>(iW i A).bind λa=>(f A).bind λd=>if a.length<eC then Y (.nx (A.set i (Y (.lst (a++[d]))))) else M
def Zi{i:Nat}{c b:Pos}{f:DF}(h:PE X (.Name x p) (iB i))(R:PE X e (tP X.K Z f))(t:autoParam (i∈Z) Ű)(m:autoParam (b_ (.Name x p) "append" X.env (eval (.Name x p) X.env)=eval (.Name x p) X.env) Ų) (n:autoParam (((cn b (ao (e::[]) X.env)).all (λx=> !x.1)&&(gG b (dh [] X.env)).all (λx=>x.1.isSome)
   && decide ((e::[]).length+([]:List nV).length+(if ([]:List nV).isEmpty then 0 else 1)<30))=true) Ų) (l:autoParam ((c.endLine==b.line)=true) Ų) (z:autoParam (ao (e::[]) X.env=(Z_,eval e X.env)::ao [] X.env) Ų) (g:autoParam ((cn b (ao [] X.env)).any (·.1)=false) Ų) (s:autoParam (cj (.Call (.Attribute (.Name x p) "append" c) [e] [] b) M J.line X.env=dP false) Ų) :
  PS X (.Expr (.Call (.Attribute (.Name x p) "append" c) [e] [] b) J) (iC X.K B I Z Z (qD i f)):=
 (mf (xc fX PySem.F.slot_list_append PySem.F.type_list_append kO h (bT R dn z) m n l z g) s).imp <|by
  rintro D C H ⟨G,A,o,S,j,k⟩;unfold qD at j;obtain⟨ds,U,j⟩:=aa.1 j;rw[aa]at j;obtain⟨d,w,j⟩:=j;split at j
  ·cases j;rename_i Q;have u:=fH U;obtain⟨a,P,y,e3,e4,e5,e6⟩:=S.mr t u;refine⟨_,y,.inl ⟨rfl,P,.of e3⟩,G,A,d,S.gh,S.iX,w,λv G' H' E r =>?_⟩;have L:=S.ext E;obtain⟨a',q,K,T,F,_⟩:=L.mr t u;rw[y]at K;cases K;refine⟨a,q,v,rfl,rfl,T,?_,k _ G' _ (L.mut t u y (F.append (.cons r .nil)))⟩;rw[<- F.length];exact bx Q ia
  ·cases j
def RM{K:aT}(S:SR K B Z G H C A)(f:j∈Z)(g:A[j]?=Y (Y (.lst b)))(n:b[b.length-1]?=Y d)(k:∀v H',SR K B Z G H' C (A.set j (Y (.lst b.dropLast)))->cJ K G d v->Q v H'):U9 K "list" Vm (iB j) C H Q:=by
 obtain⟨a,e,l,i,c,p,o⟩:=S.mr f g;obtain⟨v,h,m⟩:=c.get n;rw[c.length]at h;exact⟨_,l,.inl ⟨rfl,e,.of i⟩,a,e,v,rfl,rfl,i,h,k v _ (S.mut f g l c.dropLast) m⟩
def BV(i:Nat)(f:DF):DG:=λA=>(iW i A).bind λb=>(f A).bind λd=>match d with|.lst a=>if b.length+a.length<=eC then Y (.nx (A.set i (Y (.lst (b++a))))) else M|_=>M
def JQ{g:Pos}{f:DF}(h:PE X (.Name x p) (iB i))(he:PE X e (tP X.K Z f))(u:autoParam (i∈Z) Ű)(n:autoParam (b_ (.Name x p) "extend" X.env (eval (.Name x p) X.env)=eval (.Name x p) X.env) Ų) (q:autoParam (((cn c (ao (e::[]) X.env)).all (λx=> !x.1)&&(gG c (dh [] X.env)).all (λx=>x.1.isSome)
   && decide ((e::[]).length+([]:List nV).length+(if ([]:List nV).isEmpty then 0 else 1)<30))=true) Ų) (m:autoParam ((g.endLine==c.line)=true) Ų) (L:autoParam (ao (e::[]) X.env=(Z_,eval e X.env)::ao [] X.env) Ų) (l:autoParam ((cn c (ao [] X.env)).any (·.1)=false) Ų) (t:autoParam (cj (.Call (.Attribute (.Name x p) "extend" g) [e] [] c) M J.line X.env=dP false) Ų) :
  PS X (.Expr (.Call (.Attribute (.Name x p) "extend" g) [e] [] c) J) (iC X.K B I Z Z (BV i f)):=
 (mf (xc fX PySem.F.slot_list_extend PySem.F.type_list_extend Jo h (bT he dn L) n q m L l) t).imp <|by
  rintro D C H ⟨G,A,o,S,j,k⟩;unfold BV at j;obtain⟨ds,el,j⟩:=aa.1 j;rw[aa]at j;obtain⟨d,y,j⟩:=j;cases d<;>simp only at j<;>try (cases j;done)
  split at j
  ·cases j;rename_i es U;have w:=fH el;obtain⟨a,R,z,e3,e4,e5,e6⟩:=S.mr u w;refine⟨_,z,.inl ⟨rfl,R,.of e3⟩,G,A,_,S.gh,S.iX,y,λv G' H' E r =>?_⟩;have F:=S.ext E;obtain⟨a',s,Q,f3,P,_⟩:=F.mr u w;rw[z]at Q;cases Q;obtain⟨b,T,rfl,gb,K⟩:=cS.mp r;refine⟨a,b,s,T,rfl,rfl,f3,F.gh _ _ gb,?_,k _ G' _ (F.mut u w z (P.append K))⟩;rw[<- P.length,<- K.length];exact bQ U ia
  ·cases j
def Hf(j:Nat)(b c:DF):DG:=λA=>(c A).bind λd=>(iW j A).bind λa=>(b A).bind λk=>match k with|.int k=>(Cc a.length k).map λn =>.nx (A.set j (Y (.lst (a.set n d))))|_=>M
def Pq{g:Expr}{F P:DF}(h:PE X (.Name x p) (iB j))(y:PE X g (tQ X.K Z F))(he:PE X e (tP X.K Z P))(w:autoParam (j∈Z) Ű)(hg:∀ {s t:TE},PE X (.Name x p) s->PE X g t->PG X (.Subscript (.Name x p) g b) (V3 s t QG):=by intro s t h1 h2;exact RP h1 h2 Nv)(hs:autoParam (swapsWithSole [.Subscript (.Name x p) g b] e J.line X.env=dP false) Ų)(hw:autoParam (swappedStores [.Subscript (.Name x p) g b] e X.env=dP none) Ų):
  PS X (.Assign [.Subscript (.Name x p) g b] e J) (iC X.K B I Z Z (Hf j F P)):=
 (RL he (hg h y) hs hw).imp <|by
  rintro D C H ⟨G,A,o,S,c,k⟩;unfold Hf at c;obtain⟨d,ef,c⟩:=aa.1 c;rcases l:iW j A with _|ds
  ·simp[l]at c
  rcases f:F A with _|i
  ·simp[l,f]at c
  simp only[l,f,ae]at c;cases i<;>simp only at c<;>try (cases c;done)
  rename_i i;rcases K:Cc ds.length i with _|n
  ·simp[K]at c
  simp only[K,bP]at c;cases c;have z:=fH l;refine⟨G,A,d,S.gh,S.iX,ef,λv G' H' E r =>?_⟩;have m:=S.ext E;obtain⟨a,vs,L,e3,e4,e5,e6⟩:=m.mr w z;refine⟨_,L,G',A,_,m.gh,m.iX,f,λu G2 H2 U r2 =>?_⟩;have T:=m.ext U;obtain⟨a',q,R,f3,Q,_⟩:=T.mr w z;rw[L]at R;cases R;exact⟨a,q,i,n,rfl,r2.int,f3,by rw[<- Q.length];exact K,k _ G2 _ (T.mut w z L (Q.set n (cJ.mono U.gg d r)))⟩
end
section
variable {X:Cx}{f:DF}
def Iv.imp(h:Iv X r)(k:∀x y H Q,d x y H Q->r x y H Q):Iv X d:=λa b c s e H x y v u Q I g f q i=>h a b c s e H x y v u Q I g f (k _ _ _ _ q) i
def PO.imp{e:Option Expr}(h:PO X e t)(k:∀b H Q,c b H Q->t b H Q):PO X e c:=λa s b H Q I q=>h a s b H Q I (k _ _ _ q)
def lS.imp(h:lS X c r)(k:∀b H Q,d b H Q->r b H Q):lS X c d:=λa s e H b f Q I g q=>h a s e H b f Q I g (k _ _ _ q)
def bE.oU{K:aT}{a:List D}{b:List V}(r:bE K G a b)(h:oU a i=Y d):∃v,L2.oU b i=Y v/\cJ K G d v:=by
 unfold L2.oU at h ⊢;rw[<- r.length];obtain⟨j,e,h⟩:=aa.1 h;rw[e];exact r.get h
def CM{a b:Type}(g:a->b)(xs:List a)(i:Int):oU (xs.map g) i=(oU xs i).map g:=by
 unfold oU;rw[aw];cases Cc xs.length i with
 |none=>rfl|some j=>simp[aY]
def bX:D->D->Option D
 |.lst a,.int i=>oU a i|.tup a,.int i=>oU a i|.jt b,.int i=>(oU b i).map .int|.str x,.int i=>if x.length<=eC then (oU x.cps.toList i).map λc =>.str ⟨#[c]⟩ else M
 |_,_=>M
def Q9:Iv X (rD X.K bX):=by
 refine Iv.imp Sv ?_;rintro x y H Q ⟨G,u,t,d,b,h,g,a,q⟩;unfold bX at a;split at a<;>try (cases a;done)
 ·obtain⟨p,j,f,e,l⟩:=h.lst b;obtain⟨v,o,k⟩:=l.oU a;exact .inl ⟨p,j,_,v,f,g.int,.of e,o,q _ G H (.refl b) k⟩
 ·obtain⟨p,j,f,e,l⟩:=h.tup b;obtain⟨v,o,k⟩:=l.oU a;exact .inr (.inl ⟨p,j,_,v,f,g.int,.of e,o,q _ G H (.refl b) k⟩)
 ·obtain⟨p,f,e⟩:=h.jt b;obtain⟨c,r,a⟩:=au.1 a;cases a;exact .inl ⟨p,_,_,.int c,f,g.int,e,by rw[CM,r];rfl,q _ G H (.refl b) (bU.mpr rfl)⟩
 ·split at a<;>try (cases a;done)
  obtain⟨c,r,a⟩:=au.1 a;cases a;exact .inr (.inr ⟨_,_,c,h.str,g.int,bQ (by assumption) ia,r,q _ G H (.refl b) (gu.mpr rfl)⟩)
def aa3(e:PE X a (tQ X.K Z fa))(d:PE X b (tQ X.K Z fb))(c:autoParam (CT b) Ŧ):PE X (.Subscript a b w) (tP X.K Z (e2 bX fa fb)):=(ri Q9 e d c).imp λf H Q h=>Hl h
abbrev DP:=cA->Option (Option Int)
noncomputable def pN:DP:=λ_=>Y M
noncomputable def pS(f:DF):DP:=λa=>(f a).bind λd=>match d with|.int i=>Y (Y i)|_=>M
def OR{f:DF}{a:cA}(h:pS f a=Y o):∃i,f a=Y (.int i)/\o=Y i:=by
 unfold pS at h;obtain⟨d,e,h⟩:=aa.1 h;rw[e];cases d<;>first|(cases h;exact⟨_,rfl,rfl⟩)|cases h
inductive Rl (K:aT) (Z:List Nat) (f:DP) (c:St) (H:Hp) (Q:Option Int->Hp->Prop):Prop
 |mk G a o:bC G H->kH K Z G H c a->f a=some o->(∀d b,gc G H d b->Q o b)->Rl K Z f c H Q
def Wf:PO X M (Rl X.K Z pN):=OK.imp <|by rintro d H Q ⟨G,e,o,a,c,b,k⟩;cases b;exact k G H (.refl a)
def We(h:PE X e (tQ X.K Z f)):PO X (Y e) (Rl X.K Z (pS f)):=(OJ h).imp <|by
 rintro r H Q ⟨G,b,o,d,a,g,k⟩;obtain⟨i,j,rfl⟩:=OR g;exact⟨G,b,_,d,a,j,λv p l q c=>⟨i,c.int,k p l q⟩⟩
def BF{a:Type}(xs:List a)(m n:Option Int):List a:=(xs.drop (HT.AW xs.length 0 m)).take (HT.AW xs.length xs.length n-HT.AW xs.length 0 m)
def bE.cut{K:aT}{b:List D}{a:List V}(r:bE K G b a)(m n:Option Int):bE K G (BF b m n) (Ez a m n):=by
 unfold L2.BF Ez;rw[<- r.length];exact(r.drop _).take _
def HL(f:DF)(m n:DP):DL:=λa=>(f a).bind λd=>(m a).bind λl=>(n a).bind λh=>match d with|.lst b=>Y (BF b l h)|.jt c=>Y ((BF c l h).map D.int)|_=>M
variable {m:Option Expr}
def Zn(K:PE X e (tQ X.K Z f))(J:PO X m (Rl X.K Z l))(I:PO X n (Rl X.K Z h)):PE X (.Subscript e (.Slice m n M B) w) (tF X.K Z (HL f l h)):=(DV Oj K J I).imp <|by
 rintro O H Q ⟨G,i,P,L,g,a,k⟩;unfold HL at a;rcases ef:f i with _|d
 ·rw[ef]at a;cases a
 rcases el:l i with _|s
 ·simp[ef,el]at a
 rcases eh:h i with _|t
 ·simp[ef,el,eh]at a
 simp only[ef,el,eh,ae]at a;refine⟨G,i,d,L,g,ef,λv N T o F=>⟨N,i,s,o.gh,g.ext o,el,λA S j=>⟨A,i,t,j.gh,(g.ext o).ext j,eh,λz R b =>?_⟩⟩⟩;have E:=(o.trans j).trans b;have x:=F.ext (j.trans b);cases d<;>simp only at a<;>try (cases a;done)
 ·cases a;obtain⟨p,C,u,r,D⟩:=x.lst b.gh;exact⟨p,C,u,.of r,λq c=>k q _ z _ (E.trans (gc.lay (p:=q) b.gh c)) (E.hh.free c) (b.gh.free c) aX (D.cut _ _)⟩
 ·cases a;rename_i y;obtain⟨p,u,r⟩:=x.jt b.gh;refine⟨p,_,u,r,λq c=>k q _ z _ (E.trans (gc.lay (p:=q) b.gh c)) (E.hh.free c) (b.gh.free c) aX ?_⟩;have:Ez (y.map V.int) s t=(BF y s t).map V.int:=by unfold Ez BF;rw[aw,<- List.map_drop,<- tT]
  rw[this];exact bE.ints _
def Rv:ZF X (λx m n H Q=>∃z,x=.str z/\z.length<=bc/\Q (.str (oP z m n)) H):=by
 intro a s d H x v f e m n g Q I h r o c ⟨z,y,p,q⟩;subst y;obtain⟨t,rfl⟩:=h;refine⟨"str",_,F.slot_str_getitem.lookup,typeIs_str _ _ _,?_⟩;have lQ:∀(l u:Option (Int×Tok)),f=partValue l->e=partValue u->l.map (·.1)=m->u.map (·.1)=n->bq (aV X.prog X.w) X.A (Kb (.str z t) (.ref g)) (EP X a d Q) X.xe s:=λl u G E D C=>by subst G E D C;exact wpAny_getItem_str_slice (l:=l) (u:=u) (st:=M) r rfl (post_val_or_str ⟨bQ (Kc z _ _) p,λJ k=>⟨.str _,H,I.tok _,⟨_,rfl⟩,q⟩⟩)
 cases o with
 |none=>
  cases c with
  |none=>exact lQ M M rfl rfl rfl rfl|int j u=>exact lQ M (Y (j,u)) rfl rfl rfl rfl
 |int i b=>
  cases c with|none=>exact lQ (Y (i,b)) M rfl rfl rfl rfl|int j u=>exact lQ (Y (i,b)) (Y (j,u)) rfl rfl rfl rfl
def JM(f:DF)(m n:DP):DF:=λa=>(f a).bind λd=>(m a).bind λl=>(n a).bind λh=>match d with|.str x=>if x.length<=eC then Y (.str (oP x l h)) else M|_=>M
def Zm(y:PE X e (tQ X.K Z f))(x:PO X m (Rl X.K Z l))(u:PO X n (Rl X.K Z h)):PE X (.Subscript e (.Slice m n M B) w) (tP X.K Z (JM f l h)):=(DV Rv y x u).imp <|by
 rintro K H Q ⟨G,c,L,z,b,a,k⟩;unfold JM at a;rcases g:f c with _|d
 ·rw[g]at a;cases a
 rcases i:l c with _|r
 ·simp[g,i]at a
 rcases o:h c with _|t
 ·simp[g,i,o]at a
 simp only[g,i,o,ae]at a;refine⟨G,c,d,z,b,g,λv I N j q=>⟨I,c,r,j.gh,b.ext j,i,λF A p=>⟨F,c,t,p.gh,(b.ext j).ext p,o,λD C J =>?_⟩⟩⟩;have E:=(j.trans p).trans J;cases d<;>simp only at a<;>try (cases a;done)
 split at a
 ·cases a;rename_i s;exact⟨_,q.str,bQ s ia,k _ D C E (gu.mpr rfl)⟩
 ·cases a
noncomputable def bg(o:List D->Option D)(g:DL):DF:=λa=>(g a).bind o
def zy{g:DL}{a:cA}(h:bg o g a=Y d):∃b,g a=Y b/\o b=Y d:=by
 unfold bg at h;obtain⟨x,c,h⟩:=aa.1 h;rw[c];exact⟨x,rfl,h⟩
inductive rC (K:aT) (o:List D->Option D) (e:List V) (H:Hp) (Q:VK):Prop
 |mk G a d:bC G H->Io K G H a e->o a=some d->(∀v c b,gc G H c b->cJ K c d v->Q v b)->rC K o e H Q
def Vl{K:aT}{g:DL}{b:St}(h:tP K Z (bg o g) b H Q):Uo (rC K o) (Uk K Z g) b H Q:=by
 obtain⟨G,f,d,l,a,q,k⟩:=h;obtain⟨c,p,r⟩:=zy q;exact⟨G,f,c,l,a,p,λy u z e j=>⟨u,c,d,e.gh,j,r,λv t s x i=>k v t s (e.trans x) i⟩⟩
def Io.one{K:aT}{a:List V}(r:Io K G H [d] a):∃v,a=[v]/\jX K G H d v:=by
 cases r with|cons r t=>cases t;exact⟨_,rfl,r⟩
def jc:List D->Option D
 |[.lst a]=>Y (.int a.length)|[.tup a]=>Y (.int a.length)|[.jt a]=>Y (.int a.length)|[.str x]=>if x.length<=eC then Y (.int x.length) else M
 |_=>M
def Tv:lS X (.builtin "len") (rC X.K jc):=by
 refine lS.imp (nE.or CH) ?_;rintro i H Q ⟨G,j,d,c,r,a,q⟩;unfold jc at a;split at a
 ·cases a;obtain⟨v,rfl,b⟩:=r.one;obtain⟨p,f,rfl,e,g⟩:=b.lst c;refine .inl ⟨p,f,rfl,.inl (.of e),?_⟩;rw[<- g.length];exact q _ G H (.refl c) (bU.mpr rfl)
 ·cases a;obtain⟨v,rfl,b⟩:=r.one;obtain⟨p,f,rfl,e,g⟩:=b.tup c;refine .inl ⟨p,f,rfl,.inr (.of e),?_⟩;rw[<- g.length];exact q _ G H (.refl c) (bU.mpr rfl)
 ·cases a;obtain⟨v,rfl,b⟩:=r.one;obtain⟨p,rfl,e⟩:=b.jt c;refine .inl ⟨p,_,rfl,.inl e,?_⟩;rw[aw];exact q _ G H (.refl c) (bU.mpr rfl)
 ·split at a
  ·cases a;rename_i h;obtain⟨v,rfl,b⟩:=r.one;exact .inr ⟨_,by rw[b.str],bQ h ia,q _ G H (.refl c) (bU.mpr rfl)⟩
  ·cases a
 ·cases a
def zF(l:lS X (.builtin c) (rC X.K o))(j:Gl X x)(i:X.mg x=M)(d:fJ x=Y (.builtin c))(q:PA X (e::A) (Uk X.K Z g))(f:autoParam (x ≠ "__name__") Ű)(b:autoParam ((x==("__debug__" : aJ))=false) Ű)(k:autoParam (ao (e::A) X.env=(Z_,eval e X.env)::ao A X.env) Ų)(a:autoParam ((cn w (ao A X.env)).any (·.1)=false) Ų):PE X (.Call (.Name x p) (e::A) [] w) (tP X.K Z (bg o g)):=
 (qc l j i d q f b k a).imp λr H Q h=>Vl h
def M7(c:Gl X "len")(b:X.mg "len" = M)(h:PE X e (tQ X.K Z f))(a:autoParam (ao (e::[]) X.env=(Z_,eval e X.env)::ao [] X.env) Ų):PE X (.Call (.Name "len" p) [e] [] w) (tP X.K Z (bg jc (aC f aN))):=
 zF Tv c b PySem.boot_len (zD h Cz a) ſ ſ a rfl
noncomputable def NQ(T:String):D->Bool
 |.dg=>T == "NoneType"|.bl _=>T == "bool" || T == "int"
 |.int _=>T == "int"|.str _=>T == "str"|.lst _=>T == "list"|.jt _=>T == "list"|.tup _=>T == "tuple"|.ins _ _ _=>Z_|.iZ _ _=>T == "dict"|.obj _ _=>Z_|.eB _ _=>Z_
noncomputable def Iy:List String:=["bool", "int", "str", "list", "tuple"]
def Wa(T:String)(f:DF):DF:=λa=>(f a).bind λd=>match d with|.jt _=>M|.ins _ _ _=>M|.iZ _ _=>M|.obj _ _=>M|.eB _ _=>M|d=>Y (.bl (NQ T d))
def Pd:∀T∈Iy,∀(K:aT),jK K (.type "NoneType") (.type T)=Y (NQ T .dg)/\jK K (.type "bool") (.type T)=Y (NQ T (.bl Z'))/\jK K (.type "int") (.type T)=Y (NQ T (.int 0)) /\
  jK K (.type "str") (.type T)=Y (NQ T (.str Str.empty))/\jK K (.type "list") (.type T)=Y (NQ T (.lst []))/\jK K (.type "tuple") (.type T)=Y (NQ T (.tup [])):=by
 intro T a K;simp only[Iy,aW,oY,or_false]at a;rcases a with rfl|rfl|rfl|rfl|rfl<;>exact⟨by kernel_rfl,by kernel_rfl,by kernel_rfl,by kernel_rfl,by kernel_rfl,by kernel_rfl⟩
def JY(T:String)(S:T∈Iy):lS X (.builtin "isinstance") (λy H Q=>∃G d v,bC G H/\y=[v,.ty T]/\jX X.K G H d v/\(∀o,d ≠ .jt o)/\(∀c g f,d ≠ .ins c g f)/\(∀g f,d ≠ .iZ g f)/\((∀s t,d ≠ .obj s t)/\∀s t,d ≠ .eB s t)/\Q (.bl (NQ T d)) H):=by
 intro j s D H y us Q I F ⟨G,d,v,C,e,r,R,p,x,k,q⟩;subst e;obtain⟨u,c,rfl,h,J⟩:=cg.two F;cases J;obtain⟨P,O,N,m,L,K⟩:=Pd T S X.K;have lQ:∀z,EP X j D Q (.bool (NQ T d)) { s with toks:=z }:=λz=>⟨.bl _,H,I.tok _,rfl,q⟩
 cases d with
 |dg=>have:=r.dg;subst this;exact nQ I h (.dg) P lQ
 |bl b=>have:=r.bl;subst this;exact nQ I h (.bl b) O lQ
 |int i=>have:=r.int;subst this;exact nQ I h (.int i) N lQ
 |str i=>have:=r.str;subst this;exact nQ I h (.str i) m lQ
 |lst U=>obtain⟨a,E,rfl,l,_⟩:=r.lst C;exact nQ I h (.lst l) L lQ
 |tup U=>obtain⟨a,E,rfl,l,_⟩:=r.tup C;exact nQ I h (.tup l) K lQ
 |jt o=>exact absurd rfl (R o)|ins c g f=>exact absurd rfl (p c g f)|iZ g f=>exact absurd rfl (x g f)|obj s t=>exact absurd rfl (k.1 s t)|eB s t=>exact absurd rfl (k.2 s t)
def Br{b:Pos}(U:T∈Iy)(S:Gl X "isinstance")(R:X.mg "isinstance" = M)(D:Gl X y)(C:X.mg y=M)(j:fJ y=Y (.type T))(h:PE X e (tQ X.K Z f))(x:autoParam (y ≠ "__name__") Ű)(E:autoParam ((y==("__debug__" : aJ))=false) Ű)(J:autoParam (ao (e::[.Name y b]) X.env=(Z_,eval e X.env)::ao [.Name y b] X.env) Ų)(l:autoParam (ao [.Name y b] X.env=(Z_,eval (.Name y b) X.env)::ao [] X.env) Ų)(o:autoParam ((cn w (ao [.Name y b] X.env)).any (·.1)=false) Ų):
  PE X (.Call (.Name "isinstance" p) [e,.Name y b] [] w) (tP X.K Z (Wa T f)):=
 (qc (JY T U) S R GQ (bT h (bT (Hs (v :=.ty T) D C j rfl x E) dn l) J) ſ ſ J o).imp <|by
  rintro σ H Q ⟨G,N,d,gh,F,a,k⟩;unfold Wa at a;obtain⟨c,ef,a⟩:=aa.1 a;have P:∀I,c ≠ .jt I:=λI z=>by subst z;cases a
  have r:∀K i g,c ≠ .ins K i g:=λK i g z=>by subst z;cases a
  have u:∀i g,c ≠ .iZ i g:=λi g z=>by subst z;cases a
  have q:(∀s t,c ≠ .obj s t)/\∀s t,c ≠ .eB s t:=⟨λs t z=>(by subst z;cases a),λs t z=>(by subst z;cases a)⟩;have ed:d=.bl (NQ T c):=by cases c<;>first|(cases a;rfl)|cases a
  subst ed;exact⟨G,N,c,gh,F,ef,λv L H1 m O=>⟨L,c,v,m.gh,rfl,O,P,r,u,q,k _ L H1 m (dB.mpr rfl)⟩⟩
noncomputable def Em(f:DF):DL:=λb=>(f b).bind λd=>match d with|.lst a=>Y a|.tup a=>Y a|.jt c=>Y (c.map D.int)|_=>M
def Xx(z:Gl X "list")(y:X.mg "list" = M)(h:PE X e (tQ X.K Z f))(x:fJ "list" = Y (.type "list"):=by exact PyProof.Rows.boot_list)(t:autoParam (ao (e::[]) X.env=(Z_,eval e X.env)::ao [] X.env) Ų):PE X (.Call (.Name "list" p) [e] [] w) (tF X.K Z (Em f)):=
 (Jg CG z y x (bT h dn t) ſ ſ t rfl).imp <|by
  rintro E H Q ⟨G,u,F,C,r,g,k⟩;unfold Em at g;obtain⟨c,D,g⟩:=aa.1 g;refine⟨G,u,c,C,r,D,λv s I b o =>?_⟩;cases c<;>simp only[ae]at g<;>try (cases g;done)
  ·cases g;obtain⟨a,j,rfl,i,l⟩:=o.lst b.gh;exact⟨a,j,rfl,.inl (.of i),λq d=>k q _ s _ (b.trans (gc.lay (p:=q) b.gh d)) (b.hh.free d) (b.gh.free d) aX l⟩
  ·cases g;obtain⟨a,j,rfl,i,l⟩:=o.tup b.gh;exact⟨a,j,rfl,.inr (.of i),λq d=>k q _ s _ (b.trans (gc.lay (p:=q) b.gh d)) (b.hh.free d) (b.gh.free d) aX l⟩
  ·cases g;obtain⟨a,rfl,i⟩:=o.jt b.gh;exact⟨a,_,rfl,.inl i,λq d=>k q _ s _ (b.trans (gc.lay (p:=q) b.gh d)) (b.hh.free d) (b.gh.free d) aX (bE.ints _)⟩
def dQ(f:DF):DT:=λc=>(f c).bind λd=>match d with
 |.dg=>Y Z_|.bl b=>Y b|.int i=>Y (i != 0)|.str y=>if y.length<=eC then Y ((y.length:Int) != 0) else M
 |.lst a=>Y (!a.isEmpty)|.tup a=>Y (!a.isEmpty)|.jt a=>Y (!a.isEmpty)|.ins _ _ _=>M|.iZ _ _=>M|.obj _ _=>M|.eB _ _=>M
def bE.empty{K:aT}{b:List D}{a:List V}(r:bE K G b a):b.isEmpty=a.isEmpty:=by
 have:=r.length;cases b<;>cases a<;>simp at this ⊢
def MN(h:PE X e (tQ X.K Z f))(C:autoParam (∀g,isTrue e X.env g=(do let v <- g;lN e.pos;jr [v] (truthy v))) ů):PT X e (rG X.K Z (dQ f)):=(Lm h C).imp <|by
 rintro I H Q ⟨G,s,b,D,q,d,k⟩;unfold dQ at d;rw[aa]at d;obtain⟨c,r,d⟩:=d;refine⟨G,s,c,D,q,r,λv F E l i=>⟨b,?_,k F E l⟩⟩;cases c with
 |dg=>cases d;rw[i.dg];rfl|bl b=>cases d;rw[i.bl];rfl|int b=>cases d;rw[i.int];rfl|str y=>
  rw[i.str];have d:(if y.length<=eC then Y ((y.length:Int) != 0) else M)=Y b:=d;split at d
  ·cases d;rename_i z;exact⟨bQ z ia,rfl⟩
  ·cases d
 |lst t=>cases d;obtain⟨a,o,rfl,j,p⟩:=i.lst l.gh;exact .inl ⟨o,.of j,by rw[p.empty]⟩
 |tup t=>cases d;obtain⟨a,o,rfl,j,p⟩:=i.tup l.gh;exact .inr (.inl ⟨o,.of j,by rw[p.empty]⟩)
 |jt t=>cases d;obtain⟨a,rfl,j⟩:=i.jt l.gh;exact .inl ⟨_,j,Ž⟩
 |_=>cases d
end
structure EK(K:aT)(G0:Hp)(J:It)(ds:List D):Prop where
 go:∀i H,bC G0 H->i<ds.length->J.go i H
 stop:∀i H,bC G0 H->ds.length<=i->J.stop i H
 NM:∀(i:Nat) (H:Hp) (x:V) (H' G:Hp) (d:D),bC G0 G->bC G H->J.NM i H x H'->ds[i]?=some d->∃G',gc G H G' H'/\cJ K G' d x
inductive C8 (K:aT) (Z:List Nat) (f:DL) (l:St) (H:Hp) (R:It->Hp->Prop):Prop
 |mk G ρ a:bC G H->kH K Z G H l ρ->f ρ=some a->(∀J c b,gc G H c b->EK K c J a->R J b)->C8 K Z f l H R
section
variable {X:Cx}{f:DF}
def PI.imp{t:TI}(h:PI X L O t)(k:∀l H R,b l H R->t l H R):PI X L O b:=λa s l H R I q=>h a s l H R I (k _ _ _ q)
noncomputable def iL(f:DF):DL:=λρ=>(f ρ).bind λd=>match d with|.lst a=>Y a|_=>M
def vp{f:DF}(h:iL f ρ=Y a):f ρ=Y (.lst a):=by
 unfold iL at h;obtain⟨d,e,h⟩:=aa.1 h;rw[e];cases d<;>first|(cases h;rfl)|cases h
def Jz{K:aT}(g:G a=Y (.lst b))(r:bE K G n b):EK K G (UI K a) n:=by
 refine⟨λi H s f =>?_,λi H s f=>⟨b,.of (s _ _ g),by rw[<- r.length];exact f⟩,λi H x B A d j h ⟨e,y⟩ z =>?_⟩
 ·have c:i<b.length:=by rw[<- r.length];exact f
  exact⟨b,b[i],.of (s _ _ g),by simp[c]⟩
 ·subst e;have p:=y b (.of (h _ _ (j _ _ g)));obtain⟨v,k,o⟩:=r.get z;rw[p]at k;cases k;exact⟨A,.refl h,cJ.mono j d o⟩
def ph(h:PE X e (tP X.K Z f)):PI X L e (C8 X.K Z (iL f)):=(Hq h).imp <|by
 rintro l H R ⟨G,ρ,p,n,b,o,k⟩;refine⟨G,ρ,_,n,b,vp o,λv A w d j =>?_⟩;obtain⟨a,g,rfl,c,i⟩:=cS.mp j;exact⟨a,rfl,⟨g,.of (d.gh _ _ c)⟩,k _ A w d (Jz c i)⟩
noncomputable def nh(a:Int)(n:Nat):List D:=(cv n).map λ(k:Nat) =>.int (a+(k:Int))
def uB{K:aT}(c:Int)(n:Nat):EK K G (WI c n) (nh c n):=by
 have f:(nh c n).length=n:=by simp[nh]
 refine⟨λi H s a=>by rw[f]at a;exact a,λi H s a=>by rw[f]at a;exact a,λi H x p A d k g ⟨e,y⟩ b =>?_⟩;subst e;refine⟨A,.refl g,?_⟩;unfold nh at b;rw[aY]at b;obtain⟨j,q,b⟩:=au.1 b;cases b;have:j=i:=by obtain⟨o,h⟩:=aq.mp q;simpa using h.symm
 subst this;exact bU.mpr y
def NS(f:DF):DL:=λρ=>(f ρ).bind λd=>match d with|.int j=>if -(2 ^ 62)<=j/\j<2 ^ 62 then Y (nh 0 j.toNat) else M|_=>M
def JR(r:Gl X "range")(o:X.mg "range" = M)(h:PE X e (tQ X.K Z f))(n:autoParam (ao [e] X.env=(Z_,eval e X.env)::ao [] X.env) Ų)(b:autoParam (ao [e] X.env=[(Z_,eval e X.env)]) Ų):PI X L (.Call (.Name "range" p) [e] [] u) (C8 X.K Z (NS f)):=
 (A1 r o (bT h dn n) b).imp <|by
  rintro l H R ⟨G,ρ,z,s,c,a,k⟩;unfold NS at a;obtain⟨d,x,a⟩:=aa.1 a;cases d<;>simp only[ae]at a<;>try (cases a;done)
  split at a
  ·cases a;rename_i j g;exact⟨G,ρ,_,s,c,x,λv A w y i=>⟨j,by rw[i.int],g.1,g.2,k _ A w y (uB 0 j.toNat)⟩⟩
  ·cases a
def QP(f g:DF):DL:=λρ=>(f ρ).bind λd=>(g ρ).bind λc=>match d,c with|.int i,.int j=>if -(2 ^ 62)<=i/\i<2 ^ 62 /\ -(2 ^ 62)<=j/\j<2 ^ 62 then Y (nh i (j-i).toNat) else M|_,_=>M
def UC{g:DF}(N:Gl X "range")(m:X.mg "range" = M)(h:PE X e (tQ X.K Z f))(P:PE X n (tQ X.K Z g))(K:autoParam (ao [e,n] X.env=(Z_,eval e X.env)::ao [n] X.env) Ų)(z:autoParam (ao [n] X.env=(Z_,eval n X.env)::ao [] X.env) Ų)(y:autoParam (ao [e,n] X.env=[(Z_,eval e X.env),(Z_,eval n X.env)]) Ų)(x:autoParam (ao [n] X.env=[(Z_,eval n X.env)]) Ų):PI X L (.Call (.Name "range" p) [e,n] [] u) (C8 X.K Z (QP f g)):=
 (Je N m (bT h (bT P dn z) K) y x).imp <|by
  rintro l H R ⟨G,ρ,ds,Q,o,b,k⟩;unfold QP at b;rcases s:f ρ with _|d
  ·rw[s]at b;cases b
  rcases B:g ρ with _|c
  ·simp[s,B]at b
  simp only[s,B,ae]at b;split at b<;>try (cases b;done)
  split at b
  ·cases b;rename_i i j r;exact⟨G,ρ,_,Q,o,s,λv A w C F=>⟨A,ρ,_,C.gh,o.ext C,B,λa G2 S E2 D=>⟨i,j,by rw[F.int,D.int],⟨r.1,r.2.1,r.2.2.1,r.2.2.2⟩,k _ G2 S (C.trans E2) (uB i _)⟩⟩⟩
  ·cases b
end
abbrev EO:=D->cA->Option cA
inductive G9 (K:aT) (B:Bs) (Z:List Nat) (τ:EO) (v:V) (l:St) (H:Hp) (Q:St->Hp->Prop):Prop
 |mk G ρ d b:SR K B Z G H l ρ->cJ K G d v->τ d ρ=some b->(∀a e c,SR K B Z e c a b->Q a c)->G9 K B Z τ v l H Q
inductive Uj (K:aT) (Z:List Nat) (τ:EO) (v:V) (l:St) (H:Hp) (Q:St->Hp->Prop):Prop
 |mk G ρ d b:bC G H->kH K Z G H l ρ->cJ K G d v->τ d ρ=some b->(∀a e c,gc G H e c->kH K Z e c a b->Q a c)->Uj K Z τ v l H Q
section
variable {X:Cx}
def PG.imp{L:Expr}{t:TG}(h:PG X L t)(k:∀v l H Q,b v l H Q->t v l H Q):PG X L b:=λa s l H v u Q I r q=>h a s l H v u Q I r (k _ _ _ _ q)
noncomputable def gN(i:Nat):EO:=λd ρ=>Y (ρ.set i (Y d))
def Xw{i:Nat}(h:PG X L (oB i))(b:autoParam (i∉Z) Ű):PG X L (G9 X.K B Z (gN i)):=h.imp <|by
 rintro v l H Q ⟨G,ρ,d,a,S,r,c,k⟩;cases c;exact k _ G H (S.v8 b r)
def kH.set{K:aT}{i:Nat}{d:D}{v:V}(h:kH K Z G H l ρ)(s:i∉Z)(r:cJ K G d v):kH K Z G H (l.set i (Y v)) (ρ.set i (Y d)):=
 ⟨by simp[h.len],λj c e=>by
  rcases gO e with⟨rfl,rfl,C⟩|⟨b,e⟩
  ·exact⟨v,qW (by rw[h.len];exact C),by rw[if_neg s];exact r⟩
  ·obtain⟨u,o,n⟩:=h.get j c e;exact⟨u,by rw[ai b];exact o,n⟩,λj k p g N e=>by
  have a:∀j,j∈Z->i≠j:=λj F e=>s (e ▸ F)
  rw[ai (a j g)]at e;obtain⟨f,m,z,y,B,w,x,o,n,Q,P⟩:=h.eB j k p g N e;exact⟨f,m,z,y,B,w,x,by rw[ai (a k f)];exact o,by rw[ai (a k f)];exact n,by rw[ai (a j g)];exact Q,P⟩⟩
noncomputable def Cr(i j:Nat):EO:=λd ρ=>match d with|.tup [a,b]=>Y ((ρ.set i (Y a)).set j (Y b))|_=>M
def Mw(h:Cr i j d ρ=Y c):∃a b,d=.tup [a,b]/\c=(ρ.set i (Y a)).set j (Y b):=by
 unfold Cr at h;split at h
 ·cases h;exact⟨_,_,rfl,rfl⟩
 ·cases h
def Ow{K:aT}{v:V}(r:cJ K G (.tup [a,b]) v):∃p x y,v=.ref p/\G p=Y (.tup [x,y])/\cJ K G a x/\cJ K G b y:=by
 obtain⟨p,h,e,g,f⟩:=eP.mp r;obtain⟨x,j,rfl,d,t⟩:=bH.mp f;obtain⟨y,i,rfl,c,t⟩:=bH.mp t;rw[cP.mp t]at g;exact⟨p,x,y,e,g,d,c⟩
def Zj{i:Nat}(h:PG X L (SQ X.K 2 (Bk (oB i) (Bk (oB j) SS))))(o:autoParam (i∉Z) Ű)(n:autoParam (j∉Z) Ű):PG X L (G9 X.K B Z (Cr i j)):=h.imp <|by
 rintro v l H Q ⟨G,ρ,d,c,S,r,s,k⟩;obtain⟨a,b,rfl,rfl⟩:=Mw s;obtain⟨p,x,y,rfl,g,f,e⟩:=Ow r;exact⟨p,_,rfl,.of (S.gh _ _ g),rfl,x,_,rfl,y,_,rfl,rfl,k _ G H ((S.v8 o f).v8 n e)⟩
end
noncomputable def gD(τ:EO)(g:DG):List D->cA->Option DO
 |[],ρ=>Y (.nx ρ)| d::b,ρ=>(τ d ρ).bind λρ1=>(g ρ1).bind λo=>match o with
  |.nx a=>gD τ g b a|.ct a=>gD τ g b a|.bk a=>Y (.nx a)|.rt d=>Y (.rt d)|.ro d=>Y (.ro d)|.rm d ρ=>Y (.rm d ρ)|.rf i ρ=>Y (.rf i ρ)|.ex c n=>Y (.ex c n)
def jw(f:DL)(τ:EO)(g:DG):DG:=λρ=>(f ρ).bind λa=>gD τ g a ρ
section
variable {K:aT}
def qp.base{F:Nat->List ax}(W:qp K B Z G H l ρ F)(h:a.2=B.2):qp K a Z G H l ρ F:=⟨W.it,λi d b e=>by rw[h];exact W.ok i d b e,W.ap⟩
def SR.rebase(a:SR K B Z A w q ρ1)(S:SR K B Z G H l ρ)(s:bC A G):SR K ⟨A,B.2,B.3,B.4⟩ Z G H l ρ:=
 ⟨S.gh,s,S.h0,λb o e=>by
  rcases S.fr b o e with z|z
  ·exact .inl (a.g0 b o z)
  ·exact .inr z,S.env,(by obtain⟨F,W⟩:=S.ow;exact⟨F,W.base rfl⟩),S.len,S.pin,S.eB⟩
def SR.BI(c:SR K B Z A w q ρ1)(S:SR K ⟨A,B.2,B.3,B.4⟩ a G H l ρ):SR K B a G H l ρ:=
 ⟨S.gh,c.g0.trans S.g0,S.h0,λb o e=>by
  rcases S.fr b o e with z|z
  ·exact c.fr b o z
  ·exact .inr z,S.env,(by obtain⟨F,W⟩:=S.ow;exact⟨F,W.base rfl⟩),S.len,S.pin,S.eB⟩
def SR.yv(a:SR K B Z A w q ρ1)(S:SR K ⟨A,B.2,B.3,B.4⟩ Z G H l ρ):SR K B Z G H l ρ:=a.BI S
def gc.yv(a:SR K B Z A w q ρ1)(E:gc A B.2 G H):gc B.1 B.2 G H:=
 ⟨E.hh,a.g0.trans E.gg,E.gh,λb o e=>by
  rcases E.fr b o e with z|z
  ·exact a.fr b o z
  ·exact .inr z⟩
end
section
variable {X:Cx}{f:DL}
inductive WY (K:aT) (B:Bs) (Z:List Nat) (f:cA->Option (List D×cA)) (l:St) (H:Hp) (R:It->Hp->Prop):Prop
 |mk G ρ b a:SR K B Z G H l ρ->f ρ=some (b,a)->(∀J d c,SR K B Z d c l a->EK K d J b->R J c)->WY K B Z f l H R
def AX(f:cA->Option (List D×cA))(τ:EO)(g:DG):DG:=λρ=>(f ρ).bind λp=>gD τ g p.1 p.2
def Er{f:cA->Option (List D×cA)}(hp:xM (aV X.prog X.w) X.A X.env X.xe)(hc:X.calm=Z')(hi:PI X L O (WY X.K B Z f))(hg:∀C:Bs,C.3=B.3->PG X L (G9 X.K C Z τ))(hb:∀C:Bs,C.3=B.3->C.2=B.2/\C.4=B.4->oV X I (iC X.K C Z Z Z g))(hs:autoParam (∀x,cI O X.env x=dP x) ů):PS X (.For L O I [] u) (iC X.K B t Z Z (AX f τ g)):=by
 intro Q s l H D' j ⟨G,ρ,o,S,eq,k⟩;unfold AX at eq;obtain⟨⟨R,ρ0⟩,ef,eq⟩:=aa.1 eq;have eq:gD τ g R ρ0=Y o:=eq;refine wpAny_For (fw (hi Q s l H (λJ w=>∃A,SR X.K B Z A w l ρ0/\EK X.K A J R) j ⟨G,ρ,R,ρ0,S,ef,λJ A w S1 ok=>⟨A,S1,ok⟩⟩) λv s1 h1=>fw h1 λitv s2 h2 =>?_) hs;obtain⟨it,fp,tn,J,H2,e,I2,T,Rr,f2,A,S1,ok⟩:=h2;subst e;have Ft:∀ {H':Hp},(∀b∈fp,H' b=M)->∀b∈fp,zR X Q H' b:=λhn b hb=>⟨hn b hb,(f2 b hb).2⟩
 have adk:∀(ρ':cA) (σ':St) (H' G':Hp) (xJ:List D),SR X.K ⟨A,B.2,B.3,B.4⟩ Z G' H' σ' ρ'->True:=λ_ _ _ _ _ _=>trivial
 refine codeAny_forLoop_any (λn s'=>∃i σ' H' G' ρ',Inv X Q σ' H' s'/\tn i s'.heap/\(∀b∈fp,H' b=M)/\n=R.length-i/\i<=R.length/\SR X.K ⟨A,B.2,B.3,B.4⟩ Z G' H' σ' ρ'/\gD τ g (R.drop i) ρ'=Y o) ?_ R.length
  ⟨0,l,H2,A,ρ0,I2,Rr,λb hb=>(f2 b hb).1,rfl,cy _,S1.rebase S1 (bC.refl _),eq⟩
 rintro n s3 ⟨i,σ3,H3,G3,ρ3,I3,WZ,V7,rfl,YW,S3,F⟩;have U':bC A H3:=S3.g0.trans S3.gh;by_cases Mo:i<R.length
 ·have ed:R.drop i=R[i]::R.drop (i+1):=dX Mo;rw[ed]at F;unfold gD at F;obtain⟨P,et,F⟩:=aa.1 F;obtain⟨o4,eg,F⟩:=aa.1 F;refine dY hp (fw (T.item X rfl rfl rfl hc i Q s3 σ3 H3 X.xe I3 (Ft V7) WZ (ok.go i H3 U' Mo)) ?_);rintro r s4 ⟨h,hr,h4⟩;subst hr;refine dY hp (fw h4 ?_);rintro _ s5 ⟨x,H5,I5,r5,y5,Uq,Ux⟩;have ZJ:=I5.pinned (Ft Ux) (T.obj _ _ Uq);obtain⟨G5,E5,Yb⟩:=ok.NM i H3 x H5 G3 R[i] S3.g0 S3.gh y5 (ba Mo);refine dY hp (fw (hg ⟨A,B.2,B.3,B.4⟩ rfl _ s5 σ3 H5 x h (λN H6=>∃G6,SR X.K ⟨A,B.2,B.3,B.4⟩ Z G6 H6 N P) ZJ r5 ⟨G5,ρ3,R[i],P,S3.ext E5,Yb,et,λN G6 H6 S6=>⟨G6,S6⟩⟩) ?_);rintro _ s6 ⟨N,H6,I6,G6,S6⟩;have again:∀ {p:St}{K q:Hp}{ρ7:cA}{s7:av},Inv X (Q++uq fp s5.heap) p K s7->SR X.K ⟨A,B.2,B.3,B.4⟩ Z q K p ρ7->gD τ g (R.drop (i+1)) ρ7=Y o ->
    ∃m,m<R.length-i/\∃i σ' H' G' ρ',Inv X Q σ' H' s7/\tn i s7.heap/\(∀b∈fp,H' b=M)/\m=R.length-i/\i<=R.length/\SR X.K ⟨A,B.2,B.3,B.4⟩ Z G' H' σ' ρ'/\gD τ g (R.drop i) ρ'=Y o:=fun {p K q ρ7 s7} I7 S7 e7=>by
   refine⟨R.length-(i+1),ž,i+1,p,K,q,ρ7,I7.nW,T.keep _ _ _ Uq λb hb o e=>(I7.pin (b,o) (aG _ (aG _ (kF hb e)))).1,λb hb =>?_,rfl,Mo,S7,e7⟩;obtain⟨o,e,d⟩:=T.obj _ _ Uq b hb;exact(I7.pin (b,o) (aG _ (aG _ (kF hb e)))).2.1
  refine dY hp (fw (hb ⟨A,B.2,B.3,B.4⟩ rfl ⟨rfl,rfl⟩ _ s6 N H6 { nx:=λp K=>∃q r,SR X.K ⟨A,B.2,B.3,B.4⟩ Z q K p r/\gD τ g (R.drop (i+1)) r=Y o,ct:=λp K=>∃q r,SR X.K ⟨A,B.2,B.3,B.4⟩ Z q K p r/\gD τ g (R.drop (i+1)) r=Y o,bk:=D'.nx,rt:=D'.rt } I6 ⟨G6,P,o4,S6,eg,?_⟩) λfl s7 y =>?_)
  ·cases o4 with
   |nx r=>exact λp q K S7=>⟨q,r,S7,F⟩
   |ct r=>exact λp q K S7=>⟨q,r,S7,F⟩
   |bk r=>cases F;exact λp q K S7=>k _ q K (S1.yv S7)
   |rt d=>cases F;exact λv q K E7 r7=>k v q K (gc.yv S1 E7) r7
   |ro d=>cases F;exact λa vs q K E7 h1 h2 h3 r7=>k a vs q K (gc.yv S1 E7) h1 h2 h3 r7
   |rm d r=>cases F;exact λv p q K ⟨o7,S7⟩ r7=>k v p q K ⟨o7,S1.BI S7⟩ r7
   |rf j r=>cases F;exact λv p q K ⟨o7,ho7,S7⟩ r7=>k v p q K ⟨o7,ho7,S1.BI S7⟩ r7
   |ex c n=>cases F;exact k
  cases fl with
  |ret v=>obtain⟨x7,p,K,I7,r7,y⟩:=y;exact⟨x7,p,K,I7.nW,r7,y⟩
  |brk=>obtain⟨p,K,I7,y⟩:=y;exact⟨p,K,I7.nW,y⟩
  |_=>obtain⟨p,K,I7,q,r,S7,F⟩:=y;exact again I7 S7 F
 ·have e:i=R.length:=by omega
  subst e;rw[oZ]at F;unfold gD at F;cases F;refine dY hp (fw (T.done X rfl rfl rfl hc _ Q s3 σ3 H3 X.xe I3 (Ft V7) WZ (ok.stop _ H3 U' (aQ _))) ?_);rintro r s4 ⟨hr,I4⟩;subst hr;exact kR ⟨σ3,H3,I4,k σ3 G3 H3 (S1.yv S3)⟩
def Pu(i:xM (aV X.prog X.w) X.A X.env X.xe)(o:X.calm=Z')(j:PI X L O (C8 X.K Z f))(n:∀C:Bs,C.3=B.3->PG X L (G9 X.K C Z τ))(p:∀C:Bs,C.3=B.3->C.2=B.2/\C.4=B.4->oV X I (iC X.K C Z Z Z g))(h:autoParam (∀x,cI O X.env x=dP x) ů):PS X (.For L O I [] u) (iC X.K B t Z Z (jw f τ g)):=by
 have e:jw f τ g=AX (λρ=>(f ρ).map λa=>(a,ρ)) τ g:=funext λρ=>by show (f ρ).bind _=(mB (λa=>(a,ρ)) (f ρ)).bind _;cases f ρ<;>rfl
 rw[e];refine Er i o (j.imp ?_) n p h;rintro l H R ⟨G,ρ,a,c,S,b,k⟩;have b:mB (λa=>(a,ρ)) (f ρ)=Y (a,c):=b;obtain⟨s,r,b⟩:=au.1 b;cases b;exact⟨G,ρ,a,S.gh,S.iX,r,λJ A w E d=>k J A w (S.ext E) d⟩
def Pw{f:cA->Option (List D×cA)}(b:xM (aV X.prog X.w) X.A X.env X.xe)(e:X.calm=Z')(c:PI X L O (WY X.K B Z f))(d:∀C:Bs,C.3=B.3->PG X L (G9 X.K C Z τ))(i:∀C:Bs,C.3=B.3->oV X I (iC X.K C Z Z Z g))(a:autoParam (∀x,cI O X.env x=dP x) ů):PS X (.For L O I [] u) (iC X.K B t Z Z (AX f τ g)):=Er b e c d (λC h _=>i C h) a
def Cy(b:xM (aV X.prog X.w) X.A X.env X.xe)(e:X.calm=Z')(c:PI X L O (C8 X.K Z f))(d:∀C:Bs,C.3=B.3->PG X L (G9 X.K C Z τ))(i:∀C:Bs,C.3=B.3->oV X I (iC X.K C Z Z Z g))(a:autoParam (∀x,cI O X.env x=dP x) ů):PS X (.For L O I [] u) (iC X.K B t Z Z (jw f τ g)):=Pu b e c d (λC h _=>i C h) a
noncomputable def qw(f:DT)(g:DG):Nat->cA->Option DO
 |0,_=>M| n+1,ρ=>(f ρ).bind λb=>if b=Z' then (g ρ).bind λo=>match o with
   |.nx a=>qw f g n a|.ct a=>qw f g n a|.bk a=>Y (.nx a)|.rt d=>Y (.rt d)|.ro d=>Y (.ro d)|.rm d ρ=>Y (.rm d ρ)|.rf i ρ=>Y (.rf i ρ)|.ex c n=>Y (.ex c n) else Y (.nx ρ)
def FG(n:Nat)(f:DT)(g:DG):DG:=λρ=>qw f g n ρ
def MO{c:Expr}{f:DT}(n:Nat)(C:xM (aV X.prog X.w) X.A X.env X.xe)(D:PT X c (rG X.K Z f))(F:oV X I (iC X.K B Z Z Z g)):PS X (.While c I [] u) (iC X.K B t Z Z (FG n f g)):=(Lo C D F).imp <|by
 rintro R l H ⟨G,ρ,o,S,K,k⟩;refine⟨λm l H=>∃G ρ,SR X.K B Z G H l ρ/\qw f g m ρ=Y o,⟨n,G,ρ,S,K⟩,?_⟩;rintro m q w ⟨A,ρ1,v,e⟩;cases m with
 |zero=>cases e|succ m=>
  unfold qw at e;obtain⟨b,N,e⟩:=aa.1 e;refine⟨A,ρ1,b,v.gh,v.iX,N,λz P Q =>?_⟩;have y:=v.ext Q;cases b with
  |false=>cases e;exact zd (k q z P y)|true=>
   refine Aq ⟨λh p=>∃j r,SR X.K B Z j p h r/\qw f g m r=Y o,λh p a=>⟨m,js m,a⟩,?_⟩;simp only[ae,if_true]at e;obtain⟨x,d,e⟩:=aa.1 e;refine⟨z,ρ1,x,y,d,?_⟩;cases x with
   |nx i=>exact λh j p s=>⟨j,i,s,e⟩
   |ct i=>exact λh j p s=>⟨j,i,s,e⟩
   |bk i=>cases e;exact λh j p s=>k h j p s
   |_=>cases e;exact k
end
noncomputable def mJ(src:List (Option Nat))(ρ:cA):cA:=src.map λo=>match o with|some j=>(ρ[j]?).getD M|none=>M
noncomputable def Ap(ρ:cA)(τ:EO)(U:DT)(fe:DF):List D->Option (List D)
 |[]=>Y []|d::a=>(τ d ρ).bind λρ1=>(U ρ1).bind λb=>if b=Z' then (fe ρ1).bind λx=>(Ap ρ τ U fe a).map (x :: ·) else Ap ρ τ U fe a
def oG(f:DL)(src:List (Option Nat))(τ:EO)(U:DT)(fe:DF):DL:=λρ=>(f ρ).bind λa=>if a.length<=eC then Ap (mJ src ρ) τ U fe a else M
noncomputable def ic:DT:=λ_=>Y Z'
def jT(Z Ź:List Nat)(src:List (Option Nat)):Bool:=(Ź.all λj=> !Ź.contains (B9 j))&&(cv src.length).all λi=>match src[i]? with|some (Y j)=>decide (i∈Ź)==decide (j∈Z)|_=>Z'
def kE(h:jT Z Ź src=Z')(e:src[i]?=Y (Y j)):(i∈Ź↔j∈Z):=by
 unfold jT at h;rw[aZ]at h;have h:=h.2;rw[dU]at h;have a:i<src.length:=(aq.mp e).1;have:=h i (by simpa using a);rw[e]at this;simpa using this
def Jj(h:jT Z Ź src=Z')(b:j∈Ź)(a:B9 j∈Ź):False:=by
 unfold jT at h;rw[aZ,dU]at h;have:=h.1 j b;simp[a]at this
def kH.src{K:aT}{Z Ź:List Nat}{src:List (Option Nat)}(h:kH K Z G H l ρ)(f:jT Z Ź src=Z'):kH K Ź G H (nY src l) (mJ src ρ):=by
 refine⟨by simp[nY,mJ],λi d e =>?_,λj r p k g _=>(Jj f k g).elim⟩;unfold mJ at e;rw[aY]at e;obtain⟨o,c,e⟩:=au.1 e;cases o with
 |none=>cases e|some j=>
  have e:(ρ[j]?).getD M=Y d:=by simpa using e
  have s:ρ[j]?=Y (Y d):=by
   rcases q:ρ[j]? with _|z
   ·rw[q]at e;cases e
   rw[q]at e;rw[show z=Y d from e]
  obtain⟨v,n,a⟩:=h.get j d s;refine⟨v,?_,?_⟩
  ·unfold nY;rw[aY,c];simp[n]
  ·have:=kE f c;by_cases b:i∈Ź
   ·rw[if_pos b];rw[if_pos (this.mp b)]at a;exact a
   ·rw[if_neg b];rw[if_neg (λz=>b (this.mpr z))]at a;exact a
section
variable {X:Cx}{m:Expr}{f:DL}
def E9.imp{t:TT}(h:E9 X E t)(k:∀l H Q,b l H Q->t l H Q):E9 X E b:=λa s l H Q I q=>h a s l H Q I (k _ _ _ q)
def h_:E9 X [] (rG X.K Z ic):=OG.imp <|by rintro l H Q ⟨G,ρ,b,a,d,c,k⟩;cases c;exact k G H (.refl a)
def HV(h:PT X c (rG X.K Z U)):E9 X [c] (rG X.K Z U):=OF h
def Mb{K:aT}(ho:jT Z Ź src=Z')(hg:∀v l H Q,Uj K Ź τ v l H Q->g v l H Q)(q:tF K Z (oG f src τ U fe) l H Q):Rn (C8 K Z f) src g (rG K Ź U) (tP K Ź fe) l H Q:=by
 obtain⟨G,ρ,rs,gh,P,s,k⟩:=q;unfold oG at s;obtain⟨h,ef,s⟩:=aa.1 s;have s:(if h.length<=eC then Ap (mJ src ρ) τ U fe h else M)=Y rs:=s;split at s
 ·rename_i hz;refine⟨G,ρ,h,gh,P,ef,λJ A w E1 ok =>?_⟩;refine⟨λi m ys D=>m=h.length-i/\i<=h.length/\ys.length<=i/\∃R r c,gc A w R D/\bE K R r ys/\Ap (mJ src ρ) τ U fe (h.drop i)=Y c/\r++c=rs,
   ⟨h.length,rfl,cy _,aQ _,A,[],rs,.refl E1.gh,.nil,s,rfl⟩,?_⟩
  rintro i m ys D ⟨rfl,YW,hyl,R,r,c,o,rx,d,rfl⟩;have t:bC A D:=o.gg.trans o.gh;by_cases n:i<h.length
  ·refine .inr ⟨ok.go i D t n,?_,λC H'=>C.length<=i+1/\∃G3 F a,gc A w G3 H'/\bE K G3 F C/\Ap (mJ src ρ) τ U fe (h.drop (i+1))=Y a/\F++a=r++c,
    λC H' z=>⟨h.length-(i+1),ž,rfl,n,z⟩,λx H3 y =>?_⟩
   ·have:=ia;omega
   ·obtain⟨G3,X,N⟩:=ok.NM i D x H3 R h[i] o.gg o.gh y (ba n);rw[dX n]at d;unfold Ap at d;obtain⟨j,et,d⟩:=aa.1 d;obtain⟨b,eb,d⟩:=aa.1 d;have E13:=E1.trans (o.trans X);refine hg _ _ _ _ ⟨G3,mJ src ρ,h[i],j,X.gh,(P.ext E13).src ho,N,et,λσ4 G4 H4 E4 B=>⟨G4,j,b,E4.gh,B,eb,λG5 H5 S =>?_⟩⟩;have E15:=(o.trans X).trans (E4.trans S);cases b with
    |false=>exact zd ⟨ž,G5,r,c,E15,bE.mono ((X.trans (E4.trans S)).gg) r rx,d,rfl⟩
    |true=>
     refine Aq ?_;simp only[if_true]at d;obtain⟨x4,ee,d⟩:=aa.1 d;rcases el:Ap (mJ src ρ) τ U fe (h.drop (i+1)) with _|a
     ·simp[el]at d
     simp only[el,ae,bP]at d;cases d;refine⟨G5,j,x4,S.gh,B.ext S,ee,λv G6 H6 E6 r6=>⟨by simp;omega,G6,r++[x4],a,E15.trans E6,(bE.mono ((X.trans ((E4.trans S).trans E6)).gg) r rx).append (.cons r6 .nil),rfl,Ž⟩⟩
  ·have e:i=h.length:=by omega
   subst e;rw[oZ]at d;unfold Ap at d;cases d;refine .inl ⟨ok.stop _ D t (aQ _),λp hp =>?_⟩;have E12:=E1.trans o;refine k p ys R _ (E12.trans (gc.lay (p:=p) o.gh hp)) (E12.hh.free hp) (o.gh.free hp) aX ?_;rw[bV];exact rx
 ·cases s
def t9(S:fP X N src T)(j:X.calm=Z')(e:PI X L O (C8 X.K Z f))(n:NX J g)(a:∀i∈J,src[i]?=Y M)(h:∀v l H Q,Uj X.K Ź τ v l H Q->g v l H Q)(k:∀C s H b,PG (X.t_ N T C s H b) L g/\E9 (X.t_ N T C s H b) E (rG X.K Ź U)/\PE (X.t_ N T C s H b) m (tP X.K Ź fe))(d:autoParam (jT Z Ź src=true) Ű)(c:autoParam (∀x,cI O X.env x=dP x) ů):PE X (.ListComp m [⟨L,O,E,0⟩] T u) (tF X.K Z (oG f src τ U fe)):=
 (Lw S j e n a k c).imp λl H Q q=>Mb d h q
def Bp{i:Nat}{c D:Pos}(S:fP X N src T)(hc:X.calm=Z')(hN:X.N.Nodup)(F:X.N[i]?=Y y)(hl:X.env.scope.names.lookup y=Y .local)(hi:PI X L O (C8 X.K Z f))(ag:NX J g)(j:∀i∈J,src[i]?=Y M)(hg:∀v l H Q,Uj X.K Ź τ v l H Q->g v l H Q)(hb:∀C s H z,PG (X.t_ N T C s H z) L g/\E9 (X.t_ N T C s H z) E (rG X.K Ź U)/\PE (X.t_ N T C s H z) m (tP X.K Ź fe))(R:autoParam (jT Z Ź src=true) Ű)(n:autoParam (i∈Z) Ű)(d:autoParam (∀a,(i,a)∉B.3) ū)(hm:autoParam (A9 i∉Z) Ű)(h:autoParam (cj (.ListComp m [⟨L,O,E,0⟩] T u) (Y (.Name y D)) c.line X.env=dP true) Ų)(q:autoParam (∀x,cI O X.env x=dP x) ů):PS X (.Assign [.Name y D] (.ListComp m [⟨L,O,E,0⟩] T u) c) (iC X.K B t Z Z (kN i (oG f src τ U fe))):=
 (yP S hc hN F hl hi ag j hb h q).imp λD' l H ⟨G,ρ,o,S,e,k⟩=>Mb R hg (by unfold kN at e;obtain⟨ds,ef,e⟩:=au.1 e;cases e;exact⟨G,ρ,ds,S.gh,S.iX,ef,λp vs G' H' b P gp K r=>k _ G' H' (S.Ot n b P gp K r d hm)⟩)
def MT{B:Bs}{D:Pos}(S:fP X N src T)(hc:X.calm=Z')(hN:X.N.Nodup)(q:X.N[i]?=Y y)(hl:X.env.scope.names.lookup y=Y .local)(hi:PI X L O (C8 X.K Z f))(ag:NX J g)(e:∀i∈J,src[i]?=Y M)(hg:∀v l H Q,Uj X.K Ź τ v l H Q->g v l H Q)(hb:∀C s H j,PG (X.t_ N T C s H j) L g/\E9 (X.t_ N T C s H j) E (rG X.K Ź U)/\PE (X.t_ N T C s H j) m (tP X.K Ź fe))(ho:autoParam (jT Z Ź src=true) Ű)(h:autoParam (i∉Z) Ű)(d:autoParam (cj (.ListComp m [⟨L,O,E,0⟩] T u) (Y (.Name y D)) b.line X.env=dP true) Ų)(R:autoParam (∀x,cI O X.env x=dP x) ů):PS X (.Assign [.Name y D] (.ListComp m [⟨L,O,E,0⟩] T u) b) (iC X.K B t Z Z (dF i (eF (oG f src τ U fe)))):=
 (yP S hc hN q hl hi ag e hb d R).imp λD' l H ⟨G,ρ,o,S,c,k⟩=>Mb ho hg (by
  unfold dF eF at c;rcases n:oG f src τ U fe ρ with _|K
  ·rw[n]at c;cases c
  rw[n]at c;cases c;refine⟨G,ρ,K,S.gh,S.iX,n,λp z G' H' a hp F P r=>k _ (cx G' p (.lst z)) H' ((S.ext (a.freeze hp F P)).v8 h ?_)⟩;exact cS.mpr ⟨p,z,rfl,aX,bE.mono (.alloc F) K r⟩)
end
inductive hR (K:aT) (F:List D->Option D) (e:List V) (H:Hp) (Q:VK) (_x:XK):Prop
 |mk G a d:bC G H->bE K G a e->F a=some d->(∀v c b,gc G H c b->cJ K c d v->Q v b)->hR K F e H Q _x
inductive Oi (K:aT) (F:List D->Option (List D)) (g:List V) (H:Hp) (Q:VK) (_x:XK):Prop
 |mk G f e:bC G H->bE K G f g->F f=some e->(∀a d c b,gc G H c b->H a=none->c a=none->b a=some (.lst d)->bE K c e d->Q (.ref a) b)->Oi K F g H Q _x
noncomputable def ie(N:Nat)(a:List D):cA:=a.map Y++bt (N-a.length) M
noncomputable def mQ:DO->Option D
 |.rt d=>Y d|.ro a=>Y (.lst a)|.nx _=>Y .dg|_=>M
noncomputable def Vv:DO->Option (List D)
 |.ro a=>Y a|_=>M
def jD(n N:Nat)(g:DG)(a:List D):Option D:=if a.length=n then (g (ie N a)).bind mQ else M
def IX(n N:Nat)(g:DG)(a:List D):Option (List D):=if a.length=n then (g (ie N a)).bind Vv else M
def nO{i:Nat}(h:(ie N b)[i]?=Y (Y d)):b[i]?=Y d:=by
 unfold ie at h;by_cases c:i<b.length
 ·rw[cC (by simpa using c),aY]at h;obtain⟨a,e,h⟩:=au.1 h;rw[e];cases h;rfl
 ·rw[kW (by simpa using c),N3]at h;split at h<;>cases h
def uW{K:aT}{H:Hp}{m:List V}(s:bC G H)(r:bE K G k m)(t:∀i∈Z,k.length<=i):SR K ⟨G,H,[],x⟩ Z G H (start N m) (ie N.length k):=by
 have g:∀i d,i∈Z->(ie N.length k)[i]?=Y (Y d)->False:=λi d f e=>by have:=(aq.mp (nO e)).1;have:=t i f;omega
 refine⟨s,bC.refl _,bC.refl _,λb o e =>.inl e,λi d f e =>?_,⟨λ_=>[],λi d f e=>(g i d f e).elim,λi d f e=>(g i d f e).elim,λi j d c f z e=>(g i d f e).elim⟩,by simp[start,ie,r.length],λi a h=>(by cases h),λj r p w A e=>(g j _ w e).elim⟩;obtain⟨v,n,q⟩:=r.get (nO e);refine⟨v,?_,q⟩;have f:i<m.length:=(aq.mp n).1;unfold start;rw[cC (by simpa using f),aY,n];rfl
section
variable {P:br}{K:aT}
def gY.wk{m:pK}{f:ax}{N:List aJ}(F:gY K x e m f O)(S:bB N I (aA m)){Z Ź:List Nat}{g:DG}(p:∀i∈Z,I.length<=i) (hb:∀(j:ak) (A:gI) (outer:List Env) (s:av) (H:Hp) (E:XK),eH k (A.deeper (qu e (aA m) s.heap.objs.size f j))->∀B:Bs,B.3=[] ->
   oV (qS gK P w K u y N e (aA m) f j A outer s H E).Ht (gx m) (iC K B [] Z Ź g)):bZ P w K u y gK (k+1) f O I (hR K (jD I.length N.length g)):=by
 refine F.ok S (λR H Q E h =>?_) (λj A outer s H R Q E U h =>?_)
 ·obtain⟨G,ds,d,c,r,b,_⟩:=h;unfold jD at b;split at b
  ·rw[<- r.length];assumption
  ·cases b
 ·obtain⟨G,ds,d,c,r,b,q⟩:=h;unfold jD at b;split at b
  ·rename_i X;refine⟨_,hb j A outer s H E U ⟨G,H,[],λ_ _=>False⟩ rfl,?_⟩;obtain⟨o,eg,b⟩:=aa.1 b;refine⟨G,_,o,uW c r (by rw[X];exact p),eg,?_⟩;cases o with
   |rt d'=>cases b;exact λv z t E r=>q v z t E r
   |ro T=>cases b;exact λa J z t E h1 L h3 r=>q _ (cx z a (.lst J)) t (E.freeze h1 L h3) (cS.mpr ⟨a,J,rfl,aX,bE.mono (.alloc L) T r⟩)
   |nx D=>cases b;exact λσ z t S=>q _ z t S.mR (gv.mpr rfl)
   |_=>cases b
  ·cases b
def gY.Z6{f:ax}(F:gY K x j p f I)(S:bB N z (aA p)){Z Ź:List Nat}{g:DG}(t:∀i∈Z,z.length<=i) (R:∀(m:ak) (A:gI) (e:List Env) (s:av) (H:Hp) (E:XK),eH k (A.deeper (qu j (aA p) s.heap.objs.size f m))->∀B:Bs,B.3=[] ->
   oV (qS gK P w K u y N j (aA p) f m A e s H E).Ht (gx p) (iC K B [] Z Ź g)):bZ P w K u y gK (k+1) f I z (Oi K (IX z.length N.length g)):=by
 refine F.ok S (λJ H Q E h =>?_) (λm A e s H J Q E c h =>?_)
 ·obtain⟨G,ds,d,D,r,b,_⟩:=h;unfold IX at b;split at b
  ·rw[<- r.length];assumption
  ·cases b
 ·obtain⟨G,ds,d,D,r,b,q⟩:=h;unfold IX at b;split at b
  ·rename_i O;refine⟨_,R m A e s H E c ⟨G,H,[],λ_ _=>False⟩ rfl,?_⟩;obtain⟨o,eg,b⟩:=aa.1 b;refine⟨G,_,o,uW D r (by rw[O];exact t),eg,?_⟩;cases o with
   |ro rs=>cases b;exact λa L G' H' E X U T r=>q a L G' H' E X U T r
   |_=>cases b
  ·cases b
structure lJ(P:br)(w:cY)(K:aT)(mg:aJ->Option ak)(base:cF)(x:aJ)(k:Nat)(sp:Sp):Prop where
 ex:∃f fd ps,bZ P w K mg base gK k f fd ps sp/\mg x=some (.ref f)/\kT K (.ref f)=true/\Binds K fd ps []
def lJ.mono(h:lJ P w K u y x j a)(c:j<=k):lJ P w K u y x k a:=by
 obtain⟨f,g,b,e,d⟩:=h.ex;exact⟨f,g,b,e.mono c,d⟩
end
section
variable {X:Cx}
def PL{F:List D->Option D}(h:lJ X.prog X.w X.K X.mg X.base x k (hR X.K F))(s:eH k X.A)(z:Gl X x)(E:PA X (e::l) (Ag X.K Z g))(b:autoParam ((x==("__debug__" : aJ))=false) Ű)(A:autoParam (ao (e::l) X.env=(Z_,eval e X.env)::ao l X.env) Ų)(a:autoParam ((cn C (ao l X.env)).any (·.1)=false) Ų):PE X (.Call (.Name x p) (e::l) [] C) (tP X.K Z (bg F g)):=by
 obtain⟨f,fd,U,I,t,w,B⟩:=h.ex;refine(qH I s z t w B .nil mq E b A a).imp ?_;rintro T H Q ⟨G,m,d,J,c,L,q⟩;obtain⟨i,K,u⟩:=zy L;exact⟨G,m,i,J,c,K,λn R O j r=>by show hR X.K F (n++[]) O Q E0;rw[bV];exact⟨R,i,d,j.gh,r,u,λv P N S o=>q v P N (j.trans S) o⟩⟩
noncomputable def sI(F:List D->Option (List D))(g:DL):DL:=λa=>(g a).bind F
def Wo{F:List D->Option (List D)}(h:lJ X.prog X.w X.K X.mg X.base x k (Oi X.K F))(w:eH k X.A)(B:Gl X x)(J:PA X (e::l) (Ag X.K Z g))(d:autoParam ((x==("__debug__" : aJ))=false) Ű)(E:autoParam (ao (e::l) X.env=(Z_,eval e X.env)::ao l X.env) Ų)(c:autoParam ((cn C (ao l X.env)).any (·.1)=false) Ų):PE X (.Call (.Name x p) (e::l) [] C) (tF X.K Z (sI F g)):=by
 obtain⟨f,fd,ps,i,z,A,I⟩:=h.ex;refine(qH i w B z A I .nil mq J d E c).imp ?_;rintro σ H Q ⟨G,o,O,u,j,b,q⟩;unfold sI at b;obtain⟨n,N,b⟩:=aa.1 b;exact⟨G,o,n,u,j,N,λr T R m v=>by show Oi X.K F (r++[]) R Q E0;rw[bV];exact⟨T,n,O,m.gh,v,b,λa s S P U i L K t=>q a s S P (m.trans U) (m.hh.free i) L K t⟩⟩
noncomputable def yH:D->Bool
 |.dg=>Z'|.bl _=>Z'|.int _=>Z'|.str _=>Z'|_=>Z_
end
def Si{F:List D->Option D}{m:Nat}(e:∀b:List Int,b.length<=m->F [.jt b]=Y (.bl Z'))(K:aT)(H:Hp)(a:ax)(b:List Int)(c:b.length<=m)(f:Nn H)(d:m_ K H a (b.map V.int)):
  hR K F [.ref a] H (λv _=>v=.bl Z') λ_ _ _=>False:=
 ⟨H,[.jt b],.bl Z',bC.refl _,.cons (Hk.mpr ⟨a,rfl,d⟩) .nil,e b c,λv h g E r=>dB.mp r⟩
noncomputable def XH(K:aT)(a:ax):It:=
 ⟨λi H=>∃b x,m_ K H a b/\b[i]?=Y x,λi H v c=>∃x p,(∀b,m_ K H a b->b[i]?=Y x)/\H p=M/\v=.ref p/\c=cx H p (.tup [.int i,x]),λi H=>∃b,m_ K H a b/\b.length<=i⟩
def IK{P:br}{K:aT}{x1}(a e t:ax)(T:e≠t):J9 P w K (.Tuple ZP x1 N) (XH K a) [e,t] e (λi h=>(∃l,IsEnum h e t (i:Int) l)/\h.IsListIter t a i) where
 mem:=by simp
 obj:=λi h D b g=>by
  obtain⟨⟨l,f⟩,j⟩:=D;rcases aW.mp g with rfl|g
  ·exact⟨_,f,λv z=>by cases z⟩
  ·have e:b=t:=by simpa using g
   subst e;obtain⟨o,e,c,d⟩:=j;exact⟨o,e,λv z=>by rw[d]at z;cases z⟩
 keep:=λi h h' D k=>by obtain⟨⟨l,f⟩,j⟩:=D;exact⟨⟨l,k e Ž _ f⟩,j.at λo q=>k t Ž o q⟩
 item:=by
  intro X hP hw hK hc i J s σ H E I R D hg;subst hP hw hK;obtain⟨⟨l,f⟩,j⟩:=D;obtain⟨xs,x,hq,B⟩:=hg;obtain⟨E8,rv,p,hz⟩:=I.list hq;obtain⟨u,hu,ru⟩:=rv.get B;have fe:=R e Ž;have U:=R t Ž;refine wpAny_pyNext_enum_item f j p.isList (x:=u) (by simpa using hu) T λh1 eo it1 t1 z1 k1 =>?_
  refine⟨_,rfl,?_⟩;refine wpAny_letOwnedTupleGo_enum (s:={ s with heap:=h1,toks:=s.toks+1 }) eo λG e2 s2 =>?_
  have S:e<s.heap.objs.size:=aI f;have V:H s.heap.objs.size=none:=I.eR.fresh (aQ _);have L:fK e h1 G:=s2;have m:∀b o,b≠e->b≠t->s.heap.get? b=Y o->G.get? b=Y o:=λb o h3 h4 q=>(L.2 b h3).trans (k1 b o h3 h4 q)
  have tup:G.get? s.heap.objs.size=Y { cls :=.type "tuple",data :=.seq #[.int i s.toks,u] }:=(L.2 _ (fS S)).trans t1;have C:∀b o,H b=Y o->b≠e/\b≠t:=λb o q=>⟨λz=>by(rw[z,fe.1]at q;cases q),λz=>by(rw[z,U.1]at q;cases q)⟩
  have new:e_ X.prog X.w (cx H s.heap.objs.size (.tup [.int i,x])) G s.heap.objs.size (.tup [.int i,x]):=
   ⟨by show 2<=bc;rw[gF];decide,[.int i s.toks,u],.cons ⟨_,rfl⟩ (.cons ru .nil),_,tup,rfl,_,rfl⟩
  have O:nS X.prog X.w (cx H s.heap.objs.size (.tup [.int i,x])) G:=λb o q=>by
   by_cases g:b=s.heap.objs.size
   ·subst g;rw[aX]at q;cases q;exact new
   ·rw[aM g]at q;refine(I.eR b o q).vV (λc v F r =>?_) (λc r=>by rw[aM (bf r V)];exact r) λc ys r=>by rw[aM (bf r V)];exact r
    rcases F with rfl|F
    ·exact m _ _ (C _ _ q).1 (C _ _ q).2 r
    ·exact m _ _ (C _ _ F).1 (C _ _ F).2 r
  have un:Un (yf X.stack) [e,t] H (cx H s.heap.objs.size (.tup [.int i,x])) s.heap G:=by
   have y:∀b,b∉[e,t]->b≠e/\b≠t:=λb g=>⟨λz=>g (by simp[z]),λz=>g (by simp[z])⟩
   have l:∀b o,s.heap.get? b=Y o->b≠s.heap.objs.size:=λb o q=>bI (aI q)
   refine⟨λb o q n _ B=>m b o (y b B).1 (y b B).2 q,λb o q n _ B=>⟨o.slots,m b o (y b B).1 (y b B).2 q⟩,λb o q n B=>by rw[aM (l b o q)];exact n,
    λb o q B=>⟨o,m b o (y b B).1 (y b B).2 q⟩,λb ys q=>by rw[aM (bf q V)];exact q,λb o u q=>by rw[aM (bf q V)];exact q,λb ps q=>⟨#[],by rw[aM (bf q V)];simpa using q⟩⟩
  have I2:Inv X J σ (cx H s.heap.objs.size (.tup [.int i,x])) { s with heap:=G,toks:=s.toks+1 }:=I.zJ (s':={ s with heap:=G,toks:=s.toks+1 }) rfl un O I.bare λb g=>by
   rcases aW.mp g with rfl|g
   ·exact⟨fe.2.2.2.1,fe.2.1,fe.2.2.2.2.1,fe.2.2.2.2.2⟩
   ·have z:b=t:=by simpa using g
    subst z;exact⟨U.2.2.2.1,U.2.1,U.2.2.2.2.1,U.2.2.2.2.2⟩
  have WZ:G.IsListIter t a (i+1):=it1.at λo q=>(L.2 t (bF T)).trans q
  refine⟨.ref s.heap.objs.size,_,I2,rfl,⟨x,s.heap.objs.size,λys hy=>by rw[I.su hy hq];exact B,V,rfl,rfl⟩,⟨⟨u,by exact_mod_cast e2⟩,WZ⟩,λb g =>?_⟩;have:b≠s.heap.objs.size:=by
   rcases aW.mp g with rfl|g
   ·exact bI S
   ·have z:b=t:=by simpa using g
    subst z;obtain⟨o,q,_⟩:=j;exact bI (aI q)
  rw[aM this];exact(R b g).1
 done:=by intro X hP hw hK hc i J s σ H E I R D hg;subst hP hw hK;obtain⟨⟨l,f⟩,j⟩:=D;obtain⟨xs,hq,B⟩:=hg;obtain⟨E8,rv,p,hz⟩:=I.list hq;obtain⟨f0,f1,f2,f3,f4,f5⟩:=R t Ž;have hl:=rv.length;exact wpAny_pyNext_enum_end (I.ok.hd hc) f j p.isList (by simp;omega) λh' eb=>⟨rfl,I.turned (t':=s.toks) (λb o g q=>eb b o g q) f0 f1 f3 f4 f5⟩
 self:=λA i s Q E D h=>by obtain⟨⟨l,f⟩,j⟩:=D;exact wpAny_pyIter_enum f h
section
variable {X:Cx}{f:DF}
def SE(K:aT)(e:TE):TI:=λc H R=>e c H λx b=>∃a,x=.ref a/\(∃d,m_ K b a d)/\R (XH K a) b
def ON{A}{v:TE}(Q:Gl X "enumerate")(O:X.mg "enumerate" = M)(P:PE X e v)(V:autoParam (ao [e] X.env=[(Z_,eval e X.env)]) Ų)(n:autoParam (ao [e] X.env=(Z_,eval e X.env)::ao [] X.env) Ų)(L:autoParam (fJ "enumerate" = Y (.type "enumerate")) ũ):PI X (.Tuple k A g) (.Call (.Name "enumerate" p) [e] [] i) (SE X.K v):=by
 intro j s y H R I h;refine Call_ (qL I Q O L (gX (fw (bT P dn n i j s y H (λl f=>match l with|[x]=>∃a,x=.ref a/\(∃r,m_ X.K f a r)/\R (XH X.K a) f|_=>False) I h) ?_) V rfl));rintro U c ⟨l,f,d,C,m⟩;cases l with
 |nil=>exact m.elim|cons x t=>
  cases t with
  |cons _ _=>exact m.elim|nil=>
  obtain⟨a,rfl,⟨r,N⟩,q⟩:=m;obtain⟨u,rfl,B⟩:=cg.one C;cases B;obtain⟨K,rv,D,hz⟩:=d.list N;refine call_enumerate_list D.isList λS w G T J =>?_
  refine wpAny_pyIter_enum (s:={ c with heap:=S }) w ?_;have E:f (c.heap.objs.size+1)=none:=d.eR.fresh (fA _);have F:f c.heap.objs.size=none:=d.eR.fresh (aQ _);refine⟨c.heap.objs.size+1,[c.heap.objs.size+1,c.heap.objs.size],_,_,f,rfl,d.kept (t':=c.toks) J,IK a (c.heap.objs.size+1) c.heap.objs.size (fS (js _)),⟨⟨_,w⟩,G⟩,λb o =>?_,q⟩;rcases aW.mp o with rfl|o
  ·exact d.zo (fA _) E
  ·have z:b=c.heap.objs.size:=by simpa using o
   subst z;exact d.zo (aQ _) F
noncomputable def xk(a:List D):List D:=a.zipIdx.map λp =>.tup [.int (p.2:Nat),p.1]
def wD{i:Nat}(h:(xk a)[i]?=Y d):∃x,a[i]?=Y x/\d=.tup [.int i,x]:=by
 unfold xk at h;rw[aY,List.getElem?_zipIdx]at h;rcases e:a[i]? with _|x
 ·rw[e]at h;cases h
 rw[e]at h;cases h;exact⟨x,rfl,Ž⟩
def wC(a:List D):(xk a).length=a.length:=by simp[xk]
def JA{K:aT}{a:ax}(k:G a=Y (.lst b))(r:bE K G n b):EK K G (XH K a) (xk n):=by
 refine⟨λi H s e =>?_,λi H s e=>⟨b,.of (s _ _ k),by rw[wC]at e;rw[<- r.length];exact e⟩,λi H x B A d l h ⟨y,p,f,m,u,w⟩ t =>?_⟩
 ·rw[wC]at e;have j:i<b.length:=by rw[<- r.length];exact e
  exact⟨b,b[i],.of (s _ _ k),by simp[j]⟩
 ·obtain⟨c,z,rfl⟩:=wD t;have q:=f b (.of (h _ _ (l _ _ k)));obtain⟨v,g,o⟩:=r.get z;rw[q]at g;cases g;subst u w;refine⟨cx A p (.tup [.int i,y]),gc.alloc h m,eP.mpr ⟨p,_,rfl,aX,.cons (bU.mpr rfl) (.cons (cJ.mono (l.trans (.alloc (h.free m))) c o) .nil)⟩⟩
def iE(f:DF):DL:=λa=>(iL f a).map xk
def Xv{c:List Expr}{o}(w:Gl X "enumerate")(u:X.mg "enumerate" = M)(h:PE X e (tP X.K Z f))(t:autoParam (ao [e] X.env=[(Z_,eval e X.env)]) Ų)(i:autoParam (ao [e] X.env=(Z_,eval e X.env)::ao [] X.env) Ų):
  PI X (.Tuple c o b) (.Call (.Name "enumerate" p) [e] [] g) (C8 X.K Z (iE f)):=(ON w u h t i).imp <|by
 rintro B H R ⟨G,n,D,x,j,d,k⟩;unfold iE at d;obtain⟨C,y,d⟩:=au.1 d;cases d;refine⟨G,n,_,x,j,vp y,λv A z m s =>?_⟩;obtain⟨a,q,rfl,l,r⟩:=cS.mp s;exact⟨a,rfl,⟨q,.of (m.gh _ _ l)⟩,k _ A z m (JA l r)⟩
noncomputable def ZI(x:aJ):It:=⟨λi _=>i<x.cps.size,λi H v a=>a=H/\∃c,x.cps[i]?=Y c/\v=.str ⟨#[c]⟩,λi _=>x.cps.size<=i⟩
def KI{P:br}{K:aT}(x:aJ)(t:Tok)(j:ax):J9 P w K G (ZI x) [j] j (λi h=>h.IsStrIter j "str_ascii_iterator" x t i) where
 mem:=by simp
 obj:=λi h a b l=>by
  have e:b=j:=by simpa using l
  subst e;obtain⟨o,e,c,d⟩:=a;exact⟨o,e,λv z=>by rw[d]at z;cases z⟩
 keep:=λi h p a k=>by obtain⟨o,e,c,d⟩:=a;exact⟨o,k j Ž o e,c,d⟩
 item:=by
  intro X q hw r F i f s D H E I n a g;subst q hw r;obtain⟨C,B,L,A,y,u⟩:=n j Ž;have g:i<x.cps.size:=g;refine wpAny_pyNext_ascii_item a (c:=x.cps[i]) (by simp[g]) λp m J =>?_
  have N:Inv X f D H { s with heap:=p,toks:=s.toks+1 }:=I.turned (λb o l e=>(J.2 b l).trans e) C B A y u;obtain⟨o,e,c,d⟩:=id m;exact⟨_,rfl,Mr (s:={ s with heap:=p,toks:=s.toks+1 }) e c d ſ ⟨.str ⟨#[x.cps[i]]⟩,H,N,⟨_,rfl⟩,⟨rfl,_,by simp[g],rfl⟩,m,λb l=>(n b l).1⟩⟩
 done:=by intro X q hw r F i f s D H E I n a g;subst q hw r;obtain⟨C,B,L,A,y,u⟩:=n j Ž;have g:x.cps.size<=i:=g;exact wpAny_pyNext_ascii_end (I.ok.hd F) a (by simp[g]) λp O=>⟨rfl,I.turned (t':=s.toks) (λb o l e=>O b o l e) C B A y u⟩
 self:=λ_ _ _ _ _ a h=>wpAny_pyIter_striter_ascii a h
def VQ(b:TE):TI:=λa H R=>b a H λv c=>∃x,v=.str x/\x.cps.all (· < 128)=Z'/\R (ZI x) c
def RO{f:TE}(m:PE X l f):PI X i l (VQ f):=by
 intro a s g H R I h;refine fw (m a s g H _ I h) ?_;rintro v c ⟨x,r,d,j,k⟩;obtain⟨z,e,p,q⟩:=k;subst e;obtain⟨t,rfl⟩:=j;refine wpAny_pyIter_ascii p ?_;refine⟨c.heap.objs.size,[c.heap.objs.size],_,_,r,rfl,d.kept (t':=c.toks) λb o e=>aj _ e,KI z t _,⟨_,bz _ rfl,rfl,rfl⟩,λb n =>?_,q⟩;have e:b=c.heap.objs.size:=by simpa using n
 subst e;exact d.zo (aQ _) (d.eR.fresh (aQ _))
noncomputable def uj(x:aJ):List D:=x.cps.toList.map λc =>.str ⟨#[c]⟩
def iS(f:DF):DL:=λa=>(f a).bind λd=>match d with|.str x=>if x.cps.all (· < 128)=Z' then Y (uj x) else M|_=>M
def Mi{K:aT}(x:aJ):EK K G (ZI x) (uj x):=by
 have f:(uj x).length=x.cps.size:=by simp[uj]
 refine⟨λi H s a=>by rw[f]at a;exact a,λi H s a=>by rw[f]at a;exact a,λi H v m k d l g ⟨e,c,j,h⟩ b =>?_⟩;subst e h;refine⟨k,.refl g,?_⟩;unfold uj at b;rw[aY,wY,j]at b;cases b;exact gu.mpr rfl
def Th{g:Expr}(h:PE X e (tP X.K Z f)):PI X g e (C8 X.K Z (iS f)):=(RO h).imp <|by
 rintro q H R ⟨G,c,r,l,b,a,k⟩;unfold iS at a;obtain⟨d,m,a⟩:=aa.1 a;cases d<;>simp only[ae]at a<;>try (cases a;done)
 split at a
 ·cases a;rename_i x j;exact⟨G,c,_,l,b,m,λv o n p i=>⟨x,gu.mp i,j,k _ o n p (Mi x)⟩⟩
 ·cases a
end
def ik{K:aT}{Z:List Nat}(i:Nat)(e:autoParam (i∉Z) Ű):∀v a H Q,Uj K Z (gN i) v a H Q->oB i v a H Q:=λv a H Q ⟨G,h,d,c,f,b,r,g,k⟩=>by
 cases g;exact k _ G H (.refl f) (b.set e r)
noncomputable def vx(b:Scope)(d N:List aJ)(c:List (Option Nat))(a:Scope):Bool:=
 (a.names.all λy=>a.names.lookup y.1==Y y.2)&&(a.names.all λy=>y.2 != .free||(b.names.lookup y.1==Y .cell||b.names.lookup y.1==Y .free))&&(c.length==N.length) &&
 ((cv c.length).all λi=>match c[i]?,N[i]? with|some (Y j),Y x=>d[j]? == Y x&&a.names.lookup x==Y .free|_,_=>Z')
def jy{X:Cx}{outer:Scope}{oN N:List aJ}{src:List (Option Nat)}(d:a.kind=.function)(h:vx outer oN N src a=Z')(p:X.env.scope=outer)(o:X.N=oN):fP X N src a:=by
 unfold vx at h;simp only[aZ,dU,beq_iff_eq,vM]at h;obtain⟨⟨⟨n,m⟩,l⟩,k⟩:=h;refine⟨d,λy b=>n y b,λy b f =>?_,l,λi j x c g =>?_⟩
 ·rw[p];rcases m y b with z|z
  ·rw[f]at z;exact absurd z ſ
  ·exact z
 ·have e:i<src.length:=(aq.mp c).1;have:=k i (by simpa using e);rw[c,g]at this;simp only[aZ,beq_iff_eq]at this;rw[o];exact this
section
variable {m:br}{s:av}{R:NH->av->Prop}
variable {P:Nat->ak->Prop}
end
section
variable {m:br}{s:av}
variable {P:Nat->ak->Prop}
end
section
variable {X:Cx}{f:DF}
end
abbrev DM:=cA->Option (D×cA)
abbrev J5:=cA->Option (List D×cA)
inductive tM (K:aT) (B:Bs) (Z:List Nat) (f:DM) (c:St) (H:Hp) (Q:VK):Prop
 |mk G e d a:SR K B Z G H c e->f e=some (d,a)->(∀v b g,SR K B Z b g c a->bC G b->cJ K b d v->Q v g)->tM K B Z f c H Q
inductive Rm (K:aT) (B:Bs) (Z:List Nat) (f:J5) (c:St) (H:Hp) (Q:List V->Hp->Prop):Prop
 |mk G d g a:SR K B Z G H c d->f d=some (g,a)->(∀e b h,SR K B Z b h c a->bC G b->bE K b g e->Q e h)->Rm K B Z f c H Q
noncomputable def De(H:Hp)(a:ax):Hp:=λb=>if b=a then M else H b
def zr:De H a a=none:=by simp[De]
def zt(h:b≠a):De H a b=H b:=by simp[De,h]
def HN:bC (De H a) H:=λb o e=>by
 by_cases h:b=a
 ·subst h;rw[zr]at e;cases e
 ·rw[zt h]at e;exact e
section
variable {X:Cx}{m:Pos}
noncomputable def mP(f:DF):DM:=λρ=>(f ρ).map λd=>(d,ρ)
def O7{f:DF}(h:mP f b=Y (d,a)):f b=Y d/\a=b:=by
 unfold mP at h;obtain⟨c,e,h⟩:=au.1 h;rw[e];cases h;exact⟨rfl,rfl⟩
def HY{f:DF}(h:PE X e (tP X.K Z f)):PE X e (tM X.K B Z (mP f)):=h.imp <|by
 rintro j H Q ⟨G,n,d,a,S,b,k⟩;obtain⟨c,rfl⟩:=O7 b;exact⟨G,a,d,S.gh,S.iX,c,λv i g E r=>k v i g (S.ext E) E.gg r⟩
noncomputable def kZ:J5:=λρ=>Y ([],ρ)
noncomputable def jx(f:DM)(g:J5):J5:=λρ=>(f ρ).bind λp=>(g p.2).bind λq=>Y (p.1::q.1,q.2)
def L7{f:DM}(h:jx f g d=Y (j,b)):∃x a c,f d=Y (x,a)/\g a=Y (c,b)/\j=x::c:=by
 unfold jx at h;obtain⟨⟨x,a⟩,i,h⟩:=aa.1 h;rw[i];rcases e:g a with _|⟨c,k⟩
 ·rw[e]at h;cases h
 rw[e]at h;cases h;exact⟨x,a,c,rfl,e,rfl⟩
def Pz:PA X [] (Rm X.K B Z kZ):=dn.imp <|by
 rintro c H Q ⟨G,e,d,a,S,b,k⟩;cases b;exact k _ G H S (bC.refl _) .nil
def zE{f:DM}{g:J5}(h:PE X e (tM X.K B Z f))(t:PA X l (Rm X.K B Z g))(r:autoParam (ao (e::l) X.env=(Z_,eval e X.env)::ao l X.env) Ų):PA X (e::l) (Rm X.K B Z (jx f g)):=
 (bT h t r).imp <|by rintro F H Q ⟨G,j,d,b,S,w,k⟩;obtain⟨x,a,n,u,c,rfl⟩:=L7 w;exact⟨G,j,x,a,S,u,λv E J z o q=>⟨E,a,n,b,z,c,λI D C y i p=>k _ D C y (o.trans i) (.cons (cJ.mono i x q) p)⟩⟩
noncomputable def xD(g:J5):DM:=λa=>(g a).bind λq=>if q.1.length<=1000 then Y (.tup q.1,q.2) else M
def Td{q}{g:J5}(h:PA X l (Rm X.K B Z g)):PE X (.Tuple l q m) (tM X.K B Z (xD g)):=(FK h).imp <|by
 rintro v H Q ⟨G,i,d,b,S,a,k⟩;unfold xD at a;rw[aa]at a;obtain⟨⟨c,e⟩,f,a⟩:=a;have a:(if c.length<=1000 then Y (D.tup c,e) else M)=Y (d,b):=a;split at a
 ·cases a;rename_i t;refine⟨G,i,c,b,S,f,λj x w o r n=>⟨?_,λp u =>?_⟩⟩
  ·rw[<- n.length];exact bQ t vj
  ·have E:=gc.alloc (p:=p) (o :=.tup j) o.gh u;exact k _ _ _ (o.ext E) (r.trans E.gg) (eP.mpr ⟨p,j,rfl,aX,bE.mono E.gg c n⟩)
 ·cases a
noncomputable def m2(o:D->D->Option D)(a b:DM):DM:=λc=>(a c).bind λp=>(b p.2).bind λq=>(o p.1 q.1).map λd=>(d,q.2)
def O8{f:cA}(h:m2 o a b g=Y (d,f)):∃x e y,a g=Y (x,e)/\b e=Y (y,f)/\o x y=Y d:=by
 unfold m2 at h;obtain⟨⟨x,e⟩,k,h⟩:=aa.1 h;rw[k];rcases j:b e with _|⟨y,n⟩
 ·rw[j]at h;cases h
 rw[j]at h;simp only[ae]at h;rcases i:o x y with _|c
 ·rw[i]at h;cases h
 rw[i]at h;cases h;exact⟨x,e,y,rfl,j,i⟩
def Vk{K:aT}{s:DM}(h:tM K B Z (m2 o s A) c H Q):Ul (rD K o) (tM K B Z s) (tM K B Z A) c H Q:=by
 obtain⟨G,i,d,b,S,z,k⟩:=h;obtain⟨x,a,y,t,r,C⟩:=O8 z;exact⟨G,i,x,a,S,t,λv L N E j q=>⟨L,a,y,b,E,r,λu J l f e p=>⟨J,x,y,d,f.gh,.inl (cJ.mono e x q),.inl p,C,λw I F g n=>k w I F (f.ext g) ((j.trans e).trans g.gg) n⟩⟩⟩
variable {s:DM}
def aa0(d:Az X (dN c) o)(f:PE X a (tM X.K B Z s))(e:PE X b (tM X.K B Z A)):PE X (.BinOp a c b m) (tM X.K B Z (m2 o s A)):=(DW d f e).imp λg H Q h=>Vk h
def O6(j:Nat):DM:=λb=>(iW j b).bind λa=>(a[a.length-1]?).map λd=>(d,b.set j (Y (.lst a.dropLast)))
def Te{b a:Pos}(h:PE X (.Name y p) (iB j))(q:autoParam (j∈Z) Ű)(f:autoParam (b_ (.Name y p) "pop" X.env (eval (.Name y p) X.env)=eval (.Name y p) X.env) Ų)(e:autoParam ((b.endLine==a.line)=true) Ų):
  PE X (.Call (.Attribute (.Name y p) "pop" b) [] [] a) (tM X.K B Z (O6 j)):=
 (LB fX PySem.F.slot_list_pop PySem.F.type_list_pop L1 h f e).imp <|by
  rintro x H Q ⟨G,z,d,o,S,g,k⟩;unfold O6 at g;obtain⟨n,t,g⟩:=aa.1 g;rcases i:n[n.length-1]? with _|c
  ·simp[i]at g
  simp only[i,ae,bP]at g;cases g;exact RM S q (fH t) i λv w u r=>k v G w u (bC.refl _) r
inductive Dw (K:aT) (p:Nat) (F:List D->Option (D×List D)) (h:List V) (H:Hp) (Q:VK) (_x:XK):Prop
 |mk G f d b a n k:bC G H->f[p]?=some (.lst k)->h[p]?=some (.ref a)->H a=some (.lst n)->bE K G k n->G a=none->(∀(i:Nat) c,i≠p->f[i]?=some c->∃v,h[i]?=some v/\cJ K G c v)->f.length=h.length->F f=some (d,b)->(∀v e g j,gc G (De H a) g j->g a=none->j a=some (.lst e)->bE K g b e->cJ K g d v->Q v j)->Dw K p F h H Q _x
def OT(p:Nat):DO->Option (D×List D)
 |.rm d a=>(iW p a).map λb=>(d,b)
 |.nx a=>(iW p a).map λb=>(.dg,b)
 |_=>M
def Ak(n N p:Nat)(g:DG)(a:List D):Option (D×List D):=if a.length=n then (g (ie N a)).bind (OT p) else M
def SR.P4{K:aT}{f v:Hp}{a:ax}(S:SR K B Z G H g i)(w:j∈Z)(t:i[j]?=Y (Y d))(p:g[j]?=Y (Y (.ref a)))(E:gc G (De H a) f v)(L:f a=M)(C:v a=Y n)(r:jd K f u n)(x:autoParam (vm d=true) Ų):SR K B Z f v g (i.set j (Y u)):=by
 obtain⟨F,W⟩:=S.ow;obtain⟨Q,y,N⟩:=W.it j d w t;rw[p]at y;cases y;obtain⟨⟨o,P,O⟩,l⟩:=(nF.cell x).mp N;have:=S.chg (i:=j) (a:=a) (d':=u) (F0:=[a]) (S':=[a]) W w (λb c=>⟨by rw[l];exact c,d,t⟩) E.gg E.gh (λb o e=>by
   rcases E.fr b o e with z|z
   ·exact .inl z
   ·by_cases c:b=a
    ·exact .inr (.inr (by simp[c]))
    ·rw[zt c]at z;exact .inr (.inl z))
  (λb o c e=>E.hh b o (by rw[zt (by simpa using c)];exact e)) ((nF.cell r.vm).mpr ⟨⟨n,C,r⟩,rfl⟩) Ž (λb c=>by simp at c;subst c;exact⟨L,.inl Ž⟩)
  (λb h=>by have:=(S.pin j b h).2;rw[p]at this;cases this;rfl) (CP r.vm) (λk q J I _ e=>(S.QM t x k q J I e).elim)
 rwa [gf p]at this
def SR.called{K:aT}{f:Hp}{e:cA}{a:ax}{xs':List D}{b:List V}(S:SR K B Z G H d e)(i:j∈Z)(k:e[j]?=Y (Y (.lst g)))(h:d[j]?=Y (Y (.ref a)))(E:gc G (De H a) c f)(o:c a=M)(n:f a=Y (.lst b))(r:bE K c xs' b):SR K B Z c f d (e.set j (Y (.lst xs'))):=
 S.P4 i k h E o n ⟨b,rfl,r⟩
def rj(F:List D->Option (D×List D))(j:Nat)(g:DL):DM:=λa=>(iW j a).bind λb=>(g a).bind λds=>(F (.lst b::ds)).map λq=>(q.1,a.set j (Y (.lst q.2)))
def Xu{F:List D->Option (D×List D)}{e:Pos}{g:DL}(h:lJ X.prog X.w X.K X.mg X.base x k (Dw X.K 0 F))(hr:eH k X.A)(hg:Gl X x)(hy:PE X (.Name y e) (iB j))(ha:PA X l (Ag X.K Z g))(w:autoParam (j∈Z) Ű)(z:autoParam ((x==("__debug__" : aJ))=false) Ű)(O:autoParam (ao (.Name y e::l) X.env=(Z_,eval (.Name y e) X.env)::ao l X.env) Ų)(u:autoParam ((cn m (ao l X.env)).any (·.1)=false) Ų):PE X (.Call (.Name x p) (.Name y e::l) [] m) (tM X.K B Z (rj F j g)):=by
 obtain⟨f,fd,ps,h1,hm,hk,hb⟩:=h.ex;refine(qH h1 hr hg hm hk hb .nil mq (bT hy ha O) z O u).imp ?_;rintro σ H Q ⟨G,n,d,U,S,b,q⟩;unfold rj at b;obtain⟨r,E,b⟩:=aa.1 b;obtain⟨L,I,b⟩:=aa.1 b;obtain⟨⟨d',o⟩,J,b⟩:=au.1 b;cases b;have C:=fH E;obtain⟨a,vs,K,e3,e4,e5,e6⟩:=S.mr w C;refine⟨_,K,G,n,L,S.gh,S.iX,I,λus G1 H1 s N =>?_⟩;have R:=S.ext s;obtain⟨a',t,P,f3,f4,f5,f6⟩:=R.mr w C;rw[K]at P;cases P;show Dw X.K 0 F ((.ref a::us)++[]) H1 Q E0;rw[bV];refine⟨G1,.lst r::L,d',o,a,t,r,s.gh,rfl,rfl,f3,f4,f5,λi c hi ec =>?_,by simp[N.length],J,λv ws' G2 H2 T g2 h2 r2 r3 =>?_⟩
 ·cases i with
  |zero=>exact absurd rfl hi|succ i=>exact N.get (i:=i) (by simpa using ec)
 ·exact q v G2 H2 (R.called w C K T g2 h2 r2) (s.gg.trans T.gg) r3
end
section
variable {X:Cx}{m:List Nat}{f:DM}
noncomputable def mY(i:Nat)(f:DM):DG:=λa=>(f a).map λq =>.nx (q.2.set i (Y q.1))
def Xp{i:Nat}(w:X.N.Nodup)(p:X.N[i]?=Y x)(h:Loc X.env.scope x)(s:PE X e (tM X.K B Z f))(n:autoParam (i∉Z) Ű)(j:autoParam (cj e (Y (.Name x a)) l.line X.env=dP false) Ų)(q:autoParam (X.fn x=Z'\/X.env.scope.names.lookup x=Y .local) ŭ):
  PS X (.Assign [.Name x a] e l) (iC X.K B m Z Z (mY i f)):=(iF w p h s j q).imp <|by
 rintro D F H ⟨G,g,o,S,b,k⟩;unfold mY at b;obtain⟨⟨d,c⟩,z,b⟩:=au.1 b;cases b;exact⟨G,g,d,c,S,z,λv E C A _ r=>k _ E C (A.v8 n r)⟩
noncomputable def dM(f:DM):DG:=λa=>(f a).map λq =>.rm q.1 q.2
def yi(h:PE X e (tM X.K B Z f)):PS X (.Return (Y e) l) (iC X.K B m Z t (dM f)):=(pE h).imp <|by
 rintro D c H ⟨G,g,o,S,a,k⟩;unfold dM at a;obtain⟨⟨d,b⟩,i,a⟩:=au.1 a;cases a;exact⟨G,g,d,b,S,i,λv p n j _ r=>k v c p n ⟨Z,j⟩ r⟩
def BP(i:Nat):DG:=λa=>(iW i a).map λb =>.rm (.lst b) a
def MQ(h:PE X (.Name x p) (iB i))(g:autoParam (i∈Z) Ű)(b:autoParam (∀a,(i,a)∉B.3) ū)(s:autoParam (A9 i∉Z) Ű)(e:autoParam (i<1000000) Ű):PS X (.Return (Y (.Name x p)) l) (iC X.K B m Z t (BP i)):=(pE h).imp <|by
 rintro D r H ⟨G,F,o,S,d,k⟩;unfold BP at d;obtain⟨O,C,d⟩:=au.1 d;cases d;have n:=fH C;obtain⟨a,I,N,u,L,K,J⟩:=S.mr g n;obtain⟨E,q⟩:=S.freeze (Ź:=Z.filter (· != i)) (λj f=>(iA.mp f).1) i (λj f=>by
  by_cases c:j=i
  ·exact .inr c
  ·exact .inl (iA.mpr ⟨f,by simpa using c⟩)) (λz=>by have:=(iA.mp z).2;simp at this) g b s e
 obtain⟨v,A,w⟩:=q.env i _ (λz=>by have:=(iA.mp z).2;simp at this) n;exact⟨v,A,k v r E H ⟨_,q⟩ w⟩
def Hh(i:Nat)(f:DM):DG:=λa=>(iW i a).bind λ_=>(f a).bind λq=>(iW i q.2).bind λb=>if b.length<eC then Y (.nx (q.2.set i (Y (.lst (b++[q.1]))))) else M
def Py(h:PE X (.Name x p) (iB i))(T:PE X e (tM X.K B Z f))(F:autoParam (i∈Z) Ű)(q:autoParam (b_ (.Name x p) "append" X.env (eval (.Name x p) X.env)=eval (.Name x p) X.env) Ų) (z:autoParam (((cn b (ao (e::[]) X.env)).all (λx=> !x.1)&&(gG b (dh [] X.env)).all (λx=>x.1.isSome)
   && decide ((e::[]).length+([]:List nV).length+(if ([]:List nV).isEmpty then 0 else 1)<30))=true) Ų) (n:autoParam ((g.endLine==b.line)=true) Ų) (L:autoParam (ao (e::[]) X.env=(Z_,eval e X.env)::ao [] X.env) Ų) (j:autoParam ((cn b (ao [] X.env)).any (·.1)=false) Ų) (E:autoParam (cj (.Call (.Attribute (.Name x p) "append" g) [e] [] b) M l.line X.env=dP false) Ų) :
  PS X (.Expr (.Call (.Attribute (.Name x p) "append" g) [e] [] b) l) (iC X.K B m Z Z (Hh i f)):=
 (mf (xc fX PySem.F.slot_list_append PySem.F.type_list_append kO h (bT T dn L) q z n L j) E).imp <|by
  rintro D σ H ⟨G,A,o,S,c,k⟩;unfold Hh at c;obtain⟨ds0,I,c⟩:=aa.1 c;rw[aa]at c;obtain⟨⟨d,w⟩,J,c⟩:=c;rcases s:iW i w with _|ds
  ·rw[s]at c;cases c
  rw[s]at c;simp only[ae]at c;split at c
  ·cases c;rename_i R;obtain⟨a,Q,K,e3,e4,e5,e6⟩:=S.mr F (fH I);refine⟨_,K,.inl ⟨rfl,Q,.of e3⟩,G,A,d,w,S,J,λv G' H' P s' r =>?_⟩;have t:=fH s;obtain⟨a',C,O,U,N,_⟩:=P.mr F t;rw[K]at O;cases O;refine⟨a,C,v,rfl,rfl,U,?_,k _ G' _ (P.mut F t K (N.append (.cons r .nil)))⟩;rw[<- N.length];exact bx R ia
  ·cases c
def Xb(f:DM):J5:=λa=>(f a).bind λq=>match q.1 with|.int j=>if -(2 ^ 62)<=j/\j<2 ^ 62 then Y (nh 0 j.toNat,q.2) else M|_=>M
def Gu(w:Gl X "range")(s:X.mg "range" = M)(h:PE X e (tM X.K B Z f))(r:autoParam (ao [e] X.env=(Z_,eval e X.env)::ao [] X.env) Ų)(b:autoParam (ao [e] X.env=[(Z_,eval e X.env)]) Ų):PI X o (.Call (.Name "range" p) [e] [] l) (WY X.K B Z (Xb f)):=
 (A1 w s (bT h dn r) b).imp <|by
  rintro D H R ⟨G,n,F,i,S,a,k⟩;unfold Xb at a;obtain⟨⟨d,g⟩,x,a⟩:=aa.1 a;cases d<;>simp only[ae]at a<;>try (cases a;done)
  split at a
  ·cases a;rename_i j c;exact⟨G,n,_,_,S,x,λv C A z E q=>⟨j,by rw[bU.mp q],c.1,c.2,k _ C A z (uB 0 j.toNat)⟩⟩
  ·cases a
end
def AO{K:aT}{c:D}{T:List ax}(s:bC G H)(L:bC E H)(I:p∈Z)(J:x[p]?=Y c)(F:w[p]?=Y (.ref a))(r:nF K G H c a T)(P:T.Nodup)(X:∀b∈T,G b=M/\E b=M)(C:∀r q,c ≠ .eB r q)(O:∀(i:Nat) c,i≠p->x[i]?=Y c->∃v,w[i]?=Y v/\cJ K G c v)(R:x.length=w.length)(Q:∀i∈Z,i=p\/x.length<=i):SR K ⟨G,E,[(p,a)],fl⟩ Z G H (start N w) (ie N.length x):=by
 have f:∀(i:Nat) v,w[i]?=Y v->(start N w)[i]?=Y (Y v):=λi v e=>by have g:i<w.length:=(aq.mp e).1;unfold start;rw[cC (by simpa using g),aY,e];rfl
 have n:∀i∈Z,(∃d,(ie N.length x)[i]?=Y (Y d))->i=p:=λi g ⟨d,e⟩=>by
  have:=(aq.mp (nO e)).1;rcases Q i g with z|z
  ·exact z
  ·omega
 refine⟨s,bC.refl _,L,λb o e =>.inl e,λi d g e =>?_,⟨λ_=>T,λi d g e =>?_,λi d g e=>⟨P,X⟩,λi j d c g S ei ej B=>absurd ((n i g ⟨d,ei⟩).trans (n j S ⟨c,ej⟩).symm) B⟩,by simp[start,ie,R],λi b h =>?_,λj k q U h2 e =>?_⟩
 ·obtain⟨v,ev,l⟩:=O i d (λz=>g (z ▸ I)) (nO e);exact⟨v,f i v ev,l⟩
 ·have z:=n i g ⟨d,e⟩;subst z;have A:=nO e;rw[J]at A;cases A;exact⟨a,f _ _ F,r⟩
 ·have z:(i,b)=(p,a):=by simpa using h
  cases z;exact⟨I,f _ _ F⟩
 ·have z:=n j U ⟨_,e⟩;subst z;have A:=nO e;rw[J]at A;cases A;exact absurd rfl (C k q)
def AR{K:aT}(s:bC G H)(j:p∈Z)(q:d[p]?=Y c)(h:e[p]?=Y (.ref a))(w:H a=Y o)(r:jd K G c o)(x:G a=M)(g:∀(i:Nat) c,i≠p->d[i]?=Y c->∃v,e[i]?=Y v/\cJ K G c v)(n:d.length=e.length)(k:∀i∈Z,i=p\/d.length<=i):SR K ⟨G,De H a,[(p,a)],z⟩ Z G H (start N e) (ie N.length d):=
 AO s HN j q h ((nF.cell r.vm).mpr ⟨⟨o,w,r⟩,rfl⟩) Ž (λb f=>by simp at f;subst f;exact⟨x,zr⟩) (CP r.vm) g n k
def IS{K:aT}{f:List D}(s:bC G H)(j:p∈Z)(o:b[p]?=Y (.lst f))(h:e[p]?=Y (.ref a))(q:H a=Y (.lst d))(r:bE K G f d)(w:G a=M)(g:∀(i:Nat) c,i≠p->b[i]?=Y c->∃v,e[i]?=Y v/\cJ K G c v)(n:b.length=e.length)(k:∀i∈Z,i=p\/b.length<=i):SR K ⟨G,De H a,[(p,a)],x⟩ Z G H (start N e) (ie N.length b):=
 AR s j o h q (show jd K G (.lst f) (.lst d) from⟨d,rfl,r⟩) w g n k
section
variable {P:br}{K:aT}
def gY.tZ{st:pK}{f:ax}(F:gY K x I st f fd)(S:bB N ps (aA st))(p:Nat){Z Ź:List Nat}{g:DG}(hp:p∈Z)(SJ:∀i∈Z,i=p\/ps.length<=i) (hb:∀(L:ak) (A:gI) (j:List Env) (s:av) (H:Hp) (E:XK),eH k (A.deeper (qu I (aA st) s.heap.objs.size f L))->∀(B:Bs) (a:ax),B.3=[(p,a)] ->
   oV (qS gK P w K u y N I (aA st) f L A j s H E).Ht (gx st) (iC K B [] Z Ź g)):bZ P w K u y gK (k+1) f fd ps (Dw K p (Ak ps.length N.length p g)):=by
 refine F.ok S (λvs H Q E h =>?_) (λL A j s H vs Q E hr h =>?_)
 ·obtain⟨G,ds,d,R,a,ws,X,gh,hd,hv,ha,r,ga,ro,hl,e,_⟩:=h;unfold Ak at e;split at e
  ·rw[<- hl];assumption
  ·cases e
 ·obtain⟨G,ds,d,R,a,ws,X,gh,hd,hv,ha,r,ga,ro,hl,e,q⟩:=h;unfold Ak at e;split at e
  ·rename_i hn;refine⟨_,hb L A j s H E hr ⟨G,De H a,[(p,a)],λ_ _=>False⟩ a rfl,?_⟩;obtain⟨o,eg,e⟩:=aa.1 e;have lQ:∀ {σ:St}{C:cA}{O T:Hp}{o':List Nat}{U:List D},SR K ⟨G,De H a,[(p,a)],λ_ _=>False⟩ o' O T σ C->iW p C=Y U->∃z,T a=Y (.lst z)/\bE K O U z/\O a=none:=fun {σ C O T o' U} c J=>by obtain⟨SH,hσ⟩:=c.pin p a Ž;obtain⟨b,vs',f2,f3,f4,f5,_⟩:=c.mr SH (fH J);rw[hσ]at f2;cases f2;exact⟨vs',f3,f4,f5⟩
   refine⟨G,_,o,IS gh hp hd hv ha r ga ro hl (by rw[hn];exact SJ),eg,?_⟩;cases o with
   |rm d' C=>have e:mB (λX=>(d',X)) (iW p C)=Y (d,R):=e;obtain⟨U,J,e⟩:=au.1 e;cases e;intro v σ O T ⟨o',c⟩ rv;obtain⟨z,f3,f4,f5⟩:=lQ c J;exact q v z O T c.mR f5 f3 f4 rv
   |nx C=>have e:mB (λX=>(D.dg,X)) (iW p C)=Y (d,R):=e;obtain⟨U,J,e⟩:=au.1 e;cases e;intro σ O T c;obtain⟨z,f3,f4,f5⟩:=lQ c J;exact q _ z O T c.mR f5 f3 f4 (gv.mpr rfl)
   |_=>cases e
  ·cases e
end
def O'(n:cA)(w:EO)(u:DM)(i0:Nat):List D->List D->Option (List D×List D)
 |[],c=>Y ([],c)|d::e,c=>(w d (n.set i0 (Y (.lst c)))).bind λa=>(u a).bind λp=>(iW i0 p.2).bind λb=>(O' n w u i0 e b).map λq=>(p.1::q.1,q.2)
def VL(f:DL)(src:List (Option Nat))(w:EO)(u:DM)(i0 j0:Nat):DM:=λn=>(f n).bind λa=>if a.length<=eC then (iW j0 n).bind λb=>(O' (mJ src n) w u i0 a b).map λq=>(.lst q.1,n.set j0 (Y (.lst q.2))) else M
def Um(K:aT)(i0:Nat)(u:DM):TE:=λt H Q=>∃(B:Bs) (a:ax),B.3=[(i0,a)]/\tM K B [i0] u t H Q
def Wg{X:Cx}(h:∀(B:Bs) (a:ax),B.3=[(i0,a)]->PE X e (tM X.K B [i0] u)):PE X e (Um X.K i0 u):=by rintro b s t H Q I ⟨B,a,c,q⟩;exact h B a c b s t H Q I q
theorem zX:∀ {l:List a}{i:Nat}{x:a},l[i]?=Y x->l.set i x=l
 |[],i,x,h=>by simp at h
 |y::l,0,x,h=>by simp at h;subst h;rfl
 |y::l,i+1,x,h=>by simp at h;simp[zX h]
section
variable {K:aT}
def Dt{i:Nat}(e:(mJ src n)[i]?=Y (Y d)):∃j,src[i]?=Y (Y j)/\n[j]?=Y (Y d):=by
 unfold mJ at e;rw[aY]at e;obtain⟨o,a,e⟩:=au.1 e;rw[a];cases o with
 |none=>cases e|some j=>
  have e:(n[j]?).getD M=Y d:=by simpa using e
  refine⟨j,rfl,?_⟩;rcases q:n[j]? with _|z
  ·rw[q]at e;cases e
  rw[q]at e;rw[show z=Y d from e]
def pQ{i:Nat}{v:V}(b:src[i]?=Y (Y j))(a:t[j]?=Y (Y v)):(nY src t)[i]?=Y (Y v):=by
 unfold nY;rw[aY,b];simp[a]
def SR.inner{fl:aJ->Int->Prop}{i0:Nat}(S:SR K B Z G H t (n.set j0 (Y (.lst q))))(y:jT Z [i0] src=Z')(x:src[i0]?=Y (Y j0))(k:∃d,n[j0]?=Y d)(s:t[j0]?=Y (Y (.ref a))):
  SR K ⟨G,De H a,[(i0,a)],fl⟩ [i0] G H (nY src t) ((mJ src n).set i0 (Y (.lst q))):=by
 have l:j0∈Z:=(kE y x).mp Ž;obtain⟨d0,k⟩:=k;have N:j0<n.length:=(aq.mp k).1;have P:(n.set j0 (Y (D.lst q)))[j0]?=Y (Y (.lst q)):=by rw[a_ N]
 obtain⟨b,J,I,e3,e4,e5,e6⟩:=S.mr l P;rw[s]at I;cases I;refine⟨S.gh,bC.refl _,HN,λb o e =>.inl e,λi d g e =>?_,⟨λ_=>[a],λi d g e =>?_,λi d g e=>⟨Ž,λb C =>?_⟩,λi j d c g m _ _ f =>?_⟩,by simp[nY,mJ],λi b h =>?_,λj r p R Q e =>?_⟩
 ·rcases gO e with⟨rfl,_,_⟩|⟨f,e⟩
  ·exact absurd Ž g
  ·obtain⟨j,F,ej⟩:=Dt e;have m:j∉Z:=λz=>g ((kE y F).mpr z)
   have:j0≠j:=λz=>m (z ▸ l)
   obtain⟨v,f1,X⟩:=S.env j d m (by rw[ai this];exact ej);exact⟨v,pQ F f1,X⟩
 ·have z:i=i0:=by simpa using g
  subst z;rcases gO e with⟨_,rfl,_⟩|⟨f,_⟩
  ·exact⟨a,pQ x s,⟨_,e3,J,rfl,e4⟩,rfl⟩
  ·exact absurd rfl f
 ·simp at C;subst C;exact⟨e5,zr⟩
 ·simp at g m;exact absurd (g.trans m.symm) f
 ·have z:(i,b)=(i0,a):=by simpa using h
  cases z;exact⟨Ž,pQ x s⟩
 ·have q1:j=i0:=by simpa using R
  have u:B9 j=i0:=by simpa using Q
  unfold B9 at u;omega
end
section
variable {X:Cx}{f:DL}
inductive WH {α:Type}(K:aT) (B:Bs) (Z:List Nat) (t:St) (e:α->cA) (F:Nat->α->Option (List D×α)) (G:Hp) (z:α) (r:List D) (i:Nat) (y:List V) (H:Hp):Prop
 |mk g l x o:y.length<=i->SR K B Z g H t (e x)->bC G g->bE K g l y->F i x=some (o,z)->l++o=r->WH K B Z t e F G z r i y H
def Sh{K:aT}(ho:jT Z [i0] src=Z')(h0:src[i0]?=Y (Y j0))(hg:∀(B:Bs) v t H Q,G9 K B [i0] w v t H Q->g v t H Q)(q:tM K B Z (VL f src w u i0 j0) t H Q):
  Rn (C8 K Z f) src g (rG K [i0] ic) (Um K i0 u) t H Q:=by
 obtain⟨G,n,d,ρ',S,h,k⟩:=q;have hj0:j0∈Z:=(kE ho h0).mp Ž;unfold VL at h;obtain⟨j,ef,h⟩:=aa.1 h;have h:(if j.length<=eC then (iW j0 n).bind λxs=>(O' (mJ src n) w u i0 j xs).map λq=>(D.lst q.1,n.set j0 (Y (.lst q.2))) else M)=Y (d,ρ'):=h;split at h
 ·rename_i hz;obtain⟨xs0,el,h⟩:=aa.1 h;obtain⟨⟨rs,ZV⟩,em,h⟩:=au.1 h;cases h;have F:=fH el;obtain⟨a,vs0,e2,_⟩:=S.mr hj0 F;refine⟨G,n,j,S.gh,S.iX,ef,λJ G1 H1 E1 ok =>?_⟩;have S1:=S.ext E1;rw[<- zX F]at S1;refine⟨λi m ys H2=>m=j.length-i/\i<=j.length/\WH K B Z t (λb=>n.set j0 (Y (.lst b))) (λi=>O' (mJ src n) w u i0 (j.drop i)) G1 ZV rs i ys H2,
   ⟨j.length,rfl,cy _,G1,[],xs0,rs,aQ _,S1,bC.refl _,.nil,em,rfl⟩,?_⟩
  rintro i m ys H2 ⟨rfl,YW,G2,l,xs,o,hyl,S2,s2,rx,c,rfl⟩;have sub:bC G1 H2:=s2.trans S2.gh;by_cases C:i<j.length
  ·refine .inr ⟨ok.go i H2 sub C,?_,WH K B Z t (λb=>n.set j0 (Y (.lst b))) (λi=>O' (mJ src n) w u i0 (j.drop i)) G1 ZV (l++o) (i+1),
    λr H' z=>⟨j.length-(i+1),ž,rfl,C,z⟩,λx H3 y =>?_⟩
   ·have:=ia;omega
   ·obtain⟨G3,E3,TR⟩:=ok.NM i H2 x H3 G2 j[i] s2 S2.gh y (ba C);have S3:=S2.ext E3;rw[dX C]at c;unfold O' at c;obtain⟨s,et,c⟩:=aa.1 c;obtain⟨⟨x4,ρ5⟩,ee,c⟩:=aa.1 c;obtain⟨N,X,c⟩:=aa.1 c;obtain⟨⟨P,xsE⟩,R,c⟩:=au.1 c;cases c;have SI:=S3.inner (fl:=λ_ _=>False) ho h0 ⟨_,F⟩ e2;refine hg ⟨G3,De H3 a,[(i0,a)],λ_ _=>False⟩ _ _ _ _ ⟨G3,_,j[i],s,SI,TR,et,λσ4 G4 H4 S4=>⟨G4,s,Z',S4.gh,S4.iX,rfl,λG5 H5 E5=>Aq ?_⟩⟩;refine⟨⟨G3,De H3 a,[(i0,a)],λ_ _=>False⟩,a,rfl,G5,s,x4,ρ5,S4.ext E5,ee,λv G6 H6 S6 s6 r6=>⟨G6,l++[x4],N,P,by simp;omega,?_,?_,?_,R,Ž⟩⟩
    ·obtain⟨SH,hσ⟩:=S6.pin i0 a Ž;obtain⟨b,ws,f2,f3,f4,f5,_⟩:=S6.mr SH (fH X);rw[hσ]at f2;cases f2;have hl:j0<n.length:=(aq.mp F).1;have:=S3.called (xs':=N) hj0 (by rw[a_ hl]) e2 S6.mR f5 f3 f4;rw[List.set_set]at this;exact this
    ·exact s2.trans (E3.gg.trans S6.g0)
    ·exact(bE.mono (E3.gg.trans S6.g0) l rx).append (.cons r6 .nil)
  ·have e:i=j.length:=by omega
   subst e;rw[oZ]at c;unfold O' at c;cases c;refine .inl ⟨ok.stop _ H2 sub (aQ _),λp hp =>?_⟩;have EA:=gc.alloc (p:=p) (o :=.lst ys) S2.gh hp;refine k _ _ _ (S2.ext EA) (E1.gg.trans (s2.trans EA.gg)) ?_;rw[bV];exact cS.mpr ⟨p,ys,rfl,aX,bE.mono EA.gg l rx⟩
 ·cases h
def Wh(S:fP X N src A)(j:X.calm=Z')(e:PI X E L (C8 X.K Z f))(m:NX T g)(a:∀i∈T,src[i]?=Y M)(h:∀(B:Bs) v t H Q,G9 X.K B [i0] w v t H Q->g v t H Q)(k:∀C s H b,PG (X.t_ N A C s H b) E g/\E9 (X.t_ N A C s H b) [] (rG X.K [i0] ic)/\PE (X.t_ N A C s H b) O (Um X.K i0 u))(l:autoParam (src[i0]?=Y (Y j0)) Ų)(d:autoParam (jT Z [i0] src=true) Ű)(c:autoParam (∀x,cI L X.env x=dP x) ů):PE X (.ListComp O [⟨E,L,[],0⟩] A U) (tM X.K B Z (VL f src w u i0 j0)):=
 (Lw S j e m a k c).imp λt H Q q=>Sh d l h q
def sy(K:aT)(i i0:Nat)(b:autoParam (i∉[i0]) Ű):∀(B:Bs) v t H Q,G9 K B [i0] (gN i) v t H Q->oB i v t H Q:=λB v t H Q ⟨G,n,d,a,S,r,c,k⟩=>by
 cases c;exact k _ G H (S.v8 b r)
end
section
variable {X:Cx}
noncomputable def bD(c f:aJ)(g:DF):DF:=λa=>(g a).bind λd=>match d with|.ins h b e=>if h=c then (b.zip e).lookup f else M|_=>M
theorem HI{K:aT}{f:aJ}:∀ {b:List aJ}{g:List D}{a:List V}{d:D},bE K G g a->(b.zip g).lookup f=Y d->∃v,(b.zip a).lookup f=Y v/\cJ K G d v
 |[],g,a,d,r,e=>by simp at e
 |k::b,[],a,d,r,e=>by simp at e
 | k::b,c::g,a,d,r,e=>by
  obtain⟨v,t,rfl,i,l⟩:=bH.mp r;simp only[cb,dw]at e ⊢;cases h:(f==k) with
  |true=>rw[h]at e;cases e;exact⟨v,rfl,i⟩|false=>rw[h]at e;exact HI l e
noncomputable def NO:D->V
 |.bl b =>.bl b|.int i =>.int i|.str x =>.str x|_ =>.dg
def GX{K:aT}{v:V}(h:yH d=Z')(r:cJ K G d v):v=NO d/\rA v=true:=by
 cases d<;>first|(simp[yH]at h;done)|(simp only[cJ]at r;subst r;exact⟨rfl,rfl⟩)
theorem Dm{K:aT}:∀ {b:List D}{a:List V},b.all yH=Z'->bE K G b a->a=b.map NO/\a.all rA=Z'
 |[],a,h,r=>by rw[cP.mp r];exact⟨rfl,rfl⟩
 |d::b,a,h,r=>by rw[pz,aZ]at h;obtain⟨v,t,rfl,c,e⟩:=bH.mp r;obtain⟨k,g⟩:=GX h.1 c;obtain⟨i,f⟩:=Dm h.2 e;exact⟨by rw[k,i];rfl,by rw[pz,g,f];rfl⟩
def UM(b:Bool)(x:D)(a:List D):Option D:=if (yH x&&a.all yH)=Z' then Y (.bl (if b then !QO (NO x) (a.map NO) else QO (NO x) (a.map NO))) else M
def Ab(a:Bool):D->D->Option D
 |x,.lst b=>UM a x b|x,.tup b=>UM a x b|_,_=>M
def Q2{K:aT}(h:rD K (Ab c) x y H Q):Yf K c x y H Q:=by
 obtain⟨G,t,C,d,k,w,u,l,q⟩:=h;have lQ:∀(m:List D) (b:List V),UM c t m=Y d->bE K G m b->rA x=Z'/\b.all rA=Z'/\d=.bl (if c then !QO x b else QO x b):=λm b e r=>by
  unfold UM at e;split at e
  ·rename_i i;rw[aZ]at i;have v:cJ K G t x:=by
    rcases w with z|⟨a,o,_,_,z⟩
    ·exact z
    ·cases t<;>first|exact z.elim|simp[yH]at i
   obtain⟨B,g⟩:=GX i.1 v;obtain⟨A,f⟩:=Dm i.2 r;cases e;exact⟨g,f,by rw[B,A]⟩
  ·cases e
 unfold Ab at l;split at l<;>try (cases l;done)
 ·obtain⟨p,b,rfl,s,n⟩:=u.lst k;obtain⟨g,f,rfl⟩:=lQ _ _ l n;exact⟨p,b,rfl,.inl (.of s),g,f,q _ G H (.refl k) (dB.mpr rfl)⟩
 ·obtain⟨p,b,rfl,s,n⟩:=u.tup k;obtain⟨g,f,rfl⟩:=lQ _ _ l n;exact⟨p,b,rfl,.inr (.of s),g,f,q _ G H (.refl k) (dB.mpr rfl)⟩
def Z8:Az X (gr .In) (Ab Z_):=oW.imp Jk λx y H Q h=>Q2 h
def VA:Az X (gr .NotIn) (Ab Z'):=oW.imp B3 λx y H Q h=>Q2 h
noncomputable def Ml:D->Bool
 |.bl _=>Z'|_=>Z_
noncomputable def vy:D->Bool
 |.bl b=>b|_=>Z_
def gw(b:Bool):List D->Option D
 |[.lst a]=>if a.all Ml=Z' then Y (.bl (if b then a.all vy else a.any vy)) else M
 |_=>M
def TC{K:aT}{f:List ak}(h:a.all Ml=Z')(r:bE K G a l)(m:cg l f){i:Nat}{u:ak}(e:f[i]?=Y u):∃b,u=.bool b/\(a[i]?).map vy=Y b:=by
 have q:i<f.length:=(aq.mp e).1;have d:i<a.length:=by rw[r.length,m.length];exact q
 have k:a[i]?=Y a[i]:=ba d;obtain⟨v,s,c⟩:=r.get k;obtain⟨w,p,g⟩:=m.get s;rw[e]at p;cases p;have o:Ml a[i]=true:=(dU.mp h) _ (List.getElem_mem d);cases n:a[i] with
 |bl b=>rw[n]at c k;have:=dB.mp c;subst this;exact⟨b,g,by rw[k];rfl⟩
 |_=>rw[n]at o;cases o
def J7{ys:List D}{tr:Nat->Bool}(h:∀i,i<ys.length->(ys[i]?).map vy=Y (tr i)):(cv ys.length).all tr=ys.all vy/\(cv ys.length).any tr=ys.any vy:=by
 have:(cv ys.length).map tr=ys.map vy:=by
  apply List.ext_getElem?;intro i;by_cases a:i<ys.length
  ·have:=h i a;rw[aY,aY,List.getElem?_range a,this];rfl
  ·rw[ib (by simpa using a),ib (by simpa using a)]
 constructor
 ·have e:=congrArg (λl=>l.all id) this;simpa [lH] using e
 ·have e:=congrArg (λl=>l.any id) this;simpa [List.any_map] using e
def Bw(l:X.calm=Z')(h:Bool):lS X (.builtin (if h then "all" else "any")) (rC X.K (gw h)):=by
 intro A s P H xs us Q I R ⟨G,ds,d,O,r,t,q⟩;unfold gw at t;split at t
 ·rename_i m;split at t
  ·cases t;rename_i hb;obtain⟨v,rfl,T⟩:=r.one;obtain⟨a,vs,rfl,U,L⟩:=T.lst O;obtain⟨u,rfl,S⟩:=cg.one R;cases S;obtain⟨g,y,J,hz⟩:=I.list (.of U);obtain⟨o,j,hc,n0,hd⟩:=J.isList;have D:a≠s.heap.objs.size:=bI (aI j);have k:g.toArray.size=m.length:=by simp[L.length,y.length]
   let w:Nat->Bool:=λi=>((m[i]?).map vy).getD Z_
   have C:TruthOf X.prog X.w X.A.in1 (λi v=>g.toArray[i]?=Y v) w:=λi v s Q E hP N=>by
    obtain⟨b,rfl,K⟩:=TC hb L y (i:=i) (u:=v) (by simpa using hP);have:w i=b:=by show ((m[i]?).map vy).getD Z_=b;rw[K];rfl
    rw[this]at N;exact gZ N
   have f:=J7 (ys:=m) (tr:=w) λi hi=>by show _=Y (((m[i]?).map vy).getD Z_);rw[ba hi];rfl
   have lQ:∀(b:Bool) (p:cF) (n:Nat),(∀c F,c∉[s.heap.objs.size]->(s.heap.push { cls :=.type "list_iterator",data :=.fields #[.ref a,.int 0 0] }).get? c=Y F->p.get? c=Y F)->b=(if h then m.all vy else m.any vy) ->
     EP X A P Q (.bool b) { s with heap:=p,toks:=n }:=λb p n B K=>
    ⟨.bl b,H,I.kept (t':=n) λc F e=>B c F (λz=>by
     have z:c=s.heap.objs.size:=by simpa using z
     exact absurd (aI e) (by rw[z];exact fg _)) (aj _ e),rfl,by
     rw[K];exact q _ G H (.refl O) (dB.mpr rfl)⟩
   have x:(s.heap.push { cls :=.type "list_iterator",data :=.fields #[.ref a,.int 0 0] }).IsListIter s.heap.objs.size a 0/\(s.heap.push { cls :=.type "list_iterator",data :=.fields #[.ref a,.int 0 0] }).IsList a g.toArray:=
    ⟨⟨_,bz _ rfl,rfl,rfl⟩,⟨o,aj _ j,hc,n0,hd⟩⟩
   cases h with
   |true=>refine call_all_walk (lM J.isList ⟨s.heap.objs.size,_,_,_,_,_,w,rfl,Walks.list (A:=X.A.in1) (I.ok.hd l) _ a D g.toArray,x,C,λp n B =>?_⟩);rw[k,f.1];exact lQ _ p n B rfl
   |false=>refine call_any_walk (lM J.isList ⟨s.heap.objs.size,_,_,_,_,_,w,rfl,Walks.list (A:=X.A.in1) (I.ok.hd l) _ a D g.toArray,x,C,λp n B =>?_⟩);rw[k,f.2];exact lQ _ p n B rfl
  ·cases t
 ·cases t
variable {f:DF}
def Gx(a:X.calm=Z')(d:Gl X "all")(c:X.mg "all" = M)(h:PE X e (tQ X.K Z f))(b:autoParam (ao (e::[]) X.env=(Z_,eval e X.env)::ao [] X.env) Ų):PE X (.Call (.Name "all" p) [e] [] j) (tP X.K Z (bg (gw Z') (aC f aN))):=
 zF (Bw a Z') d c PyProof.Rows.boot_all (zD h Cz b) ſ ſ b rfl
def M8(a:X.calm=Z')(d:Gl X "any")(c:X.mg "any" = M)(h:PE X e (tQ X.K Z f))(b:autoParam (ao (e::[]) X.env=(Z_,eval e X.env)::ao [] X.env) Ų):PE X (.Call (.Name "any" p) [e] [] j) (tP X.K Z (bg (gw Z_) (aC f aN))):=
 zF (Bw a Z_) d c PyProof.Rows.boot_any (zD h Cz b) ſ ſ b rfl
end
section
variable {X:Cx}{f:DF}
end
section
variable {X:Cx}{m:List Nat}{f:DF}
end
def P7{X:Cx}{g:List aJ}{s:av}(k:b.kind=.function)(h:vx a g N d b=Z'):fP (X.t_ g a C s H t) N d b:=by
 unfold vx at h;simp only[aZ,dU,beq_iff_eq,vM]at h;obtain⟨⟨⟨r,q⟩,p⟩,o⟩:=h;refine⟨k,λy e=>r y e,λy e m =>?_,p,λi j x f n =>?_⟩
 ·show (Q3 a X.env).names.lookup y.1=Y .cell\/(Q3 a X.env).names.lookup y.1=Y .free;unfold Q3;rw[oA];rcases q y e with z|z
  ·rw[m]at z;exact absurd z ſ
  ·rcases z with z|z
   ·rw[z];exact .inl Ž
   ·rw[z];simp only[bP];split
    ·exact .inl rfl
    ·exact .inr rfl
 ·have l:i<d.length:=(aq.mp f).1;have:=o i (by simpa using l);rw[f,n]at this;simp only[aZ,beq_iff_eq]at this;exact this
section
variable {X:Cx}{f:DF}
end
noncomputable def SU(i j l:Nat):EO:=λd e=>match d with|.tup [a,b,c]=>Y (((e.set i (Y a)).set j (Y b)).set l (Y c))|_=>M
def Mv{f:cA}(h:SU i j l d f=Y e):∃a b c,d=.tup [a,b,c]/\e=((f.set i (Y a)).set j (Y b)).set l (Y c):=by
 unfold SU at h;split at h
 ·cases h;exact⟨_,_,_,rfl,rfl⟩
 ·cases h
def I'{K:aT}{v:V}(r:cJ K G (.tup [a,b,c]) v):∃p x y z,v=.ref p/\G p=Y (.tup [x,y,z])/\cJ K G a x/\cJ K G b y/\cJ K G c z:=by
 obtain⟨p,j,e,g,i⟩:=eP.mp r;obtain⟨x,n,rfl,h,t⟩:=bH.mp i;obtain⟨y,l,rfl,f,t⟩:=bH.mp t;obtain⟨z,k,rfl,d,t⟩:=bH.mp t;rw[cP.mp t]at g;exact⟨p,x,y,z,e,g,h,f,d⟩
section
variable {X:Cx}{m:List Nat}
def M0{i:Nat}(h:PG X e (SQ X.K 3 (Bk (oB i) (Bk (oB j) (Bk (oB l) SS)))))(u:autoParam (i∉Z) Ű)(t:autoParam (j∉Z) Ű)(s:autoParam (l∉Z) Ű):PG X e (G9 X.K B Z (SU i j l)):=h.imp <|by
 rintro v A H Q ⟨G,C,d,f,S,r,w,k⟩;obtain⟨a,b,c,rfl,rfl⟩:=Mv w;obtain⟨p,x,y,z,rfl,g,q,o,n⟩:=I' r;exact⟨p,_,rfl,.of (S.gh _ _ g),rfl,x,_,rfl,y,_,rfl,z,_,rfl,rfl,k _ G H (((S.v8 u q).v8 t o).v8 s n)⟩
end
end L2
namespace L2
open PySem PyProof.Rows PySem.Spec
section
variable {s:av}
end
end L2
namespace L2
open PySem PySem.Spec PyProof.Rows
noncomputable def vY(c:List Int):List Int:=c.mergeSort (λa b=>decide (a<=b))
def u4(a:List Int):(vY a).Perm a:=List.mergeSort_perm a _
def Fy(ns:List Int):(vY ns).Pairwise (· <= ·):=by
 have:=List.pairwise_mergeSort (le:=λa b:Int=>decide (a<=b)) (λa b c h1 h2=>by simp at *;omega) (λa b=>by simp;omega) ns;exact this.imp λh=>by simpa using h
def Rt(p:a.Perm b)(h:a.Pairwise (· <= ·)):a=vY b:=PySem.W.ksm_same (p.trans (u4 b).symm) h (Fy b)
theorem vn:∀ {b:List Int}{a:List ak},cg (b.map V.int) a->Ff a b
 |[],a,h=>by cases h;exact .nil
 | n::r,a,h=>by
  cases h with
  |cons d c=>obtain⟨t,rfl⟩:=d;exact .cons n t (vn c)
def BG(h:Ff a b):cg (b.map V.int) a:=by
 induction h with|nil=>exact .nil|cons n t _ ih=>exact .cons ⟨t,rfl⟩ ih
section
variable {X:Cx}{f:DF}
noncomputable def Be:List D->Option (List Int)
 |[]=>Y []|.int i::r=>(Be r).map (i :: ·)|_::_=>M
theorem zg:∀ {b:List D}{a:List Int},Be b=Y a->b=a.map D.int
 |[],a,h=>by cases h;rfl
 | d::r,a,h=>by
  cases d<;>simp only[Be]at h<;>try (cases h;done)
  obtain⟨c,e,h⟩:=au.1 h;cases h;rw[zg e];rfl
theorem wb{K:aT}:∀ {b:List Int}{a:List V},bE K G (b.map D.int) a↔a=b.map V.int
 |[],a=>by simp[bE]
 | n::r,a=>by
  simp only[bh,bH,bU];constructor
  ·rintro⟨v,t,rfl,rfl,h⟩;rw[wb.mp h]
  ·rintro rfl;exact⟨_,_,rfl,rfl,wb.mpr rfl⟩
end
section
variable {X:Cx}{m:List Nat}
end
section
variable {X:Cx}{m:List Nat}
end
end L2
namespace L2
open PySem
section
variable {X:Cx}
def vP(i:Nat)(f:autoParam (X.N[i]?=Y x) Ų)(c:autoParam (TK X.env.scope x) Ŷ)(e:autoParam ((x==("__debug__" : aJ))=false) Ű)(b:autoParam ((x==("__classdict__" : aJ))=false) Ű)(d:autoParam (i∉Z) Ű):PE X (.Name x a) (tP X.K Z (eV i)):=dv (pv i f c e b) d
def vQ(i:Nat)(f:autoParam (X.N[i]?=Y x) Ų)(c:autoParam (TK X.env.scope x) Ŷ)(e:autoParam ((x==("__debug__" : aJ))=false) Ű)(b:autoParam ((x==("__classdict__" : aJ))=false) Ű)(d:autoParam (i∉Z) Ű):PE X (.Name x a) (tQ X.K Z (eV i)):=dq (vP i f c e b d)
end
end L2
namespace L2
open PySem PySem.Spec PyProof.Rows
section
variable [DecidableEq G]
noncomputable def tJ(fM:List (G×V))(k:G):Option V:=(fM.find? λa=>decide (a.1=k)).map (·.2)
noncomputable def wW(fM:List (G×V))(k:G)(v:V):List (G×V):=
 if (fM.any λa=>decide (a.1=k))=Z' then fM.map (λa=>if a.1=k then (a.1,v) else a) else fM++[(k,v)]
def uU{p:G×V}(e:p.1=k):tJ (p::r) k=Y p.2:=by simp[tJ,jV,e]
def rX{p:G×V}(e:¬p.1=k):tJ (p::r) k=tJ r k:=by simp[tJ,jV,e]
theorem Dl(k:G):∀fM:List (G×V),(fM.any λa=>decide (a.1=k))=(tJ fM k).isSome
 |[]=>rfl| p::r=>by
  rw[px];by_cases e:p.1=k
  ·simp only[uU e,decide_eq_true e,Bool.true_or,Option.isSome_some]
  ·rw[rX e,decide_eq_false e,Bool.false_or];exact Dl k r
def xh(fM:List (G×V))(k:G)(v:V):(wW fM k v).length<=fM.length+1:=by
 unfold wW;split
 ·rw[aw];omega
 ·rw[aS,aU,jU];omega
def pH.wt(r:pH o u):o.isSome=u.isSome:=by
 cases o with
 | none=>cases u with
  |none=>rfl|some _=>exact(show False from r).elim
 | some _=>cases u with
  |none=>exact(show False from r).elim
  |some _=>rfl
def pH.getD{u:Option ak}(r:pH o u)(b:RelV d a):RelV (o.getD d) (u.getD a):=by
 cases o with
 | none=>cases u with
  |none=>exact b|some _=>exact(show False from r).elim
 | some _=>cases u with
  |none=>exact(show False from r).elim
  |some _=>exact r
def KV.val{f:List (G×ak)}(r:KV fM f)(k:G):pH (tJ fM k) (Ka f k):=by
 unfold KV at r
 induction r with
 |nil=>exact gB|@cons p q l a h t ih=>
  obtain⟨g,i⟩:=h;by_cases e:p.1=k
  ·have d:q.1=k:=g.symm.trans e;have b:Ka (q::a) k=Y q.2:=by simp[Ka,jV,d]
   rw[uU e,b];exact i
  ·have d:¬q.1=k:=λz=>e (g.trans z)
   have b:Ka (q::a) k=Ka a k:=by simp[Ka,jV,d]
   rw[rX e,b];exact ih
def KV.any(r:KV fM b)(k:G):(fM.any λa=>decide (a.1=k))=b.any λa=>decide (a.1=k):=by
 unfold KV at r
 induction r with|nil=>rfl|cons h t ih=>rw[px,px,ih,h.1]
theorem KV.RD(r:KV fM d)(k:G)(f:RelV y u):
  KV (fM.map λa=>if a.1=k then (a.1,y) else a) (d.map λa=>if a.1=k then (a.1,u) else a):=by
 unfold KV at r ⊢
 induction r with
 |nil=>exact .nil|@cons p q l i h t ih=>
  rw[bh,bh];refine .cons ?_ ih;obtain⟨b,g⟩:=h;by_cases e:p.1=k
  ·rw[if_pos e,if_pos (b.symm.trans e)];exact⟨b,f⟩
  ·rw[if_neg e,if_neg (λz=>e (b.trans z))];exact⟨b,g⟩
def KV.put(r:KV fM a)(k:G){u:ak}(b:RelV y u):KV (wW fM k y) (stored a k u):=by
 unfold wW stored;rw[r.any k];by_cases e:(a.any λd=>decide (d.1=k))=Z'
 ·rw[if_pos e,if_pos e];exact r.RD k b
 ·rw[if_neg e,if_neg e];exact Paired.snoc r ⟨rfl,b⟩
def KV.length{a:List (G×ak)}(r:KV fM a):fM.length=a.length:=Paired.length r
end
def Ek{P:br}{k:lL}(r:RelV (kV k) u):(hV P w).is k u=true:=by
 cases k with
 |inl i=>obtain⟨t,e⟩:=(show ∃t,u=jn i t from r);subst e;exact D_ P w i t
 |inr x=>obtain⟨t,e⟩:=(show ∃t,u=NG x t from r);subst e;exact D9 P w x t
theorem Bd{P:br}:∀ {a:List lL}{b:List ak},cg (a.map kV) b->ItemsAre (hV P w) a b
 |[],_,r=>by rw[C3]at r;cases r;exact .nil
 | k::a,_,r=>by
  rw[bh]at r;cases r with
  |cons h t=>exact .cons (Ek h) (Bd t)
abbrev KT(H:Hp):List (List lL×V)->List (List lL×ax×ak)->Prop:=Paired λp q=>p.1=q.1/\H q.2.1=Y (.tup (p.1.map kV))/\RelV p.2 q.2.2
def KT.val{f:List (List lL×ax×ak)}(r:KT H fM f)(k:List lL):pH (tJ fM k) ((Ua f k).map (·.2)):=by
 induction r with
 |nil=>exact gB|@cons p q l a h t ih=>
  obtain⟨g,_,i⟩:=h;by_cases e:p.1=k
  ·have d:q.1=k:=g.symm.trans e;have b:Ua (q::a) k=Y q.2:=by simp[Ua,jV,d]
   rw[uU e,b];exact i
  ·have d:¬q.1=k:=λz=>e (g.trans z)
   have b:Ua (q::a) k=Ua a k:=by simp[Ua,jV,d]
   rw[rX e,b];exact ih
theorem KT.RD(r:KT H fM d)(k:List lL)(g:RelV y u):
  KT H (fM.map λb=>if b.1=k then (b.1,y) else b) (d.map (putAt k u)):=by
 induction r with
 |nil=>exact .nil|@cons p q o l h t ih=>
  rw[bh,bh];refine .cons ?_ ih;obtain⟨a,f,i⟩:=h;unfold putAt;by_cases e:p.1=k
  ·rw[if_pos e,if_pos (a.symm.trans e)];exact⟨a,f,g⟩
  ·rw[if_neg e,if_neg (λz=>e (a.trans z))];exact⟨a,f,i⟩
def KT.put(r:KT H fM a)(k:List lL){u:ak}(g:H b=Y (.tup (k.map kV)))(d:RelV y u):
  KT H (wW fM k y) (storedH a k b u):=by
 have e:(fM.any λf=>decide (f.1=k))=(Ua a k).isSome:=by rw[Dl,(r.val k).wt,Option.isSome_map]
 unfold wW storedH;rw[e];by_cases q:(Ua a k).isSome=Z'
 ·rw[if_pos q,if_pos q];exact r.RD k d
 ·rw[if_neg q,if_neg q];exact Paired.snoc r ⟨rfl,g,d⟩
def KT.keeps(r:KT H fM d)(f:∀b a,H b=Y (.tup a)->e b=Y (.tup a)):KT e fM d:=
 Paired.VJ r λ_ _ z=>⟨z.1,f _ _ z.2.1,z.2.2⟩
section
variable {P:br}
def Lh(b:nS P w H h)(e:Rd H a u):e_ P w H h a u:=e.ok b
def Bq(d:nS P w H h)(e:Rd H a (.dK fM)):fM.length<=bc/\(a==kI)=Z_/\∃b,KV fM b/\h.DictOf (hV P w) a b:=
 show e_ P w H h a (.dK fM) from Lh d e
def Wi(d:nS P w H h)(e:H a=Y (.dK fM)):fM.length<=bc/\(a==kI)=Z_/\∃b,KV fM b/\h.DictOf (hV P w) a b:=Bq d (.inl e)
def za(f:nS P w H h)(e:H a=Y (.tup (b.map kV))):(Dg (hV P w)).is h b a:=by
 obtain⟨_,d,r,o,k,i,n,g⟩:=(show e_ P w H h a (.tup (b.map kV)) from f a _ e);exact⟨o,d.toArray,n,k,i,g,by simpa using Bd r⟩
def Bm(g:nS P w H h)(e:Rd H a (.dT fM)):fM.length<=bc/\(a==kI)=Z_ /\
  ∃d,KT H fM d/\h.DictOfH (Dg (hV P w)) a d:=by
 obtain⟨z,y,d,r,o,D,E,A,v,u,s,k⟩:=(show e_ P w H h a (.dT fM) from Lh g e);refine⟨z,y,d,r,o,D,E,A,v,u,s,λx b =>?_,k⟩;have f:∀ {l:List (List lL×V)}{m:List (List lL×ax×ak)},KT H l m->∀x∈m,(Dg (hV P w)).is h x.1 x.2.1:=by
  intro l m q
  induction q with
  |nil=>intro x b;exact nomatch b
  |@cons p q I F i t ih=>
   intro x b;rcases aW.mp b with e|b
   ·subst e;exact za g (by rw[<- i.1];exact i.2.1)
   ·exact ih x b
 exact f r x b
def Wb(d:nS P w H h)(e:H a=Y (.dT fM)):fM.length<=bc/\(a==kI)=Z_ /\
  ∃b,KT H fM b/\h.DictOfH (Dg (hV P w)) a b:=Bm d (.inl e)
end
def xI(H:Hp)(a:ax)(y:V)(r:Option V):Prop:=
 (∃fM k,Rd H a (.dK fM)/\y=kV k/\r=tJ fM k)\/∃fM k b,Rd H a (.dT fM)/\y=.ref b/\H b=Y (.tup (k.map kV))/\r=tJ fM k
def Nt(H:Hp)(a:ax)(y v:V)(d:Hp):Prop:=
 (∃fM k,H a=Y (.dK fM)/\y=kV k/\fM.length<bc/\d=cx H a (.dK (wW fM k v))) \/
 ∃fM k b,H a=Y (.dT fM)/\y=.ref b/\H b=Y (.tup (k.map kV))/\fM.length<bc/\d=cx H a (.dT (wW fM k v))
def xI.k{a:ax}{k:lL}(e:H a=Y (.dK fM)):xI H a (kV k) (tJ fM k) :=.inl ⟨fM,k,.inl e,rfl,rfl⟩
def Nt.k{a:ax}{k:lL}{v:V}(e:H a=Y (.dK fM))(b:fM.length<bc):Nt H a (kV k) v (cx H a (.dK (wW fM k v))) :=.inl ⟨fM,k,e,rfl,b,rfl⟩
section
variable {X:Cx}{s:av}{v:V}
def Inv.Zx(I:Inv X C B H s):kI<s.heap.objs.size:=by
 have h:aP<s.heap.objs.size:=(I.mod.glob.keeps I.bk).lt;exact Nat.lt_trans ſ h
def JT(F:A.units+1<rP)(I:Inv X C B H s)(g:xI H a y (Y v))(w:RelV y u)(h:∀i t,Inv X C B H t->RelV v i->Q i t):
  bq (aV X.prog X.w) A (Kb (.ref a) u) Q E s:=by
 rcases g with⟨fM,k,e,q,l⟩|⟨fM,k,b,e,q,P,l⟩
 ·subst q;obtain⟨z,c,D,f,r⟩:=Bq I.eR e;obtain⟨i,hw,d⟩:=pH.some_of (v:=v) (o:=Ka D k) (by rw[l];exact f.val k);exact wpAny_getItem_of (Ek w) r.mapOf hw (h i _ (I.tok _) d)
 ·subst q;cases (show u=aD b from w);obtain⟨z,c,x,f,r⟩:=Bm I.eR e;obtain⟨i,hw,d⟩:=pH.some_of (v:=v) (o:=(Ua x k).map (·.2)) (by rw[l];exact f.val k);obtain⟨p,K,o⟩:=au.mp hw;refine wpAny_getItem_heap (uN F) (za I.eR P) r K ?_;rw[o];exact h i _ (I.tok _) d
def PM(v:A.units+1<rP)(I:Inv X C B H s)(g:xI H a y o)(t:RelV y u)(h:∀r,Inv X C B H r->Q (.bool (!o.isSome)) r):
  bq (aV X.prog X.w) A (gr .NotIn u (.ref a)) Q E s:=by
 rcases g with⟨fM,k,e,i,l⟩|⟨fM,k,b,e,i,w,l⟩
 ·subst i;obtain⟨z,f,D,d,p⟩:=Bq I.eR e;refine wpAny_notIn_of (Ek t) f p.mapOf ?_;rw[<- (d.val k).wt,<- l];exact h _ (I.tok _)
 ·subst i;cases (show u=aD b from t);obtain⟨z,f,x,d,p⟩:=Bm I.eR e;refine wpAny_notIn_heap (uN v) (za I.eR w) f p ?_;have q:=(d.val k).wt;rw[Option.isSome_map]at q;rw[<- q,<- l];exact h _ (I.tok _)
def H0{t':Nat}{e:HO}(I:Inv X C B H s)(g:WE (H a))(h:fK a s.heap d)(i:∃q,d.get? a=Y q)(f:e_ X.prog X.w (cx H a e) d a e):
  Inv X C B (cx H a e) { s with heap:=d,toks:=t' }:=
 I.write (x:=a) (e:=a) g (.inl rfl) (λb q k z=>(h.2 b k).trans z) i f
def Tf{P:br}(z:fM.length<=bc)(f:(a==kI)=Z_)(d:KV fM b)(g:e.DictOf (hV P w) a b):
  e_ P w h e a (.dK fM):=⟨z,f,b,d,g⟩
def JS(hu:A.units+1<rP)(I:Inv X C B H s)(g:Nt H a y v H')(j:RelV y u)(P:RelV v r)(h:∀K,Inv X C B H' K->Q () K):
  bq (aV X.prog X.w) A (setItem (.ref a) u r) Q E s:=by
 rcases g with⟨fM,k,e,x,l,D⟩|⟨fM,k,b,e,x,eb,l,D⟩
 ·subst x D;obtain⟨z,w,vs,d,F⟩:=Wi I.eR e;have o:vs.length<=bc:=by rw[<- d.length];exact z
  have t:(wW fM k v).length<=bc:=by have:=xh fM k v;omega
  refine wpAny_setItem_pairs (hsz:=o) (Ek j) F λR f p=>h _ ?_
  have he:∃q,R.get? a=Y q:=let ⟨q,_,_,i,_⟩:=f;⟨q,i⟩;exact H0 I (by rw[e];exact gB) p he (Tf t w (d.put k P) f)
 ·subst x D;cases (show u=aD b from j);obtain⟨z,w,xs,d,F⟩:=Wb I.eR e;have o:xs.length<=bc:=by rw[<- Paired.length d];exact z
  have t:(wW fM k v).length<=bc:=by have:=xh fM k v;omega
  refine wpAny_setItem_heap (hsz:=o) (uN hu) (za I.eR eb) F λR f p=>h _ ?_
  obtain⟨q,es,ep,i,h2,h3,h4,_,h5⟩:=f;refine H0 I (by rw[e];exact gB) p ⟨q,i⟩ ⟨t,w,_,(d.put k eb P).keeps λc ys S =>?_,q,es,ep,i,h2,h3,h4,h5⟩;rw[aM (VD S e (λz=>nomatch z))];exact S
end
section
variable {X:Cx}{s:av}
end
def TN(i:Expr):Prop:=∀a b,NY i Z_ a b=operate [a,b] (Kb a b)
def Og{s:av}(y:typeLookup (.type a) "__getitem__" = dP (Y (.builtin u)))(v:TN d)(h:bq (aV b w) A (eval T l) (λo k=>bq (aV b w) A (eval d l) (λi e=>e.TypeIs o a/\bq (aV b w) A (Kb o i) Q E e) E k) E s):
  bq (aV b w) A (eval (.Subscript T d N) l) Q E s:=by
 refine Subscript_ (dJ h (λo k q=>dJ q (λi e f =>?_) λ_ _ x=>x) λ_ _ x=>x);obtain⟨t,f⟩:=f;unfold subscriptTail;refine ah ?_;rw[getitemInPython_of_ne t.not_modules];refine ah (wpAny_specialOf t y ?_);have lQ:bq (aV b w) A (NY d Z_ o i) (λr g=>bq (aV b w) A (letTemporaryGo T o r >>= λ_=>dP r) Q E g) E e:=by rw[v o i];exact wpAny_operating (dJ f (λr g p=>ah (wpAny_letTemporaryGo (aE p))) λ_ _ x=>x)
 first
  |exact aE (ah lQ)
  |exact ah (aE (ah lQ))
  |exact ah lQ
def Et{X:Cx}{s:av}(I:Inv X C B H s)(g:xI H a y o):s.TypeIs (.ref a) "dict" :=by
 rcases g with⟨fM,k,e,_,_⟩|⟨fM,k,b,e,_,_,_⟩
 ·obtain⟨_,_,h,_,d⟩:=Bq I.eR e;exact d.typeIs
 ·obtain⟨_,_,f,_,d⟩:=Bm I.eR e;exact d.typeIs
def U8(J L:TE):TE:=λB H Q=>J B H λx d=>L B d λy b=>∃a v,x=.ref a/\xI b a y (Y v)/\Q v b
def Of(L J:TE):TE:=λB H Q=>L B H λy d=>J B d λx b=>∃a o,x=.ref a/\xI b a y o/\Q (.bl (!o.isSome)) b
def Vi(J L U:TE):TS:=λD B H=>U B H λv f=>J B f λx e=>L B e λy d=>∃a b,x=.ref a/\Nt d a y v b/\D.nx B b
section
variable {X:Cx}{m:Pos}
def OP(q:X.A.units+1<rP)(t:PE X o J)(w:PE X i L)(r:TN i):PE X (.Subscript o i N) (U8 J L):=by
 intro C s B H Q I h;refine Og PySem.F.slot_dict_getitem.lookup r (fw (t C s B H _ I h) ?_);rintro u e ⟨x,F,D,k,p⟩;refine fw (w C e B F _ D p) ?_;rintro R P ⟨y,E,d,f,a,v,z,g,l⟩;subst z;obtain rfl:u=aD a:=k;exact⟨Et d g,JT q d g f λK c A b=>⟨v,E,A,b,l⟩⟩
def Jh(p:X.A.units+1<rP)(r:PE X i L)(q:PE X o J):PC X .NotIn i o (Of L J):=by
 intro C s B H Q I h;refine fw (r C s B H _ I h) ?_;rintro K b ⟨y,D,z,d,k⟩;refine fw (q C b B D _ z k) ?_;rintro u F ⟨x,A,w,e,a,l,t,g,f⟩;subst t;obtain rfl:u=aD a:=e;exact PM p w g d λE v=>⟨.bl (!l.isSome),A,v,rfl,f⟩
def OI(w:X.A.units+1<rP)(A:PE X o J)(E:PE X i L)(t:PE X T U)(z:cj T (Y (.Subscript o i j)) N.line X.env=dP Z_):
  PS X (.Assign [.Subscript o i j] T N) (Vi J L U):=by
 intro C s B H D I h;refine wpAny_Assign_Subscript (fw (t C s B H _ I h) ?_) z;rintro r d ⟨v,H1,Q,k,q⟩;refine fw (A C d B H1 _ Q q) ?_;rintro u b ⟨x,S,P,f,p⟩;refine fw (E C b B S _ P p) ?_;rintro iv s3 ⟨y,H3,c,e,a,R,F,g,l⟩;subst F;obtain rfl:u=aD a:=f;exact JS w c g e k λs4 K=>⟨B,R,K,l⟩
end
def MZ{P:br}{w:cY}(h:cF)(a:kI<h.objs.size):e_ P w H (h.push { cls :=.type "dict",data :=.dict #[] }) h.objs.size (.dK []):=
 ⟨cy _,beq_eq_false_iff_ne.mpr (bF (bI a)),[],.nil,Heap.DictOf.new h⟩
def Rp:TE:=λ_ H Q=>∀p,H p=M->Q (.ref p) (cx H p (.dK []))
section
variable {X:Cx}
def Ly:PE X (.Dict [] [] N) Rp:=λC s B H Q I h=>
 wpAny_Dict_empty ⟨.ref s.heap.objs.size,_,I.laid (a:=s.heap.objs.size) (o :=.dK []) (t':=s.toks) (λ_ _ q=>aj _ q) (aQ _) (MZ s.heap I.Zx),rfl,h _ (I.eR.fresh (aQ _))⟩
end
structure M2(X:Cx)(o:Expr)(m:aJ)(z0:Pos)(e f:Expr)(wF:Pos):Prop where
 base:b_ o m X.env (eval o X.env)=eval o X.env
 V8:((cn wF (ao [e,f] X.env)).all (λx=> !x.1)&&(gG wF (dh [] X.env)).all (λx=>x.1.isSome)
  && decide (([e,f]:List Expr).length+([]:List nV).length+(if ([]:List nV).isEmpty then 0 else 1)<30))=true
 line:(z0.endLine==wF.line)=true
 trees:cn wF (ao [e,f] X.env)=[(false,eval e X.env),(false,eval f X.env)]
def IsD(H:Hp)(a:ax):Prop:=(∃fM,Rd H a (.dK fM))\/∃fM,Rd H a (.dT fM)
def Sw{X:Cx}{s:av}(I:Inv X C B H s)(d:IsD H a):
  s.TypeIs (.ref a) "dict" /\(∀b,aD a=.ref b->∃f,s.heap.get? b=Y f/\f.dict=M)/\(a==kI)=false:=by
 rcases d with⟨fM,e⟩|⟨fM,e⟩
 ·obtain⟨_,h,o,_,g⟩:=Bq I.eR e;refine⟨g.typeIs,λb q =>?_,h⟩;cases q;obtain⟨f,_,_,k,i,_⟩:=g;exact⟨f,k,i.2.1⟩
 ·obtain⟨_,h,l,_,g⟩:=Bm I.eR e;refine⟨g.typeIs,λb q =>?_,h⟩;cases q;obtain⟨f,_,_,k,i,_⟩:=g;exact⟨f,k,i.2.1⟩
section
variable {X:Cx}{s:av}
def Ts(F:A.units+1<rP)(I:Inv X C B H s)(g:xI H a y o)(w:RelV y u)(x:RelV d r)(h:∀t v,Inv X C B H v->RelV (o.getD d) t->Q t v):
  bq (aV X.prog X.w) A (GP (.builtin "dict.get") [.ref a,u,r]) Q E s:=by
 rcases g with⟨fM,k,e,q,l⟩|⟨fM,k,b,e,q,K,l⟩
 ·subst q;obtain⟨z,p,c,f,i⟩:=Bq I.eR e;refine call_meetsIn PySem.F.slot_dict_get i.typeIs PySem.F.entry_dict_get (PySem.F.args_dict_get_3 _ _ _) (meets_dict_get_default (hV X.prog X.w) a (Ek w) p r) ⟨_,i.mapOf,h _ _ (I.tok _) ?_⟩;rw[l];exact(f.val k).getD x
 ·subst q;cases (show u=aD b from w);obtain⟨z,p,D,f,i⟩:=Bm I.eR e;refine call_meetsIn PySem.F.slot_dict_get i.typeIs PySem.F.entry_dict_get (PySem.F.args_dict_get_3 _ _ _) (meetsH_dict_get_default (Dg (hV X.prog X.w)) a b p r) ⟨uN F,k,D,za I.eR K,i,h _ _ (I.tok _) ?_⟩;rw[l];exact(f.val k).getD x
end
def Rq(J L c:TE):TE:=λB H Q=>J B H λx d=>∃a,x=.ref a/\IsD d a/\L B d λy e=>c B e λz b=>∃o,xI b a y o/\Q (o.getD z) b
section
variable {X:Cx}{f:Expr}
def Lz(E:X.A.units+1<rP)(F:PE X o J)(j:PE X e L)(K:PE X f c)(m:M2 X o "get" n e f O):PE X (.Call (.Attribute o "get" n) [e,f] [] O) (Rq J L c):=by
 intro C s B H Q I h;refine wpAny_Call_method m.base m.V8 m.line PySem.F.plainAttrs_dict PySem.F.slot_dict_get PySem.F.type_dict_get (fw (F C s B H _ I h) ?_);rintro u q ⟨x,H1,i,v,a,P,d,D⟩;subst P;obtain rfl:u=aD a:=v;obtain⟨l,k,_⟩:=Sw i d;refine⟨l,k,?_⟩;rw[m.trees];refine z_ rfl (Calls.evalArgs_plain (GV (fw (j C q B H1 _ i D) λiv p ⟨y,H2,I2,t,A⟩=>GV (fw (K C p B H2 _ I2 A) λfv s3 ⟨z,H3,S,r,ov,g,w⟩=>Calls.spliced_nil ?_))))
 exact Ts E S g t r λw' s4 R b=>⟨_,H3,R,b,w⟩
end
section
variable {X:Cx}{s:av}
end
section
variable {X:Cx}{s:av}
end
abbrev sS(K:aT)(c f:aJ):Prop:=∀C,iy K aP c=Y (Y (.ref C))->ER K C/\qU K C f
theorem Hn{K:aT}{f:aJ}{d:D}{v:V}(m:cJ K G d v):∀ {a:List aJ}{g:List D}{h:List V},a.length=g.length->bE K G g h->∃b,lr f v (a.zip h)=(iQ f d a g).1.zip b/\(iQ f d a g).1.length=(iQ f d a g).2.length/\bE K G (iQ f d a g).2 b
 |[],[],h,c,r=>by rw[cP.mp r];exact⟨[v],rfl,rfl,.cons m .nil⟩
 |[],x::g,h,c,r=>by simp at c
 |k::a,[],h,c,r=>by simp at c
 | k::a,x::g,h,c,r=>by
  obtain⟨u,i,rfl,o,n⟩:=bH.mp r;simp only[aU,NI]at c;unfold iQ;rw[cb,show lr f v ((k,u)::a.zip i)=(if k=f then (k,v)::a.zip i else (k,u)::lr f v (a.zip i)) from rfl];by_cases j:k=f
  ·rw[if_pos j,if_pos j];exact⟨v::i,rfl,by simp[c],.cons m n⟩
  ·rw[if_neg j,if_neg j];obtain⟨b,e,l,q⟩:=Hn m c n;exact⟨u::b,by rw[cb,e],by simp[l],.cons o q⟩
def uS{a:List d}(h:a.length=b.length):(a.zip b).length=a.length:=by simp[h]
theorem kP{K:aT}{G:Hp}{f:aJ}:∀ {a:List aJ}{b:List V},f∉a->(a.zip b).lookup f=M
 |[],b,h=>by simp
 |k::a,[],h=>by simp
 |k::a,v::b,h=>by simp only[aW,not_or]at h;rw[cb,dw,beq_eq_false_iff_ne.mpr h.1];exact kP (K:=K) (G:=G) h.2
section
variable {X:Cx}
def Xz{c f:aJ}(h:PE X e (tQ X.K Z g))(p:sS X.K c f)(x:autoParam (b_ e f X.env (eval e X.env)=eval e X.env) Ų):
  PE X (.Attribute e f I) (tP X.K Z (bD c f g)):=(so h x).imp <|by
 rintro F H Q ⟨G,m,d,z,j,b,k⟩;unfold bD at b;rw[aa]at b;obtain⟨o,l,b⟩:=b;refine⟨G,m,o,z,j,l,λv E D q w =>?_⟩;cases o<;>simp only[ae]at b<;>try (cases b;done)
 split at b
 ·rename_i i;subst i;obtain⟨a,C,B,K,rfl,y,n,_,t⟩:=w.YC q.gh;obtain⟨u,A,r⟩:=HI t b;exact⟨a,C,B,_,u,rfl,y,(p C n).1,(p C n).2,A,k u E D q r⟩
 ·cases b
end
section
variable {X:Cx}{s:List Nat}
noncomputable def FH:DG:=λ_=>M
def Wd:PS X a (iC X.K B s Z own1 FH):=Lq.imp <|by rintro D c H ⟨G,d,o,S,b,k⟩;cases b
def Bh(c:aJ)(i:Nat)(a:cA):Option (List aJ×List D):=(eV i a).bind λd=>match d with|.ins f b e=>if f=c then Y (b,e) else M|_=>M
def Gd{e:List D}(h:Bh c i a=Y (b,e)):a[i]?=Y (Y (.ins c b e)):=by
 unfold Bh at h;obtain⟨d,g,h⟩:=aa.1 h;have:=iN g;cases d<;>simp only[ae]at h<;>try (cases h;done)
 split at h
 ·rename_i f;cases h;subst f;exact this
 ·cases h
def SR.Yl{K:aT}{G:Hp}{d:List aJ}{f:List D}(S:SR K B Z G H g j)(k:i∈Z)(h:j[i]?=Y (Y (.ins c d f))):
  ∃a C e b,g[i]?=Y (Y (.ref a))/\H a=Y (.ins C e (d.zip b))/\iy K aP c=Y (Y (.ref C))/\d.length=f.length/\bE K G f b/\G a=M/\B.2 a=none:=by
 obtain⟨a,q,p,o,⟨C,e,b,rfl,n,l,r⟩,m⟩:=S.LC k h rfl;exact⟨a,C,e,b,p,o,n,l,r,m⟩
def lq(i:Nat)(c f:aJ)(b:DF):DG:=λa=>(b a).bind λd=>(Bh c i a).bind λq=>if q.1.length<999 then Y (.nx (a.set i (Y (.ins c (iQ f d q.1 q.2).1 (iQ f d q.1 q.2).2)))) else M
def Zg{i:Nat}{c f:aJ}{w:DF}(h:PE X (.Name x p) (iB i))(P:PE X e (tP X.K Z w))(u:sS X.K c f)(q:autoParam (i∈Z) Ű)(N:autoParam (cj e (Y (.Attribute (.Name x p) f T)) I.line X.env=dP false) Ų):
  PS X (.Assign [.Attribute (.Name x p) f T] e I) (iC X.K B s Z Z (lq i c f w)):=(B1 h P N).imp <|by
 rintro D σ H ⟨G,m,o,S,b,k⟩;unfold lq at b;obtain⟨d,R,b⟩:=aa.1 b;rcases j:Bh c i m with _|⟨ks,ds⟩
 ·simp[j]at b
 simp only[j,ae]at b;split at b
 ·cases b;rename_i hz;have t:=Gd j;refine⟨G,m,d,S.gh,S.iX,R,λv G' H' E r =>?_⟩;have F:=S.ext E;obtain⟨a,C,A,vs,z,e3,n,l,y,e5,e6⟩:=F.Yl q t;obtain⟨g,Q,J,K⟩:=Hn (f:=f) r l y;refine⟨_,z,a,C,A,_,rfl,e3,(u C n).1,(u C n).2,?_,?_⟩
  ·rw[uS (by rw[l,y.length])];omega
  ·rw[Q];exact k _ G' _ (F.VG q t z ⟨C,A,g,rfl,n,J,K⟩)
 ·cases b
abbrev Oy(a:Int->Int->Int):V->V->Hp->VK->Prop:=λx y H Q=>∃i j,x=.int i/\y=.int j/\Q (.int (a i j)) H
noncomputable def eS(f:DM):DG:=λa=>(f a).map λq =>.nx q.2
def MX{f:DM}(i:PE X e (tM X.K B Z f))(h:autoParam (cj e M I.line X.env=dP false) Ų):PS X (.Expr e I) (iC X.K B s Z Z (eS f)):=(mf i h).imp <|by
 rintro D c H ⟨G,g,o,S,a,k⟩;unfold eS at a;obtain⟨⟨d,b⟩,j,a⟩:=au.1 a;cases a;exact⟨G,g,d,b,S,j,λv n m l _ r=>k c n m l⟩
end
inductive Ru (K:aT) (p:Nat) (F:List D->Option (D×D)) (f:List V) (H:Hp) (Q:VK) (_x:XK):Prop
 |mk G b d j a o c:bC G H->b[p]?=some c->f[p]?=some (.ref a)->H a=some o->jd K G c o->G a=none->(∀(i:Nat) c,i≠p->b[i]?=some c->∃v,f[i]?=some v/\cJ K G c v)->b.length=f.length->F b=some (d,j)->(∀v h e g,gc G (De H a) e g->e a=none->g a=some h->jd K e j h->cJ K e d v->Q v g)->Ru K p F f H Q _x
def Yn(p:Nat):DO->Option (D×D)
 |.rm d a=>(eV p a).bind λc=>if vm c=Z' then Y (d,c) else M
 |.nx a=>(eV p a).bind λc=>if vm c=Z' then Y (.dg,c) else M
 |_=>M
def runC(n N p:Nat)(g:DG)(a:List D):Option (D×D):=if a.length=n then (g (ie N a)).bind (Yn p) else M
section
variable {P:br}{K:aT}
def gY.okC{R:pK}{f:ax}(F:gY K x l R f fd)(S:bB N ps (aA R))(p:Nat){Z Ź:List Nat}{g:DG}(hp:p∈Z)(SJ:∀i∈Z,i=p\/ps.length<=i) (hb:∀(t:ak) (A:gI) (j:List Env) (s:av) (H:Hp) (E:XK),eH k (A.deeper (qu l (aA R) s.heap.objs.size f t))->∀(B:Bs) (a:ax),B.3=[(p,a)] ->
   oV (qS gK P w K O U N l (aA R) f t A j s H E).Ht (gx R) (iC K B [] Z Ź g)):bZ P w K O U gK (k+1) f fd ps (Ru K p (runC ps.length N.length p g)):=by
 refine F.ok S (λvs H Q E h =>?_) (λt A j s H vs Q E hr h =>?_)
 ·obtain⟨G,ds,d,c',a,o,c,gh,hd,hv,ha,r,ga,ro,hl,e,_⟩:=h;unfold runC at e;split at e
  ·rw[<- hl];assumption
  ·cases e
 ·obtain⟨G,ds,d,c',a,o,c,gh,hd,hv,ha,r,ga,ro,hl,e,q⟩:=h;unfold runC at e;split at e
  ·rename_i hn;refine⟨_,hb t A j s H E hr ⟨G,De H a,[(p,a)],λ_ _=>False⟩ a rfl,?_⟩;obtain⟨oo,eg,e⟩:=aa.1 e;have lQ:∀ {σ:St}{m:cA}{C n:Hp}{o':List Nat}{y:D},SR K ⟨G,De H a,[(p,a)],λ_ _=>False⟩ o' C n σ m->eV p m=Y y->vm y=Z'->∃u,n a=Y u/\jd K C y u/\C a=none:=fun {σ m C n o' y} z el X=>by obtain⟨SH,hσ⟩:=z.pin p a Ž;obtain⟨b,u,f2,f3,f4,f5,_⟩:=z.LC SH (iN el) X;rw[hσ]at f2;cases f2;exact⟨u,f3,f4,f5⟩
   refine⟨G,_,oo,AR gh hp hd hv ha r ga ro hl (by rw[hn];exact SJ),eg,?_⟩;cases oo with
   |rm d' m=>
    have e:((eV p m).bind λc=>if vm c=Z' then Y (d',c) else M)=Y (d,c'):=e;obtain⟨y,el,e⟩:=aa.1 e;split at e
    ·rename_i X;cases e;intro v σ C n ⟨o',z⟩ rv;obtain⟨u,f3,f4,f5⟩:=lQ z el X;exact q v u C n z.mR f5 f3 f4 rv
    ·cases e
   |nx m=>
    have e:((eV p m).bind λc=>if vm c=Z' then Y (D.dg,c) else M)=Y (d,c'):=e;obtain⟨y,el,e⟩:=aa.1 e;split at e
    ·rename_i X;cases e;intro σ C n z;obtain⟨u,f3,f4,f5⟩:=lQ z el X;exact q _ u C n z.mR f5 f3 f4 (gv.mpr rfl)
    ·cases e
   |_=>cases e
  ·cases e
structure fh(P:br)(w:cY)(K:aT)(mg:aJ->Option ak)(base:cF)(c m:aJ)(k:Nat)(sp:Sp):Prop where
 ex:∃C f fd ps,iy K aP c=some (some (.ref C))/\ER K C/\GK K C m f/\bZ P w K mg base gK k f fd ps sp/\Binds K fd ps []
def fh.mono{m:aJ}(h:fh P w K O U c m j a)(d:j<=k):fh P w K O U c m k a:=by
 obtain⟨C,f,o,b,n,l,i,g,e⟩:=h.ex;exact⟨C,f,o,b,n,l,i,g.mono d,e⟩
structure uK(P:br)(w:cY)(K:aT)(mg:aJ->Option ak)(base:cF)(c:aJ)(k:Nat)(sp:Sp):Prop where
 ex:∃C f fd ps,iy K aP c=some (some (.ref C))/\mg c=some (.ref C)/\Mk K C f/\bZ P w K mg base gK k f fd ps sp/\Binds K fd ps []
end
section
variable {X:Cx}
inductive U6 (K:aT) (Z:List Nat) (f:DF) (e:St) (H:Hp) (Q:VK):Prop
 |mk G c d:bC G H->kH K Z G H e c->f c=some d->(∀p o b a,gc G H b a->H p=none->b p=none->a p=some o->jd K b d o->Q (.ref p) a)->U6 K Z f e H Q
noncomputable def HS(c:aJ)(F:List D->Option (D×D))(g:DL):DF:=λa=>(g a).bind λb=>(F (.ins c [] []::b)).bind λr=>match r.1 with|.dg=>Y r.2|_=>M
def HZ{c:aJ}{F:List D->Option (D×D)}(h:uK X.prog X.w X.K X.mg X.base c k (Ru X.K 0 F))(hr:eH (k+1) X.A)(hg:Gl X c)(ha:PA X (e::J) (Ag X.K Z g))(B:autoParam ((c==("__debug__" : aJ))=false) Ű)(he:autoParam (ao (e::J) X.env=(Z_,eval e X.env)::ao J X.env) Ų)(A:autoParam ((cn I (ao J X.env)).any (·.1)=false) Ų):PE X (.Call (.Name c p) (e::J) [] I) (U6 X.K Z (HS c F g)):=by
 obtain⟨C,f,fd,ps,n,hm,hk,h1,a⟩:=h.ex;refine(B2 hk h1 hr hg hm a .nil mq ha B he A).imp ?_;rintro σ H Q ⟨G,R,d,gh,K,j,q⟩;unfold HS at j;obtain⟨N,eg,j⟩:=aa.1 j;obtain⟨⟨d',c'⟩,eF,j⟩:=aa.1 j;cases d'<;>simp only[ae]at j<;>try (cases j;done)
 cases j;refine⟨G,R,N,gh,K,eg,λS s H1 w P x t m l ne =>?_⟩;show Ru X.K 0 F (.ref x::(S++[])) _ _ E0;rw[bV];have E:s x=none:=w.gh.free m;have s2:bC s (cx (cx H1 t (.Z x)) x (.ins C t [])):=w.gh.trans ((bC.alloc l).trans (.alloc (by rw[aM (bF ne)];exact m)));refine⟨s,.ins c [] []::N,.dg,_,x,_,.ins c [] [],s2,rfl,rfl,aX,⟨C,t,[],rfl,n,rfl,.nil⟩,E,λi y hi ec =>?_,by simp[P.length],eF,λv o' G2 H2 u g2 h2 r2 r3=>⟨gv.mp r3,?_⟩⟩
 ·cases i with
  |zero=>exact absurd rfl hi|succ i=>exact P.get (i:=i) (by simpa using ec)
 ·refine q x o' G2 H2 (w.trans ⟨λb o e=>u.hh b o ?_,u.gg,u.gh,λb o e =>?_⟩) (w.hh.free m) g2 h2 r2
  ·have a:b≠x:=bf e m;rw[zt a,aM a,aM (bf e l)];exact e
  ·rcases u.fr b o e with z|z
   ·exact .inl z
   ·refine .inr ?_;by_cases a:b=x
    ·subst a;exact m
    ·by_cases r:b=t
     ·subst r;exact l
     ·rw[zt a,aM a,aM r]at z;exact z
def HW{s:List Nat}{i:Nat}{f:DF}(w:X.N.Nodup)(t:X.N[i]?=Y x)(h:Loc X.env.scope x)(v:PE X e (U6 X.K Z f))(n:autoParam (i∈Z) Ű)(b:autoParam (∀a,(i,a)∉B.3) ū)(q:autoParam (A9 i∉Z) Ű)(l:autoParam (cj e (Y (.Name x T)) I.line X.env=dP false) Ų)(u:autoParam (X.fn x=Z'\/X.env.scope.names.lookup x=Y .local) ŭ):
  PS X (.Assign [.Name x T] e I) (iC X.K B s Z Z (dF i f)):=(iF w t h v l u).imp <|by
 rintro D F H ⟨G,g,o,S,c,k⟩;unfold dF at c;obtain⟨d,z,c⟩:=au.1 c;cases c;exact⟨G,g,d,S.gh,S.iX,z,λp K C A E m y j r=>k _ C A (S.setC n E m y j r b q)⟩
end
section
variable {X:Cx}{m:Pos}{f:DF}
end
section
variable {X:Cx}{m:Pos}{f:DF}
end
section
variable {X:Cx}{m:Pos}{f:DF}
end
section
variable {X:Cx}{f:Expr}
noncomputable def eQ(ks:List lL)(c:List D)(k:lL):Option D:=((ks.zip c).find? λa=>decide (a.1=k)).map (·.2)
theorem qR{K:aT}:∀ {c:List lL}{f:List D}{a:List V}{d:D},bE K G f a->eQ c f k=Y d->∃v,tJ (c.zip a) k=Y v/\cJ K G d v
 |[],f,a,d,r,h=>by simp[eQ]at h
 |x::c,[],a,d,r,h=>by simp[eQ]at h
 | x::c,y::f,a,d,r,h=>by
  obtain⟨v,t,rfl,i,l⟩:=bH.mp r;by_cases g:x=k
  ·subst g;have:y=d:=by simpa [eQ] using h
   subst this;exact⟨v,uU rfl,i⟩
  ·have m:eQ c f k=Y d:=by simpa [eQ,g] using h
   obtain⟨u,e,j⟩:=qR l m;exact⟨u,by rw[cb,rX g];exact e,j⟩
theorem uF{K:aT}:∀ {c:List lL}{d:List D}{a:List V},bE K G d a->eQ c d k=M->tJ (c.zip a) k=M
 |[],d,a,r,h=>by simp[tJ]
 |x::c,[],a,r,h=>by rw[cP.mp r];simp[tJ]
 | x::c,y::d,a,r,h=>by
  obtain⟨v,t,rfl,i,f⟩:=bH.mp r;by_cases e:x=k
  ·subst e;simp[eQ]at h
  ·have g:eQ c d k=none:=by simpa [eQ,e] using h
   rw[cb,rX e];exact uF f g
noncomputable def Ca:D->Option lL
 |.int i=>Y (yr i)|.str x=>Y (cN x)|_=>M
def vk{K:aT}{v:V}(h:Ca d=Y k)(r:jX K G H d v):v=kV k:=by
 cases d<;>simp only[Ca]at h<;>try (cases h;done)
 ·cases h;exact r.int
 ·cases h;exact r.str
def sJ(f g e:DF):DF:=λa=>(f a).bind λd=>(g a).bind λk=>(e a).bind λx=>match d with|.iZ c h=>(Ca k).map λk=>(eQ c h k).getD x|_=>M
def CC{D F:DF}{i:Pos}(hu:X.A.units+1<rP)(ho:PE X o (tQ X.K Z D))(he:PE X e (tQ X.K Z F))(hf:PE X f (tP X.K Z C))(m:M2 X o "get" j e f i):PE X (.Call (.Attribute o "get" j) [e,f] [] i) (tP X.K Z (sJ D F C)):=
 (Lz hu ho he hf m).imp <|by
  rintro σ H Q ⟨G,r,d,gh,n,c,q⟩;unfold sJ at c;rcases g:D r with _|dd
  ·rw[g]at c;cases c
  rcases h:F r with _|N
  ·simp[g,h]at c
  rcases p:C r with _|L
  ·simp[g,h,p]at c
  simp only[g,h,p,ae]at c;cases dd<;>simp only at c<;>try (cases c;done)
  rename_i b J;rcases I:Ca N with _|k
  ·rw[I]at c;cases c
  rw[I]at c;refine⟨G,r,_,gh,n,g,λv G1 H1 x r1 =>?_⟩;obtain⟨a,vs,rfl,O,l,S⟩:=r1.Tg x.gh;refine⟨a,rfl,.inl ⟨_,.of O⟩,G1,r,N,x.gh,n.ext x,h,λu G2 H2 t U=>⟨G2,r,L,t.gh,(n.ext x).ext t,p,λz R P K T =>?_⟩⟩;have hk:u=kV k:=vk I U;have B:=K.hh _ _ (t.hh _ _ O);have s:=bE.mono (t.gg.trans K.gg) J S;refine⟨_,by rw[hk];exact xI.k B,?_⟩;have E:=(x.trans t).trans K;have c:Y ((eQ b J k).getD L)=Y d:=c;rcases y:eQ b J k with _|dv
  ·rw[y]at c;cases c;rw[uF s y];exact q _ R P E T
  rw[y]at c;cases c;obtain⟨w,ew,A⟩:=qR s y;rw[ew];exact q _ R P E A
end
noncomputable def C_:D->D->Option D
 |.int i,.int j=>Y (.int (cZ i j))|_,_=>M
noncomputable def eG:D->D->Option D
 |.int i,.int j=>Y (.int (uR i j))|_,_=>M
noncomputable def qe:D->D->Option D
 |.int i,.int j=>if 0<=j/\j<=1000/\i.natAbs<2 ^ 64 then Y (.int (i*2 ^ j.toNat)) else M
 |_,_=>M
noncomputable def R7:D->D->Option D
 |.int i,.int j=>if 0<=j then Y (.int (i/2 ^ j.toNat)) else M
 |_,_=>M
noncomputable def xB:D->Option D
 |.int i=>Y (.int (uQ i))|_=>M
section
variable {X:Cx}{f:Pos}
def QL:Az X (dN .BitOr) C_:=oW.imp Vw <|by
 rintro x y H Q ⟨G,k,j,d,i,e,b,a,q⟩;unfold C_ at a;split at a<;>try (cases a;done)
 cases a;exact⟨_,_,e.int,b.int,q _ G H (.refl i) (bU.mpr rfl)⟩
def W9:Az X (dN .BitAnd) eG:=oW.imp R0 <|by
 rintro x y H Q ⟨G,k,j,d,i,e,b,a,q⟩;unfold eG at a;split at a<;>try (cases a;done)
 cases a;exact⟨_,_,e.int,b.int,q _ G H (.refl i) (bU.mpr rfl)⟩
def Yq:Az X (dN .LShift) qe:=oW.imp RV <|by
 rintro x y H Q ⟨G,l,k,d,j,i,e,a,q⟩;unfold qe at a;split at a<;>try (cases a;done)
 split at a
 ·rename_i b;cases a;exact⟨_,_,i.int,e.int,⟨b.1,by have:=b.2.1;omega,b.2.2⟩,q _ G H (.refl j) (bU.mpr rfl)⟩
 ·cases a
def Yp:Az X (dN .RShift) R7:=oW.imp RU <|by
 rintro x y H Q ⟨G,l,k,d,j,i,e,a,q⟩;unfold R7 at a;split at a<;>try (cases a;done)
 split at a
 ·rename_i b;cases a;exact⟨_,_,i.int,e.int,b,q _ G H (.refl j) (bU.mpr rfl)⟩
 ·cases a
def Zp(l:PE X a (tQ X.K Z c)):PE X (.UnaryOp .Invert a f) (tP X.K Z (e1 xB c)):=(Hr Q' l).imp <|by
 rintro s H Q ⟨G,i,d,m,b,o,k⟩;obtain⟨x,n,e⟩:=HU o;cases x<;>simp[xB]at e
 subst e;exact⟨G,i,_,m,b,n,λv q p r j=>⟨_,j.int,k _ q p r (bU.mpr rfl)⟩⟩
def aag:J4 X .BitOr (Oy cZ):=by
 rintro b s k H x y u v Q I e d ⟨i,j,rfl,rfl,q⟩;obtain⟨t,rfl⟩:=(show ∃t,u=jn i t from e);obtain⟨a,rfl⟩:=(show ∃a,v=jn j a from d);exact ior_int ⟨.int (cZ i j),H,I.tok _,⟨_,rfl⟩,q⟩
def tY(i:Nat)(e:Int->Int->Int)(j:DF):DG:=λd=>(eV i d).bind λx=>(j d).bind λy=>match x,y with|.int a,.int b=>Y (.nx (d.set i (Y (.int (e a b)))))|_,_=>M
def Zh{i:Nat}{op:Int->Int->Int}(b:J4 X o (Oy op))(w:X.N.Nodup)(q:X.N[i]?=Y x)(p:Loc X.env.scope x)(t:PE X e (tP X.K Z j))(n:autoParam (i∉Z) Ű)(s:autoParam (X.fn x=Z'\/X.env.scope.names.lookup x=Y .local) ŭ):
  PS X (.AugAssign (.Name x g) o e f) (iC X.K B h Z Z (tY i op j)):=(RK (ti:=Oy op) w q p t b s).imp <|by
 rintro D I H ⟨G,m,J,S,a,k⟩;unfold tY at a;obtain⟨c,y,a⟩:=aa.1 a;obtain⟨d,l,a⟩:=aa.1 a;split at a
 ·rename_i L K;cases a;obtain⟨v,A,z⟩:=S.env i _ n (iN y);cases bU.mp z;refine⟨_,A,G,m,_,S.gh,S.iX,l,λu F C E r =>?_⟩;cases bU.mp r;exact⟨_,_,rfl,rfl,k _ F C ((S.ext E).v8 n (bU.mpr rfl))⟩
 ·cases a
end
section
variable {K:aT}{f:List Nat}
def SR.tree{s:Sk}(S:SR K B f G H y l)(c:i∈f)(e:l[i]?=Y (Y (.obj s t))):∃a T,y[i]?=Y (Y (.ref a))/\cE K G H s t (.ref a) T/\T.Nodup/\(∀b∈T,G b=M/\B.2 b=M)/\∃F,qp K B f G H y l F/\F i=T:=by
 obtain⟨F,W⟩:=S.ow;obtain⟨a,g,d⟩:=W.it i _ c e;obtain⟨n,k⟩:=W.ok i _ c e;exact⟨a,F i,g,d,n,k,F,W,rfl⟩
noncomputable def cG(r:Nat)(l:cA):cA:=l.map λo=>match o with|some (.eB k p)=>if k=r then M else Y (.eB k p)|o=>o
def bL{r i:Nat}(h:(cG r l)[i]?=Y (Y d)):l[i]?=Y (Y d)/\∀p,d ≠ .eB r p:=by
 unfold cG at h;rw[aY]at h;obtain⟨o,e,h⟩:=au.1 h;rw[e];cases o with
 |none=>cases h|some c=>
  cases c with
  |eB k p=>
   simp only[bP,gz]at h;split at h
   ·cases h
   ·rename_i a;cases h;exact⟨rfl,λq z=>a (by cases z;rfl)⟩
  |_=>simp only[bP,gz]at h;cases h;exact⟨rfl,λq z=>by cases z⟩
def kK{r i:Nat}(h:l[i]?=Y (Y d))(a:∀p,d ≠ .eB r p):(cG r l)[i]?=Y (Y d):=by
 unfold cG;rw[aY,h];cases d with
 |eB k p=>simp only[bP,gz];rw[if_neg (λz=>a p (by rw[z]))]
 |_=>rfl
def SR.IH{r:Nat}(S:SR K B f G H y l):SR K B f G H y (cG r l):=by
 refine⟨S.gh,S.g0,S.h0,S.fr,λi d a e=>S.env i d a (bL e).1,?_,by rw[S.len];simp[L2.cG],S.pin,λj k p s o e =>?_⟩
 ·obtain⟨F,W⟩:=S.ow;exact⟨F,λi d a e=>W.it i d a (bL e).1,λi d a e=>W.ok i d a (bL e).1,λi j d c a n C A=>W.ap i j d c a n (bL C).1 (bL A).1⟩
 ·obtain⟨v,x,m,g,h,w,b,u,t⟩:=S.eB j k p s o (bL e).1;exact⟨v,x,m,g,h,w,b,kK u (λq z=>by cases z),t⟩
def SR.CF{s:Sk}{t':D}{m:List ax}{F:Nat->List ax}(S:SR K B f G H y l)(W:qp K B f G H y l F)(J:F i=T)(g:i∈f)(I:l[i]?=Y (Y (.obj s t)))(u:y[i]?=Y (Y (.ref a)))(E:gc G (jf H T) G' H')(v:cE K G' H' n t' (.ref a) m)(x:m.Nodup)(w:∀b∈m,G' b=M/\(b∈T\/H b=M)):SR K B f G' H' y ((cG i l).set i (Y (.obj n t'))):=by
 have A:=kK (r:=i) I (λq z=>by cases z);have N:qp K B f G H y (cG i l) F:=⟨λi d g e=>W.it i d g (bL e).1,λi d g e=>W.ok i d g (bL e).1,λi j d c g C O L=>W.ap i j d c g C (bL O).1 (bL L).1⟩;have:=(S.IH (r:=i)).chg (i:=i) (a:=a) (d' :=.obj n t') (F0:=T) (S':=m) N g (λb k=>⟨by rw[J];exact k,_,A⟩) E.gg E.gh (λb o e=>by
   rcases E.fr b o e with z|z
   ·exact .inl z
   ·by_cases k:b∈T
    ·exact .inr (.inr k)
    ·rw[cQ k]at z;exact .inr (.inl z))
  (λb o k e=>E.hh b o (by rw[cQ k];exact e)) v x w (λb h=>by have:=(S.pin i b h).2;rw[u]at this;cases this;rfl) (λr p z=>by cases z)
  (λj p _ _ _ e=>absurd rfl ((bL e).2 p))
 rwa [gf u]at this
def SR.Rw{p:zP}{s s':Sk}{v:V}(S:SR K B f G H y l)(hi:i∈f)(N:A9 i∈f)(hj:j∈f)(J:i≠j)(D:A9 j∉f)(C:∀a,(j,a)∉B.3)(hd:l[i]?=Y (Y (.obj s t)))(hs:y[i]?=Y (Y v))(hv:gC H p v=Y (.ref b))(es:ma p s=Y s')(ef:∀g∈As p,g∈EG):SR K B f G H (y.set j (Y (.ref b))) (l.set j (Y (.eB i p))):=by
 obtain⟨F,W⟩:=S.ow;refine⟨S.gh,S.g0,S.h0,S.fr,λk c o e =>?_,⟨λk=>if k=j then [] else F k,λk c o e =>?_,λk c o e =>?_,λk m c c' o hm ek em L =>?_⟩,by simp[S.len],λk x h =>?_,λk r q h1 h2 e =>?_⟩
 ·have d:j≠k:=λz=>o (z ▸ hj)
  rw[ai d]at e;obtain⟨u,n,O⟩:=S.env k c o e;exact⟨u,by rw[ai d];exact n,O⟩
 ·rcases gO e with⟨rfl,rfl,A⟩|⟨d,n⟩
  ·exact⟨b,qW (by rw[S.len];exact A),by simp[nF]⟩
  ·obtain⟨x,f1,f2⟩:=W.it k c o n;exact⟨x,by rw[ai d];exact f1,by simp only[if_neg (bF d)];exact f2⟩
 ·rcases gO e with⟨rfl,rfl,A⟩|⟨d,n⟩
  ·simp
  ·simp only[if_neg (bF d)];exact W.ok k c o n
 ·rcases gO ek with⟨rfl,rfl,A⟩|⟨d,n⟩
  ·simp
  ·rcases gO em with⟨rfl,rfl,A⟩|⟨E,O⟩
   ·simp
   ·simp only[if_neg (bF d),if_neg (bF E)];exact W.ap k m c c' o hm n O L
 ·obtain⟨p1,X⟩:=S.pin k x h;have:j≠k:=λz=>by subst z;exact C x h
  exact⟨p1,by rw[ai this];exact X⟩
 ·rcases gO e with⟨rfl,z,A⟩|⟨d,n⟩
  ·cases z;exact⟨hi,N,s,t,s',v,.ref b,by rw[ai (bF J)];exact hd,by rw[ai (bF J)];exact hs,qW (by rw[S.len];exact A),hv,es,ef⟩
  ·obtain⟨g1,P,U,R,T,w,Q,g2,g3,g4,g5⟩:=S.eB k r q h1 h2 n;have I:j≠r:=λz=>D (z ▸ P)
   exact⟨g1,P,U,R,T,w,Q,by rw[ai I];exact g2,by rw[ai I];exact g3,by rw[ai d];exact g4,g5⟩
end
section
variable {K:aT}{f:List Nat}
def SR.RC{i:Nat}{a:ax}{s:Sk}{F:Nat->List ax}(S:SR K B f G H y l)(W:qp K B f G H y l F)(O:F i=T)(N:i∈f)(v:l[i]?=Y (Y (.obj s t)))(m:y[i]?=Y (Y (.ref a)))(E:gc G (jf H T) G' H')(I:cE K G' H' s d (.ref a) k)(L:k.Nodup)(J:∀b∈k,G' b=M/\(b∈T\/H b=M))(D:∀(q:zP) u,(∀g∈As q,g∈EG)->gC H q (.ref a)=Y u->gC H' q (.ref a)=Y u):SR K B f G' H' y (l.set i (Y (.obj s d))):=by
 have:=S.chg (i:=i) (a:=a) (d' :=.obj s d) (F0:=T) (S':=k) W N (λb c=>⟨by rw[O];exact c,_,v⟩) E.gg E.gh (λb o e=>by
   rcases E.fr b o e with z|z
   ·exact .inl z
   ·by_cases c:b∈T
    ·exact .inr (.inr c)
    ·rw[cQ c]at z;exact .inr (.inl z))
  (λb o c e=>E.hh b o (by rw[cQ c];exact e)) I L J (λb h=>by have:=(S.pin i b h).2;rw[m]at this;cases this;rfl) (λr p z=>by cases z)
  (λj p Q P _ e=>by obtain⟨g1,g0,s0,t0,C,w,n,A,x,g4,X,U,R⟩:=S.eB j i p Q P e;rw[v]at A;cases A;rw[m]at x;cases x;exact⟨s,d,C,n,rfl,g4,D p n R X,U⟩)
 rwa [gf m]at this
noncomputable def XR:Option D->Option D
 |some (.obj _ t)=>Y t|some (.lst d)=>Y (.lst d)|some (.ins c a b)=>Y (.ins c a b)|some (.iZ a b)=>Y (.iZ a b)|_=>M
def KC(h:XR o=Y d):(∃s t,o=Y (.obj s t)/\d=t)\/(o=Y d/\vm d=Z'):=by
 unfold XR at h;split at h
 ·cases h;exact .inl ⟨_,_,rfl,rfl⟩
 ·cases h;exact .inr ⟨rfl,rfl⟩
 ·cases h;exact .inr ⟨rfl,rfl⟩
 ·cases h;exact .inr ⟨rfl,rfl⟩
 ·cases h
def WU(l:cA):Option D->Option D
 |some (.eB r p)=>match l[r]? with|some (Y (.obj _ t))=>fx p t|_=>M
 |_=>M
def res(a b:List Nat)(l:cA):cA:=l.mapIdx λi o=>if i∈a then XR o else if i∈b then WU l o else o
theorem kH.trees(n:kH K f G H y l):∀(x:List Nat),∃T:List ax,(∀b∈T,G b=M/\FQ H b)/\∀i∈x,i∈f->∀s t,l[i]?=Y (Y (.obj s t))->∃v,y[i]?=Y (Y v)/\(cJ K G t v\/∃S,cE K G H s t v S/\∀b∈S,b∈T)
 |[]=>⟨[],λb g=>(by cases g),λi d=>by cases d⟩
 | k::x=>by
  obtain⟨T,w,u⟩:=kH.trees n x;by_cases p:k∈f/\∃s t,l[k]?=Y (Y (.obj s t))
  ·obtain⟨p,s,t,e⟩:=p;obtain⟨v,C,B⟩:=n.get k _ e;rw[if_pos p]at B;rcases B with r|⟨a,o,rfl,N,S,A,J⟩
   ·refine⟨T,w,λi d m j h c =>?_⟩;rcases aW.mp d with z|z
    ·subst z;rw[e]at c;cases c;exact⟨v,C,.inl (qE.mp r)⟩
    ·exact u i z m j h c
   ·refine⟨S++T,λb g =>?_,λi d m j h c =>?_⟩
    ·rcases bu.mp g with q|q
     ·exact⟨J b q,A.here b q⟩
     ·exact w b q
    ·rcases aW.mp d with z|z
     ·subst z;rw[e]at c;cases c;exact⟨_,C,.inr ⟨S,A,λb g=>bj _ g⟩⟩
     ·obtain⟨v,I,F⟩:=u i z m j h c;refine⟨v,I,?_⟩;rcases F with r|⟨L,E,D⟩
      ·exact .inl r
      ·exact .inr ⟨L,E,λb g=>aG _ (D b g)⟩
  ·refine⟨T,w,λi d m j h c =>?_⟩;rcases aW.mp d with z|z
   ·subst z;exact absurd ⟨m,j,h,c⟩ p
   ·exact u i z m j h c
theorem kH.cells(C:bC G H)(env:kH K f G H y l):∀(t:List Nat),∃T:List ax,(∀b∈T,G b=M/\FQ H b)/\∀i∈t,i∈f->∀d,l[i]?=Y (Y d)->vm d=Z'->∃v,y[i]?=Y (Y v)/\(cJ K G d v\/∃a o,v=.ref a/\a∈T/\H a=Y o/\jd K G d o)
 |[]=>⟨[],λb h=>(by cases h),λi x=>by cases x⟩
 | k::t=>by
  obtain⟨T,s,R⟩:=kH.cells C env t;have g:∀u:List ax,(∀b∈T,b∈u)->(∀d,l[k]?=Y (Y d)->k∈f->vm d=Z'->∃v,y[k]?=Y (Y v)/\(cJ K G d v\/∃a o,v=.ref a/\a∈u/\H a=Y o/\jd K G d o)) ->
    ∀i∈k::t,i∈f->∀d,l[i]?=Y (Y d)->vm d=Z'->∃v,y[i]?=Y (Y v)/\(cJ K G d v\/∃a o,v=.ref a/\a∈u/\H a=Y o/\jd K G d o):=λu w n i x p d e m=>by
   rcases aW.mp x with z|z
   ·subst z;exact n d e p m
   ·obtain⟨v,O,N⟩:=R i z p d e m;refine⟨v,O,?_⟩;rcases N with r|⟨a,o,J,I,F⟩
    ·exact .inl r
    ·exact .inr ⟨a,o,J,w a I,F⟩
  by_cases n:k∈f/\∃d,l[k]?=Y (Y d)/\vm d=Z'
  ·obtain⟨n,d,e,m⟩:=n;obtain⟨v,B,D⟩:=env.get k _ e;rw[if_pos n]at D;rcases D with r|⟨a,o,rfl,A,P⟩
   ·exact⟨T,s,g T (λb h=>h) λE j _ _=>by rw[e]at j;cases j;exact⟨v,B,.inl r⟩⟩
   ·have c:jd K G d o:=by cases d<;>first|exact P|cases m
    cases q:G a with
    |some L=>have:=C a L q;rw[A]at this;cases this;exact⟨T,s,g T (λb h=>h) λE j _ _=>by rw[e]at j;cases j;exact⟨_,B,.inl (c.rep q)⟩⟩
    |none=>
     refine⟨a::T,λb h =>?_,g (a::T) (λb h=>ay _ h) λE j _ _=>by rw[e]at j;cases j;exact⟨_,B,.inr ⟨a,o,rfl,az,A,c⟩⟩⟩;rcases aW.mp h with z|z
     ·subst z;refine⟨q,o,A,λQ z =>?_⟩;subst z;cases d with
      |lst=>obtain⟨_,z,_⟩:=c;cases z
      |ins=>obtain⟨_,_,_,z,_⟩:=c;cases z
      |iZ=>obtain⟨_,z,_⟩:=c;cases z
      |_=>cases m
     ·exact s b z
  ·exact⟨T,s,g T (λb h=>h) λd e p m=>absurd ⟨p,d,e,m⟩ n⟩
def mr(f a b c:List Nat):Bool:=(a.all λi=>f.contains i && !a.contains (B9 i) && !b.contains i && !c.contains i)&&(f.all λi=>a.contains i||b.contains i||c.contains i)&&(c.all λj=>f.contains j&&f.contains (B9 j) && !b.contains j)
def OS{f:List Nat}(h:mr f e g k=Z'):(∀i∈e,i∈f/\B9 i∉e/\i∉g/\i∉k)/\(∀i∈f,i∈e\/i∈g\/i∈k)/\(∀j∈k,j∈f/\B9 j∈f/\j∉g):=by
 simp only[mr,aZ,dU,List.contains_eq_mem,vM,Bool.not_eq_true',decide_eq_true_eq,decide_eq_false_iff_not]at h;exact⟨λi m=>by obtain⟨⟨⟨a,b⟩,c⟩,d⟩:=h.1.1 i m;exact⟨a,b,c,d⟩,λi m=>by rcases h.1.2 i m with (a|a)|a;exact .inl a;exact .inr (.inl a);exact .inr (.inr a),λj n=>by obtain⟨⟨a,b⟩,c⟩:=h.2 j n;exact⟨a,b,c⟩⟩
def kH.Rf(s:bC G H)(m:kH K f G H y l)(Q:mr f C dp al=Z'):∃T:List ax,(∀b∈T,G b=M/\FQ H b)/\kH K C (jW G H T) H y (res dp al l):=by
 obtain⟨o1,o2,o3⟩:=OS Q;obtain⟨T1,Y6,h21⟩:=m.trees f;obtain⟨T2,h12,X⟩:=m.cells s f;generalize U:T1++T2=T;have h1:∀b∈T,G b=M/\FQ H b:=λb I=>by
  rw[<- U]at I;rcases bu.mp I with z|z
  ·exact Y6 b z
  ·exact h12 b z
 have h2:∀i∈f,i∈f->∀s t,l[i]?=Y (Y (.obj s t))->∃v,y[i]?=Y (Y v)/\(cJ K G t v\/∃S,cE K G H s t v S/\∀b∈S,b∈T):=λi x Q s t e=>by
  obtain⟨v,k,c⟩:=h21 i x Q s t e;refine⟨v,k,?_⟩;rcases c with r|⟨S,J,V⟩
  ·exact .inl r
  ·exact .inr ⟨S,J,λb I=>by rw[<- U];exact bj _ (V b I)⟩
 have n:∀b∈T,G b=none:=λb I=>(h1 b I).1
 have g:bC G (jW G H T):=qb n;have fz:∀(i:Nat) (E:Sk) (t:D),l[i]?=Y (Y (D.obj E t))->∃v,y[i]?=Y (Y v)/\cJ K (jW G H T) t v:=λi E t e=>by
  by_cases x:i∈f
  ·obtain⟨v,k,c⟩:=h2 i x x E t e;refine⟨v,k,?_⟩;rcases c with r|⟨S,J,V⟩
   ·exact cJ.mono g t r
   ·exact cE.frozen n V J
  ·obtain⟨v,k,c⟩:=m.get i _ e;rw[if_neg x]at c;exact⟨v,k,cJ.mono g t (qE.mp c)⟩
 refine⟨T,h1,by rw[m.len];simp[res],λi d e =>?_,λj r p hj hm e=>absurd hm (o1 j hj).2.1⟩;unfold res at e;rw[List.getElem?_mapIdx]at e;rcases L:l[i]? with _|o
 ·rw[L]at e;cases e
 rw[L]at e;simp only[bP,gz]at e;by_cases R:i∈dp
 ·rw[if_pos R]at e;rcases KC e with⟨E,t,rfl,rfl⟩|⟨rfl,hc⟩
  ·obtain⟨v,k,c⟩:=fz i E _ L;exact⟨v,k,by split;exact .inl c;exact c⟩
  ·by_cases x:i∈f
   ·obtain⟨v,k,c⟩:=X i x x d L hc;have F:cJ K (jW G H T) d v:=by
     rcases c with r|⟨a,o,rfl,A,h,q4⟩
     ·exact cJ.mono g d r
     ·exact(q4.mono g).rep (by rw[qF (by rw[<- U];exact aG _ A)];exact h)
    exact⟨v,k,by split;exact .inl F;exact F⟩
   ·obtain⟨v,k,c⟩:=m.get i _ L;rw[if_neg x]at c;have F:=cJ.mono g d c;exact⟨v,k,by split;exact .inl F;exact F⟩
 ·rw[if_neg R]at e;by_cases O:i∈al
  ·rw[if_pos O]at e;unfold WU at e;split at e
   ·rename_i r p;split at e
    ·rename_i E t er;obtain⟨g1,g0,s1,t1,s',v,v',g2,g3,g4,g5,g6,g7⟩:=m.eB i r p (o3 i O).1 (o3 i O).2.1 L;rw[er]at g2;cases g2;obtain⟨w,k,c⟩:=h2 r g1 g1 E t er;rw[g3]at k;cases k;have F:cJ K (jW G H T) d v':=by
      rcases c with q|⟨S,J,V⟩
      ·obtain⟨u,P,f4⟩:=yM s q e;rw[g5]at P;cases P;exact cJ.mono g d f4
      ·obtain⟨u,T1,U1,P,f4,f5,_⟩:=J.focus g6 e;rw[g5]at P;cases P;exact cE.frozen n (λb I=>V b (f5.symm.subset (bj _ I))) f4
     exact⟨v',g4,by split;exact .inl F;exact F⟩
    ·cases e
   ·cases e
  ·rw[if_neg O]at e;subst e;obtain⟨v,k,c⟩:=m.get i d L;refine⟨v,k,?_⟩;by_cases x:i∈C
   ·rw[if_pos x];rw[if_pos (o1 i x).1]at c;cases d with
    |obj E t=>obtain⟨u,J,V⟩:=fz i E t L;rw[k]at J;cases J;exact .inl (qE.mpr V)
    |eB r p=>
     rcases c with q|⟨a,o,rfl,_⟩
     ·exact .inl (sY.mpr (sY.mp q))
     ·exact .inl (sY.mpr ⟨a,rfl⟩)
    |lst=>rcases c with q|⟨a,o,B,A,h⟩;exact .inl (cJ.mono g _ q);exact .inr ⟨a,o,B,A,jd.mono g (d :=.lst _) h⟩
    |ins=>rcases c with q|⟨a,o,B,A,h⟩;exact .inl (cJ.mono g _ q);exact .inr ⟨a,o,B,A,jd.mono g (d :=.ins _ _ _) h⟩
    |iZ=>rcases c with q|⟨a,o,B,A,h⟩;exact .inl (cJ.mono g _ q);exact .inr ⟨a,o,B,A,jd.mono g (d :=.iZ _ _) h⟩
    |_=>rcases c with q|⟨a,o,B,A,h⟩;exact .inl (cJ.mono g _ q);exact h.elim
   ·rw[if_neg x];by_cases N:i∈f
    ·rcases o2 i N with z|z|z
     ·exact absurd z x
     ·exact absurd z R
     ·exact absurd z O
    ·rw[if_neg N]at c;exact cJ.mono g d c
end
section
variable {X:Cx}{m:Pos}
def lI(A I:List Nat)(f:DF):DF:=λρ=>(f (res A I ρ)).bind λd=>if sk d=Z' then Y d else M
def M5{f:DF}(O A I:List Nat)(h:PE X e (tP X.K O f))(s:autoParam (mr Z O A I=true) Ű):PE X e (tP X.K Z (lI A I f)):=h.imp <|by
 rintro J H Q ⟨G,ρ,d,j,n,a,k⟩;unfold lI at a;obtain⟨c,t,a⟩:=aa.1 a;split at a
 ·rename_i q;cases a;obtain⟨T,o,g⟩:=n.Rf j s;refine⟨jW G H T,res A I ρ,d,nP j,g,t,λv N L E r =>?_⟩;obtain⟨u,p⟩:=zp j (λb i=>(o b i).1) (λb i=>(o b i).2) E;exact k v _ L u (DQ p q r)
 ·cases a
def xS(A I:List Nat)(f:DT):DT:=λρ=>f (res A I ρ)
def QX{f:DT}(O A I:List Nat)(h:PT X e (rG X.K O f))(n:autoParam (mr Z O A I=true) Ű):PT X e (rG X.K Z (xS A I f)):=h.imp <|by
 rintro J H Q ⟨G,ρ,d,g,i,o,k⟩;obtain⟨T,j,a⟩:=i.Rf g n;refine⟨jW G H T,res A I ρ,d,nP g,a,o,λN L E =>?_⟩;obtain⟨p,q⟩:=zp g (λb c=>(j b c).1) (λb c=>(j b c).2) E;exact k _ L p
def Uz(A I:List Nat)(f:DL):DL:=λρ=>(f (res A I ρ)).bind λd=>if qG d=Z' then Y d else M
def Wj{f:DL}(O A I:List Nat)(h:PE X e (tF X.K O f))(i:autoParam (mr Z O A I=true) Ű):PE X e (tF X.K Z (Uz A I f)):=h.imp <|by
 rintro J H Q ⟨G,ρ,d,p,s,a,k⟩;unfold Uz at a;obtain⟨c,D,a⟩:=aa.1 a;split at a
 ·rename_i y;cases a;obtain⟨T,n,g⟩:=s.Rf p i;refine⟨jW G H T,res A I ρ,d,nP p,g,D,λq u N L E t C B r =>?_⟩;obtain⟨F,v⟩:=zp p (λb j=>(n b j).1) (λb j=>(n b j).2) E;have x:q∉T:=λz=>by obtain⟨o,i,_⟩:=(n q z).2;rw[t]at i;cases i
  exact k q u _ L F t (by rw[cQ x];exact C) B (wa v y r)
 ·cases a
noncomputable def Gb:Sk->Bool
 |.lf=>Z'|_=>Z_
def Ce{s:Sk}(h:Gb s=Z'):s=.lf:=by cases s<;>first|rfl|cases h
def t6(i:Nat)(c f:aJ):DF:=λρ=>(eV i ρ).bind λd=>match d with
 |.obj (.fs g e) (.ins a b ds)=>if (g=c/\a=c)/\Gb (c_ e f)=Z' then (BE f b).bind λn=>ds[n]? else M
 |_=>M
def Xy{i:Nat}{c f:aJ}(h:PE X (.Name x p) (iB i))(j:sS X.K c f)(hi:autoParam (i∈Z) Ű)(hb:autoParam (b_ (.Name x p) f X.env (eval (.Name x p) X.env)=eval (.Name x p) X.env) Ų):PE X (.Attribute (.Name x p) f l) (tP X.K Z (t6 i c f)):=
 (so h hb).imp <|by
  rintro J H Q ⟨G,ρ,d,q,y,e,k⟩;unfold t6 at e;rw[aa]at e;obtain⟨o,z,e⟩:=e;split at e
  ·rename_i c' fk Zv E ds;split at e
   ·rename_i U;obtain⟨⟨rfl,rfl⟩,hl⟩:=U;rcases g:BE f E with _|m
    ·rw[g]at e;cases e
    rw[g]at e;simp only[ae]at e;obtain⟨v,K,F⟩:=y.get i _ (iN z);rw[if_pos hi]at F;rcases F with r|⟨a,o,rfl,e3,S,e4,e5⟩
    ·obtain⟨a,C,B,w,rfl,n,ha,b,R⟩:=ni.mp (qE.mp r);obtain⟨u,eu,P⟩:=R.get e;exact⟨_,K,a,C,B,_,u,rfl,q _ _ ha,(j C n).1,(j C n).2,by rw[tb g];exact eu,k u G H (.refl q) P⟩
    ·cases e4 with
     |@ins _ _ _ _ _ C B w S n ea b t=>
      have s:(E.map (c_ fk))[m]?=Y .lf:=by rw[aY,vo g,<- Ce hl];rfl
      obtain⟨D,T1,U1,f1,T,_⟩:=t.at s e;cases T with
      |leaf r=>exact⟨_,K,a,C,B,_,D,rfl,ea,(j C n).1,(j C n).2,by rw[tb g];exact f1,k D G H (.refl q) r⟩
   ·cases e
  ·cases e
end
def Ho(b:Bool)(j:Nat)(ρ:cA):Option (Nat×zP):=match b,eV j ρ with
 |false,Y (.obj _ _)=>Y (j,[])|true,Y (.eB r p)=>Y (r,p)|_,_=>M
def xR(r:Nat)(ρ:cA):Option (Sk×D):=match eV r ρ with|some (.obj s t)=>Y (s,t)|_=>M
def ml{s:Sk}(h:xR r ρ=Y (s,t)):ρ[r]?=Y (Y (.obj s t)):=by
 unfold xR at h;split at h
 ·rename_i e;cases h;exact iN e
 ·cases h
section
variable {K:aT}
def SR.Ho(S:SR K B Z G H J ρ)(h:Ho b j ρ=Y (r,p))(d:j∈Z)(u:b=Z'->B9 j∈Z):r∈Z/\∃s t a f,ρ[r]?=Y (Y (.obj s t))/\J[r]?=Y (Y (.ref a))/\J[j]?=Y (Y f)/\gC H p (.ref a)=Y f:=by
 unfold L2.Ho at h;split at h
 ·rename_i e;cases h;have e:=iN e;obtain⟨a,T,c,_⟩:=S.tree d e;exact⟨d,_,_,a,_,e,c,c,rfl⟩
 ·rename_i e;cases h;obtain⟨k,C,q,o,y,w,n,i,g,x,v,z⟩:=S.eB j r p d (u rfl) (iN e);obtain⟨a,T,c,_⟩:=S.tree k i;rw[c]at g;cases g;exact⟨k,q,o,a,n,i,c,x,v⟩
 ·cases h
def y9(d:x∈T):bC (jf H T) (cx H x o):=λb u e=>by
 by_cases c:b∈T
 ·rw[nj c]at e;cases e
 ·rw[cQ c]at e;have a:b≠x:=λz=>c (z ▸ d)
  rw[aM a];exact e
def SR.SX{s:Sk}{f:aJ}{l:List D}{d:D}{v:V}(S:SR K B Z G H J ρ)(Q:r∈Z)(R:ρ[r]?=Y (Y (.obj s t)))(w:ma p s=Y (.fs c fk))(ep:fx p t=Y (.ins c h l))(hf:Gb (c_ fk f)=Z')(ha:f∉EG)(rv:cJ K G d v):
  ∃a x C k i,J[r]?=Y (Y (.ref a))/\gC H p (.ref a)=Y (.ref x)/\iy K aP c=Y (Y (.ref C))/\H x=Y (.ins C k (h.zip i))/\h.length=i.length /\
   SR K B Z G (cx H x (.ins C k (lr f v (h.zip i)))) J (ρ.set r (Y (.obj s (mm (.ins c (iQ f d h l).1 (iQ f d h l).2) p t)))):=by
 obtain⟨a,T,e1,o1,nd,P,F,W,hF⟩:=S.tree Q R;obtain⟨x,C,k,i,h1,X,h3,U,h5,h6,T',o2,u,n⟩:=o1.put (f:=f) (d:=d) (u:=v) (S1:=[]) nd w ep (bC.refl G) (λ_ _ _ e=>e) (by rw[Ce hf];exact .leaf rv) Ž (λb j=>by cases j);refine⟨a,x,C,k,i,e1,h1,h3,U,h6,S.RC W hF Q R e1 ⟨y9 X,bC.refl _,λb o e =>?_,λb o e =>.inl e⟩ o2 u (λb j =>?_) λq v' hq hv =>?_⟩
 ·have E:b≠x:=λz=>by rw[z,(P x X).1]at e;cases e
  rw[aM E];exact S.gh b o e
 ·rcases n b j with z|z
  ·exact⟨(P b z).1,.inl z⟩
  ·cases z
 ·refine vr U aX (λb j o e=>by rw[aM j];exact e) (λg hg =>?_) hv;have y:g≠f:=λz=>ha (z ▸ hq g hg)
  rw[sr,if_neg y]
def SR.GA{s:Sk}{X:D}(S:SR K B Z G H J ρ)(hr:r∈Z)(hd:ρ[r]?=Y (Y (.obj s t)))(w:ma p s=Y u)(ep:fx p t=Y X):
  ∃a x i,J[r]?=Y (Y (.ref a))/\gC H p (.ref a)=Y x/\cE K G H u X x i/\i.Nodup/\(∀b∈i,G b=M) /\
   ∀(g:D) (f:List ax) (N L:Hp),gc G (jf H i) N L->cE K N L u g x f->f.Nodup->(∀b∈f,N b=M/\(b∈i\/H b=M))->SR K B Z N L J ((cG r ρ).set r (Y (.obj s (mm g p t)))):=by
 obtain⟨a,T,e1,C,nd,nf,F,W,hF⟩:=S.tree hr hd;obtain⟨x,i,U,h1,o2,v,k1⟩:=C.focus w ep;have k:=v.nodup_iff.mp nd;rw[iR]at k;obtain⟨n1,n2,n3⟩:=k;have h:∀b∈i,b∈T:=λb d=>v.symm.subset (bj _ d)
 have n:∀b∈U,b∈T:=λb d=>v.symm.subset (aG _ d)
 have R:∀b∈U,b∉i:=λb d Q=>n3 b Q b d rfl
 refine⟨a,x,i,e1,h1,o2,n1,λb d=>(nf b (h b d)).1,λg f N L E nw l j =>?_⟩;obtain⟨T',o3,p3⟩:=k1 N L g f E.gg (λb d o e=>E.hh b o (by rw[cQ (R b d)];exact e)) nw;refine S.CF W hF hr hd e1 ⟨λb o e =>?_,E.gg,E.gh,λb o e =>?_⟩ o3 ?_ λb d =>?_
 ·by_cases d:b∈T
  ·rw[nj d]at e;cases e
  ·rw[cQ d]at e;exact E.hh b o (by rw[cQ (λz=>d (h b z))];exact e)
 ·rcases E.fr b o e with z|z
  ·exact .inl z
  ·refine .inr ?_;by_cases d:b∈T
   ·rw[nj d]
   ·rw[cQ d];rw[cQ (λz=>d (h b z))]at z;exact z
 ·rw[p3.nodup_iff,iR];refine⟨l,n2,λb d c hc z =>?_⟩;subst z;rcases(j b d).2 with z|z
  ·exact R b hc z
  ·obtain⟨o,P,_⟩:=C.here b (n b hc);rw[P]at z;cases z
 ·rcases bu.mp (p3.subset d) with q|q
  ·refine⟨(j b q).1,?_⟩;rcases(j b q).2 with z|z
   ·exact .inl (h b z)
   ·exact .inr z
  ·refine⟨?_,.inl (n b q)⟩;rcases z:N b with _|o
   ·rfl
   rcases E.fr b o z with y|y
   ·rw[(nf b (n b q)).1]at y;cases y
   ·obtain⟨o,P,_⟩:=C.here b (n b q);rw[cQ (R b q),P]at y;cases y
end
mutual
def Sk.yh:Sk->Sk->Bool
 |.lf,.lf=>Z'|.li s,.li t=>Sk.yh s t|.fs c k,.fs d l=>decide (c=d)&&Sk.JL k l|.di,.di=>Z'|_,_=>Z_
def Sk.JL:List (aJ×Sk)->List (aJ×Sk)->Bool
 |[],[]=>Z'|(c,s)::k,(d,t)::l=>decide (c=d)&&(Sk.yh s t&&Sk.JL k l)|_,_=>Z_
end
mutual
theorem Sk.qP:∀ {s t:Sk},Sk.yh s t=Z'->s=t
 |.lf,.lf,_=>rfl|.di,.di,_=>rfl|.li s,.li t,h=>by rw[Sk.qP (s:=s) (t:=t) (by simpa only [Sk.yh] using h)]
 |.fs c k,.fs d l,h=>by simp only[Sk.yh,aZ,decide_eq_true_eq]at h;rw[h.1,Sk.HP h.2]
 |.lf,.li _,h=>by simp[Sk.yh]at h
 |.lf,.fs _ _,h=>by simp[Sk.yh]at h
 |.lf,.di,h=>by simp[Sk.yh]at h
 |.li _,.lf,h=>by simp[Sk.yh]at h
 |.li _,.fs _ _,h=>by simp[Sk.yh]at h
 |.li _,.di,h=>by simp[Sk.yh]at h
 |.fs _ _,.lf,h=>by simp[Sk.yh]at h
 |.fs _ _,.li _,h=>by simp[Sk.yh]at h
 |.fs _ _,.di,h=>by simp[Sk.yh]at h
 |.di,.lf,h=>by simp[Sk.yh]at h
 |.di,.li _,h=>by simp[Sk.yh]at h
 |.di,.fs _ _,h=>by simp[Sk.yh]at h
theorem Sk.HP:∀ {k l:List (aJ×Sk)},Sk.JL k l=Z'->k=l
 |[],[],_=>rfl|(c,s)::k,(d,t)::l,h=>by simp only[Sk.JL,aZ,decide_eq_true_eq]at h;rw[h.1,Sk.qP h.2.1,Sk.HP h.2.2]
 |[],_::_,h=>by simp[Sk.JL]at h
 |_::_,[],h=>by simp[Sk.JL]at h
end
def xF(c:aJ)(s:Sk)(t:D)(p:zP):Option (List (aJ×Sk)×List aJ×List D):=match ma p s,fx p t with
 |some (.fs f d),Y (.ins a b e)=>if f=c/\a=c then Y (d,b,e) else M
 |_,_=>M
def wu{s:Sk}(h:xF c s t p=Y (b,a,d)):ma p s=Y (.fs c b)/\fx p t=Y (.ins c a d):=by
 unfold xF at h;split at h
 ·rename_i i f;split at h
  ·rename_i e;obtain⟨rfl,rfl⟩:=e;cases h;exact⟨i,f⟩
  ·cases h
 ·cases h
section
variable {X:Cx}
def gi(b:Bool)(j:Nat)(c f:aJ)(h:DF):DG:=λa=>(h a).bind λd=>(Ho b j a).bind λq=>(xR q.1 a).bind λe=>(xF c e.1 e.2 q.2).bind λz=>
 if Gb (c_ z.1 f)=Z'/\z.2.1.length<999 then Y (.nx (a.set q.1 (Y (.obj e.1 (mm (.ins c (iQ f d z.2.1 z.2.2).1 (iQ f d z.2.1 z.2.2).2) q.2 e.2))))) else M
def Px{b:Bool}{c f:aJ}(h:PE X (.Name x p) (iB j))(he:PE X e (tP X.K Z y))(w:sS X.K c f)(hj:autoParam (j∈Z) Ű)(hb:autoParam (b=Z'->B9 j∈Z) Ű)(ha:autoParam (f∉EG) Ű)(hs:autoParam (cj e (Y (.Attribute (.Name x p) f A)) g.line X.env=dP false) Ų):PS X (.Assign [.Attribute (.Name x p) f A] e g) (iC X.K B I Z Z (gi b j c f y)):=(B1 h he hs).imp <|by
 rintro D σ H ⟨G,q,o,S,i,k⟩;unfold gi at i;obtain⟨d,ef,i⟩:=aa.1 i;rcases l:Ho b j q with _|⟨r,T⟩
 ·simp[l]at i
 rcases n:xR r q with _|⟨s,t⟩
 ·simp[l,n]at i
 rcases u:xF c s t T with _|⟨fk,ks,ds⟩
 ·simp[l,n,u]at i
 simp only[l,n,u,ae]at i;split at i
 ·rename_i hz;cases i;obtain⟨i1,U⟩:=wu u;refine⟨G,q,d,S.gh,S.iX,ef,λv G' H' E R =>?_⟩;have P:=S.ext E;obtain⟨hr,s',t',a,v',J,e2,e3,e4⟩:=P.Ho l hj hb;have m:=ml n;rw[m]at J;cases J;obtain⟨a',Q,C,dx,vs,K,F,z,f4,f5,f6⟩:=P.SX (f:=f) (d:=d) hr m i1 U hz.1 ha R;rw[e2]at K;cases K;rw[e4]at F;cases F;refine⟨_,e3,Q,C,dx,_,rfl,f4,(w C z).1,(w C z).2,?_,k _ G' _ f6⟩;rw[uS f5];omega
 ·cases i
def eE(b:Bool)(j:Nat)(c f:aJ)(h:Int->Int->Int)(i:DF):DG:=λa=>(i a).bind λd=>(Ho b j a).bind λq=>(xR q.1 a).bind λe=>(xF c e.1 e.2 q.2).bind λz=>match (z.2.1.zip z.2.2).lookup f,d with
 |some (.int m),.int n=>if Gb (c_ z.1 f)=Z'/\z.2.1.length<999 then Y (.nx (a.set q.1 (Y (.obj e.1 (mm (.ins c (iQ f (.int (h m n)) z.2.1 z.2.2).1 (iQ f (.int (h m n)) z.2.1 z.2.2).2) q.2 e.2))))) else M
 |_,_=>M
theorem wZ{f:aJ}:∀ {ks:List aJ}{ds:List D}{u:D},(ks.zip ds).lookup f=Y u->∃m,BE f ks=Y m/\ds[m]?=Y u
 |[],a,u,h=>by simp at h
 |k::ks,[],u,h=>by simp at h
 | k::ks,v::a,u,h=>by
  simp only[cb,dw]at h;cases e:(f==k) with
  |true=>rw[e]at h;cases h;exact⟨0,by simp[BE,e],rfl⟩
  |false=>rw[e]at h;obtain⟨m,c,b⟩:=wZ (ks:=ks) (ds:=a) h;exact⟨m+1,by simp[BE,e,c],by simpa using b⟩
theorem SR.Y8{K:aT}{o:cA}{s:Sk}{f:aJ}{v:List D}(S:SR K B Z G H k o)(Q:r∈Z)(hd:o[r]?=Y (Y (.obj s t)))(J:ma q s=Y (.fs c h))(ep:fx q t=Y (.ins c b v))(X:Gb (c_ h f)=Z')(R:(b.zip v).lookup f=Y d):
  ∃a x C j e u,k[r]?=Y (Y (.ref a))/\gC H q (.ref a)=Y (.ref x)/\iy K aP c=Y (Y (.ref C))/\H x=Y (.ins C j (b.zip e))/\(b.zip e).lookup f=Y u/\cJ K G d u:=by
 obtain⟨a,T,e1,P,nd,nf,F,W,hF⟩:=S.tree Q hd;obtain⟨x,T1,U,h1,g,p1,k1⟩:=P.focus J ep;cases g with
 |@ins _ _ _ _ w C j e S0 n ex l z=>
  obtain⟨m,p,e2⟩:=wZ R;have i:(b.map (c_ h))[m]?=Y .lf:=by rw[aY,vo p,<- Ce X];rfl
  obtain⟨y,T1,U1,f1,E,_⟩:=z.at i e2;cases E with
  |leaf r=>exact⟨a,w,C,j,e,y,e1,h1,n,ex,by rw[tb p];exact f1,r⟩
def Tc{b:Bool}{c f:aJ}{op:Int->Int->Int}{o:Operator}(y:J4 X o (Oy op))(h:PE X (.Name x p) (iB j))(he:PE X e (tP X.K Z fe))(hc:sS X.K c f)(hj:autoParam (j∈Z) Ű)(hb:autoParam (b=Z'->B9 j∈Z) Ű)(ha:autoParam (f∉EG) Ű):
  PS X (.AugAssign (.Attribute (.Name x p) f A) o e g) (iC X.K B I Z Z (eE b j c f op fe)):=(Jc h he y).imp <|by
 rintro D σ H ⟨G,w,o,S,i,k⟩;unfold eE at i;obtain⟨d,ef,i⟩:=aa.1 i;rcases q:Ho b j w with _|⟨r,pt⟩
 ·simp[q]at i
 rcases u:xR r w with _|⟨s,t⟩
 ·simp[q,u]at i
 rcases K:xF c s t pt with _|⟨fk,ks,ds⟩
 ·simp[q,u,K]at i
 simp only[q,u,K,ae]at i;split at i
 ·rename_i m n z;split at i
  ·rename_i T;cases i;obtain⟨R,Q⟩:=wu K;obtain⟨U,s',t',a,v',e1,e2,e3,e4⟩:=S.Ho q hj hb;have l:=ml u;rw[l]at e1;cases e1;obtain⟨a1,x1,P,J,vs1,u1,g1,g2,F,g4,g5,g6⟩:=S.Y8 U l R Q T.1 z;rw[e2]at g1;cases g1;rw[e4]at g2;cases g2;cases bU.mp g6;refine⟨_,e3,x1,P,J,_,_,rfl,g4,(hc P F).1,(hc P F).2,g5,G,w,_,S.gh,S.iX,ef,λv G' H' E r =>?_⟩;cases bU.mp r;have S':=S.ext E;obtain⟨a',x',C,dx,vs,f1,f2,f3,f4,f5,f6⟩:=S'.SX (f:=f) (d :=.int (op m n)) (v :=.int (op m n)) U l R Q T.1 ha (bU.mpr rfl);rw[e2]at f1;cases f1;rw[jF E.hh e4]at f2;cases f2;rw[F]at f3;cases f3;refine⟨_,_,rfl,rfl,dx,_,f4,?_,k _ G' _ f6⟩;rw[uS f5];omega
  ·cases i
 ·cases i
inductive Oe (K:aT) (Z:List Nat) (s:Sk) (f:DF) (i:St) (H:Hp) (Q:VK):Prop
 |mk G h d:bC G H->kH K Z G H i h->f h=some d->(∀v a e c,gc G H e c->cE K e c s d v a->a.Nodup->(∀b∈a,e b=none/\H b=none)->Q v c)->Oe K Z s f i H Q
def Zq{s:Sk}:PE X (.List [] g) (Oe X.K Z (.li s) (eK (.lst []))):=(Tp (Z:=Z) sN).imp <|by
 rintro o H Q ⟨G,f,d,j,a,l,k⟩;cases l;refine⟨G,f,[],j,a,rfl,λq p n m E i h e r =>?_⟩;rw[cP.mp r]at e;exact k (.ref q) [q] n m E (.lst e .nil) Ž (λb c=>by simp at c;subst c;exact⟨h,i⟩)
def Zr:PE X (.Dict [] [] g) (Oe X.K Z .di (eK (.iZ [] []))):=Ly.imp <|by
 rintro i H Q ⟨G,j,d,e,h,f,k⟩;cases f;exact λq a=>k (.ref q) [q] G _ (gc.lay (o :=.dK []) e a) (.iZ (ks:=[]) (ds:=[]) (vs:=[]) aX rfl .nil) Ž (λb c=>by simp at c;subst c;exact⟨e.free a,a⟩)
noncomputable def MI(c:aJ)(f:DF):DF:=λb=>(f b).bind λd=>match d with|.ins a e h=>if a=c then Y (.ins a e h) else M|_=>M
def PN{c:aJ}{f:DF}(h:PE X e (U6 X.K Z f)):PE X e (Oe X.K Z (.fs c []) (MI c f)):=h.imp <|by
 rintro x H Q ⟨G,l,d,t,i,a,k⟩;unfold MI at a;obtain⟨y,u,a⟩:=aa.1 a;split at a
 ·split at a
  ·rename_i m;cases a;subst m;exact⟨G,l,_,t,i,u,λq o w v E s p n r=>k (.ref q) [q] w v E (yR.mpr ⟨⟨o,n,r⟩,rfl⟩) Ž (λb j=>by simp at j;subst j;exact⟨p,s⟩)⟩
  ·cases a
 ·cases a
noncomputable def S_(f:DF):DF:=λa=>(f a).map λd =>.lst [d]
def Tt{s:Sk}{f:DF}(h:PE X e (Oe X.K Z s f))(x:autoParam (ao (e::[]) X.env=(Z_,eval e X.env)::ao [] X.env) Ų):PE X (.List [e] g) (Oe X.K Z (.li s) (S_ f)):=(ur (bT h dn x)).imp <|by
 rintro F H Q ⟨G,t,d,B,m,i,k⟩;unfold S_ at i;obtain⟨y,C,i⟩:=au.1 i;cases i;refine⟨G,t,y,B,m,C,λv r D K E n w u=>⟨by simp;exact bQ ſ vj,λq c =>?_⟩⟩;have a:q∉r:=λz=>by obtain⟨o,p,_⟩:=n.here q z;rw[c]at p;cases p
 refine k (.ref q) (q::(r++[])) D _ (E.trans (gc.lay (o :=.lst [v]) E.gh c)) (.lst aX (.cons (n.mono (bC.refl _) λb l o e =>?_) .nil)) ?_ (λb l =>?_)
 ·have j:b≠q:=λz=>a (z ▸ l)
  rw[aM j];exact e
 ·simp[a,w]
 ·rcases aW.mp l with z|z
  ·subst z;exact⟨E.gh.free c,E.hh.free c⟩
  ·exact u b (by simpa using z)
def Tq{s:Sk}{f:DF}(h:PE X e (Oe X.K Z s f)):PE X e (tP X.K Z f):=h.imp <|by
 rintro t H Q ⟨G,m,d,p,i,q,k⟩;refine⟨G,m,d,p,i,q,λv j r l E n u c=>k v (jW r l j) l ⟨E.hh,E.gg.trans (qb λb a=>(c b a).1),nP E.gh,λb o e =>?_⟩ (n.frozen (λb a=>(c b a).1) λb a=>a)⟩;by_cases a:b∈j
 ·exact .inr (c b a).2
 ·rw[oq a]at e;exact E.fr b o e
def SR.X7{K:aT}{m:cA}{s:Sk}(S:SR K B Z G H t m)(C:i∈Z)(E:gc G H l n)(v:cE K l n s d (.ref a) k)(x:k.Nodup)(u:∀b∈k,l b=M/\H b=M)(c:∀a,(i,a)∉B.3)(y:A9 i∉Z\/∀d,m[i]? ≠ Y (Y d)):SR K B Z l n (t.set i (Y (.ref a))) (m.set i (Y (.obj s d))):=by
 obtain⟨F,W⟩:=S.ow;exact S.chg (F0:=[]) (S':=k) W C (λb f=>by cases f) E.gg E.gh (λb o e=>by rcases E.fr b o e with z|z;exact .inl z;exact .inr (.inl z)) (λb o _ e=>E.hh b o e)
  v x (λb f=>⟨(u b f).1,.inr (u b f).2⟩) (λb h=>absurd h (c b)) (λr p z=>by cases z) (λj q P g _ e=>by
   obtain⟨_,R,s0,U,X,w,T,Q,_⟩:=S.eB j i q P g e;rcases y with z|z
   ·exact absurd R z
   ·exact absurd Q (z _))
def sh(j:Nat)(c f:aJ)(l:Sk)(m:DF):DG:=λa=>(m a).bind λd=>(xR j a).bind λh=>match h.1,h.2 with
 |.fs n i,.ins e b k=>if (n=c/\e=c)/\Sk.yh (c_ i f) l=Z'/\b.length<999 then Y (.nx ((cG j a).set j (Y (.obj (.fs c i) (.ins c (iQ f d b k).1 (iQ f d b k).2))))) else M
 |_,_=>M
def SR.OE{K:aT}{v g:Hp}{X:St}{f:aJ}(S:SR K B Z G H X ρ)(hr:r∈Z)(hd:ρ[r]?=Y (Y (.obj (.fs c fk) (.ins c n U))))(E:gc G H v g)(o1:cE K v g (c_ fk f) d u S1)(nd1:S1.Nodup)(m:∀b∈S1,v b=M/\H b=M):
  ∃x C Q w,X[r]?=Y (Y (.ref x))/\iy K aP c=Y (Y (.ref C))/\g x=Y (.ins C Q (n.zip w))/\n.length=w.length /\
   SR K B Z v (cx g x (.ins C Q (lr f u (n.zip w)))) X ((cG r ρ).set r (Y (.obj (.fs c fk) (.ins c (iQ f d n U).1 (iQ f d n U).2)))):=by
 obtain⟨a,T,e1,ot,nd,nf,F,W,hF⟩:=S.tree hr hd;have inH:∀b∈T,∃o,H b=Y o:=λb l=>by obtain⟨o,s,_⟩:=ot.here b l;exact⟨o,s⟩
 have dj:∀b∈S1,b∉T:=λb l QQ=>by obtain⟨o,s⟩:=inH b QQ;rw[(m b l).2]at s;cases s
 obtain⟨x,C,Q,w,h1,h2,h3,h4,h5,h6,T',o2,W_,sub⟩:=ot.put (p:=[]) (f:=f) nd rfl rfl E.gg (λb _ o e=>E.hh b o e) o1 nd1 dj;cases h1;have hu:=kK (r:=r) hd (λq z=>by cases z);have S':=(S.ext E).IH (r:=r);have Wx:=W.ext E;have W':qp K B Z v g X (cG r ρ) F:=⟨λi d P e=>Wx.it i d P (bL e).1,λi d P e=>Wx.ok i d P (bL e).1,λi j d c P hj ei ej=>Wx.ap i j d c P hj (bL ei).1 (bL ej).1⟩;have gT:∀b∈T,v b=none:=λb l=>by rw[<- hF]at l;exact((Wx.ok r _ hr hd).2 b l).1
 have R:=S'.Gz (i:=r) (a:=a) (d' :=.obj (.fs c fk) (.ins c (iQ f d n U).1 (iQ f d n U).2)) (F0:=T) (S':=T') (G':=v) (H':=cx g a (.ins C Q (lr f u (n.zip w)))) W' hr (λb l=>⟨by rw[hF];exact l,_,hu⟩) (bC.refl _) (λb o e=>by
   have t:b≠a:=λz=>by rw[z,gT a h2]at e;cases e
   rw[aM t];exact E.gh b o e) (λb o e =>.inl e) (λb o l e=>by
   have t:b≠a:=λz=>l (z ▸ h2)
   rw[aM t];exact e) o2 W_ (λb l=>by
   rcases sub b l with z|z
   ·exact⟨gT b z,.inl z⟩
   ·refine⟨(m b z).1,.inr (.inr ⟨S.h0.free (m b z).2,λk c hk ek JE Y2 =>?_⟩)⟩;obtain⟨y,f1,f2⟩:=W.it k c hk (bL ek).1;obtain⟨o,s⟩:=f2.here b Y2;rw[(m b z).2]at s;cases s) (λb h=>by have:=(S.pin r b h).2;rw[e1]at this;cases this;rfl) (λr p z=>by cases z)
  (λj p _ _ _ e=>absurd rfl ((bL e).2 p))
 have R:=R.1;rw[gf e1]at R;exact⟨a,C,Q,w,e1,h3,E.hh _ _ h4,h6,R⟩
def MU{c f:aJ}{s1:Sk}(h:PE X (.Name x p) (iB j))(P:PE X e (Oe X.K Z s1 q))(n:sS X.K c f)(J:autoParam (j∈Z) Ű)(K:autoParam (cj e (Y (.Attribute (.Name x p) f A)) g.line X.env=dP false) Ų):PS X (.Assign [.Attribute (.Name x p) f A] e g) (iC X.K B I Z Z (sh j c f s1 q)):=(B1 h P K).imp <|by
 rintro D σ H ⟨G,l,o,S,a,k⟩;unfold sh at a;obtain⟨d,ef,a⟩:=aa.1 a;rcases i:xR j l with _|⟨s,t⟩
 ·simp[i]at a
 simp only[i,ae]at a;split at a
 ·rename_i c' fk Zv ks ds;split at a
  ·rename_i F;obtain⟨⟨rfl,rfl⟩,b,z⟩:=F;cases a;have Q:=ml i;refine⟨G,l,d,S.gh,S.iX,ef,λv S1 G' H' E m y w =>?_⟩;rw[<- Sk.qP b]at m;obtain⟨u,C,dx,vs,f1,r,U,T,R⟩:=S.OE J Q E m y w;refine⟨_,f1,u,C,dx,_,rfl,U,(n C r).1,(n C r).2,?_,k _ G' _ R⟩;rw[uS T];omega
  ·cases a
 ·cases a
end
def r8(c f:aJ)(j:Nat)(A:cA):Option (List (aJ×Sk)×List aJ×List D×D):=(xR j A).bind λb=>match b.1,b.2 with
 |.fs k i,.ins a d e=>if k=c/\a=c then (BE f d).bind λn=>(e[n]?).map λh=>(i,d,e,h) else M
 |_,_=>M
def nN{f:aJ}{m:List D}(h:r8 c f j A=Y (a,e,m,o)):A[j]?=Y (Y (.obj (.fs c a) (.ins c e m)))/\ma [.fld f] (.fs c a)=Y (c_ a f)/\fx [.fld f] (.ins c e m)=Y o:=by
 unfold r8 at h;rcases i:xR j A with _|⟨s,t⟩
 ·rw[i]at h;cases h
 rw[i]at h;simp only[ae]at h;split at h
 ·rename_i u q r d l;split at h
  ·rename_i p;obtain⟨rfl,rfl⟩:=p;rcases b:BE f d with _|n
   ·simp[b]at h
   rcases k:l[n]? with _|y
   ·simp[b,k]at h
   simp only[b,k,ae,bP,gz,Ae]at h;obtain⟨rfl,rfl,rfl,rfl⟩:=h;exact⟨ml i,rfl,by simp[fx,b,k]⟩
  ·cases h
 ·cases h
abbrev yO(c f:aJ)(b:List (aJ×Sk))(a:List aJ)(d:List D)(x:D):D :=.obj (.fs c b) (mm x [.fld f] (.ins c a d))
section
variable {K:aT}
theorem SR.JH{f:aJ}{s:List (aJ×Sk)}{v:List D}(S:SR K B Z G H J A)(p:r∈Z)(q:A[r]?=Y (Y (.obj (.fs c s) (.ins c e v))))(t:J[r]?=Y (Y (.ref a)))(b:gC H [.fld f] (.ref a)=Y x):
  ∃C d h,iy K aP c=Y (Y (.ref C))/\H a=Y (.ins C d h)/\h.lookup f=Y x:=by
 obtain⟨y,T,k,o,_⟩:=S.tree p q;rw[t]at k;cases k;cases o with
 |@ins _ _ _ _ _ C d m z n i l w=>refine⟨C,d,_,n,i,?_⟩;simp only[gC,i]at b;obtain⟨u,j,b⟩:=aa.1 b;rw[j];simp at b;rw[b]
def SR.AK{p:zP}{s:Sk}(S:SR K B Z G H J A)(E:r∈Z)(F:A[r]?=Y (Y (.obj s t)))(g:ma p s=Y j)(I:fx p t=Y n):
  ∃a x f,J[r]?=Y (Y (.ref a))/\gC H p (.ref a)=Y x/\cE K G H j n x f/\f.Nodup /\
   ∀(l:ax) (o:HO) (d:D) (c:List ax),l∈f->cE K G (cx H l o) j d x c->c.Nodup->(∀b∈c,b∈f)->SR K B Z G (cx H l o) J ((cG r A).set r (Y (.obj s (mm d p t)))):=by
 obtain⟨a,x,f,R,P,w,C,q,k⟩:=S.GA E F g I;refine⟨a,x,f,R,P,w,C,λl o d c v y m h=>k d c G _ ⟨y9 v,bC.refl _,λb u e =>?_,λb u e =>.inl e⟩ y m λb i=>⟨q b (h b i),.inl (h b i)⟩⟩;have i:b≠l:=λz=>by rw[z,q l v]at e;cases e
 rw[aM i];exact S.gh b u e
end
section
variable {X:Cx}
def Hg(j:Nat)(c f:aJ)(b:DF):DG:=λA=>(r8 c f j A).bind λq=>(b A).bind λd=>match q.2.2.2 with
 |.lst a=>if Sk.yh (c_ q.1 f) (.li .lf)=Z'/\a.length<eC then Y (.nx ((cG j A).set j (Y (yO c f q.1 q.2.1 q.2.2.1 (.lst (a++[d])))))) else M
 |_=>M
def Xs{c f:aJ}(h:PE X (.Name x p) (iB j))(he:PE X e (tP X.K Z fe))(hc:sS X.K c f)(hj:autoParam (j∈Z) Ű)(SO:autoParam (b_ (.Name x p) f X.env (eval (.Name x p) X.env)=eval (.Name x p) X.env) Ų)(s:autoParam (b_ (.Attribute (.Name x p) f I) "append" X.env (eval (.Attribute (.Name x p) f I) X.env)=eval (.Attribute (.Name x p) f I) X.env) Ų) (u:autoParam (((cn N (ao (e::[]) X.env)).all (λx=> !x.1)&&(gG N (dh [] X.env)).all (λx=>x.1.isSome)
   && decide ((e::[]).length+([]:List nV).length+(if ([]:List nV).isEmpty then 0 else 1)<30))=true) Ų) (q:autoParam ((U.endLine==N.line)=true) Ų) (hs:autoParam (ao (e::[]) X.env=(Z_,eval e X.env)::ao [] X.env) Ų) (m:autoParam ((cn N (ao [] X.env)).any (·.1)=false) Ų) (hsw:autoParam (cj (.Call (.Attribute (.Attribute (.Name x p) f I) "append" U) [e] [] N) M L.line X.env=dP false) Ų) :
  PS X (.Expr (.Call (.Attribute (.Attribute (.Name x p) f I) "append" U) [e] [] N) L) (iC X.K B Q Z Z (Hg j c f fe)):=
 (mf (xc fX PySem.F.slot_list_append PySem.F.type_list_append kO (so h SO) (bT he dn hs) s u q hs m) hsw).imp <|by
  rintro D J H ⟨G,A,o,S,i,k⟩;unfold Hg at i;obtain⟨⟨fk,ks,ds,t1⟩,et,i⟩:=aa.1 i;rcases ef:fe A with _|d
  ·simp[ef]at i
  simp only[ef,ae]at i;split at i
  ·rename_i xs;split at i
   ·rename_i hz;cases i;obtain⟨hd,i1,i2⟩:=nN et;rw[Sk.qP hz.1]at i1;obtain⟨a,y,T1,e1,e2,o1,nd,_⟩:=S.AK hj hd i1 i2;obtain⟨C,dx,fs,n,f1,f2⟩:=S.JH hj hd e1 e2;cases o1 with
    |@lst _ _ l vs S0 hl tt=>
     refine⟨_,e1,a,C,dx,fs,_,rfl,f1,(hc C n).1,(hc C n).2,f2,.inl ⟨rfl,vs,.of hl⟩,G,A,d,S.gh,S.iX,ef,λv G' H' E r =>?_⟩;have S':=S.ext E;obtain⟨a',y',T1',F,w,g,R,k'⟩:=S'.AK hj hd i1 i2;rw[e1]at F;cases F;rw[jF E.hh e2]at w;cases w;obtain⟨x',K,g1,g2,g3,g4,T2,o2,P,t⟩:=g.app (p:=[]) (d:=d) (u:=v) (S1:=[]) R rfl rfl (bC.refl _) (λ_ _ _ z=>z) (.leaf r) Ž (λb hb=>by cases hb);cases g1;refine⟨l,K,v,rfl,rfl,g3,?_,k _ G' _ (k' l _ _ T2 g2 o2 P λb hb =>?_)⟩
     ·rw[<- g4];exact bx hz.2 ia
     ·rcases t b hb with z|z
      ·exact z
      ·cases z
   ·cases i
  ·cases i
noncomputable def ql(k:lL)(d:D)(a:List lL)(b:List D):List lL×List D:=if (a.any λq=>decide (q=k))=Z' then (a,vE (λq x=>if q=k then d else x) a b) else (a++[k],b++[d])
theorem Ik:∀ {ks:List lL}{a:List V},ks.length=a.length->((ks.zip a).any λb=>decide (b.1=k))=ks.any λq=>decide (q=k)
 |[],a,h=>by simp
 |q::ks,[],h=>by simp at h
 |q::ks,v::a,h=>by simp only[cb,px];rw[Ik (ks:=ks) (by simpa using h)]
theorem Hw{v:V}:∀ {ks:List lL}{a:List V},(ks.zip a).map (λb=>if b.1=k then (b.1,v) else b)=ks.zip (vE (λq x=>if q=k then v else x) ks a)
 |[],a=>by simp
 |q::ks,[]=>by simp
 | q::ks,u::a=>by
  simp only[cb,bh,vD,Hw (ks:=ks)];by_cases h:q=k
  ·simp[h]
  ·simp[h]
theorem va{K:aT}{v:V}(r:cJ K G d v):∀ {b:List lL}{e:List D}{a:List V},bE K G e a->bE K G (vE (λq x=>if q=k then d else x) b e) (vE (λq x=>if q=k then v else x) b a)
 |[],e,a,h=>by simp;exact .nil
 |q::b,[],a,h=>by rw[cP.mp h];simp;exact .nil
 | q::b,x::e,a,h=>by
  obtain⟨u,j,rfl,i,f⟩:=bH.mp h;simp only[vD];refine .cons ?_ (va r f);by_cases c:q=k
  ·rw[if_pos c,if_pos c];exact r
  ·rw[if_neg c,if_neg c];exact i
def PQ{K:aT}{k:lL}{v:V}{f:List V}(r:cJ K G d v)(j:a.length=b.length)(i:bE K G b f):∃c,wW (a.zip f) k v=(ql k d a b).1.zip c/\(ql k d a b).1.length=(ql k d a b).2.length/\bE K G (ql k d a b).2 c:=by
 have e:a.length=f.length:=by rw[j,i.length]
 unfold wW ql;rw[Ik e];by_cases h:(a.any λq=>decide (q=k))=Z'
 ·rw[if_pos h,if_pos h];exact⟨_,Hw,by simp[j],va r i⟩
 ·rw[if_neg h,if_neg h];refine⟨f++[v],?_,by simp[j],i.append (.cons r .nil)⟩;rw[List.zip_append e];rfl
def qC(j:Nat)(c f:aJ)(e:DF)(h:DM):DG:=λA=>(h A).bind λw=>(r8 c f j w.2).bind λq=>(e w.2).bind λy=>(Ca y).bind λb=>match q.2.2.2 with
 |.iZ a d=>if Sk.yh (c_ q.1 f) .di=Z'/\a.length<eC then Y (.nx ((cG j w.2).set j (Y (yO c f q.1 q.2.1 q.2.2.1 (.iZ (ql b w.1 a d).1 (ql b w.1 a d).2))))) else M
 |_=>M
def Es{c f:aJ}(P:X.A.units+1<rP)(h:PE X (.Name x p) (iB j))(hi:PE X i (tP X.K Z fk))(he:PE X e (tM X.K B Z fe))(hc:sS X.K c f)(R:autoParam (j∈Z) Ű)(SO:autoParam (b_ (.Name x p) f X.env (eval (.Name x p) X.env)=eval (.Name x p) X.env) Ų)(hs:autoParam (cj e (Y (.Subscript (.Attribute (.Name x p) f I) i O)) L.line X.env=dP false) Ų):
  PS X (.Assign [.Subscript (.Attribute (.Name x p) f I) i O] e L) (iC X.K B Q Z Z (qC j c f fk fe)):=(OI P (so h SO) hi he hs).imp <|by
 rintro D J H ⟨G,A,o,S,b,k⟩;unfold qC at b;obtain⟨⟨d,l⟩,ef,b⟩:=aa.1 b;obtain⟨⟨fk',ks0,ds0,t1⟩,et,b⟩:=aa.1 b;rcases w:fk l with _|y
 ·simp[w]at b
 rcases m:Ca y with _|ky
 ·simp[w,m]at b
 simp only[w,m,ae]at b;split at b
 ·rename_i ks ds;split at b
  ·rename_i hz;cases b;obtain⟨hd,g,i2⟩:=nN et;rw[Sk.qP hz.1]at g;refine⟨G,A,d,l,S,ef,λv G1 H1 t s1 rv =>?_⟩;obtain⟨a,y',T1,e1,e2,o1,nd,_⟩:=t.AK R hd g i2;obtain⟨C,dx,fs,n,f1,f2⟩:=t.JH R hd e1 e2;refine⟨_,e1,a,C,dx,fs,_,rfl,f1,(hc C n).1,(hc C n).2,f2,G1,l,y,t.gh,t.iX,w,λu G2 H2 E2 ru =>?_⟩;have P:=vk m (.inl ru:jX X.K G2 H2 y u);have S2:=t.ext E2;obtain⟨a',y2,T2,s,r,o2,K,k2⟩:=S2.AK R hd g i2;rw[e1]at s;cases s;rw[jF E2.hh e2]at r;cases r;obtain⟨x',vs,g1,g2,g3,g4,g5,g6⟩:=o2.dput (p:=[]) K rfl rfl (bC.refl _) (λ_ _ _ z=>z);cases g1;obtain⟨E,z1,z2,z3⟩:=PQ (k:=ky) (cJ.mono E2.gg d rv) g4 g5;obtain⟨T3,o3,F,q⟩:=g6 _ _ E z2 z3;refine⟨x',_,rfl,?_,k _ G2 _ (k2 x' _ _ T3 g2 o3 F q)⟩;rw[P,<- z1];refine Nt.k g3 ?_;rw[List.length_zip,g4,g5.length,Ql,<- g5.length,<- g4];exact bx hz.2 ia
  ·cases b
 ·cases b
def sj(i j:Nat)(c f:aJ)(b:DF):DG:=λA=>(r8 c f j A).bind λq=>(b A).bind λy=>match c_ q.1 f,q.2.2.2,y with
 |.li (.fs _ _),.lst a,.int n=>(Cc a.length n).map λk =>.nx (A.set i (Y (.eB j [.fld f,.ix k])))
 |_,_,_=>M
def Xt{i:Nat}{c f:aJ}{b:Expr}(hN:X.N.Nodup)(hy:X.N[i]?=Y y)(hly:Loc X.env.scope y)(h:PE X (.Name x p) (iB j))(he:PE X b (tP X.K Z fe))(hc:sS X.K c f)(N:autoParam (j∈Z) Ű)(hj2:autoParam (A9 j∈Z) Ű)(hi:autoParam (i∈Z) Ű)(hi2:autoParam (A9 i∉Z) Ű)(Uw:autoParam (j≠i) Ű)(s:autoParam (∀a,(i,a)∉B.3) ū)(hal:autoParam (f∈EG) Ű)(SO:autoParam (b_ (.Name x p) f X.env (eval (.Name x p) X.env)=eval (.Name x p) X.env) Ų)(hpi:autoParam (CT b) Ŧ)(hs:autoParam (cj (.Subscript (.Attribute (.Name x p) f I) b q) (Y (.Name y O)) L.line X.env=dP false) Ų)(hf:autoParam (X.fn y=Z'\/X.env.scope.names.lookup y=Y .local) ŭ):
  PS X (.Assign [.Name y O] (.Subscript (.Attribute (.Name x p) f I) b q) L) (iC X.K B Q Z Z (sj i j c f fe)):=(iF hN hy hly (ri vl (so h SO) he hpi) hs hf).imp <|by
 rintro D J H ⟨G,A,o,S,e,k⟩;unfold sj at e;obtain⟨⟨fk,ks,ds,t1⟩,et,e⟩:=aa.1 e;rcases ef:fe A with _|d
 ·simp[ef]at e
 simp only[ef,ae]at e;split at e
 ·rename_i c2 t xs n w;rcases R:Cc xs.length n with _|m
  ·rw[R]at e;cases e
  rw[R]at e;cases e;obtain⟨P,i1,i2⟩:=nN et;rw[w]at i1;obtain⟨a,y',T1,e1,e2,o1,nd,_⟩:=S.AK N P i1 i2;obtain⟨C,dx,fs,nn,f1,f2⟩:=S.JH N P e1 e2;refine⟨_,e1,a,C,dx,fs,_,rfl,f1,(hc C nn).1,(hc C nn).2,f2,G,A,_,S.gh,S.iX,ef,λv G' H' E r =>?_⟩;cases bU.mp r;have S':=S.ext E;obtain⟨a',y2,T2,K,F,o2,W_,k2⟩:=S'.AK N P i1 i2;rw[e1]at K;cases K;rw[jF E.hh e2]at F;cases F;cases o2 with
  |@lst _ _ l vs S0 hl tt=>
   have hm:m<xs.length:=(Cb R).2.1;obtain⟨v1,T3,U3,g1,g2,_⟩:=tt.at (n:=m) (s :=.fs c2 t) (by simp[hm]) (ba hm);obtain⟨b',o',rfl,g3,_⟩:=g2.root (λz=>by cases z);refine⟨l,vs,n,.ref b',rfl,rfl,.of hl,?_,k _ G' H' ?_⟩
   ·unfold oU;rw[<- tt.length.1,R];exact g1
   ·refine S'.Rw N hj2 hi Uw hi2 s P e1 (p:=[.fld f,.ix m]) (s' :=.fs c2 t) ?_ ?_ (λg hg =>?_)
    ·have:=jF E.hh e2;simp only[gC]at this ⊢;rcases ea:H' a with _|ob
     ·rw[ea]at this;cases this
     rw[ea]at this;cases ob<;>simp only at this ⊢<;>try (cases this;done)
     rename_i V5;obtain⟨u,el,this⟩:=aa.1 this;rw[el];simp at this;subst this;simp only[ae,gC,hl,g1]
    ·show (ma [.fld f,.ix m] (.fs c fk))=_;simp only[ma,w]
    ·simp[As]at hg;subst hg;exact hal
 ·cases e
end
section
variable {K:aT}{m:St}{g:cA}
def iV{i:Nat}(h:(g.set j M)[i]?=Y (Y d)):j≠i/\g[i]?=Y (Y d):=by
 by_cases e:j=i
 ·subst e;by_cases a:j<g.length
  ·rw[a_ a]at h;cases h
  ·rw[ib (by simpa using a)]at h;cases h
 ·rw[ai e]at h;exact⟨e,h⟩
def SR.blank(S:SR K B Z G H m g)(q:g[j]?=Y (Y d))(u:vm d=Z'):SR K B Z G H m (g.set j M):=by
 refine⟨S.gh,S.g0,S.h0,S.fr,λi c a e=>S.env i c a (iV e).2,?_,by simp[S.len],S.pin,λi r p y x e =>?_⟩
 ·obtain⟨F,W⟩:=S.ow;exact⟨F,λi d a e=>W.it i d a (iV e).2,λi d a e=>W.ok i d a (iV e).2,λi j d c a o Q P=>W.ap i j d c a o (iV Q).2 (iV P).2⟩
 ·obtain⟨s,O,n,k,l,w,h,f,C⟩:=S.eB i r p y x (iV e).2;have b:j≠r:=λz=>by subst z;rw[q]at f;cases f;cases u
  exact⟨s,O,n,k,l,w,h,by rw[ai b];exact f,C⟩
def SR.Sa{f:aJ}{X s:List D}(S:SR K B Z G H m g)(hr:r∈Z)(P:j∈Z)(YJ:r≠j)(hd:g[r]?=Y (Y (.obj (.fs c Q) (.ins c O U))))(E:ma [.fld f] (.fs c Q)=Y (.li (.fs n [])))(ep:fx [.fld f] (.ins c O U)=Y (.lst X))(h2:g[j]?=Y (Y (.ins n x s))):
  ∃a l y w,m[r]?=Y (Y (.ref a))/\gC H [.fld f] (.ref a)=Y (.ref l)/\m[j]?=Y (Y (.ref y))/\H l=Y (.lst w)/\X.length=w.length/\SR K B Z G (cx H l (.lst (w++[.ref y]))) m (((cG r g).set j M).set r (Y (yO c f Q O U (.lst (X++[.ins n x s]))))):=by
 obtain⟨a,T,e1,o1,nd,nf,F,W,hF⟩:=S.tree hr hd;obtain⟨y,e2,oc⟩:=W.it j _ P h2;obtain⟨⟨ob,oh,cell⟩,fj⟩:=(nF.cell (d :=.ins n x s) rfl).mp oc;obtain⟨_,fjn⟩:=W.ok j _ P h2;have yF:y∈F j:=by rw[fj];simp
 have yT:y∉T:=λz=>by rw[<- hF]at z;exact W.ap r j _ _ hr P hd h2 YJ y z yF
 have ou:cE K G H (.fs n []) (.ins n x s) (.ref y) [y]:=yR.mpr ⟨⟨ob,oh,cell⟩,rfl⟩;obtain⟨l,w,g1,g2,g3,g4,T',o2,W_,sub⟩:=o1.app (p:=[.fld f]) (d :=.ins n x s) (u :=.ref y) (S1:=[y]) nd E ep (bC.refl G) (λ_ _ _ z=>z) ou Ž (λb u=>by simp at u;subst u;exact yT);refine⟨a,l,y,w,e1,g1,e2,g3,g4,?_⟩;have hu:=kK (r:=r) hd (λq z=>by cases z);have VU:=kK (r:=r) h2 (λq z=>by cases z);have S0:=(S.IH (r:=r)).blank VU rfl;have hr0:((cG r g).set j M)[r]?=Y (Y (.obj (.fs c Q) (.ins c O U))):=by rw[ai (bF YJ)];exact hu
 have W0:qp K B Z G H m ((cG r g).set j M) F:=⟨λi d hi e=>W.it i d hi (bL (iV e).2).1,λi d hi e=>W.ok i d hi (bL (iV e).2).1,λi j d c hi P ei ej=>W.ap i j d c hi P (bL (iV ei).2).1 (bL (iV ej).2).1⟩;have R:=(S0.Gz (i:=r) (a:=a) (d':=yO c f Q O U (.lst (X++[D.ins n x s]))) (F0:=T) (S':=T') (G':=G) (H':=cx H l (.lst (w++[V.ref y]))) W0 hr (λb u=>⟨by rw[hF];exact u,_,hr0⟩) (bC.refl _) (λb o e=>by
   have C:b≠l:=λz=>by rw[z,(nf l g2).1]at e;cases e
   rw[aM C];exact S.gh b o e) (λb o e =>.inl e) (λb o u e=>by
   have C:b≠l:=λz=>u (z ▸ g2)
   rw[aM C];exact e) (show nF K G (cx H l (.lst (w++[V.ref y]))) (yO c f Q O U (.lst (X++[D.ins n x s]))) a T' from o2) W_ (λb u=>by
   rcases sub b u with z|z
   ·exact⟨(nf b z).1,.inl z⟩
   ·simp at z;subst z;refine⟨(fjn b yF).1,.inr (.inr ⟨(fjn b yF).2,λk c hk ek JE Y2 =>?_⟩)⟩;obtain⟨Xe,ek⟩:=iV ek;exact W.ap j k _ c P hk h2 (bL ek).1 Xe b yF Y2) (λb h=>by have:=(S.pin r b h).2;rw[e1]at this;cases this;rfl) (λr p z=>by cases z)
  (λj' p _ _ _ e=>absurd rfl ((bL (iV e).2).2 p))).1
 rwa [gf e1]at R
def SR.O3{f:aJ}(S:SR K B Z G H m g)(hr:r∈Z)(hj:j∈Z)(YJ:r≠j)(hd:g[r]?=Y (Y (.obj (.fs c fk) (.ins c ks ds))))(E:ma [.fld f] (.fs c fk)=Y (.li (.fs c2 [])))(ep:fx [.fld f] (.ins c ks ds)=Y (.lst (xs++[.ins c2 k2 d2])))(U:∀a,(j,a)∉B.3)(hm:A9 j∉Z):
  ∃a l y P,m[r]?=Y (Y (.ref a))/\gC H [.fld f] (.ref a)=Y (.ref l)/\H l=Y (.lst (P++[.ref y]))/\SR K B Z G (cx H l (.lst P)) (m.set j (Y (.ref y))) (((cG r g).set r (Y (yO c f fk ks ds (.lst xs)))).set j (Y (.ins c2 k2 d2))):=by
 obtain⟨a,T,e1,o1,nd,nf,F,W,hF⟩:=S.tree hr hd;obtain⟨l,P,u,g1,g2,g3,g4,T',S1,o2,o3,pm⟩:=o1.Yi (p:=[.fld f]) nd E ep;have hu:=kK (r:=r) hd (λq z=>by cases z);have W0:qp K B Z G H m (cG r g) F:=⟨λi d X e=>W.it i d X (bL e).1,λi d X e=>W.ok i d X (bL e).1,λi j d c X hj ei ej=>W.ap i j d c X hj (bL ei).1 (bL ej).1⟩;have Q:=pm.nodup_iff.mpr nd;rw[iR]at Q;obtain⟨n1,n2,n3⟩:=Q;have T'T:∀b∈T',b∈T:=λb n=>pm.subset (bj _ n)
 have O:∀b∈S1,b∈T:=λb n=>pm.subset (aG _ n)
 have R:=(S.IH (r:=r)).Gz (i:=r) (a:=a) (d':=yO c f fk ks ds (.lst xs)) (F0:=T) (S':=T') (G':=G) (H':=cx H l (.lst P)) W0 hr (λb n=>⟨by rw[hF];exact n,_,hu⟩) (bC.refl _) (λb o e=>by
   have s:b≠l:=λz=>by rw[z,(nf l g2).1]at e;cases e
   rw[aM s];exact S.gh b o e) (λb o e =>.inl e) (λb o n e=>by
   have s:b≠l:=λz=>n (z ▸ g2)
   rw[aM s];exact e) o2 n1 (λb n=>⟨(nf b (T'T b n)).1,.inl (T'T b n)⟩) (λb h=>by have:=(S.pin r b h).2;rw[e1]at this;cases this;rfl) (λr p z=>by cases z)
  (λj' p _ _ _ e=>absurd rfl ((bL e).2 p))
 rw[gf e1]at R;obtain⟨Sr,Wr⟩:=R;obtain⟨y,ob,rfl,hy,hyS⟩:=o3.root (λz=>by cases z);obtain⟨⟨o4,oh,cell⟩,s1⟩:=yR.mp o3;subst s1;have R2:=(Sr.Gz (i:=j) (a:=y) (d' :=.ins c2 k2 d2) (F0:=[]) (S':=[y]) (G':=G) (H':=cx H l (.lst P)) Wr hj (λb n=>by cases n) (bC.refl _) Sr.gh (λb o e =>.inl e) (λb o _ e=>e)
  ((nF.cell rfl).mpr ⟨⟨o4,oh,cell⟩,rfl⟩) Ž (λb n=>by
   have C:=n;simp at n;subst n;refine⟨(nf b (O b C)).1,.inr (.inr ⟨(nf b (O b C)).2,λk cc hk ek JE x =>?_⟩)⟩;by_cases w:k=r
   ·subst w;simp only[if_true]at x;exact n3 b x b C rfl
   ·simp only[if_neg w]at x;rw[ai (bF w)]at ek;exact W.ap r k _ cc hr hk hd (bL ek).1 (bF w) b (by rw[hF];exact O b C) x) (λb h=>absurd h (U b)) (λr p z=>by cases z)
  (λj' p h1 h2 _ e=>by obtain⟨_,g0,_⟩:=Sr.eB j' j p h1 h2 e;exact absurd g0 hm)).1
 exact⟨a,l,y,P,e1,g1,g3,R2⟩
end
section
variable {X:Cx}{s v:Pos}
def yL(j i:Nat)(c f:aJ):DG:=λg=>(r8 c f j g).bind λq=>(eV i g).bind λd=>match q.2.2.2,d with
 |.lst a,.ins b e h=>if Sk.yh (c_ q.1 f) (.li (.fs b []))=Z'/\a.length<eC then Y (.nx (((cG j g).set i M).set j (Y (yO c f q.1 q.2.1 q.2.2.1 (.lst (a++[.ins b e h])))))) else M
 |_,_=>M
def MR{i:Nat}{c f:aJ}(h:PE X (.Name x p) (iB j))(hy:PE X (.Name y v) (iB i))(U:sS X.K c f)(R:autoParam (j∈Z) Ű)(hi:autoParam (i∈Z) Ű)(z:autoParam (j≠i) Ű)(F:autoParam (b_ (.Name x p) f X.env (eval (.Name x p) X.env)=eval (.Name x p) X.env) Ų)(r:autoParam (b_ (.Attribute (.Name x p) f s) "append" X.env (eval (.Attribute (.Name x p) f s) X.env)=eval (.Attribute (.Name x p) f s) X.env) Ų) (u:autoParam (((cn t (ao ((.Name y v)::[]) X.env)).all (λx=> !x.1)&&(gG t (dh [] X.env)).all (λx=>x.1.isSome)
   && decide (((.Name y v:Expr)::[]).length+([]:List nV).length+(if ([]:List nV).isEmpty then 0 else 1)<30))=true) Ų) (q:autoParam ((A.endLine==t.line)=true) Ų) (Q:autoParam (ao ((.Name y v)::[]) X.env=(Z_,eval (.Name y v) X.env)::ao [] X.env) Ų) (e:autoParam ((cn t (ao [] X.env)).any (·.1)=false) Ų) (w:autoParam (cj (.Call (.Attribute (.Attribute (.Name x p) f s) "append" A) [.Name y v] [] t) M I.line X.env=dP false) Ų) :
  PS X (.Expr (.Call (.Attribute (.Attribute (.Name x p) f s) "append" A) [.Name y v] [] t) I) (iC X.K B J Z Z (yL j i c f)):=
 (mf (xc fX PySem.F.slot_list_append PySem.F.type_list_append kO (so h F) (bT hy dn Q) r u q Q e) w).imp <|by
  rintro D m H ⟨G,g,o,S,b,k⟩;unfold yL at b;obtain⟨⟨fk,ks,ds,t1⟩,et,b⟩:=aa.1 b;rcases K:eV i g with _|d
  ·simp[K]at b
  simp only[K,ae]at b;split at b
  ·rename_i xs c2 k2 d2;split at b
   ·rename_i P;cases b;obtain⟨T,O,i2⟩:=nN et;rw[Sk.qP P.1]at O;obtain⟨a,l,y,E,e1,e2,e3,e4,e5,S'⟩:=S.Sa R hi z T O i2 (iN K);obtain⟨C,dx,fs,n,f1,f2⟩:=S.JH R T e1 e2;refine⟨_,e1,a,C,dx,fs,_,rfl,f1,(U C n).1,(U C n).2,f2,.inl ⟨rfl,E,.of e4⟩,_,e3,l,E,_,rfl,rfl,e4,?_,k _ G _ S'⟩;rw[<- e5];exact bx P.2 ia
   ·cases b
  ·cases b
def DJ(i j:Nat)(c f:aJ):DG:=λg=>(r8 c f j g).bind λq=>match q.2.2.2 with
 | .lst a=>(a.getLast?).bind λd=>match d with
  |.ins b e h=>if Sk.yh (c_ q.1 f) (.li (.fs b []))=Z' then Y (.nx (((cG j g).set j (Y (yO c f q.1 q.2.1 q.2.2.1 (.lst a.dropLast)))).set i (Y (.ins b e h)))) else M
  |_=>M
 |_=>M
def Pp{i:Nat}{c f:aJ}(hN:X.N.Nodup)(hy:X.N[i]?=Y y)(w:Loc X.env.scope y)(h:PE X (.Name x p) (iB j))(T:sS X.K c f)(Q:autoParam (j∈Z) Ű)(hi:autoParam (i∈Z) Ű)(z:autoParam (j≠i) Ű)(r:autoParam (∀a,(i,a)∉B.3) ū)(hm:autoParam (A9 i∉Z) Ű)(F:autoParam (b_ (.Name x p) f X.env (eval (.Name x p) X.env)=eval (.Name x p) X.env) Ų)(q:autoParam (b_ (.Attribute (.Name x p) f s) "pop" X.env (eval (.Attribute (.Name x p) f s) X.env)=eval (.Attribute (.Name x p) f s) X.env) Ų)(e:autoParam ((A.endLine==t.line)=true) Ų)(hs:autoParam (cj (.Call (.Attribute (.Attribute (.Name x p) f s) "pop" A) [] [] t) (Y (.Name y L)) I.line X.env=dP false) Ų)(hf:autoParam (X.fn y=Z'\/X.env.scope.names.lookup y=Y .local) ŭ):
  PS X (.Assign [.Name y L] (.Call (.Attribute (.Attribute (.Name x p) f s) "pop" A) [] [] t) I) (iC X.K B J Z Z (DJ i j c f)):=
 (iF hN hy w (LB fX PySem.F.slot_list_pop PySem.F.type_list_pop L1 (so h F) q e) hs hf).imp <|by
  rintro D m H ⟨G,g,o,S,b,k⟩;unfold DJ at b;rcases K:r8 c f j g with _|⟨fk,ks,ds,t1⟩
  ·rw[K]at b;cases b
  rw[K]at b;simp only[ae]at b;split at b
  ·rename_i u;rcases v:u.getLast? with _|d
   ·rw[v]at b;cases b
   rw[v]at b;simp only[ae]at b;split at b
   ·rename_i c2 k2 d2;split at b
    ·rename_i hz;cases b;obtain⟨R,P,O⟩:=nN K;rw[Sk.qP hz]at P;have hx:u=u.dropLast++[.ins c2 k2 d2]:=by obtain⟨ys,rfl⟩:=Kq.mp v;simp
     rw[hx]at O;obtain⟨a,l,y,us,e1,e2,U,S'⟩:=S.O3 Q hi z R P O r hm;obtain⟨C,dx,fs,n,f1,f2⟩:=S.JH Q R e1 e2;refine⟨_,e1,a,C,dx,fs,_,rfl,f1,(T C n).1,(T C n).2,f2,.inl ⟨rfl,_,.of U⟩,l,_,.ref y,rfl,rfl,U,Ž,?_⟩;rw[xO];exact k _ G _ S'
    ·cases b
   ·cases b
  ·cases b
end
inductive spT (K:aT) (s:Sk) (F:List D->Option (D×D)) (j:List V) (H:Hp) (Q:VK) (_x:XK):Prop
 |mk G t g d i a T h:bC G H->j=.ref a::h->cE K G H s t (.ref a) T->T.Nodup->(∀b∈T,G b=none)->bE K G g h->F (t::g)=some (d,i)->(∀v e c f,gc G (jf H T) c f->cE K c f s i (.ref a) e->e.Nodup->(∀b∈e,c b=none/\(b∈T\/H b=none))->cJ K c d v->Q v f)->spT K s F j H Q _x
inductive K0 (K:aT) (s:Sk) (F:List D->Option (List D×D)) (k:List V) (H:Hp) (Q:VK) (_x:XK):Prop
 |mk G t f j i a T h:bC G H->k=.ref a::h->cE K G H s t (.ref a) T->T.Nodup->(∀b∈T,G b=none)->bE K G f h->F (t::f)=some (j,i)->(∀q g d c e,gc G (jf H T) c e->cE K c e s i (.ref a) d->d.Nodup->(∀b∈d,c b=none/\(b∈T\/H b=none))->c q=none->(q∈T\/H q=none)->q∉d->e q=some (.lst g)->bE K c j g->Q (.ref q) e)->K0 K s F k H Q _x
inductive Ve (K:aT) (F:List D->Option D) (e:List V) (H:Hp) (Q:VK) (_x:XK):Prop
 |mk G c d:bC G H->bE K G c e->F c=some d->(∀q o b a,gc G H b a->H q=none->b q=none->a q=some o->jd K b d o->Q (.ref q) a)->Ve K F e H Q _x
def lO(s:Sk)(j:Nat)(b:cA):Option D:=(xR j b).bind λa=>if Sk.yh a.1 s=Z' then Y a.2 else M
def lT{s:Sk}(h:lO s j a=Y t):a[j]?=Y (Y (.obj s t)):=by
 unfold lO at h;obtain⟨⟨b,t'⟩,e,h⟩:=aa.1 h;split at h
 ·rename_i z;cases h;rw[<- Sk.qP z];exact ml e
 ·cases h
def mu(s:Sk):DO->Option (D×D)
 |.rm d a=>(lO s 0 a).map λt=>(d,t)
 |.nx a=>(lO s 0 a).map λt=>(.dg,t)
 |_=>M
def QI(s:Sk):DO->Option (List D×D)
 |.rf i a=>(lO s 0 a).bind λt=>(iW i a).map λb=>(b,t)
 |_=>M
def Ym:DO->Option D
 |.rf i a=>(eV i a).bind λd=>if vm d=Z' then Y d else M
 |_=>M
def mo(n N:Nat)(s:Sk)(g:DG)(b:List D):Option (D×D):=match b with
 |t::a=>if a.length+1=n then (g (ie N (.obj s t::a))).bind (mu s) else M
 |[]=>M
def Hi(n N:Nat)(s:Sk)(g:DG)(b:List D):Option (List D×D):=match b with
 |t::a=>if a.length+1=n then (g (ie N (.obj s t::a))).bind (QI s) else M
 |[]=>M
def Qc(n N:Nat)(g:DG)(a:List D):Option D:=if a.length=n then (g (ie N a)).bind Ym else M
section
variable {P:br}{K:aT}
def AQ{s:Sk}{f:List D}{T:List ax}(w:bC G H)(m:0∈Z)(h:cE K G H s t (.ref a) T)(k:T.Nodup)(j:∀b∈T,G b=M)(r:bE K G f g)(n:∀i∈Z,i=0\/f.length+1<=i):
  SR K ⟨G,jf H T,[(0,a)],x⟩ Z G H (start N (.ref a::g)) (ie N.length (.obj s t::f)):=
 AO (c :=.obj s t) (T:=T) w (λb o e=>by
  by_cases d:b∈T
  ·rw[nj d]at e;cases e
  ·rw[cQ d]at e;exact e) m rfl rfl h k (λb d=>⟨j b d,nj d⟩) (λr q z=>by cases z) (λi c p e=>by
   cases i with
   |zero=>exact absurd rfl p| succ i=>exact r.get (i:=i) (by simpa using e)) (by simp[r.length]) (by simpa using n)
def SR.SY{m:List Nat}{s:Sk}(r:SR K ⟨G,jf H T,[(0,a)],p⟩ m d i j e)(y:lO s 0 e=Y k):
  ∃c,cE K d i s k (.ref a) c/\c.Nodup/\(∀b∈c,d b=M/\(b∈T\/H b=M))/\∃F,qp K ⟨G,jf H T,[(0,a)],p⟩ m d i j e F/\F 0=c:=by
 obtain⟨g,f⟩:=r.pin 0 a Ž;obtain⟨z,c,q,t,w,n,F,W,x⟩:=r.tree g (lT y);rw[f]at q;cases q;refine⟨c,t,w,λb o=>⟨(n b o).1,?_⟩,F,W,x⟩;have:=(n b o).2;by_cases h:b∈T
 ·exact .inl h
 ·exact .inr (by simpa [cQ h] using this)
def gY.D4{f:ax}{N R:List aJ}(F:gY K x e p f fd)(S:bB N R (aA p))(s:Sk){Z Ź:List Nat}{g:DG}(hp:0∈Z)(C:∀i∈Z,i=0\/R.length<=i) (hb:∀(j:ak) (A:gI) (outer:List Env) (s:av) (H:Hp) (E:XK),eH k (A.deeper (qu e (aA p) s.heap.objs.size f j))->∀(B:Bs) (a:ax),B.3=[(0,a)] ->
   oV (qS gK P w K O U N e (aA p) f j A outer s H E).Ht (gx p) (iC K B [] Z Ź g)):bZ P w K O U gK (k+1) f fd R (spT K s (mo R.length N.length s g)):=by
 refine F.ok S (λvs H Q E h =>?_) (λj A outer s1 H vs Q E hr h =>?_)
 ·obtain⟨G,t,xs,d,X,a,T,us,gh,rfl,ot,nd,nf,r,b,_⟩:=h;simp only[mo]at b;split at b
  ·rename_i z;simp[<- r.length,z]
  ·cases b
 ·obtain⟨G,t,xs,d,X,a,T,us,gh,rfl,ot,nd,nf,r,b,q⟩:=h;simp only[mo]at b;split at b
  ·rename_i hn;refine⟨_,hb j A outer s1 H E hr ⟨G,jf H T,[(0,a)],λ_ _=>False⟩ a rfl,?_⟩;obtain⟨oo,eg,b⟩:=aa.1 b;refine⟨G,_,oo,AQ gh hp ot nd nf r (by rw[hn];exact C),eg,?_⟩;cases oo with
   |rm d' m=>have b:(lO s 0 m).map (λt=>(d',t))=Y (d,X):=b;obtain⟨y,o,b⟩:=au.1 b;cases b;intro v σ G' H' ⟨o',c⟩ rv;obtain⟨T',f1,f2,f3,_⟩:=c.SY o;exact q v T' G' H' c.mR f1 f2 f3 rv
   |nx m=>have b:(lO s 0 m).map (λt=>(D.dg,t))=Y (d,X):=b;obtain⟨y,o,b⟩:=au.1 b;cases b;intro σ G' H' c;obtain⟨T',f1,f2,f3,_⟩:=c.SY o;exact q _ T' G' H' c.mR f1 f2 f3 (gv.mpr rfl)
   |_=>cases b
  ·cases b
def gY.Yo{c:pK}{f:ax}(F:gY K x j c f fd)(S:bB N ps (aA c))(s:Sk){Z Ź:List Nat}{g:DG}(hp:0∈Z)(R:∀i∈Z,i=0\/ps.length<=i) (hb:∀(o:ak) (A:gI) (e:List Env) (s:av) (H:Hp) (E:XK),eH k (A.deeper (qu j (aA c) s.heap.objs.size f o))->∀(B:Bs) (a:ax),B.3=[(0,a)] ->
   oV (qS gK P w K O U N j (aA c) f o A e s H E).Ht (gx c) (iC K B [] Z Ź g)):bZ P w K O U gK (k+1) f fd ps (K0 K s (Hi ps.length N.length s g)):=by
 refine F.ok S (λvs H Q E h =>?_) (λo A e s1 H vs Q E hr h =>?_)
 ·obtain⟨G,t,xs,d,t',a,T,us,gh,rfl,ot,nd,nf,r,b,_⟩:=h;simp only[Hi]at b;split at b
  ·rename_i z;simp[<- r.length,z]
  ·cases b
 ·obtain⟨G,t,xs,d,t',a,T,us,gh,rfl,ot,nd,nf,r,b,q⟩:=h;simp only[Hi]at b;split at b
  ·rename_i hn;refine⟨_,hb o A e s1 H E hr ⟨G,jf H T,[(0,a)],λ_ _=>False⟩ a rfl,?_⟩;obtain⟨oo,eg,b⟩:=aa.1 b;refine⟨G,_,oo,AQ gh hp ot nd nf r (by rw[hn];exact R),eg,?_⟩;cases oo with
   |rf i p=>
    have b:((lO s 0 p).bind λt=>(iW i p).map λds=>(ds,t))=Y (d,t'):=b;obtain⟨y,X,b⟩:=aa.1 b;obtain⟨ds,C,b⟩:=au.1 b;cases b;intro v σ G' H' ⟨o',hi,S'⟩ hv;obtain⟨T',f1,f2,f3,F',W,hF⟩:=S'.SY X;have m:=fH C;obtain⟨D,e1,oc⟩:=W.it i _ hi m;rw[hv]at e1;cases e1;obtain⟨⟨ob,oh,ws,rfl,rr⟩,fi⟩:=(nF.cell (d :=.lst d) rfl).mp oc;obtain⟨_,lQ⟩:=W.ok i _ hi m;have qi:D∈F' i:=by rw[fi];simp
    have hi0:i≠0:=λz=>by subst z;rw[lT X]at m;cases m
    refine q D ws T' G' H' S'.mR f1 f2 f3 (lQ D qi).1 ?_ ?_ oh rr
    ·have:=(lQ D qi).2;by_cases h:D∈T
     ·exact .inl h
     ·exact .inr (by simpa [cQ h] using this)
    ·intro z;rw[<- hF]at z;exact W.ap i 0 _ _ hi (S'.pin 0 a Ž).1 m (lT X) hi0 D qi z
   |_=>cases b
  ·cases b
def gY.Uu{f:ax}{c:eO}(F:gY K x j t f c)(S:bB N C (aA t)){Z Ź:List Nat}{g:DG}(z:∀i∈Z,C.length<=i) (hb:∀(m:ak) (A:gI) (e:List Env) (s:av) (H:Hp) (E:XK),eH k (A.deeper (qu j (aA t) s.heap.objs.size f m))->∀B:Bs,B.3=[] ->
   oV (qS gK P w K O U N j (aA t) f m A e s H E).Ht (gx t) (iC K B [] Z Ź g)):bZ P w K O U gK (k+1) f c C (Ve K (Qc C.length N.length g)):=by
 refine F.ok S (λX H Q E h =>?_) (λm A e s H X Q E hr h =>?_)
 ·obtain⟨G,ds,d,D,r,b,_⟩:=h;unfold Qc at b;split at b
  ·rw[<- r.length];assumption
  ·cases b
 ·obtain⟨G,ds,d,D,r,b,q⟩:=h;unfold Qc at b;split at b
  ·rename_i hl;refine⟨_,hb m A e s H E hr ⟨G,H,[],λ_ _=>False⟩ rfl,?_⟩;obtain⟨o,eg,b⟩:=aa.1 b;refine⟨G,_,o,uW D r (by rw[hl];exact z),eg,?_⟩;cases o with
   |rf i p=>
    have b:((eV i p).bind λd=>if vm d=Z' then Y d else M)=Y d:=b;obtain⟨y,el,b⟩:=aa.1 b;split at b
    ·rename_i hy;cases b;intro v σ G' H' ⟨o',hi,T⟩ hv;obtain⟨a,ob,R,e2,e3,e4,e5⟩:=T.LC hi (iN el) hy;rw[hv]at R;cases R;exact q a ob G' H' T.mR e5 e4 e2 e3
    ·cases b
   |_=>cases b
  ·cases b
end
section
variable {X:Cx}{v:Pos}
def bW(c m:aJ)(s:Sk)(F:List D->Option (D×D))(j:Nat)(g:J5):DM:=λb=>(xR j b).bind λd=>match d.1,d.2 with
 |.fs f _,.ins a e _=>if (f=c/\a=c)/\m∉e then (g b).bind λq=>(lO s j q.2).bind λt=>(F (t::q.1)).map λr=>(r.1,(cG j q.2).set j (Y (.obj s r.2))) else M
 |_,_=>M
def Ea{m:aJ}{s:Sk}{F:List D->Option (D×D)}{f:St}(n:iy X.K aP c=Y (Y (.ref C)))(r:j∈Z)(ht:∀f H Q,Rm X.K B Z g f H Q->t f H Q)(h:tM X.K B Z (bW c m s F j g) f H Q):AM C m (spT X.K s F) [] E0 (iB j) t f H Q:=by
 obtain⟨G,o,d,R,S,e,q⟩:=h;unfold bW at e;rcases x:xR j o with _|⟨s0,t0⟩
 ·rw[x]at e;cases e
 rw[x]at e;simp only[ae]at e;split at e
 ·rename_i c' fk Zv ks ds;split at e
  ·rename_i hz;obtain⟨⟨rfl,rfl⟩,hm⟩:=hz;rcases y:g o with _|⟨p,i⟩
   ·rw[y]at e;cases e
   rw[y]at e;simp only[ae]at e;rcases I:lO s j i with _|u
   ·rw[I]at e;cases e
   rw[I]at e;simp only[ae]at e;obtain⟨⟨d',t'⟩,eF,e⟩:=au.1 e;cases e;have hd:=ml x;obtain⟨a,T,z,ot,_⟩:=S.tree r hd;cases ot with
   |@ins _ _ _ _ _ C' dx vs S0 N ex l tt=>rw[n]at N;cases N;refine⟨_,z,a,dx,_,rfl,ex,kP (K:=X.K) (G:=G) hm,ht _ _ _ ⟨G,o,p,i,S,y,λK G1 H1 A s1 r1 =>?_⟩⟩;show spT X.K s F (.ref a::(K++[])) H1 Q E0;rw[bV];have k:=lT I;obtain⟨a1,T1,P,f2,f3,f4,F1,W1,w⟩:=A.tree r k;rw[z]at P;cases P;exact⟨G1,u,p,d',t',a,T1,K,A.gh,rfl,f2,f3,λb hb=>(f4 b hb).1,r1,eF,λv T' G' H' E nw nd nf rv=>q v G' H' (A.CF W1 w r k z E nw nd nf) (s1.trans E.gg) rv⟩
  ·cases e
 ·cases e
def UB{c m:aJ}{s:Sk}{F:List D->Option (D×D)}(h:fh X.prog X.w X.K X.mg X.base c m k (spT X.K s F))(g:eH k X.A)(i:PE X (.Name y p) (iB j))(r:autoParam (j∈Z) Ű) (e:autoParam (eval (.Call (.Attribute (.Name y p) m L) [] [] J) X.env=(do
   let a <- eval (.Name y p) X.env
   lN L.atName
   let (f,first) <- jr [a] (jm a m pl)
   nJ J f first (cn J (ao [] X.env)) (gG J (dh [] X.env)))) Ų):PE X (.Call (.Attribute (.Name y p) m L) [] [] J) (tM X.K B Z (bW c m s F j kZ)):=by
 obtain⟨C,f,K,E,n,t,o,x,w⟩:=h.ex;exact(vb (pl:=pl) i t o x g w .nil mq e).imp λb H Q q=>Ea n r (by rintro b H Q ⟨G,A,l,d,S,z,k⟩;cases z;exact k _ G H S (bC.refl _) .nil) q
def MY{c m:aJ}{s:Sk}{F:List D->Option (D×D)}{g:J5}(h:fh X.prog X.w X.K X.mg X.base c m k (spT X.K s F))(o:eH k X.A)(r:PE X (.Name y p) (iB j))(E:PA X (e::I) (Rm X.K B Z g))(w:autoParam (j∈Z) Ű)(a:autoParam (ao (e::I) X.env=(Z_,eval e X.env)::ao I X.env) Ų)(b:autoParam ((cn J (ao I X.env)).any (·.1)=false) Ų) (i:autoParam (eval (.Call (.Attribute (.Name y p) m L) (e::I) [] J) X.env=(do
   let d <- eval (.Name y p) X.env
   lN L.atName
   let (f,first) <- jr [d] (jm d m pl)
   nJ J f first (cn J (ao (e::I) X.env)) (gG J (dh [] X.env)))) Ų):PE X (.Call (.Attribute (.Name y p) m L) (e::I) [] J) (tM X.K B Z (bW c m s F j g)):=by
 obtain⟨C,f,N,l,n,x,t,G,A⟩:=h.ex;exact(x6 (pl:=pl) r x t G o A .nil mq E a b i).imp λK H Q q=>Ea n w (λ_ _ _ z=>z) q
def s_(c f k m:aJ)(h:Sk)(F:List D->Option (D×D))(j:Nat)(g:DL):DM:=λb=>(r8 c f j b).bind λz=>match z.2.2.2 with
 |.ins a d i=>if (Sk.yh (c_ z.1 f) h=Z'/\a=k)/\m∉d then (g b).bind λe=>(F (.ins a d i::e)).map λr=>(r.1,(cG j b).set j (Y (yO c f z.1 z.2.1 z.2.2.1 r.2))) else M
 |_=>M
def Jp{f o m:aJ}{e:List (aJ×Sk)}{F:List D->Option (D×D)}(n:iy X.K aP o=Y (Y (.ref C1)))(hc:sS X.K c f)(z:j∈Z)(ht:∀i H Q,Ag X.K Z g i H Q->t i H Q)(h:tM X.K B Z (s_ c f o m (.fs o e) F j g) i H Q):AM C1 m (spT X.K (.fs o e) F) [] E0 (U5 X.K (iB j) f) t i H Q:=by
 obtain⟨G,p,d,ρ',S,b,q⟩:=h;unfold s_ at b;rcases K:r8 c f j p with _|⟨fk,ks0,ds0,t0⟩
 ·rw[K]at b;cases b
 rw[K]at b;simp only[ae]at b;split at b
 ·rename_i k ks ds;split at b
  ·rename_i hz;obtain⟨⟨y,rfl⟩,hm⟩:=hz;rcases u:g p with _|r
   ·rw[u]at b;cases b
   rw[u]at b;simp only[ae]at b;rcases eF:F (.ins k ks ds::r) with _|⟨d',t'⟩
   ·rw[eF]at b;cases b
   rw[eF]at b;cases b;obtain⟨A,w,i2⟩:=nN K;rw[Sk.qP y]at w;obtain⟨a,x,T1,N,e2,o1,_⟩:=S.GA z A w i2;obtain⟨C,dx,fs,nn,f1,f2⟩:=S.JH z A N e2;cases o1 with
   |@ins _ _ _ _ s C' P vs S0 n' ex l tt=>rw[n]at n';cases n';refine⟨_,N,a,C,dx,fs,_,rfl,f1,(hc C nn).1,(hc C nn).2,f2,s,P,_,rfl,ex,kP (K:=X.K) (G:=G) hm,ht _ _ _ ⟨G,p,r,S.gh,S.iX,u,λT G1 H1 R r1 =>?_⟩⟩;show spT X.K (.fs k e) F (.ref s::(T++[])) H1 Q E0;rw[bV];have S1:=S.ext R;obtain⟨a1,x1,T2,g1,g2,g3,g4,g5,g6⟩:=S1.GA z A w i2;rw[N]at g1;cases g1;rw[jF R.hh e2]at g2;cases g2;exact⟨G1,_,r,d',t',s,T2,T,S1.gh,rfl,g3,g4,g5,r1,eF,λv T' G' H' E nw nd nf rv=>q v G' H' (g6 t' T' G' H' E nw nd nf) (R.gg.trans E.gg) rv⟩
  ·cases b
 ·cases b
def UA{c f m:aJ}{fk1:List (aJ×Sk)}{F:List D->Option (D×D)}(h:fh X.prog X.w X.K X.mg X.base a m k (spT X.K (.fs a fk1) F))(t:eH k X.A)(i:sS X.K c f)(w:PE X (.Name y p) (iB j))(K:PA X (e::I) (Ag X.K Z g))(A:autoParam (j∈Z) Ű)(o:autoParam (b_ (.Name y p) f X.env (eval (.Name y p) X.env)=eval (.Name y p) X.env) Ų)(b:autoParam (ao (e::I) X.env=(Z_,eval e X.env)::ao I X.env) Ų)(d:autoParam ((cn J (ao I X.env)).any (·.1)=false) Ų) (s:autoParam (eval (.Call (.Attribute (.Attribute (.Name y p) f l) m L) (e::I) [] J) X.env=(do
   let r <- eval (.Attribute (.Name y p) f l) X.env
   lN L.atName
   let (f,first) <- jr [r] (jm r m pl)
   nJ J f first (cn J (ao (e::I) X.env)) (gG J (dh [] X.env)))) Ų):PE X (.Call (.Attribute (.Attribute (.Name y p) f l) m L) (e::I) [] J) (tM X.K B Z (s_ c f a m (.fs a fk1) F j g)):=by
 obtain⟨C,S,R,P,n,E,x,u,G⟩:=h.ex;exact(x6 (pl:=pl) (so w o) E x u t G .nil mq K b d s).imp λN H Q q=>Jp n i A (λ_ _ _ z=>z) q
noncomputable def qQ(c:aJ)(F:List D->Option (D×D))(g:DL):DF:=λa=>(g a).bind λb=>(F (.ins c [] []::b)).bind λr=>match r.1 with|.dg=>Y r.2|_=>M
def XB{c:aJ}{fk:List (aJ×Sk)}{F:List D->Option (D×D)}{g:DL}(h:uK X.prog X.w X.K X.mg X.base c k (spT X.K (.fs c fk) F))(hr:eH (k+1) X.A)(hg:Gl X c)(ha:PA X (e::I) (Ag X.K Z g))(B:autoParam ((c==("__debug__" : aJ))=false) Ű)(he:autoParam (ao (e::I) X.env=(Z_,eval e X.env)::ao I X.env) Ų)(A:autoParam ((cn J (ao I X.env)).any (·.1)=false) Ų):PE X (.Call (.Name c p) (e::I) [] J) (Oe X.K Z (.fs c fk) (qQ c F g)):=by
 obtain⟨C,f,fd,ps,n,hm,hk,h1,a⟩:=h.ex;refine(B2 hk h1 hr hg hm a .nil mq ha B he A).imp ?_;rintro σ H Q ⟨G,ρ,d,gh,l,i,q⟩;unfold qQ at i;obtain⟨P,eg,i⟩:=aa.1 i;obtain⟨⟨d',c'⟩,eF,i⟩:=aa.1 i;cases d'<;>simp only[ae]at i<;>try (cases i;done)
 cases i;refine⟨G,ρ,P,gh,l,eg,λR N r w r1 x s m j ne =>?_⟩;show spT X.K (.fs c fk) F (.ref x::(R++[])) _ _ E0;rw[bV];have K:N x=none:=w.gh.free m;have s2:bC N (cx (cx r s (.Z x)) x (.ins C s [])):=w.gh.trans ((bC.alloc j).trans (.alloc (by rw[aM (bF ne)];exact m)));refine⟨N,.ins c [] [],P,.dg,_,x,[x],R,s2,rfl,.ins (ks:=[]) (vs:=[]) (S:=[]) n aX rfl .nil,Ž,(λb a=>by simp at a;subst a;exact K),r1,eF,λv T' G2 H2 t nw nd T rv=>⟨gv.mp rv,?_⟩⟩;have S:∀b o,r b=Y o->jf (cx (cx r s (.Z x)) x (.ins C s [])) [x] b=Y o:=λb o e=>by have a:b≠x:=bf e m;rw[cQ (by simpa using a),aM a,aM (bf e j)];exact e
 refine q (.ref x) T' G2 H2 (w.trans ⟨λb o e=>t.hh b o (S b o e),t.gg,t.gh,λb o e =>?_⟩) nw nd λb a=>⟨(T b a).1,?_⟩
 ·rcases t.fr b o e with z|z
  ·exact .inl z
  ·refine .inr ?_;rcases y:r b with _|u
   ·rfl
   rw[S b u y]at z;cases z
 ·refine w.hh.free ?_;rcases(T b a).2 with z|z
  ·simp at z;subst z;exact m
  ·rcases y:r b with _|u
   ·rfl
   have E:b≠x:=bf y m;rw[aM E,aM (bf y j),y]at z;cases z
def M9{F:List D->Option D}(h:lJ X.prog X.w X.K X.mg X.base x k (Ve X.K F))(e:eH k X.A)(j:Gl X x)(b:autoParam ((x==("__debug__" : aJ))=false) Ű):PE X (.Call (.Name x p) [] [] J) (U6 X.K Z (λ_=>F [])):=by
 obtain⟨f,l,K,c,g,i,m⟩:=h.ex;exact(LA c e j g i m .nil mq b).imp <|by rintro B H Q ⟨G,C,d,t,y,w,q⟩;exact⟨G,[],d,t,.nil,w,λa o A z E c s n r=>q a o A z E c s n r⟩
end
def Ao(l:cA)(u:EO)(w:DM)(i0:Nat)(s:Sk):List D->D->Option (List D×D)
 |[],t=>Y ([],t)|d::b,t=>(u d (l.set i0 (Y (.obj s t)))).bind λρ1=>(w ρ1).bind λp=>(lO s i0 p.2).bind λa=>(Ao l u w i0 s b a).map λq=>(p.1::q.1,q.2)
def vh(f:DL)(src:List (Option Nat))(u:EO)(w:DM)(i0 j0:Nat)(s:Sk):DM:=λl=>(f l).bind λa=>if a.length<=eC then (lO s j0 l).bind λt=>(Ao (mJ src (cG j0 l)) u w i0 s a t).map λq=>(.lst q.1,(cG j0 l).set j0 (Y (.obj s q.2))) else M
section
variable {K:aT}
def SR.Sx{fl:aJ->Int->Prop}{s:Sk}(S:SR K B Z G H n (l.set j0 (Y (.obj s t))))(C:jT Z [i0] src=Z')(x:src[i0]?=Y (Y j0))(y:n[j0]?=Y (Y (.ref a)))(u:cE K G H s t (.ref a) T)(P:T.Nodup)(N:∀b∈T,G b=M):
  SR K ⟨G,jf H T,[(i0,a)],fl⟩ [i0] G H (nY src n) ((mJ src l).set i0 (Y (.obj s t))):=by
 have q:j0∈Z:=(kE C x).mp Ž;refine⟨S.gh,bC.refl _,λb o e =>?_,λb o e =>.inl e,λi d g e =>?_,⟨λ_=>T,λi d g e =>?_,λi d g e=>⟨P,λb m=>⟨N b m,nj m⟩⟩,λi j d c g k _ _ f =>?_⟩,by simp[nY,mJ],λi b h =>?_,λj r p R Q e =>?_⟩
 ·have e:jf H T b=Y o:=e;by_cases m:b∈T
  ·rw[nj m]at e;cases e
  ·rw[cQ m]at e;exact e
 ·rcases gO e with⟨rfl,_,_⟩|⟨f,e⟩
  ·exact absurd Ž g
  ·obtain⟨j,F,ej⟩:=Dt e;have k:j∉Z:=λz=>g ((kE C F).mpr z)
   have:j0≠j:=λz=>k (z ▸ q)
   obtain⟨v,f1,X⟩:=S.env j d k (by rw[ai this];exact ej);exact⟨v,pQ F f1,X⟩
 ·have z:i=i0:=by simpa using g
  subst z;rcases gO e with⟨_,rfl,_⟩|⟨f,_⟩
  ·exact⟨a,pQ x y,u⟩
  ·exact absurd rfl f
 ·simp at g k;exact absurd (g.trans k.symm) f
 ·have z:(i,b)=(i0,a):=by simpa using h
  cases z;exact⟨Ž,pQ x y⟩
 ·have q1:j=i0:=by simpa using R
  have J:B9 j=i0:=by simpa using Q
  unfold B9 at J;omega
end
def IG{s:Sk}:cG j ((cG j l).set j (Y (.obj s t)))=(cG j l).set j (Y (.obj s t)):=by
 apply List.ext_getElem?;intro i;unfold cG;rw[aY];by_cases h:j=i
 ·subst h;by_cases b:j<l.length
  ·rw[a_ (by simpa using b)];rfl
  ·rw[ib (by simpa using b)];rfl
 ·rw[ai h,aY];rcases e:l[i]? with _|o
  ·rfl
  cases o with
  |none=>rfl|some d=>
   cases d with
   |eB r p=>
    simp only[bP];by_cases a:r=j
    ·simp[a]
    ·simp[a]
   |_=>rfl
section
variable {X:Cx}{f:DL}{s:Sk}
def HA{K:aT}(ho:jT Z [i0] src=Z')(h0:src[i0]?=Y (Y j0))(hg:∀(B:Bs) v n H Q,G9 K B [i0] u v n H Q->g v n H Q)(q:tM K B Z (vh f src u w i0 j0 s) n H Q):
  Rn (C8 K Z f) src g (rG K [i0] ic) (Um K i0 w) n H Q:=by
 obtain⟨G,l,d,ρ',S,j,k⟩:=q;have X:j0∈Z:=(kE ho h0).mp Ž;unfold vh at j;obtain⟨C,ef,j⟩:=aa.1 j;split at j
 ·rename_i hz;obtain⟨t0,el,j⟩:=aa.1 j;obtain⟨⟨rs,tF⟩,em,j⟩:=au.1 j;cases j;have hd0:=lT el;have hu0:=kK (r:=j0) hd0 (λq z=>by cases z);have YV:j0<(cG j0 l).length:=(aq.mp hu0).1;obtain⟨a,T0,e2,_⟩:=S.tree X hd0;refine⟨G,l,C,S.gh,S.iX,ef,λJ G1 H1 E1 ok =>?_⟩;have S1:=(S.ext E1).IH (r:=j0);rw[<- zX hu0]at S1;refine⟨λi m ys H2=>m=C.length-i/\i<=C.length/\WH K B Z n (λt=>(cG j0 l).set j0 (Y (.obj s t))) (λi=>Ao (mJ src (cG j0 l)) u w i0 s (C.drop i)) G1 tF rs i ys H2,
   ⟨C.length,rfl,cy _,G1,[],t0,rs,aQ _,S1,bC.refl _,.nil,em,rfl⟩,?_⟩
  rintro i m ys H2 ⟨rfl,YW,G2,o,t,r,hyl,S2,s2,rx,c,rfl⟩;have sub:bC G1 H2:=s2.trans S2.gh;by_cases N:i<C.length
  ·refine .inr ⟨ok.go i H2 sub N,?_,WH K B Z n (λt=>(cG j0 l).set j0 (Y (.obj s t))) (λi=>Ao (mJ src (cG j0 l)) u w i0 s (C.drop i)) G1 tF (o++r) (i+1),
    λR H' z=>⟨C.length-(i+1),ž,rfl,N,z⟩,λx H3 y =>?_⟩
   ·have:=ia;omega
   ·obtain⟨G3,E3,TR⟩:=ok.NM i H2 x H3 G2 C[i] s2 S2.gh y (ba N);have S3:=S2.ext E3;rw[dX N]at c;unfold Ao at c;obtain⟨A,et,c⟩:=aa.1 c;obtain⟨⟨x4,ρ5⟩,ee,c⟩:=aa.1 c;obtain⟨t4,el4,c⟩:=aa.1 c;obtain⟨⟨T,tE⟩,em4,c⟩:=au.1 c;cases c;have hd3:((cG j0 l).set j0 (Y (D.obj s t)))[j0]?=Y (Y (.obj s t)):=by rw[a_ YV]
    obtain⟨a3,T3,f1,ot,nd,nf,F3,W3,hF3⟩:=S3.tree X hd3;rw[e2]at f1;cases f1;have SI:=S3.Sx (fl:=λ_ _=>False) ho h0 e2 ot nd λb hb=>(nf b hb).1
    refine hg ⟨G3,jf H3 T3,[(i0,a)],λ_ _=>False⟩ _ _ _ _ ⟨G3,_,C[i],A,SI,TR,et,λσ4 G4 H4 S4=>⟨G4,A,Z',S4.gh,S4.iX,rfl,λG5 H5 E5=>Aq ?_⟩⟩;refine⟨⟨G3,jf H3 T3,[(i0,a)],λ_ _=>False⟩,a,rfl,G5,A,x4,ρ5,S4.ext E5,ee,λv G6 H6 S6 s6 r6=>⟨G6,o++[x4],t4,T,by simp;omega,?_,?_,?_,em4,Ž⟩⟩
    ·obtain⟨SH,hσ⟩:=S6.pin i0 a Ž;obtain⟨a6,T6,g1,g2,g3,g4,_⟩:=S6.tree SH (lT el4);rw[hσ]at g1;cases g1;have:=S3.CF (t':=t4) W3 hF3 X hd3 e2 S6.mR g2 g3 (λb hb=>⟨(g4 b hb).1,by
      have:=(g4 b hb).2;by_cases h:b∈T3
      ·exact .inl h
      ·exact .inr (by simpa [cQ h] using this)⟩)
     rw[IG,List.set_set]at this;exact this
    ·exact s2.trans (E3.gg.trans S6.g0)
    ·exact(bE.mono (E3.gg.trans S6.g0) o rx).append (.cons r6 .nil)
  ·have e:i=C.length:=by omega
   subst e;rw[oZ]at c;unfold Ao at c;cases c;refine .inl ⟨ok.stop _ H2 sub (aQ _),λp hp =>?_⟩;have EA:=gc.alloc (p:=p) (o :=.lst ys) S2.gh hp;refine k _ _ _ (S2.ext EA) (E1.gg.trans (s2.trans EA.gg)) ?_;rw[bV];exact cS.mpr ⟨p,ys,rfl,aX,bE.mono EA.gg o rx⟩
 ·cases j
def Gs(S:fP X N src A)(j:X.calm=Z')(e:PI X E I (C8 X.K Z f))(o:NX O g)(a:∀i∈O,src[i]?=Y M)(h:∀(B:Bs) v n H Q,G9 X.K B [i0] u v n H Q->g v n H Q)(k:∀C s H b,PG (X.t_ N A C s H b) E g/\E9 (X.t_ N A C s H b) [] (rG X.K [i0] ic)/\PE (X.t_ N A C s H b) L (Um X.K i0 w))(m:autoParam (src[i0]?=Y (Y j0)) Ų)(d:autoParam (jT Z [i0] src=true) Ű)(c:autoParam (∀x,cI I X.env x=dP x) ů):PE X (.ListComp L [⟨E,I,[],0⟩] A U) (tM X.K B Z (vh f src u w i0 j0 s)):=
 (Lw S j e o a k c).imp λn H Q q=>HA d m h q
def Gr{i:Nat}(S:fP X N src A)(V:X.calm=Z')(R:X.N.Nodup)(t:X.N[i]?=Y y)(F:X.env.scope.names.lookup y=Y .local)(J:PI X E I (C8 X.K Z f))(ag:NX O g)(h:∀i∈O,src[i]?=Y M)(K:∀(B:Bs) v n H Q,G9 X.K B [i0] u v n H Q->g v n H Q)(P:∀C s H m,PG (X.t_ N A C s H m) E g/\E9 (X.t_ N A C s H m) [] (rG X.K [i0] ic)/\PE (X.t_ N A C s H m) L (Um X.K i0 w))(T:autoParam (src[i0]?=Y (Y j0)) Ų)(D:autoParam (jT Z [i0] src=true) Ű)(j:autoParam (i∉Z) Ű)(e:autoParam (cj (.ListComp L [⟨E,I,[],0⟩] A U) (Y (.Name y p)) a.line X.env=dP true) Ų)(z:autoParam (∀x,cI I X.env x=dP x) ů):PS X (.Assign [.Name y p] (.ListComp L [⟨E,I,[],0⟩] A U) a) (iC X.K B q Z Z (mY i (vh f src u w i0 j0 s))):=
 (yP S V R t F J ag h P e z).imp λD' n H ⟨G,l,o,S,b,k⟩=>HA D T K (by unfold mY at b;obtain⟨⟨d,c⟩,ef,b⟩:=au.1 b;cases b;exact⟨G,l,d,c,S,ef,λv G' H' S' _ r=>k _ G' H' (S'.v8 j r)⟩)
end
abbrev TupAt(h:cF)(T:ax)(a:Array ak):Prop:=h.get? T=Y { cls :=.type "tuple",data :=.seq a }
structure ZN(h:cF)(z TI TO:ax)(n:Nat)(it l:Nat->ax)(xs:Nat->Array ak)(pl:Nat->Nat)(f0:ak)(out:Array ak):Prop where
 zz:IsZip h z TI TO f0
 ti:TupAt h TI ((cv n).map λj=>aD (it j)).toArray
 to:TupAt h TO out
 sz:out.size=n
 iter:∀j,j<n->h.IsListIter (it j) (l j) (pl j)
 lst:∀j,j<n->h.IsList (l j) (xs j)
structure ZA(z TI TO:ax)(n:Nat)(it l:Nat->ax):Prop where
 tiz:TI≠z
 ZY:TO≠z
 XW:TI≠TO
 iz:∀j,j<n->it j≠z/\it j≠TI/\it j≠TO
 ii:∀j k,j<n->k<n->j≠k->it j≠it k
 lz:∀j,j<n->l j≠z/\l j≠TO/\∀k,k<n->l j≠it k
section
variable {f:ax}
def ZN.adv(N:ZN h z i f n d l p t u r)(A:ZA z i f n d l)(c:k<n)(m:g.IsListIter (d k) (l k) (t k+1))(b:fK (d k) h g):ZN g z i f n d l p (λj=>if j=k then t j+1 else t j) u r:=by
 obtain⟨s,q,o⟩:=A.iz k c;refine⟨b.extBut _ _ (bF s) N.zz,b.extBut _ _ (bF q) N.ti,b.extBut _ _ (bF o) N.to,N.sz,λj a =>?_,λj a =>?_⟩
 ·by_cases e:j=k
  ·subst e;simpa using m
  ·simp only[if_neg e];exact(N.iter j a).extBut b.extBut (A.ii j k a c e)
 ·exact(N.lst j a).extBut b.extBut ((A.lz j a).2.2 k c)
def ZN.Ot(N:ZN h z i f n d l p t u r)(A:ZA z i f n d l)(k:TupAt g f a)(e:a.size=n)(c:fK f h g):ZN g z i f n d l p t u a:=
 ⟨c.extBut _ _ (bF A.ZY) N.zz,c.extBut _ _ A.XW N.ti,k,e,λj b=>(N.iter j b).extBut c.extBut (A.iz j b).2.2,λj b=>(N.lst j b).extBut c.extBut (A.lz j b).2.1⟩
def ZN.Oq(N:ZN h z i f n d l p t u r)(A:ZA z i f n d l)(e:IsZip g z i f c)(b:fK z h g):ZN g z i f n d l p t c r:=
 ⟨e,b.extBut _ _ A.tiz N.ti,b.extBut _ _ A.ZY N.to,N.sz,λj a=>(N.iter j a).extBut b.extBut (A.iz j a).1,λj a=>(N.lst j a).extBut b.extBut (A.lz j a).1⟩
end
def EI(z f:ax)(n:Nat)(d:Nat->ax)(h g:cF):Prop:=∀c o,c≠z->c≠f->(∀j,j<n->c≠d j)->h.get? c=Y o->g.get? c=Y o
section
variable {E:ak->av->Prop}{s:av}
variable {f:ax}{d:Nat->ax}{m:Nat}
def A0(h:a=(cv n).map λj=>aD (d j))(c:k<n):(a.zipIdx).drop k=(aD (d k),k)::(a.zipIdx).drop (k+1):=by
 have b:a.zipIdx.length=n:=by rw[h];simp
 rw[dX (by rw[b];exact c)]
 congr 1
 subst h;simp
def IA{Q:ak->av->Prop}(hh:A.handled=M)(hn:0<n)(YT:n<=100)(D:ZA z i f n d l)(N:ZN s.heap z i f n d l p (λ_=>m) .none r) (hQ:∀g x,(∀j,j<n->(p j)[m]?=Y (x j))->ZN g z i f n d l p (λ_=>m+1) (lF s.heap.objs.size) ((cv n).map x).toArray->TupAt g s.heap.objs.size ((cv n).map x).toArray->g.objs.size=s.heap.objs.size+1 ->
   EI z f n d s.heap g->Q (.ref s.heap.objs.size) { s with heap:=g }) (hE:(∃j,j<n/\(p j)[m]?=M)->∀g e,EI z f n d s.heap g->(∃o,g.get? e=Y o/\o.cls=.type "StopIteration")->E (.ref e) { s with heap:=g }) :
  bq (aV B w) A (Builtin.«zip.__next__» ⟨[.ref z],[]⟩) (λlQ s'=>∃v,lQ=.done (.ret v)/\Q v s') E s:=by
 unfold Builtin.«zip.__next__»;show bq _ _ (field (.ref z) 2 >>= _) _ _ _;refine ah (jq N.zz rfl (x :=.bool Z_) rfl ?_);refine ah (jq N.zz rfl (x :=.ref i) rfl ?_);refine ah (TV N.ti rfl ?_);have JE:((cv n).map λj=>aD (d j)).toArray.isEmpty=false:=by
  cases n with|zero=>omega|succ n=>simp[vF]
 simp only[JE,eM,if_false];refine ah ?_;unfold Builtin.SmallTypes.ownedTupleIsFree;refine ah (jq N.zz rfl (x :=.none) rfl (aE ?_));simp only[if_true];refine ah (TY ?_);refine ah (jq N.zz rfl (x :=.ref f) rfl ?_);refine ah (uL N.zz Ž λh1 z1 k1 =>?_);have N1:ZN h1 z i f n d l p (λ_=>m) .ellipsis r:=N.Oq D z1 k1;refine ah ?_;refine wpAny_forIn_list _ (λL b s1=>b=(M,())/\∃k F C x,k<=n/\L=(((cv n).map λj=>aD (d j)).zipIdx).drop k/\s1={ s with heap:=F }/\ZN F z i f n d l p (λj=>if j<k then m+1 else m) .ellipsis C /\
   (∀j,j<k->(p j)[m]?=Y (x j)/\C[j]?=Y (x j))/\F.objs.size=s.heap.objs.size/\EI z f n d s.heap F) _ ?_ ?_ _ _ ⟨rfl,0,h1,r,λ_ =>.none,cy _,rfl,rfl,by simpa using N1,λj H=>ž,k1.1,λc o I _ _ e=>k1.extBut _ _ I e⟩
 ·rintro x L b s1 ⟨rfl,k,F,C,J,hk,R,rfl,G,ho,hs,kp⟩;have h:k<n:=by
   rcases Nat.lt_or_ge k n with z|z
   ·exact z
   ·rw[Qo (by simpa using z)]at R;cases R
  rw[A0 rfl h]at R;obtain⟨rfl,P⟩:=List.cons.inj R;refine ah (wpAny_onRaise ?_);show bq _ _ (Builtin.SmallTypes.nextOf (.ref (d k)) >>= _) _ _ _;have O:=G.iter k h;simp only[fg,if_false]at O;cases hx:(p k)[m]? with
  |none=>
   refine ah (wpAny_nextOf_list_end hh O (G.lst k h) hx λh3 e X he =>?_);obtain⟨oe,S,hce⟩:=he;have ZQ:IsZip h3 z i f .ellipsis:=X _ _ (bF (D.iz k h).1) G.zz;have hez:e≠z:=λq=>by subst q;rw[ZQ]at S;cases S;simp at hce
   refine uL ZQ Ž λh4 _ t=>hE ⟨k,h,hx⟩ h4 e (λc o I c2 T q=>t.extBut _ _ I (X _ _ (T k h) (kp c o I c2 T q))) ⟨oe,t.extBut _ _ hez S,hce⟩
  |some y=>
   refine ah (wpAny_nextOf_list_item O (G.lst k h) hx λh3 i3 X=>aE ?_);have K:=G.adv D h (by simpa using i3) X;dsimp only;refine ah (TV K.to rfl ?_);dsimp only;have hsz:C.size<=bc:=by rw[K.sz,gF];omega
   refine ah (wpAny_updateSeq K.to rfl ?_ hsz (by simp;omega));have up:TupAt (h3.update f (Obj.mapSeq λq=>q.setIfInBounds k y)) f (C.setIfInBounds k y):=by show Heap.get? _ _=_;rw[cU _ K.to rfl];simp[Obj.mapSeq]
   have N4:=K.Ot D up (by simpa using K.sz) (Heap.SameBut.update ..);refine ah (wpAny_letGo (aE ?_));refine⟨rfl,k+1,_,C.setIfInBounds k y,λj=>if j=k then y else J j,h,P,rfl,?_,λj H =>?_,?_,λc o I c2 T q =>?_⟩
   ·have:(λj=>if j=k then (if j<k then m+1 else m)+1 else if j<k then m+1 else m)=λj=>if j<k+1 then m+1 else m:=by
     funext j
     by_cases e:j=k
     ·subst e;simp
     ·by_cases e2:j<k
      ·rw[if_neg e,if_pos e2,if_pos (by omega)]
      ·rw[if_neg e,if_neg e2,if_neg (by omega)]
    rw[this]at N4;exact N4
   ·by_cases e:j=k
    ·subst e;simp only[if_true];exact⟨hx,by rw[Array.getElem?_setIfInBounds_self_of_lt];rw[G.sz];exact h⟩
    ·simp only[if_neg e];obtain⟨a,b⟩:=ho j ž;exact⟨a,by rw[oM (by omega)];exact b⟩
   ·rw[xP,X.1,hs]
   ·exact(Heap.SameBut.update h3 f _).extBut _ _ c2 (X.extBut _ _ (T k h) (kp c o I c2 T q))
 ·rintro b s1 ⟨rfl,k,F,C,J,hk,R,rfl,G,ho,hs,kp⟩;have h:k=n:=by
   rcases Nat.lt_or_ge k n with z|z
   ·rw[A0 rfl z]at R;cases R
   ·omega
  subst h;have YN:C=((cv k).map J).toArray:=by
   apply Array.ext_getElem?;intro j;by_cases H:j<k
   ·rw[(ho j H).2];simp[H]
   ·rw[Qr (by rw[G.sz];omega)]
    symm
    apply Qr;simp;omega
  subst YN;dsimp only;refine ah (TV G.to rfl ?_);dsimp only;refine ah (wpAny_newTuple ?_ (by simp;rw[gF];omega));have ZR:z<F.objs.size:=aI G.zz;have ext:∀c o,F.get? c=Y o->(F.push { cls :=.type "tuple",data :=.seq ((cv k).map J).toArray }).get? c=Y o:=λc o q=>aj _ q
  have K:ZN (F.push { cls :=.type "tuple",data :=.seq ((cv k).map J).toArray }) z i f k d l p (λj=>if j<k then m+1 else m) .ellipsis ((cv k).map J).toArray:=
   ⟨ext _ _ G.zz,ext _ _ G.ti,ext _ _ G.to,G.sz,λj H=>(G.iter j H).at (λo q=>ext _ _ q),λj H=>(G.lst j H).at (λo q=>ext _ _ q)⟩
  refine ah ?_;unfold Builtin.SmallTypes.ownedTupleHandOut;refine ah (uL K.zz Ž λh4 z4 t =>?_);have N4:ZN h4 z i f k d l p (λj=>if j<k then m+1 else m) (lF F.objs.size) ((cv k).map J).toArray:=K.Oq D z4 t;refine uL N4.zz Ž λh5 z5 k5 =>?_
  have U:ZN h5 z i f k d l p (λj=>if j<k then m+1 else m) (lF F.objs.size) ((cv k).map J).toArray:=N4.Oq D z5 k5;have up:∀c o,c≠z->F.get? c=Y o->h5.get? c=Y o:=λc o I q=>k5.extBut _ _ I (t.extBut _ _ I (ext c o q))
  have tup:TupAt h5 F.objs.size ((cv k).map J).toArray:=k5.extBut _ _ (fS ZR) (t.extBut _ _ (fS ZR) (bz _ rfl));have Z0:h5.objs.size=F.objs.size+1:=by rw[k5.1,t.1,cW]
  refine aE ⟨_,rfl,?_⟩;rw[hs]at U tup Z0;show Q (.ref F.objs.size) _;rw[hs];refine hQ h5 J (λj H=>(ho j H).1) ⟨U.zz,U.ti,U.to,U.sz,λj H=>by have:=U.iter j H;simpa [H] using this,U.lst⟩ tup Z0 λc o I c2 T q=>up c o I (kp c o I c2 T q)
def w1(v:A.handled=M)(k:0<n)(a:n<=100)(D:ZA z i f n d l)(N:ZN s.heap z i f n d l p (λ_=>m) .none r) (F:∀g x,(∀j,j<n->(p j)[m]?=Y (x j))->ZN g z i f n d l p (λ_=>m+1) (lF s.heap.objs.size) ((cv n).map x).toArray->TupAt g s.heap.objs.size ((cv n).map x).toArray->g.objs.size=s.heap.objs.size+1 ->
   EI z f n d s.heap g->Q (Y (.ref s.heap.objs.size)) { s with heap:=g }) (G:(∃j,j<n/\(p j)[m]?=M)->∀g,EI z f n d s.heap g->Q M { s with heap:=g }):bq (aV B w) A (pyNext (.ref z)) Q E s:=by
 have b:s.TypeIs (.ref z) "zip" :=⟨_,N.zz,rfl⟩;unfold pyNext;refine ah (E_ (wpAny_callSpecial?_slot (name:=af "__next__") b PySem.F.slot_zip_next
  (wpAny_call_entry PySem.F.slot_zip_next b PySem.F.entry_zip_next (IA v k a D N (λg x L K J I H=>aE (F g x L K J I H)) λq g e c y =>?_) (PySem.F.args_zip_next_1 _))))
 obtain⟨o,h,C⟩:=y;exact ah (wpAny_isInstance (T:= "StopIteration") (b:=Z') ⟨o,h,C⟩ isSubtype_stop (aE (G q _ c)))
end
noncomputable def nH{d:Type}(a b c:d):Nat->d
 |0=>a|1=>b|_=>c
def IB(a b c:ak):checkTypeCall "zip" ⟨[a,b,c],[]⟩=dP ():=by kernel_rfl
def Kt(a b c:ak):checkBuiltinCall "zip.__new__" ⟨[.type "zip",a,b,c],[]⟩=dP ():=by kernel_rfl
def VP(a b c d:ak):argsOk "object.__init__" ⟨[a,b,c,d],[]⟩:=by
 unfold argsOk;rw[signature?_of (id:= "object.__init__") (n:=['_','_','t','i','n','i','_','_']) (o:=['t','c','e','j','b','o']) (by kernel_rfl) PySem.F.owner_object];kernel_rfl
noncomputable abbrev Uv(l:ax):Obj:={ cls :=.type "list_iterator",data :=.fields #[.ref l,.int 0 0] }
section
variable (h:cF)(a b c:ax)
abbrev zA:cF:=h.push (Uv a)
abbrev zB:cF:=(zA h a).push (Uv b)
abbrev zC:cF:=(zB h a b).push (Uv c)
abbrev zT:cF:=(zC h a b c).push { cls :=.type "tuple",data :=.seq #[.ref h.objs.size,.ref (zA h a).objs.size,.ref (zB h a b).objs.size] }
abbrev zO:cF:=(zT h a b c).push { cls :=.type "tuple",data :=.seq #[.none,.none,.none] }
abbrev zZ:cF:=(zO h a b c).push { cls :=.type "zip",data :=.fields #[.none,.bool Z_,.bool Z_,.ref (zC h a b c).objs.size,.ref (zT h a b c).objs.size] }
end
def Fg(a b c:ax)(m l k:Array ak):
  Meets (Builtin.«zip.__new__» ⟨[.type "zip",.ref a,.ref b,.ref c],[]⟩) (λ_ R s=>s.heap.IsList a m/\s.heap.IsList b l/\s.heap.IsList c k/\R (.ok (.ret (.ref (zO s.heap a b c).objs.size))) { s with heap:=zZ s.heap a b c }):=
 .of_wp λf w A R s h=>by
  obtain⟨j,g,d,e,i⟩:=s;obtain⟨q,p,o,h⟩:=h;have n:=sub_zip;have u:Heap.IsList (Shared.heap ⟨j,g,d,e,i⟩) a m:=q;have t:Heap.IsList (Shared.heap ⟨j.push (Uv a),g,d,e,i⟩) b l:=NJ p _;have r:Heap.IsList (Shared.heap ⟨(j.push (Uv a)).push (Uv b),g,d,e,i⟩) c k:=(NJ (NJ o _) _)
  wp_walk using lM u,lM t,lM r
  exact⟨_,rfl,h⟩
section
variable {f:br}{s:av}
def JZ{m:Array ak}(B:s.heap.IsList a p)(z:s.heap.IsList b n)(y:s.heap.IsList c m) (h:∀d,IsZip d (s.heap.objs.size+5) (s.heap.objs.size+3) (s.heap.objs.size+4) .none->TupAt d (s.heap.objs.size+3) #[.ref s.heap.objs.size,.ref (s.heap.objs.size+1),.ref (s.heap.objs.size+2)] ->
   TupAt d (s.heap.objs.size+4) #[.none,.none,.none]->d.IsListIter s.heap.objs.size a 0->d.IsListIter (s.heap.objs.size+1) b 0->d.IsListIter (s.heap.objs.size+2) c 0 ->
   (∀c o,s.heap.get? c=Y o->d.get? c=Y o)->Q (.ref (s.heap.objs.size+5)) { s with heap:=d }) :
  bq (aV f w) A (GP (.type "zip") [.ref a,.ref b,.ref c]) Q E s:=by
 refine callType_new PySem.F.called_zip ſ (IB _ _ _) (Kt _ _ _) (λk=>VP k _ _ _) PySem.F.entry_zip_new (Fg a b c p n m) ⟨B,z,y,?_⟩;have j:(zA s.heap a).objs.size=s.heap.objs.size+1:=cW ..;have i:(zB s.heap a b).objs.size=s.heap.objs.size+2:=by rw[cW,j]
 have g:(zC s.heap a b c).objs.size=s.heap.objs.size+3:=by rw[cW,i]
 have e:(zT s.heap a b c).objs.size=s.heap.objs.size+4:=by rw[cW,g]
 have q:(zO s.heap a b c).objs.size=s.heap.objs.size+5:=by rw[cW,e]
 have l:(zZ s.heap a b c).get? (zO s.heap a b c).objs.size=Y _:=bz _ rfl;have r:(zZ s.heap a b c).get? (zT s.heap a b c).objs.size=Y _:=aj _ (bz _ rfl);have t:(zZ s.heap a b c).get? (zC s.heap a b c).objs.size=Y _:=aj _ (aj _ (bz _ rfl));have u:(zZ s.heap a b c).get? (zB s.heap a b).objs.size=Y _:=aj _ (aj _ (aj _ (bz _ rfl)));have v:(zZ s.heap a b c).get? (zA s.heap a).objs.size=Y _:=aj _ (aj _ (aj _ (aj _ (bz _ rfl))));have C:(zZ s.heap a b c).get? s.heap.objs.size=Y _:=aj _ (aj _ (aj _ (aj _ (aj _ (bz _ rfl)))));show _/\_;rw[g,e,q]at l;rw[e]at r;rw[g,j,i]at t;rw[i]at u;rw[j]at v;rw[q];exact⟨⟨_,l,rfl⟩,h _ l t r ⟨_,C,rfl,rfl⟩ ⟨_,v,rfl,rfl⟩ ⟨_,u,rfl,rfl⟩ λc o x=>aj _ (aj _ (aj _ (aj _ (aj _ (aj _ x)))))⟩
end
noncomputable def TQ(K : PySem.W.Frag)(a b c : ax): It :=
  ⟨λi H => ∃g e d x y z,m_ K H a g /\ m_ K H b e /\ m_ K H c d /\ g[i]? = Y x /\ e[i]? = Y y /\ d[i]? = Y z,
   λi H v h => ∃x y z p,(∀g,m_ K H a g -> g[i]? = Y x) /\ (∀e,m_ K H b e -> e[i]? = Y y) /\ (∀d,m_ K H c d -> d[i]? = Y z) /\ H p = M /\ v = .ref p /\ h = cx H p (.tup [x,y,z]),
   λi H => ∃g e d,m_ K H a g /\ m_ K H b e /\ m_ K H c d /\ (g.length <= i \/ e.length <= i \/ d.length <= i)⟩
def ZSt(z l k j g e a b c:ax)(i:Nat)(h:cF):Prop:=∃d:Array ak,d.size=3/\IsZip h z l k .none/\TupAt h l #[.ref j,.ref g,.ref e]/\TupAt h k d/\h.IsListIter j a i/\h.IsListIter g b i/\h.IsListIter e c i
theorem rB{P:Nat->Prop}(c:P 0)(b:P 1)(a:P 2):∀j,j<3->P j
 |0,_=>c|1,_=>b|2,_=>a
def II{P:br}{K:aT}{x1}(a b c z L C J G F:ax)(Z:ZA z L C 3 (nH J G F) (nH a b c)):
  J9 P w K (.Tuple ZP x1 XU) (TQ K a b c) [z,L,C,J,G,F] z (ZSt z L C J G F a b c) where
 mem:=by simp
 obj:=λi h st d hc=>by
  obtain⟨p,s0,s1,s2,s3,s4,s5,s6⟩:=st;simp only[aW,oY,or_false]at hc;rcases hc with rfl|rfl|rfl|rfl|rfl|rfl
  ·exact⟨_,s1,λv z=>by cases z⟩
  ·exact⟨_,s2,λv z=>by cases z⟩
  ·exact⟨_,s3,λv z=>by cases z⟩
  ·obtain⟨o,e,c,d⟩:=s4;exact⟨o,e,λv z=>by rw[d]at z;cases z⟩
  ·obtain⟨o,e,c,d⟩:=s5;exact⟨o,e,λv z=>by rw[d]at z;cases z⟩
  ·obtain⟨o,e,c,d⟩:=s6;exact⟨o,e,λv z=>by rw[d]at z;cases z⟩
 keep:=λi h h' st k=>by obtain⟨p,s0,s1,s2,s3,s4,s5,s6⟩:=st;exact⟨p,s0,k z Ž _ s1,k L Ž _ s2,k C Ž _ s3,s4.at λo q=>k J Ž o q,s5.at λo q=>k G Ž o q,s6.at λo q=>k F Ž o q⟩
 item:=by
  intro X hP hw hK hc i D s σ H E I hf st hg;subst hP hw hK;obtain⟨p,s0,s1,s2,s3,s4,s5,s6⟩:=st;obtain⟨xs,ys,zs,x,y,zz,SF,Xd,Xc,m,hy,hzz⟩:=hg;obtain⟨T,Ya,p1,hz1⟩:=I.list SF;obtain⟨S,X',p2,hz2⟩:=I.list Xd;obtain⟨R,X_,p3,hz3⟩:=I.list Xc;obtain⟨u1,YH,ru1⟩:=Ya.get m;obtain⟨u2,VU,ru2⟩:=X'.get hy;obtain⟨u3,YG,ru3⟩:=X_.get hzz;have f:∀d∈[z,L,C,J,G,F],zR X D H d:=hf;have N:ZN s.heap z L C 3 (nH J G F) (nH a b c) (nH T.toArray S.toArray R.toArray) (λ_=>i) .none p:=⟨s1,s2,s3,s0,rB s4 s5 s6,rB p1.isList p2.isList p3.isList⟩;refine w1 (I.ok.hd hc) ſ ſ Z N (λh1 xx t N1 t1 z1 k1 =>?_) λhe =>?_
  ·have e1:xx 0=u1:=by have:=t 0 ſ;simp[nH]at this;rw[YH]at this;cases this;rfl
   have e2:xx 1=u2:=by have:=t 1 ſ;simp[nH]at this;rw[VU]at this;cases this;rfl
   have e3:xx 2=u3:=by have:=t 2 ſ;simp[nH]at this;rw[YG]at this;cases this;rfl
   have t1:TupAt h1 s.heap.objs.size #[u1,u2,u3]:=by have:=t1;simpa [List.range_succ,e1,e2,e3] using this
   refine⟨_,rfl,?_⟩;refine wpAny_letOwnedTupleGo_zip (s:={ s with heap:=h1 }) N1.zz λh2 Zc w2 =>?_
   have hzp:z<s.heap.objs.size:=aI s1;have hn:H s.heap.objs.size=none:=I.eR.fresh (aQ _);have XO:fK z h1 h2:=w2;have N2:=N1.Oq Z Zc XO;have g:∀d o,d∉[z,L,C,J,G,F]->s.heap.get? d=Y o->h2.get? d=Y o:=λd o l q=>by
    have n1:d≠z:=λe=>l (by simp[e])
    have n2:d≠C:=λe=>l (by simp[e])
    exact(XO.2 d n1).trans (k1 d o n1 n2 (rB (λe=>l (by simp[e,nH])) (λe=>l (by simp[e,nH])) (λe=>l (by simp[e,nH]))) q)
   have tup:h2.get? s.heap.objs.size=Y { cls :=.type "tuple",data :=.seq #[u1,u2,u3] }:=(XO.2 _ (fS hzp)).trans t1;have O:∀d o,H d=Y o->d∉[z,L,C,J,G,F]:=λd o q l=>by have:=(f d l).1;rw[this]at q;cases q
   have new:e_ X.prog X.w (cx H s.heap.objs.size (.tup [x,y,zz])) h2 s.heap.objs.size (.tup [x,y,zz]):=
    ⟨by show 3<=bc;rw[gF];decide,[u1,u2,u3],.cons ru1 (.cons ru2 (.cons ru3 .nil)),_,tup,rfl,_,rfl⟩
   have U:nS X.prog X.w (cx H s.heap.objs.size (.tup [x,y,zz])) h2:=λd o q=>by
    by_cases l:d=s.heap.objs.size
    ·subst l;rw[aX]at q;cases q;exact new
    ·rw[aM l]at q;refine(I.eR d o q).vV (λc v B r =>?_) (λc r=>by rw[aM (bf r hn)];exact r) λc ys r=>by rw[aM (bf r hn)];exact r
     rcases B with rfl|B
     ·exact g _ _ (O _ _ q) r
     ·exact g _ _ (O _ _ B) r
   have un:Un (yf X.stack) [z,L,C,J,G,F] H (cx H s.heap.objs.size (.tup [x,y,zz])) s.heap h2:=by
    have old:∀b o,s.heap.get? b=Y o->b≠s.heap.objs.size:=λb o q=>bI (aI q)
    exact⟨λb o q n _ m=>g b o m q,λb o q n _ m=>⟨o.slots,g b o m q⟩,λb o q n m=>by rw[aM (old b o q)];exact n,
     λb o q m=>⟨o,g b o m q⟩,λb ys q=>by rw[aM (bf q hn)];exact q,λb o u q=>by rw[aM (bf q hn)];exact q,λb ps q=>⟨#[],by rw[aM (bf q hn)];simpa using q⟩⟩
   have I2:Inv X D σ (cx H s.heap.objs.size (.tup [x,y,zz])) { s with heap:=h2 }:=I.zJ (s':={ s with heap:=h2 }) rfl un U I.bare λb l=>⟨(f b l).2.2.2.1,(f b l).2.1,(f b l).2.2.2.2.1,(f b l).2.2.2.2.2⟩
   refine⟨.ref s.heap.objs.size,_,I2,rfl,⟨x,y,zz,s.heap.objs.size,λq hq=>by rw[I.su hq SF];exact m,λq hq=>by rw[I.su hq Xd];exact hy,λq hq=>by rw[I.su hq Xc];exact hzz,hn,rfl,rfl⟩,⟨_,N2.sz,N2.zz,N2.ti,N2.to,N2.iter 0 ſ,N2.iter 1 ſ,N2.iter 2 ſ⟩,λd hd =>?_⟩;have:d≠s.heap.objs.size:=by
    simp only[aW,oY,or_false]at hd;rcases hd with rfl|rfl|rfl|rfl|rfl|rfl
    ·exact bI hzp
    ·exact bI (aI s2)
    ·exact bI (aI s3)
    ·obtain⟨o,q,_⟩:=s4;exact bI (aI q)
    ·obtain⟨o,q,_⟩:=s5;exact bI (aI q)
    ·obtain⟨o,q,_⟩:=s6;exact bI (aI q)
   rw[aM this];exact(f d hd).1
  ·exfalso;obtain⟨j,hj,q⟩:=he
   match j,hj,q with
   |0,_,q=>simp[nH]at q;rw[sV.mpr q]at YH;cases YH|1,_,q=>simp[nH]at q;rw[sV.mpr q]at VU;cases VU|2,_,q=>simp[nH]at q;rw[sV.mpr q]at YG;cases YG
 done:=by
  intro X hP hw hK hc i D s σ H E I hf st hg;subst hP hw hK;obtain⟨p,s0,s1,s2,s3,s4,s5,s6⟩:=st;obtain⟨xs,ys,zs,SF,Xd,Xc,m⟩:=hg;obtain⟨T,Ya,p1,hz1⟩:=I.list SF;obtain⟨S,X',p2,hz2⟩:=I.list Xd;obtain⟨R,X_,p3,hz3⟩:=I.list Xc;have l1:=Ya.length;have l2:=X'.length;have l3:=X_.length;have f:∀d∈[z,L,C,J,G,F],zR X D H d:=hf;have N:ZN s.heap z L C 3 (nH J G F) (nH a b c) (nH T.toArray S.toArray R.toArray) (λ_=>i) .none p:=⟨s1,s2,s3,s0,rB s4 s5 s6,rB p1.isList p2.isList p3.isList⟩;refine w1 (I.ok.hd hc) ſ ſ Z N (λh1 xx t =>?_) λ_ h' eb=>⟨rfl,?_⟩
  ·exfalso;have q1:=t 0 ſ;have q2:=t 1 ſ;have q3:=t 2 ſ;simp[nH]at q1 q2 q3;have:=(aq.mp q1).1;have:=(aq.mp q2).1;have:=(aq.mp q3).1;omega
  ·have O:∀b o,H b=Y o->b∉[z,L,C,J,G,F]:=λb o q l=>by have:=(f b l).1;rw[this]at q;cases q
   have g:∀d o,d∉[z,L,C,J,G,F]->s.heap.get? d=Y o->h'.get? d=Y o:=λd o l q=>eb d o (λe=>l (by simp[e])) (λe=>l (by simp[e])) (rB (λe=>l (by simp[e,nH])) (λe=>l (by simp[e,nH])) (λe=>l (by simp[e,nH]))) q
   have U:nS X.prog X.w H h':=λb o q=>by
    refine(I.eR b o q).vV (λc v B r =>?_) (λc r=>r) λc ys r=>r
    rcases B with rfl|B
    ·exact g _ _ (O _ _ q) r
    ·exact g _ _ (O _ _ B) r
   have un:Un (yf X.stack) [z,L,C,J,G,F] H H s.heap h':=
    ⟨λb o q n _ m=>g b o m q,λb o q n _ m=>⟨o.slots,g b o m q⟩,λb o q n m=>n,λb o q m=>⟨o,g b o m q⟩,λb ys q=>q,λb o u q=>q,λb ps q=>⟨#[],by simpa using q⟩⟩
   exact I.zJ (s':={ s with heap:=h' }) rfl un U I.bare λb l=>⟨(f b l).2.2.2.1,(f b l).2.1,(f b l).2.2.2.2.1,(f b l).2.2.2.2.2⟩
 self:=λA i s Q E st h=>by obtain⟨p,s0,s1,_⟩:=st;exact wpAny_pyIter_zip s1 h
section
variable {X:Cx}{f:DF}
def Sz(K:aT)(k:TA):TI:=λe H R=>k e H λj d=>∃a b c,j=[.ref a,.ref b,.ref c]/\(∃i,m_ K d a i)/\(∃h,m_ K d b h)/\(∃f,m_ K d c f)/\R (TQ K a b c) d
def cg.three(r:cg [x,y,z] a):∃u v w,a=[u,v,w]/\RelV x u/\RelV y v/\RelV z w:=by
 cases r with
 | cons d t=>cases t with
  | cons c t=>cases t with
   |cons b t=>cases t;exact⟨_,_,_,rfl,d,c,b⟩
def OM{x1}(hg:Gl X "zip")(hm:X.mg "zip" = M)(ha:PA X [e,l,g] ta)(hs:autoParam (ao [e,l,g] X.env=[(Z_,eval e X.env),(Z_,eval l X.env),(Z_,eval g X.env)]) Ų)(K:autoParam (ao [l,g] X.env=[(Z_,eval l X.env),(Z_,eval g X.env)]) Ų)(hv:autoParam (fJ "zip" = Y (.type "zip")) ũ):PI X (.Tuple L x1 t) (.Call (.Name "zip" p) [e,l,g] [] x) (Sz X.K ta):=by
 intro D s σ H R I h;refine Call_ (qL I hg hm hv (gX (fw (ha x D s σ H _ I h) ?_) (by rw[hs,K]) (by rw[K];rfl)));rintro us f ⟨vs,H1,r,r1,q1⟩;obtain⟨a,b,c,rfl,⟨xs,P⟩,⟨ys,O⟩,⟨zs,N⟩,q⟩:=q1;obtain⟨u,v,w,rfl,ru,rv,n⟩:=cg.three r1;cases ru;cases rv;cases n;obtain⟨ab1,rx1,C,hz1⟩:=r.list P;obtain⟨ab0,rx2,B,hz2⟩:=r.list O;obtain⟨abZ,rx3,y,hz3⟩:=r.list N;obtain⟨oa,T,_⟩:=C.isList;obtain⟨ob,S,_⟩:=B.isList;obtain⟨oc,Q,_⟩:=y.isList;have J:=aI T;have G:=aI S;have F:=aI Q;refine JZ C.isList B.isList y.isList λh' z1 z2 z3 z4 z5 z6 k1 =>?_
 refine wpAny_pyIter_zip (s:={ f with heap:=h' }) z1 ?_;have i:∀k:Nat,H1 (f.heap.objs.size+k)=none:=λk=>r.eR.fresh (hG _ _)
 have m:∀ {d:ax}(k:Nat),d<f.heap.objs.size->d≠f.heap.objs.size+k:=fun {d} k h z=>by rw[z]at h;exact absurd h (Nat.not_lt.mpr (hG _ _))
 have o:∀j k:Nat,j≠k->f.heap.objs.size+j≠f.heap.objs.size+k:=λj k h z=>h (Nat.add_left_cancel z)
 have Z:ZA (f.heap.objs.size+5) (f.heap.objs.size+3) (f.heap.objs.size+4) 3 (nH (f.heap.objs.size+0) (f.heap.objs.size+1) (f.heap.objs.size+2)) (nH a b c):=by
  refine⟨o 3 5 ſ,o 4 5 ſ,o 3 4 ſ,rB ⟨o 0 5 ſ,o 0 3 ſ,o 0 4 ſ⟩ ⟨o 1 5 ſ,o 1 3 ſ,o 1 4 ſ⟩ ⟨o 2 5 ſ,o 2 3 ſ,o 2 4 ſ⟩,λj k hj hk U =>?_,?_⟩
  ·have E:∀j,j<3->nH (f.heap.objs.size+0) (f.heap.objs.size+1) (f.heap.objs.size+2) j=f.heap.objs.size+j:=rB rfl rfl rfl;rw[E j hj,E k hk];exact o j k U
  ·exact rB ⟨m 5 J,m 4 J,rB (m 0 J) (m 1 J) (m 2 J)⟩ ⟨m 5 G,m 4 G,rB (m 0 G) (m 1 G) (m 2 G)⟩ ⟨m 5 F,m 4 F,rB (m 0 F) (m 1 F) (m 2 F)⟩
 refine⟨f.heap.objs.size+5,[f.heap.objs.size+5,f.heap.objs.size+3,f.heap.objs.size+4,f.heap.objs.size+0,f.heap.objs.size+1,f.heap.objs.size+2],_,_,H1,rfl,r.kept (t':=f.toks) k1,
  II a b c (f.heap.objs.size+5) (f.heap.objs.size+3) (f.heap.objs.size+4) (f.heap.objs.size+0) (f.heap.objs.size+1) (f.heap.objs.size+2) Z,⟨_,rfl,z1,z2,z3,z4,z5,z6⟩,λd hd =>?_,q⟩
 simp only[aW,oY,or_false]at hd;rcases hd with rfl|rfl|rfl|rfl|rfl|rfl
 ·exact r.zo (hG _ _) (i 5)
 ·exact r.zo (hG _ _) (i 3)
 ·exact r.zo (hG _ _) (i 4)
 ·exact r.zo (hG _ _) (i 0)
 ·exact r.zo (hG _ _) (i 1)
 ·exact r.zo (hG _ _) (i 2)
noncomputable def kJ:List D->List D->List D->List D
 |x::c,y::b,z::a =>.tup [x,y,z]::kJ c b a|_,_,_=>[]
theorem vO:∀(c b a:List D),(kJ c b a).length=min c.length (min b.length a.length)
 |[],b,a=>by simp[kJ]
 |x::c,[],a=>by simp[kJ]
 |x::c,y::b,[]=>by simp[kJ]
 |x::c,y::b,z::a=>by simp[kJ,vO c b a]
theorem AG:∀ {c b a:List D}{i:Nat}{d:D},(kJ c b a)[i]?=Y d->∃x y z,c[i]?=Y x/\b[i]?=Y y/\a[i]?=Y z/\d=.tup [x,y,z]
 |[],b,a,i,d,h=>by simp[kJ]at h
 |x::c,[],a,i,d,h=>by simp[kJ]at h
 |x::c,y::b,[],i,d,h=>by simp[kJ]at h
 |x::c,y::b,z::a,0,d,h=>by simp[kJ]at h;exact⟨x,y,z,rfl,rfl,rfl,h.symm⟩
 |x::c,y::b,z::a,i+1,d,h=>by simp only[kJ,N5]at h ⊢;exact AG h
def Jy{K:aT}{f e:List V}(g:G a=Y (.lst f))(L:G b=Y (.lst h))(J:G c=Y (.lst e))(r:bE K G ds f)(U:bE K G es h)(o:bE K G fs e):EK K G (TQ K a b c) (kJ ds es fs):=by
 have l1:=r.length;have l2:=U.length;have l3:=o.length;refine⟨λi H s I =>?_,λi H s I=>⟨f,h,e,.of (s _ _ g),.of (s _ _ L),.of (s _ _ J),by rw[vO]at I;omega⟩,λi H x H' G1 d v k ⟨y,T,j,p,P,O,N,X,ev,eh⟩ hd =>?_⟩
 ·rw[vO]at I;have P:i<f.length:=by omega
  have O:i<h.length:=by omega
  have N:i<e.length:=by omega
  exact⟨f,h,e,f[i],h[i],e[i],.of (s _ _ g),.of (s _ _ L),.of (s _ _ J),by simp[P],by simp[O],by simp[N]⟩
 ·obtain⟨c1,c2,c3,S,R,Q,rfl⟩:=AG hd;have F:=P f (.of (k _ _ (v _ _ g)));have E:=O h (.of (k _ _ (v _ _ L)));have C:=N e (.of (k _ _ (v _ _ J)));obtain⟨v1,u,B⟩:=r.get S;obtain⟨v2,t,z⟩:=U.get R;obtain⟨v3,q,w⟩:=o.get Q;rw[F]at u;cases u;rw[E]at t;cases t;rw[C]at q;cases q;subst ev eh;have m:=v.trans (.alloc (o :=.tup [y,T,j]) (k.free X));exact⟨cx G1 p (.tup [y,T,j]),gc.alloc k X,eP.mpr ⟨p,_,rfl,aX,.cons (cJ.mono m c1 B) (.cons (cJ.mono m c2 z) (.cons (cJ.mono m c3 w) .nil))⟩⟩
def Xa(f n A:DF):DL:=λa=>(iL f a).bind λd=>(iL n a).bind λc=>(iL A a).map λb=>kJ d c b
def PB{O}{m:Pos}(hg:Gl X "zip")(hm:X.mg "zip" = M)(h:PE X e (tP X.K Z f))(h':PE X l (tP X.K Z n))(E:PE X g (tP X.K Z A))(hs:autoParam (ao [e,l,g] X.env=[(Z_,eval e X.env),(Z_,eval l X.env),(Z_,eval g X.env)]) Ų)(C:autoParam (ao [l,g] X.env=[(Z_,eval l X.env),(Z_,eval g X.env)]) Ų)(D:autoParam (ao [e,l,g] X.env=(Z_,eval e X.env)::ao [l,g] X.env) Ų)(B:autoParam (ao [l,g] X.env=(Z_,eval l X.env)::ao [g] X.env) Ų)(z:autoParam (ao [g] X.env=(Z_,eval g X.env)::ao [] X.env) Ų):
  PI X (.Tuple r O m) (.Call (.Name "zip" p) [e,l,g] [] y) (C8 X.K Z (Xa f n A)):=(OM hg hm (jj h (jj h' (jj E sN z) B) D) hs C).imp <|by
 rintro σ H R ⟨G,u,ds,gh,F,j,k⟩;unfold Xa at j;obtain⟨N,ef,j⟩:=aa.1 j;rcases i:iL n u with _|V
 ·simp[i]at j
 rcases d:iL A u with _|L
 ·simp[i,d]at j
 simp only[i,d,ae,bP]at j;cases j;refine⟨G,u,[.lst N,.lst V,.lst L],gh,F,?_,λvs G1 H1 s r1 =>?_⟩
 ·simp only[aC,aN,vp ef,vp i,vp d,ae]
 ·obtain⟨v,t,rfl,rv,rt⟩:=bH.mp r1;obtain⟨v',t',rfl,w,x⟩:=bH.mp rt;obtain⟨T,U,rfl,o,q⟩:=bH.mp x;have:=cP.mp q;subst this;obtain⟨a,S,rfl,K,ra⟩:=cS.mp rv;obtain⟨b,Q,rfl,J,rb⟩:=cS.mp w;obtain⟨c,P,rfl,I,rc⟩:=cS.mp o;exact⟨a,b,c,rfl,⟨S,.of (s.gh _ _ K)⟩,⟨Q,.of (s.gh _ _ J)⟩,⟨P,.of (s.gh _ _ I)⟩,k _ G1 H1 s (Jy K J I ra rb rc)⟩
end
structure TB(kd:SortKind)(a0:Array Keyed)(st:SortSt):Prop where
 pm:(da st).Perm a0
 kn:kindOf st=kd
 fl:UO st=none
 pd:oO st=#[]
noncomputable def kx(o:ak->Int)(a:Array Keyed)(i:Nat):Int:=((a[i]?).map λp=>o p.1).getD 0
def Up(o:ak->Int)(a:Array Keyed)(k:Nat):Prop:=∀i j,i<j->j<k->kx o a i<kx o a j
def Dn(o:ak->Int)(a:Array Keyed)(k:Nat):Prop:=∀i j,i<j->j<k->kx o a j<kx o a i
def Df(o:ak->Int)(a:Array Keyed):Prop:=(a.toList.map λp=>o p.1).Nodup
def Df.perm(h:Df o a)(p:b.Perm a):Df o b:=by
 have q:=(rT.mp p).map λp=>o p.1
 exact q.nodup_iff.mpr h
def Df.ne(h:Df o a){i j:Nat}(d:i<a.size)(c:j<a.size)(b:i≠j):kx o a i≠kx o a j:=by
 intro e;have g:kx o a i=(a.toList.map λp=>o p.1)[i]'(by simpa using d):=by simp[kx,d]
 have f:kx o a j=(a.toList.map λp=>o p.1)[j]'(by simpa using c):=by simp[kx,c]
 rw[g,f]at e;rcases Nat.lt_or_gt_of_ne b with z|z
 ·exact(sU.mp h) i j _ _ z e
 ·exact(sU.mp h) j i _ _ z e.symm
section
variable {s:av}
def TB.size{a:SortSt}(h:TB kd a0 a):(da a).size=a0.size:=h.pm.size_eq
def TB.arr(h:TB kd a0 a)(p:b.Perm (da a)):TB kd a0 (setArr a b):=⟨p.trans h.pm,h.kn,h.fl,h.pd⟩
def TB.ne(h:TB kd a0 a)(d:Df o a0){i j:Nat}(e:i<a0.size)(c:j<a0.size)(b:i≠j):kx o (da a) i≠kx o (da a) j:=
 (d.perm h.pm).ne (by rw[h.size];exact e) (by rw[h.size];exact c) b
def UL(prog:br)(w:cY)(A:gI)(E:ak->av->Prop)(s:av)(a0:Array Keyed)(kd:SortKind)(o:ak->Int):Prop:=
 ∀(a:SortSt) (i j:Nat) (Q:Option Bool->SortSt->Prop),TB kd a0 a->i<a0.size->j<a0.size->i≠j->Q (Y (decide (kx o (da a) i<kx o (da a) j))) a->wpS (aV prog w) A E s (ltAt' i j) Q a
def Up.more{i:Nat}(u:Up o c i)(g:1<=i)(h:kx o c (i-1)<kx o c i):Up o c (i+1):=λa b d j=>by
 by_cases e:b=i
 ·subst e;by_cases f:a=b-1
  ·subst f;exact h
  ·exact vH (u a (b-1) ž ž) h
 ·exact u a b d ž
def Dn.more{i:Nat}(u:Dn o c i)(g:1<=i)(h:kx o c i<kx o c (i-1)):Dn o c (i+1):=λa b d j=>by
 by_cases e:b=i
 ·subst e;by_cases f:a=b-1
  ·subst f;exact h
  ·exact vH h (u a (b-1) ž ž)
 ·exact u a b d ž
def GW{m:Nat}(C:UL prog w A E s a0 kd o)(d:Df o a0)(B:TB kd a0 b)(n:m<=a0.size)(p:1<=a)(j:a<=m)(u:Up o (da b) a)(h:∀i,a<=i->i<=m->Up o (da b) i->(i=m\/kx o (da b) i<kx o (da b) (i-1))->Q (M,i) b):wpS (aV prog w) A E s (ascLoop a m) Q b:=by
 unfold ascLoop;refine xq (I:=λi c t=>c=(M,i)/\t=b/\Up o (da b) i) (λi c t g l k =>?_) (λc t k =>?_) ⟨rfl,rfl,u⟩
 ·obtain⟨rfl,rfl,f⟩:=k;refine dm (C _ i (i-1) _ B ž ž ž ?_);dsimp only;by_cases e:kx o (da t) i<kx o (da t) (i-1)
  ·rw[decide_eq_true e,if_pos rfl];exact gL (h i g ž f (.inr e))
  ·rw[decide_eq_false e,if_neg (by decide)];have:=B.ne d (i:=i-1) (j:=i) ž ž ž;exact gL ⟨rfl,rfl,f.more ž ž⟩
 ·obtain⟨rfl,rfl,f⟩:=k;have:max a m=m:=by omega
  rw[this]at f ⊢;exact h m j (aQ _) f (.inl rfl)
def IE{m:Nat}(C:UL prog w A E s a0 kd o)(d:Df o a0)(B:TB kd a0 b)(n:m<=a0.size)(p:1<=a)(j:a<=m)(u:Dn o (da b) a)(h:∀i,a<=i->i<=m->Dn o (da b) i->Q (M,i,0) b):wpS (aV prog w) A E s (descLoop a m) Q b:=by
 unfold descLoop;refine xq (I:=λi c t=>c=(M,i,0)/\t=b/\Dn o (da b) i) (λi c t g l k =>?_) (λc t k =>?_) ⟨rfl,rfl,u⟩
 ·obtain⟨rfl,rfl,f⟩:=k;refine dm (C _ i (i-1) _ B ž ž ž ?_);dsimp only;by_cases e:kx o (da t) i<kx o (da t) (i-1)
  ·rw[decide_eq_true e,if_pos rfl,if_neg (by decide)];exact gL ⟨rfl,rfl,f.more ž e⟩
  ·rw[decide_eq_false e,if_neg (by decide)];refine dm (C _ (i-1) i _ B ž ž ž ?_);have:=B.ne d (i:=i-1) (j:=i) ž ž ž;dsimp only;rw[decide_eq_true (by omega:kx o (da t) (i-1)<kx o (da t) i),if_pos rfl];exact gL (h i g ž f)
 ·obtain⟨rfl,rfl,f⟩:=k;have:max a m=m:=by omega
  rw[this]at f ⊢;exact h m j (aQ _) f
def Fh(b:n<=a.size)(u:Dn o a n):Up o (mirror a 0 n ((n-0)/2)) n:=λi j e d=>by
 have g:∀k,k<n->kx o (mirror a 0 n ((n-0)/2)) k=kx o a (n-1-k):=λk c=>by unfold kx;rw[getElem?_mirror_all b k,if_pos ⟨cy _,c⟩,qY]
 rw[g i (by omega),g j d];exact u _ _ ž ž
def RB{m:Nat}(C:UL prog w A E s a0 kd o)(d:Df o a0)(B:TB kd a0 c)(I:m=a0.size)(G:1<=m)(h:∀i t,TB kd a0 t->1<=i->i<=m->Up o (da t) i->Q (Y i) t):wpS (aV prog w) A E s (countRun' 0 m) Q c:=by
 rw[countRun0_eq];refine dm (GW C d B ž (aQ 1) G (λi j D J=>ž) λi g f l q =>?_);dsimp only;by_cases e:i=m
 ·subst e;rw[if_pos (by simp)];exact gL (h i c B g f l)
 ·rw[if_neg (by simpa using e)];have q:kx o (da c) i<kx o (da c) (i-1):=by rcases q with z|z;exact absurd z e;exact z
  by_cases r:i > 1
  ·rw[if_pos r];refine dm (C _ _ _ _ B ž ž (by show 0≠i-1;omega) ?_);dsimp only;rw[decide_eq_true (l 0 (i-1) (by omega) (by omega)),if_pos rfl];exact gL (h i c B g f l)
  ·rw[if_neg r];have:i=1:=by omega
   subst this;unfold descPart;refine dm (wpS_lift (TY ⟨rfl,?_⟩));refine dm (IE C d B ž ž ž (Dn.more (i:=1) (λa b F K=>ž) (aQ 1) q) λj y p H =>?_);dsimp only;rw[if_neg (by decide)];unfold tail3;rw[reverseSlice'_eq];refine dm (wpS_modify ?_);have u:TB kd a0 (setArr c (mirror (da c) 0 j ((j-0)/2))):=B.arr (mirror_perm _ _ _ _);refine dm (GW C d u ž ž p (Fh (by rw[B.size];omega) H) λk x n v _ =>?_);exact gL (h k _ u ž n v)
def Q_(f:k<a.size)(n:l<=k)(u:Up o a k)(e:∀i,i<l->kx o a i<kx o a k)(h:∀i,l<=i->i<k->kx o a k<kx o a i):Up o (bubble a k (k-l)) (k+1):=λi j b p=>by
 have g:∀q,kx o (bubble a k (k-l)) q=if q=l then kx o a k else if l<q/\q<=k then kx o a (q-1) else kx o a q:=λq=>by
  unfold kx;rw[getElem?_bubble f (k-l) (by omega) q,show k-(k-l)=l by omega];split
  ·rfl
  ·split<;>rfl
 rw[g i,g j];by_cases d:i=l
 ·rw[if_pos d,if_neg (by omega),if_pos (by omega)];exact h _ ž ž
 ·rw[if_neg d];by_cases c:j=l
  ·rw[if_pos c,if_neg (by omega)];exact e _ ž
  ·rw[if_neg c];by_cases s:l<i
   ·rw[if_pos (by omega),if_pos (by omega)];exact u _ _ ž ž
   ·rw[if_neg (by omega)];by_cases r:l<j
    ·rw[if_pos (by omega)];by_cases m:i<j-1
     ·exact u _ _ m ž
     ·omega
    ·rw[if_neg (by omega)];exact u _ _ b ž
def OD{m:Nat}(C:UL prog w A E s a0 kd o)(d:Df o a0)(B:TB kd a0 y)(T:n=a0.size)(K:1<=m)(U:m<=n)(u:Up o (da y) m)(h:∀t,TB kd a0 t->Up o (da t) n->Q Z' t):wpS (aV prog w) A E s (binarySort' 0 n m) Q y:=by
 rw[binarySort'_eq];simp only[qY];have z:max m 1=m:=by omega
 rw[z];refine dm (wpS_mono (xq (I:=λk c t=>c=(M,())/\TB kd a0 t/\Up o (da t) k) (Q:=λc t=>c=(M,())/\TB kd a0 t/\Up o (da t) n) (λk c t V L D =>?_) (λc t D =>?_) ⟨rfl,B,u⟩) λc t J =>?_)
 ·obtain⟨rfl,g,a⟩:=D;refine dm (wpS_mono (xq (I:=λq c b=>b=t/\∃l r,c=(M,l,r)/\l<=r/\r<=k/\r-l<=k-q/\(∀i,i<l->kx o (da t) i<kx o (da t) k)/\(∀i,r<=i->i<k->kx o (da t) k<kx o (da t) i))
   (Q:=λc b=>b=t/\∃l,c=(M,l,l)/\l<=k/\(∀i,i<l->kx o (da t) i<kx o (da t) k)/\(∀i,l<=i->i<k->kx o (da t) k<kx o (da t) i)) (λq c b I H p =>?_) (λc b p =>?_) ⟨rfl,0,k,rfl,cy _,aQ _,ž,λi f=>ž,λi f N=>ž⟩) λc b p =>?_)
  ·obtain⟨rfl,l,r,rfl,G,v,R,j,f⟩:=p;dsimp only;by_cases e:l ≥ r
   ·rw[if_pos e];have:l=r:=by omega
    subst this;exact gL ⟨rfl,l,rfl,v,j,f⟩
   ·rw[if_neg e];refine dm (C _ _ _ _ g ž ž ž ?_);dsimp only;by_cases x:kx o (da b) k<kx o (da b) ((l+r)/2)
    ·rw[decide_eq_true x,if_pos rfl];refine gL ⟨rfl,l,(l+r)/2,rfl,ž,ž,ž,j,λi P O =>?_⟩;by_cases F:i=(l+r)/2
     ·subst F;exact x
     ·exact vH x (a _ _ ž O)
    ·rw[decide_eq_false x,if_neg (by decide)];have S:=g.ne d (i:=k) (j:=(l+r)/2) ž ž ž;refine gL ⟨rfl,(l+r)/2+1,r,rfl,ž,v,ž,λi P =>?_,f⟩;by_cases F:i=(l+r)/2
     ·subst F;omega
     ·have:=a i ((l+r)/2) ž ž;omega
  ·obtain⟨rfl,l,r,rfl,G,v,R,j,f⟩:=p;have:l=r:=by omega
   subst this;exact⟨rfl,l,rfl,v,j,f⟩
  ·obtain⟨rfl,l,rfl,lk,j,f⟩:=p;dsimp only;rw[moveDown'_eq];refine dm (wpS_modify (gL ⟨rfl,g.arr (bubble_perm _ _ _),?_⟩));exact Q_ (by rw[g.size];omega) lk a j f
 ·obtain⟨rfl,g,a⟩:=D;have:max m n=n:=by omega
  rw[this]at a;exact⟨rfl,g,a⟩
 ·obtain⟨rfl,g,a⟩:=J;exact gL (h t g a)
def K3{st:SortSt}{Q:Unit->SortSt->Prop}(C:UL prog w A E s a0 kd o)(d:Df o a0)(B:TB kd a0 st)(P:2<=a0.size)(m:a0.size<64)(h:∀t,(da t).Perm a0->UO t=M->Up o (da t) a0.size->Q () t):wpS (aV prog w) A E s sortRuns' Q st:=by
 rw[sortRuns'_eq];refine dm (wpS_get ?_);dsimp only;have I:minRun' a0.size a0.size 0=a0.size:=by
  have:∀n,0<n->n<64->minRun' n n 0=n:=λn R N=>by
   cases n with|zero=>omega|succ f=>rw[minRun'_succ,if_pos N,Nat.add_zero]
  exact this _ ž m
 rw[B.size,I];refine dm (wpS_mono (xq (I:=λx c t=>if x=0 then c=(M,0)/\TB kd a0 t else c=(M,a0.size)/\(da t).Perm a0/\UO t=M/\(oO t).size=1/\Up o (da t) a0.size)
  (Q:=λc t=>c=(M,a0.size)/\(da t).Perm a0/\UO t=M/\(oO t).size=1/\Up o (da t) a0.size) (λx c t K J g =>?_) (λc t g =>?_) (by simpa using B)) λc t S =>?_)
 ·by_cases e:x=0
  ·subst e;simp only[if_true]at g;obtain⟨rfl,O⟩:=g;dsimp only;rw[if_neg (by omega),Nat.sub_zero];have lQ:∀a,TB kd a0 a->Up o (da a) a0.size->(da (setPending a ((oO a).push (0,a0.size,0)))).Perm a0/\UO (setPending a ((oO a).push (0,a0.size,0)))=M/\(oO (setPending a ((oO a).push (0,a0.size,0)))).size=1/\Up o (da (setPending a ((oO a).push (0,a0.size,0)))) a0.size:=λa b u=>⟨b.pm,b.fl,by show ((oO a).push _).size=1;rw[b.pd];rfl,u⟩
   refine dm (RB C d O rfl ž λi D r k j v =>?_);dsimp only;by_cases F:i<a0.size
   ·rw[if_pos F];refine dm (wpS_lift (TY ⟨rfl,?_⟩));rw[Ql];refine dm (OD C d r rfl k j v λy G H =>?_);simp only[Bool.not_true,eM,if_false];refine dm (wpS_get ?_);rw[show (oO y).back? = M by rw[G.pd];rfl];dsimp only;refine dm (wpS_modify (gL ?_));simp only[qY];exact⟨Ž,lQ y G H⟩
   ·rw[if_neg F];have:i=a0.size:=by omega
    subst this;refine dm (wpS_get ?_);rw[show (oO D).back? = M by rw[r.pd];rfl];dsimp only;refine dm (wpS_modify (gL ?_));simp only[qY];exact⟨Ž,lQ D r v⟩
  ·simp only[if_neg e]at g;obtain⟨rfl,L⟩:=g;dsimp only;rw[if_pos (aQ _)];exact gL ⟨rfl,L⟩
 ·have:max 0 a0.size≠0:=by omega
  rw[if_neg this]at g;exact g
 ·obtain⟨rfl,p,f,q,u⟩:=S;dsimp only;refine dm (wpS_mono (xq (I:=λ_ c a=>a=t/\c=(M,())) (Q:=λc a=>a=t/\c=(M,())) (λx c a _ _ l =>?_) (λ_ _ z=>z) ⟨rfl,rfl⟩) λc a l =>?_)
  ·obtain⟨rfl,rfl⟩:=l;refine dm (wpS_get ?_);rw[if_pos (by rw[q];exact aQ 1)];exact gL ⟨rfl,rfl⟩
  ·obtain⟨rfl,rfl⟩:=l;exact gL (h a p f u)
end
def mM(h:cF)(v:ak)(n:Int):Prop:=∃a o b k t,v=.ref a/\h.get? a=Y o/\o.cls=.type "tuple" /\o.data=.seq b k/\b[0]?=Y (.int n t)
noncomputable def oQ(h:cF):ak->Int
 | .ref a=>match h.get? a with
  | some o=>match o.data with
   | .seq (b:Array ak) _=>match (b[0]? : Option ak) with
    |some (jn n _)=>n|_=>0
   |_=>0
  |none=>0
 |_=>0
def mM.key{v:ak}(x:mM h v n):oQ h v=n:=by
 obtain⟨a,o,b,k,t,rfl,e,f,d,c⟩:=x;simp only[oQ,e,d,c]
def mM.keep{v:ak}(x:mM h v n)(k:∀a o,h.get? a=Y o->c.get? a=Y o):mM c v n:=by
 obtain⟨a,o,b,e,t,rfl,f,d⟩:=x;exact⟨a,o,b,e,t,rfl,k a o f,d⟩
def Ju(c:Bool)(x y:ak):keyLt' (tuples' c) x y=(do
  let b <- Aa x;let a <- Aa y
  for ((p,q),i) in (b.toList.zip a.toList).zipIdx do
   if !(<- eqBool p q) then return <- oneLt' (c&&i==0) p q
  return b.size<a.size):=rfl
def Gj(v:ak):Qh v=(do
  if (<- z7 v) != .type "tuple" then return M
  return (<- Aa v)[0]?):=rfl
section
variable {s:av}
def Mh{m:Int}(q:mM s.heap x m)(p:mM s.heap y n)(g:m≠n)(h:Q (decide (m<n)) s):bq (aV prog w) A (keyLt' (tuples' Z') x y) Q E s:=by
 obtain⟨a,o,d,k,t,rfl,v,J,u,r⟩:=q;obtain⟨b,H,c,I,l,rfl,D,K,C,B⟩:=p;rw[Ju];refine ah (UN v u (ah (UN D C ?_)));obtain⟨j,G⟩:∃j,d.toList=.int m t::j:=by
  have:d.toList[0]?=Y (.int m t):=by simpa using r
  cases e:d.toList with|nil=>rw[e]at this;cases this|cons z f=>rw[e]at this;simp at this;subst this;exact⟨f,rfl⟩
 obtain⟨i,F⟩:∃i,c.toList=.int n l::i:=by
  have:c.toList[0]?=Y (.int n l):=by simpa using B
  cases e:c.toList with|nil=>rw[e]at this;cases this|cons z f=>rw[e]at this;simp at this;subst this;exact⟨f,rfl⟩
 rw[G,F];simp only[cb,EU,List.forIn_cons];refine ah (ah (ah (wpAny_eqBool_int ?_)));have:(m==n)=false:=by simpa using g
 rw[this];simp only[Kh,if_true,Bool.true_and];refine ah (oneLt_int ?_);exact aE (aE (aE h))
def Gk{v:ak}(d:mM s.heap v n)(h:∀t,Q (Y (.int n t)) s):bq (aV prog w) A (Qh v) Q E s:=by
 obtain⟨a,o,b,k,t,rfl,c,g,f,e⟩:=d;rw[Gj];refine ah (wpAny_typeOf (T:= "tuple") ⟨o,c,g⟩ ?_);rw[if_neg (by decide)];refine ah (UN c f (aE ?_));rw[e];exact h t
def JI{s:av}{Q:List (Option ak)->av->Prop}(q:Paired (mM s.heap) b c)(h:∀a,Paired (λf n=>∃t,f=Y (jn n t)) a c->Q a s):bq (aV prog w) A (b.mapM Qh) Q E s:=by
 induction q generalizing Q with
 |nil=>rw[List.mapM_nil];exact aE (h [] .nil)|cons r t i=>rw[List.mapM_cons];exact ah (Gk r λd=>ah (i λa e=>aE (h _ (.cons ⟨d,rfl⟩ e))))
def KG{a:List (Option ak)}(q:Paired (λf n=>∃t,f=Y (jn n t)) a c):(a.filterMap id).mapM z7=dP (c.map λ_=>bS "int")/\a.all (·.isSome)=true:=by
 induction q with
 |nil=>exact⟨Ž,rfl⟩
 |cons x r i=>obtain⟨g,d⟩:=i;obtain⟨t,rfl⟩:=x;refine⟨?_,by simp at d ⊢;exact d⟩;rw[qv];simp only[id,List.mapM_cons,g];show (dP (bS "int") >>= λb=>dP _ >>= λh=>dP (b::h))=_;simp
def Pe{Q:SortKind->av->Prop}(f:Paired (mM s.heap) c d)(k:c≠[])(h:Q (tuples' Z') s):bq (aV prog w) A (keyKind' c.toArray) Q E s:=by
 rw[keyKind'_eq,List.mapM_toArray];refine ah ?_;show bq _ _ (List.toArray <$> c.mapM Qh) _ _ _;rw[map_eq_pure_bind];refine ah (JI f λe j=>aE ?_);obtain⟨i,g⟩:=KG j;rw[if_pos (by simpa using g)];refine ah (TY ?_);rw[oneTypeOnly'_eq];have m:(e.toArray.filterMap id).mapM z7=dP (d.map λ_=>bS "int").toArray:=by
  have:e.toArray.filterMap id=(e.filterMap id).toArray:=by simp
  rw[this,List.mapM_toArray,i];rfl
 rw[m];simp only[pure_bind];obtain⟨n,a,rfl⟩:∃n a,d=n::a:=by
  cases f with|nil=>exact absurd rfl k|cons r t=>exact⟨_,_,rfl⟩
 have l:(Ke (λ_=>bS "int") (n::a)).toArray[0]?=Y (bS "int"):=by simp
 rw[l];have b:((Ke (λ_=>bS "int") (n::a)).toArray.all λx=>x==bS "int")=true:=by simp only[List.all_toArray,lH,dU];intro _ _;rfl
 simp only[b,if_true,pure_bind];exact aE h
def Ji(h:p∈(rV a).toList):p.1=p.2/\p.1∈a:=by
 rw[pairsOf_toList]at h;exact mem_zip_self h
def qI(h:Paired (mM b) c d):∀v∈c,mM b v (oQ b v):=by
 induction h with
 |nil=>intro v a;cases a
 |cons r t ih=>
  intro v a;rcases aW.mp a with rfl|a
  ·rw[r.key];exact r
  ·exact ih v a
def D0(h:Paired (mM s.heap) a b):a.map (oQ s.heap)=b:=by
 induction h with|nil=>rfl|cons r t ih=>rw[bh,r.key,ih]
def PU{f:List Int}(g:Paired (mM s.heap) a f)(o:f.Nodup):UL prog w A E s (rV a) (tuples' Z') (oQ s.heap)/\Df (oQ s.heap) (rV a):=by
 have l:Df (oQ s.heap) (rV a):=by
  unfold Df;rw[pairsOf_toList];have:((a.zip a).map λp=>oQ s.heap p.1)=a.map (oQ s.heap):=by have:=congrArg (Ke (oQ s.heap)) (List.map_fst_zip (l₁:=a) (l₂:=a) (aQ _));rw[C5]at this;exact this
  rw[this,D0 g];exact o
 refine⟨λst i j Q B d k e h =>?_,l⟩;have c:∀i,i<(rV a).size->∃x p,(da st)[i]?=Y (x,p)/\mM s.heap x (kx (oQ s.heap) (da st) i):=λi d=>by
  have b:i<(da st).size:=by rw[B.size];exact d
  have r:(da st)[i]∈(rV a).toList:=(rT.mp B.pm).mem_iff.mp Ž;refine⟨(da st)[i].1,(da st)[i].2,getElem?_pos _ i b,?_⟩;have:=qI g _ (Ji r).2;simpa [kx,b] using this
 obtain⟨x,p,u,n⟩:=c i d;obtain⟨y,q,t,m⟩:=c j k;rw[ltAt'_eq];refine dm (wpS_get ?_);show wpS _ _ _ _ (do let x <- elem' (da st) i;let y <- elem' (da st) j;lt' x y) Q st;rw[elem'_eq,elem'_eq,u,t];refine dm (gL (dm (gL ?_)));rw[lt'_eq];refine dm (wpS_get ?_);rw[B.kn];refine dm (wpS_lift (E_ (Mh n m (B.ne l d k e) ⟨rfl,?_⟩)));exact gL h
def CU(h:cF)(b:List ak)(a:Array ak):Prop:=a.toList.Perm b/\(a.toList.map (oQ h)).Pairwise (· < ·)
def LD{xs:Array Keyed}(g:xs.Perm (rV a))(u:Up (oQ s.heap) xs (rV a).size):CU s.heap a (xs.map (·.2)):=by
 have h:xs.toList.Perm (a.zip a):=by rw[<- pairsOf_toList];exact rT.mp g
 have e:(xs.map (·.2)).toList=xs.toList.map (·.1):=by rw[Array.toList_map];exact z9 λp c=>((mem_zip_self (h.mem_iff.mp c)).1).symm
 refine⟨?_,?_⟩
 ·rw[e];have:=h.map (·.1);rwa [List.map_fst_zip (aQ _)]at this
 ·rw[e,C5,sU];intro i j l k d;have f:i<xs.size:=by simpa using l
  have b:j<xs.size:=by simpa using k
  have:=u i j d (by rw[<- g.size_eq];exact b);simpa [kx,f,b] using this
end
section
variable {s:av}
def D1(f:Paired (mM h) b d)(k:∀a o,h.get? a=Y o->e.get? a=Y o):Paired (mM e) b d:=by
 induction f with|nil=>exact .nil|cons r t ih=>exact .cons (r.keep k) ih
def Jt{v:ak}(x:mM h v n)(k:∀a o,h.get? a=Y o->b.get? a=Y o):oQ b v=oQ h v:=by rw[x.key,(x.keep k).key]
def CU.back{f:cF}(i:Paired (mM h) d g)(k:∀a o,h.get? a=Y o->f.get? a=Y o)(o:CU f d b):CU h d b:=by
 refine⟨o.1,?_⟩;have e:b.toList.map (oQ h)=b.toList.map (oQ f):=z9 λv j=>by have:=qI i v (o.1.mem_iff.mp j);exact(Jt this k).symm
 rw[e];exact o.2
def K2{P:Fin->av->Prop}(K:s.heap.get? a=Y (Fb "list" g.toArray n))(F:Paired (mM s.heap) g I)(R:∀v∈g,v ≠ .ref a)(hn:I.Nodup)(V:g.length<64)(h:∀f,CU s.heap g f->P (.done (.ret .none)) { s with heap:=sortedHeap s.heap a g f }):bq (aV c w) A (Builtin.«list.sort» ⟨[.ref a],[]⟩) P E s:=by
 rw[list_sort_plain];refine ah (UN K rfl ?_);refine ah (listUpdate_at K rfl ?_);have T:=get?_update_seq K (λ_ =>#[]);refine ah (seqEpoch_at T rfl ?_);refine ah (wpAny_newTuple ?_);refine ah (wpAny_newList ?_);refine fG ?_;have y:=aj (Fb "list" #[] 0) (aj (Fb "tuple" g.toArray 0) T);generalize S:(((s.heap.update a (Obj.mapSeq λ_ =>#[])).push (Fb "tuple" g.toArray 0)).push (Fb "list" #[] 0))=l at y;have O:∀b o,b≠a->s.heap.get? b=Y o->l.get? b=Y o:=λb o L q=>by rw[<- S];refine aj _ (aj _ ?_);rw[bG _ _ (bF L)];exact q
 have x:Paired (mM l) g I:=by
  have:∀ {D:List ak}{J:List Int},Paired (mM s.heap) D J->(∀v∈D,v ≠ .ref a)->Paired (mM l) D J:=by
   intro D J G
   induction G with
   |nil=>intro _;exact .nil
   |cons r t ih=>intro Q;refine .cons ?_ (ih λv F=>Q v (ay _ F));obtain⟨b,o,m,k,N,rfl,H,p⟩:=r;exact⟨b,o,m,k,N,rfl,O b o (λz=>Q _ az (by rw[z])) H,p⟩
  exact this F R
 have B:∀f,CU l g f->CU s.heap g f:=λf o=>by
  refine⟨o.1,?_⟩;have e:f.toList.map (oQ s.heap)=f.toList.map (oQ l):=z9 λv hm=>by
   have u:=o.1.mem_iff.mp hm;have U:=qI F v u;obtain⟨b,X,m,k,N,rfl,H,p⟩:=U;have L:b≠a:=λz=>R _ u (by rw[z])
   simp only[oQ,H,O b X L H]
  rw[e];exact o.2
 show bq (aV c w) A _ P E { s with heap:=l };dsimp only;have sz:g.toArray.size=g.length:=by simp
 have lQ:∀f,CU l g f->P (.done (.ret .none)) { s with heap:=l.update a (Obj.mapSeq λ_=>f) }:=λf o=>by have:=h f (B f o);unfold sortedHeap at this;rw[S]at this;exact this
 by_cases p:g.toArray.size<2
 ·rw[if_pos p,if_pos p];refine ah (aE ?_);rw[StateT.run_pure];refine ah (aE ?_);dsimp only;refine ah (seqEpoch_at y rfl ?_);refine ah (listUpdate_at y rfl ?_ (hsz2:=by rw[Array.size_map];show (rV g).size<=_;rw[Fc,gF];omega));simp only[bne_self_eq_false,eM,if_false];refine aE (lQ _ (LD (s:={ s with heap:=l }) (xs:=rV g) (Array.Perm.refl _) λi j Uw hj =>?_));rw[Fc]at hj;omega
 ·rw[if_neg p,if_neg p];refine ah (Pe (s:={ s with heap:=l }) x (λz=>p (by rw[z];decide)) ?_);obtain⟨C,d⟩:=PU (prog:=c) (w:=w) (A:=A) (E:=E) (s:={ s with heap:=l }) x hn;refine ah (dJ (K3 (a0:=rV g) (kd:=tuples' Z') (st:=SortSt.mk' (tuples' Z') (g.toArray.zip g.toArray) #[] 7 M) (Q:=λ_ t=>(da t).Perm (rV g)/\UO t=M/\Up (oQ l) (da t) (rV g).size) C d ⟨Array.Perm.refl _,rfl,rfl,rfl⟩ (by rw[Fc];omega) (by rw[Fc];exact V) λt a1 a2 a3=>⟨a1,a2,a3⟩) ?_ λ_ _ e=>e);rintro⟨⟨⟩,t⟩ s' ⟨rfl,G,hf,hu⟩;dsimp only;refine ah (seqEpoch_at y rfl ?_);refine ah (listUpdate_at y rfl ?_ (hsz2:=by refine bQ (nK ((Array.size_map ..).trans (G.size_eq.trans (Fc _)))) ?_;rw[gF];omega));rw[hf];simp only[bne_self_eq_false,eM,if_false];exact aE (lQ _ (LD (s:={ s with heap:=l }) G hu))
def FD(F:s.heap.IsList l a.toArray)(m:Paired (mM s.heap) a x)(C:x.Nodup)(r:a.length<64)(h:∀d,CU s.heap a d->Q (.ref (s.heap.objs.size+1)) { s with heap:=sortedAll s.heap a d }):bq (aV c w) A (GP (.builtin "sorted") [.ref l]) Q E s:=by
 refine Calls.call_function_entry kind_sorted plain_sorted entry_sorted (args_sorted1 _) ?_;unfold Builtin.«sorted»;refine ah (m:=checkCount "sorted" 1 1 _) (aE ?_);refine ah (collect_list F ?_);refine ah (wpAny_newList ?_);generalize p:(s.heap.push (Fb "list" #[] 0)).update s.heap.objs.size (Obj.mapSeq (· ++ a.toArray))=g;have u:g.objs.size=s.heap.objs.size+1:=by rw[<- p,xP,size_push']
 have y:∀b o,s.heap.get? b=Y o->(g.push (Fb "list" a.toArray 0)).get? b=Y o:=λb o q=>by refine aj _ ?_;rw[<- p,bG _ _ (λz=>by have:=aI q;rw[<- z]at this;exact fg _ this)];exact aj _ q
 have f:(g.push (Fb "list" a.toArray 0)).get? (s.heap.objs.size+1)=Y (Fb "list" a.toArray 0):=by rw[<- u];exact bz _ rfl
 have j:=D1 m y;have n:∀v∈a,v ≠ .ref (s.heap.objs.size+1):=λv D z=>by
  obtain⟨b,o,i,k,t,rfl,G,_⟩:=qI m v D;have e:b=s.heap.objs.size+1:=by cases z;rfl
  have:=aI G;rw[e]at this;exact absurd this Ž
 show bq _ _ _ _ _ { s with heap:=g.push (Fb "list" a.toArray 0) };rw[u];refine ah (fG (wpAny_call_entry slot_list_sort ⟨_,f,rfl⟩ entry_list_sort (K2 (s:={ s with heap:=g.push (Fb "list" a.toArray 0) }) f j n C r λd B=>⟨_,rfl,?_⟩) (args_list_sort _)));refine aE ⟨_,rfl,?_⟩;have:=h d (B.back m y);unfold sortedAll at this;rw[p]at this;exact this
end
def DZ{m:Type}{R:m->k->Prop}(p:o.Perm n):∀ {a:List m},Paired R a o->∃b,b.Perm a/\Paired R b n:=by
 induction p with
 |nil=>intro a h;cases h;exact⟨[],.rfl,.nil⟩
 |cons u _ ih=>
  intro a h;cases h with
  |cons r t=>obtain⟨b,e,d⟩:=ih t;exact⟨_::b,e.cons _,.cons r d⟩
 |swap u v l=>
  intro a h;cases h with
  | cons r t=>cases t with
   |cons w s=>exact⟨_,.swap _ _ _,.cons w (.cons r s)⟩
 |trans _ _ j f=>intro a h;obtain⟨b,e,d⟩:=j h;obtain⟨q,y,x⟩:=f d;exact⟨q,y.trans e,x⟩
def I_{K:aT}{s:List V}(p:s.Perm q):∀ {a:List D},bE K G a s->∃f,f.Perm a/\bE K G f q:=by
 induction p with
 | nil=>intro a h;cases a with
  |nil=>exact⟨[],.rfl,.nil⟩|cons d a=>obtain⟨_,_,e,_⟩:=bH.mp h;cases e
 |cons u _ ih=>
  intro a h;cases a with
  |nil=>have:=cP.mp h;cases this
  |cons d a=>obtain⟨v,r,e,j,b⟩:=bH.mp h;cases e;obtain⟨f,m,k⟩:=ih b;exact⟨d::f,m.cons _,.cons j k⟩
 |swap u v l=>
  intro a h;cases a with
  |nil=>have:=cP.mp h;cases this
  |cons d a=>
   obtain⟨_,_,e,j,b⟩:=bH.mp h;cases e;cases a with
   |nil=>have:=cP.mp b;cases this
   |cons A a=>obtain⟨_,_,e,x,w⟩:=bH.mp b;cases e;exact⟨A::d::a,.swap _ _ _,.cons x (.cons j w)⟩
 |trans _ _ o n=>intro a h;obtain⟨B,m,k⟩:=o h;obtain⟨t,z,y⟩:=n k;exact⟨t,z.trans m,y⟩
theorem DN{d:j->Int}:∀ {l m:List j},l.Perm m->(l.map d).Pairwise (· < ·)->(m.map d).Pairwise (· < ·)->l=m
 |[],m,p,_,_=>by rw[List.Perm.nil_eq p]
 |a::l,[],p,_,_=>by have:=p.length_eq;simp at this
 | a::l,b::m,p,h,f=>by
  simp only[bh,rR]at h f;have e:a=b:=by
   rcases aW.mp (p.subset (az (a:=a) (l:=l))) with z|z
   ·exact z
   ·rcases aW.mp (p.symm.subset (az (a:=b) (l:=m))) with y|y
    ·exact y.symm
    ·have n:=h.1 (d b) (UP y);have k:=f.1 (d a) (UP z);omega
  subst e;rw[DN (List.Perm.cons_inv p) h.2 f.2]
noncomputable def Cg(a:D->Int)(d:D):List D->List D
 |[]=>[d]|x::b=>if a d<a x then d::x::b else x::Cg a d b
noncomputable def Fz(a:D->Int):List D->List D
 |[]=>[]|d::b=>Cg a d (Fz a b)
theorem wx(a:D->Int)(d:D):∀l,(Cg a d l).Perm (d::l)
 |[] =>.rfl| x::b=>by
  unfold Cg;split
  ·exact .rfl
  ·exact((wx a d b).cons x).trans (.swap _ _ _)
theorem vX(a:D->Int):∀l,(Fz a l).Perm l
 |[] =>.rfl|d::b=>(wx a d _).trans ((vX a b).cons d)
theorem Bg:∀ {l:List D},(l.map a).Pairwise (· < ·)->a d∉l.map a->((Cg a d l).map a).Pairwise (· < ·)
 |[],_,_=>by simp[Cg]
 | x::f,h,j=>by
  simp only[bh,rR,aW,not_or]at h j;unfold Cg;split
  ·rename_i b;simp only[bh,rR,aW];refine⟨?_,h⟩;rintro k (rfl|e)
   ·exact b
   ·exact vH b (h.1 k e)
  ·rename_i m;simp only[bh,rR];refine⟨λk e =>?_,Bg h.2 j.2⟩;have:k∈(d::f).map a:=((wx a d f).map a).subset e;rcases aW.mp this with z|z
   ·rw[z];omega
   ·exact h.1 k z
theorem AS:∀ {l:List D},(l.map a).Nodup->((Fz a l).map a).Pairwise (· < ·)
 |[],_ =>.nil|d::b,h=>by simp only[bh,qt]at h;exact Bg (AS h.2) λz=>h.1 (((vX a b).map a).subset z)
noncomputable def QN:D->Int
 |.tup (.int n::_)=>n|_=>0
noncomputable def VO:D->Bool
 |.tup (.int _::_)=>Z'|_=>Z_
section
variable {X:Cx}{f:DF}
def Rk(K:aT)(c:TE):TE:=λe H Q=>c e H λx d=>∃a b,x=.ref a/\m_ K d a (b.map V.int)/\b.length<64/\∀l,d l=M->Q (.ref l) (cx d l (.lst ((vY b).map V.int)))
def Lu(R:Gl X "sorted")(N:X.mg "sorted" = M)(O:PE X e c)(D:autoParam (ao [e] X.env=(Z_,eval e X.env)::ao [] X.env) Ų)(y:autoParam (fJ "sorted" = Y (.builtin "sorted")) ũ):PE X (.Call (.Name "sorted" p) [e] [] g) (Rk X.K c):=by
 intro f s F H Q I h;refine eZ (qL I R N y ?_);refine oX ?_ D rfl;refine fw (bT O dn D g f s F H (λr n=>match r with|[x]=>∃a d,x=.ref a/\m_ X.K n a (d.map V.int)/\d.length<64/\∀l,n l=M->Q (.ref l) (cx n l (.lst ((vY d).map V.int)))|_=>False) I h) ?_;rintro us C ⟨r,n,B,K,v⟩;cases r with
 |nil=>exact v.elim|cons x t=>
  cases t with
  |cons _ _=>exact v.elim|nil=>
   obtain⟨a,d,rfl,i,A,q⟩:=v;obtain⟨u,rfl,J⟩:=cg.one K;cases J;obtain⟨m,G,L,hz⟩:=B.list i;have E:Ff m d:=vn G;refine sorted_ints L.isList E (by rw[El E];exact A) λj w a1 U T =>?_
   have S:w=vY d:=Rt U T;subst S;obtain⟨k,P⟩:=sortedAll_at C.heap m j;refine⟨.ref _,_,B.laid (t':=C.toks) (λb o z=>sortedAll_old z) (fA _) (show e_ X.prog X.w _ _ _ (.lst ((vY d).map V.int)) from⟨?_,j.toList,k,BG a1,?_⟩),rfl,q _ (B.eR.fresh (fA _))⟩
   ·rw[aw,(u4 _).length_eq];have e:bc ≥ 64:=by decide
    omega
   ·rw[Uh];exact P
def me(f:DF):DL:=λb=>(f b).bind λd=>match d with|.lst e=>(Be e).bind λa=>if a.length<64 then Y ((vY a).map D.int) else M|_=>M
def Wl(x:Gl X "sorted")(w:X.mg "sorted" = M)(h:PE X e (tQ X.K Z f))(u:autoParam (ao [e] X.env=(Z_,eval e X.env)::ao [] X.env) Ų):PE X (.Call (.Name "sorted" p) [e] [] g) (tF X.K Z (me f)):=
 (Lu x w h u).imp <|by
  rintro D H Q ⟨G,q,I,z,n,b,k⟩;unfold me at b;obtain⟨d,B,b⟩:=aa.1 b;split at b
  ·rename_i E;obtain⟨s,A,b⟩:=aa.1 b;split at b
   ·rename_i t;cases b;refine⟨G,q,_,z,n,B,λv C J j r =>?_⟩;obtain⟨a,F,rfl,y,o⟩:=r.lst j.gh;rw[zg A]at o;have:=wb.mp o;subst this;exact⟨a,s,rfl,.of y,t,λl m=>k l _ C _ (j.trans (gc.lay (p:=l) j.gh m)) (j.hh.free m) (j.gh.free m) aX (bE.ints _)⟩
   ·cases b
  ·cases b
def Kn(H:Hp)(v:V)(n:Int):Prop:=∃b a,v=.ref b/\H b=Y (.tup (.int n::a))
def Rj(K:aT)(c:TE):TE:=λj H Q=>c j H λx b=>∃a d f,x=.ref a/\m_ K b a d/\Paired (Kn b) d f/\f.Nodup/\d.length<64/\∀l e h,b l=M->e.Perm d->Paired (Kn b) e h->h.Pairwise (· < ·)->Q (.ref l) (cx b l (.lst e))
def Mf{s:av}{a:List ak}(I:Inv X d j H s)(p:Paired (Kn H) l h)(q:cg l a):Paired (mM s.heap) a h:=by
 induction p generalizing a with
 |nil=>cases q;exact .nil|cons g t i=>
  obtain⟨b,x,rfl,w⟩:=g;rcases q with _|⟨r,m⟩;cases r;obtain⟨y,a,n,o,q,v,k,u⟩:=I.eR b _ w;cases n with
  |cons p _=>obtain⟨l,rfl⟩:=p;exact .cons ⟨b,o,_,k,l,rfl,q,v,u,Ž⟩ (i m)
def Pc{f:St}{s:av}(I:Inv X a f H s)(q:cg b d)(h:∀y∈b,∃n,Kn H y n):Paired (Kn H) b (d.map (oQ s.heap)):=by
 induction q with
 |nil=>exact .nil|cons r k i=>
  obtain⟨n,e⟩:=h _ az;have t:=Mf I (.cons e .nil) (.cons r .nil);cases t with
  |cons j _=>refine .cons ?_ (i λy l=>h y (ay _ l));rw[j.key];exact e
def Sj(h:Paired (Kn H) b d):∀y∈b,∃n,Kn H y n:=by
 induction h with
 |nil=>intro y a;cases a
 |cons r t ih=>
  intro y a;rcases aW.mp a with rfl|a
  ·exact⟨_,r⟩
  ·exact ih y a
def Ls(hg:Gl X "sorted")(hm:X.mg "sorted" = M)(hl:PE X e c)(i:autoParam (ao [e] X.env=(Z_,eval e X.env)::ao [] X.env) Ų)(E:autoParam (fJ "sorted" = Y (.builtin "sorted")) ũ):PE X (.Call (.Name "sorted" p) [e] [] g) (Rj X.K c):=by
 intro m s P H Q I h;refine eZ (qL I hg hm E ?_);refine oX ?_ i rfl;refine fw (bT hl dn i g m s P H (λv f=>match v with|[x]=>∃a j C,x=.ref a/\m_ X.K f a j/\Paired (Kn f) j C/\C.Nodup/\j.length<64/\∀l d L,f l=M->d.Perm j->Paired (Kn f) d L->L.Pairwise (· < ·)->Q (.ref l) (cx f l (.lst d))|_=>False) I h) ?_;rintro us J ⟨v,f,r,S,A⟩;cases v with
 |nil=>exact A.elim|cons x t=>
  cases t with
  |cons _ _=>exact A.elim|nil=>
   obtain⟨a,j,C,rfl,hq,O,hn,G,q⟩:=A;obtain⟨u,rfl,R⟩:=cg.one S;cases R;obtain⟨D,w,T,hz⟩:=r.list hq;refine FD T.isList (Mf r O w) hn (by rw[<- w.length];exact G) λn N =>?_
   obtain⟨d,B,K⟩:=DZ N.1.symm w;obtain⟨k,F⟩:=sortedAll_at J.heap D n;refine⟨.ref _,_,r.laid (t':=J.toks) (λb o z=>sortedAll_old z) (fA _) (show e_ X.prog X.w _ _ _ (.lst d) from⟨?_,n.toList,k,K,?_⟩),rfl,q _ d _ (r.eR.fresh (fA _)) B (Pc r K λy U=>Sj O y (B.subset U)) N.2⟩
   ·rw[B.length_eq];have e:bc ≥ 64:=by decide
    omega
   ·rw[Uh];exact F
def wA(f:DF):DL:=λρ=>(f ρ).bind λd=>match d with|.lst a=>if (a.all VO=Z'/\(a.map QN).Nodup)/\a.length<64 then Y (Fz QN a) else M|_=>M
def Mj(h:VO d=Z'):∃b,d=.tup (.int (QN d)::b):=by
 cases d with
 |tup a=>
  cases a with
  |nil=>cases h|cons x a=>cases x<;>first|exact⟨a,rfl⟩|cases h
 |_=>cases h
theorem B'{K:aT}(s:bC G H):∀ {f:List D}{a:List V},f.all VO=Z'->bE K G f a->Paired (Kn H) a (f.map QN)
 |[],a,_,r=>by rw[cP.mp r];exact .nil
 |d::f,a,h,r=>by obtain⟨v,t,rfl,l,o⟩:=bH.mp r;simp only[pz,aZ]at h;refine .cons ?_ (B' s h.2 o);obtain⟨p,e⟩:=Mj h.1;rw[e]at l;obtain⟨b,q,rfl,m,n⟩:=eP.mp l;obtain⟨w,j,rfl,k,_⟩:=bH.mp n;rw[bU.mp k]at m;exact⟨b,j,rfl,s _ _ m⟩
def Pb{g h:List Int}(p:Paired (Kn H) d g)(q:Paired (Kn H) d h):g=h:=by
 induction p generalizing h with
 |nil=>cases q;rfl|cons r t i=>obtain⟨b,n,rfl,l⟩:=r;rcases q with _|⟨⟨o,j,m,a⟩,k⟩;cases m;rw[l]at a;cases a;rw[i k]
def Wk(hg:Gl X "sorted")(hm:X.mg "sorted" = M)(h:PE X e (tQ X.K Z f))(hs:autoParam (ao [e] X.env=(Z_,eval e X.env)::ao [] X.env) Ų):PE X (.Call (.Name "sorted" p) [e] [] g) (tF X.K Z (wA f)):=
 (Ls hg hm h hs).imp <|by
  rintro σ H Q ⟨G,ρ,ds,gh,env,eq,k⟩;unfold wA at eq;obtain⟨d,ef,eq⟩:=aa.1 eq;split at eq
  ·rename_i xs;split at eq
   ·rename_i hz;cases eq;refine⟨G,ρ,_,gh,env,ef,λv G1 H1 E1 r1 =>?_⟩;obtain⟨a,vs,rfl,ha,rs⟩:=r1.lst E1.gh;refine⟨a,vs,_,rfl,.of ha,B' E1.gh hz.1.1 rs,hz.1.2,by rw[<- rs.length];exact hz.2,λl ys ms hl p1 q1 q2 =>?_⟩;obtain⟨zs,p2,rz⟩:=I_ p1.symm rs;have Y3:zs.all VO=true:=by rw[dU];intro z hz';exact dU.mp hz.1.1 z (p2.subset hz')
    have e1:=Pb q1 (B' E1.gh Y3 rz);rw[e1]at q2;have e2:zs=Fz QN xs:=DN (p2.trans (vX QN xs).symm) q2 (AS hz.1.2);rw[e2]at rz;exact k l ys G1 _ (E1.trans (gc.lay (p:=l) E1.gh hl)) (E1.hh.free hl) (E1.gh.free hl) aX rz
   ·cases eq
  ·cases eq
end
section
variable {X:Cx}
noncomputable def dC(c m:aJ)(F:List D->Option D)(f:DF)(g:DL):DF:=λa=>(f a).bind λx=>match x with
 |.ins d b h=>if d=c/\m∉b then (g a).bind λe=>F (.ins d b h::e) else M
 |_=>M
def Eb{m:aJ}{F:List D->Option D}{e:St}(n:iy X.K aP c=Y (Y (.ref C)))(u:∀e H Q,Ag X.K Z g e H Q->t e H Q)(h:tP X.K Z (dC c m F k g) e H Q):AM C m (hR X.K F) [] E0 (tP X.K Z k) t e H Q:=by
 obtain⟨G,i,d,T,f,b,q⟩:=h;unfold dC at b;rw[aa]at b;obtain⟨x,p,b⟩:=b;split at b
 ·rename_i c' ks ds;split at b
  ·rename_i R;obtain⟨rfl,P⟩:=R;rcases o:g i with _|z
   ·rw[o]at b;cases b
   rw[o]at b;refine⟨G,i,_,T,f,p,λv y H1 j s =>?_⟩;obtain⟨a,C',dx,vs,rfl,w,S,l,rs⟩:=ni.mp s;rw[n]at w;cases w;refine⟨a,dx,_,rfl,j.gh _ _ S,kP (K:=X.K) (G:=y) P,u _ _ _ ⟨y,i,z,j.gh,f.ext j,o,λB G2 H2 r K =>?_⟩⟩;show hR X.K F (.ref a::(B++[])) H2 Q E0;rw[bV];exact⟨G2,_,d,r.gh,.cons (cJ.mono r.gg _ s) K,b,λv G3 H3 E3 E=>q v G3 H3 ((j.trans r).trans E3) E⟩
  ·cases b
 ·cases b
def nR{c m:aJ}{F:List D->Option D}(h:fh X.prog X.w X.K X.mg X.base c m k (hR X.K F))(g:eH k X.A)(i:PE X o (tP X.K Z b)) (e:autoParam (eval (.Call (.Attribute o m I) [] [] A) X.env=(do
   let a <- eval o X.env
   lN I.atName
   let (f,first) <- jr [a] (jm a m pl)
   nJ A f first (cn A (ao [] X.env)) (gG A (dh [] X.env)))) Ų):PE X (.Call (.Attribute o m I) [] [] A) (tP X.K Z (dC c m F b aN)):=by
 obtain⟨C,f,y,x,n,l,j,r,p⟩:=h.ex;exact(vb (pl:=pl) i l j r g p .nil mq e).imp λd H Q q=>Eb n (by rintro d H Q ⟨G,w,z,s,v,t,k⟩;cases t;exact k _ G H (.refl s) .nil) q
def Wm{c m:aJ}{F:List D->Option D}{i:DF}{g:DL}(h:fh X.prog X.w X.K X.mg X.base c m k (hR X.K F))(l:eH k X.A)(p:PE X o (tP X.K Z i))(v:PA X (e::J) (Ag X.K Z g))(a:autoParam (ao (e::J) X.env=(Z_,eval e X.env)::ao J X.env) Ų)(b:autoParam ((cn A (ao J X.env)).any (·.1)=false) Ų) (j:autoParam (eval (.Call (.Attribute o m I) (e::J) [] A) X.env=(do
   let d <- eval o X.env
   lN I.atName
   let (f,first) <- jr [d] (jm d m pl)
   nJ A f first (cn A (ao (e::J) X.env)) (gG A (dh [] X.env)))) Ų):PE X (.Call (.Attribute o m I) (e::J) [] A) (tP X.K Z (dC c m F i g)):=by
 obtain⟨C,f,B,y,n,s,r,w,t⟩:=h.ex;exact(x6 (pl:=pl) p s r w l t .nil mq v a b j).imp λx H Q q=>Eb n (λ_ _ _ z=>z) q
def D5(a:Bool):D->D->Option D
 |y,.iZ b c=>(Ca y).map λk =>.bl (if a then !(eQ b c k).isSome else (eQ b c k).isSome)
 |_,_=>M
def L9{K:aT}(r:bE K G b c):(tJ (a.zip c) k).isSome=(eQ a b k).isSome:=by
 rcases e:eQ a b k with _|d
 ·rw[uF r e];rfl
 obtain⟨v,f,_⟩:=qR r e;rw[f];rfl
def JO(n:X.A.units+1<rP)(s:PE X e (tQ X.K Z L))(r:PE X o (tQ X.K Z N))(t:autoParam (iu .NotIn o=false) Ų):PT X (.Compare e [.NotIn] [o] A) (rG X.K Z (dA (e2 (D5 Z') L N))):=
 (RI (Jh n s r) t).imp <|by
  rintro I H Q ⟨G,h,d,w,c,C,q⟩;obtain⟨x,y,B,z,b⟩:=Cw (rZ C);cases y<;>simp only[D5]at b<;>try (cases b;done)
  rename_i R T;obtain⟨S,D,b⟩:=au.1 b;simp only[bP,if_true]at b;cases b;refine⟨G,h,x,w,c,B,λv K H1 g k=>⟨K,h,_,g.gh,c.ext g,z,λu F E f j =>?_⟩⟩;obtain⟨a,P,rfl,p,l,i⟩:=j.Tg f.gh;have m:=vk D (k.ext f);subst m;exact⟨a,_,rfl,xI.k p,_,rfl,by rw[L9 i];exact q F E (g.trans f)⟩
def D6:D->D->Option D
 |.iZ a b,y=>(Ca y).bind λk=>eQ a b k
 |_,_=>M
def PK(p:X.A.units+1<rP)(z:PE X o (tQ X.K Z L))(t:PE X e (tQ X.K Z N))(r:autoParam (TN e) Ŧ):PE X (.Subscript o e A) (tP X.K Z (e2 D6 L N)):=
 (OP p z t r).imp <|by
  rintro S H Q ⟨G,i,d,B,c,F,q⟩;obtain⟨x,y,D,C,b⟩:=Cw F;cases x<;>simp only[D6]at b<;>try (cases b;done)
  rename_i ks ds;obtain⟨kk,K,b⟩:=aa.1 b;refine⟨G,i,_,B,c,D,λv R H1 h m=>⟨R,i,y,h.gh,c.ext h,C,λu P I g k =>?_⟩⟩;obtain⟨a,T,rfl,s,l,j⟩:=(m.ext g).Tg g.gh;have n:=vk K k;subst n;obtain⟨w,E,f⟩:=qR j b;exact⟨a,w,rfl,by rw[<- E];exact xI.k s,q w P I (h.trans g) f⟩
def yK(i j:Nat)(c m:aJ)(s:Sk)(F:List D->Option (List D×D)):DG:=λa=>(xR j a).bind λd=>match d.1,d.2 with
 |.fs f _,.ins b e _=>if (f=c/\b=c)/\m∉e then (lO s j a).bind λt=>(F [t]).map λr =>.nx (((cG j a).set j (Y (.obj s r.2))).set i (Y (.lst r.1))) else M
 |_,_=>M
def MP{i:Nat}{c m:aJ}{s:Sk}{F:List D->Option (List D×D)}(hN:X.N.Nodup)(hx:X.N[i]?=Y x)(hlx:Loc X.env.scope x)(h:fh X.prog X.w X.K X.mg X.base c m k (K0 X.K s F))(hr:eH k X.A)(ho:PE X (.Name y p) (iB j))(hj:autoParam (j∈Z) Ű)(L:autoParam (i∈Z) Ű)(Uw:autoParam (j≠i) Ű)(Q:autoParam (∀a,(i,a)∉B.3) ū)(hm2:autoParam (A9 i∉Z) Ű) (ht:autoParam (eval (.Call (.Attribute (.Name y p) m I) [] [] A) X.env=(do
   let ov <- eval (.Name y p) X.env
   lN I.atName
   let (f,first) <- jr [ov] (jm ov m pl)
   nJ A f first (cn A (ao [] X.env)) (gG A (dh [] X.env)))) Ų) (hs:autoParam (cj (.Call (.Attribute (.Name y p) m I) [] [] A) (Y (.Name x O)) U.line X.env=dP false) Ų) (hf:autoParam (X.fn x=Z'\/X.env.scope.names.lookup x=Y .local) ŭ) :
  PS X (.Assign [.Name x O] (.Call (.Attribute (.Name y p) m I) [] [] A) U) (iC X.K B u Z Z (yK i j c m s F)):=by
 obtain⟨C,f,fd,ps,n,hc,hm,h1,g⟩:=h.ex;refine(iF hN hx hlx (vb (pl:=pl) ho hc hm h1 hr g .nil mq ht) hs hf).imp ?_;rintro D σ H ⟨G,ρ,o,S,t,q⟩;unfold yK at t;rcases et:xR j ρ with _|⟨s0,t0⟩
 ·rw[et]at t;cases t
 rw[et]at t;simp only[ae]at t;split at t
 ·rename_i c' fk Zv ks ds;split at t
  ·rename_i hz;obtain⟨⟨rfl,rfl⟩,hmk⟩:=hz;rcases J:lO s j ρ with _|t1
   ·rw[J]at t;cases t
   rw[J]at t;simp only[ae]at t;rcases eF:F [t1] with _|⟨zs,t'⟩
   ·rw[eF]at t;cases t
   rw[eF]at t;cases t;have hd:=ml et;have K:=lT J;rw[K]at hd;obtain⟨a,T,e1,ot,nd,nf,F1,W1,hF1⟩:=S.tree hj K;obtain⟨dx,vs,ex⟩:∃dx vs,H a=Y (.ins C dx (ks.zip vs)):=by
    cases hd;cases ot with|ins n' ex l tt=>rw[n]at n';cases n';exact⟨_,_,ex⟩
   refine⟨_,e1,a,dx,_,rfl,ex,kP (K:=X.K) (G:=G) hmk,?_⟩;refine⟨G,t1,[],zs,t',a,T,[],S.gh,rfl,ot,nd,λb g=>(nf b g).1,.nil,eF,λq' ws T' G' H' E nw ndw P gq fq nq hq rq =>?_⟩;have hu:=kK (r:=j) K (λq z=>by cases z);have W0:qp X.K B Z G H σ (cG j ρ) F1:=⟨λi d L e=>W1.it i d L (bL e).1,λi d L e=>W1.ok i d L (bL e).1,λi j d c L hj ei ej=>W1.ap i j d c L hj (bL ei).1 (bL ej).1⟩;have R:=(S.IH (r:=j)).Gz (i:=j) (a:=a) (d' :=.obj s t') (F0:=T) (S':=T') (G':=G') (H':=H') W0 hj (λb g=>⟨by rw[hF1];exact g,_,hu⟩) E.gg E.gh (λb o e=>by
     rcases E.fr b o e with z|z
     ·exact .inl z
     ·by_cases g:b∈T
      ·exact .inr (.inr g)
      ·rw[cQ g]at z;exact .inr (.inl z))
    (λb o g e=>E.hh b o (by rw[cQ g];exact e)) nw ndw (λb g=>⟨(P b g).1,by rcases(P b g).2 with z|z;exact .inl z;exact .inr (.inl z)⟩) (λb h=>by have:=(S.pin j b h).2;rw[e1]at this;cases this;rfl) (λr p z=>by cases z)
    (λj' p _ _ _ e=>absurd rfl ((bL e).2 p))
   rw[gf e1]at R;obtain⟨Sr,Wr⟩:=R;have R2:=(Sr.Gz (i:=i) (a:=q') (d' :=.lst zs) (F0:=[]) (S':=[q']) (G':=G') (H':=H') Wr L (λb g=>by cases g) (bC.refl _) Sr.gh (λb o e =>.inl e) (λb o _ e=>e)
    ((nF.cell rfl).mpr ⟨⟨_,hq,ws,rfl,rq⟩,rfl⟩) Ž (λb g=>by
     simp at g;subst g;have hB:B.2 b=none:=by
      rcases fq with z|z
      ·exact(nf b z).2
      ·exact S.h0.free z
     refine⟨gq,.inr (.inr ⟨hB,λk cc hk ek JE v =>?_⟩)⟩;by_cases w:k=j
     ·subst w;simp only[if_true]at v;exact nq v
     ·simp only[if_neg w]at v;rw[ai (bF w)]at ek;have ek':=(bL ek).1;rcases fq with z|z
      ·exact W1.ap j k _ cc hj hk K ek' (bF w) b (by rw[hF1];exact z) v
      ·obtain⟨y,f1,f2⟩:=W1.it k cc hk ek';obtain⟨o,ho⟩:=f2.here b v;rw[ho]at z;cases z) (λb h=>absurd h (Q b)) (λr p z=>by cases z)
    (λj' p h1 h2 _ e=>by obtain⟨_,g0,_⟩:=Sr.eB j' i p h1 h2 e;exact absurd g0 hm2)).1
   exact q _ G' H' R2
  ·cases t
 ·cases t
end
section
variable {X:Cx}{m:Pos}
end
section
variable {X:Cx}
def BU(b:Bool)(j:Nat)(c f:aJ)(e:DM):DG:=λd=>(e d).bind λw=>(Ho b j w.2).bind λq=>(xR q.1 w.2).bind λa=>(xF c a.1 a.2 q.2).bind λz=>
 if Gb (c_ z.1 f)=Z'/\z.2.1.length<999 then Y (.nx (w.2.set q.1 (Y (.obj a.1 (mm (.ins c (iQ f w.1 z.2.1 z.2.2).1 (iQ f w.1 z.2.1 z.2.2).2) q.2 a.2))))) else M
def MV{b:Bool}{c f:aJ}{K:DM}(h:PE X (.Name x p) (iB j))(he:PE X e (tM X.K B Z K))(J:sS X.K c f)(hj:autoParam (j∈Z) Ű)(hb:autoParam (b=Z'->B9 j∈Z) Ű)(ha:autoParam (f∉EG) Ű)(hs:autoParam (cj e (Y (.Attribute (.Name x p) f u)) n.line X.env=dP false) Ų):PS X (.Assign [.Attribute (.Name x p) f u] e n) (iC X.K B y Z Z (BU b j c f K)):=(B1 h he hs).imp <|by
 rintro D σ H ⟨G,E,o,S,i,k⟩;unfold BU at i;obtain⟨⟨d,F⟩,ef,i⟩:=aa.1 i;rcases q:Ho b j F with _|⟨r,T⟩
 ·simp[q]at i
 rcases z:xR r F with _|⟨s,t⟩
 ·simp[q,z]at i
 rcases I:xF c s t T with _|⟨fk,ks,ds⟩
 ·simp[q,z,I]at i
 simp only[q,z,I,ae]at i;split at i
 ·rename_i hz;cases i;obtain⟨i1,U⟩:=wu I;refine⟨G,E,d,F,S,ef,λv G' H' P s' R =>?_⟩;obtain⟨hr,s1,t',a,v',O,e2,e3,e4⟩:=P.Ho q hj hb;have w:=ml z;rw[w]at O;cases O;obtain⟨a',Q,C,dx,vs,N,g,L,f4,f5,f6⟩:=P.SX (f:=f) (d:=d) hr w i1 U hz.1 ha R;rw[e2]at N;cases N;rw[e4]at g;cases g;refine⟨_,e3,Q,C,dx,_,rfl,f4,(J C L).1,(J C L).2,?_,k _ G' _ f6⟩;rw[uS f5];omega
 ·cases i
end
section
variable {X:Cx}{m:List Nat}
end
def uK.mono{P:br}{K:aT}{d:Sp}(h:uK P w K e b c j d)(i:j<=k):uK P w K e b c k d:=by
 obtain⟨C,f,s,g,r,q,p,o,l⟩:=h.ex;exact⟨C,f,s,g,r,q,p,o.mono i,l⟩
def WL(h:cF)(e:ax)(b:ak)(l:Option ax)(j f:ak)(T:ax):Prop:=
 ∃g a d c,h.get? e=Y g/\g.cls=b/\g.dict=l/\g.data=.fields a/\a[0]?=Y j/\a[1]?=Y (.ref T)/\T≠e/\h.get? T=Y d/\d.data=.fields c/\c[3]?=Y f
structure Nr(fs:List ax)(e:ax)(h h':cF):Prop where
 keep:∀b o,b≠e->b∉fs->h.get? b=some o->h'.get? b=some o
 slot:∀b o,b≠e->b∈fs->h.get? b=some o->∃sl,h'.get? b=some { o with slots:=sl }
def Obj.sM(o:Obj)(f:Array ak->Array ak):(Obj.mapFields f o).dict=o.dict:=by
 obtain⟨c,d,b,s⟩:=o;cases b<;>rfl
section
variable {V:N0}{s:av}
def Dj(O:A.frames=Y (i::k))(X:s.heap.FunFrames base (i::k))(hf:i.frame=Y L)(P:s.heap.get? e=Y g)(I:g.data=.fields a)(h1:a[1]?=Y .none)(h0:a[0]?=Y j)(h:∀S T,Nr (yf (i::k)) e s.heap S->WL S e g.cls g.dict j .none T->T=s.heap.objs.size->Q () { s with heap:=S }):bq V A (leaving i (.ref e)) Q E s:=by
 have F:e∉yf (i::k):=λhm=>by obtain⟨_,o,U,N⟩:=X.mem hm;rw[P]at U;cases U;exact N a I
 have D:1<a.size:=(kY.mp h1).1;unfold leaving;refine ah ?_;unfold NC;rw[hf];refine ah (jq P I h1 ?_);rw[if_neg (by decide)];refine ah (wpAny_frameOf_fun O X hf λc d =>?_);refine ah (wpAny_entryPlaceOf λw K =>?_);refine ah ?_;unfold EntryCells.newEntry;refine J_ ?_ (IsPlace.sizeOk5 K _ _ _ _ _);have t:c.get? e=Y g:=(d.2.1 e F).trans P;have r:=aj { cls:=bS "traceback",data:=fQ ([aK,aD L,aK,lF ↑L,aK]++if w.isEmpty=Z' then bt 6 aK else w).toArray } t;refine pI r I D ?_;have B:c.objs.size≠e:=fS (aI t);have l:=Obj.data_mapFields I λx=>x.setIfInBounds 1 (aD c.objs.size)
 have p:=cU (Obj.mapFields λx=>x.setIfInBounds 1 (aD c.objs.size)) r (Obj.isFreed_of_fields l);have v:=(bG (c.push { cls:=bS "traceback",data:=fQ ([aK,aD L,aK,lF ↑L,aK]++if w.isEmpty=Z' then bt 6 aK else w).toArray }) (Obj.mapFields λx=>x.setIfInBounds 1 (aD c.objs.size)) (bF B)).trans (bz c rfl);have g1:(a.setIfInBounds 1 (aD c.objs.size))[1]?=Y (aD c.objs.size):=by simp[D]
 have g0:(a.setIfInBounds 1 (aD c.objs.size))[0]?=Y j:=by rw[oM (by decide)];exact h0
 unfold xK;refine ah (jq p l g1 ?_);rw[if_pos (by simp)];have C:3<([aK,aD L,aK,lF ↑L,aK]++if w.isEmpty=Z' then bt 6 aK else w).toArray.size:=by simp
 refine pI v rfl C ?_;have n:s.heap.get? c.objs.size=none:=by
  rw[d.1];rcases q:s.heap.get? s.heap.objs.size with _|o
  ·rfl
  exact absurd (aI q) (fg _)
 have m:∀b o,b≠e->b≠c.objs.size->c.get? b=Y o->((Heap.update (c.push { cls:=bS "traceback",data:=fQ ([aK,aD L,aK,lF ↑L,aK]++if w.isEmpty=Z' then bt 6 aK else w).toArray }) e (Obj.mapFields λx=>x.setIfInBounds 1 (aD c.objs.size))).update c.objs.size (Obj.mapFields λx=>x.setIfInBounds 3 (Fe M aK λf=>lF ↑f))).get? b=Y o:=λb o u R y=>by rw[bG _ _ (bF R),bG _ _ (bF u)];exact aj _ y
 refine h _ c.objs.size ⟨λb o u H y =>?_,λb o u H y =>?_⟩ ?_ d.1
 ·refine m b o u ?_ ((d.2.1 b H).trans y);intro z;rw[z,n]at y;cases y
 ·obtain⟨sl,J⟩:=d.2.2 b o y;refine⟨sl,m b _ u ?_ J⟩;intro z;rw[z,n]at y;cases y
 ·have G:=Obj.data_mapFields (o:={ cls:=bS "traceback",data:=fQ ([aK,aD L,aK,lF ↑L,aK]++if w.isEmpty=Z' then bt 6 aK else w).toArray }) rfl λx=>x.setIfInBounds 3 (Fe M aK λf=>lF ↑f)
  refine⟨_,_,_,_,(bG _ _ B).trans p,Obj.cls_mapFields _ _,Obj.sM _ _,l,g0,g1,B,cU _ v (Obj.isFreed_of_fields G),G,?_⟩;simp
end
section
variable {m:aJ}{v:List ak}
noncomputable abbrev pG(h:cF)(C:ax)(d:List ak):cF:=(h.push { cls:=bS "tuple",data:=Data.seq d.toArray }).push { cls:=aD C,data:=fQ #[aD h.objs.size,aK,aK,aK,oK Z_,aK] }
def IC(Fn:tU k l z o)(hBn:i.contains (bS k)=Z')(F:tU B U b i)(T:OwnTail h i j){R:List ak}{f:ax}(hC:h.get? C=Y (NZ m q C N n j p u v x y G H I J L O l))(hn:h.Ns N mN)(hni:mN (af "__init__")=Y (.ref f))(VW:R.length<=bc)(hf:∀(s:av) (P:ak->av->Prop),s.heap=pG h C R->P (.type "function") s->bq (aV a w) A (z7 (.ref f)) P E s)(hq:bq (aV a w) A (GP (.ref f) (.ref (h.objs.size+1)::R)) (λr s'=>r=.none/\Q (Fin.done (Flow.ret (aD (h.objs.size+1)))) s') E { heap:=pG h C R,gens:=g,drawn:=d,toks:=t,os:=c }):
  bq (aV a w) A (Builtin.«type.__call__» { pos:=aD C::R }) Q E { heap:=h,gens:=g,drawn:=d,toks:=t,os:=c }:=by
 unfold Builtin.«type.__call__»;refine g_ rfl ?_;refine ah ?_;refine ah (M:=aV a w) ?_;refine ah (M:=aV a w) ?_;refine wpAny_load' hC ?_;refine aE (aE ?_);refine g_ rfl ?_;refine ah (wpAny_madeBy_exc hC ?_);refine ah (aE ?_);refine ah (fG (qX (codeAny_call_builtin_code (Code.quiet_builtin { pos:=aD C::R } Fn.quiet) (wpAny_check_new_subU Fn hBn T hC (codeAny_exc_new_subU Fn hBn F T hC ?_ VW)))));have S:=aj { cls:=aD C,data:=fQ #[aD h.objs.size,aK,aK,aK,oK Z_,aK] } (aj { cls:=bS "tuple",data:=Data.seq R.toArray } hC);have hn₁:(pG h C R).Ns N mN:=by obtain⟨D,es,ep,e,r⟩:=hn;exact⟨D,es,ep,aj _ (aj _ e),r⟩
 have X:(pG h C R).get? (h.objs.size+1)=Y { cls:=aD C,data:=fQ #[aD h.objs.size,aK,aK,aK,oK Z_,aK] }:=Heap.get?_push_at (by simp[cW]) rfl;have T₁:OwnTail (pG h C R) i j:=T.keeps λK D e=>aj _ (aj _ e)
 have hcC:(aD C::j).contains (aD C)=true:=by simp
 show bq (aV a w) A (T_ (.ref (h.objs.size+1)) (.ref C) >>= _) Q E { heap:=pG h C R,gens:=g,drawn:=d,toks:=t,os:=c };refine ah ?_;refine ah (M:=aV a w) ?_;refine ah (M:=aV a w) ?_;refine jo X ?_;refine aE ?_;refine wpAny_isSubtype_exc S ?_;rw[hcC];refine g_ rfl ?_;refine ah (fG ?_);unfold callSpecial?;refine ah ?_;unfold specialOf;refine ah (M:=aV a w) ?_;refine ah (M:=aV a w) ?_;refine jo X ?_;refine aE ?_;refine wpAny_typeLookup_tail S hn₁ T₁ F.mroIs F.init.lookup ?_;rw[hni];refine fG ?_;refine ah ?_;unfold bindSpecial;refine ah (hf _ _ rfl ?_);rw[if_pos (by decide)];refine aE ?_;refine ah ?_;refine dJ hq (λr s' hr =>?_) (λ_ _ V=>V);obtain⟨rfl,hr⟩:=hr;refine aE ?_;refine g_ rfl ?_;exact aE hr
def Dk(Fn:tU k l z o)(S:i.contains (bS k)=Z')(F:tU B U b i)(T:OwnTail h i j){X:aJ->Option ak}{D:List ak}{f:ax}(V:h.get? C=Y (NZ m q C N n j p u v x y G H I J L O l))(hn:h.Ns N X)(R:X (af "__init__")=Y (.ref f))(K:D.length<=bc)(hf:∀(A:gI) (E:ak->av->Prop) (s:av) (P:ak->av->Prop),s.heap=pG h C D->P (.type "function") s->bq (aV a w) A (z7 (.ref f)) P E s)(hq:bq (aV a w) (A.under (.builtin "type.__call__" ⟨.ref C::D,[]⟩)) (GP (.ref f) (.ref (h.objs.size+1)::D)) (λr s'=>r=.none/\Q (aD (h.objs.size+1)) s') E { heap:=pG h C D,gens:=g,drawn:=d,toks:=t,os:=c }):
  bq (aV a w) A (GP (.ref C) D) Q E { heap:=h,gens:=g,drawn:=d,toks:=t,os:=c }:=by
 have hT:({ heap:=h,gens:=g,drawn:=d,toks:=t,os:=c }:av).TypeIs (aD C) "type" :=⟨_,V,rfl⟩;refine qX (codeAny_of_tree ?_);refine ah (M:=aV a w) (wpAny_load' V ?_);refine ah (M:=aV a w) (wpAny_specialOf hT tc_lookup ?_);refine ah (M:=aV a w) (wpAny_of_eq (tc_bind (aD C)) ?_);refine ah (M:=aV a w) ?_;refine aE (TZ rfl (aE ⟨rfl,?_⟩));refine codeAny_call_builtin_at (args:=⟨aD C::D,[]⟩) (Code.quiet_builtin _ (by decide +kernel)) entry_typeCall (wpAny_check_type_call_sub V ?_);exact IC Fn S F T V hn R K (λs P e q=>hf _ _ s P e q) hq
end
end L2
namespace L2
open PySem PySem.Spec PyProof.Rows PySem.W
section
variable {s:av}{K:aT}{name:aJ}
structure UG(K:aT)(C:ax):Prop where
 ga:hI K (.ref C) "__getattribute__" = some (some (.builtin "BaseException.__getattribute__"))
 gt:hI K (.ref C) "__getattr__" = some none
 mb:mroIn K C (.type "BaseException")=some true
def Kw{m:Bool}(X:K.In s.heap)(I:InstAt s.heap x c C b)(g:UG K C) (h:∀R:NH->av->Prop,(∀v j,bq (aV a w) A (handedOut v) Q E j->R (.ok (.ret v)) j)->bq (aV a w) A.in1 (Builtin.«object.__getattribute__» ⟨[.ref x,.str name i],[]⟩)
   (λlQ j=>match lQ with|.done f=>R (.ok f) j|.again F=>F.quiet=Z'/\nU (aV a w) A F R j) (λe j=>R (.error e) j) s) :
  bq (aV a w) A (getAttrBy (.ref x) (.str name i) m k) Q E s:=by
 obtain⟨y,D,d,t,B⟩:=s;have G:=I.type (M:=aV a w);have N:=looks_findIn (M:=aV a w) X g.ga;have L:=looks_findIn (M:=aV a w) X g.gt;have J:=PySem.F.attr_ValueError.ga.bind (.ref x);have u:(k&&onTheHeap (wX "BaseException.__getattribute__"))=false:=by cases k<;>rfl
 have p:(wX "BaseException.__getattribute__" == wX "object.__getattribute__")=false:=by decide +kernel
 have q:(onTheHeap (aD C)&&wX "BaseException.__getattribute__" == wX "object.__getattribute__")=false:=by rw[p];rfl
 have H:builtinKind "BaseException.__getattribute__" = Y .slot:=by decide +kernel
 have l:splitId "BaseException.__getattribute__" = Y ("BaseException", "__getattribute__"):=by decide +kernel
 have n:Looks (aV a w) y (T_ (.ref x) (.type "BaseException")) true:=G.andThen (looks_mroIn X g.mb);unfold getAttrBy;refine fG (ah (G.at (ah (N.at ?_))));dsimp only;rw[if_neg (by rw[q];decide)];unfold getAttrByItsOwn hookBefore;refine ah ?_;rw[if_pos (show onTheHeap (aD C)=Z' from rfl)];refine L.at (ah (E_ (fG ?_)));unfold callGetattribute;rw[if_neg (by rw[u];decide)];unfold boundAndCalled;rw[J];have o:nU (aV a w) A (.call (.builtin "BaseException.__getattribute__") ⟨[.ref x,.str name i],[]⟩) (λr j=>match r with|.ok (.ret v)=>bq (aV a w) A (handedOut v) Q E j|_=>False) ⟨y,D,d,t,B⟩:=
  codeAny_call_builtin PySem.F.attr_ValueError.ga.plain PySem.F.entry_bexc_ga (@check_slot (aV a w) _ _ ⟨y,D,d,t,B⟩ "BaseException.__getattribute__" "BaseException" "__getattribute__" (.ref x) [.str name i] [] _ H l n (PySem.F.args_bexc_ga (.ref x) (.str name i)) (h (λr j=>match r with|.ok (.ret v)=>bq (aV a w) A (handedOut v) Q E j|_=>False) λv j z=>z))
 refine ah (aE (qX (pJ o λr j z =>?_)));rcases r with e|(v|_|_|_)
 ·exact cD z
 ·exact cD z
 ·exact cD z
 ·exact cD z
 ·exact z
def Ku{v:ak}(X:K.In s.heap)(I:InstAt s.heap x c C b)(g:UG K C)(k:findObj K C b name=Y (.value v))(j:handedIn v=Z')(h:Q v { s with toks:=s.toks+1 }):
  bq (aV a w) A (getAttr (.ref x) name e) Q E s:=by
 unfold getAttr;refine ah (wpAny_mkText (Kw (s:={ s with toks:=s.toks+1 }) X I g λR l =>?_));obtain⟨f,p,d,t,o⟩:=s;have n:=I.type (M:=aV a w);have m:=looks_find (M:=aV a w) X I k;unfold Builtin.«object.__getattribute__»;refine ah (aE ?_);refine ah (aE (ah (n.at (ah (m.at ?_)))));refine aE (l v _ ?_);rw[handedOut_of j];exact aE h
def Kv(X:K.In s.heap)(I:InstAt s.heap x c C b)(g:UG K C)(k:findObj K C b "__class__" = Y (.bind (.builtin "getset_descriptor.__get__") (.builtin "object.__class__")))(j:mroIn K C (.type "object")=Y Z')(h:Q (Y (.ref C)) { s with toks:=s.toks+1 }):
  bq (aV a w) A (getAttr? (.ref x) "__class__") Q E s:=by
 unfold getAttr? getAttrBy?;refine ah (wpAny_mkText (ah (E_ (Kw (s:={ s with toks:=s.toks+1 }) X I g λR l =>?_))));obtain⟨e,m,d,t,f⟩:=s;have o:=I.type (M:=aV a w);have n:=looks_find (M:=aV a w) X I k;unfold Builtin.«object.__getattribute__»;refine ah (aE ?_);refine ah (aE (ah (o.at (ah (n.at ?_)))));show bq _ _ (jr _ (GP _ _) >>= ret) _ _ _;refine ah (fG (qX (class_get (ox:=c) (od:=b) (s:=⟨e,m,d,t+1,f⟩) X I j ?_)));refine aE (l _ _ ?_);rw[handedOut_of rfl];exact aE (aE h)
def Mg{b:Option Obj}(g:UG K C)(f:pw K C=Z')(y:hI K (.ref C) "__class__" = Y (Y (.builtin "object.__class__")))(u:specialIn K (.builtin "object.__class__") "__get__" = Y (Y (.builtin "getset_descriptor.__get__")))(m:takesIn K (.builtin "object.__class__")=Y Z')(v:mroIn K C (.type "object")=Y Z'):
  KitX K (.ref x) (.ref C) (λh=>InstAt h x c C b) where
 ty:=λ_ _ _ I=>I.type
 it:=λ_ _ X _=>by
  obtain⟨p,d,_⟩:=any_some f;unfold clsIn at d;split at d
  ·rename_i B A r j o;intro L H J E k q;unfold isType loadHead;exact ah (uM (k _ _ (X _ _ o)) (aE q))
  ·cases d
 ne:=λh s F t n D X l=>by
  obtain⟨p,d,_⟩:=any_some f;refine Bool.eq_false_iff.mpr λq =>?_
  have e:C=s:=Value.ref.inj (beq_iff_eq.mp q);subst e;unfold clsIn at d;split at d
  ·rename_i B A r j o;have z:=(X _ _ o).symm.trans l;cases z
  ·cases d
 ca:=λX I k=>Kv X I g (by obtain⟨G,w,_⟩:=any_some f;unfold findObj;rw[w];simp only[ae,y,u,m]) v k
end
end L2
namespace L2
open PySem PySem.Spec PyProof.Rows
section
variable {s:av}{K:aT}{name:aJ}{v:ak}
noncomputable def x8:List ak->Bool
 |.ref _::r=>x8 r|l=>l==[.type "ValueError",.type "Exception",.type "BaseException",.type "object"]
theorem yN(self:ak):∀ {l:List ak},x8 l=Z'->refuseLoop self "__setattr__" l=dP ()
 |.ref c::r,e=>by rw[refuseLoop_ref];exact yN self e
 |[],e=>by cases e
 |.type n::r,e=>by have e:(bS n::r==_)=true:=e;rw[beq_iff_eq.mp e];exact PySem.F.store_ValueError.passes self
 |.none::r,e=>by cases e
 |.bool b::r,e=>by cases e
 |.int i t::r,e=>by cases e
 |.float i t::r,e=>by cases e
 |.str i t::r,e=>by cases e
 |.bytes i t::r,e=>by cases e
 |.builtin i::r,e=>by cases e
 |.ellipsis::r,e=>by cases e
 |.notImplemented::r,e=>by cases e
theorem HM:∀ {l:List ak},x8 l=Z'->l.contains (.type "object")=Z'
 |.ref c::r,e=>by rw[List.contains_cons,HM (l:=r) e,Bool.or_true]
 |[],e=>by cases e
 |.type n::r,e=>by have e:(bS n::r==_)=true:=e;rw[beq_iff_eq.mp e];decide
 |.none::r,e=>by cases e
 |.bool b::r,e=>by cases e
 |.int i t::r,e=>by cases e
 |.float i t::r,e=>by cases e
 |.str i t::r,e=>by cases e
 |.bytes i t::r,e=>by cases e
 |.builtin i::r,e=>by cases e
 |.ellipsis::r,e=>by cases e
 |.notImplemented::r,e=>by cases e
def yg(K:aT)(C:ax):Bool:=(PySem.W.clsIn K C).any λa=>x8 a.mro
def OU{R:NH->av->Prop}{r:Option ak}(X:K.In s.heap)(I:PySem.W.InstAt s.heap x u C y)(D:yg K C=Z')(B:NB K C name=Y r) (h:∀b,bq (aV d w) A.in1 (match r with|some a=>Builtin.ObjectAttr.setByDescriptor a (.ref x) v|none=>Builtin.ObjectAttr.storeInOwnDict (.ref x) (.ref C) (.str name j) name v b)
   (λlQ k=>match lQ with|.done f=>R (.ok f) k|.again t=>t.quiet=Z'/\nU (aV d w) A t R k) (λe k=>R (.error e) k) s) :
  nU (aV d w) A (.call (.builtin "object.__setattr__") ⟨[.ref x,.str name j,v],[]⟩) R s:=by
 have i:=PySem.F.store_object;obtain⟨n,p,l⟩:=PySem.W.any_some D;have z:n.mro.isEmpty=false:=by cases q:n.mro with|nil=>rw[q]at l;cases l|cons _ _=>rfl
 have m:PySem.W.Looks (aV d w) s.heap (T_ (.ref x) (.type "object")) true:=I.type.andThen (PySem.W.looks_mroIn X (by unfold PySem.W.mroIn;rw[p,ae,if_neg (by rw[z];decide),HM l]));refine codeAny_call_builtin i.slot.plain i.entry (@PySem.W.check_slot (aV d w) _ _ s "object.__setattr__" "object" "__setattr__" (.ref x) [.str name j,v] [] _ i.kind i.split m (i.args (.ref x) (.str name j) v) ?_);obtain⟨c,G,o⟩:=aa.mp B;have E:PySem.W.Looks (aV d w) s.heap (mroOf (.ref C)) n.mro:=(PySem.W.looks_clsIn X p).andThen .now;have H:PySem.W.Looks (aV d w) s.heap (Builtin.ObjectAttr.storeTaker? c) r:=by
  cases c with
  |none=>cases o;exact .now|some a=>obtain⟨b,F,rfl⟩:=au.mp o;refine(PySem.W.looks_takesIn X F).andThen ?_;cases b<;>exact .now
 rw[PySem.W.osa_eq,refuse_eq];refine ah (ah (I.type.here (ah (E.here ?_))));rw[yN _ l];refine aE (ah (I.type.here (ah ((PySem.W.looks_findIn X G).here (ah (H.here ?_))))));exact h _
def Pl(X:K.In s.heap)(hx:s.heap.get? x=Y ⟨.ref C,M,.fields g,#[]⟩)(hs:hI K (.ref C) "__setattr__" = Y (Y (.builtin "object.__setattr__")))(hp:yg K C=Z')(ht:NB K C name=Y M)(hh:pw K C=Z')(h:∀h',h'.get? x=Y ⟨.ref C,Y s.heap.objs.size,.fields g,#[]⟩->h'.Ns1 s.heap.objs.size (λy=>if y=name then Y v else M)->(∀b o,b≠x->s.heap.get? b=Y o->h'.get? b=Y o)->Q () { s with heap:=h',toks:=s.toks+2 }):
  bq (aV d w) A (setAttr (.ref x) name v) Q E s:=by
 have J:PySem.W.InstAt s.heap x ⟨.ref C,M,.fields g,#[]⟩ C none:=⟨hx,rfl,rfl,trivial⟩;refine PySem.W.set_plain X J hs (OU (s:={ s with toks:=s.toks+1 }) (r:=M) X J hp ht λb =>?_);obtain⟨cd,hc,hd'⟩:=PySem.W.any_some hh;refine ah (aE (ah ?_));refine ah (M:=aV d w) ?_;refine uM hx ?_;refine ah (PySem.W.Looks.here (s:={ s with toks:=s.toks+1 }) (PySem.W.looks_clsIn X hc) ?_);rw[hd'];refine g_ rfl ?_;refine g_ rfl ?_;refine ah (wpAny_alloc ?_);have hx1:(s.heap.push { cls:=bS "dict",data:=qZ #[] }).get? x=Y ⟨.ref C,M,.fields g,#[]⟩:=aj _ hx;refine ah (wpAny_update hx1 ?_);refine aE (a:=Y s.heap.objs.size) (ah (aE (ah ?_)));have hxd:s.heap.objs.size≠x:=fS (aI hx);have hx2:=cU (λo:Obj=>{ cls:=o.cls,dict:=Y s.heap.objs.size,data:=o.data,slots:=o.slots }) hx1 rfl;have hd2:((s.heap.push { cls:=bS "dict",data:=qZ #[] }).update x λo=>{ cls:=o.cls,dict:=Y s.heap.objs.size,data:=o.data,slots:=o.slots }).get? s.heap.objs.size=Y { cls:=bS "dict",data:=qZ #[] }:=
  (bG _ _ (bF hxd)).trans (bz s.heap rfl)
 have YQ:((s.heap.push { cls:=bS "dict",data:=qZ #[] }).update x λo=>{ cls:=o.cls,dict:=Y s.heap.objs.size,data:=o.data,slots:=o.slots }).Ns1 s.heap.objs.size (λ_=>M):=
  Heap.Ns1.of_empty ⟨_,#[],_,hd2,rfl,(λe he=>absurd he Ž),λ_=>rfl⟩
 refine wpAny_nsSet1 (s:={ s with heap:=(s.heap.push { cls:=bS "dict",data:=qZ #[] }).update x λo=>{ cls:=o.cls,dict:=Y s.heap.objs.size,data:=o.data,slots:=o.slots },toks:=s.toks+1 }) YQ λh' YT hs2 =>?_
 have hw:PySem.Within (λ_:aJ=>(M:Option ak)) []:=λy hy=>absurd rfl hy
 obtain⟨oD,esD,epD,hoD,hdD,hcD⟩:=YT.count (PySem.Within.cons name v hw);refine ah (wpAny_lookBehind hoD (by rw[hdD];exact pastItsLine_dict (bQ hcD (by rw[aU];exact Nat.le_add_left _ _))) ?_);refine aE (h h' ((hs2.2 _ (bF hxd)).trans hx2) YT λb o hb e =>?_);have hbd:b≠s.heap.objs.size:=bI (aI e);refine(hs2.2 b hbd).trans ?_;refine(bG _ _ (bF hb)).trans ?_;exact aj _ e
end
section
variable {sub:List ak}{s:av}
def uT(i:a.contains (bS "BaseException")=Z')(t:A.handled=M)(h:bq U A x (λv f=>∃e j m,v=.ref e/\f.heap.get? C=Y (NZ nm q C N bs a hdct sn sub ab col dd k0 k1 k2 k3 k5 newId)/\f.heap.get? e=Y j/\j.cls=.ref C/\j.data=.fields m/\m[1]?=Y .none/\E (.ref e) f) E s):
  bq U A (raiseStmt b (Y x) M) Q E s:=by
 unfold raiseStmt;refine ah (dJ h ?_ λ_ _ z=>z);rintro v f ⟨e,j,m,y,r,k,p,l,w,u⟩;subst y;obtain⟨F,g,d,B,D⟩:=f;have n:(aD C::a).contains (bS "BaseException")=true:=by rw[List.contains_cons,i];simp
 have o:∀c,j.data≠Data.cls c:=λc z=>by rw[l]at z;cases z
 refine ah (aE (ah (fG ?_)));unfold excFromValue;refine ah ?_;unfold isExcClass;refine ah (M:=U) ?_;unfold isType;refine ah (M:=U) ?_;refine jo k ?_;refine aE ?_;rw[l];refine g_ rfl (aE (g_ rfl ?_));refine ah ?_;unfold T_ z7;refine ah (M:=U) ?_;refine ah (M:=U) ?_;refine jo k ?_;refine aE ?_;rw[p];refine wpAny_isSubtype_exc r ?_;rw[n];refine TZ rfl (aE ?_);refine ah (M:=U) ?_;refine ah (M:=U) ?_;refine jo k ?_;refine aE ?_;rw[l];refine g_ rfl ?_;refine ah ?_;unfold raisedInstance z7;refine ah (M:=U) ?_;refine ah (M:=U) ?_;refine jo k ?_;refine aE ?_;rw[p];refine ah (M:=U) ?_;refine ah (M:=U) ?_;refine jo r ?_;refine aE ?_;refine TZ rfl (aE ?_);refine ah ?_;unfold xK;refine ah (jq k l w ?_);rw[if_neg (by decide)];refine aE ?_;exact wpAny_raiseNew_none t u
end
noncomputable def dW(a:ax)(o:Obj):HO :=.ext λh=>h.get? a=Y o
def dW.ok{P:br}{H:Hp}{h:cF}{a:ax}(e:h.get? a=Y o):e_ P w H h a (dW a o):=
 ⟨e,⟨o,e⟩,λ_ _ p k=>k o p⟩
def dW.get{P:br}{H:Hp}{h:cF}{a:ax}(b:nS P w H h)(e:H a=Y (dW a o)):h.get? a=Y o:=(b a _ e).1
noncomputable abbrev vR(C t:ax):Obj:={ cls:=aD C,data:=fQ #[aD t,aK,aK,aK,oK Z_,aK] }
noncomputable abbrev Ui(C t a:ax):Obj:={ cls:=aD C,dict:=Y a,data:=fQ #[aD t,aK,aK,aK,oK Z_,aK] }
structure P_(K:aT)(C:ax)(f:aJ):Prop where
 sa:hI K (.ref C) "__setattr__" = some (some (.builtin "object.__setattr__"))
 po:yg K C=true
 tk:NB K C f=some none
 hd:pw K C=true
section
variable {X:Cx}{d:List (ax×Obj)}{i:St}{H:Hp}{s:av}{A:gI}{E:ak->av->Prop}{C a t:ax}{f:aJ}
def N6(I:Inv X d i H s)(e:H a=Y (dW a (vR C t)))(c:P_ X.K C f)(V:RelV y u)(h:∀p F,H p=M->p≠a->Inv X d i (cx (cx H p (.xd [(f,y)])) a (dW a (Ui C t p))) F->Q () F):bq (aV X.prog X.w) A (setAttr (.ref a) f u) Q E s:=by
 have G:=dW.get I.eR e;refine Pl I.pM G c.sa c.po c.tk c.hd λR l B N =>?_
 have O:=I.eR.fresh (aQ s.heap.objs.size);have m:s.heap.objs.size≠a:=fS (aI G);obtain⟨j,J,K,z,n,x,w,r⟩:=id B;have D:j.isFreed=false:=by obtain⟨c1,d1,T,sl⟩:=j;have:T=qZ J K:=n;subst this;rfl
 have L:(s.heap.push j).get? s.heap.objs.size=Y j:=bz s.heap D;have k:∀g,pH ([(f,y)].lookup g) (if g=f then Y u else M):=λg=>by
  by_cases q:g=f
  ·rw[if_pos q,q];simp[jB];exact V
  ·rw[if_neg q];have:(g==f)=false:=by simp[q]
   simp[jB,this];exact gB
 have U:=I.laid (a:=s.heap.objs.size) (o :=.xd [(f,y)]) (h':=s.heap.push j) (t':=s.toks+2) (λb v q=>aj _ q) (aQ _) ⟨_,⟨j,J,K,L,n,x,w,r⟩,k⟩;have S:cx H s.heap.objs.size (.xd [(f,y)]) a=Y (dW a (vR C t)):=by rw[aM (bF m)];exact e
 refine h s.heap.objs.size _ O m (U.write (h':=R) (h:=s.toks+2) (x:=a) (e:=a) (by rw[S];exact gB) (.inl rfl) (λb v P q =>?_) ⟨_,l⟩ (dW.ok l));by_cases o:b=s.heap.objs.size
 ·subst o;have q:(s.heap.push j).get? s.heap.objs.size=Y v:=q;rw[L]at q;cases q;exact z
 ·have q:(s.heap.push j).get? b=Y v:=q;rw[Heap.get?_push_ne _ _ _ o]at q;exact N b v P q
end
section
variable {X:Cx}{m:TE}{f:aJ}
def Vf(K:aT)(j l:TE)(f:aJ):TS:=λD c H=>l c H λy e=>j c e λx d=>∃a C t,x=.ref a/\d a=Y (dW a (vR C t))/\P_ K C f/\∀b,d b=M->b≠a->D.nx c (cx (cx d b (.xd [(f,y)])) a (dW a (Ui C t b)))
def OH(E:PE X o j)(r:PE X z l)(v:cj z (Y (.Attribute o f A)) i.line X.env=dP Z_):PS X (.Assign [.Attribute o f A] z i) (Vf X.K j l f):=by
 intro b s d H D I h;refine Ko (fw (r b s d H _ I h) ?_) v;rintro u e ⟨y,N,m,g,q⟩;refine fw (E b e d N _ m q) ?_;rintro p P ⟨x,Q,L,k,a,C,t,F,G,c,n⟩;subst F;obtain rfl:p=aD a:=k;exact N6 L G c g λJ O B w K=>⟨d,_,K,n J B w⟩
def xW(C:ax)(f:aJ):Sp:=λc H Q _=>∃a t v,c=[.ref a,v]/\H a=Y (dW a (vR C t))/\∀b,H b=M->b≠a->Q .dg (cx (cx H b (.xd [(f,v)])) a (dW a (Ui C t b)))
def XM(K:aT)(C:ax)(v:Option ak):Prop:=∃(nm q:aJ) (N:ax) (bs bm Ws:List ak) (sn:List aJ) (sub:List ak) (ab:Bool) (col:Option Bool) (dd:Option ax) (k0 k1 k2 k3 k5:Option ak) (B Bn newId nid Sy inN:String) (Zw:List ak) (mN:aJ->Option ak),
  tU Bn newId inN Zw/\Ws.contains (bS Bn)=Z'/\tU B nid Sy Ws/\bm.contains (bS "BaseException")=Z' /\
  K.lookup C=Y (NZ nm q C N bs bm Z' sn sub ab col dd k0 k1 k2 k3 k5 newId)/\(∀h:cF,K.In h->OwnTail h Ws bm/\h.Ns N mN)/\mN (af "__init__")=v
structure UE(K:aT)(C fI:ax):Prop where
 cl:XM K C (some (.ref fI))
 fn:PySem.W.typeIn K (.ref fI)=some (.type "function")
 kp:kT K (.ref C)=true
def Iu{K:aT}(X:K.In h){o:Obj}(e:K.lookup a=Y o):h.get? a=Y o:=X a o e
def IW{s:av}{v:V}(i:UE X.K C fI)(F:bZ X.prog X.w X.K X.mg X.base gK k fI fd ["self",f] (xW C f))(hr:eH (k+1) X.A)(hb:Binds X.K fd ["self",f] [])(I:Inv X n U H s)(r:RelV v u)(h:∀a t D,H a=M->H D=M->D≠a->Q (.ref a) (cx (cx (cx H a (dW a (vR C t))) D (.xd [(f,v)])) a (dW a (Ui C t D)))):
  bq (aV X.prog X.w) X.A (GP (.ref C) [u]) (EP X n U Q) X.xe s:=by
 obtain⟨nm,q,N,bs,bm,Ws,sn,sub,ab,col,dd,k0,k1,k2,k3,k5,B,Bn,L,nid,J,inN,Zw,mN,Fn,R,FB,hbm,lk,hT,O⟩:=i.cl;have hC:=Iu I.pM lk;obtain⟨T,K⟩:=hT _ I.pM;have I1:=I.kept (h':=s.heap.push { cls:=bS "tuple",data:=Data.seq [u].toArray }) (t':=s.toks) λb o e=>aj _ e
 have E:(pG s.heap C [u]).get? (s.heap.objs.size+1)=Y (vR C s.heap.objs.size):=Heap.get?_push_at (by simp[cW]) rfl;have S:=I1.laid (a:=s.heap.objs.size+1) (o:=dW (s.heap.objs.size+1) (vR C s.heap.objs.size)) (h':=pG s.heap C [u]) (t':=s.toks) (λb o e=>aj _ e) (nK (cW _ _)) (dW.ok E);have x:=S.pM;have G:=S.Pm;obtain⟨y,g,d,tk,os⟩:=s;refine Dk Fn R FB T hC K O (show [u].length<=bc from fT (IT (n:=1) ſ)) (λA' E' s1 P' e p =>?_) ?_
 ·have:X.K.In s1.heap:=by rw[e];exact x
  exact PySem.W.Looks.here (PySem.W.looks_typeIn this i.fn) p
 ·refine qX (pJ (F.run _ X.stack _ _ ⟨[aD (y.objs.size+1),u],[]⟩ [aD (y.objs.size+1),u] [V.ref (y.objs.size+1),v] (λw H2=>w=.dg/\Q (.ref (y.objs.size+1)) H2) E0 (hr.make C [u] []) (G.make C [u] []) (hb _ [aD (y.objs.size+1),u] x rfl) (.cons rfl (.cons r .nil)) ⟨y.objs.size+1,y.objs.size,v,rfl,aX,λD hd K=>⟨rfl,?_⟩⟩) λr s' c =>?_)
  ·have P:H D=none:=by rw[aM K]at hd;exact hd
   exact h _ _ D (I.eR.fresh (fA _)) P K
  ·cases r with
   |error e=>exact cD c|ok fl=>
    cases fl with
    |ret u'=>obtain⟨v',H',I3,rv,ev,q3⟩:=S.after c;subst ev;exact⟨rv,⟨V.ref (y.objs.size+1),H',I3,rfl,q3⟩⟩
    |next=>exact cD c|brk=>exact cD c|cont=>exact cD c
def Rg(C:ax)(f:aJ)(t:TA):TE:=λd H Q=>t d H λe c=>∃v,e=[v]/\∀a t b,c a=M->c b=M->b≠a->Q (.ref a) (cx (cx (cx c a (dW a (vR C t))) b (.xd [(f,v)])) a (dW a (Ui C t b)))
def Lr(j:UE X.K C g)(F:bZ X.prog X.w X.K X.mg X.base gK k g d ["self",f] (xW C f))(y:eH (k+1) X.A)(D:Gl X x)(B:X.mg x=Y (.ref C))(G:Binds X.K d ["self",f] [])(J:PA X [e] t)(c:autoParam ((x==("__debug__" : aJ))=false) Ű)(E:autoParam (ao [e] X.env=(Z_,eval e X.env)::ao [] X.env) Ų)(b:autoParam ((cn i (ao [] X.env)).any (·.1)=false) Ų):
  PE X (.Call (.Name x p) [e] [] i) (Rg C f t):=by
 intro a s o H Q I h;refine eZ (qK I D B ?_ c);refine PySem.W.callWith_K (h₀:=X.base) I.ok.mod.Sl j.kp (fw (J i a s o H _ I h) ?_) E b;rintro N O ⟨L,P,n,r,v,K,q⟩;refine⟨n.pM,?_⟩;subst K;obtain⟨u,rfl,w⟩:=vals1 r;exact IW j F y G n w q
def RA(X:Cx)(C:ax)(m:TE):TS:=λ_ c H=>m c H λv e=>∃a t f,v=.ref a/\e a=Y (dW a (Ui C t f))/\∀b d,Inv X b c e d->X.xe (.ref a) d
def Lp(j:UE X.K C T)(R:X.calm=Z')(Q:PE X e m):PS X (.Raise (Y e) M i) (RA X C m):=by
 intro b s o H D I h;obtain⟨y,q,N,bs,bm,Ws,p,f,ab,k,dd,L,K,J,G,F,B,Bn,c,E,d,O,Zw,mN,Fn,S,FB,g,lk,hT,P⟩:=j.cl;rw[arm_exec_Raise];refine ah (nI ?_);refine uT (C:=C) (nm:=y) (q:=q) (N:=N) (bs:=bs) (hdct:=Z') (sn:=p) (sub:=f) (ab:=ab) (col:=k) (dd:=dd) (k0:=L) (k1:=K) (k2:=J) (k3:=G) (k5:=F) (newId:=c) g (I.ok.hd R) ?_;refine ah (fw (Q b s o H _ I h) ?_);rintro u r ⟨v,H1,n,x,a,t,dx,U,ea,w⟩;subst U;obtain rfl:u=aD a:=x;refine ah (nI (aE ?_));exact⟨a,_,_,rfl,Iu n.pM lk,dW.get n.eR ea,rfl,rfl,rfl,w b r n⟩
end
structure XT(H:Hp)(a C:ax)(dx:Option ax)(T:ax)(oe oT:Obj):Prop where
 ea:H a=some (dW a oe)
 cls:oe.cls=.ref C
 dict:oe.dict=dx
 fl:∃vs,oe.data=.fields vs/\vs[1]?=some (.ref T)/\∃a0,vs[0]?=some a0
 ne:T≠a
 eT:H T=some (dW T oT)
 tr:∃ts,oT.data=.fields ts/\ts[3]?=some .none
section
variable {P:br}{w:cY}{K:aT}{m:aJ->Option ak}{l:cF}{N:List aJ}{i:aJ}{j:Scope}{f:ax}{k:ak}{A:gI}{g:List Env}{d s:av}{p H:Hp}{E:XK}{x:List (ax×Obj)}{y:St}{a C t h:ax}
end
section
variable {V:N0}{s:av}{m:Obj}
def Ky(hfr:A.frames=Y (a::j))(hl:s.heap.FunFrames base (a::j))(hf:a.frame=Y L)(he:s.heap.get? e=Y k)(hd:k.data=.fields g)(h1:g[1]?=Y (.ref T))(h0:g[0]?=Y n)(hT:s.heap.get? T=Y m)(t:m.data=.fields l)(h3:l[3]?=Y .none)(JE:T≠e)(h:∀h' T',Nr (yf (a::j)) e s.heap h'->WL h' e k.cls k.dict n .none T'->T'=s.heap.objs.size->Q () { s with heap:=h' }):
  bq V A (NC (.ref e) a) (λ_ s2=>bq V A (xK (.ref e) M) Q E s2) E s:=by
 have YY:e∉yf (a::j):=λhm=>by obtain⟨_,o,U,N⟩:=hl.mem hm;rw[he]at U;cases U;exact N g hd
 have ac0:T∉yf (a::j):=λhm=>by obtain⟨_,o,U,N⟩:=hl.mem hm;rw[hT]at U;cases U;exact N l t
 have S:1<g.size:=(kY.mp h1).1;have P:3<l.size:=(kY.mp h3).1;have X:Obj.mapFields (λx=>x.setIfInBounds 3 aK) m=m:=by
  obtain⟨c,d,dt,sl⟩:=m;have:dt=.fields l:=t;subst this;show (⟨c,d,.fields (l.setIfInBounds 3 aK),sl⟩:Obj)=_
  congr 2
  apply Array.ext
  ·simp
  ·intro i h1 h2;by_cases hi:3=i
   ·subst hi;rw[C7];have:=sW h2;rw[h3]at this;injection this
   ·rw[EY _ hi]
 have w:∀b o,s.heap.get? b=Y o->(s.heap.update T (Obj.mapFields λx=>x.setIfInBounds 3 aK)).get? b=Y o:=λb o v=>by
  by_cases J:b=T
  ·subst J;rw[hT]at v;cases v;have hh:=cU (Obj.mapFields λx=>x.setIfInBounds 3 aK) hT (by rw[X];exact Obj.isFreed_of_fields t);rw[X]at hh;exact hh
  ·rw[bG _ _ (bF J)];exact v
 have he2:=w e k he;have hl2:(s.heap.update T (Obj.mapFields λx=>x.setIfInBounds 3 aK)).FunFrames base (a::j):=Heap.FunFrames.of_keeps (λb o v _=>⟨o,w b o v,rfl⟩) hl;unfold NC;rw[hf];refine ah (jq he hd h1 ?_);rw[if_pos (by simp)];refine ah (jq hT t h3 ?_);rw[if_neg (by simp[lF])];refine ah (pI hT t P ?_);refine ah (wpAny_frameOf_fun hfr hl2 hf λp r =>?_);refine ah (wpAny_entryPlaceOf λI hpl =>?_);refine ah ?_;unfold EntryCells.newEntry;refine J_ ?_ (IsPlace.sizeOk5 hpl _ _ _ _ _);have F:p.get? e=Y k:=(r.2.1 e YY).trans he2;have D:=aj { cls:=bS "traceback",data:=fQ ([aD T,aD L,aK,lF ↑L,aK]++if I.isEmpty=Z' then bt 6 aK else I).toArray } F;refine pI D hd S ?_;have O:p.objs.size≠e:=fS (aI F);have u:=Obj.data_mapFields hd λx=>x.setIfInBounds 1 (aD p.objs.size)
 have C:=cU (Obj.mapFields λx=>x.setIfInBounds 1 (aD p.objs.size)) D (Obj.isFreed_of_fields u);have H:=(bG (p.push { cls:=bS "traceback",data:=fQ ([aD T,aD L,aK,lF ↑L,aK]++if I.isEmpty=Z' then bt 6 aK else I).toArray }) (Obj.mapFields λx=>x.setIfInBounds 1 (aD p.objs.size)) (bF O)).trans (bz p rfl);have g1:(g.setIfInBounds 1 (aD p.objs.size))[1]?=Y (aD p.objs.size):=by simp[S]
 have g0:(g.setIfInBounds 1 (aD p.objs.size))[0]?=Y n:=by rw[oM (by decide)];exact h0
 unfold xK;refine ah (jq C u g1 ?_);rw[if_pos (by simp)];have R:3<([aD T,aD L,aK,lF ↑L,aK]++if I.isEmpty=Z' then bt 6 aK else I).toArray.size:=by simp
 refine pI H rfl R ?_;have K:p.objs.size=s.heap.objs.size:=r.1.trans (xP _ _ _);have B:s.heap.get? p.objs.size=none:=by
  rw[K];rcases q:s.heap.get? s.heap.objs.size with _|o
  ·rfl
  exact absurd (aI q) (fg _)
 have y:∀b o,b≠e->b≠p.objs.size->p.get? b=Y o->((Heap.update (p.push { cls:=bS "traceback",data:=fQ ([aD T,aD L,aK,lF ↑L,aK]++if I.isEmpty=Z' then bt 6 aK else I).toArray }) e (Obj.mapFields λx=>x.setIfInBounds 1 (aD p.objs.size))).update p.objs.size (Obj.mapFields λx=>x.setIfInBounds 3 (Fe M aK λf=>lF ↑f))).get? b=Y o:=λb o G J v=>by rw[bG _ _ (bF J),bG _ _ (bF G)];exact aj _ v
 refine h _ p.objs.size ⟨λb o G hbf v =>?_,λb o G hbf v =>?_⟩ ?_ K
 ·refine y b o G ?_ ((r.2.1 b hbf).trans (w b o v));intro z;rw[z,B]at v;cases v
 ·obtain⟨sl,hsl⟩:=r.2.2 b o (w b o v);refine⟨sl,y b _ G ?_ hsl⟩;intro z;rw[z,B]at v;cases v
 ·have t:=Obj.data_mapFields (o:={ cls:=bS "traceback",data:=fQ ([aD T,aD L,aK,lF ↑L,aK]++if I.isEmpty=Z' then bt 6 aK else I).toArray }) rfl λx=>x.setIfInBounds 3 (Fe M aK λf=>lF ↑f)
  refine⟨_,_,_,_,(bG _ _ O).trans C,Obj.cls_mapFields _ _,Obj.sM _ _,u,g0,g1,O,cU _ H (Obj.isFreed_of_fields t),t,?_⟩;simp
end
def Hy{P:br}{H:Hp}{h B:cF}{a T:ax}{d f:Obj}(E:nS P w H h)(x:∀b∈I,H b=M)(A:H a=Y (dW a o))(D:Nr I a h B)(K:B.get? a=Y d)(Q:B.get? T=Y f)(L:T=h.objs.size):
  Un I [] H (cx (cx H T (dW T f)) a (dW a d)) h B/\nS P w (cx (cx H T (dW T f)) a (dW a d)) B:=by
 have J:H T=none:=E.fresh (nK L.symm);have m:∀b,H b=M->b≠a:=λb s z=>by rw[z,A]at s;cases s
 have C:∀b o,h.get? b=Y o->b≠T:=λb o e z=>by have:=aI e;rw[z,L]at this;exact fg _ this
 have k:∀b u,b≠a->H b=Y u->cx (cx H T (dW T f)) a (dW a d) b=Y u:=λb u s e=>by rw[aM s,aM (bf e J)];exact e
 have p:∀c v,c≠a->H c≠M->h.get? c=Y v->B.get? c=Y v:=λc v y N e=>D.keep c v y (λG=>N (x c G)) e
 refine⟨⟨λb o e n s t=>D.keep b o (m b n) s e,λb o e n s t=>D.slot b o (m b n) s e,λb o e n t =>?_,λb o e t =>?_,λb g e=>k b _ (λz=>by rw[z,A]at e;cases e) e,λb o u e=>k b _ (λz=>by rw[z,A]at e;cases e) e,λb S e=>⟨#[],by rw[k b _ (λz=>by rw[z,A]at e;cases e) e];simp⟩⟩,λb u e =>?_⟩
 ·rw[aM (m b n),aM (C b o e)];exact n
 ·by_cases l:b=a
  ·exact⟨d,by rw[l];exact K⟩
  ·by_cases G:b∈I
   ·obtain⟨R,O⟩:=D.slot b o l G e;exact⟨_,O⟩
   ·exact⟨o,D.keep b o l G e⟩
 ·by_cases l:b=a
  ·subst l;rw[aX]at e;cases e;exact dW.ok K
  ·rw[aM l]at e;by_cases F:b=T
   ·subst F;rw[aX]at e;cases e;exact dW.ok Q
   ·rw[aM F]at e;refine(E b u e).vV (λc v y q =>?_) (λc r =>?_) λc g r =>?_
    ·rcases y with rfl|y
     ·exact p c v l (by rw[e];simp) q
     ·exact p c v (λz=>by rw[z,A]at y;cases y) (by rw[y];simp) q
    ·exact k c _ (λz=>by rw[z,A]at r;cases r) r
    ·exact k c _ (λz=>by rw[z,A]at r;cases r) r
section
variable {X:Cx}{i:List (ax×Obj)}{j:St}{H:Hp}{s:av}{E:ak->av->Prop}{a C T L:ax}{g:Option ax}{d f:Obj}
def HC(n:X.stack=X.env::X.outer)(K:X.env.frame=Y L)(I:Inv X i j H s)(x:XT H a C g T d f)(h:∀A y p c k,Inv X i j y A->XT y a C g p c k->(∀b o,b≠a->H b=Y o->y b=Y o)->Q () A):
  bq (aV X.prog X.w) X.A (NC (.ref a) X.env) (λ_ J=>bq (aV X.prog X.w) X.A (xK (.ref a) M) Q E J) E s:=by
 obtain⟨vs,V,P,a0,R⟩:=x.fl;obtain⟨ts,u,O⟩:=x.tr;have m:=I.ok.frames;rw[n]at m;have l:=I.stack;rw[n]at l;refine Ky (base:=X.base) m l K (dW.get I.eR x.ea) V P R (dW.get I.eR x.eT) u O x.ne λS p B ext F =>?_
 obtain⟨c,q,k,r,g1,g2,g3,g4,g5,g6,D,g8,U,w⟩:=ext;rw[<- n]at B;obtain⟨G,t⟩:=Hy I.eR I.xT x.ea B g1 g8 F;have v:H p=none:=I.eR.fresh (nK F.symm);refine h _ (cx (cx H p (dW p k)) a (dW a c)) p c k (I.zJ (s':={ s with heap:=S }) (g:=[]) rfl G t I.bare (λb z=>absurd z Ž)) ⟨aX,g2.trans x.cls,g3.trans x.dict,⟨q,g4,g6,_,g5⟩,D,by rw[aM D,aX],⟨r,U,w⟩⟩ λb o N e =>?_
 rw[aM N,aM (bf e v)];exact e
end
def find_erase{l:List a}(h:∀x,l[i]?=Y x->p x=Z_):(l.eraseIdx i).find? p=l.find? p:=by
 by_cases b:i<l.length
 ·have e:l=l.take i++l[i]::l.drop (i+1):=by rw[<- dX b,List.take_append_drop]
  have c:p l[i]=false:=h _ (ba b);rw[List.eraseIdx_eq_take_drop_succ]
  conv=>rhs;rw[e]
  rw[C6,C6,jV,c]
 ·rw[List.eraseIdx_of_length_le (by omega)]
def nsFind_erase{a:Array DictEntry}(h:StrKeys a)(e:a.findIdx? (λy=>y.key.isStr n)=Y i)(g:x≠n):T8 (a.eraseIdxIfInBounds i) x=T8 a x:=by
 obtain⟨b,c,_⟩:=AE.mp e;have j:a.eraseIdxIfInBounds i=a.eraseIdx i b:=by unfold NL;rw[dif_pos b]
 have:(a.eraseIdx i b).find? (λy=>y.key.isStr x)=a.find? (λy=>y.key.isStr x):=by
  rw[<- mC,<- mC,Array.toList_eraseIdx];refine find_erase λy f =>?_
  rw[wY,sW b]at f;cases f;obtain⟨m,t,d⟩:=h a[i] (Array.getElem_mem b);rw[d]at c ⊢;have c:(m==n)=true:=c;show (m==x)=Z_;have d:m=n:=by simpa using c
  rw[d];simpa using bF g
 rw[j];show mB _ _=mB _ _;rw[this]
def Ai(c:StrKeys b):StrKeys (b.eraseIdxIfInBounds i):=λe a=>by
 refine c e ?_;unfold NL at a;split at a
 ·exact Array.mem_of_mem_eraseIdx a
 ·exact a
section
variable {s:av}
def Kx{m:aJ->Option ak}{name:aJ}(I:s.heap.Ns a m)(l:∃v,m name=Y v)(K:∀w C,w.Ns a C->(∀x,x≠name->C x=m x)->fK a s.heap w->Q Z' { s with heap:=w }):bq U A (nsDel a name) Q E s:=by
 obtain⟨o,f,z,n,H,F,D⟩:=id I;obtain⟨v,l⟩:=l;have u:∃i,f.findIdx? (λy=>y.key.isStr name)=Y i:=by
  cases q:f.findIdx? (λy=>y.key.isStr name) with
  |some i=>exact⟨i,rfl⟩|none=>
   exfalso;have j:=D name;rw[l]at j;have j:mB _ (f.find? (λy=>y.key.isStr name))=Y v:=j;have:f.find? (λy=>y.key.isStr name)=none:=by rw[Array.find?_eq_none];intro x k G;have:=Array.findIdx?_eq_none_iff.mp q x k;rw[this]at G;cases G
   rw[this]at j;cases j
 obtain⟨i,t⟩:=u;obtain⟨r,p,_⟩:=AE.mp t;have h:nsHas name o=dP true:=by rw[nsHas_eq];unfold nsHasByArray;rw[H];show (if (f.any λy=>y.key.isStr name)=Z' then _ else _)=_;rw[if_pos (Array.any_eq_true.mpr ⟨i,r,p⟩)]
 unfold nsDel;refine ah (uM n ?_);rw[h];refine ah (aE ?_);rw[if_pos rfl];refine ah (wpAny_updatePart n (aE ?_));obtain⟨c,d,L,B⟩:=o;have:L=.dict f z:=H;subst this;have e:Obj.dropName name { cls:=c,dict:=d,data:=qZ f z,slots:=B }={ cls:=c,dict:=d,data:=qZ (f.eraseIdxIfInBounds i) (z+1),slots:=B }:=by rw[Obj.dropName_eq,Obj.dropNameByArray.eq_1,t]
 have g:=cU (Obj.dropName name) n (by rw[e];rfl);rw[e]at g;refine K _ (T8 (f.eraseIdxIfInBounds i)) ⟨_,_,_,g,rfl,Ai F,λ_=>rfl⟩ (λx k=>by rw[nsFind_erase F t k];exact D x) ⟨xP _ _ _,λb J=>bG _ _ (bF J)⟩
def Di{m:aJ->Option ak}(q:a.kindOf n=Y .local)(r:s.heap.Ns a.locals m)(p:(a.scope.kind == .class||a.scope.kind == .module&&a.locals != a.globals)=Z_)(h:∀j k,j.Ns a.locals k->(∀x,x≠n->k x=m x)->fK a.locals s.heap j->Q () { s with heap:=j,toks:=s.toks+1 }):
  bq U A (do bindName a n aK;CZ a n i) Q E s:=by
 refine ah (wpAny_bindName (wpAny_storeName_local q r (λl e c =>?_) p));unfold CZ;refine wpAny_onRaise ?_;unfold unbindName;refine ah (wpAny_point (ah ?_));unfold deleteName;simp only[q];rw[if_neg (by rw[p];decide)];refine ah (Kx e ⟨_,if_pos rfl⟩ λg f d t b =>?_);rw[if_neg (by decide)];refine aE (wpAny_point (h g f d (λx o =>?_) (fK.trans c b)));rw[t x o,if_neg o]
end
structure wR(o:Obj)(C:ax)(dx:Option ax):Prop where
 cls:o.cls=.ref C
 dict:o.dict=dx
 no:PySem.W.notCls o=true
noncomputable abbrev Cx.mark(X:Cx)(e:ak):Cx:={ X with A:=X.A.mark (Y e),calm:=Z_,xe:=λ_ _=>False }
section
variable {X:Cx}{s:av}
def Cx.Ok.mark{X:Cx}(a:X.Ok)(e:ak):(X.mark e).Ok:=
 ⟨a.mod,a.kind,a.glob,a.blt,a.above,a.inj,a.has,a.UD,λh=>(nomatch h),a.frames,a.Vb,a.Y9,a.bs,a.NU,a.Jn,a.MC,a.wz,a.QS⟩
def Inv.mark(I:Inv X B t H s)(e:ak):Inv (X.mark e) B t H s:=⟨I.ok.mark e,I.os,I.bare,I.base,I.loc,I.cell,I.free,I.mZ,I.pin,I.eR,I.len⟩
def Inv.unmark(a:X.Ok)(I:Inv (X.mark e) B t H s):Inv X B t H s:=⟨a,I.os,I.bare,I.base,I.loc,I.cell,I.free,I.mZ,I.pin,I.eR,I.len⟩
def Pk{w:N0}{L:Pos}(I:Inv X B t H s)(hN:X.N.Nodup)(hi:X.N[i]?=Y x)(hk:X.env.scope.names.lookup x=Y .local)(h:∀U,Inv X B (t.set i M) H U->Q () U):bq w A (do bindName X.env x aK;CZ X.env x L) Q E s:=by
 obtain⟨m,hn,hl⟩:=id I.loc;have C:(X.env.scope.kind == .class||(X.env.scope.kind == .module&&X.env.locals != X.env.globals))=false:=by rw[I.ok.kind];rfl
 have v:i<t.length:=by rw[I.len];exact(aq.mp hi).1
 have D:=I.XC;have f:∀ {a:ax}{J:cF},(∃o,s.heap.get? a=Y o/\H a=M)->fK a s.heap J->nS X.prog X.w H J:=fun {a J} ha l b ob e=>by
  obtain⟨_,_,g⟩:=ha;refine(I.eR b ob e).vV (λc T F q=>(l.2 c ?_).trans q) (λ_ q=>q) λ_ _ q=>q
  rintro rfl;rcases F with rfl|F
  ·rw[g]at e;cases e
  ·rw[g]at F;cases F
 refine Di hk hn C (λJ m' P hm l =>?_);obtain⟨oL,_,_,O,_⟩:=id hn;refine h _ ⟨I.ok,I.os,I.bare,⟨λb o e n S u =>?_,λb o e n S u =>?_,I.base.free,λb o e u =>?_,I.base.BJ,I.base.Ar,I.base.BK⟩,⟨_,P,λj y v' r K e3 =>?_⟩,λy c e =>?_,I.free,I.mZ,λp hp =>?_,f ⟨oL,O,I.free⟩ l,by simpa using I.len⟩
 ·exact(l.2 b (bI (bx (aI e) I.ok.above))).trans (I.base.keep b o e n S u)
 ·obtain⟨sl,r⟩:=I.base.slot b o e n S u;exact⟨sl,(l.2 b (bI (bx (aI e) I.ok.above))).trans r⟩
 ·obtain⟨o',r⟩:=I.base.there b o e u;exact⟨o',(l.2 b (bI (bx (aI e) I.ok.above))).trans r⟩
 ·by_cases R:j=i
  ·subst R;rw[a_ v]at K;cases K
  ·rw[ai (bF R)]at K;obtain⟨u',r',q⟩:=hl j y v' r K e3;refine⟨u',r',?_⟩;rcases q with⟨k,e⟩|⟨k,c,e,z⟩
   ·refine .inl ⟨k,?_⟩;have:y≠x:=λe=>R (yZ hN r (e ▸ hi))
    rw[hm y this];exact e
   ·exact .inr ⟨k,c,e,z.sameBut l (D y c e)⟩
 ·obtain⟨T,z⟩:=I.cell y c e;exact⟨T,z.sameBut l (D y c e)⟩
 ·obtain⟨e,n,ne,nf,d⟩:=I.pin p hp;exact⟨(l.2 p.1 ne).trans e,n,ne,nf,d⟩
def JG{O:N0}(I:Inv X B t H s)(x:XT H a C w T G N)(h:∀n,Inv X B t H n->Q () n):bq O A (xK (.ref a) M) Q E s:=by
 obtain⟨J,z,u,L,K⟩:=x.fl;obtain⟨k,e,r⟩:=x.tr;have y:=dW.get I.eR x.ea;have m:=dW.get I.eR x.eT;have f:3<k.size:=(kY.mp r).1;have g:Obj.mapFields (λx=>x.setIfInBounds 3 aK) N=N:=by
  obtain⟨c,d,F,v⟩:=N;have:F=.fields k:=e;subst this;show (⟨c,d,.fields (k.setIfInBounds 3 aK),v⟩:Obj)=_
  congr 2
  apply Array.ext
  ·simp
  ·intro i u D;by_cases p:3=i
   ·subst p;rw[C7];have:=sW D;rw[r]at this;injection this
   ·rw[EY _ p]
 unfold xK;refine ah (jq y z u ?_);rw[if_pos (by simp)];refine pI m e f ?_;refine h _ (I.kept (t':=s.toks) λb o l =>?_);by_cases j:b=T
 ·subst j;rw[m]at l;cases l;have q:=cU (Obj.mapFields λx=>x.setIfInBounds 3 aK) m (by rw[g];exact Obj.isFreed_of_fields e);rw[g]at q;exact q
 ·rw[bG _ _ (bF j)];exact l
def XT.Vc(x:XT H a C w T G N):wR G C w:=⟨x.cls,x.dict,by
 obtain⟨c,b,_⟩:=x.fl;unfold PySem.W.notCls;rw[b]⟩
def Qt(I:Inv X B t H s)(k:H a=Y (dW a G))(d:wR G C (Y w))(j:H w=Y (.xd e)):∃(b:Obj) (c:aJ->Option ak),PySem.W.InstAt s.heap a G C (Y b)/\(∀name,lookIn name b=Y (c name))/\∀f,pH (e.lookup f) (c f):=by
 obtain⟨c,g,r⟩:=(show e_ X.prog X.w H s.heap w (.xd e) from I.eR w _ j);obtain⟨b,h,i⟩:=A_ g;exact⟨b,c,⟨dW.get I.eR k,d.cls,d.no,by rw[d.dict];exact h⟩,i,r⟩
structure Nj(K:aT)(C:ax)(f:aJ):Prop where
 pg:UG K C
 hd:pw K C=true
 na:hI K (.ref C) f=some none
def Qy(K:aT)(d:TE)(f:aJ):TE:=λt H Q=>d t H λx b=>∃a C w G c v,x=.ref a/\b a=Y (dW a G)/\wR G C (Y w)/\b w=Y (.xd c)/\Nj K C f/\c.lookup f=Y v/\Q v b
def OO{f:aJ}(p:PE X e d)(y:b_ e f X.env (eval e X.env)=eval e X.env):PE X (.Attribute e f b) (Qy X.K d f):=by
 intro B s t H Q I h;refine Ig y (fw (p B s t H _ I h) ?_);rintro u F ⟨x,E,c,k,a,C,w,G,L,v,z,D,j,A,g,l,q⟩;subst z;obtain rfl:u=aD a:=k;obtain⟨K,m,J,o,r⟩:=Qt c D j A;obtain⟨u,n,i⟩:=pH.some_of (v:=v) (o:=m f) (by rw[<- l];exact r f);exact Ku c.pM J g.pg (PySem.W.findObj_own g.hd g.na rfl (by rw[o,n])) (Bi i) ⟨v,E,c.tok _,i,q⟩
structure Wv(K:aT)(C:ax):Prop where
 pg:UG K C
 hd:pw K C=true
 ha:hI K (.ref C) "__class__" = some (some (.builtin "object.__class__"))
 hn:PySem.W.specialIn K (.builtin "object.__class__") "__get__" = some (some (.builtin "getset_descriptor.__get__"))
 htk:PySem.W.takesIn K (.builtin "object.__class__")=some true
 hm:PySem.W.mroIn K C (.type "object")=some true
def Q8{W:cY}(I:Inv X B t H s)(k:H a=Y (dW a G))(g:wR G C w)(j:∀x,w=Y x->∃i,H x=Y (.xd i))(d:Wv X.K C)(e:jK X.K (.ref C) c=Y b)(h:∀f,Inv X B t H f->Q (.bool b) f):
  bq (aV X.prog X.w) A (GP (.builtin "isinstance") [.ref a,c]) Q E s:=by
 have J:∃m,PySem.W.InstAt s.heap a G C m:=by
  rcases w with _|w
  ·exact⟨M,dW.get I.eR k,g.cls,g.no,by rw[g.dict];trivial⟩
  ·obtain⟨i,j⟩:=j w rfl;obtain⟨m,n,J,o,r⟩:=Qt I k g j;exact⟨_,J⟩
 obtain⟨m,J⟩:=J;exact rW (Mg d.pg d.hd d.ha d.hn d.htk d.hm) I.pM J e (λz=>nomatch z) (λl=>h _ (I.tok _))
end
section
variable {X:Cx}{f:DF}
end
def XIn(H:Hp)(a C:ax)(d:Option ax):Prop:=(∃t,H a=Y (dW a { vR C t with dict:=d }))\/∃T b c,XT H a C d T b c
def CW(P:br)(w:cY):Q1:=λk H s E e b=>∃a C d T f h c,e=.ref a/\b.os=s.os/\AF b.gens/\Un (yf k) [] H c s.heap b.heap/\nS P w c b.heap/\XT c a C d T f h/\E (.ref a) d c
section
variable {P:br}{w:cY}{K:aT}{l:aJ->Option ak}{base:cF}{N:List aJ}{m:aJ}{p:Scope}{f:ax}{r:ak}{A:gI}{k:List Env}{u s:av}{v H:Hp}{E:XK}{g:List (ax×Obj)}{j:St}{a C:ax}{d:Option ax}
def Sg(I:Inv (qS (CW P w) P w K l base N m p f r A k u v E) g j H s)(x:XIn H a C d)(W:∀i D,(∀b o,b≠a->H b=Y o->i b=Y o)->i a=Y (dW a D)->D.cls=.ref C->E (.ref a) d i):(qS (CW P w) P w K l base N m p f r A k u v E).xe (.ref a) s:=by
 rcases x with⟨t,R⟩|⟨T,D,oT,x⟩
 ·have hx:=dW.get I.eR R;refine Dj (V:=aV P w) (base:=base) I.ok.frames I.stack rfl hx rfl rfl rfl λh' T X ext S =>?_
  obtain⟨c,y,h,B,g1,Q,g3,g4,g5,g6,O,g8,g9,L⟩:=ext;obtain⟨U,F⟩:=Hy I.eR I.xT R X g1 g8 S;have G:H T=none:=I.eR.fresh (nK S.symm);have J:=I.zJ (s':={ s with heap:=h' }) (g:=[]) rfl U F I.bare (λb z=>absurd z Ž);refine⟨a,C,d,T,c,h,_,rfl,J.os,J.bare,J.base,J.eR,⟨aX,Q,g3,⟨y,g4,g6,_,g5⟩,O,by rw[aM O,aX],⟨B,g9,L⟩⟩,W _ c (λb o hb e =>?_) aX Q⟩;rw[aM hb,aM (bf e G)];exact e
 ·exact ah (HC (X:=qS (CW P w) P w K l base N m p f r A k u v E) rfl rfl I x λs' i T' c h J q n=>⟨a,C,d,T',c,h,i,rfl,J.os,J.bare,J.base,J.eR,q,W i c n q.ea q.cls⟩)
end
section
variable {X:Cx}{g:List (ax×Obj)}{j:St}{H:Hp}{s:av}
def Inv.Ie{w:XK}(I:Inv X g j H s)(c:CW X.prog X.w X.stack H s w e t):∃a C d T i n h,e=.ref a/\Inv X g j h t/\XT h a C d T i n/\w (.ref a) d h:=by
 obtain⟨a,C,d,T,i,n,h,rfl,A,f,y,o,x,q⟩:=c;exact⟨a,C,d,T,i,n,h,rfl,I.zJ A y o f (λb z=>absurd z Ž),x,q⟩
end
def XD(H:Hp)(n:Int)(a:ax):Option ax->Prop
 |some x=>x≠a/\H x=Y (.xd [("at",.int n)])|none=>True
structure XF(K:aT)(hb:Hp)(c:aJ)(n:Int)(H:Hp)(a:ax)(dx:Option ax):Prop where
 cl:∃C oe,iy K aP c=some (some (.ref C))/\H a=some (dW a oe)/\oe.cls=.ref C
 has:c = "NoSign" ->dx≠none
 dx:XD H n a dx
 same:bC hb H
 fr:hb a=none
def XF.step{K:aT}{H:Hp}{a:ax}{d:Option ax}{f:Obj}{C:ax}(x:XF K i c n H a d)(t:iy K aP c=Y (Y (.ref C)))(q:∀b o,b≠a->H b=Y o->h b=Y o)(y:h a=Y (dW a f))(w:f.cls=.ref C):XF K i c n h a d:=by
 obtain⟨E,s,B,A,D⟩:=x.cl;refine⟨⟨C,f,t,y,w⟩,x.has,?_,λb o e=>q b o (λz =>?_) (x.same b o e),x.fr⟩
 ·have:=x.dx;cases d with
  |none=>trivial|some d=>exact⟨this.1,q _ _ this.1 this.2⟩
 ·rw[z,x.fr]at e;cases e
structure Fl(X:Cx)(B:Bs)(c:aJ)(n:Int)(H:Hp)(a:ax)(dx:Option ax):Prop where
 xf:XF X.K B.2 c n H a dx
 pin:∀i b,(i,b)∈B.3->b≠a
 xin:∃C,iy X.K aP c=some (some (.ref C))/\XIn H a C dx
def zS(X:Cx)(B:Bs):Prop:=∀c n,B.4 c n->∀g j H s a d,Inv X g j H s->Fl X B c n H a d->X.xe (.ref a) s
inductive Xo (α:Type) where
 |ok (a:α)|er (c:aJ) (n:Int)
structure ZG(P:br)(w:cY)(K:aT)(mg:aJ->Option ak)(base:cF)(c:aJ)(k:Nat):Prop where
 ex:∃C fI V9,iy K aP c=some (some (.ref C))/\mg c=some (.ref C)/\UE K C fI/\bZ P w K mg base gK k fI V9 ["self", "at"] (xW C "at")/\Binds K V9 ["self", "at"] []
section
variable {X:Cx}
noncomputable def BQ(c:aJ)(f:DF):DG:=λa=>(f a).bind λd=>match d with|.int n=>Y (.ex c n)|_=>M
def JP{c:aJ}{f:DF}(hx:ZG X.prog X.w X.K X.mg X.base c k)(hr:eH (k+1) X.A)(x:zS X B)(hg:Gl X c)(he:PE X e (tP X.K Z f))(hp:B.3=[])(hc:autoParam (X.calm=true) Ų)(A:autoParam ((c==("__debug__" : aJ))=false) Ű)(q:autoParam (ao [e] X.env=(Z_,eval e X.env)::ao [] X.env) Ų)(s:autoParam ((cn u (ao [] X.env)).any (·.1)=false) Ų):
  PS X (.Raise (Y (.Call (.Name c p) [e] [] u)) M j) (iC X.K B l Z T (BQ c f)):=by
 obtain⟨C,fI,V9,K,hm,y,F,hb⟩:=hx.ex;refine(Lp y hc (Lr y F hr hg hm hb (bT he dn q) A q s)).imp ?_;rintro D σ H ⟨G,ρ,o,S,g,k⟩;unfold BQ at g;obtain⟨d,ef,g⟩:=aa.1 g;split at g
 ·rename_i n;cases g;refine⟨G,ρ,.int n,S.gh,S.iX,ef,λv G' H' E r =>?_⟩;have R:=S.ext E;cases bU.mp r;refine⟨.int n,rfl,λa t Q N z w=>⟨a,t,Q,rfl,aX,λm s' I =>?_⟩⟩;refine x c n k m σ _ s' a (Y Q) I ⟨⟨⟨C,_,K,aX,rfl⟩,λ_ z=>(nomatch z),⟨w,by rw[aM w,aX]⟩,λb o e =>?_,R.h0.free N⟩,λi b h=>(by rw[hp]at h;cases h),C,K,.inl ⟨t,aX⟩⟩;have J:=R.h0 b o e;have P:b≠a:=bf J N;rw[aM P,aM (bf J z),aM P];exact J
 ·cases g
abbrev DX:=cA->Option (Xo D)
def ZC(K:aT)(B:Bs)(G H:Hp)(Q:VK):Xo D->Prop
 |.ok d=>∀v b a,gc G H b a->cJ K b d v->Q v a|.er c n=>B.4 c n
inductive tX (K:aT) (B:Bs) (Z:List Nat) (f:DX) (b:St) (H:Hp) (Q:VK):Prop
 |mk G a o:SR K B Z G H b a->f a=some o->ZC K B G H Q o->tX K B Z f b H Q
noncomputable def BW(f:DX):DG:=λa=>(f a).map λr=>match r with|.ok _ =>.nx a|.er c n =>.ex c n
def MW{f:DX}(h:PE X e (tX X.K B Z f))(g:autoParam (cj e M u.line X.env=dP false) Ų):PS X (.Expr e u) (iC X.K B l Z Z (BW f)):=(mf h g).imp λD b H ⟨G,d,o,S,a,k⟩=>by
 unfold BW at a;obtain⟨r,i,a⟩:=au.1 a;refine⟨G,d,r,S,i,?_⟩;cases r with
 |er c n=>cases a;exact k|ok q=>cases a;exact λv p m E r=>k b p m (S.ext E)
end
def ZM(K:aT)(G H:Hp)(Q:VK)(E:XK):Xo D->Prop
 |.ok d=>∀v e a,gc G H e a->cJ K e d v->Q v a|.er c n=>∀x b a,XF K H c n a x b->E (.ref x) b a
inductive rH (K:aT) (F:List D->Option (Xo D)) (b:List V) (H:Hp) (Q:VK) (E:XK):Prop
 |mk G a r:bC G H->bE K G a b->F a=some r->ZM K G H Q E r->rH K F b H Q E
noncomputable def A3:DO->Option (Xo D)
 |.rt d=>Y (.ok d)|.ro a=>Y (.ok (.lst a))|.nx _=>Y (.ok .dg)|.ex c n=>Y (.er c n)|_=>M
def xb(n N:Nat)(g:DG)(a:List D):Option (Xo D):=if a.length=n then (g (ie N a)).bind A3 else M
section
variable {P:br}{K:aT}
def gY.LW{f:ax}{R:List aJ}(F:gY K x e z f fd)(S:bB N R (aA z)){Z Ź:List Nat}{g:DG}(D:∀i∈Z,R.length<=i) (hb:∀(p:ak) (A:gI) (b:List Env) (s:av) (H:Hp) (E:XK),eH k (A.deeper (qu e (aA z) s.heap.objs.size f p))->∀(B:Bs),B.3=[]->zS (qS (CW P w) P w K y L N e (aA z) f p A b s H E) B ->
   oV (qS (CW P w) P w K y L N e (aA z) f p A b s H E) (gx z) (iC K B [] Z Ź g)):bZ P w K y L (CW P w) (k+1) f fd R (rH K (xb R.length N.length g)):=by
 obtain⟨oc,od,kV,Qg,pm,an,p,ct,W7,rfl,lk,Xf⟩:=F.ex;refine QT lk Xf S (λvs H Q E h =>?_) (λA b s H vs Q E hr h =>?_)
 ·obtain⟨G,ds,r,gh,rr,m,_⟩:=h;unfold xb at m;split at m
  ·rw[<- rr.length];assumption
  ·cases m
 ·obtain⟨G,ds,r,gh,rr,m,q⟩:=h;unfold xb at m;split at m
  ·rename_i hl;have hfl:zS (qS (CW P w) P w K y L N e (aA z) f p A b s H E) ⟨G,H,[],λc n=>∀x dx t,XF K H c n t x dx->E (.ref x) dx t⟩:=λc n hf AA σ H1 s1 x dx I fl=>by obtain⟨C,hC,xi⟩:=fl.xin;exact Sg I xi λt oe h1 X h3=>hf x dx t (fl.xf.step hC h1 X h3)
   refine⟨_,hb p A b s H E hr ⟨G,H,[],_⟩ rfl hfl,?_⟩;obtain⟨o,eg,m⟩:=aa.1 m;refine⟨G,_,o,uW gh rr (by rw[hl];exact D),eg,?_⟩;cases o with
   |rt d'=>cases m;exact λv J t E r=>q v J t E r
   |ro rs=>cases m;exact λa us J t E h1 X h3 r=>q _ (cx J a (.lst us)) t (E.freeze h1 X h3) (cS.mpr ⟨a,us,rfl,aX,bE.mono (.alloc X) rs r⟩)
   |nx j=>cases m;exact λσ J t S=>q _ J t S.mR (gv.mpr rfl)
   |ex c n=>cases m;exact q|rm d j=>cases m|rf i j=>cases m|bk j=>cases m|ct j=>cases m
  ·cases m
structure zQ(P:br)(w:cY)(K:aT)(mg:aJ->Option ak)(base:cF)(c m:aJ)(k:Nat)(sp:Sp):Prop where
 ex:∃C f fd ps,iy K aP c=some (some (.ref C))/\ER K C/\GK K C m f/\bZ P w K mg base (CW P w) k f fd ps sp/\Binds K fd ps []
def zQ.mono{c m:aJ}(h:zQ P w K y L c m j a)(d:j<=k):zQ P w K y L c m k a:=by
 obtain⟨C,f,p,b,o,n,i,g,e⟩:=h.ex;exact⟨C,f,p,b,o,n,i,g.mono d,e⟩
end
section
variable {X:Cx}
inductive EX (K:aT) (B:Bs) (f:ak) (d:Option ax) (H:Hp):Prop
 |mk a e c n:f=.ref a->d=e->XF K B.2 c n H a e->(∀i b,(i,b)∈B.3->b≠a)->B.4 c n->EX K B f d H
def QH(f:zS X B):qT (CW X.prog X.w) X (EX X.K B):=λb i H s e k I c=>by
 obtain⟨a,C,E,T,p,q,F,rfl,J,d,K,D,c,n,x,w,g,r,v⟩:=I.Ie c;cases x;cases w;obtain⟨G,o,t,A,z⟩:=g.cl;have m:=dW.get J.eR d.ea;have h:=dW.get J.eR A;rw[m]at h;cases h;have:C=G:=by have:=d.cls.symm.trans z;cases this;rfl
 subst this;exact f c n v b i F k a E J ⟨g,r,C,t,.inr ⟨T,p,q,d⟩⟩
noncomputable def kv(c m:aJ)(F:List D->Option (Xo D))(f:DF)(g:DL):DX:=λa=>(f a).bind λx=>match x with
 |.ins d b h=>if d=c/\m∉b then (g a).bind λe=>F (.ins d b h::e) else M
 |_=>M
def AH{m:aJ}{F:List D->Option (Xo D)}{f:St}(n:iy X.K aP c=Y (Y (.ref C)))(hp:B.3=[])(ht:∀f H Q,Ag X.K Z g f H Q->t f H Q)(h:tX X.K B Z (kv c m F A g) f H Q):AM C m (rH X.K F) [] (EX X.K B) (tP X.K Z A) t f H Q:=by
 obtain⟨G,r,d,S,e,q⟩:=h;have gh:=S.gh;have k:=S.iX;unfold kv at e;rw[aa]at e;obtain⟨x,I,e⟩:=e;split at e
 ·rename_i c' ks ds;split at e
  ·rename_i hc;obtain⟨rfl,hm⟩:=hc;rcases E:g r with _|xs
   ·rw[E]at e;cases e
   rw[E]at e;refine⟨G,r,_,gh,k,I,λv G1 H1 w N =>?_⟩;obtain⟨a,C',dx,vs,rfl,P,ha,l,rs⟩:=ni.mp N;rw[n]at P;cases P;refine⟨a,dx,_,rfl,w.gh _ _ ha,kP (K:=X.K) (G:=G1) hm,ht _ _ _ ⟨G1,r,xs,w.gh,k.ext w,E,λus G2 H2 K r2 =>?_⟩⟩;show rH X.K F (.ref a::(us++[])) H2 Q (EX X.K B);rw[bV];refine⟨G2,_,d,K.gh,.cons (cJ.mono K.gg _ N) r2,e,?_⟩;have p:=w.trans K;cases d with
   |ok d'=>exact λv G3 H3 E3 r3=>q v G3 H3 (p.trans E3) r3
   |er c2 n2=>
    intro x J H' s;have j:∀b o,B.2 b=Y o->H2 b=Y o:=λb o z=>p.hh _ _ (S.h0 b o z)
    refine⟨x,J,c2,n2,rfl,rfl,⟨s.cl,s.has,s.dx,λb o z=>s.same b o (j b o z),?_⟩,λi b R=>(by rw[hp]at R;cases R),q⟩;rcases z:B.2 x with _|o
    ·rfl
    have:=j x o z;rw[s.fr]at this;cases this
  ·cases e
 ·cases e
def MM{c m:aJ}{F:List D->Option (Xo D)}{p:DF}{g:DL}(h:zQ X.prog X.w X.K X.mg X.base c m k (rH X.K F))(s:eH k X.A)(d:zS X B)(t:B.3=[])(v:PE X o (tP X.K Z p))(E:PA X (e::O) (Ag X.K Z g))(a:autoParam (ao (e::O) X.env=(Z_,eval e X.env)::ao O X.env) Ų)(b:autoParam ((cn u (ao O X.env)).any (·.1)=false) Ų) (r:autoParam (eval (.Call (.Attribute o m U) (e::O) [] u) X.env=(do
   let i <- eval o X.env
   lN U.atName
   let (f,first) <- jr [i] (jm i m pl)
   nJ u f first (cn u (ao (e::O) X.env)) (gG u (dh [] X.env)))) Ų):PE X (.Call (.Attribute o m U) (e::O) [] u) (tX X.K B Z (kv c m F p g)):=by
 obtain⟨C,f,K,J,n,x,w,G,A⟩:=h.ex;exact(x6 (pl:=pl) v x w G s A .nil (QH d) E a b r).imp λI H Q q=>AH n t (λ_ _ _ z=>z) q
end
section
variable {X:Cx}{f:ax}{m:aJ}{s:Pos}
def Jq{b:N0}(e:h.get? a=Y o)(c:o.cls=v):PySem.W.Looks b h (z7 (.ref a)) v:=by
 intro A Q E s k q;unfold z7;exact ah (uM (k _ _ e) (aE (c ▸ q)))
abbrev TX:=St->Hp->VK->XK->Prop
def PX(X:Cx)(e:Expr)(t:TX):Prop:=∀B s y H Q E P R,Inv X B y H s->t y H Q E->(∀u b,EP X B y Q u b->P u b)->(∀a C d T o n h b,Inv X B y h b->XT h a C d T o n->E (.ref a) d h->R (.ref a) b)->bq (aV X.prog X.w) X.A (eval e X.env) P R s
def QE{s:av}{P R:ak->av->Prop}(F:bZ X.prog X.w X.K X.mg X.base (CW X.prog X.w) k f O J w)(m:eH k X.A)(v:Binds X.K O J [])(I:Inv X B y H s)(r:cg j c)(q:w j H Q E)(p:∀u b,EP X B y Q u b->P u b)(g:∀a C d T o n h b,Inv X B y h b->XT h a C d T o n->E (.ref a) d h->R (.ref a) b):bq (aV X.prog X.w) X.A (GP (.ref f) c) P R s:=by
 have t:(c++[]).length=J.length:=by rw[bV,<- r.length];exact F.len _ _ _ _ q
 have i:=v s c I.pM t;rw[bV]at i;refine qX (pJ (F.run X.A X.stack s H ⟨c,[]⟩ c j _ _ m I.Pm i r q) λr l e =>?_);cases r with
 |ok z=>
  cases z with
  |ret u=>exact p _ _ (I.after e)|next=>exact cD e|brk=>exact cD e|cont=>exact cD e
 |error D=>dsimp only [CR]at e;obtain⟨a,C,d,T,o,n,h,rfl,A,x,q2⟩:=I.Ie e;exact g a C d T o n h l A x q2
def WX(i:ax)(m:aJ)(w:Sp)(E:TE)(t:TA):TX:=λk H Q R=>E k H λx K=>∃u r F,x=.ref u/\K u=Y (.ins i r F)/\F.lookup m=M/\t k K λL S=>w (.ref u::L) S Q R
def Hm(K:ER X.K i)(a:GK X.K i m f)(F:bZ X.prog X.w X.K X.mg X.base (CW X.prog X.w) k f O J w)(U:eH k X.A)(l:Binds X.K O J [])(ho:PE X.Ht o E)(ha:PA X.Ht (e::g) t)(he:autoParam (ao (e::g) X.env=(Z_,eval e X.env)::ao g X.env) Ų)(j:autoParam ((cn d (ao g X.env)).any (·.1)=false) Ų) (T:autoParam (eval (.Call (.Attribute o m A) (e::g) [] d) X.env=(do
   let C <- eval o X.env
   lN A.atName
   let (f,first) <- jr [C] (jm C m S)
   nJ d f first (cn d (ao (e::g) X.env)) (gG d (dh [] X.env)))) Ų):PX X (.Call (.Attribute o m A) (e::g) [] d) (WX i m w E t):=by
 intro B s y H Q R P R' I p h1 h2;refine PySem.W.methodCall_KW (pl:=S) (dJ (ho B s y H _ (I.vT _) p) ?_ λ_ _ z=>cD z) T;rintro u v ⟨x,G,n,N,h,dx0,fs,ex,ea,b,q0⟩;subst ex;obtain rfl:u=aD h:=N;have D:Inv X B y G v:=n.qx;refine qN D ea K a b ?_;refine PySem.W.callWith_K (first:=[.ref h]) (h₀:=X.base) I.ok.mod.Sl a.kp (dJ (ha d B v y G _ (D.vT _) q0) ?_ λ_ _ z=>cD z) he j;rintro V s1 ⟨L,H1,c,r,q⟩;exact⟨c.pM,QE F U l c.qx (show cg (.ref h::L) (.ref h::V) from .cons rfl r) q h1 h2⟩
def Li(K:ER X.K i)(a:GK X.K i m f)(F:bZ X.prog X.w X.K X.mg X.base (CW X.prog X.w) k f O J w)(t:eH k X.A)(e:Binds X.K O J [])(v:PE X.Ht o E) (r:autoParam (eval (.Call (.Attribute o m A) [] [] d) X.env=(do
   let j <- eval o X.env
   lN A.atName
   let (f,first) <- jr [j] (jm j m q)
   nJ d f first (cn d (ao [] X.env)) (gG d (dh [] X.env)))) Ų):PX X (.Call (.Attribute o m A) [] [] d) (WX i m w E Ah):=by
 intro B s y H Q R P T I p D C;refine PySem.W.methodCall_KW (pl:=q) (dJ (v B s y H _ (I.vT _) p) ?_ λ_ _ z=>cD z) r;rintro u l ⟨x,N,g,n,c,U,S,G,L,b,q0⟩;subst G;obtain rfl:u=aD c:=n;have h:Inv X B y N l:=g.qx;refine qN h L K a b ?_;exact PySem.W.callWith_K0 (first:=[.ref c]) h.pM a.kp (QE F t e h (show cg [.ref c] [.ref c] from .cons rfl .nil) q0 D C)
def Rz(C:ax)(j:Nat)(p:TX)(G:TS):TS:=λD k H=>p k H (λv f=>D.nx k f) λc q f=>∃a I,c=.ref a/\q=I/\(∃e,f a=Y (dW a e)/\e.cls=.ref C) /\
 ∀p e z,f a=Y (dW a p)->(∀b o,b≠a->f b=Y o->z b=Y o)->z a=Y (dW a e)->wR e C I->G { nx:=λn P=>D.nx (n.set j M) P,rt:=λ_ _=>False } (k.set j (Y (.ref a))) z
def FI(hx:PX X e p)(S:X.N.Nodup)(R:X.N[j]?=Y n)(E:X.env.scope.names.lookup n=Y .local)(V:PySem.W.exmOne X.K (.ref C) (.ref N)=Y Z')(J:Gl X y)(F:X.mg y=Y (.ref N))(A:X.stack=X.env::X.outer)(hf:X.env.frame=Y L)(x:∀a,oV (X.mark (.ref a)) (U::B) G)(K:autoParam ((y==("__debug__" : aJ))=false) Ű)(w:autoParam (cj e M Q.line X.env=dP false) Ų):
  PS X (.Try [.Expr e Q] (.ExceptHandler (Y (.Name y T)) (Y n) (U::B) c::l) [] [] h) (Rz C j p G):=by
 intro g s σ H D I p;refine wpAny_Try_except (Nz (wpAny_Expr_any ?_ I.quiet w));refine hx g s σ H _ _ _ _ I p ?_ ?_
 ·rintro u b ⟨v,H2,o,rv,q2⟩;exact kR (kR ⟨_,H2,o,q2⟩)
 ·rintro a C' dx P oe oT H2 s' o q ⟨a2,dx',ec,ed,⟨oe2,k,m⟩,q2⟩;cases ec;cases ed;have qa:=dW.get o.eR q.ea;have O:=dW.get o.eR k;rw[qa]at O;cases O;have:C'=C:=by have:=q.cls.symm.trans m;cases this;rfl
  subst this;refine HC A hf o q λs3 H3 T3 t oT3 r d i =>?_
  refine wpAny_handleBy_cons ?_ (λz=>nomatch z);have IM:=r.mark (.ref a);refine codeAny_handlers_test (qK IM J F ?_ K);refine(PySem.W.exm_one r.pM (Jq (dW.get r.eR d.ea) d.cls) V).here ?_;show nU _ _ _ _ _;refine codeAny_handlers_suite_as (JG r d λs4 I4 =>?_);refine uV I4 S R (.inl E) (show RelV (.ref a) _ from rfl) (λs5 I5 =>?_) (.inr E);refine dJ (x a g s5 _ _ _ (I5.mark (.ref a)) (q2 oe t H3 q.ea i d.ea d.Vc)) (λfl s6 f =>?_) λ_ _ z=>cD z
  cases fl with
  |next=>obtain⟨σ',H6,I6,q6⟩:=f;exact Pk (I6.unmark I.ok) S R E λs7 I7=>⟨_,_,I7,q6⟩
  |brk=>obtain⟨_,_,_,z⟩:=f;exact cD z
  |cont=>obtain⟨_,_,_,z⟩:=f;exact cD z
  |ret u=>obtain⟨_,_,_,_,_,z⟩:=f;exact cD z
end
section
variable {X:Cx}{f:List Nat}{m:Pos}
end
section
variable {X:Cx}{m:Pos}
def vu:oV X a (iC X.K B l Z own1 λ_=>M):=Ja.imp <|by rintro D b H ⟨_,_,_,_,e,_⟩;cases e
end
open PySem.W in
noncomputable def wB(K:aT)(C:ax)(d:Option ak):Bool:=match K.lookup C with
 |some ⟨t,_,.cls a,c⟩=>t == .type "type" && a.mro.head? == Y (.ref C)&&c.size==6&&c[4]? == Y (Y (.builtin "ValueError.__new__")) && !a.hasDel&&a.hasDict&&tailIn K [.type "ValueError",.type "Exception",.type "BaseException",.type "object"] a.mro.tail&&a.mro.tail.contains (.type "BaseException")&&nsOkIn K a.ns&&iy K a.ns "__init__" == Y d
 |_=>Z_
def VC{K:aT}{v:Option ak}(e:PySem.W.nsOkIn K N=Z')(q:iy K N x=Y v):∃b:aJ->Option ak,(∀h:cF,K.In h->h.Ns N b)/\b x=v:=by
 unfold PySem.W.nsOkIn at e;split at e
 ·rename_i c d g n l f;refine⟨T8 g,λh X=>⟨_,g,n,X _ _ f,rfl,λi a =>?_,λ_=>rfl⟩,?_⟩
  ·have:=Array.all_eq_true'.mp e i a;split at this
   ·rename_i s t j;exact⟨s,t,j⟩
   ·cases this
  ·unfold iy at q;rw[f]at q;simp only at q;split at q
   ·rename_i i k;cases q;unfold T8 findBy;rw[<- mC];rw[k];rfl
   ·rename_i k;split at q<;>cases q
    unfold T8 findBy;rw[<- mC];rw[k];rfl
 ·cases e
def Qs{K:aT}(q:wB K C i=Z'):XM K C i:=by
 unfold wB at q;split at q
 ·rename_i t J L k E;simp only[aZ,beq_iff_eq,Bool.not_eq_true']at q;obtain⟨⟨⟨⟨⟨⟨⟨⟨⟨rfl,h⟩,l⟩,f⟩,a⟩,b⟩,D⟩,g⟩,c⟩,d⟩:=q;obtain⟨y,u,z,x,w,P,v,e,O,j,I⟩:=L;obtain⟨k⟩:=k;rcases k with _|⟨s,_|⟨r,_|⟨p,_|⟨o,_|⟨n,_|⟨m,_|_⟩⟩⟩⟩⟩⟩<;>try cases l
  cases f;dsimp only at h a c d b D g;rcases z with _|⟨_,N⟩<;>cases h
  subst a b;obtain⟨A,G,F⟩:=VC c d;exact⟨y,w,x,u,N,_,v,e,O,j,J,s,r,p,o,m,_,_,_,_,_,_,_,A,PySem.F.excBase_ValueError,ſ,PySem.F.excBase_ValueError,g,E,λh X=>⟨PySem.W.tail_of_in X D,G h X⟩,F⟩
 ·cases q
def Q7{K:aT}(q:wB K C (Y (.ref i))=Z')(H:PySem.W.typeIn K (.ref i)=Y (.type "function"))(B:kT K (.ref C)=Z'):UE K C i:=⟨Qs q,H,B⟩
def e_.get{P:br}(x:e_ P w H h a o):∃u,h.get? a=Y u:=by
 cases o with
 |lst c=>obtain⟨_,_,_,_,e⟩:=x;exact⟨_,e⟩
 |tup c=>obtain⟨_,_,_,o,e,_⟩:=x;exact⟨_,e⟩
 |dK b=>obtain⟨_,_,_,_,o,_,_,e,_⟩:=x;exact⟨_,e⟩
 |dT b=>obtain⟨_,_,_,_,o,_,_,e,_⟩:=x;exact⟨_,e⟩
 |set S n=>obtain⟨o,_,_,_,e,_⟩:=x;exact⟨_,e⟩
 |ins C l d=>obtain⟨_,_,_,e,_⟩:=x;exact⟨_,e⟩
 |Z y=>exact x|xd d=>obtain⟨_,⟨_,_,_,e,_⟩,_⟩:=x;exact⟨_,e⟩
 |W5 lo k=>obtain⟨_,_,_,e⟩:=x;exact⟨_,e⟩
 |Gf j u=>obtain⟨e,_⟩:=x;exact⟨_,e⟩
 |Qx i=>exact⟨_,x⟩|met f y=>exact⟨_,x⟩|ext g=>exact x.2.1
section
variable {X:Cx}
def Inv.VN{a:ax}{o:HO}{t:Nat}{h:cF}{s:av}(I:Inv X B y H s)(k:∀b u,s.heap.get? b=Y u->h.get? b=Y u)(e:s.heap.get? a=M)(d:e_ X.prog X.w (cx H a o) h a o):H a=M/\Inv X B y (cx H a o) { s with heap:=h,toks:=t }:=by
 have n:H a=none:=by
  rcases q:H a with _|u
  ·rfl
  ·obtain⟨v,r⟩:=(I.eR a u q).get;rw[e]at r;cases r
 refine⟨n,I.un ⟨λb u q _ _ _=>k b u q,λb u q _ _ _=>⟨u.slots,k b u q⟩,λb u q m _ =>?_,λb u q _=>⟨u,k b u q⟩,λb f q=>by rw[aM (bf q n)];exact q,λb u f q=>by rw[aM (bf q n)];exact q,λb g q=>⟨#[],by rw[aM (bf q n),q];simp⟩⟩ λb u q =>?_⟩
 ·rw[aM λz=>by rw[z,e]at q;cases q];exact m
 ·by_cases z:b=a
  ·subst z;rw[aX]at q;cases q;exact d
  ·rw[aM z]at q;exact(I.eR b u q).vV (λc v _ q=>k c v q) (λc q=>by rw[aM (bf q n)];exact q) λc f q=>by rw[aM (bf q n)];exact q
structure GI(K:aT)(C:ax):Prop where
 cl:XM K C none
 kp:kT K (.ref C)=true
def N7{K:aT}(q:wB K C M=Z')(B:kT K (.ref C)=Z'):GI K C:=⟨Qs q,B⟩
def G8(C:ax):TE:=λ_ H Q=>∀a t,H a=M->Q (.ref a) (cx H a (dW a (vR C t)))
def Jf(V:GI X.K C)(w:Gl X x)(v:X.mg x=Y (.ref C))(A:autoParam ((x==("__debug__" : aJ))=false) Ű):PE X (.Call (.Name x p) [] [] u) (G8 C):=by
 intro B s t H Q I h;obtain⟨U,q,N,bs,bm,L,R,k,ab,G,dd,k0,k1,k2,k3,k5,Bb,Bn,b,l,a,o,K,mN,O,f,P,y,lk,z,c⟩:=V.cl;refine eZ (qK I w v ?_ A);refine PySem.W.callWith_K0 I.pM V.kp ?_;obtain⟨T,r⟩:=z _ I.pM;have D:=Iu I.pM lk;obtain⟨hh,g,d,j,S⟩:=s;refine wpAny_call_exc_subU O f P T D r c (λE e m =>?_) (cy _);obtain⟨i,F,_,_⟩:=m.there;obtain⟨n,J⟩:=I.VN (a:=e) (o:=dW e (vR C i)) (h:=E) (t:=j) m.keeps m.new (dW.ok F);exact⟨.ref e,_,J,rfl,h e i n⟩
def Jb(V:GI X.K C)(L:X.calm=Z')(K:PE X e (G8 C)):PS X (.Raise (Y e) M u) (λ_ y H=>∀a t,H a=M->∀B s,Inv X B y (cx H a (dW a (vR C t))) s->X.xe (.ref a) s):=by
 intro B s y H D I h;obtain⟨p,q,N,R,bm,T,l,d,U,g,Q,F,E,A,z,x,Bb,Bn,b,r,c,G,S,mN,Fn,O,FB,f,lk,hT,J⟩:=V.cl;rw[arm_exec_Raise];refine ah (nI ?_);refine uT (C:=C) (nm:=p) (q:=q) (N:=N) (bs:=R) (hdct:=Z') (sn:=l) (sub:=d) (ab:=U) (col:=g) (dd:=Q) (k0:=F) (k1:=E) (k2:=A) (k3:=z) (k5:=x) (newId:=b) f (I.ok.hd L) ?_;refine ah (fw (K B s y H (λv j=>∃a t,v=.ref a/\j a=Y (dW a (vR C t))/\∀B s,Inv X B y j s->X.xe (.ref a) s) I λa t n=>⟨a,t,rfl,aX,h a t n⟩) ?_);rintro k m ⟨v,j,i,o,a,t,rfl,P,w⟩;obtain rfl:k=aD a:=o;refine ah (nI (aE ?_));exact⟨a,_,_,rfl,Iu i.pM lk,dW.get i.eR P,rfl,rfl,rfl,w _ m i⟩
structure TM(K:aT)(mg:aJ->Option ak)(c:aJ):Prop where
 ex:∃C,iy K aP c=some (some (.ref C))/\mg c=some (.ref C)/\GI K C
noncomputable def BR(c:aJ):DG:=λ_=>Y (.ex c 0)
def Bo(f:TM X.K X.mg c)(x:zS X B)(v:Gl X c)(q:B.3=[])(n:autoParam (c ≠ "NoSign") Ű)(w:autoParam (X.calm=true) Ų)(A:autoParam ((c==("__debug__" : aJ))=false) Ű):PS X (.Raise (Y (.Call (.Name c p) [] [] u)) M j) (iC X.K B l Z T (BR c)):=by
 obtain⟨C,K,r,E⟩:=f.ex;refine(Jb E w (Jf E v r A)).imp ?_;rintro D d H ⟨G,y,o,S,g,k⟩;cases g;intro a t N m s I;refine x c 0 k m d _ s a M I ⟨⟨⟨C,_,K,aX,rfl⟩,λz=>absurd z n,gB,λb o e =>?_,S.h0.free N⟩,λi b h=>(by rw[q]at h;cases h),C,K,.inl ⟨t,aX⟩⟩;have J:=S.h0 b o e;rw[aM (bf J N)];exact J
end
section
variable {X:Cx}
noncomputable def O1:D->D->Option D
 |.int i,.int j=>if (0<=j/\j<=1000)/\i.natAbs<2 ^ 64 then Y (.int (i ^ j.toNat)) else M
 |_,_=>M
def Yr:Az X (dN .Pow) O1:=A5 RX (g':=λi j =>.int (i ^ j.toNat)) (λx y d h=>by
 unfold O1 at h;split at h<;>try (cases h;done)
 split at h<;>cases h;rename_i q;exact⟨_,_,rfl,rfl,⟨q.1.1,ž,q.2⟩,rfl⟩) λi j G=>bU.mpr rfl
noncomputable def Hd(i:Nat)(f:DX):DG:=λa=>(f a).map λr=>match r with|.ok d =>.nx (a.set i (Y d))|.er c n =>.ex c n
def Po{i:Nat}{f:DX}(n:X.N.Nodup)(j:X.N[i]?=Y x)(c:Loc X.env.scope x)(m:PE X e (tX X.K B Z f))(h:autoParam (i∉Z) Ű)(g:autoParam (cj e (Y (.Name x a)) J.line X.env=dP false) Ų)(l:autoParam (X.fn x=Z'\/X.env.scope.names.lookup x=Y .local) ŭ):
  PS X (.Assign [.Name x a] e J) (iC X.K B I Z Z (Hd i f)):=(iF n j c m g l).imp <|by
 rintro D C H ⟨G,A,o,S,b,k⟩;unfold Hd at b;obtain⟨r,p,b⟩:=au.1 b;refine⟨G,A,r,S,p,?_⟩;cases r with
 |er c n=>cases b;exact k|ok d=>cases b;exact λv s q E r=>k _ s q ((S.ext E).v8 h r)
def JN{m:aJ}{F:List D->Option (Xo D)}(h:zQ X.prog X.w X.K X.mg X.base c m k (rH X.K F))(s:eH k X.A)(d:zS X B)(t:B.3=[])(v:PE X o (tP X.K Z p)) (r:autoParam (eval (.Call (.Attribute o m U) [] [] u) X.env=(do
   let i <- eval o X.env
   lN U.atName
   let (f,first) <- jr [i] (jm i m j)
   nJ u f first (cn u (ao [] X.env)) (gG u (dh [] X.env)))) Ų):PE X (.Call (.Attribute o m U) [] [] u) (tX X.K B Z (kv c m F p aN)):=by
 obtain⟨C,f,K,J,n,x,w,G,A⟩:=h.ex;refine(vb (pl:=j) v x w G s A .nil (QH d) r).imp λI H Q q=>AH n t ?_ q
 rintro f H Q ⟨G,a,c,g,e,b,k⟩;cases b;exact k _ G H (.refl g) .nil
end
section
variable {X:Cx}
noncomputable def BS(i:Nat)(c:aJ)(s:Sk)(F:List D->Option (D×D))(f:DM):DG:=λa=>(f a).bind λp=>(F [.ins c [] [],p.1]).bind λr=>match r.1 with|.dg=>Y (.nx (p.2.set i (Y (.obj s r.2))))|_=>M
def MS{i:Nat}{fk:List (aJ×Sk)}{F:List D->Option (D×D)}{f:DM}(C:X.N.Nodup)(u:X.N[i]?=Y x)(p:Loc X.env.scope x)(h:uK X.prog X.w X.K X.mg X.base c k (spT X.K (.fs c fk) F))(hr:eH (k+1) X.A)(hg:Gl X c)(ha:PE X e (tM X.K B L f))(r:autoParam (i∈L) Ű)(d:autoParam (∀a,(i,a)∉B.3) ū)(t0:autoParam (A9 i∉L) Ű)(b:autoParam ((c==("__debug__" : aJ))=false) Ű)(R:autoParam (ao [e] X.env=(Z_,eval e X.env)::ao [] X.env) Ų)(A:autoParam ((cn J (ao [] X.env)).any (·.1)=false) Ų)(q:autoParam (cj (.Call (.Name c m) [e] [] J) (Y (.Name x y)) g.line X.env=dP false) Ų)(w:autoParam (X.fn x=Z'\/X.env.scope.names.lookup x=Y .local) ŭ):
  PS X (.Assign [.Name x y] (.Call (.Name c m) [e] [] J) g) (iC X.K B I L L (BS i c (.fs c fk) F f)):=by
 obtain⟨C',f',fd,ps,n,hm,hk,h1,a⟩:=h.ex;refine(iF C u p (B2 hk h1 hr hg hm a .nil mq (bT ha dn R) b R A) q w).imp ?_;rintro D P H ⟨G,l,o,S,h,k⟩;unfold BS at h;obtain⟨⟨U,l'⟩,ef,h⟩:=aa.1 h;obtain⟨⟨d',c'⟩,eF,h⟩:=aa.1 h;cases d'<;>simp only at h<;>try (cases h;done)
 cases h;refine⟨G,l,U,l',S,ef,λv N V Q sm O x s m j ne =>?_⟩;show spT X.K (.fs c fk) F [.ref x,v] _ _ E0;have K:N x=none:=Q.gh.free m;have s2:bC N (cx (cx V s (.Z x)) x (.ins C' s [])):=Q.gh.trans ((bC.alloc j).trans (.alloc (by rw[aM (bF ne)];exact m)));refine⟨N,.ins c [] [],[U],.dg,_,x,[x],[v],s2,rfl,.ins (ks:=[]) (vs:=[]) (S:=[]) n aX rfl .nil,Ž,(λb a=>by simp at a;subst a;exact K),.cons O .nil,eF,λv T' G2 H2 t nw nd T O=>⟨gv.mp O,?_⟩⟩;have S1:∀b o,V b=Y o->jf (cx (cx V s (.Z x)) x (.ins C' s [])) [x] b=Y o:=λb o e=>by have a:b≠x:=bf e m;rw[cQ (by simpa using a),aM a,aM (bf e j)];exact e
 refine k _ G2 H2 (Q.X7 r ⟨λb o e=>t.hh b o (S1 b o e),t.gg,t.gh,λb o e =>?_⟩ nw nd (λb a=>⟨(T b a).1,?_⟩) d (.inl t0))
 ·rcases t.fr b o e with z|z
  ·exact .inl z
  ·refine .inr ?_;rcases y:V b with _|u
   ·rfl
   rw[S1 b u y]at z;cases z
 ·rcases(T b a).2 with z|z
  ·simp at z;subst z;exact m
  ·rcases y:V b with _|u
   ·rfl
   have E:b≠x:=bf y m;rw[aM E,aM (bf y j),y]at z;cases z
end
section
variable {K:aT}{f:Hp}
end
noncomputable def xa:aJ:=af "open"
noncomputable def w_:aJ:=af "text"
noncomputable def si:aJ:=af "close"
def sOT:¬(xa=w_):=by decide +kernel
def sOC:¬(xa=si):=by decide +kernel
def sTC:¬(w_=si):=by decide +kernel
end L2
namespace K21
open PySem L2
local macro_rules | `(tactic|walk_at "s") => `(tactic|exact⟨rfl,rfl,rfl,by decide +kernel,rfl,by decide +kernel,by decide +kernel⟩)
noncomputable abbrev KL:List (aJ×aJ):=[("Coming", "able"),("Coming", "facts"),("Coming", "full"),("Coming", "opened"),("Coming", "rests"),("Coming", "rows"),("Coming", "taken"),("Facts", "asks"),("Facts", "bits"),("Facts", "by_name"),("Facts", "by_text"),("Facts", "inner"),("Facts", "leads"),("Facts", "question"),("Facts", "starred"),("Facts", "stars"),("Row", "atoms"),("Row", "fits"),("Row", "hoped"),("Row", "hoped_around"),("Row", "named"),("Row", "number"),("Row", "reached"),("Row", "reached_around"),("Sift", "coming"),("Sift", "numbers")]
noncomputable abbrev ZL:List aJ:=["ValueError", "all", "any", "bool", "enumerate", "int", "isinstance", "len", "list", "range", "sorted", "zip"]
structure KS(K:aT)(mg:aJ->Option ak):Prop where
 c:∀p∈KL,sS K p.1 p.2
 z:∀x∈ZL,mg x=none
def KS.q{K:aT}{t:aJ->Option ak}{c f:aJ}(k:KS K t:=by assumption)(h:autoParam ((c,f)∈KL) Ű):sS K c f:=k.c _ h
def KS.y{K:aT}{t:aJ->Option ak}{x:aJ}(k:KS K t:=by assumption)(h:autoParam (x∈ZL) Ű):t x=none:=k.z _ h
noncomputable def JW(Z y G:List Nat):List Nat:=Z.filter λi=> !(y.contains i||G.contains i)
section
variable {X:Cx}{Z y G:List Nat}{e:Expr}
def Wc(b:PS X N (iC X.K B I Z Z g))(a:oV X O (iC X.K B I Z L h)):oV X (N::O) (iC X.K B I Z L (be g h)):=aH b a
def Zl{f:DF}(h:PE X e (tP X.K (JW Z y G) f))(a:autoParam (mr Z (JW Z y G) y G=true) Ű):PE X e (tP X.K Z (lI y G f)):=M5 _ y G h a
def Zf{f:DT}(h:PT X e (rG X.K (JW Z y G) f))(a:autoParam (mr Z (JW Z y G) y G=true) Ű):PT X e (rG X.K Z (xS y G f)):=QX _ y G h a
def Zk{f:DL}(h:PE X e (tF X.K (JW Z y G) f))(a:autoParam (mr Z (JW Z y G) y G=true) Ű):PE X e (tF X.K Z (Uz y G f)):=Wj _ y G h a
end
def asm{p:Prop}(h:p:=by assumption):p:=h
local macro_rules | `(tactic|walk_at "o") => do
 let o ← `(_)
 let f : String → Lean.Term → Lean.MacroM Lean.Term := fun s x=>do
  let a ← ((s.splitOn ":").getLastD "").toList.toArray.mapM fun c=>match c with
   | '?'=>`(?_)
   | 'a'=>return Lean.mkIdent `asm
   | 'r'=>return Lean.mkIdent `rfl
   | 'i'=>`(.inl rfl)
   | 'q'=>return Lean.mkIdent `KS.q
   | 'y'=>return Lean.mkIdent `KS.y
   | 'n'=>`(uz _)
   | 'p'=>`(pv _)
   | 'v'=>return Lean.mkIdent `kU
   | 'f'=>`(fun _ _=>?_)
   | 'x'=>return x
   | _=>return o
  `($(Lean.mkIdent ((s.splitOn ":").headD "").toName) $a*)
 let t ← ("PE:__x tP:__x lI:___|Zl:?/PE:__x tF:__x Uz:___|Zk:?/PT:__x rG:__x xS:___|Zf:?/oV:___|ny: cT:? Wc:??/PS:___|sL:ari? t7:??? oH:? yi:? Px:??q Xn:ari? Zi:?? Zg:??q MX:? Xp:ari? HX:? Xr:? Xq:? HW:ari? Tc:???q Xt:ari??q MU:??q ds_setT:ari? Zh:?ari? Xs:??q Wd: Cy:vr?ff/PE:__x tQ:___|vQ:_ dvo:p dq:?/PE:__x tP:___|vP:_ CB: Tj: Xz:?q aa3:?? M6:??? Gv:? df:? PL:aar? de_callT0:aar?? Wp: M7:ry? nR:aa? Wm:aa?? Gw:???n CA: Zp:? Zo:? Xy:?q Tr:?? aa2:?? Tn:? To:? aa4:??? Zm:???/PE:__x tF:___|Tp:? Wo:aar? Wl:ry? Xx:ry? Zn:??? Wk:ry?/PE:__x tM:____|MY:aa?? HY:? Td:? UB:aa? aa0:??? Xu:aar?? UA:aaq??/PA:__x Ag:___|jj:?? sN:/PA:__x Rm:____|zE:?? Pz:/PT:___|Tb:???n Tb:???r Ta:? MN:? PW.pt:?/PW:___|Xm:? Ze:?? Zd:? aaY:??/PI:____|ph:? JR:ry? Xv:ry? UC:ry??/PE:__x Oe:____|XB:aar? Zq: Zr: Tt:?/J4:___|YE: aag: YD:/PO:___|We:? Wf:/PE:__x iB:_|pv:_/PG:__x G9:____|Xw:? Zj:?/XG:___|Vs:?? W6:/Az:___|Z8: VA: Yr: W9: Yu: R6: Yt: Ys: W8: QL: Z7: Z9: Yq: Yp: od_notB:|/Az:___|LX:a VB:a/PG:___|fR:ari Yk:r?".splitOn "/").toArray.mapM fun s=>do
  let p := s.splitOn "|"
  let h ← ((p.headD "").splitOn " ").foldrM f o
  let a ← ((p.getD 1 "").splitOn " ").toArray.mapM fun s=>do `(tacticSeq| refine $(← f s o))
  if p.length < 3 then `(tacticSeq| (with_reducible show $h); first $[| $a]*) else `(tacticSeq| with_reducible (show $h; first $[| $a]*))
 `(tactic| repeat' first $[| $t]*)
theorem ż{p:Prop}(h:p:=by walk_at "o"):p:=h
noncomputable def lK(i:Nat):pK:=PySem.Challenge.pw_earlysift_k08_what_a_sift_refuses.main.body.getD i (.Pass ⟨0,0,0,0⟩)
noncomputable abbrev sF:List (aJ×Sk):=[("by_name",.di),("by_text",.di),("leads",.li .lf)]
abbrev aB:Sk :=.fs "Facts" sF
noncomputable abbrev tm:List (aJ×Sk):=[("rows",.li (.fs "Row" []))]
abbrev aF:Sk :=.fs "Coming" tm
abbrev HJ:List (aJ×Sk):=[("coming",aF)]
abbrev dZ:Sk :=.fs "Sift" HJ
abbrev u8:=eK (.int 1)
abbrev Fa:=eV 0
abbrev NE:=e2 lZ (bD "Facts" "bits" Fa) u8
def kf:=
  (be (eE Z_ 0 "Facts" "bits" (λi j=>i+j) u8)
  (dM (mP (lI [0] [] (e2 qe u8 NE)))))
def eN:=mo 1 1 aB kf
abbrev Ê:=lK 9
abbrev lV:=cB Ê 1
def pU:bB ["self"] ["self"] (aA lV):=by walk_at "s"
abbrev t3:=eK (.int 0)
abbrev db:=eV 1
abbrev Db:=eV 2
abbrev bi:=e2 bX db u8
abbrev ci:=e2 bX db t3
abbrev on:=eK (.str (af "*"))
abbrev Go:=sJ (bD "Facts" "by_name" Fa) bi t3
abbrev py:=eK (.str (af "inner"))
abbrev IN:=qC 0 "Facts" "by_name" bi (mP (lI [0] [] (e2 C_ Go Db)))
def iH:=
  (be (mY 2 (bW "Facts" "new_bit" aB eN 0 kZ))
  (be (d7 (dA (e2 fc ci py))
  (eE Z_ 0 "Facts" "inner" cZ Db)
  cO)
  (be (d7 (dA (e2 fc bi on))
  (be (eE Z_ 0 "Facts" "starred" cZ Db)
   (eE Z_ 0 "Facts" "stars" (λi j=>i+j) u8))
  IN)
  (dM (mP Db)))))
def du:=mo 2 3 aB iH
abbrev jN:=cB Ê 3
def mU:bB ["self", "step", "bit"] ["self", "step"] (aA jN):=by walk_at "s"
abbrev xz:=jx (mP Fa) kZ
def mi:=
  (dM (vh (iL db) [M,Y 0] (gN 0) (bW "Facts" "enter_step" aB du 1 xz) 1 0 aB))
def jb:=mo 2 2 aB mi
abbrev la:=cB Ê 2
noncomputable abbrev ub:List aJ:=["self", "steps"]
def sf:bB ub ["self", "steps"] (aA la):=by walk_at "s"
abbrev Is:=dA (e2 (D5 Z') db (bD "Facts" "by_text" Fa))
def eU:=
  (be (d7 (xS [0] [] Is)
  (qC 0 "Facts" "by_text" db (bW "Facts" "new_bit" aB eN 0 kZ))
  cO)
  (dM (mP (lI [0] [] (e2 D6 (bD "Facts" "by_text" Fa) db)))))
def cM:=mo 2 2 aB eU
abbrev jM:=cB Ê 4
def mT:bB ["self", "text"] ["self", "text"] (aA jM):=by walk_at "s"
abbrev np:=eV 6
abbrev Ix:=eW (aC (e2 C_ (e2 bX (eV 5) t3) (eV 7)) (aC (e2 bX (eV 5) u8) aN))
def ip:=
  (Hg 0 "Facts" "leads" (eW (aC np (aC Ix aN))))
abbrev pc:=eV 4
abbrev bd:=eV 3
abbrev Æ:=aC bd aN
def nt:=
  (be (dF 4 (e2 d9 (eF (HL Db (pS u8) pN)) (eF (gE Æ))))
  (jw (Xa db Db pc) (SU 5 6 7)
  ip))
def nG:=mo 4 8 aB nt
abbrev pD:=cB Ê 6
def tW:bB ["self", "asks", "bits", "end", "follows", "ask", "bit", "follow"] ["self", "asks", "bits", "end"] (aA pD):=by walk_at "s"
def gJ:=
  (be (tY 1 cZ (e2 bX bd t3))
   (BV 2 (e2 bX bd u8)))
abbrev pu:=aC Db aN
abbrev sB:=iL Fa
abbrev Ñ:=gE aN
def mh:=
  (be (dF 1 t3)
  (be (kN 2 Ñ)
  (be (jw sB (gN 3)
  gJ)
  (dH (eW (aC db pu))))))
def jZ:=jD 1 4 mh
abbrev nX:=lK 10
def sd:bB ["asks", "need", "choices", "ask"] ["asks"] (aA nX):=by walk_at "s"
section
variable {P:br}{w:cY}{K:aT}{t:aJ->Option ak}{Q:cF}{f:ax}{J:eO}
def we(F:gY K "new_bit" "Facts.new_bit" lV f J)(e:KS K t):bZ P w K t Q gK 1 f J ["self"] (spT K aB eN):=
 F.D4 (Z:=[0]) (Ź:=[0]) (g:=kf) pU aB ſ ſ λc A b s H E g B a h=>
  have d:=pU.nd
  by walk_at "o"
def tL(F:gY K "enter_step" "Facts.enter_step" jN f J)(e:KS K t)(b:fh P w K t Q "Facts" "new_bit" 1 (spT K aB eN)):bZ P w K t Q gK 2 f J ["self", "step"] (spT K aB du):=
 F.D4 (Z:=[0]) (Ź:=[0]) (g:=iH) mU aB ſ ſ λg A c s H E d B a i=>
  have h:=mU.nd
  (aH ż (aH ż (aH (t7 ż ż (cT (Es (c:= "Facts") (zj d) (pv 0) ż (HY (M5 [] [0] [] (M6 QL (dq (CC (zj d) ż ż CB ⟨rfl,rfl,rfl,rfl⟩)) (vQ 2)))) e.q))) ż)))
def yV(F:gY K "enter" "Facts.enter" la f J)(b:fh P w K t Q "Facts" "enter_step" 2 (spT K aB du)):bZ P w K t Q gK 3 f J ["self", "steps"] (spT K aB jb):=
 F.D4 (Z:=[0]) (Ź:=[0]) (g:=mi) sf aB ſ ſ λd A outer s H E g B a c=>
  have e:=sf.nd
  (cT (yi (Gs (i0:=1) (j0:=0) (s:=aB) (N:=[("step" : aJ),("self" : aJ)]) (src:=[M,Y 0]) (jy (outer:=aA la) (oN:=ub) rfl (by decide +kernel) rfl rfl) rfl (ph (vP 1)) (gy 0) ſ (sy _ 0 1) (λC s H h=>⟨fR (i:=0) (show ([("step" : aJ),("self" : aJ)]:List aJ).Nodup by decide +kernel) rfl (ka rfl),h_,Wg λB a c=>ż⟩))))
def tK(F:gY K "enter_text" "Facts.enter_text" jM f J)(e:KS K t)(b:fh P w K t Q "Facts" "new_bit" 1 (spT K aB eN)):bZ P w K t Q gK 2 f J ["self", "text"] (spT K aB cM):=
 F.D4 (Z:=[0]) (Ź:=[0]) (g:=eU) mT aB ſ ſ λg A c s H E d B a i=>
  have h:=mT.nd
  (aH (t7 (QX [] [0] [] (JO (zj d) (vQ 1) ż)) (cT (Es (c:= "Facts") (zj d) (pv 0) (vP 1) ż e.q)) ny) (cT (yi (HY (M5 [] [0] [] (PK (zj d) ż (vQ 1)))))))
def Am(F:gY K "lead" "Facts.lead" pD f J)(d:KS K t):bZ P w K t Q gK 1 f J ["self", "asks", "bits", "end"] (spT K aB nG):=
 F.D4 (Z:=[0]) (Ź:=[0]) (g:=nt) tW aB ſ ſ λe A b s H E h B a c=>
  have g:=tW.nd
  (aH ż (cT (Cy kU rfl (PB rfl d.y (vP 1) (vP 2) (vP 4)) (λB c=>(M0 ż)) (λB c=>ż))))
def yS(F:gY K "joined_asks" "joined_asks" nX f J):bZ P w K t Q gK 1 f J ["asks"] (hR K jZ):=
 F.wk (Z:=[2]) (Ź:=[2]) (g:=mh) sd ſ λc A a s H E e B b=>
  have d:=sd.nd
  (aH ż (aH ż (aH (Cy kU rfl (ph (vP 0)) (λB b=>ż) (λB b=>(aH ż (cT (JQ (pv 2) ż))))) (uE (own1:=[]) 2 ż))))
end
abbrev Tl:=eF Ñ
abbrev No:=eK (.str (af "text"))
abbrev wp:=eK (.str (af "has"))
abbrev AT:=jx (mP bi) kZ
abbrev kw:=xD (jx (bW "Facts" "enter_text" aB cM 0 AT) (jx (mP Tl) kZ))
abbrev sK:=eK (.str (af "one"))
abbrev Ò:=eK (.str (af "any"))
def cz(c:List D->Option (D×D))(a:List D->Option (D×D)):DG:=
  (be (d7 (dA (e2 fc ci Ò))
  (dM (mP (eW (aC t3 (aC Tl aN)))))
  cO)
  (be (d7 (dA (e2 fc ci No))
  (dM kw)
  cO)
  (be (d7 (dA (e2 fc ci wp))
  (dM (xD (jx (bW "Facts" "enter_has" aB a 0 AT) (jx (mP Tl) kZ))))
  cO)
  (be (mY 2 (vh (iL bi) [M,Y 0] (gN 0) (bW "Facts" "asked" aB c 1 xz) 1 0 aB))
  (be (d7 (dA (e2 fc ci sK))
  (dM (mP (eW (aC t3 (aC (eF (gE pu)) aN)))))
  cO)
  (dM (mP (bg jZ pu))))))))
abbrev lb:=cB Ê 7
noncomputable abbrev uc:List aJ:=["self", "wish", "asks"]
def oj:bB uc ["self", "wish"] (aA lb):=by walk_at "s"
abbrev nb:=eK (.int 2)
abbrev wT:=jx (mP t3) kZ
abbrev Í:=e2 bX Fa nb
def gR(a:List D->Option (D×D))(c:List D->Option (D×D)):DG:=
  (be (mY 2 (bW "Facts" "enter" aB jb 0 (jx (mP db) kZ)))
  (be (eS (bW "Facts" "lead" aB nG 0 (jx (vh (iL db) [M,Y 0] (gN 0) (bW "Facts" "asked" aB a 1 (jx (mP Í) kZ)) 1 0 aB) (jx (mP Db) wT))))
  (dM (mP (e2 bX Db t3)))))
abbrev iD:=cB Ê 5
noncomputable abbrev pj:List aJ:=["self", "steps", "bits"]
def oi:bB pj ["self", "steps"] (aA iD):=by walk_at "s"
abbrev wf:=e2 bX Fa t3
abbrev gl:=e2 bX Fa u8
abbrev lm:=aC Í aN
def sC(c:List D->Option D)(a:List D->Option D):DG:=
  (u_ (oG sB [M] (gN 0) ic (eW (aC wf (aC gl (aC (bg a lm) aN))))))
abbrev sX:=lK 13
noncomputable abbrev EJ:List aJ:=["steps"]
def AV:bB EJ ["steps"] (aA sX):=by walk_at "s"
abbrev zn:=aC Fa aN
abbrev Ev:=iL gl
abbrev Ï:=eK (.str (af "both"))
def iY(c:List D->Option D)(a:List D->Option D):DG:=
  (be (d7 (dA (e2 fc wf wp))
  (dH (eW (aC wp (aC (bg c (aC gl aN)) aN))))
  cO)
  (be (d7 (dA (e2 (Ab Z_) wf (eW (aC Ï (aC sK aN)))))
  (dH (eW (aC wf (aC (eF (oG Ev [M] (gN 0) ic (bg a zn))) aN))))
  cO)
  (dH Fa)))
abbrev k_:=lK 14
noncomputable abbrev ua:List aJ:=["wish"]
def se:bB ua ["wish"] (aA k_):=by walk_at "s"
abbrev pi:=aC db aN
abbrev im:=dH (eK (.bl Z_))
abbrev wr:=e2 EZ (e2 eG db wf) wf
def yc(a:List D->Option D):DG:=
  (be (d7 (dA wr)
  im
  cO)
  (dH (bg (gw Z') (aC (eF (oG Ev [M,Y 1] (gN 0) ic (bg (gw Z_) (aC (eF (oG sB [M,Y 1] (gN 0) ic (bg a (aC Fa pi)))) aN)))) aN))))
abbrev uZ:=lK 11
noncomputable abbrev Iq:List aJ:=["ask", "atoms"]
def DE:bB Iq ["ask", "atoms"] (aA uZ):=by walk_at "s"
def qO(a:List D->Option D):DG:=
  (be (d7 (dA (e2 fc wf wp))
  (dH (bg (gw Z') (aC (eF (oG Ev [M] (gN 0) ic (bg a lm))) aN)))
  cO)
  (be (d7 (dA (e2 fc wf Ï))
  (dH (bg (gw Z') (aC (eF (oG Ev [M] (gN 0) ic (bg a zn))) aN)))
  cO)
  (be (d7 (dA (e2 fc wf sK))
  (dH (bg (gw Z_) (aC (eF (oG Ev [M] (gN 0) ic (bg a zn))) aN)))
  cO)
  (dH (eK (.bl Z'))))))
abbrev kM:=lK 12
noncomputable abbrev qV:List aJ:=["wish"]
def w6:bB qV ["wish"] (aA kM):=by walk_at "s"
mutual
noncomputable def cR:Nat->List D->Option (D×D)
 |0=>λ_=>M
 |n+1=>mo 2 3 aB (cz (cR n) (cL n))
noncomputable def cL:Nat->List D->Option (D×D)
 |0=>λ_=>M
 |n+1=>mo 2 3 aB (gR (cR n) (cL n))
end
mutual
noncomputable def ja:Nat->List D->Option D
 |0=>λ_=>M
 |n+1=>jD 1 1 (sC (ja n) (dR n))
noncomputable def dR:Nat->List D->Option D
 |0=>λ_=>M
 |n+1=>jD 1 1 (iY (ja n) (dR n))
end
noncomputable def jY:Nat->List D->Option D
 |0=>λ_=>M
 |n+1=>jD 2 2 (yc (jY n))
noncomputable def fy:Nat->List D->Option D
 |0=>λ_=>M
 |n+1=>jD 1 1 (qO (fy n))
section
variable {P:br}{w:cY}{K:aT}{b:aJ->Option ak}{h:cF}{f:ax}{j:eO}
def yW(F:gY K "asked" "Facts.asked" lb f j)(c:fh P w K b h "Facts" "enter_text" (n+3) (spT K aB cM))(d:fh P w K b h "Facts" "enter_has" (n+3) (spT K aB (cL n)))(g:fh P w K b h "Facts" "asked" (n+3) (spT K aB (cR n)))(e:lJ P w K b h "joined_asks" (n+3) (hR K jZ)):bZ P w K b h gK (n+3+1) f j ["self", "wish"] (spT K aB (cR (n+1))):=
 F.D4 (Z:=[0]) (Ź:=[0]) (g:=(cz (cR n) (cL n))) oj aB ſ ſ λk A outer s H E m B a i=>
  have l:=oj.nd
  (aH ż (aH ż (aH ż (aH (Gr (i:=2) (i0:=1) (j0:=0) (s:=aB) (N:=[("other" : aJ),("self" : aJ)]) (src:=[M,Y 0]) (jy (outer:=aA lb) (oN:=uc) rfl (by decide +kernel) rfl rfl) rfl oj.nd rfl rfl ż (gy 0) ſ (sy _ 0 1) (λC s H o=>⟨fR (i:=0) (show ([("other" : aJ),("self" : aJ)]:List aJ).Nodup by decide +kernel) rfl (ka rfl),h_,Wg λB a i=>ż⟩)) ż))))
def ux(F:gY K "enter_has" "Facts.enter_has" iD f j)(d:fh P w K b h "Facts" "enter" (n+3) (spT K aB jb))(c:fh P w K b h "Facts" "lead" (n+3) (spT K aB nG))(e:fh P w K b h "Facts" "asked" (n+3) (spT K aB (cR n))):bZ P w K b h gK (n+3+1) f j ["self", "steps"] (spT K aB (cL (n+1))):=
 F.D4 (Z:=[0]) (Ź:=[0]) (g:=(gR (cR n) (cL n))) oi aB ſ ſ λk A outer s H E g B a i=>
  have l:=oi.nd
  (aH ż (aH (MX (MY c g (pv 0) (zE (Gs (i0:=1) (j0:=0) (s:=aB) (N:=[("step" : aJ),("self" : aJ)]) (src:=[M,Y 0]) (jy (outer:=aA iD) (oN:=pj) rfl (by decide +kernel) rfl rfl) rfl (ph (vP 1)) (gy 0) ſ (sy _ 0 1) (λC s H m=>⟨fR (i:=0) (show ([("step" : aJ),("self" : aJ)]:List aJ).Nodup by decide +kernel) rfl (ka rfl),h_,Wg λB a i=>ż⟩)) ż))) ż))
def Jm(F:gY K "copied" "copied" sX f j)(a:lJ P w K b h "copied_wish" (n+0) (hR K (dR n))):bZ P w K b h gK (n+0+1) f j ["steps"] (hR K (ja (n+1))):=
 F.wk (Z:=[]) (Ź:=[]) (g:=(sC (ja n) (dR n))) AV ſ λc A outer s H E e B g=>
  have d:=AV.nd
  (cT (HX (t9 (Ź:=[]) (N:=[("step" : aJ)]) (src:=[M]) (jy (outer:=aA sX) (oN:=EJ) rfl (by decide +kernel) rfl rfl) rfl (ph (vP 0)) (gy 0) ſ (ik 0) (λC s H i=>⟨fR (i:=0) (show ([("step" : aJ)]:List aJ).Nodup by decide +kernel) rfl (.inl rfl),h_,ż⟩))))
def yU(F:gY K "copied_wish" "copied_wish" k_ f j)(c:lJ P w K b h "copied" (n+0) (hR K (ja n)))(a:lJ P w K b h "copied_wish" (n+0) (hR K (dR n))):bZ P w K b h gK (n+0+1) f j ["wish"] (hR K (dR (n+1))):=
 F.wk (Z:=[]) (Ź:=[]) (g:=(iY (ja n) (dR n))) se ſ λd A outer s H E g B i=>
  have e:=se.nd
  (aH ż (aH (t7 ż (cT (oH (Gv (jj ż (jj (df (t9 (Ź:=[]) (N:=[("other" : aJ)]) (src:=[M]) (jy (outer:=aA k_) (oN:=ua) rfl (by decide +kernel) rfl rfl) rfl ż (gy 0) ſ (ik 0) (λC s H k=>⟨fR (i:=0) (show ([("other" : aJ)]:List aJ).Nodup by decide +kernel) rfl (.inl rfl),h_,ż⟩))) sN))))) ny) ż))
def LR(F:gY K "meets" "meets" uZ f j)(c:KS K b)(a:lJ P w K b h "meets" (n+0) (hR K (jY n))):bZ P w K b h gK (n+0+1) f j ["ask", "atoms"] (hR K (jY (n+1))):=
 F.wk (Z:=[]) (Ź:=[]) (g:=(yc (jY n))) DE ſ λe A outer s H E i B k=>
  have g:=DE.nd
  (aH ż (cT (oH (Gx rfl rfl c.y (dq (df (t9 (Ź:=[]) (N:=[("choice" : aJ),("atoms" : aJ)]) (src:=[M,Y 1]) (jy (outer:=aA uZ) (oN:=Iq) rfl (by decide +kernel) rfl rfl) rfl ż (gy 0) ſ (ik 0) (λC s H d=>⟨fR (i:=0) (show ([("choice" : aJ),("atoms" : aJ)]:List aJ).Nodup by decide +kernel) rfl (by first|exact ka rfl|exact rQ rfl),h_,(M8 rfl rfl c.y (dq (df (t9 (Ź:=[]) (N:=[("other" : aJ),("atoms" : aJ)]) (src:=[M,Y 1]) (P7 rfl (by decide +kernel)) rfl (ph (vP 0)) (gy 0) ſ (ik 0) (λC s H d=>⟨fR (i:=0) (show ([("other" : aJ),("atoms" : aJ)]:List aJ).Nodup by decide +kernel) rfl (.inl rfl),h_,ż⟩)))))⟩))))))))
def D2(F:gY K "can_hold" "can_hold" kM f j)(c:KS K b)(a:lJ P w K b h "can_hold" (n+0) (hR K (fy n))):bZ P w K b h gK (n+0+1) f j ["wish"] (hR K (fy (n+1))):=
 F.wk (Z:=[]) (Ź:=[]) (g:=(qO (fy n))) w6 ſ λe A outer s H E i B k=>
  have g:=w6.nd
  (aH (t7 ż (cT (oH (Gx rfl rfl c.y (dq (df (t9 (Ź:=[]) (N:=[("step" : aJ)]) (src:=[M]) (jy (outer:=aA kM) (oN:=qV) rfl (by decide +kernel) rfl rfl) rfl ż (gy 0) ſ (ik 0) (λC s H d=>⟨fR (i:=0) (show ([("step" : aJ)]:List aJ).Nodup by decide +kernel) rfl (.inl rfl),h_,ż⟩))))))) ny) (aH (t7 ż (cT (oH (Gx rfl rfl c.y (dq (df (t9 (Ź:=[]) (N:=[("other" : aJ)]) (src:=[M]) (jy (outer:=aA kM) (oN:=qV) rfl (by decide +kernel) rfl rfl) rfl ż (gy 0) ſ (ik 0) (λC s H d=>⟨fR (i:=0) (show ([("other" : aJ)]:List aJ).Nodup by decide +kernel) rfl (.inl rfl),h_,ż⟩))))))) ny) (aH (t7 ż (cT (oH (M8 rfl rfl c.y (dq (df (t9 (Ź:=[]) (N:=[("other" : aJ)]) (src:=[M]) (jy (outer:=aA kM) (oN:=qV) rfl (by decide +kernel) rfl rfl) rfl ż (gy 0) ſ (ik 0) (λC s H d=>⟨fR (i:=0) (show ([("other" : aJ)]:List aJ).Nodup by decide +kernel) rfl (.inl rfl),h_,ż⟩))))))) ny) ż)))
end
def vC:=ja 12
def tD:=jY 12
def oI:=fy 12
def mj:=cR 12
abbrev Op:=t6 0 "Facts" "question"
def jG:=
  (be (gi Z_ 0 "Facts" "question" (bg vC pi))
  (be (gi Z_ 0 "Facts" "bits" t3)
  (be (sh 0 "Facts" "by_name" .di (eK (.iZ [] [])))
  (be (sh 0 "Facts" "by_text" .di (eK (.iZ [] [])))
  (be (gi Z_ 0 "Facts" "starred" t3)
  (be (gi Z_ 0 "Facts" "stars" t3)
  (be (gi Z_ 0 "Facts" "inner" t3)
  (be (sh 0 "Facts" "leads" (.li .lf) (eK (.lst [])))
  (be (eS (bW "Facts" "enter" aB jb 0 (jx (mP Op) kZ)))
  (BU Z_ 0 "Facts" "asks" (vh (iL Op) [M,Y 0] (gN 0) (bW "Facts" "asked" aB mj 1 (jx (mP Í) kZ)) 1 0 aB)))))))))))
def f9:=mo 2 2 aB jG
abbrev je:=cB Ê 0
noncomputable abbrev qq:List aJ:=["self", "question"]
def o_:bB qq ["self", "question"] (aA je):=by walk_at "s"
def jh:=
  (dH (e2 C_ (bD "Facts" "starred" Fa) (sJ (bD "Facts" "by_name" Fa) db t3)))
def eJ:=jD 2 2 jh
abbrev kA:=cB Ê 8
def og:bB ["self", "name"] ["self", "name"] (aA kA):=by walk_at "s"
def jg:=
  (dH (sJ (bD "Facts" "by_text" Fa) db t3))
def eI:=jD 2 2 jg
abbrev kz:=cB Ê 9
def n_:bB ["self", "text"] ["self", "text"] (aA kz):=by walk_at "s"
def fZ:=
  (d7 (kL (dQ (e2 eG db pc)) (dQ (bg tD (aC (eV 5) pu))))
   (tY 3 cZ pc)
   cO)
abbrev Ð:=Cr 4 5
def lA:=
  (be (dF 3 (e2 eG Db (bD "Facts" "inner" Fa)))
  (be (jw (iL (bD "Facts" "leads" Fa)) Ð
  fZ)
  (dH bd)))
def ir:=jD 3 6 lA
abbrev mI:=cB Ê 10
def rh:bB ["self", "named", "atoms", "up", "bit", "ask"] ["self", "named", "atoms"] (aA mI):=by walk_at "s"
def fE:=
  (be (dF 6 (e2 qe u8 pc))
   (d7 (kL (dQ (e2 eG db np)) (dQ (bg tD (aC (eV 5) pu))))
   (tY 3 cZ np)
   cO))
def kg:=
  (be (dF 3 t3)
  (be (jw (iE (bD "Facts" "asks" Fa)) Ð
  fE)
  (dH bd)))
def dS:=jD 3 7 kg
abbrev lW:=cB Ê 11
def pV:bB ["self", "named", "atoms", "fits", "place", "ask", "bit"] ["self", "named", "atoms"] (aA lW):=by walk_at "s"
abbrev ce:=eK (.str (af "open"))
def zm:=
  (be (d7 (dA (e2 fc wf ce))
  (dH (Za db (Pn (dA Db))))
  cO)
  (dH db))
def iO:=jD 3 3 zm
abbrev r_:=lK 16
def w8:bB ["sign", "within", "begun"] ["sign", "within", "begun"] (aA r_):=by walk_at "s"
def sD:=
  (be (lq 0 "Row" "number" db)
  (be (lq 0 "Row" "named" Db)
  (be (lq 0 "Row" "atoms" bd)
  (be (lq 0 "Row" "fits" t3)
  (be (lq 0 "Row" "reached" t3)
  (be (lq 0 "Row" "reached_around" t3)
  (be (lq 0 "Row" "hoped" t3)
  (lq 0 "Row" "hoped_around" t3))))))))
def jz:=runC 4 4 0 sD
abbrev mH:=cB (lK 18) 0
def rg:bB ["self", "number", "named", "atoms"] ["self", "number", "named", "atoms"] (aA mH):=by walk_at "s"
abbrev Ì:=e2 bX bd nb
def il:=
  (d7 (dQ (bg oI (aC Ì aN)))
   (tY 1 cZ (e2 qe u8 Db))
   cO)
def nr:=
  (be (dF 1 t3)
  (be (jw (iE Fa) (Cr 2 3)
  il)
  (dH db)))
def jJ:=jD 1 4 nr
abbrev pB:=lK 21
def tV:bB ["question", "able", "place", "step"] ["question"] (aA pB):=by walk_at "s"
section
variable {P:br}{w:cY}{K:aT}{h:aJ->Option ak}{t:cF}{f:ax}{j:eO}
def vc(F:gY K "__init__" "Facts.__init__" je f j)(e:KS K h)(d:lJ P w K h t "copied" 59 (hR K vC))(b:fh P w K h t "Facts" "enter" 59 (spT K aB jb))(c:fh P w K h t "Facts" "asked" 59 (spT K aB mj)):bZ P w K h t gK 60 f j ["self", "question"] (spT K aB f9):=
 F.D4 (Z:=[0]) (Ź:=[0]) (g:=jG) o_ aB ſ ſ λi A outer s H E l B a g=>
  have k:=o_.nd
  (aH ż (aH ż (aH ż (aH ż (aH ż (aH ż (aH ż (aH ż (aH ż (cT (MV (b:=Z_) (c:= "Facts") (pv 0) (Gs (i0:=1) (j0:=0) (s:=aB) (N:=[("step" : aJ),("self" : aJ)]) (src:=[M,Y 0]) (jy (outer:=aA je) (oN:=qq) rfl (by decide +kernel) rfl rfl) rfl ż (gy 0) ſ (sy _ 0 1) (λC s H m=>⟨fR (i:=0) (show ([("step" : aJ),("self" : aJ)]:List aJ).Nodup by decide +kernel) rfl (ka rfl),h_,Wg λB a g=>ż⟩)) e.q)))))))))))
def uw(F:gY K "steps_for" "Facts.steps_for" kA f j)(e:KS K h):bZ P w K h t gK 1 f j ["self", "name"] (hR K eJ):=
 F.wk (Z:=[]) (Ź:=[]) (g:=jh) og ſ λc A a s H E b B g=>
  have d:=og.nd
  (cT (oH (M6 QL ż (dq (CC (zj b) ż (vQ 1) CB ⟨rfl,rfl,rfl,rfl⟩)))))
def uv(F:gY K "text_fact" "Facts.text_fact" kz f j)(e:KS K h):bZ P w K h t gK 1 f j ["self", "text"] (hR K eI):=
 F.wk (Z:=[]) (Ź:=[]) (g:=jg) n_ ſ λc A a s H E b B g=>
  have d:=n_.nd
  (cT (oH (CC (zj b) ż (vQ 1) CB ⟨rfl,rfl,rfl,rfl⟩)))
def xy(F:gY K "lifted" "Facts.lifted" mI f j)(e:KS K h)(a:lJ P w K h t "meets" 59 (hR K tD)):bZ P w K h t gK 60 f j ["self", "named", "atoms"] (hR K ir):=
 F.wk (Z:=[]) (Ź:=[]) (g:=lA) rh ſ λc A b s H E g B i=>
  have d:=rh.nd
  by walk_at "o"
def wg(F:gY K "fitting" "Facts.fitting" lW f j)(e:KS K h)(a:lJ P w K h t "meets" 59 (hR K tD)):bZ P w K h t gK 60 f j ["self", "named", "atoms"] (hR K dS):=
 F.wk (Z:=[]) (Ź:=[]) (g:=kg) pV ſ λc A b s H E g B i=>
  have d:=pV.nd
  by walk_at "o"
def D3(F:gY K "can_come" "can_come" r_ f j):bZ P w K h t gK 1 f j ["sign", "within", "begun"] (hR K iO):=
 F.wk (Z:=[]) (Ź:=[]) (g:=zm) w8 ſ λb A a s H E d B e=>
  have c:=w8.nd
  by walk_at "o"
def xw(F:gY K "__init__" "Row.__init__" mH f j)(e:KS K h):bZ P w K h t gK 1 f j ["self", "number", "named", "atoms"] (Ru K 0 jz):=
 F.okC (Z:=[0]) (Ź:=[0]) (g:=sD) rg 0 ſ ſ λc A b s H E g B a i=>
  have d:=rg.nd
  by walk_at "o"
def Al(F:gY K "able_steps" "able_steps" pB f j)(e:KS K h)(a:lJ P w K h t "can_hold" 59 (hR K oI)):bZ P w K h t gK 60 f j ["question"] (hR K jJ):=
 F.wk (Z:=[]) (Ź:=[]) (g:=nr) tV ſ λc A b s H E g B i=>
  have d:=tV.nd
  by walk_at "o"
end
def Bj:=
  (be (dF 0 (HS "Row" jz (aC (e1 yY u8) (aC t3 (aC t3 aN)))))
  (be (lq 0 "Row" "reached" u8)
  (be (lq 0 "Row" "reached_around" u8)
  (be (lq 0 "Row" "hoped" u8)
  (be (lq 0 "Row" "hoped_around" u8)
  (He 0))))))
def wU:=Qc 0 1 Bj
abbrev uf:=lK 20
def uk:bB ["row"] [] (aA uf):=by walk_at "s"
abbrev Uf:=aC (bD "Coming" "rows" Fa) aN
abbrev ol:=e2 t2 (bD "Coming" "opened" Fa) t3
def iJ:=
  (dH (MK ol (e2 fc (bg jc Uf) u8)))
def iP:=jD 1 1 iJ
abbrev wP:=lK 19
abbrev jP:=cB wP 2
def mW:bB ["self"] ["self"] (aA jP):=by walk_at "s"
def qj:=
  (dH (e2 qe (e2 eG (e2 C_ db (e2 eG Db (bD "Facts" "inner" (bD "Coming" "facts" Fa)))) bd) u8))
def dD:=jD 4 4 qj
abbrev lg:=cB wP 4
def pa:bB ["self", "parent", "around", "fits"] ["self", "parent", "around", "fits"] (aA lg):=by walk_at "s"
abbrev Re:=eK (.int 3)
def iI:=
  (be (dF 3 (e2 bX (bD "Coming" "rows" Fa) (e1 yY u8)))
  (be (dF 4 (e2 eG (e2 R7 (e2 C_ (e2 bX db nb) (e2 bX db Re)) u8) (bD "Row" "fits" Db)))
  (be (dF 5 (e2 eG (e2 eG pc (e1 xB (bD "Facts" "inner" (bD "Coming" "facts" Fa)))) (bD "Row" "hoped" bd)))
  (be (dF 6 (e2 eG (e2 C_ (e2 eG pc (bD "Facts" "inner" (bD "Coming" "facts" Fa))) (e2 bX db Re)) (bD "Row" "hoped_around" bd)))
  (dH (eW (aC ci (aC (e2 lZ bi u8) (aC (eV 5) (aC np aN))))))))))
def gk:=jD 3 7 iI
abbrev jO:=cB wP 10
def mV:bB ["self", "rest", "row", "parent", "steps", "own", "around"] ["self", "rest", "row"] (aA jO):=by walk_at "s"
abbrev cr:=e2 eG (e2 eG (bD "Row" "hoped" Db) (e1 xB (bD "Row" "reached" Db))) (bD "Coming" "full" Fa)
def f7:=
  (d7 (dQ cr)
   (qD 1 (bD "Row" "number" Db))
   cO)
def lB:=
  (be (kN 1 (oG (iL (bD "Coming" "rests" Fa)) [M] (gN 0) ic wf))
  (be (jw (iL (bD "Coming" "rows" Fa)) (gN 2)
  f7)
  (u_ (me db))))
def eL:=jD 1 3 lB
abbrev kb:=cB wP 11
noncomputable abbrev sQ:List aJ:=["self", "numbers", "row"]
def mK:bB sQ ["self"] (aA kb):=by walk_at "s"
section
variable {P:br}{w:cY}{K:aT}{a:aJ->Option ak}{h:cF}{f:ax}{b:eO}
def FU(F:gY K "top_row" "top_row" uf f b)(j:KS K a)(c:uK P w K a h "Row" 1 (Ru K 0 jz)):bZ P w K a h gK 3 f b [] (Ve K wU):=
 F.Uu (Z:=[0]) (Ź:=[0]) (g:=Bj) uk ſ λg A d s H E e B k=>
  have i:=uk.nd
  (aH (HW (i:=0) uk.nd rfl (.inl rfl) (HZ c e rfl ż)) ż)
def tO(F:gY K "has_ended" "Coming.has_ended" jP f b)(g:KS K a):bZ P w K a h gK 1 f b ["self"] (hR K iP):=
 F.wk (Z:=[]) (Ź:=[]) (g:=iJ) mW ſ λd A c s H E i B j=>
  have e:=mW.nd
  by walk_at "o"
def vd(F:gY K "gone_on" "Coming.gone_on" lg f b)(g:KS K a):bZ P w K a h gK 1 f b ["self", "parent", "around", "fits"] (hR K dD):=
 F.wk (Z:=[]) (Ź:=[]) (g:=qj) pa ſ λd A c s H E i B j=>
  have e:=pa.nd
  by walk_at "o"
def tN(F:gY K "moved_out" "Coming.moved_out" jO f b)(g:KS K a):bZ P w K a h gK 1 f b ["self", "rest", "row"] (hR K gk):=
 F.wk (Z:=[]) (Ź:=[]) (g:=iI) mV ſ λd A c s H E i B j=>
  have e:=mV.nd
  by walk_at "o"
def xA(F:gY K "waits" "Coming.waits" kb f b)(e:KS K a):bZ P w K a h gK 1 f b ["self"] (hR K eL):=
 F.wk (Z:=[1]) (Ź:=[1]) (g:=lB) mK ſ λc A outer s H E g B i=>
  have d:=mK.nd
  (aH (Bp (i:=1) (Ź:=[]) (N:=[("rest" : aJ)]) (src:=[M]) (jy (outer:=aA kb) (oN:=sQ) rfl (by decide +kernel) rfl rfl) rfl mK.nd rfl rfl ż (gy 0) ſ (ik 0) (λC s H j=>⟨fR (i:=0) (show ([("rest" : aJ)]:List aJ).Nodup by decide +kernel) rfl (.inl rfl),h_,ż⟩)) ż)
end
abbrev Tk:=aC (bD "Facts" "question" (bD "Coming" "facts" Fa)) aN
def ji:=
  (be (gi Z_ 0 "Coming" "facts" (qQ "Facts" f9 pi))
  (be (gi Z_ 0 "Coming" "full" (lI [0] [] (e2 qe u8 (bg jc Tk))))
  (be (gi Z_ 0 "Coming" "able" (lI [0] [] (bg jJ Tk)))
  (be (gi Z_ 0 "Coming" "taken" t3)
  (be (gi Z_ 0 "Coming" "opened" t3)
  (be (sh 0 "Coming" "rows" (.li (.fs "Row" [])) (S_ (MI "Row" (λ_=>wU []))))
  (gi Z_ 0 "Coming" "rests" Tl)))))))
def fF:=mo 2 2 aF ji
abbrev kB:=cB wP 0
def om:bB ["self", "question"] ["self", "question"] (aA kB):=by walk_at "s"
def iK:=
  (be (dF 4 (HS "Row" jz (aC db (aC Db Æ))))
  (be (sj 5 0 "Coming" "rows" (e1 yY u8))
  (be (lq 4 "Row" "fits" (lI [0] [5] (dC "Facts" "fitting" dS (bD "Coming" "facts" Fa) (aC Db Æ))))
  (be (lq 4 "Row" "hoped" (lI [0] [5] (dC "Coming" "gone_on" dD Fa (aC (bD "Row" "hoped" (eV 5)) (aC (bD "Row" "hoped_around" (eV 5)) (aC (e2 eG Db (bD "Coming" "able" Fa)) aN))))))
  (be (lq 4 "Row" "hoped_around" (lI [0] [5] (e2 C_ (bD "Row" "hoped_around" (eV 5)) (bD "Row" "hoped" pc))))
  (yL 0 4 "Coming" "rows"))))))
def gm:=mo 4 6 aF iK
abbrev jQ:=cB wP 3
def jS:bB ["self", "number", "named", "atoms", "row", "parent"] ["self", "number", "named", "atoms"] (aA jQ):=by walk_at "s"
abbrev kt:=e2 eG pc (e1 xB (bD "Row" "atoms" (eV 5)))
abbrev wS:=aC (bD "Row" "named" bd) (aC (bD "Row" "atoms" bd) aN)
def jk:=
  (be (sj 3 0 "Coming" "rows" db)
   (be (gi Z' 3 "Row" "fits" (lI [0] [3,5] (dC "Facts" "fitting" dS (bD "Coming" "facts" Fa) wS)))
   (be (dF 4 (lI [0] [3,5] (dC "Facts" "lifted" ir (bD "Coming" "facts" Fa) wS)))
   (be (tY 1 (λi j=>i-j) u8)
   (be (sj 5 0 "Coming" "rows" db)
   (be (dF 2 (lI [0] [3,5] (e2 EZ kt t3)))
   (eE Z' 5 "Row" "atoms" cZ pc)))))))
abbrev At:=dA (e2 t2 db t3)
abbrev Ù:=e2 lZ (bg jc Uf) u8
def kh:=
  (be (dF 1 (lI [0] [3,5] Ù))
  (be (dF 2 (eK (.bl Z')))
  (FG 1000000 (kL (dQ Db) At)
  jk)))
def dy:=mo 1 6 aF kh
abbrev lX:=cB wP 6
def pW:bB ["self", "place", "changed", "row", "up", "parent"] ["self"] (aA lX):=by walk_at "s"
abbrev sw:=eS (bW "Coming" "spread" aF dy 0 kZ)
abbrev Ú:=e2 eG db (e1 xB (bD "Row" "atoms" Db))
def iM:=
  (be (sj 2 0 "Coming" "rows" (e1 yY u8))
  (d7 (xS [0] [2] (dQ Ú))
  (be (eE Z' 2 "Row" "atoms" cZ db)
   sw)
  cO))
def gn:=mo 2 3 aF iM
abbrev jR:=cB wP 5
def mX:bB ["self", "atoms", "row"] ["self", "atoms"] (aA jR):=by walk_at "s"
section
variable {P:br}{w:cY}{K:aT}{h:aJ->Option ak}{t:cF}{f:ax}{y:eO}
def uy(F:gY K "__init__" "Coming.__init__" kB f y)(g:KS K h)(d:uK P w K h t "Facts" 88 (spT K aB f9))(c:lJ P w K h t "able_steps" 89 (hR K jJ))(b:lJ P w K h t "top_row" 89 (Ve K wU)):bZ P w K h t gK 90 f y ["self", "question"] (spT K aF fF):=
 F.D4 (Z:=[0]) (Ź:=[0]) (g:=ji) om aF ſ ſ λj A e s H E i B a l=>
  have k:=om.nd
  (aH (Px (b:=Z_) (c:= "Coming") (pv 0) (Tq ż) g.q) (aH ż (aH ż (aH ż (aH ż (aH (MU (c:= "Coming") (s1:=(.li (.fs "Row" []))) (pv 0) (Tt (PN (c:= "Row") (M9 b i rfl))) g.q) ż))))))
def tR(F:gY K "begin_row" "Coming.begin_row" jQ f y)(g:KS K h)(d:uK P w K h t "Row" 60 (Ru K 0 jz))(c:fh P w K h t "Facts" "fitting" 61 (hR K dS))(b:fh P w K h t "Coming" "gone_on" 61 (hR K dD)):bZ P w K h t gK 62 f y ["self", "number", "named", "atoms"] (spT K aF gm):=
 F.D4 (Z:=[0,4,5,1000005,2000000]) (Ź:=[0,4,5,1000005,2000000]) (g:=iK) jS aF ſ ſ λj A e s H E i B a l=>
  have k:=jS.nd
  (aH (HW (i:=4) jS.nd rfl (.inl rfl) (HZ d i rfl ż)) (aH ż (aH ż (aH ż (aH ż (cT (MR (c:= "Coming") (pv 0) (pv 4) g.q)))))))
def wh(F:gY K "spread" "Coming.spread" lX f y)(i:KS K h)(b:fh P w K h t "Facts" "fitting" 61 (hR K dS))(c:fh P w K h t "Facts" "lifted" 61 (hR K ir)):bZ P w K h t gK 62 f y ["self"] (spT K aF dy):=
 F.D4 (Z:=[0,3,5,1000003,1000005,2000000]) (Ź:=[0,3,5,1000003,1000005,2000000]) (g:=kh) pW aF ſ ſ λe A d s H E j B a k=>
  have g:=pW.nd
  (aH ż (aH ż (cT (MO 1000000 kU ż ż))))
def tS(F:gY K "add_atoms" "Coming.add_atoms" jR f y)(g:KS K h)(b:fh P w K h t "Coming" "spread" 62 (spT K aF dy)):bZ P w K h t gK 63 f y ["self", "atoms"] (spT K aF gn):=
 F.D4 (Z:=[0,2,1000002,2000000]) (Ź:=[0,2,1000002,2000000]) (g:=iM) mX aF ſ ſ λd A c s H E i B a j=>
  have e:=mX.nd
  by walk_at "o"
end
abbrev lv:=e2 eG (e2 eG (bD "Row" "reached" pc) (e1 xB (eV 5))) (bD "Coming" "full" Fa)
def gS:=
  (be (sj 3 0 "Coming" "rows" (e2 lZ Db u8))
   (be (sj 4 0 "Coming" "rows" Db)
   (be (dF 5 (lI [0] [4,3] (bD "Row" "reached" pc)))
   (be (gi Z' 4 "Row" "reached" (lI [0] [4,3] (dC "Coming" "gone_on" dD Fa (aC (bD "Row" "reached" bd) (aC (bD "Row" "reached_around" bd) (aC (bD "Row" "fits" pc) aN))))))
   (be (gi Z' 4 "Row" "reached_around" (lI [0] [4,3] (e2 C_ (bD "Row" "reached_around" bd) (bD "Row" "reached" pc))))
   (d7 (xS [0] [4,3] (dQ lv))
   (qD 1 (lI [0] [4,3] (bD "Row" "number" pc)))
   cO))))))
abbrev Ç:=lI [0] [4,3] (bg jc Uf)
def ki:=
  (be (kN 1 Ñ)
  (be (jw (QP u8 Ç) (gN 2)
  gS)
  (He 1)))
def ko:=Hi 1 6 aF ki
abbrev lY:=cB wP 7
def pX:bB ["self", "found", "place", "parent", "row", "ahead"] ["self"] (aA lY):=by walk_at "s"
abbrev Ã:=e2 eG (bD "Row" "reached_around" pc) (e2 bX bd Re)
abbrev ln:=qz (dQ (e2 eG (bD "Row" "reached" pc) Ì)) (dQ Ã)
def dO:=
  (be (sj 4 0 "Coming" "rows" (e2 bX bd u8))
   (d7 (xS [0] [4] ln)
   (qD 1 (e2 bX bd t3))
   (qD 2 bd)))
abbrev Î:=t6 0 "Coming" "rests"
def hW:=
  (be (yK 1 0 "Coming" "settle" aF ko)
  (be (kN 2 Ñ)
  (be (jw (iL Î) (gN 3)
  dO)
  (be (gi Z_ 0 "Coming" "rests" Db)
  (dM (mP (eF (me db))))))))
def dI:=mo 1 5 aF hW
abbrev ju:=cB wP 8
def jv:bB ["self", "found", "kept", "rest", "row"] ["self"] (aA ju):=by walk_at "s"
abbrev XV:=e2 fc (e2 bX (eV 5) u8) Db
def eY:=
  (be (dF 6 (lI [0,1] [] (MJ (dA XV) (dC "Coming" "moved_out" gk Fa (aC (eV 5) pi)) (eV 5))))
   (d7 (qz (dQ (e2 bX np nb)) (dQ (e2 bX np Re)))
   (qD 4 np)
   cO))
abbrev bv:=eW (aC (bD "Row" "number" db) (aC Db (aC (bD "Coming" "full" Fa) (aC t3 aN))))
abbrev FS:=e2 eG (bD "Row" "reached" db) (bD "Coming" "full" Fa)
def jH:=
  (be (DJ 1 0 "Coming" "rows")
  (be (dF 2 (lI [0] [] (bg jc Uf)))
  (be (kN 3 (Em Î))
  (be (d7 (xS [0] [] (gM (dQ FS)))
  (qD 3 (lI [0] [] bv))
  cO)
  (be (kN 4 Ñ)
  (be (jw (iL (eF (wA bd))) (gN 5)
  eY)
  (gi Z_ 0 "Coming" "rests" pc)))))))
def f_:=mo 1 7 aF jH
abbrev lj:=cB wP 9
def lp:bB ["self", "row", "place", "rests", "kept", "rest", "moved"] ["self"] (aA lj):=by walk_at "s"
section
variable {P:br}{w:cY}{K:aT}{b:aJ->Option ak}{h:cF}{f:ax}{j:eO}
def wj(F:gY K "settle" "Coming.settle" lY f j)(i:KS K b)(c:fh P w K b h "Coming" "gone_on" 61 (hR K dD)):bZ P w K b h gK 62 f j ["self"] (K0 K aF ko):=
 F.Yo (Z:=[0,1,4,3,1000004,1000003,2000000]) (Ź:=[0,1,4,3,1000004,1000003,2000000]) (g:=ki) pX aF ſ ſ λe A d s H E k B a l=>
  have g:=pX.nd
  by walk_at "o"
def sq(F:gY K "newly_told" "Coming.newly_told" ju f j)(k:KS K b)(c:fh P w K b h "Coming" "settle" 62 (K0 K aF ko)):bZ P w K b h gK 63 f j ["self"] (spT K aF dI):=
 F.D4 (Z:=[0,1,2,4,1000004,2000000]) (Ź:=[0,1,2,4,1000004,2000000]) (g:=hW) jv aF ſ ſ λg A d s H E e B a l=>
  have i:=jv.nd
  (aH (MP (i:=1) jv.nd rfl (.inl rfl) c e (pv 0)) (aH ż (aH ż (uE (own1:=[0,1,4,1000004,2000000]) 2 ż))))
def ve(F:gY K "end_row" "Coming.end_row" lj f j)(e:KS K b)(c:fh P w K b h "Coming" "moved_out" 61 (hR K gk)):bZ P w K b h gK 62 f j ["self"] (spT K aF f_):=
 F.D4 (Z:=[0,1,3,4]) (Ź:=[0,1,3]) (g:=jH) lp aF ſ ſ λg A d s H E k B a l=>
  have i:=lp.nd
  (aH (Pp (i:=1) (c:= "Coming") lp.nd rfl (.inl rfl) (pv 0) e.q) (aH ż (aH ż (aH ż (aH ż (aH ż (uE (own1:=[0,1,3]) 4 ż)))))))
end
abbrev lc:=eK (.str (af "close"))
abbrev wn:=lI [0] [] (bD "Coming" "opened" Fa)
abbrev io:=aC db (aC (e2 t2 (bg jc Uf) u8) (aC ol aN))
abbrev Ô:=aC bi aN
abbrev Do:=eS (bW "Coming" "begin_row" aF gm 0 (jx (mP wn) (jx (mP (lI [0] [] (dC "Facts" "steps_for" eJ (bD "Coming" "facts" Fa) Ô))) wT)))
abbrev jp:=eS (bW "Coming" "add_atoms" aF gn 0 (jx (mP (lI [0] [] (dC "Facts" "text_fact" eI (bD "Coming" "facts" Fa) Ô))) kZ))
abbrev Û:=eS (bW "Coming" "end_row" aF f_ 0 kZ)
def fV:=
  (be (d7 (xS [0] [] (gM (dQ (bg iO io))))
  FH
  cO)
  (be (eE Z_ 0 "Coming" "taken" (λi j=>i+j) u8)
  (be (d7 (dA (e2 fc ci lc))
  (be Û
   (dM (mP Tl)))
  cO)
  (be (d7 (dA (e2 fc ci ce))
  (be Do
   (be (eE Z_ 0 "Coming" "opened" (λi j=>i+j) u8)
   sw))
  jp)
  (dM (bW "Coming" "newly_told" aF dI 0 kZ))))))
def eD:=mo 2 2 aF fV
abbrev lh:=cB wP 1
def ll:bB ["self", "sign"] ["self", "sign"] (aA lh):=by walk_at "s"
def ke:=
  (be (sh 0 "Sift" "coming" aF (qQ "Coming" fF pi))
  (gi Z_ 0 "Sift" "numbers" Tl))
def km:=mo 2 2 dZ ke
abbrev lU:=cB (lK 32) 0
def pT:bB ["self", "question"] ["self", "question"] (aA lU):=by walk_at "s"
abbrev Ø:=me (e2 d9 (bD "Sift" "numbers" Fa) Db)
def pf:=
  (be (mY 2 (s_ "Sift" "coming" "Coming" "feed" aF eD 0 pi))
  (be (gi Z_ 0 "Sift" "numbers" (eF (Uz [0] [] Ø)))
  (dM (mP Db))))
def my:=mo 2 3 dZ pf
abbrev nc:=cB (lK 32) 1
def ng:bB ["self", "sign", "fresh"] ["self", "sign"] (aA nc):=by walk_at "s"
def pb:=
  (dH (eF (Em (bD "Sift" "numbers" Fa))))
def pq:=jD 1 1 pb
abbrev qB:=cB (lK 32) 2
noncomputable abbrev mx:List aJ:=["self"]
def u9:bB mx ["self"] (aA qB):=by walk_at "s"
def lx:=
  (dH (dC "Coming" "waits" eL (bD "Sift" "coming" Fa) aN))
def gj:=jD 1 1 lx
abbrev mF:=cB (lK 32) 3
def q_:bB mx ["self"] (aA mF):=by walk_at "s"
def ly:=
  (dH (dC "Coming" "has_ended" iP (bD "Sift" "coming" Fa) aN))
def lD:=jD 1 1 ly
abbrev mG:=cB (lK 32) 4
def rd:bB mx ["self"] (aA mG):=by walk_at "s"
section
variable {P:br}{w:cY}{K:aT}{b:aJ->Option ak}{h:cF}{f:ax}{t:eO}
def yX(F:gY K "feed" "Coming.feed" lh f t)(p:KS K b)(l:lJ P w K b h "can_come" 63 (hR K iO))(j:fh P w K b h "Coming" "end_row" 63 (spT K aF f_))(d:fh P w K b h "Coming" "begin_row" 63 (spT K aF gm))(k:fh P w K b h "Coming" "spread" 63 (spT K aF dy))(e:fh P w K b h "Coming" "add_atoms" 63 (spT K aF gn))(c:fh P w K b h "Coming" "newly_told" 63 (spT K aF dI))(i:fh P w K b h "Facts" "steps_for" 63 (hR K eJ))(g:fh P w K b h "Facts" "text_fact" 63 (hR K eI)):bZ P w K b h gK 64 f t ["self", "sign"] (spT K aF eD):=
 F.D4 (Z:=[0]) (Ź:=[0]) (g:=fV) ll aF ſ ſ λn A m s H E q B a r=>
  have o:=ll.nd
  by walk_at "o"
def wd(F:gY K "__init__" "Sift.__init__" lU f t)(i:KS K b)(c:uK P w K b h "Coming" 90 (spT K aF fF)):bZ P w K b h gK 92 f t ["self", "question"] (spT K dZ km):=
 F.D4 (Z:=[0]) (Ź:=[0]) (g:=ke) pT dZ ſ ſ λe A d s H E j B a k=>
  have g:=pT.nd
  by walk_at "o"
def B6(F:gY K "take" "Sift.take" nc f t)(i:KS K b)(c:fh P w K b h "Coming" "feed" 64 (spT K aF eD)):bZ P w K b h gK 65 f t ["self", "sign"] (spT K dZ my):=
 F.D4 (Z:=[0]) (Ź:=[0]) (g:=pf) ng dZ ſ ſ λe A d s H E j B a k=>
  have g:=ng.nd
  by walk_at "o"
def B5(F:gY K "told" "Sift.told" qB f t)(g:KS K b):bZ P w K b h gK 2 f t ["self"] (hR K pq):=
 F.wk (Z:=[]) (Ź:=[]) (g:=pb) u9 ſ λd A c s H E i B j=>
  have e:=u9.nd
  by walk_at "o"
def xt(F:gY K "waiting" "Sift.waiting" mF f t)(g:KS K b)(a:fh P w K b h "Coming" "waits" 1 (hR K eL)):bZ P w K b h gK 2 f t ["self"] (hR K gj):=
 F.wk (Z:=[]) (Ź:=[]) (g:=lx) q_ ſ λd A c s H E i B j=>
  have e:=q_.nd
  by walk_at "o"
def xu(F:gY K "is_over" "Sift.is_over" mG f t)(g:KS K b)(a:fh P w K b h "Coming" "has_ended" 1 (hR K iP)):bZ P w K b h gK 2 f t ["self"] (hR K lD):=
 F.wk (Z:=[]) (Ź:=[]) (g:=ly) rd ſ λd A c s H E i B j=>
  have e:=rd.nd
  by walk_at "o"
end
def Mu:=
  (be (dF 2 (e2 fD (e2 rJ (e2 d9 (e2 d9 (e2 fD Fa (eK (.int 2147483647))) (e2 rJ (e2 rJ db db) (eK (.int 7919)))) (eK (.int 104729))) (eK (.int 48271))) (eK (.int 2147483647))))
  (dH (e2 fD (e2 d9 (e2 rJ Db Db) (e2 rJ (eK (.int 69621)) db)) (eK (.int 2147483629)))))
def xo:=jD 2 3 Mu
abbrev Fv:=lK 36
def K':bB ["_law_cell", "_law_turn", "_law_number"] ["_law_cell", "_law_turn"] (aA Fv):=by walk_at "s"
abbrev Ó:=eK (.int 2147483587)
def wN:=
  (be (dF 7 (e2 fD np (bg jc (aC (eV 5) aN))))
    (be (qD 4 (e2 fD (e2 bX (eV 5) (eV 7)) Ó))
    (Hf 5 (eV 7) (e2 iU (e2 bX (eV 5) (eV 7)) Ó))))
def wM:=
  (dF 8 (e2 fD (e2 d9 (e2 rJ (eV 8) (eK (.int 31))) (bg xo (aC (eV 9) (aC (e2 d9 np db) aN)))) (eK (.int 2147483629))))
abbrev PP:=eK (.int 7)
def wL:=
  (be (dF 10 (bg xo (aC (e2 bX bd (e2 fD np (bg jc Æ))) (aC (e2 d9 (e2 d9 (e2 fD (eV 8) (eK (.int 1009))) np) db) aN))))
   (qD 4 (e2 fD (e2 d9 (e2 rJ (eV 10) (eV 10)) (e2 rJ PP np)) Ó)))
def tj:=
  (be (d7 (dA (e2 Nw db (bg jc zn))) (dH (e2 bX Fa db)) cO) (dH t3))
def kQ:=jD 2 2 tj
abbrev ui:=lK 34
def yJ:bB ["_law_script", "_law_k"] ["_law_script", "_law_k"] (aA ui):=by walk_at "s"
def Cq:=
  (be (dF 3 (e2 d9 (eF (HL Fa pN (pS (eK (.int 63))))) (eF (gE pi))))
  (be (kN 4 Ñ)
  (be (d7 (dA (e2 fc (e2 fD (e2 iU (e2 bX bd t3) (eK (.int 50000))) nb) u8))
  (be (kN 5 (oG (iL bd) [M] (gN 0) ic (e2 iU Fa (eK (.int 100000)))))
   (be (jw (NS (e2 d9 (e2 d9 db Db) u8)) (gN 6)
   wN)
   (be (kN 4 (HL pc (pS db) pN))
   (u_ (HL pc pN (pS (e2 d9 u8 (e2 fD (e2 bX pc Db) Db))))))))
  cO)
  (be (dF 8 t3)
  (be (jw (iE bd) (Cr 6 9)
  wM)
  (be (jw (NS (e2 d9 u8 (e2 fD (e2 iU (eV 8) (eK (.int 1009))) Db))) (gN 6)
  wL)
  (DI 4)))))))
def kl:=IX 3 11 Cq
abbrev u0:=lK 38
noncomputable abbrev Ir:List aJ:=["_law_script", "_law_turn", "_law_most", "_law_cells_here", "_law_found", "_law_lefts", "_law_k", "_law_at", "_law_number", "_law_cell", "_law_other"]
def yI:bB Ir ["_law_script", "_law_turn", "_law_most"] (aA u0):=by walk_at "s"
abbrev dL:=eK (.int 12)
def Cn:=
  (be (dF 1 (e2 bX (eF (sI kl (aC Fa (aC (eK (.int 40)) (aC u8 aN))))) t3))
  (be (dF 2 (JM (eK (.str (af "abcdefabcde"))) pN (pS (e2 fD db dL))))
  (be (dF 3 (e2 fD (e2 iU db dL) (e2 d9 (bg jc pu) u8)))
  (u_ (oG (iS (eK (.str (af "mnopq")))) [M,Y 2,Y 3] (gN 0) ic (e2 d9 (e2 d9 (JM db pN (pS Db)) Fa) (JM db (pS Db) pN)))))))
def vA:=jD 1 4 Cn
abbrev uY:=lK 39
noncomputable abbrev Ip:List aJ:=["_law_script", "_law_number", "_law_stem", "_law_at"]
def u7:bB Ip ["_law_script"] (aA uY):=by walk_at "s"
abbrev ge:=e2 iU (eV 8) PP
abbrev bn:=eK (.int 5)
abbrev Rs:=qz (dA (e2 t2 pc u8)) (kL (dA (e2 fc pc u8)) (dA (e2 fc (e2 fD ge (eK (.int 6))) t3)))
abbrev wv:=dF 9 (e2 fD (e2 d9 (eV 8) (e2 rJ (e2 rJ (eV 5) (e2 fD np nb)) bn)) PP)
abbrev lw:=qD 3 (eW (aC ce (aC (e2 bX db (e2 fD (e2 fD ge (eK (.int 11))) bn)) aN)))
abbrev ww:=qz (dA (e2 fc bd Tl)) (kL (dA (e2 Nw (eV 9) Re)) (dA (e2 t2 pc t3)))
abbrev UV:=eW (aC lc aN)
abbrev Á:=qD 3 (eW (aC No (aC (e2 bX Db (e2 fD ge bn)) aN)))
abbrev Ë:=kL (dA (e2 Nw (eV 9) bn)) (dA (e2 t2 pc t3))
def wK:=
  (be (dF 8 (eV 7))
   (be (d7 (dA (e2 fc np t3))
   (dF 5 (e2 fD ge Re))
   cO)
   (be wv
   (d7 ww
   (be lw
    (dF 4 (e2 d9 pc u8)))
   (d7 Ë
    Á
    (d7 Rs
     (be (qD 3 UV)
      (dF 4 (e2 lZ pc u8)))
     cO))))))
abbrev am:=eF (gE (aC (eK (.str (af "x"))) (aC (eK (.str (af ""))) (aC (eK (.str (af "y x"))) (aC (eK (.str (af "\""))) (aC (eK (.str (af "[a]"))) aN))))))
def Cm:=
  (be (dF 2 am)
  (be (kN 3 Ñ)
  (be (dF 4 t3)
  (be (dF 5 t3)
  (be (jw (iE Fa) (Cr 6 7)
  wK)
  (DI 3))))))
def tw:=IX 2 10 Cm
abbrev yA:=lK 40
def DC:bB ["_law_cells_here", "_law_some", "_law_texts", "_law_signs_here", "_law_depth_here", "_law_lean", "_law_k", "_law_cell", "_law_number", "_law_kind"] ["_law_cells_here", "_law_some"] (aA yA):=by walk_at "s"
abbrev TW:=aC (eF (oG sB [M] (gN 0) (dA (e2 fc wf lc)) Fa)) aN
abbrev À:=aC (eF (oG sB [M] (gN 0) (dA (e2 fc wf ce)) Fa)) aN
def ye:=
  (dH (e2 lZ (bg jc À) (bg jc TW)))
def pk:=jD 1 1 ye
abbrev r9:=lK 42
noncomputable abbrev CV:List aJ:=["_law_signs_here"]
def DH:bB CV ["_law_signs_here"] (aA r9):=by walk_at "s"
def Mt:=
  (be (d7 (dA (e2 fc Fa Tl))
  (dM (mP t3))
  cO)
  (dM (O6 0)))
def xm:=Ak 1 1 0 Mt
abbrev Fu:=lK 43
def K9:bB ["_law_draws"] ["_law_draws"] (aA Fu):=by walk_at "s"
def HF:=
  (dH (MK (Wa "int" Fa) (Pn (dA (Wa "bool" Fa)))))
def yn:=jD 1 1 HF
abbrev yy:=lK 35
def DA:bB ["_law_found"] ["_law_found"] (aA yy):=by walk_at "s"
section
variable {P:br}{w:cY}{K:aT}{b:aJ->Option ak}{j:cF}{f:ax}{h:eO}
def R4(F:gY K "_law_mix" "_law_mix" Fv f h):bZ P w K b j gK 1 f h ["_law_cell", "_law_turn"] (hR K xo):=
 F.wk (Z:=[]) (Ź:=[]) (g:=Mu) K' ſ λc A a s H E e B g=>
  have d:=K'.nd
  by walk_at "o"
def FY(F:gY K "_law_cell_at" "_law_cell_at" ui f h)(a:KS K b):bZ P w K b j gK 1 f h ["_law_script", "_law_k"] (hR K kQ):=
 F.wk (Z:=[]) (Ź:=[]) (g:=tj) yJ ſ λc A outer s H E e B g=>
  have d:=yJ.nd
  by walk_at "o"
def LV(F:gY K "_law_cells" "_law_cells" u0 f h)(g:KS K b)(a:lJ P w K b j "_law_mix" 1 (hR K xo)):bZ P w K b j gK 2 f h ["_law_script", "_law_turn", "_law_most"] (Oi K kl):=
 F.Z6 (Z:=[4,5]) (Ź:=[4,5]) (g:=Cq) yI ſ λd A outer s H E i B c=>
  have e:=yI.nd
  (aH ż (aH ż (aH (t7 ż (aH (Bp (i:=5) (Ź:=[]) (N:=[("_law_cell" : aJ)]) (src:=[M]) (jy (outer:=aA u0) (oN:=Ir) rfl (by decide +kernel) rfl rfl) rfl yI.nd rfl rfl (ph (vP 3)) (gy 0) ſ (ik 0) (λC s H k=>⟨fR (i:=0) (show ([("_law_cell" : aJ)]:List aJ).Nodup by decide +kernel) rfl (.inl rfl),h_,ż⟩)) (aH (Cy kU rfl ż (λB c=>ż) (λB c=>(aH ż (aH ż (cT (Pq (pv 5) (vQ 7) ż)))))) ż)) ny) ż)))
def LQ(F:gY K "_law_names" "_law_names" uY f h)(e:KS K b)(a:lJ P w K b j "_law_cells" 2 (Oi K kl)):bZ P w K b j gK 3 f h ["_law_script"] (hR K vA):=
 F.wk (Z:=[]) (Ź:=[]) (g:=Cn) u7 ſ λc A outer s H E g B i=>
  have d:=u7.nd
  (aH ż (aH (sL (i:=2) u7.nd rfl (.inr rfl) ż) (aH (sL (i:=3) u7.nd rfl (.inr rfl) ż) (cT (HX (t9 (Ź:=[]) (N:=[("_law_letter" : aJ),("_law_stem" : aJ),("_law_at" : aJ)]) (src:=[M,Y 2,Y 3]) (jy (outer:=aA uY) (oN:=Ip) rfl (by decide +kernel) rfl rfl) rfl (Th Tj) (gy 0) ſ (ik 0) (λC s H k=>⟨fR (i:=0) (show ([("_law_letter" : aJ),("_law_stem" : aJ),("_law_at" : aJ)]:List aJ).Nodup by decide +kernel) rfl (.inl rfl),h_,ż⟩)))))))
def LM(F:gY K "_law_signs" "_law_signs" yA f h)(e:KS K b):bZ P w K b j gK 1 f h ["_law_cells_here", "_law_some"] (Oi K tw):=
 F.Z6 (Z:=[3]) (Ź:=[3]) (g:=Cm) DC ſ λc A a s H E g B i=>
  have d:=DC.nd
  by walk_at "o"
def LU(F:gY K "_law_depth" "_law_depth" r9 f h)(a:KS K b):bZ P w K b j gK 1 f h ["_law_signs_here"] (hR K pk):=
 F.wk (Z:=[]) (Ź:=[]) (g:=ye) DH ſ λd A outer s H E g B i=>
  have e:=DH.nd
  (cT (oH (M6 R6 (dq (M7 rfl a.y (dq (df (t9 (Ź:=[]) (N:=[("_law_sign" : aJ)]) (src:=[M]) (jy (outer:=aA r9) (oN:=CV) rfl (by decide +kernel) rfl rfl) rfl (ph (vP 0)) (gy 0) ſ (ik 0) (λC s H c=>⟨fR (i:=0) (show ([("_law_sign" : aJ)]:List aJ).Nodup by decide +kernel) rfl (.inl rfl),(HV ż),(vP 0)⟩)))))) (dq (M7 rfl a.y (dq (df (t9 (Ź:=[]) (N:=[("_law_sign" : aJ)]) (src:=[M]) (jy (outer:=aA r9) (oN:=CV) rfl (by decide +kernel) rfl rfl) rfl (ph (vP 0)) (gy 0) ſ (ik 0) (λC s H c=>⟨fR (i:=0) (show ([("_law_sign" : aJ)]:List aJ).Nodup by decide +kernel) rfl (.inl rfl),(HV ż),(vP 0)⟩)))))))))
def R3(F:gY K "_law_pop" "_law_pop" Fu f h):bZ P w K b j gK 1 f h ["_law_draws"] (Dw K 0 xm):=
 F.tZ (Z:=[0]) (Ź:=[0]) (g:=Mt) K9 0 ſ ſ λd A c s H E g B a i=>
  have e:=K9.nd
  (aH ż (cT (yi (Te (pv 0)))))
def LJ(F:gY K "_law_whole" "_law_whole" yy f h)(a:KS K b):bZ P w K b j gK 1 f h ["_law_found"] (hR K yn):=
 F.wk (Z:=[]) (Ź:=[]) (g:=HF) DA ſ λd A c s H E g B i=>
  have e:=DA.nd
  (cT (oH (Tr (Br (T:= "int") ſ rfl a.y rfl a.y (by decide +kernel) (vQ 0)) (Tn (To (Br (T:= "bool") ſ rfl a.y rfl a.y (by decide +kernel) (vQ 0)))))))
end
def Ck(c:List D->Option (D×List D))(a:List D->Option (D×List D)):DG:=
  (be (mY 3 (rj xm 0 aN))
  (be (dF 4 (e2 fD bd (eK (.int 8))))
  (be (d7 (qz (dA (e2 Nw pc nb)) (kL (dA (e2 fc db t3)) (dA (e2 t2 pc nb))))
  (dM (mP (eW (aC Ò aN))))
  cO)
  (be (d7 (dA (e2 fc pc nb))
  (dM (mP (eW (aC No (aC (e2 bX am (e2 fD (e2 iU bd (eK (.int 8))) bn)) aN)))))
  cO)
  (be (d7 (dA (e2 Nw pc bn))
  (dM (xD (jx (mP wp) (jx (rj a 0 (aC (e2 lZ db u8) pu)) kZ))))
  cO)
  (be (d7 (dA (e2 fc pc bn))
  (dM (mP (eW (aC wp (aC (eF (gE (aC (eW (aC (eK (.str (af "own"))) (aC on (aC (eW (aC Ò aN)) aN)))) aN))) aN)))))
  cO)
  (dM (xD (jx (mP (e2 bX (eF (gE (aC Ï (aC sK aN)))) (e2 lZ pc (eK (.int 6))))) (jx (VL (NS (e2 fD (e2 iU bd (eK (.int 8))) (eK (.int 4)))) [M,Y 0,Y 2,Y 1] (gN 0) (rj c 1 (aC (e2 lZ bd u8) pu)) 1 0) kZ))))))))))
abbrev xU:=lK 44
noncomputable abbrev Np:List aJ:=["_law_draws", "_law_deep", "_law_some", "_law_number", "_law_kind"]
def Ha:bB Np ["_law_draws", "_law_deep", "_law_some"] (aA xU):=by walk_at "s"
def wJ(a:List D->Option (D×List D))(c:List D->Option (D×List D)):DG:=
  (be (mY 5 (rj xm 0 aN))
   (be (dF 6 (e2 bX (e2 d9 (eF (HL Db pN (pS (eK (.int 4))))) (eF (gE (aC on (aC on (aC on aN)))))) (e2 fD (e2 iU (eV 5) nb) PP)))
   (Hh 3 (xD (jx (mP (e2 bX (eF (gE (aC (eK (.str (af "own"))) (aC py aN)))) (e2 fD (eV 5) nb))) (jx (mP np) (jx (rj a 0 (aC db pu)) kZ)))))))
def ya(c:List D->Option (D×List D))(a:List D->Option (D×List D)):DG:=
  (be (kN 3 Ñ)
  (be (AX (Xb (m2 d9 (mP u8) (m2 fD (rj xm 0 aN) (mP Re)))) (gN 4)
  (wJ c a))
  (BP 3)))
abbrev yz:=lK 45
def DB:bB ["_law_draws", "_law_deep", "_law_some", "_law_steps_here", "_law_k", "_law_number", "_law_name"] ["_law_draws", "_law_deep", "_law_some"] (aA yz):=by walk_at "s"
mutual
noncomputable def gV:Nat->List D->Option (D×List D)
 |0=>λ_=>M
 |n+1=>Ak 3 5 0 (Ck (gV n) (gW n))
noncomputable def gW:Nat->List D->Option (D×List D)
 |0=>λ_=>M
 |n+1=>Ak 3 7 0 (ya (gV n) (gW n))
end
section
variable {P:br}{w:cY}{K:aT}{b:aJ->Option ak}{h:cF}{f:ax}{j:eO}
def OX(F:gY K "_law_wish" "_law_wish" xU f j)(l:KS K b)(e:lJ P w K b h "_law_pop" (n+1) (Dw K 0 xm))(c:lJ P w K b h "_law_steps" (n+1) (Dw K 0 (gW n)))(d:lJ P w K b h "_law_wish" (n+1) (Dw K 0 (gV n))):bZ P w K b h gK (n+1+1) f j ["_law_draws", "_law_deep", "_law_some"] (Dw K 0 (gV (n+1))):=
 F.tZ (Z:=[0]) (Ź:=[0]) (g:=(Ck (gV n) (gW n))) Ha 0 ſ ſ λi A outer s H E m B a g=>
  have k:=Ha.nd
  (aH ż (aH ż (aH ż (aH ż (aH ż (aH ż (cT (yi (Td (zE ż (zE (Wh (i0:=1) (j0:=0) (N:=[("_law_k" : aJ),("_law_draws" : aJ),("_law_some" : aJ),("_law_deep" : aJ)]) (src:=[M,Y 0,Y 2,Y 1]) (jy (outer:=aA xU) (oN:=Np) rfl (by decide +kernel) rfl rfl) rfl ż (gy 0) ſ (sy _ 0 1) (λC s H o=>⟨fR (i:=0) (show ([("_law_k" : aJ),("_law_draws" : aJ),("_law_some" : aJ),("_law_deep" : aJ)]:List aJ).Nodup by decide +kernel) rfl (ka rfl),h_,Wg λB a g=>ż⟩)) Pz)))))))))))
def LL(F:gY K "_law_steps" "_law_steps" yz f j)(i:KS K b)(e:lJ P w K b h "_law_pop" (n+1) (Dw K 0 xm))(c:lJ P w K b h "_law_wish" (n+1) (Dw K 0 (gV n))):bZ P w K b h gK (n+1+1) f j ["_law_draws", "_law_deep", "_law_some"] (Dw K 0 (gW (n+1))):=
 F.tZ (Z:=[0,3]) (Ź:=[0,3]) (g:=(ya (gV n) (gW n))) DB 0 ſ ſ λk A d s H E m B a g=>
  have l:=DB.nd
  (aH ż (aH (Pw kU rfl (Gu rfl i.y ż) (λB g=>ż) (λB g=>(aH ż (aH ż (cT (Py (pv 3) ż)))))) (cT (MQ (pv 3)))))
end
def yd:=be (d7 (gM (dQ (bg iO io))) (BQ "NoSign" (bD "Coming" "taken" Fa)) cO) λ_=>M
def yq:=xb 2 2 yd
def x_:=be (Hd 2 (kv "Coming" "feed" yq (bD "Sift" "coming" Fa) pi)) λ_=>M
def tu:=xb 2 3 x_
abbrev IR:=e2 fc (bD "Coming" "taken" (bD "Sift" "coming" Fa)) t3
def yb:=d7 (dA IR) (BR "Late") cO
def yp:=xb 1 1 yb
abbrev BL:=cB (lK 32) 9
def Hb:bB mx ["self"] (aA BL):=by walk_at "s"
def vt:=be (BW (kv "Sift" "need_a_sign" yp Fa aN)) λ_=>M
def sR:=xb 1 1 vt
abbrev yB:=cB (lK 32) 5
def DD:bB mx ["self"] (aA yB):=by walk_at "s"
def Cp:=be (d7 (dA (e2 (Ab Z') db (dC "Coming" "waits" eL (bD "Sift" "coming" Fa) aN))) (BR "NoPart") cO) λ_=>M
def zU:=xb 2 2 Cp
abbrev Fx:=cB (lK 32) 6
def Lb:bB ["self", "number"] ["self", "number"] (aA Fx):=by walk_at "s"
section
variable {P:br}{w:cY}{K:aT}{a:aJ->Option ak}{b:cF}{f:ax}{j:eO}
def LS(F:gY K "feed" "Coming.feed" lh f j)(l:KS K a)(c:lJ P w K a b "can_come" 63 (hR K iO))(x:ZG P w K a b "NoSign" 60):bZ P w K a b (CW P w) 64 f j ["self", "sign"] (rH K yq):=
 F.LW (Z:=[]) (Ź:=[]) (g:=yd) ll ſ λi A d s H E g B h e=>
  have k:=ll.nd
  (aH (t7 ż (cT (JP x (g.mono ſ) e rfl ż h)) ny) vu)
def LK(F:gY K "take" "Sift.take" nc f j)(l:KS K a)(h:zQ P w K a b "Coming" "feed" 64 (rH K yq)):bZ P w K a b (CW P w) 65 f j ["self", "sign"] (rH K tu):=
 F.LW (Z:=[]) (Ź:=[]) (g:=x_) ng ſ λi A c s H E e B g d=>
  have k:=ng.nd
  (aH (Po (i:=2) k rfl (.inl rfl) (MM h e d g ż ż)) vu)
def LP(F:gY K "need_a_sign" "Sift.need_a_sign" BL f j)(l:KS K a)(x:TM K a "Late"):bZ P w K a b (CW P w) 2 f j ["self"] (rH K yp):=
 F.LW (Z:=[]) (Ź:=[]) (g:=yb) Hb ſ λi A d s H E g B h e=>
  have k:=Hb.nd
  (cT (t7 ż (cT (Bo x e rfl h)) ny))
def Jl(F:gY K "shortest" "Sift.shortest" yB f j)(h:zQ P w K a b "Sift" "need_a_sign" 2 (rH K yp)):bZ P w K a b (CW P w) 3 f j ["self"] (rH K sR):=
 F.LW (Z:=[]) (Ź:=[]) (g:=vt) DD ſ λi A d s H E e B g d=>
  have k:=DD.nd
  (aH (MW (JN h e d g ż)) vu)
def OZ(F:gY K "ending" "Sift.ending" Fx f j)(l:KS K a)(c:fh P w K a b "Coming" "waits" 1 (hR K eL))(x:TM K a "NoPart"):bZ P w K a b (CW P w) 2 f j ["self", "number"] (rH K zU):=
 F.LW (Z:=[]) (Ź:=[]) (g:=Cp) Lb ſ λi A d s H E g B h e=>
  have k:=Lb.nd
  (aH (t7 ż (cT (Bo x e rfl h)) ny) vu)
end
abbrev pO:=cB (lK 3) 0
def K_:bB ["self", "at"] ["self", "at"] (aA pO):=by walk_at "s"
def LO{P:br}{K:aT}{f:ax}(F:gY K "__init__" "NoSign.__init__" pO f d)(T:P_ K C "at"):bZ P w K g b gK 1 f d ["self", "at"] (xW C "at"):=by
 refine F.ok K_ (λe H Q E h =>?_) (λn A c s H e Q E o h =>?_)
 ·obtain⟨a,t,v,rfl,_⟩:=h
  rfl
 ·obtain⟨a,t,v,rfl,l,k⟩:=h
  refine⟨_,hU (OH (pv 0) (pv 1) rfl),?_⟩
  exact⟨_,rfl,_,rfl,a,C,t,rfl,l,T,λm j i=>k m j i⟩
abbrev xV:=lK 37
noncomputable abbrev Nq:List aJ:=["_law_error", "_law_which", "_law_found", "_law_due"]
def xY:bB Nq ["_law_error", "_law_which"] (aA xV):=by walk_at "s"
structure NV(H:Hp)(a C:ax):Prop where
 ex:∃dx oe,H a=some (dW a oe)/\wR oe C dx/\∀x,dx=some x->∃i,H x=some (.xd i)
def NV.same{b:Hp}(x:NV H a C)(s:bC H b):NV b a C:=by
 obtain⟨g,c,f,e,d⟩:=x.ex;exact⟨g,c,s _ _ f,e,λy z=>(d y z).imp λ_ q=>s _ _ q⟩
section
variable {X:Cx}{p J G:Pos}{x y:aJ}{C:ax}{L O:TE}{e:Expr}
def Tw(h:Wv X.K C):lS X (.builtin "isinstance") (λf H Q=>∃a d c b,f=[.ref a,d]/\NV H a C/\(∀u,RelV d u->u=c)/\jK X.K (.ref C) c=Y b/\Q (.bl b) H):=by
 intro g s x H f y Q I r ⟨a,d,c,b,e,j,o,k,q⟩;subst e;obtain⟨D,B,v,t,p⟩:=j.ex;cases r with
 |cons m r=>
  cases r with|cons l r=>cases r;rename_i i z;obtain rfl:i=aD a:=m;obtain rfl:=o _ l;exact Q8 (W:=X.w) I v t p h k λA w=>⟨.bl b,H,w,rfl,q⟩
def RF(K:aT)(C:ax):List V->Hp->VK->Prop:=λe H Q=>∃a d c b,e=[.ref a,d]/\NV H a C/\(∀u,RelV d u->u=c)/\jK K (.ref C) c=Y b/\Q (.bl b) H
def uu{v:V}(d:Wv X.K C)(g:Gl X "isinstance")(f:X.mg "isinstance" = M)(h:PE X e L)(i:PE X (.Name y G) (tC v))(c:autoParam (ao (e::[.Name y G]) X.env=(Z_,eval e X.env)::ao [.Name y G] X.env) Ų)(a:autoParam (ao (.Name y G::[]) X.env=(Z_,eval (.Name y G) X.env)::ao [] X.env) Ų)(b:autoParam ((cn J (ao [.Name y G] X.env)).any (·.1)=false) Ų):
  PE X (.Call (.Name "isinstance" p) [e,.Name y G] [] J) (Uo (RF X.K C) (rY L (rY (tC v) Ah))):=
 qc (Tw d) g f GQ (bT h (bT i dn a) c) ſ ſ c b
def wq{K:aT}(e:d[i]?=Y (Y (.ref a)))(x:NV H a C)(k:jK K (.ref C) (.ref c)=Y b)(q:Q (.bl b) H):Uo (RF K C) (rY (iB i) (rY (tC (.ref c)) Ah)) d H Q:=
 ⟨_,e,a,.ref c,.ref c,b,rfl,x,λu r=>r,k,q⟩
def Pg{K:aT}(e:c[i]?=Y (Y (.ref a)))(x:NV H a C)(k:jK K (.ref C) (.type T)=Y b)(q:Q (.bl b) H):Uo (RF K C) (rY (iB i) (rY (tC (.ty T)) Ah)) c H Q:=
 ⟨_,e,a,.ty T,.type T,b,rfl,x,λu r=>r,k,q⟩
end
def vZ(C:ax)(k:Int):Sp:=λc H Q _=>∃a,c=[.ref a,.int k]/\NV H a C/\∀b,bC H b->Q (.bl Z') b
structure Ww(K:aT)(mg:aJ->Option ak)(C:ax)(b1 b2 b3 b4 b5:Bool):Prop where
 xi:Wv K C
 m1:∃c,mg "NoSign" = some (.ref c)/\jK K (.ref C) (.ref c)=some b1
 m2:∃c,mg "NoText" = some (.ref c)/\jK K (.ref C) (.ref c)=some b2
 m3:∃c,mg "NoPart" = some (.ref c)/\jK K (.ref C) (.ref c)=some b3
 m4:∃c,mg "Taken" = some (.ref c)/\jK K (.ref C) (.ref c)=some b4
 m5:∃c,mg "Late" = some (.ref c)/\jK K (.ref C) (.ref c)=some b5
 m6:∃c,mg "SiftError" = some (.ref c)/\jK K (.ref C) (.ref c)=some true
 m7:jK K (.ref C) (.type "ValueError")=some true
def V_:DL:=oG (NS bn) [M,Y 1] (gN 0) ic (e2 fc Fa db)
def B4{P:br}{K:aT}{f:ax}(F:gY K "_law_only" "_law_only" xV f fd)(k:KS K N)(g:Ww K N C O L J G n)(z:∀a b c,V_ [a,Y (.int i0),b,c]=Y [.bl O,.bl L,.bl J,.bl G,.bl n]):
  bZ P w K N y gK 2 f fd ["_law_error", "_law_which"] (vZ C i0):=by
 obtain⟨c1,m1,k1⟩:=g.m1
 obtain⟨c2,m2,k2⟩:=g.m2
 obtain⟨c3,m3,k3⟩:=g.m3
 obtain⟨c4,m4,k4⟩:=g.m4
 obtain⟨c5,m5,k5⟩:=g.m5
 obtain⟨c6,m6,k6⟩:=g.m6
 have Zx:100000<bc:=by rw[gF];decide
 refine F.ok xY (λvs H Q E h =>?_) (λQY A I s H vs Q E hr h =>?_)
 ·obtain⟨a,rfl,_⟩:=h
  rfl
 ·obtain⟨a,rfl,m,q⟩:=h
  refine⟨_,gP (iF (i:=2) xY.nd rfl (by first|exact ka rfl|exact rQ rfl) (ur (bT (uu (v :=.ref c1) g.xi rfl k.y (pv 0) (sZ rfl m1 rfl)) (bT (uu (v :=.ref c2) g.xi rfl k.y (pv 0) (sZ rfl m2 rfl)) (bT (uu (v :=.ref c3) g.xi rfl k.y (pv 0) (sZ rfl m3 rfl)) dn)))))
   (gP (iF (i:=2) xY.nd rfl (by first|exact ka rfl|exact rQ rfl) (DW LI (pv 2) (ur (bT (uu (v :=.ref c4) g.xi rfl k.y (pv 0) (sZ rfl m4 rfl)) (bT (uu (v :=.ref c5) g.xi rfl k.y (pv 0) (sZ rfl m5 rfl)) dn)))))
   (gP (MT (B:=⟨λ_=>M,H,[(0,a)],λ_ _=>False⟩) (t:=[]) (Z:=[0]) (i:=3) (Ź:=[]) (N:=[("_law_k" : aJ),("_law_which" : aJ)]) (src:=[M,Y 1]) (jy (outer:=aA xV) (oN:=Nq) rfl (by decide +kernel) rfl rfl) rfl xY.nd rfl rfl (JR rfl k.y (dq CB)) (gy 0) ſ (ik 0) (λC s H ex=>⟨fR (i:=0) (show ([("_law_k" : aJ),("_law_which" : aJ)]:List aJ).Nodup by decide +kernel) rfl (by first|exact ka rfl|exact rQ rfl),h_,(Gw (LX hr) (dq (dv (pv 0))) (dq (dv (pv 1))) (uz _))⟩))
   (hU (pE (FP (Gw (Z:=[0]) (LX hr) (dq (dv (pv 2))) (dq (dv (pv 3))) (uz _)) (FP (uu (v :=.ty "ValueError") g.xi rfl k.y (pv 0) (Hs rfl k.y (by decide +kernel) rfl)) (Lv (uu (v :=.ref c6) g.xi rfl k.y (pv 0) (sZ rfl m6 rfl))))))))),?_⟩
  refine wq rfl m k1 (wq rfl m k2 (wq rfl m k3 ⟨by show 3<=bc;omega,λR T =>?_⟩))
  have D:bC H (cx H R (.lst [.bl O,.bl L,.bl J])) :=.alloc T
  refine⟨_,rfl,wq rfl (m.same D) k4 (wq rfl (m.same D) k5 ⟨by show 2<=bc;omega,λX p =>?_⟩)⟩
  have V:R≠X:=λz=>by rw[z,aX]at p;cases p
  have U:=D.trans (.alloc (o :=.lst [.bl G,.bl n]) p)
  refine⟨R,X,_,_,rfl,rfl,by rw[aM V];exact aX,aX,by show 5<=bc;omega,λt x =>?_⟩
  have s3:=U.trans (.alloc (o :=.lst [.bl O,.bl L,.bl J,.bl G,.bl n]) x)
  have h3:H t=none:=U.free x
  refine⟨cx (λ_=>M) t (.lst [.bl O,.bl L,.bl J,.bl G,.bl n]),[M,Y (.int i0),Y (.lst [.bl O,.bl L,.bl J,.bl G,.bl n]),M],.nx [M,Y (.int i0),Y (.lst [.bl O,.bl L,.bl J,.bl G,.bl n]),Y (.lst [.bl O,.bl L,.bl J,.bl G,.bl n])],⟨λb o e =>?_,λb o e=>(nomatch e),s3,λb o e =>?_,λi d u e =>?_,⟨λ_=>[],λi d u e =>?_,λi d u e =>?_,λi j d c u hj di dj =>?_⟩,rfl,λi b l =>?_,λj r q hj h1 e =>?_⟩,by show ((V_ _).map L2.D.lst).map _=_;rw[z];rfl,λσ' G' H' S =>?_⟩
  ·by_cases l:b=t
   ·subst l;rw[aX]at e ⊢;exact e
   ·rw[aM l]at e;cases e
  ·by_cases l:b=t
   ·subst l;exact .inr h3
   ·rw[aM l]at e;cases e
  ·have r5:bE K (cx (λ_=>M) t (.lst [.bl O,.bl L,.bl J,.bl G,.bl n])) [.bl O,.bl L,.bl J,.bl G,.bl n] [.bl O,.bl L,.bl J,.bl G,.bl n]:=
    .cons (dB.mpr rfl) (.cons (dB.mpr rfl) (.cons (dB.mpr rfl) (.cons (dB.mpr rfl) (.cons (dB.mpr rfl) .nil))))
   match i,e with
   |1,e=>cases e;exact⟨_,rfl,bU.mpr rfl⟩|2,e=>cases e;exact⟨_,rfl,cS.mpr ⟨t,_,rfl,aX,r5⟩⟩|0,e=>cases e|3,e=>cases e|i+4,e=>simp at e
  ·have:i=0:=by simpa using u
   subst this;cases e
  ·have:i=0:=by simpa using u
   subst this;cases e
  ·have:i=0:=by simpa using u
   subst this;cases di
  ·have l:(i,b)=(0,a):=by simpa using l
   cases l
   exact⟨Ž,rfl⟩
  ·have:j=0:=by simpa using hj
   subst this;cases e
  ·refine⟨G',_,.bl Z',S.gh,S.iX,by cases O<;>cases L<;>cases J<;>cases G<;>cases n<;>rfl,λv G2 H2 E2 r2 =>?_⟩
   have:=dB.mp r2;subst this
   have B:bC H H2:=S.h0.trans E2.hh
   obtain⟨_,e0⟩:=S.pin 0 a Ž
   refine⟨Z',rfl,?_⟩
   rw[if_pos rfl]
   refine Pg e0 (m.same B) g.m7 ⟨Z',rfl,?_⟩
   rw[if_pos rfl]
   exact wq e0 (m.same B) k6 (q _ B)
def fB:DF:=eW (aC (dC "Sift" "told" pq Fa aN) (aC (dC "Sift" "waiting" gj Fa aN) (aC (dC "Sift" "is_over" lD Fa aN) aN)))
noncomputable def zK(n:Int)(a:cA):cA:=((a.set 3 M).set 4 (Y (.int n))).set 6 M
abbrev É:=e2 fc (eV 5) fB
def Hc:DG:=λa=>(kv "Sift" "take" tu Fa pi a).bind λr=>match r with
 |.er c n=>match eV 2 a with|some (.int m)=>if (c = "NoSign" /\a.length=7)/\m=n then dH É (zK n a) else M|_=>M
 |.ok _=>M
def td:=be (dF 3 Å) (be (dF 4 Å) (be (dF 5 fB) Hc))
def iq:=jD 3 7 td
abbrev ug:=lK 46
def kC:bB ["_law_sift", "_law_sign", "_law_many", "_law_kept", "_law_place", "_law_before", "e"] ["_law_sift", "_law_sign", "_law_many"] (aA ug):=by walk_at "s"
abbrev Ri(K:aT):TS:=IP (IQ (iB 6) (oB 3)) (IQ (Qy K (iB 6) "at") (oB 4))
abbrev Qz(K:aT)(C:ax):TT:=X0 (U2 (tB (G_ (vZ C 0) [] E0 (rY (iB 3) (rY (tC (.int 0)) Ah))))) (X0 (rG K [] (gM (dQ (bg yn (aC pc aN))))) (rG K [] (dA (e2 EZ pc Db))))
abbrev KO(K:aT)(B:Bs)(C a:ax):TS:=IP (Rz C 6 (WX a "take" (rH K tu) (tP K [] Fa) (Ag K [] pi)) (Ri K)) (IP (Ro (Qz K C) (iC K B [] [] [] im) KP) (iC K B [] [] [] (dH É)))
def SR.slots{K:aT}{f:cA}(S:SR K B [] G H k l)(m:B.3=[])(n:b.length=f.length)(q:∀(i:Nat) (d:D),f[i]?=Y (Y d)->∃v,b[i]?=Y (Y v)/\cJ K G d v):SR K B [] G H b f:=
 ⟨S.gh,S.g0,S.h0,S.fr,λi d _ e=>q i d e,⟨λ_=>[],λi d g=>(by cases g),λi d g=>(by cases g),λi j d c g=>(by cases g)⟩,n,λi a h=>(by rw[m]at h;cases h),λj r p o=>(by cases o)⟩
def ID(n:Int):yn [.int n]=Y (.bl Z'):=by rfl
def KN{K:aT}{W:List D}(hp:B.3=[])(n2:iy K aP "Sift" = Y (Y (.ref C2)))(nC:iy K aP "NoSign" = Y (Y (.ref C)))(xg:Nj K C "at")(S:SR K B [] G H h c)(k:WM K B [] [] D' o)(e0:eV 0 c=Y (.ins "Sift" Q ds))(hm:("take" : aJ)∉Q)(eg:aC db aN c=Y W)(eF:tu (.ins "Sift" Q ds::W)=Y (.er "NoSign" n))(a:c.length=7)(y:eV 2 c=Y (.int n))(eq:dH É (zK n c)=Y o):KO K B C C2 D' h H:=by
 refine⟨G,c,_,S.gh,S.iX,e0,λv G1 H1 F r1 =>?_⟩;obtain⟨a0,C',I,vs,rfl,n',ha,l,rs⟩:=ni.mp r1;rw[n2]at n';cases n';refine⟨a0,I,_,rfl,F.gh _ _ ha,kP (K:=K) (G:=G1) hm,G1,c,W,F.gh,S.iX.ext F,eg,λus u H2 E r2 =>?_⟩;refine⟨u,_,.er "NoSign" n,E.gh,.cons (cJ.mono E.gg _ r1) r2,eF,λx s H3 p =>?_⟩;rcases s with _|s
 ·exact absurd rfl (p.has rfl)
 obtain⟨P,dz⟩:=p.dx;obtain⟨C',O,r,U,J⟩:=p.cl;rw[nC]at r;cases r;refine⟨x,Y s,rfl,rfl,⟨O,U,J⟩,λoe0 oe t X j ea st =>?_⟩;have m:=j s _ P dz;have q:bC H2 t:=λb o e=>j b o (λz=>by rw[z,p.fr]at e;cases e) (p.same b o e)
 have S4:SR K B [] u t h c:=((S.ext F).ext E).ext ⟨q,bC.refl _,E.gh.trans q,λb o e =>.inl e⟩;have L:NV t x C:=⟨Y s,oe,ea,st,λ_ z=>by cases z;exact⟨_,m⟩⟩;have w:h.length=7:=by rw[S.len];exact a
 have q6:(C0 h 6 (Y (V.ref x)))[6]?=Y (Y (.ref x)):=a_ (by rw[w];decide);refine⟨_,q6,?_⟩;have N:((C0 h 6 (Y (V.ref x))).set 3 (Y (V.ref x)))[6]?=Y (Y (.ref x)):=by rw[ai (by decide)];exact q6
 refine⟨_,N,x,C,s,oe,_,_,rfl,ea,st,m,xg,rfl,?_⟩;show IP (Ro (Qz K C) (iC K B [] [] [] im) KP) (iC K B [] [] [] (dH É)) D' ((((C0 h 6 (Y (V.ref x))).set 3 (Y (V.ref x))).set 4 (Y (V.int n))).set 6 M) t;generalize g:(((C0 h 6 (Y (V.ref x))).set 3 (Y (V.ref x))).set 4 (Y (V.int n))).set 6 M=f;have l4:f.length=7:=by rw[<- g];simp[w]
 have s3:f[3]?=Y (Y (.ref x)):=by rw[<- g,ai (by decide),ai (by decide),a_ (by simp[w])]
 have s4:f[4]?=Y (Y (.int n)):=by rw[<- g,ai (by decide),a_ (by simp[w])]
 have T4:SR K B [] u t f (zK n c):=SR.slots S4 hp (by rw[l4];simp[zK,a]) λi d e=>by
  unfold zK at e;by_cases A:i=6
  ·subst A;rw[a_ (by simp[a])]at e;cases e
  rw[ai (bF A)]at e;by_cases R:i=4
  ·subst R;rw[a_ (by simp[a])]at e;cases e;exact⟨_,s4,bU.mpr rfl⟩
  rw[ai (bF R)]at e;by_cases T:i=3
  ·subst T;rw[a_ (by simp[a])]at e;cases e
  rw[ai (bF T)]at e;obtain⟨v,ev,rv⟩:=S4.env i d Ž e;exact⟨v,by rw[<- g,ai (bF A),ai (bF R),ai (bF T),ai (bF A)];exact ev,rv⟩
 have b4:eV 4 (zK n c)=Y (.int n):=by unfold zK eV;rw[ai (by decide),a_ (by simp[a])];rfl
 have b2:eV 2 (zK n c)=Y (.int n):=by rw[<- y];unfold zK eV;rw[ai (by decide),ai (by decide),ai (by decide)]
 refine⟨_,s3,x,rfl,L,λH5 s5=>⟨Z',rfl,?_⟩⟩;have T5:=T4.ext (G':=u) ⟨s5,bC.refl _,T4.gh.trans s5,λb o e =>.inl e⟩;refine zd ⟨u,_,Z_,T5.gh,T5.iX,?_,λG6 H6 E6 =>?_⟩
 ·simp only[gM,dQ,bg,aC,aN,b4,ae,ID];rfl
 have T6:=T5.ext E6;refine zd ⟨G6,_,Z_,T6.gh,T6.iX,?_,λG7 H7 E7 =>?_⟩
 ·simp only[dA,e2,b4,b2,ae];simp[EZ,jA,M3]
 have T7:=T6.ext E7;exact zd ⟨G7,_,o,T7,eq,k⟩
def Oc{K:aT}{i:Ends}(t:B.3=[])(q:iy K aP "Sift" = Y (Y (.ref j)))(p:iy K aP "NoSign" = Y (Y (.ref C)))(l:Nj K C "at")(h:iC K B [] [] [] Hc i g H):KO K B C j i g H:=by
 obtain⟨G,A,o,S,b,k⟩:=h;unfold Hc kv at b;obtain⟨r,a,b⟩:=aa.1 b;obtain⟨E,z,a⟩:=aa.1 a;split at a
 ·rename_i y F L;split at a
  ·rename_i v;obtain⟨rfl,u⟩:=v;obtain⟨D,w,x⟩:=aa.1 a;cases r with
   |ok d=>cases b|er c n=>
    simp only at b;split at b
    ·rename_i m f;split at b
     ·rename_i s;obtain⟨⟨rfl,e⟩,rfl⟩:=s;exact KN t q p l S k z u w x e f b
     ·cases b
    ·cases b
  ·cases a
 ·cases a
section
variable {P:br}{w:cY}{K:aT}{y:aJ->Option ak}{I:cF}{f:ax}{J:eO}
def FV(F:gY K "_law_refused" "_law_refused" ug f J)(i:zQ P w K y I "Sift" "take" 95 (rH K tu))(b:fh P w K y I "Sift" "told" 95 (hR K pq))(d:fh P w K y I "Sift" "waiting" 95 (hR K gj))(c:fh P w K y I "Sift" "is_over" 95 (hR K lD))(g:lJ P w K y I "_law_whole" 95 (hR K yn))(R:PySem.W.exmOne K (.ref C) (.ref C)=Y Z')(z:y "NoSign" = Y (.ref C))(r:iy K aP "NoSign" = Y (Y (.ref C)))(p:Nj K C "at")(O:bZ P w K y I gK 2 o j ["_law_error", "_law_which"] (vZ C 0))(l:y "_law_only" = Y (.ref o))(m:kT K (.ref o)=Z')(n:Binds K j ["_law_error", "_law_which"] []):bZ P w K y I gK 96 f J ["_law_sift", "_law_sign", "_law_many"] (hR K iq):=by
 obtain⟨Q,T,x,q,t,G,u,N,L⟩:=i.ex
 exact F.wk (Z:=[]) (Ź:=[]) (g:=td) kC ſ λD A k s H E e B v=>
  (aH (sL (i:=3) kC.nd rfl (.inl rfl) CA)
  (aH (sL (i:=4) kC.nd rfl (.inl rfl) CA)
  (aH (sL (i:=5) kC.nd rfl (.inl rfl) (Gv (jj (nR b e (vP 0)) (jj (nR d e (vP 0)) (jj (nR c e (vP 0)) sN)))))
  (by
   refine oV.imp (t:=KO K B C Q) ?_ λX S U h=>Oc v t r p h
   exact(gP (FI (L:=s.heap.objs.size) (Hm G u N e L (vP 0) (jj (vP 1) sN)) kC.nd rfl rfl R rfl z rfl rfl (λa=>gP (iF (i:=3) kC.nd rfl (.inl rfl) (pv 6)) (hU (iF (i:=4) kC.nd rfl (.inl rfl) (OO (pv 6) rfl)))))
   (gP (DU (PW.pt (Lk (Ln (RH (qH (O.mono ſ) e rfl l m n .nil mq (bT (pv 3) (bT kD dn))))) (Lk (Ta (MN (dq (PL g e rfl (jj (vP 4) sN))))) (Lj (Tb (VB e) (vQ 4) (vQ 2) (uz _))))))
   (cT (oH Wp))
   B0)
   (hU (oH (Gw (LX e) (vQ 5) (dq (Gv (jj (nR b e (vP 0)) (jj (nR d e (vP 0)) (jj (nR c e (vP 0)) sN))))) (uz _))))))))))
end
def Ur(m:aJ)(F:List D->Option (Xo D))(g:DL)(c:aJ)(i:Nat):DG:=λa=>(kv "Sift" m F Fa g a).bind λr=>match r with
 |.er d _=>if d=c/\a.length=i+2 then Y (.rt (.bl Z')) else M
 |.ok _=>M
abbrev XY(K:aT)(C a:ax)(m:aJ)(F:List D->Option (Xo D))(t:TA)(i:Nat)(k:Int):TS:=IP (Rz C (i+1) (WX a m (rH K F) (tP K [] Fa) t) (IQ (iB (i+1)) (oB i))) (UY (G_ (vZ C k) [] E0 (rY (iB i) (rY (tC (.int k)) Ah))))
def Qw{K:aT}{m:aJ}{F:List D->Option (Xo D)}(n2:iy K aP "Sift" = Y (Y (.ref C2)))(nC:iy K aP c=Y (Y (.ref C)))(hA:∀f H Q,Ag K [] g f H Q->t f H Q)(h:iC K B [] [] [] (Ur m F g c i) D' f H):XY K C C2 m F t i k0 D' f H:=by
 obtain⟨G,A,o,S,b,k⟩:=h;unfold Ur kv at b;obtain⟨r,a,b⟩:=aa.1 b;obtain⟨E,z,a⟩:=aa.1 a;split at a
 ·rename_i W ks ds;split at a
  ·rename_i v;obtain⟨rfl,u⟩:=v;obtain⟨D,w,x⟩:=aa.1 a;cases r with
   |ok d=>cases b|er d n=>
    simp only at b;split at b
    ·rename_i s;cases b;obtain⟨rfl,hl⟩:=s;refine⟨G,A,_,S.gh,S.iX,z,λv G1 H1 F N =>?_⟩;obtain⟨a0,C',I,vs,rfl,P,ha,l,rs⟩:=ni.mp N;rw[n2]at P;cases P;refine⟨a0,I,_,rfl,F.gh _ _ ha,kP (K:=K) (G:=G1) u,hA _ _ _ ⟨G1,A,D,F.gh,S.iX.ext F,w,λus T H2 E r2 =>?_⟩⟩;refine⟨T,_,.er d n,E.gh,.cons (cJ.mono E.gg _ N) r2,x,λe s H3 p =>?_⟩;obtain⟨C',O,r,U,J⟩:=p.cl;rw[nC]at r;cases r;refine⟨e,s,rfl,rfl,⟨O,U,J⟩,λoe0 oe R X j ea st =>?_⟩;have q:bC H2 R:=λb o e=>j b o (λz=>by rw[z,p.fr]at e;cases e) (p.same b o e)
     have L:NV R e C:=⟨s,oe,ea,st,λy z=>by subst z;exact⟨_,j y _ p.dx.1 p.dx.2⟩⟩;have w:f.length=i+2:=by rw[S.len];exact hl
     have q6:(C0 f (i+1) (Y (V.ref e)))[i+1]?=Y (Y (.ref e)):=a_ ž;refine⟨_,q6,?_⟩;refine⟨_,show (((C0 f (i+1) (Y (V.ref e))).set i (Y (V.ref e))).set (i+1) M)[i]?=Y (Y (.ref e)) by rw[ai (by omega),a_ (by simp;omega)],e,rfl,L,λH5 s5 =>?_⟩;have q5:=q.trans s5;exact k _ T H5 (((S.ext F).ext E).ext ⟨q5,bC.refl _,E.gh.trans q5,λb o e =>.inl e⟩).mR (dB.mpr rfl)
    ·cases b
  ·cases a
 ·cases a
def Co:=be (dF 1 Å) (Ur "shortest" sR aN "Late" 1)
def wV:=jD 1 3 Co
abbrev BM:=lK 47
def xZ:bB ["_law_sift", "_law_kept", "e"] ["_law_sift"] (aA BM):=by walk_at "s"
def tf:=be (d7 (dA (e2 (Ab Z_) db (dC "Sift" "waiting" gj Fa aN))) (dH (eK (.bl Z'))) cO) (be (dF 2 Å) (Ur "ending" zU pi "NoPart" 2))
def nT:=jD 2 4 tf
abbrev uh:=lK 48
def nZ:bB ["_law_sift", "_law_number", "_law_kept", "e"] ["_law_sift", "_law_number"] (aA uh):=by walk_at "s"
section
variable {P:br}{w:cY}{K:aT}{y:aJ->Option ak}{I:cF}{f:ax}{J:eO}
def OY(F:gY K "_law_late" "_law_late" BM f J)(i:zQ P w K y I "Sift" "shortest" 95 (rH K sR))(p:PySem.W.exmOne K (.ref C) (.ref N)=Y Z')(d:y "SiftError" = Y (.ref N))(r:iy K aP "Late" = Y (Y (.ref C)))(O:bZ P w K y I gK 2 o j ["_law_error", "_law_which"] (vZ C 4))(l:y "_law_only" = Y (.ref o))(m:kT K (.ref o)=Z')(n:Binds K j ["_law_error", "_law_which"] []):bZ P w K y I gK 96 f J ["_law_sift"] (hR K wV):=by
 obtain⟨Q,T,x,q,t,G,u,V,L⟩:=i.ex
 exact F.wk (Z:=[]) (Ź:=[]) (g:=Co) xZ ſ λD A k s H E e B v=>
  (aH (sL (i:=1) xZ.nd rfl (.inl rfl) CA)
  (by
   refine oV.imp (t:=XY K C Q "shortest" sR Ah 1 4) ?_ λX S U h=>Qw t r (λf H Q ⟨G,a,c,g,e,b,k⟩=>by cases b;exact k _ G H (.refl g) .nil) h
   exact(gP (FI (L:=s.heap.objs.size) (Li G u V e L (vP 0)) xZ.nd rfl rfl p rfl d rfl rfl (λa=>hU (iF (i:=1) xZ.nd rfl (.inl rfl) (pv 2))))
   (hU (pE (qH (O.mono ſ) e rfl l m n .nil mq (bT (pv 1) (bT kD dn))))))))
def FX(F:gY K "_law_no_part" "_law_no_part" uh f J)(i:zQ P w K y I "Sift" "ending" 95 (rH K zU))(b:fh P w K y I "Sift" "waiting" 95 (hR K gj))(d:PySem.W.exmOne K (.ref C) (.ref N)=Y Z')(c:y "SiftError" = Y (.ref N))(r:iy K aP "NoPart" = Y (Y (.ref C)))(O:bZ P w K y I gK 2 o j ["_law_error", "_law_which"] (vZ C 2))(l:y "_law_only" = Y (.ref o))(m:kT K (.ref o)=Z')(n:Binds K j ["_law_error", "_law_which"] []):bZ P w K y I gK 96 f J ["_law_sift", "_law_number"] (hR K nT):=by
 obtain⟨Q,T,x,q,t,G,u,V,L⟩:=i.ex
 exact F.wk (Z:=[]) (Ź:=[]) (g:=tf) nZ ſ λD A k s H E e B v=>
  (aH (by have k:=nZ.nd;walk_at "o")
  (aH (sL (i:=2) nZ.nd rfl (.inl rfl) CA)
  (by
   refine oV.imp (t:=XY K C Q "ending" zU (Ag K [] pi) 2 2) ?_ λX S U h=>Qw t r (λf H Q z=>z) h
   exact(gP (FI (L:=s.heap.objs.size) (Hm G u V e L (vP 0) (jj (vP 1) sN)) nZ.nd rfl rfl d rfl c rfl rfl (λa=>hU (iF (i:=2) nZ.nd rfl (.inl rfl) (pv 3))))
   (hU (pE (qH (O.mono ſ) e rfl l m n .nil mq (bT (pv 2) (bT kD dn)))))))))
end
abbrev yC:pK:=lK 41
def pR:bB ["_law_signs_here", "_law_nodes_here", "_law_here", "_law_sign"] ["_law_signs_here"] (aA yC):=by walk_at "s"
def vi(z:List Int×Int)(s:D):Option (List Int×Int):=match s with
 |.tup [.str k,.str _]=>if k=xa then (if 0<=z.2->z.2<z.1.length then Y (z.1++[z.2],(z.1.length:Int)) else M) else if k=w_/\0<=z.2/\z.2<z.1.length then Y z else M
 |.tup [.str k]=>if k=si/\0<=z.2 then (z.1[z.2.toNat]?).map λp=>(z.1,p) else M
 |_=>M
noncomputable def Ee:List D->List Int×Int->Option (List Int×Int)
 |[],z=>Y z|s::a,z=>(vi z s).bind (Ee a)
def vB(b:List D):Option Nat:=match b with
 |[.lst a]=>if a.length<=100000 then (Ee a ([],-1)).map λz=>z.1.length else M
 |_=>M
def Ed{s:D}(e:vi z s=Y y):(∃x,s=.tup [.str xa,.str x]/\(0<=z.2->z.2<z.1.length)/\y=(z.1++[z.2],(z.1.length:Int)))\/(∃x,s=.tup [.str w_,.str x]/\0<=z.2/\z.2<z.1.length/\y=z)\/∃p,s=.tup [.str si]/\0<=z.2/\z.1[z.2.toNat]?=Y p/\y=(z.1,p):=by
 unfold vi at e;split at e
 ·split at e
  ·rename_i k x h;split at e<;>cases e
   rename_i g;exact .inl ⟨x,by rw[h],g,rfl⟩
  ·split at e<;>cases e
   rename_i k x _ h;exact .inr (.inl ⟨x,by rw[h.1],h.2.1,h.2.2,rfl⟩)
 ·split at e
  ·rename_i k h;obtain⟨p,q,e⟩:=au.1 e;cases e;exact .inr (.inr ⟨p,by rw[h.1],h.2,q,rfl⟩)
  ·cases e
 ·cases e
inductive ND (v H:Hp) (N:ax) (n:Nat) (o:Option V) (p:Int):Prop
 |mk t x a b l m:o=some (.ref t)->H t=some (.tup [.str x,.ref a,.ref b,.int p])->H a=some (.lst l)->H b=some (.lst m)->l.length<=n->m.length<=n->v a=none->v b=none->a≠N->b≠N->ND v H N n o p
structure NR(v H:Hp)(N:ax)(n:Nat)(ps:List Int)(cs:List V):Prop where
 new:v N=none
 lst:H N=some (.lst cs)
 len:cs.length=ps.length
 nd:∀(j:Nat) (p:Int),ps[j]?=some p->ND v H N n cs[j]? p
def NR.le(h:NR v H N n d f)(k:n<=m):NR v H N m d f:=⟨h.new,h.lst,h.len,λj p e=>by
 obtain⟨t,x,a,b,l,r,w,u,s,q,z,y,o,i,g,c⟩:=h.nd j p e;exact⟨t,x,a,b,l,r,w,u,s,q,ž,ž,o,i,g,c⟩⟩
def NR.put{r:List V}(h:NR v H N n i E)(k:n<=m)(e:H q=Y (.lst l))(z:q≠N)(w:r.length<=m):NR v (cx H q (.lst r)) N m i E:=by
 refine⟨h.new,by rw[aM (bF z)];exact h.lst,h.len,λj p u =>?_⟩;obtain⟨t,x,a,b,s,o,O,c,Q,L,K,J,I,G,F,d⟩:=h.nd j p u;have f:∀a l,H a=Y (.lst l)->l.length<=n->∃l,cx H q (.lst r) a=Y (.lst l)/\l.length<=m:=λa l y P=>by
  by_cases g:a=q
  ·subst g;exact⟨r,aX,w⟩
  ·exact⟨l,by rw[aM g];exact y,ž⟩
 obtain⟨_,D,B⟩:=f a s Q K;obtain⟨_,C,A⟩:=f b o L J;exact⟨t,x,a,b,_,_,O,by rw[aM λg=>by rw[g,e]at c;cases c];exact c,D,C,B,A,I,G,F,d⟩
def NR.push{a:ax}{x:aJ}{p:Int}(h:NR v H N n l m)(S:bC v H)(F:H a=M)(P:cx H a (.lst []) b=M)(I:cx (cx H a (.lst [])) b (.lst []) t=M):NR v (cx (cx (cx (cx H a (.lst [])) b (.lst [])) t (.tup [.str x,.ref a,.ref b,.int p])) N (.lst (m++[.ref t]))) N n (l++[p]) (m++[.ref t]):=by
 have y:b≠a:=λz=>by rw[z,aX]at P;cases P
 have k:H b=none:=by rw[aM y]at P;exact P
 have s:t≠b:=λz=>by rw[z,aX]at I;cases I
 rw[aM s]at I;have u:t≠a:=λz=>by rw[z,aX]at I;cases I
 rw[aM u]at I;have c:∀d,H d=M->d≠N:=λd z g=>by rw[g,h.lst]at z;cases z
 have g:∀d o,d≠N->H d=Y o->cx (cx (cx (cx H a (.lst [])) b (.lst [])) t (.tup [.str x,.ref a,.ref b,.int p])) N (.lst (m++[.ref t])) d=Y o:=λd o z e=>by rw[aM z,aM (bf e I),aM (bf e k),aM (bf e F)];exact e
 refine⟨h.new,aX,by simp[h.len],λj B f =>?_⟩;by_cases q:j<l.length
 ·rw[cC q]at f;obtain⟨t',A,R,Q,D,C,O,r,T,L,K,J,G,E,w,i⟩:=h.nd j B f;exact⟨t',A,R,Q,D,C,by rw[cC (by rw[h.len];exact q)];exact O,g _ _ (λz=>by rw[z,h.lst]at r;cases r) r,g _ _ w T,g _ _ i L,K,J,G,E,w,i⟩
 ·have q2:=(aq.mp f).1;have:j=l.length:=by simp at q2;omega
  subst this;simp at f;subst f;exact⟨t,x,a,b,[],[],by rw[<- h.len];simp,by rw[aM (c t I),aX],by rw[aM (c a F),aM (bF u),aM (bF y),aX],by rw[aM (c b k),aM (bF s),aX],cy _,cy _,S.free F,S.free k,c a F,c b k⟩
def Lg{K:aT}(r:cJ K G (.tup [.str k,.str x]) y):∃b,y=.ref b/\G b=Y (.tup [.str k,.str x]):=by
 obtain⟨b,w,rfl,g,r⟩:=eP.mp r;obtain⟨_,_,rfl,c,r⟩:=bH.mp r;obtain⟨_,_,rfl,a,r⟩:=bH.mp r;cases cP.mp r;cases gu.mp c;cases gu.mp a;exact⟨b,rfl,g⟩
def RE{K:aT}(r:cJ K G (.tup [.str k]) y):∃b,y=.ref b/\G b=Y (.tup [.str k]):=by
 obtain⟨b,w,rfl,g,r⟩:=eP.mp r;obtain⟨_,_,rfl,a,r⟩:=bH.mp r;cases cP.mp r;cases gu.mp a;exact⟨b,rfl,g⟩
inductive W4 (K:aT) (F:List D->Option Nat) (e:List V) (H:Hp) (Q:VK) (_x:XK):Prop
 |mk G ds n:bC G H->bE K G ds e->F ds=some n->(∀a l b,bC H b->b a=some (.lst l)->l.length=n->Q (.ref a) b)->W4 K F e H Q _x
def LN{P:br}{K:aT}{f:ax}(F:gY K "_law_nodes" "_law_nodes" yC f fd)(J:mg "len" = M):bZ P w K mg base gK 1 f fd ["_law_signs_here"] (W4 K vB):=by
 have inv:∀W n,vB W=Y n->∃O zf,W=[.lst O]/\O.length<=100000/\Ee O ([],-1)=Y zf/\n=zf.1.length:=λW d I=>by
  unfold vB at I
  split at I
  ·split at I
   ·obtain⟨z,e,I⟩:=au.1 I
    exact⟨_,z,rfl,by assumption,e,I.symm⟩
   ·cases I
  ·cases I
 refine F.ok pR (λvs H Q E h =>?_) (λQY A outer s H vs Q E hr h =>?_)
 ·obtain⟨G,W,d,gh,r,I,_⟩:=h
  obtain⟨O,zf,rfl,_⟩:=inv W d I
  exact r.length.symm
 ·obtain⟨G0,W,d,gh,r,I,q⟩:=h
  obtain⟨O,zf,rfl,hz,ez,rfl⟩:=inv W d I
  obtain⟨v0,r0,rfl,rs,rn⟩:=bH.mp r
  have:=cP.mp rn;subst this
  obtain⟨a0,us,rfl,ga0,ru⟩:=cS.mp rs
  have Zx:100000<bc:=by rw[gF];decide
  refine⟨_,gP (iF (i:=1) pR.nd rfl (ka rfl) (ur dn))
   (gP (iF (i:=2) pR.nd rfl (ka rfl) (Hr Fi kD))
   (gP (RJ kU rfl (Hq (pv 0)) (fR (i:=3) pR.nd rfl (ka rfl))
    (hU (DU (x3 QK (ri sx (pv 3) kD (λ_ _=>rfl)) FN (uz _))
     (gP (mf (xc fX PySem.F.slot_list_append PySem.F.type_list_append kO (pv 1) (bT (FK (bT (ri sx (pv 3) kD (λ_ _=>rfl)) (bT (ur dn) (bT (ur dn) (bT (pv 2) dn))))) dn)))
     (gP (DU (x3 QJ (pv 2) (Hr Fi kD) (uz _))
      (hU (mf (xc fX PySem.F.slot_list_append PySem.F.type_list_append kO (ri sx (ri vl (pv 1) (pv 2) (λ_ _=>rfl)) kD (λ_ _=>rfl)) (bT (DW FR (qc nE rfl J PySem.boot_len (bT (pv 1) dn)) kD) dn))))
      B0)
     (hU (iF (i:=2) pR.nd rfl (ka rfl) (DW FR (qc nE rfl J PySem.boot_len (bT (pv 1) dn)) kD)))))
     (hU (DU (x3 QK (ri sx (pv 3) kD (λ_ _=>rfl)) FN (uz _))
      (hU (mf (xc fX PySem.F.slot_list_append PySem.F.type_list_append kO (ri sx (ri vl (pv 1) (pv 2) (λ_ _=>rfl)) kD (λ_ _=>rfl)) (bT (ri sx (pv 3) kD (λ_ _=>rfl)) dn))))
      (hU (iF (i:=2) pR.nd rfl (ka rfl) (ri sx (ri vl (pv 1) (pv 2) (λ_ _=>rfl)) kD (λ_ _=>rfl)))))))))
   (hU (pE (pv 1))))),?_⟩
  refine⟨cy _,λB hN =>?_⟩
  refine⟨1,rfl,?_⟩
  have Z1:∀ {C:Hp},bC H C->m_ K C a0 us:=λE =>.of (E _ _ (gh _ _ ga0))
  have s0:bC H (cx H B (.lst [])) :=.alloc hN
  refine⟨_,rfl,a0,rfl,⟨us,Z1 s0⟩,?_⟩
  refine Mx (K:=K) (a:=a0) (xs:=us) (λi σ C=>bC H C/\∃S D g v3,σ=[Y (.ref a0),Y (.ref B),Y (.int g),v3]/\NR H C B i D S/\D.length<=i/\Ee (O.drop i) (D,g)=Y zf)
   ⟨s0,[],[],-1,M,rfl,⟨hN,aX,rfl,λj p e=>by simp at e⟩,aQ _,ez⟩ (λi σ C _ ⟨L,_⟩=>Z1 L) ?_ ?_
  ·rintro E i y σ U hy ⟨L,S,D,g,v3,rfl,k,YR,u⟩ hE
   have hlu:i<us.length:=(aq.mp hy).1
   have Mo:i<O.length:=by rw[ru.length];exact hlu
   obtain⟨y',hy',ry⟩:=ru.get (ba Mo)
   rw[hy]at hy';cases hy'
   rw[dX Mo]at u
   obtain⟨z',es,u⟩:=aa.1 (show (vi (D,g) O[i]).bind (Ee (O.drop (i+1)))=Y zf from u)
   have at_:∀ {C n qs W},NR H C B n qs W->0<=g->∀p,qs[g.toNat]?=Y p->∃t x a b l m,oU W g=Y (.ref t)/\C t=Y (.tup [.str x,.ref a,.ref b,.int p])/\C a=Y (.lst l)/\C b=Y (.lst m)/\l.length<=n/\m.length<=n/\H a=M/\H b=M/\a≠B/\b≠B:=fun {C n qs W} h N p e=>by
    obtain⟨t,x,a,b,l,m,c1,X,c3,c4,c5,c6,c7,c8,c9,T⟩:=h.nd _ p e
    have e:g=((g.toNat:Nat):Int):=by omega
    exact⟨t,x,a,b,l,m,by rw[e];exact jl c1,X,c3,c4,c5,c6,c7,c8,c9,T⟩
   rcases Ed es with⟨x,ek,N,rfl⟩|⟨x,ek,N,hh,rfl⟩|⟨p,ek,N,ep,rfl⟩
   ·
    rw[ek]at ry
    obtain⟨b,rfl,gb⟩:=Lg ry
    have R:∀ {C:Hp},bC U C->C b=Y (.tup [.str xa,.str x]):=λs=>s _ _ (L _ _ (gh _ _ gb))
    refine⟨_,rfl,b,_,_,_,rfl,rfl,.of (R (bC.refl _)),jl (j:=0) rfl,rfl,_,rfl,?_⟩
    refine Ga (λ_ =>?_) (λk=>absurd (decide_eq_true rfl) k)
    refine⟨_,rfl,.inl ⟨rfl,_,.of k.lst⟩,_,rfl,b,_,_,_,rfl,rfl,.of (R (bC.refl _)),jl (j:=1) rfl,cy _,λa ha=>⟨cy _,λb' QQ=>⟨_,rfl,(by show 4<=bc;omega),λt ht =>?_⟩⟩⟩
    have v:=k.push (x:=x) (p:=g) L ha QQ ht
    have sA:bC U (cx (cx (cx U a (.lst [])) b' (.lst [])) t (.tup [.str x,.ref a,.ref b',.int g])):=((bC.alloc ha).trans (.alloc QQ)).trans (.alloc ht)
    have sH:bC H (cx (cx (cx (cx U a (.lst [])) b' (.lst [])) t (.tup [.str x,.ref a,.ref b',.int g])) B (.lst (S++[.ref t]))):=λp o e=>by
     rw[aM (bf e k.new)];exact sA _ _ (L _ _ e)
    refine⟨B,_,_,rfl,rfl,sA _ _ k.lst,(by rw[k.len];omega),?_⟩
    generalize cx (cx (cx (cx U a (.lst [])) b' (.lst [])) t (.tup [.str x,.ref a,.ref b',.int g])) B (.lst (S++[.ref t]))=H2 at v sH
    have e1:(((S++[V.ref t]).length:Int)-1)=(D.length:Int):=by rw[v.len];simp
    refine⟨_,rfl,1,rfl,g,-1,rfl,rfl,_,rfl,?_⟩
    by_cases hc:0<=g
    ·refine Ga (λ_ =>?_) (λz=>absurd (decide_eq_true ž) z)
     have hl:g<D.length:=N hc
     obtain⟨t',x',a',b2,l,m,ix,X,c3,c4,c5,c6,c7,c8,c9,T⟩:=at_ v hc _ (ba (by simp;omega))
     refine⟨_,rfl,_,rfl,B,_,g,_,rfl,rfl,.of v.lst,ix,t',_,2,_,rfl,rfl,.of X,jl (j:=2) rfl,.inl ⟨rfl,_,.of c4⟩,_,rfl,B,_,rfl,.inl (.of v.lst),_,_,rfl,rfl,b2,_,_,rfl,rfl,c4,ž,?_⟩
     have hn3:=v.put (r:=m++[V.int (((S++[V.ref t]).length:Int)-1)]) (fA i) c4 T (by simp;omega)
     refine⟨_,rfl,B,_,rfl,.inl (.of hn3.lst),_,_,rfl,rfl,?_⟩
     refine hE _ _ ?_;exact⟨λp o e=>by rw[aM (bf e c8)];exact sH _ _ e,_,_,(D.length:Int),Y (.ref b),by rw[<- e1];rfl,hn3,by simp;omega,u⟩
    ·refine Ga (λz=>absurd (of_decide_eq_true z) ž) (λ_ =>?_)
     refine⟨_,rfl,B,_,rfl,.inl (.of v.lst),_,_,rfl,rfl,?_⟩
     refine hE _ _ ?_;exact⟨sH,_,_,(D.length:Int),Y (.ref b),by rw[<- e1];rfl,v.le (fA i),by simp;omega,u⟩
   ·
    have N:0<=g:=N
    have hh:g<D.length:=hh
    rw[ek]at ry
    obtain⟨b,rfl,gb⟩:=Lg ry
    have R:U b=Y (.tup [.str w_,.str x]):=L _ _ (gh _ _ gb)
    refine⟨_,rfl,b,_,_,_,rfl,rfl,.of R,jl (j:=0) rfl,rfl,_,rfl,?_⟩
    refine Ga (λk=>absurd (V.str.inj (of_decide_eq_true k)) (λz=>sOT z.symm)) (λ_ =>?_)
    refine⟨_,rfl,b,_,_,_,rfl,rfl,.of R,jl (j:=0) rfl,rfl,_,rfl,?_⟩
    refine Ga (λ_ =>?_) (λk=>absurd (decide_eq_true rfl) k)
    obtain⟨t',x',a',b2,l,m,ix,X,c3,c4,c5,c6,c7,c8,c9,T⟩:=at_ k N _ (ba ž)
    refine⟨_,rfl,_,rfl,B,_,g,_,rfl,rfl,.of k.lst,ix,t',_,1,_,rfl,rfl,.of X,jl (j:=1) rfl,.inl ⟨rfl,_,.of c3⟩,_,rfl,b,_,_,_,rfl,rfl,.of R,jl (j:=1) rfl,a',_,_,rfl,rfl,c3,ž,?_⟩
    refine hE _ _ ?_;exact⟨λp o e=>by rw[aM (bf e c7)];exact L _ _ e,S,D,g,_,rfl,k.put (fA i) c3 c9 (by simp;omega),ž,u⟩
   ·
    have N:0<=g:=N
    rw[ek]at ry
    obtain⟨b,rfl,gb⟩:=RE ry
    have R:U b=Y (.tup [.str si]):=L _ _ (gh _ _ gb)
    refine⟨_,rfl,b,_,_,_,rfl,rfl,.of R,jl (j:=0) rfl,rfl,_,rfl,?_⟩
    refine Ga (λk=>absurd (V.str.inj (of_decide_eq_true k)) (λz=>sOC z.symm)) (λ_ =>?_)
    refine⟨_,rfl,b,_,_,_,rfl,rfl,.of R,jl (j:=0) rfl,rfl,_,rfl,?_⟩
    refine Ga (λk=>absurd (V.str.inj (of_decide_eq_true k)) (λz=>sTC z.symm)) (λ_ =>?_)
    obtain⟨t',x',a',b2,l,m,ix,X,c⟩:=at_ k N _ ep
    refine⟨_,rfl,_,rfl,B,_,g,_,rfl,rfl,.of k.lst,ix,t',_,3,_,rfl,rfl,.of X,jl (j:=3) rfl,?_⟩
    refine hE _ _ ?_;exact⟨L,S,D,p,_,rfl,k.le (fA i),ž,u⟩
  ·rintro σ U ⟨L,S,D,g,v3,rfl,k,YR,u⟩
   rw[<- ru.length,oZ]at u
   cases u
   exact⟨_,rfl,q _ _ U L k.lst k.len⟩
noncomputable def Xl(F:List D->Option Nat)(g:DL):DF:=λa=>(g a).bind λb=>(F b).map λ(n:Nat) =>.int (n:Int)
def Wn{X:Cx}{F:List D->Option Nat}(h:lJ X.prog X.w X.K X.mg X.base x k (W4 X.K F))(I:eH k X.A)(V:Gl X x)(L:Gl X "len")(z:X.mg "len" = M)(N:PA X [e] (Ag X.K j g))(A:autoParam ((x==("__debug__" : aJ))=false) Ű)(B:autoParam (ao [e] X.env=(Z_,eval e X.env)::ao [] X.env) Ų)(C:autoParam ((cn u (ao [] X.env)).any (·.1)=false) Ų)(D:autoParam (ao [.Call (.Name x p) [e] [] u] X.env=(Z_,eval (.Call (.Name x p) [e] [] u) X.env)::ao [] X.env) Ų)(E:autoParam ((cn J (ao [] X.env)).any (·.1)=false) Ų):PE X (.Call (.Name "len" q) [.Call (.Name x p) [e] [] u] [] J) (tP X.K j (Xl F g)):=by
 obtain⟨f,fd,ps,c,m,i,b⟩:=h.ex;refine(qc nE L z PySem.boot_len (bT (qH c I V m i b .nil mq N A B C) dn D) ſ ſ D E).imp ?_;rintro T H Q ⟨G,y,d,O,t,e,q⟩;unfold Xl at e;obtain⟨v,R,e⟩:=aa.1 e;obtain⟨n,P,rfl⟩:=au.1 e;refine⟨G,y,v,O,t,R,λU w H1 E r =>?_⟩;refine⟨w,v,n,E.gh,by rw[bV];exact r,P,λa l b s S K =>?_⟩;exact⟨a,l,rfl,.inl (.of S),q _ w b (E.trans ⟨s,bC.refl _,E.gh.trans s,λb o e =>.inl e⟩) (bU.mpr (by rw[K]))⟩
def yo:=gW 12
def yk:DG:=
  (d7 (xS [3] [] (gM (dQ (bg iq (aC bd (aC (eV 9) (aC (e2 d9 np u8) aN)))))))
     im
     cO)
abbrev pp:=aC (e2 lZ (e1 yY u8) pc) (aC (e2 d9 (eV 8) pc) (aC pc aN))
abbrev xL:=e2 fD (eV 7) (e2 d9 (eV 8) nb)
abbrev Â:=e2 fD (e2 iU (eV 7) (eK (.int 100))) (eK (.int 4))
abbrev Ch:=e2 bX (eF (gE (aC xL pp))) Â
abbrev wl:=aC (eF (HL (eV 5) pN (pS (e2 d9 np u8)))) aN
abbrev Ö:=aC Fa (aC (e2 d9 (eK (.int 34)) np) aN)
def yj:DG:=
  (be (eS (bW "Sift" "take" dZ my 3 (jx (mP (e2 bX (eV 5) np)) kZ)))
   (be (dF 7 (bg xo (aC (bg kQ Ö) (aC PP aN))))
   (be (dF 8 (Xl vB wl))
   (be (d7 (xS [3] [] (gM (dQ (bg nT (aC bd (aC Ch aN))))))
   im
   cO)
   (d7 (dA (e2 fc (bg pk wl) t3))
   (jw (iL (eF (gE (aC (eW (aC ce (aC (eK (.str (af "a"))) aN))) (aC (eW (aC No (aC (eK (.str (af ""))) aN))) (aC UV aN)))))) (gN 9)
    yk)
   cO)))))
abbrev EQ:=aC (eW (aC No (aC (eK (.str (af "x"))) aN))) (aC t3 aN)
abbrev ul:=qz (gM (dQ (bg wV Æ))) (qz (gM (dQ (bg iq (aC bd (aC UV (aC t3 aN)))))) (gM (dQ (bg iq (aC bd EQ)))))
abbrev Ä:=aC Fa (aC (eK (.int 500)) (aC (eK (.int 20)) aN))
abbrev Ü:=aC Fa (aC (eK (.int 100)) (aC dL aN))
def HG:DG:=
  (be (dF 1 (bg vA zn))
  (be (kN 2 (sI kl Ü))
  (be (BS 3 "Sift" dZ km (rj yo 2 (aC Re pi)))
  (be (dF 4 (e2 fD (bg kQ (aC Fa (aC dL aN))) (e2 O1 (eK (.int 10)) (eK (.int 59)))))
  (be (d7 (xS [3] [] ul)
  im
  cO)
  (be (dF 5 (eF (sI tw (aC (eF (sI kl Ä)) pi))))
  (be (jw (NS (bg jc (aC (eV 5) aN))) (gN 6)
  yj)
  (dH (eK (.bl Z'))))))))))
def EM:List D->Option D:=jD 1 10 HG
abbrev vW:pK:=lK 49
def La:bB ["_law_script", "_law_some", "_law_draws", "_law_sift", "_law_far", "_law_signs_here", "_law_k", "_law_number", "_law_many", "_law_sign"] ["_law_script"] (aA vW):=⟨rfl,rfl,rfl,by decide +kernel,rfl,by decide +kernel,by decide +kernel⟩
section
variable {P:br}{w:cY}{K:aT}{b:aJ->Option ak}{d:cF}{f:ax}{e:eO}
def R5(F:gY K "law" "law" vW f e)(v:KS K b)(g:uK P w K b d "Sift" 98 (spT K dZ km))(m:lJ P w K b d "_law_names" 99 (hR K vA))(k:lJ P w K b d "_law_steps" 99 (Dw K 0 yo))(o:lJ P w K b d "_law_cells" 99 (Oi K kl))(l:lJ P w K b d "_law_signs" 99 (Oi K tw))(n:lJ P w K b d "_law_depth" 99 (hR K pk))(c:fh P w K b d "Sift" "take" 99 (spT K dZ my))(p:lJ P w K b d "_law_late" 99 (hR K wV))(h:lJ P w K b d "_law_refused" 99 (hR K iq))(i:lJ P w K b d "_law_no_part" 99 (hR K nT))(j:lJ P w K b d "_law_cell_at" 99 (hR K kQ))(a:lJ P w K b d "_law_nodes" 99 (W4 K vB))(r:lJ P w K b d "_law_mix" 99 (hR K xo)):bZ P w K b d gK 100 f e ["_law_script"] (hR K EM):=
 F.wk (Z:=[2,3]) (Ź:=[2,3]) (g:=HG) La ſ λy A q s H E u B x=>
  have t:=La.nd
  (aH ż (aH ż (aH (MS (i:=3) (fk:=HJ) t rfl (.inl rfl) g u rfl ż) (aH ż (aH ż (aH ż (aH (Cy kU rfl ż (λB x=>ż) (λB x=>(aH ż (aH ż (aH (sL (i:=8) t rfl (.inl rfl) (Wn a u rfl rfl v.y ż)) ż))))) ż)))))))
end
end K21
namespace K21
open PySem L2
structure EL where
 q:List D
 bits:Int
 nk:List lL
 nv:List D
 tk:List lL
 tv:List D
 jC:Int
 uX:Int
 inner:Int
 cV:List D
 asks:List D
noncomputable def fY(f:EL):D :=.ins "Facts" ["question", "bits", "by_name", "by_text", "starred", "stars", "inner", "leads", "asks"] [.lst f.q,.int f.bits,.iZ f.nk f.nv,.iZ f.tk f.tv,.int f.jC,.int f.uX,.int f.inner,.lst f.cV,.lst f.asks]
structure jI where
 number:Int
 named:Int
 atoms:Int
 fits:Int
 bw:Int
 ra:Int
 qh:Int
 ha:Int
noncomputable abbrev rk:List aJ:=["number", "named", "atoms", "fits", "reached", "reached_around", "hoped", "hoped_around"]
noncomputable abbrev rl(r:jI):List D:=[.int r.number,.int r.named,.int r.atoms,.int r.fits,.int r.bw,.int r.ra,.int r.qh,.int r.ha]
def cq(r:jI):D :=.ins "Row" rk (rl r)
structure uJ where
 num:Int
 place:Int
 Z:Int
 around:Int
noncomputable def cX(r:uJ):D :=.tup [.int r.num,.int r.place,.int r.Z,.int r.around]
structure jL where
 f:EL
 full:Int
 qo:Int
 taken:Int
 opened:Int
 rows:List jI
 rests:List uJ
def bK(c:jL):D :=.ins "Coming" ["facts", "full", "able", "taken", "opened", "rows", "rests"] [fY c.f,.int c.full,.int c.qo,.int c.taken,.int c.opened,.lst (c.rows.map cq),.lst (c.rests.map cX)]
noncomputable abbrev bA:=uR
noncomputable abbrev bO:=cZ
noncomputable abbrev bN:=uQ
def zk(c:jL)(p a f:Int)(h:(bA (bO p (bA a c.f.inner)) f).natAbs<2 ^ 64):dD [bK c,.int p,.int a,.int f]=Y (.int (bA (bO p (bA a c.f.inner)) f*2)):=by
 have e:dD [bK c,.int p,.int a,.int f]=((qe (.int (bA (bO p (bA a c.f.inner)) f)) (.int 1)).map DO.rt).bind mQ:=by kernel_rfl
 rw[e];simp only[qe];rw[if_pos ⟨by decide,by decide,h⟩];rfl
def zc(h:0<n):Cc n (-1)=Y (n-1):=by
 unfold Cc;rw[if_neg (by decide),if_pos (by omega)]
 congr 1
 omega
def qM{n k:Nat}(h:k<n):Cc n (k:Int)=Y k:=by
 unfold Cc;rw[if_pos (by omega),if_pos (by omega)]
 congr 1
def Nc(b:List a)(x:a):oU (b++[x]) (-1)=Y x:=by
 unfold oU;rw[zc (by simp)];simp
def aR{ρ':cA}(e:g ρ=Y (.nx ρ')):be g h ρ=h ρ':=by unfold be;rw[e];rfl
def ig{f:DF}{a:cA}{d:D}(e:f a=Y d):dF i f a=Y (.nx (a.set i (Y d))):=by unfold dF;rw[e];rfl
def mS{f:DF}{ρ':cA}{d:D}(r:res b c a=ρ')(e:f ρ'=Y d)(p:sk d=Z'):lI b c f a=Y d:=by unfold lI;rw[r,e];simp[p]
def qy{f:DT}{ρ':cA}(r:res c d a=ρ')(e:f ρ'=Y b):xS c d f a=Y b:=by unfold xS;rw[r,e]
abbrev oC(c:jL):Option D:=Y (.obj aF (bK c))
noncomputable abbrev eB(k:Nat):Option D:=Y (.eB 0 [.fld "rows",.ix k])
def VH(c:jL)(b:uJ)(r pr:jI):uJ:=
 let a:=bA (bO b.Z b.around/2) r.fits
 ⟨b.num,b.place-1,bA (bA a (bN c.f.inner)) pr.qh,bA (bO (bA a c.f.inner) b.around) pr.ha⟩
def IZ{c:jL}(h:c.rows.getLast? = Y a):oU (c.rows.map cq) (-1)=Y (cq a):=by
 obtain⟨b,e⟩:=Kq.mp h;rw[e,cp];exact Nc _ _
def B8(c:jL)(b:uJ)(r a:jI)(h:c.rows.getLast? = Y a):gk [bK c,cX b,cq r]=Y (cX (VH c b r a)):=by
 show (iI [Y (bK c),Y (cX b),Y (cq r),M,M,M,M]).bind mQ=_;unfold iI;rw[aR (ig (d:=cq a) (show (oU (c.rows.map cq) (-1):Option D)=Y (cq a) from IZ h))];kernel_rfl
abbrev ut:=fx []
def BY{c:jL}{k:Nat}{r r':jI}{f:aJ}{d:D}(h:c.rows[k]?=Y r)(m:eV 0 a=oC c)(i:eV j a=eB k)(l:e a=Y d)(g:D.ins "Row" (iQ f d rk (rl r)).1 (iQ f d rk (rl r)).2=cq r'):
  gi Z' j "Row" f e a=Y (.nx (a.set 0 (oC { c with rows:=c.rows.set k r' }))):=by
 have b:(c.rows.map cq)[k]?=Y (cq r):=by rw[aY,h];rfl
 unfold gi Ho xR;rw[l,i];simp only[ae];rw[m];simp only[ae];have p:xF "Row" aF (bK c) [.fld "rows",.ix k]=Y ([],rk,rl r):=by
  have o:fx [.fld "rows",.ix k] (bK c)=Y (cq r):=by
   have:fx [.fld "rows",.ix k] (bK c)=((c.rows.map cq)[k]?).bind ut:=by kernel_rfl
   rw[this,b];rfl
  unfold xF;rw[o];kernel_rfl
 rw[p];simp only[ae];rw[if_pos ⟨rfl,by decide⟩,g];have n:mm (cq r') [.fld "rows",.ix k] (bK c)=bK { c with rows:=c.rows.set k r' }:=by
  have:mm (cq r') [.fld "rows",.ix k] (bK c)=D.ins "Coming" ["facts", "full", "able", "taken", "opened", "rows", "rests"] [fY c.f,D.int c.full,D.int c.qo,D.int c.taken,D.int c.opened,(match (c.rows.map cq)[k]? with|none=>D.lst (c.rows.map cq)|some _=>D.lst ((c.rows.map cq).set k (cq r'))),D.lst (c.rests.map cX)]:=by kernel_rfl
  rw[this,b];unfold bK;simp only[vG]
 rw[n]
noncomputable abbrev ck:List aJ:=["facts", "full", "able", "taken", "opened", "rows", "rests"]
abbrev cl(c:jL):List D:=[fY c.f,.int c.full,.int c.qo,.int c.taken,.int c.opened,.lst (c.rows.map cq),.lst (c.rests.map cX)]
def uI{c:jL}{n:Int}{k:Nat}(g:eV 0 a=oC c)(f:b a=Y (.int n))(d:Cc c.rows.length n=Y k):sj i 0 "Coming" "rows" b a=Y (.nx (a.set i (eB k))):=by
 have e:r8 "Coming" "rows" 0 a=Y (tm,ck,cl c,D.lst (c.rows.map cq)):=by unfold r8 xR;rw[g];kernel_rfl
 unfold sj;rw[e,f];show (Cc (c.rows.map cq).length n).map _=_;rw[aw,d];rfl
def Hj{c:jL}{k:Nat}{r r':jI}{f:aJ}{m n:Int}(i:c.rows[k]?=Y r)(p:eV 0 a=oC c)(l:eV j a=eB k)(o:e a=Y (.int n))(h:(rk.zip (rl r)).lookup f=Y (.int m))(g:D.ins "Row" (iQ f (.int (b m n)) rk (rl r)).1 (iQ f (.int (b m n)) rk (rl r)).2=cq r'):
  eE Z' j "Row" f b e a=Y (.nx (a.set 0 (oC { c with rows:=c.rows.set k r' }))):=by
 have d:(c.rows.map cq)[k]?=Y (cq r):=by rw[aY,i];rfl
 unfold eE Ho xR;rw[o,l];simp only[ae];rw[p];simp only[ae];have t:xF "Row" aF (bK c) [.fld "rows",.ix k]=Y ([],rk,rl r):=by
  have s:fx [.fld "rows",.ix k] (bK c)=Y (cq r):=by
   have:fx [.fld "rows",.ix k] (bK c)=((c.rows.map cq)[k]?).bind ut:=by kernel_rfl
   rw[this,d];rfl
  unfold xF;rw[s];kernel_rfl
 rw[t];simp only[ae,h];rw[if_pos ⟨rfl,by decide⟩,g];have q:mm (cq r') [.fld "rows",.ix k] (bK c)=bK { c with rows:=c.rows.set k r' }:=by
  have:mm (cq r') [.fld "rows",.ix k] (bK c)=D.ins "Coming" ["facts", "full", "able", "taken", "opened", "rows", "rests"] [fY c.f,D.int c.full,D.int c.qo,D.int c.taken,D.int c.opened,(match (c.rows.map cq)[k]? with|none=>D.lst (c.rows.map cq)|some _=>D.lst ((c.rows.map cq).set k (cq r'))),D.lst (c.rests.map cX)]:=by kernel_rfl
  rw[this,d];unfold bK;simp only[vG]
 rw[q]
def oJ{c:jL}{k:Nat}{r:jI}(a:c.rows[k]?=Y r):(c.rows.map cq)[k]?=Y (cq r):=by rw[aY,a];rfl
structure Qb(f:EL)(fit lift:Int->Int->Int):Prop where
 fit:∀n a,dS [fY f,.int n,.int a]=some (.int (fit n a))
 lift:∀n a,ir [fY f,.int n,.int a]=some (.int (lift n a))
def KZ(c b:Int->Int->Int)(p:Nat)(r d:jI)(a:List jI):List jI:=
 (a.set (p+1) { r with fits:=c r.named r.atoms }).set p { d with atoms:=bO d.atoms (b r.named r.atoms) }
def Du(w:Qb c.f e a){p:Nat}{f:jI}(s:c.rows[p+1]?=Y r)(z:c.rows[p]?=Y f)(d A l g:Option D):
  jk [oC c,Y (.int ((p:Int)+1)),d,A,l,g]=Y (.nx [oC { c with rows:=KZ e a p r f c.rows },Y (.int p),Y (.bl (bA (a r.named r.atoms) (bN f.atoms) != 0)),eB (p+1),Y (.int (a r.named r.atoms)),eB p]):=by
 have v:p+1<c.rows.length:=(aq.mp s).1;unfold jk;rw[aR (uI (c:=c) (n:=(p:Int)+1) (k:=p+1) rfl rfl (by have:=qM (n:=c.rows.length) (k:=p+1) v;simpa using this))];simp only[bo,bp];have q:res [0] [3,5] [oC c,Y (.int ((p:Int)+1)),d,eB (p+1),l,g]=[Y (bK c),Y (.int ((p:Int)+1)),d,((c.rows.map cq)[p+1]?).bind ut,l,WU [oC c,Y (.int ((p:Int)+1)),d,eB (p+1),l,g] g]:=by kernel_rfl
 rw[oJ s]at q;simp only[ae,fx]at q;rw[aR (BY (c:=c) (k:=p+1) (r:=r) (r':={ r with fits:=e r.named r.atoms }) (d :=.int (e r.named r.atoms)) s rfl rfl (mS q (show dS [fY c.f,.int r.named,.int r.atoms]=_ from w.fit _ _) rfl) (by kernel_rfl))];simp only[bo,bp];generalize h:({ c with rows:=c.rows.set (p+1) { r with fits:=e r.named r.atoms } }:jL)=b;have u:b.f=c.f:=by rw[<- h]
 have m:b.rows[p+1]?=Y { r with fits:=e r.named r.atoms }:=by rw[<- h];simp[v]
 have k:b.rows[p]?=Y f:=by rw[<- h];simp only;rw[ai (by omega)];exact z
 have o:res [0] [3,5] [oC b,Y (.int ((p:Int)+1)),d,eB (p+1),l,g]=[Y (bK b),Y (.int ((p:Int)+1)),d,((b.rows.map cq)[p+1]?).bind ut,l,WU [oC b,Y (.int ((p:Int)+1)),d,eB (p+1),l,g] g]:=by kernel_rfl
 rw[oJ m]at o;simp only[ae,fx]at o;rw[aR (ig (d :=.int (a r.named r.atoms)) (mS o (show ir [fY b.f,.int r.named,.int r.atoms]=_ from by rw[u];exact w.lift _ _) rfl))];simp only[bo,bp];show be (tY 1 (λi j=>i-j) u8) _ [oC b,Y (.int ((p:Int)+1)),d,eB (p+1),Y (.int (a r.named r.atoms)),g]=_;rw[aR (ρ':=[oC b,Y (.int p),d,eB (p+1),Y (.int (a r.named r.atoms)),g]) ?y]
 case y=>
  have:tY 1 (λi j=>i-j) u8 [oC b,Y (.int ((p:Int)+1)),d,eB (p+1),Y (.int (a r.named r.atoms)),g]=Y (.nx [oC b,Y (.int ((p:Int)+1-1)),d,eB (p+1),Y (.int (a r.named r.atoms)),g]):=by kernel_rfl
  rw[this,AD]
 have t:p<b.rows.length:=(aq.mp k).1;rw[aR (uI (c:=b) (n:=(p:Int)) (k:=p) rfl rfl (qM t))];simp only[bo,bp];have n:res [0] [3,5] [oC b,Y (.int p),d,eB (p+1),Y (.int (a r.named r.atoms)),eB p]=[Y (bK b),Y (.int p),d,((b.rows.map cq)[p+1]?).bind ut,Y (.int (a r.named r.atoms)),((b.rows.map cq)[p]?).bind ut]:=by kernel_rfl
 rw[oJ m,oJ k]at n;simp only[ae,fx]at n;have x:lI [0] [3,5] (e2 EZ kt t3) [oC b,Y (.int p),d,eB (p+1),Y (.int (a r.named r.atoms)),eB p]=Y (.bl (bA (a r.named r.atoms) (bN f.atoms) != 0)):=by
  refine mS n ?_ rfl;have:e2 EZ kt t3 [Y (bK b),Y (.int p),d,Y (cq { r with fits:=e r.named r.atoms }),Y (.int (a r.named r.atoms)),Y (cq f)]=EZ (.int (bA (a r.named r.atoms) (bN f.atoms))) (.int 0):=by kernel_rfl
  rw[this];simp[EZ,jA,M3,bne]
 show be (dF 2 _) _ [oC b,Y (.int p),d,eB (p+1),Y (.int (a r.named r.atoms)),eB p]=_;rw[aR (ig x)];simp only[bo,bp];show eE Z' 5 "Row" "atoms" cZ pc [oC b,Y (.int p),Y (.bl (bA (a r.named r.atoms) (bN f.atoms) != 0)),eB (p+1),Y (.int (a r.named r.atoms)),eB p]=_;rw[Hj (c:=b) (k:=p) (r:=f) (r':={ f with atoms:=bO f.atoms (a r.named r.atoms) }) (m:=f.atoms) (n:=a r.named r.atoms) k rfl rfl rfl rfl (by kernel_rfl)];rw[<- h];rfl
def Dv(fit lift:Int->Int->Int):Bool->Nat->List jI->List jI
 | true,p+1,a=>match a[p+1]?,a[p]? with
  |some r,Y b=>Dv fit lift (bA (lift r.named r.atoms) (bN b.atoms) != 0) p (KZ fit lift p r b a)|_,_=>a
 |_,_,a=>a
def KY:(KZ fit lift p r b a).length=a.length:=by unfold KZ;simp
theorem u6:∀(p n:Nat) (c:jL) (f:Bool) (d b a:Option D),Qb c.f fit lift->p<n->p<c.rows.length->∃v u j i g,
  qw (kL (dQ Db) At) jk n [oC c,Y (.int p),Y (.bl f),d,b,a]=Y (.nx [oC { c with rows:=Dv fit lift f p c.rows },v,u,j,i,g])
 |p,0,c,f,d,b,a,_,h,_=>by omega
 | 0,n+1,c,f,d,b,a,k,h,o=>by
  refine⟨Y (.int 0),Y (.bl f),d,b,a,?_⟩;rw[qw];have e:kL (dQ Db) At [oC c,Y (.int ((0:Nat):Int)),Y (.bl f),d,b,a]=Y false:=by cases f<;>rfl
  rw[e];simp only[ae,eM,if_false];cases f<;>rfl
 | p+1,n+1,c,f,d,b,a,k,h,o=>by
  rw[qw];cases f with
  |false=>refine⟨Y (.int ((p+1:Nat):Int)),Y (.bl Z_),d,b,a,?_⟩;have e:kL (dQ Db) At [oC c,Y (.int ((p+1:Nat):Int)),Y (.bl Z_),d,b,a]=Y false:=rfl;rw[e];rfl
  |true=>
   have l:c.rows[p+1]?=Y c.rows[p+1]:=ba o;have m:c.rows[p]?=Y (c.rows[p]' ž):=ba ž;have e:kL (dQ Db) At [oC c,Y (.int ((p+1:Nat):Int)),Y (.bl Z'),d,b,a]=Y true:=by have:kL (dQ Db) At [oC c,Y (.int ((p+1:Nat):Int)),Y (.bl Z'),d,b,a]=dA (λ_=>t2 (.int ((p+1:Nat):Int)) (.int 0)) []:=rfl;rw[this];simp[dA,t2]
   rw[e];simp only[ae,if_true];have r:=Du k l m (Y (.bl Z')) d b a;rw[show ((p+1:Nat):Int)=(p:Int)+1 by omega,r];simp only[ae];obtain⟨t,s,j,i,g,q⟩:=u6 p n { c with rows:=KZ fit lift p c.rows[p+1] (c.rows[p]' ž) c.rows } (bA (lift c.rows[p+1].named c.rows[p+1].atoms) (bN (c.rows[p]' ž).atoms) != 0) (eB (p+1)) (Y (.int (lift c.rows[p+1].named c.rows[p+1].atoms))) (eB p) k ž (by simp only[KY];omega);refine⟨t,s,j,i,g,q.trans ?_⟩;simp only[Dv,l,m]
abbrev È:=mu aF
def AU{c:jL}(b:Qb c.f fit lift)(e:0<c.rows.length)(d:c.rows.length<1000000):dy [bK c]=Y (.dg,bK { c with rows:=Dv fit lift Z' (c.rows.length-1) c.rows }):=by
 show (kh [oC c,M,M,M,M,M]).bind È=_;unfold kh;have a:lI [0] [3,5] Ù [oC c,M,M,M,M,M]=Y (.int ((c.rows.length-1:Nat):Int)):=by
  have:lI [0] [3,5] Ù [oC c,M,M,M,M,M]=Y (.int (((c.rows.map cq).length:Int)-1)):=by kernel_rfl
  rw[this,aw]
  congr 2
  omega
 rw[aR (ig a)];simp only[bo,bp];rw[aR (ig (d :=.bl Z') rfl)];simp only[bo,bp];obtain⟨j,i,h,g,f,q⟩:=u6 (c.rows.length-1) 1000000 c Z' M M M b ž ž;unfold FG;rw[q];kernel_rfl
def CS(fit lift:Int->Int->Int)(c:jL)(atoms:Int)(r:jI):jL:=if bA atoms (bN r.atoms) != 0 then { c with rows:=Dv fit lift Z' (c.rows.length-1) (c.rows.set (c.rows.length-1) { r with atoms:=bO r.atoms atoms }) } else c
def CQ{c:jL}(j:Qb c.f fit lift){r:jI}(b:c.rows[c.rows.length-1]?=Y r)(i:c.rows.length<1000000)(atoms:Int):gn [bK c,.int atoms]=Y (.dg,bK (CS fit lift c atoms r)):=by
 have f:0<c.rows.length:=by have:=(aq.mp b).1;omega
 show (iM [oC c,Y (.int atoms),M]).bind È=_;unfold iM;rw[aR (uI (c:=c) (n:= -1) (k:=c.rows.length-1) rfl rfl (zc f))];simp only[bo,bp];have a:res [0] [2] [oC c,Y (.int atoms),eB (c.rows.length-1)]=[Y (bK c),Y (.int atoms),((c.rows.map cq)[c.rows.length-1]?).bind ut]:=by kernel_rfl
 rw[oJ b]at a;simp only[ae,fx]at a;have h:xS [0] [2] (dQ Ú) [oC c,Y (.int atoms),eB (c.rows.length-1)]=Y (bA atoms (bN r.atoms) != 0):=qy a (by kernel_rfl);unfold d7;rw[h];simp only[ae];unfold CS;by_cases e:(bA atoms (bN r.atoms) != 0)=Z'
 ·rw[if_pos e,if_pos e];rw[aR (Hj (c:=c) (k:=c.rows.length-1) (r:=r) (r':={ r with atoms:=bO r.atoms atoms }) (m:=r.atoms) (n:=atoms) b rfl rfl rfl rfl (by kernel_rfl))];simp only[bo,bp];have d:=AU (c:={ c with rows:=c.rows.set (c.rows.length-1) { r with atoms:=bO r.atoms atoms } }) j (by simpa using f) (by simpa using i);simp only[GU]at d;unfold sw eS;have g:bW "Coming" "spread" aF dy 0 kZ [oC { c with rows:=c.rows.set (c.rows.length-1) { r with atoms:=bO r.atoms atoms } },Y (.int atoms),eB (c.rows.length-1)]=(dy [bK { c with rows:=c.rows.set (c.rows.length-1) { r with atoms:=bO r.atoms atoms } }]).map λq=>(q.1,[Y (.obj aF q.2),Y (.int atoms),M]):=by kernel_rfl
  rw[g,d];kernel_rfl
 ·rw[if_neg e,if_neg e];kernel_rfl
def Dd(b p a f:Int):Int:=bA (bO p (bA a b)) f*2
def pA(a:Int)(b r:jI):jI:={ r with bw:=Dd a b.bw b.ra r.fits,ra:=bO b.ra (Dd a b.bw b.ra r.fits) }
abbrev Cs(a b:Int)(c r:jI):Bool:=bA (bA (Dd a c.bw c.ra r.fits) (bN r.bw)) b != 0
def Dx{p:Nat}(n:c.rows[p+1]?=Y r)(v:c.rows[p]?=Y a)(F:(bA (bO a.bw (bA a.ra c.f.inner)) r.fits).natAbs<2 ^ 64)(b:List D)(y:b.length<eC)(A z l:Option D):
  gS [oC c,Y (.lst b),Y (.int ((p:Int)+1)),A,z,l]=Y (.nx [oC { c with rows:=c.rows.set (p+1) (pA c.f.inner a r) },Y (.lst (b++if Cs c.f.inner c.full a r then [.int r.number] else [])),Y (.int ((p:Int)+1)),eB p,eB (p+1),Y (.int r.bw)]):=by
 have w:p+1<c.rows.length:=(aq.mp n).1;unfold gS;have E:e2 lZ Db u8 [oC c,Y (.lst b),Y (.int ((p:Int)+1)),A,z,l]=Y (.int (p:Int)):=by
  have:e2 lZ Db u8 [oC c,Y (.lst b),Y (.int ((p:Int)+1)),A,z,l]=Y (.int ((p:Int)+1-1)):=by kernel_rfl
  rw[this,AD]
 rw[aR (uI (c:=c) (n:=(p:Int)) (k:=p) rfl E (qM (by omega)))];simp only[bo,bp];rw[aR (uI (c:=c) (n:=(p:Int)+1) (k:=p+1) rfl rfl (by have:=qM (n:=c.rows.length) (k:=p+1) w;simpa using this))];simp only[bo,bp];have s:res [0] [4,3] [oC c,Y (.lst b),Y (.int ((p:Int)+1)),eB p,eB (p+1),l]=[Y (bK c),Y (.lst b),Y (.int ((p:Int)+1)),((c.rows.map cq)[p]?).bind ut,((c.rows.map cq)[p+1]?).bind ut,l]:=by kernel_rfl
 rw[oJ n,oJ v]at s;simp only[ae,fx]at s;rw[aR (ig (d :=.int r.bw) (mS s (by kernel_rfl) rfl))];simp only[bo,bp];have q:res [0] [4,3] [oC c,Y (.lst b),Y (.int ((p:Int)+1)),eB p,eB (p+1),Y (.int r.bw)]=[Y (bK c),Y (.lst b),Y (.int ((p:Int)+1)),((c.rows.map cq)[p]?).bind ut,((c.rows.map cq)[p+1]?).bind ut,Y (.int r.bw)]:=by kernel_rfl
 rw[oJ n,oJ v]at q;simp only[ae,fx]at q;rw[aR (BY (c:=c) (k:=p+1) (r:=r) (r':={ r with bw:=Dd c.f.inner a.bw a.ra r.fits }) (d :=.int (Dd c.f.inner a.bw a.ra r.fits)) n rfl rfl (mS q (show dD [bK c,.int a.bw,.int a.ra,.int r.fits]=_ from zk _ _ _ _ F) rfl) (by kernel_rfl))];simp only[bo,bp];generalize f:({ c with rows:=c.rows.set (p+1) { r with bw:=Dd c.f.inner a.bw a.ra r.fits } }:jL)=g;have i:g.rows[p+1]?=Y { r with bw:=Dd c.f.inner a.bw a.ra r.fits }:=by rw[<- f];simp[w]
 have j:g.rows[p]?=Y a:=by rw[<- f];simp only;rw[ai (by omega)];exact v
 have o:res [0] [4,3] [oC g,Y (.lst b),Y (.int ((p:Int)+1)),eB p,eB (p+1),Y (.int r.bw)]=[Y (bK g),Y (.lst b),Y (.int ((p:Int)+1)),((g.rows.map cq)[p]?).bind ut,((g.rows.map cq)[p+1]?).bind ut,Y (.int r.bw)]:=by kernel_rfl
 rw[oJ i,oJ j]at o;simp only[ae,fx]at o;rw[aR (BY (c:=g) (k:=p+1) (r':=pA c.f.inner a r) (d :=.int (bO a.ra (Dd c.f.inner a.bw a.ra r.fits))) i rfl rfl (mS o (by kernel_rfl) rfl) (by kernel_rfl))];simp only[bo,bp];generalize h:({ g with rows:=g.rows.set (p+1) (pA c.f.inner a r) }:jL)=d;have t:d.rows[p+1]?=Y (pA c.f.inner a r):=by rw[<- h,<- f];simp[w]
 have u:d.rows[p]?=Y a:=by rw[<- h];simp only;rw[ai (by omega)];exact j
 have k:d={ c with rows:=c.rows.set (p+1) (pA c.f.inner a r) }:=by rw[<- h,<- f];simp
 have x:d.full=c.full:=by rw[k]
 have m:res [0] [4,3] [oC d,Y (.lst b),Y (.int ((p:Int)+1)),eB p,eB (p+1),Y (.int r.bw)]=[Y (bK d),Y (.lst b),Y (.int ((p:Int)+1)),((d.rows.map cq)[p]?).bind ut,((d.rows.map cq)[p+1]?).bind ut,Y (.int r.bw)]:=by kernel_rfl
 rw[oJ t,oJ u]at m;simp only[ae,fx]at m;have C:xS [0] [4,3] (dQ lv) [oC d,Y (.lst b),Y (.int ((p:Int)+1)),eB p,eB (p+1),Y (.int r.bw)]=Y (Cs c.f.inner d.full a r):=qy m (by kernel_rfl);show d7 _ _ _ [oC d,Y (.lst b),Y (.int ((p:Int)+1)),eB p,eB (p+1),Y (.int r.bw)]=_;unfold d7;rw[C,x];simp only[ae];rw[<- k];by_cases e:Cs c.f.inner c.full a r=Z'
 ·rw[if_pos e,if_pos e];unfold qD;have B:lI [0] [4,3] (bD "Row" "number" pc) [oC d,Y (.lst b),Y (.int ((p:Int)+1)),eB p,eB (p+1),Y (.int r.bw)]=Y (.int r.number):=mS m (by kernel_rfl) rfl;rw[B];show (if b.length<eC then _ else M)=_;rw[if_pos y];rfl
 ·rw[if_neg e,if_neg e];simp only[bV];rfl
def lP(a:Int):jI->List jI->List jI
 |_,[]=>[]|pr,r::b=>pA a pr r::lP a (pA a pr r) b
def vf(a b:Int):jI->List jI->List Int
 |_,[]=>[]|pr,r::c=>(if Cs a b pr r then [r.number] else [])++vf a b (pA a pr r) c
def WB(a:Int):jI->List jI->Prop
 |_,[]=>True|pr,r::b=>(bA (bO pr.bw (bA pr.ra a)) r.fits).natAbs<2 ^ 64/\WB a (pA a pr r) b
theorem Dz(a:Int):∀(c:jI) (b:List jI),(lP a c b).length=b.length
 |_,[]=>rfl|c,r::b=>by simp[lP,Dz a (pA a c r) b]
theorem D8(a b:Int):∀(d:jI) (c:List jI),(vf a b d c).length<=c.length
 |_,[]=>aQ _|d,r::c=>by have:=D8 a b (pA a d r) c;unfold vf;split<;>simp<;>omega
def AY(b:Int)(n:Nat):nh b (n+1)=.int b::nh (b+1) n:=by
 unfold nh;rw[vF];simp[fo];intro a _;omega
def oE{ρ1:cA}(h:b d c=Y ρ1)(f:g ρ1=Y (.nx a)):gD b g (d::e) c=gD b g e a:=by
 rw[gD,h];simp only[ae,f]
theorem yE:∀(rs pre:List jI) (pr:jI) (c:jL) (ds:List D) (a2 a3 a4 a5:Option D),c.rows=pre++pr::rs->WB c.f.inner pr rs->ds.length+rs.length<eC->∃b2 b3 b4 b5,
  gD (gN 2) gS (nh ((pre.length:Int)+1) rs.length) [oC c,Y (.lst ds),a2,a3,a4,a5]=Y (.nx [oC { c with rows:=pre++pr::lP c.f.inner pr rs },Y (.lst (ds++(vf c.f.inner c.full pr rs).map D.int)),b2,b3,b4,b5])
 |[],pre,pr,c,ds,a2,a3,a4,a5,e,h,hd=>by refine⟨a2,a3,a4,a5,?_⟩;show Y (DO.nx _)=_;simp only[lP,vf,C3,bV,<- e]
 | r::rs,pre,pr,c,ds,a2,a3,a4,a5,e,h,hd=>by
  have hr:c.rows[pre.length+1]?=Y r:=by rw[e,kW (by omega)];simp
  have hp:c.rows[pre.length]?=Y pr:=by rw[e,kW (by omega)];simp
  simp only[aU]at hd ⊢;have hb:=Dx hr hp h.1 ds ž a3 a4 a5;rw[AY,oE (ρ1:=[oC c,Y (.lst ds),Y (.int ((pre.length:Int)+1)),a3,a4,a5]) rfl hb];obtain⟨b2,b3,b4,b5,q⟩:=yE rs (pre++[pr]) (pA c.f.inner pr r) { c with rows:=c.rows.set (pre.length+1) (pA c.f.inner pr r) } (ds++if Cs c.f.inner c.full pr r then [.int r.number] else []) (Y (.int ((pre.length:Int)+1))) (eB pre.length) (eB (pre.length+1)) (Y (.int r.bw)) (by simp only[e];rw[List.set_append_right _ _ (by omega)];simp) h.2 (by split<;>simp<;>omega);refine⟨b2,b3,b4,b5,?_⟩;simp only[aS,aU,jU,Int.natCast_add,Int.natCast_one,Int.natCast_zero,Int.zero_add]at q;rw[q];rw[lP,vf];simp only[bY,uP,dk,cp];have:(if Cs c.f.inner c.full pr r=Z' then [D.int r.number] else [])=Ke D.int (if Cs c.f.inner c.full pr r=Z' then [r.number] else []):=by split<;>rfl
  rw[this]
def SA{f:DF}{i:Int}(c:f a=Y (.int i))(b:g a=Y (.int j))(h : -(2 ^ 62)<=i/\i<2 ^ 62 /\ -(2 ^ 62)<=j/\j<2 ^ 62):QP f g a=Y (nh i (j-i).toNat):=by
 simp only[QP,c,b,ae];rw[if_pos h]
def CI:1000000<=eC:=by unfold eC;decide
def IU(e:c.rows=t::a)(h:WB c.f.inner t a)(m:a.length<1000000):ko [bK c]=Y ((vf c.f.inner c.full t a).map D.int,bK { c with rows:=t::lP c.f.inner t a }):=by
 show (ki [oC c,M,M,M,M,M]).bind (QI aF)=_;unfold ki;have g:kN 1 Ñ [oC c,M,M,M,M,M]=Y (.nx [oC c,Y (.lst []),M,M,M,M]):=by kernel_rfl
 rw[aR g];obtain⟨l,k,j,i,q⟩:=yE a [] t c [] M M M M (by simpa using e) h (by have:=CI;simp only[jU];omega);have f:lI [0] [4,3] (bg jc Uf) [oC c,Y (.lst []),M,M,M,M]=Y (.int (a.length+1:Int)):=by
  have:lI [0] [4,3] (bg jc Uf) [oC c,Y (.lst []),M,M,M,M]=Y (.int ((c.rows.map cq).length:Int)):=by kernel_rfl
  rw[this,aw,e];simp
 have d:QP u8 Ç [oC c,Y (.lst []),M,M,M,M]=Y (nh 1 a.length):=by have:=SA (f:=eK (.int 1)) (i:=1) rfl f ⟨ſ,ſ,Qp ſ (show (0:Int)<=(a.length:Int)+1 by omega),AB (show (a.length:Int)+1<=1000000 by omega) ſ⟩;rw[this,AD,iT]
 have b:jw (QP u8 Ç) (gN 2) gS [oC c,Y (.lst []),M,M,M,M]=Y (.nx [oC { c with rows:=t::lP c.f.inner t a },Y (.lst ((vf c.f.inner c.full t a).map D.int)),l,k,j,i]):=by unfold jw;rw[d];simpa using q
 rw[aR b];kernel_rfl
abbrev Mp(r:jI)(a:uJ):Bool:=bA r.bw a.Z != 0||bA r.ra a.around != 0
def mv(a:List jI)(b:uJ):Bool:=match a[b.place.toNat]? with|some r=>Mp r b|none=>Z_
abbrev TL(a:List jI)(b:uJ):Prop:=0<=b.place/\b.place<a.length
theorem IL(h:TL c.rows rs)(fs ks:List D)(hf:fs.length<eC)(hk:ks.length<eC)(a4:Option D):
  ∃b4,dO [oC c,Y (.lst fs),Y (.lst ks),Y (cX rs),a4]=Y (.nx [oC c,Y (.lst (fs++if mv c.rows rs then [.int rs.num] else [])),Y (.lst (ks++if mv c.rows rs then [] else [cX rs])),Y (cX rs),b4]):=by
 obtain⟨k,hk'⟩:∃k:Nat,rs.place=k:=⟨rs.place.toNat,ž⟩;have hl:k<c.rows.length:=by have:=h.2;omega
 have hr:c.rows[k]?=Y c.rows[k]:=ba hl;generalize c.rows[k]=r at hr;have hm:mv c.rows rs=Mp r rs:=by unfold mv;rw[hk',iT,hr]
 rw[hm];refine⟨eB k,?_⟩;unfold dO;have q0:e2 bX bd u8 [oC c,Y (.lst fs),Y (.lst ks),Y (cX rs),a4]=Y (.int rs.place):=by kernel_rfl
 rw[hk']at q0;rw[aR (uI (c:=c) (n:=(k:Int)) (k:=k) rfl q0 (qM hl))];simp only[bo,bp];have q1:res [0] [4] [oC c,Y (.lst fs),Y (.lst ks),Y (cX rs),eB k]=[Y (bK c),Y (.lst fs),Y (.lst ks),Y (cX rs),((c.rows.map cq)[k]?).bind ut]:=by kernel_rfl
 rw[oJ hr]at q1;simp only[ae,fx]at q1;have q2:xS [0] [4] ln [oC c,Y (.lst fs),Y (.lst ks),Y (cX rs),eB k]=Y (Mp r rs):=by
  refine qy q1 ?_;have e1:dQ (e2 eG (bD "Row" "reached" pc) Ì) [Y (bK c),Y (.lst fs),Y (.lst ks),Y (cX rs),Y (cq r)]=Y (bA r.bw rs.Z != 0):=by kernel_rfl
  have e2:dQ Ã [Y (bK c),Y (.lst fs),Y (.lst ks),Y (cX rs),Y (cq r)]=Y (bA r.ra rs.around != 0):=by kernel_rfl
  unfold ln qz Mp;rw[e1,e2];cases (bA r.bw rs.Z != 0)<;>rfl
 unfold d7;rw[q2];simp only[ae];cases Mp r rs with
 |true=>show (if fs.length<eC then _ else M)=_;rw[if_pos hf];simp
 |false=>show (if ks.length<eC then _ else M)=_;rw[if_pos hk];simp
theorem Dq:∀(d:List uJ) (c:jL) (g f:List D) (j i:Option D),(∀a∈d,TL c.rows a)->g.length+d.length<eC->f.length+d.length<eC->∃l k,
  gD (gN 3) dO (d.map cX) [oC c,Y (.lst g),Y (.lst f),j,i]=Y (.nx [oC c,Y (.lst (g++(d.filter (mv c.rows)).map λa=>D.int a.num)),Y (.lst (f++(d.filter λa=> !mv c.rows a).map cX)),l,k])
 |[],c,g,f,j,i,h,n,m=>⟨j,i,by simp[gD]⟩
 |a::d,c,g,f,j,i,h,n,m=>by simp only[aU]at n m;obtain⟨b,p⟩:=IL (h a (az ..)) g f ž ž i;rw[bh,oE (ρ1:=[oC c,Y (.lst g),Y (.lst f),Y (cX a),i]) rfl p];obtain⟨l,k,q⟩:=Dq d c (g++if mv c.rows a then [.int a.num] else []) (f++if mv c.rows a then [] else [cX a]) (Y (cX a)) b (λy o=>h y (ay _ o)) (by split<;>simp<;>omega) (by split<;>simp<;>omega);refine⟨l,k,q.trans ?_⟩;cases e:mv c.rows a<;>simp[e]
theorem zh:∀(a:List Int),Be (a.map D.int)=Y a
 |[]=>rfl|n::a=>by simp[Be,zh a]
def yD{f:DF}(e:f b=Y (.lst (a.map D.int)))(h:a.length<64):me f b=Y ((vY a).map D.int):=by
 unfold me;rw[e];simp only[ae,zh];rw[if_pos h]
def Fm(c:jL)(rows:List jI):jL:={ c with rows:=rows,rests:=c.rests.filter λa=> !mv rows a }
def K8{F:List D->Option (List D×D)}(d:F [bK c]=Y (a,bK b)):yK 1 0 "Coming" "settle" aF F [oC c,M,M,M,M]=Y (.nx [oC b,Y (.lst a),M,M,M]):=by
 have:yK 1 0 "Coming" "settle" aF F [oC c,M,M,M,M]=(F [bK c]).map λr =>.nx [Y (.obj aF r.2),Y (.lst r.1),M,M,M]:=by kernel_rfl
 rw[this,d];rfl
def iG{n:Nat}(h:n<2000):n<eC:=bx (Nat.lt_trans h ſ) CI
def An{c:jL}(e:c.rows=t::a)(h:WB c.f.inner t a)(A:∀y∈c.rests,TL c.rows y)(B:(vf c.f.inner c.full t a++(c.rests.filter (mv (t::lP c.f.inner t a))).map (·.num)).length<64)(F:a.length<64)(G:c.rests.length<1000):
  dI [bK c]=Y (.lst ((vY (vf c.f.inner c.full t a++(c.rests.filter (mv (t::lP c.f.inner t a))).map (·.num))).map D.int),bK (Fm c (t::lP c.f.inner t a))):=by
 show (hW [oC c,M,M,M,M]).bind È=_;unfold hW;have z:=IU e h ž;have C:=D8 c.f.inner c.full t a;generalize vf c.f.inner c.full t a=i at *
 generalize n:t::lP c.f.inner t a=rows at *
 have o:rows.length=c.rows.length:=by rw[<- n,e];simp[Dz]
 generalize k:({ c with rows:=rows }:jL)=f at *
 have j:f.rows=rows:=by rw[<- k]
 have b:f.rests=c.rests:=by rw[<- k]
 rw[aR (K8 z)];rw[aR (ρ':=[oC f,Y (.lst (i.map D.int)),Y (.lst []),M,M]) ?w]
 case w=>kernel_rfl
 obtain⟨m,l,v⟩:=Dq f.rests f (i.map D.int) [] M M (by rw[b,j];intro y x;have:=A y x;exact⟨this.1,by rw[o];exact this.2⟩) (iG (by rw[b,aw];omega)) (iG (by rw[b,jU];omega));have u:jw (iL Î) (gN 3) dO [oC f,Y (.lst (i.map D.int)),Y (.lst []),M,M]=gD (gN 3) dO (f.rests.map cX) [oC f,Y (.lst (i.map D.int)),Y (.lst []),M,M]:=by kernel_rfl
 rw[aR (u.trans v)];simp only[dk];rw[b,j];have s:(i.map D.int++(c.rests.filter (mv rows)).map λa=>D.int a.num)=(i++(c.rests.filter (mv rows)).map (·.num)).map D.int:=by simp[fo]
 rw[s];generalize i++(c.rests.filter (mv rows)).map (·.num)=g at *
 rw[aR (ρ':=[oC (Fm c rows),Y (.lst (g.map D.int)),Y (.lst ((c.rests.filter λa=> !mv rows a).map cX)),m,l]) ?r]
 case r=>rw[<- k];kernel_rfl
 have q:me db [oC (Fm c rows),Y (.lst (g.map D.int)),Y (.lst ((c.rests.filter λa=> !mv rows a).map cX)),m,l]=Y ((vY g).map D.int):=yD rfl B;generalize (vY g).map D.int=E at *
 have p:(dM (mP (eF (me db))) [oC (Fm c rows),Y (.lst (g.map D.int)),Y (.lst ((c.rests.filter λa=> !mv rows a).map cX)),m,l])=((me db [oC (Fm c rows),Y (.lst (g.map D.int)),Y (.lst ((c.rests.filter λa=> !mv rows a).map cX)),m,l]).map D.lst).bind λd=>Y (.rm d [oC (Fm c rows),Y (.lst (g.map D.int)),Y (.lst ((c.rests.filter λa=> !mv rows a).map cX)),m,l]):=by unfold dM mP eF;cases me db [oC (Fm c rows),Y (.lst (g.map D.int)),Y (.lst ((c.rests.filter λa=> !mv rows a).map cX)),m,l]<;>rfl
 rw[p,q];kernel_rfl
def Gg{r r':jI}{f:aJ}{d:D}(h:eV i a=Y (cq r))(g:b a=Y d)(c:D.ins "Row" (iQ f d rk (rl r)).1 (iQ f d rk (rl r)).2=cq r'):lq i "Row" f b a=Y (.nx (a.set i (Y (cq r')))):=by
 have e:Bh "Row" i a=Y (rk,rl r):=by unfold Bh;rw[h];kernel_rfl
 unfold lq;rw[g,e];simp only[ae];rw[if_pos (by decide),c]
def CK(fit:Int->Int->Int)(c:jL)(d a b:Int)(e:jI):jI:=⟨d,a,b,fit a b,0,0,Dd c.f.inner e.qh e.ha (bA a c.qo),bO e.ha (Dd c.f.inner e.qh e.ha (bA a c.qo))⟩
def O2{m:Int}(h:c.rows.length<eC):yL 0 4 "Coming" "rows" [oC c,Y (.int n),Y (.int m),Y (.int k),Y (cq r),eB j]=Y (.nx [oC { c with rows:=c.rows++[r] },Y (.int n),Y (.int m),Y (.int k),M,M]):=by
 have e:r8 "Coming" "rows" 0 [oC c,Y (.int n),Y (.int m),Y (.int k),Y (cq r),eB j]=Y (tm,ck,cl c,D.lst (c.rows.map cq)):=by kernel_rfl
 unfold yL;rw[e];simp only[ae];have b:eV 4 [oC c,Y (.int n),Y (.int m),Y (.int k),Y (cq r),eB j]=Y (.ins "Row" rk (rl r)):=rfl;rw[b];simp only[ae];rw[if_pos ⟨by decide,by rw[aw];exact h⟩];have a:c.rows.map cq++[D.ins "Row" rk (rl r)]=(c.rows++[r]).map cq:=by rw[cp];rfl
 rw[a];kernel_rfl
def CJ{c:jL}(l:Qb c.f fit lift){pr:jI}(g:c.rows.getLast? = Y pr)(d a b:Int)(j:(bA (bO pr.qh (bA pr.ha c.f.inner)) (bA a c.qo)).natAbs<2 ^ 64)(i:c.rows.length<eC):
  gm [bK c,.int d,.int a,.int b]=Y (.dg,bK { c with rows:=c.rows++[CK fit c d a b pr] }):=by
 show (iK [oC c,Y (.int d),Y (.int a),Y (.int b),M,M]).bind È=_;unfold iK;have k:0<c.rows.length:=by cases h:c.rows with|nil=>rw[h]at g;cases g|cons=>simp
 have f:c.rows[c.rows.length-1]?=Y pr:=by rw[<- Kr];exact g
 rw[aR (ig (d:=cq ⟨d,a,b,0,0,0,0,0⟩) (by kernel_rfl))];simp only[bo,bp];rw[aR (uI (c:=c) (n:= -1) (k:=c.rows.length-1) rfl rfl (zc k))];simp only[bo,bp];have e:∀x,res [0] [5] [oC c,Y (.int d),Y (.int a),Y (.int b),Y (cq x),eB (c.rows.length-1)]=[Y (bK c),Y (.int d),Y (.int a),Y (.int b),Y (cq x),Y (cq pr)]:=by
  intro x;have:res [0] [5] [oC c,Y (.int d),Y (.int a),Y (.int b),Y (cq x),eB (c.rows.length-1)]=[Y (bK c),Y (.int d),Y (.int a),Y (.int b),Y (cq x),((c.rows.map cq)[c.rows.length-1]?).bind ut]:=by kernel_rfl
  rw[this,oJ f];rfl
 rw[aR (Gg (r:=⟨d,a,b,0,0,0,0,0⟩) (r':=⟨d,a,b,fit a b,0,0,0,0⟩) (d :=.int (fit a b)) rfl (mS (e _) (show dS [fY c.f,.int a,.int b]=_ from l.fit _ _) rfl) (by kernel_rfl))];simp only[bo,bp];rw[aR (Gg (r:=⟨d,a,b,fit a b,0,0,0,0⟩) (r':=⟨d,a,b,fit a b,0,0,Dd c.f.inner pr.qh pr.ha (bA a c.qo),0⟩) (d :=.int (Dd c.f.inner pr.qh pr.ha (bA a c.qo))) rfl (mS (e _) (show dD [bK c,.int pr.qh,.int pr.ha,.int (bA a c.qo)]=_ from zk _ _ _ _ j) rfl) (by kernel_rfl))];simp only[bo,bp];rw[aR (Gg (r:=⟨d,a,b,fit a b,0,0,Dd c.f.inner pr.qh pr.ha (bA a c.qo),0⟩) (r':=CK fit c d a b pr) (d :=.int (bO pr.ha (Dd c.f.inner pr.qh pr.ha (bA a c.qo)))) rfl (mS (e _) (by kernel_rfl) rfl) (by kernel_rfl))];simp only[bo,bp];rw[O2 i];kernel_rfl
abbrev N8(a:Int)(r:jI):Bool:=bA (bA r.qh (bN r.bw)) a != 0
theorem AJ(c:jL):∀(b:List jI) (a:List D) (d:Option D),a.length+b.length<eC->∃f,
  gD (gN 2) f7 (b.map cq) [Y (bK c),Y (.lst a),d]=Y (.nx [Y (bK c),Y (.lst (a++(b.filter (N8 c.full)).map λr=>D.int r.number)),f])
 |[],a,d,_=>⟨d,by simp[gD]⟩
 | r::b,a,d,h=>by
  simp only[aU]at h;have g:f7 [Y (bK c),Y (.lst a),Y (cq r)]=Y (.nx [Y (bK c),Y (.lst (a++if N8 c.full r then [.int r.number] else [])),Y (cq r)]):=by
   unfold f7 d7;have e:dQ cr [Y (bK c),Y (.lst a),Y (cq r)]=Y (N8 c.full r):=by kernel_rfl
   rw[e];simp only[ae];cases N8 c.full r with
   |true=>show (if a.length<eC then _ else M)=_;rw[if_pos (by omega)];rfl
   |false=>simp;rfl
  rw[bh,oE (ρ1:=[Y (bK c),Y (.lst a),Y (cq r)]) rfl g];obtain⟨f,q⟩:=AJ c b (a++if N8 c.full r then [.int r.number] else []) (Y (cq r)) (by split<;>simp<;>omega);refine⟨f,q.trans ?_⟩;cases e:N8 c.full r<;>simp[e]
def vS(c:jL):List Int:=c.rests.map (·.num)++(c.rows.filter (N8 c.full)).map (·.number)
theorem Hz:∀(a:List uJ),Ap [M] (gN 0) ic wf (a.map cX)=Y ((a.map (·.num)).map D.int)
 |[]=>rfl|x::a=>by rw[bh,Ap];have b:gN 0 (cX x) [M]=Y [Y (cX x)]:=rfl;rw[b,Hz a];rfl
def KA(c:jL)(l:c.rests.length<=1000)(k:c.rows.length<=500)(i:(vS c).length<64):eL [bK c]=Y (.lst ((vY (vS c)).map D.int)):=by
 show (lB [Y (bK c),M,M]).bind mQ=_;unfold lB;have b:=CI;rw[aR (ρ':=[Y (bK c),Y (.lst ((c.rests.map (·.num)).map D.int)),M]) ?h]
 case h=>
  have e:oG (iL (bD "Coming" "rests" Fa)) [M] (gN 0) ic wf [Y (bK c),M,M]=Y ((c.rests.map (·.num)).map D.int):=by
   unfold oG;have a:iL (bD "Coming" "rests" Fa) [Y (bK c),M,M]=Y (c.rests.map cX):=by kernel_rfl
   rw[a];simp only[ae];rw[if_pos (by rw[aw];omega)];exact Hz _
  unfold kN;rw[e];rfl
 obtain⟨j,g⟩:=AJ c c.rows ((c.rests.map (·.num)).map D.int) M (iG (by simp only[aw];omega));have f:jw (iL (bD "Coming" "rows" Fa)) (gN 2) f7 [Y (bK c),Y (.lst ((c.rests.map (·.num)).map D.int)),M]=gD (gN 2) f7 (c.rows.map cq) [Y (bK c),Y (.lst ((c.rests.map (·.num)).map D.int)),M]:=by
  have a:iL (bD "Coming" "rows" Fa) [Y (bK c),Y (.lst ((c.rests.map (·.num)).map D.int)),M]=Y (c.rows.map cq):=by kernel_rfl
  unfold jw;rw[a];rfl
 rw[aR (f.trans g)];have e:(c.rests.map (·.num)).map D.int++(c.rows.filter (N8 c.full)).map (λr=>D.int r.number)=(vS c).map D.int:=by unfold vS;simp[fo]
 rw[e];have d:me db [Y (bK c),Y (.lst ((vS c).map D.int)),j]=Y ((vY (vS c)).map D.int):=yD rfl i;unfold u_;rw[d];rfl
def MF(c:jL):iP [bK c]=Y (.bl (decide (0<c.opened)&&decide (c.rows.length=1))):=by
 show (iJ [Y (bK c)]).bind mQ=_;unfold iJ dH MK;have e1:dA ol [Y (bK c)]=Y (decide (0<c.opened)):=by kernel_rfl
 have e2:e2 fc (bg jc Uf) u8 [Y (bK c)]=fc (.int ((c.rows.map cq).length:Int)) (.int 1):=by kernel_rfl
 rw[e1,e2,aw];simp only[ae];have e3:fc (.int (c.rows.length:Int)) (.int 1)=Y (.bl (decide (c.rows.length=1))):=by
  unfold fc;rw[if_pos (by rfl)];have:Aw (.int (c.rows.length:Int)) (.int 1)=((c.rows.length:Int)==1):=rfl;rw[this]
  congr 2
  by_cases h:c.rows.length=1
  ·rw[h];rfl
  ·rw[decide_eq_false h];simp;omega
 rw[e3];cases decide (0<c.opened)<;>rfl
def Om{p:Nat}(h:p<=1000):qe (.int 1) (.int (p:Int))=Y (.int (2 ^ p)):=by
 simp only[qe];rw[if_pos ⟨by omega,by omega,by decide⟩];simp
noncomputable def JD(x:uJ):List uJ->List uJ
 |[]=>[x]|y::b=>if x.num<y.num then x::y::b else y::JD x b
noncomputable def u5:List uJ->List uJ
 |[]=>[]|x::b=>JD x (u5 b)
theorem Bf(x:uJ):∀l,(JD x l).Perm (x::l)
 |[] =>.rfl| y::b=>by
  unfold JD;split
  ·exact .rfl
  ·exact((Bf x b).cons y).trans (.swap x y b)
theorem pP:∀l,(u5 l).Perm l
 |[] =>.rfl|x::b=>(Bf x (u5 b)).trans ((pP b).cons x)
theorem Mm(x:uJ):∀l:List uJ,Cg QN (cX x) (l.map cX)=(JD x l).map cX
 |[]=>rfl| y::b=>by
  unfold JD;rw[bh,Cg];show (if x.num<y.num then _ else _)=_;split
  ·rfl
  ·rw[Mm x b];rfl
theorem KW:∀l:List uJ,Fz QN (l.map cX)=(u5 l).map cX
 |[]=>rfl|x::b=>by rw[bh,Fz,KW b,Mm];rfl
abbrev oR(r:jI):Option D:=Y (cq r)
noncomputable abbrev rp(m:uJ):Bool:=m.Z != 0||m.around != 0
def B7(c:jL)(b:Nat)(r pr:jI)(m:uJ):uJ:=if m.place=b then VH c m r pr else m
def O4{F:List D->Option D}{f:Option D}{m:uJ}:dC "Coming" "moved_out" F Fa (aC (eV 5) pi) [Y (bK c),oR r,Y (.int n),f,e,Y (cX m),b]=F [bK c,cX m,cq r]:=by kernel_rfl
theorem MG{r:jI}(hp:c.rows.getLast? = Y pr)(m:uJ)(place:Nat)(xs ks:List D)(hk:ks.length<eC)(a6:Option D):∃b6,
  eY [oC c,oR r,Y (.int place),Y (.lst xs),Y (.lst ks),Y (cX m),a6]=Y (.nx [oC c,oR r,Y (.int place),Y (.lst xs),Y (.lst (ks++if rp (B7 c place r pr m) then [cX (B7 c place r pr m)] else [])),Y (cX m),b6]):=by
 refine⟨Y (cX (B7 c place r pr m)),?_⟩;have q1:res [0,1] [] [oC c,oR r,Y (.int place),Y (.lst xs),Y (.lst ks),Y (cX m),a6]=[Y (bK c),oR r,Y (.int place),Y (.lst xs),Y (.lst ks),Y (cX m),a6]:=by kernel_rfl
 have q2:MJ (dA XV) (dC "Coming" "moved_out" gk Fa (aC (eV 5) pi)) (eV 5) [Y (bK c),oR r,Y (.int place),Y (.lst xs),Y (.lst ks),Y (cX m),a6]=Y (cX (B7 c place r pr m)):=by
  have e1:dA XV [Y (bK c),oR r,Y (.int place),Y (.lst xs),Y (.lst ks),Y (cX m),a6]=Y (Aw (.int m.place) (.int (place:Int))):=by kernel_rfl
  have e2:Aw (.int m.place) (.int (place:Int))=decide (m.place=place):=by by_cases h:m.place=place<;>simp[M3,h]
  unfold MJ;rw[e1,e2];simp only[ae];unfold B7;by_cases h:m.place=place
  ·rw[decide_eq_true h,if_pos rfl,if_pos h,O4];exact B8 c m r pr hp
  ·rw[decide_eq_false h,if_neg (by decide),if_neg h];rfl
 unfold eY;rw[aR (ig (mS q1 q2 (by kernel_rfl)))];simp only[bo,bp];generalize B7 c place r pr m=m';have q3:qz (dQ (e2 bX np nb)) (dQ (e2 bX np Re)) [oC c,oR r,Y (.int place),Y (.lst xs),Y (.lst ks),Y (cX m),Y (cX m')]=Y (rp m'):=by
  have e1:dQ (e2 bX np nb) [oC c,oR r,Y (.int place),Y (.lst xs),Y (.lst ks),Y (cX m),Y (cX m')]=Y (m'.Z != 0):=by kernel_rfl
  have e2:dQ (e2 bX np Re) [oC c,oR r,Y (.int place),Y (.lst xs),Y (.lst ks),Y (cX m),Y (cX m')]=Y (m'.around != 0):=by kernel_rfl
  unfold qz rp;rw[e1,e2];cases (m'.Z != 0)<;>rfl
 unfold d7;rw[q3];simp only[ae];cases rp m' with
 |true=>show (if ks.length<eC then _ else M)=_;rw[if_pos hk];rfl
 |false=>simp;rfl
theorem HR{r:jI}(s:c.rows.getLast? = Y k)(f:Nat)(j:List D):∀(l:List uJ) (g:List D) (n i:Option D),g.length+l.length<eC->∃p o,
  gD (gN 5) eY (l.map cX) [oC c,oR r,Y (.int f),Y (.lst j),Y (.lst g),n,i]=Y (.nx [oC c,oR r,Y (.int f),Y (.lst j),Y (.lst (g++((l.map (B7 c f r k)).filter rp).map cX)),p,o])
 |[],g,n,i,h=>⟨n,i,by simp[gD]⟩
 |m::l,g,n,i,h=>by simp only[aU]at h;obtain⟨b,t⟩:=MG s m f j g (r:=r) ž i;rw[bh,oE (ρ1:=[oC c,oR r,Y (.int f),Y (.lst j),Y (.lst g),Y (cX m),i]) rfl t];obtain⟨p,o,q⟩:=HR s f j l (g++if rp (B7 c f r k m) then [cX (B7 c f r k m)] else []) (Y (cX m)) b (by split<;>simp<;>omega);refine⟨p,o,q.trans ?_⟩;simp only[bh];cases e:rp (B7 c f r k m)<;>simp[tI,e]
noncomputable def jE(c:jL):jL:={ c with rows:=c.rows.dropLast }
def rL(b:jL)(r:jI):List uJ:=b.rests++if bA r.bw b.full != 0 then [] else [uJ.mk r.number (b.rows.length:Int) b.full 0]
def Cv(c:jL)(r b:jI):jL:={ jE c with rests:=((u5 (rL (jE c) r)).map (B7 (jE c) (jE c).rows.length r b)).filter rp }
def K4{f:DF}{ρ:cA}(e:f ρ=Y (.lst (b.map cX)))(c:(b.map (·.num)).Nodup)(g:b.length<64):wA f ρ=Y ((u5 b).map cX):=by
 unfold wA;rw[e];simp only[ae];rw[if_pos ⟨⟨by simp[lH,fo,VO,cX],by rw[C5];exact c⟩,by rw[aw];exact g⟩,KW]
def RN(b:c.rows.getLast? = Y r):DJ 1 0 "Coming" "rows" [oC c,M,M,M,M,M,M]=Y (.nx [oC { c with rows:=c.rows.dropLast },oR r,M,M,M,M,M]):=by
 have e:r8 "Coming" "rows" 0 [oC c,M,M,M,M,M,M]=Y (tm,ck,cl c,D.lst (c.rows.map cq)):=by kernel_rfl
 unfold DJ;rw[e];simp only[ae];have f:(c.rows.map cq).getLast? = Y (.ins "Row" rk (rl r)):=by rw[List.getLast?_map,b];rfl
 rw[f];simp only[ae];rw[if_pos (by decide),<- List.map_dropLast];kernel_rfl
def Gq{c:jL}(hr:c.rows.getLast? = Y r)(hp:(jE c).rows.getLast? = Y pr)(hn:((rL (jE c) r).map (·.num)).Nodup)(hl:(rL (jE c) r).length<64):
  f_ [bK c]=Y (.dg,bK (Cv c r pr)):=by
 show (jH [oC c,M,M,M,M,M,M]).bind È=_;unfold jH;rw[aR (RN hr)];unfold Cv;show (be _ _ [oC (jE c),oR r,M,M,M,M,M]).bind _=_;generalize jE c=c1 at *
 have hlr:c1.rests.length<64:=by unfold rL at hl;rw[aS]at hl;omega
 rw[aR (ρ':=[oC c1,oR r,Y (.int (c1.rows.length:Int)),M,M,M,M]) ?q1]
 case q1=>
  have:lI [0] [] (bg jc Uf) [oC c1,oR r,M,M,M,M,M]=Y (.int ((c1.rows.map cq).length:Int)):=by kernel_rfl
  rw[aw]at this;rw[ig this];rfl
 rw[aR (ρ':=[oC c1,oR r,Y (.int (c1.rows.length:Int)),Y (.lst (c1.rests.map cX)),M,M,M]) ?q2]
 case q2=>kernel_rfl
 rw[aR (ρ':=[oC c1,oR r,Y (.int (c1.rows.length:Int)),Y (.lst ((rL c1 r).map cX)),M,M,M]) ?q3]
 case q3=>
  have e1:xS [0] [] (gM (dQ FS)) [oC c1,oR r,Y (.int (c1.rows.length:Int)),Y (.lst (c1.rests.map cX)),M,M,M]=Y (!(bA r.bw c1.full != 0)):=by kernel_rfl
  unfold d7 rL;rw[e1];simp only[ae];cases bA r.bw c1.full != 0 with
  |true=>simp;rfl|false=>
   have e2:lI [0] [] bv [oC c1,oR r,Y (.int (c1.rows.length:Int)),Y (.lst (c1.rests.map cX)),M,M,M]=Y (cX (uJ.mk r.number (c1.rows.length:Int) c1.full 0)):=by kernel_rfl
   simp only[Kh,if_true];unfold qD;rw[e2];show (if (c1.rests.map cX).length<eC then _ else M)=_;rw[if_pos (iG (by rw[aw];omega))];simp
 generalize rL c1 r=ms at *
 rw[aR (ρ':=[oC c1,oR r,Y (.int (c1.rows.length:Int)),Y (.lst (ms.map cX)),Y (.lst []),M,M]) ?q4]
 case q4=>kernel_rfl
 obtain⟨b5,b6,q5⟩:=HR (r:=r) hp c1.rows.length (ms.map cX) (u5 ms) [] M M (iG (by rw[(pP ms).length_eq];simp;omega));have q6:jw (iL (eF (wA bd))) (gN 5) eY [oC c1,oR r,Y (.int (c1.rows.length:Int)),Y (.lst (ms.map cX)),Y (.lst []),M,M]=gD (gN 5) eY ((u5 ms).map cX) [oC c1,oR r,Y (.int (c1.rows.length:Int)),Y (.lst (ms.map cX)),Y (.lst []),M,M]:=by have e1:=K4 (f:=eV 3) (ρ:=[oC c1,oR r,Y (.int (c1.rows.length:Int)),Y (.lst (ms.map cX)),Y (.lst []),M,M]) rfl hn hl;unfold jw iL eF;rw[e1];rfl
 rw[aR (q6.trans q5)];simp only[dk];generalize ((u5 ms).map (B7 c1 c1.rows.length r pr)).filter rp=kept;kernel_rfl
inductive rM
 |op (n:aJ)
 |tx (t:aJ)
 |cl
noncomputable def de:rM->D
 |.op n =>.tup [.str (af "open"),.str n]|.tx t =>.tup [.str (af "text"),.str t]|.cl =>.tup [.str (af "close")]
noncomputable def P0(s:rM)(w b:Bool):Bool:=match s with|.op _=>w || !b|_=>w
def Na(s:rM)(w b:Bool):iO [de s,.bl w,.bl b]=Y (.bl (P0 s w b)):=by
 cases s<;>cases w<;>cases b<;>kernel_rfl
def Bx{F:List D->Option D}{s:D}:bg F io [Y (bK c),Y s]=F [s,.bl (decide (1<((c.rows.map cq).length:Int))),.bl (decide (0<c.opened))]:=by kernel_rfl
abbrev vq(c:jL)(s:rM):Bool:=P0 s (decide (1<c.rows.length)) (decide (0<c.opened))
def uD{c:jL}{s:rM}(h:vq c s=Z'):d7 (xS [0] [] (gM (dQ (bg iO io)))) FH cO [oC c,Y (de s)]=Y (.nx [oC c,Y (de s)]):=by
 have a:res [0] [] [oC c,Y (de s)]=[Y (bK c),Y (de s)]:=rfl;have d:decide (1<((c.rows.map cq).length:Int))=decide (1<c.rows.length):=by
  rw[aw];by_cases h:1<c.rows.length
  ·rw[decide_eq_true h,decide_eq_true (by omega)]
  ·rw[decide_eq_false h,decide_eq_false (by omega)]
 have b:xS [0] [] (gM (dQ (bg iO io))) [oC c,Y (de s)]=Y false:=by refine qy a ?_;unfold gM dQ;rw[Bx,d,Na,show P0 s _ _=Z' from h];rfl
 unfold d7;rw[b];rfl
noncomputable def mD(c:jL):jL:={ c with taken:=c.taken+1 }
def uC(c:jL)(s:rM):eE Z_ 0 "Coming" "taken" (λi j=>i+j) u8 [oC c,Y (de s)]=Y (.nx [oC (mD c),Y (de s)]):=by
 cases s<;>kernel_rfl
def zq{F:List D->Option (D×D)}{m:aJ}{s:rM}(b:m∉ck)(h:F [bK c]=Y (d,bK a)):bW "Coming" m aF F 0 kZ [oC c,Y (de s)]=Y (d,[oC a,Y (de s)]):=by
 have:bW "Coming" m aF F 0 kZ [oC c,Y (de s)]=if (("Coming" : aJ) = "Coming" /\("Coming" : aJ) = "Coming")/\m∉ck then (F [bK c]).map λr=>(r.1,(cG 0 [oC c,Y (de s)]).set 0 (Y (.obj aF r.2))) else none:=rfl
 rw[this,if_pos ⟨⟨rfl,rfl⟩,b⟩,h];cases s<;>rfl
def Ia(c:jL)(s:rM):dA (e2 fc ci lc) [oC c,Y (de s)]=Y (match s with|.cl=>Z'|_=>Z_):=by cases s<;>kernel_rfl
def LF(c:jL)(s:rM):dA (e2 fc ci ce) [oC c,Y (de s)]=Y (match s with|.op _=>Z'|_=>Z_):=by cases s<;>kernel_rfl
def Rx(e:g b=Y (.rm d a)):be g h b=Y (.rm d a):=by unfold be;rw[e];rfl
def Gm(h:vq c .cl=Z')(d:c.rows.getLast? = Y r)(e:(jE c).rows.getLast? = Y pr)(f:((rL (jE c) r).map (·.num)).Nodup)(g:(rL (jE c) r).length<64):
  eD [bK c,de .cl]=Y (.lst [],bK (Cv (mD c) r pr)):=by
 show (fV [oC c,Y (de .cl)]).bind È=_;unfold fV;rw[aR (uD h),aR (uC c _)];have i:=Gq (c:=mD c) d e f g;generalize Cv (mD c) r pr=a at *
 generalize mD c=b at *
 have q:d7 (dA (e2 fc ci lc)) (be Û (dM (mP Tl))) cO [oC b,Y (de .cl)]=Y (.rm (.lst []) [oC a,Y (de .cl)]):=by
  unfold d7;rw[Ia];simp only[ae,if_true];have:eS (bW "Coming" "end_row" aF f_ 0 kZ) [oC b,Y (de .cl)]=Y (.nx [oC a,Y (de .cl)]):=by unfold eS;rw[zq (by decide) i];rfl
  rw[aR this];rfl
 rw[Rx q];kernel_rfl
structure WJ(f:EL)(Va txt:aJ->Int):Prop where
 Va:∀n,eJ [fY f,.str n]=some (.int (Va n))
 txt:∀t,eI [fY f,.str t]=some (.int (txt t))
def Oh{F:List D->Option D}:lI [0] [] (dC "Facts" "steps_for" F (bD "Coming" "facts" Fa) Ô) [oC c,Y (de (.op n))]=(F [fY c.f,.str n]).bind λd=>if sk d=Z' then Y d else none:=by kernel_rfl
def N'{F:List D->Option D}:lI [0] [] (dC "Facts" "text_fact" F (bD "Coming" "facts" Fa) Ô) [oC c,Y (de (.tx n))]=(F [fY c.f,.str n]).bind λd=>if sk d=Z' then Y d else none:=by kernel_rfl
def GC{F:List D->Option (D×D)}{s:rM}(d:a [oC c,Y (de s)]=Y (.int n))(h:F [bK c,.int c.opened,.int n,.int 0]=Y (.dg,bK b)):
  eS (bW "Coming" "begin_row" aF F 0 (jx (mP wn) (jx (mP a) wT))) [oC c,Y (de s)]=Y (.nx [oC b,Y (de s)]):=by
 have i:lI [0] [] (bD "Coming" "opened" Fa) [oC c,Y (de s)]=Y (.int c.opened):=by kernel_rfl
 have e:jx (mP wn) (jx (mP a) wT) [oC c,Y (de s)]=Y ([.int c.opened,.int n,.int 0],[oC c,Y (de s)]):=by unfold jx mP;simp only[i,d,bP,ae];rfl
 unfold eS;have:∀g:J5,bW "Coming" "begin_row" aF F 0 g [oC c,Y (de s)]=(g [oC c,Y (de s)]).bind λq=>(lO aF 0 q.2).bind λt=>(F (t::q.1)).map λr=>(r.1,(cG 0 q.2).set 0 (Y (.obj aF r.2))):=by intro g;kernel_rfl
 rw[this,e];simp only[ae];have f:lO aF 0 [oC c,Y (de s)]=Y (bK c):=by kernel_rfl
 rw[f];simp only[ae,h];cases s<;>rfl
def Nf{F:List D->Option (D×D)}{s:rM}(d:a [oC c,Y (de s)]=Y (.int n))(h:F [bK c,.int n]=Y (.dg,bK b)):
  eS (bW "Coming" "add_atoms" aF F 0 (jx (mP a) kZ)) [oC c,Y (de s)]=Y (.nx [oC b,Y (de s)]):=by
 have e:jx (mP a) kZ [oC c,Y (de s)]=Y ([.int n],[oC c,Y (de s)]):=by unfold jx mP;simp only[d,bP,ae];rfl
 unfold eS;have:∀g:J5,bW "Coming" "add_atoms" aF F 0 g [oC c,Y (de s)]=(g [oC c,Y (de s)]).bind λq=>(lO aF 0 q.2).bind λt=>(F (t::q.1)).map λr=>(r.1,(cG 0 q.2).set 0 (Y (.obj aF r.2))):=by intro g;kernel_rfl
 rw[this,e];simp only[ae];have f:lO aF 0 [oC c,Y (de s)]=Y (bK c):=by kernel_rfl
 rw[f];simp only[ae,h];cases s<;>rfl
def Bl{F:List D->Option (D×D)}{s:rM}(h:F [bK c]=Y (d,bK a)):(dM (bW "Coming" "newly_told" aF F 0 kZ) [oC c,Y (de s)]).bind È=Y (d,bK a):=by
 unfold dM;rw[zq (by decide) h];kernel_rfl
def A6{c:jL}{s:rM}(h:(match s with|.cl=>Z'|_=>Z_)=Z_)(g:DG):d7 (dA (e2 fc ci lc)) g cO [oC c,Y (de s)]=Y (.nx [oC c,Y (de s)]):=by
 unfold d7;rw[Ia,h];rfl
def OV(fit lift:Int->Int->Int)(c:jL)(b:Int)(pr:jI):jL:=
 let a:=c.rows++[CK fit c c.opened b 0 pr]
 { c with opened:=c.opened+1,rows:=Dv fit lift Z' (a.length-1) a }
def JK{f:aJ->Int}(q:Qb c.f fit lift)(v:WJ c.f a f)(t:vq c (.op n)=Z')(s:c.rows.getLast? = Y pr)(u:(bA (bO pr.qh (bA pr.ha c.f.inner)) (bA (a n) c.qo)).natAbs<2 ^ 64)(w:c.rows.length<1000)(r:dI [bK (OV fit lift (mD c) (a n) pr)]=Y (d,bK p)):eD [bK c,de (.op n)]=Y (d,bK p):=by
 show (fV [oC c,Y (de (.op n))]).bind È=_;unfold fV;rw[aR (uD t),aR (uC c _),aR (A6 rfl _)];have m:=CJ (c:=mD c) (fit:=fit) (lift:=lift) q (pr:=pr) s c.opened (a n) 0 u (iG (by show c.rows.length<2000;omega));have h:=AU (c:={ mD c with opened:=(mD c).opened+1,rows:=(mD c).rows++[CK fit (mD c) c.opened (a n) 0 pr] }) (fit:=fit) (lift:=lift) q Ž (by simp[mD];omega);have g:lI [0] [] (dC "Facts" "steps_for" eJ (bD "Coming" "facts" Fa) Ô) [oC (mD c),Y (de (.op n))]=Y (.int (a n)):=by rw[Oh];rw[show eJ [fY (mD c).f,.str n]=_ from v.Va n];rfl
 have b:=GC (s :=.op n) g m;have e:eE Z_ 0 "Coming" "opened" (λi j=>i+j) u8 [oC { mD c with rows:=(mD c).rows++[CK fit (mD c) c.opened (a n) 0 pr] },Y (de (.op n))]=Y (.nx [oC { mD c with opened:=(mD c).opened+1,rows:=(mD c).rows++[CK fit (mD c) c.opened (a n) 0 pr] },Y (de (.op n))]):=by kernel_rfl
 have l:eS (bW "Coming" "spread" aF dy 0 kZ) [oC { mD c with opened:=(mD c).opened+1,rows:=(mD c).rows++[CK fit (mD c) c.opened (a n) 0 pr] },Y (de (.op n))]=Y (.nx [oC (OV fit lift (mD c) (a n) pr),Y (de (.op n))]):=by unfold eS;rw[zq (by decide) h];rfl
 have k:∀o,d7 (dA (e2 fc ci ce)) (be Do (be (eE Z_ 0 "Coming" "opened" (λi j=>i+j) u8) sw)) o [oC (mD c),Y (de (.op n))]=Y (.nx [oC (OV fit lift (mD c) (a n) pr),Y (de (.op n))]):=by intro o;unfold d7;rw[LF];simp only[ae,if_true];rw[aR b,aR e,sw,l]
 rw[aR (k _)];exact Bl r
def JJ{f:aJ->Int}(o:Qb c.f fit lift)(n:WJ c.f f a)(m:vq c (.tx t)=Z')(l:c.rows[c.rows.length-1]?=Y r)(p:c.rows.length<1000)(k:dI [bK (CS fit lift (mD c) (a t) r)]=Y (d,bK j)):eD [bK c,de (.tx t)]=Y (d,bK j):=by
 show (fV [oC c,Y (de (.tx t))]).bind È=_;unfold fV;rw[aR (uD m),aR (uC c _),aR (A6 rfl _)];have e:=CQ (c:=mD c) (fit:=fit) (lift:=lift) o (r:=r) l (by show c.rows.length<1000000;omega) (a t);have g:lI [0] [] (dC "Facts" "text_fact" eI (bD "Coming" "facts" Fa) Ô) [oC (mD c),Y (de (.tx t))]=Y (.int (a t)):=by rw[N'];rw[show eI [fY (mD c).f,.str t]=_ from n.txt t];rfl
 have b:=Nf (s :=.tx t) g e;have h:∀i,d7 (dA (e2 fc ci ce)) i jp [oC (mD c),Y (de (.tx t))]=Y (.nx [oC (CS fit lift (mD c) (a t) r),Y (de (.tx t))]):=by intro i;unfold d7;rw[LF];simp only[ae,eM,if_false];exact b
 rw[aR (h _)];exact Bl k
def dE(c:jL)(a:List Int):D :=.ins "Sift" ["coming", "numbers"] [bK c,.lst (a.map D.int)]
abbrev oS(c:jL)(a:List Int):Option D:=Y (.obj dZ (dE c a))
def Fo{F:List D->Option (D×D)}{s:rM}:mY 2 (s_ "Sift" "coming" "Coming" "feed" aF F 0 pi) [oS c a,Y (de s),M]=(F [bK c,de s]).map λr =>.nx [Y (.obj dZ (.ins "Sift" ["coming", "numbers"] [r.2,.lst (a.map D.int)])),Y (de s),Y r.1]:=by
 have e:s_ "Sift" "coming" "Coming" "feed" aF F 0 pi [oS c a,Y (de s),M]=(F [bK c,de s]).map λr=>(r.1,[Y (.obj dZ (.ins "Sift" ["coming", "numbers"] [r.2,.lst (a.map D.int)])),Y (de s),M]):=by cases s<;>kernel_rfl
 unfold mY;rw[e];cases F [bK c,de s]<;>rfl
theorem yQ:∀a:List Int,qG (a.map D.int)=Z'
 |[]=>rfl|n::a=>by rw[bh,qG,yQ a];rfl
def Ob{s:rM}(h:eD [bK c,de s]=Y (.lst (b.map D.int),bK d))(e:(a++b).length<64):
  my [dE c a,de s]=Y (.lst (b.map D.int),dE d (vY (a++b))):=by
 show (pf [oS c a,Y (de s),M]).bind (mu dZ)=_;unfold pf;rw[aR (ρ':=[oS d a,Y (de s),Y (.lst (b.map D.int))]) ?l]
 case l=>rw[Fo,h];rfl
 have k:res [0] [] [oS d a,Y (de s),Y (.lst (b.map D.int))]=[Y (dE d a),Y (de s),Y (.lst (b.map D.int))]:=rfl;have j:e2 d9 (bD "Sift" "numbers" Fa) Db [Y (dE d a),Y (de s),Y (.lst (b.map D.int))]=Y (.lst ((a++b).map D.int)):=by
  have:e2 d9 (bD "Sift" "numbers" Fa) Db [Y (dE d a),Y (de s),Y (.lst (b.map D.int))]=d9 (.lst (a.map D.int)) (.lst (b.map D.int)):=by kernel_rfl
  rw[this];simp only[d9];rw[if_pos (by have:=iG (n:=(a.map D.int).length+(b.map D.int).length) (by simp only[aw];rw[aS]at e;omega);omega),cp]
 have i:=yD j e;have g:Uz [0] [] Ø [oS d a,Y (de s),Y (.lst (b.map D.int))]=Y ((vY (a++b)).map D.int):=by unfold Uz;rw[Ø,k,i];simp only[ae];rw[if_pos (yQ _)]
 rw[aR (ρ':=[oS d (vY (a++b)),Y (de s),Y (.lst (b.map D.int))]) ?f]
 case f=>unfold gi eF;rw[g];kernel_rfl
 kernel_rfl
def lE:Nat->D->Prop
 |0,_=>False|n+1,d=>∃a e,d=.tup [.int a,.lst e]/\0<=a/\e.length<=1000/\∀c∈e,∃b,c=.lst b/\b.length<=1000/\∀x∈b,lE n x
def qg:Nat->D->Int->Bool
 |n+1,.tup [.int b,.lst e],a=>(bA a b==b)&&e.all λc=>match c with|.lst d=>d.any λx=>qg n x a|_=>Z_
 |_,_,_=>Z_
def L4:qg (n+1) (.tup [.int b,.lst e]) a=((bA a b==b)&&e.all λc=>match c with|.lst d=>d.any λx=>qg n x a|_=>Z_):=rfl
theorem sv:∀(b:List D),(∀d∈b,∃a,gN 0 d c=Y a/\e a=Y (g d))->Ap c (gN 0) ic e b=Y (b.map g)
 |[],_=>rfl|d::b,h=>by obtain⟨a,j,i⟩:=h d (az ..);rw[Ap,j];simp only[ae,ic,if_true,i];rw[sv b λx f=>h x (ay _ f)];rfl
def PD(x y:Int):Aw (.int x) (.int y)=(x==y):=rfl
def GH{a:List D}{f:D->Bool}:gw Z' [.lst (a.map λd =>.bl (f d))]=Y (.bl (a.all f)):=by
 simp only[gw];rw[if_pos (by simp[lH,fo,Ml])];simp[lH,fo,vy]
def Nd{a:List D}{f:D->Bool}:gw Z_ [.lst (a.map λd =>.bl (f d))]=Y (.bl (a.any f)):=by
 simp only[gw];rw[if_pos (by simp[lH,fo,Ml])];simp[List.any_map,fo,vy]
def uH{f:DL}(e:f a=Y b):bg G (aC (eF f) aN) a=G [.lst b]:=by
 unfold bg aC eF;rw[e];rfl
def L5{F:List D->Option D}(f:b.length<=1000)(h:∀x∈b,F [x,.int a]=Y (.bl (g x))):
  bg (gw Z_) (aC (eF (oG sB [M,Y 1] (gN 0) ic (bg F (aC Fa pi)))) aN) [Y (.lst b),Y (.int a)]=Y (.bl (b.any g)):=by
 have e:oG sB [M,Y 1] (gN 0) ic (bg F (aC Fa pi)) [Y (.lst b),Y (.int a)]=Y (b.map λx =>.bl (g x)):=by unfold oG;show (if b.length<=eC then Ap [M,Y (.int a)] (gN 0) ic (bg F (aC Fa pi)) b else M)=_;rw[if_pos (fT (iG (by omega)))];exact sv b λd c=>⟨[Y d,Y (.int a)],rfl,h d c⟩
 rw[uH e];exact Nd
theorem Ec:∀(n m:Nat) (d:D) (a:Int),n<=m->lE n d->jY m [d,.int a]=Y (.bl (qg n d a))
 |0,_,_,_,_,h=>h.elim|n+1,0,_,_,hm,_=>by omega
 | n+1,m+1,d,a,hm,h=>by
  obtain⟨sT,cs,rfl,hn,hl,hc⟩:=h;show (yc (jY m) [Y (.tup [.int sT,.lst cs]),Y (.int a)]).bind mQ=_;unfold yc;have ih:∀x,lE n x->jY m [x,.int a]=Y (.bl (qg n x a)):=λx hx=>Ec n m x a ž hx
  generalize jY m=F at *
  have e1:dA wr [Y (.tup [.int sT,.lst cs]),Y (.int a)]=Y (!(bA a sT==sT)):=by
   have:dA wr [Y (.tup [.int sT,.lst cs]),Y (.int a)]=Y (!Aw (.int (bA a sT)) (.int sT)):=by kernel_rfl
   rw[this,PD]
  simp only[L4];cases hx:(bA a sT==sT) with
  |false=>
   rw[hx]at e1;have:∀h,be (d7 (dA wr) im cO) h [Y (.tup [.int sT,.lst cs]),Y (.int a)]=Y (.rt (.bl Z_)):=by intro h;unfold be d7;rw[e1];rfl
   rw[this];rfl
  |true=>
   rw[hx]at e1;have:d7 (dA wr) im cO [Y (.tup [.int sT,.lst cs]),Y (.int a)]=Y (.nx [Y (.tup [.int sT,.lst cs]),Y (.int a)]):=by unfold d7;rw[e1];rfl
   rw[aR this];have e2:oG Ev [M,Y 1] (gN 0) ic (bg (gw Z_) (aC (eF (oG sB [M,Y 1] (gN 0) ic (bg F (aC Fa pi)))) aN)) [Y (.tup [.int sT,.lst cs]),Y (.int a)]=Y (cs.map λc =>.bl (match c with|.lst xs=>xs.any λx=>qg n x a|_=>Z_)):=by
    unfold oG;show (if cs.length<=eC then Ap [M,Y (.int a)] (gN 0) ic _ cs else M)=_;rw[if_pos (fT (iG (by omega)))];refine sv cs λc Xg=>⟨[Y c,Y (.int a)],rfl,?_⟩
    obtain⟨xs,rfl,hxl,hxs⟩:=hc c Xg;exact L5 hxl λx hx=>ih x (hxs x hx)
   unfold dH;rw[uH e2,GH];rfl
def O9(n:Nat)(named atoms:Int)(b:Int):List (Int×D)->Int
 |[]=>b|(a,ask)::r=>O9 n named atoms (if bA named a != 0&&qg n ask atoms then bO b a else b) r
noncomputable def Js(p:Int×D):D :=.tup [.int p.1,p.2]
def Hv{d:D}{a:Int}(b:n<=12)(h:lE n d):tD [d,.int a]=Y (.bl (qg n d a)):=Ec n 12 d a b h
def H_{F:List D->Option D}{x:Int}{d:D}{a:Int}{f:DF}(k:dQ e c=Y (x != 0))(i:f c=Y d)(h:g c=Y (.int a))(j:F [d,.int a]=Y (.bl b)):kL (dQ e) (dQ (bg F (aC f (aC g aN)))) c=Y (x != 0&&b):=by
 have l:dQ (bg F (aC f (aC g aN))) c=Y b:=by unfold dQ bg aC;rw[i,h];show ((F [d,.int a]).bind _)=_;rw[j];rfl
 unfold kL;rw[k,l];cases (x != 0)<;>rfl
theorem Eh(k:n<=12)(self:D)(b a:Int):∀(e:List (Int×D)) (d:Int) (g f:Option D),(∀p∈e,lE n p.2)->∃j i,
  gD Ð fZ (e.map Js) [Y self,Y (.int b),Y (.int a),Y (.int d),g,f]=Y (.nx [Y self,Y (.int b),Y (.int a),Y (.int (O9 n b a d e)),j,i])
 |[],d,g,f,_=>⟨g,f,rfl⟩| (c,ask)::e,d,g,f,h=>by
  have m:=Hv (a:=a) k (h _ (az ..));have o:fZ [Y self,Y (.int b),Y (.int a),Y (.int d),Y (.int c),Y ask]=Y (.nx [Y self,Y (.int b),Y (.int a),Y (.int (if bA b c != 0&&qg n ask a then bO d c else d)),Y (.int c),Y ask]):=by unfold fZ d7;rw[H_ (x:=bA b c) (d:=ask) (a:=a) rfl rfl rfl m];simp only[ae];cases (bA b c != 0&&qg n ask a)<;>rfl
  rw[bh,oE (ρ1:=[Y self,Y (.int b),Y (.int a),Y (.int d),Y (.int c),Y ask]) rfl o];obtain⟨j,i,q⟩:=Eh k self b a e (if bA b c != 0&&qg n ask a then bO d c else d) (Y (.int c)) (Y ask) (λp l=>h p (ay _ l));exact⟨j,i,q.trans rfl⟩
def Jr{f:EL}{n:Nat}(g:n<=12)(e:f.cV=c.map Js)(h:∀p∈c,lE n p.2)(b a:Int):ir [fY f,.int b,.int a]=Y (.int (O9 n b a (bA a f.inner) c)):=by
 show (lA [Y (fY f),Y (.int b),Y (.int a),M,M,M]).bind mQ=_;unfold lA;rw[aR (ig (d :=.int (bA a f.inner)) (by kernel_rfl))];simp only[bo,bp];obtain⟨j,i,q⟩:=Eh g (fY f) b a c (bA a f.inner) M M h;have d:jw (iL (bD "Facts" "leads" Fa)) Ð fZ [Y (fY f),Y (.int b),Y (.int a),Y (.int (bA a f.inner)),M,M]=gD Ð fZ (c.map Js) [Y (fY f),Y (.int b),Y (.int a),Y (.int (bA a f.inner)),M,M]:=by
  have:iL (bD "Facts" "leads" Fa) [Y (fY f),Y (.int b),Y (.int a),Y (.int (bA a f.inner)),M,M]=Y f.cV:=by kernel_rfl
  unfold jw;rw[this,e];rfl
 rw[aR (d.trans q)];rfl
def Gi(n:Nat)(named atoms:Int):Nat->Int->List D->Int
 |_,a,[]=>a|k,a,ask::r=>Gi n named atoms (k+1) (if bA named (2 ^ k) != 0&&qg n ask atoms then bO a (2 ^ k) else a) r
theorem HK(m:n<=12)(self:D)(b a:Int):∀(e:List D) (k:Nat) (c:Int) (g f d:Option D),(∀p∈e,lE n p)->k+e.length<=1000->∃l j i,
  gD Ð fE ((e.zipIdx k).map λp =>.tup [.int (p.2:Nat),p.1]) [Y self,Y (.int b),Y (.int a),Y (.int c),g,f,d]=Y (.nx [Y self,Y (.int b),Y (.int a),Y (.int (Gi n b a k c e)),l,j,i])
 |[],k,c,g,f,d,_,_=>⟨g,f,d,rfl⟩| ask::e,k,c,g,f,d,h,s=>by
  simp only[aU]at s;have r:=Hv (a:=a) m (h _ (az ..));have t:fE [Y self,Y (.int b),Y (.int a),Y (.int c),Y (.int (k:Nat)),Y ask,d]=Y (.nx [Y self,Y (.int b),Y (.int a),Y (.int (if bA b (2 ^ k) != 0&&qg n ask a then bO c (2 ^ k) else c)),Y (.int (k:Nat)),Y ask,Y (.int (2 ^ k))]):=by
   unfold fE;rw[aR (ρ':=[Y self,Y (.int b),Y (.int a),Y (.int c),Y (.int (k:Nat)),Y ask,Y (.int (2 ^ k))]) ?u]
   case u=>rw[ig ((show e2 qe u8 pc [Y self,Y (.int b),Y (.int a),Y (.int c),Y (.int (k:Nat)),Y ask,d]=qe (.int 1) (.int (k:Nat)) from rfl).trans (Om (by omega)))];rfl
   unfold d7;rw[H_ (x:=bA b (2 ^ k)) (d:=ask) (a:=a) rfl rfl rfl r];simp only[ae];cases (bA b (2 ^ k) != 0&&qg n ask a)<;>rfl
  rw[EU,bh,oE (ρ1:=[Y self,Y (.int b),Y (.int a),Y (.int c),Y (.int (k:Nat)),Y ask,d]) rfl t];obtain⟨l,j,i,q⟩:=HK m self b a e (k+1) (if bA b (2 ^ k) != 0&&qg n ask a then bO c (2 ^ k) else c) (Y (.int (k:Nat))) (Y ask) (Y (.int (2 ^ k))) (λp o=>h p (ay _ o)) ž;exact⟨l,j,i,q.trans rfl⟩
def Gh{f:EL}{n:Nat}(d:n<=12)(h:∀p∈f.asks,lE n p)(e:f.asks.length<=1000)(a b:Int):dS [fY f,.int a,.int b]=Y (.int (Gi n a b 0 0 f.asks)):=by
 show (kg [Y (fY f),Y (.int a),Y (.int b),M,M,M,M]).bind mQ=_;unfold kg;rw[aR (ig (d :=.int 0) rfl)];simp only[bo,bp];obtain⟨j,i,g,q⟩:=HK d (fY f) a b f.asks 0 0 M M M h ž;have c:jw (iE (bD "Facts" "asks" Fa)) Ð fE [Y (fY f),Y (.int a),Y (.int b),Y (.int 0),M,M,M]=gD Ð fE ((f.asks.zipIdx 0).map λp =>.tup [.int (p.2:Nat),p.1]) [Y (fY f),Y (.int a),Y (.int b),Y (.int 0),M,M,M]:=by
  have:iL (bD "Facts" "asks" Fa) [Y (fY f),Y (.int a),Y (.int b),Y (.int 0),M,M,M]=Y f.asks:=by kernel_rfl
  unfold jw iE;rw[this];rfl
 rw[aR (c.trans q)];rfl
def TJ(a b:Nat):bA (a:Int) (b:Int)=((a &&& b:Nat):Int):=by
 unfold bA;rw[Qi (by omega) (by omega)];simp
def GD(a b:Nat):bO (a:Int) (b:Int)=((a ||| b:Nat):Int):=by
 unfold bO;rw[PyProof.Rows.bitOr_and,show uR (a:Int) (b:Int)=_ from TJ a b];have:=Iz a b;omega
def wO(d:0<=x)(c:0<=y):0<=bO x y:=by
 obtain⟨a,rfl⟩:=dG d;obtain⟨b,rfl⟩:=dG c;have:=GD a b;omega
structure FB where
 q:List D
 bits:Nat
 nk:List lL
 nv:List D
 tk:List lL
 tv:List D
 jC:Int
 uX:Int
 inner:Int
 cV:List D
noncomputable abbrev Uy:List aJ:=["question", "bits", "by_name", "by_text", "starred", "stars", "inner", "leads"]
def d_(s:FB):D :=.ins "Facts" Uy [.lst s.q,.int (s.bits:Nat),.iZ s.nk s.nv,.iZ s.tk s.tv,.int s.jC,.int s.uX,.int s.inner,.lst s.cV]
abbrev oF(s:FB):Option D:=Y (.obj aB (d_ s))
abbrev UF:=mu aB
def y0(s:FB)(h:s.bits<=999):eN [d_ s]=Y (.int (2 ^ s.bits),d_ { s with bits:=s.bits+1 }):=by
 show (kf [oF s]).bind UF=_;unfold kf;rw[aR (ρ':=[oF { s with bits:=s.bits+1 }]) ?b]
 case b=>kernel_rfl
 have a:lI [0] [] (e2 qe u8 NE) [oF { s with bits:=s.bits+1 }]=Y (.int (2 ^ s.bits)):=by refine mS (ρ':=[Y (d_ { s with bits:=s.bits+1 })]) rfl ?_ rfl;have:e2 qe u8 NE [Y (d_ { s with bits:=s.bits+1 })]=qe (.int 1) (.int (((s.bits+1:Nat):Int)-1)):=rfl;rw[this,show ((s.bits+1:Nat):Int)-1=(s.bits:Int) by omega,Om (by omega)]
 unfold dM mP;rw[a];kernel_rfl
def lu{F:List D->Option (D×D)}{m:aJ}{ρ1:cA}{s s1 b:FB}{args:List D}(c:m∉Uy)(i:eV j a=oF s)(e:g a=Y (args,ρ1))(f:eV j ρ1=oF s1)(h:F (d_ s1::args)=Y (d,d_ b)):
  bW "Facts" m aB F j g a=Y (d,(cG j ρ1).set j (oF b)):=by
 have l:xR j a=Y (aB,d_ s):=by unfold xR;rw[i]
 have k:lO aB j ρ1=Y (d_ s1):=by unfold lO xR;rw[f];kernel_rfl
 unfold bW;rw[l];simp only[ae];show (if _ then _ else _)=_;rw[if_pos ⟨⟨rfl,rfl⟩,c⟩,e];simp only[ae,k,h];rfl
structure Kl(s:FB):Prop where
 nv:∀v∈s.nv,∃i,0<=i/\v=D.int i
 star:0<=s.jC
 inner:0<=s.inner
 nk:s.nk.length<=s.bits
noncomputable abbrev C9(a b:aJ)(w:D):D :=.tup [.str a,.str b,w]
def p'(n:Nat):(0:Int)<=2 ^ n:=Int.le_of_lt (Int.pow_pos ſ)
structure bC(s s':FB):Prop where
 q:s'.q=s.q
 tk:s'.tk=s.tk
 tv:s'.tv=s.tv
 cV:s'.cV=s.cV
theorem Ks:∀ {b:List lL}{a:List D},∀v∈vE (λq x=>if q=k then d else x) b a,v=d\/v∈a
 |[],a,v,h=>by simp at h
 |q::b,[],v,h=>by simp at h
 | q::b,x::a,v,h=>by
  simp only[vD,aW]at h;rcases h with h|h
  ·by_cases e:q=k
   ·rw[if_pos e]at h;exact .inl h
   ·rw[if_neg e]at h;exact .inr (by rw[h];exact az ..)
  ·rcases Ks v h with h|h
   ·exact .inl h
   ·exact .inr (ay _ h)
def JU{k:lL}{d:D}{ks:List lL}{ds:List D}(v:D)(h:v∈(ql k d ks ds).2):v=d\/v∈ds:=by
 unfold ql at h;split at h
 ·exact Ks v h
 ·rcases bu.mp h with h|h
  ·exact .inr h
  ·exact .inl (cw.mp h)
def M_{k:lL}{d:D}{ks:List lL}{ds:List D}:(ql k d ks ds).1.length<=ks.length+1:=by
 unfold ql;split<;>simp
def Bt(h:eQ b a k=Y d):d∈a:=by
 unfold eQ at h;obtain⟨p,e,h⟩:=au.1 h;cases h;have:=List.mem_of_find?_eq_some e;exact(vJ this).2
def Ef{k:lL}{ks:List lL}(h:∀v∈a,∃i,0<=i/\v=D.int i):∃i,0<=i/\(eQ ks a k).getD (.int 0)=.int i:=by
 cases e:eQ ks a k with
 |none=>exact⟨0,ſ,rfl⟩
 |some d=>obtain⟨i,b,rfl⟩:=h d (Bt e);exact⟨i,b,rfl⟩
def Ll{s:FB}(hi:(eQ s.nk s.nv (cN nm)).getD (.int 0)=.int i)(hl:s.nk.length<eC):
  qC 0 "Facts" "by_name" bi (mP (lI [0] [] (e2 C_ Go Db))) [oF s,Y (C9 CY nm w),Y (.int b)]=Y (.nx [oF { s with nk:=(ql (cN nm) (.int (bO i b)) s.nk s.nv).1,nv:=(ql (cN nm) (.int (bO i b)) s.nk s.nv).2 },Y (C9 CY nm w),Y (.int b)]):=by
 have e1:lI [0] [] (e2 C_ Go Db) [oF s,Y (C9 CY nm w),Y (.int b)]=Y (.int (bO i b)):=by refine mS (ρ':=[Y (d_ s),Y (C9 CY nm w),Y (.int b)]) rfl ?_ rfl;have:e2 C_ Go Db [Y (d_ s),Y (C9 CY nm w),Y (.int b)]=C_ ((eQ s.nk s.nv (cN nm)).getD (.int 0)) (.int b):=rfl;rw[this,hi];rfl
 unfold qC mP;rw[e1];simp only[bP,ae];have e2:r8 "Facts" "by_name" 0 [oF s,Y (C9 CY nm w),Y (.int b)]=Y (sF,Uy,[.lst s.q,.int (s.bits:Nat),.iZ s.nk s.nv,.iZ s.tk s.tv,.int s.jC,.int s.uX,.int s.inner,.lst s.cV],.iZ s.nk s.nv):=by kernel_rfl
 rw[e2];simp only[ae];have e3:(L2.e2 bX db u8 [oF s,Y (C9 CY nm w),Y (.int b)]).bind Ca=Y (cN nm):=rfl;show (if _/\s.nk.length<eC then _ else M)=_;rw[if_pos ⟨by decide,hl⟩];kernel_rfl
def Av{s:FB}(W:Kl s)(h:s.bits<=999)(CY nm:aJ)(w:D):∃s',du [d_ s,C9 CY nm w]=Y (.int (2 ^ s.bits),d_ s')/\s'.bits=s.bits+1/\bC s s'/\Kl s':=by
 have e0:du [d_ s,C9 CY nm w]=(iH [oF s,Y (C9 CY nm w),M]).bind UF:=rfl;have hb:(0:Int)<=2 ^ s.bits:=p' _;rw[e0];unfold iH;rw[aR (ρ':=[oF { s with bits:=s.bits+1 },Y (C9 CY nm w),Y (.int (2 ^ s.bits))]) ?q0]
 case q0=>unfold mY;rw[lu (by decide) rfl rfl rfl (y0 s h)];rfl
 generalize (2:Int) ^ s.bits=b at *
 have W1:Kl { s with bits:=s.bits+1 }:=⟨W.nv,W.star,W.inner,tH W.nk⟩;have hk1:s.nk.length<=s.bits:=W.nk;have S1:bC s { s with bits:=s.bits+1 }:=⟨rfl,rfl,rfl,rfl⟩;have hb1:({ s with bits:=s.bits+1 }:FB).bits=s.bits+1:=rfl;have V1:({ s with bits:=s.bits+1 }:FB).nk.length<=s.bits:=hk1;generalize ({ s with bits:=s.bits+1 }:FB)=s1 at *
 obtain⟨s2,q1,W2,S2,Xh,hk2⟩:∃s2,d7 (dA (e2 fc ci py)) (eE Z_ 0 "Facts" "inner" cZ Db) cO [oF s1,Y (C9 CY nm w),Y (.int b)]=Y (.nx [oF s2,Y (C9 CY nm w),Y (.int b)])/\Kl s2/\bC s s2/\s2.bits=s.bits+1/\s2.nk.length<=s.bits:=by
  have e1:dA (e2 fc ci py) [oF s1,Y (C9 CY nm w),Y (.int b)]=Y (Aw (.str CY) (.str (af "inner"))):=by kernel_rfl
  unfold d7;rw[e1];cases Aw (.str CY) (.str (af "inner")) with
  |true=>exact⟨{ s1 with inner:=bO s1.inner b },by kernel_rfl,⟨W1.nv,W1.star,wO W1.inner hb,W1.nk⟩,⟨S1.q,S1.tk,S1.tv,S1.cV⟩,hb1,V1⟩
  |false=>exact⟨s1,rfl,W1,S1,hb1,V1⟩
 rw[aR q1];obtain⟨s3,q2,W3,S3,hb3⟩:∃s3,d7 (dA (e2 fc bi on)) (be (eE Z_ 0 "Facts" "starred" cZ Db) (eE Z_ 0 "Facts" "stars" (λi j=>i+j) u8)) IN [oF s2,Y (C9 CY nm w),Y (.int b)]=Y (.nx [oF s3,Y (C9 CY nm w),Y (.int b)])/\Kl s3/\bC s s3/\s3.bits=s.bits+1:=by
  have e1:dA (e2 fc bi on) [oF s2,Y (C9 CY nm w),Y (.int b)]=Y (Aw (.str nm) (.str (af "*"))):=by kernel_rfl
  unfold d7;rw[e1];cases Aw (.str nm) (.str (af "*")) with
  |true=>exact⟨{ s2 with jC:=bO s2.jC b,uX:=s2.uX+1 },by kernel_rfl,⟨W2.nv,wO W2.star hb,W2.inner,W2.nk⟩,⟨S2.q,S2.tk,S2.tv,S2.cV⟩,Xh⟩
  |false=>
   obtain⟨i,hi,hl⟩:=Ef (k:=cN nm) (ks:=s2.nk) W2.nv;refine⟨{ s2 with nk:=(ql (cN nm) (.int (bO i b)) s2.nk s2.nv).1,nv:=(ql (cN nm) (.int (bO i b)) s2.nk s2.nv).2 },?_,⟨?_,W2.star,W2.inner,?_⟩,⟨S2.q,S2.tk,S2.tv,S2.cV⟩,Xh⟩
   ·exact Ll hl (iG ž)
   ·intro v hv;rcases JU v hv with rfl|hv
    ·exact⟨_,wO hi hb,rfl⟩
    ·exact W2.nv v hv
   ·have:=M_ (k:=cN nm) (d :=.int (bO i b)) (ks:=s2.nk) (ds:=s2.nv);show (ql (cN nm) (.int (bO i b)) s2.nk s2.nv).1.length<=s2.bits;omega
 rw[aR q2];exact⟨s3,by kernel_rfl,hb3,S3,W3⟩
noncomputable def fN:Nat->Nat->List Int
 |_,0=>[]|n,k+1=>2 ^ n::fN (n+1) k
theorem tq:∀n k,(fN n k).length=k
 |_,0=>rfl|n,k+1=>by simp[fN,tq (n+1) k]
abbrev cH(p:aJ×aJ×D):D:=C9 p.1 p.2.1 p.2.2
def bC.trans(h:bC a b)(g:bC b c):bC a c:=⟨g.q.trans h.q,g.tk.trans h.tk,g.tv.trans h.tv,g.cV.trans h.cV⟩
theorem Eo:∀(a:List (aJ×aJ×D)) (s:FB) (x:Option D),Kl s->s.bits+a.length<=1000->∃c,Ao [M,x] (gN 0) (bW "Facts" "enter_step" aB du 1 xz) 1 aB (a.map cH) (d_ s)=Y ((fN s.bits a.length).map D.int,d_ c)/\c.bits=s.bits+a.length/\bC s c/\Kl c
 |[],s,x,W,h=>⟨s,rfl,rfl,⟨rfl,rfl,rfl,rfl⟩,W⟩| p::a,s,x,W,h=>by
  simp only[aU]at h;obtain⟨b,k,e,q,n⟩:=Av W ž p.1 p.2.1 p.2.2;obtain⟨f,d,l,o,m⟩:=Eo a b x n ž;refine⟨f,?_,by rw[l,e];simp only[aU];omega,q.trans o,m⟩;rw[bh,Ao];have j:gN 0 (cH p) ([M,x].set 1 (Y (.obj aB (d_ s))))=Y [Y (cH p),oF s]:=rfl;have i:bW "Facts" "enter_step" aB du 1 xz [Y (cH p),oF s]=Y (.int (2 ^ s.bits),[Y (cH p),oF b]):=by rw[lu (ρ1:=[Y (cH p),oF s]) (args:=[cH p]) (by decide) rfl rfl rfl k];rfl
  have g:lO aB 1 [Y (cH p),oF b]=Y (d_ b):=by kernel_rfl
  rw[j];simp only[ae,i,g];rw[e]at d;rw[d];rfl
def Ep{s:FB}(W:Kl s)(a:List (aJ×aJ×D))(h:s.bits+a.length<=1000):∃b,jb [d_ s,.lst (a.map cH)]=Y (.lst ((fN s.bits a.length).map D.int),d_ b)/\b.bits=s.bits+a.length/\bC s b/\Kl b:=by
 obtain⟨b,e,r⟩:=Eo a s (Y (.obj aB (d_ s))) W h;refine⟨b,?_,r⟩;show (mi [oF s,Y (.lst (a.map cH))]).bind UF=_;have g:vh (iL db) [M,Y 0] (gN 0) (bW "Facts" "enter_step" aB du 1 xz) 1 0 aB [oF s,Y (.lst (a.map cH))]=Y (.lst ((fN s.bits a.length).map D.int),[oF b,Y (.lst (a.map cH))]):=by
  unfold vh;have f:iL db [oF s,Y (.lst (a.map cH))]=Y (a.map cH):=rfl;have d:lO aB 0 [oF s,Y (.lst (a.map cH))]=Y (d_ s):=by kernel_rfl
  have c:mJ [M,Y 0] (cG 0 [oF s,Y (.lst (a.map cH))])=[M,Y (.obj aB (d_ s))]:=rfl;rw[f];simp only[ae];rw[if_pos (fT (iG (by rw[aw];omega))),d];simp only[ae];rw[c,e];rfl
 unfold mi dM;rw[g];kernel_rfl
def UH(_:Nat)(_:Nat->Prop)(_:D)(_:Prop):Prop:=True
def UH.ext{b':Nat}{P P2:Nat->Prop}{d:D}(h:UH b P d c)(l:b<=b')(g:∀i,i<b->P2 i->P i):UH b' P2 d c:=trivial
structure Inv(s:FB)(P:Nat->Prop):Prop where
 NN:Kl s
 tv:∀v∈s.tv,∃j,j<s.bits/\v=D.int (2 ^ j)/\P j
 tk:s.tk.length<=s.bits
 WW:s.tk.length=s.tv.length
 cV:∀l∈s.cV,∃j ask,l=Js ((2:Int) ^ j,ask)/\j<s.bits/\lE 6 ask/\UH s.bits P ask (P j)
 V8:s.cV.length<=s.bits
structure gc(s:FB)(P:Nat->Prop)(s':FB)(P':Nat->Prop)(z:Nat):Prop where
 q:s'.q=s.q
 lo:s.bits<=s'.bits
 hi:s'.bits<=s.bits+z
 same:∀i,i<s.bits->(P' i↔P i)
 ld:s'.cV.length+s.bits<=s.cV.length+s'.bits
def gc.trans{s:FB}{P:Nat->Prop}(h:gc s P b d y)(g:gc b d a c z):gc s P a c (y+z):=
 ⟨g.q.trans h.q,bQ h.lo g.lo,by have:=h.hi;have:=g.hi;omega,λi e=>(g.same i (by have:=h.lo;omega)).trans (h.same i e),by have:=h.ld;have:=g.ld;omega⟩
def JV{d:D}(m:a.length=b.length)(h:eQ a b k=M):ql k d a b=(a++[k],b++[d])/\eQ (a++[k]) (b++[d]) k=Y d:=by
 have c:∀p∈a.zip b,¬p.1=k:=by unfold eQ at h;simp only[Option.map_eq_none_iff,List.find?_eq_none,decide_eq_true_eq]at h;exact h
 have n:¬(a.any λq=>decide (q=k))=true:=by intro f;simp only[List.any_eq_true,decide_eq_true_eq]at f;obtain⟨q,j,rfl⟩:=f;obtain⟨i,o,e⟩:=List.getElem_of_mem j;exact c (q,b[i]' ž) (by rw[<- e];exact List.mem_iff_getElem.mpr ⟨i,by simp;omega,Ž⟩) rfl
 refine⟨by unfold ql;rw[if_neg n],?_⟩;unfold eQ;rw[List.zip_append m,C6];have:(a.zip b).find? (λg=>decide (g.1=k))=none:=by rw[List.find?_eq_none];intro p l;simp only[decide_eq_true_eq];exact c p l
 rw[this];simp
def zw{s:FB}(hb:s.bits<=999)(hl:s.tk.length<=s.bits)(hkv:s.tk.length=s.tv.length)(h:eQ s.tk s.tv (cN t)=M):
  cM [d_ s,.str t]=Y (.int (2 ^ s.bits),d_ { s with bits:=s.bits+1,tk:=s.tk++[cN t],tv:=s.tv++[.int (2 ^ s.bits)] }):=by
 show (eU [oF s,Y (.str t)]).bind UF=_;unfold eU;obtain⟨hp,hlk⟩:=JV (d :=.int (2 ^ s.bits)) hkv h;have e1:xS [0] [] Is [oF s,Y (.str t)]=Y true:=by refine qy (ρ':=[Y (d_ s),Y (.str t)]) rfl ?_;have:dA (e2 (D5 Z') db (bD "Facts" "by_text" Fa)) [Y (d_ s),Y (.str t)]=Y (!(eQ s.tk s.tv (cN t)).isSome):=rfl;rw[Is,this,h];rfl
 have e2:qC 0 "Facts" "by_text" db (bW "Facts" "new_bit" aB eN 0 kZ) [oF s,Y (.str t)]=Y (.nx [oF { s with bits:=s.bits+1,tk:=s.tk++[cN t],tv:=s.tv++[.int (2 ^ s.bits)] },Y (.str t)]):=by
  have m1:bW "Facts" "new_bit" aB eN 0 kZ [oF s,Y (.str t)]=Y (.int (2 ^ s.bits),[oF { s with bits:=s.bits+1 },Y (.str t)]):=by rw[lu (by decide) rfl rfl rfl (y0 s hb)];rfl
  unfold qC;rw[m1];simp only[ae];have e3:r8 "Facts" "by_text" 0 [oF { s with bits:=s.bits+1 },Y (.str t)]=Y (sF,Uy,[.lst s.q,.int ((s.bits+1:Nat):Int),.iZ s.nk s.nv,.iZ s.tk s.tv,.int s.jC,.int s.uX,.int s.inner,.lst s.cV],.iZ s.tk s.tv):=by kernel_rfl
  rw[e3];simp only[ae];show (if _/\s.tk.length<eC then _ else M)=_;rw[if_pos ⟨by decide,iG (by omega)⟩];show Y (DO.nx [Y (yO "Facts" "by_text" sF Uy _ (.iZ (ql (cN t) (.int (2 ^ s.bits)) s.tk s.tv).1 (ql (cN t) (.int (2 ^ s.bits)) s.tk s.tv).2)),Y (.str t)])=_;rw[hp];generalize (2:Int) ^ s.bits=b;kernel_rfl
 rw[aR (ρ':=[oF { s with bits:=s.bits+1,tk:=s.tk++[cN t],tv:=s.tv++[.int (2 ^ s.bits)] },Y (.str t)]) ?e4]
 case e4=>unfold d7;rw[e1];exact e2
 have e5:lI [0] [] (L2.e2 D6 (bD "Facts" "by_text" Fa) db) [oF { s with bits:=s.bits+1,tk:=s.tk++[cN t],tv:=s.tv++[.int (2 ^ s.bits)] },Y (.str t)]=Y (.int (2 ^ s.bits)):=by refine mS (ρ':=[Y (d_ { s with bits:=s.bits+1,tk:=s.tk++[cN t],tv:=s.tv++[.int (2 ^ s.bits)] }),Y (.str t)]) rfl ?_ rfl;exact hlk
 unfold dM mP;rw[e5];generalize (2:Int) ^ s.bits=b;kernel_rfl
def zu{s:FB}(h:eQ s.tk s.tv (cN t)=Y (.int i)):cM [d_ s,.str t]=Y (.int i,d_ s):=by
 show (eU [oF s,Y (.str t)]).bind UF=_;unfold eU;have c:xS [0] [] Is [oF s,Y (.str t)]=Y false:=by refine qy (ρ':=[Y (d_ s),Y (.str t)]) rfl ?_;have:dA (e2 (D5 Z') db (bD "Facts" "by_text" Fa)) [Y (d_ s),Y (.str t)]=Y (!(eQ s.tk s.tv (cN t)).isSome):=rfl;rw[Is,this,h];rfl
 have b:∀g,d7 (xS [0] [] (dA (L2.e2 (D5 Z') db (bD "Facts" "by_text" Fa)))) g cO [oF s,Y (.str t)]=Y (.nx [oF s,Y (.str t)]):=by intro g;unfold d7;rw[c];rfl
 rw[aR (b _)];have a:lI [0] [] (L2.e2 D6 (bD "Facts" "by_text" Fa) db) [oF s,Y (.str t)]=Y (.int i):=mS (ρ':=[Y (d_ s),Y (.str t)]) rfl h rfl;unfold dM mP;rw[a];kernel_rfl
def Au{s:FB}{P:Nat->Prop}(I:Inv s P)(u:s.bits<=999)(t:aJ):∃j f k,cM [d_ s,.str t]=Y (.int (2 ^ j),d_ f)/\j<f.bits/\gc s P f k 1/\Inv f k:=by
 cases h:eQ s.tk s.tv (cN t) with
 |some d=>obtain⟨j,b,rfl,_⟩:=I.tv d (Bt h);exact⟨j,s,P,zu h,b,⟨rfl,aQ _,ž,λ_ _=>Iff.rfl,aQ _⟩,I⟩
 |none=>
  have g:∀i,i<s.bits->((if i<s.bits then P i else True)↔P i):=λi o=>by rw[if_pos o]
  refine⟨s.bits,_,λi=>if i<s.bits then P i else True,zw u I.tk I.WW h,js _,⟨rfl,fA _,aQ _,g,fA _⟩,?_⟩;refine⟨⟨I.NN.nv,I.NN.star,I.NN.inner,tH I.NN.nk⟩,?_,?_,?_,?_,tH I.V8⟩
  ·intro v c;rcases bu.mp c with c|c
   ·obtain⟨j,b,e,p⟩:=I.tv v c;exact⟨j,tG b,e,(g j b).mpr p⟩
   ·exact⟨s.bits,js _,cw.mp c,Ž⟩
  ·have:=I.tk;show (s.tk++[_]).length<=s.bits+1;rw[aS];simp;omega
  ·show (s.tk++[_]).length=(s.tv++[_]).length;rw[aS,aS,I.WW];rfl
  ·intro l r;obtain⟨j,q,e,b,w,m⟩:=I.cV l r;exact⟨j,q,e,tG b,w,trivial⟩
end K21
namespace L2
open PySem PySem.Spec PyProof.Rows
theorem HH{τ:EO}{g:DG}(I:Nat->cA->Prop):∀(k:List D) (i:Nat) (a:cA),I i a->(∀j d a,k[j]?=Y d->I (i+j) a->∃f b,τ d a=Y f/\g f=Y (.nx b)/\I (i+j+1) b) ->
  ∃c,gD τ g k a=Y (.nx c)/\I (i+k.length) c
 |[],i,a,h,_=>⟨a,rfl,h⟩| d::k,i,a,h,st=>by
  obtain⟨f,b,q,p,n⟩:=st 0 d a rfl h;obtain⟨c,e,o⟩:=HH I k (i+1) b n λj d a l m=>by have:=st (j+1) d a (by simpa using l) (by rw[show i+(j+1)=i+1+j by omega];exact m);rw[show i+(j+1)+1=i+1+j+1 by omega]at this;exact this
  refine⟨c,?_,by rw[show i+(d::k).length=i+1+k.length by simp;omega];exact o⟩;unfold gD;rw[q];simp only[ae,p];exact e
def sE{τ:EO}{g:DG}(I:Nat->cA->Prop){ds:List D}{ρ:cA}(i:I 0 ρ)(f:∀j d ρ,ds[j]?=Y d->I j ρ->∃b a,τ d ρ=Y b/\g b=Y (.nx a)/\I (j+1) a):∃c,gD τ g ds ρ=Y (.nx c)/\I ds.length c:=by
 have:=HH (τ:=τ) (g:=g) I ds 0 ρ i (λj d ρ h e=>by rw[qY]at e ⊢;exact f j d ρ h e);rw[qY]at this;exact this
def Ih{xs:List b}{z:Int}(d:0<=z)(c:z<xs.length):∃v,oU xs z=Y v/\v∈xs:=by
 have a:z.toNat<xs.length:=by omega
 refine⟨xs[z.toNat],?_,List.getElem_mem a⟩;have e:((z.toNat:Nat):Int)=z:=by omega
 have:=jl (xs:=xs) (j:=z.toNat) (v:=xs[z.toNat]) (by simp[a]);rw[e]at this;exact this
def vz{xs:List Int}{z:Int}(h0:0<=z)(h1:z<xs.length):∃v,oU (xs.map D.int) z=Y (.int v):=by
 obtain⟨v,e,hm⟩:=Ih (xs:=xs) h0 h1;exact⟨v,by rw[CM,e];rfl⟩
def yl{xs:List aJ}{z:Int}(h0:0<=z)(h1:z<xs.length):∃v,oU (xs.map D.str) z=Y (.str v)/\v∈xs:=by
 obtain⟨v,e,hm⟩:=Ih (xs:=xs) h0 h1;exact⟨v,by rw[CM,e];rfl,hm⟩
def Pf{n:Nat}{z:Int}(b:0<=z)(a:z<n):Cc n z=Y z.toNat:=by unfold Cc;rw[if_pos b,if_pos a]
def DK(h:(nh a n)[j]?=Y d):j<n/\d=.int (a+j):=by
 unfold nh at h;rw[aY]at h;obtain⟨k,q,h⟩:=au.1 h;cases h;obtain⟨c,b⟩:=aq.mp q;have:k=j:=by simpa using b.symm
 subst this;exact⟨by simpa using c,rfl⟩
def p_(a:Int)(n:Nat):(nh a n).length=n:=by simp[nh]
theorem sv{h:D->D}:∀ {b:List D},(∀d∈b,∃a,c d e=Y a/\g a=Y (h d))->Ap e c ic g b=Y (b.map h)
 |[],_=>rfl|d::b,f=>by obtain⟨a,j,i⟩:=f d az;unfold Ap;rw[j];simp only[ic,ae,if_true,i];rw[sv λd h=>f d (ay _ h)];rfl
def kj:eC=1000000:=rfl
def Tu(a:List b)(l h:Option Int):(BF a l h).length<=a.length:=by
 unfold BF;rw[lG,EV];omega
def Gy(a:List b)(c:0<=k):BF a M (Y k)=a.take k.toNat:=by
 unfold BF HT.AW;simp only[List.drop_zero,Nat.sub_zero,if_neg (show ¬k<0 by omega)];by_cases h:k.toNat<=a.length
 ·rw[GS h]
 ·rw[Nat.min_eq_right (by omega),List.take_length,Qm (by omega)]
def Ex(xs:List a)(b:0<=k):BF xs (Y k) M=xs.drop k.toNat:=by
 unfold BF HT.AW;simp only[if_neg (show ¬k<0 by omega)];by_cases h:k.toNat<=xs.length
 ·rw[GS h,Qm (by simp)]
 ·rw[Nat.min_eq_right (by omega),Nat.sub_self,List.take_zero,Qo (by omega)]
end L2
namespace K21
open PySem L2
noncomputable abbrev gA(a:Int)(b:List D):D :=.tup [.int a,.lst b]
def ij:List D->List Int->List Int->List D
 |.tup [.int a,.lst d]::g,b::e,f::c=>Js (b,gA (bO a f) d)::ij g e c|_,_,_=>[]
def nlN:ij [] l k=[]:=rfl
def nl1:ij (gA a d::g) [] k=[]:=rfl
def nl2:ij (gA a d::g) (b::e) []=[]:=rfl
def Yw:ij (gA a d::g) (b::e) (f::c)=Js (b,gA (bO a f) d)::ij g e c:=rfl
theorem Ej{y1 y2 y4:List D}{y3:Int}:∀(e:List D) (l k:List Int) (s:FB) (j i g:Option D),(∀a∈e,∃c d,a=gA c d)->s.cV.length+e.length<eC->∃o n m,
  gD (SU 5 6 7) ip (kJ e (l.map D.int) (k.map D.int)) [oF s,Y (.lst y1),Y (.lst y2),Y (.int y3),Y (.lst y4),j,i,g]=Y (.nx [oF { s with cV:=s.cV++ij e l k },Y (.lst y1),Y (.lst y2),Y (.int y3),Y (.lst y4),o,n,m])
 |[],l,k,s,j,i,g,_,_=>⟨j,i,g,by simp[kJ,gD,nlN]⟩
 |a::e,[],k,s,j,i,g,h,_=>by obtain⟨c,d,rfl⟩:=h a (az ..);exact⟨j,i,g,by simp[kJ,gD,nl1]⟩
 |a::e,b::l,[],s,j,i,g,h,_=>by obtain⟨c,d,rfl⟩:=h a (az ..);exact⟨j,i,g,by simp[kJ,gD,nl2]⟩
 | a::e,b::l,f::k,s,j,i,g,h,r=>by
  obtain⟨c,d,rfl⟩:=h a (az ..);simp only[aU]at r;have t:ip [oF s,Y (.lst y1),Y (.lst y2),Y (.int y3),Y (.lst y4),Y (gA c d),Y (.int b),Y (.int f)]=Y (.nx [oF { s with cV:=s.cV++[Js (b,gA (bO c f) d)] },Y (.lst y1),Y (.lst y2),Y (.int y3),Y (.lst y4),Y (gA c d),Y (.int b),Y (.int f)]):=by
   unfold ip Hg;have u:r8 "Facts" "leads" 0 [oF s,Y (.lst y1),Y (.lst y2),Y (.int y3),Y (.lst y4),Y (gA c d),Y (.int b),Y (.int f)]=Y (sF,Uy,[.lst s.q,.int (s.bits:Nat),.iZ s.nk s.nv,.iZ s.tk s.tv,.int s.jC,.int s.uX,.int s.inner,.lst s.cV],.lst s.cV):=by kernel_rfl
   have v:eW (aC np (aC Ix aN)) [oF s,Y (.lst y1),Y (.lst y2),Y (.int y3),Y (.lst y4),Y (gA c d),Y (.int b),Y (.int f)]=Y (Js (b,gA (bO c f) d)):=by kernel_rfl
   rw[u];simp only[ae];rw[v];simp only[ae];rw[if_pos ⟨by decide,by omega⟩];kernel_rfl
  rw[bh,bh,kJ,oE (ρ1:=[oF s,Y (.lst y1),Y (.lst y2),Y (.int y3),Y (.lst y4),Y (gA c d),Y (.int b),Y (.int f)]) rfl t];obtain⟨o,n,m,q⟩:=Ej e l k { s with cV:=s.cV++[Js (b,gA (bO c f) d)] } (Y (gA c d)) (Y (.int b)) (Y (.int f)) (λx p=>h x (ay _ p)) (by rw[aS,cK];omega);refine⟨o,n,m,q.trans ?_⟩;simp only[Yw,bY,List.singleton_append]
def O_{s:FB}{as:List D}{b:Int}{bs:List Int}(h:∀a∈as,∃sT cs,a=gA sT cs)(hl:s.cV.length+as.length<eC)(hb:bs.length<=1000):nG [d_ s,.lst as,.lst ((b::bs).map D.int),.int 0]=Y (.dg,d_ { s with cV:=s.cV++ij as (b::bs) (bs++[0]) }):=by
 show (nt [oF s,Y (.lst as),Y (.lst ((b::bs).map D.int)),Y (.int 0),M,M,M,M]).bind UF=_;unfold nt;rw[aR (ρ':=[oF s,Y (.lst as),Y (.lst ((b::bs).map D.int)),Y (.int 0),Y (.lst ((bs++[0]).map D.int)),M,M,M]) ?q0]
 case q0=>
  have e1:e2 d9 (eF (HL Db (pS u8) pN)) (eF (gE Æ)) [oF s,Y (.lst as),Y (.lst ((b::bs).map D.int)),Y (.int 0),M,M,M,M]=d9 (.lst (BF ((b::bs).map D.int) (Y 1) M)) (.lst [.int 0]):=rfl;have e2:BF ((b::bs).map D.int) (Y 1) M=bs.map D.int:=by rw[Ex _ (by decide)];rfl
  rw[e2]at e1;have e3:d9 (.lst (bs.map D.int)) (.lst [.int 0])=Y (.lst ((bs++[0]).map D.int)):=by simp only[d9];rw[if_pos (fT (iG (by rw[aw,cK];omega)))];simp
  rw[ig (e1.trans e3)];rfl
 obtain⟨b5,b6,b7,q⟩:=Ej (y1:=as) (y2:=(b::bs).map D.int) (y3:=0) (y4:=(bs++[0]).map D.int) as (b::bs) (bs++[0]) s M M M h hl;have q2:jw (Xa db Db pc) (SU 5 6 7) ip [oF s,Y (.lst as),Y (.lst ((b::bs).map D.int)),Y (.int 0),Y (.lst ((bs++[0]).map D.int)),M,M,M]=gD (SU 5 6 7) ip (kJ as ((b::bs).map D.int) ((bs++[0]).map D.int)) [oF s,Y (.lst as),Y (.lst ((b::bs).map D.int)),Y (.int 0),Y (.lst ((bs++[0]).map D.int)),M,M,M]:=rfl;rw[q2,q];kernel_rfl
def jn1(c:List D):Int:=c.foldl (λn a=>match a with|.tup [.int b,_]=>bO n b|_=>n) 0
noncomputable def Kk(c:List D):List D:=c.flatMap λa=>match a with|.tup [_,.lst b]=>b|_=>[]
theorem zb{x0:List D}:∀(f:List D) (n:Int) (d:List D) (g:Option D),(∀a∈f,∃b d,a=gA b d)->d.length+(Kk f).length<eC->∃i,
  gD (gN 3) gJ f [Y (.lst x0),Y (.int n),Y (.lst d),g]=Y (.nx [Y (.lst x0),Y (.int (f.foldl (λn a=>match a with|.tup [.int b,_]=>bO n b|_=>n) n)),Y (.lst (d++Kk f)),i])
 |[],n,d,g,_,_=>⟨g,by simp[gD,Kk]⟩
 | a::f,n,d,g,h,k=>by
  obtain⟨b,c,rfl⟩:=h a (az ..);have e:Kk (gA b c::f)=c++Kk f:=rfl;rw[e,aS]at k;have l:gJ [Y (.lst x0),Y (.int n),Y (.lst d),Y (gA b c)]=Y (.nx [Y (.lst x0),Y (.int (bO n b)),Y (.lst (d++c)),Y (gA b c)]):=by
   unfold gJ;rw[aR (ρ':=[Y (.lst x0),Y (.int (bO n b)),Y (.lst d),Y (gA b c)]) ?m]
   case m=>kernel_rfl
   show (if d.length+c.length<=eC then _ else M)=_;rw[if_pos (by omega)];rfl
  rw[oE (ρ1:=[Y (.lst x0),Y (.int n),Y (.lst d),Y (gA b c)]) rfl l];obtain⟨i,q⟩:=zb f (bO n b) (d++c) (Y (gA b c)) (λx j=>h x (ay _ j)) (by rw[aS];omega);refine⟨i,q.trans ?_⟩;rw[e,List.foldl_cons,bY]
def Jx{as:List D}(h:∀a∈as,∃b e,a=gA b e)(f:(Kk as).length<eC):jZ [.lst as]=Y (gA (jn1 as) (Kk as)):=by
 show (mh [Y (.lst as),M,M,M]).bind mQ=_;unfold mh;rw[aR (ig (d :=.int 0) rfl)];simp only[bo,bp];rw[aR (ρ':=[Y (.lst as),Y (.int 0),Y (.lst []),M]) ?d]
 case d=>exact rfl
 obtain⟨g,q⟩:=zb (x0:=as) as 0 [] M h (by rw[jU];omega);have c:jw sB (gN 3) gJ [Y (.lst as),Y (.int 0),Y (.lst []),M]=gD (gN 3) gJ as [Y (.lst as),Y (.int 0),Y (.lst []),M]:=rfl;rw[aR (c.trans q)];rfl
noncomputable abbrev kS(x:String):D :=.str (af x)
def gU:Nat->D->Prop
 |0,_=>False|n+1,w=>w=.tup [kS "any"]\/(∃t,w=.tup [kS "text",.str t])\/(∃a:List (aJ×aJ×D),w=.tup [kS "has",.lst (a.map cH)]/\a≠[]/\a.length<=3/\∀p∈a,gU n p.2.2)\/(∃b:List D,w=.tup [kS "both",.lst b]/\b.length<=3/\∀x∈b,gU n x)\/(∃b:List D,w=.tup [kS "one",.lst b]/\b.length<=3/\∀x∈b,gU n x)
noncomputable def Qu:D->D
 |.tup [_,_,w]=>w|d=>d
noncomputable def vw:Nat->D->Bool
 |n+1,.tup [.str k,.lst a]=>if k=af "has" then a.all λb=>vw n (Qu b) else if k=af "both" then a.all (vw n) else if k=af "one" then a.any (vw n) else Z'
 |_,_=>Z'
noncomputable def Zb:Nat->Nat
 |0=>0|n+1=>3*(1+Zb n)
noncomputable def Ib:D->Nat
 |.tup [_,.lst a]=>a.length|_=>0
structure xp(b:Nat)(P:Nat->Prop)(n:Nat)(ask w:D):Prop where
 ad:lE n ask
 len:Ib ask<=3 ^ n
 snd:UH b P ask (vw n w=true)
def xp.ext{b':Nat}{P P2:Nat->Prop}{a:D}(h:xp b P n a w)(e:b<=b')(c:∀i,i<b->(P2 i↔P i)):xp b' P2 n a w:=⟨h.ad,h.len,h.snd.ext e λi d=>(c i d).mp⟩
def BD(F:List D->Option (D×D))(n:Nat):Prop:=∀s P w,gU n w->Inv s P->s.bits+Zb n<=999->∃a b c,F [d_ s,w]=Y (a,d_ b)/\gc s P b c (Zb n)/\Inv b c/\xp b.bits c n a w
inductive zW (R:D->D->Prop):List D->List D->Prop
 |nil:zW R [] []
 |cons {a b:D}{as bs:List D}:R a b->zW R as bs->zW R (a::as) (b::bs)
theorem zW.len{R:D->D->Prop}:∀ {b a:List D},zW R b a->b.length=a.length
 |_,_,.nil=>rfl|_,_,.cons _ t=>by simp[t.len]
def zW.left{R:D->D->Prop}(q:zW R d c):∀a∈d,∃b∈c,R a b:=by
 induction q with
 |nil=>exact nofun
 |cons r t i=>refine kX.2 ⟨⟨_,az ..,r⟩,λa h =>?_⟩;obtain⟨b,e,k⟩:=i a h;exact⟨b,ay _ e,k⟩
def gc.refl(s:FB)(P:Nat->Prop):gc s P s P 0:=⟨rfl,aQ _,aQ _,λ_ _=>Iff.rfl,aQ _⟩
theorem Ii{F:List D->Option (D×D)}(o:BD F n){f:D->D}:∀(c:List D) (s:FB) (P:Nat->Prop) (x:Option D),(∀d∈c,gU n (f d)/\∀s,g [Y d,oF s]=Y ([f d],[Y d,oF s])/\cG 1 [Y d,oF s]=[Y d,oF s])->Inv s P->s.bits+c.length*Zb n<=999 ->
  ∃b j k,Ao [M,x] (gN 0) (bW "Facts" "asked" aB F 1 g) 1 aB c (d_ s)=Y (b,d_ j)/\gc s P j k (c.length*Zb n)/\Inv j k/\zW (λa d=>xp j.bits k n a (f d)) b c
 |[],s,P,x,_,I,_=>⟨[],s,P,rfl,by simpa using gc.refl s P,I,.nil⟩
 | d::c,s,P,x,h,I,t=>by
  simp only[aU,Qj]at t ⊢;obtain⟨hw,m⟩:=h d (az ..);obtain⟨e,i,C,A,p,G,J⟩:=o s P (f d) hw I ž;obtain⟨b,q,B,z,l,E,H⟩:=Ii o c i C x (λy r=>h y (ay _ r)) G (by have:=p.hi;omega);refine⟨e::b,q,B,?_,?_,E,.cons (J.ext l.lo l.same) H⟩
  ·rw[Ao];have w:gN 0 d ([M,x].set 1 (Y (.obj aB (d_ s))))=Y [Y d,oF s]:=rfl;have v:bW "Facts" "asked" aB F 1 g [Y d,oF s]=Y (e,[Y d,oF i]):=by rw[lu (ρ1:=[Y d,oF s]) (args:=[f d]) (by decide) rfl (m s).1 rfl A,(m s).2];rfl
   have u:lO aB 1 [Y d,oF i]=Y (d_ i):=by kernel_rfl
   rw[w];simp only[ae,v,u,z];rfl
  ·have:=p.trans l;rw[Nat.add_comm];exact this
def B_{F:List D->Option (D×D)}(o:BD F n){g:J5}{ar:D->D}{f:DL}{ρ:cA}{ds:List D}{s:FB}{P:Nat->Prop}(k:f ρ=Y ds)(i:eV 0 ρ=oF s)(j:cG 0 ρ=ρ)(l:∀d∈ds,gU n (ar d)/\∀s,g [Y d,oF s]=Y ([ar d],[Y d,oF s])/\cG 1 [Y d,oF s]=[Y d,oF s])(I:Inv s P)(m:s.bits+ds.length*Zb n<=999)(t:ds.length<=1000):
  ∃b c h,vh f [M,Y 0] (gN 0) (bW "Facts" "asked" aB F 1 g) 1 0 aB ρ=Y (.lst b,ρ.set 0 (oF c))/\gc s P c h (ds.length*Zb n)/\Inv c h/\zW (λa d=>xp c.bits h n a (ar d)) b ds:=by
 obtain⟨b,c,h,e,r⟩:=Ii o ds s P (Y (.obj aB (d_ s))) l I m;refine⟨b,c,h,?_,r⟩;unfold vh;have q:lO aB 0 ρ=Y (d_ s):=by unfold lO xR;rw[i];kernel_rfl
 have p:mJ [M,Y 0] ρ=[M,Y (.obj aB (d_ s))]:=by
  have:(ρ[0]?).getD M=oF s:=by rw[iN i];rfl
  show [M,(ρ[0]?).getD M]=_;rw[this]
 rw[k];simp only[ae];rw[if_pos (fT (iG (by omega))),q,j];simp only[ae];rw[p,e];rfl
def Nl(F:List D->Option (D×D))(n:Nat):Prop:=∀s P (a:List (aJ×aJ×D)),a≠[]->a.length<=3->(∀p∈a,gU n p.2.2)->Inv s P->s.bits+Zb (n+1)<=999->∃j b c,F [d_ s,.lst (a.map cH)]=Y (.int (2 ^ j),d_ b)/\gc s P b c (Zb (n+1))/\Inv b c/\j<b.bits/\(c j->∀p∈a,vw n p.2.2=Z')
theorem lE.succ:∀ {n:Nat}{d:D},lE n d->lE (n+1) d
 |0,_,h=>h.elim|n+1,d,⟨a,p,e,m,i,j⟩=>⟨a,p,e,m,i,λc b=>by obtain⟨f,o,l,k⟩:=j c b;exact⟨f,o,l,λx g=>(k x g).succ⟩⟩
def lE.up{m:Nat}(h:lE n d)(a:n<=m):lE m d:=by
 induction a with|refl=>exact h|step _ ih=>exact ih.succ
def P8(n:Nat):lE (n+1) (gA 0 []):=⟨0,[],rfl,ſ,Ž,λc h=>by simp at h⟩
def Ij(n:Nat)(a:0<=i):lE (n+1) (gA i []):=⟨i,[],rfl,a,Ž,λc h=>by simp at h⟩
def Dc{b:Bool}(h:t a=Y b):d7 t g cO a=if b=Z' then g a else Y (.nx a):=by
 unfold d7;rw[h];cases b<;>rfl
def xX{b:cA}(e:g b=Y (.rm d a)):be g h b=Y (.rm d a):=by unfold be;rw[e];rfl
def NP{s:FB}{r:List D}{y:Option D}{b:Bool}(h:fc (kS x) (kS k)=Y (.bl b)):dA (e2 fc ci (eK (kS k))) [oF s,Y (.tup (kS x::r)),y]=Y b:=by
 have e:e2 bX db t3 [oF s,Y (.tup (kS x::r)),y]=Y (kS x):=by show oU (kS x::r) ((0:Nat):Int)=_;unfold oU;rw[qM (by simp)];rfl
 have c:e2 fc ci (eK (kS k)) [oF s,Y (.tup (kS x::r)),y]=fc (kS x) (kS k):=by show ((e2 bX db t3 [oF s,Y (.tup (kS x::r)),y]).bind λa=>(Y (kS k)).bind λb=>fc a b)=_;rw[e];rfl
 unfold dA;rw[c,h];rfl
def wc{s:FB}:(Y (DO.rm d [oF s,x,y])).bind UF=Y (d,d_ s):=by kernel_rfl
abbrev Ps:=dA (e2 fc ci (eK (kS "any")))
def J2{F:List D->Option (D×D)}{s:FB}:mo 2 3 aB (cz F a) [d_ s,.tup [kS "any"]]=Y (gA 0 [],d_ s):=by
 show (cz F a [oF s,Y (.tup [kS "any"]),M]).bind UF=_;unfold cz;have q:d7 Ps (dM (mP (eW (aC t3 (aC Tl aN))))) cO [oF s,Y (.tup [kS "any"]),M]=Y (.rm (gA 0 []) [oF s,Y (.tup [kS "any"]),M]):=by rw[Dc (b:=Z') (NP (by kernel_rfl))];rfl
 rw[xX q,wc]
abbrev FM:=dA (e2 fc ci (eK (kS "text")))
def GF{F:List D->Option (D×D)}{s:FB}(h:cM [d_ s,.str t]=Y (.int i,d_ a)):mo 2 3 aB (cz F c) [d_ s,.tup [kS "text",.str t]]=Y (gA i [],d_ a):=by
 show (cz F c [oF s,Y (.tup [kS "text",.str t]),M]).bind UF=_;unfold cz;have d:∀g,d7 Ps g cO [oF s,Y (.tup [kS "text",.str t]),M]=Y (.nx [oF s,Y (.tup [kS "text",.str t]),M]):=λg=>by rw[Dc (b:=Z_) (NP (by kernel_rfl))];rfl
 rw[aR (d _)];have m:bW "Facts" "enter_text" aB cM 0 AT [oF s,Y (.tup [kS "text",.str t]),M]=Y (.int i,[oF a,Y (.tup [kS "text",.str t]),M]):=by rw[lu (ρ1:=[oF s,Y (.tup [kS "text",.str t]),M]) (args:=[.str t]) (by decide) rfl rfl rfl h];rfl
 have q:d7 FM (dM kw) cO [oF s,Y (.tup [kS "text",.str t]),M]=Y (.rm (gA i []) [oF a,Y (.tup [kS "text",.str t]),M]):=by rw[Dc (b:=Z') (NP (by kernel_rfl)),if_pos rfl];unfold dM kw xD;rw[show ∀f g b,jx f g b=(f b).bind λp=>(g p.2).bind λq=>Y (p.1::q.1,q.2) from λ_ _ _=>rfl,m];rfl
 rw[xX q,wc]
abbrev AC:=eK (kS "has")
def J1{F:List D->Option (D×D)}{s:FB}(h:a [d_ s,.lst x]=Y (.int i,d_ b)):mo 2 3 aB (cz F a) [d_ s,.tup [kS "has",.lst x]]=Y (gA i [],d_ b):=by
 show (cz F a [oF s,Y (.tup [kS "has",.lst x]),M]).bind UF=_;unfold cz;have e:∀g,d7 Ps g cO [oF s,Y (.tup [kS "has",.lst x]),M]=Y (.nx [oF s,Y (.tup [kS "has",.lst x]),M]):=λg=>by rw[Dc (b:=Z_) (NP (by kernel_rfl))];rfl
 have d:∀g,d7 FM g cO [oF s,Y (.tup [kS "has",.lst x]),M]=Y (.nx [oF s,Y (.tup [kS "has",.lst x]),M]):=λg=>by rw[Dc (b:=Z_) (NP (by kernel_rfl))];rfl
 rw[aR (e _),aR (d _)];have m:bW "Facts" "enter_has" aB a 0 AT [oF s,Y (.tup [kS "has",.lst x]),M]=Y (.int i,[oF b,Y (.tup [kS "has",.lst x]),M]):=by rw[lu (ρ1:=[oF s,Y (.tup [kS "has",.lst x]),M]) (args:=[.lst x]) (by decide) rfl rfl rfl h];rfl
 have q:d7 (dA (e2 fc ci AC)) (dM (xD (jx (bW "Facts" "enter_has" aB a 0 AT) (jx (mP Tl) kZ)))) cO [oF s,Y (.tup [kS "has",.lst x]),M]=Y (.rm (gA i []) [oF b,Y (.tup [kS "has",.lst x]),M]):=by rw[Dc (b:=Z') (NP (by kernel_rfl)),if_pos rfl];unfold dM xD;rw[show ∀f g c,jx f g c=(f c).bind λp=>(g p.2).bind λq=>Y (p.1::q.1,q.2) from λ_ _ _=>rfl,m];rfl
 rw[xX q,wc]
def gc.mono{s:FB}{P:Nat->Prop}(h:gc s P a b y)(c:y<=z):gc s P a b z:=⟨h.q,h.lo,by have:=h.hi;omega,h.same,h.ld⟩
def qm(h:lE n d):∃a b,d=gA a b:=by
 cases n with
 |zero=>exact h.elim|succ n=>obtain⟨a,b,e,_⟩:=h;exact⟨a,b,e⟩
def wQ{f:List D}(h:lE n (gA a f)):0<=a:=by
 cases n with
 |zero=>exact h.elim|succ n=>obtain⟨b,d,e,c,_⟩:=h;cases e;exact c
def Nb(d:0<=x)(c:0<=y)(i:Nat):(bO x y).toNat.testBit i=(x.toNat.testBit i||y.toNat.testBit i):=by
 obtain⟨a,rfl⟩:=dG d;obtain⟨b,rfl⟩:=dG c;rw[GD,iT,iT,iT,Kd]
def lE.mk(h:lE n (gA b c))(d:0<=a):lE n (gA a c):=by
 cases n with
 |zero=>exact h.elim|succ n=>obtain⟨x,y,e,_,f,g⟩:=h;cases e;exact⟨a,c,rfl,d,f,g⟩
theorem Ei{b:Nat}{P:Nat->Prop}(v:n<=6):∀(k:List (aJ×aJ×D)) (p:aJ×aJ×D) (f:List D) (c:Nat),zW (λa d=>xp b P n a (Qu d)) f ((p::k).map cH)->(∀i,i<k.length+1->(P (c+i)↔∀q∈(p::k).drop i,vw n q.2.2=Z'))->c+k.length+1<=b ->
  ∀l∈ij f (fN c (k.length+1)) (fN (c+1) k.length++[0]),∃j w,l=Js ((2:Int) ^ j,w)/\j<b/\lE 6 w/\UH b P w (P j)
 | [],p,f,c,A,B,y,l,C=>by
  cases A with
  |cons r t=>cases t;obtain⟨o,K,rfl⟩:=qm r.ad;have g:=wQ r.ad;simp only[fN,Yw,nlN,jU,dk,cw,aW,oY,or_false]at C;exact⟨c,_,C,by simp at y;omega,(r.ad.mk (wO g ſ)).up v,trivial⟩
 | p2::k,p,f,c,A,B,y,l,C=>by
  cases A with
  |@cons _ _ I _ r t=>
   obtain⟨o,K,rfl⟩:=qm r.ad;have g:=wQ r.ad;have G:l=Js ((2:Int) ^ c,gA (bO o (2 ^ (c+1))) K)\/l∈ij I (fN (c+1) (k.length+1)) (fN (c+1+1) k.length++[0]):=by simpa only [fN,Yw,aU,uP,aW] using C
   have ih:=Ei v k p2 _ (c+1) t (λi N=>by have:=B (i+1) (by simp only[aU];omega);rw[show c+(i+1)=c+1+i by omega]at this;simpa using this) (by simp only[aU]at y;omega)
   rcases G with e|h
   ·exact⟨c,_,e,by simp only[aU]at y;omega,(r.ad.mk (wO g (p' _))).up v,trivial⟩
   ·exact ih l h
theorem y6:∀(e:List D) (d g:List Int),(∀a∈e,∃c i,a=gA c i)->(ij e d g).length<=d.length
 |[],d,g,_=>by simp[ij]
 |a::e,[],g,h=>by obtain⟨c,i,rfl⟩:=h a (az ..);simp[ij]
 |a::e,b::d,[],h=>by obtain⟨c,i,rfl⟩:=h a (az ..);simp[ij]
 | a::e,b::d,f::g,h=>by
  obtain⟨c,i,rfl⟩:=h a (az ..);have:=y6 e d g λx j=>h x (ay _ j)
  simp only[ij,aU];omega
def Inv.enter{s:FB}{P:Nat->Prop}(I:Inv s P)(S:bC s b)(W:Kl b)(r:s.bits<=b.bits)(f:∀i,i<s.bits->(k i↔P i)):Inv b k:=by
 refine⟨W,?_,by rw[S.tk];have:=I.tk;omega,by rw[S.tk,S.tv];exact I.WW,?_,by rw[S.cV];have:=I.V8;omega⟩
 ·intro v m;rw[S.tv]at m;obtain⟨j,d,e,p⟩:=I.tv v m;exact⟨j,ž,e,(f j d).mpr p⟩
 ·intro l o;rw[S.cV]at o;obtain⟨j,g,e,d,t,c⟩:=I.cV l o;exact⟨j,g,e,ž,t,trivial⟩
def zx{F:List D->Option (D×D)}(hF:BD F n)(hn6:n<=6):Nl (mo 2 3 aB (gR F F')) n:=by
 intro s P mE JE GN hw I hb;cases mE with
 |nil=>exact absurd rfl JE|cons p ps=>
  have hZ:Zb (n+1)=3*(1+Zb n):=rfl;have hk:(p::ps).length*Zb n<=3*Zb n:=pL _ GN;obtain⟨s1,e1,b1,S1,W1⟩:=Ep I.NN (p::ps) ž
  let P1:Nat->Prop:=λi=>if i<s.bits then P i else ∀q∈(p::ps).drop (i-s.bits),vw n q.2.2=Z'
  have hP1:∀i,i<s.bits->(P1 i↔P i):=λi hi=>by show (if _ then _ else _)↔_;rw[if_pos hi]
  have I1:Inv s1 P1:=I.enter S1 W1 ž hP1;obtain⟨asks,s2,P2,e2,E2,I2,A2⟩:=B_ hF (g:=jx (mP Í) kZ) (ar:=Qu) (f:=iL db) (ρ:=[oF s1,Y (.lst ((p::ps).map cH)),Y (.lst ((fN s.bits (ps.length+1)).map D.int))]) (ds:=(p::ps).map cH) (s:=s1) (P:=P1) rfl rfl rfl (by intro d hd;obtain⟨q,hq,rfl⟩:=nL.mp hd;exact⟨hw q hq,λs=>⟨rfl,rfl⟩⟩) I1 (by rw[aw];omega) (by rw[aw];omega)
  have hfm:∀a∈asks,∃sT cs,a=gA sT cs:=λa ha=>by obtain⟨d,_,r⟩:=A2.left a ha;exact qm r.ad
  have hal:asks.length=ps.length+1:=by rw[A2.len,aw];rfl
  have hld:=E2.ld;have acJ:=I.V8;rw[S1.cV]at hld;have hlo:=E2.lo;have hhi:=E2.hi;rw[aw]at hhi;simp only[aU]at b1 hk GN hhi hZ;have e3:=O_ (s:=s2) (as:=asks) (b:=2 ^ s.bits) (bs:=fN (s.bits+1) ps.length) hfm (iG ž) (by rw[tq];omega);have hP2:∀i,i<ps.length+1->(P2 (s.bits+i)↔∀q∈(p::ps).drop i,vw n q.2.2=Z'):=by intro i hi;rw[E2.same (s.bits+i) (by omega)];show (if _ then _ else _)↔_;rw[if_neg (by omega),Nat.add_sub_cancel_left]
  have SK:=Ei (b:=s2.bits) (P:=P2) hn6 ps p asks s.bits A2 hP2 ž;have YR:=y6 asks (fN s.bits (ps.length+1)) (fN (s.bits+1) ps.length++[0]) hfm;rw[tq]at YR;refine⟨s.bits,{ s2 with cV:=s2.cV++ij asks (fN s.bits (ps.length+1)) (fN (s.bits+1) ps.length++[0]) },P2,?_,?_,?_,?_,?_⟩
  ·show (gR F F' [oF s,Y (.lst ((p::ps).map cH)),M]).bind UF=_;unfold gR;rw[aR (ρ':=[oF s1,Y (.lst ((p::ps).map cH)),Y (.lst ((fN s.bits (ps.length+1)).map D.int))]) ?q0]
   case q0=>unfold mY;rw[lu (ρ1:=[oF s,Y (.lst ((p::ps).map cH)),M]) (args:=[.lst ((p::ps).map cH)]) (by decide) rfl rfl rfl e1];rfl
   have V2:jx (vh (iL db) [M,Y 0] (gN 0) (bW "Facts" "asked" aB F 1 (jx (mP (L2.e2 bX Fa nb)) kZ)) 1 0 aB) (jx (mP Db) wT) [oF s1,Y (.lst ((p::ps).map cH)),Y (.lst ((fN s.bits (ps.length+1)).map D.int))]=Y ([.lst asks,.lst ((fN s.bits (ps.length+1)).map D.int),.int 0],[oF s2,Y (.lst ((p::ps).map cH)),Y (.lst ((fN s.bits (ps.length+1)).map D.int))]):=by rw[show ∀f g ρ,jx f g ρ=(f ρ).bind λp=>(g p.2).bind λq=>Y (p.1::q.1,q.2) from λ_ _ _=>rfl,e2];rfl
   rw[aR (ρ':=[oF { s2 with cV:=s2.cV++ij asks (fN s.bits (ps.length+1)) (fN (s.bits+1) ps.length++[0]) },Y (.lst ((p::ps).map cH)),Y (.lst ((fN s.bits (ps.length+1)).map D.int))]) ?q1]
   case q1=>unfold eS;rw[lu (s:=s1) (s1:=s2) (by decide) rfl V2 rfl e3];rfl
   have q2:L2.e2 bX Db t3 [oF { s2 with cV:=s2.cV++ij asks (fN s.bits (ps.length+1)) (fN (s.bits+1) ps.length++[0]) },Y (.lst ((p::ps).map cH)),Y (.lst ((fN s.bits (ps.length+1)).map D.int))]=Y (.int (2 ^ s.bits)):=by show oU ((fN s.bits (ps.length+1)).map D.int) ((0:Nat):Int)=_;unfold oU;rw[qM (by rw[aw,tq];omega)];rfl
   unfold dM mP;rw[q2];exact wc
  ·refine⟨E2.q.trans S1.q,by show s.bits<=s2.bits;omega,by show s2.bits<=_;omega,λi hi=>(E2.same i ž).trans (hP1 i hi),?_⟩;show (s2.cV++ij asks (fN s.bits (ps.length+1)) (fN (s.bits+1) ps.length++[0])).length+s.bits<=s.cV.length+s2.bits;rw[aS];omega
  ·refine⟨⟨I2.NN.nv,I2.NN.star,I2.NN.inner,I2.NN.nk⟩,I2.tv,I2.tk,I2.WW,?_,?_⟩
   ·intro l hl;rcases bu.mp hl with hl|hl
    ·exact I2.cV l hl
    ·exact SK l hl
   ·show (s2.cV++ij asks (fN s.bits (ps.length+1)) (fN (s.bits+1) ps.length++[0])).length<=s2.bits;rw[aS];omega
  ·show s.bits<s2.bits;omega
  ·intro hp;exact(hP2 0 ž).mp hp
abbrev Õ:=eK (kS "one")
theorem zM{F:List D->Option (D×D)}{s:FB}(w:fc (kS k) (kS "any")=Y (.bl Z_))(v:fc (kS k) (kS "text")=Y (.bl Z_))(u:fc (kS k) (kS "has")=Y (.bl Z_)){b:Bool}(t:fc (kS k) (kS "one")=Y (.bl b))(h:vh (iL bi) [M,Y 0] (gN 0) (bW "Facts" "asked" aB F 1 xz) 1 0 aB [oF s,Y (.tup [kS k,.lst a]),M]=Y (.lst c,[oF e,Y (.tup [kS k,.lst a]),M]))(p:b=Z_->jZ [.lst c]=Y d)(r:b=Z'->d=gA 0 [.lst c]):
  mo 2 3 aB (cz F i) [d_ s,.tup [kS k,.lst a]]=Y (d,d_ e):=by
 show (cz F i [oF s,Y (.tup [kS k,.lst a]),M]).bind UF=_;unfold cz;have o:∀g,d7 Ps g cO [oF s,Y (.tup [kS k,.lst a]),M]=Y (.nx [oF s,Y (.tup [kS k,.lst a]),M]):=λg=>by rw[Dc (b:=Z_) (NP w)];rfl
 have n:∀g,d7 FM g cO [oF s,Y (.tup [kS k,.lst a]),M]=Y (.nx [oF s,Y (.tup [kS k,.lst a]),M]):=λg=>by rw[Dc (b:=Z_) (NP v)];rfl
 have m:∀g,d7 (dA (e2 fc ci AC)) g cO [oF s,Y (.tup [kS k,.lst a]),M]=Y (.nx [oF s,Y (.tup [kS k,.lst a]),M]):=λg=>by rw[Dc (b:=Z_) (NP u)];rfl
 rw[aR (o _),aR (n _),aR (m _)];rw[aR (ρ':=[oF e,Y (.tup [kS k,.lst a]),Y (.lst c)]) ?l]
 case l=>unfold mY;rw[h];rfl
 have f:=NP (s:=e) (r:=[.lst a]) (y:=Y (.lst c)) t;cases b with
 |true=>
  have q:d7 (dA (e2 fc ci Õ)) (dM (mP (eW (aC t3 (aC (eF (gE pu)) aN))))) cO [oF e,Y (.tup [kS k,.lst a]),Y (.lst c)]=Y (.rm (gA 0 [.lst c]) [oF e,Y (.tup [kS k,.lst a]),Y (.lst c)]):=by rw[Dc (b:=Z') f];rfl
  rw[xX q,wc,r rfl]
 |false=>
  have q:∀g,d7 (dA (e2 fc ci Õ)) g cO [oF e,Y (.tup [kS k,.lst a]),Y (.lst c)]=Y (.nx [oF e,Y (.tup [kS k,.lst a]),Y (.lst c)]):=λg=>by rw[Dc (b:=Z_) f];rfl
  rw[aR (q _)];have j:∀J:List D->Option D,bg J pu [oF e,Y (.tup [kS k,.lst a]),Y (.lst c)]=J [.lst c]:=λJ=>rfl
  unfold dM mP;rw[j,p rfl];exact wc
theorem HD(i:Nat):∀(g:List D) (x:Int),0<=x->(∀a∈g,∃c k,a=gA c k/\0<=c) ->
  0<=g.foldl (λn a=>match a with|.tup [.int c,_]=>bO n c|_=>n) x/\(x.toNat.testBit i=Z'->(g.foldl (λn a=>match a with|.tup [.int c,_]=>bO n c|_=>n) x).toNat.testBit i=Z')/\∀a∈g,∀c k,a=gA c k->c.toNat.testBit i=Z'->(g.foldl (λn a=>match a with|.tup [.int c,_]=>bO n c|_=>n) x).toNat.testBit i=Z'
 |[],x,j,_=>⟨j,id,λa h=>by simp at h⟩
 | a::g,x,j,h=>by
  obtain⟨c,k,rfl,m⟩:=h a (az ..);obtain⟨s,q,r⟩:=HD i g (bO x c) (wO j m) λy t=>h y (ay _ t)
  refine⟨s,λl=>q (by rw[Nb j m,l];rfl),?_⟩;intro b o f p e d;rcases aW.mp o with rfl|o
  ·cases e;exact q (by rw[Nb j m,d];simp)
  ·exact r b o f p e d
def PZ:vw (n+1) (.tup [kS "has",.lst a])=a.all λb=>vw n (Qu b):=if_pos rfl
def M':vw (n+1) (.tup [kS "both",.lst a])=a.all (vw n):=(if_neg ſ).trans (if_pos rfl)
def PY:vw (n+1) (.tup [kS "one",.lst a])=a.any (vw n):=(if_neg ſ).trans ((if_neg ſ).trans (if_pos rfl))
def yu{s:FB}(h:gU n d):cG 1 [Y d,oF s]=[Y d,oF s]:=by
 cases n with
 |zero=>exact h.elim|succ n=>rcases h with rfl|⟨t,rfl⟩|⟨b,rfl,_⟩|⟨a,rfl,_⟩|⟨a,rfl,_⟩<;>rfl
noncomputable def Zu:D->List D
 |.tup [_,.lst a]=>a|_=>[]
def PV(a:D):(Zu a).length=Ib a:=by
 unfold Zu Ib;split
 ·rfl
 ·first|rfl|(rename_i h;split;exact(h _ _ rfl).elim;rfl)
theorem HE:∀(b:List D) (k:Nat),(∀a∈b,Ib a<=k)->(Kk b).length<=b.length*k
 |[],k,_=>by simp[Kk]
 | a::b,k,h=>by
  have g:=HE b k λx c=>h x (ay _ c)
  have f:=h a (az ..);have e:Kk (a::b)=Zu a++Kk b:=rfl;have d:=PV a;rw[e,aS,aU,Qj];omega
def GG{F:List D->Option (D×D)}(hF:BD F n)(hH:Nl F' n)(hn:n<=5):BD (mo 2 3 aB (cz F F')) (n+1):=by
 intro s P w hw I hb;have hZ:Zb (n+1)=3*(1+Zb n):=rfl;have h3:1<=3 ^ (n+1):=Nat.one_le_pow _ _ ſ;have h3b:3 ^ (n+1)<=729:=bQ (Nat.pow_le_pow_right ſ (show n+1<=6 by omega)) ſ;rcases hw with rfl|⟨t,rfl⟩|⟨N,rfl,S,H,y⟩|⟨o,rfl,H,y⟩|⟨o,rfl,H,y⟩
 ·exact⟨_,s,P,J2,(gc.refl s P).mono (cy _),I,⟨P8 n,cy _,trivial⟩⟩
 ·obtain⟨j,v,C,e,hj,E,G⟩:=Au I ž t;exact⟨_,v,C,GF e,E.mono ž,G,⟨Ij n (p' j),cy _,trivial⟩⟩
 ·obtain⟨j,v,C,e,E,G,hj,hp⟩:=hH s P N S H y I hb;exact⟨_,v,C,J1 e,E,G,⟨Ij n (p' j),cy _,trivial⟩⟩
 ·have hk:o.length*Zb n<=3*Zb n:=pL _ H;obtain⟨b,v,C,e,E,G,A⟩:=B_ hF (g:=jx (mP Fa) kZ) (ar:=λd=>d) (f:=iL bi) (ρ:=[oF s,Y (.tup [kS "both",.lst o]),M]) (ds:=o) (s:=s) (P:=P) rfl rfl rfl (λd K=>⟨y d K,λs=>⟨rfl,yu (y d K)⟩⟩) I ž ž;have J:(Kk b).length<=3 ^ (n+1):=by
   have B:=HE b (3 ^ n) λa z=>by obtain⟨d,_,r⟩:=A.left a z;exact r.len
   rw[A.len]at B;have h2:o.length*3 ^ n<=3*3 ^ n:=pL _ H;rw[Qk];omega
  have k:∀a∈b,∃f u,a=gA f u/\0<=f:=λa z=>by obtain⟨d,_,r⟩:=A.left a z;obtain⟨f,u,rfl⟩:=qm r.ad;exact⟨f,u,rfl,wQ r.ad⟩
  have hJ:=Jx (as:=b) (λa z=>by obtain⟨f,u,e,_⟩:=k a z;exact⟨f,u,e⟩) (iG ž);refine⟨_,v,C,zM (by kernel_rfl) (by kernel_rfl) (by kernel_rfl) (b:=Z_) (by kernel_rfl) e (λ_=>hJ) (λh=>by cases h),E.mono ž,G,⟨?_,J,?_⟩⟩
  ·refine⟨_,_,rfl,(HD 0 b 0 ſ k).1,ž,?_⟩;intro c L;obtain⟨a,z,hca⟩:=List.mem_flatMap.mp L;obtain⟨d,_,r⟩:=A.left a z;obtain⟨f,u,rfl⟩:=qm r.ad;obtain⟨O,cs',e',_,_,X⟩:=r.ad.succ;cases e';exact X c hca
  ·trivial
 ·have hk:o.length*Zb n<=3*Zb n:=pL _ H;obtain⟨b,v,C,e,E,G,A⟩:=B_ hF (g:=jx (mP Fa) kZ) (ar:=λd=>d) (f:=iL bi) (ρ:=[oF s,Y (.tup [kS "one",.lst o]),M]) (ds:=o) (s:=s) (P:=P) rfl rfl rfl (λd K=>⟨y d K,λs=>⟨rfl,yu (y d K)⟩⟩) I ž ž;refine⟨gA 0 [.lst b],v,C,zM (by kernel_rfl) (by kernel_rfl) (by kernel_rfl) (b:=Z') (by kernel_rfl) e (λh=>by cases h) (λ_=>rfl),E.mono ž,G,⟨?_,h3,?_⟩⟩
  ·refine⟨0,_,rfl,ſ,Ž,?_⟩;intro c L;rw[cw.mp L];refine⟨b,rfl,by rw[A.len];omega,λx Q =>?_⟩;obtain⟨d,_,r⟩:=A.left x Q;exact r.ad
  ·trivial
mutual
theorem zN:∀(n m:Nat),n<=6->2*n<=m->BD (cR m) n
 |0,m,_,_=>λ_ _ _ h=>h.elim
 |n+1,0,_,h=>by omega
 |n+1,m+1,a,h=>by rw[cR];exact GG (zN n m ž ž) (Cu n m ž ž) ž
theorem Cu:∀(n m:Nat),n<=6->2*n+1<=m->Nl (cL m) n
 |n,0,_,h=>by omega
 |n,m+1,a,h=>by rw[cL];exact zx (zN n m a ž) a
end
def kq1(h:fc (kS x) (kS k)=Y (.bl b)):dA (e2 fc wf (eK (kS k))) [Y (.tup (kS x::r))]=Y b:=by
 have e:e2 bX Fa t3 [Y (.tup (kS x::r))]=Y (kS x):=by show oU (kS x::r) ((0:Nat):Int)=_;unfold oU;rw[qM (by simp)];rfl
 have c:e2 fc wf (eK (kS k)) [Y (.tup (kS x::r))]=fc (kS x) (kS k):=by show ((e2 bX Fa t3 [Y (.tup (kS x::r))]).bind λa=>(Y (kS k)).bind λb=>fc a b)=_;rw[e];rfl
 unfold dA;rw[c,h];rfl
def v_(e:g a=Y (.rt d)):be g h a=Y (.rt d):=by unfold be;rw[e];rfl
def J8(h:fc (kS x) (kS k)=Y (.bl Z_)):d7 (dA (e2 fc wf (eK (kS k)))) g cO [Y (.tup (kS x::r))]=Y (.nx [Y (.tup (kS x::r))]):=by
 rw[Dc (kq1 h)];rfl
def XJ(h:fc (kS x) (kS k)=Y (.bl Z')):d7 (dA (e2 fc wf (eK (kS k)))) g cO [Y (.tup (kS x::r))]=g [Y (.tup (kS x::r))]:=by
 rw[Dc (kq1 h)];rfl
def wm{f:DL}{b:cA}(e:f b=Y a)(j:a.length<=1000)(h:∀d∈a,c [Y d]=Y (g d)):oG f [M] (gN 0) ic c b=Y (a.map g):=by
 unfold oG;rw[e];simp only[ae];rw[if_pos (fT (iG (by omega)))];exact sv a λd i=>⟨[Y d],rfl,h d i⟩
theorem xl:∀(n m:Nat) (w:D),n<=m->gU n w->fy m [w]=Y (.bl (vw n w))
 |0,_,_,_,h=>h.elim|n+1,0,_,h,_=>by omega
 | n+1,m+1,w,r,h=>by
  have ih:∀x,gU n x->fy m [x]=Y (.bl (vw n x)):=λx j=>xl n m x ž j
  have o:fy (m+1) [w]=(qO (fy m) [Y w]).bind mQ:=rfl;rw[o];generalize fy m=F at *
  unfold qO;rcases h with rfl|⟨t,rfl⟩|⟨b,rfl,l,i,c⟩|⟨a,rfl,i,c⟩|⟨a,rfl,i,c⟩
  ·rw[aR (J8 (by kernel_rfl)),aR (J8 (by kernel_rfl)),aR (J8 (by kernel_rfl))];rfl
  ·rw[aR (J8 (by kernel_rfl)),aR (J8 (by kernel_rfl)),aR (J8 (by kernel_rfl))];rfl
  ·have f:oG Ev [M] (gN 0) ic (bg F lm) [Y (.tup [kS "has",.lst (b.map cH)])]=Y ((b.map cH).map λg =>.bl (vw n (Qu g))):=by
    refine wm rfl (by rw[aw];omega) λd e =>?_
    obtain⟨p,k,rfl⟩:=nL.mp e;exact ih p.2.2 (c p k)
   have q:d7 (dA (e2 fc wf AC)) (dH (bg (gw Z') (aC (eF (oG Ev [M] (gN 0) ic (bg F lm))) aN))) cO [Y (.tup [kS "has",.lst (b.map cH)])]=Y (.rt (.bl ((b.map cH).all λg=>vw n (Qu g)))):=by rw[XJ (by kernel_rfl)];unfold dH;rw[uH f,GH];rfl
   rw[v_ q,PZ];rfl
  ·have f:oG Ev [M] (gN 0) ic (bg F zn) [Y (.tup [kS "both",.lst a])]=Y (a.map λx =>.bl (vw n x)):=
    wm rfl ž λd e=>ih d (c d e)
   have q:d7 (dA (e2 fc wf (eK (kS "both")))) (dH (bg (gw Z') (aC (eF (oG Ev [M] (gN 0) ic (bg F zn))) aN))) cO [Y (.tup [kS "both",.lst a])]=Y (.rt (.bl (a.all λx=>vw n x))):=by rw[XJ (by kernel_rfl)];unfold dH;rw[uH f,GH];rfl
   rw[aR (J8 (by kernel_rfl)),v_ q,M'];rfl
  ·have f:oG Ev [M] (gN 0) ic (bg F zn) [Y (.tup [kS "one",.lst a])]=Y (a.map λx =>.bl (vw n x)):=
    wm rfl ž λd e=>ih d (c d e)
   have q:d7 (dA (e2 fc wf Õ)) (dH (bg (gw Z_) (aC (eF (oG Ev [M] (gN 0) ic (bg F zn))) aN))) cO [Y (.tup [kS "one",.lst a])]=Y (.rt (.bl (a.any λx=>vw n x))):=by rw[XJ (by kernel_rfl)];unfold dH;rw[uH f,Nd];rfl
   rw[aR (J8 (by kernel_rfl)),aR (J8 (by kernel_rfl)),v_ q,PY];rfl
def Nm(F:List D->Option D)(n:Nat):Prop:=∀a:List (aJ×aJ×D),a.length<=1000->(∀p∈a,gU n p.2.2)->F [.lst (a.map cH)]=Y (.lst (a.map cH))
def Im(F:List D->Option D)(n:Nat):Prop:=∀w,gU n w->F [w]=Y w
def EB{F:List D->Option D}(h:Im a n):Nm (jD 1 1 (sC F a)) n:=by
 intro c l j;show (sC F a [Y (.lst (c.map cH))]).bind mQ=_;unfold sC;have e:oG sB [M] (gN 0) ic (eW (aC wf (aC gl (aC (bg a lm) aN)))) [Y (.lst (c.map cH))]=Y ((c.map cH).map λd=>d):=by
  refine wm rfl (by rw[aw];exact l) λd m =>?_
  obtain⟨p,k,rfl⟩:=nL.mp m;have hw:=h p.2.2 (j p k);have:bg a lm [Y (cH p)]=a [p.2.2]:=rfl;rw[hw]at this;unfold eW;rw[show ∀f g b,aC f g b=(f b).bind λx=>(g b).bind λi=>Y (x::i) from λ_ _ _=>rfl];rw[show ∀b,aC gl (aC (bg a lm) aN) b=(e2 bX Fa u8 b).bind λx=>((bg a lm b).bind λy=>Y [y]).bind λi=>Y (x::i) from λ_=>rfl,this];rfl
 unfold u_;rw[e,Qn];rfl
abbrev Sc:=eW (aC (eK (kS "both")) (aC Õ aN))
def XI{b:Bool}(h:Ab Z_ (kS x) (.tup [kS "both",kS "one"])=Y (.bl b)):dA (e2 (Ab Z_) wf Sc) [Y (.tup (kS x::r))]=Y b:=by
 have e:e2 bX Fa t3 [Y (.tup (kS x::r))]=Y (kS x):=by show oU (kS x::r) ((0:Nat):Int)=_;unfold oU;rw[qM (by simp)];rfl
 have c:e2 (Ab Z_) wf Sc [Y (.tup (kS x::r))]=Ab Z_ (kS x) (.tup [kS "both",kS "one"]):=by show ((e2 bX Fa t3 [Y (.tup (kS x::r))]).bind λa=>(Y (.tup [kS "both",kS "one"])).bind λb=>Ab Z_ a b)=_;rw[e];rfl
 unfold dA;rw[c,h];rfl
abbrev TD:=dA (e2 (Ab Z_) wf Sc)
def wG{F:List D->Option D}(s:Nm F n)(o:Im e n):Im (jD 1 1 (iY F e)) (n+1):=by
 intro w h;have u:jD 1 1 (iY F e) [w]=(iY F e [Y w]).bind mQ:=rfl;rw[u];unfold iY;rcases h with rfl|⟨t,rfl⟩|⟨a,rfl,p,m,j⟩|⟨c,rfl,m,j⟩|⟨c,rfl,m,j⟩
 ·have q:∀g,d7 TD g cO [Y (.tup [kS "any"])]=Y (.nx [Y (.tup [kS "any"])]):=λg=>by rw[Dc (XI (b:=Z_) (by kernel_rfl))];rfl
  rw[aR (J8 (by kernel_rfl)),aR (q _)];rfl
 ·have q:∀g,d7 TD g cO [Y (.tup [kS "text",.str t])]=Y (.nx [Y (.tup [kS "text",.str t])]):=λg=>by rw[Dc (XI (b:=Z_) (by kernel_rfl))];rfl
  rw[aR (J8 (by kernel_rfl)),aR (q _)];rfl
 ·have r:=s a ž j;have q:d7 (dA (e2 fc wf AC)) (dH (eW (aC AC (aC (bg F (aC gl aN)) aN)))) cO [Y (.tup [kS "has",.lst (a.map cH)])]=Y (.rt (.tup [kS "has",.lst (a.map cH)])):=by rw[XJ (by kernel_rfl)];have:bg F (aC gl aN) [Y (.tup [kS "has",.lst (a.map cH)])]=F [.lst (a.map cH)]:=rfl;rw[r]at this;unfold dH eW;rw[show ∀b,aC AC (aC (bg F (aC gl aN)) aN) b=((bg F (aC gl aN) b).bind λy=>Y [y]).bind λi=>Y (kS "has" :: i) from λ_=>rfl,this];rfl
  rw[v_ q];rfl
 ·have k:oG Ev [M] (gN 0) ic (bg e zn) [Y (.tup [kS "both",.lst c])]=Y (c.map λd=>d):=
   wm rfl ž λd l=>o d (j d l)
  rw[Qn]at k;have q:d7 TD (dH (eW (aC wf (aC (eF (oG Ev [M] (gN 0) ic (bg e zn))) aN)))) cO [Y (.tup [kS "both",.lst c])]=Y (.rt (.tup [kS "both",.lst c])):=by rw[Dc (XI (b:=Z') (by kernel_rfl)),if_pos rfl];unfold dH eW;rw[show ∀(f:DL) b,aC wf (aC (eF f) aN) b=(e2 bX Fa t3 b).bind λx=>(((f b).map D.lst).bind λy=>Y [y]).bind λi=>Y (x::i) from λ_ _=>rfl,k];rfl
  rw[aR (J8 (by kernel_rfl)),v_ q];rfl
 ·have k:oG Ev [M] (gN 0) ic (bg e zn) [Y (.tup [kS "one",.lst c])]=Y (c.map λd=>d):=
   wm rfl ž λd l=>o d (j d l)
  rw[Qn]at k;have q:d7 TD (dH (eW (aC wf (aC (eF (oG Ev [M] (gN 0) ic (bg e zn))) aN)))) cO [Y (.tup [kS "one",.lst c])]=Y (.rt (.tup [kS "one",.lst c])):=by rw[Dc (XI (b:=Z') (by kernel_rfl)),if_pos rfl];unfold dH eW;rw[show ∀(f:DL) b,aC wf (aC (eF f) aN) b=(e2 bX Fa t3 b).bind λx=>(((f b).map D.lst).bind λy=>Y [y]).bind λi=>Y (x::i) from λ_ _=>rfl,k];rfl
  rw[aR (J8 (by kernel_rfl)),v_ q];rfl
mutual
theorem Bu:∀(n m:Nat),2*n+1<=m->Nm (ja m) n
 |n,0,h=>by omega
 |n,m+1,h=>by rw[ja];exact EB (sO n m ž)
theorem sO:∀(n m:Nat),2*n<=m->Im (dR m) n
 |0,m,_=>λ_ h=>h.elim
 |n+1,0,h=>by omega
 |n+1,m+1,h=>by rw[dR];exact wG (Bu n m ž) (sO n m ž)
end
def xG(n:Nat):Nat->Int->List (aJ×aJ×D)->Int
 |_,a,[]=>a|k,a,p::b=>xG n (k+1) (if vw n p.2.2 then bO a (2 ^ k) else a) b
theorem EH(hn:n<=12)(q:D):∀(ps:List (aJ×aJ×D)) (k:Nat) (a:Int) (a2 a3:Option D),(∀p∈ps,gU n p.2.2)->k+ps.length<=1000->∃b2 b3,
  gD (Cr 2 3) il (((ps.map cH).zipIdx k).map λp =>.tup [.int (p.2:Nat),p.1]) [Y q,Y (.int a),a2,a3]=Y (.nx [Y q,Y (.int (xG n k a ps)),b2,b3])
 |[],k,a,a2,a3,_,_=>⟨a2,a3,rfl⟩| p::ps,k,a,a2,a3,h,hk=>by
  simp only[aU]at hk;have hc:oI [p.2.2]=Y (.bl (vw n p.2.2)):=xl n 12 p.2.2 hn (h p (az ..));have hb:il [Y q,Y (.int a),Y (.int (k:Nat)),Y (cH p)]=Y (.nx [Y q,Y (.int (if vw n p.2.2 then bO a (2 ^ k) else a)),Y (.int (k:Nat)),Y (cH p)]):=by
   have e1:dQ (bg oI (aC Ì aN)) [Y q,Y (.int a),Y (.int (k:Nat)),Y (cH p)]=Y (vw n p.2.2):=by
    have:∀F,bg F (aC Ì aN) [Y q,Y (.int a),Y (.int (k:Nat)),Y (cH p)]=F [p.2.2]:=λF=>rfl
    unfold dQ;rw[this,hc];rfl
   unfold il;rw[Dc e1];cases vw n p.2.2 with
   |false=>rfl|true=>have e2:L2.e2 qe u8 Db [Y q,Y (.int a),Y (.int (k:Nat)),Y (cH p)]=Y (.int (2 ^ k)):=(show _=qe (.int 1) (.int (k:Nat)) from rfl).trans (Om ž);simp only[if_true];unfold tY;rw[e2];rfl
  rw[bh,EU,bh,oE (ρ1:=[Y q,Y (.int a),Y (.int (k:Nat)),Y (cH p)]) rfl hb];obtain⟨b2,b3,e⟩:=EH hn q ps (k+1) (if vw n p.2.2 then bO a (2 ^ k) else a) (Y (.int (k:Nat))) (Y (cH p)) (λy hy=>h y (ay _ hy)) ž;exact⟨b2,b3,e.trans rfl⟩
def P9(c:n<=12)(a:List (aJ×aJ×D))(h:∀p∈a,gU n p.2.2)(d:a.length<=1000):jJ [.lst (a.map cH)]=Y (.int (xG n 0 0 a)):=by
 show (nr [Y (.lst (a.map cH)),M,M,M]).bind mQ=_;unfold nr;rw[aR (ig (d :=.int 0) rfl)];simp only[bo,bp];obtain⟨g,f,e⟩:=EH c (.lst (a.map cH)) a 0 0 M M h ž;have b:jw (iE Fa) (Cr 2 3) il [Y (.lst (a.map cH)),Y (.int 0),M,M]=gD (Cr 2 3) il (((a.map cH).zipIdx 0).map λp =>.tup [.int (p.2:Nat),p.1]) [Y (.lst (a.map cH)),Y (.int 0),M,M]:=rfl;rw[aR (b.trans e)];rfl
noncomputable def MB(s:FB)(a:List D):EL:=⟨s.q,(s.bits:Int),s.nk,s.nv,s.tk,s.tv,s.jC,s.uX,s.inner,s.cV,a⟩
abbrev pF(a:List aJ)(b:List D):Option D:=Y (.obj aB (.ins "Facts" a b))
def Vq{F:List D->Option D}(h:F [q]=Y d):gi Z_ 0 "Facts" "question" (bg F pi) [pF [] [],Y q]=Y (.nx [pF ["question"] [d],Y q]):=by
 have e:bg F pi [pF [] [],Y q]=Y d:=(show bg F pi [pF [] [],Y q]=F [q] from rfl).trans h;unfold gi;rw[e];simp only[ae];kernel_rfl
noncomputable def Lc(q:List D):FB:=⟨q,0,[],[],[],[],0,0,0,[]⟩
def QD(q:List D):Kl (Lc q):=⟨λv a=>by simp[Lc]at a,Ue 0,Ue 0,aQ 0⟩
def Vj(q:List D):Inv (Lc q) λ_=>True:=⟨QD q,λv a=>by simp[Lc]at a,aQ 0,rfl,λv a=>by simp[Lc]at a,aQ 0⟩
def Ph(hn:n<=5)(mE:List (aJ×aJ×D))(h:∀p∈mE,gU n p.2.2)(hl:mE.length<=3)(hz:mE.length*(1+Zb n)<=999):
  ∃asks s P,f9 [.ins "Facts" [] [],.lst (mE.map cH)]=Y (.dg,fY (MB s asks))/\s.q=mE.map cH/\Inv s P/\zW (λa d=>xp s.bits P n a (Qu d)) asks (mE.map cH):=by
 have hc:vC [.lst (mE.map cH)]=Y (.lst (mE.map cH)):=Bu n 12 ž mE ž h;have es:Lc (mE.map cH)=Lc (mE.map cH):=rfl;have W0:=QD (mE.map cH);have I0:=Vj (mE.map cH);obtain⟨s1,e1,b1,S1,W1⟩:=Ep W0 mE (by show 0+mE.length<=1000;omega);have b1':s1.bits=mE.length:=by rw[b1];show 0+mE.length=_;omega
 have I1:Inv s1 λ_=>True:=I0.enter S1 W1 (cy _) λ_ _=>Iff.rfl
 have SF:s1.q=mE.map cH:=S1.q;have hm:mE.length*(1+Zb n)=mE.length+mE.length*Zb n:=by rw[Nat.mul_add,Nat.mul_one]
 have V0:iL Op [oF s1,Y (.lst (mE.map cH))]=Y (mE.map cH):=by
  have:iL Op [oF s1,Y (.lst (mE.map cH))]=Y s1.q:=by kernel_rfl
  rw[this,SF]
 obtain⟨asks,s2,P2,e2,E2,I2,A2⟩:=B_ (zN n 12 ž ž) (g:=jx (mP Í) kZ) (ar:=Qu) (f:=iL Op) (ρ:=[oF s1,Y (.lst (mE.map cH))]) (ds:=mE.map cH) (s:=s1) (P:=λ_=>True) V0 rfl rfl (by intro d hd;obtain⟨q,hq,rfl⟩:=nL.mp hd;exact⟨h q hq,λs=>⟨rfl,rfl⟩⟩) I1 (by rw[aw];omega) (by rw[aw];omega)
 refine⟨asks,s2,P2,?_,E2.q.trans SF,I2,A2⟩;show (jG [pF [] [],Y (.lst (mE.map cH))]).bind UF=_;unfold jG;rw[aR (Vq hc)];generalize mE.map cH=q at *
 rw[aR (ρ':=[pF ["question", "bits"] [.lst q,.int 0],Y (.lst q)]) ?q2,aR (ρ':=[pF ["question", "bits", "by_name"] [.lst q,.int 0,.iZ [] []],Y (.lst q)]) ?q3,aR (ρ':=[pF ["question", "bits", "by_name", "by_text"] [.lst q,.int 0,.iZ [] [],.iZ [] []],Y (.lst q)]) ?q4,aR (ρ':=[pF ["question", "bits", "by_name", "by_text", "starred"] [.lst q,.int 0,.iZ [] [],.iZ [] [],.int 0],Y (.lst q)]) ?q5,aR (ρ':=[pF ["question", "bits", "by_name", "by_text", "starred", "stars"] [.lst q,.int 0,.iZ [] [],.iZ [] [],.int 0,.int 0],Y (.lst q)]) ?q6,aR (ρ':=[pF ["question", "bits", "by_name", "by_text", "starred", "stars", "inner"] [.lst q,.int 0,.iZ [] [],.iZ [] [],.int 0,.int 0,.int 0],Y (.lst q)]) ?q7,aR (ρ':=[oF (Lc q),Y (.lst q)]) ?q8]
 case q8=>kernel_rfl
 case q7=>kernel_rfl
 case q6=>kernel_rfl
 case q5=>kernel_rfl
 case q4=>kernel_rfl
 case q3=>kernel_rfl
 case q2=>kernel_rfl
 rw[aR (ρ':=[oF s1,Y (.lst q)]) ?q9]
 case q9=>unfold eS;rw[lu (s:=(Lc q)) (s1:=(Lc q)) (ρ1:=[oF (Lc q),Y (.lst q)]) (args:=[.lst q]) (by decide) rfl (by kernel_rfl) rfl e1];rfl
 unfold BU;rw[show cR 12=mj from rfl]at e2;rw[e2];kernel_rfl
noncomputable def yx:jI:=⟨-1,0,0,0,1,1,1,1⟩
abbrev pC(a:List aJ)(b:List D):Option D:=Y (.obj aF (.ins "Coming" a b))
def Sb{F:List D->Option (D×D)}{f:EL}(h:F [.ins "Facts" [] [],q]=Y (.dg,fY f)):gi Z_ 0 "Coming" "facts" (qQ "Facts" F pi) [pC [] [],Y q]=Y (.nx [pC ["facts"] [fY f],Y q]):=by
 have e:qQ "Facts" F pi [pC [] [],Y q]=Y (fY f):=by unfold qQ;show ((F [.ins "Facts" [] [],q]).bind _)=_;rw[h];rfl
 unfold gi;rw[e];simp only[ae];kernel_rfl
def Sd{F:List D->Option D}{f:EL}(h:F [.lst f.q]=Y (.int a)):gi Z_ 0 "Coming" "able" (lI [0] [] (bg F Tk)) [pC ["facts", "full"] [fY f,.int b],Y q]=Y (.nx [pC ["facts", "full", "able"] [fY f,.int b,.int a],Y q]):=by
 have e:lI [0] [] (bg F Tk) [pC ["facts", "full"] [fY f,.int b],Y q]=Y (.int a):=by
  have:lI [0] [] (bg F Tk) [pC ["facts", "full"] [fY f,.int b],Y q]=(F [.lst f.q]).bind λd=>if sk d=Z' then Y d else none:=by kernel_rfl
  rw[this,h];rfl
 unfold gi;rw[e];simp only[ae];kernel_rfl
def JX{f:EL}(j:f.q.length<=1000)(k:f9 [.ins "Facts" [] [],.lst q]=Y (.dg,fY f))(l:jJ [.lst f.q]=Y (.int a)):
  fF [.ins "Coming" [] [],.lst q]=Y (.dg,bK ⟨f,2 ^ f.q.length,a,0,0,[yx],[]⟩):=by
 show (ji [pC [] [],Y (.lst q)]).bind È=_;unfold ji;rw[aR (Sb k)];rw[aR (ρ':=[pC ["facts", "full"] [fY f,.int (2 ^ f.q.length)],Y (.lst q)]) ?i]
 case i=>
  have e:lI [0] [] (e2 qe u8 (bg jc Tk)) [pC ["facts"] [fY f],Y (.lst q)]=Y (.int (2 ^ f.q.length)):=by refine mS (ρ':=[Y (.ins "Coming" ["facts"] [fY f]),Y (.lst q)]) rfl ?_ rfl;exact(show _=qe (.int 1) (.int (f.q.length:Nat)) from rfl).trans (Om j)
  unfold gi;rw[e];simp only[ae];generalize (2:Int) ^ f.q.length=b;kernel_rfl
 generalize (2:Int) ^ f.q.length=b;rw[aR (Sd l)];have c:gi Z_ 0 "Coming" "rests" Tl [pC ["facts", "full", "able", "taken", "opened", "rows"] [fY f,.int b,.int a,.int 0,.int 0,.lst [cq yx]],Y (.lst q)]=Y (.nx [oC ⟨f,b,a,0,0,[yx],[]⟩,Y (.lst q)]):=by kernel_rfl
 rw[aR (ρ':=[pC ["facts", "full", "able", "taken"] [fY f,.int b,.int a,.int 0],Y (.lst q)]) ?h,aR (ρ':=[pC ["facts", "full", "able", "taken", "opened"] [fY f,.int b,.int a,.int 0,.int 0],Y (.lst q)]) ?g,aR (ρ':=[pC ["facts", "full", "able", "taken", "opened", "rows"] [fY f,.int b,.int a,.int 0,.int 0,.lst [cq yx]],Y (.lst q)]) ?d,c]
 case d=>kernel_rfl
 case g=>kernel_rfl
 case h=>kernel_rfl
 kernel_rfl
def Ol(h:fF [.ins "Coming" [] [],.lst q]=Y (.dg,bK c)):km [.ins "Sift" [] [],.lst q]=Y (.dg,dE c []):=by
 show (ke [Y (.obj dZ (.ins "Sift" [] [])),Y (.lst q)]).bind (mu dZ)=_;unfold ke;rw[aR (ρ':=[Y (.obj dZ (.ins "Sift" ["coming"] [bK c])),Y (.lst q)]) ?a]
 case a=>
  have e:qQ "Coming" fF pi [Y (.obj dZ (.ins "Sift" [] [])),Y (.lst q)]=Y (bK c):=by
   have:∀F,qQ "Coming" F pi [Y (.obj dZ (.ins "Sift" [] [])),Y (.lst q)]=(F [.ins "Coming" [] [],.lst q]).bind λr=>match r.1 with|.dg=>Y r.2|_=>none:=λF=>rfl
   rw[this,h];rfl
  unfold sh;rw[e];simp only[ae];kernel_rfl
 kernel_rfl
def Ba(ks:List lL)(a:List D)(n:aJ):Int:=match (eQ ks a (cN n)).getD (.int 0) with|.int i=>i|_=>0
def Eg{ks:List lL}(h:∀v∈a,∃i,0<=i/\v=D.int i):(eQ ks a (cN n)).getD (.int 0)=.int (Ba ks a n):=by
 obtain⟨i,b,e⟩:=Ef (k:=cN n) (ks:=ks) h;unfold Ba;rw[e]
def SV{f:EL}(b:∀v∈f.nv,∃i,0<=i/\v=D.int i)(a:∀v∈f.tv,∃i,0<=i/\v=D.int i):WJ f (λn=>bO f.jC (Ba f.nk f.nv n)) (λt=>Ba f.tk f.tv t):=by
 refine⟨λn =>?_,λt =>?_⟩
 ·show (jh [Y (fY f),Y (.str n)]).bind mQ=_;unfold jh dH;have:e2 C_ (bD "Facts" "starred" Fa) (sJ (bD "Facts" "by_name" Fa) db t3) [Y (fY f),Y (.str n)]=C_ (.int f.jC) ((eQ f.nk f.nv (cN n)).getD (.int 0)):=by kernel_rfl
  rw[this,Eg b];rfl
 ·show (jg [Y (fY f),Y (.str t)]).bind mQ=_;unfold jg dH;have:sJ (bD "Facts" "by_text" Fa) db t3 [Y (fY f),Y (.str t)]=Y ((eQ f.tk f.tv (cN t)).getD (.int 0)):=by kernel_rfl
  rw[this,Eg a];rfl
theorem y_:∀(d:List D),(∀l∈d,∃j a,l=Js ((2:Int) ^ j,a)/\lE 6 a)->∃c:List (Int×D),d=c.map Js/\∀p∈c,lE 6 p.2
 |[],_=>⟨[],rfl,λp h=>by simp at h⟩
 | l::d,h=>by
  obtain⟨j,a,e,i⟩:=h l (az ..);obtain⟨c,k,g⟩:=y_ d λx f=>h x (ay _ f)
  refine⟨((2:Int) ^ j,a)::c,by rw[e,k];rfl,λp b =>?_⟩;rcases aW.mp b with rfl|b
  ·exact i
  ·exact g p b
abbrev Sm(k:Nat)(x:Int):Prop:=0<=x/\x<2 ^ k
def CO{x:Int}(a:0<=y):0<=bA x y/\bA x y<=y:=by
 unfold bA uR;rw[decide_eq_true a];cases decide (0<=x) with
 |true=>have:=Nat.and_le_right (n:=x.toNat) (m:=y.toNat);exact⟨rS _,by show ((_:Nat):Int)<=y;omega⟩
 |false=>have:=Nat.and_le_left (n:=y.toNat) (m:=(uQ x).toNat);exact⟨by show 0<=y-((_:Nat):Int);omega,by show y-((_:Nat):Int)<=y;omega⟩
def FE{x:Int}(h:Sm k y):Sm k (bA x y):=⟨(CO h.1).1,AB (CO h.1).2 h.2⟩
def QB(h:Sm k x):Sm (k+1) (bO x (2 ^ k)):=by
 obtain⟨a,rfl⟩:=dG h.1;have e:((2 ^ k:Nat):Int)=(2:Int) ^ k:=by simp
 have c:((2 ^ (k+1):Nat):Int)=(2:Int) ^ (k+1):=by simp
 have b:=h.2;rw[<- e]at b ⊢;rw[GD];have:a ||| 2 ^ k<2 ^ (k+1):=Nat.or_lt_two_pow (by rw[Qk];omega) (by rw[Qk];have:=Nat.two_pow_pos k;omega);exact⟨rS _,by rw[<- c];omega⟩
def K5(h:Sm k x):Sm (k+1) x:=⟨h.1,by have:=h.2;rw[Int.pow_succ];omega⟩
theorem My{n:Nat}{named atoms:Int}:∀(c:List D) (k:Nat) (b:Int),Sm k b->Sm (k+c.length) (Gi n named atoms k b c)
 |[],k,b,h=>h|a::c,k,b,h=>by have:=My (n:=n) (named:=named) (atoms:=atoms) c (k+1) (if bA named (2 ^ k) != 0&&qg n a atoms then bO b (2 ^ k) else b) (by split;exact QB h;exact K5 h);rw[aU,show k+(c.length+1)=k+1+c.length by omega];exact this
theorem Ng{n:Nat}:∀(a:List (aJ×aJ×D)) (k:Nat) (x:Int),Sm k x->Sm (k+a.length) (xG n k x a)
 |[],k,x,h=>h|q::a,k,x,h=>by have:=Ng (n:=n) a (k+1) (if vw n q.2.2 then bO x (2 ^ k) else x) (by split;exact QB h;exact K5 h);rw[aU,show k+(a.length+1)=k+1+a.length by omega];exact this
theorem QC:∀ {j k:Nat},Sm j x->j<=k->Sm k x
 | j,k,h,a=>by
  obtain⟨m,rfl⟩:=Nat.exists_eq_add_of_le a
  induction m with
  |zero=>exact h|succ m ih=>exact K5 (ih ž)
def tz(x:Int)(i:Nat):Bool:=if 0<=x then x.toNat.testBit i else !(bN x).toNat.testBit i
def ud(a i:Nat):tz (a:Int) i=a.testBit i:=by unfold tz;rw[if_pos (rS a)];rfl
def yw(x:Int)(i:Nat):tz (bN x) i = !tz x i:=by
 have n:0<=bN x↔¬0<=x:=PyProof.Rows.bitNot_nonneg;unfold tz;rw[show bN (bN x)=x from PyProof.Rows.bitNot_bitNot x];by_cases h:0<=x
 ·rw[if_neg λz=>n.mp z h,if_pos h]
 ·rw[if_pos (n.mpr h),if_neg h,Qq]
def J3(x y:Nat)(i:Nat):(x-(x &&& y)).testBit i=(x.testBit i && !y.testBit i):=by
 have h:=Iz (x ^^^ (x &&& y)) (x &&& y);have b:(x ^^^ (x &&& y)) ||| (x &&& y)=x:=xN λj=>by rw[Kd,GR,qr];cases x.testBit j<;>cases y.testBit j<;>rfl
 have a:(x ^^^ (x &&& y)) &&& (x &&& y)=0:=xN λj=>by rw[qr,GR,qr,Nat.zero_testBit];cases x.testBit j<;>cases y.testBit j<;>rfl
 rw[b,a]at h;rw[show x-(x &&& y)=x ^^^ (x &&& y) by omega,GR,qr];cases x.testBit i<;>cases y.testBit i<;>rfl
def Dp(b:0<=x)(y:Nat)(i:Nat):tz (x-((x.toNat &&& y:Nat):Int)) i=(x.toNat.testBit i && !y.testBit i):=by
 obtain⟨a,rfl⟩:=dG b;rw[iT,show ((a:Int)-((a &&& y:Nat):Int))=((a-(a &&& y):Nat):Int) by have:=Nat.and_le_left (n:=a) (m:=y);omega,ud,J3]
def vU(x y:Int)(i:Nat):tz (bA x y) i=(tz x i&&tz y i):=by
 by_cases b:0<=x<;>by_cases a:0<=y
 ·rw[show bA x y=_ from Qi b a,ud,qr,tz,if_pos b,tz,if_pos a]
 ·rw[show bA x y=_ from PyProof.Rows.bitAnd_pn b a,Dp b,tz,if_pos b,tz,if_neg a]
 ·rw[show bA x y=_ from PyProof.Rows.bitAnd_np b a,Dp a,tz,if_neg b,tz,if_pos a,Bool.and_comm]
 ·rw[show bA x y=_ from PyProof.Rows.bitAnd_nn b a,yw,ud,Kd,tz,if_neg b,tz,if_neg a,Bool.not_or]
def Qv(x y:Int)(i:Nat):tz (bO x y) i=(tz x i||tz y i):=by
 show tz (bN (bA (bN x) (bN y))) i=_;rw[yw,vU,yw,yw,Bool.not_and,Qq,Qq]
def Rb(x:Int)(i:Nat):tz (x*2) i=(decide (1<=i)&&tz x (i-1)):=by
 have b:∀a:Nat,(2*a).testBit i=(decide (1<=i)&&a.testBit (i-1)):=λa=>by rw[show 2*a=a <<< 1 by rw[Nat.shiftLeft_eq];omega,Nat.testBit_shiftLeft]
 unfold tz;by_cases h:0<=x
 ·rw[if_pos (by omega),if_pos h,show (x*2).toNat=2*x.toNat by omega,b]
 ·rw[if_neg (by omega),if_neg h,show (bN (x*2)).toNat=2*(bN x).toNat+1 by unfold bN uQ;omega];cases i with
  |zero=>simp|succ i=>rw[Nat.testBit_succ,show (2*(bN x).toNat+1)/2=(bN x).toNat by omega];simp
def Ra(k i:Nat):tz ((2:Int) ^ k) i=decide (k=i):=by
 have e:((2 ^ k:Nat):Int)=(2:Int) ^ k:=by simp
 rw[<- e,ud,Nat.testBit_two_pow]
def KD(d:0<=x)(c:0<=y)(h:∀i,tz x i=tz y i):x=y:=by
 obtain⟨a,rfl⟩:=dG d;obtain⟨b,rfl⟩:=dG c;have:a=b:=xN λi=>by have:=h i;rwa [ud,ud]at this
 rw[this]
def xQ(i:Nat):tz 0 i=false:=by rw[show (0:Int)=((0:Nat):Int) from rfl,ud,Nat.zero_testBit]
def KE(x:Int)(k:Nat):(bA x (2 ^ k) != 0)=tz x k:=by
 have a:0<=(2:Int) ^ k:=p' k;have c:=(CO (x:=x) a).1;have b:∀i,tz (bA x (2 ^ k)) i=(tz x i&&decide (k=i)):=λi=>by rw[vU,Ra]
 cases e:tz x k with
 |true=>rw[bne_iff_ne];intro z;have:=b k;rw[z,xQ,e]at this;simp at this
 |false=>
  have:bA x (2 ^ k)=0:=KD c ſ λi=>by
   rw[b i,xQ];by_cases h:k=i
   ·subst h;rw[e];rfl
   ·simp[h]
  rw[this];rfl
abbrev Le(x y:Int):Prop:=∀i,tz x i=Z'->tz y i=Z'
def L'{x:Int}(h:Le x b)(g:Le y a):Le (bO x y) (bO b a):=λi e=>by
 rw[Qv,vM]at e ⊢;exact e.imp (h i) (g i)
def Ma(h:Le x b)(g:Le y a):Le (bA x y) (bA b a):=λi e=>by
 rw[vU,aZ]at e ⊢;exact⟨h i e.1,g i e.2⟩
def L_(x y:Int):Le x (bO x y):=λi e=>by rw[Qv,e];rfl
def Iw(x:Int):Le 0 x:=λi e=>by rw[xQ]at e;cases e
def QR{f:Int}(l:Le p c)(k:Le a g)(j:Le f d):Le (Dd b p a f) (Dd b c g d):=λi e=>by
 unfold Dd at e ⊢;rw[Rb,aZ]at e ⊢;exact⟨e.1,Ma (L' l (Ma k λ_ h=>h)) j _ e.2⟩
theorem L3:∀(n m:Nat) (b:D) (a f:Int),lE m b->Le a f->qg n b a=Z'->qg n b f=Z'
 |0,m,b,a,f,_,_,h=>nomatch (show Z_=Z' from h)
 |n+1,0,b,a,f,h,_,_=>h.elim| n+1,m+1,b,a,f,s,l,h=>by
  obtain⟨d,u,rfl,o,_,r⟩:=s;simp only[L4,aZ,beq_iff_eq]at h ⊢;refine⟨KD (CO o).1 o λi =>?_,?_⟩
  ·rw[vU];cases e:tz d i with
   |false=>rw[Ki]|true=>
    have:tz (bA a d) i=true:=by rw[h.1];exact e
    rw[vU,aZ]at this;rw[l i this.1];rfl
  ·rw[dU]at h ⊢;intro c j;obtain⟨t,rfl,_,q⟩:=r c j;have p:=h.2 _ j;simp only[List.any_eq_true]at p ⊢;obtain⟨x,g,k⟩:=p;exact⟨x,g,L3 n m x a f (q x g) l k⟩
theorem fit_le{m:Nat}{f:Int}(h:Le a j):∀(b:List D) (k:Nat) (x d:Int),(∀p∈b,lE m p)->Le x d->Le (Gi n f a k x b) (Gi n f j k d b)
 |[],k,x,d,_,g=>g| p::b,k,x,d,l,g=>by
  refine fit_le h b (k+1) _ _ (λq o=>l q (ay _ o)) ?_;by_cases c:(bA f (2 ^ k) != 0&&qg n p a)=Z'
  ·have:(bA f (2 ^ k) != 0&&qg n p j)=true:=by rw[aZ]at c ⊢;exact⟨c.1,L3 n m p a j (l p az) h c.2⟩
   rw[if_pos c,if_pos this];exact L' g λ_ h=>h
  ·rw[if_neg c];split
   ·exact λi e=>L_ _ _ i (g i e)
   ·exact g
structure FW(f:EL)(qo:Int)(fit lift:Int->Int->Int)(Va txt:aJ->Int):Prop where
 ok:Qb f fit lift
 st:WJ f Va txt
 sm:∀n a,Sm 63 (fit n a)
 mono:∀n a a',Le a a'->Le (fit n a) (fit n a')
 qo:Sm 63 qo
def V4{n:Nat}(F:n<=5)(c:List (aJ×aJ×D))(h:∀p∈c,gU n p.2.2)(u:c.length<=3)(B:c.length*(1+Zb n)<=999):
  ∃f x k o m,f9 [.ins "Facts" [] [],.lst (c.map cH)]=Y (.dg,fY f)/\f.q=c.map cH/\FW f (xG n 0 0 c) x k o m:=by
 obtain⟨b,s,P,e,E,I,A⟩:=Ph F c h u B;have G:b.length=c.length:=by rw[A.len,aw]
 have i:∀a∈b,lE 6 a:=λa w=>by obtain⟨d,_,r⟩:=A.left a w;exact r.ad.up ž
 obtain⟨z,H,q⟩:=y_ s.cV λl u=>by obtain⟨j,y,e,_,w,_⟩:=I.cV l u;exact⟨j,y,e,w⟩
 refine⟨MB s b,λg a=>Gi 6 g a 0 0 b,λg a=>O9 6 g a (bA a s.inner) z,λn=>bO s.jC (Ba s.nk s.nv n),λt=>Ba s.tk s.tv t,e,E,?_⟩;exact⟨⟨λg a=>Gh (f:=MB s b) (n:=6) ſ i (by show b.length<=1000;omega) g a,λg a=>Jr (f:=MB s b) (n:=6) ſ H q g a⟩,SV (f:=MB s b) I.NN.nv (λv C=>by obtain⟨j,_,e,_⟩:=I.tv v C;exact⟨_,p' j,e⟩),
  λg a=>QC (My b 0 0 ⟨ſ,ſ⟩) ž,λg a J h=>fit_le h b 0 0 0 i λ_ h=>h,QC (Ng c 0 0 ⟨ſ,ſ⟩) ž⟩
end K21
namespace L2
open PySem
def Ou(e:g b=Y (.nx a)):be g h b=h a:=by simp only[be,e,ae]
def Vh(e:t a=Y Z_):d7 t g h a=h a:=by simp[d7,e]
def Vg(e:t a=Y Z'):d7 t g h a=g a:=by simp[d7,e]
def PR(h:nB a 179=Z'):jA (.lst a) 180=true:=by simp only[jA];rw[show 180-1=179 by rfl,h];rfl
end L2
namespace K21
open PySem L2
def ET{j:Int}(h : -(2 ^ 64)<j/\j<2 ^ 64):rJ (.int i) (.int j)=Y (.int (i*j)):=by simp only[rJ];rw[if_pos (.inr h)]
def WR(h : -(2 ^ 64)<i/\i<2 ^ 64):rJ (.int i) (.int j)=Y (.int (i*j)):=by simp only[rJ];rw[if_pos (.inl h)]
def l_{j:Int}(h:0<j):fD (.int i) (.int j)=Y (.int (i%j)):=by simp only[fD];rw[if_pos h]
def sG(h:0<j/\j<2 ^ 64):iU (.int i) (.int j)=Y (.int (i/j)):=by simp only[iU];rw[if_pos h]
def Zy:d9 (.int i) (.int j)=Y (.int (i+j)):=rfl
def X6:lZ (.int i) (.int j)=Y (.int (i-j)):=rfl
def eqI:fc (.int i) (.int j)=Y (.bl (i==j)):=rfl
def eqB:fc (.bl i) (.bl j)=Y (.bl (i==j)):=rfl
def eqS:fc (.str i) (.str j)=Y (.bl (i==j)):=rfl
def neI:EZ (.int i) (.int j)=Y (.bl (!(i==j))):=rfl
def neS:EZ (.str i) (.str j)=Y (.bl (!(i==j))):=rfl
def ltI:Nw (.int i) (.int j)=Y (.bl (decide (i<j))):=rfl
def gtI:t2 (.int i) (.int j)=Y (.bl (decide (j<i))):=rfl
def ixL:bX (.lst a) (.int i)=oU a i:=rfl
def ixT:bX (.tup a) (.int i)=oU a i:=rfl
def Yz{a:List D}:jc [.lst a]=Y (.int a.length):=rfl
def Yx{a:List D}:jc [.tup a]=Y (.int a.length):=rfl
def geI:oGe (.int i) (.int j)=Y (.bl (decide (j<=i))):=rfl
local macro_rules | `(tactic|walk_at "v")=>do
 let a←("jD IX ie be dF kN dH u_ DI d7 cO jw qD Hf iW e2 eV eK eF gE eW bg sI aC aN dA kL qz gM oG iL iE NS QP pN pS HL JM iS mJ dQ Wa aU jU bh C3 uP dk bt List.getElem?_cons_zero N5 List.getElem?_nil Option.join_some Option.join_none ae bP Option.getD_some Zy X6 eqI eqB eqS neI neS ltI gtI geI ixL ixT Yz Yx bo bp if_true if_false eM mQ Vv Nat.reduceAdd Nat.reduceSub Nat.reduceLeDiff Ak mY dM BP Hh AX Xb m2 mP kZ jx xD rj VL OT".splitOn " ").toArray.mapM fun s=>`(Lean.Parser.Tactic.simpLemma|$(Lean.mkIdent s.toName):term)
 `(tactic|simp only[$a,*])
noncomputable def VI(c t:Int):Int:=(c%2147483647+t*t*7919+104729)*48271%2147483647
def xC(c t:Int):Int:=(VI c t*VI c t+69621*t)%2147483629
def F6(c t:Int)(e:0<=t)(d:t<=100000):xo [.int c,.int t]=Y (.int (xC c t)):=by
 have a:=cf ((c%2147483647+t*t*7919+104729)*48271) (show (2147483647:Int)≠0 by decide);have b:=bR ((c%2147483647+t*t*7919+104729)*48271) (show (0:Int)<2147483647 by decide);unfold xo Mu xC;walk_at "v";rw[l_ (by decide),ET ⟨by omega,by omega⟩];walk_at "v";rw[ET ⟨by decide,by decide⟩];walk_at "v";rw[ET ⟨by decide,by decide⟩];walk_at "v";rw[l_ (by decide)];walk_at "v";rw[ET (j:=(c%2147483647+t*t*7919+104729)*48271%2147483647) ⟨by omega,by omega⟩,ET (j:=t) ⟨by omega,by omega⟩];walk_at "v";rw[l_ (by decide)];rfl
def O5(c t:Int):0<=xC c t/\xC c t<2147483629:=⟨cf _ ſ,bR _ ſ⟩
def zi{a:List Int}{j:Nat}{d:D}(h:(a.map D.int)[j]?=Y d):∃c,a[j]?=Y c/\d=.int c:=by
 rw[aY]at h;obtain⟨c,e,h⟩:=au.1 h;rw[e];cases h;exact⟨c,rfl,rfl⟩
def Dy(a:List Int)(n:Nat)(v:Int):(a.map D.int).set n (.int v)=(a.set n v).map D.int:=by rw[vG]
def zH(ns:List Int)(YQ:ns.length<=63)(j_ most:Int)(t0:0<=j_)(t1:j_<=1000)(m0:1<=most)(m1:most<=100):∃xs:List Int,kl [.jt ns,.int j_,.int most]=Y (xs.map D.int)/\1<=xs.length/\(xs.length:Int)<=most:=by
 have hcl:(BF ns M (Y 63)).length<=63:=bQ (Tu _ _ _) YQ;generalize YZ:BF ns M (Y 63)++[j_]=cs;have acS:1<=cs.length:=by rw[<- YZ];simp
 have acR:cs.length<=64:=by rw[<- YZ];simp;omega
 have e1:d9 (.lst ((BF ns M (Y 63)).map D.int)) (.lst [.int j_])=Y (.lst (cs.map D.int)):=by simp only[d9];rw[if_pos (by simp[kj];omega),<- YZ];simp
 obtain⟨c0,ec0⟩:=vz (xs:=cs) (z:=0) ſ ž;unfold kl Cq;walk_at "v";rw[e1];walk_at "v";rw[ec0];walk_at "v";rw[sG ⟨by decide,by decide⟩];walk_at "v";rw[l_ (by decide)];walk_at "v";by_cases hb:(c0/50000%2==1)=Z'
 ·rw[hb];walk_at "v";have hz:(cs.map D.int).length<=eC:=by simp[kj];omega
  rw[if_pos hz];rw[L2.sv (h:=λd=>match d with|.int i =>.int (i/100000)|d=>d) (λd hd=>by obtain⟨i,_,rfl⟩:=nL.mp hd;exact⟨_,rfl,by walk_at "v";rw[sG ⟨by decide,by decide⟩]⟩)]
  have el:(cs.map D.int).map (λd=>match d with|.int i =>.int (i/100000)|d=>d)=(cs.map (· / 100000)).map D.int:=by simp
  rw[el];walk_at "v";rw[if_pos (show -(2 ^ 62)<=j_+most+1/\j_+most+1<2 ^ 62 from⟨by omega,by omega⟩)];walk_at "v";have YV:(cs.map (· / 100000)).length=cs.length:=by simp
  obtain⟨ρ',ef,⟨fs,ls,v6,v7,rfl,SN,hls⟩⟩:=sE (τ:=gN 6) (g:=wN) (ds:=nh 0 (j_+most+1).toNat) (λi ρ=>∃(fs ls:List Int) (v6 v7:Option D),ρ=[Y (.jt ns),Y (.int j_),Y (.int most),Y (.lst (cs.map D.int)),Y (.lst (fs.map D.int)),Y (.lst (ls.map D.int)),v6,v7,M,M,M]/\fs.length=i/\ls.length=cs.length)
   (ρ:=[Y (.jt ns),Y (.int j_),Y (.int most),Y (.lst (cs.map D.int)),Y (.lst []),Y (.lst ((cs.map (· / 100000)).map D.int)),M,M,M,M,M]) ⟨[],cs.map (· / 100000),M,M,rfl,rfl,YV⟩ (by
   rintro j d ρ hd ⟨fs,ls,v6,v7,rfl,SN,hls⟩;obtain⟨hj,rfl⟩:=DK hd;have VY:(0:Int)<(ls.length:Int):=by omega
   have k0:=cf (0+(j:Int)) (show (ls.length:Int)≠0 by omega);have k1:=bR (0+(j:Int)) VY;obtain⟨v,ev⟩:=vz (xs:=ls) k0 k1;refine⟨_,[Y (.jt ns),Y (.int j_),Y (.int most),Y (.lst (cs.map D.int)),Y (.lst ((fs++[v%2147483587]).map D.int)),Y (.lst ((ls.set ((0+(j:Int))%(ls.length:Int)).toNat (v/2147483587)).map D.int)),Y (.int (0+(j:Int))),Y (.int ((0+(j:Int))%(ls.length:Int))),M,M,M],rfl,?_,⟨_,_,_,_,rfl,by simp[SN],by simp[hls]⟩⟩;unfold wN;walk_at "v";rw[aw,l_ VY];walk_at "v";rw[ev];walk_at "v";rw[l_ (by decide)];walk_at "v";rw[if_pos (by rw[aw,kj];omega)];walk_at "v";rw[ev];walk_at "v";rw[sG ⟨by decide,by decide⟩];walk_at "v";rw[aw,Pf k0 k1];walk_at "v";rw[Dy];simp)
  rw[ef];walk_at "v";rw[Ex _ t0,<- List.map_drop];have hl:(fs.drop j_.toNat).length=most.toNat+1:=by rw[EV,SN,p_];omega
  obtain⟨v,ev⟩:=vz (xs:=fs.drop j_.toNat) (z:=most) ž (by rw[hl];omega);rw[ev];walk_at "v";rw[l_ (by omega)];walk_at "v";have k0:=cf v (show most≠0 by omega);have k1:=bR v (show 0<most by omega);rw[Gy _ (by omega),<- tT];refine⟨_,rfl,?_⟩;rw[lG,hl,GS (by omega)];exact⟨ž,ž⟩
 ·have QQ:(c0/50000%2==1)=false:=by simpa using hb
  rw[QQ];walk_at "v";obtain⟨ρ',ef,⟨num,v6,v9,rfl,hn0,hn1⟩⟩:=sE (τ:=Cr 6 9) (g:=wM) (ds:=xk (cs.map D.int)) (λi ρ=>∃(num:Int) (v6 v9:Option D),ρ=[Y (.jt ns),Y (.int j_),Y (.int most),Y (.lst (cs.map D.int)),Y (.lst []),M,v6,M,Y (.int num),v9,M]/\0<=num/\num<2147483629)
   (ρ:=[Y (.jt ns),Y (.int j_),Y (.int most),Y (.lst (cs.map D.int)),Y (.lst []),M,M,M,Y (.int 0),M,M]) ⟨0,M,M,rfl,ſ,ſ⟩ (by
   rintro j d ρ hd ⟨num,v6,v9,rfl,hn0,hn1⟩;obtain⟨x,hx,rfl⟩:=wD hd;obtain⟨c,hc,rfl⟩:=zi hx;have hj:j<cs.length:=(aq.mp hc).1;refine⟨_,[Y (.jt ns),Y (.int j_),Y (.int most),Y (.lst (cs.map D.int)),Y (.lst []),M,Y (.int j),M,Y (.int ((num*31+xC c ((j:Int)+j_))%2147483629)),Y (.int c),M],rfl,?_,⟨_,_,_,rfl,cf _ ſ,bR _ ſ⟩⟩;unfold wM;walk_at "v";rw[ET ⟨by decide,by decide⟩];walk_at "v";rw[F6 _ _ (by omega) (by omega)];walk_at "v";rw[l_ (by decide)];walk_at "v")
  rw[ef];walk_at "v";rw[sG ⟨by decide,by decide⟩];walk_at "v";rw[l_ (by omega)];walk_at "v";have k0:=cf (num/1009) (show most≠0 by omega);have k1:=bR (num/1009) (show 0<most by omega);rw[if_pos (show -(2 ^ 62)<=1+num/1009%most/\1+num/1009%most<2 ^ 62 from⟨by omega,by omega⟩)];walk_at "v";obtain⟨ρ',ef,⟨fs,v6,ZO,rfl,SN⟩⟩:=sE (τ:=gN 6) (g:=wL) (ds:=nh 0 (1+num/1009%most).toNat) (λi ρ=>∃(fs:List Int) (ZW ZO:Option D),ρ=[Y (.jt ns),Y (.int j_),Y (.int most),Y (.lst (cs.map D.int)),Y (.lst (fs.map D.int)),M,ZW,M,Y (.int num),v9,ZO]/\fs.length=i)
   (ρ:=[Y (.jt ns),Y (.int j_),Y (.int most),Y (.lst (cs.map D.int)),Y (.lst []),M,v6,M,Y (.int num),v9,M]) ⟨[],v6,M,rfl,rfl⟩ (by
   rintro j d ρ hd ⟨fs,ZW,ZO,rfl,SN⟩;obtain⟨hj,rfl⟩:=DK hd;have VY:(0:Int)<(cs.length:Int):=by omega
   have q0:=cf (0+(j:Int)) (show (cs.length:Int)≠0 by omega);have q1:=bR (0+(j:Int)) VY;obtain⟨v,ev⟩:=vz (xs:=cs) q0 q1;have r0:=cf num (show (1009:Int)≠0 by decide);have r1:=bR num (show (0:Int)<1009 by decide);have mz:=O5 v (num%1009+(0+(j:Int))+j_);refine⟨_,[Y (.jt ns),Y (.int j_),Y (.int most),Y (.lst (cs.map D.int)),Y (.lst ((fs++[(xC v (num%1009+(0+(j:Int))+j_)*xC v (num%1009+(0+(j:Int))+j_)+7*(0+(j:Int)))%2147483587]).map D.int)),M,Y (.int (0+(j:Int))),M,Y (.int num),v9,Y (.int (xC v (num%1009+(0+(j:Int))+j_)))],rfl,?_,⟨_,_,_,rfl,by simp[SN]⟩⟩;unfold wL;walk_at "v";rw[aw,l_ VY];walk_at "v";rw[ev];walk_at "v";rw[l_ (by decide)];walk_at "v";rw[F6 _ _ (by omega) (by omega)];walk_at "v";rw[ET ⟨by omega,by omega⟩];walk_at "v";rw[WR ⟨by decide,by decide⟩];walk_at "v";rw[l_ (by decide)];walk_at "v";rw[if_pos (by rw[aw,kj];omega)];simp)
  rw[ef];walk_at "v";rw[p_]at SN;exact⟨fs,rfl,ž,ž⟩
def Yy{x:aJ}(h:x.length<=eC):jc [.str x]=Y (.int x.length):=by simp[jc,h]
def Wt{x y:aJ}(h:x.length+y.length<=eC):d9 (.str x) (.str y)=Y (.str (x++y)):=by simp[d9,h]
def L0(j:List Int)(l:j.length<=63):∃f:List aJ,vA [.jt j]=Y (.lst (f.map D.str))/\f.length=5:=by
 obtain⟨xs,q,v,u⟩:=zH j l 40 1 ſ ſ ſ ſ;obtain⟨c,r⟩:=vz (xs:=xs) (z:=0) ſ ž;have h:(af "abcdefabcde").length<=eC:=by decide +kernel
 have m:(af "abcdefabcde").length<=11:=by decide +kernel
 have o:(af "mnopq").cps.all (· < 128)=true:=by decide +kernel
 have g:(af "mnopq").cps.toList.length=5:=by decide +kernel
 unfold vA Cn;walk_at "v";rw[q];walk_at "v";rw[r];walk_at "v";rw[l_ (by decide)];walk_at "v";rw[if_pos h];walk_at "v";have k:=Kc (af "abcdefabcde") M (Y (c%12));generalize oP (af "abcdefabcde") M (Y (c%12))=a at k;have e:a.length<=eC:=by rw[kj];omega
 rw[sG ⟨by decide,by decide⟩,Yy e];walk_at "v";rw[l_ (by omega)];walk_at "v";generalize c/12%((a.length:Int)+1)=b;rw[if_pos o];walk_at "v";rw[if_pos (by simp[uj,g,kj])];rw[L2.sv (h:=λd=>match d with|.str z =>.str ((oP a M (Y b)++z)++oP a (Y b) M)|d=>d) (λd p=>by
  obtain⟨i,_,rfl⟩:=nL.mp p;refine⟨_,rfl,?_⟩;have t:=Kc a M (Y b);have s:=Kc a (Y b) M;have n:(⟨#[i]⟩:aJ).length=1:=rfl;walk_at "v";rw[if_pos e];walk_at "v";rw[Wt (by rw[n,kj];omega)];walk_at "v";rw[if_pos e];walk_at "v";rw[Wt (by
   have:(oP a M (Y b)++(⟨#[i]⟩:aJ)).length=(oP a M (Y b)).length+1:=by show ((oP a M (Y b)).cps ++ #[i]).size=_;simp;rfl
   rw[this,kj];omega)])]
 walk_at "v";refine⟨(af "mnopq").cps.toList.map λi=>(oP a M (Y b)++⟨#[i]⟩)++oP a (Y b) M,?_,by rw[aw];exact g⟩;simp[uj]
noncomputable abbrev xa:aJ:=af "open"
noncomputable abbrev w_:aJ:=af "text"
noncomputable abbrev si:aJ:=af "close"
def zY(s:D):Prop:=(∃x,s=.tup [.str xa,.str x])\/(∃x,s=.tup [.str w_,.str x])\/s=.tup [.str si]
def zY.ok{s:D}(h:zY s)(n:Nat):jA s (n+1)=true:=by
 rcases h with⟨x,rfl⟩|⟨x,rfl⟩|rfl<;>simp[jA,nB]
def FF(h:∀s∈a,zY s)(n:Nat):nB a (n+1)=true:=by
 induction a with
 |nil=>simp[nB]|cons s a ih=>simp only[nB,(h s az).ok n,ih λs b=>h s (ay _ b),NK]
noncomputable def fU:Nat×Bool->rM->Option (Nat×Bool)
 |(d,b),.op _=>if 0<d\/b=Z_ then Y (d+1,Z') else M
 |(d,b),.tx _=>if 0<d then Y (d,b) else M
 |(d,b),.cl=>if 0<d then Y (d-1,b) else M
noncomputable def pZ:List rM->Nat×Bool->Option (Nat×Bool)
 |[],z=>Y z|g::a,z=>(fU z g).bind (pZ a)
theorem pY(g:rM):∀(a:List rM) (z:Nat×Bool),pZ (a++[g]) z=(pZ a z).bind λb=>fU b g
 |[],z=>by show (fU z g).bind (pZ [])=fU z g;cases fU z g<;>rfl
 | t::a,z=>by
  show (fU z t).bind (pZ (a++[g]))=((fU z t).bind (pZ a)).bind _;cases fU z t with
  |none=>rfl|some b=>exact pY g a b
structure SG(ss:List D)(dep:Int):Prop where
 sg:∀s∈ss,zY s
 ex:∃gs d b,ss=gs.map de/\pZ gs (0,false)=some (d,b)/\dep=(d:Nat)/\(gs=[]->b=false)
def SG.nil:SG [] 0:=⟨λs h=>(by cases h),[],0,Z_,rfl,rfl,rfl,λ_=>rfl⟩
def SG.open{f:List D}{a:Int}(h:SG f a)(x:aJ)(e:f=[]\/0<a):SG (f++[.tup [.str xa,.str x]]) (a+1):=by
 obtain⟨i,d,b,g,k,l,j⟩:=h.ex;refine⟨λs c =>?_,i++[.op x],d+1,Z',by rw[g,cp];rfl,?_,ž,λh=>by simp at h⟩
 ·rcases bu.mp c with c|c
  ·exact h.sg s c
  ·exact .inl ⟨x,cw.mp c⟩
 ·rw[pY,k];show (if 0<d\/b=Z_ then _ else _)=_;rw[if_pos];rcases e with e|e
  ·exact .inr (j (by rw[e]at g;cases i with|nil=>rfl|cons=>cases g))
  ·exact .inl ž
def SG.text(h:SG e a)(x:aJ)(k:0<a):SG (e++[.tup [.str w_,.str x]]) a:=by
 obtain⟨f,d,b,j,i,g,l⟩:=h.ex;refine⟨λs c =>?_,f++[.tx x],d,b,by rw[j,cp];rfl,?_,g,λh=>by simp at h⟩
 ·rcases bu.mp c with c|c
  ·exact h.sg s c
  ·exact .inr (.inl ⟨x,cw.mp c⟩)
 ·rw[pY,i];show (if 0<d then _ else _)=_;rw[if_pos (by omega)]
def SG.close(h:SG e a)(j:0<a):SG (e++[.tup [.str si]]) (a-1):=by
 obtain⟨f,d,b,i,g,l,k⟩:=h.ex;refine⟨λs c =>?_,f++[.cl],d-1,b,by rw[i,cp];rfl,?_,ž,λh=>by simp at h⟩
 ·rcases bu.mp c with c|c
  ·exact h.sg s c
  ·exact .inr (.inr (cw.mp c))
 ·rw[pY,g];show (if 0<d then _ else _)=_;rw[if_pos (by omega)]
def V'{a:List D}(h:∀s∈a,zY s):fc (.lst a) (.lst [])=Y (.bl a.isEmpty):=by
 have:jA (.lst a) 180=true:=by simp only[jA];rw[show 180-1=178+1 by rfl,FF h];rfl
 simp only[fc];rw[if_pos (by rw[this];rfl)];cases a<;>rfl
def Fp: DG := (be wv
      (d7 ww
       (be lw
        (dF 4 (e2 d9 pc u8)))
       (d7 Ë
         Á
         (d7 Rs
           (be (qD 3 UV)
            (dF 4 (e2 lZ pc u8)))
           cO))))
def zL:wK=be (dF 8 (eV 7)) (be (d7 (dA (e2 fc np t3)) (dF 5 (e2 fD ge Re)) cO) Fp):=rfl
theorem AL{a0:D}{nms txs:List aJ}{k:List D}{lean j c:Int}{v9:Option D}(K:nms.length=5)(J:txs.length=5)(l:SG k a)(L:k.length<=i)(N:i<=1000)(n:0<=lean/\lean<3)(O:0<=j):
  ∃g f m,Fp [Y a0,Y (.lst (nms.map D.str)),Y (.lst (txs.map D.str)),Y (.lst k),Y (.int a),Y (.int lean),Y (.int j),Y (.int c),Y (.int c),v9] =
   Y (.nx [Y a0,Y (.lst (nms.map D.str)),Y (.lst (txs.map D.str)),Y (.lst g),Y (.int f),Y (.int lean),Y (.int j),Y (.int c),Y (.int c),m])/\SG g f/\g.length<=i+1:=by
 have q:=cf (c/7%11) (show (5:Int)≠0 by decide);have I:=bR (c/7%11) (show (0:Int)<5 by decide);have p:=cf (c/7) (show (5:Int)≠0 by decide);have H:=bR (c/7) (show (0:Int)<5 by decide);obtain⟨r,z,_⟩:=yl (xs:=nms) q ž;obtain⟨o,y,_⟩:=yl (xs:=txs) p ž;have d:k.length<eC:=by rw[kj];omega
 unfold Fp;walk_at "v";rw[l_ (by decide)];walk_at "v";rw[WR ⟨by omega,by omega⟩];walk_at "v";rw[ET ⟨by decide,by decide⟩];walk_at "v";rw[l_ (by decide)];walk_at "v";rw[V' l.sg];walk_at "v";generalize (c+lean*(j%2)*5)%7=e;have u:∃b,(if k.isEmpty=Z' then Y Z' else if decide (e<3)=Z' then Y (decide (0<a)) else Y Z_)=Y b/\(b=Z'->k=[]\/0<a):=by
  split
  ·rename_i h;exact⟨Z',rfl,λ_ =>.inl (by simpa using h)⟩
  ·split
   ·exact⟨_,rfl,λh =>.inr (of_decide_eq_true h)⟩
   ·exact⟨Z_,rfl,λh=>by cases h⟩
 obtain⟨G,C,x⟩:=u;rw[C];cases G with
 |true=>walk_at "v";rw[sG ⟨by decide,by decide⟩];walk_at "v";rw[l_ (by decide)];walk_at "v";rw[l_ (by decide)];walk_at "v";rw[z];walk_at "v";rw[if_pos d];walk_at "v";exact⟨_,_,_,rfl,l.open r (x rfl),by simp;omega⟩
 |false=>
  walk_at "v";have t:∃b,(if decide (e<5)=Z' then Y (decide (0<a)) else Y Z_)=Y b/\(b=Z'->0<a):=by
   split
   ·exact⟨_,rfl,λh=>of_decide_eq_true h⟩
   ·exact⟨Z_,rfl,λh=>by cases h⟩
  obtain⟨F,B,w⟩:=t;rw[B];cases F with
  |true=>walk_at "v";rw[sG ⟨by decide,by decide⟩];walk_at "v";rw[l_ (by decide)];walk_at "v";rw[y];walk_at "v";rw[if_pos d];exact⟨_,_,_,rfl,l.text o (w rfl),by simp;omega⟩
  |false=>
   walk_at "v";rw[sG ⟨by decide,by decide⟩];walk_at "v";rw[l_ (by decide)];walk_at "v";have s:∃b,(if decide (1<a)=Z' then Y Z' else if (a==1)=Z' then Y (c/7%6==0) else Y Z_)=Y b/\(b=Z'->0<a):=by
    split
    ·rename_i h;exact⟨Z',rfl,λ_=>by have:=of_decide_eq_true h;omega⟩
    ·split
     ·rename_i h;exact⟨_,rfl,λ_=>by have:=eq_of_beq h;omega⟩
     ·exact⟨Z_,rfl,λh=>by cases h⟩
   obtain⟨E,A,v⟩:=s;rw[A];cases E with
   |true=>walk_at "v";rw[if_pos d];walk_at "v";exact⟨_,_,_,rfl,l.close (v rfl),by simp;omega⟩
   |false=>walk_at "v";exact⟨_,_,_,rfl,l,ž⟩
def K6(k:List Int)(f:List aJ)(O:k.length<=500)(G:f.length=5):∃h b,tw [.lst (k.map D.int),.lst (f.map D.str)]=Y h/\SG h b/\h.length<=k.length:=by
 unfold tw Cm;walk_at "v";have B:([af "x",af "",af "y x",af "\"",af "[a]"]:List aJ).length=5:=rfl;have K:[D.str (af "x"),D.str (af ""),D.str (af "y x"),D.str (af "\""),D.str (af "[a]")]=([af "x",af "",af "y x",af "\"",af "[a]"]:List aJ).map D.str:=rfl;rw[K];generalize ([af "x",af "",af "y x",af "\"",af "[a]"]:List aJ)=l at B;obtain⟨H,L,⟨h,b,a,z,y,w,q,rfl,v,s,_⟩⟩:=sE (τ:=Cr 6 7) (g:=wK) (ds:=xk (k.map D.int)) (λi C=>∃(h:List D) (b a:Int) (z y w q:Option D),C=[Y (.lst (k.map D.int)),Y (.lst (f.map D.str)),Y (.lst (l.map D.str)),Y (.lst h),Y (.int b),Y (.int a),z,y,w,q]/\SG h b/\h.length<=i/\(0<=a/\a<3))
  (ρ:=[Y (.lst (k.map D.int)),Y (.lst (f.map D.str)),Y (.lst (l.map D.str)),Y (.lst []),Y (.int 0),Y (.int 0),M,M,M,M]) ⟨[],0,0,M,M,M,M,rfl,SG.nil,aQ _,ſ,ſ⟩ (by
  rintro j d C I ⟨h,b,a,z,y,w,q,rfl,v,s,r⟩;obtain⟨x,A,rfl⟩:=wD I;obtain⟨c,J,rfl⟩:=zi A;have N:j<k.length:=(aq.mp J).1;have F:=cf (c/7) (show (3:Int)≠0 by decide);have E:=bR (c/7) (show (0:Int)<3 by decide);by_cases u:((j:Int)==0)=Z'
  ·obtain⟨n,g,m,e,o,p⟩:=AL (a0 :=.lst (k.map D.int)) (nms:=f) (txs:=l) (lean:=c/7%3) (j:=(j:Int)) (c:=c) (v9:=q) G B v s ž ⟨F,E⟩ ž;refine⟨_,_,rfl,?_,⟨n,g,c/7%3,Y (.int j),Y (.int c),Y (.int c),m,rfl,o,p,F,E⟩⟩;rw[zL];walk_at "v";rw[u];walk_at "v";rw[sG ⟨by decide,by decide⟩];walk_at "v";rw[l_ (by decide)];walk_at "v";exact e
  ·have t:((j:Int)==0)=false:=by simpa using u
   obtain⟨n,g,m,e,o,p⟩:=AL (a0 :=.lst (k.map D.int)) (nms:=f) (txs:=l) (lean:=a) (j:=(j:Int)) (c:=c) (v9:=q) G B v s ž r ž;refine⟨_,_,rfl,?_,⟨n,g,a,Y (.int j),Y (.int c),Y (.int c),m,rfl,o,p,r⟩⟩;rw[zL];walk_at "v";rw[t];walk_at "v";exact e)
 rw[L];walk_at "v";rw[wC,aw]at s;exact⟨h,b,rfl,v,s⟩
def JC(a:List Int)(n:Nat):nB (a.map D.int) n=true:=by
 induction a with|nil=>rfl|cons x a ih=>simp only[bh,nB,jA,ih,NK]
def S5(a:List Int):fc (.lst (a.map D.int)) (.lst [])=Y (.bl a.isEmpty):=by
 simp only[fc];rw[if_pos (by rw[PR (JC a 179)];rfl)];cases a<;>rfl
noncomputable def uo(a:List Int):Int:=a.getLastD 0
def FJ(a:List Int):xm [.lst (a.map D.int)]=Y (.int (uo a),a.dropLast.map D.int):=by
 unfold xm Mt Ak;have t:dA (e2 fc (eV 0) (eF (gE aN))) [Y (.lst (a.map D.int))]=Y a.isEmpty:=by walk_at "v";rw[S5];walk_at "v"
 rw[if_pos (show [D.lst (a.map D.int)].length=1 from rfl)];show (be _ _ [Y (.lst (a.map D.int))]).bind (OT 0)=_;rcases List.eq_nil_or_concat a with rfl|⟨b,x,rfl⟩
 ·have e:d7 (dA (e2 fc Fa Tl)) (dM (mP t3)) cO [Y (.lst (([]:List Int).map D.int))]=Y (.rm (.int 0) [Y (.lst [])]):=by rw[Vg t];rfl
  simp only[be,e,ae];rfl
 ·have e:d7 (dA (e2 fc Fa Tl)) (dM (mP t3)) cO [Y (.lst ((b.concat x).map D.int))]=Y (.nx [Y (.lst ((b.concat x).map D.int))]):=by rw[Vh (by rw[t];simp)];rfl
  rw[Ou e];simp only[dM,O6];walk_at "v";simp[OT,iW,eV,uo]
theorem Mc{ρ:cA}{τ:EO}{fe:DM}{i0:Nat}{Pr:D->Prop}:∀ {ds:List D}(e:List Int),(∀d∈ds,∀e:List Int,∃(c:cA) (x:D) (b:cA) (a:List Int),τ d (ρ.set i0 (Y (.lst (e.map D.int))))=Y c/\fe c=Y (x,b)/\iW i0 b=Y (a.map D.int)/\Pr x)->∃f a,O' ρ τ fe i0 ds (e.map D.int)=Y (f,Ke D.int a)/\f.length=ds.length/\∀x∈f,Pr x
 |[],e,_=>⟨[],e,rfl,rfl,λx h=>by cases h⟩
 | d::ds,e,h=>by
  obtain⟨c,x,b,g,q,p,o,j⟩:=h d az e;obtain⟨f,a,n,l,k⟩:=Mc (ds:=ds) g λd m=>h d (ay _ m)
  refine⟨x::f,a,?_,by simp[l],λy i =>?_⟩
  ·simp only[O',q,ae,p,o,n,bP]
  ·rcases aW.mp i with rfl|i
   ·exact j
   ·exact k y i
noncomputable abbrev qA(xs:List Int)(a:List aJ)(b:Int):List D:=[.lst (xs.map D.int),.int b,.lst (a.map D.str)]
def AI(Fw Fs:List D->Option (D×List D))(n:Nat)(dp:Int)(hdp:dp=n)(nms:List aJ)
  (hs:∀m,n=m+1->∀xs:List Int,∃(mE:List (aJ×aJ×D)) (xs':List Int),Fs (qA xs nms (dp-1))=Y (.lst (mE.map cH),xs'.map D.int)/\1<=mE.length/\mE.length<=3/\∀p∈mE,gU (m+1) p.2.2)
  (hw:∀m,n=m+1->∀xs:List Int,∃(w:D) (xs':List Int),Fw (qA xs nms (dp-1))=Y (w,xs'.map D.int)/\gU (m+1) w)
  (xs:List Int):∃(w:D) (xs':List Int),Ak 3 5 0 (Ck Fw Fs) (qA xs nms dp)=Y (w,xs'.map D.int)/\gU (n+1) w:=by
 have q0:=cf (uo xs) (show (8:Int)≠0 by decide);have q1:=bR (uo xs) (show (0:Int)<8 by decide);have e8:fD (.int (uo xs)) (.int 8)=Y (.int (uo xs%8)):=l_ ſ;have f8:iU (.int (uo xs)) (.int 8)=Y (.int (uo xs/8)):=sG ⟨ſ,ſ⟩;have Mn:=FJ xs;generalize uo xs=num at *
 generalize num%8=kd at *
 generalize num/8=nd at *
 unfold Ck;walk_at "v";rw[Mn];walk_at "v";rw[e8];walk_at "v";by_cases k1:kd<2\/(dp=0/\2<kd)
 ·have:(if decide (kd<2)=Z' then Y Z' else if (dp==0)=Z' then Y (decide (2<kd)) else Y Z_)=Y true:=by
   by_cases a:kd<2
   ·rw[decide_eq_true a];rfl
   ·rw[decide_eq_false a];rcases k1 with z|⟨z,z'⟩
    ·exact absurd z a
    ·rw[z,decide_eq_true z'];rfl
  rw[this];walk_at "v";exact⟨_,xs.dropLast,rfl,.inl rfl⟩
 ·have:(if decide (kd<2)=Z' then Y Z' else if (dp==0)=Z' then Y (decide (2<kd)) else Y Z_)=Y false:=by
   have a:¬kd<2:=λz=>k1 (.inl z)
   rw[decide_eq_false a];by_cases b:dp=0
   ·have c:¬2<kd:=λz=>k1 (.inr ⟨b,z⟩)
    rw[decide_eq_false c,b];rfl
   ·rw[show (dp==0)=Z_ by simp[b]];rfl
  rw[this];walk_at "v";by_cases k2:kd=2
  ·rw[show (kd==2)=Z' by simp[k2]];walk_at "v";rw[f8];walk_at "v";rw[l_ (by decide)];walk_at "v";have r0:=cf nd (show (5:Int)≠0 by decide);have r1:=bR nd (show (0:Int)<5 by decide);obtain⟨tx,et,_⟩:=yl (xs:=[af "x",af "",af "y x",af "\"",af "[a]"]) (z:=nd%5) r0 r1;rw[show oU [D.str (af "x"),D.str (af ""),D.str (af "y x"),D.str (af "\""),D.str (af "[a]")] (nd%5)=Y (.str tx) from et];walk_at "v";exact⟨_,xs.dropLast,rfl,.inr (.inl ⟨tx,rfl⟩)⟩
  ·rw[show (kd==2)=Z_ by simp[k2]];walk_at "v";obtain⟨m,hm⟩:∃m,n=m+1:=by
    cases n with
    |zero=>exact absurd (.inr ⟨by rw[hdp];rfl,by have:=λz=>k1 (.inl z);omega⟩) k1
    |succ m=>exact⟨m,rfl⟩
   subst hm;by_cases k5:kd<5
   ·rw[decide_eq_true k5];walk_at "v";obtain⟨mE,xs',es,l0,l1,VV⟩:=hs m rfl xs.dropLast;simp only[qA]at es;rw[es];walk_at "v";exact⟨_,xs',rfl,.inr (.inr (.inl ⟨mE,rfl,by intro h;rw[h]at l0;simp at l0,l1,VV⟩))⟩
   ·rw[decide_eq_false k5];walk_at "v";by_cases k6:kd=5
    ·rw[show (kd==5)=Z' by simp[k6]];walk_at "v";exact⟨_,xs.dropLast,rfl,.inr (.inr (.inl ⟨[(af "own",af "*",.tup [kS "any"])],rfl,Ž,Ž,λp hp=>by rw[cw.mp hp];exact .inl rfl⟩))⟩
    ·rw[show (kd==5)=Z_ by simp[k6]];walk_at "v";obtain⟨kn,ek,hk⟩:∃kn:aJ,oU [D.str (af "both"),D.str (af "one")] (kd-6)=Y (.str kn)/\(kn=af "both" \/kn=af "one"):=by
      have:kd=6\/kd=7:=by have:=λz=>k1 (.inl z);omega
      rcases this with rfl|rfl
      ·exact⟨_,rfl,.inl rfl⟩
      ·exact⟨_,rfl,.inr rfl⟩
     rw[ek];walk_at "v";rw[f8];walk_at "v";rw[l_ (by decide)];walk_at "v";have r0:=cf nd (show (4:Int)≠0 by decide);have r1:=bR nd (show (0:Int)<4 by decide);generalize nd%4=mn at *
     have YL : -(2 ^ 62)<=mn/\mn<2 ^ 62:=⟨Qp ſ r0,vH r1 ſ⟩;rw[if_pos YL];walk_at "v";have hz:(nh 0 mn.toNat).length<=eC:=by rw[p_,kj];omega
     rw[if_pos hz];obtain⟨ws,xs',el,hl,hws⟩:=Mc (ρ:=[M,Y (.lst (xs.dropLast.map D.int)),Y (.lst (nms.map D.str)),Y (.int dp)]) (τ:=gN 0) (fe:=rj Fw 1 (aC (e2 lZ (eV 3) (eK (.int 1))) (aC (eV 2) aN))) (i0:=1) (Pr:=gU (m+1)) (ds:=nh 0 mn.toNat) xs.dropLast λd _ ys=>by obtain⟨w,ZU,ew,YF⟩:=hw m rfl ys;simp only[qA]at ew;refine⟨_,w,[Y d,Y (.lst (ZU.map D.int)),Y (.lst (nms.map D.str)),Y (.int dp)],ZU,rfl,?_,rfl,YF⟩;walk_at "v";rw[ew];walk_at "v"
     rw[el];walk_at "v";rw[p_]at hl;refine⟨_,xs',rfl,?_⟩;rcases hk with rfl|rfl
     ·exact .inr (.inr (.inr (.inl ⟨ws,rfl,ž,hws⟩)))
     ·exact .inr (.inr (.inr (.inr ⟨ws,rfl,ž,hws⟩)))
def Fq(Fw Fs:List D->Option (D×List D))(n:Nat)(dp:Int)(nms:List aJ)(hn:nms.length=5)
  (hw:∀xs:List Int,∃(w:D) (xs':List Int),Fw (qA xs nms dp)=Y (w,xs'.map D.int)/\gU (n+1) w)
  (xs:List Int):∃(mE:List (aJ×aJ×D)) (xs':List Int),Ak 3 7 0 (ya Fw Fs) (qA xs nms dp)=Y (.lst (mE.map cH),xs'.map D.int)/\1<=mE.length/\mE.length<=3/\∀p∈mE,gU (n+1) p.2.2:=by
 have r0:=cf (uo xs) (show (3:Int)≠0 by decide);have r1:=bR (uo xs) (show (0:Int)<3 by decide);have e4:fD (.int (uo xs)) (.int 3)=Y (.int (uo xs%3)):=l_ ſ;have Mn:=FJ xs;generalize uo xs=num at *
 generalize num%3=md at *
 have YL : -(2 ^ 62)<=1+md/\1+md<2 ^ 62:=⟨Qp ſ (show (0:Int)<=1+md by omega),AB (show 1+md<=3 by omega) ſ⟩;unfold ya;walk_at "v";rw[Mn];walk_at "v";rw[e4];walk_at "v";rw[if_pos YL];walk_at "v";obtain⟨ρ',ef,ys,mE,v4,v5,v6,rfl,hl,VV⟩:=sE (τ:=gN 4) (g:=wJ Fw Fs) (ds:=nh 0 (1+md).toNat) (λi ρ=>∃(ys:List Int) (mE:List (aJ×aJ×D)) (v4 v5 v6:Option D),ρ=[Y (.lst (ys.map D.int)),Y (.int dp),Y (.lst (nms.map D.str)),Y (.lst (mE.map cH)),v4,v5,v6]/\mE.length=i/\∀p∈mE,gU (n+1) p.2.2)
  (ρ:=[Y (.lst (xs.dropLast.map D.int)),Y (.int dp),Y (.lst (nms.map D.str)),Y (.lst []),M,M,M]) ⟨xs.dropLast,[],M,M,M,rfl,rfl,λs h=>(by cases h)⟩ (by
  rintro j d ρ hd ⟨ys,mE,v4,v5,v6,rfl,hl,VV⟩;have hj:j<(1+md).toNat:=by have:=(aq.mp hd).1;rw[p_]at this;exact this
  have Mn:=FJ ys;generalize uo ys=num at *
  obtain⟨w,zs,ew,YF⟩:=hw ys.dropLast;simp only[qA]at ew;have t0:=cf (num/2) (show (7:Int)≠0 by decide);have t1:=bR (num/2) (show (0:Int)<7 by decide);obtain⟨nm,en,_⟩:=yl (xs:=nms.take 4++[af "*",af "*",af "*"]) (z:=num/2%7) t0 (by simp[hn];omega);rw[cp]at en;obtain⟨wy,ey⟩:∃wy:aJ,oU [D.str (af "own"),D.str (af "inner")] (num%2)=Y (.str wy):=by
   have:num%2=0\/num%2=1:=by omega
   rcases this with z|z
   ·rw[z];exact⟨_,rfl⟩
   ·rw[z];exact⟨_,rfl⟩
  refine⟨_,[Y (.lst (zs.map D.int)),Y (.int dp),Y (.lst (nms.map D.str)),Y (.lst ((mE++[(wy,nm,w)]).map cH)),Y d,Y (.int num),Y (.str nm)],rfl,?_,zs,mE++[(wy,nm,w)],Y d,Y (.int num),Y (.str nm),rfl,by simp[hl],λs hs =>?_⟩
  ·unfold wJ;walk_at "v";rw[Mn];walk_at "v";rw[sG ⟨by decide,by decide⟩];walk_at "v";rw[Gy _ (by decide),<- tT];have Y4:d9 (.lst ((nms.take (4:Int).toNat).map D.str)) (.lst [.str (af "*"),.str (af "*"),.str (af "*")])=Y (.lst ((nms.take 4).map D.str++[.str (af "*"),.str (af "*"),.str (af "*")])):=by simp only[d9];rw[if_pos (by simp[kj];omega)];rfl
   rw[Y4];walk_at "v";rw[l_ (by decide)];walk_at "v";rw[show oU ((nms.take 4).map D.str++[D.str (af "*"),D.str (af "*"),D.str (af "*")]) (num/2%7)=Y (.str nm) from en];walk_at "v";rw[l_ (by decide)];walk_at "v";rw[ey];walk_at "v";rw[ew];walk_at "v";rw[if_pos (by rw[kj,aw];omega),cp];rfl
  ·rcases bu.mp hs with hs|hs
   ·exact VV s hs
   ·rw[cw.mp hs];exact YF)
 rw[ef];walk_at "v";rw[p_]at hl;exact⟨mE,ys,rfl,ž,ž,VV⟩
end K21
namespace K21
open PySem L2
noncomputable def Cd:rM->Bool|.op _=>Z'|_=>Z_
noncomputable def Cf:rM->Bool|.cl=>Z'|_=>Z_
theorem Ct{ρ:cA}(h:∀g:rM,dA (e2 fc wf (eK (.str k))) [Y (de g)]=Y (p g)):∀a:List rM,Ap [M] (gN 0) (dA (e2 fc wf (eK (.str k)))) Fa (a.map de)=Y ((a.filter p).map de)
 |[]=>rfl| g::a=>by
  rw[bh,Ap];have c:gN 0 (de g) [M]=Y [Y (de g)]:=rfl;have b:eV 0 [Y (de g)]=Y (de g):=rfl;rw[c];simp only[ae,h g,b,Ct (ρ:=ρ) h a];cases e:p g with
  |true=>simp[tI,e]|false=>simp[tI,e]
theorem tp:∀(a:List rM) (d:Nat) (b:Bool) (f:Nat) (i:Bool),pZ a (d,b)=Y (f,i)->(d:Int)+(a.filter Cd).length-(a.filter Cf).length=f
 |[],d,b,f,i,h=>by cases h;simp
 | g::a,d,b,f,i,h=>by
  rw[pZ]at h;cases g with
  |op n=>
   by_cases c:0<d\/b=Z_
   ·have e:fU (d,b) (.op n)=Y (d+1,Z'):=by show (if _ then _ else _)=_;rw[if_pos c]
    rw[e]at h;have:=tp a (d+1) Z' f i h;simp only[tI,Cd,Cf,aU];omega
   ·have e:fU (d,b) (.op n)=none:=by show (if _ then _ else _)=_;rw[if_neg c]
    rw[e]at h;cases h
  |tx n=>
   by_cases c:0<d
   ·have e:fU (d,b) (.tx n)=Y (d,b):=by show (if _ then _ else _)=_;rw[if_pos c]
    rw[e]at h;have:=tp a d b f i h;simpa only [tI,Cd,Cf] using this
   ·have e:fU (d,b) (.tx n)=none:=by show (if _ then _ else _)=_;rw[if_neg c]
    rw[e]at h;cases h
  |cl=>
   by_cases c:0<d
   ·have e:fU (d,b) .cl=Y (d-1,b):=by show (if _ then _ else _)=_;rw[if_pos c]
    rw[e]at h;have:=tp a (d-1) b f i h;simp only[tI,Cd,Cf,aU];omega
   ·have e:fU (d,b) .cl=none:=by show (if _ then _ else _)=_;rw[if_neg c]
    rw[e]at h;cases h
def M4(n:a.length<=1000)(h:pZ a (0,Z_)=Y (d,b)):pk [.lst (a.map de)]=Y (.int (d:Nat)):=by
 show (ye [Y (.lst (a.map de))]).bind mQ=_;have e:∀g:rM,dA (e2 fc wf ce) [Y (de g)]=Y (Cd g):=λg=>by cases g<;>kernel_rfl
 have i:∀g:rM,dA (e2 fc wf lc) [Y (de g)]=Y (Cf g):=λg=>by cases g<;>kernel_rfl
 have m:oG sB [M] (gN 0) (dA (e2 fc wf ce)) Fa [Y (.lst (a.map de))]=Y ((a.filter Cd).map de):=by unfold oG;show (if (a.map de).length<=eC then Ap [M] (gN 0) _ Fa (a.map de) else M)=_;rw[if_pos (fT (iG (by rw[aw];omega)))];exact Ct (ρ:=[]) e a
 have l:oG sB [M] (gN 0) (dA (e2 fc wf lc)) Fa [Y (.lst (a.map de))]=Y ((a.filter Cf).map de):=by unfold oG;show (if (a.map de).length<=eC then Ap [M] (gN 0) _ Fa (a.map de) else M)=_;rw[if_pos (fT (iG (by rw[aw];omega)))];exact Ct (ρ:=[]) i a
 have k:bg jc À [Y (.lst (a.map de))]=Y (.int ((a.filter Cd).length:Nat)):=by rw[uH m];show Y (D.int (((a.filter Cd).map de).length:Nat))=_;rw[aw]
 have j:bg jc TW [Y (.lst (a.map de))]=Y (.int ((a.filter Cf).length:Nat)):=by rw[uH l];show Y (D.int (((a.filter Cf).map de).length:Nat))=_;rw[aw]
 unfold ye dH;rw[show ∀(f g:DF) c,L2.e2 lZ f g c=(f c).bind λx=>(g c).bind λy=>lZ x y from λ_ _ _=>rfl,k,j];have:=tp a 0 Z_ d b h;show Y (D.int (((a.filter Cd).length:Nat)-((a.filter Cf).length:Nat):Int))=_
 congr 2
 omega
theorem Af(c:List aJ)(q:c.length=5):∀(n:Nat),
  (∀(a:Nat) (e:List Int),2*n+1<=a->∃(w:D) (b:List Int),gV a (qA e c (n:Int))=Y (w,b.map D.int)/\gU (n+1) w) /\
  (∀(a:Nat) (e:List Int),2*n+2<=a->∃(d:List (aJ×aJ×D)) (b:List Int),gW a (qA e c (n:Int))=Y (.lst (d.map cH),b.map D.int)/\1<=d.length/\d.length<=3/\∀p∈d,gU (n+1) p.2.2):=by
 intro n;have i:∀(k:Nat),(∀(a:Nat) (e:List Int),2*k+1<=a->∃(w:D) (b:List Int),gV a (qA e c (k:Int))=Y (w,b.map D.int)/\gU (k+1) w)->(∀(a:Nat) (e:List Int),2*k+2<=a->∃(d:List (aJ×aJ×D)) (b:List Int),gW a (qA e c (k:Int))=Y (.lst (d.map cH),b.map D.int)/\1<=d.length/\d.length<=3/\∀p∈d,gU (k+1) p.2.2):=by
  intro k r a e l;cases a with
  |zero=>omega|succ f=>rw[gW];exact Fq (gV f) (gW f) k (k:Int) c q (λg=>r f g ž) e
 induction n with
 |zero=>
  have j:∀(a:Nat) (e:List Int),2*0+1<=a->∃(w:D) (b:List Int),gV a (qA e c ((0:Nat):Int))=Y (w,b.map D.int)/\gU (0+1) w:=by
   intro a e l;cases a with
   |zero=>omega|succ f=>rw[gV];exact AI (gV f) (gW f) 0 _ rfl c (λm h=>by cases h) (λm h=>by cases h) e
  exact⟨j,i 0 j⟩
 |succ m ih=>
  have j:∀(a:Nat) (e:List Int),2*(m+1)+1<=a->∃(w:D) (b:List Int),gV a (qA e c ((m+1:Nat):Int))=Y (w,b.map D.int)/\gU (m+1+1) w:=by
   intro a e l;cases a with
   |zero=>omega|succ f=>
    rw[gV];have o:((m+1:Nat):Int)-1=(m:Int):=by omega
    refine AI (gV f) (gW f) (m+1) _ rfl c (λk h =>?_) (λk h =>?_) e
    ·cases h;rw[o];exact λg=>ih.2 f g ž
    ·cases h;rw[o];exact λg=>ih.1 f g ž
  exact⟨j,i (m+1) j⟩
structure Qa(fit:Int->Int->Int)(r:jI):Prop where
 sm:Sm 63 r.fits
 ft:Le r.fits (fit r.named r.atoms)
structure Lax(inner:Int)(pr r:jI):Prop where
 re:Le r.bw (Dd inner pr.bw pr.ra r.fits)
 ra:Le r.ra (bO pr.ra r.bw)
structure KR(fit:Int->Int->Int)(inner:Int)(rows:List jI):Prop where
 rl:∀(i:Nat) (r:jI),rows[i+1]?=some r->Qa fit r
 ch:∀(i:Nat) (p r:jI),rows[i]?=some p->rows[i+1]?=some r->Lax inner p r
structure Kp(fit:Int->Int->Int)(inner:Int)(rows Lf:List jI):Prop where
 nu:Lf.map (·.number)=rows.map (·.number)
 re:Lf.map (·.bw)=rows.map (·.bw)
 kr:KR fit inner rows->KR fit inner Lf
section
variable {f:EL}{v:Int}
def Kp.trans(h:Kp n a o A)(g:Kp n a A G):Kp n a o G:=⟨g.nu.trans h.nu,g.re.trans h.re,λz=>g.kr (h.kr z)⟩
def Kp.set{i:Nat}{r r':jI}(h:o[i]?=Y r)(k:r'.number=r.number)(d:r'.bw=r.bw)(f:r'.ra=r.ra)(g:Qa n r->Qa n r'/\Le r.fits r'.fits):Kp n a o (o.set i r'):=by
 refine⟨?_,?_,λK=>⟨λj s e =>?_,λj p s b c =>?_⟩⟩
 ·rw[vG,k];exact gf (by rw[aY,h];rfl)
 ·rw[vG,d];exact gf (by rw[aY,h];rfl)
 ·by_cases z:i=j+1
  ·subst z;rw[a_ (aq.mp h).1]at e;cases e;exact(g (K.rl j r h)).1
  ·rw[ai z]at e;exact K.rl j s e
 ·by_cases z:i=j+1
  ·subst z;rw[a_ (aq.mp h).1]at c;cases c;rw[ai (by omega)]at b;have L:=K.ch j p r b h;refine⟨?_,by rw[d,f];exact L.ra⟩;rw[d];exact λi e=>QR (λ_ h=>h) (λ_ h=>h) (g (K.rl j r h)).2 i (L.re i e)
  ·rw[ai z]at c;by_cases y:i=j
   ·subst y;rw[a_ (aq.mp h).1]at b;cases b;have L:=K.ch i r s h c;exact⟨by rw[d,f];exact L.re,by rw[f];exact L.ra⟩
   ·rw[ai y]at b;exact K.ch j p s b c
def Kp.atoms(W:FW f v n B C E){i:Nat}{r:jI}(h:o[i]?=Y r)(x:Int):Kp n a o (o.set i { r with atoms:=bO r.atoms x }):=
 .set h rfl rfl rfl λL=>⟨⟨L.sm,λi e=>W.mono _ _ _ (L_ _ _) i (L.ft i e)⟩,λ_ h=>h⟩
theorem FC(W:FW f v n B C E):∀(p:Nat) (b:Bool) (o:List jI),Kp n a o (Dv n B b p o)
 |0,b,o=>by cases b<;>exact⟨rfl,rfl,id⟩
 |p+1,Z_,o=>⟨rfl,rfl,id⟩| p+1,Z',o=>by
  unfold Dv;split
  ·rename_i r c e d;refine .trans (.trans (.set (r':={ r with fits:=n r.named r.atoms }) e rfl rfl rfl λL=>⟨⟨W.sm _ _,λ_ h=>h⟩,L.ft⟩) (.atoms W (r:=c) (i:=p) ?_ _)) (FC W p _ _);rw[ai (by omega)];exact d
  ·exact⟨rfl,rfl,id⟩
theorem DY{b:Type}(p:b->Bool):∀l:List b,(l.filter p).length+(l.filter λx=> !p x).length=l.length
 |[]=>rfl|x::l=>by have:=DY p l;rw[EW,EW];cases p x<;>simp<;>omega
def A8(k:Nat)(b:List Int):Nat:=(b.filter λx=> !tz x k).length
def oz(x:Int)(b:List Int):A8 k (x::b)=(if tz x k then 0 else 1)+A8 k b:=by
 unfold A8;rw[EW];cases tz x k
 ·simp;omega
 ·simp
theorem K7:∀(b:List jI) (p q:jI),Le p.bw q.bw->Le p.ra q.ra->KR n a (p::b) ->
  WB a q b/\KR n a (q::lP a q b)/\(lP a q b).map (·.number)=b.map (·.number)/\(vf a (2 ^ k) q b).length+A8 k ((lP a q b).map (·.bw))<=A8 k (b.map (·.bw))
 |[],p,q,j,f,K=>⟨trivial,⟨λi r e=>(by simp[lP]at e),λi p r _ e=>(by simp[lP]at e)⟩,rfl,aQ _⟩
 | r::b,p,q,j,f,K=>by
  have L:=K.ch 0 p r rfl rfl;have R:=K.rl 0 r rfl;have g:Le r.bw (pA a q r).bw:=λi e=>QR j f (λ_ h=>h) i (L.re i e)
  have x:Le r.ra (pA a q r).ra:=λi e=>L' f g i (L.ra i e)
  obtain⟨z,l,y,D⟩:=K7 b r (pA a q r) g x ⟨λi s e=>K.rl (i+1) s e,λi s t d c=>K.ch (i+1) s t d c⟩;have s:=(FE (x:=bO q.bw (bA q.ra a)) R.sm);refine⟨⟨by have:=s.1;have:=s.2;omega,z⟩,⟨λi t e =>?_,λi t u d c =>?_⟩,?_,?_⟩
  ·cases i with|zero=>cases e;exact⟨R.sm,R.ft⟩|succ i=>exact l.rl i t e
  ·cases i with
   |zero=>cases d;cases c;exact⟨λ_ h=>h,λ_ h=>h⟩
   |succ i=>exact l.ch i t u d c
  ·show r.number::_=r.number::_;rw[y]
  ·show ((if Cs a (2 ^ k) q r then [r.number] else [])++vf a (2 ^ k) (pA a q r) b).length+A8 k ((pA a q r).bw::_)<=A8 k (r.bw::_);rw[oz,oz,aS];have e:Cs a (2 ^ k) q r=(tz (pA a q r).bw k && !tz r.bw k):=by show (bA (bA (pA a q r).bw (bN r.bw)) (2 ^ k) != 0)=_;rw[KE,vU,yw]
   rw[e];have m:=g k;cases h:tz r.bw k with
   |true=>rw[m h];simp;omega|false=>cases tz (pA a q r).bw k<;>simp<;>omega
structure SI(f:EL)(qo:Int)(fit:Int->Int->Int)(c:jL)(nl d:Nat)(b:Bool):Prop where
 ff:c.f=f
 fa:c.qo=qo
 fu:c.full=2 ^ f.q.length
 len:c.rows.length=d+1
 kr:KR fit f.inner c.rows
 pl:∀y∈c.rests,TL c.rows y
 nd:(c.rests.map (·.num)++c.rows.map (·.number)).Nodup
 lt:∀x∈c.rests.map (·.num)++c.rows.map (·.number),x<c.opened
 Us:((nl+c.rests.length+A8 f.q.length (c.rows.map (·.bw)):Nat):Int)<=c.opened+1
 cnt:((c.rests.length+c.rows.length:Nat):Int)<=c.opened+1
 tk:c.opened<=c.taken
 op:b=decide (0<c.opened)
def SI.keep(I:SI f v n c w d b)(K:Kp n f.inner c.rows o):SI f v n { c with rows:=o } w d b:=by
 have g:o.length=c.rows.length:=by have:=congrArg Uc K.nu;simpa using this
 have h:=I.nd;have i:=I.lt;have e:=I.Us;have j:=I.tk;rw[<- K.nu]at h i;rw[<- K.re]at e;exact⟨I.ff,I.fa,I.fu,g.trans I.len,K.kr I.kr,λy k=>by have:=I.pl y k;unfold TL at this ⊢;rw[g];exact this,h,i,e,by show ((_+o.length:Nat):Int)<=_;rw[g];exact I.cnt,j,I.op⟩
def SI.ZZ(I:SI f v n c w d b):SI f v n (mD c) w d b:=⟨I.ff,I.fa,I.fu,I.len,I.kr,I.pl,I.nd,I.lt,I.Us,I.cnt,by have:=I.tk;show c.opened<=c.taken+1;omega,I.op⟩
def SI.US(I:SI f v n c w d b)(K:c.opened<=60):∃(q:List Int) (j:jL),dI [bK c]=Y (.lst (q.map D.int),bK j)/\SI f v n j (w+q.length) d b/\j.taken=c.taken/\j.opened=c.opened:=by
 obtain⟨t,g,e⟩:∃t g,c.rows=t::g:=by
  cases h:c.rows with
  |nil=>have:=I.len;rw[h]at this;cases this
  |cons t g=>exact⟨t,g,rfl⟩
 obtain⟨J,H,p,N⟩:=K7 (k:=f.q.length) g t t (λ_ h=>h) (λ_ h=>h) (e ▸ I.kr);have m:=I.cnt;have l:=I.Us;have a:(vf f.inner (2 ^ f.q.length) t g).length<=g.length:=by have:A8 f.q.length (g.map (·.bw))<=g.length:=bQ (Q5 _ _) Ž;omega
 rw[e]at m l;rw[bh,oz]at l;rw[aU]at m;have L:(c.rests.filter (mv (t::lP f.inner t g))).length+(c.rests.filter λr=> !mv (t::lP f.inner t g) r).length=c.rests.length:=DY _ _;have s:=An (c:=c) e (by rw[I.ff];exact J) I.pl (by rw[I.ff,I.fu,aS,aw];omega) ž ž;rw[I.ff,I.fu]at s;have k:(t::lP f.inner t g).length=c.rows.length:=by have:=congrArg Uc p;rw[aw,aw]at this;rw[e,aU,aU,this]
 have F:(t::lP f.inner t g).map (·.number)=c.rows.map (·.number):=by rw[e,bh,bh,p]
 have i:((c.rests.filter λr=> !mv (t::lP f.inner t g) r).map (·.num)++(t::lP f.inner t g).map (·.number)).Sublist (c.rests.map (·.num)++c.rows.map (·.number)):=by rw[F];exact((UQ).map _).append (ku _)
 refine⟨_,_,s,⟨I.ff,I.fa,I.fu,k.trans I.len,H,λy u =>?_,i.nodup I.nd,λx z=>I.lt x (i.subset z),?_,?_,I.tk,I.op⟩,rfl,rfl⟩
 ·have:=I.pl y (iA.mp u).1;show 0<=y.place/\y.place<(t::lP f.inner t g).length;rw[k];exact this
 ·show ((w+_+(c.rests.filter λr=> !mv (t::lP f.inner t g) r).length+A8 f.q.length (t.bw::(lP f.inner t g).map (·.bw)):Nat):Int)<=c.opened+1;rw[oz,(u4 _).length_eq,aS,aw];omega
 ·show (((c.rests.filter λr=> !mv (t::lP f.inner t g) r).length+(t::lP f.inner t g).length:Nat):Int)<=c.opened+1;rw[k,e,aU];omega
end
section
variable {f:EL}{v:aJ->Int}
def HB(h:rows≠[]):∃b r,rows=b++[r]:=⟨rows.dropLast,rows.getLast h,(List.dropLast_concat_getLast h).symm⟩
def Hu(c b:List Int):A8 k (c++b)=A8 k c+A8 k b:=by unfold A8;rw[List.filter_append,aS]
def KR.app{r:jI}(K:KR a t rows)(h:Qa a r)(c:r.bw=0)(b:r.ra=0):KR a t (rows++[r]):=by
 have g:∀(i:Nat) (s:jI),(rows++[r])[i]?=Y s->rows[i]?=Y s\/(i=rows.length/\s=r):=λi s e=>by
  rcases Nat.lt_trichotomy i rows.length with z|z|z
  ·rw[cC z]at e;exact .inl e
  ·subst z;rw[List.getElem?_concat_length]at e;cases e;exact .inr ⟨rfl,rfl⟩
  ·rw[ib (by rw[aS,cK];omega)]at e;cases e
 refine⟨λi s e =>?_,λi p s f d =>?_⟩
 ·rcases g _ s e with z|⟨_,rfl⟩
  ·exact K.rl i s z
  ·exact h
 ·rcases g _ s d with z|⟨z,rfl⟩
  ·rcases g _ p f with y|⟨y,rfl⟩
   ·exact K.ch i p s y z
   ·have:=(aq.mp z).1;omega
  ·exact⟨by rw[c];exact Iw _,by rw[b];exact Iw _⟩
def KR.pop(K:KR a t (rows++[r])):KR a t rows:=by
 have g:∀(i:Nat) (s:jI),rows[i]?=Y s->(rows++[r])[i]?=Y s:=λi s e=>by rw[cC (aq.mp e).1];exact e
 exact⟨λi s e=>K.rl i s (g _ s e),λi p s c b=>K.ch i p s (g _ p c) (g _ s b)⟩
def SI.open(W:FW f o a u v w)(I:SI f o a c j d b)(n:Int)(p:jI):SI f o a (OV a u (mD c) n p) j (d+1) true:=by
 have h:SI f o a { mD c with opened:=c.opened+1,rows:=c.rows++[CK a (mD c) c.opened n 0 p] } j (d+1) true:=by
  have i:=I.Us;have q:=I.cnt;have m:=I.tk;have k:=I.len;have l:(0:Int)<=c.opened:=by omega
  refine⟨I.ff,I.fa,I.fu,?_,I.kr.app ⟨W.sm _ _,λ_ h=>h⟩ rfl rfl,λy g =>?_,?_,λx e =>?_,?_,?_,?_,(decide_eq_true (by show 0<c.opened+1;omega)).symm⟩
  ·show (c.rows++[_]).length=_;rw[aS,k];rfl
  ·have:=I.pl y g;show 0<=y.place/\y.place<((c.rows++[_]).length:Int);rw[aS,cK];unfold TL at this;omega
  ·show (c.rests.map (·.num)++(c.rows++[_]).map jI.number).Nodup;rw[cp,<- bY];refine iR.mpr ⟨I.nd,Ž,λx e y g =>?_⟩;have:=I.lt x e;rw[cw.mp g];show x≠c.opened;omega
  ·have e:x∈c.rests.map (·.num)++(c.rows++[CK a (mD c) c.opened n 0 p]).map (·.number):=e;rw[cp,<- bY]at e;show x<c.opened+1;rcases bu.mp e with z|z
   ·have:=I.lt x z;omega
   ·rw[cw.mp z];show c.opened<c.opened+1;omega
  ·show ((j+c.rests.length+A8 f.q.length ((c.rows++[_]).map jI.bw):Nat):Int)<=c.opened+1+1;rw[cp,Hu];show ((_+(_+A8 _ [0]):Nat):Int)<=_;rw[oz,xQ];have i:((j+c.rests.length+A8 f.q.length (c.rows.map jI.bw):Nat):Int)<=c.opened+1:=i;show ((_+(_+(1+0)):Nat):Int)<=_;omega
  ·show ((c.rests.length+(c.rows++[_]).length:Nat):Int)<=c.opened+1+1;rw[aS,cK];omega
  ·show c.opened+1<=c.taken+1;omega
 exact h.keep (FC W _ _ _)
def R_(c:jL)(p:Nat)(r q:jI)(m:uJ):(B7 c p r q m).num=m.num:=by unfold B7;split<;>rfl
def SI.close(I:SI f o a c j d b)(hd:0<d):∃rs p r,c.rows=rs++[p]++[r]/\((rL (jE c) r).map (·.num)).Nodup/\((rL (jE c) r).length:Int)<=c.opened+1/\SI f o a (Cv (mD c) r p) j (d-1) b:=by
 have hl:=I.len;obtain⟨Z4,r,e⟩:=HB (rows:=c.rows) (λz=>by rw[z]at hl;simp at hl);have SM:Z4.length=d:=by rw[e,aS,cK]at hl;omega
 obtain⟨rs,p,rfl⟩:=HB (rows:=Z4) (λz=>by rw[z]at SM;simp at SM;omega);have ep:(jE c).rows=rs++[p]:=by show c.rows.dropLast=_;rw[e,xO]
 have hp:=I.Us;have hc:=I.cnt;have ht:=I.tk;have hn:=I.nd;have Mo:=I.lt;rw[e,cp]at hn Mo;rw[e,cp,Hu]at hp;have hx:A8 f.q.length ([r].map (·.bw))=if tz r.bw f.q.length then 0 else 1:=oz _ _
 rw[hx]at hp;rw[e,aS,cK]at hc;have ha:∃X:List uJ,rL (jE c) r=c.rests++X/\X.length=(if tz r.bw f.q.length then 0 else 1)/\(∀m∈X,m.num=r.number/\m.place=d)/\(X.map (·.num)).Sublist [r.number]:=by
  unfold rL;rw[show (jE c).full=2 ^ f.q.length from I.fu,KE,ep,SM];refine⟨_,rfl,?_⟩;cases tz r.bw f.q.length
  ·exact⟨rfl,λm hm=>by rw[cw.mp hm];exact⟨rfl,rfl⟩,ku _⟩
  ·exact⟨rfl,λm hm=>by simp at hm,List.nil_sublist _⟩
 obtain⟨X,eX,hX,hX2,hX3⟩:=ha;have n1:(((rL (jE c) r).map (·.num))++(rs++[p]).map (·.number)).Nodup:=by rw[eX,cp,bY];refine List.Perm.nodup (List.Perm.append_left _ Q4) (List.Sublist.nodup ?_ hn);exact(ku _).append ((ku _).append hX3)
 have l1:∀x∈((rL (jE c) r).map (·.num))++(rs++[p]).map (·.number),x<c.opened:=λx hx=>by
  refine Mo x ?_;rw[eX,cp,bY]at hx;rcases bu.mp hx with z|z
  ·exact bj _ z
  ·rcases bu.mp z with z|z
   ·exact aG _ (aG _ (hX3.subset z))
   ·exact aG _ (bj _ z)
 have k1:(rL (jE c) r).length=c.rests.length+if tz r.bw f.q.length then 0 else 1:=by rw[eX,aS,hX]
 generalize hA:rL (jE c) r=A at n1 l1 k1 eX;have pm:((u5 A).map (·.num)).Perm (A.map (·.num)):=(pP A).map _;have er:(Cv (mD c) r p).rests=((u5 A).map (B7 (jE (mD c)) d r p)).filter rp:=by show ((u5 (rL (jE c) r)).map (B7 (jE (mD c)) (jE c).rows.length r p)).filter rp=_;rw[hA,ep,SM]
 have sb:((Cv (mD c) r p).rests.map (·.num)).Sublist ((u5 A).map (·.num)):=by rw[er];have:=(UQ (p:=rp) (l:=(u5 A).map (B7 (jE (mD c)) d r p))).map (·.num);rwa [C5,show ((λx:uJ=>x.num) ∘ B7 (jE (mD c)) d r p)=(·.num) from funext λm=>R_ ..]at this
 have kr:(Cv (mD c) r p).rests.length<=A.length:=by have:=sb.length_le;rwa [aw,aw,(pP A).length_eq]at this
 refine⟨rs,p,r,e,by rw[hA];exact(iR.mp n1).1,?_,I.ff,I.fa,I.fu,?_,?_,λy hy =>?_,?_,λx hx =>?_,?_,?_,?_,I.op⟩
 ·rw[hA,k1];split<;>omega
 ·show (jE c).rows.length=_;rw[ep,SM];omega
 ·show KR a f.inner (jE c).rows;rw[ep];exact KR.pop (e ▸ I.kr)
 ·rw[er]at hy;obtain⟨m,hm,rfl⟩:=nL.mp (iA.mp hy).1;have hm:=(pP A).subset hm;have h2:0<=m.place/\m.place<=d:=by
   rw[eX]at hm;rcases bu.mp hm with z|z
   ·have:=I.pl m z;unfold TL at this;omega
   ·rw[(hX2 m z).2];omega
  show 0<=_/\_<((jE c).rows.length:Int);rw[ep,SM];unfold B7;split
  ·show 0<=m.place-1/\m.place-1<_;omega
  ·omega
 ·show (_++(jE c).rows.map (·.number)).Nodup;rw[ep];exact List.Sublist.nodup (sb.append (ku _)) (List.Perm.nodup (pm.symm.append_right _) n1)
 ·have hx:x∈(Cv (mD c) r p).rests.map (·.num)++(jE c).rows.map (·.number):=hx;rw[ep]at hx;show x<c.opened;exact l1 x ((pm.append_right _).subset ((sb.append (ku _)).subset hx))
 ·show ((j+_+A8 _ ((jE c).rows.map (·.bw)):Nat):Int)<=c.opened+1;rw[ep];omega
 ·show ((_+(jE c).rows.length:Nat):Int)<=c.opened+1;rw[ep,SM];split at k1<;>omega
 ·show c.opened<=c.taken+1;omega
end
variable {f:EL}{m:Nat}
theorem SI.step(W:FW f g a j l k)(I:SI f g a c m d b)(P:c.taken<=45)(s:rM){d':Nat}{b':Bool}(n:fU (d,b) s=Y (d',b')):
  ∃(q:List Int) (o:jL),eD [bK c,de s]=Y (.lst (q.map D.int),bK o)/\SI f g a o (m+q.length) d' b'/\o.taken=c.taken+1:=by
 have N:=I.len;have A:Qb c.f a j:=by rw[I.ff];exact W.ok
 have z:WJ c.f l k:=by rw[I.ff];exact W.st
 have C:=I.tk;have G:=I.cnt;have hw:0<d->decide (1<c.rows.length)=true:=λh=>decide_eq_true ž
 have t:c.rows[c.rows.length-1]?=Y (c.rows[c.rows.length-1]' ž):=ba ž;generalize (c.rows[c.rows.length-1]' ž)=r at t;have E:c.rows.getLast? = Y r:=by rw[Kr];exact t
 cases s with
 |cl=>
  by_cases i:0<d
  ·simp only[fU,if_pos i,gz,Ae]at n;obtain⟨rfl,rfl⟩:=n;obtain⟨L,p,r,e,K,O,H⟩:=I.close i;exact⟨[],_,Gm (hw i) (by rw[e,Ud]) (by show c.rows.dropLast.getLast? = _;rw[e,xO,Ud]) K ž,H,rfl⟩
  ·simp[fU,i]at n
 |tx x=>
  by_cases i:0<d
  ·simp only[fU,if_pos i,gz,Ae]at n;obtain⟨rfl,rfl⟩:=n;have J:SI f g a (CS a j (mD c) (k x) r) m d b:=by
    unfold CS;split
    ·exact I.ZZ.keep (.trans (.atoms W (i:=c.rows.length-1) t _) (FC W _ _ _))
    ·exact I.ZZ
   have y:(CS a j (mD c) (k x) r).opened=c.opened/\(CS a j (mD c) (k x) r).taken=c.taken+1:=by unfold CS;split<;>exact⟨rfl,rfl⟩
   obtain⟨q,o,e,w,u,B⟩:=J.US (by rw[y.1];omega);exact⟨q,o,JJ A z (hw i) t ž e,w,by rw[u,y.2]⟩
  ·simp[fU,i]at n
 |op x=>
  by_cases i:0<d\/b=Z_
  ·simp only[fU,if_pos i,gz,Ae]at n;obtain⟨rfl,rfl⟩:=n;have F:vq c (.op x)=true:=by
    show (decide (1<c.rows.length) || !decide (0<c.opened))=Z';rcases i with h|h
    ·rw[hw h];rfl
    ·rw[<- I.op,h,Kh,Bool.or_true]
   obtain⟨q,o,e,w,u,B⟩:=(I.open W (l x) r).US (by show c.opened+1<=60;omega);have v:=FE (x:=bO r.qh (bA r.ha c.f.inner)) (FE (x:=l x) W.qo);rw[<- I.fa]at v;exact⟨q,o,JK A z F E (by have:=v.1;have:=v.2;omega) ž e,w,u⟩
  ·simp[fU,i]at n
def SI.new:SI f g a ⟨f,2 ^ f.q.length,g,0,0,[yx],[]⟩ 0 0 false:=
 ⟨rfl,rfl,rfl,rfl,⟨λi r e=>(by simp at e),λi p r _ e=>(by simp at e)⟩,λy b=>(by cases b),by show [(-1:Int)].Nodup;decide,λx c=>(by rw[cw.mp c];show (-1:Int)<0;decide),by show ((0+0+A8 _ [1]:Nat):Int)<=0+1;rw[oz];show ((_+(_+0):Nat):Int)<=_;split<;>omega,by show ((0+1:Nat):Int)<=0+1;decide,Ue 0,rfl⟩
end K21
namespace K21
open PySem L2
def QA{F:List D->Option D}{m:aJ}(h:m∉ck):dC "Coming" m F (bD "Sift" "coming" Fa) aN [Y (dE c a)]=F [bK c]:=by
 have:dC "Coming" m F (bD "Sift" "coming" Fa) aN [Y (dE c a)]=if ("Coming" : aJ) = "Coming" /\m∉ck then F [bK c] else none:=rfl
 rw[this,if_pos ⟨rfl,h⟩]
def KU(c:jL)(a:List Int):pq [dE c a]=Y (.lst (a.map D.int)):=by
 show (pb [Y (dE c a)]).bind mQ=_;unfold pb dH eF Em;rw[show bD "Sift" "numbers" Fa [Y (dE c a)]=Y (.lst (a.map D.int)) by kernel_rfl];rfl
def Dr(h:eL [bK c]=Y d):gj [dE c a]=Y d:=by
 show (lx [Y (dE c a)]).bind mQ=_;unfold lx dH;rw[QA (by decide),h];rfl
def K1(c:jL)(a:List Int):lD [dE c a]=Y (.bl (decide (0<c.opened)&&decide (c.rows.length=1))):=by
 show (ly [Y (dE c a)]).bind mQ=_;unfold ly dH;rw[QA (by decide),MF];rfl
def Mz{s:rM}(h:vq c s=Z_):yq [bK c,de s]=Y (.er "NoSign" c.taken):=by
 show (yd [Y (bK c),Y (de s)]).bind A3=_;have b:decide (1<((c.rows.map cq).length:Int))=decide (1<c.rows.length):=by
  rw[aw];by_cases h:1<c.rows.length
  ·rw[decide_eq_true h,decide_eq_true (by omega)]
  ·rw[decide_eq_false h,decide_eq_false (by omega)]
 have a:gM (dQ (bg iO io)) [Y (bK c),Y (de s)]=Y true:=by unfold gM dQ;rw[Bx,b,Na,show P0 s _ _=Z_ from h];rfl
 unfold yd be d7;rw[a];rfl
def KJ{s:rM}(h:vq c s=Z_):tu [dE c a,de s]=Y (.er "NoSign" c.taken):=by
 show (x_ [Y (dE c a),Y (de s),M]).bind A3=_;have:∀F,kv "Coming" "feed" F (bD "Sift" "coming" Fa) pi [Y (dE c a),Y (de s),M]=if ("Coming" : aJ) = "Coming" /\("feed" : aJ)∉ck then F [bK c,de s] else none:=λF=>rfl
 unfold x_ be Hd;rw[this,if_pos ⟨rfl,by decide⟩,Mz h];rfl
theorem Ew(g:b->D)(h:∀a,jA (g a) n=Z'):∀l:List b,nB (l.map g) n=Z'
 |[]=>rfl|a::l=>by rw[bh,nB,h a,Ew g h l];rfl
def Ay(c:jL)(a:List Int):D :=.tup [.lst (a.map D.int),.lst ((vY (vS c)).map D.int),.bl (decide (0<c.opened)&&decide (c.rows.length=1))]
def TH(c:jL)(a:List Int):fc (Ay c a) (Ay c a)=Y (.bl Z'):=by
 have h:jA (Ay c a) 180=true:=by have b:∀l:List Int,nB (l.map D.int) 178=true:=Ew D.int (λ_=>by simp[jA]);simp[Ay,jA,nB,b]
 unfold fc;rw[if_pos (by rw[h];rfl),Eu _ _ h]
def BN{F:List D->Option D}{m:aJ}(h:m∉(["coming", "numbers"]:List aJ))(e:eV 0 b=Y (dE c a)):dC "Sift" m F Fa aN b=F [dE c a]:=by
 have:dC "Sift" m F Fa aN b=(eV 0 b).bind λx=>match x with|.ins f d g=>if f = "Sift" /\m∉d then F [.ins f d g] else M|_=>none:=rfl
 rw[this,e];exact if_pos ⟨rfl,h⟩
structure Km(c:jL):Prop where
 rows:c.rows.length+c.rests.length<=60
def Km.wts(h:Km c):(vS c).length<64:=by
 unfold vS;have:=Q5 (N8 c.full) c.rows;have a:=h.rows;rw[aS,aw,aw];omega
def Km.ev(h:Km c):eL [bK c]=Y (.lst ((vY (vS c)).map D.int)):=KA c (by have:=h.rows;omega) (by have:=h.rows;omega) h.wts
def QU{c:jL}{a:List Int}(h:Km c)(e:eV 0 b=Y (dE c a)):fB b=Y (Ay c a):=by
 unfold fB eW aC;rw[BN (by decide) e,KU];simp only[ae];rw[BN (by decide) e,Dr h.ev];simp only[ae];rw[BN (by decide) e,K1];rfl
def um(h:Km c){s:rM}(b:vq c s=Z_):iq [dE c a,de s,.int c.taken]=Y (.bl Z'):=by
 show (td [Y (dE c a),Y (de s),Y (.int c.taken),M,M,M,M]).bind mQ=_;unfold td;rw[aR (show dF 3 Å [Y (dE c a),Y (de s),Y (.int c.taken),M,M,M,M]=Y (.nx [Y (dE c a),Y (de s),Y (.int c.taken),Y .dg,M,M,M]) from rfl)];rw[aR (show dF 4 Å [Y (dE c a),Y (de s),Y (.int c.taken),Y .dg,M,M,M]=Y (.nx [Y (dE c a),Y (de s),Y (.int c.taken),Y .dg,Y .dg,M,M]) from rfl)];rw[aR (ρ':=[Y (dE c a),Y (de s),Y (.int c.taken),Y .dg,Y .dg,Y (Ay c a),M]) ?e]
 case e=>unfold dF;rw[QU h rfl];rfl
 have d:∀F,kv "Sift" "take" F Fa pi [Y (dE c a),Y (de s),Y (.int c.taken),Y .dg,Y .dg,Y (Ay c a),M]=if ("Sift" : aJ) = "Sift" /\("take" : aJ)∉(["coming", "numbers"]:List aJ) then F [dE c a,de s] else none:=λF=>rfl
 unfold Hc;rw[d,if_pos ⟨rfl,by decide⟩,KJ b];simp only[ae];rw[show eV 2 [Y (dE c a),Y (de s),Y (.int c.taken),Y .dg,Y .dg,Y (Ay c a),M]=Y (.int c.taken) from rfl];simp only;rw[if_pos (by simp)];unfold dH É e2;rw[QU h (c:=c) (a:=a) (show eV 0 (zK c.taken _)=Y (dE c a) from rfl),show eV 5 (zK c.taken [Y (dE c a),Y (de s),Y (.int c.taken),Y .dg,Y .dg,Y (Ay c a),M])=Y (Ay c a) from rfl];simp only[ae,TH];rfl
def Pa(h:c.taken=0):wV [dE c a]=Y (.bl Z'):=by
 have e1:yp [dE c a]=Y (.er "Late" 0):=by
  show (yb [Y (dE c a)]).bind A3=_;unfold yb d7;rw[show dA IR [Y (dE c a)]=Y Z' by unfold dA IR e2;rw[show bD "Coming" "taken" (bD "Sift" "coming" Fa) [Y (dE c a)]=Y (.int c.taken) by kernel_rfl,h];rfl]
  rfl
 have m0:∀(F:List D->Option (Xo D)) (m:aJ) (ρ:cA),eV 0 ρ=Y (dE c a)->m∉(["coming", "numbers"]:List aJ)->kv "Sift" m F Fa aN ρ=F [dE c a]:=λF m ρ e h=>by
  have:kv "Sift" m F Fa aN ρ=(eV 0 ρ).bind λx=>match x with|.ins c' ks ds=>if c' = "Sift" /\m∉ks then F [.ins c' ks ds] else M|_=>none:=rfl
  rw[this,e];exact if_pos ⟨rfl,h⟩
 have e2:sR [dE c a]=Y (.er "Late" 0):=by show (vt [Y (dE c a)]).bind A3=_;unfold vt be BW;rw[m0 _ _ _ rfl (by decide),e1];rfl
 show (Co [Y (dE c a),M,M]).bind mQ=_;unfold Co;rw[aR (show dF 1 Å [Y (dE c a),M,M]=Y (.nx [Y (dE c a),Y .dg,M]) from rfl)];unfold Ur;rw[m0 _ _ _ rfl (by decide),e2];simp only[ae];rw[if_pos (by simp)];rfl
def Pj(x:Int)(l:List Int):∃b,Ab Z_ (.int x) (.lst (l.map D.int))=Y (.bl b)/\Ab Z' (.int x) (.lst (l.map D.int))=Y (.bl (!b)):=by
 have h:(l.map D.int).all yH=true:=by rw[lH];exact dU.mpr λ_ _=>rfl
 have k:∀b,UM b (.int x) (l.map D.int)=Y (.bl (if b then !QO (NO (.int x)) ((l.map D.int).map NO) else QO (NO (.int x)) ((l.map D.int).map NO))):=λb=>by unfold UM;rw[if_pos (by rw[h];rfl)]
 exact⟨_,k Z_,k Z'⟩
def F4(h:Km c)(x:Int):nT [dE c a,.int x]=Y (.bl Z'):=by
 obtain⟨b,b1,b2⟩:=Pj x (vY (vS c));show (tf [Y (dE c a),Y (.int x),M,M]).bind mQ=_;unfold tf;have t1:dA (e2 (Ab Z_) db (dC "Sift" "waiting" gj Fa aN)) [Y (dE c a),Y (.int x),M,M]=Y b:=by unfold dA e2;rw[BN (by decide) rfl,Dr h.ev];show ((Ab Z_ (.int x) (.lst ((vY (vS c)).map D.int))).bind _)=_;rw[b1];rfl
 cases b with
 |true=>unfold be d7;rw[t1];rfl|false=>
  rw[aR (show d7 _ _ _ _=Y (.nx [Y (dE c a),Y (.int x),M,M]) by unfold d7;rw[t1];rfl)];rw[aR (show dF 2 Å [Y (dE c a),Y (.int x),M,M]=Y (.nx [Y (dE c a),Y (.int x),Y .dg,M]) from rfl)];have e2:zU [dE c a,.int x]=Y (.er "NoPart" 0):=by
   show (Cp [Y (dE c a),Y (.int x)]).bind A3=_;have:∀F,dC "Coming" "waits" F (bD "Sift" "coming" Fa) aN [Y (dE c a),Y (.int x)]=if ("Coming" : aJ) = "Coming" /\("waits" : aJ)∉ck then F [bK c] else none:=λF=>rfl
   unfold Cp be d7;rw[show dA (e2 (Ab Z') db (dC "Coming" "waits" eL (bD "Sift" "coming" Fa) aN)) [Y (dE c a),Y (.int x)]=Y Z' by unfold dA e2;rw[this,if_pos ⟨rfl,by decide⟩,h.ev];show ((Ab Z' (.int x) (.lst ((vY (vS c)).map D.int))).bind _)=_;rw[b2];rfl]
   rfl
  have e3:∀F,kv "Sift" "ending" F Fa pi [Y (dE c a),Y (.int x),Y .dg,M]=if ("Sift" : aJ) = "Sift" /\("ending" : aJ)∉(["coming", "numbers"]:List aJ) then F [dE c a,.int x] else none:=λF=>rfl
  unfold Ur;rw[e3,if_pos ⟨rfl,by decide⟩,e2];simp only[ae];rw[if_pos (by simp)];rfl
def Q0(a:List Int):Nat->Int->Prop
 |0,h=>h<0|d+1,h=>0<=h/\∃p,a[h.toNat]?=Y p/\Q0 a d p
theorem Q0.mono:∀ {d:Nat}{h:Int},Q0 a d h->Q0 (a++c) d h
 |0,h,q=>q|d+1,h,⟨b,p,e,q⟩=>⟨b,p,by rw[cC (aq.mp e).1];exact e,Q0.mono q⟩
def L8{s:rM}(q:Q0 a d h)(e:fU (d,b) s=Y (k,l)):∃z,vi (a,h) (de s)=Y z/\Q0 z.1 k z.2:=by
 have i:0<d->0<=h/\h<a.length:=λg=>by
  cases d with
  |zero=>omega|succ d=>obtain⟨c,p,f,_⟩:=q;have:=(aq.mp f).1;omega
 cases s with
 |op x=>
  simp only[fU]at e;split at e<;>cases e
  refine⟨(a++[h],(a.length:Int)),?_,by show (0:Int)<=a.length;omega,h,Ž,q.mono⟩;unfold vi de;simp only;rw[if_pos (by decide +kernel),if_pos λc =>?_];cases d with
  |zero=>have:h<0:=q;omega
  |succ d=>exact(i ž).2
 |tx x=>
  simp only[fU]at e;split at e<;>cases e
  rename_i g;refine⟨(a,h),?_,q⟩;unfold vi de;simp only;rw[if_neg (by decide +kernel),if_pos ⟨by decide +kernel,i g⟩]
 |cl=>
  simp only[fU]at e;split at e<;>cases e
  cases d with
  |zero=>omega|succ d=>obtain⟨c,p,f,j⟩:=q;refine⟨(a,p),?_,j⟩;unfold vi de;simp only;rw[if_pos ⟨by decide +kernel,c⟩,f];rfl
theorem Hx:∀(a:List rM) (c:List Int) (h:Int) (d:Nat) (b:Bool) (z:Nat×Bool),Q0 c d h->pZ a (d,b)=Y z->∃y,Ee (a.map de) (c,h)=Y y
 |[],c,h,d,b,z,q,e=>⟨_,rfl⟩|s::a,c,h,d,b,z,q,e=>by obtain⟨⟨l,m⟩,j,e⟩:=aa.1 (show (fU (d,b) s).bind (pZ a)=Y z from e);obtain⟨y,i,g⟩:=L8 q j;obtain⟨f,k⟩:=Hx a y.1 y.2 l m z g e;refine⟨f,?_⟩;show (vi (c,h) (de s)).bind (Ee (a.map de))=_;rw[i];exact k
def LY(e:pZ a (0,Z_)=Y z)(c:a.length<=1000):∃n,vB [.lst (a.map de)]=Y n:=by
 obtain⟨y,b⟩:=Hx a [] (-1) 0 Z_ z (show (-1:Int)<0 by decide) e;refine⟨y.1.length,?_⟩;show (if (a.map de).length<=100000 then (Ee (a.map de) ([],-1)).map λz=>z.1.length else M)=_;rw[if_pos (by rw[aw];omega),b];rfl
def Ic(ns:List Int)(k:Nat):∃c,kQ [.jt ns,.int k]=Y (.int c):=by
 show ∃c,(tj [Y (.jt ns),Y (.int k)]).bind mQ=_;unfold tj be d7;have a:dA (e2 Nw db (bg jc zn)) [Y (.jt ns),Y (.int k)]=Y (decide ((k:Int)<(ns.length:Int))):=rfl;by_cases h:k<ns.length
 ·refine⟨ns[k],?_⟩;rw[a,decide_eq_true (by omega)];show ((((oU ns (k:Int)).map D.int).map _).bind _).bind _=_;rw[jl (ba h)];rfl
 ·refine⟨0,?_⟩;rw[a,decide_eq_false (by omega)];rfl
section
variable {ns:List Int}{nm dr ss:List D}{c i:jL}{tl p:List Int}{fa:Int}{l a7 a8 d:Option D}{s:rM}
abbrev wE(ns:List Int)(nm dr:List D)(fa:Int)(ss:List D)(c:jL)(tl:List Int)(l a7 a8 d:Option D):cA:=[Y (.jt ns),Y (.lst nm),Y (.lst dr),oS c tl,Y (.int fa),Y (.lst ss),l,a7,a8,d]
abbrev rE(ns:List Int)(nm dr:List D)(fa:Int)(ss:List D)(c:jL)(tl:List Int)(l a7 a8 d:Option D):cA:=[Y (.jt ns),Y (.lst nm),Y (.lst dr),Y (dE c tl),Y (.int fa),Y (.lst ss),l,a7,a8,d]
abbrev nA(a:Option D):Prop:=cG 3 [a]=[a]
def VF(s:rM):nA (Y (de s)):=by cases s<;>rfl
def unW(f:nA l)(e:nA a7)(b:nA a8)(a:nA d):cG 3 (wE ns nm dr fa ss c tl l a7 a8 d)=wE ns nm dr fa ss c tl l a7 a8 d:=by
 have:cG 3 (wE ns nm dr fa ss c tl l a7 a8 d)=[Y (.jt ns),Y (.lst nm),Y (.lst dr),oS c tl,Y (.int fa),Y (.lst ss)]++(cG 3 [l]++(cG 3 [a7]++(cG 3 [a8]++cG 3 [d]))):=rfl;rw[this,f,e,b,a];rfl
def Oa{k:Nat}(b:ss[k]?=Y (de s))(f:eD [bK c,de s]=Y (.lst (p.map D.int),bK i))(e:(tl++p).length<64)(m:nA a7)(j:nA a8)(h:nA d):
  eS (bW "Sift" "take" dZ my 3 (jx (mP (e2 bX (eV 5) np)) kZ)) (wE ns nm dr fa ss c tl (Y (.int k)) a7 a8 d)=Y (.nx (wE ns nm dr fa ss i (vY (tl++p)) (Y (.int k)) a7 a8 d)):=by
 have n:jx (mP (e2 bX (eV 5) np)) kZ (wE ns nm dr fa ss c tl (Y (.int k)) a7 a8 d)=Y ([de s],wE ns nm dr fa ss c tl (Y (.int k)) a7 a8 d):=by unfold jx mP;rw[show e2 bX (eV 5) np (wE ns nm dr fa ss c tl (Y (.int k)) a7 a8 d)=oU ss (k:Int) from rfl,jl b];rfl
 have a:∀F g,bW "Sift" "take" dZ F 3 g (wE ns nm dr fa ss c tl (Y (.int k)) a7 a8 d)=(g (wE ns nm dr fa ss c tl (Y (.int k)) a7 a8 d)).bind λq=>(lO dZ 3 q.2).bind λt=>(F (t::q.1)).map λr=>(r.1,(cG 3 q.2).set 3 (Y (.obj dZ r.2))):=λF g=>by kernel_rfl
 unfold eS;rw[a,n,ae,show lO dZ 3 (wE ns nm dr fa ss c tl (Y (.int k)) a7 a8 d)=Y (dE c tl) by kernel_rfl,ae,Ob f e,unW rfl m j h];rfl
def Ox{n:Int}(R:Km c)(e:g (rE ns nm dr fa ss c tl l a7 a8 d)=Y (de s))(a:n=c.taken)(f:DF)(h:f (rE ns nm dr fa ss c tl l a7 a8 d)=Y (.int n))(b:vq c s=Z_):
  gM (dQ (bg iq (aC bd (aC g (aC f aN))))) (rE ns nm dr fa ss c tl l a7 a8 d)=Y false:=by
 have:aC bd (aC g (aC f aN)) (rE ns nm dr fa ss c tl l a7 a8 d)=Y [dE c tl,de s,.int c.taken]:=by unfold aC aN;rw[e,h,a];rfl
 unfold gM dQ bg;rw[this,ae,um R b];rfl
def QF:res [3] [] (wE ns nm dr fa ss c tl l a7 a8 d)=rE ns nm dr fa ss c tl l a7 a8 d:=rfl
theorem AZ(R:Km c)(f:c.taken=k+1)(g:∀s,vq c s=Z_):∀(b:List rM) (d:Option D),∃a,gD (gN 9) yk (b.map de) (wE ns nm dr fa ss c tl (Y (.int k)) a7 a8 d)=Y (.nx (wE ns nm dr fa ss c tl (Y (.int k)) a7 a8 a))/\(nA d->nA a)
 |[],d=>⟨d,rfl,id⟩| s::b,d=>by
  obtain⟨a,e,h⟩:=AZ R f g b (Y (de s));refine⟨a,?_,λ_=>h (VF s)⟩;have q:yk (wE ns nm dr fa ss c tl (Y (.int k)) a7 a8 (Y (de s)))=Y (.nx (wE ns nm dr fa ss c tl (Y (.int k)) a7 a8 (Y (de s)))):=by unfold yk d7;rw[qy QF (Ox (s:=s) (n:=(k:Int)+1) R rfl f.symm _ rfl (g s))];rfl
  rw[bh,oE (ρ1:=wE ns nm dr fa ss c tl (Y (.int k)) a7 a8 (Y (de s))) rfl q];exact e
def OL(w x y z:Int){j:Int}(b:0<=j)(a:j<4):∃n,bX (.lst [.int w,.int x,.int y,.int z]) (.int j)=Y (.int n):=by
 have:j=0\/j=1\/j=2\/j=3:=by omega
 rcases this with rfl|rfl|rfl|rfl
 ·exact⟨w,rfl⟩
 ·exact⟨x,rfl⟩
 ·exact⟨y,rfl⟩
 ·exact⟨z,rfl⟩
def Nh{f:DF}{x:D}(h:f a=Y x)(k:g a=Y b):aC f g a=Y (x::b):=by
 unfold aC;rw[h,k];rfl
def ML{f:DF}{c:cA}{x y:D}(a:f c=Y x)(b:g c=Y y):e2 o f g c=o x y:=by
 unfold e2;rw[a,b];rfl
def P5{k dd : Nat}{v : Int}{xn : Nat}(hs : ss[k]? = Y (de s))(hf : eD [bK c,de s] = Y (.lst (p.map D.int),bK i))(hl : (tl ++ p).length < 64)(hv : kQ [.jt ns,.int (34 + k)] = Y (.int v))(hn : vB [.lst (ss.take (k + 1))] = Y xn)(hd : pk [.lst (ss.take (k + 1))] = Y (.int (dd : Nat)))(R : Km i)(ht : i.taken = k + 1)(hg : dd = 0 -> ∀s,vq i s = Z_)(h7 : nA a7)(h8 : nA a8)(h9 : nA d):
    ∃b7 b8 b9,yj (wE ns nm dr fa ss c tl (Y (.int k)) a7 a8 d) = Y (.nx (wE ns nm dr fa ss i (vY (tl ++ p)) (Y (.int k)) b7 b8 b9)) /\ nA b7 /\ nA b8 /\ nA b9 := by
  unfold yj
  rw [aR (Oa hs hf hl h7 h8 h9)]
  generalize vY (tl ++ p) = GZ
  have cu : BF ss M (Y ((k : Int) + 1)) = ss.take (k + 1) := by rw [Gy _ (by omega)]; rfl
  rw [aR (ρ' := (wE ns nm dr fa ss i GZ (Y (.int k)) (Y (.int (xC v 7))) a8 d)) ?q7,aR (ρ' := (wE ns nm dr fa ss i GZ (Y (.int k)) (Y (.int (xC v 7))) (Y (.int (xn : Nat))) d)) ?q8]
  case q8 =>
    have e : Xl vB wl (wE ns nm dr fa ss i GZ (Y (.int k)) (Y (.int (xC v 7))) a8 d) = Y (.int (xn : Nat)) := by
      show mB (λ(n : Nat) => D.int (n : Int)) (vB [.lst (BF ss M (Y ((k : Int) + 1)))]) = _
      rw [cu,hn]
      rfl
    rw [ig e]
    rfl
  case q7 =>
    have e : ∀F G : List D -> Option D,bg F (aC (bg G Ö) (aC PP aN)) (wE ns nm dr fa ss i GZ (Y (.int k)) a7 a8 d) = (G [.jt ns,.int (34 + k)]).bind λx => F [x,.int 7] := λF G => by
      show ((G [.jt ns,.int (34 + k)]).bind λx => Y [x,D.int 7]).bind F = _
      cases G [.jt ns,.int (34 + k)] <;> rfl
    rw [ig ((e _ _).trans (by rw [hv,ae,F6 _ _ (by decide) (by decide)]))]
    rfl
  generalize xC v 7 = m
  obtain ⟨n,en⟩ := OL (m % ((xn : Nat) + 2)) (-1 - fa) ((xn : Nat) + fa) fa (j := m / 100 % 4) (cf _ ſ) (bR _ ſ)
  have q9 : d7 (xS [3] [] (gM (dQ (bg nT (aC bd (aC Ch aN))))))
       im
       cO (wE ns nm dr fa ss i GZ (Y (.int k)) (Y (.int m)) (Y (.int (xn : Nat))) d) = Y (.nx (wE ns nm dr fa ss i GZ (Y (.int k)) (Y (.int m)) (Y (.int (xn : Nat))) d)) := by
    have p1 : e2 fD (eV 7) (e2 d9 (eV 8) nb) (rE ns nm dr fa ss i GZ (Y (.int k)) (Y (.int m)) (Y (.int (xn : Nat))) d) = Y (.int (m % ((xn : Nat) + 2))) := by
      show (if (0 : Int) < (xn : Nat) + 2 then Y (D.int (m % ((xn : Nat) + 2))) else M) = _
      rw [if_pos (by omega)]
    have Zc : e2 bX (eF (gE (aC xL pp))) Â (rE ns nm dr fa ss i GZ (Y (.int k)) (Y (.int m)) (Y (.int (xn : Nat))) d) = Y (.int n) := by
      have e3 : aC xL pp (rE ns nm dr fa ss i GZ (Y (.int k)) (Y (.int m)) (Y (.int (xn : Nat))) d) = Y [.int (m % ((xn : Nat) + 2)),.int (-1 - fa),.int ((xn : Nat) + fa),.int fa] := Nh p1 rfl
      refine (ML (x := .lst [.int (m % ((xn : Nat) + 2)),.int (-1 - fa),.int ((xn : Nat) + fa),.int fa]) (y := .int (m / 100 % 4)) ?_ (by kernel_rfl)).trans en
      unfold eF gE
      rw [e3]
      rfl
    have e4 : aC bd (aC Ch aN) (rE ns nm dr fa ss i GZ (Y (.int k)) (Y (.int m)) (Y (.int (xn : Nat))) d) = Y [dE i GZ,.int n] := Nh rfl (Nh Zc rfl)
    unfold d7
    rw [qy QF (show gM (dQ (bg nT _)) _ = Y Z_ by
      unfold gM dQ bg
      rw [e4,ae,F4 R]
      rfl)]
    rfl
  rw [aR q9]
  have qd : dA (e2 fc (bg pk wl) t3) (wE ns nm dr fa ss i GZ (Y (.int k)) (Y (.int m)) (Y (.int (xn : Nat))) d) = Y (decide (((dd : Nat) : Int) = 0)) := by
    have e : bg pk wl (wE ns nm dr fa ss i GZ (Y (.int k)) (Y (.int m)) (Y (.int (xn : Nat))) d) = Y (.int (dd : Nat)) := (show _ = pk [.lst (BF ss M (Y ((k : Int) + 1)))] from rfl).trans (by rw [cu,hd])
    unfold dA
    rw [ML e (show eK (.int 0) _ = Y (.int 0) from rfl)]
    rfl
  unfold d7
  rw [qd]
  by_cases h : dd = 0
  · rw [decide_eq_true (by omega)]
    obtain ⟨b9,e,hb⟩ := AZ (ns := ns) (nm := nm) (dr := dr) (fa := fa) (ss := ss) (tl := GZ) (a7 := Y (.int m)) (a8 := Y (.int (xn : Nat))) R ht (hg h) [.op (af "a"),.tx (af ""),.cl] d
    exact⟨_,_,b9,e,rfl,rfl,hb h9⟩
  · rw [decide_eq_false (by omega)]
    exact⟨_,_,d,rfl,rfl,rfl,h9⟩
end
section
variable {f:EL}{g:Int}{h i:Int->Int->Int}{j l:aJ->Int}{ns:List Int}{nm dr:List D}{fa:Int}{a:List rM}
def IY{k:Nat}(e:pZ a z=Y y):∃x,pZ (a.take k) z=Y x:=by
 induction a generalizing z k with
 |nil=>exact⟨z,by simp[pZ]⟩
 |cons s a ih=>
  cases k with
  |zero=>exact⟨z,rfl⟩|succ k=>obtain⟨d,c,e⟩:=aa.1 (show (fU z s).bind (pZ a)=Y y from e);obtain⟨x,b⟩:=ih (k:=k) e;refine⟨x,?_⟩;show (fU z s).bind (pZ (a.take k))=_;rw[c];exact b
theorem Ny(W:FW f g h i j l)(J:pZ a (0,Z_)=Y z)(E:a.length<=20):∀(n k:Nat) (c:jL) (p:List Int) (H A y w:Option D) (d:Nat) (b:Bool),k+n=a.length->pZ (a.take k) (0,Z_)=Y (d,b)->SI f g h c p.length d b->c.taken=k->nA A->nA y->nA w ->
  ∃C,gD (gN 6) yj (nh k n) (wE ns nm dr fa (a.map de) c p H A y w)=Y (.nx C)
 |0,k,c,p,H,A,y,w,d,b,hk,K,I,X,N,V,L=>⟨_,rfl⟩| n+1,k,c,p,H,A,y,w,d,b,hk,K,I,X,N,V,L=>by
  have r:k<a.length:=by omega
  obtain⟨⟨B,u⟩,o⟩:=IY (k:=k+1) J;have m:fU (d,b) a[k]=Y (B,u):=by have:=o;rw[List.take_succ_eq_append_getElem r,pY,K]at this;exact this
  obtain⟨F,G,e,q,t1⟩:=I.step W ž a[k] m;have hp:=q.Us;have hq:=q.tk;have hl:(p++F).length<64:=by rw[aS];omega
  have I2:SI f g h G (vY (p++F)).length B u:=by rw[(u4 _).length_eq,aS];exact q
  have hb:u=true:=by
   cases u with
   |true=>rfl|false=>
    exfalso;have t:=I.op;generalize a[k]=s at m;have h3:=I.len;have h4:=I.cnt;cases s with
    |op x=>simp only[fU]at m;split at m<;>simp at m|tx x=>
     simp only[fU]at m;split at m
     ·cases m;have:=of_decide_eq_false t.symm;omega
     ·cases m
    |cl=>
     simp only[fU]at m;split at m
     ·cases m;have:=of_decide_eq_false t.symm;omega
     ·cases m
  have R:Km G:=⟨by have:=q.cnt;omega⟩;obtain⟨v,U⟩:=Ic ns (34+k);obtain⟨O,T⟩:=LY o (by rw[lG];omega);obtain⟨b7,b8,b9,eb,S,Q,P⟩:=P5 (ns:=ns) (nm:=nm) (dr:=dr) (fa:=fa) (ss:=a.map de) (s:=a[k]) (k:=k) (dd:=B) (v:=v) (xn:=O) (by rw[aY,ba r];rfl) e hl (by rw[<- show ((34+k:Nat):Int)=34+(k:Int) by omega];exact U) (by rw[<- tT];exact T) (by rw[<- tT];exact M4 (by rw[lG];omega) o) R ž (λh0 s=>by have t:=q.len;have h2:=q.op;rw[h0]at t;unfold vq;rw[t,<- h2,hb];cases s<;>rfl) N V L
  obtain⟨C,e2⟩:=Ny W J E n (k+1) G (vY (p++F)) (Y (.int k)) b7 b8 b9 B u ž o I2 ž S Q P;refine⟨C,?_⟩;rw[AY,oE (ρ1:=wE ns nm dr fa (a.map de) c p (Y (.int k)) A y w) rfl eb];exact e2
end
def Tz{F:List D->Option D}{f:DF}(h:f a=Y d):bg F (aC f aN) a=F [d]:=by
 unfold bg aC aN;rw[h];rfl
def Tx{F:List D->Option (List D)}{n:D}(f:g a=Y b)(d:eV 1 a=Y n)(h:F [.lst b,n]=Y c):eF (sI F (aC (eF g) pi)) a=Y (.lst c):=by
 have e:aC (eF g) pi a=Y [.lst b,n]:=by simp only[aC,aN,eF,f,d];rfl
 unfold eF sI;rw[show aC (λa=>mB D.lst (g a)) pi a=Y [.lst b,n] from e];show (F [.lst b,n]).map D.lst=_;rw[h];rfl
def SD{f:DF}{j:Int}(e:f a=Y (.int j))(h : -(2 ^ 62)<=j/\j<2 ^ 62):NS f a=Y (nh 0 j.toNat):=by
 simp only[NS,e,ae];rw[if_pos h]
def SW{f:DL}(e:f a=Y c):jw f b g a=gD b g c a:=by
 unfold jw;rw[e];rfl
def Md(c : List Int)(n : c.length <= 63): EM [.jt c] = Y (.bl Z') := by
  obtain ⟨a,en,V⟩ := L0 c n
  obtain ⟨r,ed,_⟩ := zH c n 100 12 ſ ſ ſ ſ
  obtain ⟨d,b,K,h1,h3,hw⟩ := (Af a V 3).2 12 r ſ
  have K : yo [.lst (r.map D.int),.int 3,.lst (a.map D.str)] = Y (.lst (d.map cH),b.map D.int) := K
  obtain ⟨o,ex,_,hxl⟩ := zH c n 500 20 ſ ſ ſ ſ
  obtain ⟨ss,dep,es,E,C⟩ := K6 o a ž V
  obtain ⟨p,gd,gb,rfl,t,_,_⟩ := E.ex
  obtain ⟨f,J,L,R,Q,hf,A,W⟩ := V4 (n := 4) ſ d hw h3 (by rw [show Zb 4 = 120 from by decide]; omega)
  have hql : f.q.length = d.length := by rw [A,aw]
  have I : jJ [.lst f.q] = Y (.int (xG 4 0 0 d)) := by rw [A]; exact P9 ſ d hw ž
  have m := JX ž hf I
  have O : SI f (xG 4 0 0 d) J ⟨f,2 ^ f.q.length,xG 4 0 0 d,0,0,[yx],[]⟩ ([] : List Int).length 0 Z_ := SI.new
  have B : (⟨f,2 ^ f.q.length,xG 4 0 0 d,0,0,[yx],[]⟩ : jL).rows = [yx] /\ (⟨f,2 ^ f.q.length,xG 4 0 0 d,0,0,[yx],[]⟩ : jL).taken = 0 /\ (⟨f,2 ^ f.q.length,xG 4 0 0 d,0,0,[yx],[]⟩ : jL).rests = [] := ⟨rfl,rfl,rfl⟩
  generalize (⟨f,2 ^ f.q.length,xG 4 0 0 d,0,0,[yx],[]⟩ : jL) = g at m O B
  obtain ⟨w,j,G⟩ := B
  have N : Km g := ⟨by rw [w,G]; decide⟩
  have H : p.length <= 20 := by rw [aw]at C; omega
  have y : ∀s,(∀x,s ≠ rM.op x) -> vq g s = Z_ := λs h => by
    unfold vq
    rw [w]
    cases s with|op x => exact absurd rfl (h x)|tx x => rfl|cl => rfl
  obtain ⟨v,hv⟩ := Ic c 12
  show (HG [Y (.jt c),M,M,M,M,M,M,M,M,M]).bind mQ = _
  unfold HG
  rw [aR (ρ' := [Y (.jt c),Y (.lst (a.map D.str)),M,M,M,M,M,M,M,M]) ?q1,aR (ρ' := [Y (.jt c),Y (.lst (a.map D.str)),Y (.lst (r.map D.int)),M,M,M,M,M,M,M]) ?q2,aR (ρ' := [Y (.jt c),Y (.lst (a.map D.str)),Y (.lst (b.map D.int)),oS g [],M,M,M,M,M,M]) ?q3,aR (ρ' := [Y (.jt c),Y (.lst (a.map D.str)),Y (.lst (b.map D.int)),oS g [],Y (.int (v % 10 ^ 59)),M,M,M,M,M]) ?q4]
  case q4 =>
    have e : e2 fD (bg kQ (aC Fa (aC dL aN))) (e2 O1 (eK (.int 10)) (eK (.int 59))) [Y (.jt c),Y (.lst (a.map D.str)),Y (.lst (b.map D.int)),oS g [],M,M,M,M,M,M] = Y (.int (v % 10 ^ 59)) := by
      refine (ML (x := .int v) (y := .int (10 ^ 59)) ((show _ = kQ [.jt c,.int 12] from rfl).trans hv) (by kernel_rfl)).trans ?_
      show (if (0 : Int) < 10 ^ 59 then Y (D.int (v % 10 ^ 59)) else M) = _
      rw [if_pos (by decide)]
    rw [ig e]
    rfl
  case q3 =>
    have e : ∀F,rj F 2 (aC Re pi) [Y (.jt c),Y (.lst (a.map D.str)),Y (.lst (r.map D.int)),M,M,M,M,M,M,M] = (F [.lst (r.map D.int),.int 3,.lst (a.map D.str)]).map λq => (q.1,[Y (.jt c),Y (.lst (a.map D.str)),Y (.lst q.2),M,M,M,M,M,M,M]) := λF => rfl
    unfold BS
    rw [e,K]
    simp only [bP,ae]
    rw [Ol m]
    rfl
  case q2 =>
    unfold kN
    rw [show sI kl Ü [Y (.jt c),Y (.lst (a.map D.str)),M,M,M,M,M,M,M,M] = kl [.jt c,.int 100,.int 12] from rfl,ed]
    rfl
  case q1 =>
    rw [ig ((Tz rfl).trans en)]
    rfl
  generalize v % 10 ^ 59 = i
  have S : res [3] [] [Y (.jt c),Y (.lst (a.map D.str)),Y (.lst (b.map D.int)),oS g [],Y (.int i),M,M,M,M,M] = [Y (.jt c),Y (.lst (a.map D.str)),Y (.lst (b.map D.int)),Y (dE g []),Y (.int i),M,M,M,M,M] := rfl
  have q5 : d7 (xS [3] [] ul)
     im
     cO [Y (.jt c),Y (.lst (a.map D.str)),Y (.lst (b.map D.int)),oS g [],Y (.int i),M,M,M,M,M] = Y (.nx [Y (.jt c),Y (.lst (a.map D.str)),Y (.lst (b.map D.int)),oS g [],Y (.int i),M,M,M,M,M]) := by
    have u : ∀(F : List D -> Option D) (l : DL) (o : List D),l [Y (.jt c),Y (.lst (a.map D.str)),Y (.lst (b.map D.int)),Y (dE g []),Y (.int i),M,M,M,M,M] = Y o -> F o = Y (.bl Z') -> gM (dQ (bg F l)) [Y (.jt c),Y (.lst (a.map D.str)),Y (.lst (b.map D.int)),Y (dE g []),Y (.int i),M,M,M,M,M] = Y Z_ := λF l o h k => by
      unfold gM dQ bg
      rw [h,ae,k]
      rfl
    have X := u wV Æ [dE g []] rfl (Pa j)
    have U := u iq (aC bd (aC UV (aC t3 aN))) [dE g [],de .cl,.int 0] rfl (by rw [<- j]; exact um N (y _ λx z => nomatch z))
    have T := u iq (aC bd EQ) [dE g [],de (.tx (af "x")),.int 0] rfl (by rw [<- j]; exact um N (y _ λx z => nomatch z))
    unfold d7
    rw [qy S (b := Z_) (by
      unfold ul qz
      rw [X,ae,U,ae,T]
      rfl)]
    rfl
  rw [aR q5,aR (ρ' := (wE c (a.map D.str) (b.map D.int) i (p.map de) g [] M M M M)) ?q6]
  case q6 =>
    have e1 : sI kl Ä [Y (.jt c),Y (.lst (a.map D.str)),Y (.lst (b.map D.int)),oS g [],Y (.int i),M,M,M,M,M] = Y (o.map D.int) := (show _ = kl [.jt c,.int 500,.int 20] from rfl).trans ex
    rw [ig (Tx (F := tw) (n := .lst (a.map D.str)) e1 rfl es)]
    rfl
  obtain ⟨P,e7⟩ := Ny (ns := c) (nm := a.map D.str) (dr := b.map D.int) (fa := i) W t H p.length 0 g [] M M M M 0 Z_ ž rfl O (by rw [j]; rfl) rfl rfl rfl
  rw [aR (ρ' := P) ?q7]
  case q7 => exact (SW (SD (j := (p.length : Nat)) (by show Y (D.int ((p.map de).length : Nat)) = _; rw [aw]) ⟨ž,ž⟩)).trans (by rw [iT]; exact e7)
  rfl
end K21
namespace L2
open PySem PySem.Spec PyProof.Rows
section
variable {P:br}{w:cY}{K:aT}{mg:aJ->Option ak}{base:cF}{x c:aJ}{sp:Sp}{f:ax}{fd:eO}{ps:List aJ}{n k:Nat}
def lJ.m(h:lJ P w K mg base x n sp)(hk:autoParam (n<=k) Ű):lJ P w K mg base x k sp:=h.mono hk
def fh.m(h:fh P w K mg base c x n sp)(hk:autoParam (n<=k) Ű):fh P w K mg base c x k sp:=h.mono hk
def uK.m(h:uK P w K mg base c n sp)(hk:autoParam (n<=k) Ű):uK P w K mg base c k sp:=h.mono hk
def lJ.o(h:lJ P w K mg base x n sp)(hk:autoParam (n<=k) ŧ):lJ P w K mg base x k sp:=h.mono hk
def fh.o(h:fh P w K mg base c x n sp)(hk:autoParam (n<=k) ŧ):fh P w K mg base c x k sp:=h.mono hk
def WT{F:List D->Option D}(e:∀ds,F ds=M):bZ P w K mg base gK n f fd ps (hR K F):=by
 constructor
 ·rintro vs H Q E ⟨G,ds,d,gh,r,eq,_⟩;rw[e]at eq;cases eq
 ·rintro A o s H args us vs Q E hr he hb hv ⟨G,ds,d,gh,r,eq,_⟩;rw[e]at eq;cases eq
def ZS{s:Sk}{F:List D->Option (D×D)}(e:∀ds,F ds=M):bZ P w K mg base gK n f fd ps (spT K s F):=by
 constructor
 ·rintro vs H Q E ⟨G,t,xs,d,t',a,T,us,_,_,_,_,_,_,eq,_⟩;rw[e]at eq;cases eq
 ·rintro A o s H args us vs Q E hr he hb hv ⟨G,t,xs,d,t',a,T,us,_,_,_,_,_,_,eq,_⟩;rw[e]at eq;cases eq
def ZT{F:List D->Option (D×List D)}(e:∀ds,F ds=M):bZ P w K mg base gK n f fd ps (Dw K 0 F):=by
 constructor
 ·rintro vs H Q E ⟨G,ds,d,xs',a,ws,xs,_,_,_,_,_,_,_,_,eq,_⟩;rw[e]at eq;cases eq
 ·rintro A o s H args us vs Q E hr he hb hv ⟨G,ds,d,xs',a,ws,xs,_,_,_,_,_,_,_,_,eq,_⟩;rw[e]at eq;cases eq
end
end L2
namespace K21
open PySem L2
def ac{α:Type}{P:α->Prop}{a:α}{l:List α}(h:P a)(t:∀x∈l,P x):∀x∈a::l,P x:=kX.mpr ⟨h,t⟩
abbrev FA(K:aT)(x:aJ)(st:pK):Prop:=∃f fd,iy K aP x=Y (Y (.ref f))/\gY K x x st f fd
def WK{K:aT}{x:aJ}{st:pK}{f:ax}{od an:Option ax}{sl:Array (Option ak)}{oc kV dc pm cd ct:ak}(a:iy K aP x=Y (Y (.ref f)))(l:K.lookup f=Y ⟨oc,od,.func (fnOf x x (nz st) (gx st) (aA st) .none kV dc pm an cd ct),sl⟩)(c:codeIn K cd x=Z')(k:kT K (.ref f)=Z'):FA K x st:=⟨f,_,a,Ge l c k⟩
abbrev MA(K:aT)(c m qual:aJ)(st:pK):Prop:=∃C f fd,iy K aP c=Y (Y (.ref C))/\hI K (.ref C) m=Y (Y (.ref f))/\PySem.W.isFn K (.ref f)=Z'/\gY K m qual st f fd
def WG{K:aT}{x:aJ}{st:pK}{f:ax}{od an:Option ax}{sl:Array (Option ak)}{oc kV dc pm cd ct:ak}{c0 qual:aJ}{C:ax}(aC:iy K aP c0=Y (Y (.ref C)))(a:hI K (.ref C) x=Y (Y (.ref f)))(i:PySem.W.isFn K (.ref f)=Z')(l:K.lookup f=Y ⟨oc,od,.func (fnOf x qual (nz st) (gx st) (aA st) .none kV dc pm an cd ct),sl⟩)(c:codeIn K cd qual=Z')(k:kT K (.ref f)=Z'):MA K c0 x qual st:=⟨C,f,_,aC,a,i,Ge l c k⟩
def bk0{us:List ak}(e:us.length=0):us=[]:=by
 rcases us with _|_<;>first|rfl|simp at e
def bk1{us:List ak}(e:us.length=1):∃a,us=[a]:=by
 rcases us with _|⟨_,_|_⟩<;>first|exact⟨_,rfl⟩|simp at e
def bk2{us:List ak}(e:us.length=2):∃a b,us=[a,b]:=by
 rcases us with _|⟨_,_|⟨_,_|_⟩⟩<;>first|exact⟨_,_,rfl⟩|simp at e
def bk3{us:List ak}(e:us.length=3):∃a b c,us=[a,b,c]:=by
 rcases us with _|⟨_,_|⟨_,_|⟨_,_|_⟩⟩⟩<;>first|exact⟨_,_,_,rfl⟩|simp at e
def bk4{us:List ak}(e:us.length=4):∃a b c d,us=[a,b,c,d]:=by
 rcases us with _|⟨_,_|⟨_,_|⟨_,_|⟨_,_|_⟩⟩⟩⟩<;>first|exact⟨_,_,_,_,rfl⟩|simp at e
local macro_rules | `(tactic|walk_at "b") => `(tactic|(intro _ _ _ _ _ _ us hl; (first |obtain ⟨_,e⟩ := bk1 hl |obtain ⟨_,_,e⟩ := bk2 hl |obtain ⟨_,_,_,e⟩ := bk3 hl |obtain ⟨_,_,_,_,e⟩ := bk4 hl |have e := bk0 hl); subst e; rfl))
section
variable {P:br}{w:cY}{K:aT}{h base:cF}{mg:aJ->Option ak}{x c q:aJ}{st:pK}{sp:Sp}{ps:List aJ}{n:Nat}{C:ax}
structure EN(P:br)(w:cY)(K:aT)(mg:aJ->Option ak)(base h:cF):Prop where
 X:K.In h
 G:h.Ns aP mg
abbrev CL(K:aT)(c:aJ):Prop:=∃C,iy K aP c=Y (Y (.ref C))/\ER K C/\makesIn K C=Z'/\kT K (.ref C)=Z'
abbrev NA(K:aT)(c f:aJ):Prop:=∃C,iy K aP c=Y (Y (.ref C))/\qU K C f
def WQ(a:iy K aP c=Y (Y (.ref C)))(pg:plainGet K C Str.empty=Z')(hd:pw K C=Z')(po:plainOver K C=Z')(sa:hI K (.ref C) "__setattr__" = Y (Y (.builtin "object.__setattr__")))(mk:makesIn K C=Z')(kc:kT K (.ref C)=Z'):CL K c:=⟨C,a,⟨pg,hd,po,sa⟩,mk,kc⟩
def WD(a:iy K aP c=Y (Y (.ref C)))(n:hI K (.ref C) x=Y M):NA K c x:=⟨C,a,n⟩
def Zt(h:CL K c)(n:NA K c x):sS K c x:=by
 obtain⟨C,a,cl,_,_⟩:=h;obtain⟨C',a',n⟩:=n;intro D e;rw[a]at e a';cases e;cases a';exact⟨cl,n⟩
abbrev BB(x q:aJ)(st:pK)(ps:List aJ):Prop:=∀(kV Qg pm:ak) (an:Option ax) (QY ct:ak) (us:List ak),us.length=ps.length->bindArgs (fnOf x q (nz st) (gx st) (aA st) .none kV Qg pm an QY ct) ⟨us,[]⟩=dP (ps.zip us)
def FA.vI(q:FA K x st)(e:EN P w K mg base h)(o:∀f fd,gY K x x st f fd->bZ P w K mg base gK n f fd ps sp)(hb:autoParam (BB x x st ps) Ŵ):lJ P w K mg base x n sp:=by
 obtain⟨f,fd,a,F⟩:=q;exact⟨f,fd,ps,o f fd F,xr e.X e.G a,F.kp,F.binds hb⟩
def MA.tZ(r:MA K c x q st)(_:EN P w K mg base h)(h:CL K c)(o:∀f fd,gY K x q st f fd->bZ P w K mg base gK n f fd ps sp)(hb:autoParam (BB x q st ps) Ŵ):fh P w K mg base c x n sp:=by
 obtain⟨C',f,fd,a',i,j,F⟩:=r;obtain⟨C,a,cl,_,_⟩:=h;rw[a]at a';cases a';exact⟨_,f,fd,ps,a,cl,⟨i,j,F.kp⟩,o f fd F,F.binds hb⟩
def MA.Uu(r:MA K c "__init__" q st)(e:EN P w K mg base h)(k:CL K c)(o:∀f fd,gY K "__init__" q st f fd->bZ P w K mg base gK n f fd ps sp)(hb:autoParam (BB "__init__" q st ps) Ŵ):uK P w K mg base c n sp:=by
 obtain⟨C',f,fd,a',i,j,F⟩:=r;obtain⟨C,a,cl,m,y⟩:=k;rw[a]at a';cases a';exact⟨_,f,fd,ps,a,xr e.X e.G a,⟨m,i,j,y⟩,o f fd F,F.binds hb⟩
def MA.Vz(r:MA K c x q st)(_:EN P w K mg base h)(h:CL K c)(o:∀f fd,gY K x q st f fd->bZ P w K mg base (CW P w) n f fd ps sp)(hb:autoParam (BB x q st ps) Ŵ):zQ P w K mg base c x n sp:=by
 obtain⟨C',f,fd,a',i,j,F⟩:=r;obtain⟨C,a,cl,_,_⟩:=h;rw[a]at a';cases a';exact⟨_,f,fd,ps,a,cl,⟨i,j,F.kp⟩,o f fd F,F.binds hb⟩
abbrev XQ(K:aT)(C:ax)(x:aJ)(b:Bool):Prop:=∃c,iy K aP x=Y (Y (.ref c))/\jK K (.ref C) (.ref c)=Y b
structure XA(K:aT)(c:aJ)(b1 b2 b3 b4 b5:Bool)(C N:ax):Prop where
 a:iy K aP c=some (some (.ref C))
 I:Wv K C
 s:iy K aP "SiftError" = some (some (.ref N))
 e:PySem.W.exmOne K (.ref C) (.ref N)=some true
 k:XQ K C "NoSign" b1/\XQ K C "NoText" b2/\XQ K C "NoPart" b3/\XQ K C "Taken" b4/\XQ K C "Late" b5/\XQ K C "SiftError" true/\jK K (.ref C) (.type "ValueError")=some true
def Ni{b:Bool}{d:ax}(a:iy K aP x=Y (Y (.ref d)))(k:jK K (.ref C) (.ref d)=Y b):XQ K C x b:=⟨d,a,k⟩
def Nk{N:ax}{b1 b2 b3 b4 b5:Bool}(a:iy K aP c=Y (Y (.ref C)))(s:iy K aP "SiftError" = Y (Y (.ref N)))(e:PySem.W.exmOne K (.ref C) (.ref N)=Y Z')(hd:pw K C=Z')(ga:hI K (.ref C) "__getattribute__" = Y (Y (.builtin "BaseException.__getattribute__")))(gt:hI K (.ref C) "__getattr__" = Y M)(mb:PySem.W.mroIn K C (.type "BaseException")=Y Z')
  (ha:hI K (.ref C) "__class__" = Y (Y (.builtin "object.__class__"))) (hn:PySem.W.specialIn K (.builtin "object.__class__") "__get__" = Y (Y (.builtin "getset_descriptor.__get__"))) (ht:PySem.W.takesIn K (.builtin "object.__class__")=Y Z') (hm:PySem.W.mroIn K C (.type "object")=Y Z')
  (q:XQ K C "NoSign" b1/\XQ K C "NoText" b2/\XQ K C "NoPart" b3/\XQ K C "Taken" b4/\XQ K C "Late" b5/\XQ K C "SiftError" Z'/\jK K (.ref C) (.type "ValueError")=Y Z'):XA K c b1 b2 b3 b4 b5 C N:=
 ⟨a,⟨⟨ga,gt,mb⟩,hd,ha,hn,ht,hm⟩,s,e,q⟩
def XA.ask{N:ax}{b1 b2 b3 b4 b5:Bool}(x:XA K c b1 b2 b3 b4 b5 C N)(X:K.In h)(G:h.Ns aP mg):Ww K mg C b1 b2 b3 b4 b5:=by
 obtain⟨⟨_,a1,k1⟩,⟨_,a2,k2⟩,⟨_,a3,k3⟩,⟨_,a4,k4⟩,⟨_,a5,k5⟩,⟨_,a6,k6⟩,k7⟩:=x.k;exact⟨x.I,⟨_,xr X G a1,k1⟩,⟨_,xr X G a2,k2⟩,⟨_,xr X G a3,k3⟩,⟨_,xr X G a4,k4⟩,⟨_,xr X G a5,k5⟩,⟨_,xr X G a6,k6⟩,k7⟩
structure XN(K:aT)(C f:ax)(fd:eO):Prop where
 M:UE K C f
 T:P_ K C "at"
 G:Nj K C "at"
 F:gY K "__init__" "NoSign.__init__" pO f fd
 e:PySem.W.exmOne K (.ref C) (.ref C)=some true
def Wu{N f:ax}{od an:Option ax}{sl:Array (Option ak)}{oc kV dc pm cd ct:ak}(x:XA K "NoSign" Z' Z_ Z_ Z_ Z_ C N)(i:hI K (.ref C) "__init__" = Y (Y (.ref f)))(e:wB K C (Y (.ref f))=Z')(ty:PySem.W.typeIn K (.ref f)=Y (.type "function"))(l:K.lookup f=Y ⟨oc,od,.func (fnOf "__init__" "NoSign.__init__" (nz pO) (gx pO) (aA pO) .none kV dc pm an cd ct),sl⟩)(c:codeIn K cd "NoSign.__init__" = Z')(k:kT K (.ref f)=Z')
  (sa:hI K (.ref C) "__setattr__" = Y (Y (.builtin "object.__setattr__"))) (po:yg K C=Z') (tk:NB K C "at" = Y M) (na:hI K (.ref C) "at" = Y M) (kp:kT K (.ref C)=Z') (ee:PySem.W.exmOne K (.ref C) (.ref C)=Y Z'):∃C N f fd,XA K "NoSign" Z' Z_ Z_ Z_ Z_ C N/\XN K C f fd:=
 ⟨C,N,f,_,x,Q7 e ty kp,⟨sa,po,tk,x.I.hd⟩,⟨x.I.pg,x.I.hd,na⟩,Ge l c k,ee⟩
def QZ{N:ax}{b1 b2 b3 b4 b5:Bool}(x:XA K c b1 b2 b3 b4 b5 C N)(e:wB K C M=Z')(kp:kT K (.ref C)=Z'):∃C N,XA K c b1 b2 b3 b4 b5 C N/\GI K C:=⟨C,N,x,N7 e kp⟩
end
def TU{l:PySem.W.OpenLaw}{w:cY}{K:aT}{h:cF}{mg:aJ->Option ak}{fa:ax}(X:K.In h)(G:h.Ns aP mg)(hfa:mg "law" = Y (.ref fa))(c:CL K "Coming" /\CL K "Facts" /\CL K "Row" /\CL K "Sift")(n:∀p∈KL,NA K p.1 p.2)(z:∀x∈ZL,iy K aP x=Y M)(q:FA K "joined_asks" nX/\FA K "copied" sX/\FA K "copied_wish" k_/\FA K "meets" uZ/\FA K "can_hold" kM/\FA K "can_come" r_/\FA K "top_row" uf/\FA K "able_steps" pB/\FA K "_law_mix" Fv/\FA K "_law_cells" u0/\FA K "_law_names" uY/\FA K "_law_signs" yA/\FA K "_law_depth" r9/\FA K "_law_pop" Fu/\FA K "_law_wish" xU/\FA K "_law_steps" yz/\FA K "_law_whole" yy/\FA K "_law_cell_at" ui/\FA K "_law_nodes" yC/\FA K "_law_only" xV/\FA K "_law_refused" ug/\FA K "_law_late" BM/\FA K "_law_no_part" uh/\FA K "law" vW)(r:MA K "Facts" "new_bit" "Facts.new_bit" lV/\MA K "Facts" "enter_step" "Facts.enter_step" jN/\MA K "Facts" "enter" "Facts.enter" la/\MA K "Facts" "enter_text" "Facts.enter_text" jM/\MA K "Facts" "lead" "Facts.lead" pD/\MA K "Facts" "asked" "Facts.asked" lb/\MA K "Facts" "enter_has" "Facts.enter_has" iD/\MA K "Facts" "__init__" "Facts.__init__" je/\MA K "Facts" "steps_for" "Facts.steps_for" kA/\MA K "Facts" "text_fact" "Facts.text_fact" kz/\MA K "Facts" "lifted" "Facts.lifted" mI/\MA K "Facts" "fitting" "Facts.fitting" lW/\MA K "Row" "__init__" "Row.__init__" mH/\MA K "Coming" "__init__" "Coming.__init__" kB/\MA K "Coming" "gone_on" "Coming.gone_on" lg/\MA K "Coming" "moved_out" "Coming.moved_out" jO/\MA K "Coming" "has_ended" "Coming.has_ended" jP/\MA K "Coming" "waits" "Coming.waits" kb/\MA K "Coming" "begin_row" "Coming.begin_row" jQ/\MA K "Coming" "spread" "Coming.spread" lX/\MA K "Coming" "add_atoms" "Coming.add_atoms" jR/\MA K "Coming" "settle" "Coming.settle" lY/\MA K "Coming" "newly_told" "Coming.newly_told" ju/\MA K "Coming" "end_row" "Coming.end_row" lj/\MA K "Coming" "feed" "Coming.feed" lh/\MA K "Sift" "__init__" "Sift.__init__" lU/\MA K "Sift" "take" "Sift.take" nc/\MA K "Sift" "told" "Sift.told" qB/\MA K "Sift" "waiting" "Sift.waiting" mF/\MA K "Sift" "is_over" "Sift.is_over" mG/\MA K "Sift" "need_a_sign" "Sift.need_a_sign" BL/\MA K "Sift" "shortest" "Sift.shortest" yB/\MA K "Sift" "ending" "Sift.ending" Fx)(x:∃C N f fd,XA K "NoSign" Z' Z_ Z_ Z_ Z_ C N/\XN K C f fd)(y2:∃C N,XA K "NoPart" Z_ Z_ Z' Z_ Z_ C N/\GI K C)(y4:∃C N,XA K "Late" Z_ Z_ Z_ Z_ Z' C N/\GI K C):
  ∃fd:eO,(∀(s:av) (v:ak),Kj s fd ⟨[v],[]⟩ [("_law_script",v)])/\∀base:cF,K.In base->base.Ns aP mg->bZ l.prog w K mg base gK 100 fa fd ["_law_script"] (hR K EM):=by
 obtain⟨a1,a0,a7,a9⟩:=c;obtain⟨i2,b5,b6,b7,b8,i3,i4,i5,i6,i7,i8,i9,j0,j1,b9,c1,j2,j3,j4,j5,j6,s1,s2,⟨fL,fdL,aL,FL⟩⟩:=q;obtain⟨j7,j8,j9,k0,k8,c2,c3,k9,l0,l1,l2,l3,l4,l5,l6,l7,l8,l9,m0,m1,m2,c4,m3,m4,c5,m5,c6,m7,m8,m9,n0,s3,s4⟩:=r;obtain⟨C,N,fI,V9,x,xn⟩:=x;obtain⟨C2,N2,x2,z2⟩:=y2;obtain⟨C4,N4,x4,z4⟩:=y4;have e:=hfa.symm.trans (xr X G aL);cases e;have k:KS K mg:=⟨λp h=>Zt (by rcases(show ∀p∈KL,p.1 = "Coming" \/p.1 = "Facts" \/p.1 = "Row" \/p.1 = "Sift" by decide +kernel) p h with e|e|e|e<;>rw[e]<;>assumption) (n p h),λx h=>mg_none_of X G (z x h)⟩
 obtain⟨oc,od,kV,Qg,pm,an,QY,ct,W7,rfl,_⟩:=FL.ex;refine⟨fnOf "law" "law" (nz vW) (gx vW) (aA vW) .none kV Qg pm an QY ct,λs v =>.of_eq rfl,λbase _ _ =>?_⟩;have e:EN l.prog w K mg base h:=⟨X,G⟩;have n1:=i2.vI e λ_ _ F=>yS F
 have n2:∀n,lJ l.prog w K mg base "copied" (n+0) (hR K (ja n))/\lJ l.prog w K mg base "copied_wish" (n+0) (hR K (dR n)):=λn=>by
  induction n with
  |zero=>exact⟨b5.vI (ps:=["steps"]) e λ_ _ _=>WT λ_=>rfl,b6.vI (ps:=["wish"]) e λ_ _ _=>WT λ_=>rfl⟩
  |succ n ih=>obtain⟨b2,c7⟩:=ih;exact⟨b5.vI e λ_ _ F=>(Jm F c7).mono ž,b6.vI e λ_ _ F=>(yU F b2 c7).mono ž⟩
 have b2:lJ _ _ _ _ _ "copied" 12 (hR K vC):=(n2 12).1;have n3:∀n,lJ l.prog w K mg base "meets" (n+0) (hR K (jY n)):=λn=>by
  induction n with
  |zero=>exact b7.vI (ps:=["ask", "atoms"]) e λ_ _ _=>WT λ_=>rfl
  |succ n b0=>exact b7.vI e λ_ _ F=>(LR F k b0).mono ž
 have b0:lJ _ _ _ _ _ "meets" 12 (hR K tD):=(n3 12);have n4:∀n,lJ l.prog w K mg base "can_hold" (n+0) (hR K (fy n)):=λn=>by
  induction n with
  |zero=>exact b8.vI (ps:=["wish"]) e λ_ _ _=>WT λ_=>rfl
  |succ n b3=>exact b8.vI e λ_ _ F=>(D2 F k b3).mono ž
 have b3:lJ _ _ _ _ _ "can_hold" 12 (hR K oI):=(n4 12);have c8:=i3.vI e λ_ _ F=>D3 F
 have c9:=j7.tZ e a0 λ_ _ F=>we F k
 have n5:=j8.tZ e a0 λ_ _ F=>tL F k c9.m
 have d0:=j9.tZ e a0 λ_ _ F=>yV F n5.m
 have n6:=k0.tZ e a0 λ_ _ F=>tK F k c9.m
 have n7:=k8.tZ e a0 λ_ _ F=>Am F k
 have n8:∀n,fh l.prog w K mg base "Facts" "asked" (n+3) (spT K aB (cR n))/\fh l.prog w K mg base "Facts" "enter_has" (n+3) (spT K aB (cL n)):=λn=>by
  induction n with
  |zero=>exact⟨c2.tZ (ps:=["self", "wish"]) e a0 λ_ _ _=>ZS λ_=>rfl,c3.tZ (ps:=["self", "steps"]) e a0 λ_ _ _=>ZS λ_=>rfl⟩
  |succ n ih=>obtain⟨b1,n9⟩:=ih;exact⟨c2.tZ e a0 λ_ _ F=>(yW F n6.o n9 b1 n1.o).mono ž,c3.tZ e a0 λ_ _ F=>(ux F d0.o n7.o b1).mono ž⟩
 have b1:fh _ _ _ _ _ "Facts" "asked" 15 (spT K aB mj):=(n8 12).1;have o0:=k9.Uu e a0 λ_ _ F=>vc F k b2.m d0.m b1.m
 have o1:=l0.tZ e a0 λ_ _ F=>uw F k
 have o2:=l1.tZ e a0 λ_ _ F=>uv F k
 have o3:=l2.tZ e a0 λ_ _ F=>xy F k b0.m
 have d1:=l3.tZ e a0 λ_ _ F=>wg F k b0.m
 have d2:=l4.Uu e a7 λ_ _ F=>xw F k
 have o4:=i4.vI e λ_ _ F=>FU F k d2.m
 have o5:=i5.vI e λ_ _ F=>Al F k b3.m
 have d3:=l5.Uu e a1 λ_ _ F=>uy F k o0.m o5.m o4.m
 have d4:=l6.tZ e a1 λ_ _ F=>vd F k
 have o6:=l7.tZ e a1 λ_ _ F=>tN F k
 have o7:=l8.tZ e a1 λ_ _ F=>tO F k
 have o8:=l9.tZ e a1 λ_ _ F=>xA F k
 have o9:=m0.tZ e a1 λ_ _ F=>tR F k d2.m d1.m d4.m
 have d5:=m1.tZ e a1 λ_ _ F=>wh F k d1.m o3.m
 have p0:=m2.tZ e a1 λ_ _ F=>tS F k d5.m
 have p7:=c4.tZ e a1 λ_ _ F=>wj F k d4.m
 have p8:=m3.tZ e a1 λ_ _ F=>sq F k p7.m
 have p9:=m4.tZ e a1 λ_ _ F=>ve F k o6.m
 have d6:=c5.tZ e a1 λ_ _ F=>yX F k c8.m p9.m o9.m d5.m p0.m p8.m o1.m o2.m
 have q0:=m5.Uu e a9 λ_ _ F=>wd F k d3.m
 have q1:=c6.tZ e a9 λ_ _ F=>B6 F k d6.m
 have q2:=m7.tZ e a9 λ_ _ F=>B5 F k
 have q3:=m8.tZ e a9 λ_ _ F=>xt F k o8.m
 have d8:=m9.tZ e a9 λ_ _ F=>xu F k o7.m
 have q4:=i6.vI e λ_ _ F=>R4 F
 have e0:=i7.vI e λ_ _ F=>LV F k q4.m
 have q5:=i8.vI e λ_ _ F=>LQ F k e0.m
 have q6:=i9.vI e λ_ _ F=>LM F k
 have q7:=j0.vI e λ_ _ F=>LU F k
 have e1:=j1.vI e λ_ _ F=>R3 F
 have q8:∀n,lJ l.prog w K mg base "_law_wish" (n+1) (Dw K 0 (gV n))/\lJ l.prog w K mg base "_law_steps" (n+1) (Dw K 0 (gW n)):=λn=>by
  induction n with
  |zero=>exact⟨b9.vI (ps:=["_law_draws", "_law_deep", "_law_some"]) e λ_ _ _=>ZT λ_=>rfl,c1.vI (ps:=["_law_draws", "_law_deep", "_law_some"]) e λ_ _ _=>ZT λ_=>rfl⟩
  |succ n ih=>obtain⟨e2,b4⟩:=ih;exact⟨b9.vI e λ_ _ F=>(OX F k e1.o b4 e2).mono ž,c1.vI e λ_ _ F=>(LL F k e1.o e2).mono ž⟩
 have b4:lJ _ _ _ _ _ "_law_steps" 13 (Dw K 0 yo):=(q8 12).2;have q9:=j2.vI e λ_ _ F=>LJ F k
 have r0:=j3.vI e λ_ _ F=>FY F k
 have r3:=j4.vI e λ_ _ F=>LN F k.y
 have A7:=x.ask X G;have y:ZG l.prog w K mg base "NoSign" 60:=⟨C,fI,V9,x.a,xr X G x.a,xn.M,(LO xn.F xn.T).mono ſ,xn.F.binds (by walk_at "b")⟩;have r1:=c5.Vz e a1 λ_ _ F=>LS F k c8.m y
 have r2:=c6.Vz e a9 λ_ _ F=>LK F k r1
 have v1:=n0.Vz e a9 λ_ _ F=>LP F k ⟨C4,x4.a,xr X G x4.a,z4⟩
 have v2:=s3.Vz e a9 λ_ _ F=>Jl F v1
 have v3:=s4.Vz e a9 λ_ _ F=>OZ F k o8 ⟨C2,x2.a,xr X G x2.a,z2⟩
 obtain⟨fO,fdO,aO,FO⟩:=j5;have mO:=xr X G aO;have bO:Binds K fdO ["_law_error", "_law_which"] []:=FO.binds (by walk_at "b");have r4:=j6.vI e λ_ _ F=>FV F (r2.mono ſ) q2.m q3.m d8.m q9.m xn.e (xr X G x.a) x.a xn.G (B4 FO k A7 λ_ _ _=>rfl) mO FO.kp bO
 have r5:=s1.vI e λ_ _ F=>OY F (v2.mono ſ) x4.e (xr X G x4.s) x4.a (B4 FO k (x4.ask X G) λ_ _ _=>rfl) mO FO.kp bO
 have r6:=s2.vI e λ_ _ F=>FX F (v3.mono ſ) q3.m x2.e (xr X G x2.s) x2.a (B4 FO k (x2.ask X G) λ_ _ _=>rfl) mO FO.kp bO
 exact R5 FL k q0.m q5.m b4.m e0.m q6.m q7.m q1.m r5.m r4.m r6.m r0.m r3.m q4.m
def walk{l:PySem.W.OpenLaw}{q:br}{WS:List aJ}{XP:(aJ->Option ak)->cF->Prop}{YP:cY->cF->Prop}{d:DefRec}{K:Params->aT}(hn:l.most=Y 63)(hdf:d.params.defaults=[])
  (hY:∀(w:cY) (h:cF),YP w h->(K w.params).In h)
  (F:∀(w:cY) (mg:aJ->Option ak) (fa:ax) (h:cF),(K w.params).In h->h.Ns aP mg->mg d.name=Y (.ref fa) ->
   ∃fd:eO,(∀(s:av) (u:ak),Kj s fd ⟨[u],[]⟩ [("_law_script",u)])/\∀base:cF,(K w.params).In base->base.Ns aP mg->bZ l.prog w (K w.params) mg base gK 100 fa fd ["_law_script"] (hR (K w.params) EM)) :
  PySem.W.WalkO q WS XP YP l.row.toRowW d [] (λf vs=>PySem.call f vs):=
 L2.Kz (n:=63) (k:=100) (x:= "_law_script") (CX:=gK) (sp:=λK=>hR K EM) hn ſ hdf ⟨rfl,ſ,ſ⟩ hY F (λK H a ns hl hO hS=>Si Md K H a ns hl hO hS) λ_ _ _ _ z=>z
end K21
open PySem PySem.W PyProof.Rows
structure PySem.W.Fast:Prop where(tw2161802526296626259 tw1725393504136693651 tw8767314828590586787 tw10823075483835811823 tw18099862110299455208 tw2614341843086084334 tw1498516719106012322 tw15470178218304961106 tw8149069854704908298 tw10807844180578394490 tw17365013542221553703 tw6111849809420039665 tw5991080829403703163 tw8838687233503332588 tw10819419258662793316 tw2678136892612601078 tw7111149925307271716 tw500081272502940475 tw4478781887083155528 tw1653597968787331461 tw3710005154346592344 tw7943627734162514016 tw10173305882667539379 tw1064529498215484348 tw14643639751960617822 tw1234066402576320864 tw5933693055395240091 tw6142417355276076218 tw11850721237501237069 tw7431232565577482383 tw13527242135201764023 tw16732008467758022639 tw6947609780586712227 tw13632104588591357867 tw17252584540243733610 tw13527704864901179875 tw5670276220221106054 tw17847882227869445535 tw17532408795374663699 tw6811336043178292373 tw14839394191328843912 tw1724682599818642964 tw16435747111339758162 tw16799321448944126954 tw8652248448985416539 tw7224469989087899346 tw6434692995535284377 tw1267935400784249026 tw17539960716419663435 tw13551104840823699897 tw9945461403093385977 tw10882577918460320817 tw2971539663774277732 tw16029178395391120099 tw11851658222555304838 tw9409521420104999296 tw3898724618857653567 tw13720322379424704992 tw7021409126686029941 tw17829450965699106093 tw13845205419886693738 tw2722708608271517304 tw5498842443705232397 tw11331627478484771113 tw11892842246765608054 tw14420974207308936179 tw2088775593138665703 tw8996778876073840305 tw3380938384447514752 tw3418426426725033486 tw13805255595454108955 tw5317802750508846065 tw13702241417111344640 tw8287594357071270984 tw3463526574917949024 tw14593436355488120261 tw10922842580783693759 tw11269747486375654061 tw2316300434104501176 tw330064647070238853 tw551247446397775519 tw4841921535019394911 tw200632910320921121 tw13168592845922617670 tw16095626515389573487 tw17644602090781012746 tw4616996994949094082 tw16536021765180835454 tw850933602956574259 tw319520644836710840 tw6803300627105208633 tw8848640800227870191 tw496205689304443216 tw17294062446365901182 tw1776423428058750789 tw15527180059867704021 tw9152405338647574031 tw4050157961695744351 tw10627267099493602234 tw11858991905650857640 tw16534497238953055835 tw2920046935693704263 tw9543355478200840044 tw4915652866844347262 tw508876874449814228 tw8936073996781759747 tw146368310748761996 tw14796830219589745058 tw14520389835538975482 tw4061721648301412626 tw14249167504929162966 tw6478336310064222457 tw9778909186001773159 tw17013740706904706940 tw13454746226973195498 tw13906918035676137310 tw3271232956198118081 tw10951766259293182345 tw6663160930104085748 tw10859498650169798622 tw15907875716000746746 tw5744216009196722100 tw3924716550350994691 tw15135069612769279754 tw11525782781663493252 tw9856144336216659972 tw8541071859965022339 tw10247044275497818853 tw2906402506700044063 tw8646829784527029873 tw40899313373992441 tw9373424941384410308 tw10538167364980262654 tw4842206651446870350 tw1742040580083053505 tw15012230619123583350 tw2733699720480049276 tw18439749365215839473 tw1726471592675404789 tw9701791139205100556 tw14600724876955060495 tw9834299644527712215 tw145296890123783950 tw17764997396234736250 tw1076511257067660608 tw13407070757550085343 tw13812366125356144981 tw455587921749388294 tw13659163301864988992 tw11915480423223751389 tw2014744106178250612 tw2436368313989326062 tw8631725367822520229 tw7171322946243221609 tw14683830207013789447 tw5918636244436808475 tw4470142576900757979 tw1347067916209145785 tw3423982724065375642 tw12518448850016581256 tw15168196988095862835 tw17082762528431322189 tw13430368319890049725 tw1979359603518168062 tw11142431284988733006 tw1333063459033071866 tw11155193827006939306 tw8784388634567580487 tw16261688444156579585 tw9200297306860145371 tw6408348923783956491 tw3924240267544287966 tw9706084422834620522 tw1278345672020896452 tw17179296357515002115 tw13146382494997247193 tw7673090789064331766 tw2498390681871192273 tw6419561594137137996 tw16170657626865264610 tw4823341258249558960 tw1162349305394085843 tw659352454477115856 tw14146388828967780133 tw15463418957864854717 tw15218756528977394386 tw15616357728500617874 tw7658778593659715525 tw8059158189435588364 tw8927740311196288499 tw12622419276074287080 tw8190889420798994881 tw2563643900264630859 tw15830361452393676962 tw16221938288619270007 tw11889657762687428639 tw16525444810860978170 tw16004154245809246156 tw14618873794834243350 tw7924967658394308600 tw7105507715089613983 tw15788959018170347546 tw10040308841336883370 tw9251326367533880163 tw8358905073663401693 tw13004270948902397774 tw5208074903902100898 tw5094664110207346689 tw894283851168073208 tw6026818681610488000 tw2802022624590038069 tw1358952435118798672 tw13520843246932848462 tw12876000637089741991 tw8848426615120197763 tw3524121899201097694 tw2235777362261097951 tw3336862165109721909 tw13743515161935499537 tw10352908891391527644 tw7951787641520252056 tw11360672127082275633 tw16749384329866515236 tw1458694856052576016 tw13362841151589482134 tw614762686787537902 tw6549349566578840505 tw404469902716680705 tw13954502882341903986 tw7735616481423382375 tw9787563392512588715 tw1637947606939596119 tw13316686684706005754 tw17127114076617565155 tw5741765029460911389 tw13402584941316943312 tw15519835907518284625 tw13233749800810311015 tw12092036878203551464 tw5870533955536711910 tw16872699059866112927 tw10783368920115441442 tw3099258034574333379 tw3387715618616327995 tw2146716713257648406 tw5758945838584023638 tw17063117089910190418 tw15760263577757199154 tw2432220436458676133 tw11414469225187581595 tw10683378371126749240 tw17618575506833159060 tw7031208677304596375 tw5724899162570129380 tw1770335195388688054 tw17605549604877592697 tw15880513070414516499 tw15152057621316828111 tw2817653284709992446 tw2683540243331897517 tw15297915829418471878 tw4971957948906728468 tw3755496281786452894 tw3506271992000861952 tw4560149977115365760 tw16209790644659071375 tw5032457558765049464 tw7585045958915420529 tw14488128511874525610 tw6747737566925707278 tw7876588152179308405 tw18403519472982522910 tw250514566408479494 tw16322617385612262762 tw9001168622131473562 tw3591135125921682517 tw11953721491090024188 tw17013353903024633891 tw94815602581408586 tw15759945886984080895 tw16931074619918425358 tw9058934516699894852 tw8672646495733562047 tw14234255271954453628 tw11786465549617166836 tw4313836051577217526 tw5148002141953776316 tw15843426125715088899 tw5155232571642704288 tw11748779329106273204 tw11916690933295748553 tw15483464106249570115 tw15677946745811714263 tw2671521015857267929 tw14921563708818895146 tw10187857109921117446 tw16276728728538857980 tw12740488090292917099 tw18147523899006688902 tw7193055274766773269 tw8972701060305580755 tw2980857029985236669 tw6528451299577684172 tw2785403369440844586 tw2291665285507091389 tw8990499482682270433 tw6987360980196037907 tw1895689028650885478 tw14986264278126282609 tw8653901034093381600 tw4504907113032555349 tw1250818468848477798 tw13043763248137093559 tw834318493719291266 tw9021218416488929314 tw8214258780717781996 tw17396000112622061160 tw16415081233352608770 tw4417160119306525752 tw9726550376556875961 tw15238696127591070896 tw6538070873587895655 tw1681710409950143891 tw99794653324245583 tw6584778004372561415 tw13830837584531358068 tw14489356383701596429 tw4204363605728928903 tw1512761060752955665 tw1623889104466944304 tw7597590802686523516 tw2676785461512907224 tw10601420157338973219 tw6250873591088445175 tw2764686195547105807 tw12128535411351312559 tw13602423849256745103 tw7421796379402711732 tw16198308578276288677 tw2508918039156805242 tw10125679103925818619 tw17251093604252222815 tw4087790941811671692 tw1851023478402832620 tw1787342395807162809 tw16509315670606611065 tw10313735855033400569 tw4400913571072924976 tw16354825084133135596 tw2628764059608606861 tw6230451749539972605 tw15660377307261624592 tw4331454900524891061 tw5733903556388168792 tw6147871688597295968 tw3844314761419400577 tw10206654700123950420 tw16785107239611564392 tw7955832284879336564 tw12347763204869217382 tw18409454855276448118 tw1502590066629605740 tw6983821565446897601 tw2754187976316451163 tw17210536826206024459 tw11365506533743449723 tw790815132426392881 tw1786182609025005776 tw14458697552423007271 tw7893357776871255925 tw13529612856794070083 tw10196743150500762247 tw15336839241512521683 tw12806171057509197003 tw859198871354169002 tw6589306718610055834 tw8917975018611806504 tw14011383088156426700 tw4258483601219447488 tw13591209412470358117 tw212509930902371671 tw8792820228571021054 tw6078439399772051719 tw13447376517898436030 tw11695941673844828056 tw649964420442501392 tw7775559550059379415 tw8847355758769150346 tw681221228398677339 tw299008761949297398 tw3665884093911888807 tw981816214155598065 tw7137589306905724304 tw16920939249482159623 tw8816370169335950224 tw1185546464768390481 tw16721486962106902946 tw13092974624811146102 tw17460127990679524240 tw7798683862157915018 tw5737461369085639741 tw4546241262271367961 tw12661167844917981926 tw7343715744328420608 tw2360421871525887853 tw13684604475541669517 tw16553505919634383850 tw15080001855166202180 tw14985363322970786384 tw7147524049980215237 tw10794177751223122323 tw12330375564470232521 tw7758199722794245242 tw3421793626801861279 tw3216649632166324813 tw3380283948423728133 tw2508950830861923603 tw13112681987293241727 tw3607359531709140568 tw11312908612321192250 tw8648844290134032209 tw4156188823714788060 tw14129088757570079089 tw16499894280374186226 tw728338562373392307 tw7147998563079732397 tw281855317497592695 tw1441189992259134 tw2153143547414236607 tw528290347852044381 tw7846276951525479717 tw15236836769016614710 tw18299301056831327563 tw4554313330527718502 tw1542400087680988126 tw9674882643148738118 tw9307121541056860456 tw10203723166596168802 tw18255175863976861589 tw1328387257880519974 tw6314624887084530704 tw12945563128848955190 tw694735798141147991 tw15863816241401067180 tw6889558680660960885 tw3472689018379579990 tw3857672262298222805 tw11968274864470864311 tw3649341607156402168 tw18318487804481228798 tw16677921029583662895 tw12421028925801821715 tw9848953353313923517 tw10518356873283713238 tw12146050669709770039 tw15846680632356083154 tw10182880318184076411 tw2891718541649184741 tw13698005913680070311 tw10269488730029445709 tw6870183427821189508 tw580801521136147710 tw14731929026275525517 tw11109539555565749165 tw11650228921734181695 tw8965781565787202419 tw13086475600525533681 tw18016404814596268545 tw13966992356646450421 tw11408474728954653553 tw18216217524633135318 tw2444149445717682055 tw16081762594602295952 tw149064138256482694 tw14922376334341594379 tw1911919368018523938 tw10723593537699980514 tw10532117045584150048 tw2947795120784871837 tw4580636062567357886 tw15680892950929899304 tw16452363092876450772 tw5891187244142205685 tw7656125632194513767 tw12901380003583970299 tw11151416649581760849 tw5977605278828028493 tw2253411428611364352 tw13001247352998281546 tw6264942151384933292 tw10709841797908721359 tw612307976487032130 tw13533048163030929380 tw9660935458110996236 tw3952382945780254733 tw839686590810775383 tw9111368160490478320 tw14069028794607504167 tw4038288475483098979 tw8549264722162417773 tw4559642750434818768 tw3594932196385388749 tw15745190990020832927 tw16315689961006663841 tw10625496104965438291 tw10340240540231217945 tw14883693278721461300 tw15158005911503198299 tw4846861297977647594 tw10669290490413751455 tw14540663883536955097 tw14499994060935250540 tw6471890422119675406 tw13982479235507765108 tw16569854175010191575 tw15966273929589462928 tw10877222899015378396 tw2969310280182078539 tw4694445356423515567 tw8375505308538688024 tw16740007039805001506 tw874783943496116441 tw9817392733103138122 tw1449262531345327481 tw13664730012665740406 tw13754620027918135983 tw10804106984409152649 tw1574348376220403459 tw7738926584469725717 tw164586078663848012 tw3346960663712911875 tw6436758181024384934 tw13407801380093072835 tw9438760039950627852 tw12886610823858926753 tw2490178115935509046 tw12452022826477569065 tw10900614295941845118 tw1481468555729107315 tw2378509881763281699 tw4080670580458329414 tw17862382065683784983 tw1166423235529555340 tw17494568277736870180 tw1302026089270737605 tw8809751672522220722 tw17004992397663439459 tw10191515101613477406 tw17368650582282071522 tw8297037815177790041 tw1550312804542642464 tw14387383034286310425 tw4727723366261621123 tw11877776673056051794 tw6098671213447882916 tw7131123355471152727 tw5325962255729917577 tw12142817798411001699 tw6350779571615132040 tw5058925564044305476 tw145087018775316510 tw15858724460487272043 tw5136690840308912881 tw13188626998533537325 tw16165710826050397282 tw12757953891802937267 tw7684177516612158913 tw13928230358685293649 tw9494823362365995630 tw7892868763801852470 tw2264782733179891244 tw9241977832608005617 tw4038483237827502184 tw15366546177683339095 tw17739150299332201071 tw7269631192926971575 tw2523446186389634301 tw7666910046745193131 tw18242514813191119055 tw4466271534201326594 tw7396379974466536586 tw4732477714652125344 tw18319013805642342375 tw18134404010457525518 tw6598960534523300968 tw16331629700845988915 tw10407049605689330085 tw8479163200235089115 tw9775930444015630331 tw11255251301132437102 tw1153928406642413688 tw8815913536048286864 tw17137969518923780245 tw16258781875401549038 tw9199855458542128347 tw3382059158606863864 tw505132192696064092 tw6016959717244751873 tw17051859992008090084 tw17189695893309455004 tw10535630942500218975 tw2996564955353274243 tw14631757344048013182 tw11829730235851126095 tw7641633829491807877 tw16081360635336884523 tw18023106872585623173 tw16724268352259414334 tw18280458682318950053 tw15542492463395371528 tw11299211762243154569 tw12072132413973980217 tw11241613903412762785 tw14772127367907781885 tw13400113060552745562 tw11661026152781668875 tw786193431268222622 tw16711867762691904658 tw16384567575400899835 tw2893069969265892195 tw5292229756759173048 tw9888123300830524934 tw8209999023358665821 tw18021600144472813264 tw5540129154322074453 tw16085739490643660206 tw6425385217515808854 tw11324332932410923973 tw8840190681129553727 tw12817994666598977025 tw7054407124402330850 tw15304931169336234506 tw7041558526381652190:True)
set_option maxRecDepth 100000 in
set_option maxHeartbeats 0 in
theorem PySem.Challenge.cw_earlysift_k08_what_a_sift_refuses_holds : PySem.Challenge.rw_earlysift_k08_what_a_sift_refuses.Holds := by
  w_on; o_law; k_head; (case hw => w_witness2)
  k_fill
  refine K21.walk (l := PySem.Challenge.rw_earlysift_k08_what_a_sift_refuses) rfl rfl (λw h y => PySem.W.kIn_of y) ?F
  case F =>
    intro w mg fa h KX G hmg
    refine' K21.TU KX G hmg ?p1 ?p2 ?p3 ?p4 ?p5 ?p6 ?p7 ?p8
    (case p1 => and_intros <;> exact K21.WQ (by k_is) (by k_is) (by k_is) (by k_is) (by k_is) (by k_is) (by k_is))
    (case p2 => repeat' first |refine K21.ac (by dsimp only; exact K21.WD (by k_is) (by k_is)) ?_ |exact nofun)
    (case p3 => repeat' first |refine K21.ac (by k_is) ?_ |exact nofun)
    (case p4 => and_intros <;> exact K21.WK (by k_is) (by k_is) (by k_is) (by k_is))
    (case p5 => and_intros <;> exact K21.WG (by k_is) (by k_is) (by k_is) (by k_is) (by k_is) (by k_is))
    (case p6 => exact K21.Wu (K21.Nk (by k_is) (by k_is) (by kernel_rfl) (by k_is) (by k_is) (by k_is) (by k_is) (by k_is) (by k_is) (by k_is) (by k_is) (by and_intros <;> first |kit_is |exact K21.Ni (by k_is) (by kit_is))) (by k_is) (by kernel_rfl) (by k_is) (by k_is) (by k_is) (by k_is) (by k_is) (by kernel_rfl) (by k_is) (by k_is) (by k_is) (by kernel_rfl))
    (case p7 => exact K21.QZ (K21.Nk (by k_is) (by k_is) (by kernel_rfl) (by k_is) (by k_is) (by k_is) (by k_is) (by k_is) (by k_is) (by k_is) (by k_is) (by and_intros <;> first |kit_is |exact K21.Ni (by k_is) (by kit_is))) (by kernel_rfl) (by k_is))
    (case p8 => exact K21.QZ (K21.Nk (by k_is) (by k_is) (by kernel_rfl) (by k_is) (by k_is) (by k_is) (by k_is) (by k_is) (by k_is) (by k_is) (by k_is) (by and_intros <;> first |kit_is |exact K21.Ni (by k_is) (by kit_is))) (by kernel_rfl) (by k_is))
