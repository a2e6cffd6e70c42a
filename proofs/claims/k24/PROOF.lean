import PyProof.Rows.All
import Wide.All
import OpenK.AllK
import Wide.FinOn
import Lean
import PyProof.EqAt
import PyProof.EqKinds
import PyProof.TupleCall
import PyProof.NeKinds
import PyProof.StrCalls6
import PyProof.FString5
import PyProof.Rows.StrClose
import PyProof.Rows.BitMore
import PyProof.Rows.SortWalk
import PyProof.ListStr
import PyProof.Rows.SeqCalls
import PyProof.DictItems
import PyProof.SumWalk
import PyProof.Rows.SumGenD
import PySem.Challenge.RW_earlysift_k24_whole_woken_goes_on_alike
open Option renaming some->Y,none->M,bind_eq_some_iff->aa,bind_some->ai,map_eq_some_iff->aj,map_some->d9,map->v8,elim->Gf
open Bool renaming true->Z',false->Z_,and_eq_true->aR,false_ne_true->eH,false_eq_true->ig,or_eq_true->wj,and_false->LP
open Classical renaming byContradiction->ae
open PySem.Str renaming ofString->af
open PySem renaming wpAny_bind->ah,starEach->ao,Value->aq,Shared->aw,Addr->ax,Str->aE,wpAny_pure->aF,mainGlobals->aT,model->aV,Program->aZ,sizeLine->a_,wpAny->be,attributeBase->bQ,swapsWith->bU,backTo->bX,keywordEach->cq,foldedSetIterable->cw,Heap->cy,World->cC,binaryOp->cT,FuncData->cX,wpAny_mono->dP,wpAny_passesOwn->dR,backToKw->eM,cellsFrom->fy,Around->fF,wpAny_holding->fJ,behindInMarks->fK,bootBuiltins->fQ,wpAny_Call_Name_kw->gK,wpAny_truthy_bool->g_,getMethod->hG,compareOp->hI,wpAny_ite_false->h_,holding->iC,sizeLine_eq->iG,wpAny_loadPart_at->jq,wpAny_field->jr,standAt->jQ,callWith->j3,sysModules->kq,wpAny_execs_nil->kD,wpAny_pyIter_list->lg,Keyword->lh,codeAny->m9,rawInt->nT,Stmt->nW,wpAny_setField->oV,codeAny_mono->oW,wpAny_call->qs,cLine->qL,ExcBaseFacts->tw,PassesOwn->t6,wpAny_setField_rec->uP,wpAny_loadPart->uQ,tupleKind_room_in1->uR,NameKind->uT,wpAny_standAt->xC,call_meets->AE,assignEach->AF,typeOf->DQ,sliceBounds->DR,setFlight->D0,wpAny_attempt->Ga,call->HX,wpAny_newObj_type->LG,getItem->LH,callerA->LI,BindsTo->LQ,plainObj_wpAny_Assign_Attribute->LZ,wpAny_execs_cons->O',tupleKind->Pa,noFill_tuple_add->Pc,Result->Pe,subscripted->Pp,excClassObj->Pq,Model->Pu,letOwnedTupleGo->RN,wpAny_seqItems->V_,wpAny_ite_true->V'
open PySem.Heap renaming get?_push_of_some->ak,lt_size->aI,get?_push_size->bg,get?_update_other->bC,get?_update_self->cM,size_push->eO,SameBut->fR,size_update->yp
open List renaming getElem?_eq_some_iff->au,getElem?_set_ne->av,length_map->aD,mem_cons_self->aJ,replicate->aM,mem_append_right->aU,getElem?_set_self->bj,length_cons->bo,getElem?_eq_getElem->bp,mem_cons->br,getElem?_map->bt,map_cons->bx,length_append->bB,mem_append->bG,mem_cons_of_mem->bI,mem_append_left->bJ,append_nil->bL,append_assoc->b8,size_toArray->b_,perm_append_comm_assoc->cj,map_append->cm,range->cH,mem_singleton->cW,nil_append->dG,mem_map->dN,getElem?_append_left->dQ,zip_cons_cons->ez,set_cons_zero->eC,set_cons_succ->eD,all_eq_true->eN,all_cons->fm,not_mem_nil->fZ,length_singleton->il,drop_eq_getElem_cons->iK,nodup_append->iX,forall_mem_cons->iY,getElem?_replicate->jt,find?_cons->j4,lookup_cons->la,cons_append->lb,mem_filter->lP,length_nil->lQ,getElem?_cons_succ->l6,length_drop->nZ,filterMap_cons->pT,map_map->qu,all_nil->qv,pairwise_cons->qM,getElem?_append_right->qN,pairwise_iff_getElem->sh,getElem?_eq_none_iff->si,length->sW,length_take->uU,drop_length->uV,zipWith->wa,map_set->wb,all_map->wc,of_mem_zip->we,dropLast_eq_take->xD,getLast?_concat->yn,dropLast_concat->yo,replicate_succ->AG,map_congr_left->AH,map_take->AN,find?_append->DS,zipIdx_cons->F7,eq_nil_of_length_eq_zero->Gh,nodup_cons->H_,mapM_cons->LL,map->LM,getD_eq_getElem?_getD->LN,getLast?_eq_some_iff->L0,getLast?_eq_getElem?->L1,map_drop->Pf,any_cons->Pg,take_of_length_le->RP,range_succ_eq_map->RQ,map_id'->RS,drop_eq_nil_of_le->RT,replicate_succ'->Wa,lookup->Wb,filter->Wc,filter_sublist->WY
open PySem.W renaming Frag->aG,findIn->iJ,nsIn->js,kitOne->jO,hasDictIn->oH,keepIn->pR,kia_one->qQ,instObj->Gd,emptyDict->Ge,mg_of->JW,takerIn->Pb
open Nat renaming le_refl->aH,lt_of_lt_of_le->bw,le_trans->bz,ne_of_lt->bH,zero_le->dk,le_of_lt->fA,ne_of_gt->gj,le_add_right->ia,lt_irrefl->i_,le_succ->jG,lt_succ_self->nY,mul_le_mul_right->oX,le_of_eq->qt,lt_succ_of_lt->sU,le_succ_of_le->sV,zero_add->v_,eq_of_testBit_eq->ym,lt_of_le_of_lt->Bk,testBit_and->HZ,min_eq_left->H0,testBit_or->LK,min_self->RO
open PySem.Value renaming ref->aQ,none->aS,type->cg,bool->uS,int->Pd
open Ne renaming symm->bE
open Int renaming emod_lt_of_pos->cu,emod_nonneg->cG,eq_ofNat_of_zero_le->du,toNat_natCast->ke,lt_trans->wd,fdiv_eq_ediv_of_nonneg->LO,le_refl->Wd
open Option.some renaming inj->cB,injEq->sT
open PyProof.Rows renaming wpS_bind->cY,arrOf->dr,wpS_pure->gQ,callWith_type1->gZ,envOfC->l5,callWith_builtin1->nX,wpS_forRange->xU,pairsOf->xV,AllBare->Bm,pendingOf->D1,seqObj->Gb,pairsOf_size->Gc,IntsAre->Gi,boot_isinstance->HY,nat_or_add_and->JY,listItems_at->WW,failedOf->WX
open Pure renaming pure->dn
open PySem.PassesOwn renaming never->dS
open False renaming elim->eE
open PySem.Builtin renaming bitOr->eP,bitNot->uW,bitAnd->uX
open Sum renaming inr->fM,inl->JX
open PySem.Data renaming fields->f7,dict->Pj
open PySem.F renaming plainAttrs_list->gw
open Function renaming comp_def->gM
open Array renaming getElem?_eq_some_iff->kE,find?_toList->lY,getElem?_setIfInBounds_ne->nU,perm_iff_toList_perm->qO,findIdx?_eq_some_iff_getElem->Bl,getElem?_eq_none->RU,getElem?_toList->S8
open PySem.Txt renaming slice->kF,slice_le->LJ
open List.Sublist renaming refl->mS
open PySem.Builtin.List renaming listTooLong->mT,listItems->AJ
open Prod.mk renaming injEq->oI
open PySem.NameKind renaming free->qE,cell->Gg
open True renaming intro->vY
open Or renaming inl->vZ,inr->Bj
open List.Perm renaming of_eq->wg
open ForInStep renaming yield->wh
open PySem.Calls renaming callWith_builtin->AI,spliced_cons->Ia,Name_function_global->We
open PySem.Heap.IsList renaming push->Ph
set_option bootstrap.genMatcherCode false
set_option compiler.extract_closed false
set_option genSizeOfSpec false
noncomputable section
set_option maxRecDepth 100000
set_option maxHeartbeats 4000000
open PySem.W (Frag mg_of nsIn mg_none_of findIn kia_one fnOf emptyDict keepIn instObj kitOne codeIn plainGet hasDictIn plainOver takerIn makesIn methodObj lookIn)
open PySem.F (plainAttrs_list)
set_option Elab.async false
set_option tactic.hygienic false
set_option linter.all false
theorem ſ{p:Prop}(h:p:=by decide):p:=h
theorem ž{p:Prop}(h:p:=by first|lia|omega):p:=h
theorem Ž{p:Prop}(h:p:=by simp):p:=h
theorem ż{p:Prop}(h:p:=by simp_all):p:=h
theorem Ż{p:Prop}(h:p:=by kernel_rfl):p:=h
theorem ź{p:Prop}(h:p:=by solve_by_elim):p:=h
theorem Ÿ{p:Prop}(h:p:=by grind):p:=h
theorem ų{p:Prop}(h:p:=by decide +kernel):p:=h
theorem Ű{p:Prop}(h:p:=by first|exact vZ rfl|exact Bj (vZ rfl)|exact Bj (Bj rfl)):p:=h
def ű:Lean.Syntax:=Ű._auto_1
theorem Ů{p:Prop}(h:p:=by walk_at "b"):p:=h
def ů:Lean.Syntax:=Ů._auto_1
theorem Ŭ{p:Prop}(h:p:=by rfl):p:=h
def ŭ:Lean.Syntax:=Ŭ._auto_1
def ū:Lean.Syntax:=ſ._auto_1
theorem ũ{p:Prop}(h:p:=by intro _;rfl):p:=h
def Ū:Lean.Syntax:=ũ._auto_1
theorem ŧ{p:Prop}(h:p:=by first|exact .inl rfl|exact .inr rfl|assumption):p:=h
def Ũ:Lean.Syntax:=ŧ._auto_1
theorem ť{p:Prop}(h:p:=by intro a;simp_all):p:=h
def Ŧ:Lean.Syntax:=ť._auto_1
theorem ţ{p:Prop}(h:p:=by decide +kernel):p:=h
def Ť:Lean.Syntax:=ţ._auto_1
def Ţ:Lean.Syntax:=ž._auto_1
theorem Š{p:Prop}(h:p:=by exact λa a=>rfl):p:=h
def š:Lean.Syntax:=Š._auto_1
namespace L2
open PySem PySem.Spec PyProof.Rows
abbrev lO:=Sum Int aE
noncomputable def BO:lO->aq->Bool
 |.inl k,v=>Value.isInt k v|.inr x,v=>Value.isStrOf x v
noncomputable def aa6(w:cC):lO->Int
 |.inl k=>hashInt k|.inr x=>hashStr w x
theorem gU:∀ {k:lO}{v:aq},BO k v=Z'->(∃i t,k=JX i/\v=Pd i t)\/(∃x t,k=fM x/\v=Value.str x t)
 |.inl i,v,h=>by obtain⟨t,e⟩:=Value.isInt_shape h;exact .inl ⟨i,t,rfl,e⟩
 |.inr x,v,h=>by obtain⟨t,e⟩:=Value.isStrOf_shape h;exact .inr ⟨x,t,rfl,e⟩
def KU(i:Int)(t:Tok):BO (.inl i) (.int i t)=true:=by simp[BO,Value.isInt]
def KQ(x:aE)(t:Tok):BO (.inr x) (.str x t)=true:=by simp[BO,Value.isStrOf]
def U8(a b:Int):decide ((JX a:lO)=JX b)=(a==b):=by
 grind
def U5(a b:aE):decide ((fM a:lO)=fM b)=decide (a=b):=by
 simp_all
def U7(a:Int)(b:aE):decide ((JX a:lO)=fM b)=false:=decide_eq_false λq=>nomatch q
def U6(a:aE)(b:Int):decide ((fM a:lO)=JX b)=false:=decide_eq_false λq=>nomatch q
def jI(prog:aZ)(w:cC):PySem.KeyKind prog w lO where
 is:=BO
 hash:=aa6 w
 inj:=λv a b l f=>by
  rcases gU l with⟨i,t,rfl,rfl⟩|⟨x,t,rfl,rfl⟩
  .rcases gU f with⟨j,u,rfl,e⟩|⟨y,u,rfl,e⟩
   .injection e with e1 _;rw[e1]
   .exact nomatch e
  .rcases gU f with⟨j,u,rfl,e⟩|⟨y,u,rfl,e⟩
   .exact nomatch e
   .injection e with e1 _;rw[e1]
 byValue:=λk v h=>by
  rcases gU h with⟨i,t,rfl,rfl⟩|⟨x,t,rfl,rfl⟩<;>rfl
 pyHash:=λc h=>by
  rcases gU c with⟨i,t,rfl,rfl⟩|⟨x,t,rfl,rfl⟩
  .exact wpAny_pyHash_int h
  .exact wpAny_pyHash_str h
 eqBool:=λg c h=>by
  rcases gU g with⟨i,t,rfl,rfl⟩|⟨x,t,rfl,rfl⟩
  .rcases gU c with⟨j,u,rfl,rfl⟩|⟨y,u,rfl,rfl⟩
   .rw[U8]at h;exact wpAny_eqBool_int h
   .rw[U7]at h;exact SeqAt.EqAt.int_str i t y u _ _ _ _ h
  .rcases gU c with⟨j,u,rfl,rfl⟩|⟨y,u,rfl,rfl⟩
   .rw[U6]at h;exact SeqAt.EqAt.str_int x t j u _ _ _ _ h
   .rw[U5]at h;exact wpAny_eqBool_str h
 «strs» :=λk x t v h=>by
  rcases gU h with⟨i,u,rfl,e⟩|⟨y,u,rfl,e⟩
  .exact nomatch e
  .injection e with e1 _
   subst e1
   cases v<;>rfl
def EW(prog:aZ)(w:cC)(i:Int)(t:Tok):(jI prog w).is (.inl i) (.int i t)=true:=KU i t
def EV(prog:aZ)(w:cC)(x:aE)(t:Tok):(jI prog w).is (.inr x) (.str x t)=true:=KQ x t
inductive V where
 |dW|bl (b:Bool)|int (i:Int)|str (x:aE)|Ry (b:Array UInt8)|Pm (b:UInt64)|ref (a:ax)|ty (n:String)
 deriving DecidableEq
def RelV:V->aq->Prop
 |.dW,u=>u=aS|.bl b,u=>u=uS b|.int i,u=>∃t,u=Pd i t|.str x,u=>∃t,u=Value.str x t|.Ry b,u=>∃t,u=Value.bytes b t|.Pm b,u=>∃t,u=Value.float b t|.ref a,u=>u=aQ a|.ty n,u=>u=cg n
abbrev cb:List V->List aq->Prop:=Paired RelV
def cb.length{xs:List V}{a:List aq}(r:cb xs a):xs.length=a.length:=Paired.length r
theorem cb.get:∀ {xs:List V}{a:List aq}{i:Nat}{x:V},cb xs a->xs[i]?=Y x->∃u,a[i]?=Y u/\RelV x u
 |_,_,_,_,.nil,e=>by simp at e
 |_,_,0,_,.cons r _,e=>by simp_all
 |_,_,i+1,x,.cons _ t,e=>by obtain⟨u,J,z⟩:=cb.get (i:=i) (x:=x) t ż;exact⟨u,ż,z⟩
theorem cb.set{u:aq}(r:RelV x u):∀ {xs:List V}{a:List aq}(i:Nat),cb xs a->cb (xs.set i x) (a.set i u)
 |_,_,_,.nil =>.nil|_,_,0,.cons _ t =>.cons r t|_,_,i+1,.cons q t =>.cons q (cb.set r i t)
def cb.append{xs ys:List V}{b a:List aq}(h:cb xs b)(s:cb ys a):cb (xs++ys) (b++a):=by
 induction h with|nil=>exact s|cons r _ ih=>solve_by_elim
theorem cb.take:∀ {xs:List V}{a:List aq}(n:Nat),cb xs a->cb (xs.take n) (a.take n)
 |_,_,0,_ =>.nil|_,_,_+1,.nil =>.nil|_,_,n+1,.cons r t =>.cons r (cb.take n t)
theorem cb.drop:∀ {xs:List V}{a:List aq}(n:Nat),cb xs a->cb (xs.drop n) (a.drop n)
 |_,_,0,r=>r|_,_,_+1,.nil =>.nil|_,_,n+1,.cons _ t=>cb.drop n t
def pL:Option V->Option aq->Prop
 |some v,Y u=>RelV v u|none,M=>True|_,_=>False
def KV{a:Type}:List (a×V)->List (a×aq)->Prop:=Paired λ(p:a×V) (q:a×aq)=>p.1=q.1/\RelV p.2 q.2
noncomputable def kV:lO->V
 |.inl i =>.int i|.inr x =>.str x
inductive HO where
 |lst (xs:List V)
 |tup (xs:List V)
 |dK (gO:List (lO×V))|dT (gO:List (List lO×V))
 |set (S:Int->Bool) (n:Nat)
 |ins (C dx:ax) (fs:List (aE×V))
 |Z (x:ax)
 |xd (fs:List (aE×V))
 |met (f x:ax)
 |rng (lo hi:Int)
 |LV (o:Obj) (u:HO)
 |Tj (ps:Array aq)
 |ext (φ:cy->Prop)
abbrev Hp:=ax->Option HO
noncomputable def dD(H:Hp)(a:ax)(o:HO):Hp:=λb=>if b=a then Y o else H b
theorem aW{a:ax}{o:HO}:dD H a o a=Y o:=by unfold dD;rw[if_pos rfl]
theorem aP{a:ax}{o:HO}(h:b≠a):dD H a o b=H b:=by unfold dD;rw[if_neg h]
def Pz{o:HO}:dD (dD H a o) a u=dD H a u:=by
 grind [dD]
def acU{H:Hp}{a:ax}(h:H a=Y o)(h':H b=Y u)(d:o≠u):a≠b:=by
 grind
def bF{H:Hp}(h:H a=Y o)(h':H b=M):a≠b:=by
 grind
section
variable (P:aZ)(w:cC)
def jA(H:Hp)(h:cy)(a:ax):HO->Prop
 |.lst xs=>xs.length<=a_/\∃(g:List aq) (b:Nat),cb xs g/\h.get? a=Y { cls :=.type "list",data :=.seq g.toArray b }|.tup xs=>xs.length<=a_/\∃g:List aq,cb xs g/\IsTup h a g.toArray|.dK e=>e.length<=a_/\(a==kq)=Z_/\∃l,KV e l/\h.DictOf (jI P w) a l| .dT e=>e.length<=a_/\(a==kq)=Z_/\∃xs:List (List lO×ax×aq),
   Paired (λ(p:List lO×V) (c:List lO×ax×aq)=>p.1=c.1/\H c.2.1=Y (.tup (p.1.map kV))/\RelV p.2 c.2.2) e xs /\
   ∃o es m,h.get? a=Y o/\o.ExactDict/\o.data=.dict es m/\es.toList=xs.map (entryOfKey (Pa (jI P w)))/\(xs.map (·.1)).Nodup
 |.set S b=>h.SetOf (intKind P w) a S b| .ins C dx j=>H dx=Y (.Z a)/\j.length<=1000/\dx≠a/\h.get? a=Y (Gd C dx) /\
   ∃mA,h.Ns1 dx mA/\(∀f,pL (j.lookup f) (mA f))/\PySem.Within mA (j.map (·.1))
 |.Z _=>∃o,h.get? a=Y o|.xd j=>∃mA,h.Ns1 a mA/\∀f,pL (j.lookup f) (mA f)|.rng n L=>∃t u v,h.get? a=Y { cls :=.type "range",data :=.fields #[.int n t,.int L u,.int 1 v] }|.LV o u=>h.get? a=Y o/\jA H h a u|.Tj q=>h.get? a=Y { cls :=.none,data :=.fields q }|.met f x=>h.get? a=Y (methodObj (.ref f) (.ref x))
 |.ext k=>k h/\(∃o,h.get? a=Y o)/\∀J z:cy,k J->(∀o,J.get? a=Y o->z.get? a=Y o)->k z
def mZ(H:Hp)(h:cy):Prop:=∀a o,H a=Y o->jA P w H h a o
end
section
variable {P:aZ}
def jA.lt(x:jA P w H h a o):a<h.objs.size:=by
 cases o with
 |lst xs=>obtain⟨_,_,_,_,e⟩:=x;exact aI e
 |tup xs=>obtain⟨_,_,_,p⟩:=x;exact p.lt
 |set S b=>obtain⟨o,_,_,_,e,_⟩:=x;exact aI e
 |ins C dx j=>obtain⟨_,_,_,e,_⟩:=x;exact aI e
 |Z y=>obtain⟨_,e⟩:=x;exact aI e
 |xd j=>obtain⟨_,⟨_,_,_,e,_⟩,_⟩:=x;exact aI e
 |rng n L=>obtain⟨_,_,_,e⟩:=x;exact aI e
 |LV k u=>obtain⟨e,_⟩:=x;exact aI e
 |Tj q=>exact aI x|met f y=>exact aI x|ext g=>obtain⟨_,⟨_,e⟩,_⟩:=x;exact aI e
 |_=>obtain⟨_,_,_,_,o,_,_,e,_⟩:=x;exact aI e
def Paired.Yb{h g:Type}{F G:h->g->Prop}{e:List h}{c:List g}(p:Paired F e c)(f:∀a b,F a b->G a b):Paired G e c:=by
 induction p with|nil=>exact .nil|cons r _ ih=>solve_by_elim
def jA.xY(x:jA P w H h a o)(k:∀b u,(b=a\/H b=Y (.Z a))->h.get? b=Y u->h'.get? b=Y u)(Q:∀b,H b=Y (.Z a)->H' b=Y (.Z a))(i:∀b xs,H b=Y (.tup xs)->H' b=Y (.tup xs)):jA P w H' h' a o:=by
 induction o with
 |lst xs=>obtain⟨z,A,g,r,e⟩:=x;exact⟨z,A,g,r,k _ _ (.inl rfl) e⟩
 |tup xs=>obtain⟨z,A,r,m,e,c⟩:=x;exact⟨z,A,r,m,k _ _ (.inl rfl) e,c⟩
 |dK E=>obtain⟨z,y,F,r,m,es,s,e,c⟩:=x;exact⟨z,y,F,r,m,es,s,k _ _ (.inl rfl) e,c⟩
 |dT E=>obtain⟨z,y,xs,r,m,es,s,e,c⟩:=x;exact⟨z,y,xs,Paired.Yb r λp l z=>⟨z.1,i _ _ z.2.1,z.2.2⟩,m,es,s,k _ _ (.inl rfl) e,c⟩
 |set S g=>obtain⟨m,es,s,t,e,c⟩:=x;exact⟨m,es,s,t,k _ _ (.inl rfl) e,c⟩
 |ins C dx j=>obtain⟨d,z,K,e,mA,⟨D,es,s,R,c⟩,r⟩:=x;exact⟨Q _ d,z,K,k _ _ (.inl rfl) e,mA,⟨D,es,s,k _ _ (.inr d) R,c⟩,r⟩
 |Z y=>obtain⟨m,e⟩:=x;exact⟨m,k _ _ (.inl rfl) e⟩
 |xd j=>obtain⟨mA,⟨D,es,s,e,c⟩,r⟩:=x;exact⟨mA,⟨D,es,s,k _ _ (.inl rfl) e,c⟩,r⟩
 |rng n L=>obtain⟨t,u,v,e⟩:=x;exact⟨t,u,v,ź⟩
 |LV m u ih=>obtain⟨e,l⟩:=x;exact⟨k _ _ (.inl rfl) e,ih l⟩
 |Tj q=>solve_by_elim|met f y=>solve_by_elim|ext T=>obtain⟨p,⟨o,e⟩,st⟩:=x;exact⟨st _ _ p λo l=>k _ _ (.inl rfl) l,ż,st⟩
def mZ.lt(x:mZ P w H h)(e:H a=Y o):a<h.objs.size:=(x a o e).lt
def mZ.fresh(x:mZ P w H h)(e:h.objs.size<=a):H a=none:=by
 rcases q:H a with _|u
 .rfl
 exact absurd (bw (x.lt q) e) ż
def mZ.kept(x:mZ P w H h)(k:∀b u,h.get? b=Y u->h'.get? b=Y u):mZ P w H h':=λa o e=>
 (x a o e).xY (λb u c q=>k b u q) (λc q=>q) λc c q=>q
def mZ.laid(x:mZ P w H h)(k:∀b u,h.get? b=Y u->h'.get? b=Y u)(m:h.objs.size<=a)(f:jA P w (dD H a o) h' a o):mZ P w (dD H a o) h':=λb u e=>by
 have g:=x.fresh m;by_cases l:b=a
 .simp_all [aW]
 .rw[aP l]at e;exact(x b u e).xY (λc v d q=>k c v q) (λc q=>by rw[aP (bF q g)];exact q) λc xs q=>by rw[aP (bF q g)];exact q
end
def Rd(H:Hp)(a:ax)(u:HO):Prop:=H a=Y u\/∃o,H a=Y (.LV o u)
def Rd.of(h:H a=Y u):Rd H a u :=.inl h
theorem Rd.ok{P:aZ}{a:ax}(r:Rd H a u)(x:mZ P w H h):jA P w H h a u:=by
 rcases r with r|⟨o,r⟩
 .exact x a u r
 .obtain⟨_,q⟩:=x a _ r;exact q
def Zm:Option HO->Prop
 |some (.lst _)=>True|some (.dK _)=>True|some (.dT _)=>True|some (.set _ _)=>True|some (.ins _ _ _)=>True|some (.ext _)=>True|_=>False
section
variable {P:aZ}
def mZ.write(C:mZ P w H h)(l:Zm (H x))(A:e=x\/H e=Y (.Z x))(k:∀b u,b≠e->h.get? b=Y u->h'.get? b=Y u)(s:∃u,h'.get? e=Y u)(p:jA P w (dD H x o') h' x o'):mZ P w (dD H x o') h':=λb u q=>by
 have f:∀c y,H c=Y (.Z y)->c≠x:=λc y r z=>by subst z;rw[r]at l;exact l
 have g:∀c xs,H c=Y (.tup xs)->c≠x:=λc xs r z=>by subst z;rw[r]at l;exact l
 by_cases o:b=x
 .subst o;rw[aW]at q;cases q;exact p
 .rw[aP o]at q;by_cases a:b=e
  .have t:H b=Y (.Z x):=by lia
   rw[q]at t;cases t;obtain⟨v,D⟩:=s;exact⟨v,ż⟩
  .refine(C b u q).xY (λc v m r=>k c v ?_ r) λc r=>by simp_all [aP] λc xs r=>by simp_all [aP]
   grind
end
structure Un(fs ex:List ax)(H H':Hp)(h h':cy):Prop where
 keep:∀b o,h.get? b=some o->H b=none->b∉fs->b∉ex->h'.get? b=some o
 slot:∀b o,h.get? b=some o->H b=none->b∈fs->b∉ex->∃sl,h'.get? b=some { o with slots:=sl }
 free:∀b o,h.get? b=some o->H b=none->b∉ex->H' b=none
 there:∀b o,h.get? b=some o->b∉ex->∃o',h'.get? b=some o'
 Cq:∀b xs,H b=some (.tup xs)->H' b=some (.tup xs)
 Bc:∀b o u,H b=some (.LV o u)->H' b=some (.LV o u)
 Cr:∀b ps,H b=some (.Tj ps)->∃more,H' b=some (.Tj (ps++more))
def Un.any(u:Un j ex H O h J){a:Obj}(q:h.get? b=Y a)(n:H b=M)(c:b∉ex):∃f,J.get? b=Y { a with slots:=f }:=by
 by_cases e:b∈j
 .exact u.slot b a q n e c
 .exact⟨_,u.keep b a q n e c⟩
def Un.kept(k:∀b u,h.get? b=Y u->h'.get? b=Y u):Un j ex H H h h':=
 ⟨λb c a d d d=>k b c a,λb c a d d d=>⟨_,k b c a⟩,λd d d n d=>n,λb c a d=>⟨c,k b c a⟩,λd d a=>a,λd d d a=>a,λd q a=>⟨#[],by rw[a];simp⟩⟩
def Un.refl:Un j ex H H h h:=Un.kept λa a q=>q
def Un.laid(k:∀b u,h.get? b=Y u->h'.get? b=Y u)(f:h.objs.size<=a)(e:H a=M):Un j ex H (dD H a o) h h' where
 keep:=λb u c d d d=>k b u c
 slot:=λb u c d d d=>⟨u.slots,k b u c⟩
 free:=λb u c n d=>by rw[aP (bH (bw (aI c) f))];exact n
 there:=λb u c d=>⟨u,k b u c⟩
 Cq:=λb xs c=>by rw[aP (bF c e)];exact c
 Bc:=λb u xs c=>by rw[aP (bF c e)];exact c
 Cr:=λb q c=>⟨#[],by rw[aP (bF c e),c];simp⟩
def Un.write(f:Zm (H x))(s:e=x\/H e=Y (.Z x))(k:∀b u,b≠e->h.get? b=Y u->h'.get? b=Y u)(l:∃u,h'.get? e=Y u):Un j ex H (dD H x o) h h':=by
 have m:∀b,H b=M->b≠x:=λb n z=>by subst z;rw[n]at f;exact f
 have p:∀b,H b=M->b≠e:=λb n z=>by simp_all
 have g:∀b u,H b=Y u->¬Zm (Y u)->b≠x:=λb u a nm z=>by simp_all
 refine⟨λb u a n c c=>k b u (p b n) a,λb u a n c c=>⟨_,k b u (p b n) a⟩,λb u a n c=>by simp_all [aP],λb u a c =>?_,
  λb xs a=>by rw[aP (g b _ a λz=>z)];exact a,λb u xs a=>by rw[aP (g b _ a λz=>z)];exact a,λb q a=>⟨#[],by rw[aP (g b _ a λz=>z),a];simp⟩⟩
 grind
noncomputable def trk(h:cy)(H:Hp):List ax:=(cH h.objs.size).filter λa=>(H a).isSome
def Hl(h:cy)(H:Hp):cy:=PySem.W.hideAll h (trk h H)
def K3(h:cy)(H:Hp):(Hl h H).objs.size=h.objs.size:=PySem.W.hideAll_size _ _
def NZ(e:h.get? b=Y o)(n:H b=M):(Hl h H).get? b=Y o:=
 PySem.W.hideAll_get _ e λa=>by
  have q:=(lP.mp a).2
  simp_all
def Qu(e:(Hl h H).get? b=Y o):h.get? b=Y o/\H b=none:=by
 have a:=PySem.W.of_hideAll _ e;refine⟨a,?_⟩;rcases q:H b with _|x
 .rfl
 simp_all [trk,aI,Hl,PySem.W.hideAll_none]
structure Mod(K:aG)(mg:aE->Option aq)(base:cy):Prop where
 U4:K.In base
 glob:base.Ns aT mg
 blt:∃mb,base.Ns builtinsNs mb/\∀x:aE,x ≠ "__name__" ->mb x=fQ x
 nolimit:base.NoLimit
structure Cx where
 prog:aZ
 w:cC
 K:aG
 mg:aE->Option aq
 base:cy
 A:fF
 N:List aE
 s₀:aw
 H₀:Hp
 env:Env
 outer:List Env
 stack:List Env
 ex:List ax
 fn:aE->Bool
 calm:Bool
 pn:List (ax×Obj)
 xe:aq->aw->Prop
noncomputable def zY(l:List Env):List ax:=l.filterMap (·.frame)
abbrev Cx.fs(X:Cx):List ax:=zY X.outer
def V3(a:Scope)(x:aE):Prop:=a.names.lookup x=Y .local\/a.names.lookup x=Y .cell\/a.names.lookup x=Y .free
def Loc(a:Scope)(x:aE):Prop:=a.names.lookup x=Y .local\/a.names.lookup x=Y .cell
def Look(a:Env)(h:cy)(m:aE->Option aq)(x:aE)(u:aq):Prop:=
 (a.kindOf x=Y .local/\m x=Y u)\/((a.kindOf x=Y .cell\/a.kindOf x=Y .free)/\∃c,a.cells.lookup x=Y c/\h.IsCell c (Y u))
structure Cx.Ok(X:Cx):Prop where
 mod:Mod X.K X.mg X.base
 kind:X.env.scope.kind=.function
 glob:X.env.globals=aT
 blt:X.env.builtins=builtinsNs
 above:X.s₀.heap.objs.size<=X.env.locals
 inj:∀x y c,X.env.cells.lookup x=some c->X.env.cells.lookup y=some c->x=y
 has:∀x,(X.env.kindOf x=some .cell\/X.env.kindOf x=some .free)->∃c,X.env.cells.lookup x=some c
 WJ:∀x c,X.fn x=true->X.env.cells.lookup x=some c->X.s₀.heap.objs.size<=c
 hd:X.calm=true->X.A.handled=none
 frames:X.A.frames=some X.stack
 Xp:X.stack=X.outer\/(X.stack=X.env::X.outer/\X.env.frame=some X.env.locals)
 exf:∀b∈X.ex,b≠X.env.locals/\∀x c,X.env.cells.lookup x=some c->c≠b
 bs:∀b o,X.base.get? b=some o->X.s₀.heap.get? b=some o/\X.H₀ b=none
 OO:X.base.objs.size<=X.s₀.heap.objs.size
 KG:∀b o,X.base.get? b=some o->b∉X.ex
 N_:∀b∈X.ex,b∉X.fs
 w6:X.s₀.heap.FunFrames X.base X.outer
 SH:∀b∈X.fs,X.H₀ b=none
structure Inv(X:Cx)(Bi:List (ax×Obj))(σ:List (Option V))(H:Hp)(s:aw):Prop where
 ok:X.Ok
 os:s.os=X.s₀.os
 bare:Bm s.gens
 base:Un X.fs X.ex X.H₀ H X.s₀.heap s.heap
 loc:∃m,s.heap.Ns X.env.locals m/\∀(i:Nat) (x:aE) (v:V),X.N[i]?=some x->σ[i]?=some (some v)->V3 X.env.scope x->∃u,RelV v u/\Look X.env s.heap m x u
 cell:∀x c,X.env.cells.lookup x=some c->∃v,s.heap.IsCell c v
 free:H X.env.locals=none
 mB:∀x c,X.env.cells.lookup x=some c->H c=none
 pin:∀p∈X.pn++Bi,s.heap.get? p.1=some p.2/\H p.1=none/\p.1≠X.env.locals/\p.1∉X.fs/\∀v,p.2.data ≠ .cell v
 eY:mZ X.prog X.w H s.heap
 len:σ.length=X.N.length
section
variable {X:Cx}{s:aw}
def Cx.Ok.aa0(a:X.Ok)(e:X.base.get? b=Y o):b∉X.fs:=λc=>by
 have:=(a.w6.mem c).1
 simp_all
def Inv.bs(I:Inv X B U H s):∀b o,X.base.get? b=Y o->s.heap.get? b=Y o/\H b=none:=λb o e=>
 ⟨I.base.keep b o (I.ok.bs b o e).1 (I.ok.bs b o e).2 (I.ok.aa0 e) (I.ok.KG b o e),I.base.free b o (I.ok.bs b o e).1 (I.ok.bs b o e).2 (I.ok.KG b o e)⟩
def Inv.bk(I:Inv X B U H s):∀b o,X.base.get? b=Y o->s.heap.get? b=Y o:=λb o e=>(I.bs b o e).1
def Inv.mod(I:Inv X B U H s):Mod X.K X.mg X.base:=I.ok.mod
def Inv.qJ(I:Inv X B U H s):X.K.In s.heap:=I.ok.mod.U4.keeps I.bk
def Inv.fr(I:Inv X B U H s):∃m,Fr X.base X.env.locals s.heap m:=
 let ⟨m,a,_⟩:=I.loc
 ⟨m,a,I.bk,bz I.ok.OO I.ok.above⟩
def Inv.lt(I:Inv X B U H s):X.env.locals<s.heap.objs.size:=let ⟨_,a,_⟩:=I.loc;a.lt
def Inv.sz(I:Inv X B U H s):X.s₀.heap.objs.size<=s.heap.objs.size:=bz I.ok.above (fA I.lt)
def Inv.UM(I:Inv X B U H s)(h:s.heap.objs.size<=a):a∉X.fs:=λc=>by
 obtain⟨_,o,b,_⟩:=I.ok.w6.mem c;exact absurd (bw (aI b) (bz I.sz h)) ż
def Inv.Z9(I:Inv X B U H s):∀x c,X.env.cells.lookup x=Y c->c≠X.env.locals:=λx c e z=>by
 obtain⟨v,o,f,g⟩:=I.cell x c e;obtain⟨m,⟨o',es,h,a,b,_⟩,_⟩:=I.loc
 simp_all
def Inv.w6(I:Inv X B U H s):s.heap.FunFrames X.base X.outer:=by
 have g:∀(l:List Env),(∀b∈zY l,b∈X.fs)->X.s₀.heap.FunFrames X.base l->s.heap.FunFrames X.base l:=by
  intro l
  induction l with
  |nil=>solve_by_elim|cons w r ih=>
   rintro h ⟨u,⟨L,o,a,p,m,v⟩,k⟩;have f:=h L (by unfold zY;rw[pT,a];exact aJ);obtain⟨x,e⟩:=I.base.slot L o m (I.ok.SH L f) f λz=>I.ok.N_ L z f
   exact⟨u,⟨L,_,a,p,e,v⟩,ih (λb c=>h b (by unfold zY;rw[pT,a];exact bI _ c)) k⟩
 exact g _ (λ_ c=>c) I.ok.w6
def Inv.stack(I:Inv X B U H s):s.heap.FunFrames X.base X.stack:=by
 rcases I.ok.Xp with e|⟨e,b⟩
 .rw[e];exact I.w6
 .rw[e];obtain⟨m,a,_⟩:=I.loc;exact .cons (by rw[I.ok.kind];decide) b a (Heap.get?_none_of_le (bz I.ok.OO I.ok.above)) I.w6
def Inv.ua(I:Inv X B U H s):∀b∈zY X.stack,b∈X.env.locals::X.fs:=λb a=>by
 rcases I.ok.Xp with e|_
 .simp_all
 simp_all [zY,pT]
def Inv.yq(I:Inv X B U H s):∀b∈zY X.stack,H b=none:=λb a=>by
 rcases br.mp (I.ua b a) with e|a
 .rw[e];exact I.free
 .obtain⟨_,o,c,_⟩:=I.ok.w6.mem a;exact I.base.free b o c (I.ok.SH b a) λz=>I.ok.N_ b z a
def Inv.step{g':Array GenState}{t':Nat}{d':Drawn}{ch:List ax}(I:Inv X B U H s)(w:∀b∈ch,(b∈X.ex\/X.s₀.heap.objs.size<=b)/\b≠X.env.locals/\(∀x c,X.env.cells.lookup x=Y c->c≠b)/\∀p∈X.pn++B,p.1≠b)(t:∀b o,b≠X.env.locals->b∉X.fs->b∉ch->s.heap.get? b=Y o->H b=M->h'.get? b=Y o)(E:∀b o,b≠X.env.locals->b∈X.fs->b∉ch->s.heap.get? b=Y o->H b=M->∃sl,h'.get? b=Y { o with slots:=sl })(g:∀b o,b∉ch->s.heap.get? b=Y o->H b=M->H' b=M)(F:∀b o,b∉ch->s.heap.get? b=Y o->∃o',h'.get? b=Y o')(P:∀b xs,H b=Y (.tup xs)->H' b=Y (.tup xs))(T:∀b o u,H b=Y (.LV o u)->H' b=Y (.LV o u))(Q:∀b q,H b=Y (.Tj q)->∃S,H' b=Y (.Tj (q++S)))(ns:∀m,s.heap.Ns X.env.locals m->h'.Ns X.env.locals m)(eY:mZ X.prog X.w H' h')(hg:Bm g'):
  Inv X B U H' { s with heap:=h',gens:=g',drawn:=d',toks:=t' }:=by
 have R:∀b o,X.s₀.heap.get? b=Y o->b≠X.env.locals:=λb o e=>bH (bw (aI e) I.ok.above)
 have C:∀b o,X.s₀.heap.get? b=Y o->b∉X.ex->b∉ch:=λb o e f K=>by
  rcases(w b K).1 with z|z
  .exact f z
  .exact absurd (bw (aI e) z) (i_ _)
 have A:∀x c,X.env.cells.lookup x=Y c->∀v,s.heap.IsCell c v->h'.IsCell c v:=λx c e v ⟨o,j,hd⟩=>by
  have h:c∉ch:=λz=>(w c z).2.2.1 x c e rfl
  by_cases hc:c∈X.fs
  .obtain⟨sl,a⟩:=E c o (I.Z9 x c e) hc h j (I.mB x c e);exact⟨_,a,hd⟩
  .exact⟨o,t c o (I.Z9 x c e) hc h j (I.mB x c e),hd⟩
 refine⟨I.ok,I.os,hg,⟨λb o e n K f =>?_,λb o e n K f =>?_,λb o e n f =>?_,λb o e f =>?_,λb xs e=>P b xs (I.base.Cq b xs e),λb o xs e=>T b o xs (I.base.Bc b o xs e),λb q e =>?_⟩,?_,λx c e =>?_,?_,λx c e =>?_,λp hp =>?_,eY,I.len⟩
 .exact t b o (R b o e) K (C b o e f) (I.base.keep b o e n K f) (I.base.free b o e n f)
 .obtain⟨sl,D⟩:=I.base.slot b o e n K f;obtain⟨sl',e2⟩:=E b _ (R b o e) K (C b o e f) D (I.base.free b o e n f);exact⟨sl',e2⟩
 .obtain⟨o',D⟩:=I.base.there b o e f;exact g b o' (C b o e f) D (I.base.free b o e n f)
 .obtain⟨o',D⟩:=I.base.there b o e f;exact F b o' (C b o e f) D
 .obtain⟨m1,D⟩:=I.base.Cr b q e;obtain⟨m2,e2⟩:=Q b _ D;exact⟨m1++m2,by rw[e2,Array.append_assoc]⟩
 .obtain⟨m,hn,hl⟩:=I.loc;refine⟨m,ns m hn,λi x v D e2 e3 =>?_⟩;obtain⟨u,r,l⟩:=hl i x v D e2 e3;refine⟨u,r,?_⟩;rcases l with l|⟨k,c,e,z⟩
  .exact .inl l
  .exact .inr ⟨k,c,e,A x c e _ z⟩
 .obtain⟨v,z⟩:=I.cell x c e;exact⟨v,A x c e v z⟩
 .obtain⟨m,⟨o,_,_,j,_⟩,_⟩:=I.loc;exact g _ o (λz=>(w _ z).2.1 rfl) j I.free
 .obtain⟨v,o,j,hd⟩:=I.cell x c e;exact g c o (λz=>(w c z).2.2.1 x c e rfl) j (I.mB x c e)
 .obtain⟨e,n,ne,nf,d⟩:=I.pin p hp;have h:p.1∉ch:=λz=>(w p.1 z).2.2.2 p hp rfl
  exact⟨t p.1 p.2 ne nf h e n,g p.1 p.2 h e n,ne,nf,d⟩
def Inv.un{t':Nat}(I:Inv X B U H s)(u:Un X.fs [] H H' s.heap h')(c:mZ X.prog X.w H' h'):Inv X B U H' { s with heap:=h',toks:=t' }:=by
 obtain⟨m,⟨o,es,x,k,r⟩,_⟩:=id I.loc;obtain⟨v,t⟩:=u.any k I.free Ž;exact I.step (ch:=[]) (λd z=>nomatch z) (λb o d f d e n=>u.keep b o e n f ź) (λb o d f d e n=>u.slot b o e n f ź) (λb o d e n=>u.free b o e n ź) (λb o d e=>u.there b o e ź) u.Cq u.Bc u.Cr (λw p=>by obtain⟨o',g,h,a,l⟩:=p;rw[k]at a;cases a;exact⟨_,g,h,t,l⟩) c I.bare
def Inv.call{g':Array GenState}{t':Nat}{d':Drawn}{ch:List ax}(I:Inv X B U H s)(u:Un (zY X.stack) ch H H' s.heap h')(h:mZ X.prog X.w H' h')(C:Bm g')(g:∀b∈ch,(b∈X.ex\/X.s₀.heap.objs.size<=b)/\b≠X.env.locals/\(∀x c,X.env.cells.lookup x=Y c->c≠b)/\∀p∈X.pn++B,p.1≠b):
  Inv X B U H' { s with heap:=h',gens:=g',drawn:=d',toks:=t' }:=by
 obtain⟨m,⟨o,es,K,v,r⟩,_⟩:=id I.loc;obtain⟨E,k⟩:=u.any v I.free λz=>(g _ z).2.1 rfl
 exact I.step g (λb o k D a e n=>u.keep b o e n (λz=>(br.mp (I.ua b z)).elim k D) a) (λb o d d a e n=>u.any e n a) (λb o a e n=>u.free b o e n a) (λb o a e=>u.there b o e a) u.Cq u.Bc u.Cr (λF A=>by obtain⟨o',l,t,f,w⟩:=A;rw[v]at f;cases f;exact⟨_,l,t,k,w⟩) h C
def Inv.turned{t':Nat}(I:Inv X B U H s)(k:∀b o,b≠g->s.heap.get? b=Y o->h'.get? b=Y o)(A:H g=M)(t:g≠X.env.locals)(J:g∈X.ex\/X.s₀.heap.objs.size<=g)(z:∀x c,X.env.cells.lookup x=Y c->c≠g)(E:∀p∈X.pn++B,p.1≠g):Inv X B U H { s with heap:=h',toks:=t' }:=by
 refine I.step (ch:=[g]) (λb D =>?_) (λb o d d h e d=>k b o (λf=>h (by simp[f])) e) (λb o d d h e d=>⟨o.slots,ż⟩) (λd d d d n=>n)
  (λb o h e=>⟨o,ż⟩) (λd d e=>e) (λd d d e=>e) (λb q e=>⟨#[],by rw[e];solve_by_elim⟩) (λm C =>?_) (λb u e =>?_) I.bare
 .have e:=by simpa using D
  subst e;exact⟨J,t,z,E⟩
 .obtain⟨o,es,F,w,r⟩:=C;exact⟨o,es,F,k _ o (bE t) w,r⟩
 .refine(I.eY b u e).xY (λc v h a=>k c v ?_ a) (λd a=>a) λd d a=>a
  lia
def Inv.tok(I:Inv X B U H s)(t:Nat):Inv X B U H { s with toks:=t }:=I.un Un.refl I.eY
def Inv.kept{t':Nat}(I:Inv X B U H s)(k:∀b u,s.heap.get? b=Y u->h'.get? b=Y u):Inv X B U H { s with heap:=h',toks:=t' }:=I.un (Un.kept k) (I.eY.kept k)
def Inv.laid{a:ax}{o:HO}{t':Nat}(I:Inv X B U H s)(k:∀b u,s.heap.get? b=Y u->h'.get? b=Y u)(e:s.heap.objs.size<=a)(c:jA X.prog X.w (dD H a o) h' a o):
  Inv X B U (dD H a o) { s with heap:=h',toks:=t' }:=I.un (Un.laid k e (I.eY.fresh e)) (I.eY.laid k e c)
def Inv.write{x e:ax}{h:Nat}(I:Inv X B U H s)(f:Zm (H x))(g:e=x\/H e=Y (.Z x))(k:∀b u,b≠e->s.heap.get? b=Y u->h'.get? b=Y u)(a:∃u,h'.get? e=Y u)(c:jA X.prog X.w (dD H x o) h' x o):Inv X B U (dD H x o) { s with heap:=h',toks:=h }:=I.un (Un.write f g k a) (I.eY.write f g k a c)
def Inv.weak(I:Inv X B U H s)(e:a.length=U.length)(w:∀(i:Nat) v,a[i]?=Y (Y v)->U[i]?=Y (Y v)):Inv X B a H s:=
 ⟨I.ok,I.os,I.bare,I.base,let ⟨m,c,b⟩:=I.loc;⟨m,c,λi x v h g f=>b i x v h (w i v g) f⟩,I.cell,I.free,I.mB,I.pin,I.eY,e.trans I.len⟩
def Inv.yy(I:Inv X B U H s)(h:∀p∈a,s.heap.get? p.1=Y p.2/\H p.1=M/\p.1≠X.env.locals/\p.1∉X.fs/\∀v,p.2.data ≠ .cell v):Inv X a U H s:=
 ⟨I.ok,I.os,I.bare,I.base,I.loc,I.cell,I.free,I.mB,λp b=>(bG.mp b).elim (λz=>I.pin p (bJ _ z)) (h p),I.eY,I.len⟩
def zu{N:List aE}(c:N.Nodup){j:Nat}(a:N[i]?=Y x)(b:N[j]?=Y x):i=j:=by
 obtain⟨J,f⟩:=au.mp a;obtain⟨z,e⟩:=au.mp b;exact(List.getElem_inj c).mp (f.trans e.symm)
def Bt{G:Pu}{A:fF}{i:Nat}{v:V}(I:Inv X B U H s)(hN:X.N.Nodup)(L:X.N[i]?=Y x)(w:Loc X.env.scope x)(r:RelV v u)(h:∀s',Inv X B (U.set i (Y v)) H s'->(∃a,fR a s.heap s'.heap/\(a=X.env.locals\/X.env.cells.lookup x=Y a))->Q () s')(hf:autoParam (X.fn x=Z'\/X.env.scope.names.lookup x=Y .local) Ũ):be G A (storeName X.env x u) Q E s:=by
 obtain⟨m,hn,hl⟩:=id I.loc;have aby:(X.env.scope.kind == .class||(X.env.scope.kind == .module&&X.env.locals != X.env.globals))=false:=by rw[I.ok.kind];exact ź
 have K:i<U.length:=by rw[I.len];exact(au.mp L).1
 have T:=I.Z9;have g:∀ {a:ax}{h':cy},(∃o,s.heap.get? a=Y o/\H a=M)->fR a s.heap h'->mZ X.prog X.w H h':=fun {a h'} ha f b ob e=>by
  obtain⟨_,_,C⟩:=ha;refine(I.eY b ob e).xY (λc w' t q=>(f.2 c ?_).trans q) (λJ q=>q) λJ J q=>q
  rintro rfl;rcases t with rfl|t<;>grind
 rcases w with F|F
 .refine wpAny_storeName_local F hn (λh' hn' f =>?_) aby;refine ae λkk =>?_
  obtain⟨oL,_,_,hoL,_⟩:=id hn;refine kk (h _ ⟨I.ok,I.os,I.bare,⟨λb o e n S w =>?_,λb o e n S w =>?_,I.base.free,λb o e w =>?_,I.base.Cq,I.base.Bc,I.base.Cr⟩,⟨_,hn',λj y v' l D e3 =>?_⟩,λy c e =>?_,I.free,I.mB,λp hp =>?_,g ⟨oL,hoL,I.free⟩ f,by simpa using I.len⟩ ⟨_,f,.inl rfl⟩)
  .exact(f.2 b (bH (bw (aI e) I.ok.above))).trans (I.base.keep b o e n S w)
  .obtain⟨sl,l⟩:=I.base.slot b o e n S w;exact⟨sl,(f.2 b (bH (bw (aI e) I.ok.above))).trans l⟩
  .obtain⟨o',l⟩:=I.base.there b o e w;exact⟨o',(f.2 b (bH (bw (aI e) I.ok.above))).trans l⟩
  .by_cases P:j=i
   .subst P;rw[L]at l;cases l;rw[bj K]at D;cases D;exact⟨u,r,.inl ⟨F,Ž⟩⟩
   .rw[av (bE P)]at D;obtain⟨u',r',q⟩:=hl j y v' l D e3;refine⟨u',r',?_⟩;rcases q with⟨k,e⟩|⟨k,c,e,z⟩
    .refine .inl ⟨k,?_⟩;have:y≠x:=λe=>P (zu hN l (e ▸ L))
     simp[this,e]
    .exact .inr ⟨k,c,e,z.sameBut f (T y c e)⟩
  .obtain⟨w',z⟩:=I.cell y c e;exact⟨w',z.sameBut f (T y c e)⟩
  .obtain⟨e,n,ne,nf,d⟩:=I.pin p hp;exact⟨(f.2 p.1 ne).trans e,n,ne,nf,d⟩
 .have R:X.fn x=true:=by
   rcases hf with z|z
   .exact z
   .rw[z]at F;cases F
  obtain⟨c,t⟩:=I.ok.has x (.inl F);obtain⟨w',z⟩:=I.cell x c t;refine wpAny_storeName_cell I.ok.kind F t z (λh' hc' f =>?_);obtain⟨oc,hoc,abo⟩:=id z;refine h { s with heap:=h' } ⟨I.ok,I.os,I.bare,⟨λb o e n S w =>?_,λb o e n S w =>?_,I.base.free,λb o e w =>?_,I.base.Cq,I.base.Bc,I.base.Cr⟩,⟨m,hn.sameBut f (bE (T x c t)),λj y v' l D e3 =>?_⟩,λy c' e =>?_,I.free,I.mB,λp hp =>?_,g ⟨oc,hoc,I.mB x c t⟩ f,by simpa using I.len⟩ ⟨c,f,.inr t⟩
  .exact(f.2 b (bH (bw (aI e) (I.ok.WJ x c R t)))).trans (I.base.keep b o e n S w)
  .obtain⟨sl,l⟩:=I.base.slot b o e n S w;exact⟨sl,(f.2 b (bH (bw (aI e) (I.ok.WJ x c R t)))).trans l⟩
  .obtain⟨o',l⟩:=I.base.there b o e w;exact⟨o',(f.2 b (bH (bw (aI e) (I.ok.WJ x c R t)))).trans l⟩
  .by_cases P:j=i
   .subst P;rw[L]at l;cases l;rw[bj K]at D;cases D;exact⟨u,r,.inr ⟨.inl F,c,t,hc'⟩⟩
   .rw[av (bE P)]at D;obtain⟨u',r',q⟩:=hl j y v' l D e3;refine⟨u',r',?_⟩;rcases q with q|⟨k,c',e,z'⟩
    .exact .inl q
    .refine .inr ⟨k,c',e,z'.sameBut f ?_⟩;rintro rfl;exact P (zu hN l (I.ok.inj _ _ _ e t ▸ L))
  .by_cases ZU:c'=c
   .subst ZU;exact⟨_,hc'⟩
   .obtain⟨w2,z2⟩:=I.cell y c' e;exact⟨w2,z2.sameBut f ZU⟩
  .obtain⟨e,n,ne,nf,d⟩:=I.pin p hp;refine⟨(f.2 p.1 ?_).trans e,n,ne,nf,d⟩;intro q;rw[q,hoc]at e;exact d w' (by rw[<- (cB e)];exact abo)
def u5{d:Pu}{v:V}(I:Inv X B U H s)(c:X.N.Nodup)(L:X.N[i]?=Y x)(a:Loc X.env.scope x)(r:RelV v u)(h:∀s',Inv X B (U.set i (Y v)) H s'->Q () s')(b:autoParam (X.fn x=Z'\/X.env.scope.names.lookup x=Y .local) Ũ):be d A (storeName X.env x u) Q E s:=
 Bt I c L a r (λs' e f=>h s' e) b
def Inv.Ap{s':aw}{g:List ax}(I:Inv X B U H s)(k:s'.os=s.os)(u:Un (zY X.stack) g H H' s.heap s'.heap)(a:mZ X.prog X.w H' s'.heap)(l:Bm s'.gens)(f:∀b∈g,(b∈X.ex\/X.s₀.heap.objs.size<=b)/\b≠X.env.locals/\(∀x c,X.env.cells.lookup x=Y c->c≠b)/\∀p∈X.pn++B,p.1≠b):Inv X B U H' s':=by
 obtain⟨h',m,o,h,o'⟩:=s';subst k;exact I.call u a l f
end
abbrev XK:=aq->Option ax->Hp->Prop
abbrev St:=List (Option V)
abbrev VK:=V->Hp->Prop
abbrev TE:=St->Hp->VK->Prop
abbrev TT:=St->Hp->(Bool->Hp->Prop)->Prop
abbrev TA:=St->Hp->(List V->Hp->Prop)->Prop
structure Ends where
 nx:St->Hp->Prop
 rt:VK
 bk:St->Hp->Prop:=λ_ _=>False
 ct:St->Hp->Prop:=λ_ _=>False
abbrev TS:=Ends->St->Hp->Prop
inductive EP (X:Cx) (B:List (ax×Obj)) (U:St) (Q:VK) (u:aq) (s':aw):Prop
 |mk v H':Inv X B U H' s'->RelV v u->Q v H'->EP X B U Q u s'
inductive TP (X:Cx) (B:List (ax×Obj)) (U:St) (Q:Bool->Hp->Prop) (b:Bool) (s':aw):Prop
 |mk H':Inv X B U H' s'->Q b H'->TP X B U Q b s'
inductive AP (X:Cx) (B:List (ax×Obj)) (U:St) (Q:List V->Hp->Prop) (b:List aq) (s':aw):Prop
 |mk a H':Inv X B U H' s'->cb a b->Q a H'->AP X B U Q b s'
def SP(X:Cx)(B:List (ax×Obj))(D:Ends)(f:Flow)(s':aw):Prop:=
 match f with
 |.next=>∃a H',Inv X B a H' s'/\D.nx a H'|.brk=>∃a H',Inv X B a H' s'/\D.bk a H'|.cont=>∃a H',Inv X B a H' s'/\D.ct a H'|.ret u=>∃v a H',Inv X B a H' s'/\RelV v u/\D.rt v H'
def PE(X:Cx)(e:Expr)(t:TE):Prop:=
 ∀(B:List (ax×Obj)) (s:aw) (U:St) (H:Hp) (Q:VK),Inv X B U H s->t U H Q->be (aV X.prog X.w) X.A (eval e X.env) (EP X B U Q) X.xe s
def PT(X:Cx)(e:Expr)(t:TT):Prop:=
 ∀(B:List (ax×Obj)) (s:aw) (U:St) (H:Hp) (Q:Bool->Hp->Prop),Inv X B U H s->t U H Q->be (aV X.prog X.w) X.A (isTrue e X.env (eval e X.env)) (TP X B U Q) X.xe s
def PW(X:Cx)(e:Expr)(t:TT):Prop:=
 ∀(a:Sem aq) (B:List (ax×Obj)) (s:aw) (U:St) (H:Hp) (Q:Bool->Hp->Prop),Inv X B U H s->t U H Q->be (aV X.prog X.w) X.A (isTrue e X.env a) (TP X B U Q) X.xe s
def PW.pt{X:Cx}(h:PW X e t):PT X e t:=h _
def PA(X:Cx)(es:List Expr)(t:TA):Prop:=
 ∀(G:Pos) (B:List (ax×Obj)) (s:aw) (U:St) (H:Hp) (Q:List V->Hp->Prop),Inv X B U H s->t U H Q->be (aV X.prog X.w) X.A (spliced (bX G (ao es X.env))) (AP X B U Q) X.xe s
def PS(X:Cx)(st:nW)(t:TS):Prop:=
 ∀(B:List (ax×Obj)) (s:aw) (U:St) (H:Hp) (D:Ends),Inv X B U H s->t D U H->be (aV X.prog X.w) X.A (exec st X.env) (SP X B D) X.xe s
def lX(X:Cx)(st:List nW)(t:TS):Prop:=
 ∀(B:List (ax×Obj)) (s:aw) (U:St) (H:Hp) (D:Ends),Inv X B U H s->t D U H->be (aV X.prog X.w) X.A (execs st X.env) (SP X B D) X.xe s
def fo{b:Pu}{s:aw}(h:be b A t Q E s)(e:∀a s,Q a s->c a s):be b A t c E s:=dP h e λd d x=>x
section
variable {X:Cx}
def bin(C:PE X a N)(A:PE X b y){s:aw}{R:V->V->Hp->Prop}(I:Inv X B U H s)(h:N U H λx O=>y U O λc d=>R x c d){f:aq->aq->Sem l}(w:∀v u k x c d,Inv X B U d k->RelV x v->RelV c u->R x c d->be (aV X.prog X.w) X.A (f v u) Q X.xe k):
  be (aV X.prog X.w) X.A (eval a X.env) (λv g=>be (aV X.prog X.w) X.A (eval b X.env) (λu e=>be (aV X.prog X.w) X.A (f v u) Q X.xe e) X.xe g) X.xe s:=by
 refine fo (C B s U H _ I h) ?_;rintro v m ⟨x,O,E,p,t⟩;refine fo (A B m U O _ E t) ?_;rintro u k ⟨c,d,D,o,r⟩;exact w v u k x c d D p o r
def fB(i:Nat):TE:=λU H Q=>∃v,U[i]?=Y (Y v)/\Q v H
def tC(v:V):TE:=λ_ H Q=>Q v H
def Uq(A:X.N[i]?=Y x)(o:V3 X.env.scope x)(f:autoParam ((x==("__debug__" : aE))=false) ū)(g:autoParam ((x==("__classdict__" : aE))=false) ū):PE X (.Name x G) (fB i):=by
 rintro B s U H Q I ⟨v,e,h⟩;obtain⟨m,p,w⟩:=I.loc;obtain⟨u,r,l⟩:=w i x v A e o;have kC:EP X B U Q u s:=⟨v,H,I,r,h⟩;rcases l with⟨b,t⟩|⟨b,c,k,a⟩
 .exact wpAny_Name (wpAny_loadName_local I.ok.kind b p t kC) f
 .rcases b with b|b
  .exact wpAny_Name (wpAny_loadName_cell I.ok.kind b k a kC) f
  .exact wpAny_Name (wpAny_loadName_free I.ok.kind b k a kC g) f
def wD{i j G}:PE X (.Constant (.int i) j G) (tC (.int i)):=λa a a H a I h=>wpAny_Constant_int ⟨.int i,H,I.tok _,⟨_,rfl⟩,h⟩
def XU{b j G}:PE X (.Constant (.bool b) j G) (tC (.bl b)):=λa a a H a I h=>Constant_bool ⟨.bl b,H,I,rfl,h⟩
def Ut{j G}:PE X (.Constant .none j G) (tC .dW):=λa a a H a I h=>Constant_none ⟨.dW,H,I,rfl,h⟩
def Ur{x j G}:PE X (.Constant (.str x) j G) (tC (.str x)):=λa a a H a I h=>Calls.Constant_str ⟨.str x,H,I.tok _,⟨_,rfl⟩,h⟩
def Gl(X:Cx)(x:aE):Prop:=X.env.kindOf x=Y .globalImplicit
def sy{s:aw}(I:Inv X B U H s)(b:Gl X x)(a:X.mg x=Y u)(h:Q u s)(c:autoParam ((x==("__debug__" : aE))=false) ū):be (aV X.prog X.w) X.A (eval (.Name x G) X.env) Q E s:=
 We I.ok.kind b (Calls.loadGlobal_global (by rw[I.ok.glob];exact I.mod.glob.keeps I.bk) a h) c
def p_{s:aw}(I:Inv X B U H s)(e:Gl X x)(c:X.mg x=M)(a:fQ x=Y u)(h:Q u s)(b:autoParam (x ≠ "__name__") ū)(f:autoParam ((x==("__debug__" : aE))=false) ū):be (aV X.prog X.w) X.A (eval (.Name x G) X.env) Q E s:=by
 obtain⟨g,J,z⟩:=I.mod.blt;exact We I.ok.kind e (Calls.loadGlobal_builtin (by rw[I.ok.glob];exact I.mod.glob.keeps I.bk) c (by rw[I.ok.blt];exact J.keeps I.bk) ż h) f
def sv{v:V}(b:Gl X x)(a:X.mg x=Y u)(r:RelV v u)(c:autoParam ((x==("__debug__" : aE))=false) ū):PE X (.Name x G) (tC v):=
 λd d d H d I h=>sy I b a ⟨v,H,I,r,h⟩ c
def II{v:V}(e:Gl X x)(c:X.mg x=M)(a:fQ x=Y u)(r:RelV v u)(b:autoParam (x ≠ "__name__") ū)(f:autoParam ((x==("__debug__" : aE))=false) ū):PE X (.Name x G) (tC v):=
 λd d d H d I h=>p_ I e c a ⟨v,H,I,r,h⟩ b f
def PC(X:Cx)(f:CmpOp)(a b:Expr)(t:TE):Prop:=
 ∀(B:List (ax×Obj)) (s:aw) (U:St) (H:Hp) (Q:VK),Inv X B U H s->t U H Q ->
  be (aV X.prog X.w) X.A (eval a X.env) (λv e=>be (aV X.prog X.w) X.A (eval b X.env) (λu c=>be (aV X.prog X.w) X.A (hI f v u) (EP X B U Q) X.xe c) X.xe e) X.xe s
def Nr(b:Expr){a:CmpOp}(h:a ≠ .In)(z:a ≠ .NotIn):fK a b=false:=by
 have e:(a==CmpOp.In)=false:=by cases a<;>first|rfl|exact absurd rfl h
 have c:(a==CmpOp.NotIn)=false:=by cases a<;>first|rfl|exact absurd rfl z
 cases b<;>simp[fK,e,c]
def tB(t:TE):TT:=λU H Q=>t U H λx O=>∃c,x=.bl c/\Q c O
def Ud(h:PC X e a b t)(J:fK e b=false:=by first|exact Nr _ ſ ſ|rfl):PT X (.Compare a [e] [b] G) (tB t):=by
 intro B s U H Q I hw;refine wpAny_isTrue_Compare1 (fo (h B s U H _ I hw) λv o J=>fo J λu m z=>fo z ?_) J;rintro c l ⟨x,O,k,f,g⟩;obtain⟨d,rfl,q⟩:=g;cases f;exact g_ ⟨O,k,q⟩
def Uc(h:PE X e t)(f:autoParam (∀a,isTrue e X.env a=(do let v <- a;jQ e.pos;iC [v] (truthy v))) Ū):PT X e (tB t):=by
 intro B s U H Q I hw;refine isTrue_plain (fo (h B s U H _ I hw) ?_) (f _);rintro v k ⟨x,O,g,b,c⟩;obtain⟨d,rfl,q⟩:=c;cases b;exact g_ ⟨O,g,q⟩
variable {AA:List Expr}
def aax(t u:TT):TT:=λU H Q=>t U H λc O=>if c=Z' then u U O Q else Q Z_ O
def tOr(t u:TT):TT:=λU H Q=>t U H λc O=>if c=Z' then Q Z' O else u U O Q
def Xe(t:TT):TT:=λU H Q=>t U H λc O=>Q (!c) O
def P9(b:PT X a tA):PW X (.BoolOp .And [a] G) tA:=by
 intro f B s U H Q I h;refine isTrue_and (fo (b B s U H Q I h) λc g e =>?_)
 grind [isTrue_and_nil]
def MR(b:PT X a tA):PW X (.BoolOp .Or [a] G) tA:=by
 intro f B s U H Q I h;refine isTrue_or (fo (b B s U H Q I h) λc g e =>?_)
 grind [isTrue_or_nil]
def Ub(m:PT X a tA)(l:PW X (.BoolOp .And (b::AA) G) tB'):PW X (.BoolOp .And (a::b::AA) G) (aax tA tB'):=by
 intro g B s U H Q I h;refine isTrue_and (fo (m B s U H _ I h) ?_);rintro c k ⟨O,f,e⟩;cases c with
 |true=>solve_by_elim|false=>solve_by_elim
def MS(m:PT X a tA)(l:PW X (.BoolOp .Or (b::AA) G) tB'):PW X (.BoolOp .Or (a::b::AA) G) (tOr tA tB'):=by
 intro g B s U H Q I h;refine isTrue_or (fo (m B s U H _ I h) ?_);rintro c k ⟨O,f,e⟩;cases c with
 |true=>solve_by_elim|false=>solve_by_elim
def MV(b:PT X a tA):PT X (.UnaryOp .Not a G) (Xe tA):=by
 exact λB s U H Q I h=>isTrue_not (fo (b B s U H _ I h) (by rintro c k ⟨O,f,e⟩;exact ź))
def Xl(N y:TE):TE:=λU H Q=>N U H λx O=>∃c,x=.bl c/\if c=Z' then y U O Q else Q (.bl Z_) O
def aas(N y:TE):TE:=λU H Q=>N U H λx O=>∃c,x=.bl c/\if c=Z' then Q (.bl Z') O else y U O Q
def Xd(N:TE):TE:=λU H Q=>N U H λx O=>∃c,x=.bl c/\Q (.bl (!c)) O
def M4{b}(h:PE X a t):PE X (.BoolOp b [a] G) t:=λB s U H Q I hw=>BoolOp_one (h B s U H Q I hw)
def GS(m:PE X a N)(l:PE X (.BoolOp .And (b::AA) G) y):PE X (.BoolOp .And (a::b::AA) G) (Xl N y):=by
 intro B s U H Q I h;refine BoolOp_and (fo (m B s U H _ I h) ?_);rintro v g ⟨x,O,f,k,e⟩;obtain⟨c,rfl,e⟩:=e;cases k;refine g_ ?_;cases c with
 |true=>solve_by_elim|false=>exact⟨.bl _,O,f,rfl,e⟩
def XS(m:PE X a N)(l:PE X (.BoolOp .Or (b::AA) G) y):PE X (.BoolOp .Or (a::b::AA) G) (aas N y):=by
 intro B s U H Q I h;refine BoolOp_or (fo (m B s U H _ I h) ?_);rintro v g ⟨x,O,f,k,e⟩;obtain⟨c,rfl,e⟩:=e;cases k;refine g_ ?_;cases c with
 |false=>solve_by_elim|true=>exact⟨.bl _,O,f,rfl,e⟩
def Us(f:PE X a N):PE X (.UnaryOp .Not a G) (Xd N):=by
 intro B s U H Q I h;refine UnaryOp_ (fo (f B s U H _ I h) ?_);rintro v k ⟨x,O,g,e,b⟩;obtain⟨c,rfl,b⟩:=b;cases e;exact not_of (g_ ⟨.bl _,O,g,rfl,b⟩)
def tIf(t:TT)(N y:TE):TE:=λU H Q=>t U H λc O=>if c=Z' then N U O Q else y U O Q
def M6(k:PT X c tA)(m:PE X a N)(l:PE X b y):PE X (.IfExp c a b G) (tIf tA N y):=by
 intro B s U H Q I h;refine wpAny_IfExp (fo (k B s U H _ I h) ?_);rintro d e ⟨O,g,f⟩;cases d with
 |true=>solve_by_elim|false=>solve_by_elim
end
def mY(K:aG)(H:Hp)(a:ax)(xs:List V):Prop:=
 Rd H a (.lst xs) \/
  ∃(o:Obj) (b:Array aq) (n:Nat),K.lookup a=Y o/\o.cls=.type "list" /\o.dict=M/\o.data=.seq b n/\b.size<=a_/\cb xs b.toList
def Cd(K:aG)(H:Hp)(a:ax)(xs:List V):Prop:=
 Rd H a (.tup xs) \/
  ∃(o:Obj) (b:Array aq) (n:Nat),K.lookup a=Y o/\o.cls=.type "tuple" /\o.data=.seq b n/\b.size<=a_/\cb xs b.toList
noncomputable def acb:aq->Option V
 |.none=>Y .dW|.bool b=>Y (.bl b)|.int i _=>Y (.int i)|.str x _=>Y (.str x)|.bytes b _=>Y (.Ry b)|.float b _=>Y (.Pm b)|.ref a=>Y (.ref a)|.type n=>Y (.ty n)|_=>M
def RelV.abs(r:RelV x u):acb u=Y x:=by
 cases x with
 |dW=>cases r;rfl|bl _=>cases r;rfl|ref _=>cases r;rfl|ty _=>cases r;rfl|_=>obtain⟨t,rfl⟩:=r;rfl
def RelV.inj{x:V}(r:RelV x u)(q:RelV y u):x=y:=cB (r.abs.symm.trans q.abs)
def cb.inj{xs ys:List V}{a:List aq}(h:cb xs a)(g:cb ys a):xs=ys:=by
 induction h generalizing ys with
 |nil=>cases g;rfl|cons r _ ih=>
  cases g with|cons c b=>rw[r.inj c,ih b]
section
variable {X:Cx}{s:aw}
def mY.of{K:aG}(h:H a=Y (.lst xs)):mY K H a xs :=.inl (.inl h)
def Cd.of{K:aG}(h:H a=Y (.tup xs)):Cd K H a xs :=.inl (.inl h)
def Inv.list(I:Inv X B U H s)(h:mY X.K H a xs):∃b:List aq,cb xs b/\PlainL s.heap a b.toArray/\xs.length<=a_:=by
 rcases h with h|⟨o,b,n,f,k,g,c,l,r⟩
 .obtain⟨z,b,n,r,e⟩:=h.ok I.eY;exact⟨b,r,⟨_,n,e,rfl,rfl,rfl⟩,z⟩
 .refine⟨_,r,⟨o,n,I.qJ a o f,k,g,ž⟩,?_⟩;have e:=r.length
  simp_all
def Inv.tuple(I:Inv X B U H s)(h:Cd X.K H a xs):∃b:List aq,cb xs b/\IsTup s.heap a b.toArray/\xs.length<=a_:=by
 rcases h with h|⟨o,b,n,f,g,c,k,r⟩
 .obtain⟨z,b,r,p⟩:=h.ok I.eY;exact⟨b,r,p,z⟩
 .refine⟨_,r,⟨o,I.qJ a o f,g,n,ž⟩,?_⟩;have e:=r.length
  simp_all
def Inv.rJ(I:Inv X B U H s)(h:mY X.K H a xs)(h':mY X.K H a ys):xs=ys:=by
 obtain⟨c,r,⟨o,n,e,_,_,d⟩,_⟩:=I.list h;obtain⟨b,k,⟨o',m,f,_,_,g⟩,_⟩:=I.list h';have:c=b:=by simp_all
 subst this;exact r.inj k
def Inv.Kb(I:Inv X B U H s)(h:Cd X.K H a xs)(h':Cd X.K H a ys):xs=ys:=by
 obtain⟨c,r,⟨o,e,_,n,d⟩,_⟩:=I.tuple h;obtain⟨b,k,⟨o',f,_,m,g⟩,_⟩:=I.tuple h';have:c=b:=by simp_all
 subst this;exact r.inj k
end
noncomputable abbrev Cx.xW(X:Cx)(E:aq->aw->Prop):Cx:={ X with xe:=E }
abbrev Cx.F9(X:Cx):Cx:=X.xW λa a=>False
def Cx.Ok.xW{X:Cx}(a:X.Ok)(E:aq->aw->Prop):(X.xW E).Ok:=
 ⟨a.mod,a.kind,a.glob,a.blt,a.above,a.inj,a.has,a.WJ,a.hd,a.frames,a.Xp,a.exf,a.bs,a.OO,a.KG,a.N_,a.w6,a.SH⟩
def Cx.Ok.qU{X:Cx}(a:(X.xW E).Ok):X.Ok:=
 ⟨a.mod,a.kind,a.glob,a.blt,a.above,a.inj,a.has,a.WJ,a.hd,a.frames,a.Xp,a.exf,a.bs,a.OO,a.KG,a.N_,a.w6,a.SH⟩
section
variable {X:Cx}{s:aw}
def Inv.xW(I:Inv X B U H s)(E:aq->aw->Prop):Inv (X.xW E) B U H s:=⟨I.ok.xW E,I.os,I.bare,I.base,I.loc,I.cell,I.free,I.mB,I.pin,I.eY,I.len⟩
def Inv.qU(I:Inv (X.xW E) B U H s):Inv X B U H s:=⟨I.ok.qU,I.os,I.bare,I.base,I.loc,I.cell,I.free,I.mB,I.pin,I.eY,I.len⟩
def SP.qU{D:Ends}{f:Flow}(h:SP (X.xW E) B D f s'):SP X B D f s':=by
 cases f with
 |ret u=>obtain⟨v,a,H',I,r,q⟩:=h;exact⟨v,a,H',I.qU,r,q⟩
 |_=>obtain⟨a,H',I,q⟩:=h;exact⟨a,H',I.qU,q⟩
def lX.F9{st:List nW}(h:lX X.F9 st t):lX X st t:=λB s U H D I hw=>
 dP (h B s U H D (I.xW _) hw) (λa a q=>q.qU) λa a z=>eE z
end
section
variable {X:Cx}{st:nW}{AA:List nW}
def Mn:TS:=λD U H=>D.nx U H
def Gx(t u:TS):TS:=λD U H=>t { D with nx:=u D } U H
def yx:lX X [] Mn:=λa a U H a I h=>kD ⟨U,H,I,h⟩
def ir(J:PS X st t)(z:lX X AA u):lX X (st::AA) (Gx t u):=by
 intro B s U H D I h;refine O' (fo (J B s U H _ I h) λf b q =>?_);cases f with
 |next=>
  obtain⟨a,H',c,q⟩:=q
  exact ź
 |_=>exact q
def mE(J:PS X st t):lX X [st] t:=by
 intro B s U H D I h;refine O' (fo (J B s U H D I h) λf a q =>?_);cases f with
 |next=>exact kD q|_=>exact q
def Inv.quiet{s:aw}(I:Inv X B U H s):interactive X.env=false:=by simp[interactive,I.ok.kind]
def Xi(te:TE):TS:=λD U H=>te U H λ_ O=>D.nx U O
def mF(c:PE X e te)(b:autoParam (bU e M G.line X.env=dn false) ŭ):PS X (.Expr e G) (Xi te):=by
 exact λB s U H D I h=>wpAny_Expr_any (fo (c B s U H _ I h) (by rintro v g ⟨x,O,f,k,a⟩;exact⟨U,O,f,a⟩)) I.quiet b
def aar(te:TE):TS:=λD U H=>te U H D.rt
def nG(c:PE X e te):PS X (.Return (Y e) G) (aar te):=by
 exact λB s U H D I h=>wpAny_Return_some (fo (c B s U H _ I h) (by rintro v g ⟨x,O,f,a,b⟩;exact⟨x,U,O,f,a,b⟩))
def Tx(c:TT)(t u:TS):TS:=λD U H=>c U H λb O=>if b=Z' then t D U O else u D U O
def Ex(k:PT X c tc)(m:lX X a t)(l:lX X b u):PS X (.If c a b G) (Tx tc t u):=by
 intro B s U H D I h;refine wpAny_If (fo (k B s U H _ I h) ?_);rintro d e ⟨O,g,f⟩;cases d with
 |true=>solve_by_elim|false=>solve_by_elim
def Mo:TS:=λa a a=>False
def MY:PS X st Mo:=λa a a a a a h=>h.elim
def Kq:lX X a Mo:=λb b b b b b h=>h.elim
end
abbrev TG:=V->St->Hp->(St->Hp->Prop)->Prop
abbrev Zj:=List V->St->Hp->(St->Hp->Prop)->Prop
def PG(X:Cx)(a:Expr)(t:TG):Prop:=
 ∀(B:List (ax×Obj)) (s:aw) (U:St) (H:Hp) (v:V) (u:aq) (Q:St->Hp->Prop),Inv X B U H s->RelV v u->t v U H Q ->
  be (aV X.prog X.w) X.A (assign a X.env u) (λ_ s'=>∃b H',Inv X B b H' s'/\Q b H') X.xe s
def PGs(X:Cx)(e:List Expr)(t:Zj):Prop:=
 ∀(B:List (ax×Obj)) (s:aw) (U:St) (H:Hp) (b:List V) (c:List aq) (Q:St->Hp->Prop),Inv X B U H s->cb b c->t b U H Q ->
  be (aV X.prog X.w) X.A (assignInOrder ((AF e X.env).map (·.2)) c) (λ_ s'=>∃a H',Inv X B a H' s'/\Q a H') X.xe s
abbrev Zi:=V->V->V->Hp->(Hp->Prop)->Prop
def Zk(X:Cx)(t:Zi):Prop:=
 ∀(B:List (ax×Obj)) (s:aw) (U:St) (H:Hp) (o i v:V) (a b u:aq) (Q:Hp->Prop),Inv X B U H s->RelV o a->RelV i b->RelV v u->t o i v H Q ->
  be (aV X.prog X.w) X.A (setItem a b u) (λ_ s'=>∃H',Inv X B U H' s'/\Q H') X.xe s
abbrev TIp:=V->V->Hp->VK->Prop
def PIp(X:Cx)(a:Operator)(t:TIp):Prop:=
 ∀(B:List (ax×Obj)) (s:aw) (U:St) (H:Hp) (x y:V) (v u:aq) (Q:VK),Inv X B U H s->RelV x v->RelV y u->t x y H Q ->
  be (aV X.prog X.w) X.A (inplaceOp a v u) (EP X B U Q) X.xe s
section
variable {X:Cx}
def om(i:Nat):TG:=λv U H Q=>Q (U.set i (Y v)) H
def cV{i:Nat}(c:X.N.Nodup)(L:X.N[i]?=Y x)(a:Loc X.env.scope x)(b:autoParam (X.fn x=Z'\/X.env.scope.names.lookup x=Y .local) Ũ):PG X (.Name x G) (om i):=by
 exact λB s U H v u Q I r h=>wpAny_assign_Name (u5 I c L a r (λs' e=>⟨_,H,e,h⟩) b)
def Vt:Zj:=λa U H Q=>a=[]/\Q U H
def BX(t:TG)(u:Zj):Zj:=λb U H Q=>∃v r,b=v::r/\t v U H λa H'=>u r a H' Q
def ZG:PGs X [] Vt:=by
 rintro B s U H a b Q I r ⟨e,h⟩;exact assignInOrder_nil ⟨U,H,I,h⟩
def XR(J:PG X e t)(z:PGs X es u)(g:autoParam ((AF (e::es) X.env).map (·.2)=assign e X.env::(AF es X.env).map (·.2)) ŭ):PGs X (e::es) (BX t u):=by
 rintro B s U H m p Q I r ⟨v,o,k,h⟩;subst k;cases r with
 |cons r c=>
  rw[g];refine assignInOrder_cons (fo (J B s U H _ _ _ I r h) ?_);rintro _ b ⟨a,O,l,f⟩
  exact ź
def Vs(K:aG)(n:Nat)(t:Zj):TG:=λv U H Q=>∃a xs,v=.ref a/\Cd K H a xs/\xs.length=n/\t xs U H Q
def aaQ(A:X.calm=Z')(h:PGs X es t)(w:autoParam ((AF es X.env).length=n) ŭ)(c:autoParam ((AF es X.env).findIdx? (·.1)=none) ŭ):PG X (.Tuple es k G) (Vs X.K n t):=by
 refine λB s U H v u Q I r xx=>ae λkk =>?_
 obtain⟨a,xs,C,p,x,hw⟩:=xx;subst C;cases r;obtain⟨g,f,m,E⟩:=I.tuple p;refine kk (assign_Tuple_tuple (I.ok.hd A) m (by simp[w,<- x,f.length]) c λh' l =>?_);have D:=I.kept (t':=s.toks) λb o e=>l b o (bH (aI e)) e
 exact ź
def Yv(to a:TE)(t:Zi):TG:=λv U H Q=>to U H λo O=>a U O λi d=>t o i v d λb=>Q U b
def Uo(A:PE X o to)(L:PE X i c)(w:Zk X t) (C:autoParam (∀v,assign (.Subscript o i G) X.env v=(do
   let a <- iC [v] (eval o X.env)
   let b <- iC [v,a] (eval i X.env)
   jQ G
   iC [v,a,b] (setItem a b v)
   release [v,a,b] [])) Ū):PG X (.Subscript o i G) (Yv to c t):=by
 intro B s U H v u Q I r h;rw[C];refine ah (fJ (fo (A B s U H _ I h) ?_));rintro a f ⟨x,O,F,k,p⟩;refine ah (fJ (fo (L B f U O _ F p) ?_));rintro b e ⟨y,d,E,g,m⟩;refine ah (xC (ah (fJ (fo (w B e U d x y v a b u _ E k g r m) ?_))));rintro _ j ⟨K,D,l⟩;exact wpAny_release ⟨U,K,D,l⟩
def Mp(te:TE)(g:TG):TS:=λD U H=>te U H λx O=>g x U O D.nx
def Uj(l:PE X e te)(k:PG X tg g)(f:autoParam (swapsWithSole [tg] e G.line X.env=dn false) ŭ)(hw:autoParam (swappedStores [tg] e X.env=dn none) ŭ)(J:autoParam ((AF [tg] X.env).map (·.2)=[assign tg X.env]) ŭ):PS X (.Assign [tg] e G) (Mp te g):=by
 intro B s U H D I h;refine wpAny_Assign_stores (fo (l B s U H _ I h) ?_) f hw;rintro v a ⟨x,O,m,b,c⟩;rw[J]
 exact ź
def jZ{i:Nat}(l:X.N.Nodup)(L:X.N[i]?=Y x)(c:Loc X.env.scope x)(k:PE X e te)(f:autoParam (bU e (Y (.Name x RJ)) G.line X.env=dn false) ŭ)(g:autoParam (X.fn x=Z'\/X.env.scope.names.lookup x=Y .local) Ũ):
  PS X (.Assign [.Name x RJ] e G) (Mp te (om i)):=by
 intro B s U H D I h;refine wpAny_Assign_Name (fo (k B s U H _ I h) ?_) f;rintro v r ⟨y,O,o,a,b⟩;exact u5 o l L c a (λp m=>⟨_,O,m,b⟩) g
def aaw(i:Nat)(te:TE)(a:TIp):TS:=λD U H=>∃x,U[i]?=Y (Y x)/\te U H λy O=>a x y O λz d=>D.nx (U.set i (Y z)) d
def Ui{ti:TIp}(hN:X.N.Nodup)(L:X.N[i]?=Y x)(t:Loc X.env.scope x)(he:PE X e te)(P:PIp X p ti)(T:autoParam (X.fn x=Z'\/X.env.scope.names.lookup x=Y .local) Ũ):
  PS X (.AugAssign (.Name x RJ) p e G) (aaw i te ti):=by
 rintro B s U H D I ⟨v,e1,h⟩;obtain⟨m,Q,S⟩:=I.loc;have o:V3 X.env.scope x:=by rcases t with k|k;exact .inl k;exact .inr (.inl k)
 obtain⟨u,r,l⟩:=S i x v L e1 o;refine wpAny_AugAssign_Name ?_;have A:be (aV X.prog X.w) X.A (eval e X.env) (λw g=>be (aV X.prog X.w) X.A (inplaceOp p u w) (λr f=>be (aV X.prog X.w) X.A (storeName X.env x r) (λ_=>SP X B D .next) X.xe f) X.xe g) X.xe s:=by refine fo (he B s U H _ I h) ?_;rintro w C ⟨y,O,I1,F,j⟩;refine fo (P B C U O v y u w _ I1 r F j) ?_;rintro z s2 ⟨zv,d,I2,E,K⟩;exact u5 I2 hN L t E (λs3 I3=>⟨_,d,I3,K⟩) T
 rcases l with⟨a,R⟩|⟨a,c,hc,b⟩
 .exact wpAny_loadName_local I.ok.kind a Q R A
 .rcases a with a|a
  .exact wpAny_loadName_cell I.ok.kind a hc b A
  .rcases t with k|k
   .have:X.env.scope.names.lookup x=Y .free:=a
    simp_all
   .have:X.env.scope.names.lookup x=Y .free:=a
    simp_all
def To(c:TT)(y:TS):TS:=λD U H=>∃W:Nat->St->Hp->Prop,(∃m,W m U H)/\∀m U H,W m U H ->
 c U H λb O=>if b=Z' then ∃N:St->Hp->Prop,(∀a H',N a H'->∃e,e<m/\W e a H')/\y { D with nx:=N,ct:=N,bk:=D.nx } U O else D.nx U O
def MW(x:t6 (aV X.prog X.w) X.A X.env X.xe)(Q:PT X c tc)(R:lX X g y):PS X (.While c g [] G) (To tc y):=by
 rintro B s U H D I ⟨W,⟨P,F⟩,k_⟩;refine wpAny_While (codeAny_whileLoop (λn s'=>∃k H',Inv X B k H' s'/\W n k H') ?_ P ⟨U,H,I,F⟩);rintro n h ⟨e,O,S,E⟩;refine dR x (fo (Q B h e O _ S (k_ n e O E)) ?_);rintro b K ⟨d,C,o⟩;cases b with
 |true=>
  obtain⟨N,A,o⟩:=o;refine dR x (fo (R B K e d _ C o) λf T m =>?_);cases f with
  |brk=>exact m|ret v=>exact m|_=>
   refine ae λkk =>?_
   obtain⟨a,l,w,r⟩:=m;obtain⟨t,u,p⟩:=A a l r;exact kk (⟨t,u,a,l,w,p⟩)
 |false=>exact kD ⟨e,d,C,o⟩
end
structure It where
 go:Nat->Hp->Prop
 Ib:Nat->Hp->V->Hp->Prop
 stop:Nat->Hp->Prop
def Aw(X:Cx)(B:List (ax×Obj))(H:Hp)(b:ax):Prop:=
 H b=M/\b≠X.env.locals/\b∉X.fs/\(b∈X.ex\/X.s₀.heap.objs.size<=b)/\(∀x c,X.env.cells.lookup x=Y c->c≠b)/\∀p∈X.pn++B,p.1≠b
def Inv.yh{X:Cx}{s:aw}(I:Inv X B U H s)(a:s.heap.objs.size<=b)(g:H' b=M):Aw X B H' b:=by
 refine⟨g,gj (bw I.lt a),I.UM a,.inr (bz I.sz a),λx c e z =>?_,λp f z =>?_⟩
 .obtain⟨v,q⟩:=I.cell x c e;exact absurd (bw q.lt ż) (i_ _)
 .exact absurd (bw (aI (I.pin p f).1) ż) (i_ _)
structure HW(P:aZ)(w:cC)(K:aG)(tg:Expr)(J:It)(fp:List ax)(it:ax)(tn:Nat->cy->Prop):Prop where
 mem:it∈fp
 obj:∀i h,tn i h->∀b∈fp,∃o,h.get? b=some o/\∀v,o.data ≠ .cell v
 keep:∀i h h',tn i h->(∀b∈fp,∀o,h.get? b=some o->h'.get? b=some o)->tn i h'
 item:∀(X:Cx),X.prog=P->X.w=w->X.K=K->X.calm=true->∀(i:Nat) (Bi:List (ax×Obj)) (s:aw) (σ:St) (H:Hp) (E:aq->aw->Prop),Inv X Bi σ H s->(∀b∈fp,Aw X Bi H b)->tn i s.heap->J.go i H ->
  be (aV P w) X.A (pyNext (.ref it)) (λr s1=>∃u,r=some u /\
   be (aV P w) X.A (RN tg (.ref it) u) (λ_ s2=>∃x H',Inv X Bi σ H' s2/\RelV x u/\J.Ib i H x H'/\tn (i+1) s2.heap/\∀b∈fp,H' b=none) E s1) E s
 done:∀(X:Cx),X.prog=P->X.w=w->X.K=K->X.calm=true->∀(i:Nat) (Bi:List (ax×Obj)) (s:aw) (σ:St) (H:Hp) (E:aq->aw->Prop),Inv X Bi σ H s->(∀b∈fp,Aw X Bi H b)->tn i s.heap->J.stop i H ->
  be (aV P w) X.A (pyNext (.ref it)) (λr s1=>r=none/\Inv X Bi σ H s1) E s
 self:∀(A:fF) (i:Nat) (s:aw) (Q:aq->aw->Prop) (E:aq->aw->Prop),tn i s.heap->Q (.ref it) s->be (aV P w) A (pyIter (.ref it)) Q E s
abbrev TI:=St->Hp->(It->Hp->Prop)->Prop
def PIE(X:Cx)(B:List (ax×Obj))(U:St)(tg:Expr)(R:It->Hp->Prop)(a:aq)(e:aw):Prop:=
 ∃(f:ax) (g:List ax) (c:Nat->cy->Prop) (J:It) (H':Hp),a=.ref f/\Inv X B U H' e/\HW X.prog X.w X.K tg J g f c/\c 0 e.heap/\(∀b∈g,Aw X B H' b)/\R J H'
def PI(X:Cx)(tg a:Expr)(b:TI):Prop:=
 ∀(B:List (ax×Obj)) (s:aw) (U:St) (H:Hp) (R:It->Hp->Prop),Inv X B U H s->b U H R ->
  be (aV X.prog X.w) X.A (eval a X.env) (λv c=>be (aV X.prog X.w) X.A (pyIter v) (PIE X B U tg R) X.xe c) X.xe s
def Jd{d : Pu}{s : aw}{n : String}(e : s.heap.get? c = Y o)(k : o.cls = .type n)(g : o.data = .fields b)(f : ["enumerate","zip","dict_itemiterator","dict_reverseitemiterator","odict_iterator","itertools.zip_longest","itertools.pairwise"].contains n = Z_)(a : Q () s): be d A (RN tg (.ref c) u) Q E s := by
  cases tg <;> first
    |exact aF a
    | (cases u <;> first
        |exact aF a
        | (refine ah (wpAny_load e ?_)
           rw [k,g]
           show be d A (if (["enumerate","zip","dict_itemiterator","dict_reverseitemiterator","odict_iterator","itertools.zip_longest","itertools.pairwise"].contains n && b[0]? == Y _) = Z' then _ else _) Q E s
           rw [if_neg (by lia)]
           exact aF a))
noncomputable def V7(K:aG)(a:ax):It:=
 ⟨λi H=>∃xs x,mY K H a xs/\xs[i]?=Y x,λi H x H'=>H'=H/\∀xs,mY K H a xs->xs[i]?=Y x,λi H=>∃xs,mY K H a xs/\xs.length<=i⟩
def WS(K:aG)(a:ax):It:=
 ⟨λi H=>∃xs x,Cd K H a xs/\xs[i]?=Y x,λi H x H'=>H'=H/\∀xs,Cd K H a xs->xs[i]?=Y x,λi H=>∃xs,Cd K H a xs/\xs.length<=i⟩
noncomputable def Zo(n:Int)(a:Nat):It:=⟨λi b=>i<a,λi H x H'=>H'=H/\x=.int (n+i),λi b=>a<=i⟩
def J_{P:aZ}{K:aG}(a f:ax):HW P w K tg (V7 K a) [f] f (λi h=>h.IsListIter f a i) where
 mem:=by simp
 obj:=λi h st b g=>by
  have e:b=f:=by simpa using g
  subst e;obtain⟨o,e,c,d⟩:=st;exact⟨o,e,λv z=>by rw[d]at z;cases z⟩
 keep:=λi h h' st k=>st.at λo e=>k f Ž o e
 item:=by
  intro X F hw j hc i B s U H E I r st D;subst F hw j;obtain⟨xs,x,m,C⟩:=D;obtain⟨A,t,p,hz⟩:=I.list m;obtain⟨u,hu,ru⟩:=t.get C;obtain⟨f0,T,f2,S,R,Q⟩:=r f Ž;refine wpAny_pyNext_list_item st p.isList (x:=u) (by simpa using hu) λh' l sb =>?_
  have I1:Inv X B U H { s with heap:=h' }:=I.turned (t':=s.toks) (λb o g e=>(sb.2 b g).trans e) f0 T S R Q;obtain⟨o,e,c,d⟩:=id l;exact⟨u,rfl,Jd (s:={ s with heap:=h' }) e c d ſ ⟨x,H,I1,ru,⟨rfl,λys hy=>by rw[I.rJ hy m];exact C⟩,l,λb g=>(r b g).1⟩⟩
 done:=by intro X F hw j hc i B s U H E I r st D;subst F hw j;obtain⟨xs,m,C⟩:=D;obtain⟨A,t,p,hz⟩:=I.list m;obtain⟨f0,T,f2,S,R,Q⟩:=r f Ž;have hl:=t.length;exact wpAny_pyNext_list_end (I.ok.hd hc) st p.isList (by simp;lia) λh' eb=>⟨rfl,I.turned (t':=s.toks) (λb o g e=>eb b o g e) f0 T S R Q⟩
 self:=λn n n n n st h=>wpAny_pyIter_listiter st h
def Gr{P:aZ}{K:aG}(a g:ax):HW P w K tg (WS K a) [g] g (λi h=>h.IsTupleIter g a i) where
 mem:=by simp
 obj:=λi h st b l=>by
  have e:b=g:=by simpa using l
  subst e;obtain⟨o,e,c,d⟩:=st;exact⟨o,e,λv z=>by rw[d]at z;cases z⟩
 keep:=λi h h' st k=>st.at λo e=>k g Ž o e
 item:=by
  intro X F hw j hc i B s U H E I t st D;subst F hw j;obtain⟨xs,x,r,C⟩:=D;obtain⟨f,A,p,hz⟩:=I.tuple r;obtain⟨u,hu,ru⟩:=A.get C;obtain⟨f0,T,f2,S,R,Q⟩:=t g Ž;refine wpAny_pyNext_tuple_item st (show s.heap.IsTuple a f.toArray from p) (x:=u) (by simpa using hu) λh' m sb =>?_
  have I1:Inv X B U H { s with heap:=h' }:=I.turned (t':=s.toks) (λb o l e=>(sb.2 b l).trans e) f0 T S R Q;obtain⟨o,e,c,d⟩:=id m;exact⟨u,rfl,Jd (s:={ s with heap:=h' }) e c d ſ ⟨x,H,I1,ru,⟨rfl,λys hy=>by rw[I.Kb hy r];exact C⟩,m,λb l=>(t b l).1⟩⟩
 done:=by intro X F hw j hc i B s U H E I t st D;subst F hw j;obtain⟨xs,r,C⟩:=D;obtain⟨f,A,p,hz⟩:=I.tuple r;obtain⟨f0,T,f2,S,R,Q⟩:=t g Ž;have hl:=A.length;exact wpAny_pyNext_tuple_end (I.ok.hd hc) st (show s.heap.IsTuple a f.toArray from p) (by simp;lia) λh' eb=>⟨rfl,I.turned (t':=s.toks) (λb o l e=>eb b o l e) f0 T S R Q⟩
 self:=λn n n n n st h=>wpAny_pyIter_tupleiter st h
def Gs{P:aZ}{K:aG}(c:ax)(n:Int)(a:Nat):HW P w K tg (Zo n a) [c] c (λi h=>IsRangeIter h c (n+(i:Nat)*1) ((a:Int)-(i:Nat)) 1) where
 mem:=by simp
 obj:=λi h st b f=>by
  have e:b=c:=by simpa using f
  subst e;exact⟨_,st,λv z=>by have d:f7 _=Data.cell v:=z;cases d⟩
 keep:=λi h h' st k=>k c Ž _ st
 item:=by
  intro X r hw u p i B s U H E I l st m;subst r hw u;obtain⟨F,D,S,C,A,x⟩:=l c Ž;have W:=Walks.range (prog:=X.prog) (w:=X.w) (I.ok.hd p) c n 1 a;refine W.item i s _ _ m st λv h' tk R g Q =>?_
  obtain⟨t,rfl⟩:=R;have I1:Inv X B U H { s with heap:=h',toks:=tk }:=I.turned (λb o f e=>Q b o (by simpa using f) e) F D C A x;refine⟨_,rfl,Jd (s:={ s with heap:=h',toks:=tk }) (n:= "range_iterator") g rfl rfl ſ ⟨.int (n+i),H,I1,⟨t,?_⟩,⟨rfl,rfl⟩,g,λb f=>(l b f).1⟩⟩;rw[Int.mul_one]
 done:=by intro X r hw u p i B s U H E I l st m;subst r hw u;obtain⟨F,D,S,C,A,x⟩:=l c Ž;exact wpAny_pyNext_range_end (I.ok.hd p) st (by have:a<=i:=m;lia) λh' T=>⟨rfl,I.turned (t':=s.toks) (λb o f e=>T b o f e) F D C A x⟩
 self:=λj j j j j st h=>wpAny_pyIter_rangeiter st h
section
variable {X:Cx}
def Yk(K:aG)(tl:TE):TI:=λU H R=>tl U H λx O=>∃a,x=.ref a/\(∃xs,mY K O a xs)/\R (V7 K a) O
def abd(K:aG)(tl:TE):TI:=λU H R=>tl U H λx O=>∃a,x=.ref a/\(∃xs,Cd K O a xs)/\R (WS K a) O
def CK(t:PE X l tl):PI X tg l (Yk X.K tl):=by
 intro B s U H R I h;refine fo (t B s U H _ I h) ?_;rintro v c ⟨x,O,f,g,k⟩;obtain⟨a,e,⟨xs,r⟩,q⟩:=k;subst e;cases g;obtain⟨m,w,p,A⟩:=f.list r;refine lg p.isList ?_;refine⟨_,_,_,_,O,rfl,f.kept λb o e=>ak _ e,J_ a _,⟨_,bg _ rfl,rfl,rfl⟩,λb u =>?_,q⟩;have e:=by simpa using u
 subst e;exact f.yh (aH _) (f.eY.fresh (aH _))
def MZ(t:PE X l tl):PI X tg l (abd X.K tl):=by
 intro B s U H R I h;refine fo (t B s U H _ I h) ?_;rintro v c ⟨x,O,f,k,m⟩;obtain⟨a,e,⟨xs,r⟩,q⟩:=m;subst e;cases k;obtain⟨g,w,p,A⟩:=f.tuple r;refine wpAny_pyIter_tuple p ?_;refine⟨_,_,_,_,O,rfl,f.kept λb o e=>ak _ e,Gr a _,⟨_,bg _ rfl,rfl,rfl⟩,λb u =>?_,q⟩;have e:=by simpa using u
 subst e;exact f.yh (aH _) (f.eY.fresh (aH _))
def Eu{s:aw}{R:It->Hp->Prop}{v:Tok}(I:Inv X B U H s)(J : -(2 ^ 62)<=n)(z:n<2 ^ 62)(g : -(2 ^ 62)<=L)(f:L<2 ^ 62)(q:R (Zo n (L-n).toNat) H):be (aV X.prog X.w) X.A (pyIter (.ref s.heap.objs.size)) (PIE X B U tg R) E { s with heap:=s.heap.push { cls :=.type "range",data :=.fields #[.int n t,.int L u,.int 1 v] },toks:=tk }:=by
 refine wpAny_pyIter_range (IsRange.new ..) (small_one J z g f) ?_;have a:Inv X B U H { s with heap:=s.heap.push { cls :=.type "range",data :=.fields #[.int n t,.int L u,.int 1 v] },toks:=tk }:=I.kept λb o e=>ak _ e
 refine⟨_,_,_,_,H,rfl,
  a.kept λb o e=>ak _ e,Gs _ n _,?_,λb c =>?_,q⟩
 .have k:n+(0:Nat)*1=n:=Ž
  have h:((L-n).toNat:Nat)-(0:Nat)=Builtin.Range.rangeSize n L 1:=by grind [rangeSize_one]
  rw[k,h];exact bg _ rfl
 .have e:b=(s.heap.push { cls :=.type "range",data :=.fields #[.int n t,.int L u,.int 1 v] }).objs.size:=by simpa using c
  subst e;exact a.yh (aH _) (a.eY.fresh (aH _))
def Yj(N:TA):TI:=λU H R=>N U H λa O=>∃j:Int,a=[.int j] /\ -(2 ^ 62)<=j/\j<2 ^ 62/\R (Zo 0 j.toNat) O
def Yi(N:TA):TI:=λU H R=>N U H λa O=>∃i j:Int,a=[.int i,.int j]/\(-(2 ^ 62)<=i/\i<2 ^ 62 /\ -(2 ^ 62)<=j/\j<2 ^ 62)/\R (Zo i (j-i).toNat) O
def BG(m:Gl X "range")(l:X.mg "range" = M)(o:PA X [a] N)(k:autoParam (ao [a] X.env=[(Z_,eval a X.env)]) ŭ):PI X tg (.Call (.Name "range" p) [a] [] G) (Yj N):=by
 intro B s U H R I h;refine Call_ (p_ I m l boot_range (gZ (fo (o G B s U H _ I h) ?_) k rfl));rintro w x ⟨v,O,u,f,b⟩;obtain⟨j,e,b,g,q⟩:=b;subst e;cases f with
 |cons r c=>cases c;obtain⟨t,rfl⟩:=r;exact call_range_1 (Eu u Ž Ž b g ż)
def Kt(x:Gl X "range")(w:X.mg "range" = M)(A:PA X [a,b] N)(v:autoParam (ao [a,b] X.env=[(Z_,eval a X.env),(Z_,eval b X.env)]) ŭ)(c:autoParam (ao [b] X.env=[(Z_,eval b X.env)]) ŭ):
  PI X tg (.Call (.Name "range" p) [a,b] [] G) (Yi N):=by
 intro B s U H R I h;refine Call_ (p_ I x w boot_range (gZ (fo (A G B s U H _ I h) ?_) (by rw[v,c]) (by rw[c];exact ź)));rintro E K ⟨D,O,C,k,g⟩;obtain⟨i,j,e,⟨g,u,o,m⟩,q⟩:=g;subst e;cases k with
 |cons r f=>
  cases f with
  |cons l f=>cases f;obtain⟨t,rfl⟩:=r;obtain⟨F,rfl⟩:=l;exact call_range_2 (Eu C g u o m q)
def aau(e:TI)(g:TG)(y:TS):TS:=λD U H=>e U H λJ O=>∃W:Nat->Nat->St->Hp->Prop,(∃m,W 0 m U O)/\∀i m U H,W i m U H ->
 (J.stop i H/\D.nx U H)\/(J.go i H/\∃N:St->Hp->Prop,(∀a H',N a H'->∃c,c<m/\W (i+1) c a H')/\∀x H',J.Ib i H x H'->g x U H' λb d=>y { D with nx:=N,ct:=N,bk:=D.nx } b d)
noncomputable def uh(a:List ax)(h:cy):List (ax×Obj):=a.filterMap λb=>(h.get? b).map λo=>(b,o)
def kj(c:b∈a)(e:h.get? b=Y o):(b,o)∈uh a h:=List.mem_filterMap.mpr ⟨b,c,by rw[e];rfl⟩
def BI(c:p∈uh a h):p.1∈a/\h.get? p.1=Y p.2:=by
 obtain⟨b,_⟩:=List.mem_filterMap.mp c;rcases q:h.get? b with _|o
 .simp_all
 grind
def Inv.pinned{s:aw}(I:Inv X B U H s)(k:∀b∈a,Aw X B H b)(h:∀b∈a,∃o,s.heap.get? b=Y o/\∀v,o.data ≠ .cell v):Inv X (B++uh a s.heap) U H s:=
 I.yy λp g=>(bG.mp g).elim (λz=>I.pin p ż) λz=>by
  obtain⟨c,e⟩:=BI z;obtain⟨r,m,l,_⟩:=k p.1 c
  grind
def Inv.m_{s:aw}(I:Inv X (B++a) U H s):Inv X B U H s:=I.yy λp b=>I.pin p ż
def Uh{j : List nW}(hp : t6 (aV X.prog X.w) X.A X.env X.xe)(hc : X.calm = Z')(L : PI X tg w wi)(hg : PG X tg g)(A : lX X j y)(hs : ∀x,cw w X.env x = dn x := by intro _; rfl): PS X (.For tg w j [] G) (aau wi g y) := by
  intro B s U H D I h
  refine wpAny_For (fo (L B s U H _ I h) λv s1 J => fo J λitv s2 z => ?_) hs
  refine ae λkk => ?_
  obtain ⟨it,fp,tn,a,d,e,I2,T,TH,f2,W,⟨m0,w0⟩,k_⟩ := z
  subst e
  have t : ∀ {H' : Hp},(∀b ∈ fp,H' b = M) -> ∀b ∈ fp,Aw X B H' b := λhn b A => ⟨hn b A,(f2 b A).2⟩
  refine kk (codeAny_forLoop_any (λn s' => ∃i p H',Inv X B p H' s' /\ tn i s'.heap /\ (∀b ∈ fp,H' b = M) /\ W i n p H') ?_ m0 ⟨0,U,d,I2,TH,λb A => (f2 b A).1,w0⟩)
  refine λn s3 xx => ae λkk => ?_
  obtain ⟨i,l,H3,I3,R,Yy,w3⟩ := xx
  refine kk ?_
  rcases k_ i n l H3 w3 with⟨stop,qn⟩ | ⟨go,N,hN,Q⟩
  . refine dR hp (fo (T.done X rfl rfl rfl hc i B s3 l H3 X.xe I3 (t Yy) R stop) ?_)
    rintro r s4 ⟨hr,I4⟩
    subst hr
    exact kD ⟨l,H3,I4,qn⟩
  . refine dR hp (fo (T.item X rfl rfl rfl hc i B s3 l H3 X.xe I3 (t Yy) R go) ?_)
    rintro r s4 ⟨u,hr,h4⟩
    subst hr
    refine dR hp (fo h4 ?_)
    refine λ_ s5 xx => ae λkk => ?_
    obtain ⟨x,H5,I5,r5,y5,P,WC⟩ := xx
    refine kk (dR hp (fo (hg _ s5 l H5 x u _ (I5.pinned (t WC) (T.obj _ _ P)) r5 (Q x H5 y5)) ?_))
    refine λ_ s6 xx => ae λkk => ?_
    obtain ⟨σ6,H6,I6,q6⟩ := xx
    refine kk (dR hp (fo (A _ s6 σ6 H6 _ I6 q6) λf s7 K => ?_))
    have C : ∀ {k : St} {F : Hp},Inv X (B ++ uh fp s5.heap) k F s7 -> N k F -> ∃m,m < n /\ ∃i p H',Inv X B p H' s7 /\ tn i s7.heap /\ (∀b ∈ fp,H' b = M) /\ W i m p H' := fun {k F} E S => by
      obtain ⟨m',hm,w7⟩ := hN k F S
      refine⟨m',hm,i + 1,k,F,E.m_,T.keep _ _ _ P λb A o e => (E.pin (b,o) (aU _ (aU _ (kj A e)))).1,λb A => ?_,w7⟩
      obtain ⟨o,e,c⟩ := T.obj _ _ P b A
      exact (E.pin (b,o) (aU _ (aU _ (kj A e)))).2.1
    cases f with
    |brk => obtain ⟨k,F,E,K⟩ := K; exact⟨k,F,E.m_,K⟩
    | ret v => refine ae λkk => ?_
               obtain ⟨x7,k,F,E,r7,K⟩ := K; exact kk (⟨x7,k,F,E.m_,r7,K⟩)
    |_ => obtain ⟨k,F,E,S⟩ := K; exact C E S
end
def Yz{K:aG}{g:TG}{y:TS}{D:Ends}(c:Nat->St->Hp->Prop)(u:c 0 U H)(s:∀i U H,i<=xs.length->c i U H->mY K H a xs)(r:∀i x U H,xs[i]?=Y x->c i U H->g x U H λf d=>y { D with nx:=c (i+1),ct:=c (i+1),bk:=D.nx } f d)(t:∀U H,c xs.length U H->D.nx U H):
  ∃W:Nat->Nat->St->Hp->Prop,(∃m,W 0 m U H)/\∀i m U H,W i m U H ->
   ((V7 K a).stop i H/\D.nx U H)\/((V7 K a).go i H/\∃N:St->Hp->Prop,(∀h H',N h H'->∃l,l<m/\W (i+1) l h H')/\∀x H',(V7 K a).Ib i H x H'->g x U H' λf d=>y { D with nx:=N,ct:=N,bk:=D.nx } f d):=by
 refine⟨λi m U H=>m=xs.length-i/\i<=xs.length/\c i U H,⟨xs.length,Ž,dk _,u⟩,?_⟩;rintro i m U H ⟨rfl,L,p⟩;have q:=s i U H L p;by_cases k:i<xs.length
 .refine .inr ⟨⟨xs,xs[i],q,by simp[k]⟩,c (i+1),λh H' o=>⟨xs.length-(i+1),ž,rfl,k,o⟩,λx H' b =>?_⟩;obtain⟨e,b⟩:=b;subst e;exact r i x U _ (b xs q) p
 .have e:i=xs.length:=ž
  subst e;exact .inl ⟨⟨xs,q,aH _⟩,t U H p⟩
def QS{K:aG}{g:TG}{y:TS}{D:Ends}(c:Nat->St->Hp->Prop)(u:c 0 U H)(s:∀i U H,i<=xs.length->c i U H->Cd K H a xs)(r:∀i x U H,xs[i]?=Y x->c i U H->g x U H λf d=>y { D with nx:=c (i+1),ct:=c (i+1),bk:=D.nx } f d)(t:∀U H,c xs.length U H->D.nx U H):
  ∃W:Nat->Nat->St->Hp->Prop,(∃m,W 0 m U H)/\∀i m U H,W i m U H ->
   ((WS K a).stop i H/\D.nx U H)\/((WS K a).go i H/\∃N:St->Hp->Prop,(∀h H',N h H'->∃l,l<m/\W (i+1) l h H')/\∀x H',(WS K a).Ib i H x H'->g x U H' λf d=>y { D with nx:=N,ct:=N,bk:=D.nx } f d):=by
 refine⟨λi m U H=>m=xs.length-i/\i<=xs.length/\c i U H,ż,?_⟩;rintro i m U H ⟨rfl,L,p⟩;have q:=s i U H L p;by_cases k:i<xs.length
 .refine .inr ⟨⟨xs,xs[i],q,by simp[k]⟩,_,λh H' o=>⟨_,ž,rfl,k,o⟩,λx H' b =>?_⟩;obtain⟨e,b⟩:=b;subst e;exact r i x U _ (b xs q) p
 .have e:i=xs.length:=ž
  subst e;exact .inl ⟨⟨xs,q,aH _⟩,t U H p⟩
abbrev R2:=V->V->Hp->VK->Prop
def ou(X:Cx)(f:aq->aq->Sem aq)(r:R2):Prop:=
 ∀(B:List (ax×Obj)) (s:aw) (U:St) (H:Hp) (x y:V) (v u:aq) (Q:VK),Inv X B U H s->RelV x v->RelV y u->r x y H Q ->
  be (aV X.prog X.w) X.A (f v u) (EP X B U Q) X.xe s
def UnR(X:Cx)(f:aq->Sem aq)(r:V->Hp->VK->Prop):Prop:=
 ∀(B:List (ax×Obj)) (s:aw) (U:St) (H:Hp) (x:V) (v:aq) (Q:VK),Inv X B U H s->RelV x v->r x H Q ->
  be (aV X.prog X.w) X.A (f v) (EP X B U Q) X.xe s
def lu(X:Cx)(f:aq)(r:List V->Hp->VK->Prop):Prop:=
 ∀(B:List (ax×Obj)) (s:aw) (U:St) (H:Hp) (xs:List V) (a:List aq) (Q:VK),Inv X B U H s->cb xs a->r xs H Q ->
  be (aV X.prog X.w) X.A (HX f a) (EP X B U Q) X.xe s
def ace(X:Cx)(r:V->Hp->(Bool->Hp->Prop)->Prop):Prop:=
 ∀(B:List (ax×Obj)) (s:aw) (U:St) (H:Hp) (x:V) (v:aq) (Q:Bool->Hp->Prop),Inv X B U H s->RelV x v->r x H Q ->
  be (aV X.prog X.w) X.A (truthy v) (TP X B U Q) X.xe s
def Wl(r:R2)(N y:TE):TE:=λU H Q=>N U H λx O=>y U O λa d=>r x a d Q
def tUn(r:V->Hp->VK->Prop)(N:TE):TE:=λU H Q=>N U H λx O=>r x O Q
def rI(C:Int->Int->Prop)(g:Int->Int->V):R2:=λx y H Q=>∃i j,x=.int i/\y=.int j/\C i j/\Q (g i j) H
def P5(g:Int->Int->V):R2:=λx y H Q=>∃i j,x=.int i/\y=.int j/\Q (g i j) H
def rU(g:Int->V):V->Hp->VK->Prop:=λx H Q=>∃i,x=.int i/\Q (g i) H
section
variable {X:Cx}
def VZ(A:PE X a N)(w:PE X b y){s:aw}{R:V->V->Hp->Prop}(I:Inv X B U H s)(h:N U H λx O=>y U O λc d=>R x c d){f:aq->aq->Sem aq}(t:∀v u k x c d,Inv X B U d k->RelV x v->RelV c u->R x c d->be (aV X.prog X.w) X.A (f v u) Q X.xe k):
  be (aV X.prog X.w) X.A (eval a X.env) (λv g=>be (aV X.prog X.w) X.A (eval b X.env) (λu e=>be (aV X.prog X.w) X.A (f v u) Q X.xe e) X.xe g) X.xe s:=by
 refine fo (A B s U H _ I h) ?_;rintro v l ⟨x,O,D,o,r⟩;refine fo (w B l U O _ D r) ?_;rintro u k ⟨c,d,C,m,p⟩;exact t v u k x c d C o m p
def IG(l:ou X (cT e) r)(o:PE X a N)(m:PE X b y):PE X (.BinOp a e b G) (Wl r N y):=by
 exact λB s U H Q I h=>wpAny_BinOp (VZ o m I h λv u f x c d p k g q=>l B f U d x c v u Q p k g q)
def Sl{b:UnaryOp}(g:UnR X (unaryOp b) r)(k:PE X a N):PE X (.UnaryOp b a G) (tUn r N):=by
 exact λB s U H Q I h=>UnaryOp_ (fo (k B s U H _ I h) (by rintro v c ⟨x,O,l,e,f⟩;exact ź))
def X4{f:aq->aq->Sem aq}{g:Int->Int->Int}(a:∀(i j:Int) (t u:Tok) (s:aw) (Q:aq->aw->Prop) (E:aq->aw->Prop),C i j->Q (.int (g i j) s.toks) { s with toks:=s.toks+1 }->be (aV X.prog X.w) X.A (f (.int i t) (.int j u)) Q E s):
  ou X f (rI C λi j =>.int (g i j)):=by
 rintro B s U H x y v u Q I e c ⟨i,j,rfl,rfl,k,q⟩;obtain⟨t,rfl⟩:=e;obtain⟨b,rfl⟩:=c;exact a i j t b s _ _ k ⟨.int _,H,I.tok _,⟨_,rfl⟩,q⟩
def Qq{f:aq->aq->Sem aq}{g:Int->Int->Int}(a:∀(i j:Int) (t u:Tok) (s:aw) (Q:aq->aw->Prop) (E:aq->aw->Prop),Q (.int (g i j) s.toks) { s with toks:=s.toks+1 }->be (aV X.prog X.w) X.A (f (.int i t) (.int j u)) Q E s):
  ou X f (P5 λi j =>.int (g i j)):=by
 rintro B s U H x y v u Q I e c ⟨i,j,rfl,rfl,q⟩;obtain⟨t,rfl⟩:=e;obtain⟨b,rfl⟩:=c;exact a i j t b s _ _ ⟨.int _,H,I.tok _,⟨_,rfl⟩,q⟩
def X5{f:aq->aq->Sem aq}{g:Int->Int->Bool}(a:∀(i j:Int) (t u:Tok) (s:aw) (Q:aq->aw->Prop) (E:aq->aw->Prop),Q (.bool (g i j)) s->be (aV X.prog X.w) X.A (f (.int i t) (.int j u)) Q E s):
  ou X f (P5 λi j =>.bl (g i j)):=by
 rintro B s U H x y v u Q I e c ⟨i,j,rfl,rfl,q⟩;obtain⟨t,rfl⟩:=e;obtain⟨b,rfl⟩:=c;exact a i j t b s _ _ ⟨.bl _,H,I,rfl,q⟩
def acq(i j:Int):Prop:=0<=j/\j<=1000000/\i.natAbs<2 ^ 64
def O8(i j:Int):Prop:=(-(2 ^ 64)<i/\i<2 ^ 64)\/(-(2 ^ 64)<j/\j<2 ^ 64)
theorem O8.ok{i:Int}(h:O8 i j):IntMulOk i j:=by
 rcases h with⟨J,z⟩|⟨J,z⟩
 .exact .of_left (intBits_le_64 J z)
 .exact .of_right (intBits_le_64 J z)
def Gq(k:Nat):(0:Int)<=2 ^ k:=by
 exact Int.natCast_nonneg _
def UC:ou X (cT .Add) (P5 λi j =>.int (i+j)):=Qq λa a a a a a a q=>add_int q
def Uv:ou X (cT .Sub) (P5 λi j =>.int (i-j)):=Qq λa a a a a a a q=>sub_int q
def Uz:ou X (cT .Mult) (rI O8 λi j =>.int (i*j)):=X4 λb b b b b b b a q=>mul_int q a.ok
def UA:ou X (cT .Mod) (rI (λb j=>0<j) λi j =>.int (i%j)):=X4 λi j b b b b b a q=>by
 exact mod_int' ž (by rw[Int.fmod_eq_emod_of_nonneg i (by lia)];exact q)
def Ux:ou X (cT .LShift) (rI acq λi j =>.int (i*2 ^ j.toNat)):=X4 λb b b b b b b a q=>lshift_int_small a.1 a.2.1 a.2.2 q
def Uw:ou X (cT .RShift) (rI (λb j=>0<=j) λi j =>.int (i/2 ^ j.toNat)):=X4 λi j b b b b b a q=>
 rshift_int a (by rw[LO i (Gq _)];exact q)
def UB:ou X (cT .BitAnd) (P5 λi j =>.int (uX i j)):=Qq λa a a a a a a q=>and_int q
def XZ:ou X (cT .BitOr) (P5 λi j =>.int (eP i j)):=Qq λa a a a a a a q=>or_int q
def unI{f:aq->Sem aq}{g:Int->Int}(a:∀(i:Int) (t:Tok) (s:aw) (Q:aq->aw->Prop) (E:aq->aw->Prop),Q (.int (g i) s.toks) { s with toks:=s.toks+1 }->be (aV X.prog X.w) X.A (f (.int i t)) Q E s):
  UnR X f (rU λi =>.int (g i)):=by
 rintro B s U H x v Q I b ⟨i,rfl,q⟩;obtain⟨t,rfl⟩:=b;exact a i t s _ _ ⟨.int _,H,I.tok _,⟨_,rfl⟩,q⟩
def Td:UnR X (unaryOp .USub) (rU λi =>.int (-i)):=unI λa a a a a q=>neg_int q
def Te:UnR X (unaryOp .Invert) (rU λi =>.int (uW i)):=unI λa a a a a q=>invert_int q
def X2:ou X (hI .Lt) (P5 λi j =>.bl (decide (i<j))):=X5 λa a a a a a a q=>lt_int q
def X3:ou X (hI .Gt) (P5 λi j =>.bl (decide (j<i))):=X5 λa a a a a a a q=>gt_int q
def ou.or{f:aq->aq->Sem aq}{r c:R2}(h:ou X f r)(h':ou X f c):ou X f (λx y H Q=>r x y H Q\/c x y H Q):=by
 intro B s U H x y v u Q I b a q;rcases q with q|q
 .exact ź
 exact ź
def wK(b:Expr)(h:autoParam (op ≠ .In) ū)(z:autoParam (op ≠ .NotIn) ū):fK op b=false:=by
 have c:(op==CmpOp.In)=false:=ż
 have a:(op==CmpOp.NotIn)=false:=ż
 cases b<;>simp[fK,c,a]
def Qk(l:ou X (hI e) r)(p:PE X a N)(o:PE X b y)(m:fK e b=Z_):PE X (.Compare a [e] [b] G) (Wl r N y):=by
 exact λB s U H Q I h=>wpAny_Compare1 (VZ p o I h λv u f x c d t k g q=>l B f U d x c v u Q t k g q) m
def Xb(t:TE):TT:=λU H Q=>t U H λx H'=>∃k,x=.bl k/\Q k H'
def CJ(D:ou X (hI g) r)(K:PE X a N)(F:PE X b y)(E:fK g b=Z_):PT X (.Compare a [g] [b] G) (Xb (Wl r N y)):=by
 intro B s U H Q I h;refine wpAny_isTrue_Compare1 (fo (K B s U H _ I h) λv m ⟨x,O,R,t,C⟩=>fo (F B m U O _ R C) λu l ⟨f,d,P,p,A⟩=>fo (D B l U d x f v u _ P t p A) λc T ⟨z,S,i,o,k,e,w⟩ =>?_) E
 subst e;cases o;exact g_ ⟨S,i,w⟩
def Zh(K:aG)(x:V)(H:Hp)(k:Bool):Prop:=
 match x with
 |.dW=>k=Z_|.bl b=>k=b|.int i=>k=(i != 0)|.str y=>y.length<=a_/\k=((y.length:Int) != 0)|.Ry y=>y.size<=a_/\k=((y.size:Int) != 0)|.ref p=>(∃xs,mY K H p xs/\k = !xs.isEmpty)\/(∃xs,Cd K H p xs/\k = !xs.isEmpty)\/∃a,H p=Y (.dK a)/\k = !a.isEmpty|_=>False
def Hi{b:Type}{a:List (b×V)}{c:List (b×aq)}(r:KV a c):(!c.isEmpty) = !a.isEmpty:=by
 cases r<;>rfl
def zP{xs:List V}{a:List aq}(r:cb xs a):(!a.toArray.isEmpty) = !xs.isEmpty:=by
 cases r<;>simp
def wO:(a_:Nat)<2 ^ 63:=by decide
def Th:ace X (λx H Q=>∃k,Zh X.K x H k/\Q k H):=by
 rintro B s U H x v Q I rx ⟨k,e,q⟩;have hs:=iG;cases x with
 |dW=>cases rx;subst (e);exact truthy_none ⟨H,I,q⟩|bl b=>cases rx;subst (e);exact g_ ⟨H,I,q⟩|int i=>obtain⟨t,rfl⟩:=rx;subst (e);exact PySem.P.truthy_int ⟨H,I,q⟩
 |str y=>obtain⟨t,rfl⟩:=rx;obtain⟨hy,e'⟩:y.length<=a_/\k=((y.length:Int) != 0):=e;subst e';exact PySem.P.truthy_str ž ⟨H,I.tok _,q⟩
 |Ry y=>obtain⟨t,rfl⟩:=rx;obtain⟨hy,e'⟩:y.size<=a_/\k=((y.size:Int) != 0):=e;subst e';exact PySem.W.truthy_bytes ž ⟨H,I.tok _,q⟩
 |ref p=>
  cases rx;have e':=e;rcases e' with⟨xs,hx,e'⟩|⟨xs,hx,e'⟩|⟨gO,hx,e'⟩
  .subst e';obtain⟨Hg,r,pl,hz⟩:=I.list hx;have HV:=r.length;exact wpAny_truthy_list pl.isList (by simp only[b_];lia) ⟨H,I.tok _,by rw[zP r];exact q⟩
  .subst e';obtain⟨Hg,r,pl,hz⟩:=I.tuple hx;have HV:=r.length;exact truthy_tuple pl (by simp only[b_];lia) ⟨H,I.tok _,by rw[zP r];exact q⟩
  .subst e';obtain⟨hz,hS,vs,r,m⟩:gO.length<=a_/\(p==kq)=Z_/\∃vs,KV gO vs/\s.heap.DictOf _ p vs:=I.eY p _ hx;have HV:=Paired.length r;exact wpAny_truthy_dict hS m ž ⟨H,I.tok _,by rw[Hi r];exact q⟩
 |_=>solve_by_elim
def MU(l:PE X a N)(g:∀b,isTrue a X.env b=(do let v <- b;jQ a.pos;iC [v] (truthy v))):
  PT X a (λU H Q=>N U H λx H'=>∃k,Zh X.K x H' k/\Q k H'):=by
 exact λB s U H Q I h=>isTrue_plain (fo (l B s U H _ I h) (by rintro v c ⟨x,O,m,e,f⟩;exact Th B c U O x v Q m e f)) (g _)
def GV:ou X (cT .Add) (λx y H Q=>∃i j,x=.str i/\y=.str j/\i.length+j.length<=a_/\Q (.str (i++j)) H):=by
 rintro B s U H x y v u Q I c b ⟨i,j,rfl,rfl,e,q⟩;obtain⟨t,rfl⟩:=c;obtain⟨a,rfl⟩:=b;exact add_str (λa tk=>⟨.str _,H,I.tok _,⟨_,rfl⟩,q⟩) e
def vals1{x:V}{a:List aq}(r:cb [x] a):∃u,a=[u]/\RelV x u:=by
 cases r with|cons c b=>cases b;simp_all
end
structure HQ(h:cy)(x dx C:ax)(mA:aE->Option aq):Prop where
 obj:h.get? x=some (Gd C dx)
 ns:h.Ns1 dx mA
 ne:dx≠x
def BM{h:cy}{dx:ax}{mA:aE->Option aq}(n:h.Ns1 dx mA):∃c,h.get? dx=Y c/\∀name,lookIn name c=Y (mA name):=by
 obtain⟨o,es,r,g,m,l,_,k⟩:=n;refine⟨o,g,λname =>?_⟩;have e:=k name;unfold nsFind findBy at e;rw[<- lY]at e;unfold lookIn;rw[m];dsimp only;split
 .simp_all
 .have a:es.toList.any (·.refKey)=false:=by rw[List.any_eq_false];intro y f;obtain⟨z,t,b⟩:=l y ż;simp[DictEntry.refKey,b]
  simp_all
def HQ.look(I:HQ h x dx C mA):∃a,PySem.W.InstAt h x (Gd C dx) C (Y a)/\∀name,lookIn name a=Y (mA name):=
 let ⟨a,b,c⟩:=BM I.ns
 ⟨a,⟨I.obj,rfl,rfl,b⟩,c⟩
section
variable {s:aw}{K:aG}{f:ax}{name:aE}{v:aq}
def RL(X:K.In s.heap)(I:HQ s.heap x dx C mA)(g:plainGet K C name=Z')(f:oH K C=Z')(k:iJ K (.ref C) name=Y M)(c:mA name=Y v)(b:PySem.W.handedIn v=Z')(h:Q v { s with toks:=s.toks+1 }):
  be (aV prog w) A (getAttr (.ref x) name a) Q E s:=by
 obtain⟨l,J,e⟩:=I.look;exact PySem.W.get_value X J (PySem.W.plainGet_of g).1 (PySem.W.findObj_own f k rfl (by rw[e,c])) b h
def N0(X:K.In s.heap)(I:HQ s.heap x dx C mA)(a:plainGet K C name=Z')(l:iJ K (.ref C) name=Y (Y (.ref f)))(g:PySem.W.isFn K (.ref f)=Z')(e:mA name=M)(h:Q (.ref f,[.ref x]) s):
  be (aV prog w) A (hG (.ref x) name b) Q E s:=by
 obtain⟨c,J,k⟩:=I.look;exact PySem.W.method_fn X J (PySem.W.plainGet_of a).1 (PySem.W.plainGet_of a).2 l (beq_iff_eq.mp g) (by show (lookIn _ c).map _=Y _;simp_all) h
def PN(X:K.In s.heap)(I:HQ s.heap x dx C mA)(r:iJ K (.ref C) "__setattr__" = Y (Y (.builtin "object.__setattr__")))(t:plainOver K C=Z')(o:Pb K C name=Y M)(u:oH K C=Z')(hw:PySem.Within mA l)(p:l.length<=a_)(h:∀h',HQ h' x dx C (λy=>if y=name then Y v else mA y)->fR dx s.heap h'->Q () { s with heap:=h',toks:=s.toks+2 }):
  be (aV prog w) A (setAttr (.ref x) name v) Q E s:=by
 obtain⟨d,J,R⟩:=I.look;refine PySem.W.set_plain X J r (PySem.W.osa_open X J t o λb =>?_);obtain⟨S,D,g⟩:=PySem.W.any_some u;refine ah (aF (ah (ah (uQ (I.obj) (ah (PySem.W.Looks.here (s:={ s with toks:=s.toks+1 }) (PySem.W.looks_clsIn X D) ?_))))));rw[g];refine aF (a:=Y dx) (ah (aF (ah ?_)));refine wpAny_nsSet1 (s:={ s with toks:=s.toks+1 }) I.ns λh' c a =>?_
 obtain⟨P,F,H,e,_⟩:=c.count (PySem.Within.cons name v hw);refine ah (wpAny_lookBehind e (by grind [pastItsLine_dict,bz,bo]) ?_);exact aF (h _ ⟨(a.2 _ (bE I.ne)).trans I.obj,c,I.ne⟩ a)
def Nz{R:Pe->aw->Prop}(X:K.In s.heap)(c:makesIn K C=Z')(L:iJ K (.ref C) "__init__" = Y (Y (.ref f)))(e:PySem.W.typeIn K (.ref f)=Y (.type "function")) (h:m9 (aV prog w) (A.under (.builtin "type.__call__" ⟨.ref C::a,b⟩)) (.call (.ref f) ⟨.ref (s.heap.objs.size+1)::a,b⟩) (PySem.W.InitBack (s.heap.objs.size+1) R)
   { s with heap:=(s.heap.push Ge).push (Gd C s.heap.objs.size) }) :
  m9 (aV prog w) A (.call (.ref C) ⟨a,b⟩) R s:=by
 exact PySem.W.make_core (PySem.W.makes_of X c) (PySem.W.looks_findIn X L) (λself=>PySem.W.bind_fn X _ e) (.inl rfl) h
end
noncomputable def lT(f:aE)(v:V):List (aE×V)->List (aE×V)
 |[]=>[(f,v)]|(g,x)::r=>if g=f then (g,v)::r else (g,x)::lT f v r
theorem rG(f g:aE)(v:V):∀j:List (aE×V),(lT f v j).lookup g=if g=f then Y v else j.lookup g
 | []=>by
  show Wb g [(f,v)]=_
  grind
 | (k,x)::r=>by
  have ih:=rG f g v r;rw[show lT f v _=if k=f then (k,v)::r else (k,x)::lT f v r from rfl]
  grind
theorem wR(f:aE)(v:V):∀j:List (aE×V),f∈(lT f v j).map (·.1)/\∀g,g∈j.map (·.1)->g∈(lT f v j).map (·.1)
 |[]=>⟨by simp[lT],λg h=>by simp at h⟩
 | (k,x)::r=>by
  obtain _:=wR f v r;rw[show lT f v _=if k=f then (k,v)::r else (k,x)::lT f v r from rfl]
  grind
theorem xN(f:aE)(v:V):∀j:List (aE×V),(lT f v j).length<=j.length+1
 |[]=>by simp[lT]
 | (k,x)::r=>by
  have ih:=xN f v r;rw[show lT f v _=if k=f then (k,v)::r else (k,x)::lT f v r from rfl]
  grind
def pL.some_of{v:V}{o:Option aq}(r:pL (Y v) o):∃u,o=Y u/\RelV v u:=by
 cases o with|none=>solve_by_elim|some u=>solve_by_elim
def pL.none_of(r:pL M o):o=none:=by
 cases o with|none=>rfl|some u=>solve_by_elim
def BV{v:V}(r:RelV v u):PySem.W.handedIn u=true:=by
 cases v with
 |dW=>cases r;rfl|bl b=>cases r;rfl|int i=>obtain⟨t,e⟩:=r;cases e;rfl
 |str x=>obtain⟨t,e⟩:=r;cases e;rfl
 |Ry b=>obtain⟨t,e⟩:=r;cases e;rfl
 |Pm b=>obtain⟨t,e⟩:=r;cases e;rfl
 |ref a=>cases r;rfl|ty n=>cases r;rfl
section
variable {P:aZ}
def yA(b:mZ P w H h)(e:H a=Y (.ins C dx j)):∃mA,HQ h a dx C mA/\(∀f,pL (j.lookup f) (mA f))/\PySem.Within mA (j.map (·.1))/\j.length<=1000/\H dx=Y (.Z a):=by
 obtain⟨d,z,g,c,mA,n,r,q⟩:=b a _ e;exact⟨mA,⟨c,n,g⟩,r,q,z,d⟩
end
structure F4(K:aG)(C:ax):Prop where
 pg:plainGet K C Str.empty=true
 hd:oH K C=true
 po:plainOver K C=true
 sa:iJ K (.ref C) "__setattr__" = some (some (.builtin "object.__setattr__"))
def F4.get{K:aG}(c:F4 K C)(f:aE):plainGet K C f=true:=c.pg
def qm(K:aG)(C:ax)(f:aE):Prop:=iJ K (.ref C) f=Y M
def qm.W9{K:aG}{f:aE}(n:qm K C f):Pb K C f=Y none:=by
 unfold Pb;rw[n];rfl
structure HR(K:aG)(C:ax)(m:aE)(f:ax):Prop where
 at_:iJ K (.ref C) m=some (some (.ref f))
 fn:PySem.W.isFn K (.ref f)=true
 kp:pR K (.ref f)=true
section
variable {X:Cx}{s:aw}{f:aE}{v:V}
def zW(I:Inv X B U H s)(e:H a=Y (.ins C dx j))(c:F4 X.K C)(n:qm X.K C f)(l:j.lookup f=Y v)(h:∀u s',Inv X B U H s'->RelV v u->Q u s'):be (aV X.prog X.w) A (getAttr (.ref a) f b) Q E s:=by
 obtain⟨mA,O,_⟩:=yA I.eY e;obtain⟨u,k,g⟩:=pL.some_of (v:=v) (o:=mA f) Ÿ;exact RL I.qJ O (c.get f) c.hd n k (BV g) (h u _ (I.tok _) g)
def qc{m:aE}(I:Inv X B U H s)(e:H a=Y (.ins C dx j))(c:F4 X.K C)(k:HR X.K C m g)(l:j.lookup m=M)(h:Q (.ref g,[.ref a]) s):be (aV X.prog X.w) A (hG (.ref a) m b) Q E s:=by
 obtain⟨mA,O,_⟩:=yA I.eY e;exact N0 I.qJ O (c.get m) k.at_ k.fn (pL.none_of Ÿ) h
def y_(I:Inv X B U H s)(e:H a=Y (.ins C dx j))(c:F4 X.K C)(n:qm X.K C f)(K:j.length<1000)(t:RelV y u)(h:∀s',Inv X B U (dD H a (.ins C dx (lT f y j))) s'->Q () s'):be (aV X.prog X.w) A (setAttr (.ref a) f u) Q E s:=by
 obtain⟨mA,O,r,l,_,m⟩:=yA I.eY e;have v:(j.map (·.1)).length<=a_:=by rw[aD,iG];lia
 refine PN I.qJ O c.sa c.po n.W9 c.hd l v λh' k p=>h _ ?_
 refine I.write (by rw[e];exact ź) (.inr m) (λb q D z=>(p.2 b D).trans z) (let ⟨o,_,_,F,_⟩:=k.ns;⟨o,F⟩) ?_;refine⟨by rw[aP O.ne];exact m,?_,O.ne,k.obj,_,k.ns,λg =>?_,λg w =>?_⟩
 .grind [xN]
 .rw[rG];by_cases q:g=f
  .rw[if_pos q,if_pos q];exact t
  simp_all
 .by_cases q:g=f
  .rw[q];exact(wR f y j).1
  .refine(wR f y j).2 g (l g λz=>w ?_)
   simp_all
def Inv.made(I:Inv X B U H s):Inv X B U (dD (dD H s.heap.objs.size (.Z (s.heap.objs.size+1))) (s.heap.objs.size+1) (.ins C s.heap.objs.size []))
  { s with heap:=(s.heap.push Ge).push (Gd C s.heap.objs.size) }:=by
 have c:(s.heap.push _).get? _=Y Ge:=bg _ rfl;have k:((s.heap.push Ge).push (Gd C s.heap.objs.size)).get? (s.heap.objs.size+1)=Y (Gd C s.heap.objs.size):=by
  have:=bg (s.heap.push Ge) (o:=Gd C s.heap.objs.size) rfl
  simp_all
 have l:=I.laid (o :=.Z (s.heap.objs.size+1)) (t':=s.toks) (λb u q=>ak _ q) (aH _) ⟨_,c⟩;refine l.laid (λb u q=>ak _ q) ż ?_;have a:s.heap.objs.size≠s.heap.objs.size+1:=bH ż;refine⟨by rw[aP a,aW],dk _,a,k,_,(Heap.Ns1.of_empty ⟨Ge,#[],_,c,rfl,(λe g=>absurd g Ž),λ_=>rfl⟩).at λo q=>ak _ q,λ_=>vY,λy f=>absurd rfl f⟩
def JG{prog:aZ}{w:cC}{a:Env}{e:Expr}{f:aE}{G:Pos}{s:aw}{Q:aq->aw->Prop}(c:bQ e f a (eval e a)=eval e a)(h:be (aV prog w) A (eval e a) (λo b=>be (aV prog w) A (getAttr o f Z') Q E b) E s):be (aV prog w) A (eval (.Attribute e f G) a) Q E s:=
 Attribute_any_ h (by rw[arm_eval_Attribute,c])
end
def Xg(K:aG)(N:TE)(f:aE):TE:=λU H Q=>N U H λx O=>∃a C dx j v,x=.ref a/\O a=Y (.ins C dx j)/\F4 K C/\qm K C f/\j.lookup f=Y v/\Q v O
def aaD(K:aG)(N tv:TE)(f:aE):TS:=λD U H=>tv U H λy O=>N U O λx d=>∃a C dx j,x=.ref a/\d a=Y (.ins C dx j)/\F4 K C/\qm K C f/\j.length<1000 /\
 D.nx U (dD d a (.ins C dx (lT f y j)))
def LA(X:Cx)(b:Operator)(a:V->V->Hp->VK->Prop):Prop:=
 ∀(B:List (ax×Obj)) (s:aw) (U:St) (H:Hp) (x y:V) (u v:aq) (Q:VK),Inv X B U H s->RelV x u->RelV y v->a x y H Q->be (aV X.prog X.w) X.A (inplaceOp b u v) (EP X B U Q) X.xe s
def PZ(K:aG)(N tv:TE)(e:V->V->Hp->VK->Prop)(f:aE):TS:=λD U H=>N U H λx O=>∃a C dx j v,x=.ref a/\O a=Y (.ins C dx j)/\F4 K C/\qm K C f/\j.lookup f=Y v /\
 tv U O λy d=>e v y d λz c=>∃b ZX,c a=Y (.ins C b ZX)/\ZX.length<1000/\D.nx U (dD c a (.ins C b (lT f z ZX)))
section
variable {X:Cx}{f:aE}
def pY(k:PE X e N)(m:bQ e f X.env (eval e X.env)=eval e X.env):PE X (.Attribute e f G) (Xg X.K N f):=by
 intro B s U H Q I h;refine JG m (fo (k B s U H _ I h) ?_);rintro u A ⟨x,O,r,b,a,C,dx,j,v,ex,o,c,n,l,q⟩;subst ex;obtain rfl:u=aQ a:=b;exact zW r o c n l λt w p g=>⟨v,O,p,g,q⟩
def wA(t:PE X o N)(p:PE X value tv)(r:bU value (Y (.Attribute o f RJ)) G.line X.env=dn Z_):PS X (.Assign [.Attribute o f RJ] value G) (aaD X.K N tv f):=by
 intro B s U H D I h;refine LZ (fo (p B s U H _ I h) ?_) r;rintro u b ⟨y,O,E,e,q⟩;refine fo (t B b U O _ E q) ?_;rintro m K ⟨x,d,A,g,a,C,dx,j,ex,v,c,n,l,k⟩;subst ex;obtain rfl:m=aQ a:=g;exact y_ A v c n l e λF w=>⟨U,_,w,k⟩
def Kr(R:PE X o N)(Q:PE X value tv)(b:LA X k g):PS X (.AugAssign (.Attribute o f aal) k value G) (PZ X.K N tv g f):=by
 intro B s U H D I h;refine wpAny_AugAssign_AttributeAny (fo (R B s U H _ I h) ?_);refine λi s1 xx=>ae λkk =>?_
 obtain⟨x,O,I1,A,a,C,dx,j,v,ex,S,c,n,l,q⟩:=xx;subst ex;obtain rfl:i=aQ a:=A;refine kk (zW I1 S c n l λu r I2 E=>fo (Q B r U O _ I2 q) ?_);rintro m p ⟨y,d,I3,w,K⟩;refine fo (b B p U d v y u m _ I3 E w K) ?_;rintro w4 s4 ⟨z,H3,I4,t,T,ZX,e,P,F⟩;exact y_ I4 e c n P t λs5 I5=>⟨U,_,I5,F⟩
def aaN:V->V->Hp->VK->Prop:=λx y H Q=>∃i j,x=.int i/\y=.int j/\Q (.int (i+j)) H
def aaJ:V->V->Hp->VK->Prop:=λx y H Q=>∃i j,x=.int i/\y=.int j/\Q (.int (i-j)) H
def abb:LA X .Add aaN:=by
 rintro B s U H x y u v Q I c b ⟨i,j,rfl,rfl,q⟩;obtain⟨t,rfl⟩:=c;obtain⟨a,rfl⟩:=b;exact PyProof.Rows.iadd_int ⟨.int _,H,I.tok _,⟨_,rfl⟩,q⟩
def aba:LA X .Sub aaJ:=by
 rintro B s U H x y u v Q I c b ⟨i,j,rfl,rfl,q⟩;obtain⟨t,rfl⟩:=c;obtain⟨a,rfl⟩:=b;exact PyProof.Rows.isub_int ⟨.int _,H,I.tok _,⟨_,rfl⟩,q⟩
def Sx{o:Sem Bool}{m:aE}{uO:Pos}{args:List Expr}{B:List (ax×Obj)}{s:aw}{U:St}{H:Hp}{Q:aq->aw->Prop}{te:TE}(w:PE X e te)(I:Inv X B U H s) (h:te U H λx O=>∃a C dx j g,x=.ref a/\O a=Y (.ins C dx j)/\F4 X.K C/\HR X.K C m g/\j.lookup m=M /\
   ∀b,Inv X B U O b->be (aV X.prog X.w) X.A (j3 G (.ref g) [.ref a] (bX G (ao args X.env)) (eM G (cq [] X.env))) Q X.xe b) (v:eval (.Call (.Attribute e m uO) args [] G) X.env=(do
   let p <- eval e X.env
   jQ uO.atName
   let (f,first) <- iC [p] (hG p m o)
   j3 G f first (bX G (ao args X.env)) (eM G (cq [] X.env)))) :
  be (aV X.prog X.w) X.A (eval (.Call (.Attribute e m uO) args [] G) X.env) Q X.xe s:=by
 refine PySem.W.methodCall_KW (pl:=o) (fo (w B s U H _ I h) ?_) v;rintro u b ⟨x,O,r,t,a,C,dx,j,g,ex,A,c,k,l,q⟩;subst ex;obtain rfl:u=aQ a:=t;exact qc r A c k l (q b r)
end
section
variable {X:Cx}{s:aw}
inductive yk (K:aG) (H:Hp):V->aq->Prop where
 |dW:yk K H .dW (.type "NoneType")
 |bl (x:Bool):yk K H (.bl x) (.type "bool")
 |int (i:Int):yk K H (.int i) (.type "int")
 |str (x:aE):yk K H (.str x) (.type "str")
 |Pm (x:UInt64):yk K H (.Pm x) (.type "float")
 |lst {a:ax}{xs:List V}(e:H a=some (.lst xs)):yk K H (.ref a) (.type "list")
 |LV {a:ax}{o:Obj}{xs:List V}(e:H a=some (.LV o (.lst xs))):yk K H (.ref a) (.type "list")
 |tup {a:ax}{xs:List V}(e:H a=some (.tup xs)):yk K H (.ref a) (.type "tuple")
 |dK {a:ax}{gO:List (lO×V)}(e:H a=some (.dK gO)):yk K H (.ref a) (.type "dict")
 |dT {a:ax}{gO:List (List lO×V)}(e:H a=some (.dT gO)):yk K H (.ref a) (.type "dict")
 | ins {a C dx:ax}{fs:List (aE×V)}(e:H a=some (.ins C dx fs)) (cl:F4 K C) (ha:iJ K (.ref C) "__class__" = some (some (.builtin "object.__class__")))
   (hn:PySem.W.specialIn K (.builtin "object.__class__") "__get__" = some (some (.builtin "getset_descriptor.__get__"))) (htk:PySem.W.takesIn K (.builtin "object.__class__")=some true)
   (hm:PySem.W.mroIn K C (.type "object")=some true):yk K H (.ref a) (.ref C)
def mX(I:Inv X B U H s)(k:RelV x u)(v:yk X.K H x t)(e:jO X.K t c=Y b)(h:∀tk,Q (.bool b) { s with toks:=tk }):
  be (aV X.prog X.w) A (HX (.builtin "isinstance") [u,c]) Q E s:=by
 cases v with
 |dW=>cases (show u=aS from k);exact qQ PySem.W.kitx_none I.qJ vY e (λg=>nomatch g) h
 |bl y=>cases (k);exact qQ PySem.W.kitx_bool I.qJ vY e (λg=>nomatch g) h
 |int i=>obtain⟨t,q⟩:=(k);cases q;exact qQ PySem.W.kitx_int I.qJ vY e (λg=>nomatch g) h
 |str y=>obtain⟨t,q⟩:=(k);cases q;exact qQ PySem.W.kitx_str I.qJ vY e (λg=>nomatch g) h
 |Pm y=>obtain⟨t,q⟩:=(k);cases q;exact qQ PySem.W.kitx_float I.qJ vY e (λg=>nomatch g) h
 |@lst a xs l=>cases (k);obtain⟨_,_,n,_,J⟩:=(I.eY a _ l);exact qQ PySem.W.kitx_list I.qJ ⟨_,J,rfl⟩ e (λg=>nomatch g) h
 |@LV a w xs l=>cases (show u=aQ a from k);obtain⟨_,_,_,n,_,J⟩:=(I.eY a _ l);exact qQ PySem.W.kitx_list I.qJ ⟨_,J,rfl⟩ e (λg=>nomatch g) h
 |@tup a xs l=>cases (k);obtain⟨_,_,_,p⟩:=(I.eY a _ l);obtain⟨o,J,z,_⟩:=p;exact qQ PySem.W.kitx_tuple I.qJ ⟨o,J,z⟩ e (λg=>nomatch g) h
 |@dK a m l=>cases (k);obtain⟨_,_,P,_,p⟩:=(I.eY a _ l);obtain⟨o,es,d,J,z,_⟩:=p;exact qQ PySem.W.kitx_dict I.qJ ⟨o,J,z.1⟩ e (λg=>nomatch g) h
 |@dT a m l=>cases (k);obtain⟨_,_,xs,_,o,es,d,J,z,_⟩:=(I.eY a _ l);exact qQ PySem.W.kitx_dict I.qJ ⟨o,J,z.1⟩ e (λg=>nomatch g) h
 |@ins a C dx j l cl K D r F=>cases (show u=aQ a from k);obtain⟨mA,O,_⟩:=yA I.eY l;obtain⟨R,f,_⟩:=O.look;exact qQ (PySem.W.kitx_own (cl.get _) cl.hd K D r F) I.qJ f e (λg=>nomatch g) h
end
structure dB(k:Nat)(A:fF):Prop where
 hd:A.handled=none
 dp:A.depth+3*k+5<recursionLimit
 un:A.units+16*k+200<qL
def dB.mono(r:dB k A)(h:j<=k):dB j A:=⟨r.hd,by have:=r.dp;lia,by have:=r.un;lia⟩
def dB.deeper(r:dB (k+1) A)(a:Env):dB k (A.deeper a):=
 ⟨r.hd,by have:=r.dp;show A.depth+1+3*k+5<_;lia,by have:=r.un;show A.units+3+16*k+200<_;lia⟩
theorem Hd{A:fF}{C:ax}{a:List aq}{b:List (aE×aq)}:(A.under (.builtin "type.__call__" ⟨.ref C::a,b⟩)).depth=A.depth+1:=by
 exact ź
theorem Hc{A:fF}{C:ax}{a:List aq}{b:List (aE×aq)}:(A.under (.builtin "type.__call__" ⟨.ref C::a,b⟩)).units=A.units+1:=by
 exact ź
def dB.make(r:dB (k+1) A)(C:ax)(a:List aq)(b:List (aE×aq)):dB k (A.under (.builtin "type.__call__" ⟨.ref C::a,b⟩)):=
 ⟨r.hd,by have:=r.dp;grind [Hd],by have:=r.un;grind [Hc]⟩
def dB.depth(r:dB k A):A.depth<recursionLimit:=by have:=r.dp;lia
def dB.units{A:fF}(r:dB k A):A.units+64<qL:=by have:=r.un;lia
def Gy:TA:=λ_ H Q=>Q [] H
def u4(N:TE)(a:TA):TA:=λU H Q=>N U H λx O=>a U O λxs d=>Q (x::xs) d
section
variable {X:Cx}
def dI:PA X [] Gy:=λa a a a H Q I h=>Calls.spliced_nil ⟨[],H,I,.nil,h⟩
def bS(m:PE X e te)(l:PA X es t)(k:autoParam (ao (e::es) X.env=(Z_,eval e X.env)::ao es X.env) ŭ):PA X (e::es) (u4 te t):=by
 intro G B s U H Q I h;rw[k];refine Ia (fo (m B s U H _ I h) ?_);rintro u a ⟨x,O,p,c,g⟩;exact fo (l G B a U O _ p g) <|by rintro r v ⟨xs,d,o,b,f⟩;exact⟨_,d,o,.cons c b,f⟩
def aaq(t:TA):TE:=λU H Q=>t U H λxs O=>xs.length<=a_/\∀p,O p=M->Q (.ref p) (dD O p (.tup xs))
def aat(t:TA):TE:=λU H Q=>t U H λxs O=>xs.length<=a_/\∀p,O p=M->Q (.ref p) (dD O p (.lst xs))
def wC{f}(h:PA X es t):PE X (.Tuple es f G) (aaq t):=by
 intro B s U H Q I k;refine wpAny_Tuple_spliced (fo (h G B s U H _ I k) ?_);rintro g a ⟨xs,O,c,r,z,q⟩;refine⟨by rw[<- r.length];exact z,?_⟩;refine⟨.ref _,_,c.laid (λb u e=>ak _ e) (aH _) ?_,rfl,q _ (c.eY.fresh (aH _))⟩;exact⟨z,g,r,⟨_,bg _ rfl,rfl,_,rfl⟩⟩
def CM(h:PA X es t):PE X (.List es G) (aat t):=by
 intro B s U H Q I g;refine wpAny_List_spliced (fo (h G B s U H _ I g) ?_);rintro f a ⟨xs,O,c,r,z,q⟩;refine⟨by rw[<- r.length];exact z,?_⟩;refine⟨.ref _,_,c.laid (λb u e=>ak _ e) (aH _) ?_,rfl,q _ (c.eY.fresh (aH _))⟩;exact⟨z,f,0,r,bg _ rfl⟩
end
abbrev Sp:=List V->Hp->VK->XK->Prop
abbrev S5:=List Env->Hp->aw->XK->aq->aw->Prop
structure LB(P:aZ)(w:cC)(K:aG)(mg:aE->Option aq)(base:cy)(A:fF)(outer:List Env)(s:aw)(H:Hp):Prop where
 frames:A.frames=some outer
 mod:Mod K mg base
 bs:∀b o,base.get? b=some o->s.heap.get? b=some o/\H b=none
 OO:base.objs.size<=s.heap.objs.size
 w6:s.heap.FunFrames base outer
 SH:∀b∈zY outer,H b=none
 eY:mZ P w H s.heap
 bare:Bm s.gens
def CE(a:List Env)(P:aZ)(w:cC)(H:Hp)(s:aw)(Q:VK)(u:aq)(s':aw):Prop:=
 ∃v H',s'.os=s.os/\Bm s'.gens/\Un (zY a) [] H H' s.heap s'.heap/\mZ P w H' s'.heap/\RelV v u/\Q v H'
def CR(CX:S5)(a:List Env)(P:aZ)(w:cC)(H:Hp)(s:aw)(Q:VK)(E:XK)(r:Pe)(s':aw):Prop:=
 match r with
 |.ok (.ret u)=>CE a P w H s Q u s'|.ok _=>False|.error e=>CX a H s E e s'
structure bT(P:aZ)(w:cC)(K:aG)(mg:aE->Option aq)(base:cy)(CX:S5)(k:Nat)(f:ax)(fd:cX)(ps:List aE)(sp:Sp):Prop where
 len:∀vs H Q E,sp vs H Q E->vs.length=ps.length
 run:∀(A:fF) (outer:List Env) (s:aw) (H:Hp) (args:Args) (us:List aq) (vs:List V) (Q:VK) (E:XK),dB k A->LB P w K mg base A outer s H->LQ s fd args (ps.zip us)->cb vs us->sp vs H Q E ->
  m9 (aV P w) A (.call (.ref f) args) (CR CX outer P w H s Q E) s
def bT.mono{P:aZ}{K:aG}{i:aE->Option aq}{f:ax}(F:bT P w K i base CX j f I q sp)(h:j<=k):
  bT P w K i base CX k f I q sp:=⟨F.len,λA a s H args c b Q E e=>F.run A a s H _ c b Q E (e.mono h)⟩
def bT.imp{P:aZ}{K:aG}{i:aE->Option aq}{f:ax}(F:bT P w K i base CX k f I q sp)(h:∀vs H Q E,c vs H Q E->sp vs H Q E):bT P w K i base CX k f I q c:=
 ⟨λvs H Q E a=>F.len vs H Q E (h _ _ _ _ a),λA b s H args e vs Q E m o p g l=>F.run A b s H _ e vs Q E m o p g (h _ _ _ _ l)⟩
def LB.make{P:aZ}{K:aG}{s:aw}(e:LB P w K i base A a s H)(C:ax)(b:List aq)(c:List (aE×aq)):
  LB P w K i base (A.under (.builtin "type.__call__" ⟨.ref C::b,c⟩)) a s H:=⟨by first|exact e.frames|(simpa [Around.under] using e.frames),e.mod,e.bs,e.OO,e.w6,e.SH,e.eY,e.bare⟩
section
variable {X:Cx}{s:aw}
def Inv.Q2(I:Inv X B U H s):LB X.prog X.w X.K X.mg X.base X.A X.stack s H:=
 ⟨I.ok.frames,I.ok.mod,I.bs,bz I.ok.OO I.sz,I.stack,I.yq,I.eY,I.bare⟩
def Inv.after(I:Inv X B U H s)(h:CE X.stack X.prog X.w H s Q u s'):EP X B U Q u s':=by
 obtain⟨v,H',k,a,f,e,r,q⟩:=h;obtain⟨l,g,d,t,c⟩:=s';obtain rfl:c=s.os:=k;exact⟨v,H',I.call f e a λb z=>absurd z Ž,r,q⟩
end
def Ii(sp:Sp)(BZ:List V)(E:XK)(t:TA):TE:=λU H Q=>t U H λa O=>sp (a++BZ) O Q E
def yY(C:ax)(m:aE)(sp:Sp)(BZ:List V)(E:XK)(N:TE)(t:TA):TE:=λU H Q=>N U H λx O=>∃a dx j,x=.ref a/\O a=Y (.ins C dx j)/\j.lookup m=M /\
 t U O λb d=>sp (x::(b++BZ)) d Q E
def Xf(C:ax)(sp:Sp)(BZ:List V)(E:XK)(t:TA):TE:=λU H Q=>t U H λa O=>∀x dx,O x=M->O dx=M->dx≠x ->
 sp (.ref x::(a++BZ)) (dD (dD O dx (.Z x)) x (.ins C dx [])) (λv d=>v=.dW/\Q (.ref x) d) E
def Binds(K:aG)(I:cX)(q:List aE)(ds:List aq):Prop:=
 ∀(s:aw) (a:List aq),K.In s.heap->(a++ds).length=q.length->LQ s I ⟨a,[]⟩ (q.zip (a++ds))
def Binds.all{K:aG}(h:∀a:List aq,a.length=q.length->bindArgs I ⟨a,[]⟩=dn (q.zip a)):Binds K I q []:=λs a c b=>by
 rw[bL]at b ⊢;exact .of_eq (h a b)
def ql(CX:S5)(X:Cx)(E:XK):Prop:=∀(B:List (ax×Obj)) (U:St) (H:Hp) (s:aw) (e:aq) (s':aw),Inv X B U H s->CX X.stack H s E e s'->X.xe e s'
section
variable {X:Cx}{f:ax}{m:aE}
def CD{s:aw}{us:List aq}{vs:List V}(F:bT X.prog X.w X.K X.mg X.base CX k f I q sp)(l:dB k X.A)(p:Binds X.K I q ds)(o:cb BZ ds)(g:ql CX X E)(a:Inv X B U H s)(r:cb vs us)(h:sp (vs++BZ) H Q E):be (aV X.prog X.w) X.A (HX (.ref f) us) (EP X B U Q) X.xe s:=by
 have c:=r.append o;have m:(us++ds).length=q.length:=by rw[<- c.length];exact F.len _ _ _ _ h
 refine qs (oW (F.run X.A _ s H _ _ _ Q E l a.Q2 (p s us a.qJ m) c h) λr s' b =>?_);cases r with
 |error e=>solve_by_elim|ok t=>
  cases t with|ret u=>exact a.after b|_=>solve_by_elim
def mG(F:bT X.prog X.w X.K X.mg X.base CX k f I q sp)(o:dB k X.A)(w:Gl X x)(u:X.mg x=Y (.ref f))(v:pR X.K (.ref f)=Z')(D:Binds X.K I q ds)(C:cb BZ ds)(m:ql CX X E)(K:PA X (e::es) t)(g:autoParam ((x==("__debug__" : aE))=false) ū)(A:autoParam (ao (e::es) X.env=(Z_,eval e X.env)::ao es X.env) ŭ)(c:autoParam ((bX G (ao es X.env)).any (·.1)=false) ŭ):
  PE X (.Call (.Name x p) (e::es) [] G) (Ii sp BZ E t):=by
 intro B s U H Q a h;refine gK (sy a w u ?_ g);refine PySem.W.callWith_K a.ok.mod.U4 v (fo (K G B s U H _ a h) ?_) A c;rintro P R ⟨d,O,l,r,b⟩;exact⟨l.qJ,CD F o D C m l r b⟩
def M9(F:bT X.prog X.w X.K X.mg X.base CX k f I q sp)(e:dB k X.A)(m:Gl X x)(g:X.mg x=Y (.ref f))(l:pR X.K (.ref f)=Z')(r:Binds X.K I q ds)(o:cb BZ ds)(c:ql CX X E)(b:autoParam ((x==("__debug__" : aE))=false) ū):PE X (.Call (.Name x p) [] [] G) (Ii sp BZ E Gy):=by
 intro B s U H Q a h;exact gK (sy a m g (PySem.W.callWith_K0 a.qJ l (CD F e r o c a .nil h)) b)
def vi{pl:Sem Bool}(he:PE X o N)(c:F4 X.K C)(A:HR X.K C m f)(F:bT X.prog X.w X.K X.mg X.base CX k f I q sp)(hr:dB k X.A)(hb:Binds X.K I q ds)(hd:cb BZ ds)(hx:ql CX X E)(ha:PA X (e::es) t)(p:autoParam (ao (e::es) X.env=(Z_,eval e X.env)::ao es X.env) ŭ)(v:autoParam ((bX G (ao es X.env)).any (·.1)=false) ŭ) (ht:autoParam (eval (.Call (.Attribute o m uO) (e::es) [] G) X.env=(do
   let w <- eval o X.env
   jQ uO.atName
   let (f,first) <- iC [w] (hG w m pl)
   j3 G f first (bX G (ao (e::es) X.env)) (eM G (cq [] X.env)))) ŭ) :
  PE X (.Call (.Attribute o m uO) (e::es) [] G) (yY C m sp BZ E N t):=by
 intro B s U H Q g h;refine PySem.W.methodCall_KW (fo (he B s U H _ g h) ?_) ht;refine λu R xx=>ae λkk =>?_
 obtain⟨x,O,K,S,a,dx,j,ex,ea,l,b⟩:=xx;subst ex;obtain rfl:u=aQ a:=S;refine kk (qc K ea c A l ?_);refine PySem.W.callWith_K g.ok.mod.U4 A.kp (fo (ha G B R U O _ K b) ?_) p v;rintro P s2 ⟨i,d,D,r,T⟩;exact⟨D.qJ,CD (vs :=.ref a::i) F hr hb hd hx D (.cons rfl r) T⟩
def rA{pl:Sem Bool}(D:PE X o N)(c:F4 X.K C)(r:HR X.K C m f)(F:bT X.prog X.w X.K X.mg X.base CX k f I q sp)(A:dB k X.A)(d:Binds X.K I q ds)(K:cb BZ ds)(v:ql CX X E) (w:autoParam (eval (.Call (.Attribute o m uO) [] [] G) X.env=(do
   let p <- eval o X.env
   jQ uO.atName
   let (f,first) <- iC [p] (hG p m pl)
   j3 G f first (bX G (ao [] X.env)) (eM G (cq [] X.env)))) ŭ) :
  PE X (.Call (.Attribute o m uO) [] [] G) (yY C m sp BZ E N Gy):=by
 intro B s U H Q e h;refine PySem.W.methodCall_KW (fo (D B s U H _ e h) ?_) w;refine λu R xx=>ae λkk =>?_
 obtain⟨x,O,g,t,a,dx,j,ex,P,l,b⟩:=xx;subst ex;obtain rfl:u=aQ a:=t;exact kk (qc g P c r l (PySem.W.callWith_K0 g.qJ r.kp (CD (vs:=[.ref a]) F A d K v g (.cons rfl .nil) b)))
structure Mk(K:aG)(C f:ax):Prop where
 makes:makesIn K C=true
 init:iJ K (.ref C) "__init__" = some (some (.ref f))
 fn:PySem.W.isFn K (.ref f)=true
 kp:pR K (.ref C)=true
theorem MN{s:aw}{us:List aq}(i:Mk X.K C f)(F:bT X.prog X.w X.K X.mg X.base CX k f I q sp)(w:dB (k+1) X.A)(K:Binds X.K I q ds)(D:cb BZ ds)(t:ql CX X E)(a:Inv X B U H s)(r:cb g us)(h:∀x dx,H x=M->H dx=M->dx≠x->sp (.ref x::(g++BZ)) (dD (dD H dx (.Z x)) x (.ins C dx [])) (λv d=>v=.dW/\Q (.ref x) d) E):
  be (aV X.prog X.w) X.A (HX (.ref C) us) (EP X B U Q) X.xe s:=by
 have m:=h _ _ (a.eY.fresh (jG _)) (a.eY.fresh (aH _)) Ž;have c:=Inv.made (C:=C) a;have l:cb (V.ref (s.heap.objs.size+1)::(g++BZ)) _ :=.cons rfl (r.append D);have A:=by have e:=l.length;rw[F.len _ _ _ _ m]at e;exact e.symm
 refine qs (Nz a.qJ i.makes i.init (beq_iff_eq.mp i.fn) (oW (F.run _ _ _ _ _ _ _ _ E (w.make C us [])
  (c.Q2.make C us []) (K _ _ c.qJ A) l m) λr s' b =>?_))
 cases r with
 |error e=>solve_by_elim|ok P=>
  cases P with
  |ret u=>obtain⟨v,H',S,o,R,p⟩:=c.after b;subst R;exact⟨o,⟨V.ref _,H',S,rfl,p⟩⟩
  |_=>solve_by_elim
def IH(d:Mk X.K C f)(F:bT X.prog X.w X.K X.mg X.base CX k f I q sp)(o:dB (k+1) X.A)(v:Gl X x)(u:X.mg x=Y (.ref C))(D:Binds X.K I q ds)(A:cb BZ ds)(m:ql CX X E)(K:PA X (e::es) t)(g:autoParam ((x==("__debug__" : aE))=false) ū)(w:autoParam (ao (e::es) X.env=(Z_,eval e X.env)::ao es X.env) ŭ)(c:autoParam ((bX G (ao es X.env)).any (·.1)=false) ŭ):
  PE X (.Call (.Name x p) (e::es) [] G) (Xf C sp BZ E t):=by
 intro B s U H Q a h;refine gK (sy a v u ?_ g);refine PySem.W.callWith_K a.ok.mod.U4 d.kp (fo (K G B s U H _ a h) ?_) w c;rintro R S ⟨P,O,l,r,b⟩;exact⟨l.qJ,MN d F o D A m l r b⟩
end
structure bu(N P:List aE)(sc:Scope):Prop where
 kind:sc.kind=.function
 co:sc.isCoroutine=false
 gen:sc.isGenerator=false
 nd:N.Nodup
 pre:N.take P.length=P
 par:∀x∈P,sc.names.lookup x=some .local\/sc.names.lookup x=some .cell
 UN:∀y∈sc.names,y.2 ≠ .free
theorem B_:∀ {a:List (aE×aq)}{m:aE->Option aq},(∀v,(x,v)∉a)->bindL b a m x=m x
 |[],_,_=>rfl|(n,v)::r,m,h=>by unfold bindL;rw[B_ λw hw=>h w (bI _ hw)];split<;>grind
theorem Ca:∀ {a:List (aE×aq)}{m:aE->Option aq},(∀v,(x,v)∉a)->bindC b a m x=m x
 |[],_,_=>rfl| (n,v)::r,m,h=>by
  unfold bindC;rw[Ca λw hw=>h w (bI _ hw)];split
  .rfl
  grind
theorem B'{v:aq}:∀ {P:List aE}{b:List aq}{i:Nat}{m:aE->Option aq},P.Nodup->P[i]?=Y x->b[i]?=Y v->a x=Y .local ->
  bindL a (P.zip b) m x=Y v
 |[],_,_,_,_,h,_,_=>by simp at h
 |_::_,[],_,_,_,_,h,_=>by simp at h
 |p::P,w::b,0,m,c,J,z,e=>by simp at J z;subst J;subst z;show bindL a ((p,w)::P.zip b) m p=_;unfold bindL;rw[B_ λv f=>(H_.mp c).1 (we f).1,if_pos e];simp
 |p::P,w::b,i+1,m,c,J,z,e=>by unfold bindL;exact B' (i:=i) ż (by trivial) (by trivial) e
theorem Cb{v:aq}:∀ {P:List aE}{b:List aq}{i:Nat}{m:aE->Option aq},P.Nodup->P[i]?=Y x->b[i]?=Y v->a x≠Y .local ->
  bindC a (P.zip b) m x=Y v
 |[],_,_,_,_,h,_,_=>by simp at h
 |_::_,[],_,_,_,_,h,_=>by simp at h
 |p::P,w::b,0,m,c,J,z,e=>by simp at J z;subst J;subst z;show bindC a ((p,w)::P.zip b) m p=_;unfold bindC;rw[Ca λv f=>(H_.mp c).1 (we f).1,if_neg e];simp
 |p::P,w::b,i+1,m,c,J,z,e=>by unfold bindC;exact Cb (i:=i) ż (by trivial) (by trivial) e
noncomputable def start(N:List aE)(a:List V):St:=a.map Y++aM (N.length-a.length) M
noncomputable def pI(CX:S5)(P:aZ)(w:cC)(K:aG)(i:aE->Option aq)(base:cy)(N:List aE)(c:aE)(a:Scope)(f:ax)(h:aq)(A:fF)(b:List Env)(s:aw)(H:Hp)(E:XK):Cx where
 prog:=P
 w:=w
 K:=K
 mg:=i
 base:=base
 A:=A.deeper (l5 c a s.heap.objs.size f h)
 N:=N
 s₀:=s
 H₀:=H
 env:=l5 c a s.heap.objs.size f h
 outer:=b
 stack:=l5 c a s.heap.objs.size f h::b
 ex:=[]
 calm:=Z'
 fn:=λ_=>Z'
 pn:=[]
 xe:=λe s'=>be (aV P w) (A.deeper (l5 c a s.heap.objs.size f h)) (leaving (l5 c a s.heap.objs.size f h) e) (λ_ g=>CX b H s E e g) (λk g=>CX b H s E k g) s'
def An{sc:Scope}{n:Nat}(h:sc.names.lookup x=Y .cell):∃c,(fy n sc.names []).lookup x=Y c:=by
 exact Option.isSome_iff_exists.mp (PySem.W.cellsFrom_some _ n [] (.inl h))
def K0{P:aZ}{K:aG}{f:ax}{X:aq}{s:aw}{F:List V}(S:bu N q o)(hd:A.handled=M)(D:LB P w K i base A t s H)(hl:F.length=q.length)(r:cb F us)(x:InCallC s s.heap.objs.size (bindL (l5 C o s.heap.objs.size f X).kindOf (q.zip us) λd=>M) (fy (s.heap.objs.size+1) o.names []) (bindC (l5 C o s.heap.objs.size f X).kindOf (q.zip us) λd=>M) s1):
  Inv (pI CX P w K i base N C o f X A t s H E) [] (start N F) H s1:=by
 have hpl:q.length<=N.length:=by have:=congrArg sW S.pre;grind
 obtain⟨J,tk,rfl,hk⟩:=x.done;have a:∀b,b∉(pI CX P w K i base N C o f X A t s H E).ex:=λb m=>absurd (show b∈[] from m) Ž
 refine⟨⟨D.mod,S.kind,rfl,rfl,aH _,λy m c J z =>?_,λy Q =>?_,λy c d h =>?_,λd=>hd,Around.frames_deeper D.frames,.inr ⟨rfl,rfl⟩,λb m=>absurd m (a b),D.bs,D.OO,λb d d=>a b,λb m=>absurd m (a b),D.w6,D.SH⟩,
  rfl,D.bare,Un.kept hk,⟨_,x.toInCall.ns,λg y v J z h3 =>?_⟩,λy c h=>⟨_,x.cell y c h⟩,D.eY.fresh (aH _),λy c h =>?_,λp T=>absurd (show p∈[] from T) Ž,D.eY.kept hk,?_⟩
 .exact name_of_addr x.apart (PySem.mem_of_lookup J) (PySem.mem_of_lookup z)
 .rcases Q with Q|Q
  .exact An Q
  .exact absurd rfl (S.UN _ (PySem.mem_of_lookup Q))
 .exact fA (x.above y c (PySem.mem_of_lookup h))
 .have L:g<F.length:=by
   unfold start at z;by_cases L:g<F.length
   .exact L
   .rw[qN (by simp_all)]at z;rw[jt]at z;split at z<;>cases z
  have ha:F[g]?=Y v:=by simp_all [start,dQ,bt]
  obtain⟨u,hu,rv⟩:=r.get ha;have T:q[g]?=Y y:=by rw[<- S.pre,List.getElem?_take_of_lt (by lia)];exact J
  have R:q.Nodup:=by rw[<- S.pre];exact S.nd.sublist (List.take_sublist _ _)
  refine⟨u,rv,?_⟩;rcases S.par y (List.mem_of_getElem? T) with k|k
  .exact .inl ⟨k,B' R T hu k⟩
  .obtain⟨c,e⟩:=An k;refine .inr ⟨.inl k,c,e,?_⟩;have l:=x.cell y c e;rw[Cb R T hu (by show o.names.lookup y≠_;lia)]at l;exact l
 .exact D.eY.fresh (fA (x.above y c (PySem.mem_of_lookup h)))
 .unfold start;show _=N.length
  simp_all
theorem SJ{P:aZ}{K:aG}{f:ax}{name:aE}{m:Arguments}{kV ct oc:aq}(lk:K.lookup f=Y ⟨oc,od,.func (fnOf name h m p c dV kV RM pm an l ct),ZH⟩)(ZT:codeIn K l h=Z')(S:bu N q c)(T:∀D H Q E,sp D H Q E->D.length=q.length) (d:∀(A:fF) (g:List Env) (s:aw) (H:Hp) (D:List V) (Q:VK) (E:XK),dB k (A.deeper (l5 h c s.heap.objs.size f l))->sp D H Q E ->
   ∃t,lX (pI CX P w K i base N h c f l A g s H E) p t/\t { nx:=λ_ H'=>Q .dW H',rt:=Q } (start N D) H) :
  bT P w K i base CX (k+1) f (fnOf name h m p c dV kV RM pm an l ct) q sp:=by
 refine⟨T,λA g s H args us D Q E hr e0 hb r X =>?_⟩;have hl:=T _ _ _ _ X;have KX:=e0.mod.U4.keeps λb o e=>(e0.bs b o e).1
 have lim:=e0.mod.nolimit.keeps λb o e=>(e0.bs b o e).1
 have F:∀y∈q.zip us,c.names.lookup y.1=Y _\/c.names.lookup y.1=Y .cell/\((fy (s.heap.objs.size+1) c.names []).lookup y.1).isSome=true:=λ⟨n,v⟩ hy=>by
  rcases S.par n (we hy).1 with a|a
  .exact .inl a
  simp_all [PySem.W.cellsFrom_some]
 refine codeAny_call_function hr.depth (KX _ _ lk) rfl S.co S.gen rfl (PySem.W.codeRec_of KX ZT) (hb _ _ _ _ ?_);refine wpAny_newFunctionEnv_cells S.kind F λenv he s1 x =>?_
 subst he;refine⟨lim.keeps x.toInCall.keep,codeAny_func ?_⟩;obtain⟨t,ht,hq⟩:=d A g s H D Q E (hr.deeper _) X;refine dP (ht [] s1 (start N D) H _ (K0 S hr.hd e0 hl r x) hq) (λfl s' R =>?_) λe s' R=>R
 have kC:∀ {C:St}{H':Hp}{v:V}{u:aq},Inv (pI CX P w K i base N h c f l A g s H E) [] C H' s'->RelV v u->Q v H'->CE g P w H s Q u s':=
  fun {C H' v u} J rv a=>⟨v,H',J.os,J.bare,J.base,J.eY,rv,a⟩
 cases fl with
 |ret u=>
  obtain⟨v,C,H',J,rv,a⟩:=R
  exact ź
 |next=>obtain⟨C,H',J,a⟩:=R;exact kC (v:=V.dW) (u:=aS) J rfl a
 |_=>obtain⟨_,_,_,a⟩:=R;exact eE a
section
variable {X:Cx}{id:String}
def Wo(r:List V->Hp->VK->Prop)(t:TA):TE:=λU H Q=>t U H λa O=>r a O Q
def zi(A:lu X (.builtin id) r)(v:Gl X x)(u:X.mg x=M)(m:fQ x=Y (.builtin id))(C:PA X (e::es) t)(o:autoParam (x ≠ "__name__") ū)(b:autoParam ((x==("__debug__" : aE))=false) ū)(w:autoParam (ao (e::es) X.env=(Z_,eval e X.env)::ao es X.env) ŭ)(a:autoParam ((bX G (ao es X.env)).any (·.1)=false) ŭ):PE X (.Call (.Name x p) (e::es) [] G) (Wo r t):=by
 exact λB s U H Q I h=>gK (p_ I v u m (nX (fo (C G B s U H _ I h) (by rintro f g ⟨c,O,D,k,l⟩;exact ź)) w a) o b)
def Ku(A:lu X (.type T) r)(v:Gl X x)(u:X.mg x=M)(m:fQ x=Y (.type T))(C:PA X (e::es) t)(o:autoParam (x ≠ "__name__") ū)(b:autoParam ((x==("__debug__" : aE))=false) ū)(w:autoParam (ao (e::es) X.env=(Z_,eval e X.env)::ao es X.env) ŭ)(a:autoParam ((bX G (ao es X.env)).any (·.1)=false) ŭ):PE X (.Call (.Name x p) (e::es) [] G) (Wo r t):=by
 exact λB s U H Q I h=>gK (p_ I v u m (gZ (fo (C G B s U H _ I h) (by rintro f g ⟨c,O,D,k,l⟩;exact ź)) w a) o b)
end
end L2
namespace HT
open PySem PyProof.Rows
section
open PySem.SeqAt
open PySem.AutoSeq1 (wpAny_loadPart')
open PySem.MeetsSeq PySem.MeetsSeq2 PySem.MeetsSeq3
end
section
variable {s:aw}
def Rv{f:List aq}(K:IsTup s.heap t f.toArray)(d:IsTup s.heap b a.toArray)(v:f≠[])(J:a=[]->Q (.ref t) s)(z:a≠[]->Q (.ref s.heap.objs.size) { s with heap:=s.heap.push { cls :=.type "tuple",data :=.seq (f++a).toArray } })(o:f.length+a.length<=a_):be (aV prog w) A (cT .Add (.ref t) (.ref b)) Q E s:=by
 obtain⟨⟨P,D,F,r⟩,m,C,n,x⟩:=id K;obtain⟨⟨H,l,p,g⟩,c,k,u,h⟩:=id d;subst C x k h;have e:f.toArray++a.toArray=(f++a).toArray:=Ž
 by_cases hw:a=[]
 .exact concat_meets ⟨_,m,rfl⟩ ⟨_,c,rfl⟩ Pc seq_tuple_add PySem.F.slot_tuple_add PySem.F.entry_tuple_add (PySem.F.args_tuple_add_2 _ _)
   (tuple_addW1 t b _ _ n u D l r g ż (by simp[hw])) ⟨m,c,J hw⟩
 .refine concat_meets ⟨_,m,rfl⟩ ⟨_,c,rfl⟩ Pc seq_tuple_add PySem.F.slot_tuple_add PySem.F.entry_tuple_add (PySem.F.args_tuple_add_2 _ _)
   (tuple_addW2 t b _ _ n u D l r g ż ż ż) ⟨m,c,?_⟩
  rw[e];exact z hw
noncomputable def CC(n d:Nat):Option Int->Nat
 |none=>d|some v=>if v<0 then (v+(n:Int)).toNat else min v.toNat n
end
end HT
namespace L2
open PySem PySem.Spec PyProof.Rows
abbrev TO:=St->Hp->(Option Int->Hp->Prop)->Prop
def PO(X:Cx)(e:Option Expr)(t:TO):Prop:=
 ∀(B:List (ax×Obj)) (s:aw) (U:St) (H:Hp) (Q:Option Int->Hp->Prop),Inv X B U H s->t U H Q ->
  be (aV X.prog X.w) X.A (evalPart e X.env) (λu s'=>∃o H',Inv X B U H' s'/\IsPart u o/\Q o H') X.xe s
def PF:TO:=λ_ H Q=>Q M H
def Xc(t:TE):TO:=λU H Q=>t U H λx O=>∃i,x=.int i/\Q (Y i) O
section
variable {X:Cx}
def Qf:PO X M PF:=by
 exact λB s U H Q I h=>aF ⟨_,H,I,.none,h⟩
def Qe(h:PE X e te):PO X (Y e) (Xc te):=by
 intro B s U H Q I hw;refine fo (h B s U H _ I hw) ?_;rintro u f ⟨x,O,c,a,b⟩;obtain⟨i,rfl,q⟩:=b;obtain⟨t,rfl⟩:=a;exact⟨_,O,c,.int i t,q⟩
def SlR(X:Cx)(r:V->Option Int->Option Int->Hp->VK->Prop):Prop:=
 ∀(B:List (ax×Obj)) (s:aw) (U:St) (H:Hp) (x:V) (v b a:aq) (n L:Option Int) (c:ax) (Q:VK),Inv X B U H s->RelV x v->s.heap.IsSliceOf c b a .none->IsPart b n->IsPart a L->r x n L H Q ->
  ∃T id,typeLookup (.type T) "__getitem__" = dn (Y (.builtin id))/\s.TypeIs v T/\be (aV X.prog X.w) X.A (LH v (.ref c)) (EP X B U Q) X.xe s
def tSl(r:V->Option Int->Option Int->Hp->VK->Prop)(te:TE)(tl th:TO):TE:=λU H Q=>te U H λx O=>tl U O λl d=>th U d λu a=>r x l u a Q
def Ey(F:SlR X r)(P:PE X e te)(K:PO X n tl)(D:PO X L th):PE X (.Subscript e (.Slice n L M p2) G) (tSl r te tl th):=by
 intro B s U H Q I h;refine Subscript_ (fo (P B s U H _ I h) ?_);rintro v m ⟨x,O,I1,o,w⟩;refine wpAny_Slice (fo (K B m U O _ I1 w) ?_);rintro f k ⟨l,d,I2,C,t⟩;refine fo (D B k U d _ I2 t) ?_;rintro c a ⟨u,g,I3,A,p⟩;refine aF ?_;have S:Inv X B U g { a with heap:=a.heap.push { cls :=.type "slice",data :=.fields #[f,c,.none] } }:=I3.kept λb ob q=>ak _ q
 obtain⟨T,id,R,E,i⟩:=F B _ U g x v f c l u a.heap.objs.size Q S o (Heap.IsSliceOf.new ..) C A p;exact tail_any E R i ź
def HF(xs:List V)(n L:Option Int):List V:=(xs.drop (HT.CC xs.length 0 n)).take (HT.CC xs.length xs.length L-HT.CC xs.length 0 n)
def FI(xs:List V)(n L:Option Int):(HF xs n L).length<=xs.length:=by
 unfold HF;rw[uU,nZ]
 lia
def Si(K:aG):R2:=λx y H Q=>∃a b xs ys,x=.ref a/\y=.ref b/\Cd K H a xs/\Cd K H b ys/\xs≠[]/\xs.length+ys.length<=a_ /\
 (ys=[]->Q (.ref a) H)/\(ys≠[]->∀p,H p=M->Q (.ref p) (dD H p (.tup (xs++ys))))
def cb.CS(r:cb xs a):a=[]↔xs=[]:=by
 cases r<;>simp_all
def IJ:ou X (cT .Add) (Si X.K):=by
 refine λB s U H x y v u Q I l k xx=>ae λkk =>?_
 obtain⟨a,b,xs,ys,rfl,rfl,C,A,t,g,o,m⟩:=xx;cases l;cases k;obtain⟨r,e,p,_⟩:=I.tuple C;obtain⟨f,c,p2,_⟩:=I.tuple A;refine kk (HT.Rv p p2 (λz=>t (e.CS.mp z)) (λz=>⟨.ref a,H,I,rfl,o (c.CS.mp z)⟩) (λz =>?_) (by rw[<- e.length,<- c.length];exact g));refine⟨.ref _,_,I.laid (λb D q=>ak _ q) (aH _) ?_,rfl,m (λw=>z (c.CS.mpr w)) _ (I.eY.fresh (aH _))⟩;exact⟨ż,_,e.append c,IsTup.new _ _⟩
end
noncomputable def DW(n:Nat)(i:Int):Option Nat:=if 0<=i then (if i<n then Y i.toNat else M) else if -(n:Int)<=i then Y (i+n).toNat else M
def oY{a:Type}(xs:List a)(i:Int):Option a:=(DW xs.length i).bind λj=>xs[j]?
def C4{n:Nat}(h:DW n i=Y j):seqIndex? i n=Y j/\j<n /\ -(n:Int)<=i/\i<n:=by
 unfold DW at h;by_cases a:0<=i
 .rw[if_pos a]at h;by_cases J:i<n
  .rw[if_pos J]at h
   grind [cB,seqIndex_of]
  simp_all
 .rw[if_neg a]at h;by_cases J : -n<=i
  .rw[if_pos J]at h
   grind [cB,seqIndex_neg]
  simp_all
def DE{v:a}(h:oY xs i=Y v):∃j,seqIndex? i xs.length=Y j/\xs[j]?=Y v/\j<xs.length /\ -(xs.length:Int)<=i/\i<xs.length:=by
 obtain⟨j,e,h⟩:=aa.1 h;obtain⟨J,z,c,b⟩:=C4 e;exact⟨j,J,h,z,c,b⟩
theorem RB{xs:List a}{j:Nat}{v:a}(h:xs[j]?=Y v):oY xs (j:Int)=Y v:=by
 have b:=(au.mp h).1
 simp_all [DW,if_pos,oY]
def sN(b:Expr):Prop:=∀o i,Pp b Z_ o i=operate [o,i] (LH o i)
def JT(X:Cx)(r:R2):Prop:=
 ∀(value a:Expr) (B:List (ax×Obj)) (s:aw) (U:St) (H:Hp) (x y:V) (v u:aq) (Q:VK),Inv X B U H s->RelV x v->RelV y u->r x y H Q ->
  Pp a Z_ v u=operate [v,u] (LH v u)->be (aV X.prog X.w) X.A (subscriptTail value a v u) (EP X B U Q) X.xe s
def MtR(X:Cx)(id:String)(r:V->List V->Hp->VK->Prop):Prop:=
 ∀(B:List (ax×Obj)) (s:aw) (U:St) (H:Hp) (x:V) (xs:List V) (v:aq) (a:List aq) (Q:VK),Inv X B U H s->RelV x v->cb xs a->r x xs H Q ->
  be (aV X.prog X.w) X.A (HX (.builtin id) (v::a)) (EP X B U Q) X.xe s
section
variable {X:Cx}
def JT.or(h:JT X r)(h':JT X e):JT X (λx y H Q=>r x y H Q\/e x y H Q):=by
 intro value a B s U H x y v u Q I c b q f;rcases q with q|q
 .exact h _ a B s U H x y v u Q I c b q f
 .exact h' _ a B s U H x y v u Q I c b q f
def Ez(l:JT X r)(o:PE X a N)(m:PE X b y)(k:sN b):PE X (.Subscript a b G) (Wl r N y):=by
 exact λB s U H Q I h=>Subscript_ (VZ o m I h λv u e x c d p g f q=>l a b B e U d x c v u Q p g f q (k _ _))
def XH(K:aG):R2:=λx y H Q=>∃p xs i v,x=.ref p/\y=.int i/\mY K H p xs/\oY xs i=Y v/\Q v H
def XE(K:aG):R2:=λx y H Q=>∃p xs i v,x=.ref p/\y=.int i/\Cd K H p xs/\oY xs i=Y v/\Q v H
def XG:R2:=λx y H Q=>∃z i c,x=.str z/\y=.int i/\z.length<=a_/\oY z.cps.toList i=Y c/\Q (.str ⟨#[c]⟩) H
def Ja:JT X (XH X.K):=by
 intro value b B s U H x y v u Q I A o h k;refine ae λkk =>?_
 obtain⟨p,xs,i,a,rfl,rfl,C,E,q⟩:=h;cases A;obtain⟨t,rfl⟩:=o;obtain⟨f,r,e,d⟩:=I.list C;obtain⟨j,J,z,R,K,F⟩:=DE E;obtain⟨w,m,c⟩:=r.get z;have D:=r.length;have P:=wO;refine kk ?_;have kC:EP X B U Q w s:=⟨a,H,I,c,q⟩;by_cases l:0<=i
 .have g:=by rw[seqIndex_of l F]at J;exact cB J
  exact item_listR e.isList l (by lia) ż kC k
 .have g:(i+(f.toArray.size:Int)).toNat=j:=by rw[seqIndex_neg (by lia) K]at J;rw[b_,<- D];exact cB J
  exact subscriptTail_builtinR e.isList.typeIs slot_list_getitem.lookup
   (wpAny_getItem_list_neg e.isList ž ż (by lia) ż ⟨rfl,kC⟩) k
def U_:JT X (XE X.K):=by
 intro value b B s U H x y v u Q I g f h l;refine ae λkk =>?_
 obtain⟨p,xs,i,a,rfl,rfl,m,A,q⟩:=h;cases g;obtain⟨t,rfl⟩:=f;obtain⟨k,r,e,D⟩:=I.tuple m;obtain⟨j,J,z,_⟩:=DE A;obtain⟨w,C,c⟩:=r.get z;have o:=r.length;have E:=wO;exact kk (subscriptTail_builtinR e.typeIs slot_tuple_getitem.lookup
  (getItem_tuple (j:=j) e (by lia) (by lia) ż ż ⟨rfl,(⟨a,H,I,c,q⟩)⟩) l)
def Va:JT X XG:=by
 intro value b B s U H x y v u Q I f e h g;refine ae λkk =>?_
 obtain⟨a,i,c,rfl,rfl,A,l,q⟩:=h;obtain⟨t,rfl⟩:=f;obtain⟨w,rfl⟩:=e;obtain⟨j,J,z,D,o,m⟩:=DE l;have k:a.cps.toList.length=a.length:=by simp[Str.length]
 have C:=wO;exact kk (tail_any (typeIs_str s a t) slot_str_getitem.lookup (getItem_str Ÿ ż ⟨.str _,H,I.tok _,⟨_,rfl⟩,q⟩) g)
def rIx(K:aG):R2:=λx y H Q=>XH K x y H Q\/XE K x y H Q\/XG x y H Q
def C3:JT X (rIx X.K):=Ja.or (U_.or Va)
def Hb(a:List aq)(n j:Nat)(u:aq):Obj.mapSeq (·.setIfInBounds j u) { cls :=.type "list",data :=.seq a.toArray n }={ cls :=.type "list",data :=.seq (a.set j u).toArray n }:=by
 simp[Obj.mapSeq]
def Inv.lst{s:aw}{p:ax}{xs:List V}(I:Inv X B U H s)(h:H p=Y (.lst xs)):
  ∃(a:List aq) (n:Nat),cb xs a/\s.heap.get? p=Y { cls :=.type "list",data :=.seq a.toArray n }/\xs.length<=a_:=by
 obtain⟨z,a,n,r,e⟩:=I.eY p _ h;exact⟨a,n,r,e,z⟩
def Inv.UW{B:List (ax×Obj)}{U:St}{H:Hp}{s:aw}{p:ax}{xs ys:List V}{c a:List aq}{n g:Nat}{f:Obj->Obj}(I:Inv X B U H s)(h:H p=Y (.lst xs))(m:s.heap.get? p=Y { cls :=.type "list",data :=.seq c.toArray n })(k:f { cls :=.type "list",data :=.seq c.toArray n }={ cls :=.type "list",data :=.seq a.toArray g })(r:cb ys a)(l:ys.length<=a_)(t:Nat):
  Inv X B U (dD H p (.lst ys)) { s with heap:=s.heap.update p f,toks:=t }:=by
 have e:(s.heap.update p f).get? p=Y { cls :=.type "list",data :=.seq a.toArray g }:=by rw[cM f m (by rw[k]<;>rfl),k]
 refine I.write (by rw[h];trivial) (.inl rfl) (λb u o q=>(bC _ _ (bE o)).trans q) ⟨_,e⟩ ?_;exact⟨l,a,g,r,e⟩
def Sg:V->V->V->Hp->(Hp->Prop)->Prop:=λo i v H Q=>∃p xs k j,o=.ref p/\i=.int k/\H p=Y (.lst xs)/\DW xs.length k=Y j/\Q (dD H p (.lst (xs.set j v)))
def O9:Zk X Sg:=by
 refine λB s U H o i v F K u Q I A C x xx=>ae λkk =>?_
 obtain⟨p,xs,k,j,rfl,rfl,f,E,q⟩:=xx;cases A;obtain⟨t,rfl⟩:=C;obtain⟨a,n,r,b,D⟩:=I.lst f;obtain⟨J,z,l,g⟩:=C4 E;have c:=r.length;have d:=wO;have w:=
  I.UW f b (Hb a n j u) (r.set x j) ż s.toks
 refine kk ?_;by_cases m:0<=k
 .grind [seqIndex_of,cB,PySem.W.ki_setAt,b_]
 grind [seqIndex_neg,b_,cB,PySem.W.ki_setBack]
def Cy(n L:Option Int)(a:Nat):(DR n L M a).1=((HT.CC a 0 n:Nat):Int)/\(DR n L M a).2.1=((HT.CC a a L:Nat):Int)/\(DR n L M a).2.2=1:=by
 refine⟨?_,?_,rfl⟩
 .cases n with
  |none=>solve_by_elim|some i=>
   simp only[DR,HT.CC,Option.getD_none,show (1:Int) > 0 by simp,if_true];by_cases h:i<0
   .simp only[h,if_true]<;>lia
   .simp only[h,if_false]<;>lia
 .cases L with
  |none=>solve_by_elim|some i=>
   simp only[DR,HT.CC,Option.getD_none,show (1:Int) > 0 by simp,if_true];by_cases h:i<0
   .simp only[h,if_true]<;>lia
   .simp only[h,if_false]<;>lia
def AW(a:List aq)(n L:Option Int):slicePick a.toArray n L M=((a.drop (HT.CC a.length 0 n)).take (HT.CC a.length a.length L-HT.CC a.length 0 n)).toArray:=by
 obtain⟨J,z,b⟩:=Cy n L _;unfold slicePick;rw[J,z,b];simp only[sliceRange_one,pick_run,b_]<;>rfl
def aaK(K:aG):V->Option Int->Option Int->Hp->VK->Prop:=λx n L H Q=>∃a xs,x=.ref a/\mY K H a xs/\∀p,H p=M->Q (.ref p) (dD H p (.lst (HF xs n L)))
def PL:SlR X (aaK X.K):=by
 rintro B s U H x v u t n L w Q I f p k g ⟨a,xs,rfl,o,q⟩;cases f;obtain⟨l,r,e,m⟩:=I.list o;have c:=r.length;refine⟨_,_,slot_list_getitem.lookup,e.isList.typeIs,?_⟩;refine wpAny_getItem_list_slice e.isList p k g .none Ž ?_ ż;rw[AW,<- c];refine⟨.ref _,_,I.laid (λb A q=>ak _ q) (aH _) ?_,rfl,q _ (I.eY.fresh (aH _))⟩;exact⟨bz (FI xs n L) m,_,0,(r.drop _).take _,bg _ rfl⟩
noncomputable def qC:V->Bool
 |.dW=>Z'|.bl _=>Z'|.int _=>Z'|.str _=>Z'|_=>Z_
noncomputable def SN:V->V->Bool
 |.dW,.dW=>Z'|.bl a,.bl b=>a==b|.bl a,.int b=>(if a then 1 else 0)==b
 |.int a,.bl b=>a==(if b then 1 else 0)
 |.int a,.int b=>a==b|.str a,.str b=>a==b|_,_=>Z_
def VB{A:fF}{s:aw}{y x:V}{u v:aq}(f:RelV y u)(c:RelV x v)(h:qC y=Z')(g:qC x=Z'):SeqAt.EqAt A s u v (SN y x):=by
 cases y with
 |dW=>
  cases f;cases x with
  |dW=>cases c;exact SeqAt.EqAt.same _|bl b=>cases c;exact SeqAt.EqAt.none_bool b|int b=>obtain⟨t,rfl⟩:=c;exact SeqAt.EqAt.none_int b t
  |str b=>obtain⟨t,rfl⟩:=c;exact SeqAt.EqAt.none_str b t
  |_=>exact absurd (g) eH
 |bl a=>
  cases f;cases x with
  |dW=>cases c;exact SeqAt.EqAt.bool_none a|bl b=>cases c;exact SeqAt.EqAt.bool_bool a b|int b=>obtain⟨t,rfl⟩:=c;exact SeqAt.EqAt.bool_int a b t
  |str b=>obtain⟨t,rfl⟩:=c;exact SeqAt.EqAt.bool_str a b t
  |_=>exact absurd (g) eH
 |int a=>
  obtain⟨e,rfl⟩:=f;cases x with
  |dW=>cases c;exact SeqAt.EqAt.int_none a e|bl b=>cases c;exact SeqAt.EqAt.int_bool a e b|int b=>obtain⟨t,rfl⟩:=c;exact SeqAt.EqAt.int_int a e b t
  |str b=>obtain⟨t,rfl⟩:=c;exact SeqAt.EqAt.int_str a e b t
  |_=>exact absurd (g) eH
 |str a=>
  obtain⟨e,rfl⟩:=f;cases x with
  |dW=>cases c;exact SeqAt.EqAt.str_none a e|bl b=>cases c;exact SeqAt.EqAt.str_bool a e b|int b=>obtain⟨t,rfl⟩:=c;exact SeqAt.EqAt.str_int a e b t
  |str b=>obtain⟨t,rfl⟩:=c;exact SeqAt.EqAt.str_str a e b t
  |_=>exact absurd (g) eH
 |_=>exact absurd (h) eH
def YL(x:V)(u:aq):Bool:=match u with
 |.none=>SN .dW x|.bool b=>SN (.bl b) x|.int i _=>SN (.int i) x|.str z _=>SN (.str z) x|_=>Z_
def Oa{x y:V}{u:aq}(r:RelV y u)(f:qC y=Z'):YL x u=SN y x:=by
 cases y with
 |dW=>cases r;rfl|bl b=>cases r;rfl|int i=>obtain⟨t,rfl⟩:=r;rfl
 |str z=>obtain⟨t,rfl⟩:=r;rfl
 |_=>exact absurd f eH
def JL{x:V}{xs:List V}{a:List aq}(h:cb xs a)(f:xs.all qC=Z'):a.any (YL x)=xs.any λy=>SN y x:=by
 induction h with|nil=>rfl|cons r _ ih=>rw[fm,aR]at f;rw[Pg,Pg,Oa r f.1,ih f.2]
def E9{A:fF}{s:aw}{x:V}{v:aq}(c:RelV x v)(e:qC x=Z'){xs:List V}{b:List aq}(h:cb xs b)(f:xs.all qC=Z'):∀u∈b,SeqAt.EqAt A s u v (YL x u):=by
 induction h with
 |nil=>simp_all|cons r _ ih=>
  rw[fm,aR]at f;intro g a;rcases br.mp a with rfl|a
  .rw[Oa r f.1];exact VB r c f.1 e
  simp_all
def Ww(x:V)(xs:List V):Bool:=xs.any λy=>SN y x
def rIn(K:aG)(a:Bool):R2:=λx y H Q=>∃p xs,y=.ref p/\(mY K H p xs\/Cd K H p xs)/\qC x=Z'/\xs.all qC=Z'/\Q (.bl (if a then !Ww x xs else Ww x xs)) H
def Ky:ou X (hI .In) (rIn X.K Z_):=by
 rintro B s U H x y v u Q I e g ⟨p,xs,rfl,b,f,j,q⟩;cases g;rcases b with b|b
 .obtain⟨a,r,c,k⟩:=I.list b;refine SeqAt.in_listAt _ c.isList (λw hw=>E9 e f r j w ż) ⟨.bl _,H,I,rfl,?_⟩;rw[show a.toArray.any _=a.any (YL x) by simp,JL r j];exact q
 .obtain⟨a,r,c,k⟩:=I.tuple b;refine SeqAt.in_tupleAt _ c (λw hw=>E9 e f r j w ż) ⟨.bl _,H,I,rfl,?_⟩;rw[show a.toArray.any _=a.any (YL x) by simp,JL r j];exact q
def DA:lu X (.builtin "len") (λxs H Q=>∃p ys,xs=[.ref p]/\(mY X.K H p ys\/Cd X.K H p ys)/\Q (.int ys.length) H):=by
 rintro B s U H xs l Q I r ⟨p,ys,rfl,b,q⟩;obtain⟨u,rfl,g⟩:=vals1 r;cases g;have m:=wO;rcases b with b|b
 .obtain⟨f,c,e,k⟩:=I.list b;have a:=c.length;exact Calls.call_len_list e.isList (by simp only[b_]<;>lia) ⟨.int _,H,I.tok _,⟨_,by rw[b_,a]⟩,q⟩
 .obtain⟨f,c,e,k⟩:=I.tuple b;have a:=c.length;exact len_tuple e (by simp only[b_]<;>lia) ⟨.int _,H,I.tok _,⟨_,by rw[b_,a]⟩,q⟩
def Dz:lu X (.builtin "len") (λxs H Q=>∃z,xs=[.str z]/\z.length<=a_/\Q (.int z.length) H):=by
 rintro B s U H xs a Q I r ⟨z,rfl,b,q⟩;obtain⟨u,rfl,t,rfl⟩:=vals1 r;have c:=wO;exact len_str ž ⟨.int _,H,I.tok _,⟨_,rfl⟩,q⟩
def lu.or{f:aq}(h:lu X f r)(h':lu X f c):lu X f (λxs H Q=>r xs H Q\/c xs H Q):=by
 intro B s U H xs a Q I b q;rcases q with q|q
 .exact ź
 exact ź
def Dy:lu X (.type "list") (λxs H Q=>∃p ys,xs=[.ref p]/\(mY X.K H p ys\/Cd X.K H p ys)/\∀l,H l=M->Q (.ref l) (dD H l (.lst ys))):=by
 rintro B s U H xs D Q I r ⟨p,ys,rfl,m,q⟩;obtain⟨u,rfl,C⟩:=vals1 r;cases C;have kC:∀(a:List _),cb ys a->ys.length<=a_->∀(h':cy) (f:Nat),(∀b o',s.heap.get? b=Y o'->h'.get? b=Y o') ->
   h'.get? _=Y _->EP X B U Q _ _:=λa c k h' f g e=>
  ⟨.ref _,_,I.laid (t':=s.toks) g (aH _) (show jA _ X.w _ h' _ (.lst ys) from⟨k,a,f,c,e⟩),rfl,q _ (I.eY.fresh (aH _))⟩
 rcases m with m|m
 .obtain⟨a,c,v,k⟩:=I.list m;have t:=c.length;obtain⟨o,w,A,n,x⟩:=v.isList;exact call_list_seq p (.inl rfl) w A x (λh' f g e=>kC a c k h' f g e) ż
 .obtain⟨a,c,v,k⟩:=I.tuple m;have t:=c.length;obtain⟨o,w,A,n,x⟩:=v;exact call_list_seq p (.inr rfl) w A x (λh' f g e=>kC a c k h' f g e) ż
def tyV(K:aG)(T:String)(x:V)(H:Hp):Prop:=match x with
 |.str _=>T = "str"|.int _=>T = "int"| .ref p=>(T = "list" /\ ∃xs,mY K H p xs)\/(T = "tuple" /\ ∃o,K.lookup p=Y o/\o.cls=.type "tuple" /\o.dict=M) \/
   (T = "dict" /\((∃a,H p=Y (.dK a))\/∃a,H p=Y (.dT a)))\/(T = "set" /\ ∃S n,H p=Y (.set S n))
 |_=>False
theorem Mg{s:aw}{v:aq}(I:Inv X B U H s)(r:RelV x v)(f:tyV X.K T x H):
  s.TypeIs v T/\∀a,v=.ref a->∃m,s.heap.get? a=Y m/\m.dict=none:=by
 cases x with
 |str z=>obtain⟨t,rfl⟩:=r;cases f;simp[typeIs_str]
 |int i=>obtain⟨t,rfl⟩:=r;cases f;simp[typeIs_int]
 |ref p=>
  cases r;rcases f with⟨rfl,xs,w⟩|⟨rfl,o,b,A,h⟩|⟨rfl,b⟩|⟨rfl,S,n,b⟩
  .obtain⟨u,_,l,_⟩:=I.list w;refine⟨l.isList.typeIs,λa e =>?_⟩;obtain⟨o,n,e,c,h,_⟩:=l
   simp_all
  .refine⟨⟨o,I.qJ p o b,A⟩,λa e =>?_⟩;cases e;exact⟨o,I.qJ _ o b,h⟩
  .have z:∃o,s.heap.get? p=Y o/\o.ExactDict:=by
    rcases b with⟨g,b⟩|⟨g,b⟩
    .obtain⟨_,_,_,_,o,_,_,e,ex,_⟩:=I.eY p _ b
     simp_all
    .obtain⟨_,_,_,_,o,_,_,e,ex,_⟩:=I.eY p _ b
     simp_all
   obtain⟨o,e,ex⟩:=z;refine⟨⟨o,e,ex.1⟩,λa k =>?_⟩;cases k;exact⟨o,e,ex.2.1⟩
  .obtain⟨o,_,_,_,e,ex,_⟩:=I.eY p _ b;refine⟨⟨o,e,ex.1⟩,λa k =>?_⟩;cases k;exact⟨o,e,ex.2.1⟩
 |_=>solve_by_elim
def Xk(K:aG)(T:String)(r:V->List V->Hp->VK->Prop)(to:TE):TE:=λU H Q=>to U H λx O=>tyV K T x O/\r x [] O Q
def tBM(K:aG)(T:String)(r:V->List V->Hp->VK->Prop)(to:TE)(t:TA):TE:=λU H Q=>to U H λx O=>tyV K T x O/\t U O λxs d=>r x xs d Q
variable {name:aE}{id:String}
def CN(p:PlainAttrs T)(c:Slot T name id)(e:DQ (.builtin id)=dn (.type "method_descriptor"))(u:MtR X id r)(t:PE X o to)(b:autoParam (bQ o name X.env (eval o X.env)=eval o X.env) ŭ)(a:autoParam ((uO.endLine==yj.line)=true) ŭ):PE X (.Call (.Attribute o name uO) [] [] yj) (Xk X.K T r to):=by
 intro B s U H Q I h;refine wpAny_Call_method0_late b a (fo (t B s U H _ I h) ?_);rintro v l ⟨x,O,g,f,k,m⟩;obtain⟨J,z⟩:=Mg g f k;exact⟨T,id,p,c,e,J,z,AI rfl (PySem.evalArgs_none (u B l U O x [] v [] Q g f .nil m))⟩
def BH(i:PlainAttrs T)(f:Slot T name id)(k:DQ (.builtin id)=dn (.type "method_descriptor"))(S:MtR X id r)(R:PE X o to)(ha:PA X (e::es) t)(c:autoParam (bQ o name X.env (eval o X.env)=eval o X.env) ŭ) (g:autoParam (((bX yj (ao (e::es) X.env)).all (λx=> !x.1)&&(eM yj (cq [] X.env)).all (λx=>x.1.isSome)
   && decide ((e::es).length+([]:List lh).length+(if ([]:List lh).isEmpty then 0 else 1)<30))=true) ŭ) (b:autoParam ((uO.endLine==yj.line)=true) ŭ) (P:autoParam (ao (e::es) X.env=(Z_,eval e X.env)::ao es X.env) ŭ) (a:autoParam ((bX yj (ao es X.env)).any (·.1)=false) ŭ) :
  PE X (.Call (.Attribute o name uO) (e::es) [] yj) (tBM X.K T r to t):=by
 intro B s U H Q I h;refine wpAny_Call_method_late c g b rfl (fo (R B s U H _ I h) ?_);rintro v D ⟨x,O,p,l,A,K⟩;obtain⟨J,z⟩:=Mg p l A;refine⟨T,id,i,f,k,J,z,?_⟩;have m:=ha yj B D U O _ p K;rw[P]at m ⊢;refine AI (by show (Z_||(bX _ _).any _)=Z_;rw[a]<;>solve_by_elim) (Calls.evalArgs_plain ?_);exact fo m <|by rintro w C ⟨u,d,I2,E,F⟩;exact ź
end
def MtM(X:Cx)(id:String)(r:V->List V->Hp->VK->Prop):Prop:=
 ∀(B:List (ax×Obj)) (s:aw) (U:St) (H:Hp) (x:V) (xs:List V) (v:aq) (a:List aq) (Q:VK),Inv X B U H s->RelV x v->cb xs a->r x xs H Q ->
  be (aV X.prog X.w) X.A (HX (.builtin id) (v::a)) (EP X B U Q) X.xe s
def cb.one{x:V}{a:List aq}(h:cb [x] a):∃u,a=[u]/\RelV x u:=by
 rcases h with _|⟨r,_|_⟩;simp_all
def cb.two{x y:V}{a:List aq}(h:cb [x,y] a):∃u v,a=[u,v]/\RelV x u/\RelV y v:=by
 rcases h with _|⟨r,_|⟨q,_|_⟩⟩;exact⟨_,_,rfl,r,q⟩
def cb.zero{a:List aq}(h:cb [] a):a=[]:=by cases h;rfl
def cb.dropLast(h:cb xs a):cb xs.dropLast a.dropLast:=by
 induction h with
 |nil=>exact .nil|cons r t ih=>
  cases t with|nil=>exact .nil|cons q b=>solve_by_elim
theorem cb.rep(h:cb xs a):∀k:Nat,cb (aM k xs).flatten (aM k a).flatten
 |0 =>.nil|k+1=>by simp_all [AG,List.flatten_cons,cb.append,cb.rep]
def Vz(l:List c):l.eraseIdx (l.length-1)=l.dropLast:=by
 simp_all
theorem foldl_rep(a:List aq):∀(k:Nat) (b:List aq),
  List.foldl (λf c=>f++c) b.toArray (aM k a.toArray)=(b++(aM k a).flatten).toArray
 |0,b=>by simp
 | k+1,b=>by
  have e:b.toArray++a.toArray=(b++a).toArray:=Ž
  have g:b++a++(aM k a).flatten=b++(aM (k+1) a).flatten:=by rw[AG,List.flatten_cons,b8]
  rw[<- g,<- foldl_rep a k _,<- e,AG,List.foldl_cons]
section
variable {X:Cx}{s:aw}
def Inv.QC{a NQ:List aq}{n:Nat}{f:Array aq->Array aq}{t':Nat}(I:Inv X B U H s)(m:H l=Y (.lst xs))(e:s.heap.get? l=Y { cls :=.type "list",data :=.seq a.toArray n })(h:f a.toArray=NQ.toArray)(c:cb ys NQ)(b:ys.length<=a_):
  Inv X B U (dD H l (.lst ys)) { s with heap:=s.heap.update l (Obj.mapSeq f),toks:=t' }:=by
 have q:=PySem.IsL.update e f;rw[h]at q;refine I.write (by rw[m];exact trivial) (.inl rfl) (λo u k g=>(bC _ _ (bE k)).trans g) ⟨_,q⟩ ?_;exact⟨b,_,_,c,q⟩
def Inv.Yd{t':Nat}(I:Inv X B U H s)(c:cb ys a)(b:ys.length<=a_):
  Inv X B U (dD H s.heap.objs.size (.lst ys)) { s with heap:=s.heap.push { cls :=.type "list",data :=.seq a.toArray },toks:=t' }:=
 I.laid (λd d q=>ak _ q) (aH _) ⟨b,a,0,c,bg _ rfl⟩
def Inv.fresh(I:Inv X B U H s):H s.heap.objs.size=none:=I.eY.fresh (aH _)
def Inv.Fc(I:Inv X B U H s)(b:H l=Y (.lst xs)):xs.length<=a_/\∃(a:List aq) (n:Nat),cb xs a/\xs.length=a.length/\s.heap.get? l=Y { cls :=.type "list",data :=.seq a.toArray n }:=by
 obtain⟨z,a,n,r,e⟩:=I.eY l _ b;exact⟨z,a,n,r,r.length,e⟩
def ER(h:n<=a_):mT n=false:=by
 simp_all [mT,decide_eq_false]
end
section
variable {X:Cx}
def P7:V->List V->Hp->VK->Prop:=λx a H Q=>∃l xs y,x=.ref l/\a=[y]/\H l=Y (.lst xs)/\xs.length<a_/\Q .dW (dD H l (.lst (xs++[y])))
def mW:MtM X "list.append" P7:=by
 rintro B s U H x k v m Q I c f ⟨l,xs,y,rfl,rfl,b,o,q⟩;cases c;obtain⟨u,rfl,g⟩:=f.one;obtain⟨z,a,n,r,p,e⟩:=I.Fc b;refine AE F.slot_list_append ⟨_,e,rfl⟩ F.entry_list_append (F.args_list_append_2 _ _) (PySem.list_append l _ n u ż) ⟨e,?_⟩;refine⟨.dW,_,I.QC b e Ž (r.append (.cons g .nil)) ?_,rfl,q⟩
 grind
def P6:V->List V->Hp->VK->Prop:=λx a H Q=>∃l b xs zs,x=.ref l/\a=[.ref b]/\H l=Y (.lst xs)/\H b=Y (.lst zs)/\xs.length+zs.length<=a_/\Q .dW (dD H l (.lst (xs++zs)))
def KH:MtM X "list.extend" P6:=by
 refine λB s U H x K v d Q I m o xx=>ae λkk =>?_
 obtain⟨l,b,xs,zs,rfl,rfl,k,C,P,q⟩:=xx;cases m;obtain⟨u,rfl,p⟩:=o.one;cases p;obtain⟨z,c,n,r,R,e⟩:=I.Fc k;obtain⟨E,a,w,t,A,D⟩:=I.Fc C;have g:c.toArray.size+a.toArray.size<=a_:=ż
 have f:¬(!c.toArray.isEmpty&&mT (c.toArray.size+a.toArray.size))=true:=by rw[ER g,LP];exact eH
 refine kk (AE F.slot_list_extend ⟨_,e,rfl⟩ F.entry_list_extend (F.args_list_extend_2 _ _)
  (AutoSeq1.list_extend_list_list_0 l _ n b _ w f ż ž) ⟨e,D,?_⟩)
 refine⟨.dW,_,I.QC k e Ž (r.append t) ?_,rfl,q⟩;rw[bB];lia
def XC:V->List V->Hp->VK->Prop:=λx a H Q=>∃l xs y,x=.ref l/\a=[]/\H l=Y (.lst xs)/\xs[xs.length-1]?=Y y/\Q y (dD H l (.lst xs.dropLast))
def Nu:MtM X "list.pop" XC:=by
 refine λB s U H x w v A Q I g k xx=>ae λkk =>?_
 obtain⟨l,xs,y,rfl,rfl,f,o,q⟩:=xx;cases g;have c:=k.zero;subst c;obtain⟨z,a,n,r,t,e⟩:=I.Fc f;obtain⟨u,p,m⟩:=r.get o;have b:a.toArray[a.toArray.size-1]?=Y u:=ż
 refine kk (AE F.slot_list_pop ⟨_,e,rfl⟩ F.entry_list_pop (F.args_list_pop_1 _) (MeetsSeq.list_pop_last l _ n u b ż) ⟨e,?_⟩);refine⟨y,_,I.QC f e ?_ r.dropLast ?_,m,q⟩
 .simp
 .rw[List.length_dropLast]
  grind
def Ua:V->List V->Hp->VK->Prop:=λx a H Q=>∃l xs,x=.ref l/\a=[]/\H l=Y (.lst xs)/\Q .dW (dD H l (.lst []))
def EU:MtM X "list.clear" Ua:=by
 rintro B s U H x k v m Q I f g ⟨l,xs,rfl,rfl,c,q⟩;cases f;have b:=g.zero;subst b;obtain⟨z,a,n,r,o,e⟩:=I.Fc c;exact AE F.slot_list_clear ⟨_,e,rfl⟩ F.entry_list_clear (F.args_list_clear_1 _) (AutoSeq1.list_clear_list_0 l _ n ż) ⟨e,⟨.dW,_,I.QC c e rfl .nil (dk _),rfl,q⟩⟩
def aaM:R2:=λx y H Q=>∃l b xs zs,x=.ref l/\y=.ref b/\H l=Y (.lst xs)/\H b=Y (.lst zs)/\xs.length+zs.length<=a_/\∀p,H p=M->Q (.ref p) (dD H p (.lst (xs++zs)))
def Nc:ou X (cT .Add) aaM:=by
 refine λB s U H x y v u Q I g f xx=>ae λkk =>?_
 obtain⟨l,b,xs,zs,rfl,rfl,o,p,D,q⟩:=xx;cases g;cases f;obtain⟨z,c,n,r,E,e⟩:=I.Fc o;obtain⟨A,a,C,k,m,w⟩:=I.Fc p;refine kk (PySem.P.add_list e w ?_ ż);have t:c.toArray++a.toArray=(c++a).toArray:=Ž
 rw[t];exact⟨.ref _,_,I.Yd (r.append k) ż,rfl,q _ I.fresh⟩
def aaL:R2:=λx y H Q=>∃l k xs,x=.ref l/\y=.int k/\H l=Y (.lst xs) /\ -(2 ^ 63)<=k/\k<2 ^ 63/\xs.length*k.toNat<=a_ /\
 ∀p,H p=M->Q (.ref p) (dD H p (.lst (aM k.toNat xs).flatten))
def RK(xs:List a)(k:Nat):(aM k xs).flatten.length=k*xs.length:=by
 simp_all
def Uy:ou X (cT .Mult) aaL:=by
 rintro B s U H x y v u Q I rx ry ⟨l,k,xs,rfl,rfl,hH,J,z,hz,q⟩;cases rx;obtain⟨t,rfl⟩:=ry;obtain⟨c,Hg,n,r,hl,e⟩:=I.Fc hH;have HV:Hg.toArray.size*k.toNat<=a_:=ż
 have abz:¬Hg.toArray.size*k.toNat > (2 ^ 63-1)/8:=by grind [a_]
 have abv:¬(!Builtin.List.listFitsIndex k)=true:=by rw[fitsIndex_both J z];exact eH
 have Yq:¬mT (Hg.toArray.size*k.toNat)=true:=by rw[ER HV];exact eH
 have Vm:List.foldl (λx1 x2=>x1++x2) #[] (aM (if Hg.toArray.isEmpty=Z' then 0 else k.toNat) Hg.toArray)=(aM k.toNat Hg).flatten.toArray:=by
  have f0:∀m:Nat,List.foldl (λx1 x2=>x1++x2) #[] (aM m Hg.toArray)=(aM m Hg).flatten.toArray:=λm=>by simp_all [foldl_rep,dG]
  rw[f0];cases Hg<;>simp_all
 refine wpAny_binaryOp_repeat_ref (T:= "list") (U:= "int") ſ ⟨_,e,rfl⟩ (λs'=>typeIs_int s' k t) noFill_list_mul F.fills_int_mul F.slot_int_rmul repeat_list F.slot_int_index.lookup
  (AE F.slot_int_rmul (typeIs_int s k t) F.entry_int_rmul (F.args_int_rmul_2 _ _) (int___rmul___int_list k t l Hg.toArray n)
   ⟨e,rfl,⟨_,e,rfl⟩,AE F.slot_list_mul ⟨_,e,rfl⟩ F.entry_list_mul (F.args_list_mul_2 _ _) (AutoListH.list___mul___list_int_3 l Hg.toArray n k t abv abz Yq) ⟨e,?_⟩⟩)
 rw[Vm];exact⟨.ref _,_,I.Yd (t':=s.toks) (r.rep k.toNat) (by rw[RK,Nat.mul_comm];exact hz),rfl,q _ I.fresh⟩
end
section
variable {s:aw}
end
section
variable {X:Cx}
end
end L2
namespace Att
open PySem PySem.W PySem.Calls PyProof.Rows
def yg{P:Params}:∀(c:List Int) (e:List aq),WellAll P h e (c.map WData.int)->Gi e c:=by
 intro c
 induction c with
 |nil=>intro e w;cases w;exact .nil
 |cons n c ih=>
  intro e w;cases w with
  |cons a b=>
   cases a
   exact ź
theorem Kj{l:OpenLaw}{n:Nat}(A:l.most=Y n){P:Params}{h:cy}{args:List WData}{c:List aq}(e:l.row.toRowW.claim.pre args=Z')(o:WellAll P h c args):
  ∃a s b,c=[aQ a]/\args=[WData.list (b.map WData.int)]/\h.get? a=Y { cls :=.type "list",data :=.seq s.toArray }/\Gi s b/\b.length<=n:=by
 have t:l.pre.holds [] _=true:=(pre_splitW e).2;obtain⟨d,r,rfl,J,z⟩:=hasAllW_cons (pre_splitW e).1;obtain rfl:=hasAllW_nil z;obtain⟨xs,rfl,C⟩:=hasW_list J;obtain⟨b,rfl⟩:=items_int C;have f:b.length<=n:=by
  have m:(WTm.not (.lt (.lit (.int n)) (.len (.arg 0)))).holds [] { args:=[.list (b.map .int)] }=true:=by
   have m:=(holds_andW t).1
   simp_all
  have k:=condW_of m (w_not (w_lt w_lit (w_len_list (w_arg rfl))))
  simp_all
 cases o with
 |cons v u=>
  cases u;cases v with|list x g=>exact⟨_,_,b,rfl,rfl,x,yg b _ g,f⟩
def Ks(l:OpenLaw)(args:List WData):l.row.toRowW.claim.post args (.bool Z') args=true:=
 postW_of
  ź
  (w_eq_bool (w_res rfl) w_lit) rfl
def FQ{l:OpenLaw}{n:Nat}{q:aZ}{e:List aE}{R:(aE->Option aq)->cy->Prop}{Q:cC->cy->Prop}{d:DefRec}(hn:l.most=Y n)(F:d.params.defaults=[]) (u:∀(w:cC) (c b:aw) (i C:aE->Option aq) (t:ax) (o:Obj) (A x h:aq) (a:ax) (k:List aq) (v:List Int),
   Ground q e [] R w c i C b.heap->Q w b.heap ->
   b.heap.get? t=Y o->o.data=.func (docDef d.name d.params d.body d.scope A x h)->b.heap.CodeRec x d.name->i d.name=Y (.ref t) ->
   b.heap.get? a=Y { cls :=.type "list",data :=.seq k.toArray }->Gi k v->v.length<=n->b.gens=#[] ->
   m9 (aV l.prog w) LI (.call (.ref t) ⟨[.ref a],[]⟩) (λr s'=>r=.ok (.ret (.bool Z'))/\OldK b.heap s'.heap/\s'.os=b.os/\Bm s'.gens) b) :
  WalkO q e R Q l.row.toRowW d [] (λf k=>PySem.call f k):=by
 intro w c b i C G j t o A x h dV S ho hd H P E hg args K as m y T D hlo;obtain rfl:dV=.none:=Dflts.none P F;obtain rfl:S=.none:=Dflts.noKw P;obtain⟨a,k,v,rfl,trivial,p,g,s⟩:=Kj hn m D;refine enter_call (oW (u w c b i C t o A x h a k v G j ho (fd_plain hd) H E p g s hg) λr s' X =>?_);obtain⟨rfl,z,h3,h4⟩:=X;exact⟨.inl ⟨_,_,[],rfl,λ_=>rfl,.bool _,Ks l _,λ_=>⟨List.Pairwise.nil,λ_ hm=>nomatch hm⟩⟩,z,h3,h4⟩
section
variable {s:aw}{K:aG}
end
end Att
namespace L2
open PySem PySem.Spec PyProof.Rows
def J5{a:List aq}{b:List Int}(h:Gi a b):cb (b.map V.int) a:=by
 induction h with|nil=>exact .nil|cons n t h ih=>solve_by_elim
def O0(H:Hp):Prop:=∀b,H b=M\/∃o xs,H b=Y (.LV o (.lst xs))
def NK{P:aZ}{K:aG}{f:aw}(KX:K.In f.heap)(S:f.heap.Ns aT i)(l:f.heap.Ns builtinsNs mb)(hbb:∀x:aE,x ≠ "__name__" ->mb x=fQ x)(T:f.heap.NoLimit)(hg:f.gens=#[])(ha:f.heap.get? a=Y { cls :=.type "list",data :=.seq A.toArray })(L:Gi A E)(hl:E.length<=a_)(hr:dB k LI)(F:∀base:cy,K.In base->base.Ns aT i->bT P w K i base CX k fa I [x] sp)(C:∀(s:aw) (u:aq),LQ s I ⟨[u],[]⟩ [(x,u)])(hsp:∀H:Hp,O0 H->mY K H a (E.map V.int)->sp [.ref a] H (λv y=>v=.bl Z') λy y y=>False)(hCX:∀H e s',CX [] H f (λy y y=>False) e s'->False):
  m9 (aV P w) LI (.call (.ref fa) ⟨[.ref a],[]⟩) (λr s'=>r=.ok (.ret (.bool Z'))/\OldK f.heap s'.heap/\s'.os=f.os/\Bm s'.gens) f:=by
 have rv:=J5 L;have j:=L.length;have t:∀H:Hp,O0 H->mY K H a (E.map V.int)->mZ P w H f.heap->(∀b,H b≠M->b=a)->(H a≠M->K.lookup a=M) ->
   m9 (aV P w) LI (.call (.ref fa) ⟨[.ref a],[]⟩) (λr s'=>r=.ok (.ret (.bool Z'))/\OldK f.heap s'.heap/\s'.os=f.os/\Bm s'.gens) f:=by
  intro H hO hS R hA hK;have g:∀ {b:ax}{o:Obj},f.heap.get? b=Y o->H b=M->(Hl f.heap H).get? b=Y o:=λe n=>NZ e n
  have noA:∀ {b:ax}{o:Obj}{es:Array DictEntry}{ep:Nat},f.heap.get? b=Y o->o.data=.dict es ep->H b=none:=fun {b o es ep} e d=>by rcases q:H b with _|u<;>grind
  have p:∀ {b:ax}{m:aE->Option aq},f.heap.Ns b m->(Hl f.heap H).Ns b m:=fun {b m} ⟨o,es,ep,e,d,r⟩=>⟨o,es,ep,g e (noA e d),d,r⟩
  have X:=λb o e=>g (KX b o e) Ÿ
  have hM:Mod K i (Hl f.heap H):=⟨X,p S,⟨mb,p l,hbb⟩,let ⟨mc,J,z⟩:=T;⟨mc,p J,z⟩⟩;refine oW ((F _ X (p S)).run LI [] f H ⟨[.ref a],[]⟩ [.ref a] [.ref a] _ _ hr (⟨rfl,hM,λb o e=>Qu e,qt (K3 _ _),trivial,λb l=>absurd (show b∈([]:List ax) from l) Ž,R,.of_eq hg⟩) (C f (.ref a)) (.cons rfl .nil) (hsp H hO hS)) λr s' h =>?_
  cases r with
  |error e=>exact(hCX H e s' h).elim|ok fl=>
   cases fl with
   |ret u=>
    obtain⟨v,H',os,bare,un,Q,r',q⟩:=h;have q':v=.bl true:=q;subst q';obtain rfl:u=uS true:=r';refine⟨rfl,OldK.of_keep λb o e =>?_,os,bare⟩;cases q:H b with
    |none=>exact un.keep b o e q (by intro c;exact absurd (show b∈([]:List ax) from c) Ž) Ž
    |some u=>
     rcases hO b with c|⟨ob,xs,c⟩
     .rw[q]at c;cases c
     .have z2:=un.Bc b ob _ c;obtain⟨e1,_⟩:=R b _ c;obtain⟨e2,_⟩:=Q b _ z2;rw[e]at e1;cases e1;exact e2
   |_=>exact eE h
 cases hk:K.lookup a with
 |some o=>have e:=KX a o hk;rw[ha]at e;cases e;refine t _ (λy =>.inl rfl) (.inr ⟨_,A.toArray,_,hk,rfl,rfl,rfl,by rw[b_,j];exact hl,by simpa using rv⟩) (λb u c=>by cases (c)) (λb c=>absurd rfl c) λc=>absurd rfl c
 |none=>
  refine t (λb=>if b=a then Y _ else M) (λb =>?_) (.inl (.inr ⟨{ cls :=.type "list",data :=.seq A.toArray },if_pos rfl⟩)) (λb u c =>?_) (λb c =>?_) λy=>hk
  .grind
  .by_cases l:b=a
   .cases ((if_pos l).symm.trans c);subst l;exact⟨ha,ż,A,_,rv,ha⟩
   simp_all
  simp_all
def Py{l:PySem.W.OpenLaw}{n k:Nat}{q:aZ}{c:List aE}{R:cC->cy->Prop}{d:DefRec}{K:Params->aG}{CX:cC->S5}{sp:cC->Sp}{x:aE}(X:l.most=Y n)(C:n<=a_)(E:d.params.defaults=[])(T:dB k LI)(hY:∀(w:cC) (h:cy),R w h->(K w.params).In h) (F:∀(w:cC) (i:aE->Option aq) (t:ax) (h:cy),(K w.params).In h->h.Ns aT i->i d.name=Y (.ref t) ->
   ∃I:cX,(∀(s:aw) (u:aq),LQ s I ⟨[u],[]⟩ [(x,u)]) /\
    ∀base:cy,(K w.params).In base->base.Ns aT i->bT l.prog w (K w.params) i base (CX w) k t I [x] (sp w)) (A:∀(w:cC) (H:Hp) (a:ax) (r:List Int),r.length<=n->O0 H->mY (K w.params) H a (r.map V.int)->sp w [.ref a] H (λv z=>v=.bl Z') λz z z=>False) (y:∀(w:cC) (H:Hp) (s:aw) (e:aq) (s':aw),CX w [] H s (λz z z=>False) e s'->False) :
  PySem.W.WalkO q c XP R l.row.toRowW d [] (λf P=>PySem.call f P):=by
 refine Att.FQ X E λw Q m i mb t o pm cd RM a P r G j ho hd ZT D p g b hg =>?_
 have S:=hY w _ j;obtain⟨I,hb,hF⟩:=F w i t _ S G.T.g D;exact NK S G.T.g G.T.b G.T.builtins G.T.nolimit hg p g (bz b C) T hF hb (λH hO hS=>A w H a r b hO hS) λH e s'=>y w H m e s'
def Ma{l:PySem.W.OpenLaw}{n k:Nat}{q:aZ}{b:List aE}{P:(aE->Option aq)->cy->Prop}{t:cC->cy->Prop}{d:DefRec}{K:Params->aG}{CX:S5}{sp:aG->Sp}{x:aE}(D:l.most=Y n)(m:n<=a_)(o:d.params.defaults=[])(C:dB k LI)(E:∀(w:cC) (h:cy),t w h->(K w.params).In h) (F:∀(w:cC) (i:aE->Option aq) (r:ax) (h:cy),(K w.params).In h->h.Ns aT i->i d.name=Y (.ref r) ->
   ∃I:cX,(∀(s:aw) (u:aq),LQ s I ⟨[u],[]⟩ [(x,u)]) /\
    ∀base:cy,(K w.params).In base->base.Ns aT i->bT l.prog w (K w.params) i base CX k r I [x] (sp (K w.params))) (g:∀(K:aG) (H:Hp) (a:ax) (c:List Int),c.length<=n->O0 H->mY K H a (c.map V.int)->sp K [.ref a] H (λv y=>v=.bl Z') λy y y=>False) (p:∀(H:Hp) (s:aw) (e:aq) (s':aw),CX [] H s (λy y y=>False) e s'->False) :
  PySem.W.WalkO q b P t l.row.toRowW d [] (λf A=>PySem.call f A):=
 Py D m o C E F (λw H a c J z j=>g _ H a c J z j) λy H s e s'=>p H s e s'
noncomputable def cF(s:nW)(j:Nat):nW:=match s with
 |.ClassDef _ _ _ a _ _ _ _ _ _ _=>a.getD j (.Pass ⟨0,0,0,0⟩)|_ =>.Pass ⟨0,0,0,0⟩
noncomputable def mL(s:nW):Arguments:=match s with
 |.FunctionDef _ a _ _ _ _ _ _ _ _=>a|_=>{ posonlyargs:=[],args:=[],vararg:=M,kwonlyargs:=[],kw_defaults:=[],kwarg:=M,defaults:=[] }
noncomputable def fx(s:nW):List nW:=match s with
 |.FunctionDef _ _ b _ _ _ _ _ _ _=>b|_=>[]
noncomputable def az(s:nW):Scope:=match s with
 |.FunctionDef _ _ _ _ _ _ a _ _ _=>a|_=>{ kind :=.function,names:=[],isGenerator:=Z_,isCoroutine:=Z_ }
abbrev fX:S5:=λa a a a a a=>False
abbrev E0:XK:=λa a a=>False
def j6{X:Cx}:ql fX X E0:=λa a a a a a a h=>h.elim
structure gH(K:aG)(x qual:aE)(st:nW)(f:ax)(fd:cX):Prop where
 ex:∃(oc:aq) (od:Option ax) (kV RM pm:aq) (an:Option ax) (Ru ct:aq) (ZH:Array (Option aq)),
  fd=fnOf x qual (mL st) (fx st) (az st) .none kV RM pm an Ru ct/\K.lookup f=some ⟨oc,od,.func fd,ZH⟩/\codeIn K Ru qual=true
 kp:pR K (.ref f)=true
section
variable {P:aZ}{K:aG}
theorem gH.ok{st:nW}{f:ax}(F:gH K x c st f I)(S:bu N q (az st))(m:∀g H Q E,sp g H Q E->g.length=q.length) (l:∀(e:aq) (A:fF) (b:List Env) (s:aw) (H:Hp) (g:List V) (Q:VK) (E:XK),dB k (A.deeper (l5 c (az st) s.heap.objs.size f e))->sp g H Q E ->
   ∃t,lX (pI fX P w K i base N c (az st) f e A b s H E).F9 (fx st) t/\t { nx:=λ_ H'=>Q .dW H',rt:=Q } (start N g) H):bT P w K i base fX (k+1) f I q sp:=by
 obtain⟨d,D,R,v,C,X,e,T,r,rfl,lk,p⟩:=F.ex;refine SJ lk p S m λA b s H g Q E u o =>?_
 obtain⟨t,h,a⟩:=l e A b s H g Q E u o;exact⟨t,h.F9,a⟩
def gH.binds{st:nW}{f:ax}(F:gH K x a st f I)(h:∀(k b g:aq) (m:Option ax) (c l:aq) (e:List aq),e.length=q.length->bindArgs (fnOf x a (mL st) (fx st) (az st) .none k b g m c l) ⟨e,[]⟩=dn (q.zip e)):Binds K I q []:=by
 obtain⟨s,r,k,b,g,m,c,l,o,rfl,_⟩:=F.ex;exact .all (h k b g m c l)
def Hn{st:nW}{f:ax}{s:aq}{m:aq}(l:K.lookup f=Y ⟨s,r,.func (fnOf x a (mL st) (fx st) (az st) .none m e h p b o),g⟩)(c:codeIn K b a=Z')(k:pR K (.ref f)=Z'):gH K x a st f (fnOf x a (mL st) (fx st) (az st) .none m e h p b o):=⟨⟨s,r,m,e,h,p,b,o,g,rfl,l,c⟩,k⟩
end
def zU(a:dB k A):A.units+1<qL:=Bk ż a.units
def Ki{n:Nat}(h:n<=1000):n<a_:=Bk h ſ
section
variable {X:Cx}
def pv(i:Nat)(e:autoParam (X.N[i]?=Y x) ŭ)(b:autoParam (V3 X.env.scope x) ű)(c:autoParam ((x==("__debug__" : aE))=false) ū)(a:autoParam ((x==("__classdict__" : aE))=false) ū):PE X (.Name x G) (fB i):=Uq e b c a
end
def Ba{A B:Prop}(h:B):if Z_=Z' then A else B:=by
 simp_all
def vu{A B:Prop}(h:A):if Z'=Z' then A else B:=by
 simp_all
def bf(H H':Hp):Prop:=∀b o,H b=Y o->H' b=Y o
def bf.refl(H:Hp):bf H H:=λa a h=>h
def bf.trans{d:Hp}(a:bf H O)(b:bf O d):bf H d:=λc o h=>b c o (a c o h)
def bf.free(e:bf H H')(h:H' l=Option.none):H l=Option.none:=by
 rcases q:H l with _|o
 .rfl
 rw[e l o q]at h;cases h
def bf.seq{K:aG}{a:ax}(e:bf H H')(h:mY K H a xs):mY K H' a xs:=by
 rcases h with (h|⟨o,h⟩)|h
 .exact ź
 .exact .inl (.inr ⟨o,e _ _ h⟩)
 .exact .inr h
end L2
namespace L2
open PySem
end L2
namespace L2
open PySem PyProof.Rows
def Fo(h:Gi a b):a.length=b.length:=by
 induction h<;>simp_all
section
variable {s:aw}
end
end L2
namespace L2
open PySem PyProof.Rows PySem.Spec
section
variable {R:Pe->aw->Prop}{f:List ax}{P:Nat->aq->Prop}{m:Nat->aw->Prop}
end
section
variable {s:aw}
end
end L2
namespace L2
open PySem PySem.Spec PyProof.Rows
section
variable {P:aZ}
def mZ.Ih(x:mZ P w H h)(f:H a=M)(d:jA P w (dD H a o) h a o):mZ P w (dD H a o) h:=λb u e=>by
 by_cases k:b=a
 .simp_all [aW]
 .rw[aP k]at e;exact(x b u e).xY (λc v c q=>q) (λc q=>by rw[aP (bF q f)];exact q) λc l q=>by rw[aP (bF q f)];exact q
def mZ.Cn(x:mZ P w (dD H a (.lst d)) h)(m:H a=M):mZ P w H h:=λb u e=>by
 have n:=bF e m;have k:∀c v,dD H a (.lst d) c=Y v->v ≠ .lst d->H c=Y v:=λc v q l=>by
  by_cases f:c=a
  .subst f;rw[aW]at q;cases q<;>simp_all
  simp_all [aP]
 exact(x b u (by simp_all [aP])).xY (λc v g q=>q) (λc q=>k c _ q ż) λc i q=>k c _ q ż
end
noncomputable def lobj(g:List aq)(n:Nat):Obj:={ cls :=.type "list",data :=.seq g.toArray n }
section
variable {X:Cx}{s:aw}{D:ax}
def Inv.Ih(I:Inv X (j++[(D,lobj g n)]) t H s)(r:cb i g)(A:i.length<=a_)(E:X.s₀.heap.objs.size<=D)(B:∀p∈X.pn++j,p.1≠D):Inv X j t (dD H D (.lst i)) s:=by
 obtain⟨e,d,C,_⟩:=I.pin (D,lobj g n) Ž;have f:∀b o,X.s₀.heap.get? b=Y o->b≠D:=λb o q z=>by
  have l:=aI q
  lia
 refine⟨I.ok,I.os,I.bare,⟨I.base.keep,I.base.slot,λb o q m x =>?_,I.base.there,λb k q =>?_,λb o u q =>?_,λb w q =>?_⟩,I.loc,I.cell,?_,λx c q =>?_,λp q =>?_,I.eY.Ih d ⟨A,g,n,r,e⟩,I.len⟩
 .rw[aP (f b o q)];exact I.base.free b o q m x
 .have:=I.base.Cq b k q;rw[aP (bF this d)];exact this
 .have:=I.base.Bc b o u q;rw[aP (bF this d)];exact this
 .obtain⟨a,this⟩:=I.base.Cr b w q;exact⟨a,by rw[aP (bF this d)];exact this⟩
 .rw[aP (bE C)];exact I.free
 .have y:c≠D:=λz=>by
   obtain⟨v,L,h,F⟩:=I.cell x c q
   simp_all
  rw[aP y];exact I.mB x c q
 .obtain⟨K,J,G⟩:=I.pin p (by rw[<- b8];exact bJ _ q);exact⟨K,by rw[aP (B p q)];exact J,G⟩
def Inv.Cn(I:Inv X j t (dD H D (.lst i)) s)(h:H D=M)(B:D≠X.env.locals)(C:D∉X.fs):∃g n,cb i g/\i.length<=a_/\Inv X (j++[(D,lobj g n)]) t H s:=by
 obtain⟨A,g,n,r,e⟩:=I.eY D _ aW;have k:∀c v,dD H D (.lst i) c=Y v->v ≠ .lst i->H c=Y v:=λc v q y=>by
  by_cases d:c=D
  .subst d;rw[aW]at q;cases q<;>solve_by_elim
  .rwa [aP d]at q
 have f:∀c,dD H D (.lst i) c=M->H c=none:=λc q=>by grind [aP]
 refine⟨g,n,r,A,I.ok,I.os,I.bare,⟨I.base.keep,I.base.slot,λb o q m x=>f _ (I.base.free b o q m x),I.base.there,λb l q=>k _ _ (I.base.Cq b l q) Ž,λb o u q=>k _ _ (I.base.Bc b o u q) Ž,λb w q =>?_⟩,I.loc,I.cell,f _ I.free,λx c q=>f _ (I.mB x c q),λp q =>?_,I.eY.Cn h,I.len⟩
 .obtain _:=I.base.Cr b w q
  grind
 .rw[<- b8]at q;rcases bG.mp q with q|q
  .obtain⟨G,F,E⟩:=I.pin p q;exact⟨G,f _ F,E⟩
  simp_all [lobj]
end
theorem jc:∀(a:List (aE×uT)) (n:Nat) (F6:List (aE×ax)),fy n a F6=fy n a []++F6
 |[],n,F6=>rfl| (x,k)::r,n,F6=>by
  unfold fy;split
  .rw[jc r _ _,jc r _ [(x,n)],b8];rfl
  .exact jc r n F6
theorem kZ:∀(a:List (aE×uT)) (n:Nat) (b:List (aE×ax)) (x:aE) (c:ax),(x,c)∈fy n a b->(x,c)∈b\/(x,Gg)∈a
 |[],n,b,x,c,h =>.inl h| (y,k)::r,n,b,x,c,h=>by
  unfold fy at h;split at h
  .rcases kZ r _ _ x c h with q|q
   .grind
   .exact .inr (bI _ q)
  .rcases kZ r _ _ x c h with q|q<;>simp_all
noncomputable def nQ(a:List (aE×ax)):List (aE×uT)->List (aE×ax)->List (aE×ax)
 |[],b=>b|(x,k)::r,b=>if k == .free then nQ a r ((x,(a.lookup x).getD 0)::b) else nQ a r b
theorem rY{env:Env}(f:aE×uT->List (aE×ax)->Sem (ForInStep (List (aE×ax))))
  (hf:∀name kind cs,f (name,kind) cs=if kind == .free then (do let a <- cellOf env name;dn (.yield ((name,a)::cs))) else dn (.yield cs)) :
  ∀(names:List (aE×uT)) (F6:List (aE×ax)),(∀y∈names,y.2=.free->∃c,env.cells.lookup y.1=Y c)->(forIn names F6 f:Sem _)=dn (nQ env.cells names F6)
 |[],F6,_=>by solve_by_elim
 | (x,k)::r,F6,h=>by
  rw[List.forIn_cons,hf];unfold nQ;cases hk:k==qE with
  |false=>exact rY f hf r F6 λy hy=>h y ź
  |true=>
   obtain⟨c,e⟩:=h _ aJ ż;have e2:cellOf env x=dn c:=by unfold cellOf;rw[e]
   rw[e2,e];exact rY f hf r _ λy hy=>h y (bI _ hy)
def Bg{env:Env}(h:∀y∈a.names,y.2=.free->∃c,env.cells.lookup y.1=Y c):closureFor a env=dn (nQ env.cells a.names []):=by
 simp only[closureFor];rw[rY _ λname b d=>by simp_all _ [] h];rfl
theorem xc:∀ {a:List (aE×uT)}{d:List (aE×ax)}{x:aE}{c:ax},(x,c)∈nQ b a d->(x,c)∈d\/((x,qE)∈a/\c=(b.lookup x).getD 0)
 |[],d,x,c,h =>.inl h| (y,k)::r,d,x,c,h=>by
  unfold nQ at h;split at h
  .rcases xc h with q|q
   .grind
   simp_all
  .rcases xc h with q|q<;>simp_all
theorem uJ:∀ {b:List (aE×uT)}{a:List (aE×ax)}{x:aE},(∃c,(x,c)∈a)->∃c,(x,c)∈nQ d b a
 |[],a,x,h=>h| (y,k)::r,a,x,⟨c,h⟩=>by
  unfold nQ;split
  .exact uJ ⟨c,bI _ h⟩
  .exact uJ ⟨c,h⟩
theorem xj{cells:List (aE×ax)}:∀ {a:List (aE×uT)}{F6:List (aE×ax)}{x:aE},(x,qE)∈a->∃c,(x,c)∈nQ cells a F6
 | (y,k)::r,F6,x,h=>by
  unfold nQ;rcases br.mp h with e|h
  .simp_all [uJ,aJ]
  .split
   .exact xj h
   .exact xj h
theorem tT:∀ {l:List (aE×a)}{x:aE}{c:a},(x,c)∈l->∃d,l.lookup x=Y d
 | (y,v)::r,x,c,h=>by
  rw[la];cases b:x==y with
  |true=>simp_all|false=>
   rcases br.mp h with e|h
   .simp_all
   .exact tT h
theorem uB:∀ {l r:List (aE×a)}{x:aE},(l++r).lookup x=(l.lookup x).or (r.lookup x)
 |[],r,x=>by simp
 |(y,v)::l,r,x=>by grind
theorem nI{a:Env}:∀ {b:List (aE×uT)}{x:aE},(b.map λ(n,k)=>if (k==qE&&a.scope.kind == .function&&a.kindOf n==Y .cell) then (n,Gg) else (n,k)).lookup x =
  (b.lookup x).map λk=>if (k==qE&&a.scope.kind == .function&&a.kindOf x==Y .cell) then Gg else k
 |[],_=>rfl| (n,k)::r,x=>by
  have ih :=@nI a r x
  grind
def pz{a b:Nat}(h:a<b):a<b:=h
def X9{b:Nat}(h:a<=b):a<=b:=h
def BK{a b:Nat}(h:a=b):a=b:=h
abbrev nR(X:Cx)(f:Scope)(C:ax):Env:=
 { scope:=relabel f X.env,locals:=C,globals:=X.env.globals,cells:=fy (C+1) f.names (nQ X.env.cells f.names []),qual:=X.env.qual,func:=M,code:=X.env.code,frame:=X.env.frame,builtins:=X.env.builtins }
def Cx.uL(X:Cx)(N:List aE)(f:Scope)(C:ax)(s:aw)(H:Hp)(a:List ax):Cx:=
 { X with N:=N,s₀:=s,H₀:=H,env:=nR X f C,outer:=X.stack,stack:=X.stack,ex:=a,fn:=λx=>f.names.lookup x==Y .cell,pn:=[],xe:=λb b=>False }
noncomputable def oO(t:List (Option Nat))(w:St):St:=t.map λo=>match o with|some j=>(w[j]?).getD M|none=>M
structure fY(X:Cx)(N:List aE)(src:List (Option Nat))(scope:Scope):Prop where
 kind:scope.kind=.function
 uniq:∀y∈scope.names,scope.names.lookup y.1=some y.2
 free:∀y∈scope.names,y.2=.free->X.env.scope.names.lookup y.1=some .cell\/X.env.scope.names.lookup y.1=some .free
 len:src.length=N.length
 Yx:∀(i j:Nat) (x:aE),src[i]?=some (some j)->N[i]?=some x->X.N[j]?=some x/\scope.names.lookup x=some .free
section
variable {X:Cx}{s:aw}{f:Scope}
def G_{d:Pu}(l:∀c,(∀b o,s.heap.get? b=Y o->c.get? b=Y o)->c.Ns s.heap.objs.size (λg=>M)->CellsOk c (s.heap.objs.size+1) (fy (s.heap.objs.size+1) f.names []) ->
   Q { scope:=f,locals:=s.heap.objs.size,globals:=X.env.globals,cells:=fy (s.heap.objs.size+1) f.names j,qual:=X.env.qual,func:=M,code:=X.env.code,frame:=X.env.frame,builtins:=X.env.builtins } { s with heap:=c }) :
  be d A (newFunctionEnv f X.env.globals j [] X.env.qual M .none (Y X.env)) Q E s:=by
 refine ah (wpAny_alloc ?_);refine ah (wpAny_layCells _ λname a h=>by simp_all _ _ _ _ ?_);have i:=cellsFrom_ok f.names (s.heap.push { cls :=.type "dict",data :=.dict #[] }) (s.heap.objs.size+1) [] ⟨λg g k=>(nomatch k),List.Pairwise.nil⟩ ż;rw[eO]at i;rw[eO ..];exact ah (aF (aF (l _ (λb o e=>pushCells_keeps _ _ b o (ak _ e)) ((Heap.Ns.new _ _).keeps (pushCells_keeps _ _)) i)))
theorem lW(S:fY X N t f)(i:X.Ok)(h:(nR X f C).cells.lookup x=Y c):
  (f.names.lookup x=Y .cell/\(x,c)∈fy (C+1) f.names [])\/(f.names.lookup x=Y .free/\X.env.cells.lookup x=Y c):=by
 have h:(fy _ _ _).lookup x=Y c:=h;rw[jc,uB]at h;cases e:(fy _ _ []).lookup x with
 |some d=>
  rw[e]at h;have:=by simpa using h
  subst this;have q:=PySem.mem_of_lookup e;rcases kZ _ _ _ _ _ q with z|z
  .simp at z
  .exact .inl ⟨S.uniq _ z,q⟩
 |none=>
  rw[e]at h;rcases xc (PySem.mem_of_lookup h) with z|⟨z,a⟩
  .simp at z
  .obtain⟨d,b⟩:=i.has x (S.free _ z rfl);exact .inr ⟨S.uniq _ z,ż⟩
def Rz(S:fY X N t f)(h:f.names.lookup x=Y .cell):∃c,(nR X f C).cells.lookup x=Y c:=by
 obtain⟨c,e⟩:=An h;refine⟨c,?_⟩;show (fy _ _ _).lookup x=Y c;rw[jc,uB,e];rfl
def FN(S:fY X N t f)(a:X.Ok){C:ax}(h:f.names.lookup x=Y .free):∃c,(nR X f C).cells.lookup x=Y c/\X.env.cells.lookup x=Y c:=by
 obtain⟨d,i⟩:=xj (PySem.mem_of_lookup h);obtain⟨c,j⟩:=tT i;have e:=by
  show (fy (C+1) f.names (nQ X.env.cells f.names [])).lookup x=Y c;rw[jc,uB];rcases e:(fy _ _ []).lookup x with _|d
  .simpa using j
  rcases kZ _ _ _ _ _ (PySem.mem_of_lookup e) with z|z
  .simp at z
  .have:=S.uniq _ z
   simp_all
 rcases lW S a e with _|_
 .simp_all
 simp_all
def FK(x:aE):(nR X f C).kindOf x=(f.names.lookup x).map λk=>if (k==qE&&X.env.scope.kind == .function&&X.env.kindOf x==Y .cell) then Gg else k:=by
 exact nI
def Ea{i:Nat}{v:V}(h:(oO t w)[i]?=Y (Y v)):∃j,t[i]?=Y (Y j)/\w[j]?=Y (Y v):=by
 unfold oO at h;rw[bt]at h;obtain⟨o,e,h⟩:=aj.1 h;rw[e];cases o with
 |none=>cases h|some j=>
  refine⟨j,rfl,?_⟩;have h:=by simpa using h
  rcases q:w[j]? with _|z<;>simp_all
def Lv{ex:List ax}{h':cy}{D C:Nat}{o:Obj}(S:fY X N t f)(I:Inv X B w H g)(J:∀b∈ex,Aw X B H b)(P:∀b∈ex,∃o,g.heap.get? b=Y o)
  (hD:D=g.heap.objs.size) (hC:C=g.heap.objs.size+1) (G:∀b o,g.heap.get? b=Y o->h'.get? b=Y o) (T:h'.get? D=Y o) (R:∀v,o.data ≠ .cell v)
  (Q:h'.Ns C (λ_=>M)) (E:CellsOk h' (C+1) (fy (C+1) f.names [])) :
  Inv (X.uL N f C g H ex) (X.pn++B++[(D,o)]) (oO t w) H { g with heap:=h' }:=by
 have lt:∀ {b:Nat}{o:Obj},g.heap.get? b=Y o->b<g.heap.objs.size:=λe=>aI e
 have fr:∀a:Nat,g.heap.objs.size<=a->H a=none:=λa h=>I.eY.fresh h
 have A:∀(x:aE) (c:Nat),X.env.cells.lookup x=Y c->c<g.heap.objs.size:=λx c e=>by obtain⟨v,z⟩:=I.cell x c e;exact z.lt
 have d:∀ {x:aE}{c:Nat},(x,c)∈fy (C+1) f.names []->C+1<=c:=λq=>(E.empty _ _ q).2
 refine⟨⟨I.mod,S.kind,I.ok.glob,I.ok.blt,?_,?_,?_,?_,I.ok.hd,I.ok.frames,.inl rfl,?_,I.bs,?_,?_,?_,I.stack,I.yq⟩,rfl,I.bare,Un.kept G,⟨_,Q,?_⟩,?_,?_,?_,?_,I.eY.kept G,?_⟩
 .show g.heap.objs.size<=C;lia
 .intro x y c s U;rcases lW S I.ok s with⟨_,a⟩|⟨_,a⟩<;>rcases lW S I.ok U with⟨_,b⟩|⟨_,b⟩
  .exact name_of_addr E.apart a b
  .have:C+1<=(c:Nat):=d a;have:=pz (A _ _ b);lia
  .have:C+1<=(c:Nat):=d b;have:=pz (A _ _ a);lia
  .exact I.ok.inj x y c a b
 .intro x n;have n:(nR X f C).kindOf x=Y .cell\/(nR X f C).kindOf x=Y .free:=n;rw[FK]at n;rcases e:f.names.lookup x with _|k
  .rw[e]at n;rcases n with z|z<;>cases z
  cases k with
  |cell=>exact Rz S e|free=>obtain⟨c,q,_⟩:=FN S I.ok e;exact⟨c,q⟩
  |_=>rw[e]at n;exfalso;revert n;simp
 .intro x c n s;have n:f.names.lookup x=Y .cell:=by have:(f.names.lookup x==Y .cell)=true:=n;simpa using this
  show g.heap.objs.size<=c;rcases lW S I.ok s with⟨_,a⟩|⟨z,_⟩<;>grind
 .intro b F;obtain⟨L,e⟩:=P b F;have l:=pz (lt e);refine⟨λz =>?_,λx c s z =>?_⟩
  .have z:=BK (a:=b) (b:=C) z;lia
  .subst z;rcases lW S I.ok s with⟨_,a⟩|⟨_,a⟩
   .have:C+1<=(c:Nat):=d a;lia
   .exact(J c F).2.2.2.2.1 x c a rfl
 .show X.base.objs.size<=g.heap.objs.size;have:=I.ok.OO;have:=I.sz;lia
 .intro b L e F;rcases(J b F).2.2.2.1 with z|z
  .exact I.ok.KG b L e z
  .have e:X.base.get? b=Y L:=e;have a:=pz (aI e);have:=I.ok.OO;have z:X.s₀.heap.objs.size<=(b:Nat):=z;lia
 .intro b F;intro z;have z:b∈zY X.stack:=z;rcases br.mp (I.ua b z) with q|q
  .exact(J b F).2.1 q
  .exact(J b F).2.2.1 q
 .intro i x v s U h3;obtain⟨j,e1,e2⟩:=Ea U;obtain⟨e3,e4⟩:=S.Yx i j x e1 s;obtain⟨m,hm,hl⟩:=I.loc;have W:=S.free _ (PySem.mem_of_lookup e4) rfl;have K:V3 X.env.scope x :=.inr W;obtain⟨u,r,lk⟩:=hl j x v e3 e2 K;refine⟨u,r,?_⟩;rcases lk with⟨z,_⟩|⟨_,c,ec,cc⟩
  .exfalso;have z:X.env.scope.names.lookup x=Y .local:=z;rw[z]at W;rcases W with q|q<;>cases q
  .obtain⟨c',q1,q2⟩:=FN (C:=C) S I.ok e4;rw[ec]at q2;cases q2;refine .inr ⟨?_,c,q1,cc.keeps G⟩;show (nR X f C).kindOf x=Y .cell\/(nR X f C).kindOf x=Y .free;rw[FK,e4,d9];split<;>grind
 .intro x c s;rcases lW S I.ok s with⟨_,a⟩|⟨_,a⟩
  .exact⟨M,(E.empty _ _ a).1⟩
  .obtain⟨v,z⟩:=I.cell x c a;exact⟨v,z.keeps G⟩
 .exact fr C ž
 .intro x c s;rcases lW S I.ok s with⟨_,a⟩|⟨_,a⟩
  .have:C+1<=(c:Nat):=d a;exact fr c ž
  .exact I.mB x c a
 .intro p O;have O:p∈X.pn++B++[(D,o)]:=by simpa [Cx.uL] using O
  rcases bG.mp O with q|q
  .obtain⟨a1,a2,a3,a4,a5⟩:=I.pin p q;refine⟨G _ _ a1,a2,λz =>?_,λz =>?_,a5⟩
   .have z:=BK (a:=p.1) (b:=C) z;have q:=pz (lt a1);lia
   .have z:p.1∈zY X.stack:=z;rcases br.mp (I.ua _ z) with q|q<;>grind
  .have:p=(D,o):=by simpa using q
   subst this;refine⟨T,fr D ž,λz =>?_,λz =>?_,R⟩
   .have z:D=C:=z;lia
   .have z:D∈zY X.stack:=z;rcases br.mp (I.ua _ z) with q|q
    .have l:=pz I.lt
     simp_all
    .exact I.UM (show g.heap.objs.size<=D by lia) q
 .show (oO t w).length=N.length;unfold oO;rw[aD];exact S.len
end
section
variable {R:Pe->aw->Prop}{s:aw}
theorem Dx{f:Scope}(I:Nat->aw->Prop) (k_:∀n s,I n s->be (aV E w) A (pyNext J) (λr i=>match r with
   |none=>R (.ok .next) i| some v=>be (aV E w) A (RN b J v) (λa g=>be (aV E w) A (assign b d v) (λa p=>
     be (aV E w) A (forIn B Z' λc r=>if r=Z' then do let C <- isTrue c d (eval c d);dn (wh C) else dn (wh r)) (λC e=>
      if C=Z' then be (aV E w) A (eval L d) (λx o=>be (aV E w) A (HX (.builtin "list.append") [z,x]) (λa k=>∃m,m<n/\I m k) (λa a=>False) o) (λa a=>False) e
      else ∃m,m<n/\I m e) (λa a=>False) p) (λa a=>False) g) (λa a=>False) i) (λa a=>False) s) (n:Nat) (h:I n s) :
  m9 (aV E w) A (.compLoop (.ListComp L [⟨b,G,B,0⟩] f U) 0 J z d) R s:=by
 refine codeAny_loop rfl I (λn s K =>?_) n h;refine wpAny_noted ?_;rw[compTurn_list];refine ah (xC (ah (dP (k_ n s K) (λr i t =>?_) λa a j=>j.elim)));cases r with
 |none=>solve_by_elim|some v=>
  refine ah (dP t (λa g y=>ah (dP y (λa p H=>ah (dP H (λC e q =>?_) λa a j=>j.elim)) λa a j=>j.elim)) λa a j=>j.elim);cases C with
  |false=>exact aF ⟨rfl,q⟩|true=>exact ah (ah (dP q (λx o F=>ah (dP F (λa k D=>aF (aF ⟨rfl,D⟩)) λa a j=>j.elim)) λa a j=>j.elim))
end
def Pn(Z:List Nat)(g:TG):Prop:=∀x c H (Q:St->Hp->Prop),g x c H Q->g x c H λb d=>(b.length=c.length/\∀i,i∉Z->b[i]?=c[i]?)/\Q b d
def dX(i:Nat):Pn [i] (om i):=λx c H Q h=>⟨Ÿ,h⟩
def F_(X:Cx)(B:List Expr)(t:TT):Prop:=
 ∀(b:List (ax×Obj)) (s:aw) (d:St) (H:Hp) (Q:Bool->Hp->Prop),Inv X b d H s->t d H Q ->
  be (aV X.prog X.w) X.A (forIn B Z' λc r=>if r=Z' then do let e <- isTrue c X.env (eval c X.env);dn (wh e) else dn (wh r)) (TP X b d Q) X.xe s
def Xa:TT:=λ_ H Q=>Q Z' H
section
variable {X:Cx}
def Qb:F_ X [] Xa:=λb s c H Q I h=>wpAny_tests_nil ⟨H,I,h⟩
def Qa(h:PT X c t):F_ X [c] t:=λb s d H Q I q=>wpAny_tests_one (h b s d H Q I q)
end
def Wn(l:TI)(src:List (Option Nat))(g:TG)(u:TT)(O:TE):TE:=λk H Q=>l k H λJ r=>∃W:Nat->Nat->List V->Hp->Prop,(∃m,W 0 m [] r)/\∀i m e H,W i m e H ->
 (J.stop i H/\∀D,H D=M->Q (.ref D) (dD H D (.lst e))) \/
 (J.go i H/\e.length<a_/\∃j:List V->Hp->Prop,(∀d h,j d h->∃n,n<m/\W (i+1) n d h)/\∀x h,J.Ib i H x h ->
  g x (oO src k) h λc q=>u c q λb o=>if b=Z' then O c o λv p=>j (e++[v]) p else j e o)
section
variable {X:Cx}{f:Scope}
def B7{s:aw}{F:List (ax×Obj)}{RR:aq->ax->Pe->aw->Prop}(S:fY X N src f)(hc:X.calm=Z')(hi:PI X a G l)(ag:Pn Z g)(ho:∀i∈Z,src[i]?=Y M)(E:∀C s H ex,PG (X.uL N f C s H ex) a g/\F_ (X.uL N f C s H ex) B u/\PE (X.uL N f C s H ex) L O)(I:Inv X F σ H s)(h:Wn l src g u O σ H Q) (hRR:∀(D C:ax) (s':aw) (H':Hp),Inv X F σ H' s'->(∃m,s'.heap.Ns C m)->H' C=M->C≠X.env.locals->(C∈X.ex\/X.s₀.heap.objs.size<=C)->(∀x c,X.env.cells.lookup x=Y c->c≠C)->(∀p∈X.pn++F,p.1≠C) ->
   Q (.ref D) H'->RR (.ref D) C (.ok .next) s') :
  be (aV X.prog X.w) X.A (eval G X.env) (λx s₁=>be (aV X.prog X.w) X.A (pyIter x) (λit s₂=>be (aV X.prog X.w) X.A (newList []) (λF6 s₃=>
   be (aV X.prog X.w) X.A (newFunctionEnv f X.env.globals (nQ X.env.cells f.names []) [] X.env.qual M .none (Y X.env)) (λY6 s₄=>
    m9 (aV X.prog X.w) X.A (.compStart (.ListComp L [⟨a,G,B,0⟩] f U) 0 it F6 { Y6 with scope:=relabel f X.env }) (RR F6 Y6.locals) s₄) X.xe s₃) X.xe s₂) X.xe s₁) X.xe s:=by
 refine fo (hi F s σ H _ I h) λv s1 h1=>fo h1 λitv A h2 =>?_
 obtain⟨it,fp,tn,J,H2,e,I2,T,TH,f2,W,⟨m0,w0⟩,k_⟩:=h2;subst e;refine LG ?_;generalize hs3:A.heap.push _=h3;have sz3:h3.objs.size=A.heap.objs.size+1:=by rw[<- hs3,eO]
 have k3:∀b o,A.heap.get? b=Y o->h3.get? b=Y o:=λb o e=>hs3 ▸ ak _ e
 have d3:h3.get? A.heap.objs.size=Y (lobj [] 0):=hs3 ▸ bg _ rfl;refine G_ (X:=X) λh4 k4 ns4 cs4 =>?_
 rw[sz3]at ns4 cs4 ⊢;have k4':=λb o e=>k4 b o (k3 b o e)
 have fob:∀b∈fp,∃o,A.heap.get? b=Y o:=λb E=>by obtain⟨o,e,_⟩:=T.obj _ _ TH b E;exact⟨o,e⟩
 have I4:=Lv (ex:=fp) (h':=h4) (D:=A.heap.objs.size) (C:=A.heap.objs.size+1) (o:=lobj [] 0) S I2 f2 fob rfl rfl k4' (k4 _ _ d3) (λv z=>by cases z) ns4 cs4;have I4:=I4;generalize hX:X.uL N f (A.heap.objs.size+1) A H2 fp=P at I4;obtain⟨pg,pt,pe⟩:=E (A.heap.objs.size+1) A H2 fp;rw[hX]at pg pt pe;have K:P.prog=X.prog:=by rw[<- hX];rfl
 have ew:P.w=X.w:=by rw[<- hX];rfl
 have eK:P.K=X.K:=by rw[<- hX];rfl
 have eA:P.A=X.A:=by rw[<- hX];rfl
 have SO:P.calm=true:=by rw[<- hX];exact hc
 have ZZ:P.xe=λV V=>False:=by rw[<- hX];rfl
 have Od:P.env=nR X f (A.heap.objs.size+1):=by rw[<- hX];rfl
 have VC:P.pn=[]:=by rw[<- hX];rfl
 have Z0:P.s₀=A:=by rw[<- hX];rfl
 have eH0:P.H₀=H2:=by rw[<- hX];rfl
 have eex:P.ex=fp:=by rw[<- hX];rfl
 have efs:P.fs=zY X.stack:=by rw[<- hX];rfl
 have ZW:P.env.locals=A.heap.objs.size+1:=by rw[Od]
 have hDC:A.heap.objs.size≠P.env.locals:=by rw[ZW];exact bH (nY _)
 have hDF:A.heap.objs.size∉P.fs:=by
  rw[efs];intro z;rcases br.mp (I2.ua _ z) with q|q
  .exact absurd (BK q) (gj (pz I2.lt))
  .exact I2.UM (aH _) q
 have hpD:∀p∈P.pn++(X.pn++F),p.1≠A.heap.objs.size:=λp hp=>by rw[VC,dG]at hp;exact bH (pz (aI (I2.pin p hp).1))
 have fpD:∀b∈fp,b≠A.heap.objs.size:=λb E=>by obtain⟨o,e⟩:=fob b E;exact bH (pz (aI e))
 have GB:∀ {P':List (ax×Obj)}{H':Hp},(∀p∈P',p∈X.pn++F\/p.1=A.heap.objs.size)->(∀b∈fp,H' b=M)->∀b∈fp,Aw P P' H' b:=fun {P' H'} hP hn b E=>by
  obtain⟨a1,a2,a3,a4,a5,a6⟩:=f2 b E;obtain⟨o,e⟩:=fob b E;have w:=pz (aI e);refine⟨hn b E,?_,?_,.inl (by rw[eex];exact E),λx c q z =>?_,λp hp z =>?_⟩
  .rw[ZW];exact bH (sU w)
  .rw[efs];intro z;rcases br.mp (I2.ua b z) with q|q
   .exact a2 q
   .exact a3 q
  .subst z;rw[Od]at q;rcases lW S I2.ok q with⟨_,r⟩|⟨_,r⟩
   .have:=X9 (cs4.empty _ _ r).2;lia
   .exact a5 x c r rfl
  .rw[VC,dG]at hp;rcases hP p hp with q|q
   .exact a6 p q z
   .exact fpD b E (z.symm.trans q)
 have Zx:m9 (aV X.prog X.w) X.A (.compLoop (.ListComp L [⟨a,G,B,0⟩] f U) 0 (.ref it) (.ref A.heap.objs.size) (nR X f (A.heap.objs.size+1))) (RR (.ref A.heap.objs.size) (A.heap.objs.size+1)) { A with heap:=h4 }:=by
  refine Dx (λn s'=>∃i ys R nn H',Inv P (X.pn++F++[(A.heap.objs.size,lobj R nn)]) (oO src σ) H' s'/\cb ys R/\ys.length<=a_/\tn i s'.heap/\(∀b∈fp,H' b=M)/\W i n ys H') ?_ m0
   ⟨0,[],[],0,H2,I4,.nil,dk _,T.keep _ _ _ TH (λb V o e=>k4' b o e),λb E=>(f2 b E).1,w0⟩
  refine λn s5 xx=>ae λkk =>?_
  obtain⟨i,ys,R,nn,H5,I5,r5,z5,Wq,WC,w5⟩:=xx;refine kk ?_;have pok:∀p∈X.pn++F++[(A.heap.objs.size,lobj R nn)],p∈X.pn++F\/p.1=A.heap.objs.size:=λp hp=>by
   rcases bG.mp hp with q|q
   .exact .inl q
   .exact .inr ż
  rcases k_ i n ys H5 w5 with⟨stop,qn⟩|⟨go,lt5,Nx,hN,step⟩
  .have d:=T.done P K ew eK SO i _ s5 (oO src σ) H5 (λV V=>False) I5 (GB pok WC) Wq stop;rw[eA]at d;refine fo d λr s6 hr6 =>?_
   obtain⟨hr,I6⟩:=hr6;subst hr;have WT:=I6.Ih r5 z5 (by rw[Z0];exact aH _) hpD;have hD5:H5 A.heap.objs.size=none:=(I6.pin (A.heap.objs.size,lobj R nn) Ž).2.1;have Un6:=WT.base;rw[efs,eex,eH0,Z0]at Un6;have os6:=WT.os;rw[Z0]at os6;have Yo:=WT.eY;rw[K,ew]at Yo;have J6:=I2.Ap os6 Un6 Yo WT.bare λb E=>⟨(f2 b E).2.2.2.1,(f2 b E).2.1,(f2 b E).2.2.2.2.1,(f2 b E).2.2.2.2.2⟩
   obtain⟨m,hm,_⟩:=WT.loc;rw[ZW]at hm;have fC:=WT.free;rw[ZW]at fC;refine hRR _ _ s6 _ J6 ⟨m,hm⟩ fC ?_ (.inr ?_) ?_ ?_ (qn _ hD5)
   .exact λz=>absurd (BK z) (gj (sU (pz I2.lt)))
   .exact sV I2.sz
   .intro x c q z;obtain⟨v,cc⟩:=I2.cell x c q;have:=pz cc.lt;have z:=BK z;lia
   .intro p hp z;have:=pz (aI (I2.pin p hp).1);have z:=BK z;lia
  .have d:=T.item P K ew eK SO i _ s5 (oO src σ) H5 (λV V=>False) I5 (GB pok WC) Wq go;rw[eA]at d;refine fo d λr s6 hr6 =>?_
   obtain⟨t,hr,h6⟩:=hr6;subst hr;refine fo h6 λV s7 h7 =>?_
   obtain⟨x,H7,I7,r7,y7,Xr,fr7⟩:=h7;have I7':=I7.pinned (GB pok fr7) (T.obj _ _ Xr);have g7:=pg _ s7 (oO src σ) H7 x t _ I7' r7 (ag _ _ _ _ (step x H7 y7));rw[eA,ZZ,K,ew,Od]at g7;refine fo g7 λV s8 h8 =>?_
   obtain⟨σ8,H8,I8,⟨l8,a8⟩,q8⟩:=h8;have t8:=pt _ s8 σ8 H8 _ I8 q8;rw[eA,ZZ,K,ew,Od]at t8;refine fo t8 λok s9 h9 =>?_
   obtain⟨H9,I9,q9⟩:=h9;have weak:∀ {P':List (ax×Obj)}{H':Hp}{s':aw},Inv P P' σ8 H' s'->Inv P P' (oO src σ) H' s':=λJ=>J.weak l8.symm λj v hj=>by
    obtain⟨k,e1,_⟩:=Ea hj;have:j∉Z:=λz=>by have:=ho j z;rw[e1]at this;cases this
    rw[a8 j this];exact hj
   cases ok with
   |false=>obtain⟨m',hm',w9⟩:=hN _ _ (q9);refine⟨m',hm',i+1,ys,R,nn,H9,(weak I9).m_,r5,z5,T.keep _ _ _ Xr λb E o e=>(I9.pin (b,o) (aU _ (aU _ (kj E e)))).1,λb E =>?_,w9⟩;obtain⟨o,e,d⟩:=T.obj _ _ Xr b E;exact(I9.pin (b,o) (aU _ (aU _ (kj E e)))).2.1
   |true=>
    have e9:=pe _ s9 σ8 H9 _ I9 (q9);rw[eA,ZZ,K,ew,Od]at e9;refine fo e9 λxv s10 h10 =>?_
    obtain⟨y,WU,I10,r10,q10⟩:=h10;have J10:Inv P (X.pn++F++uh fp s7.heap++[(A.heap.objs.size,lobj R nn)]) σ8 WU s10:=I10.yy λp hp=>by refine I10.pin p ?_;rw[VC,dG];rcases bG.mp hp with q|q<;>grind
    have nD:∀p∈P.pn++(X.pn++F++uh fp s7.heap),p.1≠A.heap.objs.size:=λp hp=>by
     rw[VC,dG]at hp;rcases bG.mp hp with q|q
     .exact hpD p (by rw[VC,dG];exact q)
     .exact fpD _ (BI q).1
    have abD:WU A.heap.objs.size=none:=(J10.pin (A.heap.objs.size,lobj R nn) Ž).2.1;have T10:=J10.Ih r5 z5 (by rw[Z0];exact aH _) nD;have ap:=mW (X:=P) _ s10 σ8 _ (.ref A.heap.objs.size) [y] (.ref A.heap.objs.size) [xv] (λv H'=>v=.dW/\H'=dD (dD WU A.heap.objs.size (.lst ys)) A.heap.objs.size (.lst (ys++[y]))) T10 rfl (.cons r10 .nil) ⟨_,ys,y,rfl,rfl,aW,lt5,rfl,rfl⟩;rw[eA,ZZ,K,ew]at ap;refine fo ap λV s11 h11 =>?_
    obtain⟨v11,H11,I11,_,_,e11⟩:=h11;subst e11;rw[Pz]at I11;obtain⟨NQ,nn',r11,z11,I12⟩:=I11.Cn abD hDC hDF;obtain⟨m',hm',w11⟩:=hN _ _ q10;have I13:Inv P (X.pn++F++[(A.heap.objs.size,lobj NQ nn')]) (oO src σ) WU s11:=(weak I12).yy λp hp=>by
     refine I12.pin p ?_;rw[VC,dG];rcases bG.mp hp with q|q
     .exact bJ _ (bJ _ q)
     .exact aU _ q
    have XO:∀b∈fp,∀o,s7.heap.get? b=Y o->s11.heap.get? b=Y o/\WU b=none:=λb E o e=>by have:=I12.pin (b,o) (by rw[VC,dG];exact bJ _ (aU _ (kj E e)));exact⟨this.1,this.2.1⟩
    refine⟨m',hm',i+1,ys++[y],NQ,nn',WU,I13,r11,z11,T.keep _ _ _ Xr λb E o e=>(XO b E o e).1,λb E =>?_,w11⟩;obtain⟨o,e,d⟩:=T.obj _ _ Xr b E;exact(XO b E o e).2
 exact codeAny_compStart_list Zx (T.self _ 0 _ _ _ (T.keep _ _ _ TH λb V o e=>k4' b o e) Zx)
end
section
variable {X:Cx}{f:List (Option Nat)}
def FP{s:aw}(S:fY X N f c)(I:Inv X a b H s):closureFor c X.env=dn (nQ X.env.cells c.names []):=
 Bg λy d e=>I.ok.has y.1 (S.free y d e)
def M5(S:fY X N f c)(P:X.calm=Z')(O:PI X r l w)(ag:Pn B g)(K:∀i∈B,f[i]?=Y M)(p:∀C s H v,PG (X.uL N c C s H v) r g/\F_ (X.uL N c C s H v) u j/\PE (X.uL N c C s H v) t k)(G:autoParam (∀x,cw l X.env x=dn x) Ū):PE X (.ListComp t [⟨r,l,u,0⟩] c A) (Wn w f g j k):=by
 intro a s z H Q I h;refine wpAny_comprehension_free rfl G (FP S I) S.kind λx F y=>by rw[S.uniq x F,y] ?_
 refine B7 S P O ag K p I h ?_;intro D C E H' J n L R h1 U T q;obtain⟨m,n⟩:=n;exact⟨m,n,λh' d=>⟨.ref D,H',J.turned (λb o p e=>d.extBut b o p e) L R h1 U T,rfl,q⟩⟩
def zh{F:Pos}(S:fY X N f c)(hc:X.calm=Z')(hN:X.N.Nodup)(hy:X.N[i]?=Y y)(K:X.env.scope.names.lookup y=Y .local)(hi:PI X r l w)(ag:Pn B g)(ho:∀i∈B,f[i]?=Y M)(Q:∀C s H T,PG (X.uL N c C s H T) r g/\F_ (X.uL N c C s H T) u j/\PE (X.uL N c C s H T) t k)(U:bU (.ListComp t [⟨r,l,u,0⟩] c A) (Y (.Name y F)) n.line X.env=dn Z')(hs:autoParam (∀x,cw l X.env x=dn x) Ū):
  PS X (.Assign [.Name y F] (.ListComp t [⟨r,l,u,0⟩] c A) n) (Mp (Wn w f g j k) (om i)):=by
 intro p s σ H D I h;rw[exec_Assign_Name_used _ _ _ _ U];refine ah (xC (ah ?_));refine ah (dP (wpAny_comprehension_free (use:=Y (assign (.Name y F) X.env)) (Q:=λV E=>SP X p D .next E) rfl hs (FP S I) S.kind (λx hx K=>by rw[S.uniq x hx,K])
  (B7 S hc hi ag ho Q I h ?_))
  (λV E hq=>aF (aF hq)) λV V e=>e)
 intro d C E H' J P hn hL h1 h2 h3 q;obtain⟨m,P⟩:=P;refine wpAny_assign_Name (Bt J hN hy (.inl K) (v :=.ref d) rfl (λL J' G =>?_) (.inr K));obtain⟨a,sb,ha⟩:=G;have R:C≠a:=by
  rcases ha with z|z
  .rw[z];exact hL
  .exact λe=>h2 _ _ z e.symm
 exact⟨m,P.sameBut sb R,λh' O=>⟨_,H',J'.turned (h':=h') (t':=L.toks) (λb o Q e=>O.extBut b o Q e) hn hL h1 h2 h3,q⟩⟩
end
inductive Sk where
 |lf
 |li (s:Sk)
 |fs (c:aE) (fk:List (aE×Sk))
 |di
 |vl
inductive Pt where
 |fld (f:aE)
 |ix (k:Nat)
abbrev yO:=List Pt
inductive D where
 |dW|bl (b:Bool)|int (i:Int)|str (x:aE)|lst (xs:List D)|tup (xs:List D)|kA (ns:List Int)
 |ins (c:aE) (ks:List aE) (ds:List D)
 |ji (ks:List lO) (ds:List D)
 |obj (s:Sk) (t:D)
 |eQ (r:Nat) (p:yO)
mutual
def cS(K:aG)(G:Hp):D->V->Prop
 |.dW,v=>v=.dW|.bl b,v=>v=.bl b|.int i,v=>v=.int i|.str x,v=>v=.str x|.lst e,v=>∃a d,v=.ref a/\G a=Y (.lst d)/\aY K G e d|.tup e,v=>∃a d,v=.ref a/\G a=Y (.tup d)/\aY K G e d|.kA g,v=>∃a,v=.ref a/\mY K G a (g.map V.int)|.ins c f e,v=>∃a C h d,v=.ref a/\js K aT c=Y (Y (.ref C))/\G a=Y (.ins C h (f.zip d))/\f.length=e.length/\aY K G e d
 |.ji f e,v=>∃a d,v=.ref a/\G a=Y (.dK (f.zip d))/\f.length=e.length/\aY K G e d|.obj _ t,v=>cS K G t v|.eQ _ _,v=>∃a,v=.ref a
def aY(K:aG)(G:Hp):List D->List V->Prop
 |[],a=>a=[]|d::b,a=>∃v r,a=v::r/\cS K G d v/\aY K G b r
end
mutual
theorem cS.mono{K:aG}(s:bf G G'):∀(d:D){v:V},cS K G d v->cS K G' d v
 |.dW,v,h=>by solve_by_elim
 |.bl _,v,h=>by solve_by_elim
 |.int _,v,h=>by solve_by_elim
 |.str _,v,h=>by solve_by_elim
 |.lst f,v,h=>by obtain⟨a,b,e,q,r⟩:=h;exact⟨a,b,e,s _ _ q,aY.mono s f r⟩
 |.tup f,v,h=>by obtain⟨a,b,e,q,r⟩:=h;exact⟨a,b,e,s _ _ q,aY.mono s f r⟩
 |.kA j,v,h=>by obtain⟨a,e,q⟩:=h;exact⟨a,e,s.seq q⟩
 |.ins c g f,v,h=>by obtain⟨a,C,i,b,e,n,q,l,r⟩:=h;exact⟨a,C,i,b,e,n,s _ _ q,l,aY.mono s f r⟩
 |.ji g f,v,h=>by obtain⟨a,b,e,q,l,r⟩:=h;exact⟨a,b,e,s _ _ q,l,aY.mono s f r⟩
 |.obj _ t,v,h=>by simp only[cS]at h ⊢;exact cS.mono s t h
 |.eQ _ _,v,h=>by solve_by_elim
theorem aY.mono{K:aG}(s:bf G G'):∀(b:List D){a:List V},aY K G b a->aY K G' b a
 |[],a,h=>by solve_by_elim
 |d::b,a,h=>by simp only[aY]at h ⊢;obtain⟨v,r,e,q,t⟩:=h;exact⟨v,r,e,cS.mono s d q,aY.mono s b t⟩
end
section
variable {K:aG}
def f_{v:V}:cS K G .dW v↔v=.dW:=by solve_by_elim
def cR{v:V}:cS K G (.bl b) v↔v=.bl b:=by solve_by_elim
def bK{v:V}:cS K G (.int i) v↔v=.int i:=by solve_by_elim
def ij{v:V}:cS K G (.str x) v↔v=.str x:=by solve_by_elim
def bR{v:V}:cS K G (.lst c) v↔∃a b,v=.ref a/\G a=Y (.lst b)/\aY K G c b:=by solve_by_elim
def cL{v:V}:cS K G (.tup c) v↔∃a b,v=.ref a/\G a=Y (.tup b)/\aY K G c b:=by solve_by_elim
def IC{v:V}:cS K G (.kA b) v↔∃a,v=.ref a/\mY K G a (b.map V.int):=by solve_by_elim
def oi{v:V}:cS K G (.ins c b d) v↔∃a C f e,v=.ref a/\js K aT c=Y (Y (.ref C))/\G a=Y (.ins C f (b.zip e))/\b.length=d.length/\aY K G d e:=by solve_by_elim
def CH{v:V}:cS K G (.ji b c) v↔∃a d,v=.ref a/\G a=Y (.dK (b.zip d))/\b.length=c.length/\aY K G c d:=by solve_by_elim
def su{s:Sk}{v:V}:cS K G (.obj s t) v↔cS K G t v:=by solve_by_elim
def yw{v:V}:cS K G (.eQ r p) v↔∃a,v=.ref a:=by solve_by_elim
def cU:aY K G [] a↔a=[]:=by solve_by_elim
def bD:aY K G (d::b) a↔∃v r,a=v::r/\cS K G d v/\aY K G b r:=by solve_by_elim
def aY.cons{d:D}{v:V}(h:cS K G d v)(t:aY K G b a):aY K G (d::b) (v::a):=bD.mpr ⟨v,a,rfl,h,t⟩
def aY.nil:aY K G [] []:=cU.mpr rfl
theorem aY.length:∀ {ds:List D}{a:List V},aY K G ds a->ds.length=a.length
 |[],a,h=>by rw[cU.mp h];rfl
 |d::ds,a,h=>by obtain⟨v,r,rfl,_,t⟩:=bD.mp h;simp[aY.length t]
theorem aY.get:∀ {b:List D}{a:List V}{i:Nat}{d:D},aY K G b a->b[i]?=Y d->∃v,a[i]?=Y v/\cS K G d v
 |[],a,i,d,h,e=>by simp at e
 | c::b,a,0,d,h,e=>by
  obtain⟨v,r,rfl,_⟩:=bD.mp h
  simp_all
 |c::b,a,i+1,d,h,e=>by obtain⟨v,r,rfl,q,t⟩:=bD.mp h;obtain⟨u,g,f⟩:=aY.get t (by simpa using e);exact⟨u,ż,f⟩
theorem aY.append:∀ {e c:List D}{a b:List V},aY K G e a->aY K G c b->aY K G (e++c) (a++b)
 |[],c,a,b,h,k=>by rw[cU.mp h];exact k
 |d::e,c,a,b,h,k=>by obtain⟨v,r,rfl,q,t⟩:=bD.mp h;exact .cons q (aY.append t k)
theorem aY.take:∀ {b:List D}{a:List V}(n:Nat),aY K G b a->aY K G (b.take n) (a.take n)
 |[],a,n,h=>by rw[cU.mp h];simp;exact .nil
 |d::b,a,0,h=>by solve_by_elim
 |d::b,a,n+1,h=>by obtain⟨v,r,rfl,q,t⟩:=bD.mp h;exact .cons q (aY.take n t)
theorem aY.drop:∀ {ds:List D}{a:List V}(n:Nat),aY K G ds a->aY K G (ds.drop n) (a.drop n)
 |[],a,n,h=>by rw[cU.mp h];simp;exact .nil
 |d::ds,a,0,h=>by simpa using h
 |d::ds,a,n+1,h=>by obtain⟨v,r,rfl,q,t⟩:=bD.mp h;exact aY.drop n t
theorem aY.set:∀ {b:List D}{a:List V}{d:D}{v:V}(n:Nat),aY K G b a->cS K G d v->aY K G (b.set n d) (a.set n v)
 |[],a,d,v,n,h,q=>by rw[cU.mp h];exact ź
 |c::b,a,d,v,0,h,q=>by obtain⟨u,r,rfl,_,t⟩:=bD.mp h;exact .cons q t
 |c::b,a,d,v,n+1,h,q=>by obtain⟨u,r,rfl,p,t⟩:=bD.mp h;exact .cons p (aY.set n t q)
def aY.dropLast(h:aY K G b a):aY K G b.dropLast a.dropLast:=by
 rw[xD,xD,h.length];exact h.take _
theorem aY.rep(h:aY K G b a):∀k:Nat,aY K G (aM k b).flatten (aM k a).flatten
 |0 =>.nil|k+1=>by exact h.append (aY.rep h k)
theorem aY.ints:∀(a:List Int),aY K G (a.map D.int) (a.map V.int)
 |[] =>.nil|n::a =>.cons (bK.mpr rfl) (aY.ints a)
end
structure eJ(G H G' H':Hp):Prop where
 hh:bf H H'
 gg:bf G G'
 gh:bf G' H'
 fr:∀b o,G' b=some o->G b=some o\/H b=none
def eJ.refl(s:bf G H):eJ G H G H:=⟨bf.refl _,bf.refl _,s,λa a e =>.inl e⟩
def eJ.trans{f:Hp}(a:eJ G H h f)(b:eJ h f g d):eJ G H g d:=
 ⟨a.hh.trans b.hh,a.gg.trans b.gg,b.gh,λc o e=>by
  rcases b.fr c o e with q|q
  .exact a.fr c o q
  .exact .inr (a.hh.free q)⟩
def bf.alloc{p:ax}{o:HO}(h:H p=M):bf H (dD H p o):=λb u e=>by rw[aP (bF e h)];exact e
def bf.both(s:bf G H):bf (dD G p o) (dD H p o):=λb u e=>by
 by_cases a:b=p
 .simp_all [aW]
 .rw[aP a]at e ⊢;exact s _ _ e
def eJ.alloc{p:ax}{o:HO}(s:bf G H)(h:H p=M):eJ G H (dD G p o) (dD H p o):=
 ⟨.alloc h,.alloc (s.free h),s.both,λb u e=>by grind [aP]⟩
def eJ.lay{p:ax}{o:HO}(s:bf G H)(h:H p=M):eJ G H G (dD H p o):=
 ⟨.alloc h,bf.refl _,s.trans (.alloc h),λa a e =>.inl e⟩
def eJ.freeze(E:eJ G H G' c)(h:H p=M)(g:G' p=M)(e:c p=Y o):eJ G H (dD G' p o) c:=
 ⟨E.hh,E.gg.trans (.alloc g),λb u q=>by
  by_cases a:b=p
  .simp_all [aW]
  .rw[aP a]at q;exact E.gh _ _ q,λb u q=>by
  by_cases a:b=p
  .simp_all
  .rw[aP a]at q;exact E.fr _ _ q⟩
def jo(K:aG)(G:Hp):D->HO->Prop
 |.lst b,o=>∃a,o=.lst a/\aY K G b a|.ins c d b,o=>∃C e a,o=.ins C e (d.zip a)/\js K aT c=Y (Y (.ref C))/\d.length=b.length/\aY K G b a|.ji d b,o=>∃a,o=.dK (d.zip a)/\d.length=b.length/\aY K G b a|_,_=>False
section
variable {K:aG}
def jo.mono(s:bf G G'){d:D}(h:jo K G d o):jo K G' d o:=by
 cases d with
 |lst b=>obtain⟨a,e,r⟩:=h;exact⟨a,e,aY.mono s b r⟩
 |ins c f b=>obtain⟨C,g,a,e,n,l,r⟩:=h;exact⟨C,g,a,e,n,l,aY.mono s b r⟩
 |ji f b=>obtain⟨a,e,l,r⟩:=h;exact⟨a,e,l,aY.mono s b r⟩
 |_=>exact h.elim
def jo.rep{d:D}(h:jo K G d o)(e:G a=Y o):cS K G d (.ref a):=by
 cases d with
 |lst f=>obtain⟨b,rfl,r⟩:=h;exact bR.mpr ⟨a,b,rfl,e,r⟩
 |ins c g f=>obtain⟨C,i,b,rfl,n,l,r⟩:=h;exact oi.mpr ⟨a,C,i,b,rfl,n,e,l,r⟩
 |ji g f=>obtain⟨b,rfl,l,r⟩:=h;exact CH.mpr ⟨a,b,rfl,e,l,r⟩
 |_=>exact h.elim
end
end L2
namespace L2
open PySem
noncomputable def dJ(a:List (aE×Sk))(k:aE):Sk:=(a.lookup k).getD .lf
mutual
inductive cv (K:aG) (G H:Hp):Sk->D->V->List ax->Prop
 |leaf {d:D}{v:V}:cS K G d v->cv K G H .lf d v []
 |lst {s:Sk}{ds:List D}{a:ax}{vs:List V}{S:List ax}:H a=some (.lst vs)->iy K G H (aM ds.length s) ds vs S->cv K G H (.li s) (.lst ds) (.ref a) (a::S)
 | ins {c:aE}{ks:List aE}{fk:List (aE×Sk)}{ds:List D}{a C dx:ax}{vs:List V}{S:List ax}:js K aT c=some (some (.ref C))->H a=some (.ins C dx (ks.zip vs))->ks.length=ds.length ->
   iy K G H (ks.map (dJ fk)) ds vs S->cv K G H (.fs c fk) (.ins c ks ds) (.ref a) (a::S)
 |ji {ks:List lO}{ds:List D}{a:ax}{vs:List V}:H a=some (.dK (ks.zip vs))->ks.length=ds.length->aY K G ds vs->cv K G H .di (.ji ks ds) (.ref a) [a]
 |vl {i j:Int}{t a b:ax}{us ws:List V}{R S:List D}:G t=some (.tup [.int i,.int j,.ref a,.ref b])->H a=some (.lst us)->H b=some (.lst ws)->aY K G R us->aY K G S ws->cv K G H .vl (.tup [.int i,.int j,.lst R,.lst S]) (.ref t) [a,b]
inductive iy (K:aG) (G H:Hp):List Sk->List D->List V->List ax->Prop
 |nil:iy K G H [] [] [] []
 |cons {s:Sk}{ss:List Sk}{d:D}{ds:List D}{v:V}{vs:List V}{S T:List ax}:cv K G H s d v S->iy K G H ss ds vs T->iy K G H (s::ss) (d::ds) (v::vs) (S++T)
end
section
variable {K:aG}{f:Hp}
set_option tactic.hygienic true in
def cv.mono{d:D}{v:V}{S:List ax}(g:bf G f)(h:∀b∈S,∀o,H b=Y o->i b=Y o)(x:cv K G H c d v S):cv K f i c d v S:=by
 induction x using cv.rec (motive_2:=λe j d S m=>(∀b∈S,∀o,H b=Y o->i b=Y o)->iy K f i e j d S) with
 |leaf r=>exact .leaf (cS.mono g _ r)|lst e t j=>exact .lst (h _ aJ _ e) ż
 |ins n e l t j=>exact .ins n (h _ aJ _ e) l ż
 |ji e l t=>exact .ji (h _ aJ _ e) l (aY.mono g _ t)|vl e p q r s=>exact .vl (g _ _ e) (h _ ź _ p) (h _ ź _ q) (aY.mono g _ r) (aY.mono g _ s)
 |nil=>exact .nil|cons a t j k=>rename_i h;exact .cons ż ż
def iy.mono{d:List V}{S:List ax}(g:bf G f)(h:∀b∈S,∀o,H b=Y o->i b=Y o)(x:iy K G H e j d S):iy K f i e j d S:=by
 induction x using iy.rec (motive_1:=λl l l l l=>True) with
 |nil=>exact .nil|cons a t _ k=>exact .cons (cv.mono g (λb c=>h b ż) a) ż
 |_=>trivial
def AZ(H:Hp)(b:ax):Prop:=∃o,H b=Y o/\∀a,o ≠ .tup a
def cv.here{v:V}{S:List ax}(x:cv K G H g d v S):∀b∈S,AZ H b:=by
 induction x using cv.rec (motive_2:=λc c c S c=>∀b∈S,AZ H b) with
 |lst e t j=>exact iY.2 ⟨⟨_,e,nofun⟩,j⟩
 |ins n e l t j=>exact iY.2 ⟨⟨_,e,nofun⟩,j⟩
 |ji e l t=>exact iY.2 ⟨⟨_,e,nofun⟩,nofun⟩
 |cons a t j k=>grind|vl e p q r s=>exact iY.2 ⟨⟨_,p,nofun⟩,iY.2 ⟨⟨_,q,nofun⟩,nofun⟩⟩
 |leaf=>exact nofun
 |nil=>contradiction
def iy.length{ds:List D}{a:List V}{S:List ax}(h:iy K G H ss ds a S):ds.length=a.length/\ss.length=ds.length:=by
 induction ds generalizing ss a S with
 |nil=>cases h;simp_all| cons d ds ih=>cases h with
  |cons _ t=>have:=ih t;simp[this.1,this.2]
noncomputable def i4(G H:Hp)(S:List ax):Hp:=λb=>if b∈S then H b else G b
noncomputable def fG(G:Hp)(S:List ax):Hp:=λb=>if b∈S then M else G b
def gS{S:List ax}(h:b∈S):i4 G H S b=H b:=by simp[i4,h]
theorem iZ{S:List ax}(h:b∉S):i4 G H S b=G b:=by simp[i4,h]
theorem f'{S:List ax}(h:b∈S):fG G S b=none:=by simp[fG,h]
theorem bV{S:List ax}(h:b∉S):fG G S b=G b:=by simp[fG,h]
def kB{S:List ax}(n:∀b∈S,G b=M):bf G (i4 G H S):=λb o e=>by
 grind [iZ]
def i'{S:List ax}(s:bf G H):bf (i4 G H S) H:=λb o e=>by
 by_cases a:b∈S
 .simp_all [gS]
 .rw[iZ a]at e;exact s b o e
set_option tactic.hygienic true in
def cv.frozen{d:D}{v:V}{S:List ax}(n:∀b∈T,G b=M)(a:∀b∈S,b∈T)(x:cv K G H g d v S):cS K (i4 G H T) d v:=by
 induction x using cv.rec (motive_2:=λf g e S f=>(∀b∈S,b∈T)->aY K (i4 G H T) g e) with
 |leaf r=>exact cS.mono (kB n) _ r|lst e t j=>exact bR.mpr ⟨_,_,rfl,by rw[gS (a _ aJ)];exact e,ż⟩
 |ins h e l t j=>exact oi.mpr ⟨_,_,_,_,rfl,h,by rw[gS (a _ aJ)];exact e,l,ż⟩
 |ji e l t=>exact CH.mpr ⟨_,_,rfl,by rw[gS (a _ aJ)];exact e,l,aY.mono (kB n) _ t⟩
 |vl e p q r s=>exact cL.mpr ⟨_,_,rfl,kB n _ _ e,.cons (bK.mpr rfl) (.cons (bK.mpr rfl) (.cons (bR.mpr ⟨_,_,rfl,by simp_all [gS],aY.mono (kB n) _ r⟩) (.cons (bR.mpr ⟨_,_,rfl,by simp_all [gS],aY.mono (kB n) _ s⟩) .nil)))⟩
 |nil=>solve_by_elim|cons a t j k=>rename_i c;exact bD.mpr ⟨_,_,rfl,ż,ż⟩
mutual
def pX:D->Bool
 |.dW=>Z'|.bl _=>Z'|.int _=>Z'|.str _=>Z'|.lst _=>Z_|.tup a=>kP a|.kA _=>Z_|.ins _ _ _=>Z_|.ji _ _=>Z_|.obj _ _=>Z_|.eQ _ _=>Z_
def kP:List D->Bool
 |[]=>Z'|d::a=>pX d&&kP a
end
mutual
theorem ze{S:List ax}{d:D}(n:∀b∈S,∀c,G b≠Y (.tup c)){v:V}(p:pX d=Z')(r:cS K G d v):cS K (fG G S) d v:=by
 cases d with
 |tup h=>
  obtain⟨a,c,rfl,e,q⟩:=cL.mp r;have g:=λz=>n a z c e
  exact cL.mpr ⟨a,c,rfl,by simp_all [bV],mV n (by simpa only [pX] using p) q⟩
 |_=>first|cases p;done|simpa only [cS] using r
theorem mV{S:List ax}{c:List D}(n:∀b∈S,∀a,G b≠Y (.tup a)){a:List V}(p:kP c=Z')(r:aY K G c a):aY K (fG G S) c a:=by
 cases c with
 |nil=>solve_by_elim|cons d c=>obtain⟨v,t,rfl,g,e⟩:=bD.mp r;simp only[kP,aR]at p;exact bD.mpr ⟨v,t,rfl,ze n p.1 g,mV n p.2 e⟩
end
def nN{S:List ax}(s:bf G H)(n:∀b∈S,G b=M)(o:∀b∈S,AZ H b)(E:eJ (i4 G H S) H f i):eJ G H (fG f S) i/\∀b∈S,∀c,f b≠Y (.tup c):=by
 refine⟨⟨E.hh,λb u e =>?_,λb u e =>?_,λb u e =>?_⟩,λb a c z =>?_⟩
 .have a:b∉S:=λz=>by simp_all
  rw[bV a];exact E.gg b u (by simp_all [iZ])
 .by_cases a:b∈S
  .simp_all [f']
  .rw[bV a]at e;exact E.gh b u e
 .by_cases a:b∈S
  .simp_all [f']
  .rw[bV a]at e;rcases E.fr b u e with q|q
   .simp_all [iZ]
   simp_all
 .obtain⟨u,_⟩:=o b a;have:=E.gg b u (by simp_all [gS])
  simp_all
end
noncomputable def Cf(f:aE):List aE->Option Nat
 |[]=>M|k::ks=>if f==k then Y 0 else (Cf f ks).map (· + 1)
theorem Vf{f:aE}:∀ {a:List aE}{n:Nat},Cf f a=Y n->n<a.length
 |[],n,h=>by cases h
 | k::a,n,h=>by
  unfold Cf at h;split at h
  .cases h;simp
  .obtain⟨m,e,h⟩:=aj.1 h;cases h;have:=Vf e;simp;exact ź
set_option tactic.hygienic true in
theorem vx{f:aE}:∀ {a:List aE}{n:Nat},Cf f a=Y n->a[n]?=Y f
 |[],n,h=>by cases h
 | k::a,n,h=>by
  unfold Cf at h;split at h
  .rename_i e;cases h<;>simp_all
  .obtain⟨m,e,h⟩:=aj.1 h;cases h;simpa using vx e
theorem qb{f:aE}:∀ {a:List aE}{n:Nat}{xs:List b},Cf f a=Y n->(a.zip xs).lookup f=xs[n]?
 |[],n,xs,h=>by cases h
 |k::a,n,[],h=>by solve_by_elim
 | k::a,n,x::xs,h=>by
  unfold Cf at h;simp only[ez,la];cases e:f==k with
  |true=>rw[e]at h;simp at h;subst h;solve_by_elim|false=>
   rw[e]at h;rcases e2:Cf f a with _|m
   .simp_all
   rw[e2]at h;simp at h;subst h;simpa using qb e2
noncomputable def jg:yO->D->Option D
 |[],d=>Y d|.fld f::p,.ins _ b a=>(Cf f b).bind λn=>(a[n]?).bind (jg p)
 |.ix k::p,.lst a=>(a[k]?).bind (jg p)|_::_,_=>M
noncomputable def lS(x:D):yO->D->D
 |[],_=>x|.fld f::p,.ins c b a=>match Cf f b with|none =>.ins c b a|some n=>match a[n]? with|none =>.ins c b a|some d =>.ins c b (a.set n (lS x p d))
 |.ix k::p,.lst a=>match a[k]? with|none =>.lst a|some d =>.lst (a.set k (lS x p d))
 |_::_,d=>d
noncomputable def mI:yO->Sk->Option Sk
 |[],s=>Y s|.fld f::p,.fs _ a=>mI p (dJ a f)|.ix _::p,.li s=>mI p s|_::_,_=>M
noncomputable def gc(H:Hp):yO->V->Option V
 |[],v=>Y v|.fld f::p,.ref a=>match H a with|some (.ins _ _ c)=>(c.lookup f).bind (gc H p)|_=>M
 |.ix k::p,.ref a=>match H a with|some (.lst b)=>(b[k]?).bind (gc H p)|_=>M
 |_::_,_=>M
section
variable {K:aG}
theorem iy.at{i:List Sk}{ds:List D}{vs:List V}{S:List ax}(h:iy K G H i ds vs S):∀ {n:Nat}{s:Sk}{d:D},i[n]?=Y s->ds[n]?=Y d->∃v T U,vs[n]?=Y v/\cv K G H s d v T/\S.Perm (T++U) /\
  ∀(G' H':Hp) (j:Sk) (x:D) (u:V) (f:List ax),bf G G'->(∀b∈U,∀o,H b=Y o->H' b=Y o)->cv K G' H' j x u f->∃S',iy K G' H' (i.set n j) (ds.set n x) (vs.set n u) S'/\S'.Perm (f++U):=by
 induction ds generalizing i vs S with
 |nil=>intro n s d _ e;simp at e
 |cons c ds ih=>
  intro n s d es e;cases h with
  |@cons C i _ _ v vs S1 p a t=>
   cases n with
   |zero=>simp at e es;subst e;subst es;exact⟨v,S1,p,rfl,a,.rfl,λG' H' j x u f g k l=>⟨f++p,.cons l (t.mono g k),.rfl⟩⟩
   |succ n=>
    refine ae λkk =>?_
    obtain⟨w,T,U,B,z,r,A⟩:=ih t es e;refine kk (⟨w,T,S1++U,by simpa using B,z,?_,λG' H' j x u f g k l =>?_⟩)
    .exact((r.append_left S1).trans (cj S1 T U))
    .obtain⟨S',y,q⟩:=A G' H' j x u f g (λb m=>k b (aU _ m)) l;exact⟨S1++S',.cons (a.mono g λb m=>k b (bJ _ m)) y,(q.append_left S1).trans (cj S1 f U)⟩
theorem fS{a:Type}:∀ {l:List a}{n:Nat}{x:a},l[n]?=Y x->l.set n x=l
 |[],n,x,h=>by simp at h
 |y::l,0,x,h=>by simp_all
 |y::l,n+1,x,h=>by simp at h;simp[fS h]
theorem cv.focus:∀ {p:yO}{P k:Sk}{d O:D}{v:V}{S:List ax},cv K G H P d v S->mI p P=Y k->jg p d=Y O->∃v' T U,gc H p v=Y v'/\cv K G H k O v' T/\S.Perm (T++U) /\
  ∀(J I:Hp) (x:D) (w:List ax),bf G J->(∀b∈U,∀o,H b=Y o->I b=Y o)->cv K J I k x v' w->gc I p v=Y v'/\∃S',cv K J I P (lS x p d) v S'/\S'.Perm (w++U)
 |[],P,k,d,O,v,S,h,u,z=>by cases u;cases z;exact⟨v,S,[],rfl,h,Ž,λJ I x w g r ox=>⟨rfl,w,ox,Ž⟩⟩
 | .fld f::p,P,k,d,O,v,S,h,u,z=>by
  cases h with
  |@ins c ks fk L a C dx vs S n e l t=>
   have u:mI p (dJ fk f)=Y k:=u;have z:=z;obtain⟨m,ei,z⟩:=aa.1 z;have A:(ks.map (dJ fk))[m]?=Y (dJ fk f):=by rw[bt,vx ei];rfl
   generalize dJ fk f=s1 at u A
   .obtain⟨d1,B,z⟩:=aa.1 z;obtain⟨v1,T1,i,X,o1,p1,k1⟩:=t.at A B;obtain⟨Q,F,j,q2,o2,p2,k2⟩:=cv.focus o1 u z;have hv:gc H (.fld f::p) (.ref a)=Y Q:=by simp only[gc,e];rw[qb ei,X];exact q2
    refine⟨Q,F,j++(a::i),hv,o2,?_,λJ I y w g r oy =>?_⟩
    .have:=(p1.trans (p2.append_right i)).cons a;refine this.trans ?_;have q:(a::(F++j++i)).Perm ((F++j)++(a::i)):=by simpa using cj [a] (F++j) i
     exact q.trans (wg Ž)
    .obtain⟨gv,S1,o3,p3⟩:=k2 J I y w g (λb N=>r b (bJ _ N)) oy;obtain⟨S2,R,p4⟩:=k1 J I s1 _ v1 S1 g (λb N=>r b (aU _ (bI _ N))) o3;rw[fS A,fS X]at R;refine⟨by simp only[gc,r a (aU _ aJ) _ e];rw[qb ei,X];exact gv,a::S2,?_,?_⟩
     .have E:lS y (.fld f::p) (.ins c ks L)=.ins c ks (L.set m (lS y p d1)):=by simp only[lS,ei,B]
      rw[E];exact .ins n (r a (aU _ aJ) _ e) ż R
     .have:=(p4.trans (p3.append_right i)).cons a;refine this.trans ?_;have q:(a::(w++j++i)).Perm ((w++j)++(a::i)):=by simpa using cj [a] (w++j) i
      exact q.trans (wg Ž)
  |_=>cases u
 | .ix m::p,P,k,d,O,v,S,h,u,z=>by
  cases h with
  |@lst s L a vs S e t=>
   have z:(L[m]?).bind (jg p)=Y O:=z;obtain⟨d1,B,z⟩:=aa.1 z;have hm:m<L.length:=(au.mp B).1;have A:(aM L.length s)[m]?=Y s:=by simp[hm]
   obtain⟨v1,T1,i,X,o1,p1,k1⟩:=t.at A B;obtain⟨Q,F,j,q2,o2,p2,k2⟩:=cv.focus o1 (u) z;have hv:gc H (.ix m::p) (.ref a)=Y Q:=by simp_all [gc]
   refine⟨Q,F,j++(a::i),hv,o2,?_,λJ I y w g r oy =>?_⟩
   .refine((p1.trans (p2.append_right i)).cons a).trans ?_;have q:(a::(F++j++i)).Perm ((F++j)++(a::i)):=by simpa using cj [a] (F++j) i
    exact q.trans (wg Ž)
   .obtain⟨gv,S1,o3,p3⟩:=k2 J I y w g (λb N=>r b (bJ _ N)) oy;obtain⟨S2,R,p4⟩:=k1 J I s (lS y p d1) v1 S1 g (λb N=>r b (aU _ (bI _ N))) o3;rw[fS A,fS X]at R;refine⟨by simp only[gc,r a (aU _ aJ) _ e];rw[X];exact gv,a::S2,?_,?_⟩
    .have E:lS y (.ix m::p) (.lst L)=.lst (L.set m (lS y p d1)):=by simp only[lS,B]
     rw[E];exact .lst (r a (aU _ aJ) _ e) ż
    .refine((p4.trans (p3.append_right i)).cons a).trans ?_;have q:(a::(w++j++i)).Perm ((w++j)++(a::i)):=by simpa using cj [a] (w++j) i
     exact q.trans (wg Ž)
  |_=>cases u
theorem ja(s:bf H H'):∀ {p:yO}{v b:V},gc H p v=Y b->gc H' p v=Y b
 |[],v,b,h=>h| .fld f::p,.ref a,b,h=>by
  simp only[gc]at h ⊢;rcases e:H a with _|o
  .rw[e]at h;cases h
  rw[e]at h;rw[s _ _ e];cases o<;>simp only at h ⊢<;>try (cases h)
  obtain⟨u,e2,h⟩:=aa.1 h;rw[e2];exact ja s h
 | .ix k::p,.ref a,b,h=>by
  simp only[gc]at h ⊢;rcases e:H a with _|o
  .simp_all
  rw[e]at h;rw[s _ _ e];cases o<;>simp only at h ⊢<;>try (cases h)
  obtain⟨u,e2,h⟩:=aa.1 h;rw[e2];exact ja s h
 |.fld f::p,.dW,b,h=>by cases h
 |.fld f::p,.bl _,b,h=>by cases h
 |.fld f::p,.int _,b,h=>by cases h
 |.fld f::p,.str _,b,h=>by cases h
 |.fld f::p,.Ry _,b,h=>by cases h
 |.fld f::p,.Pm _,b,h=>by cases h
 |.fld f::p,.ty _,b,h=>by cases h
 |.ix f::p,.dW,b,h=>by cases h
 |.ix f::p,.bl _,b,h=>by cases h
 |.ix f::p,.int _,b,h=>by cases h
 |.ix f::p,.str _,b,h=>by cases h
 |.ix f::p,.Ry _,b,h=>by cases h
 |.ix f::p,.Pm _,b,h=>by cases h
 |.ix f::p,.ty _,b,h=>by cases h
theorem zd(s:bf G H):∀ {p:yO}{d g:D}{v:V},cS K G d v->jg p d=Y g->∃y,gc H p v=Y y/\cS K G g y
 |[],d,g,v,r,e=>by cases e;exact⟨v,rfl,r⟩
 | .fld f::p,d,g,v,r,e=>by
  cases d with
  |ins c A x=>
   refine ae λkk =>?_
   obtain⟨a,C,F,z,rfl,n,j,l,i⟩:=oi.mp r;obtain⟨m,B,e⟩:=aa.1 e;obtain⟨E,t,e⟩:=aa.1 e;obtain⟨u,q,h⟩:=i.get t;obtain⟨w,o,b⟩:=zd s h e;refine kk (⟨w,?_,b⟩);simp only[gc,s _ _ j];rw[qb B,q];exact o
  |_=>cases e
 | .ix k::p,d,g,v,r,e=>by
  cases d with
  |lst x=>
   obtain⟨a,z,rfl,j,i⟩:=bR.mp r;obtain⟨E,t,e⟩:=aa.1 e;obtain⟨u,q,h⟩:=i.get t;obtain _:=zd s h e;simp only[gc,s _ _ j]
   simp_all
  |_=>cases e
theorem yR{f:aE}:∀ {ks:List aE}{vs:List V}{u:V},(ks.zip vs).lookup f=Y u->∃m,Cf f ks=Y m/\vs[m]?=Y u
 |[],vs,u,h=>by simp at h
 |k::ks,[],u,h=>by simp at h
 | k::ks,v::vs,u,h=>by
  simp only[ez,la]at h;cases e:f==k with
  |true=>rw[e]at h;cases h;exact⟨0,by simp[Cf,e],rfl⟩
  |false=>
   rw[e]at h;obtain⟨m,b,a⟩:=yR h
   simp_all [Cf]
theorem cv.C7:∀ {p:yO}{y i:Sk}{d:D}{v x:V}{S:List ax},cv K G H y d v S->mI p y=Y i->(∀b∈S,∀o,H b=Y o->H' b=Y o)->gc H p v=Y x->gc H' p v=Y x
 |[],y,i,d,v,x,S,h,g,k,e=>e| .fld f::p,y,i,d,v,x,S,h,g,k,e=>by
  cases h with
  |@ins c N r E a C X F S n z l t=>
   simp only[gc,z]at e;simp only[gc,k a aJ _ z];obtain⟨u,j,e⟩:=aa.1 e;rw[j];obtain⟨m,R,O⟩:=yR j;have w:(N.map (dJ r))[m]?=Y (dJ r f):=by rw[bt,vx R];exact ź
   have B:m<E.length:=by rw[t.length.1];exact(au.mp O).1
   obtain⟨P,U,T,A,J,I,Q⟩:=t.at w (bp B);rw[O]at A;cases A;exact cv.C7 J g (λb L o q=>k b (bI _ (I.symm.subset (bJ _ L))) o q) e
  |_=>cases g
 | .ix m::p,y,i,d,v,x,S,h,g,k,e=>by
  cases h with
  |@lst s E a F S z t=>
   simp only[gc,z]at e;simp only[gc,k a aJ _ z];obtain⟨u,j,e⟩:=aa.1 e;rw[j];have B:m<E.length:=by rw[t.length.1];exact(au.mp j).1
   have w:(aM E.length s)[m]?=Y s:=by simp[B]
   obtain⟨P,U,T,A,J,I,Q⟩:=t.at w (bp B);rw[j]at A;cases A;exact cv.C7 J g (λb L o q=>k b (bI _ (I.symm.subset (bJ _ L))) o q) e
  |_=>cases g
noncomputable def z0:yO->List aE
 |[]=>[]|.fld f::p=>f::z0 p|.ix _::p=>z0 p
set_option tactic.hygienic true in
theorem vy{s m:List (aE×V)}(j:H x=Y (.ins C A s))(i:H' x=Y (.ins B t m))(l:∀b,b≠x->∀o,H b=Y o->H' b=Y o):∀ {p:yO}{v d:V},(∀g∈z0 p,m.lookup g=s.lookup g)->gc H p v=Y d->gc H' p v=Y d
 |[],v,d,c,h=>h| .fld g::p,.ref a,d,c,h=>by
  simp only[gc]at h ⊢;by_cases n:a=x
  .subst n;rw[j]at h;rw[i];simp only at h ⊢;rw[c g (by simp[z0])];obtain⟨u,e2,h⟩:=aa.1 h;rw[e2];exact vy j i l (p:=p) (λg q=>c g (by simp[z0,q])) h
  .rcases e:H a with _|o
   .rw[e]at h;cases h
   rw[e]at h;rw[l a n _ e];cases o<;>simp only at h ⊢<;>try (cases h;done)
   rename_i D y r;obtain⟨u,e2,h⟩:=aa.1 h;rw[e2];exact vy j i l (p:=p) (λg q=>c g (by simp[z0,q])) h
 | .ix k::p,.ref a,d,c,h=>by
  simp only[gc]at h ⊢;rcases e:H a with _|o
  .simp_all
  rw[e]at h;cases o<;>simp only at h<;>try (cases h;done)
  rename_i w;have n:a≠x:=λz=>by simp_all
  rw[l a n _ e];simp only;obtain⟨u,e2,h⟩:=aa.1 h;rw[e2];exact vy j i l (p:=p) c h
 |.fld f::p,.dW,d,c,h=>by cases h
 |.fld f::p,.bl _,d,c,h=>by cases h
 |.fld f::p,.int _,d,c,h=>by cases h
 |.fld f::p,.str _,d,c,h=>by cases h
 |.fld f::p,.Ry _,d,c,h=>by cases h
 |.fld f::p,.Pm _,d,c,h=>by cases h
 |.fld f::p,.ty _,d,c,h=>by cases h
 |.ix f::p,.dW,d,c,h=>by cases h
 |.ix f::p,.bl _,d,c,h=>by cases h
 |.ix f::p,.int _,d,c,h=>by cases h
 |.ix f::p,.str _,d,c,h=>by cases h
 |.ix f::p,.Ry _,d,c,h=>by cases h
 |.ix f::p,.Pm _,d,c,h=>by cases h
 |.ix f::p,.ty _,d,c,h=>by cases h
def cv.root{s:Sk}{v:V}{S:List ax}(h:cv K G H s t v S)(b:s ≠ .lf)(c:s ≠ .vl):∃a o,v=.ref a/\H a=Y o/\a∈S:=by
 cases h<;>simp_all
def cv.isRef{s:Sk}{v:V}{S:List ax}(h:cv K G H s t v S)(b:s ≠ .lf):∃a,v=.ref a:=by
 cases h<;>first|trivial|solve_by_elim
noncomputable def jF(f:aE)(d:D):List aE->List D->List aE×List D
 |k::a,x::b=>if k=f then (k::a,d::b) else (k::(jF f d a b).1,x::(jF f d a b).2)
 |_,_=>([f],[d])
theorem Ew{f:aE}{v:V}{m:List ax}(s:cv K G H (dJ j f) d v m):∀ {b:List aE}{c:List D}{i:List V}{S:List ax},b.length=c.length->iy K G H (b.map (dJ j)) c i S ->
  ∃g o R,lT f v (b.zip i)=(jF f d b c).1.zip g/\(jF f d b c).1.length=(jF f d b c).2.length/\iy K G H ((jF f d b c).1.map (dJ j)) (jF f d b c).2 g o/\o.Perm (m++R)/\R.Sublist S
 |[],[],i,S,h,r=>by cases r;exact⟨[v],_,[],rfl,rfl,.cons s .nil,.rfl,.slnil⟩
 |[],x::c,i,S,h,r=>by simp at h
 |k::b,[],i,S,h,r=>by simp at h
 | k::b,x::c,i,S,h,r=>by
  cases r with
  |@cons _ _ _ _ u n T U a t=>
   simp at h;unfold jF;rw[show lT f v _=if k=f then (k,v)::b.zip n else (k,u)::lT f v _ from rfl];by_cases w:k=f
   .subst w;rw[if_pos rfl,if_pos rfl];exact⟨_,_,U,rfl,by simp[h],.cons s t,.rfl,List.sublist_append_right T U⟩
   .rw[if_neg w,if_neg w];refine ae λkk =>?_
    obtain⟨g,o,R,e,l,q,p,z⟩:=Ew s h t;exact kk (⟨_,_,_,ź,by simp[l],.cons a q,(p.append_left T).trans (cj T m R),z.append_left T⟩)
theorem cv.put{p:yO}{s:Sk}{v:V}{S1:List ax}{f:aE}{d:D}{u:V}(h:cv K G H s t v T)(nd:T.Nodup)(es:mI p s=Y (.fs c L))(ep:jg p t=Y (.ins c j A))(g:bf G G')(k:∀b∈T,∀o,H b=Y o->B b=Y o)(ov:cv K G' B (dJ L f) d u S1)(X:S1.Nodup)(dj:∀b∈S1,b∉T):
  ∃x C y r,gc H p v=Y (.ref x)/\x∈T/\js K aT c=Y (Y (.ref C))/\H x=Y (.ins C y (j.zip r))/\j.length=A.length/\j.length=r.length /\
   ∃F,cv K G' (dD B x (.ins C y (lT f u (j.zip r)))) s (lS (.ins c (jF f d j A).1 (jF f d j A).2) p t) v F/\F.Nodup/\∀b∈F,b∈T\/b∈S1:=by
 obtain⟨v',T1,U,e1,o1,E,k1⟩:=h.focus es ep;cases o1 with
 |@ins _ _ _ _ x C y r J n ex l tt=>
  have m:(x::J++U).Nodup:=E.nodup_iff.mp nd;have hxS:x∉J:=λz=>by simp at m;exact m.1.1 z
  have hxU:x∉U:=λz=>by simp at m;exact m.1.2 z
  have O:x∈T:=E.symm.subset Ž;have I:∀b∈J,b∈T:=λb i=>E.symm.subset (by simp[i])
  have UT:∀b∈U,b∈T:=λb i=>E.symm.subset (by simp[i])
  have x1:x∉S1:=λz=>dj x z O
  refine⟨x,C,y,r,e1,O,n,ex,l,by rw[l,tt.length.1],?_⟩;have Q:=tt.mono g λb i o e=>k b (I b i) o e
  obtain⟨P,S',R,z1,z2,z3,N,W⟩:=Ew ov l Q;have hx':∀b∈S',b≠x:=λb i z=>by
   subst z;rcases bG.mp (N.subset i) with q|q
   .exact x1 q
   .exact hxS (W.subset q)
  have oo:cv K G' (dD B x (.ins C y (lT f u (j.zip r)))) (.fs c L) _ (.ref x) (x::S'):=
   .ins (dx:=y) (vs:=P) n (by rw[aW,z1]) z2 (z3.mono (bf.refl _) λb i o e=>by rw[aP (hx' b i)];exact e)
  obtain⟨_,F,o2,p2⟩:=k1 G' _ _ _ g (λb i o e=>by have ZV:b≠x:=λz=>hxU (z ▸ i);rw[aP ZV];exact k b (UT b i) o e) oo;refine⟨F,o2,?_,λb i =>?_⟩
  .rw[p2.nodup_iff];rw[(((N.cons x).append_right U)).nodup_iff];have w:(x::R++U).Sublist (x::J++U):=(W.cons_cons x).append_right U;have S:(x::R++U).Nodup:=m.sublist w;have:(x::(S1++R)++U).Perm (S1++(x::R++U)):=by simpa [b8] using cj [x] S1 (R++U)
   rw[this.nodup_iff,iX];refine⟨X,S,λa ha b i z =>?_⟩;subst z;exact dj a ha (E.symm.subset (w.subset i))
  .rcases bG.mp (p2.subset i) with q|q<;>grind
def iy.append{f:List D}{S:List ax}(h:iy K G H i f g S)(k:iy K G H c e b j):iy K G H (i++c) (f++e) (g++b) (S++j):=by
 induction f generalizing i g S with
 |nil=>cases h;exact k| cons d f ih=>cases h with
  |cons a t=>rw[b8];exact ź
theorem cv.app{p:yO}{s:Sk}{v:V}{S1:List ax}{d:D}{u:V}{m:Hp}(h:cv K G H s t v T)(nd:T.Nodup)(es:mI p s=Y (.li n))(ep:jg p t=Y (.lst l))(g:bf G G')(k:∀b∈T,∀o,H b=Y o->m b=Y o)(R:cv K G' m n d u S1)(C:S1.Nodup)(O:∀b∈S1,b∉T):
  ∃x j,gc H p v=Y (.ref x)/\x∈T/\H x=Y (.lst j)/\l.length=j.length /\
   ∃w,cv K G' (dD m x (.lst (j++[u]))) s (lS (.lst (l++[d])) p t) v w/\w.Nodup/\∀b∈w,b∈T\/b∈S1:=by
 obtain⟨v',T1,U,e1,o1,r,k1⟩:=h.focus es ep;cases o1 with
 |@lst _ _ x j i ex L=>
  have f:(x::i++U).Nodup:=r.nodup_iff.mp nd;have F:x∉i:=λz=>by simp at f;exact f.1.1 z
  have E:x∉U:=λz=>by simp at f;exact f.1.2 z
  have A:x∈T:=r.symm.subset Ž;have y:∀b∈i,b∈T:=λb c=>r.symm.subset (by simp[c])
  have P:∀b∈U,b∈T:=λb c=>r.symm.subset (by simp[c])
  have Q:x∉S1:=λz=>O x z A
  refine⟨x,j,e1,A,ex,L.length.1,?_⟩;have B:iy K G' m (aM (l++[d]).length n) (l++[d]) (j++[u]) (i++(S1++[])):=by rw[bB,il,Wa];exact(L.mono g λb c o e=>k b (y b c) o e).append (.cons R .nil)
  rw[bL]at B;have I:∀b∈i++S1,b≠x:=λb c z=>by subst z;rcases bG.mp c with q|q<;>grind
  have S:cv K G' (dD m x (.lst (j++[u]))) (.li n) (.lst (l++[d])) (.ref x) (x::(i++S1)):=
   .lst aW (B.mono (bf.refl _) λb c o e=>by rw[aP (I b c)];exact e)
  obtain⟨_,w,X,N⟩:=k1 G' (dD m x (.lst (j++[u]))) _ _ g (λb c o e=>by have J:b≠x:=λz=>E (z ▸ c);rw[aP J];exact k b (P b c) o e) S;refine⟨w,X,?_,λb c =>?_⟩
  .rw[N.nodup_iff];have:(x::(i++S1)++U).Perm (S1++(x::i++U)):=by simpa [b8] using cj (x::i) S1 U
   rw[this.nodup_iff,iX];refine⟨C,f,λa ha b c z =>?_⟩;subst z;exact O a ha (r.symm.subset c)
  grind
def iy.last{f:List D}{S:List ax}(h:iy K G H (b++[k]) (f++[d]) e S)(l:b.length=f.length):∃g u j i,e=g++[u]/\S=j++i/\iy K G H b f g j/\cv K G H k d u i:=by
 induction f generalizing b e S with
 |nil=>
  cases b with
  | nil=>cases h with
   |@cons _ _ _ _ v e S T a t=>cases t;exact⟨[],v,[],S,rfl,Ž,.nil,a⟩
  |cons=>simp at l
 |cons c f ih=>
  cases b with
  |nil=>simp at l|cons m b=>
   cases h with
   |@cons _ _ _ _ v e S T a t=>obtain⟨g,u,j,i,rfl,rfl,o,n⟩:=ih t ż;exact⟨_,u,_,i,rfl,by rw[b8],.cons a o,n⟩
theorem cv.aaO{p:yO}{s:Sk}{v:V}(h:cv K G H s t v T)(J:T.Nodup)(N:mI p s=Y (.li l))(O:jg p t=Y (.lst (j++[d]))):
  ∃x f u,gc H p v=Y (.ref x)/\x∈T/\H x=Y (.lst (f++[u]))/\j.length=f.length /\
   ∃k g,cv K G (dD H x (.lst f)) s (lS (.lst j) p t) v k/\cv K G (dD H x (.lst f)) l d u g/\(k++g).Perm T:=by
 obtain⟨R,S,U,P,I,m,L⟩:=h.focus N O;cases I with
 |@lst _ _ x Q X c w=>
  rw[bB,il,Wa]at w;obtain⟨f,u,A,g,rfl,rfl,y,B⟩:=w.last Ž;have a:=m.nodup_iff.mp J;refine⟨x,f,u,P,m.symm.subset Ž,c,y.length.1,?_⟩;have E:cv K G _ _ _ _ _:=
   .lst aW (y.mono (bf.refl _) λb i o e=>by rw[aP (λz=>(λz=>by simp at a;exact a.1.1 z) (z ▸ i))];exact e)
  obtain⟨_,k,F,C⟩:=L G _ _ _ (bf.refl _) λb i o e=>by grind [aP] E
  refine⟨k,g,F,B.mono (bf.refl _) λb i o e=>by grind [aP],?_⟩
  grind
def zj{f:List aE}{S:List ax}:cv K G H (.fs c []) (.ins c f b) (.ref x) S↔(∃o,H x=Y o/\jo K G (.ins c f b) o)/\S=[x]:=by
 have p:∀ {f:List aE}{b:List D}{g:List V}{S:List _},iy K G H (f.map (dJ [])) b g S->aY K G b g/\S=[]:=by
  intro f
  induction f with
  |nil=>intro b g S h;cases h;exact ź
  |cons k f ih=>
   intro b g S h;cases h with
   |cons a t=>
    cases a with
    |leaf r=>obtain⟨m,rfl⟩:=ih t;exact⟨.cons r m,rfl⟩
 have i:∀ {f:List aE}{b:List D}{g:List V},f.length=b.length->aY K G b g->iy K G H (f.map (dJ [])) b g []:=by
  intro f
  induction f with
  |nil=>
   intro b g j r;cases b with
   |nil=>rw[cU.mp r];exact .nil|cons=>simp at j
  |cons k f ih=>
   intro b g j r;cases b with
   |nil=>simp at j|cons d b=>obtain⟨v,u,rfl,s,q⟩:=bD.mp r;exact .cons (.leaf s) ż
 constructor
 .intro h;cases h with
  |ins n e l t=>obtain⟨m,rfl⟩:=p t;exact⟨⟨_,e,_,_,_,rfl,n,l,m⟩,rfl⟩
 .rintro⟨⟨o,e,C,w,g,rfl,n,l,r⟩,rfl⟩;exact .ins n e l (i l r)
theorem cv.dput{p:yO}{s:Sk}{v:V}(h:cv K G H s t v T)(I:T.Nodup)(N:mI p s=Y .di)(O:jg p t=Y (.ji q y))(g:bf G G')(k:∀b∈T,∀o,H b=Y o->A b=Y o):
  ∃x m,gc H p v=Y (.ref x)/\x∈T/\H x=Y (.dK (q.zip m))/\q.length=y.length/\aY K G y m /\
   ∀(a:List lO) (c:List D) (d:List V),a.length=c.length->aY K G' c d->∃j,cv K G' (dD A x (.dK (a.zip d))) s (lS (.ji a c) p t) v j/\j.Nodup/\∀b∈j,b∈T:=by
 obtain⟨R,S,U,P,F,n,L⟩:=h.focus N O;cases F with
 |@ji _ _ x m f l r=>
  refine⟨x,m,P,n.symm.subset Ž,f,l,r,λa c d J C =>?_⟩;obtain⟨_,j,E,B⟩:=L G' (dD A x _) _ [x] g λb i o e=>by grind [aP] (.ji aW J C)
  exact⟨j,E,by rw[B.nodup_iff];exact(n.nodup_iff.mp I),λb i=>n.symm.subset (B.subset i)⟩
end
end L2
namespace L2
open PySem PySem.Spec PyProof.Rows
def Zt(K:aG)(G H:Hp):D->ax->HO->Prop
 |.obj s t,a,_=>∃S,cv K G H s t (.ref a) S/\∀b∈S,G b=M|.eQ _ _,_,_=>True|d,_,o=>jo K G d o
def j8(K:aG)(G H:Hp)(d:D)(v:V):Prop:=cS K G d v\/∃a o,v=.ref a/\H a=Y o/\Zt K G H d a o
section
variable {K:aG}
def j8.ext{d:D}{v:V}(r:j8 K G H d v)(E:eJ G H G' H'):j8 K G' H' d v:=by
 rcases r with r|⟨a,o,k,j,c⟩
 .exact .inl (cS.mono E.gg d r)
 .refine .inr ⟨a,o,k,E.hh _ _ j,?_⟩;cases d with
  |obj s t=>
   obtain⟨S,g,i⟩:=c;refine⟨S,g.mono E.gg λb f o e=>E.hh b o e,λb f =>?_⟩;obtain⟨u,h,_⟩:=g.here b f;rcases q:G' b with _|w
   .rfl
   rcases E.fr b w q with z|z<;>simp_all
  |eQ=>trivial|lst=>exact jo.mono E.gg (d :=.lst _) c|ins=>exact jo.mono E.gg (d :=.ins _ _ _) c|ji=>exact jo.mono E.gg (d :=.ji _ _) c|_=>exact c
def j8.dW{v:V}(r:j8 K G H .dW v):v=.dW:=by
 rcases r with r|⟨a,o,_,_,e⟩
 .exact ź
 exact ź
def j8.bl{v:V}(r:j8 K G H (.bl b) v):v=.bl b:=by
 rcases r with r|⟨a,o,_,_,e⟩
 .exact ź
 exact ź
def j8.int{i:Int}{v:V}(r:j8 K G H (.int i) v):v=.int i:=by
 rcases r with r|⟨a,o,_,_,e⟩
 .exact ź
 exact ź
def j8.str{v:V}(r:j8 K G H (.str x) v):v=.str x:=by
 rcases r with r|⟨a,o,_,_,e⟩
 .exact ź
 exact ź
def j8.lst{ds:List D}{v:V}(s:bf G H)(r:j8 K G H (.lst ds) v):∃a vs,v=.ref a/\H a=Y (.lst vs)/\aY K G ds vs:=by
 rcases r with r|⟨a,o,d,c,vs,rfl,b⟩
 .obtain⟨a,vs,e,q,t⟩:=bR.mp r;exact⟨a,vs,e,s _ _ q,t⟩
 .exact⟨a,vs,d,c,b⟩
def j8.tup{ds:List D}{v:V}(s:bf G H)(r:j8 K G H (.tup ds) v):∃a b,v=.ref a/\H a=Y (.tup b)/\aY K G ds b:=by
 rcases r with r|⟨a,o,_,_,e⟩
 .obtain⟨a,b,e,q,t⟩:=cL.mp r;exact⟨a,b,e,s _ _ q,t⟩
 exact ź
def j8.kA{v:V}(s:bf G H)(r:j8 K G H (.kA ns) v):∃a,v=.ref a/\mY K H a (ns.map V.int):=by
 rcases r with r|⟨a,o,_,_,e⟩
 .obtain⟨a,e,q⟩:=IC.mp r;exact⟨a,e,s.seq q⟩
 exact ź
def j8.aa9{f:List aE}{v:V}(s:bf G H)(r:j8 K G H (.ins c f g) v):∃a C d b,v=.ref a/\H a=Y (.ins C d (f.zip b))/\js K aT c=Y (Y (.ref C))/\f.length=g.length/\aY K G g b:=by
 rcases r with r|⟨a,o,j,i,C,d,b,rfl,n,l,h⟩
 .obtain⟨a,C,d,b,e,n,q,l,t⟩:=oi.mp r;exact⟨a,C,d,b,e,s _ _ q,n,l,t⟩
 .exact⟨a,C,d,b,j,i,n,l,h⟩
def j8.VN{v:V}(s:bf G H)(r:j8 K G H (.ji c d) v):∃a b,v=.ref a/\H a=Y (.dK (c.zip b))/\c.length=d.length/\aY K G d b:=by
 rcases r with r|⟨a,o,h,g,b,rfl,l,f⟩
 .obtain⟨a,b,e,q,l,t⟩:=CH.mp r;exact⟨a,b,e,s _ _ q,l,t⟩
 .exact⟨a,b,h,g,l,f⟩
def j8.all{v:V}(s:bf G H)(r:j8 K G H d v):cS K H d v:=by
 rcases r with r|⟨a,o,i,e,c⟩
 .exact cS.mono s d r
 .subst i;cases d with
  |obj k t=>obtain⟨S,h,g⟩:=c;exact su.mpr (cS.mono (i' s) t (h.frozen g λb f=>f))
  |eQ=>solve_by_elim|lst=>exact(jo.mono s (d :=.lst _) c).rep e|ins=>exact(jo.mono s (d :=.ins _ _ _) c).rep e|ji=>exact(jo.mono s (d :=.ji _ _) c).rep e|_=>exact c.elim
end
abbrev bY:=List (Option D)
abbrev DF:=bY->Option D
abbrev DT:=bY->Option Bool
abbrev DL:=bY->Option (List D)
noncomputable abbrev A8(j:Nat):Nat:=j+1000000
noncomputable abbrev x_(j:Nat):Nat:=j+2000000
noncomputable def Bh:List aE:=["rows","coming"]
def F5(Z:List Nat)(H:Hp)(a:St)(c:bY)(j r:Nat)(p:yO):Prop:=r∈Z/\x_ r∈Z/\∃s t d v b,c[r]?=Y (Y (.obj s t))/\a[r]?=Y (Y v)/\a[j]?=Y (Y b)/\gc H p v=Y b/\mI p s=Y d/\∀g∈z0 p,g∈Bh
structure j2(K:aG)(Z:List Nat)(G H:Hp)(σ:St)(ρ:bY):Prop where
 len:σ.length=ρ.length
 get:∀(i:Nat) (d:D),ρ[i]?=some (some d)->∃v,σ[i]?=some (some v)/\(if i∈Z then j8 K G H d v else cS K G d v)
 eQ:∀(j r:Nat) (p:yO),j∈Z->A8 j∈Z->ρ[j]?=some (some (.eQ r p))->F5 Z H σ ρ j r p
def F5.ext{H':Hp}{a:St}{r:Nat}(h:F5 Z H a b j r p)(s:bf H H'):F5 Z H' a b j r p:=by
 obtain⟨g,i,e,d,f,v,c,q,o,n,l,k⟩:=h;exact⟨g,i,e,d,f,v,c,q,o,n,ja s l,k⟩
def j2.ext{K:aG}{G' H':Hp}{a:St}(h:j2 K Z G H a b)(E:eJ G H G' H'):j2 K Z G' H' a b:=⟨h.len,λi d e=>by
 obtain⟨v,q,r⟩:=h.get i d e;refine⟨v,q,?_⟩;by_cases c:i∈Z
 .rw[if_pos c]at r ⊢;exact r.ext E
 .rw[if_neg c]at r ⊢;exact cS.mono E.gg d r,λj r p g f e=>(h.eQ j r p g f e).ext E.hh⟩
inductive tP (K:aG) (Z:List Nat) (f:DF) (b:St) (H:Hp) (Q:VK):Prop
 |mk G a d:bf G H->j2 K Z G H b a->f a=some d->(∀v G' H',eJ G H G' H'->cS K G' d v->Q v H')->tP K Z f b H Q
inductive tQ (K:aG) (Z:List Nat) (f:DF) (b:St) (H:Hp) (Q:VK):Prop
 |mk G a d:bf G H->j2 K Z G H b a->f a=some d->(∀v G' H',eJ G H G' H'->j8 K G' H' d v->Q v H')->tQ K Z f b H Q
inductive tF (K:aG) (Z:List Nat) (f:DL) (d:St) (H:Hp) (Q:VK):Prop
 |mk G a c:bf G H->j2 K Z G H d a->f a=some c->(∀p b G' H',eJ G H G' H'->H p=none->G' p=none->H' p=some (.lst b)->aY K G' c b->Q (.ref p) H')->tF K Z f d H Q
inductive qP (K:aG) (Z:List Nat) (f:DT) (c:St) (H:Hp) (Q:Bool->Hp->Prop):Prop
 |mk G a b:bf G H->j2 K Z G H c a->f a=some b->(∀G' H',eJ G H G' H'->Q b H')->qP K Z f c H Q
inductive AR (K:aG) (Z:List Nat) (f:DL) (d:St) (H:Hp) (Q:List V->Hp->Prop):Prop
 |mk G a c:bf G H->j2 K Z G H d a->f a=some c->(∀b G' H',eJ G H G' H'->aY K G' c b->Q b H')->AR K Z f d H Q
def JP(K:aG)(G H:Hp):List D->List V->Prop:=Paired (j8 K G H)
inductive Wj (K:aG) (Z:List Nat) (f:DL) (d:St) (H:Hp) (Q:List V->Hp->Prop):Prop
 |mk G a c:bf G H->j2 K Z G H d a->f a=some c->(∀b G' H',eJ G H G' H'->JP K G' H' c b->Q b H')->Wj K Z f d H Q
section
variable {X:Cx}
def PE.imp(h:PE X e t)(k:∀b H Q,c b H Q->t b H Q):PE X e c:=λa s b H Q I q=>h a s b H Q I (k _ _ _ q)
def PT.imp(h:PT X e t)(k:∀b H Q,c b H Q->t b H Q):PT X e c:=λa s b H Q I q=>h a s b H Q I (k _ _ _ q)
def PW.imp(h:PW X e t)(k:∀b H Q,c b H Q->t b H Q):PW X e c:=λw a s b H Q I q=>h w a s b H Q I (k _ _ _ q)
def PA.imp(h:PA X e t)(k:∀b H Q,c b H Q->t b H Q):PA X e c:=λm a s b H Q I q=>h m a s b H Q I (k _ _ _ q)
def PS.imp(h:PS X e t)(k:∀D b H,c D b H->t D b H):PS X e c:=λa s b H D I q=>h a s b H D I (k _ _ _ q)
def lX.imp(h:lX X e t)(k:∀D b H,c D b H->t D b H):lX X e c:=λa s b H D I q=>h a s b H D I (k _ _ _ q)
def ou.imp{f:aq->aq->Sem aq}(h:ou X f r)(k:∀x y H Q,b x y H Q->r x y H Q):ou X f b:=λa s c H x y v u Q I e d q=>h a s c H x y v u Q I e d (k _ _ _ _ q)
def dq{f:DF}(h:PE X e (tP X.K Z f)):PE X e (tQ X.K Z f):=h.imp <|by rintro i H Q ⟨G,b,d,c,a,g,k⟩;exact⟨G,b,d,c,a,g,λv G' H' E r=>k v G' H' E (.inl r)⟩
noncomputable def eF(f:DL):DF:=λρ=>(f ρ).map D.lst
def df{f:DL}(h:PE X e (tF X.K Z f)):PE X e (tP X.K Z (eF f)):=h.imp <|by
 rintro s H Q ⟨G,g,d,q,b,l,k⟩;rcases a:f g with _|c
 .simp_all [eF]
 have:d=.lst c:=by simp_all [eF]
 subst this;exact⟨G,g,c,q,b,a,λp i G' H' E o j n r=>k _ _ H' (E.freeze o j n) (bR.mpr ⟨p,i,rfl,aW,aY.mono (.alloc j) c r⟩)⟩
noncomputable def eV(i:Nat):DF:=λρ=>(ρ[i]?).join
noncomputable def eK(d:D):DF:=λ_=>Y d
def gW(h:eV i a=Y d):a[i]?=Y (Y d):=by
 grind [eV,cB]
def dv{m:Pos}(h:PE X (.Name x m) (fB i))(b:autoParam (i∉Z) ū):PE X (.Name x m) (tP X.K Z (eV i)):=h.imp <|by
 rintro f H Q ⟨G,g,d,c,a,e,k⟩;obtain⟨v,q,r⟩:=a.get i d (gW e);rw[if_neg b]at r;exact⟨v,q,k v G H (.refl c) r⟩
def dvo{i:Nat}{m:Pos}(h:PE X (.Name x m) (fB i))(b:autoParam (i∈Z) ū):PE X (.Name x m) (tQ X.K Z (eV i)):=h.imp <|by
 rintro f H Q ⟨G,g,d,c,a,e,k⟩;obtain⟨v,q,r⟩:=a.get i d (gW e);rw[if_pos b]at r;exact⟨v,q,k v G H (.refl c) r⟩
def gf{i j m}:PE X (.Constant (.int i) j m) (tP X.K Z (eK (.int i))):=wD.imp <|by
 rintro e H Q ⟨G,f,d,a,c,b,k⟩;cases b;exact k _ G H (.refl a) (bK.mpr rfl)
def Y4{b j m}:PE X (.Constant (.bool b) j m) (tP X.K Z (eK (.bl b))):=XU.imp <|by
 rintro f H Q ⟨G,g,d,a,e,c,k⟩;cases c;exact k _ G H (.refl a) (cR.mpr rfl)
def HC{j m}:PE X (.Constant .none j m) (tP X.K Z (eK .dW)):=Ut.imp <|by
 rintro e H Q ⟨G,f,d,a,c,b,k⟩;cases b;exact k _ G H (.refl a) (f_.mpr rfl)
def HB{x j m}:PE X (.Constant (.str x) j m) (tP X.K Z (eK (.str x))):=Ur.imp <|by
 rintro e H Q ⟨G,f,d,a,c,b,k⟩;cases b;exact k _ G H (.refl a) (ij.mpr rfl)
noncomputable def aN:DL:=λ_=>Y []
noncomputable def aC(f:DF)(g:DL):DL:=λa=>(f a).bind λx=>(g a).bind λb=>Y (x::b)
def JN{f:DF}{e:List D}(h:aC f g a=Y e):∃x b,f a=Y x/\g a=Y b/\e=x::b:=by
 obtain⟨x,d,h⟩:=aa.1 h;rcases c:g a with _|b<;>simp_all
def hU:PA X [] (AR X.K Z aN):=dI.imp <|by
 rintro e H Q ⟨G,f,d,a,c,b,k⟩;cases b;exact k _ G H (.refl a) .nil
def cf{f:DF}{g:DL}(h:PE X e (tP X.K Z f))(t:PA X A (AR X.K Z g))(p:autoParam (ao (e::A) X.env=(Z_,eval e X.env)::ao A X.env) ŭ):PA X (e::A) (AR X.K Z (aC f g)):=
 (bS h t p).imp <|by rintro z H Q ⟨G,i,d,q,a,s,k⟩;obtain⟨x,l,r,b,rfl⟩:=JN s;refine⟨G,i,x,q,a,r,λv y D c o=>⟨y,i,l,c.gh,a.ext c,b,λC w u j n=>k _ w u (c.trans j) (.cons (cS.mono j.gg x o) n)⟩⟩
def Dr:PA X [] (Wj X.K Z aN):=dI.imp <|by
 rintro e H Q ⟨G,f,d,a,c,b,k⟩;cases b;exact k _ G H (.refl a) .nil
def Af{f:DF}(h:PE X e (tQ X.K Z f))(t:PA X A (Wj X.K Z g))(p:autoParam (ao (e::A) X.env=(Z_,eval e X.env)::ao A X.env) ŭ):PA X (e::A) (Wj X.K Z (aC f g)):=
 (bS h t p).imp <|by rintro z H Q ⟨G,i,d,q,a,s,k⟩;obtain⟨x,l,r,b,rfl⟩:=JN s;refine⟨G,i,x,q,a,r,λv y D c o=>⟨y,i,l,c.gh,a.ext c,b,λC w u j n=>k _ w u (c.trans j) (.cons (o.ext j) n)⟩⟩
noncomputable def fN(g:DL):DF:=λb=>(g b).bind λa=>if a.length<=1000 then Y (.tup a) else M
def rK:1000<=a_:=by decide
set_option tactic.hygienic true in
def Ai{o m}{g:DL}(h:PA X A (AR X.K Z g)):PE X (.Tuple A o m) (tP X.K Z (fN g)):=(wC h).imp <|by
 rintro s H Q ⟨G,i,d,r,c,a,k⟩;unfold fN at a;rw[aa]at a;obtain⟨b,e,a⟩:=a;split at a
 .cases a;rename_i q;refine⟨G,i,b,r,c,e,λj u t f l=>⟨?_,λp n=>k _ _ _ (f.trans (eJ.alloc f.gh n)) ?_⟩⟩
  .rw[<- l.length];exact bz q rK
  .exact cL.mpr ⟨p,j,rfl,aW,aY.mono (.alloc (f.gh.free n)) b l⟩
 .cases a
noncomputable def iI(g:DL):DL:=λb=>(g b).bind λa=>if a.length<=1000 then Y a else M
set_option tactic.hygienic true in
def VP{m}{g:DL}(h:PA X A (AR X.K Z g)):PE X (.List A m) (tF X.K Z (iI g)):=(CM h).imp <|by
 rintro s H Q ⟨G,l,j,o,d,a,k⟩;obtain⟨e,q,a⟩:=aa.1 a;split at a
 .cases a;rename_i n;refine⟨G,l,j,o,d,q,λf r t b i=>⟨?_,λp c=>k p f r _ (b.trans (eJ.lay b.gh c)) (b.hh.free c) (b.gh.free c) aW i⟩⟩;rw[<- i.length];exact bz n rK
 .cases a
noncomputable def e2(o:D->D->Option D)(a b:DF):DF:=λρ=>(a ρ).bind λx=>(b ρ).bind λy=>o x y
def Dq(h:e2 o a b c=Y d):∃x y,a c=Y x/\b c=Y y/\o x y=Y d:=by
 obtain⟨x,f,h⟩:=aa.1 h;rw[f];rcases e:b c with _|y<;>simp_all
inductive rD (K:aG) (o:D->D->Option D) (x:V) (y:V) (H:Hp) (Q:VK):Prop
 |mk G b a d:bf G H->j8 K G H b x->j8 K G H a y->o b a=some d->(∀v G' H',eJ G H G' H'->cS K G' d v->Q v H')->rD K o x y H Q
def AL(X:Cx)(f:aq->aq->Sem aq)(o:D->D->Option D):Prop:=ou X f (rD X.K o)
def ID{K:aG}{Z:List Nat}{fa fb:DF}{e:St}(h:tP K Z (e2 o fa fb) e H Q):Wl (rD K o) (tQ K Z fa) (tQ K Z fb) e H Q:=by
 obtain⟨G,f,d,l,a,q,k⟩:=h;obtain⟨x,y,p,n,r⟩:=Dq q;exact⟨G,f,x,l,a,p,λv C I c j=>⟨C,f,y,c.gh,a.ext c,n,λu z F b i=>⟨z,x,y,d,b.gh,j.ext b,i,r,λw t s E g=>k w t s ((c.trans b).trans E) g⟩⟩⟩
variable {m:Pos}
def B3{op:Operator}(c:AL X (cT op) o)(e:PE X a (tQ X.K Z fa))(d:PE X b (tQ X.K Z fb)):PE X (.BinOp a op b m) (tP X.K Z (e2 o fa fb)):=(IG c e d).imp λf H Q h=>ID h
def OD{op:CmpOp}(c:AL X (hI op) o)(f:PE X a (tQ X.K Z fa))(e:PE X b (tQ X.K Z fb))(d:fK op b=Z_):PE X (.Compare a [op] [b] m) (tP X.K Z (e2 o fa fb)):=(Qk c f e d).imp λg H Q h=>ID h
noncomputable def c_(f:DF):DT:=λa=>(f a).bind λd=>match d with|.bl b=>Y b|_=>M
def qW{f:DF}{a:bY}{b:Bool}(h:c_ f a=Y b):f a=Y (.bl b):=by
 obtain⟨d,e,h⟩:=aa.1 h;rw[e];cases d<;>simp_all
def Oi{op:CmpOp}(f:AL X (hI op) o)(i:PE X a (tQ X.K Z fa))(h:PE X b (tQ X.K Z fb))(g:fK op b=Z_):PT X (.Compare a [op] [b] m) (qP X.K Z (c_ (e2 o fa fb))):=
 (CJ f i h g).imp <|by rintro n H Q ⟨G,e,d,j,c,l,k⟩;exact ID ⟨G,e,_,j,c,qW l,λv G' H' E r=>⟨d,cR.mp r,k G' H' E⟩⟩
noncomputable def kv(f g:DT):DT:=λa=>(f a).bind λc=>if c=Z' then g a else Y Z_
noncomputable def lx(f g:DT):DT:=λa=>(f a).bind λc=>if c=Z' then Y Z' else g a
noncomputable def nc(f:DT):DT:=λa=>(f a).map λc=> !c
variable {f:DT}
def Jq(b:PT X a (qP X.K Z f)):PW X (.BoolOp .And [a] m) (qP X.K Z f):=P9 b
def abO(b:PT X a (qP X.K Z f)):PW X (.BoolOp .Or [a] m) (qP X.K Z f):=MR b
def Oh(o:PT X a (qP X.K Z f))(n:PW X (.BoolOp .And (b::B) m) (qP X.K Z g)):PW X (.BoolOp .And (a::b::B) m) (qP X.K Z (kv f g)):=(Ub o n).imp <|by
 rintro v H Q ⟨G,j,d,p,h,e,k⟩;obtain⟨c,q,e⟩:=aa.1 e;refine⟨G,j,c,p,h,q,λl s i =>?_⟩;cases c with
 |true=>exact vu ⟨l,j,d,i.gh,h.ext i,e,λt r u=>k t r (i.trans u)⟩
 |false=>grind
def adR(o : PT X a (qP X.K Z f))(n : PW X (.BoolOp .Or (b :: B) m) (qP X.K Z g)): PW X (.BoolOp .Or (a :: b :: B) m) (qP X.K Z (lx f g)) := (MS o n).imp <|by
  rintro v H Q ⟨G,j,d,p,h,e,k⟩
  obtain ⟨c,q,e⟩ := aa.1 e
  refine⟨G,j,c,p,h,q,λl s i => ?_⟩
  cases c with
  |false => exact Ba ⟨l,j,d,i.gh,h.ext i,e,λt r u => k t r (i.trans u)⟩
  |true => grind
def abQ(i:PT X a (qP X.K Z f)):PT X (.UnaryOp .Not a m) (qP X.K Z (nc f)):=(MV i).imp <|by
 rintro p H Q ⟨G,h,d,j,e,b,k⟩;unfold nc at b;rcases g:f h with _|c
 .simp_all
 have:d = !c:=(cB ż).symm;subst this;exact⟨G,h,c,j,e,g,λn l o=>k n l o⟩
def Lc(f g:DF):DF:=λa=>(c_ f a).bind λc=>if c=Z' then g a else Y (.bl Z_)
def eOr(f g:DF):DF:=λa=>(c_ f a).bind λc=>if c=Z' then Y (.bl Z') else g a
noncomputable def VD(f:DT):DF:=λa=>(f a).map λc =>.bl (!c)
def abX{b}(h:PE X a (tP X.K Z fa)):PE X (.BoolOp b [a] m) (tP X.K Z fa):=M4 h
def ab1(o : PE X a (tP X.K Z fa))(n : PE X (.BoolOp .And (b :: B) m) (tP X.K Z fb)): PE X (.BoolOp .And (a :: b :: B) m) (tP X.K Z (Lc fa fb)) := (GS o n).imp <|by
  rintro w H Q ⟨G,h,d,p,f,e,k⟩
  obtain ⟨c,q,e⟩ := aa.1 e
  refine⟨G,h,_,p,f,qW q,λv i s g l => ⟨c,cR.mp l,?_⟩⟩
  cases c with
  |true => exact vu ⟨i,h,d,g.gh,f.ext g,e,λv t r u j => k v t r (g.trans u) j⟩
  | false => have : d = .bl Z_ := (cB ż).symm
             subst this; exact ź
def adV(o : PE X a (tP X.K Z fa))(n : PE X (.BoolOp .Or (b :: B) m) (tP X.K Z fb)): PE X (.BoolOp .Or (a :: b :: B) m) (tP X.K Z (eOr fa fb)) := (XS o n).imp <|by
  rintro w H Q ⟨G,h,d,p,f,e,k⟩
  obtain ⟨c,q,e⟩ := aa.1 e
  refine⟨G,h,_,p,f,qW q,λv i s g l => ⟨c,cR.mp l,?_⟩⟩
  cases c with
  |false => exact Ba ⟨i,h,d,g.gh,f.ext g,e,λv t r u j => k v t r (g.trans u) j⟩
  | true => have : d = .bl Z' := (cB ż).symm
            subst this; exact ź
def abY(i:PE X a (tP X.K Z fa)):PE X (.UnaryOp .Not a m) (tP X.K Z (VD (c_ fa))):=(Us i).imp <|by
 rintro p H Q ⟨G,g,d,j,e,b,k⟩;unfold VD at b;rcases f:c_ fa g with _|c
 .simp_all
 rw[f]at b;have:=(cB b).symm;subst this;exact⟨G,g,_,j,e,qW f,λv n l o h=>⟨c,cR.mp h,k _ n l o (cR.mpr rfl)⟩⟩
noncomputable def Q4(c:DT)(f g:DF):DF:=λa=>(c a).bind λb=>if b=Z' then f a else g a
def adW(q:PT X c (qP X.K Z f))(s:PE X a (tP X.K Z fa))(r:PE X b (tP X.K Z fb)):PE X (.IfExp c a b m) (tP X.K Z (Q4 f fa fb)):=(M6 q s r).imp <|by
 rintro w H Q ⟨G,i,d,t,e,h,k⟩;obtain⟨c,u,h⟩:=aa.1 h;refine⟨G,i,c,t,e,u,λp x g =>?_⟩;cases c with
 |true=>exact vu ⟨p,i,d,g.gh,e.ext g,h,λv n l o j=>k v n l (g.trans o) j⟩
 |false=>exact Ba ⟨p,i,d,g.gh,e.ext g,h,λv n l o j=>k v n l (g.trans o) j⟩
end
mutual
noncomputable def AK:D->D->Bool
 |.dW,.dW=>Z'|.bl a,.bl b=>a==b|.bl a,.int b=>(if a then 1 else 0)==b
 |.int a,.bl b=>a==(if b then 1 else 0)
 |.int a,.int b=>a==b|.str a,.str b=>a==b|.lst d,.lst c=>qK d c|.tup d,.tup c=>qK d c|_,_=>Z_
noncomputable def qK:List D->List D->Bool
 |[],[]=>Z'|x::b,y::a=>AK x y&&qK b a|_,_=>Z_
end
mutual
def iF:D->Nat->Bool
 |.lst a,n=>n != 0&&jy a (n-1)|.tup a,n=>n != 0&&jy a (n-1)|.kA _,_=>Z_|.ins _ _ _,_=>Z_|.ji _ _,_=>Z_|.obj _ _,_=>Z_|.eQ _ _,_=>Z_|.dW,_=>Z'|.bl _,_=>Z'|.int _,_=>Z'|.str _,_=>Z'
def jy:List D->Nat->Bool
 |[],_=>Z'|x::a,n=>iF x n&&jy a n
end
theorem Al:∀ {a:List D}{n i:Nat}{d:D},jy a n=Z'->a[i]?=Y d->iF d n=Z'
 |[],n,i,d,h,e=>by simp at e
 |x::a,n,0,d,h,e=>by simp_all [jy,aR]
 |x::a,n,i+1,d,h,e=>by simp only[jy,aR]at h;exact Al (i:=i) h.2 ż
theorem vH:∀(b a:List D),qK b a=((cH (min b.length a.length)).all (λj=>AK (b.getD j .dW) (a.getD j .dW))&&(b.length==a.length))
 |[],[]=>by simp[qK]
 |[],y::a=>by simp[qK]
 |x::b,[]=>by simp[qK]
 | x::b,y::a=>by
  have e:min (x::b).length (y::a).length=min b.length a.length+1:=by simp[Nat.add_min_add_right]
  rw[e,RQ,fm,wc];simp only[qK,vH b a,gM,List.getD_cons_zero,List.getD_cons_succ,bo];rw[Bool.and_assoc];simp
def Y0:AK (.int x) (.int y)=(x==y):=rfl
mutual
theorem Ah:∀(d:D) (n:Nat),iF d n=Z'->AK d d=Z'
 |.dW,n,h=>rfl|.bl b,n,h=>beq_self_eq_true b|.int b,n,h=>beq_self_eq_true b|.str b,n,h=>beq_self_eq_true b|.lst a,n,h=>by simp only[iF,aR]at h;exact pE a _ h.2
 |.tup a,n,h=>by simp only[iF,aR]at h;exact pE a _ h.2
 |.kA a,n,h=>by solve_by_elim
 |.ins _ _ _,n,h=>by solve_by_elim
 |.ji _ _,n,h=>by solve_by_elim
 |.obj _ _,n,h=>by solve_by_elim
 |.eQ _ _,n,h=>by solve_by_elim
theorem pE:∀(d:List D) (n:Nat),jy d n=Z'->qK d d=Z'
 |[],n,h=>by simp[qK]
 |x::a,n,h=>by simp only[jy,aR]at h;simp only[qK,Ah x n h.1,pE a n h.2,Bool.and_self]
end
section
variable {K:aG}
mutual
theorem cS.inj:∀(u g:D) (n m:Nat){v:V},iF u n=Z'->iF g m=Z'->cS K H u v->cS K H g v->u=g
 |.dW,g,n,m,v,h,d,i,f=>by have e:=f_.mp i;subst e;cases g<;>simp[cS,iF]at f d ⊢
 |.bl b,g,n,m,v,h,d,i,f=>by have e:=cR.mp i;subst e;cases g<;>simp[cS,iF]at f d ⊢<;>exact f
 |.int b,g,n,m,v,h,d,i,f=>by have e:=bK.mp i;subst e;cases g<;>simp[cS,iF]at f d ⊢<;>exact f
 |.str b,g,n,m,v,h,d,i,f=>by have e:=ij.mp i;subst e;cases g<;>simp[cS,iF]at f d ⊢<;>exact f
 | .lst o,g,n,m,v,h,d,i,f=>by
  obtain⟨a,w,rfl,l,r⟩:=bR.mp i;cases g with
  |lst k=>obtain⟨b,s,e,j,q⟩:=bR.mp f;cases e;rw[l]at j;cases j;simp only[iF,aR]at h d;rw[aY.inj o k _ _ h.2 d.2 r q]
  |tup k=>
   obtain _:=cL.mp f
   simp_all
  |kA k=>simp[iF]at d|ins c t p=>simp[iF]at d|ji t p=>simp[iF]at d|obj=>simp[iF]at d|eQ=>simp[iF]at d|_=>simp[cS]at f
 | .tup o,g,n,m,v,h,d,i,f=>by
  obtain⟨a,w,rfl,l,r⟩:=cL.mp i;cases g with
  |tup k=>obtain⟨b,s,e,j,q⟩:=cL.mp f;cases e;rw[l]at j;cases j;simp only[iF,aR]at h d;rw[aY.inj o k _ _ h.2 d.2 r q]
  |lst k=>
   obtain _:=bR.mp f
   simp_all
  |kA k=>simp[iF]at d|ins c t p=>simp[iF]at d|ji t p=>simp[iF]at d|obj=>simp[iF]at d|eQ=>simp[iF]at d|_=>simp[cS]at f
 |.kA o,g,n,m,v,h,d,i,f=>by simp[iF]at h
 |.ins _ _ _,g,n,m,v,h,d,i,f=>by simp[iF]at h
 |.ji _ _,g,n,m,v,h,d,i,f=>by simp[iF]at h
 |.obj _ _,g,n,m,v,h,d,i,f=>by simp[iF]at h
 |.eQ _ _,g,n,m,v,h,d,i,f=>by simp[iF]at h
theorem aY.inj:∀(b a:List D) (n m:Nat){d:List V},jy b n=Z'->jy a m=Z'->aY K H b d->aY K H a d->b=a
 | [],a,n,m,d,g,f,h,c=>by
  rw[cU.mp h]at c;cases a with
  |nil=>rfl|cons y a=>obtain⟨_,_,e,_⟩:=bD.mp c;cases e
 | x::b,a,n,m,d,g,f,h,c=>by
  obtain⟨v,r,rfl,q,t⟩:=bD.mp h;cases a with
  |nil=>cases cU.mp c|cons y a=>obtain⟨k,l,e,j,i⟩:=bD.mp c;cases e;simp only[jy,aR]at g f;rw[cS.inj x y _ _ g.1 f.1 q j,aY.inj b a _ _ g.2 f.2 t i]
end
end
section
variable {P:aZ}{K:aG}{s:aw}
def G9(c:mZ P w H s.heap)(e:H a=Y (.lst d)):∃b:List aq,cb d b/\s.heap.IsList a b.toArray:=by
 obtain⟨z,b,n,r,q⟩:=c a _ e;exact⟨b,r,_,q,rfl,n,rfl⟩
def G8(c:mZ P w H s.heap)(e:H a=Y (.tup d)):∃b:List aq,cb d b/\s.heap.IsTuple a b.toArray:=by
 obtain⟨z,b,r,q⟩:=c a _ e
 exact ź
open SeqAt
structure Ax(A:fF)(s:aw)(u1 u2:aq)(b:Bool):Prop where
 rc:RcAt A s u1 u2 b
 ne:RcNeAt A s u1 u2 (!b)
 eq:EqAt A s u1 u2 b
theorem Jn(j:mZ P w H s.heap)(g:A.units<qL){v:D}{m:Nat}{F:aq}(u:iF z 0=Z')(i:iF v m=Z')(y:cS K H z E)(h:cS K H v C)(x:RelV E G)(f:RelV C F):
  Ax A s G F (AK z v):=by
 cases z with
 |dW=>
  have e:=f_.mp y;subst e;cases x;cases v with
  |dW=>have e:=f_.mp h;subst e;cases f;exact⟨.none_none,.none_none,.same _⟩
  |bl b=>have e:=cR.mp h;subst e;cases f;exact⟨.none_bool b,.none_bool b,.none_bool b⟩
  |int b=>have e:=bK.mp h;subst e;obtain⟨t,rfl⟩:=f;exact⟨.none_int b t,.none_int b t,.none_int b t⟩
  |str b=>have e:=ij.mp h;subst e;obtain⟨t,rfl⟩:=f;exact⟨.none_str b t,.none_str b t,.none_str b t⟩
  |lst n=>obtain⟨a,r,rfl,q,_⟩:=bR.mp h;cases f;obtain⟨k,_,l⟩:=G9 j q;exact⟨.none_list l g,.none_list l g,.none_list l g⟩
  |tup n=>obtain⟨a,r,rfl,q,_⟩:=cL.mp h;cases f;obtain⟨k,_,l⟩:=G8 j q;exact⟨.none_tuple l g,.none_tuple l g,.none_tuple l g⟩
  |_=>simp[iF]at i
 |bl c=>
  have e:=cR.mp y;subst e;cases x;cases v with
  |dW=>have e:=f_.mp h;subst e;cases f;exact⟨.bool_none c,.bool_none c,.bool_none c⟩
  |bl b=>have e:=cR.mp h;subst e;cases f;exact⟨.bool_bool c b,.bool_bool c b,.bool_bool c b⟩
  |int b=>have e:=bK.mp h;subst e;obtain⟨t,rfl⟩:=f;exact⟨.bool_int c b t,.bool_int c b t,.bool_int c b t⟩
  |str b=>have e:=ij.mp h;subst e;obtain⟨t,rfl⟩:=f;exact⟨.bool_str c b t,.bool_str c b t,.bool_str c b t⟩
  |lst n=>obtain⟨a,r,rfl,q,_⟩:=bR.mp h;cases f;obtain⟨k,_,l⟩:=G9 j q;exact⟨.bool_list c l g,.bool_list c l g,.bool_list c l g⟩
  |tup n=>obtain⟨a,r,rfl,q,_⟩:=cL.mp h;cases f;obtain⟨k,_,l⟩:=G8 j q;exact⟨.bool_tuple c l g,.bool_tuple c l g,.bool_tuple c l g⟩
  |_=>simp[iF]at i
 |int c=>
  have e:=bK.mp y;subst e;obtain⟨d,rfl⟩:=x;cases v with
  |dW=>have e:=f_.mp h;subst e;cases f;exact⟨.int_none c d,.int_none c d,.int_none c d⟩
  |bl b=>have e:=cR.mp h;subst e;cases f;exact⟨.int_bool c d b,.int_bool c d b,.int_bool c d b⟩
  |int b=>have e:=bK.mp h;subst e;obtain⟨t,rfl⟩:=f;exact⟨.int_int c d b t,.int_int c d b t,.int_int c d b t⟩
  |str b=>have e:=ij.mp h;subst e;obtain⟨t,rfl⟩:=f;exact⟨.int_str c d b t,.int_str c d b t,.int_str c d b t⟩
  |lst n=>obtain⟨a,r,rfl,q,_⟩:=bR.mp h;cases f;obtain⟨k,_,l⟩:=G9 j q;exact⟨.int_list c d l g,.int_list c d l g,.int_list c d l g⟩
  |tup n=>obtain⟨a,r,rfl,q,_⟩:=cL.mp h;cases f;obtain⟨k,_,l⟩:=G8 j q;exact⟨.int_tuple c d l g,.int_tuple c d l g,.int_tuple c d l g⟩
  |_=>simp[iF]at i
 |str c=>
  have e:=ij.mp y;subst e;obtain⟨d,rfl⟩:=x;cases v with
  |dW=>have e:=f_.mp h;subst e;cases f;exact⟨.str_none c d,.str_none c d,.str_none c d⟩
  |bl b=>have e:=cR.mp h;subst e;cases f;exact⟨.str_bool c d b,.str_bool c d b,.str_bool c d b⟩
  |int b=>have e:=bK.mp h;subst e;obtain⟨t,rfl⟩:=f;exact⟨.str_int c d b t,.str_int c d b t,.str_int c d b t⟩
  |str b=>have e:=ij.mp h;subst e;obtain⟨t,rfl⟩:=f;exact⟨.str_str c d b t,.str_str c d b t,.str_str c d b t⟩
  |lst n=>obtain⟨a,r,rfl,q,_⟩:=bR.mp h;cases f;obtain⟨k,_,l⟩:=G9 j q;exact⟨.str_list c d l g,.str_list c d l g,.str_list c d l g⟩
  |tup n=>obtain⟨a,r,rfl,q,_⟩:=cL.mp h;cases f;obtain⟨k,_,l⟩:=G8 j q;exact⟨.str_tuple c d l g,.str_tuple c d l g,.str_tuple c d l g⟩
  |_=>simp[iF]at i
 |_=>simp[iF]at u
def Ax.refs(a:RcAt A s (.ref l) (.ref b) k)(c:RcNeAt A s (.ref l) (.ref b) (!k))(h:l=b->k=Z'):Ax A s (.ref l) (.ref b) k:=by
 refine⟨a,c,?_⟩;by_cases e:l=b
 .subst e;rw[h rfl];exact .same _
 .exact .of_refs e a
def OA(h:b.length≠a.length):qK b a=false:=by
 simp_all [vH,LP]
def Fx{m:Nat}(ih:∀(h g:D) (l k:V) (t p:aq),iF h n=Z'->iF g m=Z'->cS K H h l->cS K H g k->RelV l t->RelV k p->Ax A s t p (AK h g))(L:jy d n=Z')(J:jy c m=Z')(r:aY K H d i)(q:aY K H c o)(w:cb i b)(x:cb o a)(j:Nat)(P:j<b.toArray.size)(O:j<a.toArray.size):
  EqAt A s b.toArray[j] a.toArray[j] (AK (d.getD j .dW) (c.getD j .dW)):=by
 have X:=r.length.trans w.length;have U:=q.length.trans x.length;have f:=by simpa using P
 have e:=by simpa using O
 have z:d[j]?=Y (d.getD j .dW):=by rw[LN,bp (by lia)];exact ź
 have y:c[j]?=Y (c.getD j .dW):=by rw[LN,bp (by lia)];exact ź
 obtain⟨v,T,I⟩:=r.get z;obtain⟨u,S,G⟩:=q.get y;obtain⟨C,R,F⟩:=w.get T;obtain⟨B,Q,E⟩:=x.get S;have N:=by
  have:b[j]?=Y b.toArray[j]:=by simp[f]
  rw[R]at this;exact cB this.symm
 have W:=by
  have:a[j]?=Y a.toArray[j]:=by simp[e]
  rw[Q]at this;exact cB this.symm
 rw[N,W];exact(ih _ _ _ _ _ _ (Al L z) (Al J y) I G F E).eq
theorem N'(g:mZ P w H s.heap):∀(n:Nat){A:fF}(_:A.units+n<qL) (J F:D) (m:Nat) (Q O:V) (S R:aq),iF J n=Z'->iF F m=Z'->cS K H J Q->cS K H F O->RelV Q S->RelV O R ->
  Ax A s S R (AK J F):=by
 intro n
 induction n with
 |zero=>intro A hu J F m Q O S R C k I o G i;exact Jn g ž C k I o G i
 |succ n ih=>
  intro A hu J F m Q O S R C k I o G i;have d:A.units<qL:=ž
  have ih':=λ(m':Nat)=>λ(J F:D) (Q O:V) (S R:aq)=>ih (A:=A.in1) (by show A.units+1+n<qL;lia) J F m' Q O S R
  cases J with
  |lst p=>
   obtain⟨a,vs,rfl,X,W⟩:=bR.mp I;cases G;obtain⟨r,U,l⟩:=G9 g X;cases F with
   |lst h=>
    obtain⟨b,us,rfl,x,z⟩:=bR.mp o;cases i;obtain⟨f,L,q⟩:=G9 g x;have B:=C;have N:=k;simp only[iF,aR,Nat.add_sub_cancel]at B N;have v:r.toArray.size=p.length:=by rw[b_];exact(W.length.trans U.length).symm
    have y:f.toArray.size=h.length:=by rw[b_];exact(z.length.trans L.length).symm
    have u:a=b->qK p h=true:=λe=>by subst e;rw[X]at x;cases x;rw[<- aY.inj p h _ _ B.2 N.2 W z];exact pE p _ B.2
    show Ax A s _ _ (qK p h);by_cases hl:p.length=h.length
    .have E:qK p h=(cH r.toArray.size).all (λj=>AK (p.getD j .dW) (h.getD j .dW)):=by rw[vH,<- hl,RO,v];simp
     have it:=Fx (ih' _) B.2 N.2 W z U L;exact .refs (by rw[E];exact .lists l q ž d it) (by rw[E];exact .lists l q ž d it) u
    .have E:=OA hl;have NX:(r.toArray.size != f.toArray.size)=true:=by rw[v,y];simpa using hl
     refine .refs ?_ ?_ u
     .rw[E];exact .lists_lengths l q NX d
     .rw[E];exact .lists_lengths l q NX d
   |tup h=>obtain⟨b,us,rfl,x,z⟩:=cL.mp o;cases i;obtain⟨f,L,q⟩:=G8 g x;exact⟨.list_tuple l q d,.list_tuple l q d,.list_tuple l q d⟩
   |dW=>have e:=f_.mp o;subst e;cases i;exact⟨.list_none l d,.list_none l d,.list_none l d⟩
   |bl b=>have e:=cR.mp o;subst e;cases i;exact⟨.list_bool b l d,.list_bool b l d,.list_bool b l d⟩
   |int b=>have e:=bK.mp o;subst e;obtain⟨t,rfl⟩:=i;exact⟨.list_int b t l d,.list_int b t l d,.list_int b t l d⟩
   |str b=>have e:=ij.mp o;subst e;obtain⟨t,rfl⟩:=i;exact⟨.list_str b t l d,.list_str b t l d,.list_str b t l d⟩
   |_=>simp[iF]at k
  |tup p=>
   obtain⟨a,vs,rfl,X,W⟩:=cL.mp I;cases G;obtain⟨r,U,l⟩:=G8 g X;cases F with
   |tup h=>
    obtain⟨b,us,rfl,x,z⟩:=cL.mp o;cases i;obtain⟨f,L,q⟩:=G8 g x;have B:=C;have N:=k;simp only[iF,aR,Nat.add_sub_cancel]at B N;have v:r.toArray.size=p.length:=by rw[b_];exact(W.length.trans U.length).symm
    have y:f.toArray.size=h.length:=by rw[b_];exact(z.length.trans L.length).symm
    have u:a=b->qK p h=true:=λe=>by subst e;rw[X]at x;cases x;rw[<- aY.inj p h _ _ B.2 N.2 W z];exact pE p _ B.2
    show Ax A s _ _ (qK p h);have E:qK p h=((cH (min r.toArray.size f.toArray.size)).all (λj=>AK (p.getD j .dW) (h.getD j .dW))&&r.toArray.size==f.toArray.size):=by rw[vH,v,y]
    have it:=Fx (ih' _) B.2 N.2 W z U L;exact .refs (by rw[E];exact .tuples l q d it) (by rw[E];exact .tuples l q d it) u
   |lst h=>obtain⟨b,us,rfl,x,z⟩:=bR.mp o;cases i;obtain⟨f,L,q⟩:=G9 g x;exact⟨.tuple_list l q d,.tuple_list l q d,.tuple_list l q d⟩
   |dW=>have e:=f_.mp o;subst e;cases i;exact⟨.tuple_none l d,.tuple_none l d,.tuple_none l d⟩
   |bl b=>have e:=cR.mp o;subst e;cases i;exact⟨.tuple_bool b l d,.tuple_bool b l d,.tuple_bool b l d⟩
   |int b=>have e:=bK.mp o;subst e;obtain⟨t,rfl⟩:=i;exact⟨.tuple_int b t l d,.tuple_int b t l d,.tuple_int b t l d⟩
   |str b=>have e:=ij.mp o;subst e;obtain⟨t,rfl⟩:=i;exact⟨.tuple_str b t l d,.tuple_str b t l d,.tuple_str b t l d⟩
   |_=>simp[iF]at k
  |kA p=>simp[iF]at C|ins c ks T=>simp[iF]at C|ji ks T=>simp[iF]at C|obj=>simp[iF]at C|eQ=>simp[iF]at C|_=>exact Jn g d rfl k I o G i
end
def fh(x y:D):Option D:=if (iF x 180&&iF y 180)=Z' then Y (.bl (AK x y)) else M
def ur(x y:D):Option D:=if (iF x 180&&iF y 180)=Z' then Y (.bl (!AK x y)) else M
section
set_option tactic.hygienic true
variable {X:Cx}
def Sv(h:dB k X.A):AL X (hI .Eq) fh:=by
 intro e s n H x y v u Q I g f ⟨G,m,l,d,c,j,i,a,q⟩;unfold fh at a;split at a
 .rename_i b;rw[aR]at b;cases a;have o:=h.un;exact(N' I.eY 180 (by lia) m l 180 x y v u b.1 b.2 (j.all c) (i.all c) g f).rc _ _ _ _ ⟨.bl _,H,I,rfl,q _ G H (.refl c) (cR.mpr rfl)⟩
 .cases a
def Ss(h:dB k X.A):AL X (hI .NotEq) ur:=by
 intro e s n H x y v u Q I g f ⟨G,m,l,d,c,j,i,a,q⟩;unfold ur at a;split at a
 .rename_i b;rw[aR]at b;cases a;have o:=h.un;exact(N' I.eY 180 ž m l 180 x y v u b.1 b.2 (j.all c) (i.all c) g f).ne _ _ _ _ ⟨.bl _,H,I,rfl,q _ G H (.refl c) (cR.mpr rfl)⟩
 .cases a
set_option tactic.hygienic false
noncomputable def O_:D->D->Option D
 |.int i,.int j=>Y (.bl (decide (i<j)))|_,_=>M
noncomputable def tp:D->D->Option D
 |.int i,.int j=>Y (.bl (decide (j<i)))|_,_=>M
noncomputable def oGe:D->D->Option D
 |.int i,.int j=>Y (.bl (decide (j<=i)))|_,_=>M
def EL{f:aq->aq->Sem aq}{g':Int->Int->D}(h:ou X f (rI C g))(a:∀x y d,o x y=Y d->∃i j,x=.int i/\y=.int j/\C i j/\d=g' i j)(b:∀i j G,cS X.K G (g' i j) (g i j)):AL X f o:=
 ou.imp h <|by rintro x y H Q ⟨G,p,n,d,l,k,e,m,q⟩;obtain⟨i,j,rfl,rfl,c,rfl⟩:=a _ _ _ m;exact⟨i,j,k.int,e.int,c,q _ G H (.refl l) (b i j G)⟩
def Na{f:aq->aq->Sem aq}(h:ou X f (P5 g)):ou X f (rI (λc c=>True) g):=ou.imp h <|by rintro x y H Q ⟨i,j,b,a,_,q⟩;exact⟨i,j,b,a,q⟩
def acO:AL X (hI .Lt) O_:=EL (Na X2) (λx y d h=>by unfold O_ at h;split at h<;>cases h<;>simp) λi j G=>cR.mpr rfl
def Su:AL X (hI .Gt) tp:=EL (Na X3) (λx y d h=>by unfold tp at h;split at h<;>cases h<;>simp_all) λi j G=>cR.mpr rfl
noncomputable def nV:D->D->Option D
 |.int i,.int j=>Y (.int (i-j))|_,_=>M
def UI:AL X (cT .Sub) nV:=EL (Na Uv) (λx y d h=>by unfold nV at h;split at h<;>cases h<;>simp_all) λi j G=>bK.mpr rfl
noncomputable def hW:D->D->Option D
 |.int i,.int j=>if 0<j then Y (.int (i%j)) else M
 |_,_=>M
def UJ:AL X (cT .Mod) hW:=EL UA λx y d h=>by
 unfold hW at h;split at h<;>try (cases h)
 simp_all λi j G=>bK.mpr rfl
noncomputable def j7:D->D->Option D
 |.int i,.int j=>if 0<j/\j<2 ^ 64 then Y (.int (i/j)) else M
 |_,_=>M
def Nb:ou X (cT .FloorDiv) (rI (λc j=>0<j/\j<2 ^ 64) λi j =>.int (i/j)):=X4 λi j c c c c c a q=>by
 have b:j.natAbs<2 ^ 64:=ž
 refine floordiv_int (by lia) (by rw[LO i (by lia)];exact q) (.inl (PyProof.noPylong_of_log2 ?_));have:=(Nat.log2_lt Ÿ).mpr b
 lia
def ZJ:AL X (cT .FloorDiv) j7:=EL Nb λx y d h=>by
 unfold j7 at h;split at h<;>try (cases h)
 simp_all λi j G=>bK.mpr rfl
noncomputable def dE:Nat:=1000000
def gX:dE<=a_:=by decide
def iH:D->D->Option D
 |.int i,.int j=>Y (.int (i+j))|.str x,.str y=>if x.length+y.length<=dE then Y (.str (x++y)) else M
 |.lst xs,.lst a=>if xs.length+a.length<=dE then Y (.lst (xs++a)) else M
 |_,_=>M
set_option tactic.hygienic true in
def UK:AL X (cT .Add) iH:=by
 refine ou.imp (UC.or (GV.or Nc)) ?_;rintro x y H Q ⟨G,u,t,d,e,h,g,c,q⟩;unfold iH at c;split at c<;>try (cases c;done)
 .cases c;exact .inl ⟨_,_,h.int,g.int,q _ G H (.refl e) (bK.mpr rfl)⟩
 .split at c
  .cases c;rename_i f;exact .inr (.inl ⟨_,_,h.str,g.str,bz f gX,q _ G H (.refl e) (ij.mpr rfl)⟩)
  .cases c
 .split at c
  .cases c;rename_i f;obtain⟨a,l,s,o,j⟩:=h.lst e;obtain⟨b,m,r,n,i⟩:=g.lst e;refine .inr (.inr ⟨a,b,l,m,s,r,o,n,?_,λp k=>q _ _ _ (eJ.alloc e k) ?_⟩)
   .rw[<- j.length,<- i.length];exact bz f gX
   .exact bR.mpr ⟨p,_,rfl,aW,aY.mono (.alloc (e.free k)) _ (j.append i)⟩
  .cases c
instance:DecidablePred λp:Int×Int=>O8 p.1 p.2:=λp=>by unfold O8;infer_instance
def qI:D->D->Option D
 |.int i,.int j=>if (-(2 ^ 64)<i/\i<2 ^ 64)\/(-(2 ^ 64)<j/\j<2 ^ 64) then Y (.int (i*j)) else M
 |.lst a,.int k=>if (-(2 ^ 63)<=k/\k<2 ^ 63)/\a.length*k.toNat<=dE then Y (.lst (aM k.toNat a).flatten) else M
 |_,_=>M
set_option tactic.hygienic true in
def aaZ:AL X (cT .Mult) qI:=by
 refine ou.imp (Uz.or Uy) ?_;rintro x y H Q ⟨G,o,n,d,c,i,h,b,q⟩;unfold qI at b;split at b<;>try (cases b)
 .split at b
  .cases b;rename_i l;exact .inl ⟨_,_,i.int,h.int,l,q _ G H (.refl c) (bK.mpr rfl)⟩
  .cases b
 .split at b
  .cases b;rename_i e;obtain⟨a,j,m,k,f⟩:=i.lst c;refine .inr ⟨a,_,j,m,h.int,k,e.1.1,e.1.2,?_,λp g=>q _ _ _ (eJ.alloc c g) ?_⟩
   .rw[<- f.length];exact bz e.2 gX
   .exact bR.mpr ⟨p,_,rfl,aW,aY.mono (.alloc (c.free g)) _ (f.rep _)⟩
  .cases b
noncomputable def e1(o:D->Option D)(a:DF):DF:=λρ=>(a ρ).bind o
def Jp(h:e1 o a b=Y d):∃x,a b=Y x/\o x=Y d:=by
 obtain⟨x,c,h⟩:=aa.1 h;rw[c];exact⟨x,rfl,h⟩
noncomputable def KE:D->Option D
 |.int i=>Y (.int (-i))|_=>M
def abZ{b:List Nat}{f:DF}{c:Pos}(j:PE X a (tQ X.K b f)):PE X (.UnaryOp .USub a c) (tP X.K b (e1 KE f)):=(Sl Td j).imp <|by
 rintro r H Q ⟨G,h,d,l,e,n,k⟩;obtain⟨x,m,g⟩:=Jp n;cases x<;>simp[KE]at g
 subst g;exact⟨G,h,_,l,e,m,λv p o q i=>⟨_,i.int,k _ p o q (bK.mpr rfl)⟩⟩
end
inductive DO where
 |nx (ρ:bY)|rt (d:D)|ro (ds:List D)|bk (ρ:bY)|ct (ρ:bY)
 |rm (d:D) (ρ:bY)
 |rf (i:Nat) (ρ:bY)
 |ex (c:aE) (n:Int)
abbrev DG:=bY->Option DO
structure Bs where
 g:Hp
 h:Hp
 pin:List (Nat×ax)
 fly:aE->Int->Prop
def mq(K:aG)(G H:Hp):D->ax->List ax->Prop
 |.obj s t,a,S=>cv K G H s t (.ref a) S|.eQ _ _,_,S=>S=[]|d,a,S=>(∃o,H a=Y o/\jo K G d o)/\S=[a]
noncomputable def xO:D->Bool
 |.lst _=>Z'|.ins _ _ _=>Z'|.ji _ _=>Z'|_=>Z_
def jo.xO{K:aG}(h:jo K G d o):xO d=true:=by
 cases d<;>first|rfl|exact h.elim
def mq.cell{K:aG}{d:D}{a:ax}{S:List ax}(b:xO d=Z'):mq K G H d a S↔(∃o,H a=Y o/\jo K G d o)/\S=[a]:=by
 cases d<;>first|exact Iff.rfl|cases b
def mq.here{K:aG}{a:ax}{S:List ax}(h:mq K G H d a S):∀b∈S,∃o,H b=Y o:=λb c=>by
 cases d with
 |obj s t=>obtain⟨o,h,_⟩:=cv.here h b c;exact ź
 |eQ r p=>rw[h]at c;cases c|_=>obtain⟨⟨o,e,_⟩,lia⟩:=h;grind
def mq.mono{K:aG}{d:D}{S:List ax}(g:bf G G')(k:∀b∈S,∀o,H b=Y o->H' b=Y o)(h:mq K G H d a S):mq K G' H' d a S:=by
 cases d with
 |obj s t=>exact cv.mono g k h|eQ r p=>exact h|_=>obtain⟨⟨o,e,c⟩,rfl⟩:=h;exact⟨⟨o,k a ź o e,jo.mono g c⟩,rfl⟩
structure r9(K:aG)(B:Bs)(Z:List Nat)(G H:Hp)(σ:St)(ρ:bY)(F:Nat->List ax):Prop where
 it:∀(i:Nat) (d:D),i∈Z->ρ[i]?=some (some d)->∃a,σ[i]?=some (some (.ref a))/\mq K G H d a (F i)
 ok:∀(i:Nat) (d:D),i∈Z->ρ[i]?=some (some d)->(F i).Nodup/\∀b∈F i,G b=none/\B.2 b=none
 ap:∀(i j:Nat) (d c:D),i∈Z->j∈Z->ρ[i]?=some (some d)->ρ[j]?=some (some c)->i≠j->∀b∈F i,b∉F j
structure SR(K:aG)(B:Bs)(Z:List Nat)(G H:Hp)(σ:St)(ρ:bY):Prop where
 gh:bf G H
 g0:bf B.1 G
 h0:bf B.2 H
 fr:∀b o,G b=some o->B.1 b=some o\/B.2 b=none
 env:∀(i:Nat) (d:D),i∉Z->ρ[i]?=some (some d)->∃v,σ[i]?=some (some v)/\cS K G d v
 ow:∃F,r9 K B Z G H σ ρ F
 len:σ.length=ρ.length
 pin:∀(i:Nat) (a:ax),(i,a)∈B.3->i∈Z/\σ[i]?=some (some (.ref a))
 eQ:∀(j r:Nat) (p:yO),j∈Z->A8 j∈Z->ρ[j]?=some (some (.eQ r p))->F5 Z H σ ρ j r p
section
variable {K:aG}
def SR.jP(S:SR K B Z G H C A):eJ B.1 B.2 G H:=⟨S.h0,S.g0,S.gh,S.fr⟩
def SR.GU(S:SR K B Z G H C A)(b:i∈Z)(e:A[i]?=Y (Y d))(c:xO d=Z'):∃a o,C[i]?=Y (Y (.ref a))/\H a=Y o/\jo K G d o/\G a=M/\B.2 a=none:=by
 refine ae λkk =>?_
 obtain⟨F,W⟩:=S.ow;obtain⟨a,n,m⟩:=W.it i d b e;obtain _:=(mq.cell c).mp m;obtain _:=W.ok i d b e;refine kk ?_
 simp_all
def SR.jh(S:SR K B Z G H C A):j2 K Z G H C A:=⟨S.len,λi d e=>by
 by_cases j:i∈Z
 .obtain⟨F,W⟩:=S.ow;obtain⟨a,q,f⟩:=W.it i d j e;refine⟨_,q,?_⟩;rw[if_pos j];obtain⟨_,m⟩:=W.ok i d j e;cases d with
  |obj s t=>
   generalize F i=u at f m;cases f with
   |leaf r=>solve_by_elim|lst e t=>exact .inr ⟨a,_,rfl,e,_,.lst e t,λb k=>(m b k).1⟩
   |ins n e l t=>exact .inr ⟨a,_,rfl,e,_,.ins n e l t,λb k=>(m b k).1⟩
   |ji e l t=>exact .inr ⟨a,_,rfl,e,_,.ji e l t,λb k=>(m b k).1⟩
   |vl e p q r s=>exact .inr ⟨a,_,rfl,S.gh _ _ e,_,.vl e p q r s,λb k=>(m b k).1⟩
  |eQ r p=>solve_by_elim|lst=>obtain⟨⟨o,g,c⟩,h⟩:=f;exact .inr ⟨a,o,rfl,g,c⟩
  |ins=>obtain⟨⟨o,g,c⟩,h⟩:=f;exact .inr ⟨a,o,rfl,g,c⟩
  |ji=>obtain⟨⟨o,g,c⟩,h⟩:=f;exact .inr ⟨a,o,rfl,g,c⟩
  |_=>obtain⟨⟨o,g,c⟩,h⟩:=f;exact c.elim
 .obtain _:=S.env i d j e
  simp_all,S.eQ⟩
def gR{l:List (Option b)}(h:(l.set i (Y x))[j]?=Y (Y y)):(i=j/\y=x/\i<l.length)\/(i≠j/\l[j]?=Y (Y y)):=by
 by_cases e:i=j
 .subst e;by_cases a:i<l.length<;>simp_all
 .rw[av e]at h;exact .inr ⟨e,h⟩
def oG{l:List (Option a)}(h:i<l.length):(l.set i (Y x))[i]?=Y (Y x):=by rw[bj h]
def r9.ext{F:Nat->List ax}(W:r9 K B Z G H C A F)(E:eJ G H G' H'):r9 K B Z G' H' C A F:=by
 refine⟨λi d c e =>?_,λi d c e =>?_,W.ap⟩
 .obtain⟨a,h,g⟩:=W.it i d c e;exact⟨a,h,g.mono E.gg λb j o=>E.hh b o⟩
 .obtain⟨a,h,g⟩:=W.it i d c e;obtain⟨n,k⟩:=W.ok i d c e;refine⟨n,λb f=>⟨?_,(k b f).2⟩⟩;obtain _:=g.here b f;rcases q:G' b with _|u
  .rfl
  rcases E.fr b u q with z|z<;>simp_all
def SR.ext(S:SR K B Z G H C A)(E:eJ G H G' H'):SR K B Z G' H' C A:=by
 refine⟨E.gh,S.g0.trans E.gg,S.h0.trans E.hh,λb o e =>?_,λi d a e =>?_,?_,S.len,S.pin,λj r p f c e=>(S.eQ j r p f c e).ext E.hh⟩
 .rcases E.fr b o e with q|q
  .exact S.fr b o q
  .exact .inr (S.h0.free q)
 .obtain⟨v,h,g⟩:=S.env i d a e;exact⟨v,h,cS.mono E.gg d g⟩
 .obtain⟨F,W⟩:=S.ow;exact⟨F,W.ext E⟩
def SR.wu{v:V}(S:SR K B Z G H C A)(P:i∉Z)(r:cS K G d v):SR K B Z G H (C.set i (Y v)) (A.set i (Y d)):=by
 have f:∀j,j∈Z->i≠j:=λj b e=>P (e ▸ b)
 refine⟨S.gh,S.g0,S.h0,S.fr,λj c b e =>?_,?_,by simp[S.len],λj a h=>⟨(S.pin j a h).1,by rw[av (f j (S.pin j a h).1)];exact(S.pin j a h).2⟩,λj k p q R e =>?_⟩
 .rcases gR e with⟨rfl,rfl,u⟩|⟨n,e⟩
  .exact⟨v,oG (by rw[S.len];exact u),r⟩
  .obtain _:=S.env j c b e
   simp_all
 .obtain⟨F,W⟩:=S.ow;have m:∀j c,j∈Z->(A.set i (Y d))[j]?=Y (Y c)->A[j]?=Y (Y c):=λj c b e=>by simp_all
  refine⟨F,λj c b e =>?_,λj c b e=>W.ok j c b (m j c b e),λj k c t b s U T=>W.ap j k c t b s (m j c b U) (m k t s T)⟩;obtain _:=W.it j c b (m j c b e)
  simp_all
 .rw[av (f j q)]at e;obtain⟨o,Q,z,y,E,w,x,l,g,e3,X⟩:=S.eQ j k p q R e;exact⟨o,Q,z,y,E,w,x,ż,ż,ż,X⟩
def SR.HH{i:Nat}{a:ax}{d':D}{S' F0:List ax}{F:Nat->List ax}(S:SR K B Z G H C A)(W:r9 K B Z G H C A F)(hi:i∈Z)(h0:∀b∈F0,b∈F i/\∃d,A[i]?=Y (Y d))(gg:bf G G')(gh:bf G' H')(fr:∀b o,G' b=Y o->G b=Y o\/H b=M\/b∈F0)(v:∀b o,b∉F0->H b=Y o->H' b=Y o)(nw:mq K G' H' d' a S')(nd:S'.Nodup)(nf:∀b∈S',G' b=M/\(b∈F0\/H b=M\/(B.2 b=M/\∀k c,k∈Z->A[k]?=Y (Y c)->k≠i->b∉F k)))(abm:∀b,(i,b)∈B.3->b=a)(hna:∀r p,d' ≠ .eQ r p)(ha:∀j p,j∈Z->A8 j∈Z->j≠i->A[j]?=Y (Y (.eQ i p))->∃s t s' v',d'=.obj s t/\C[j]?=Y (Y v')/\gc H' p (.ref a)=Y v'/\mI p s=Y s'):
  SR K B Z G' H' (C.set i (Y (.ref a))) (A.set i (Y d'))/\r9 K B Z G' H' (C.set i (Y (.ref a))) (A.set i (Y d')) (λj=>if j=i then S' else F j):=by
 have b0:∀b∈F0,G b=M/\B.2 b=none:=λb g=>by obtain⟨X,d,U⟩:=h0 b g;exact(W.ok i d hi U).2 b X
 have P:∀j c,j∈Z->A[j]?=Y (Y c)->i≠j->∀b∈F j,b∉F0:=λj c l ej f b g Vq=>by obtain⟨X,d,U⟩:=h0 b Vq;exact W.ap i j d c hi l U ej f b X g
 have W':r9 K B Z G' H' (C.set i (Y (.ref a))) (A.set i (Y d')) (λj=>if j=i then S' else F j):=by
  refine⟨λj c l e =>?_,λj c l e =>?_,λj k c c' l hk ej ek ZS =>?_⟩
  .rcases gR e with⟨rfl,rfl,Q⟩|⟨f,e⟩
   .exact⟨a,oG (by rw[S.len];exact Q),by simpa using nw⟩
   .obtain⟨b,R,I⟩:=W.it j c l e;refine⟨b,by rw[av f];exact R,?_⟩;simp only[if_neg (bE f)];exact I.mono gg λx hx o=>v x o (P j c l e f x hx)
  .rcases gR e with⟨rfl,rfl,Q⟩|⟨f,e⟩
   .simp only[if_true];refine⟨nd,λb g=>⟨(nf b g).1,?_⟩⟩;rcases(nf b g).2 with z|z|z
    .exact(b0 b z).2
    .exact S.h0.free z
    .exact z.1
   .simp only[if_neg (bE f)];obtain⟨n,k⟩:=W.ok j c l e;obtain⟨x,R,I⟩:=W.it j c l e;refine⟨n,λb g=>⟨?_,(k b g).2⟩⟩;rcases q:G' b with _|u
    .rfl
    rcases fr b u q with z|z|z
    .rw[(k b g).1]at z;cases z
    .obtain⟨o,ho⟩:=I.here b g;rw[ho]at z;cases z
    .exact absurd z (P j c l e f b g)
  .have y:∀m c,m∈Z->A[m]?=Y (Y c)->i≠m->∀b∈S',b∉F m:=λm c hm em f b g T=>by
    rcases(nf b g).2 with z|z|z
    .exact P m c hm em f b T z
    .obtain⟨x,R,I⟩:=W.it m c hm em;obtain⟨o,ho⟩:=I.here b T;rw[ho]at z;cases z
    .exact z.2 m c hm em (bE f) T
   rcases gR ej with⟨rfl,rfl,Q⟩|⟨f,ej1⟩
   .rcases gR ek with⟨rfl,_,_⟩|⟨f,ek1⟩
    .exact absurd rfl ZS
    .simp only[if_true,if_neg (bE f)];exact y k c' hk ek1 f
   .rcases gR ek with⟨rfl,rfl,Q⟩|⟨abp,ek1⟩
    .simp only[if_true,if_neg (bE f)];exact λb g Vr=>y j c l ej1 f b Vr g
    .simp only[if_neg (bE f),if_neg (bE abp)];exact W.ap j k c c' l hk ej1 ek1 ZS
 refine⟨⟨gh,S.g0.trans gg,λb o e =>?_,λb o e =>?_,λj c l e =>?_,⟨_,W'⟩,by simp[S.len],λj b h =>?_,λj r p X U e =>?_⟩,W'⟩
 .refine v b o (λz =>?_) (S.h0 b o e);rw[(b0 b z).2]at e;cases e
 .rcases fr b o e with z|z|z
  .exact S.fr b o z
  .exact .inr (S.h0.free z)
  .exact .inr (b0 b z).2
 .have f:i≠j:=λz=>l (z ▸ hi)
  rw[av f]at e;obtain⟨u,R,I⟩:=S.env j c l e;exact⟨u,by rw[av f];exact R,cS.mono gg c I⟩
 .obtain⟨p1,p2⟩:=S.pin j b h;refine⟨p1,?_⟩;by_cases WB:i=j
  .subst WB;rw[abm b h,bj (au.mp p2).1]
  .rw[av WB];exact p2
 .rcases gR e with⟨rfl,z,Q⟩|⟨f,e'⟩
  .exact absurd z.symm (hna r p)
  .clear e;have e:=e';clear e';by_cases E:r=i
   .refine ae λkk =>?_
    subst E;obtain⟨s,t,s',v',f1,f2,f3,f4⟩:=ha j p X U (bE f) e;obtain⟨g1,g0,s0,t0,s1,w,v1,g2,g3,g4,g5,g6,g7⟩:=S.eQ j r p X U e;have Q:r<A.length:=(au.mp g2).1;refine kk (⟨hi,g0,s,t,s',.ref a,v',?_,oG (by rw[S.len];exact Q),?_,f3,f4,g7⟩)
    .rw[oG Q,f1]
    .rw[av f];exact f2
   .refine ae λkk =>?_
    obtain⟨g1,g0,s0,t0,s1,w,v1,g2,g3,g4,g5,g6⟩:=S.eQ j r p X U e;obtain⟨x,R,I⟩:=W.it r _ g1 g2;rw[g3]at R;cases R;refine kk (⟨g1,g0,s0,t0,s1,.ref x,v1,by rw[av (bE E)];exact g2,by rw[av (bE E)];exact g3,by rw[av f];exact g4,?_,g6⟩);exact cv.C7 (show cv K G H s0 t0 (.ref x) (F r) from I) g6.1 (λb g o=>v b o (P r _ g1 g2 (bE E) b g)) g5
def SR.chg{i:Nat}{a:ax}{d':D}{S' F0:List ax}{F:Nat->List ax}(S:SR K B Z G H C A)(W:r9 K B Z G H C A F)(q:i∈Z)(v:∀b∈F0,b∈F i/\∃d,A[i]?=Y (Y d))(x:bf G G')(w:bf G' H')(y:∀b o,G' b=Y o->G b=Y o\/H b=M\/b∈F0)(c:∀b o,b∉F0->H b=Y o->H' b=Y o)(m:mq K G' H' d' a S')(n:S'.Nodup)(h:∀b∈S',G' b=M/\(b∈F0\/H b=M))(e:∀b,(i,b)∈B.3->b=a)(f:∀r p,d' ≠ .eQ r p)(u:∀j p,j∈Z->A8 j∈Z->j≠i->A[j]?=Y (Y (.eQ i p))->∃s t l g,d'=.obj s t/\C[j]?=Y (Y g)/\gc H' p (.ref a)=Y g/\mI p s=Y l):
  SR K B Z G' H' (C.set i (Y (.ref a))) (A.set i (Y d')):=
 (S.HH W q v x w y c m n (λb k=>⟨(h b k).1,by rcases(h b k).2 with z|z;exact .inl z;exact .inr (.inl z)⟩) e f u).1
def SR.Sw(S:SR K B Z G H C A)(b:A[i]?=Y (Y d))(c:xO d=Z'):∀j p,j∈Z->A8 j∈Z->A[j]?=Y (Y (.eQ i p))->False:=λj p g f e=>by
 obtain⟨n,o,m,k,l,w,h,a,_⟩:=S.eQ j i p g f e;rw[b]at a;cases a;cases c
def DI(a:xO d=Z'):∀r p,d ≠ .eQ r p:=λr p e=>by subst e;cases a
def SR.setC(S:SR K B Z G H C A)(m:i∈Z)(E:eJ G H G' H')(k:H p=M)(t:G' p=M)(g:H' p=Y o)(r:jo K G' d o)(c:∀a,(i,a)∉B.3)(l:x_ i∉Z):SR K B Z G' H' (C.set i (Y (.ref p))) (A.set i (Y d)):=by
 obtain⟨F,W⟩:=S.ow;exact S.chg (F0:=[]) W m (λb f=>by cases f) E.gg E.gh λb o e=>by rcases E.fr b o e with z|z<;>simp_all (λb o u e=>E.hh b o e)
  ((mq.cell r.xO).mpr ⟨⟨o,g,r⟩,rfl⟩) Ž λb f=>by simp_all (λb h=>absurd h (c b)) (DI r.xO) λj q s n u e=>(l (S.eQ j i q s n e).2.1).elim
def SR.X_{f:HO}(S:SR K B Z G H C A)(m:i∈Z)(g:A[i]?=Y (Y d))(l:C[i]?=Y (Y (.ref a)))(r:jo K G p f)(s:autoParam (xO d=true) ŭ):SR K B Z G (dD H a f) C (A.set i (Y p)):=by
 obtain⟨F,W⟩:=S.ow;obtain⟨z,v,y⟩:=W.it i d m g;rw[l]at v;cases v;obtain⟨⟨o,_⟩,u⟩:=(mq.cell s).mp y;obtain⟨n,k⟩:=W.ok i d m g;rw[u]at k;have t:=(k a ź).1;have:=S.chg (F0:=[a]) W m (λb c=>⟨ż,d,g⟩) (bf.refl _) (λb o e=>by rw[aP (bF e t)];exact S.gh b o e) (λb o e =>.inl e)
  λb o c e=>by simp_all [aP] ((mq.cell r.xO).mpr ⟨⟨f,aW,r⟩,rfl⟩) Ž λb c=>by simp_all
  λb h=>by have:=(S.pin i b h).2;simp_all (DI r.xO) λj q x w D e=>(S.Sw g s j q x w e).elim
 simp_all [fS]
def SR.PU{p:ax}(S:SR K B Z G H C A)(h:i∈Z)(E:eJ G H G' H')(f:H p=M)(j:G' p=M)(e:H' p=Y (.lst c))(r:aY K G' d c)(b:∀a,(i,a)∉B.3)(g:x_ i∉Z):SR K B Z G' H' (C.set i (Y (.ref p))) (A.set i (Y (.lst d))):=
 S.setC h E f j e ⟨c,rfl,r⟩ b g
def SR.mut(S:SR K B Z G H C A)(e:i∈Z)(f:A[i]?=Y (Y (.lst g)))(d:C[i]?=Y (Y (.ref a)))(r:aY K G c b):SR K B Z G (dD H a (.lst b)) C (A.set i (Y (.lst c))):=
 S.X_ e f d ⟨b,rfl,r⟩
def SR.freeze{Ź:List Nat}(S:SR K B Z G H C A)(f:∀j∈Ź,j∈Z)(i:Nat)(Q:∀j∈Z,j∈Ź\/j=i)(hn:i∉Ź)(P:i∈Z)(U:∀a,(i,a)∉B.3)(T:x_ i∉Z)(SA:i<1000000):∃G',SR K B Ź G' H C A:=by
 obtain⟨F,W⟩:=S.ow;have I:∀(j:Nat) (a:ax),(j,a)∈B.3->j∈Ź/\C[j]?=Y (Y (.ref a)):=λj a h=>⟨by
  rcases Q j (S.pin j a h).1 with z|z
  .exact z
  .subst z;exact absurd h (U a),(S.pin j a h).2⟩
 by_cases R:∃d,A[i]?=Y (Y d)
 .obtain⟨d,R⟩:=R;obtain⟨a,e1,E⟩:=W.it i d P R;obtain⟨nd,k⟩:=W.ok i d P R;have n0:=λb D=>(k b D).1
  have l:bf G (i4 G H (F i)):=kB n0;have rep:cS K (i4 G H (F i)) d (.ref a):=by
   cases d with
   |obj s t=>exact su.mpr (cv.frozen n0 (λb D=>D) (E))
   |eQ r p=>exact yw.mpr ⟨a,rfl⟩|dW=>obtain⟨⟨o,q,g⟩,x⟩:=E;exact g.elim
   |bl=>obtain⟨⟨o,q,g⟩,x⟩:=E;exact g.elim
   |int=>obtain⟨⟨o,q,g⟩,x⟩:=E;exact g.elim
   |str=>obtain⟨⟨o,q,g⟩,x⟩:=E;exact g.elim
   |tup=>obtain⟨⟨o,q,g⟩,x⟩:=E;exact g.elim
   |kA=>obtain⟨⟨o,q,g⟩,x⟩:=E;exact g.elim
   |_=>obtain⟨⟨o,q,g⟩,x⟩:=E;exact(jo.mono l g).rep (by rw[gS (by rw[x];solve_by_elim)];exact q)
  refine⟨i4 G H (F i),i' S.gh,S.g0.trans l,S.h0,λb o e =>?_,λj c n e =>?_,⟨F,λj c n e =>?_,λj c n e =>?_,λj m c c' n T=>W.ap j m c c' (f j n) (f m T)⟩,S.len,I,λj r p h1 h2 e =>?_⟩
  .by_cases D:b∈F i
   .exact .inr (k b D).2
   .rw[iZ D]at e;exact S.fr _ _ e
  .by_cases v:j∈Z
   .rcases Q j v with z|z<;>simp_all
   .obtain⟨u,q,g⟩:=S.env j c v e;exact⟨u,q,cS.mono l c g⟩
  .obtain⟨b,q,g⟩:=W.it j c (f j n) e;exact⟨b,q,g.mono l λJ J J z=>z⟩
  .obtain⟨nd',k'⟩:=W.ok j c (f j n) e;refine⟨nd',λb D=>⟨?_,(k' b D).2⟩⟩;rw[iZ (λz=>W.ap i j d c P (f j n) R e (λz=>hn (z ▸ n)) b z D)];exact(k' b D).1
  .obtain⟨g1,X,s0,t0,s1,w,v1,g2,g3⟩:=S.eQ j r p (f j h1) (f _ h2) e;rcases Q r g1 with z|z
   .rcases Q _ X with y|y
    .exact⟨z,y,s0,t0,s1,w,v1,g2,g3⟩
    .unfold x_ at y;lia
   simp_all
 .refine⟨G,S.gh,S.g0,S.h0,S.fr,λj c n e =>?_,⟨F,λj c n e=>W.it j c (f j n) e,λj c n e=>W.ok j c (f j n) e,λj m c c' n T=>W.ap j m c c' (f j n) (f m T)⟩,S.len,I,λj r p h1 h2 e =>?_⟩
  .by_cases v:j∈Z
   .grind
   .exact S.env j c v e
  .obtain⟨g1,X,s0,t0,s1,w,v1,g2,g3⟩:=S.eQ j r p (f j h1) (f _ h2) e;rcases Q r g1 with z|z
   .rcases Q _ X with y|y
    .exact⟨z,y,s0,t0,s1,w,v1,g2,g3⟩
    .unfold x_ at y;lia
   simp_all
end
def Zs(K:aG)(B:Bs)(I Z:List Nat)(e:Ends):DO->Prop
 |.nx A=>∀C G H,SR K B Z G H C A->e.nx C H|.rt d=>∀v G H,eJ B.1 B.2 G H->cS K G d v->e.rt v H|.ro g=>∀a f G H,eJ B.1 B.2 G H->B.2 a=M->G a=M->H a=Y (.lst f)->aY K G g f->e.rt (.ref a) H|.bk A=>∀C G H,SR K B I G H C A->e.bk C H|.ct A=>∀C G H,SR K B I G H C A->e.ct C H
 |.rm d A=>∀v C G H,(∃b,SR K B b G H C A)->cS K G d v->e.rt v H|.rf i A=>∀v C G H,(∃b,i∈b/\SR K B b G H C A)->C[i]?=Y (Y v)->e.rt v H|.ex c n=>B.fly c n
inductive gD (K:aG) (B:Bs) (I Z a:List Nat) (g:DG) (b:Ends) (C:St) (H:Hp):Prop
 |mk G A o:SR K B Z G H C A->g A=some o->Zs K B I a b o->gD K B I Z a g b C H
section
variable {X:Cx}
noncomputable def cO:DG:=λA=>Y (.nx A)
def kY:lX X [] (gD X.K B I Z Z cO):=yx.imp <|by rintro D C H ⟨G,A,o,S,a,k⟩;cases a;exact ź
noncomputable def aX(g h:DG):DG:=λA=>(g A).bind λo=>match o with|.nx a=>h a|o=>Y o
def TN{K:aG}{e:Ends}(q:gD K B I Z L (aX g h) e C H):gD K B I Z own1 g { e with nx:=λC H=>gD K B I own1 L h e C H } C H:=by
 obtain⟨G,A,o,S,a,k⟩:=q;obtain⟨f,l,a⟩:=aa.1 a;refine⟨G,A,f,S,l,?_⟩;cases f with
 |nx b=>exact λj G' H' m=>⟨G',b,o,m,a,k⟩
 |_=>cases a;exact k
def ay(b:PS X N (gD X.K B I Z own1 g))(a:lX X O (gD X.K B I own1 L h)):lX X (N::O) (gD X.K B I Z L (aX g h)):=(ir b a).imp λD C H q=>TN q
def bZ(a:PS X N (gD X.K B I Z own1 g)):lX X [N] (gD X.K B I Z own1 g):=mE a
def uG{b:List nW}(i:Nat)(n:lX X b (gD X.K B I own1 L g))(d:autoParam (∀j∈own1,j∈Z) ū)(m:autoParam (∀j∈Z,j∈own1\/j=i) ū)(h:autoParam (i∉own1) ū)(f:autoParam (i∈Z) ū)(c:autoParam (∀a,(i,a)∉B.3) Ŧ)(l:autoParam (x_ i∉Z) ū)(e:autoParam (i<1000000) ū):lX X b (gD X.K B I Z L g):=
 n.imp <|by rintro D C H ⟨G,A,o,S,p,k⟩;obtain⟨G',q⟩:=S.freeze d i m h f c l e;exact⟨G',A,o,q,p,k⟩
noncomputable def cN(i:Nat)(f:DF):DG:=λA=>(f A).map λd =>.nx (A.set i (Y d))
def ml{i:Nat}{f:DF}(n:X.N.Nodup)(j:X.N[i]?=Y x)(c:Loc X.env.scope x)(m:PE X e (tP X.K Z f))(h:autoParam (i∉Z) ū)(g:autoParam (bU e (Y (.Name x a)) J.line X.env=dn false) ŭ)(l:autoParam (X.fn x=Z'\/X.env.scope.names.lookup x=Y .local) Ũ):
  PS X (.Assign [.Name x a] e J) (gD X.K B I Z Z (cN i f)):=(jZ n j c m g l).imp <|by
 rintro D C H ⟨G,A,o,S,b,k⟩;obtain⟨d,p,b⟩:=aj.1 b;cases b;exact⟨G,A,d,S.gh,S.jh,p,λv G' H' E r=>k _ G' H' ((S.ext E).wu h r)⟩
noncomputable def j5(i:Nat)(f:DL):DG:=λA=>(f A).map λa =>.nx (A.set i (Y (.lst a)))
def Q6{i:Nat}{f:DL}(u:X.N.Nodup)(q:X.N[i]?=Y x)(g:Loc X.env.scope x)(t:PE X e (tF X.K Z f))(m:autoParam (i∈Z) ū)(c:autoParam (∀a,(i,a)∉B.3) Ŧ)(n:autoParam (x_ i∉Z) ū)(j:autoParam (bU e (Y (.Name x b)) J.line X.env=dn false) ŭ)(s:autoParam (X.fn x=Z'\/X.env.scope.names.lookup x=Y .local) Ũ):
  PS X (.Assign [.Name x b] e J) (gD X.K B I Z Z (j5 i f)):=(jZ u q g t j s).imp <|by
 rintro D C H ⟨G,A,o,S,d,k⟩;obtain⟨y,w,d⟩:=aj.1 d;cases d;exact⟨G,A,y,S.gh,S.jh,w,λp z G' H' E l v h r=>k _ G' H' (S.PU m E l v h r c n)⟩
noncomputable def dy(f:DF):DG:=λA=>(f A).map .rt
def lI{f:DF}(b:PE X e (tP X.K Z f)):PS X (.Return (Y e) J) (gD X.K B I Z own1 (dy f)):=(nG b).imp <|by
 rintro D C H ⟨G,A,o,S,a,k⟩;obtain⟨d,c,a⟩:=aj.1 a;cases a;exact⟨G,A,d,S.gh,S.jh,c,λv G' H' E r=>k v G' H' (S.jP.trans E) r⟩
noncomputable def pq(f:DL):DG:=λA=>(f A).map .ro
def vC{f:DL}(h:PE X e (tF X.K Z f)):PS X (.Return (Y e) J) (gD X.K B I Z own1 (pq f)):=(nG h).imp <|by
 rintro D C H ⟨G,A,o,S,a,k⟩;obtain⟨d,j,a⟩:=aj.1 a;cases a;exact⟨G,A,d,S.gh,S.jh,j,λp b G' H' E g i c r=>k p b G' H' (S.jP.trans E) (S.h0.free g) i c r⟩
def Im(i:Nat):DG:=λA=>(eV i A).bind λd=>match d with|.lst a=>Y (.ro a)|_=>M
def Z1{i:Nat}(h:PE X (.Name x p) (fB i))(f:autoParam (i∈Z) ū):PS X (.Return (Y (.Name x p)) J) (gD X.K B I Z own1 (Im i)):=(nG h).imp <|by
 rintro D C H ⟨G,A,o,S,b,k⟩;obtain⟨d,g,b⟩:=aa.1 b;cases d<;>simp at b<;>try (done)
 obtain⟨a,q,n,m,c,l,j⟩:=S.GU f (gW g) rfl;obtain⟨e,rfl,c⟩:=c;cases b;exact⟨_,n,k a e G H S.jP j l m c⟩
def BD(i:Nat):DG:=λA=>(eV i A).map λ_ =>.rf i A
def Ju{i:Nat}(h:PE X (.Name x p) (fB i))(c:autoParam (i∈Z) ū):PS X (.Return (Y (.Name x p)) J) (gD X.K B I Z own1 (BD i)):=(nG h).imp <|by
 rintro D C H ⟨G,A,o,S,b,k⟩;obtain⟨d,f,b⟩:=aj.1 b;cases b;obtain⟨F,W⟩:=S.ow;obtain⟨a,e,_⟩:=W.it i d c (gW f);exact⟨_,e,k _ C G H ⟨Z,c,S⟩ e⟩
noncomputable def d_(f:DT)(g h:DG):DG:=λA=>(f A).bind λb=>if b=Z' then g A else h A
def rS{c:Expr}{b:List nW}{f:DT}(j:PT X c (qP X.K Z f))(m:lX X a (gD X.K B I Z own1 g))(l:lX X b (gD X.K B I Z own1 h)):PS X (.If c a b J) (gD X.K B I Z own1 (d_ f g h)):=(Ex j m l).imp <|by
 rintro D C H ⟨G,A,o,S,d,k⟩;obtain⟨c,n,d⟩:=aa.1 d;refine⟨G,A,c,S.gh,S.jh,n,λe p i =>?_⟩;cases c with
 |true=>exact vu ⟨e,A,o,S.ext i,d,k⟩|false=>exact Ba ⟨e,A,o,S.ext i,d,k⟩
def gk(i:Nat)(A:bY):Option (List D):=(eV i A).bind λd=>match d with|.lst a=>Y a|_=>M
def cA(h:gk i A=Y a):A[i]?=Y (Y (.lst a)):=by
 obtain⟨d,b,h⟩:=aa.1 h;cases d<;>first|(cases h;exact gW b)|cases h
def SR.mH{K:aG}(S:SR K B Z G H C A)(d:i∈Z)(h:A[i]?=Y (Y (.lst c))):∃a b,C[i]?=Y (Y (.ref a))/\H a=Y (.lst b)/\aY K G c b/\G a=M/\B.2 a=none:=by
 obtain⟨a,k,j,g,⟨b,rfl,f⟩,e⟩:=S.GU d h rfl;exact⟨a,b,j,g,f,e⟩
def qG(i:Nat)(f:DF):DG:=λA=>(gk i A).bind λa=>(f A).bind λd=>if a.length<dE then Y (.nx (A.set i (Y (.lst (a++[d]))))) else M
set_option tactic.hygienic true in
def abT{i:Nat}{c b:Pos}{f:DF}(h:PE X (.Name x p) (fB i))(R:PE X e (tP X.K Z f))(t:autoParam (i∈Z) ū)(m:autoParam (bQ (.Name x p) "append" X.env (eval (.Name x p) X.env)=eval (.Name x p) X.env) ŭ) (n:autoParam (((bX b (ao (e::[]) X.env)).all (λx=> !x.1)&&(eM b (cq [] X.env)).all (λx=>x.1.isSome)
   && decide ((e::[]).length+([]:List lh).length+(if ([]:List lh).isEmpty then 0 else 1)<30))=true) ŭ) (l:autoParam ((c.endLine==b.line)=true) ŭ) (z:autoParam (ao (e::[]) X.env=(Z_,eval e X.env)::ao [] X.env) ŭ) (g:autoParam ((bX b (ao [] X.env)).any (·.1)=false) ŭ) (s:autoParam (bU (.Call (.Attribute (.Name x p) "append" c) [e] [] b) M J.line X.env=dn false) ŭ) :
  PS X (.Expr (.Call (.Attribute (.Name x p) "append" c) [e] [] b) J) (gD X.K B I Z Z (qG i f)):=
 (mF (BH gw PySem.F.slot_list_append PySem.F.type_list_append mW h (bS R dI z) m n l z g) s).imp <|by
  rintro D C H ⟨G,A,o,S,j,k⟩;obtain⟨ds,U,j⟩:=aa.1 j;rw[aa]at j;obtain⟨d,w,j⟩:=j;split at j
  .cases j;rename_i Q;have u:=cA U;obtain⟨a,P,y,e3,_⟩:=S.mH t u;refine⟨_,y,.inl ⟨rfl,P,.of e3⟩,G,A,d,S.gh,S.jh,w,λv G' H' E r =>?_⟩;have L:=S.ext E;refine ae λkk =>?_
   obtain⟨a',q,K,T,F,_⟩:=L.mH t u;rw[y]at K;cases K;refine kk (⟨a,q,v,rfl,rfl,T,?_,k _ G' _ (L.mut t u y (F.append (.cons r .nil)))⟩);rw[<- F.length];exact bw Q gX
  .cases j
def Uk{K:aG}(S:SR K B Z G H C A)(f:j∈Z)(g:A[j]?=Y (Y (.lst b)))(n:b[b.length-1]?=Y d)(k:∀v H',SR K B Z G H' C (A.set j (Y (.lst b.dropLast)))->cS K G d v->Q v H'):Xk K "list" XC (fB j) C H Q:=by
 obtain⟨a,e,l,i,c,_⟩:=S.mH f g;obtain⟨v,h,m⟩:=c.get n;rw[c.length]at h;exact⟨_,l,.inl ⟨rfl,e,.of i⟩,a,e,v,rfl,rfl,i,h,k v _ (S.mut f g l c.dropLast) m⟩
def Iq(i:Nat)(f:DF):DG:=λA=>(gk i A).bind λb=>(f A).bind λd=>match d with|.lst a=>if b.length+a.length<=dE then Y (.nx (A.set i (Y (.lst (b++a))))) else M|_=>M
set_option tactic.hygienic true
def Lg{g:Pos}{f:DF}(h:PE X (.Name x p) (fB i))(he:PE X e (tP X.K Z f))(u:autoParam (i∈Z) ū)(n:autoParam (bQ (.Name x p) "extend" X.env (eval (.Name x p) X.env)=eval (.Name x p) X.env) ŭ) (q:autoParam (((bX c (ao (e::[]) X.env)).all (λx=> !x.1)&&(eM c (cq [] X.env)).all (λx=>x.1.isSome)
   && decide ((e::[]).length+([]:List lh).length+(if ([]:List lh).isEmpty then 0 else 1)<30))=true) ŭ) (m:autoParam ((g.endLine==c.line)=true) ŭ) (L:autoParam (ao (e::[]) X.env=(Z_,eval e X.env)::ao [] X.env) ŭ) (l:autoParam ((bX c (ao [] X.env)).any (·.1)=false) ŭ) (t:autoParam (bU (.Call (.Attribute (.Name x p) "extend" g) [e] [] c) M J.line X.env=dn false) ŭ) :
  PS X (.Expr (.Call (.Attribute (.Name x p) "extend" g) [e] [] c) J) (gD X.K B I Z Z (Iq i f)):=
 (mF (BH gw PySem.F.slot_list_extend PySem.F.type_list_extend KH h (bS he dI L) n q m L l) t).imp <|by
  rintro D C H ⟨G,A,o,S,j,k⟩;obtain⟨ds,el,j⟩:=aa.1 j;rw[aa]at j;obtain⟨d,y,j⟩:=j;cases d<;>simp only at j<;>try (cases j;done)
  split at j
  .cases j;rename_i es U;have w:=cA el;obtain⟨a,R,z,e3,_⟩:=S.mH u w;refine⟨_,z,.inl ⟨rfl,R,.of e3⟩,G,A,_,S.gh,S.jh,y,λv G' H' E r =>?_⟩;have F:=S.ext E;refine ae λkk =>?_
   obtain⟨a',s,Q,f3,P,_⟩:=F.mH u w;rw[z]at Q;cases Q;obtain⟨b,T,rfl,gb,K⟩:=bR.mp r;refine kk (⟨a,b,s,T,rfl,rfl,f3,F.gh _ _ gb,?_,k _ G' _ (F.mut u w z (P.append K))⟩);rw[<- P.length,<- K.length];exact bz U gX
  .cases j
def MI(j:Nat)(b c:DF):DG:=λA=>(c A).bind λd=>(gk j A).bind λa=>(b A).bind λk=>match k with|.int k=>(DW a.length k).map λn =>.nx (A.set j (Y (.lst (a.set n d))))|_=>M
def Q_{g:Expr}{F P:DF}(h:PE X (.Name x p) (fB j))(y:PE X g (tQ X.K Z F))(he:PE X e (tP X.K Z P))(w:autoParam (j∈Z) ū)(hg:∀ {s t:TE},PE X (.Name x p) s->PE X g t->PG X (.Subscript (.Name x p) g b) (Yv s t Sg):=by intro s t h1 h2;exact Uo h1 h2 O9)(hs:autoParam (swapsWithSole [.Subscript (.Name x p) g b] e J.line X.env=dn false) ŭ)(hw:autoParam (swappedStores [.Subscript (.Name x p) g b] e X.env=dn none) ŭ):
  PS X (.Assign [.Subscript (.Name x p) g b] e J) (gD X.K B I Z Z (MI j F P)):=
 (Uj he (hg h y) hs hw).imp <|by
  rintro D C H ⟨G,A,o,S,c,k⟩;obtain⟨d,ef,c⟩:=aa.1 c;rcases l:gk j A with _|ds
  .simp[l]at c
  rcases f:F A with _|i
  .simp_all
  simp only[l,f,ai]at c;cases i<;>simp only at c<;>try (cases c;done)
  rename_i i;rcases K:DW ds.length i with _|n
  .simp[K]at c
  simp only[K,d9]at c;cases c;have z:=cA l;refine⟨G,A,d,S.gh,S.jh,ef,λv G' H' E r =>?_⟩;have m:=S.ext E;obtain⟨a,vs,L,_⟩:=m.mH w z;refine⟨_,L,G',A,_,m.gh,m.jh,f,λu G2 H2 U r2 =>?_⟩;have T:=m.ext U;obtain⟨a',q,R,f3,Q,_⟩:=T.mH w z;rw[L]at R;cases R;exact⟨a,q,i,n,rfl,r2.int,f3,by rw[<- Q.length];exact K,k _ G2 _ (T.mut w z L (Q.set n (cS.mono U.gg d r)))⟩
end
section
variable {X:Cx}{f:DF}
def JT.imp(h:JT X r)(k:∀x y H Q,d x y H Q->r x y H Q):JT X d:=λa b c s e H x y v u Q I g f q i=>h a b c s e H x y v u Q I g f (k _ _ _ _ q) i
def PO.imp{e:Option Expr}(h:PO X e t)(k:∀b H Q,c b H Q->t b H Q):PO X e c:=λa s b H Q I q=>h a s b H Q I (k _ _ _ q)
def lu.imp(h:lu X c r)(k:∀b H Q,d b H Q->r b H Q):lu X c d:=λa s e H b f Q I g q=>h a s e H b f Q I g (k _ _ _ q)
def aY.oY{K:aG}{a:List D}{b:List V}(r:aY K G a b)(h:oY a i=Y d):∃v,L2.oY b i=Y v/\cS K G d v:=by
 unfold L2.oY at h ⊢;rw[<- r.length];obtain⟨j,e,h⟩:=aa.1 h;rw[e];exact r.get h
def yN{a b:Type}(g:a->b)(xs:List a)(i:Int):oY (xs.map g) i=(oY xs i).map g:=by
 unfold oY;rw[aD];cases DW _ i<;>simp_all
def b9:D->D->Option D
 |.lst a,.int i=>oY a i|.tup a,.int i=>oY a i|.kA b,.int i=>(oY b i).map .int|.str x,.int i=>if x.length<=dE then (oY x.cps.toList i).map λc =>.str ⟨#[c]⟩ else M
 |_,_=>M
def Ta:JT X (rD X.K b9):=by
 refine JT.imp C3 ?_;rintro x y H Q ⟨G,u,t,d,b,h,g,a,q⟩;unfold b9 at a;split at a<;>try (cases a)
 .obtain⟨p,j,f,e,l⟩:=h.lst b;obtain⟨v,o,k⟩:=l.oY a;exact .inl ⟨p,j,_,v,f,g.int,.of e,o,q _ G H (.refl b) k⟩
 .obtain⟨p,j,f,e,l⟩:=h.tup b;obtain⟨v,o,k⟩:=l.oY a;exact .inr (.inl ⟨p,j,_,v,f,g.int,.of e,o,q _ G H (.refl b) k⟩)
 .obtain⟨p,f,e⟩:=h.kA b;obtain⟨c,r,a⟩:=aj.1 a;cases a;exact .inl ⟨p,_,_,_,f,g.int,e,by rw[yN,r];solve_by_elim,q _ G H (.refl b) (bK.mpr rfl)⟩
 .split at a<;>try (cases a)
  obtain⟨c,r,a⟩:=aj.1 a;cases a;exact .inr (.inr ⟨_,_,c,h.str,g.int,bz ž gX,r,q _ G H (.refl b) (ij.mpr rfl)⟩)
def B4(e:PE X a (tQ X.K Z fa))(d:PE X b (tQ X.K Z fb))(c:autoParam (sN b) š):PE X (.Subscript a b w) (tP X.K Z (e2 b9 fa fb)):=(Ez Ta e d c).imp λf H Q h=>ID h
abbrev DP:=bY->Option (Option Int)
noncomputable def pN:DP:=λ_=>Y M
noncomputable def pS(f:DF):DP:=λa=>(f a).bind λd=>match d with|.int i=>Y (Y i)|_=>M
def Ql{f:DF}{a:bY}(h:pS f a=Y o):∃i,f a=Y (.int i)/\o=Y i:=by
 obtain⟨d,e,h⟩:=aa.1 h
 grind
inductive Tv (K:aG) (Z:List Nat) (f:DP) (c:St) (H:Hp) (Q:Option Int->Hp->Prop):Prop
 |mk G a o:bf G H->j2 K Z G H c a->f a=some o->(∀d b,eJ G H d b->Q o b)->Tv K Z f c H Q
def vF:PO X M (Tv X.K Z pN):=Qf.imp <|by rintro d H Q ⟨G,e,o,a,c,b,k⟩;cases b;exact k G H (.refl a)
def vE(h:PE X e (tQ X.K Z f)):PO X (Y e) (Tv X.K Z (pS f)):=(Qe h).imp <|by
 rintro r H Q ⟨G,b,o,d,a,g,k⟩;obtain⟨i,j,rfl⟩:=Ql g;exact⟨G,b,_,d,a,j,λv p l q c=>⟨i,c.int,k p l q⟩⟩
def AD{a:Type}(xs:List a)(m n:Option Int):List a:=(xs.drop (HT.CC xs.length 0 m)).take (HT.CC xs.length xs.length n-HT.CC xs.length 0 m)
def aY.cut{K:aG}{b:List D}{a:List V}(r:aY K G b a)(m n:Option Int):aY K G (AD b m n) (HF a m n):=by
 unfold HF;rw[<- r.length];exact(r.drop _).take _
def Fv(f:DF)(m n:DP):DL:=λa=>(f a).bind λd=>(m a).bind λl=>(n a).bind λh=>match d with|.lst b=>Y (AD b l h)|.kA c=>Y ((AD c l h).map D.int)|_=>M
variable {m:Option Expr}
set_option tactic.hygienic true in
def Du(K:PE X e (tQ X.K Z f))(J:PO X m (Tv X.K Z l))(I:PO X n (Tv X.K Z h)):PE X (.Subscript e (.Slice m n M B) w) (tF X.K Z (Fv f l h)):=(Ey PL K J I).imp <|by
 rintro O H Q ⟨G,i,P,L,g,a,k⟩;unfold Fv at a;rcases ef:f i with _|d
 .simp_all
 rcases el:l i with _|s
 .simp_all
 rcases eh:h i with _|t
 .simp_all
 simp only[ef,el,eh,ai]at a;refine⟨G,i,d,L,g,ef,λv N T o F=>⟨N,i,s,o.gh,g.ext o,el,λA S j=>⟨A,i,t,j.gh,(g.ext o).ext j,eh,λz R b =>?_⟩⟩⟩;have E:=(o.trans j).trans b;have x:=F.ext (j.trans b);cases d<;>simp only at a<;>try trivial
 .cases a;obtain⟨p,C,u,r,D⟩:=x.lst b.gh;exact⟨p,C,u,.of r,λq c=>k q _ z _ (E.trans (eJ.lay b.gh c)) (E.hh.free c) (b.gh.free c) aW (D.cut _ _)⟩
 .cases a;rename_i y;obtain⟨p,u,r⟩:=x.kA b.gh;refine⟨p,_,u,r,λq c=>k q _ z _ (E.trans (eJ.lay b.gh c)) (E.hh.free c) (b.gh.free c) aW ?_⟩;have:HF (y.map V.int) s t=(AD y s t).map V.int:=by unfold HF AD;rw[aD,<- Pf,<- AN]
  simp_all [aY.ints]
def TL:SlR X (λx m n H Q=>∃z,x=.str z/\z.length<=a_/\Q (.str (kF z m n)) H):=by
 intro a s d H x v f e m n g Q I h r o c ⟨z,y,p,q⟩;subst y;obtain⟨t,rfl⟩:=h;refine⟨_,_,F.slot_str_getitem.lookup,typeIs_str _ _ _,?_⟩;have kC:∀(l u:Option _),f=partValue l->e=partValue u->l.map (·.1)=m->u.map (·.1)=n->be (aV X.prog X.w) X.A (LH (.str z t) _) (EP X a d Q) X.xe s:=λl u G E D C=>by subst G E D C;exact wpAny_getItem_str_slice (st:=M) r rfl (post_val_or_str ⟨bz (LJ z _ _) p,λJ k=>⟨.str _,H,I.tok _,⟨_,rfl⟩,q⟩⟩)
 cases o with
 |none=>
  cases c with
  |none=>exact kC M M rfl rfl rfl rfl|int j u=>exact kC M (Y (j,u)) rfl rfl rfl rfl
 |int i b=>
  cases c with|none=>exact kC (Y (i,b)) M rfl rfl rfl rfl|int j u=>exact kC (Y (i,b)) (Y (j,u)) rfl rfl rfl rfl
def Lb(f:DF)(m n:DP):DF:=λa=>(f a).bind λd=>(m a).bind λl=>(n a).bind λh=>match d with|.str x=>if x.length<=dE then Y (.str (kF x l h)) else M|_=>M
set_option tactic.hygienic true in
def abW(y:PE X e (tQ X.K Z f))(x:PO X m (Tv X.K Z l))(u:PO X n (Tv X.K Z h)):PE X (.Subscript e (.Slice m n M B) w) (tP X.K Z (Lb f l h)):=(Ey TL y x u).imp <|by
 rintro K H Q ⟨G,c,L,z,b,a,k⟩;unfold Lb at a;rcases g:f c with _|d
 .simp_all
 rcases i:l c with _|r
 .simp_all
 rcases o:h c with _|t
 .simp_all
 simp only[g,i,o,ai]at a;refine⟨G,c,d,z,b,g,λv I N j q=>⟨I,c,r,j.gh,b.ext j,i,λF A p=>⟨F,c,t,p.gh,(b.ext j).ext p,o,λD C J =>?_⟩⟩⟩;cases d<;>simp only at a<;>try (cases a)
 split at a
 .cases a;rename_i s;exact⟨_,q.str,bz s gX,k _ D C ((j.trans p).trans J) (ij.mpr rfl)⟩
 .cases a
noncomputable def bc(o:List D->Option D)(g:DL):DF:=λa=>(g a).bind o
def Ae{g:DL}{a:bY}(h:bc o g a=Y d):∃b,g a=Y b/\o b=Y d:=by
 obtain⟨x,c,h⟩:=aa.1 h;rw[c];exact⟨x,rfl,h⟩
inductive rC (K:aG) (o:List D->Option D) (e:List V) (H:Hp) (Q:VK):Prop
 |mk G a d:bf G H->JP K G H a e->o a=some d->(∀v c b,eJ G H c b->cS K c d v->Q v b)->rC K o e H Q
def XB{K:aG}{g:DL}{b:St}(h:tP K Z (bc o g) b H Q):Wo (rC K o) (Wj K Z g) b H Q:=by
 obtain⟨G,f,d,l,a,q,k⟩:=h;obtain⟨c,p,r⟩:=Ae q;exact⟨G,f,c,l,a,p,λy u z e j=>⟨u,c,d,e.gh,j,r,λv t s x i=>k v t s (e.trans x) i⟩⟩
def JP.one{K:aG}{a:List V}(r:JP K G H [d] a):∃v,a=[v]/\j8 K G H d v:=by
 cases r with|cons r t=>cases t;simp_all
def ic:List D->Option D
 |[.lst a]=>Y (.int a.length)|[.tup a]=>Y (.int a.length)|[.kA a]=>Y (.int a.length)|[.str x]=>if x.length<=dE then Y (.int x.length) else M
 |_=>M
set_option tactic.hygienic true in
def VV:lu X (.builtin "len") (rC X.K ic):=by
 refine lu.imp (DA.or Dz) ?_;rintro i H Q ⟨G,j,d,c,r,a,q⟩;unfold ic at a;split at a
 .cases a;obtain⟨v,rfl,b⟩:=r.one;obtain⟨p,f,rfl,e,g⟩:=b.lst c;refine .inl ⟨p,f,rfl,.inl (.of e),?_⟩;rw[<- g.length];exact q _ G H (.refl c) (bK.mpr rfl)
 .cases a;obtain⟨v,rfl,b⟩:=r.one;obtain⟨p,f,rfl,e,g⟩:=b.tup c;refine .inl ⟨p,f,rfl,.inr (.of e),?_⟩;rw[<- g.length];exact q _ G H (.refl c) (bK.mpr rfl)
 .cases a;obtain⟨v,rfl,b⟩:=r.one;obtain⟨p,rfl,e⟩:=b.kA c;refine .inl ⟨p,_,rfl,.inl e,?_⟩;rw[aD];exact q _ G H (.refl c) (bK.mpr rfl)
 .split at a
  .cases a;rename_i h;obtain⟨v,rfl,b⟩:=r.one;exact .inr ⟨_,by rw[b.str],bz h gX,q _ G H (.refl c) (bK.mpr rfl)⟩
  .cases a
 .cases a
def Ak(l:lu X (.builtin c) (rC X.K o))(j:Gl X x)(i:X.mg x=M)(d:fQ x=Y (.builtin c))(q:PA X (e::A) (Wj X.K Z g))(f:autoParam (x ≠ "__name__") ū)(b:autoParam ((x==("__debug__" : aE))=false) ū)(k:autoParam (ao (e::A) X.env=(Z_,eval e X.env)::ao A X.env) ŭ)(a:autoParam ((bX w (ao A X.env)).any (·.1)=false) ŭ):PE X (.Call (.Name x p) (e::A) [] w) (tP X.K Z (bc o g)):=
 (zi l j i d q f b k a).imp λr H Q h=>XB h
def Aj(c:Gl X "len")(b:X.mg "len" = M)(h:PE X e (tQ X.K Z f))(a:autoParam (ao (e::[]) X.env=(Z_,eval e X.env)::ao [] X.env) ŭ):PE X (.Call (.Name "len" p) [e] [] w) (tP X.K Z (bc ic (aC f aN))):=
 Ak VV c b PySem.boot_len (Af h Dr a) ſ ſ a rfl
noncomputable def QO(T:String):D->Bool
 |.dW=>T == "NoneType"|.bl _=>T == "bool" || T == "int"
 |.int _=>T == "int"|.str _=>T == "str"|.lst _=>T == "list"|.kA _=>T == "list"|.tup _=>T == "tuple"|.ins _ _ _=>Z_|.ji _ _=>T == "dict"|.obj _ _=>Z_|.eQ _ _=>Z_
noncomputable def JV:List String:=["bool","int","str","list","tuple"]
def VE(T:String)(f:DF):DF:=λa=>(f a).bind λd=>match d with|.kA _=>M|.ins _ _ _=>M|.ji _ _=>M|.obj _ _=>M|.eQ _ _=>M|d=>Y (.bl (QO T d))
def QJ:∀T∈JV,∀(K:aG),jO K (.type "NoneType") (.type T)=Y (QO T .dW)/\jO K (.type "bool") (.type T)=Y (QO T (.bl Z'))/\jO K (.type "int") (.type T)=Y (QO T (.int 0)) /\
  jO K (.type "str") (.type T)=Y (QO T (.str Str.empty))/\jO K (.type "list") (.type T)=Y (QO T (.lst []))/\jO K (.type "tuple") (.type T)=Y (QO T (.tup [])):=by
 intro T a K;simp only[JV,br,fZ,or_false]at a;rcases a with rfl|rfl|rfl|rfl|rfl<;>exact⟨Ż,Ż,Ż,Ż,Ż,Ż⟩
def Lr(T:String)(S:T∈JV):lu X (.builtin "isinstance") (λy H Q=>∃G d v,bf G H/\y=[v,.ty T]/\j8 X.K G H d v/\(∀o,d ≠ .kA o)/\(∀c g f,d ≠ .ins c g f)/\(∀g f,d ≠ .ji g f)/\((∀s t,d ≠ .obj s t)/\∀s t,d ≠ .eQ s t)/\Q (.bl (QO T d)) H):=by
 intro j s D H y us Q I F ⟨G,d,v,C,e,r,R,p,x,k,q⟩;subst e;obtain⟨u,c,rfl,h,J⟩:=cb.two F;cases J;obtain⟨P,O,N,m,L,K⟩:=QJ T S X.K;have kC:∀z,EP X j D Q _ { s with toks:=z }:=λz=>⟨.bl _,H,I.tok _,rfl,q⟩
 cases d with
 |dW=>have:=r.dW;subst this;exact mX I h .dW P kC
 |bl b=>have:=r.bl;subst this;exact mX I h (.bl b) O kC
 |int i=>have:=r.int;subst this;exact mX I h (.int i) N kC
 |str i=>have:=r.str;subst this;exact mX I h (.str i) m kC
 |lst U=>obtain⟨a,E,rfl,l,_⟩:=r.lst C;exact mX I h (.lst l) L kC
 |tup U=>obtain⟨a,E,rfl,l,_⟩:=r.tup C;exact mX I h (.tup l) K kC
 |kA o=>simp_all|ins c g f=>exact absurd rfl (p c g f)|ji g f=>simp_all|obj s t=>exact absurd rfl (k.1 s t)|eQ s t=>exact absurd rfl (k.2 s t)
def pH{b:Pos}(U:T∈JV)(S:Gl X "isinstance")(R:X.mg "isinstance" = M)(D:Gl X y)(C:X.mg y=M)(j:fQ y=Y (.type T))(h:PE X e (tQ X.K Z f))(x:autoParam (y ≠ "__name__") ū)(E:autoParam ((y==("__debug__" : aE))=false) ū)(J:autoParam (ao (e::[.Name y b]) X.env=(Z_,eval e X.env)::ao [.Name y b] X.env) ŭ)(l:autoParam (ao [.Name y b] X.env=(Z_,eval (.Name y b) X.env)::ao [] X.env) ŭ)(o:autoParam ((bX w (ao [.Name y b] X.env)).any (·.1)=false) ŭ):
  PE X (.Call (.Name "isinstance" p) [e,.Name y b] [] w) (tP X.K Z (VE T f)):=
 (zi (Lr T U) S R HY (bS h (bS (II (v :=.ty T) D C j rfl x E) dI l) J) ſ ź J o).imp <|by
  rintro σ H Q ⟨G,N,d,gh,F,a,k⟩;obtain⟨c,ef,a⟩:=aa.1 a;have P:∀I,c ≠ .kA I:=λI z=>by subst z;cases a
  have r:∀K i g,c ≠ .ins K i g:=λK i g z=>by subst z;cases a
  have u:∀i g,c ≠ .ji i g:=λi g z=>by subst z;cases a
  have ed:d=.bl (QO T c):=by cases c<;>first|(cases a;exact ź)|cases a
  subst ed;exact⟨G,N,c,gh,F,ef,λv L H1 m O=>⟨L,c,v,m.gh,rfl,O,P,r,u,(⟨λs t z=>(by subst z;cases a),λs t z=>(by subst z;cases a)⟩),k _ L H1 m (cR.mpr rfl)⟩⟩
noncomputable def xP(f:DF):DL:=λb=>(f b).bind λd=>match d with|.lst a=>Y a|.tup a=>Y a|.kA c=>Y (c.map D.int)|_=>M
def Jy(z:Gl X "list")(y:X.mg "list" = M)(h:PE X e (tQ X.K Z f))(x:fQ "list" = Y (.type "list"):=by exact PyProof.Rows.boot_list)(t:autoParam (ao (e::[]) X.env=(Z_,eval e X.env)::ao [] X.env) ŭ):PE X (.Call (.Name "list" p) [e] [] w) (tF X.K Z (xP f)):=
 (Ku Dy z y x (bS h dI t) ſ (by rfl) t rfl).imp <|by
  rintro E H Q ⟨G,u,F,C,r,g,k⟩;obtain⟨c,D,g⟩:=aa.1 g;refine⟨G,u,c,C,r,D,λv s I b o =>?_⟩;cases c<;>simp at g<;>try (done)
  .cases g;obtain⟨a,j,rfl,i,l⟩:=o.lst b.gh;exact⟨a,j,rfl,.inl (.of i),λq d=>k q _ s _ (b.trans (eJ.lay b.gh d)) (b.hh.free d) (b.gh.free d) aW l⟩
  .cases g;obtain⟨a,j,rfl,i,l⟩:=o.tup b.gh;exact⟨a,j,rfl,.inr (.of i),λq d=>k q _ s _ (b.trans (eJ.lay b.gh d)) (b.hh.free d) (b.gh.free d) aW l⟩
  .cases g;obtain⟨a,rfl,i⟩:=o.kA b.gh;exact⟨a,_,rfl,.inl i,λq d=>k q _ s _ (b.trans (eJ.lay b.gh d)) (b.hh.free d) (b.gh.free d) aW (aY.ints _)⟩
def fD(f:DF):DT:=λc=>(f c).bind λd=>match d with
 |.dW=>Y Z_|.bl b=>Y b|.int i=>Y (i != 0)|.str y=>if y.length<=dE then Y ((y.length:Int) != 0) else M
 |.lst a=>Y (!a.isEmpty)|.tup a=>Y (!a.isEmpty)|.kA a=>Y (!a.isEmpty)|.ins _ _ _=>M|.ji _ _=>M|.obj _ _=>M|.eQ _ _=>M
def aY.empty{K:aG}{b:List D}{a:List V}(r:aY K G b a):b.isEmpty=a.isEmpty:=by
 have:=r.length;cases b<;>cases a<;>simp at this ⊢
set_option tactic.hygienic true
def rR(h:PE X e (tQ X.K Z f))(C:autoParam (∀g,isTrue e X.env g=(do let v <- g;jQ e.pos;iC [v] (truthy v))) Ū):PT X e (qP X.K Z (fD f)):=(MU h C).imp <|by
 rintro I H Q ⟨G,s,b,D,q,d,k⟩;unfold fD at d;rw[aa]at d;obtain⟨c,r,d⟩:=d;refine⟨G,s,c,D,q,r,λv F E l i=>⟨b,?_,k F E l⟩⟩;cases c with
 |dW=>cases d;rw[i.dW];solve_by_elim|bl b=>cases d;rw[i.bl];solve_by_elim|int b=>cases d;rw[i.int];solve_by_elim|str y=>
  rw[i.str];have d:(if y.length<=dE then Y _ else M)=Y b:=d;split at d
  .cases d;rename_i z;exact⟨bz z gX,rfl⟩
  .cases d
 |lst t=>cases d;obtain⟨a,o,rfl,j,p⟩:=i.lst l.gh;exact .inl ⟨o,.of j,by rw[p.empty]⟩
 |tup t=>cases d;obtain⟨a,o,rfl,j,p⟩:=i.tup l.gh;exact .inr (.inl ⟨o,.of j,by rw[p.empty]⟩)
 |kA t=>cases d;obtain⟨a,rfl,j⟩:=i.kA l.gh;exact .inl ⟨_,j,Ž⟩
 |_=>cases d
end
structure FV(K:aG)(G0:Hp)(J:It)(ds:List D):Prop where
 go:∀i H,bf G0 H->i<ds.length->J.go i H
 stop:∀i H,bf G0 H->ds.length<=i->J.stop i H
 Ib:∀(i:Nat) (H:Hp) (x:V) (H' G:Hp) (d:D),bf G0 G->bf G H->J.Ib i H x H'->ds[i]?=some d->∃G',eJ G H G' H'/\cS K G' d x
inductive Cs (K:aG) (Z:List Nat) (f:DL) (l:St) (H:Hp) (R:It->Hp->Prop):Prop
 |mk G ρ a:bf G H->j2 K Z G H l ρ->f ρ=some a->(∀J c b,eJ G H c b->FV K c J a->R J b)->Cs K Z f l H R
section
variable {X:Cx}{f:DF}
def PI.imp{t:TI}(h:PI X L O t)(k:∀l H R,b l H R->t l H R):PI X L O b:=λa s l H R I q=>h a s l H R I (k _ _ _ q)
noncomputable def iL(f:DF):DL:=λρ=>(f ρ).bind λd=>match d with|.lst a=>Y a|_=>M
def C6{f:DF}(h:iL f ρ=Y a):f ρ=Y (.lst a):=by
 obtain⟨d,e,h⟩:=aa.1 h;rw[e];cases d<;>first|(cases h;rfl)|cases h
def BP{K:aG}(g:G a=Y (.lst b))(r:aY K G n b):FV K G (V7 K a) n:=by
 refine⟨λi H s f =>?_,λi H s f=>⟨b,.of (s _ _ g),by rw[<- r.length];exact f⟩,λi H x B A d j h ⟨e,y⟩ z =>?_⟩
 .have c:i<b.length:=by rw[<- r.length];exact f
  exact⟨b,b[i],.of (s _ _ g),by simp[c]⟩
 .subst e;obtain⟨v,k,o⟩:=r.get z;rw[y b (.of (h _ _ (j _ _ g)))]at k;cases k;exact⟨A,.refl h,cS.mono j d o⟩
def iU(h:PE X e (tP X.K Z f)):PI X L e (Cs X.K Z (iL f)):=(CK h).imp <|by
 rintro l H R ⟨G,ρ,p,n,b,o,k⟩;refine⟨G,ρ,_,n,b,C6 o,λv A w d j =>?_⟩;obtain⟨a,g,rfl,c,i⟩:=bR.mp j;exact⟨a,rfl,⟨g,.of (d.gh _ _ c)⟩,k _ A w d (BP c i)⟩
noncomputable def oP(a:Int)(n:Nat):List D:=(cH n).map λ(k:Nat) =>.int (a+(k:Int))
def uC{K:aG}(c:Int)(n:Nat):FV K G (Zo c n) (oP c n):=by
 have f:(oP c n).length=n:=by simp[oP]
 refine⟨λi H s a=>by rw[f]at a;exact a,λi H s a=>by rw[f]at a;exact a,λi H x p A d k g ⟨e,y⟩ b =>?_⟩;subst e;refine⟨A,.refl g,?_⟩;unfold oP at b;rw[bt]at b;obtain⟨j,q,b⟩:=aj.1 b;cases b;have:j=i:=by obtain⟨o,h⟩:=au.mp q;simpa using h.symm
 subst this
 exact ź
def Wy(f:DF):DL:=λρ=>(f ρ).bind λd=>match d with|.int j=>if -(2 ^ 62)<=j/\j<2 ^ 62 then Y (oP 0 j.toNat) else M|_=>M
set_option tactic.hygienic true
def Li(r:Gl X "range")(o:X.mg "range" = M)(h:PE X e (tQ X.K Z f))(n:autoParam (ao [e] X.env=(Z_,eval e X.env)::ao [] X.env) ŭ)(b:autoParam (ao [e] X.env=[(Z_,eval e X.env)]) ŭ):PI X L (.Call (.Name "range" p) [e] [] u) (Cs X.K Z (Wy f)):=
 (BG r o (bS h dI n) b).imp <|by
  rintro l H R ⟨G,ρ,z,s,c,a,k⟩;obtain⟨d,x,a⟩:=aa.1 a;cases d<;>simp only[ai]at a<;>try (cases a)
  split at a
  .cases a;rename_i j g;exact⟨G,ρ,_,s,c,x,λv A w y i=>⟨j,by rw[i.int],g.1,g.2,k _ A w y (uC 0 _)⟩⟩
  .cases a
def Sz(f g:DF):DL:=λρ=>(f ρ).bind λd=>(g ρ).bind λc=>match d,c with|.int i,.int j=>if -(2 ^ 62)<=i/\i<2 ^ 62 /\ -(2 ^ 62)<=j/\j<2 ^ 62 then Y (oP i (j-i).toNat) else M|_,_=>M
def WH{g:DF}(N:Gl X "range")(m:X.mg "range" = M)(h:PE X e (tQ X.K Z f))(P:PE X n (tQ X.K Z g))(K:autoParam (ao [e,n] X.env=(Z_,eval e X.env)::ao [n] X.env) ŭ)(z:autoParam (ao [n] X.env=(Z_,eval n X.env)::ao [] X.env) ŭ)(y:autoParam (ao [e,n] X.env=[(Z_,eval e X.env),(Z_,eval n X.env)]) ŭ)(x:autoParam (ao [n] X.env=[(Z_,eval n X.env)]) ŭ):PI X L (.Call (.Name "range" p) [e,n] [] u) (Cs X.K Z (Sz f g)):=
 (Kt N m (bS h (bS P dI z) K) y x).imp <|by
  rintro l H R ⟨G,ρ,ds,Q,o,b,k⟩;unfold Sz at b;rcases s:f ρ with _|d
  .simp_all
  rcases B:g ρ with _|c
  .simp_all
  simp only[s,B,ai]at b;split at b<;>try (cases b)
  split at b
  .cases b;rename_i i j r;exact⟨G,ρ,_,Q,o,s,λv A w C F=>⟨A,ρ,_,C.gh,o.ext C,B,λa G2 S E2 D=>⟨i,j,by rw[F.int,D.int],ź,k _ G2 S (C.trans E2) (uC i _)⟩⟩⟩
  .cases b
end
abbrev FZ:=D->bY->Option bY
inductive Gv (K:aG) (B:Bs) (Z:List Nat) (τ:FZ) (v:V) (l:St) (H:Hp) (Q:St->Hp->Prop):Prop
 |mk G ρ d b:SR K B Z G H l ρ->cS K G d v->τ d ρ=some b->(∀a e c,SR K B Z e c a b->Q a c)->Gv K B Z τ v l H Q
inductive Wi (K:aG) (Z:List Nat) (τ:FZ) (v:V) (l:St) (H:Hp) (Q:St->Hp->Prop):Prop
 |mk G ρ d b:bf G H->j2 K Z G H l ρ->cS K G d v->τ d ρ=some b->(∀a e c,eJ G H e c->j2 K Z e c a b->Q a c)->Wi K Z τ v l H Q
section
variable {X:Cx}
def PG.imp{L:Expr}{t:TG}(h:PG X L t)(k:∀v l H Q,b v l H Q->t v l H Q):PG X L b:=λa s l H v u Q I r q=>h a s l H v u Q I r (k _ _ _ _ q)
noncomputable def gN(i:Nat):FZ:=λd ρ=>Y (ρ.set i (Y d))
def vG{i:Nat}(h:PG X L (om i))(b:autoParam (i∉Z) ū):PG X L (Gv X.K B Z (gN i)):=h.imp <|by
 rintro v l H Q ⟨G,ρ,d,a,S,r,c,k⟩;cases c;exact k _ G H (S.wu b r)
def j2.set{K:aG}{i:Nat}{d:D}{v:V}(h:j2 K Z G H l ρ)(s:i∉Z)(r:cS K G d v):j2 K Z G H (l.set i (Y v)) (ρ.set i (Y d)):=
 ⟨by simp[h.len],λj c e=>by
  rcases gR e with⟨rfl,simp,C⟩|⟨b,e⟩
  .exact⟨v,oG (by rw[h.len];exact C),ż⟩
  .obtain _:=h.get j c e
   simp_all,λj k p g N e=>by
  have a:∀j,j∈Z->i≠j:=λj F e=>s (e ▸ F)
  rw[av (a j g)]at e;obtain⟨f,m,z,y,B,w,x,o,n,Q,P⟩:=h.eQ j k p g N e;exact⟨f,m,z,y,B,w,x,ż,ż,ż,P⟩⟩
noncomputable def DY(i j:Nat):FZ:=λd ρ=>match d with|.tup [a,b]=>Y ((ρ.set i (Y a)).set j (Y b))|_=>M
def N5(h:DY i j d ρ=Y c):∃a b,d=.tup [a,b]/\c=(ρ.set i (Y a)).set j (Y b):=by
 unfold DY at h;split at h<;>lia
def P4{K:aG}{v:V}(r:cS K G (.tup [a,b]) v):∃p x y,v=.ref p/\G p=Y (.tup [x,y])/\cS K G a x/\cS K G b y:=by
 obtain⟨p,h,e,g,f⟩:=cL.mp r;obtain⟨x,j,rfl,d,t⟩:=bD.mp f;obtain⟨y,i,rfl,c,t⟩:=bD.mp t;rw[cU.mp t]at g;exact⟨p,x,y,e,g,d,c⟩
def abU{i:Nat}(h:PG X L (Vs X.K 2 (BX (om i) (BX (om j) Vt))))(o:autoParam (i∉Z) ū)(n:autoParam (j∉Z) ū):PG X L (Gv X.K B Z (DY i j)):=h.imp <|by
 rintro v l H Q ⟨G,ρ,d,c,S,r,s,k⟩;obtain⟨a,b,rfl,rfl⟩:=N5 s;obtain⟨p,x,y,rfl,g,f,e⟩:=P4 r;exact⟨p,_,rfl,.of (S.gh _ _ g),rfl,x,_,rfl,y,_,rfl,rfl,k _ G H ((S.wu o f).wu n e)⟩
end
noncomputable def gG(τ:FZ)(g:DG):List D->bY->Option DO
 |[],ρ=>Y (.nx ρ)| d::b,ρ=>(τ d ρ).bind λρ1=>(g ρ1).bind λo=>match o with
  |.nx a=>gG τ g b a|.ct a=>gG τ g b a|.bk a=>Y (.nx a)|.rt d=>Y (.rt d)|.ro d=>Y (.ro d)|.rm d ρ=>Y (.rm d ρ)|.rf i ρ=>Y (.rf i ρ)|.ex c n=>Y (.ex c n)
def je(f:DL)(τ:FZ)(g:DG):DG:=λρ=>(f ρ).bind λa=>gG τ g a ρ
section
variable {K:aG}
def r9.base{F:Nat->List ax}(W:r9 K B Z G H l ρ F)(h:a.2=B.2):r9 K a Z G H l ρ F:=⟨W.it,λi d b e=>by rw[h];exact W.ok i d b e,W.ap⟩
def SR.rebase(a:SR K B Z A w q ρ1)(S:SR K B Z G H l ρ)(s:bf A G):SR K ⟨A,B.2,B.3,B.4⟩ Z G H l ρ:=
 ⟨S.gh,s,S.h0,λb o e=>by
  rcases S.fr b o e with z|z
  .exact .inl (a.g0 b o z)
  .exact .inr z,S.env,by obtain⟨F,W⟩:=S.ow;exact⟨F,W.base rfl⟩,S.len,S.pin,S.eQ⟩
def SR.Co(c:SR K B Z A w q ρ1)(S:SR K ⟨A,B.2,B.3,B.4⟩ a G H l ρ):SR K B a G H l ρ:=
 ⟨S.gh,c.g0.trans S.g0,S.h0,λb o e=>by
  rcases S.fr b o e with z|z
  .exact c.fr b o z
  .exact .inr z,S.env,by obtain⟨F,W⟩:=S.ow;exact⟨F,W.base rfl⟩,S.len,S.pin,S.eQ⟩
def SR.yV(a:SR K B Z A w q ρ1)(S:SR K ⟨A,B.2,B.3,B.4⟩ Z G H l ρ):SR K B Z G H l ρ:=a.Co S
def eJ.yV(a:SR K B Z A w q ρ1)(E:eJ A B.2 G H):eJ B.1 B.2 G H:=
 ⟨E.hh,a.g0.trans E.gg,E.gh,λb o e=>by
  rcases E.fr b o e with z|z
  .exact a.fr b o z
  .exact .inr z⟩
end
section
variable {X:Cx}{f:DL}
inductive ZE (K:aG) (B:Bs) (Z:List Nat) (f:bY->Option (List D×bY)) (l:St) (H:Hp) (R:It->Hp->Prop):Prop
 |mk G ρ b a:SR K B Z G H l ρ->f ρ=some (b,a)->(∀J d c,SR K B Z d c l a->FV K d J b->R J c)->ZE K B Z f l H R
def tH(f:bY->Option (List D×bY))(τ:FZ)(g:DG):DG:=λρ=>(f ρ).bind λp=>gG τ g p.1 p.2
structure ItW(K:aG)(G0 B0:Hp)(J:It)(ds:List D):Prop where
 go:∀i H,bf G0 H->bf B0 H->i<ds.length->J.go i H
 stop:∀i H,bf G0 H->bf B0 H->ds.length<=i->J.stop i H
 Ib:∀(i:Nat) (H:Hp) (x:V) (H' G:Hp) (d:D),bf G0 G->bf B0 H->bf G H->J.Ib i H x H'->ds[i]?=some d->∃G',eJ G H G' H'/\cS K G' d x
inductive tWI (K:aG) (B:Bs) (Z:List Nat) (f:bY->Option (List D×bY)) (l:St) (H:Hp) (R:It->Hp->Prop):Prop
 |mk G ρ b a:SR K B Z G H l ρ->f ρ=some (b,a)->(∀J d c,SR K B Z d c l a->ItW K d B.2 J b->R J c)->tWI K B Z f l H R
def Jv{f:bY->Option (List D×bY)}(hp:t6 (aV X.prog X.w) X.A X.env X.xe)(hc:X.calm=Z')(hi:PI X L O (tWI X.K B Z f))(hg:∀C:Bs,C.3=B.3->PG X L (Gv X.K C Z τ))(hb:∀C:Bs,C.3=B.3->C.2=B.2/\C.4=B.4->lX X I (gD X.K C Z Z Z g))(hs:autoParam (∀x,cw O X.env x=dn x) Ū):PS X (.For L O I [] u) (gD X.K B t Z Z (tH f τ g)):=by
 intro Q s l H D' j ⟨G,ρ,o,S,eq,k⟩;obtain⟨⟨R,ρ0⟩,ef,eq⟩:=aa.1 eq;have eq:=eq;refine wpAny_For (fo (hi Q s l H (λJ w=>∃A,SR X.K B Z A w l ρ0/\ItW X.K A B.2 J R) j ⟨G,ρ,R,ρ0,S,ef,λJ A w S1 ok=>⟨A,S1,ok⟩⟩) λv s1 h1=>fo h1 λitv s2 h2 =>?_) hs;obtain⟨it,fp,tn,J,H2,e,I2,T,TH,f2,A,S1,ok⟩:=h2;subst e;have GB:∀ {H':Hp},(∀b∈fp,H' b=M)->∀b∈fp,Aw X Q H' b:=λhn b hb=>⟨hn b hb,(f2 b hb).2⟩
 refine codeAny_forLoop_any (λn s'=>∃i σ' H' G' ρ',Inv X Q σ' H' s'/\tn i s'.heap/\(∀b∈fp,H' b=M)/\n=R.length-i/\i<=R.length/\SR X.K _ Z G' H' σ' ρ'/\gG τ g (R.drop i) ρ'=Y o) ?_ R.length
  ⟨0,l,H2,A,ρ0,I2,TH,λb hb=>(f2 b hb).1,rfl,dk _,S1.rebase S1 (bf.refl _),eq⟩
 rintro n s3 ⟨i,σ3,H3,G3,ρ3,I3,ZF,Yy,rfl,hil,S3,F⟩;have Xm:=S3.g0.trans S3.gh;by_cases SA:i<R.length
 .rw[(iK SA)]at F;unfold gG at F;obtain⟨P,et,F⟩:=aa.1 F;obtain⟨o4,eg,F⟩:=aa.1 F;refine dR hp (fo (T.item X rfl rfl rfl hc i Q s3 σ3 H3 X.xe I3 (GB Yy) ZF (ok.go i H3 Xm S3.h0 SA)) ?_);rintro r s4 ⟨h,hr,h4⟩;subst hr;refine dR hp (fo h4 ?_);rintro _ s5 ⟨x,H5,I5,r5,y5,Wq,WC⟩;have I5':=I5.pinned (GB WC) (T.obj _ _ Wq);obtain⟨G5,E5,aaI⟩:=ok.Ib i H3 x H5 G3 R[i] S3.g0 S3.h0 S3.gh y5 (bp SA);refine dR hp (fo (hg ⟨A,B.2,B.3,B.4⟩ rfl _ s5 σ3 H5 x h (λN H6=>∃G6,SR X.K ⟨A,B.2,B.3,B.4⟩ Z G6 H6 N P) I5' r5 ⟨G5,ρ3,R[i],P,S3.ext E5,aaI,et,λN G6 H6 S6=>⟨G6,S6⟩⟩) ?_);rintro _ s6 ⟨N,H6,I6,G6,S6⟩;have again:∀ {p:St}{K q:Hp}{ρ7:bY}{s7:aw},Inv X (Q++uh fp s5.heap) p K s7->SR X.K ⟨A,B.2,B.3,B.4⟩ Z q K p ρ7->gG τ g (R.drop (i+1)) ρ7=Y o ->
    ∃m,m<R.length-i/\∃i σ' H' G' ρ',Inv X Q σ' H' s7/\tn i s7.heap/\(∀b∈fp,H' b=M)/\m=R.length-i/\i<=R.length/\SR X.K ⟨A,B.2,B.3,B.4⟩ Z G' H' σ' ρ'/\gG τ g (R.drop i) ρ'=Y o:=fun {p K q ρ7 s7} I7 S7 e7=>by
   refine⟨R.length-(i+1),ž,i+1,p,K,q,ρ7,I7.m_,T.keep _ _ _ Wq λb hb o e=>(I7.pin (b,o) (aU _ (aU _ (kj hb e)))).1,λb hb =>?_,rfl,SA,S7,e7⟩;obtain⟨o,e,d⟩:=T.obj _ _ Wq b hb;exact(I7.pin (b,o) (aU _ (aU _ (kj hb e)))).2.1
  refine dR hp (fo (hb ⟨A,B.2,B.3,B.4⟩ rfl ⟨rfl,rfl⟩ _ s6 N H6 { nx:=λp K=>∃q r,SR X.K ⟨A,B.2,B.3,B.4⟩ Z q K p r/\gG τ g (R.drop (i+1)) r=Y o,ct:=λp K=>∃q r,SR X.K ⟨A,B.2,B.3,B.4⟩ Z q K p r/\gG τ g (R.drop (i+1)) r=Y o,bk:=D'.nx,rt:=D'.rt } I6 ⟨G6,P,o4,S6,eg,?_⟩) λfl s7 y =>?_)
  .cases o4 with
   |nx r=>exact λp q K S7=>⟨q,r,S7,F⟩
   |ct r=>exact λp q K S7=>⟨q,r,S7,F⟩
   |bk r=>cases F;exact λp q K S7=>k _ q K (S1.yV S7)
   |rt d=>cases F;exact λv q K E7 r7=>k v q K (eJ.yV S1 E7) r7
   |ro d=>cases F;exact λa vs q K E7 h1 h2 h3 r7=>k a vs q K (eJ.yV S1 E7) h1 h2 h3 r7
   |rm d r=>cases F;exact λv p q K ⟨o7,S7⟩ r7=>k v p q K ⟨o7,S1.Co S7⟩ r7
   |rf j r=>cases F;exact λv p q K ⟨o7,ho7,S7⟩ r7=>k v p q K ⟨o7,ho7,S1.Co S7⟩ r7
   |ex c n=>cases F;exact k
  cases fl with
  |ret v=>obtain⟨x7,p,K,I7,r7,y⟩:=y;exact⟨x7,p,K,I7.m_,r7,y⟩
  |brk=>obtain⟨p,K,I7,y⟩:=y;exact⟨p,K,I7.m_,y⟩
  |_=>obtain⟨p,K,I7,q,r,S7,F⟩:=y;exact again I7 S7 F
 .have e:i=R.length:=ž
  subst e;rw[uV]at F;cases F;refine dR hp (fo (T.done X rfl rfl rfl hc _ Q s3 σ3 H3 X.xe I3 (GB Yy) ZF (ok.stop _ H3 Xm S3.h0 (aH _))) ?_);rintro r s4 ⟨hr,I4⟩;subst hr;exact kD ⟨σ3,H3,I4,k σ3 G3 H3 (S1.yV S3)⟩
def FE{f:bY->Option (List D×bY)}(hp:t6 (aV X.prog X.w) X.A X.env X.xe)(hc:X.calm=Z')(hi:PI X L O (ZE X.K B Z f))(hg:∀C:Bs,C.3=B.3->PG X L (Gv X.K C Z τ))(hb:∀C:Bs,C.3=B.3->C.2=B.2/\C.4=B.4->lX X I (gD X.K C Z Z Z g))(hs:autoParam (∀x,cw O X.env x=dn x) Ū):PS X (.For L O I [] u) (gD X.K B t Z Z (tH f τ g)):=Jv hp hc (hi.imp λl H R ⟨G,ρ,b,a,S,e,k⟩=>⟨G,ρ,b,a,S,e,λJ d c s o=>k J d c s ⟨λi H a h=>o.go i H a,λi H a h=>o.stop i H a,λi H x H' G d a h=>o.Ib i H x H' G d a⟩⟩) hg hb hs
def Q'(i:t6 (aV X.prog X.w) X.A X.env X.xe)(o:X.calm=Z')(j:PI X L O (Cs X.K Z f))(n:∀C:Bs,C.3=B.3->PG X L (Gv X.K C Z τ))(p:∀C:Bs,C.3=B.3->C.2=B.2/\C.4=B.4->lX X I (gD X.K C Z Z Z g))(h:autoParam (∀x,cw O X.env x=dn x) Ū):PS X (.For L O I [] u) (gD X.K B t Z Z (je f τ g)):=by
 have e:je f τ g=tH _ τ g:=funext λρ=>by show (f ρ).bind _=(v8 (λa=>(a,ρ)) (f ρ)).bind _;cases f ρ<;>rfl
 rw[e];refine FE i o (j.imp ?_) n p h;rintro l H R ⟨G,ρ,a,c,S,b,k⟩;obtain⟨s,r,b⟩:=aj.1 b;cases b;exact⟨G,ρ,a,S.gh,S.jh,r,λJ A w E d=>k J A w (S.ext E) d⟩
def Jw{f:bY->Option (List D×bY)}(b:t6 (aV X.prog X.w) X.A X.env X.xe)(e:X.calm=Z')(c:PI X L O (ZE X.K B Z f))(d:∀C:Bs,C.3=B.3->PG X L (Gv X.K C Z τ))(i:∀C:Bs,C.3=B.3->lX X I (gD X.K C Z Z Z g))(a:autoParam (∀x,cw O X.env x=dn x) Ū):PS X (.For L O I [] u) (gD X.K B t Z Z (tH f τ g)):=FE b e c d (λC h j=>i C h) a
def uH(b:t6 (aV X.prog X.w) X.A X.env X.xe)(e:X.calm=Z')(c:PI X L O (Cs X.K Z f))(d:∀C:Bs,C.3=B.3->PG X L (Gv X.K C Z τ))(i:∀C:Bs,C.3=B.3->lX X I (gD X.K C Z Z Z g))(a:autoParam (∀x,cw O X.env x=dn x) Ū):PS X (.For L O I [] u) (gD X.K B t Z Z (je f τ g)):=Q' b e c d (λC h j=>i C h) a
noncomputable def qR(f:DT)(g:DG):Nat->bY->Option DO
 |0,_=>M| n+1,ρ=>(f ρ).bind λb=>if b=Z' then (g ρ).bind λo=>match o with
   |.nx a=>qR f g n a|.ct a=>qR f g n a|.bk a=>Y (.nx a)|.rt d=>Y (.rt d)|.ro d=>Y (.ro d)|.rm d ρ=>Y (.rm d ρ)|.rf i ρ=>Y (.rf i ρ)|.ex c n=>Y (.ex c n) else Y (.nx ρ)
def GN(n:Nat)(f:DT)(g:DG):DG:=λρ=>qR f g n ρ
def Om{c:Expr}{f:DT}(n:Nat)(C:t6 (aV X.prog X.w) X.A X.env X.xe)(D:PT X c (qP X.K Z f))(F:lX X I (gD X.K B Z Z Z g)):PS X (.While c I [] u) (gD X.K B t Z Z (GN n f g)):=(MW C D F).imp <|by
 rintro R l H ⟨G,ρ,o,S,K,k⟩;refine⟨λm l H=>∃G ρ,SR X.K B Z G H l ρ/\qR f g m ρ=Y o,⟨n,G,ρ,S,K⟩,?_⟩;rintro m q w ⟨A,ρ1,v,e⟩;cases m with
 |zero=>cases e|succ m=>
  unfold qR at e;obtain⟨b,N,e⟩:=aa.1 e;refine⟨A,ρ1,b,v.gh,v.jh,N,λz P Q =>?_⟩;have y:=v.ext Q;cases b with
  |false=>cases e;solve_by_elim|true=>
   refine vu ⟨_,λh p a=>⟨m,nY m,a⟩,?_⟩;obtain⟨x,d,e⟩:=aa.1 e;refine⟨z,ρ1,x,y,d,?_⟩;cases x with
   |nx i=>exact λh j p s=>⟨j,i,s,e⟩
   |ct i=>exact λh j p s=>⟨j,i,s,e⟩
   |bk i=>cases e;solve_by_elim|_=>cases e;exact k
end
noncomputable def pb(src:List (Option Nat))(ρ:bY):bY:=src.map λo=>match o with|some j=>(ρ[j]?).getD M|none=>M
noncomputable def zK(ρ:bY)(τ:FZ)(U:DT)(fe:DF):List D->Option (List D)
 |[]=>Y []|d::a=>(τ d ρ).bind λρ1=>(U ρ1).bind λb=>if b=Z' then (fe ρ1).bind λx=>(zK ρ τ U fe a).map (x :: ·) else zK ρ τ U fe a
def lZ(f:DL)(src:List (Option Nat))(τ:FZ)(U:DT)(fe:DF):DL:=λρ=>(f ρ).bind λa=>if a.length<=dE then zK (pb src ρ) τ U fe a else M
noncomputable def f9:DT:=λ_=>Y Z'
def j1(Z Ź:List Nat)(src:List (Option Nat)):Bool:=(Ź.all λj=> !Ź.contains (A8 j))&&(cH src.length).all λi=>match src[i]? with|some (Y j)=>decide (i∈Ź)==decide (j∈Z)|_=>Z'
def ki(h:j1 Z Ź src=Z')(e:src[i]?=Y (Y j)):(i∈Ź↔j∈Z):=by
 unfold j1 at h;rw[aR]at h;have h:=h.2;rw[eN]at h;have:=h i (by simpa using (au.mp e).1);rw[e]at this;simpa using this
def Kx(h:j1 Z Ź src=Z')(b:j∈Ź)(a:A8 j∈Ź):False:=by
 unfold j1 at h;rw[aR,eN]at h;have:=h.1 j b;simp[a]at this
def j2.src{K:aG}{Z Ź:List Nat}{src:List (Option Nat)}(h:j2 K Z G H l ρ)(f:j1 Z Ź src=Z'):j2 K Ź G H (oO src l) (pb src ρ):=by
 refine⟨by simp[oO,pb],λi d e =>?_,λj r p k g a=>(Kx f k g).elim⟩;unfold pb at e;rw[bt]at e;obtain⟨o,c,e⟩:=aj.1 e;cases o with
 |none=>cases e|some j=>
  have e:=by simpa using e
  have s:ρ[j]?=Y (Y d):=by rcases q:ρ[j]? with _|z<;>simp_all
  obtain⟨v,_⟩:=h.get j d s;refine⟨v,?_,?_⟩
  .simp_all [oO,bt]
  .have:=ki f c
   simp_all
section
variable {X:Cx}{m:Expr}{f:DL}
def F_.imp{t:TT}(h:F_ X E t)(k:∀l H Q,b l H Q->t l H Q):F_ X E b:=λa s l H Q I q=>h a s l H Q I (k _ _ _ q)
def fw:F_ X [] (qP X.K Z f9):=Qb.imp <|by rintro l H Q ⟨G,ρ,b,a,d,c,k⟩;cases c;exact k G H (.refl a)
def Jr(h:PT X c (qP X.K Z U)):F_ X [c] (qP X.K Z U):=Qa h
set_option tactic.hygienic true in
def NH{K:aG}(ho:j1 Z Ź src=Z')(hg:∀v l H Q,Wi K Ź τ v l H Q->g v l H Q)(q:tF K Z (lZ f src τ U fe) l H Q):Wn (Cs K Z f) src g (qP K Ź U) (tP K Ź fe) l H Q:=by
 obtain⟨G,ρ,rs,gh,P,s,k⟩:=q;unfold lZ at s;obtain⟨h,ef,s⟩:=aa.1 s;split at s
 .rename_i hz;refine⟨G,ρ,h,gh,P,ef,λJ A w E1 ok =>?_⟩;refine⟨λi m ys D=>m=h.length-i/\i<=h.length/\ys.length<=i/\∃R r c,eJ A w R D/\aY K R r ys/\zK (pb src ρ) τ U fe (h.drop i)=Y c/\r++c=rs,
   ⟨h.length,rfl,dk _,aH _,A,[],rs,.refl E1.gh,.nil,s,rfl⟩,?_⟩
  rintro i m ys D ⟨rfl,hil,hyl,R,r,c,o,rx,d,rfl⟩;have t:bf A D:=o.gg.trans o.gh;by_cases n:i<h.length
  .refine .inr ⟨ok.go i D t n,?_,_,
    λC H' z=>⟨h.length-(i+1),ž,rfl,n,z⟩,λx H3 y =>?_⟩
   .have:=gX;lia
   .obtain⟨G3,X,N⟩:=ok.Ib i D x H3 R h[i] o.gg o.gh y (bp n);rw[iK n]at d;unfold zK at d;obtain⟨j,et,d⟩:=aa.1 d;obtain⟨b,eb,d⟩:=aa.1 d;have E13:=E1.trans (o.trans X);refine hg _ _ _ _ ⟨G3,pb src ρ,h[i],j,X.gh,(P.ext E13).src ho,N,et,λσ4 G4 H4 E4 B=>⟨G4,j,b,E4.gh,B,eb,λG5 H5 S =>?_⟩⟩;have E15:=(o.trans X).trans (E4.trans S);cases b with
    |false=>exact Ba ⟨ž,G5,r,c,E15,aY.mono ((X.trans (E4.trans S)).gg) r rx,d,rfl⟩
    |true=>
     refine vu ?_;simp only[if_true]at d;obtain⟨x4,ee,d⟩:=aa.1 d;rcases el:zK (pb src ρ) τ U fe (h.drop (i+1)) with _|a
     .simp[el]at d
     simp only[el,ai,d9]at d;cases d;refine⟨G5,j,x4,S.gh,B.ext S,ee,λv G6 H6 E6 r6=>⟨by simp;lia,G6,r++[x4],a,E15.trans E6,(aY.mono ((X.trans ((E4.trans S).trans E6)).gg) r rx).append (.cons r6 .nil),rfl,Ž⟩⟩
  .have e:i=h.length:=ž
   subst e;rw[uV]at d;unfold zK at d;cases d;refine .inl ⟨ok.stop _ D t (aH _),λp hp =>?_⟩;have E12:=E1.trans o;refine k p ys R _ (E12.trans (eJ.lay (p:=p) o.gh hp)) (E12.hh.free hp) (o.gh.free hp) aW ?_
   simp_all
 .cases s
def pG(S:fY X N src T)(j:X.calm=Z')(e:PI X L O (Cs X.K Z f))(n:Pn J g)(a:∀i∈J,src[i]?=Y M)(h:∀v l H Q,Wi X.K Ź τ v l H Q->g v l H Q)(k:∀C s H b,PG (X.uL N T C s H b) L g/\F_ (X.uL N T C s H b) E (qP X.K Ź U)/\PE (X.uL N T C s H b) m (tP X.K Ź fe))(d:autoParam (j1 Z Ź src=true) ū)(c:autoParam (∀x,cw O X.env x=dn x) Ū):PE X (.ListComp m [⟨L,O,E,0⟩] T u) (tF X.K Z (lZ f src τ U fe)):=
 (M5 S j e n a k c).imp λl H Q q=>NH d h q
def xa{i:Nat}{c D:Pos}(S:fY X N src T)(hc:X.calm=Z')(hN:X.N.Nodup)(F:X.N[i]?=Y y)(hl:X.env.scope.names.lookup y=Y .local)(hi:PI X L O (Cs X.K Z f))(ag:Pn J g)(j:∀i∈J,src[i]?=Y M)(hg:∀v l H Q,Wi X.K Ź τ v l H Q->g v l H Q)(hb:∀C s H z,PG (X.uL N T C s H z) L g/\F_ (X.uL N T C s H z) E (qP X.K Ź U)/\PE (X.uL N T C s H z) m (tP X.K Ź fe))(R:autoParam (j1 Z Ź src=true) ū)(n:autoParam (i∈Z) ū)(d:autoParam (∀a,(i,a)∉B.3) Ŧ)(hm:autoParam (x_ i∉Z) ū)(h:autoParam (bU (.ListComp m [⟨L,O,E,0⟩] T u) (Y (.Name y D)) c.line X.env=dn true) ŭ)(q:autoParam (∀x,cw O X.env x=dn x) Ū):PS X (.Assign [.Name y D] (.ListComp m [⟨L,O,E,0⟩] T u) c) (gD X.K B t Z Z (j5 i (lZ f src τ U fe))):=
 (zh S hc hN F hl hi ag j hb h q).imp λD' l H ⟨G,ρ,o,S,e,k⟩=>NH R hg (by obtain⟨ds,ef,e⟩:=aj.1 e;cases e;exact⟨G,ρ,ds,S.gh,S.jh,ef,λp vs G' H' b P gp K r=>k _ G' H' (S.PU n b P gp K r d hm)⟩)
def FD{B:Bs}{D:Pos}(S:fY X N src T)(hc:X.calm=Z')(hN:X.N.Nodup)(q:X.N[i]?=Y y)(hl:X.env.scope.names.lookup y=Y .local)(hi:PI X L O (Cs X.K Z f))(ag:Pn J g)(e:∀i∈J,src[i]?=Y M)(hg:∀v l H Q,Wi X.K Ź τ v l H Q->g v l H Q)(hb:∀C s H j,PG (X.uL N T C s H j) L g/\F_ (X.uL N T C s H j) E (qP X.K Ź U)/\PE (X.uL N T C s H j) m (tP X.K Ź fe))(ho:autoParam (j1 Z Ź src=true) ū)(h:autoParam (i∉Z) ū)(d:autoParam (bU (.ListComp m [⟨L,O,E,0⟩] T u) (Y (.Name y D)) b.line X.env=dn true) ŭ)(R:autoParam (∀x,cw O X.env x=dn x) Ū):PS X (.Assign [.Name y D] (.ListComp m [⟨L,O,E,0⟩] T u) b) (gD X.K B t Z Z (cN i (eF (lZ f src τ U fe)))):=
 (zh S hc hN q hl hi ag e hb d R).imp λD' l H ⟨G,ρ,o,S,c,k⟩=>NH ho hg (by
  unfold cN eF at c;rcases n:lZ f src τ U fe ρ with _|K
  .simp_all
  rw[n]at c;cases c;exact⟨G,ρ,K,S.gh,S.jh,n,λp z G' H' a hp F P r=>k _ _ H' ((S.ext (a.freeze hp F P)).wu h (bR.mpr ⟨p,z,rfl,aW,aY.mono (.alloc F) K r⟩))⟩)
end
inductive iD (K:aG) (F:List D->Option D) (e:List V) (H:Hp) (Q:VK) (_x:XK):Prop
 |mk G a d:bf G H->aY K G a e->F a=some d->(∀v c b,eJ G H c b->cS K c d v->Q v b)->iD K F e H Q _x
inductive GH (K:aG) (F:List D->Option (List D)) (g:List V) (H:Hp) (Q:VK) (_x:XK):Prop
 |mk G f e:bf G H->aY K G f g->F f=some e->(∀a d c b,eJ G H c b->H a=none->c a=none->b a=some (.lst d)->aY K c e d->Q (.ref a) b)->GH K F g H Q _x
noncomputable def hJ(N:Nat)(a:List D):bY:=a.map Y++aM (N-a.length) M
noncomputable def vW:DO->Option D
 |.rt d=>Y d|.ro a=>Y (.lst a)|.nx _=>Y .dW|_=>M
noncomputable def Qn:DO->Option (List D)
 |.ro a=>Y a|_=>M
def jY(n N:Nat)(g:DG)(a:List D):Option D:=if a.length=n then (g (hJ N a)).bind vW else M
def CF(n N:Nat)(g:DG)(a:List D):Option (List D):=if a.length=n then (g (hJ N a)).bind Qn else M
def mU{i:Nat}(h:(hJ N b)[i]?=Y (Y d)):b[i]?=Y d:=by
 unfold hJ at h;by_cases c:i<b.length
 .rw[dQ (by simp_all),bt]at h;obtain⟨a,e,h⟩:=aj.1 h;rw[e];cases h;rfl
 .rw[qN (by simp_all),jt]at h;split at h<;>cases h
def qX{K:aG}{H:Hp}{m:List V}(s:bf G H)(r:aY K G k m)(t:∀i∈Z,k.length<=i):SR K ⟨G,H,[],x⟩ Z G H (start N m) (hJ N.length k):=by
 have g:∀i d,i∈Z->(hJ N.length k)[i]?=Y (Y d)->False:=λi d f e=>by
  have:=(au.mp (mU e)).1
  grind
 refine⟨s,bf.refl _,bf.refl _,λb o e =>.inl e,λi d f e =>?_,⟨λ_=>[],λi d f e=>(g i d f e).elim,λi d f e=>(g i d f e).elim,λi j d c f z e=>(g i d f e).elim⟩,by simp[start,hJ,r.length],λi a h=>(by cases h),λj r p w A e=>(g j _ w e).elim⟩;obtain⟨v,n,q⟩:=r.get (mU e);refine⟨v,?_,q⟩;have f:=(au.mp n).1;unfold start;rw[dQ (by simp_all),bt,n];exact ź
section
variable {P:aZ}{K:aG}
def gH.xJ{m:nW}{f:ax}{N:List aE}(F:gH K x e m f O)(S:bu N I (az m)){Z Ź:List Nat}{g:DG}(p:∀i∈Z,I.length<=i) (hb:∀(j:aq) (A:fF) (outer:List Env) (s:aw) (H:Hp) (E:XK),dB k (A.deeper (l5 e (az m) s.heap.objs.size f j))->∀B:Bs,B.3=[] ->
   lX (pI fX P w K u y N e (az m) f j A outer s H E).F9 (fx m) (gD K B [] Z Ź g)):bT P w K u y fX (k+1) f O I (iD K (jY I.length N.length g)):=by
 refine F.ok S (λR H Q E h =>?_) λj A outer s H R Q E U h =>?_
 .obtain⟨G,ds,d,c,r,b,_⟩:=h;unfold jY at b;split at b
  .rw[<- r.length];lia
  .cases b
 .obtain⟨G,ds,d,c,r,b,q⟩:=h;unfold jY at b;split at b
  .refine⟨_,hb j A _ s H E U ⟨G,H,[],λl l=>False⟩ rfl,?_⟩;obtain⟨o,eg,b⟩:=aa.1 b;refine⟨G,_,o,qX c r ż,eg,?_⟩;cases o with
   |rt d'=>cases b;solve_by_elim|ro T=>cases b;exact λa J z t E h1 L h3 r=>q _ _ t (E.freeze h1 L h3) (bR.mpr ⟨a,J,rfl,aW,aY.mono (.alloc L) T r⟩)
   |nx D=>cases b;exact λσ z t S=>q _ z t S.jP (f_.mpr rfl)
   |_=>cases b
  .cases b
def gH.ZI{f:ax}(F:gH K x j p f I)(S:bu N z (az p)){Z Ź:List Nat}{g:DG}(t:∀i∈Z,z.length<=i) (R:∀(m:aq) (A:fF) (e:List Env) (s:aw) (H:Hp) (E:XK),dB k (A.deeper (l5 j (az p) s.heap.objs.size f m))->∀B:Bs,B.3=[] ->
   lX (pI fX P w K u y N j (az p) f m A e s H E).F9 (fx p) (gD K B [] Z Ź g)):bT P w K u y fX (k+1) f I z (GH K (CF z.length N.length g)):=by
 refine F.ok S (λJ H Q E h =>?_) λm A e s H J Q E a h =>?_
 .obtain⟨G,ds,d,D,r,b,_⟩:=h;unfold CF at b;split at b
  .rw[<- r.length];lia
  .cases b
 .obtain⟨G,ds,d,D,r,b,q⟩:=h;unfold CF at b;split at b
  .refine⟨_,R m A e s H E a ⟨G,H,[],λc c=>False⟩ rfl,?_⟩;obtain⟨o,eg,b⟩:=aa.1 b;refine⟨G,_,o,qX D r ż,eg,?_⟩;cases o with
   |ro rs=>cases b;solve_by_elim|_=>cases b
  .cases b
structure ju(P:aZ)(w:cC)(K:aG)(mg:aE->Option aq)(base:cy)(x:aE)(k:Nat)(sp:Sp):Prop where
 ex:∃f fd ps,bT P w K mg base fX k f fd ps sp/\mg x=some (.ref f)/\pR K (.ref f)=true/\Binds K fd ps []
def ju.mono(h:ju P w K u y x j a)(c:j<=k):ju P w K u y x k a:=by
 obtain⟨f,g,b,e,d⟩:=h.ex;exact⟨f,g,b,e.mono c,d⟩
end
section
variable {X:Cx}
def sI{F:List D->Option D}(h:ju X.prog X.w X.K X.mg X.base x k (iD X.K F))(s:dB k X.A)(z:Gl X x)(E:PA X (e::l) (AR X.K Z g))(b:autoParam ((x==("__debug__" : aE))=false) ū)(A:autoParam (ao (e::l) X.env=(Z_,eval e X.env)::ao l X.env) ŭ)(a:autoParam ((bX C (ao l X.env)).any (·.1)=false) ŭ):PE X (.Call (.Name x p) (e::l) [] C) (tP X.K Z (bc F g)):=by
 obtain⟨f,fd,U,I,t,w,B⟩:=h.ex;refine(mG I s z t w B .nil j6 E b A a).imp ?_;rintro T H Q ⟨G,m,d,J,c,L,q⟩;obtain⟨i,K,u⟩:=Ae L;exact⟨G,m,i,J,c,K,λn R O j r=>by rw[bL];exact⟨R,i,d,j.gh,r,u,λv P N S o=>q v P N (j.trans S) o⟩⟩
noncomputable def rQ(F:List D->Option (List D))(g:DL):DL:=λa=>(g a).bind F
def vI{F:List D->Option (List D)}(h:ju X.prog X.w X.K X.mg X.base x k (GH X.K F))(w:dB k X.A)(B:Gl X x)(J:PA X (e::l) (AR X.K Z g))(d:autoParam ((x==("__debug__" : aE))=false) ū)(E:autoParam (ao (e::l) X.env=(Z_,eval e X.env)::ao l X.env) ŭ)(c:autoParam ((bX C (ao l X.env)).any (·.1)=false) ŭ):PE X (.Call (.Name x p) (e::l) [] C) (tF X.K Z (rQ F g)):=by
 obtain⟨f,fd,ps,i,z,A,I⟩:=h.ex;refine(mG i w B z A I .nil j6 J d E c).imp ?_;rintro σ H Q ⟨G,o,O,u,j,b,q⟩;obtain⟨n,N,b⟩:=aa.1 b;exact⟨G,o,n,u,j,N,λr T R m v=>by rw[bL];exact⟨T,n,O,m.gh,v,b,λa s S P U i L K t=>q a s S P (m.trans U) (m.hh.free i) L K t⟩⟩
noncomputable def BC:D->Bool
 |.dW=>Z'|.bl _=>Z'|.int _=>Z'|.str _=>Z'|_=>Z_
end
def U0{F:List D->Option D}{m:Nat}(e:∀b:List Int,b.length<=m->F [.kA b]=Y (.bl Z'))(K:aG)(H:Hp)(a:ax)(b:List Int)(c:b.length<=m)(f:O0 H)(d:mY K H a (b.map V.int)):
  iD K F [.ref a] H (λv i=>v=.bl Z') λi i i=>False:=
 ⟨H,_,_,bf.refl _,.cons (IC.mpr ⟨a,rfl,d⟩) .nil,e b c,λv h g E r=>cR.mp r⟩
noncomputable def Ite(K:aG)(a:ax):It:=
 ⟨λi H=>∃b x,mY K H a b/\b[i]?=Y x,λi H v c=>∃x p,(∀b,mY K H a b->b[i]?=Y x)/\H p=M/\v=.ref p/\c=dD H p (.tup [.int i,x]),λi H=>∃b,mY K H a b/\b.length<=i⟩
def Ka{P:aZ}{K:aG}{x1}(a e t:ax)(T:e≠t):HW P w K (.Tuple acu x1 N) (Ite K a) [e,t] e (λi h=>(∃l,IsEnum h e t (i:Int) l)/\h.IsListIter t a i) where
 mem:=by simp
 obj:=λi h D b g=>by
  obtain⟨⟨l,f⟩,j⟩:=D;rcases br.mp g with rfl|g
  .exact⟨_,f,λv z=>by cases z⟩
  .have e:b=t:=by simpa using g
   subst e;obtain⟨o,e,c,d⟩:=j;exact⟨o,e,λv z=>by rw[d]at z;cases z⟩
 keep:=λi h h' D k=>by obtain⟨⟨l,f⟩,j⟩:=D;exact⟨⟨l,k e Ž _ f⟩,j.at λo q=>k t Ž o q⟩
 item:=by
  intro X hP hw hK hc i J s σ H E I R D hg;subst hP hw hK;obtain⟨⟨l,f⟩,j⟩:=D;obtain⟨xs,x,hq,B⟩:=hg;obtain⟨Hg,rv,p,hz⟩:=I.list hq;obtain⟨u,hu,ru⟩:=rv.get B;have fe:=R e Ž;have U:=R t Ž;refine wpAny_pyNext_enum_item f j p.isList (x:=u) (by simpa using hu) T λh1 eo it1 t1 z1 k1 =>?_
  refine⟨_,rfl,?_⟩;refine wpAny_letOwnedTupleGo_enum (s:={ s with heap:=h1,toks:=s.toks+1 }) eo λG e2 s2 =>?_
  have S:e<s.heap.objs.size:=aI f;have W:H s.heap.objs.size=none:=I.eY.fresh (aH _);have L:fR e h1 G:=s2;have m:∀b o,b≠e->b≠t->s.heap.get? b=Y o->G.get? b=Y o:=λb o h3 h4 q=>(L.2 b h3).trans (k1 b o h3 h4 q)
  have tup:G.get? s.heap.objs.size=Y { cls :=.type "tuple",data :=.seq #[.int i s.toks,u] }:=(L.2 _ (gj S)).trans t1;have C:∀b o,H b=Y o->b≠e/\b≠t:=λb o q=>⟨λz=>by(rw[z,fe.1]at q;cases q),λz=>by(rw[z,U.1]at q;cases q)⟩
  have new:jA X.prog X.w (dD H s.heap.objs.size (.tup [.int i,x])) G s.heap.objs.size (.tup [.int i,x]):=
   ⟨by show 2<=a_;rw[iG];decide,[.int i s.toks,u],.cons ⟨_,rfl⟩ (.cons ru .nil),_,tup,rfl,_,rfl⟩
  have O:mZ X.prog X.w (dD H s.heap.objs.size (.tup [.int i,x])) G:=λb o q=>by
   by_cases g:b=s.heap.objs.size
   .subst g;rw[aW]at q;cases q;exact new
   .rw[aP g]at q;refine(I.eY b o q).xY (λc v F r =>?_) (λc r=>by rw[aP (bF r W)];exact r) λc ys r=>by rw[aP (bF r W)];exact r
    rcases F with rfl|F
    .exact m _ _ (C _ _ q).1 (C _ _ q).2 r
    .exact m _ _ (C _ _ F).1 (C _ _ F).2 r
  have un:Un (zY X.stack) [e,t] H (dD H s.heap.objs.size (.tup [.int i,x])) s.heap G:=by
   have y:∀b,b∉[e,t]->b≠e/\b≠t:=λb g=>⟨λz=>g (by simp[z]),λz=>g (by simp[z])⟩
   have l:∀b o,s.heap.get? b=Y o->b≠s.heap.objs.size:=λb o q=>bH (aI q)
   refine⟨λb o q n A B=>m b o (y b B).1 (y b B).2 q,λb o q n A B=>⟨o.slots,m b o (y b B).1 (y b B).2 q⟩,λb o q n B=>by rw[aP (l b o q)];exact n,
    λb o q B=>⟨o,m b o (y b B).1 (y b B).2 q⟩,λb ys q=>by rw[aP (bF q W)];exact q,λb o u q=>by rw[aP (bF q W)];exact q,λb ps q=>⟨#[],by rw[aP (bF q W)];simpa using q⟩⟩
  have I2:Inv X J σ (dD H s.heap.objs.size (.tup [.int i,x])) { s with heap:=G,toks:=s.toks+1 }:=I.Ap (s':={ s with heap:=G,toks:=s.toks+1 }) rfl un O I.bare λb g=>by
   rcases br.mp g with rfl|g
   .exact⟨fe.2.2.2.1,fe.2.1,fe.2.2.2.2.1,fe.2.2.2.2.2⟩
   .have z:b=t:=by simpa using g
    subst z;exact⟨U.2.2.2.1,U.2.1,U.2.2.2.2.1,U.2.2.2.2.2⟩
  have ZF:G.IsListIter t a (i+1):=it1.at λo q=>(L.2 t (bE T)).trans q
  refine⟨.ref s.heap.objs.size,_,I2,rfl,⟨x,s.heap.objs.size,λys hy=>by rw[I.rJ hy hq];exact B,W,rfl,rfl⟩,⟨⟨u,by exact_mod_cast e2⟩,ZF⟩,λb g =>?_⟩;have:b≠s.heap.objs.size:=by
   rcases br.mp g with rfl|g
   .exact bH S
   .have z:b=t:=by simpa using g
    subst z;obtain⟨o,q,_⟩:=j;exact bH (aI q)
  rw[aP this];exact(R b g).1
 done:=by intro X hP hw hK hc i J s σ H E I R D hg;subst hP hw hK;obtain⟨⟨l,f⟩,j⟩:=D;obtain⟨xs,hq,B⟩:=hg;obtain⟨Hg,rv,p,hz⟩:=I.list hq;obtain⟨f0,f1,f2,f3,f4,f5⟩:=R t Ž;have hl:=rv.length;exact wpAny_pyNext_enum_end (I.ok.hd hc) f j p.isList (by simp;lia) λh' eb=>⟨rfl,I.turned (t':=s.toks) (λb o g q=>eb b o g q) f0 f1 f3 f4 f5⟩
 self:=λA i s Q E D h=>by obtain⟨⟨l,f⟩,j⟩:=D;exact wpAny_pyIter_enum f h
section
variable {X:Cx}{f:DF}
def Vi(K:aG)(e:TE):TI:=λc H R=>e c H λx b=>∃a,x=.ref a/\(∃d,mY K b a d)/\R (Ite K a) b
def Qh{A}{v:TE}(Q:Gl X "enumerate")(O:X.mg "enumerate" = M)(P:PE X e v)(E:autoParam (ao [e] X.env=[(Z_,eval e X.env)]) ŭ)(n:autoParam (ao [e] X.env=(Z_,eval e X.env)::ao [] X.env) ŭ)(L:autoParam (fQ "enumerate" = Y (.type "enumerate")) Ť):PI X (.Tuple k A g) (.Call (.Name "enumerate" p) [e] [] i) (Vi X.K v):=by
 intro j s y H R I h;refine Call_ (p_ I Q O L (gZ (fo (bS P dI n i j s y H (λl f=>match l with|[x]=>∃a,x=.ref a/\(∃r,mY X.K f a r)/\R (Ite X.K a) f|_=>False) I h) ?_) E rfl));rintro U c ⟨l,f,d,C,m⟩;cases l with
 |nil=>exact m.elim|cons x t=>
  cases t with
  |cons _ _=>exact m.elim|nil=>
  obtain⟨a,rfl,⟨r,N⟩,q⟩:=m;obtain⟨u,rfl,B⟩:=cb.one C;cases B;obtain⟨K,rv,D,hz⟩:=d.list N;refine call_enumerate_list D.isList λS w G T J =>?_
  refine wpAny_pyIter_enum w ?_;have F:f c.heap.objs.size=none:=d.eY.fresh (aH _);refine⟨c.heap.objs.size+1,[c.heap.objs.size+1,c.heap.objs.size],_,_,f,rfl,d.kept (t':=c.toks) J,Ka a (c.heap.objs.size+1) c.heap.objs.size (gj (nY _)),⟨⟨_,w⟩,G⟩,λb o =>?_,q⟩;rcases br.mp o with rfl|o
  .exact d.yh (jG _) (d.eY.fresh (jG _))
  .have z:b=c.heap.objs.size:=by simpa using o
   subst z;exact d.yh (aH _) F
noncomputable def xQ(a:List D):List D:=a.zipIdx.map λp =>.tup [.int (p.2:Nat),p.1]
def w_{i:Nat}(h:(xQ a)[i]?=Y d):∃x,a[i]?=Y x/\d=.tup [.int i,x]:=by
 unfold xQ at h;rw[bt,List.getElem?_zipIdx]at h;rcases e:a[i]? with _|x<;>simp_all
def w8(a:List D):(xQ a).length=a.length:=by simp[xQ]
def KZ{K:aG}{a:ax}(k:G a=Y (.lst b))(r:aY K G n b):FV K G (Ite K a) (xQ n):=by
 refine⟨λi H s e =>?_,λi H s e=>⟨b,.of (s _ _ k),by rw[w8]at e;rw[<- r.length];exact e⟩,λi H x B A d l h ⟨y,p,f,m,u,w⟩ t =>?_⟩
 .rw[w8]at e;have j:i<b.length:=by rw[<- r.length];exact e
  exact⟨b,b[i],.of (s _ _ k),by simp[j]⟩
 .obtain⟨c,z,rfl⟩:=w_ t;obtain⟨v,g,o⟩:=r.get z;rw[(f b (.of (h _ _ (l _ _ k))))]at g;cases g;subst u w;refine⟨_,eJ.alloc h m,cL.mpr ⟨p,_,rfl,aW,.cons (bK.mpr rfl) (.cons (cS.mono (l.trans (.alloc (h.free m))) c o) .nil)⟩⟩
def iE(f:DF):DL:=λa=>(iL f a).map xQ
def Z6{c:List Expr}{o}(w:Gl X "enumerate")(u:X.mg "enumerate" = M)(h:PE X e (tP X.K Z f))(t:autoParam (ao [e] X.env=[(Z_,eval e X.env)]) ŭ)(i:autoParam (ao [e] X.env=(Z_,eval e X.env)::ao [] X.env) ŭ):
  PI X (.Tuple c o b) (.Call (.Name "enumerate" p) [e] [] g) (Cs X.K Z (iE f)):=(Qh w u h t i).imp <|by
 rintro B H R ⟨G,n,D,x,j,d,k⟩;obtain⟨C,y,d⟩:=aj.1 d;cases d;refine⟨G,n,_,x,j,C6 y,λv A z m s =>?_⟩;obtain⟨a,q,rfl,l,r⟩:=bR.mp s;exact⟨a,rfl,⟨q,.of (m.gh _ _ l)⟩,k _ A z m (KZ l r)⟩
noncomputable def Its(x:aE):It:=⟨λi b=>i<x.cps.size,λi H v a=>a=H/\∃c,x.cps[i]?=Y c/\v=.str ⟨#[c]⟩,λi b=>x.cps.size<=i⟩
def Mh{P:aZ}{K:aG}(x:aE)(t:Tok)(j:ax):HW P w K G (Its x) [j] j (λi h=>h.IsStrIter j "str_ascii_iterator" x t i) where
 mem:=by simp
 obj:=λi h a b l=>by
  have e:b=j:=by simpa using l
  subst e;obtain⟨o,e,c,d⟩:=a;exact⟨o,e,λv z=>by rw[d]at z;cases z⟩
 keep:=λi h p a k=>by obtain⟨o,e,c,d⟩:=a;exact⟨o,k j Ž o e,c,d⟩
 item:=by
  intro X q hw r F i f s D H E I n a g;subst q hw r;obtain⟨C,B,L,A,y,u⟩:=n j Ž;have g:i<x.cps.size:=g;refine wpAny_pyNext_ascii_item a (c:=x.cps[i]) (by simp[g]) λp m J =>?_
  have N:Inv X f D H { s with heap:=p,toks:=s.toks+1 }:=I.turned (λb o l e=>(J.2 b l).trans e) C B A y u;obtain⟨o,e,c,d⟩:=id m;exact⟨_,rfl,Jd (s:={ s with heap:=p,toks:=s.toks+1 }) e c d ſ ⟨.str ⟨#[x.cps[i]]⟩,H,N,⟨_,rfl⟩,⟨rfl,_,by simp[g],rfl⟩,m,λb l=>(n b l).1⟩⟩
 done:=by intro X q hw r F i f s D H E I n a g;subst q hw r;obtain⟨C,B,L,A,y,u⟩:=n j Ž;have g:x.cps.size<=i:=g;exact wpAny_pyNext_ascii_end (I.ok.hd F) a (by simp[g]) λp O=>⟨rfl,I.turned (t':=s.toks) (λb o l e=>O b o l e) C B A y u⟩
 self:=λv v v v v a h=>wpAny_pyIter_striter_ascii a h
def Yh(b:TE):TI:=λa H R=>b a H λv c=>∃x,v=.str x/\x.cps.all (· < 128)=Z'/\R (Its x) c
def Um{f:TE}(m:PE X l f):PI X i l (Yh f):=by
 intro a s g H R I h;refine fo (m a s g H _ I h) ?_;rintro v c ⟨x,r,d,j,k⟩;obtain⟨z,e,p,q⟩:=k;subst e;obtain⟨t,rfl⟩:=j;refine wpAny_pyIter_ascii p ?_;refine⟨_,_,_,_,r,rfl,d.kept λb o e=>ak _ e,Mh z t _,⟨_,bg _ rfl,rfl,rfl⟩,λb n =>?_,q⟩;have e:=by simpa using n
 subst e;exact d.yh (aH _) (d.eY.fresh (aH _))
noncomputable def ue(x:aE):List D:=x.cps.toList.map λc =>.str ⟨#[c]⟩
def iS(f:DF):DL:=λa=>(f a).bind λd=>match d with|.str x=>if x.cps.all (· < 128)=Z' then Y (ue x) else M|_=>M
def NS{K:aG}(x:aE):FV K G (Its x) (ue x):=by
 have f:(ue x).length=x.cps.size:=by simp[ue]
 refine⟨λi H s a=>by rw[f]at a;exact a,λi H s a=>by rw[f]at a;exact a,λi H v m k d l g ⟨e,c,j,h⟩ b =>?_⟩;subst e h;refine⟨k,.refl g,?_⟩;unfold ue at b;rw[bt,S8,j]at b;cases b
 exact ź
set_option tactic.hygienic true
def VO{g:Expr}(h:PE X e (tP X.K Z f)):PI X g e (Cs X.K Z (iS f)):=(Um h).imp <|by
 rintro q H R ⟨G,c,r,l,b,a,k⟩;obtain⟨d,m,a⟩:=aa.1 a;cases d<;>simp only[ai]at a<;>try (cases a)
 split at a
 .cases a;rename_i x j;exact⟨G,c,_,l,b,m,λv o n p i=>⟨x,ij.mp i,j,k _ o n p (NS x)⟩⟩
 .cases a
end
def eU{K:aG}{Z:List Nat}(i:Nat)(e:autoParam (i∉Z) ū):∀v a H Q,Wi K Z (gN i) v a H Q->om i v a H Q:=λv a H Q ⟨G,h,d,c,f,b,r,g,k⟩=>by
 cases g;exact k _ G H (.refl f) (b.set e r)
noncomputable def vO(b:Scope)(d N:List aE)(c:List (Option Nat))(a:Scope):Bool:=
 (a.names.all λy=>a.names.lookup y.1==Y y.2)&&(a.names.all λy=>y.2 != .free||(b.names.lookup y.1==Y .cell||b.names.lookup y.1==Y .free))&&(c.length==N.length) &&
 ((cH c.length).all λi=>match c[i]?,N[i]? with|some (Y j),Y x=>d[j]? == Y x&&a.names.lookup x==Y .free|_,_=>Z')
def gP{X:Cx}{outer:Scope}{oN N:List aE}{src:List (Option Nat)}(d:a.kind=.function)(h:vO outer oN N src a=Z')(p:X.env.scope=outer)(o:X.N=oN):fY X N src a:=by
 unfold vO at h;simp only[aR,eN,beq_iff_eq,wj]at h;obtain⟨⟨⟨n,m⟩,l⟩,k⟩:=h;refine⟨d,λy b=>n y b,λy b f =>?_,l,λi j x c g =>?_⟩
 .grind
 .have e:=(au.mp c).1;have:=k i ż;rw[c,g]at this;simp at this;rw[o];exact this
section
variable {m:aZ}{s:aw}{R:Pe->aw->Prop}
variable {P:Nat->aq->Prop}
end
section
variable {m:aZ}{s:aw}
variable {P:Nat->aq->Prop}
end
section
variable {X:Cx}{f:DF}
end
abbrev DM:=bY->Option (D×bY)
abbrev O7:=bY->Option (List D×bY)
inductive tM (K:aG) (B:Bs) (Z:List Nat) (f:DM) (c:St) (H:Hp) (Q:VK):Prop
 |mk G e d a:SR K B Z G H c e->f e=some (d,a)->(∀v b g,SR K B Z b g c a->bf G b->cS K b d v->Q v g)->tM K B Z f c H Q
inductive Tw (K:aG) (B:Bs) (Z:List Nat) (f:O7) (c:St) (H:Hp) (Q:List V->Hp->Prop):Prop
 |mk G d g a:SR K B Z G H c d->f d=some (g,a)->(∀e b h,SR K B Z b h c a->bf G b->aY K b g e->Q e h)->Tw K B Z f c H Q
noncomputable def AM(H:Hp)(a:ax):Hp:=λb=>if b=a then M else H b
theorem Aa:AM H a a=none:=by simp[AM]
theorem uF(h:b≠a):AM H a b=H b:=by simp[AM,h]
def Jl:bf (AM H a) H:=λb o e=>by
 grind [Aa,uF]
section
variable {X:Cx}{m:Pos}
noncomputable def mP(f:DF):DM:=λρ=>(f ρ).map λd=>(d,ρ)
def QA{f:DF}(h:mP f b=Y (d,a)):f b=Y d/\a=b:=by
 obtain⟨c,e,h⟩:=aj.1 h
 simp_all
def mK{f:DF}(h:PE X e (tP X.K Z f)):PE X e (tM X.K B Z (mP f)):=h.imp <|by
 rintro j H Q ⟨G,n,d,a,S,b,k⟩;obtain⟨c,rfl⟩:=QA b;exact⟨G,a,d,S.gh,S.jh,c,λv i g E r=>k v i g (S.ext E) E.gg r⟩
noncomputable def kR:O7:=λρ=>Y ([],ρ)
noncomputable def jJ(f:DM)(g:O7):O7:=λρ=>(f ρ).bind λp=>(g p.2).bind λq=>Y (p.1::q.1,q.2)
def NB{f:DM}(h:jJ f g d=Y (j,b)):∃x a c,f d=Y (x,a)/\g a=Y (c,b)/\j=x::c:=by
 obtain⟨⟨x,a⟩,i,h⟩:=aa.1 h;rcases e:g a with _|_
 .simp_all
 grind
def sG:PA X [] (Tw X.K B Z kR):=dI.imp <|by
 rintro c H Q ⟨G,e,d,a,S,b,k⟩;cases b;exact k _ G H S (bf.refl _) .nil
def lV{f:DM}{g:O7}(h:PE X e (tM X.K B Z f))(t:PA X l (Tw X.K B Z g))(r:autoParam (ao (e::l) X.env=(Z_,eval e X.env)::ao l X.env) ŭ):PA X (e::l) (Tw X.K B Z (jJ f g)):=
 (bS h t r).imp <|by rintro F H Q ⟨G,j,d,b,S,w,k⟩;obtain⟨x,a,n,u,c,rfl⟩:=NB w;exact⟨G,j,x,a,S,u,λv E J z o q=>⟨E,a,n,b,z,c,λI D C y i p=>k _ D C y (o.trans i) (.cons (cS.mono i x q) p)⟩⟩
noncomputable def yf(g:O7):DM:=λa=>(g a).bind λq=>if q.1.length<=1000 then Y (.tup q.1,q.2) else M
set_option tactic.hygienic true in
def VJ{q}{g:O7}(h:PA X l (Tw X.K B Z g)):PE X (.Tuple l q m) (tM X.K B Z (yf g)):=(wC h).imp <|by
 rintro v H Q ⟨G,i,d,b,S,a,k⟩;unfold yf at a;rw[aa]at a;obtain⟨⟨c,e⟩,f,a⟩:=a;have a:(if c.length<=1000 then Y (D.tup c,e) else M)=Y _:=a;split at a
 .cases a;rename_i t;refine⟨G,i,c,b,S,f,λj x w o r n=>⟨?_,λp u =>?_⟩⟩
  .rw[<- n.length];exact bz t rK
  .have E:=eJ.alloc (o :=.tup j) o.gh u;exact k _ _ _ (o.ext E) (r.trans E.gg) (cL.mpr ⟨p,j,rfl,aW,aY.mono E.gg c n⟩)
 .cases a
noncomputable def m2(o:D->D->Option D)(a b:DM):DM:=λc=>(a c).bind λp=>(b p.2).bind λq=>(o p.1 q.1).map λd=>(d,q.2)
def QB{f:bY}(h:m2 o a b g=Y (d,f)):∃x e y,a g=Y (x,e)/\b e=Y (y,f)/\o x y=Y d:=by
 obtain⟨⟨x,e⟩,k,h⟩:=aa.1 h;rcases j:b e with _|⟨y,n⟩
 .simp_all
 rcases i:o x y with _|c
 .simp_all
 grind
def Es{K:aG}{s:DM}(h:tM K B Z (m2 o s A) c H Q):Wl (rD K o) (tM K B Z s) (tM K B Z A) c H Q:=by
 obtain⟨G,i,d,b,S,z,k⟩:=h;obtain⟨x,a,y,t,r,C⟩:=QB z;exact⟨G,i,x,a,S,t,λv L N E j q=>⟨L,a,y,b,E,r,λu J l f e p=>⟨J,x,y,d,f.gh,.inl (cS.mono e x q),.inl p,C,λw I F g n=>k w I F (f.ext g) ((j.trans e).trans g.gg) n⟩⟩⟩
variable {s:DM}
def adT(d:AL X (cT c) o)(f:PE X a (tM X.K B Z s))(e:PE X b (tM X.K B Z A)):PE X (.BinOp a c b m) (tM X.K B Z (m2 o s A)):=(IG d f e).imp λg H Q h=>Es h
def UU(j:Nat):DM:=λb=>(gk j b).bind λa=>(a[a.length-1]?).map λd=>(d,b.set j (Y (.lst a.dropLast)))
def VL{b a:Pos}(h:PE X (.Name y p) (fB j))(q:autoParam (j∈Z) ū)(f:autoParam (bQ (.Name y p) "pop" X.env (eval (.Name y p) X.env)=eval (.Name y p) X.env) ŭ)(e:autoParam ((b.endLine==a.line)=true) ŭ):
  PE X (.Call (.Attribute (.Name y p) "pop" b) [] [] a) (tM X.K B Z (UU j)):=
 (CN gw PySem.F.slot_list_pop PySem.F.type_list_pop Nu h f e).imp <|by
  rintro x H Q ⟨G,z,d,o,S,g,k⟩;obtain⟨n,t,g⟩:=aa.1 g;rcases i:n[n.length-1]? with _|c
  .simp[i]at g
  simp only[i,ai,d9]at g;cases g;exact Uk S q (cA t) i λv w u r=>k v G w u (bf.refl _) r
inductive AV (K:aG) (p:Nat) (F:List D->Option (D×List D)) (h:List V) (H:Hp) (Q:VK) (_x:XK):Prop
 |mk G f d b a n k:bf G H->f[p]?=some (.lst k)->h[p]?=some (.ref a)->H a=some (.lst n)->aY K G k n->G a=none->(∀(i:Nat) c,i≠p->f[i]?=some c->∃v,h[i]?=some v/\cS K G c v)->f.length=h.length->F f=some (d,b)->(∀v e g j,eJ G (AM H a) g j->g a=none->j a=some (.lst e)->aY K g b e->cS K g d v->Q v j)->AV K p F h H Q _x
def Qo(p:Nat):DO->Option (D×List D)
 |.rm d a=>(gk p a).map λb=>(d,b)
 |.nx a=>(gk p a).map λb=>(.dW,b)
 |_=>M
def AX(n N p:Nat)(g:DG)(a:List D):Option (D×List D):=if a.length=n then (g (hJ N a)).bind (Qo p) else M
def SR.Rx{K:aG}{f v:Hp}{a:ax}(S:SR K B Z G H g i)(w:j∈Z)(t:i[j]?=Y (Y d))(p:g[j]?=Y (Y (.ref a)))(E:eJ G (AM H a) f v)(L:f a=M)(C:v a=Y n)(r:jo K f u n)(x:autoParam (xO d=true) ŭ):SR K B Z f v g (i.set j (Y u)):=by
 obtain⟨F,W⟩:=S.ow;obtain⟨Q,y,N⟩:=W.it j d w t;obtain⟨⟨o,_⟩,l⟩:=(mq.cell x).mp N;have:=S.chg (F0:=[a]) W w (λb c=>⟨ż,d,t⟩) E.gg E.gh λb o e=>by
   rcases E.fr b o e with z|z
   .exact .inl z
   .by_cases c:b=a
    .exact .inr ż
    .rw[uF c]at z;exact .inr (.inl z)
  (λb o c e=>E.hh b o (by simp_all [uF])) ((mq.cell r.xO).mpr ⟨⟨n,C,r⟩,rfl⟩) Ž λb c=>by simp_all
  λb h=>by have:=(S.pin j b h).2;simp_all (DI r.xO) λk q J I m e=>(S.Sw t x k q J I e).elim
 simp_all [fS]
def SR.called{K:aG}{f:Hp}{e:bY}{a:ax}{xs':List D}{b:List V}(S:SR K B Z G H d e)(i:j∈Z)(k:e[j]?=Y (Y (.lst g)))(h:d[j]?=Y (Y (.ref a)))(E:eJ G (AM H a) c f)(o:c a=M)(n:f a=Y (.lst b))(r:aY K c xs' b):SR K B Z c f d (e.set j (Y (.lst xs'))):=
 S.Rx i k h E o n ⟨b,rfl,r⟩
def tR(F:List D->Option (D×List D))(j:Nat)(g:DL):DM:=λa=>(gk j a).bind λb=>(g a).bind λds=>(F (.lst b::ds)).map λq=>(q.1,a.set j (Y (.lst q.2)))
def Z5{F:List D->Option (D×List D)}{e:Pos}{g:DL}(h:ju X.prog X.w X.K X.mg X.base x k (AV X.K 0 F))(hr:dB k X.A)(hg:Gl X x)(hy:PE X (.Name y e) (fB j))(ha:PA X l (AR X.K Z g))(w:autoParam (j∈Z) ū)(z:autoParam ((x==("__debug__" : aE))=false) ū)(O:autoParam (ao (.Name y e::l) X.env=(Z_,eval (.Name y e) X.env)::ao l X.env) ŭ)(u:autoParam ((bX m (ao l X.env)).any (·.1)=false) ŭ):PE X (.Call (.Name x p) (.Name y e::l) [] m) (tM X.K B Z (tR F j g)):=by
 obtain⟨f,fd,ps,h1,hm,hk,hb⟩:=h.ex;refine(mG h1 hr hg hm hk hb .nil j6 (bS hy ha O) z O u).imp ?_;rintro σ H Q ⟨G,n,d,U,S,b,q⟩;obtain⟨r,E,b⟩:=aa.1 b;obtain⟨L,I,b⟩:=aa.1 b;obtain⟨⟨d',o⟩,J,b⟩:=aj.1 b;cases b;have C:=cA E;obtain⟨a,vs,K,_⟩:=S.mH w C;refine⟨_,K,G,n,L,S.gh,S.jh,I,λus G1 H1 s N =>?_⟩;have R:=S.ext s;obtain⟨a',t,P,f3,f4,f5,f6⟩:=R.mH w C;rw[K]at P;cases P;show AV X.K 0 F _ H1 Q E0;rw[bL];refine⟨G1,_,d',o,a,t,r,s.gh,rfl,rfl,f3,f4,f5,λi c hi ec =>?_,by simp[N.length],J,λv ws' G2 H2 T g2 h2 r2 r3 =>?_⟩
 .cases i with
  |zero=>solve_by_elim|succ i=>exact N.get (by trivial)
 .exact q v G2 H2 (R.called w C K T g2 h2 r2) (s.gg.trans T.gg) r3
end
section
variable {X:Cx}{m:List Nat}{f:DM}
noncomputable def my(i:Nat)(f:DM):DG:=λa=>(f a).map λq =>.nx (q.2.set i (Y q.1))
def Q7{i:Nat}(w:X.N.Nodup)(p:X.N[i]?=Y x)(h:Loc X.env.scope x)(s:PE X e (tM X.K B Z f))(n:autoParam (i∉Z) ū)(j:autoParam (bU e (Y (.Name x a)) l.line X.env=dn false) ŭ)(q:autoParam (X.fn x=Z'\/X.env.scope.names.lookup x=Y .local) Ũ):
  PS X (.Assign [.Name x a] e l) (gD X.K B m Z Z (my i f)):=(jZ w p h s j q).imp <|by
 rintro D F H ⟨G,g,o,S,b,k⟩;obtain⟨⟨d,c⟩,z,b⟩:=aj.1 b;cases b;exact⟨G,g,d,c,S,z,λv E C A t r=>k _ E C (A.wu n r)⟩
noncomputable def dH(f:DM):DG:=λa=>(f a).map λq =>.rm q.1 q.2
def yL(h:PE X e (tM X.K B Z f)):PS X (.Return (Y e) l) (gD X.K B m Z t (dH f)):=(nG h).imp <|by
 rintro D c H ⟨G,g,o,S,a,k⟩;obtain⟨⟨d,b⟩,i,a⟩:=aj.1 a;cases a;exact⟨G,g,d,b,S,i,λv p n j q r=>k v c p n ⟨Z,j⟩ r⟩
def CA(i:Nat):DG:=λa=>(gk i a).map λb =>.rm (.lst b) a
def Oq(h:PE X (.Name x p) (fB i))(g:autoParam (i∈Z) ū)(b:autoParam (∀a,(i,a)∉B.3) Ŧ)(s:autoParam (x_ i∉Z) ū)(e:autoParam (i<1000000) ū):PS X (.Return (Y (.Name x p)) l) (gD X.K B m Z t (CA i)):=(nG h).imp <|by
 rintro D r H ⟨G,F,o,S,d,k⟩;obtain⟨O,C,d⟩:=aj.1 d;cases d;obtain⟨E,q⟩:=S.freeze (Ź:=Z.filter (· != i)) (λj f=>(lP.mp f).1) i (λj f=>by by_cases c:j=i<;>simp_all) λz=>by simp_all g b s e
 obtain⟨v,A,w⟩:=q.env i _ λz=>by simp_all (cA C)
 exact⟨v,A,k v r E H ⟨_,q⟩ w⟩
def ML(i:Nat)(f:DM):DG:=λa=>(gk i a).bind λ_=>(f a).bind λq=>(gk i q.2).bind λb=>if b.length<dE then Y (.nx (q.2.set i (Y (.lst (b++[q.1]))))) else M
set_option tactic.hygienic true
def Jx(h:PE X (.Name x p) (fB i))(T:PE X e (tM X.K B Z f))(F:autoParam (i∈Z) ū)(q:autoParam (bQ (.Name x p) "append" X.env (eval (.Name x p) X.env)=eval (.Name x p) X.env) ŭ) (z:autoParam (((bX b (ao (e::[]) X.env)).all (λx=> !x.1)&&(eM b (cq [] X.env)).all (λx=>x.1.isSome)
   && decide ((e::[]).length+([]:List lh).length+(if ([]:List lh).isEmpty then 0 else 1)<30))=true) ŭ) (n:autoParam ((g.endLine==b.line)=true) ŭ) (L:autoParam (ao (e::[]) X.env=(Z_,eval e X.env)::ao [] X.env) ŭ) (j:autoParam ((bX b (ao [] X.env)).any (·.1)=false) ŭ) (E:autoParam (bU (.Call (.Attribute (.Name x p) "append" g) [e] [] b) M l.line X.env=dn false) ŭ) :
  PS X (.Expr (.Call (.Attribute (.Name x p) "append" g) [e] [] b) l) (gD X.K B m Z Z (ML i f)):=
 (mF (BH gw PySem.F.slot_list_append PySem.F.type_list_append mW h (bS T dI L) q z n L j) E).imp <|by
  rintro D σ H ⟨G,A,o,S,c,k⟩;obtain⟨ds0,I,c⟩:=aa.1 c;rw[aa]at c;obtain⟨⟨d,w⟩,J,c⟩:=c;rcases s:gk i w with _|ds
  .simp_all
  rw[s]at c;simp only[ai]at c;split at c
  .cases c;rename_i R;obtain⟨a,Q,K,e3,_⟩:=S.mH F (cA I);refine⟨_,K,.inl ⟨rfl,Q,.of e3⟩,G,A,d,w,S,J,λv G' H' P s' r =>?_⟩;have t:=cA s;refine ae λkk =>?_
   obtain⟨a',C,O,U,N,_⟩:=P.mH F t;rw[K]at O;cases O;refine kk (⟨a,C,v,rfl,rfl,U,?_,k _ G' _ (P.mut F t K (N.append (.cons r .nil)))⟩);rw[<- N.length];exact bw R gX
  .cases c
def ZO(f:DM):O7:=λa=>(f a).bind λq=>match q.1 with|.int j=>if -(2 ^ 62)<=j/\j<2 ^ 62 then Y (oP 0 j.toNat,q.2) else M|_=>M
def Ag(w:Gl X "range")(s:X.mg "range" = M)(h:PE X e (tM X.K B Z f))(r:autoParam (ao [e] X.env=(Z_,eval e X.env)::ao [] X.env) ŭ)(b:autoParam (ao [e] X.env=[(Z_,eval e X.env)]) ŭ):PI X o (.Call (.Name "range" p) [e] [] l) (ZE X.K B Z (ZO f)):=
 (BG w s (bS h dI r) b).imp <|by
  rintro D H R ⟨G,n,F,i,S,a,k⟩;obtain⟨⟨d,g⟩,x,a⟩:=aa.1 a;cases d<;>simp only[ai]at a<;>try (cases a)
  split at a
  .cases a;rename_i j c;exact⟨G,n,_,_,S,x,λv C A z E q=>⟨j,ź,c.1,c.2,k _ C A z (uC 0 _)⟩⟩
  .cases a
end
def Bu{K:aG}{c:D}{T:List ax}(s:bf G H)(L:bf E H)(I:p∈Z)(J:x[p]?=Y c)(F:w[p]?=Y (.ref a))(r:mq K G H c a T)(P:T.Nodup)(X:∀b∈T,G b=M/\E b=M)(C:∀r q,c ≠ .eQ r q)(O:∀(i:Nat) c,i≠p->x[i]?=Y c->∃v,w[i]?=Y v/\cS K G c v)(R:x.length=w.length)(Q:∀i∈Z,i=p\/x.length<=i):SR K ⟨G,E,[(p,a)],fl⟩ Z G H (start N w) (hJ N.length x):=by
 have f:∀(i:Nat) v,w[i]?=Y v->(start N w)[i]?=Y (Y v):=λi v e=>by have g:i<w.length:=(au.mp e).1;unfold start;rw[dQ (by simpa using g),bt,e];exact ź
 have n:∀i∈Z,(∃d,(hJ N.length x)[i]?=Y (Y d))->i=p:=λi g ⟨d,e⟩=>by have:=(au.mp (mU e)).1;rcases Q i g with z|z<;>lia
 refine⟨s,bf.refl _,L,λb o e =>.inl e,λi d g e =>?_,⟨λ_=>T,λi d g e =>?_,λi d g e=>⟨P,X⟩,λi j d c g S ei ej B=>absurd ((n i g ⟨d,ei⟩).trans (n j S ⟨c,ej⟩).symm) B⟩,by simp[start,hJ,R],λi b h =>?_,λj k q U h2 e =>?_⟩
 .obtain⟨v,ev,l⟩:=O i d (λz=>g (z ▸ I)) (mU e);exact⟨v,f i v ev,l⟩
 .have z:=n i g ⟨d,e⟩;subst z;have A:=mU e;rw[J]at A;cases A;exact⟨a,f _ _ F,r⟩
 .have z:(i,b)=(p,a):=by simpa using h
  cases z;exact⟨I,f _ _ F⟩
 .have z:=n j U ⟨_,e⟩;subst z;have A:=mU e
  grind
def Bx{K:aG}(s:bf G H)(j:p∈Z)(q:d[p]?=Y c)(h:e[p]?=Y (.ref a))(w:H a=Y o)(r:jo K G c o)(x:G a=M)(g:∀(i:Nat) c,i≠p->d[i]?=Y c->∃v,e[i]?=Y v/\cS K G c v)(n:d.length=e.length)(k:∀i∈Z,i=p\/d.length<=i):SR K ⟨G,AM H a,[(p,a)],z⟩ Z G H (start N e) (hJ N.length d):=
 Bu s Jl j q h ((mq.cell r.xO).mpr ⟨⟨o,w,r⟩,rfl⟩) Ž λb f=>by simp_all [Aa] (DI r.xO) g n k
def Bw{K:aG}{f:List D}(s:bf G H)(j:p∈Z)(o:b[p]?=Y (.lst f))(h:e[p]?=Y (.ref a))(q:H a=Y (.lst d))(r:aY K G f d)(w:G a=M)(g:∀(i:Nat) c,i≠p->b[i]?=Y c->∃v,e[i]?=Y v/\cS K G c v)(n:b.length=e.length)(k:∀i∈Z,i=p\/b.length<=i):SR K ⟨G,AM H a,[(p,a)],x⟩ Z G H (start N e) (hJ N.length b):=
 Bx s j o h q ⟨d,rfl,r⟩ w g n k
section
set_option tactic.hygienic true
variable {P:aZ}{K:aG}
def gH.tj{st:nW}{f:ax}(F:gH K x I st f fd)(S:bu N ps (az st))(p:Nat){Z Ź:List Nat}{g:DG}(hp:p∈Z)(Vk:∀i∈Z,i=p\/ps.length<=i) (hb:∀(L:aq) (A:fF) (j:List Env) (s:aw) (H:Hp) (E:XK),dB k (A.deeper (l5 I (az st) s.heap.objs.size f L))->∀(B:Bs) (a:ax),B.3=[(p,a)] ->
   lX (pI fX P w K u y N I (az st) f L A j s H E).F9 (fx st) (gD K B [] Z Ź g)):bT P w K u y fX (k+1) f fd ps (AV K p (AX ps.length N.length p g)):=by
 refine F.ok S (λvs H Q E h =>?_) λL A j s H vs Q E hr h =>?_
 .obtain⟨G,ds,d,R,a,ws,X,gh,hd,hv,ha,r,ga,ro,hl,e,_⟩:=h;unfold AX at e;split at e<;>simp_all
 .obtain⟨G,ds,d,R,a,ws,X,gh,hd,hv,ha,r,ga,ro,hl,e,q⟩:=h;unfold AX at e;split at e
  .rename_i hn;refine⟨_,hb L A j s H E hr ⟨G,AM H a,_,λl l=>False⟩ a rfl,?_⟩;obtain⟨o,eg,e⟩:=aa.1 e;have kC:∀ {σ:St}{C:bY}{O T:Hp}{o':List Nat}{U:List D},SR K ⟨G,AM H a,[(p,a)],λl l=>False⟩ o' O T σ C->gk p C=Y U->∃z,T a=Y _/\aY K O U z/\O a=none:=fun {σ C O T o' U} c J=>by
    refine ae λkk =>?_
    obtain⟨Vj,hσ⟩:=c.pin p a ź;obtain⟨b,vs',f2,f3,f4,f5,_⟩:=c.mH Vj (cA J);rw[hσ]at f2;cases f2;exact kk (⟨vs',f3,f4,f5⟩)
   refine⟨G,_,o,Bw gh hp hd hv ha r ga ro hl (by rw[hn];exact Vk),eg,?_⟩;cases o with
   |rm d' C=>obtain⟨U,J,e⟩:=aj.1 e;cases e;intro v σ O T ⟨o',c⟩ rv;obtain⟨z,f3,f4,f5⟩:=kC c J;exact q v z O T c.jP f5 f3 f4 rv
   |nx C=>obtain⟨U,J,e⟩:=aj.1 e;cases e;intro σ O T c;obtain⟨z,f3,f4,f5⟩:=kC c J;exact q _ z O T c.jP f5 f3 f4 (f_.mpr rfl)
   |_=>cases e
  .cases e
end
def UZ(n:bY)(w:FZ)(u:DM)(i0:Nat):List D->List D->Option (List D×List D)
 |[],c=>Y ([],c)|d::e,c=>(w d (n.set i0 (Y (.lst c)))).bind λa=>(u a).bind λp=>(gk i0 p.2).bind λb=>(UZ n w u i0 e b).map λq=>(p.1::q.1,q.2)
def Yc(f:DL)(src:List (Option Nat))(w:FZ)(u:DM)(i0 j0:Nat):DM:=λn=>(f n).bind λa=>if a.length<=dE then (gk j0 n).bind λb=>(UZ (pb src n) w u i0 a b).map λq=>(.lst q.1,n.set j0 (Y (.lst q.2))) else M
def Wm(K:aG)(i0:Nat)(u:DM):TE:=λt H Q=>∃(B:Bs) (a:ax),B.3=[(i0,a)]/\tM K B [i0] u t H Q
def YV{X:Cx}(h:∀(B:Bs) (a:ax),B.3=[(i0,a)]->PE X e (tM X.K B [i0] u)):PE X e (Wm X.K i0 u):=by rintro b s t H Q I ⟨B,a,c,q⟩;exact ź
theorem Az:∀ {l:List a}{i:Nat}{x:a},l[i]?=Y x->l.set i x=l
 |[],i,x,h=>by simp at h
 |y::l,0,x,h=>by simp_all
 |y::l,i+1,x,h=>by simp at h;simp[Az h]
section
variable {K:aG}
def Eb{i:Nat}(e:(pb src n)[i]?=Y (Y d)):∃j,src[i]?=Y (Y j)/\n[j]?=Y (Y d):=by
 unfold pb at e;rw[bt]at e;obtain⟨o,a,e⟩:=aj.1 e;rw[a];cases o with
 |none=>cases e|some j=>
  have e:=by simpa using e
  refine⟨j,rfl,?_⟩;rcases q:n[j]? with _|z<;>simp_all
def pa{i:Nat}{v:V}(b:src[i]?=Y (Y j))(a:t[j]?=Y (Y v)):(oO src t)[i]?=Y (Y v):=by
 simp_all [oO,bt]
def SR.inner{fl:aE->Int->Prop}{i0:Nat}(S:SR K B Z G H t (n.set j0 (Y (.lst q))))(y:j1 Z [i0] src=Z')(x:src[i0]?=Y (Y j0))(k:∃d,n[j0]?=Y d)(s:t[j0]?=Y (Y (.ref a))):
  SR K ⟨G,AM H a,[(i0,a)],fl⟩ [i0] G H (oO src t) ((pb src n).set i0 (Y (.lst q))):=by
 have l:=(ki y x).mp ź;refine ae λkk =>?_
 obtain⟨d0,k⟩:=k;have P:(n.set j0 (Y (D.lst q)))[j0]?=Y (Y (.lst q)):=by rw[bj ((au.mp k).1)]
 obtain⟨b,J,I,e3,e4,_⟩:=S.mH l P;rw[s]at I;cases I;refine kk (⟨S.gh,bf.refl _,Jl,λb o e =>.inl e,λi d g e =>?_,⟨λu=>[a],λi d g e =>?_,λi d g e=>⟨Ž,λb C =>?_⟩,λi j d c g m u u f =>?_⟩,by simp[oO,pb],λi b h =>?_,λj r p R Q e =>?_⟩)
 .rcases gR e with⟨lia,_⟩|⟨f,e⟩
  .simp_all
  .obtain⟨j,F,ej⟩:=Eb e;have m:j∉Z:=λz=>g ((ki y F).mpr z)
   have:j0≠j:=λz=>m (z ▸ l)
   obtain⟨v,f1,X⟩:=S.env j d m ż;exact⟨v,pa F f1,X⟩
 .have z:i=i0:=by simpa using g
  subst z;rcases gR e with⟨_,rfl,_⟩|_
  .exact⟨a,pa x s,⟨_,e3,J,rfl,e4⟩,rfl⟩
  simp_all
 .simp_all [Aa]
 .simp_all
 .simp_all [pa]
 simp_all
end
section
variable {X:Cx}{f:DL}
inductive LcI {α:Type}(K:aG) (B:Bs) (Z:List Nat) (t:St) (e:α->bY) (F:Nat->α->Option (List D×α)) (G:Hp) (z:α) (r:List D) (i:Nat) (y:List V) (H:Hp):Prop
 |mk g l x o:y.length<=i->SR K B Z g H t (e x)->bf G g->aY K g l y->F i x=some (o,z)->l++o=r->LcI K B Z t e F G z r i y H
set_option tactic.hygienic true in
def UY{K:aG}(ho:j1 Z [i0] src=Z')(h0:src[i0]?=Y (Y j0))(hg:∀(B:Bs) v t H Q,Gv K B [i0] w v t H Q->g v t H Q)(q:tM K B Z (Yc f src w u i0 j0) t H Q):
  Wn (Cs K Z f) src g (qP K [i0] f9) (Wm K i0 u) t H Q:=by
 obtain⟨G,n,d,ρ',S,h,k⟩:=q;have hj0:j0∈Z:=(ki ho h0).mp ź;unfold Yc at h;obtain⟨j,ef,h⟩:=aa.1 h;split at h
 .rename_i hz;obtain⟨xs0,el,h⟩:=aa.1 h;obtain⟨⟨rs,xsF⟩,em,h⟩:=aj.1 h;cases h;have F:=cA el;obtain⟨a,vs0,e2,_⟩:=S.mH hj0 F;refine⟨G,n,j,S.gh,S.jh,ef,λJ G1 H1 E1 ok =>?_⟩;have S1:=S.ext E1;rw[<- Az F]at S1;refine⟨λi m ys H2=>m=j.length-i/\i<=j.length/\LcI K B Z t (λb=>n.set j0 (Y (.lst b))) (λi=>UZ (pb src n) w u i0 (j.drop i)) G1 xsF rs i ys H2,
   ⟨j.length,rfl,dk _,G1,[],xs0,rs,aH _,S1,bf.refl _,.nil,em,rfl⟩,?_⟩
  rintro i m ys H2 ⟨rfl,hil,G2,l,xs,o,hyl,S2,s2,rx,c,rfl⟩;have sub:bf G1 H2:=s2.trans S2.gh;by_cases C:i<j.length
  .refine .inr ⟨ok.go i H2 sub C,?_,_,
    λr H' z=>⟨j.length-(i+1),ž,rfl,C,z⟩,λx H3 y =>?_⟩
   .have:=gX;lia
   .refine ae λkk =>?_
    obtain⟨G3,E3,V8⟩:=ok.Ib i H2 x H3 G2 j[i] s2 S2.gh y (bp C);have S3:=S2.ext E3;rw[iK C]at c;unfold UZ at c;obtain⟨s,et,c⟩:=aa.1 c;obtain⟨⟨x4,ρ5⟩,ee,c⟩:=aa.1 c;obtain⟨N,X,c⟩:=aa.1 c;obtain⟨⟨P,xsE⟩,R,c⟩:=aj.1 c;cases c;have SI:=S3.inner (fl:=λr r=>False) ho h0 ⟨_,F⟩ e2;refine kk (hg _ _ _ _ _ ⟨G3,_,j[i],s,SI,V8,et,λσ4 G4 H4 S4=>⟨G4,s,Z',S4.gh,S4.jh,rfl,λG5 H5 E5=>vu ?_⟩⟩);refine⟨_,a,rfl,G5,s,x4,ρ5,S4.ext E5,ee,λv G6 H6 S6 s6 r6=>⟨G6,l++[x4],N,P,by simp;lia,?_,?_,?_,R,Ž⟩⟩
    .obtain⟨Vj,hσ⟩:=S6.pin i0 a Ž;obtain⟨b,ws,f2,f3,f4,f5,_⟩:=S6.mH Vj (cA X);rw[hσ]at f2;cases f2;have hl:j0<n.length:=(au.mp F).1;have:=S3.called (xs':=N) hj0 (by rw[bj hl]) e2 S6.jP f5 f3 f4;rw[List.set_set]at this;exact this
    .exact s2.trans (E3.gg.trans S6.g0)
    .exact(aY.mono (E3.gg.trans S6.g0) l rx).append (.cons r6 .nil)
  .have e:i=j.length:=ž
   subst e;rw[uV]at c;unfold UZ at c;refine ae λkk =>?_
   cases c;refine kk (.inl ⟨ok.stop _ H2 sub (aH _),λp hp =>?_⟩);have EA:=eJ.alloc (p:=p) (o :=.lst ys) S2.gh hp;refine k _ _ _ (S2.ext EA) (E1.gg.trans (s2.trans EA.gg)) ?_;rw[bL];exact bR.mpr ⟨p,ys,rfl,aW,aY.mono EA.gg l rx⟩
 .cases h
def YW(S:fY X N src A)(j:X.calm=Z')(e:PI X E L (Cs X.K Z f))(m:Pn T g)(a:∀i∈T,src[i]?=Y M)(h:∀(B:Bs) v t H Q,Gv X.K B [i0] w v t H Q->g v t H Q)(k:∀C s H b,PG (X.uL N A C s H b) E g/\F_ (X.uL N A C s H b) [] (qP X.K [i0] f9)/\PE (X.uL N A C s H b) O (Wm X.K i0 u))(l:autoParam (src[i0]?=Y (Y j0)) ŭ)(d:autoParam (j1 Z [i0] src=true) ū)(c:autoParam (∀x,cw L X.env x=dn x) Ū):PE X (.ListComp O [⟨E,L,[],0⟩] A U) (tM X.K B Z (Yc f src w u i0 j0)):=
 (M5 S j e m a k c).imp λt H Q q=>UY d l h q
def rM(K:aG)(i i0:Nat)(b:autoParam (i∉[i0]) ū):∀(B:Bs) v t H Q,Gv K B [i0] (gN i) v t H Q->om i v t H Q:=λB v t H Q ⟨G,n,d,a,S,r,c,k⟩=>by
 cases c;exact k _ G H (S.wu b r)
end
section
variable {X:Cx}
noncomputable def bq(c f:aE)(g:DF):DF:=λa=>(g a).bind λd=>match d with|.ins h b e=>if h=c then (b.zip e).lookup f else M|_=>M
theorem Jh{K:aG}{f:aE}:∀ {b:List aE}{g:List D}{a:List V}{d:D},aY K G g a->(b.zip g).lookup f=Y d->∃v,(b.zip a).lookup f=Y v/\cS K G d v
 |[],g,a,d,r,e=>by simp at e
 |k::b,[],a,d,r,e=>by simp at e
 | k::b,c::g,a,d,r,e=>by
  obtain⟨v,t,rfl,i,l⟩:=bD.mp r;simp only[ez,la]at e ⊢;cases h:f==k with
  |true=>simp_all|false=>rw[h]at e;exact Jh l e
noncomputable def Wh:D->V
 |.bl b =>.bl b|.int i =>.int i|.str x =>.str x|_ =>.dW
theorem Ig{K:aG}{v:V}(h:BC d=Z')(r:cS K G d v):v=Wh d/\qC v=true:=by
 cases d<;>first|(simp[BC]at h;done)|(subst r;exact ź)
theorem D8{K:aG}:∀ {b:List D}{a:List V},b.all BC=Z'->aY K G b a->a=b.map Wh/\a.all qC=Z'
 |[],a,h,r=>by rw[cU.mp r];simp_all
 | d::b,a,h,r=>by
  rw[fm,aR]at h;obtain⟨v,t,rfl,c,e⟩:=bD.mp r;obtain⟨k,g⟩:=Ig h.1 c;obtain⟨i,f⟩:=D8 h.2 e
  simp_all
def inD(b:Bool)(x:D)(a:List D):Option D:=if (BC x&&a.all BC)=Z' then Y (.bl (if b then !Ww (Wh x) (a.map Wh) else Ww (Wh x) (a.map Wh))) else M
def Pl(a:Bool):D->D->Option D
 |x,.lst b=>inD a x b|x,.tup b=>inD a x b|_,_=>M
set_option tactic.hygienic true in
def Zy{K:aG}(h:rD K (Pl c) x y H Q):rIn K c x y H Q:=by
 obtain⟨G,t,C,d,k,w,u,l,q⟩:=h;have kC:∀(m:List D) (b:List V),inD c t m=Y d->aY K G m b->qC x=Z'/\b.all qC=Z'/\d=.bl (if c then !Ww x b else Ww x b):=λm b e r=>by
  unfold inD at e;split at e
  .rename_i i;have v:cS K G t x:=by
    rcases w with z|⟨a,o,_,_,z⟩
    .exact z
    .cases t<;>first|exact z.elim|simp_all [BC]
   grind [Ig,D8]
  .cases e
 unfold Pl at l;split at l<;>try (cases l)
 .obtain⟨p,b,rfl,s,n⟩:=u.lst k;obtain⟨g,f,rfl⟩:=kC _ _ l n;exact⟨p,b,rfl,.inl (.of s),g,f,q _ G H (.refl k) (cR.mpr rfl)⟩
 .obtain⟨p,b,rfl,s,n⟩:=u.tup k;obtain⟨g,f,rfl⟩:=kC _ _ l n;exact⟨p,b,rfl,.inr (.of s),g,f,q _ G H (.refl k) (cR.mpr rfl)⟩
def acP:AL X (hI .In) (Pl Z_):=ou.imp Ky λx y H Q h=>Zy h
noncomputable def QP:D->Bool
 |.bl _=>Z'|_=>Z_
noncomputable def vR:D->Bool
 |.bl b=>b|_=>Z_
def gL(b:Bool):List D->Option D
 |[.lst a]=>if a.all QP=Z' then Y (.bl (if b then a.all vR else a.any vR)) else M
 |_=>M
def VY{K:aG}{f:List aq}(h:a.all QP=Z')(r:aY K G a l)(m:cb l f){i:Nat}{u:aq}(e:f[i]?=Y u):∃b,u=.bool b/\(a[i]?).map vR=Y b:=by
 have d:i<a.length:=by rw[r.length,m.length];exact((au.mp e).1)
 have k:=bp d;obtain⟨v,s,c⟩:=r.get k;obtain⟨w,p,g⟩:=m.get s;rw[e]at p;cases p;have o:=eN.mp h _ (List.getElem_mem d);cases n:a[i] with
 |bl b=>rw[n]at c k;have:=cR.mp c;subst this;exact⟨b,g,by rw[k];solve_by_elim⟩
 |_=>rw[n]at o;cases o
def LF{ys:List D}{tr:Nat->Bool}(h:∀i,i<ys.length->(ys[i]?).map vR=Y (tr i)):(cH ys.length).all tr=ys.all vR/\(cH ys.length).any tr=ys.any vR:=by
 have:(cH ys.length).map tr=ys.map vR:=by apply List.ext_getElem?;intro i;by_cases a:i<ys.length<;>simp_all
 constructor
 .simpa [wc] using congrArg (λl=>l.all id) this
 .simpa [List.any_map] using congrArg (λl=>l.any id) this
set_option tactic.hygienic true in
def B8(l:X.calm=Z')(h:Bool):lu X (.builtin (if h then "all" else "any")) (rC X.K (gL h)):=by
 intro A s P H xs us Q I R ⟨G,ds,d,O,r,t,q⟩;unfold gL at t;split at t
 .rename_i m;split at t
  .cases t;rename_i hb;obtain⟨v,rfl,T⟩:=r.one;obtain⟨a,vs,rfl,U,L⟩:=T.lst O;obtain⟨u,rfl,S⟩:=cb.one R;cases S;obtain⟨g,y,J,hz⟩:=I.list (.of U);obtain⟨o,j,hc,n0,hd⟩:=J.isList;have D:a≠s.heap.objs.size:=bH (aI j);have k:g.toArray.size=m.length:=by simp[L.length,y.length]
   let w:Nat->Bool:=λi=>((m[i]?).map vR).getD Z_
   have C:TruthOf X.prog X.w X.A.in1 (λi v=>g.toArray[i]?=Y v) w:=λi v s Q E hP N=>by
    obtain⟨b,rfl,K⟩:=VY hb L y (i:=i) (u:=v) (by simpa using hP);have:w i=b:=by show ((m[i]?).map vR).getD Z_=b;rw[K];exact ź
    rw[this]at N;exact g_ N
   have f:=LF (ys:=m) (tr:=w) λi hi=>by show _=Y (((m[i]?).map vR).getD Z_);rw[bp hi];exact ź
   have kC:∀(b:Bool) (p:cy) (n:Nat),(∀c F,c∉[s.heap.objs.size]->(s.heap.push { cls :=.type "list_iterator",data :=.fields #[.ref a,.int 0 0] }).get? c=Y F->p.get? c=Y F)->b=(if h then m.all vR else m.any vR) ->
     EP X A P Q (.bool b) { s with heap:=p,toks:=n }:=λb p n B K=>
    ⟨.bl b,H,I.kept (t':=n) λc F e=>B c F (λz=>by
     have z:c=s.heap.objs.size:=by simpa using z
     exact absurd (aI e) (by rw[z];exact i_ _)) (ak _ e),rfl,by
     rw[K];exact q _ G H (.refl O) (cR.mpr rfl)⟩
   have x:(s.heap.push { cls :=.type "list_iterator",data :=.fields #[.ref a,.int 0 0] }).IsListIter s.heap.objs.size a 0/\(s.heap.push { cls :=.type "list_iterator",data :=.fields #[.ref a,.int 0 0] }).IsList a g.toArray:=
    ⟨⟨_,bg _ rfl,rfl,rfl⟩,⟨o,ak _ j,hc,n0,hd⟩⟩
   cases h with
   |true=>refine call_all_walk (lg J.isList ⟨s.heap.objs.size,_,_,_,_,_,w,rfl,Walks.list (A:=X.A.in1) (I.ok.hd l) _ a D g.toArray,x,C,λp n B =>?_⟩);rw[k,f.1];exact kC _ p n B rfl
   |false=>refine call_any_walk (lg J.isList ⟨s.heap.objs.size,_,_,_,_,_,w,rfl,Walks.list (A:=X.A.in1) (I.ok.hd l) _ a D g.toArray,x,C,λp n B =>?_⟩);rw[k,f.2];exact kC _ p n B rfl
  .cases t
 .cases t
variable {f:DF}
def HE(a:X.calm=Z')(d:Gl X "all")(c:X.mg "all" = M)(h:PE X e (tQ X.K Z f))(b:autoParam (ao (e::[]) X.env=(Z_,eval e X.env)::ao [] X.env) ŭ):PE X (.Call (.Name "all" p) [e] [] j) (tP X.K Z (bc (gL Z') (aC f aN))):=
 Ak (B8 a _) d c PyProof.Rows.boot_all (Af h Dr b) ſ ſ b rfl
def OE(a:X.calm=Z')(d:Gl X "any")(c:X.mg "any" = M)(h:PE X e (tQ X.K Z f))(b:autoParam (ao (e::[]) X.env=(Z_,eval e X.env)::ao [] X.env) ŭ):PE X (.Call (.Name "any" p) [e] [] j) (tP X.K Z (bc (gL Z_) (aC f aN))):=
 Ak (B8 a _) d c PyProof.Rows.boot_any (Af h Dr b) ſ ſ b rfl
end
section
variable {X:Cx}{f:DF}
end
section
variable {X:Cx}{m:List Nat}{f:DF}
end
def RA{X:Cx}{g:List aE}{s:aw}(k:b.kind=.function)(h:vO a g N d b=Z'):fY (X.uL g a C s H t) N d b:=by
 unfold vO at h;simp only[aR,eN,beq_iff_eq,wj]at h;obtain⟨⟨⟨r,q⟩,p⟩,o⟩:=h;refine⟨k,λy e=>r y e,λy e m =>?_,p,λi j x f n =>?_⟩
 .show (relabel a X.env).names.lookup y.1=Y .cell\/(relabel a X.env).names.lookup y.1=Y .free;unfold relabel;rw[nI];rcases q y e with z|z<;>grind
 .have l:=(au.mp f).1;have:=o i ż;rw[f,n]at this;simp at this;exact this
section
variable {X:Cx}{f:DF}
end
noncomputable def Vu(i j l:Nat):FZ:=λd e=>match d with|.tup [a,b,c]=>Y (((e.set i (Y a)).set j (Y b)).set l (Y c))|_=>M
def N3{f:bY}(h:Vu i j l d f=Y e):∃a b c,d=.tup [a,b,c]/\e=((f.set i (Y a)).set j (Y b)).set l (Y c):=by
 unfold Vu at h;split at h<;>lia
def Ko{K:aG}{v:V}(r:cS K G (.tup [a,b,c]) v):∃p x y z,v=.ref p/\G p=Y (.tup [x,y,z])/\cS K G a x/\cS K G b y/\cS K G c z:=by
 refine ae λkk =>?_
 obtain⟨p,j,e,g,i⟩:=cL.mp r;obtain⟨x,n,rfl,h,t⟩:=bD.mp i;obtain⟨y,l,rfl,f,t⟩:=bD.mp t;obtain⟨z,k,rfl,d,t⟩:=bD.mp t;rw[cU.mp t]at g;exact kk (⟨p,x,y,z,e,g,h,f,d⟩)
section
variable {X:Cx}{m:List Nat}
def Oz{i:Nat}(h:PG X e (Vs X.K 3 (BX (om i) (BX (om j) (BX (om l) Vt)))))(u:autoParam (i∉Z) ū)(t:autoParam (j∉Z) ū)(s:autoParam (l∉Z) ū):PG X e (Gv X.K B Z (Vu i j l)):=h.imp <|by
 rintro v A H Q ⟨G,C,d,f,S,r,w,k⟩;obtain⟨a,b,c,rfl,rfl⟩:=N3 w;obtain⟨p,x,y,z,rfl,g,q,o,n⟩:=Ko r;exact⟨p,_,rfl,.of (S.gh _ _ g),rfl,x,_,rfl,y,_,rfl,z,_,rfl,rfl,k _ G H (((S.wu u q).wu t o).wu s n)⟩
end
end L2
namespace L2
open PySem PyProof.Rows PySem.Spec
section
variable {s:aw}
end
end L2
namespace L2
open PySem PySem.Spec PyProof.Rows
noncomputable def Kg(c:List Int):List Int:=c.mergeSort (λa b=>decide (a<=b))
def y8(a:List Int):(Kg a).Perm a:=List.mergeSort_perm a _
def GF(ns:List Int):(Kg ns).Pairwise (· <= ·):=by
 exact(List.pairwise_mergeSort (le:=λa b=>decide (a<=b)) λa b c h1 h2=>by grind λa b=>by simp;lia ns).imp λh=>by simpa using h
def TJ(p:a.Perm b)(h:a.Pairwise (· <= ·)):a=Kg b:=PySem.W.ksm_same (p.trans (y8 b).symm) h (GF b)
theorem vw:∀ {b:List Int}{a:List aq},cb (b.map V.int) a->Gi a b
 |[],a,h=>by cases h;exact .nil
 | n::r,a,h=>by
  cases h with
  |cons d c=>obtain⟨t,rfl⟩:=d;exact .cons n t (vw c)
def Cm(h:Gi a b):cb (b.map V.int) a:=by
 induction h with|nil=>exact .nil|cons n t _ ih=>solve_by_elim
section
variable {X:Cx}{f:DF}
noncomputable def BR:List D->Option (List Int)
 |[]=>Y []|.int i::r=>(BR r).map (i :: ·)|_::_=>M
theorem zQ:∀ {b:List D}{a:List Int},BR b=Y a->b=a.map D.int
 |[],a,h=>by cases h;exact ź
 | d::r,a,h=>by
  cases d<;>simp only[BR]at h<;>try (cases h)
  obtain⟨c,e,h⟩:=aj.1 h;cases h;rw[zQ e];exact ź
theorem wz{K:aG}:∀ {b:List Int}{a:List V},aY K G (b.map D.int) a↔a=b.map V.int
 |[],a=>by simp[aY]
 | n::r,a=>by
  simp;constructor
  .rintro⟨v,t,rfl,rfl,h⟩;rw[wz.mp h]
  .rintro rfl;exact⟨_,_,rfl,rfl,wz.mpr rfl⟩
end
section
variable {X:Cx}{m:List Nat}
end
end L2
namespace L2
open PySem
section
variable {X:Cx}
def vP(i:Nat)(f:autoParam (X.N[i]?=Y x) ŭ)(c:autoParam (V3 X.env.scope x) ű)(e:autoParam ((x==("__debug__" : aE))=false) ū)(b:autoParam ((x==("__classdict__" : aE))=false) ū)(d:autoParam (i∉Z) ū):PE X (.Name x a) (tP X.K Z (eV i)):=dv (pv i f c e b) d
def vQ(i:Nat)(f:autoParam (X.N[i]?=Y x) ŭ)(c:autoParam (V3 X.env.scope x) ű)(e:autoParam ((x==("__debug__" : aE))=false) ū)(b:autoParam ((x==("__classdict__" : aE))=false) ū)(d:autoParam (i∉Z) ū):PE X (.Name x a) (tQ X.K Z (eV i)):=dq (vP i f c e b d)
end
end L2
namespace L2
open PySem PySem.Spec PyProof.Rows
section
variable [DecidableEq G]
noncomputable def sX(gO:List (G×V))(k:G):Option V:=(gO.find? λa=>decide (a.1=k)).map (·.2)
noncomputable def xB(gO:List (G×V))(k:G)(v:V):List (G×V):=
 if (gO.any λa=>decide (a.1=k))=Z' then gO.map (λa=>if a.1=k then (a.1,v) else a) else gO++[(k,v)]
def uY{p:G×V}(e:p.1=k):sX (p::r) k=Y p.2:=by simp[sX,j4,e]
def qS{p:G×V}(e:¬p.1=k):sX (p::r) k=sX r k:=by simp[sX,j4,e]
theorem D7(k:G):∀gO:List (G×V),(gO.any λa=>decide (a.1=k))=(sX gO k).isSome
 |[]=>rfl| p::r=>by
  rw[Pg];by_cases e:p.1=k
  .simp_all [uY,decide_eq_true,Bool.true_or,Option.isSome_some]
  .rw[qS e,decide_eq_false e];exact D7 k r
theorem xM(gO:List (G×V))(k:G)(v:V):(xB gO k v).length<=gO.length+1:=by
 grind [xB,aD,bB,bo,lQ]
def pL.wV(r:pL o u):o.isSome=u.isSome:=by
 cases o with
 | none=>cases u with
  |none=>rfl|some _=>solve_by_elim
 | some _=>cases u with
  |none=>solve_by_elim|some _=>rfl
def pL.getD{u:Option aq}(r:pL o u)(b:RelV d a):RelV (o.getD d) (u.getD a):=by
 cases o with
 | none=>cases u with
  |none=>exact b|some _=>solve_by_elim
 | some _=>cases u with
  |none=>solve_by_elim|some _=>exact r
def KV.val{f:List (G×aq)}(r:KV gO f)(k:G):pL (sX gO k) (valueAt f k):=by
 induction r with
 |nil=>solve_by_elim|@cons p q l a h t ih=>
  obtain⟨g,i⟩:=h;by_cases e:p.1=k
  .have b:valueAt (q::a) k=Y q.2:=by simp[valueAt,j4,g.symm.trans e]
   rw[uY e,b];exact i
  simp_all [valueAt,j4,qS]
def KV.any(r:KV gO b)(k:G):(gO.any λa=>decide (a.1=k))=b.any λa=>decide (a.1=k):=by
 induction r<;>simp_all
theorem KV.T7(r:KV gO d)(k:G)(f:RelV y u):
  KV (gO.map λa=>if a.1=k then (a.1,y) else a) (d.map λa=>if a.1=k then (a.1,u) else a):=by
 induction r with
 |nil=>exact .nil|@cons p q l i h t ih=>
  refine .cons ?_ ih
  grind
def KV.put(r:KV gO a)(k:G){u:aq}(b:RelV y u):KV (xB gO k y) (stored a k u):=by
 unfold xB stored;rw[r.any k];by_cases e:(a.any λd=>decide (d.1=k))=Z'
 .rw[if_pos e,if_pos e];exact r.T7 k b
 .rw[if_neg e,if_neg e];exact Paired.snoc r ⟨rfl,b⟩
def KV.length{a:List (G×aq)}(r:KV gO a):gO.length=a.length:=Paired.length r
end
def Fk{P:aZ}{k:lO}(r:RelV (kV k) u):(jI P w).is k u=true:=by
 cases k with
 |inl i=>obtain⟨t,e⟩:=r;simp_all [EW]
 |inr x=>obtain⟨t,e⟩:=r;simp_all [EV]
theorem BQ{P:aZ}:∀ {a:List lO}{b:List aq},cb (a.map kV) b->ItemsAre (jI P w) a b
 |[],_,r=>by cases r;exact .nil
 | k::a,_,r=>by
  cases r with|cons h t=>exact .cons (Fk h) (BQ t)
abbrev KT(H:Hp):List (List lO×V)->List (List lO×ax×aq)->Prop:=Paired λp q=>p.1=q.1/\H q.2.1=Y (.tup (p.1.map kV))/\RelV p.2 q.2.2
def KT.val{f:List (List lO×ax×aq)}(r:KT H gO f)(k:List lO):pL (sX gO k) ((atKey f k).map (·.2)):=by
 induction r with
 |nil=>solve_by_elim|@cons p q l a h t ih=>
  obtain⟨g,_,i⟩:=h;by_cases e:p.1=k
  .have b:atKey (q::a) k=Y q.2:=by simp[atKey,j4,g.symm.trans e]
   rw[uY e,b];exact i
  simp_all [atKey,j4,qS]
theorem KT.T7(r:KT H gO d)(k:List lO)(g:RelV y u):
  KT H (gO.map λb=>if b.1=k then (b.1,y) else b) (d.map (putAt k u)):=by
 induction r with
 |nil=>exact .nil|@cons p q o l h t ih=>rw[bx];refine .cons ?_ ih;obtain _:=h;unfold putAt;by_cases e:p.1=k<;>simp_all
def KT.put(r:KT H gO a)(k:List lO){u:aq}(g:H b=Y (.tup (k.map kV)))(d:RelV y u):
  KT H (xB gO k y) (storedH a k b u):=by
 have e:(gO.any λf=>decide (f.1=k))=(atKey a k).isSome:=by rw[D7,(r.val k).wV,Option.isSome_map]
 unfold xB storedH;rw[e];by_cases q:(atKey a k).isSome=Z'
 .rw[if_pos q,if_pos q];exact r.T7 k d
 .rw[if_neg q,if_neg q];exact Paired.snoc r ⟨rfl,g,d⟩
def KT.keeps(r:KT H gO d)(f:∀b a,H b=Y (.tup a)->e b=Y (.tup a)):KT e gO d:=
 Paired.Yb r λc c z=>⟨z.1,f _ _ z.2.1,z.2.2⟩
section
variable {P:aZ}
def MQ(b:mZ P w H h)(e:Rd H a u):jA P w H h a u:=e.ok b
def B2(d:mZ P w H h)(e:Rd H a (.dK gO)):gO.length<=a_/\(a==kq)=Z_/\∃b,KV gO b/\h.DictOf (jI P w) a b:=
 MQ d e
def YX(d:mZ P w H h)(e:H a=Y (.dK gO)):gO.length<=a_/\(a==kq)=Z_/\∃b,KV gO b/\h.DictOf (jI P w) a b:=B2 d (.inl e)
theorem zL(f:mZ P w H h)(e:H a=Y (.tup (b.map kV))):(Pa (jI P w)).is h b a:=by
 obtain⟨_,d,r,o,k,i,n,g⟩:=f a _ e;exact⟨o,_,n,k,i,g,by simpa using BQ r⟩
def B1(g:mZ P w H h)(e:Rd H a (.dT gO)):gO.length<=a_/\(a==kq)=Z_ /\
  ∃d,KT H gO d/\h.DictOfH (Pa (jI P w)) a d:=by
 obtain⟨z,y,d,r,o,D,E,A,v,u,s,k⟩:=MQ g e;refine⟨z,y,d,r,o,D,E,A,v,u,s,λx b =>?_,k⟩;have f:∀ {l:List _}{m:List _},KT H l m->∀x∈m,(Pa (jI P w)).is h x.1 x.2.1:=by
  intro l m q
  induction q with|nil=>simp_all|@cons p q I F i t ih=>grind [zL]
 exact f r x b
def YS(d:mZ P w H h)(e:H a=Y (.dT gO)):gO.length<=a_/\(a==kq)=Z_ /\
  ∃b,KT H gO b/\h.DictOfH (Pa (jI P w)) a b:=B1 d (.inl e)
end
def yl(H:Hp)(a:ax)(y:V)(r:Option V):Prop:=
 (∃gO k,Rd H a (.dK gO)/\y=kV k/\r=sX gO k)\/∃gO k b,Rd H a (.dT gO)/\y=.ref b/\H b=Y (.tup (k.map kV))/\r=sX gO k
def O6(H:Hp)(a:ax)(y v:V)(d:Hp):Prop:=
 (∃gO k,H a=Y (.dK gO)/\y=kV k/\gO.length<a_/\d=dD H a (.dK (xB gO k v))) \/
 ∃gO k b,H a=Y (.dT gO)/\y=.ref b/\H b=Y (.tup (k.map kV))/\gO.length<a_/\d=dD H a (.dT (xB gO k v))
def yl.k{a:ax}{k:lO}(e:H a=Y (.dK gO)):yl H a (kV k) (sX gO k) :=.inl ⟨gO,k,.inl e,rfl,rfl⟩
def O6.k{a:ax}{k:lO}{v:V}(e:H a=Y (.dK gO))(b:gO.length<a_):O6 H a (kV k) v (dD H a (.dK (xB gO k v))) :=.inl ⟨gO,k,e,rfl,b,rfl⟩
section
variable {X:Cx}{s:aw}{v:V}
def Inv.Y8(I:Inv X C B H s):kq<s.heap.objs.size:=by
 exact Nat.lt_trans ſ (I.mod.glob.keeps I.bk).lt
def Lm(F:A.units+1<qL)(I:Inv X C B H s)(g:yl H a y (Y v))(w:RelV y u)(h:∀i t,Inv X C B H t->RelV v i->Q i t):
  be (aV X.prog X.w) A (LH (.ref a) u) Q E s:=by
 rcases g with⟨gO,k,e,q,l⟩|⟨gO,k,b,e,q,P,l⟩
 .subst q;obtain⟨z,c,D,f,r⟩:=B2 I.eY e;obtain⟨i,hw,d⟩:=pL.some_of (by rw[l];exact f.val k);exact wpAny_getItem_of (Fk w) r.mapOf hw (h i _ (I.tok _) d)
 .subst q;cases w;obtain⟨z,c,x,f,r⟩:=B1 I.eY e;obtain⟨i,hw,d⟩:=pL.some_of (by rw[l];exact f.val k);obtain⟨p,K,o⟩:=aj.mp hw;refine wpAny_getItem_heap (uR F) (zL I.eY P) r K ?_;rw[o];exact h i _ (I.tok _) d
def Ri(v:A.units+1<qL)(I:Inv X C B H s)(g:yl H a y o)(t:RelV y u)(h:∀r,Inv X C B H r->Q (.bool (!o.isSome)) r):
  be (aV X.prog X.w) A (hI .NotIn u (.ref a)) Q E s:=by
 rcases g with⟨gO,k,e,i,l⟩|⟨gO,k,b,e,i,w,l⟩
 .subst i;obtain⟨z,f,D,d,p⟩:=B2 I.eY e;refine wpAny_notIn_of (Fk t) f p.mapOf ?_;rw[<- (d.val k).wV,<- l];exact h _ (I.tok _)
 .subst i;cases t;obtain⟨z,f,x,d,p⟩:=B1 I.eY e;refine wpAny_notIn_heap (uR v) (zL I.eY w) f p ?_;have q:=(d.val k).wV;rw[Option.isSome_map]at q;rw[<- q,<- l];exact h _ (I.tok _)
def JA{t':Nat}{e:HO}(I:Inv X C B H s)(g:Zm (H a))(h:fR a s.heap d)(i:∃q,d.get? a=Y q)(f:jA X.prog X.w (dD H a e) d a e):
  Inv X C B (dD H a e) { s with heap:=d,toks:=t' }:=
 I.write g (.inl rfl) (λb q k z=>(h.2 b k).trans z) i f
def VM{P:aZ}(z:gO.length<=a_)(f:(a==kq)=Z_)(d:KV gO b)(g:e.DictOf (jI P w) a b):
  jA P w h e a (.dK gO):=⟨z,f,b,d,g⟩
def Ll(hu:A.units+1<qL)(I:Inv X C B H s)(g:O6 H a y v H')(j:RelV y u)(P:RelV v r)(h:∀K,Inv X C B H' K->Q () K):
  be (aV X.prog X.w) A (setItem (.ref a) u r) Q E s:=by
 rcases g with⟨gO,k,e,x,l,D⟩|⟨gO,k,b,e,x,eb,l,D⟩
 .subst x D;obtain⟨z,w,vs,d,F⟩:=YX I.eY e;have o:vs.length<=a_:=by rw[<- d.length];exact z
  have t:(xB gO k v).length<=a_:=by grind [xM]
  exact wpAny_setItem_pairs (hsz:=o) (Fk j) F λR f p=>h _ (JA I (by rw[e];exact ź) p (let ⟨q,_,_,i,_⟩:=f;⟨q,i⟩) (VM t w (d.put k P) f))
 .subst x D;cases j;obtain⟨z,w,xs,d,F⟩:=YS I.eY e;have o:xs.length<=a_:=by rw[<- Paired.length d];exact z
  have t:(xB gO k v).length<=a_:=by grind [xM]
  refine wpAny_setItem_heap (uR hu) (zL I.eY eb) F λR f p=>h _ ?_
  obtain⟨q,es,ep,i,h2,h3,h4,_,h5⟩:=f;refine JA I (by rw[e];exact ź) p ⟨q,i⟩ ⟨t,w,_,(d.put k eb P).keeps λc ys S =>?_,q,es,ep,i,h2,h3,h4,h5⟩;rw[aP (by grind)];exact S
end
section
variable {X:Cx}{s:aw}
end
def V5(i:Expr):Prop:=∀a b,Pp i Z_ a b=operate [a,b] (LH a b)
def PJ{s:aw}(y:typeLookup (.type a) "__getitem__" = dn (Y (.builtin u)))(v:V5 d)(h:be (aV b w) A (eval T l) (λo k=>be (aV b w) A (eval d l) (λi e=>e.TypeIs o a/\be (aV b w) A (LH o i) Q E e) E k) E s):
  be (aV b w) A (eval (.Subscript T d N) l) Q E s:=by
 refine Subscript_ (dP h (λo k q=>dP q (λi e f =>?_) λc c x=>x) λc c x=>x);obtain⟨t,f⟩:=f;refine ah ?_;refine ah (wpAny_specialOf t y ?_);have kC:be (aV b w) A (Pp d Z_ o i) (λr g=>be (aV b w) A (letTemporaryGo T o r >>= λc=>dn r) Q E g) E e:=by rw[v o i];exact wpAny_operating (dP f (λr g p=>ah (wpAny_letTemporaryGo (aF p))) λc c x=>x)
 simp_all [aF,ah]
def FG{X:Cx}{s:aw}(I:Inv X C B H s)(g:yl H a y o):s.TypeIs (.ref a) "dict" :=by
 rcases g with⟨gO,k,e,_⟩|⟨gO,k,b,e,_⟩
 .obtain⟨_,_,h,_,d⟩:=B2 I.eY e;exact d.typeIs
 .obtain⟨_,_,f,_,d⟩:=B1 I.eY e;exact d.typeIs
def Xj(J L:TE):TE:=λB H Q=>J B H λx d=>L B d λy b=>∃a v,x=.ref a/\yl b a y (Y v)/\Q v b
def PH(L J:TE):TE:=λB H Q=>L B H λy d=>J B d λx b=>∃a o,x=.ref a/\yl b a y o/\Q (.bl (!o.isSome)) b
def Xw(J L U:TE):TS:=λD B H=>U B H λv f=>J B f λx e=>L B e λy d=>∃a b,x=.ref a/\O6 d a y v b/\D.nx B b
section
variable {X:Cx}{m:Pos}
def Qj(q:X.A.units+1<qL)(t:PE X o J)(w:PE X i L)(r:V5 i):PE X (.Subscript o i N) (Xj J L):=by
 intro C s B H Q I h;refine PJ PySem.F.slot_dict_getitem.lookup r (fo (t C s B H _ I h) ?_);rintro u e ⟨x,F,D,k,p⟩;refine fo (w C e B F _ D p) ?_;rintro R P ⟨y,E,d,f,a,v,z,g,l⟩;subst z;obtain rfl:u=aQ a:=k;exact⟨FG d g,Lm q d g f λK c A b=>⟨v,E,A,b,l⟩⟩
def Kv(p:X.A.units+1<qL)(r:PE X i L)(q:PE X o J):PC X .NotIn i o (PH L J):=by
 intro C s B H Q I h;refine fo (r C s B H _ I h) ?_;rintro K b ⟨y,D,z,d,k⟩;refine fo (q C b B D _ z k) ?_;rintro u F ⟨x,A,w,e,a,l,t,g,f⟩;subst t;obtain rfl:u=aQ a:=e;exact Ri p w g d λE v=>⟨.bl _,A,v,rfl,f⟩
def Qd(w:X.A.units+1<qL)(A:PE X o J)(E:PE X i L)(t:PE X T U)(z:bU T (Y (.Subscript o i j)) N.line X.env=dn Z_):
  PS X (.Assign [.Subscript o i j] T N) (Xw J L U):=by
 intro C s B H D I h;refine wpAny_Assign_Subscript (fo (t C s B H _ I h) ?_) z;rintro r d ⟨v,H1,Q,k,q⟩;refine fo (A C d B H1 _ Q q) ?_;rintro u b ⟨x,S,P,f,p⟩;refine fo (E C b B S _ P p) ?_;rintro iv s3 ⟨y,H3,c,e,a,R,F,g,l⟩;subst F;obtain rfl:u=aQ a:=f;exact Ll w c g e k λs4 K=>⟨B,R,K,l⟩
end
def Oy{P:aZ}{w:cC}(h:cy)(a:kq<h.objs.size):jA P w H (h.push { cls :=.type "dict",data :=.dict #[] }) h.objs.size (.dK []):=
 ⟨dk _,beq_eq_false_iff_ne.mpr (bE (bH a)),[],.nil,Heap.DictOf.new h⟩
def TC:TE:=λ_ H Q=>∀p,H p=M->Q (.ref p) (dD H p (.dK []))
section
variable {X:Cx}
def M7:PE X (.Dict [] [] N) TC:=λC s B H Q I h=>
 wpAny_Dict_empty ⟨.ref _,_,I.laid (λa a q=>ak _ q) (aH _) (Oy _ I.Y8),rfl,h _ (I.eY.fresh (aH _))⟩
end
structure M2(X:Cx)(o:Expr)(m:aE)(uO:Pos)(e f:Expr)(yj:Pos):Prop where
 base:bQ o m X.env (eval o X.env)=eval o X.env
 YC:((bX yj (ao [e,f] X.env)).all (λx=> !x.1)&&(eM yj (cq [] X.env)).all (λx=>x.1.isSome)
  && decide (([e,f]:List Expr).length+([]:List lh).length+(if ([]:List lh).isEmpty then 0 else 1)<30))=true
 line:(uO.endLine==yj.line)=true
 trees:bX yj (ao [e,f] X.env)=[(false,eval e X.env),(false,eval f X.env)]
def IsD(H:Hp)(a:ax):Prop:=(∃gO,Rd H a (.dK gO))\/∃gO,Rd H a (.dT gO)
def Vb{X:Cx}{s:aw}(I:Inv X C B H s)(d:IsD H a):
  s.TypeIs (.ref a) "dict" /\(∀b,aQ a=.ref b->∃f,s.heap.get? b=Y f/\f.dict=M)/\(a==kq)=false:=by
 rcases d with⟨gO,e⟩|⟨gO,e⟩
 .obtain⟨_,h,o,_,g⟩:=B2 I.eY e;refine⟨g.typeIs,λb q =>?_,h⟩;cases q;obtain⟨f,_,_,k,i,_⟩:=g;exact⟨f,k,i.2.1⟩
 .obtain⟨_,h,l,_,g⟩:=B1 I.eY e;refine⟨g.typeIs,λb q =>?_,h⟩;cases q;obtain⟨f,_,_,k,i,_⟩:=g;exact⟨f,k,i.2.1⟩
section
variable {X:Cx}{s:aw}
def VQ(F:A.units+1<qL)(I:Inv X C B H s)(g:yl H a y o)(w:RelV y u)(x:RelV d r)(h:∀t v,Inv X C B H v->RelV (o.getD d) t->Q t v):
  be (aV X.prog X.w) A (HX (.builtin "dict.get") [.ref a,u,r]) Q E s:=by
 rcases g with⟨gO,k,e,q,l⟩|⟨gO,k,b,e,q,K,l⟩
 .subst q;obtain⟨z,p,c,f,i⟩:=B2 I.eY e;refine call_meetsIn PySem.F.slot_dict_get i.typeIs PySem.F.entry_dict_get (PySem.F.args_dict_get_3 _ _ _) (meets_dict_get_default _ a (Fk w) p r) ⟨_,i.mapOf,h _ _ (I.tok _) ?_⟩;rw[l];exact(f.val k).getD x
 .subst q;cases (w);obtain⟨z,p,D,f,i⟩:=B1 I.eY e;refine call_meetsIn PySem.F.slot_dict_get i.typeIs PySem.F.entry_dict_get (PySem.F.args_dict_get_3 _ _ _) (meetsH_dict_get_default _ a b p r) ⟨uR F,k,D,zL I.eY K,i,h _ _ (I.tok _) ?_⟩;rw[l];exact(f.val k).getD x
end
def TF(J L c:TE):TE:=λB H Q=>J B H λx d=>∃a,x=.ref a/\IsD d a/\L B d λy e=>c B e λz b=>∃o,yl b a y o/\Q (o.getD z) b
section
variable {X:Cx}{f:Expr}
def M8(E:X.A.units+1<qL)(F:PE X o J)(j:PE X e L)(K:PE X f c)(m:M2 X o "get" n e f O):PE X (.Call (.Attribute o "get" n) [e,f] [] O) (TF J L c):=by
 intro C s B H Q I h;refine wpAny_Call_method m.base m.YC m.line PySem.F.plainAttrs_dict PySem.F.slot_dict_get PySem.F.type_dict_get (fo (F C s B H _ I h) ?_);rintro u q ⟨x,H1,i,v,a,P,d,D⟩;subst P;obtain rfl:u=aQ a:=v;obtain⟨l,k,_⟩:=Vb i d;refine⟨l,k,?_⟩;rw[m.trees];exact AI rfl (Calls.evalArgs_plain (Ia (fo (j C q B H1 _ i D) λiv p ⟨y,H2,I2,t,A⟩=>Ia (fo (K C p B H2 _ I2 A) λfv s3 ⟨z,H3,S,r,ov,g,w⟩=>Calls.spliced_nil (VQ E S g t r λw' s4 R b=>⟨_,H3,R,b,w⟩)))))
end
section
variable {X:Cx}{s:aw}
end
abbrev pQ(K:aG)(c f:aE):Prop:=∀C,js K aT c=Y (Y (.ref C))->F4 K C/\qm K C f
theorem IF{K:aG}{f:aE}{d:D}{v:V}(m:cS K G d v):∀ {a:List aE}{g:List D}{h:List V},a.length=g.length->aY K G g h->∃b,lT f v (a.zip h)=(jF f d a g).1.zip b/\(jF f d a g).1.length=(jF f d a g).2.length/\aY K G (jF f d a g).2 b
 |[],[],h,c,r=>⟨[v],rfl,rfl,.cons m .nil⟩|[],x::g,h,c,r=>by simp at c
 |k::a,[],h,c,r=>by simp at c
 | k::a,x::g,h,c,r=>by
  obtain⟨u,i,rfl,o,n⟩:=bD.mp r;simp at c;unfold jF;rw[show lT f v _=if k=f then (k,v)::a.zip i else (k,u)::lT f v _ from rfl];by_cases j:k=f
  .rw[if_pos j,if_pos j];exact⟨_,rfl,by simp[c],.cons m n⟩
  .rw[if_neg j,if_neg j];obtain⟨b,e,l,q⟩:=IF m c n;exact⟨_,ź,by simp[l],.cons o q⟩
def pU{a:List d}(h:a.length=b.length):(a.zip b).length=a.length:=by simp[h]
theorem jK{K:aG}{G:Hp}{f:aE}:∀ {a:List aE}{b:List V},f∉a->(a.zip b).lookup f=M
 |[],b,h=>by simp
 |k::a,[],h=>by simp
 |k::a,v::b,h=>by simp at h;rw[ez,la,beq_eq_false_iff_ne.mpr h.1];exact jK (K:=K) (G:=G) h.2
section
set_option tactic.hygienic true
variable {X:Cx}
def oq{c f:aE}(h:PE X e (tQ X.K Z g))(p:pQ X.K c f)(x:autoParam (bQ e f X.env (eval e X.env)=eval e X.env) ŭ):
  PE X (.Attribute e f I) (tP X.K Z (bq c f g)):=(pY h x).imp <|by
 rintro F H Q ⟨G,m,d,z,j,b,k⟩;unfold bq at b;rw[aa]at b;obtain⟨o,l,b⟩:=b;refine⟨G,m,o,z,j,l,λv E D q w =>?_⟩;cases o<;>simp only[ai]at b<;>try (cases b)
 split at b
 .rename_i i;refine ae λkk =>?_
  subst i;obtain⟨a,C,B,K,rfl,y,n,_,t⟩:=w.aa9 q.gh;obtain⟨u,A,r⟩:=Jh t b;exact kk (⟨a,C,B,_,u,rfl,y,(p C n).1,(p C n).2,A,k u E D q r⟩)
 .cases b
end
section
variable {X:Cx}{s:List Nat}
noncomputable def GO:DG:=λ_=>M
def YU:PS X a (gD X.K B s Z own1 GO):=MY.imp <|by rintro D c H ⟨G,d,o,S,b,k⟩;cases b
def Fq(c:aE)(i:Nat)(a:bY):Option (List aE×List D):=(eV i a).bind λd=>match d with|.ins f b e=>if f=c then Y (b,e) else M|_=>M
set_option tactic.hygienic true in
def Hk{e:List D}(h:Fq c i a=Y (b,e)):a[i]?=Y (Y (.ins c b e)):=by
 obtain⟨d,g,h⟩:=aa.1 h;cases d<;>simp only[ai]at h<;>try (cases h)
 split at h
 .rename_i f;cases h;subst f;exact gW g
 .cases h
def SR.aaR{K:aG}{G:Hp}{d:List aE}{f:List D}(S:SR K B Z G H g j)(k:i∈Z)(h:j[i]?=Y (Y (.ins c d f))):
  ∃a C e b,g[i]?=Y (Y (.ref a))/\H a=Y (.ins C e (d.zip b))/\js K aT c=Y (Y (.ref C))/\d.length=f.length/\aY K G f b/\G a=M/\B.2 a=none:=by
 refine ae λkk =>?_
 obtain⟨a,q,p,o,⟨C,e,b,rfl,n,l,r⟩,m⟩:=S.GU k h rfl;exact kk (⟨a,C,e,b,p,o,n,l,r,m⟩)
def lq(i:Nat)(c f:aE)(b:DF):DG:=λa=>(b a).bind λd=>(Fq c i a).bind λq=>if q.1.length<999 then Y (.nx (a.set i (Y (.ins c (jF f d q.1 q.2).1 (jF f d q.1 q.2).2)))) else M
def abR{i:Nat}{c f:aE}{w:DF}(h:PE X (.Name x p) (fB i))(P:PE X e (tP X.K Z w))(u:pQ X.K c f)(q:autoParam (i∈Z) ū)(N:autoParam (bU e (Y (.Attribute (.Name x p) f T)) I.line X.env=dn false) ŭ):
  PS X (.Assign [.Attribute (.Name x p) f T] e I) (gD X.K B s Z Z (lq i c f w)):=(wA h P N).imp <|by
 rintro D σ H ⟨G,m,o,S,b,k⟩;obtain⟨d,R,b⟩:=aa.1 b;rcases j:Fq c i m with _|_
 .simp[j]at b
 simp only[j,ai]at b;split at b
 .cases b;have t:=Hk j;refine⟨G,m,d,S.gh,S.jh,R,λv G' H' E r =>?_⟩;have F:=S.ext E;refine ae λkk =>?_
  obtain⟨a,C,A,vs,z,e3,n,l,y,_⟩:=F.aaR q t;obtain⟨g,Q,J,K⟩:=IF r l y;refine kk (⟨_,z,a,C,A,_,rfl,e3,(u C n).1,(u C n).2,?_,?_⟩)
  .rw[pU (by rw[l,y.length])];exact ź
  .rw[Q];exact k _ G' _ (F.X_ q t z ⟨C,A,g,rfl,n,J,K⟩)
 .cases b
abbrev T9(a:Int->Int->Int):V->V->Hp->VK->Prop:=λx y H Q=>∃i j,x=.int i/\y=.int j/\Q (.int (a i j)) H
noncomputable def da(f:DM):DG:=λa=>(f a).map λq =>.nx q.2
def rT{f:DM}(i:PE X e (tM X.K B Z f))(h:autoParam (bU e M I.line X.env=dn false) ŭ):PS X (.Expr e I) (gD X.K B s Z Z (da f)):=(mF i h).imp <|by
 rintro D c H ⟨G,g,o,S,a,k⟩;obtain⟨⟨d,b⟩,j,a⟩:=aj.1 a;cases a;exact⟨G,g,d,b,S,j,λv n m l p r=>k c n m l⟩
end
inductive Ws (K:aG) (p:Nat) (F:List D->Option (D×D)) (f:List V) (H:Hp) (Q:VK) (_x:XK):Prop
 |mk G b d j a o c:bf G H->b[p]?=some c->f[p]?=some (.ref a)->H a=some o->jo K G c o->G a=none->(∀(i:Nat) c,i≠p->b[i]?=some c->∃v,f[i]?=some v/\cS K G c v)->b.length=f.length->F b=some (d,j)->(∀v h e g,eJ G (AM H a) e g->e a=none->g a=some h->jo K e j h->cS K e d v->Q v g)->Ws K p F f H Q _x
def aaT(p:Nat):DO->Option (D×D)
 |.rm d a=>(eV p a).bind λc=>if xO c=Z' then Y (d,c) else M
 |.nx a=>(eV p a).bind λc=>if xO c=Z' then Y (.dW,c) else M
 |_=>M
def runC(n N p:Nat)(g:DG)(a:List D):Option (D×D):=if a.length=n then (g (hJ N a)).bind (aaT p) else M
section
variable {P:aZ}{K:aG}
set_option tactic.hygienic true in
def gH.okC{R:nW}{f:ax}(F:gH K x l R f fd)(S:bu N ps (az R))(p:Nat){Z Ź:List Nat}{g:DG}(hp:p∈Z)(Vk:∀i∈Z,i=p\/ps.length<=i) (hb:∀(t:aq) (A:fF) (j:List Env) (s:aw) (H:Hp) (E:XK),dB k (A.deeper (l5 l (az R) s.heap.objs.size f t))->∀(B:Bs) (a:ax),B.3=[(p,a)] ->
   lX (pI fX P w K O U N l (az R) f t A j s H E).F9 (fx R) (gD K B [] Z Ź g)):bT P w K O U fX (k+1) f fd ps (Ws K p (runC ps.length N.length p g)):=by
 refine F.ok S (λvs H Q E h =>?_) (λt A j s H vs Q E hr h =>?_)
 .obtain⟨G,ds,d,c',a,o,c,gh,hd,hv,ha,r,ga,ro,hl,e,_⟩:=h;unfold runC at e;split at e<;>simp_all
 .obtain⟨G,ds,d,c',a,o,c,gh,hd,hv,ha,r,ga,ro,hl,e,q⟩:=h;unfold runC at e;split at e
  .rename_i hn;refine⟨_,hb t A j s H E hr ⟨G,AM H a,_,λI I=>False⟩ a rfl,?_⟩;obtain⟨oo,eg,e⟩:=aa.1 e;have kC:∀ {σ:St}{m:bY}{C n:Hp}{o':List Nat}{y:D},SR K ⟨G,AM H a,[(p,a)],λI I=>False⟩ o' C n σ m->eV p m=Y y->xO y=Z'->∃u,n a=Y u/\jo K C y u/\C a=none:=fun {σ m C n o' y} z el X=>by obtain⟨Vj,hσ⟩:=z.pin p a ź;obtain⟨b,u,f2,f3,f4,f5,_⟩:=z.GU Vj (gW el) X;rw[hσ]at f2;cases f2<;>simp_all
   refine⟨G,_,oo,Bx gh hp hd hv ha r ga ro hl (by rw[hn];exact Vk),eg,?_⟩;cases oo with
   |rm d' m=>
    obtain⟨y,el,e⟩:=aa.1 e;split at e
    .rename_i X;cases e;intro v σ C n ⟨o',z⟩ rv;obtain⟨u,f3,f4,f5⟩:=kC z el X;exact q v u C n z.jP f5 f3 f4 rv
    .cases e
   |nx m=>
    obtain⟨y,el,e⟩:=aa.1 e;split at e
    .rename_i X;cases e;intro σ C n z;obtain⟨u,f3,f4,f5⟩:=kC z el X;exact q _ u C n z.jP f5 f3 f4 (f_.mpr rfl)
    .cases e
   |_=>cases e
  .cases e
structure dU(P:aZ)(w:cC)(K:aG)(mg:aE->Option aq)(base:cy)(c m:aE)(k:Nat)(sp:Sp):Prop where
 ex:∃C f fd ps,js K aT c=some (some (.ref C))/\F4 K C/\HR K C m f/\bT P w K mg base fX k f fd ps sp/\Binds K fd ps []
def dU.mono{m:aE}(h:dU P w K O U c m j a)(d:j<=k):dU P w K O U c m k a:=by
 obtain⟨C,f,o,b,n,l,i,g,e⟩:=h.ex;exact⟨C,f,o,b,n,l,i,g.mono d,e⟩
structure uN(P:aZ)(w:cC)(K:aG)(mg:aE->Option aq)(base:cy)(c:aE)(k:Nat)(sp:Sp):Prop where
 ex:∃C f fd ps,js K aT c=some (some (.ref C))/\mg c=some (.ref C)/\Mk K C f/\bT P w K mg base fX k f fd ps sp/\Binds K fd ps []
end
section
variable {X:Cx}
inductive Xh (K:aG) (Z:List Nat) (f:DF) (e:St) (H:Hp) (Q:VK):Prop
 |mk G c d:bf G H->j2 K Z G H e c->f c=some d->(∀p o b a,eJ G H b a->H p=none->b p=none->a p=some o->jo K b d o->Q (.ref p) a)->Xh K Z f e H Q
noncomputable def Of(c:aE)(F:List D->Option (D×D))(g:DL):DF:=λa=>(g a).bind λb=>(F (.ins c [] []::b)).bind λr=>match r.1 with|.dW=>Y r.2|_=>M
def Jz{c:aE}{F:List D->Option (D×D)}(h:uN X.prog X.w X.K X.mg X.base c k (Ws X.K 0 F))(hr:dB (k+1) X.A)(hg:Gl X c)(ha:PA X (e::J) (AR X.K Z g))(B:autoParam ((c==("__debug__" : aE))=false) ū)(he:autoParam (ao (e::J) X.env=(Z_,eval e X.env)::ao J X.env) ŭ)(A:autoParam ((bX I (ao J X.env)).any (·.1)=false) ŭ):PE X (.Call (.Name c p) (e::J) [] I) (Xh X.K Z (Of c F g)):=by
 obtain⟨C,f,fd,ps,n,hm,hk,h1,a⟩:=h.ex;refine(IH hk h1 hr hg hm a .nil j6 ha B he A).imp ?_;rintro σ H Q ⟨G,R,d,gh,K,j,q⟩;refine ae λkk =>?_
 obtain⟨N,eg,j⟩:=aa.1 j;obtain⟨⟨d',c'⟩,eF,j⟩:=aa.1 j;cases d'<;>simp only[ai]at j<;>try (cases j;done)
 cases j;refine kk (⟨G,R,N,gh,K,eg,λS s H1 w P x t m l ne =>?_⟩);rw[bL];have E:=w.gh.free m;refine⟨s,.ins c [] []::N,.dW,_,x,_,.ins c [] [],(w.gh.trans ((bf.alloc l).trans (.alloc (by rw[aP (bE ne)];exact m)))),rfl,rfl,aW,⟨C,t,[],rfl,n,rfl,.nil⟩,E,λi y hi ec =>?_,by simp[P.length],eF,λv o' G2 H2 u g2 h2 r2 r3=>⟨f_.mp r3,?_⟩⟩
 .cases i with
  |zero=>exact absurd rfl hi|succ i=>exact P.get (i:=i) (by simpa using ec)
 .refine q x o' G2 H2 (w.trans ⟨λb o e=>u.hh b o ?_,u.gg,u.gh,λb o e =>?_⟩) (w.hh.free m) g2 h2 r2
  .have a:b≠x:=bF e m;rw[uF a,aP a,aP (bF e l)];exact e
  .rcases u.fr b o e with z|z
   .exact .inl z
   .refine .inr ?_;by_cases a:b=x
    .subst a;exact m
    .by_cases r:b=t
     .subst r;exact l
     .rw[uF a,aP a,aP r]at z;exact z
def Jt{s:List Nat}{i:Nat}{f:DF}(w:X.N.Nodup)(t:X.N[i]?=Y x)(h:Loc X.env.scope x)(v:PE X e (Xh X.K Z f))(n:autoParam (i∈Z) ū)(b:autoParam (∀a,(i,a)∉B.3) Ŧ)(q:autoParam (x_ i∉Z) ū)(l:autoParam (bU e (Y (.Name x T)) I.line X.env=dn false) ŭ)(u:autoParam (X.fn x=Z'\/X.env.scope.names.lookup x=Y .local) Ũ):
  PS X (.Assign [.Name x T] e I) (gD X.K B s Z Z (cN i f)):=(jZ w t h v l u).imp <|by
 rintro D F H ⟨G,g,o,S,c,k⟩;obtain⟨d,z,c⟩:=aj.1 c;cases c;exact⟨G,g,d,S.gh,S.jh,z,λp K C A E m y j r=>k _ C A (S.setC n E m y j r b q)⟩
end
section
variable {X:Cx}{m:Pos}{f:DF}
end
section
variable {X:Cx}{f:Expr}
noncomputable def fE(ks:List lO)(c:List D)(k:lO):Option D:=((ks.zip c).find? λa=>decide (a.1=k)).map (·.2)
theorem qj{K:aG}:∀ {c:List lO}{f:List D}{a:List V}{d:D},aY K G f a->fE c f k=Y d->∃v,sX (c.zip a) k=Y v/\cS K G d v
 |[],f,a,d,r,h=>by simp[fE]at h
 |x::c,[],a,d,r,h=>by simp[fE]at h
 | x::c,y::f,a,d,r,h=>by
  obtain⟨v,t,rfl,i,l⟩:=bD.mp r;by_cases g:x=k
  .subst g;have:=by simpa [fE] using h
   subst this;exact⟨v,uY rfl,i⟩
  .have m:fE c f k=Y d:=by simp_all [fE]
   obtain _:=qj l m
   simp_all [ez,qS]
theorem uI{K:aG}:∀ {c:List lO}{d:List D}{a:List V},aY K G d a->fE c d k=M->sX (c.zip a) k=M
 |[],d,a,r,h=>by simp[sX]
 |x::c,[],a,r,h=>by rw[cU.mp r];simp[sX]
 | x::c,y::d,a,r,h=>by
  obtain⟨v,t,rfl,i,f⟩:=bD.mp r;by_cases e:x=k
  .simp_all [fE]
  .have g:fE c d k=none:=by simpa [fE,e] using h
   rw[ez,qS e];exact uI f g
noncomputable def Fj:D->Option lO
 |.int i=>Y (JX i)|.str x=>Y (fM x)|_=>M
def vt{K:aG}{v:V}(h:Fj d=Y k)(r:j8 K G H d v):v=kV k:=by
 cases d<;>simp only[Fj]at h<;>try trivial
 .cases h;exact r.int
 .cases h;exact r.str
def tV(f g e:DF):DF:=λa=>(f a).bind λd=>(g a).bind λk=>(e a).bind λx=>match d with|.ji c h=>(Fj k).map λk=>(fE c h k).getD x|_=>M
set_option tactic.hygienic true
def Dv{D F:DF}{i:Pos}(hu:X.A.units+1<qL)(ho:PE X o (tQ X.K Z D))(he:PE X e (tQ X.K Z F))(hf:PE X f (tP X.K Z C))(m:M2 X o "get" j e f i):PE X (.Call (.Attribute o "get" j) [e,f] [] i) (tP X.K Z (tV D F C)):=
 (M8 hu ho he hf m).imp <|by
  rintro σ H Q ⟨G,r,d,gh,n,c,q⟩;unfold tV at c;rcases g:D r with _|dd
  .rw[g]at c;cases c
  rcases h:F r with _|N
  .simp[g,h]at c
  rcases p:C r with _|L
  .simp[g,h,p]at c
  simp only[g,h,p,ai]at c;cases dd<;>simp only at c<;>try (cases c)
  rename_i b J;rcases I:Fj N with _|k
  .rw[I]at c;cases c
  rw[I]at c;refine⟨G,r,_,gh,n,g,λv G1 H1 x r1 =>?_⟩;obtain⟨a,vs,rfl,O,l,S⟩:=r1.VN x.gh;refine⟨a,rfl,.inl ⟨_,.of O⟩,G1,r,N,x.gh,n.ext x,h,λu G2 H2 t U=>⟨G2,r,L,t.gh,(n.ext x).ext t,p,λz R P K T =>?_⟩⟩;have B:=K.hh _ _ (t.hh _ _ O);have s:=aY.mono (t.gg.trans K.gg) J S;refine⟨_,by rw[(vt I U)];exact yl.k B,?_⟩;have E:=(x.trans t).trans K;have c:Y ((fE b J k).getD L)=Y d:=c;rcases y:fE b J k with _|dv
  .grind [uI]
  rw[y]at c;cases c;obtain⟨w,ew,A⟩:=qj s y;rw[ew];exact q _ R P E A
end
noncomputable def EM:D->D->Option D
 |.int i,.int j=>Y (.int (eP i j))|_,_=>M
noncomputable def eS:D->D->Option D
 |.int i,.int j=>Y (.int (uX i j))|_,_=>M
noncomputable def tm:D->D->Option D
 |.int i,.int j=>if 0<=j/\j<=1000/\i.natAbs<2 ^ 64 then Y (.int (i*2 ^ j.toNat)) else M
 |_,_=>M
noncomputable def UL:D->D->Option D
 |.int i,.int j=>if 0<=j then Y (.int (i/2 ^ j.toNat)) else M
 |_,_=>M
noncomputable def zt:D->Option D
 |.int i=>Y (.int (uW i))|_=>M
section
variable {X:Cx}{f:Pos}
def Sq:AL X (cT .BitOr) EM:=ou.imp XZ <|by
 rintro x y H Q ⟨G,k,j,d,i,e,b,a,q⟩;unfold EM at a;split at a<;>try (cases a;done)
 cases a;exact⟨_,_,e.int,b.int,q _ G H (.refl i) (bK.mpr rfl)⟩
def ZK:AL X (cT .BitAnd) eS:=ou.imp UB <|by
 rintro x y H Q ⟨G,k,j,d,i,e,b,a,q⟩;unfold eS at a;split at a<;>try (cases a;done)
 cases a;exact⟨_,_,e.int,b.int,q _ G H (.refl i) (bK.mpr rfl)⟩
set_option tactic.hygienic true
def aaY:AL X (cT .LShift) tm:=ou.imp Ux <|by
 rintro x y H Q ⟨G,l,k,d,j,i,e,a,q⟩;unfold tm at a;split at a<;>try (cases a)
 split at a
 .rename_i b;cases a;exact⟨_,_,i.int,e.int,⟨b.1,ž,b.2.2⟩,q _ G H (.refl j) (bK.mpr rfl)⟩
 .cases a
def aaX:AL X (cT .RShift) UL:=ou.imp Uw <|by
 rintro x y H Q ⟨G,l,k,d,j,i,e,a,q⟩;unfold UL at a;split at a<;>try (cases a)
 split at a
 .rename_i b;cases a;exact⟨_,_,i.int,e.int,b,q _ G H (.refl j) (bK.mpr rfl)⟩
 .cases a
set_option tactic.hygienic false
def ab0(l:PE X a (tQ X.K Z c)):PE X (.UnaryOp .Invert a f) (tP X.K Z (e1 zt c)):=(Sl Te l).imp <|by
 rintro s H Q ⟨G,i,d,m,b,o,k⟩;obtain⟨x,n,e⟩:=Jp o;cases x<;>simp[zt]at e
 subst e;exact⟨G,i,_,m,b,n,λv q p r j=>⟨_,j.int,k _ q p r (bK.mpr rfl)⟩⟩
def acY:LA X .BitOr (T9 eP):=by
 rintro b s k H x y u v Q I e d ⟨i,j,rfl,rfl,q⟩;obtain⟨t,rfl⟩:=e;obtain⟨a,rfl⟩:=d;exact ior_int ⟨.int _,H,I.tok _,⟨_,rfl⟩,q⟩
def xI(i:Nat)(e:Int->Int->Int)(j:DF):DG:=λd=>(eV i d).bind λx=>(j d).bind λy=>match x,y with|.int a,.int b=>Y (.nx (d.set i (Y (.int (e a b)))))|_,_=>M
def abS{i:Nat}{op:Int->Int->Int}(b:LA X o (T9 op))(w:X.N.Nodup)(q:X.N[i]?=Y x)(p:Loc X.env.scope x)(t:PE X e (tP X.K Z j))(n:autoParam (i∉Z) ū)(s:autoParam (X.fn x=Z'\/X.env.scope.names.lookup x=Y .local) Ũ):
  PS X (.AugAssign (.Name x g) o e f) (gD X.K B h Z Z (xI i op j)):=(Ui w q p t b s).imp <|by
 rintro D I H ⟨G,m,J,S,a,k⟩;obtain⟨c,y,a⟩:=aa.1 a;obtain⟨d,l,a⟩:=aa.1 a;split at a
 .cases a;obtain⟨v,A,z⟩:=S.env i _ n (gW y);cases bK.mp z;refine⟨_,A,G,m,_,S.gh,S.jh,l,λu F C E r =>?_⟩;cases bK.mp r;exact⟨_,_,rfl,rfl,k _ F C ((S.ext E).wu n (bK.mpr rfl))⟩
 .cases a
end
section
variable {K:aG}{f:List Nat}
def SR.tree{s:Sk}(S:SR K B f G H y l)(c:i∈f)(e:l[i]?=Y (Y (.obj s t))):∃a T,y[i]?=Y (Y (.ref a))/\cv K G H s t (.ref a) T/\T.Nodup/\(∀b∈T,G b=M/\B.2 b=M)/\∃F,r9 K B f G H y l F/\F i=T:=by
 obtain⟨F,W⟩:=S.ow;obtain⟨a,g,d⟩:=W.it i _ c e;obtain⟨n,k⟩:=W.ok i _ c e;exact⟨a,F i,g,d,n,k,F,W,rfl⟩
noncomputable def cZ(r:Nat)(l:bY):bY:=l.map λo=>match o with|some (.eQ k p)=>if k=r then M else Y (.eQ k p)|o=>o
def bM{r i:Nat}(h:(cZ r l)[i]?=Y (Y d)):l[i]?=Y (Y d)/\∀p,d ≠ .eQ r p:=by
 unfold cZ at h;rw[bt]at h;obtain⟨o,e,h⟩:=aj.1 h;rw[e];cases o<;>lia
def ku{r i:Nat}(h:l[i]?=Y (Y d))(a:∀p,d ≠ .eQ r p):(cZ r l)[i]?=Y (Y d):=by
 unfold cZ;rw[bt,h];cases d<;>simp_all
def SR.J8{r:Nat}(S:SR K B f G H y l):SR K B f G H y (cZ r l):=by
 refine⟨S.gh,S.g0,S.h0,S.fr,λi d a e=>S.env i d a (bM e).1,?_,by rw[S.len];simp[L2.cZ],S.pin,λj k p s o e =>?_⟩
 .obtain⟨F,W⟩:=S.ow;exact⟨F,λi d a e=>W.it i d a (bM e).1,λi d a e=>W.ok i d a (bM e).1,λi j d c a n C A=>W.ap i j d c a n (bM C).1 (bM A).1⟩
 .obtain⟨v,x,m,g,h,w,b,u,t⟩:=S.eQ j k p s o (bM e).1;exact⟨v,x,m,g,h,w,b,ku u (λq z=>by cases z),t⟩
def SR.vN{s:Sk}{t':D}{m:List ax}{F:Nat->List ax}(S:SR K B f G H y l)(W:r9 K B f G H y l F)(J:F i=T)(g:i∈f)(I:l[i]?=Y (Y (.obj s t)))(u:y[i]?=Y (Y (.ref a)))(E:eJ G (fG H T) G' H')(v:cv K G' H' n t' (.ref a) m)(x:m.Nodup)(w:∀b∈m,G' b=M/\(b∈T\/H b=M)):SR K B f G' H' y ((cZ i l).set i (Y (.obj n t'))):=by
 have:=(S.J8 (r:=i)).chg (i:=i) (a:=a) (d' :=.obj n t') (F0:=T) (S':=m) (⟨λi d g e=>W.it i d g (bM e).1,λi d g e=>W.ok i d g (bM e).1,λi j d c g C A L=>W.ap i j d c g C (bM A).1 (bM L).1⟩) g (λb k=>⟨ż,_,(ku (r:=i) I λq z=>by cases z)⟩) E.gg E.gh (λb o e=>by
   rcases E.fr b o e with z|z
   .exact .inl z
   .by_cases k:b∈T
    .exact .inr (.inr k)
    .rw[bV k]at z;exact .inr (.inl z))
  (λb o k e=>E.hh b o (by simp_all [bV])) v x w (λb h=>by have:=(S.pin i b h).2;simp_all) (λr p z=>by cases z)
  (λj p q q q e=>absurd rfl ((bM e).2 p))
 simp_all [fS]
def SR.GL{p:yO}{s s':Sk}{v:V}(S:SR K B f G H y l)(hi:i∈f)(N:x_ i∈f)(hj:j∈f)(J:i≠j)(Z:x_ j∉f)(C:∀a,(j,a)∉B.3)(hd:l[i]?=Y (Y (.obj s t)))(hs:y[i]?=Y (Y v))(hv:gc H p v=Y (.ref b))(es:mI p s=Y s')(ef:∀g∈z0 p,g∈Bh):SR K B f G H (y.set j (Y (.ref b))) (l.set j (Y (.eQ i p))):=by
 obtain⟨F,W⟩:=S.ow;refine⟨S.gh,S.g0,S.h0,S.fr,λk c o e =>?_,⟨λk=>if k=j then [] else F k,λk c o e =>?_,λk c o e =>?_,λk m c c' o hm ek em L =>?_⟩,by simp[S.len],λk x h =>?_,λk r q h1 h2 e =>?_⟩
 .have d:j≠k:=λz=>o (z ▸ hj)
  rw[av d]at e;obtain⟨u,n,O⟩:=S.env k c o e;exact⟨u,by rw[av d];exact n,O⟩
 .rcases gR e with⟨rfl,rfl,A⟩|⟨d,n⟩
  .exact⟨b,oG (by rw[S.len];exact A),by simp[mq]⟩
  .obtain⟨x,f1,f2⟩:=W.it k c o n;exact⟨x,by rw[av d];exact f1,Ÿ⟩
 .rcases gR e with⟨rfl,rfl,A⟩|⟨d,n⟩
  .simp
  .simp only[if_neg (bE d)];exact W.ok k c o n
 .rcases gR ek with⟨rfl,rfl,A⟩|⟨d,n⟩
  .simp
  .rcases gR em with⟨rfl,rfl,A⟩|⟨E,O⟩
   .simp
   .simp only[if_neg (bE d),if_neg (bE E)];exact W.ap k m c c' o hm n O L
 .obtain⟨p1,X⟩:=S.pin k x h;have:j≠k:=λz=>by subst z;exact C x h
  exact⟨p1,ż⟩
 .rcases gR e with⟨rfl,z,A⟩|⟨d,n⟩
  .cases z;exact⟨hi,N,s,t,s',v,.ref b,by rw[av (bE J)];exact hd,by rw[av (bE J)];exact hs,oG (by rw[S.len];exact A),hv,es,ef⟩
  .obtain⟨g1,P,U,R,T,w,Q,g2,g3,g4,g5⟩:=S.eQ k r q h1 h2 n;have I:j≠r:=λz=>Z (z ▸ P)
   exact⟨g1,P,U,R,T,w,Q,ż,ż,ż,g5⟩
def SR.TY{i:Nat}{a:ax}{s:Sk}{F:Nat->List ax}(S:SR K B f G H y l)(W:r9 K B f G H y l F)(O:F i=T)(N:i∈f)(v:l[i]?=Y (Y (.obj s t)))(m:y[i]?=Y (Y (.ref a)))(E:eJ G (fG H T) G' H')(I:cv K G' H' s d (.ref a) k)(L:k.Nodup)(J:∀b∈k,G' b=M/\(b∈T\/H b=M))(Z:∀(q:yO) u,(∀g∈z0 q,g∈Bh)->gc H q (.ref a)=Y u->gc H' q (.ref a)=Y u):SR K B f G' H' y (l.set i (Y (.obj s d))):=by
 have:=S.chg (d' :=.obj s d) W N (λb c=>⟨ż,_,v⟩) E.gg E.gh λb o e=>by
   rcases E.fr b o e with z|z
   .exact .inl z
   .by_cases c:b∈T
    .exact .inr (.inr c)
    .rw[bV c]at z;exact .inr (.inl z)
  (λb o c e=>E.hh b o (by simp_all [bV])) I L J λb h=>by have:=(S.pin i b h).2;simp_all λr p z=>by cases z
  λj p Q P r e=>by
   refine ae λkk =>?_
   obtain⟨g1,g0,s0,t0,C,w,n,A,x,g4,X,U,R⟩:=S.eQ j i p Q P e;refine kk ?_
   simp_all
 simp_all [fS]
noncomputable def unO:Option D->Option D
 |some (.obj _ t)=>Y t|some (.lst d)=>Y (.lst d)|some (.ins c a b)=>Y (.ins c a b)|some (.ji a b)=>Y (.ji a b)|_=>M
def Mc(h:unO o=Y d):(∃s t,o=Y (.obj s t)/\d=t)\/(o=Y d/\xO d=Z'):=by
 unfold unO at h;split at h
 .simp_all
 .cases h;exact .inr ⟨rfl,rfl⟩
 .cases h;exact .inr ⟨rfl,rfl⟩
 .cases h;exact .inr ⟨rfl,rfl⟩
 .cases h
def ZC(l:bY):Option D->Option D
 |some (.eQ r p)=>match l[r]? with|some (Y (.obj _ t))=>jg p t|_=>M
 |_=>M
def DZ(a b:List Nat)(l:bY):bY:=l.mapIdx λi o=>if i∈a then unO o else if i∈b then ZC l o else o
theorem j2.trees(n:j2 K f G H y l):∀(x:List Nat),∃T:List ax,(∀b∈T,G b=M/\AZ H b)/\∀i∈x,i∈f->∀s t,l[i]?=Y (Y (.obj s t))->∃v,y[i]?=Y (Y v)/\(cS K G t v\/∃S,cv K G H s t v S/\∀b∈S,b∈T)
 |[]=>⟨[],λb g=>(by cases g),λi d=>by cases d⟩
 | k::x=>by
  obtain⟨T,w,u⟩:=j2.trees n x;by_cases p:k∈f/\∃s t,l[k]?=Y (Y (.obj s t))
  .obtain⟨p,s,t,e⟩:=p;obtain⟨v,C,B⟩:=n.get k _ e;rw[if_pos p]at B;rcases B with r|⟨a,o,rfl,N,S,A,J⟩
   .refine⟨T,w,λi d m j h c =>?_⟩;rcases br.mp d with z|z
    .subst z;rw[e]at c;cases c;exact⟨v,C,.inl (su.mp r)⟩
    exact ź
   .refine⟨S++T,λb g =>?_,λi d m j h c =>?_⟩
    .rcases bG.mp g with q|q
     .exact⟨J b q,A.here b q⟩
     .exact w b q
    .rcases br.mp d with z|z
     .subst z;rw[e]at c;cases c;exact⟨_,C,.inr ⟨S,A,λb g=>bJ _ g⟩⟩
     .obtain⟨v,I,F⟩:=u i z m j h c;refine⟨v,I,?_⟩;rcases F with r|⟨L,E,D⟩
      .exact .inl r
      .exact .inr ⟨L,E,λb g=>aU _ (D b g)⟩
  .refine⟨T,w,λi d m j h c =>?_⟩;rcases br.mp d with z|z<;>simp_all
theorem j2.cells(C:bf G H)(env:j2 K f G H y l):∀(t:List Nat),∃T:List ax,(∀b∈T,G b=M/\AZ H b)/\∀i∈t,i∈f->∀d,l[i]?=Y (Y d)->xO d=Z'->∃v,y[i]?=Y (Y v)/\(cS K G d v\/∃a o,v=.ref a/\a∈T/\H a=Y o/\jo K G d o)
 |[]=>⟨[],λb h=>(by cases h),λi x=>by cases x⟩
 | k::t=>by
  obtain⟨T,s,R⟩:=j2.cells C env t;have g:∀u:List ax,(∀b∈T,b∈u)->(∀d,l[k]?=Y (Y d)->k∈f->xO d=Z'->∃v,y[k]?=Y (Y v)/\(cS K G d v\/∃a o,v=.ref a/\a∈u/\H a=Y o/\jo K G d o)) ->
    ∀i∈k::t,i∈f->∀d,l[i]?=Y (Y d)->xO d=Z'->∃v,y[i]?=Y (Y v)/\(cS K G d v\/∃a o,v=.ref a/\a∈u/\H a=Y o/\jo K G d o):=λu w n i x p d e m=>by
   rcases br.mp x with z|z
   .subst z;exact n d e p m
   .obtain⟨v,O,N⟩:=R i z p d e m;refine⟨v,O,?_⟩;rcases N with r|⟨a,o,J,I,F⟩
    .exact .inl r
    .exact .inr ⟨a,o,J,w a I,F⟩
  by_cases n:k∈f/\∃d,l[k]?=Y (Y d)/\xO d=Z'
  .refine ae λkk =>?_
   obtain⟨n,d,e,m⟩:=n;obtain⟨v,B,D⟩:=env.get k _ e;rw[if_pos n]at D;refine kk ?_;rcases D with r|⟨a,o,rfl,A,P⟩
   .exact⟨T,s,g T (λb h=>h) λE j E E=>by rw[e]at j;cases j;exact⟨v,B,.inl r⟩⟩
   .have c:jo K G d o:=by cases d<;>first|exact P|cases m
    cases q:G a with
    |some L=>have:=C a L q;rw[A]at this;cases this;exact⟨T,s,g T (λb h=>h) λE j E E=>by rw[e]at j;cases j;exact⟨_,B,.inl (c.rep q)⟩⟩
    |none=>
     refine⟨a::T,λb h =>?_,g (a::T) (λb h=>bI _ h) λE j E E=>by rw[e]at j;cases j;exact⟨_,B,.inr ⟨a,o,rfl,aJ,A,c⟩⟩⟩;rcases br.mp h with z|z
     .subst z;refine⟨q,o,A,λQ z =>?_⟩;subst z;cases d with
      |lst=>obtain⟨_,z,_⟩:=c;cases z
      |ins=>obtain⟨_,_,_,z,_⟩:=c;cases z
      |ji=>obtain⟨_,z,_⟩:=c;cases z
      |_=>cases m
     .exact s b z
  .exact⟨T,s,g T (λb h=>h) λd e p m=>absurd ⟨p,d,e,m⟩ n⟩
def mH(f a b c:List Nat):Bool:=(a.all λi=>f.contains i && !a.contains (A8 i) && !b.contains i && !c.contains i)&&(f.all λi=>a.contains i||b.contains i||c.contains i)&&(c.all λj=>f.contains j&&f.contains (A8 j) && !b.contains j)
def Qm{f:List Nat}(h:mH f e g k=Z'):(∀i∈e,i∈f/\A8 i∉e/\i∉g/\i∉k)/\(∀i∈f,i∈e\/i∈g\/i∈k)/\(∀j∈k,j∈f/\A8 j∈f/\j∉g):=by
 simp only[mH,aR,eN,List.contains_eq_mem,wj,Bool.not_eq_true',decide_eq_true_eq,decide_eq_false_iff_not]at h
 lia
set_option tactic.hygienic true
def j2.W8(s:bf G H)(m:j2 K f G H y l)(Q:mH f C dp al=Z'):∃T:List ax,(∀b∈T,G b=M/\AZ H b)/\j2 K C (i4 G H T) H y (DZ dp al l):=by
 obtain⟨o1,o2,o3⟩:=Qm Q;obtain⟨T1,h11,h21⟩:=m.trees f;obtain⟨T2,h12,X⟩:=m.cells s f;generalize U:T1++T2=T;have h1:∀b∈T,G b=M/\AZ H b:=λb I=>by
  rw[<- U]at I;rcases bG.mp I with z|z
  .exact h11 b z
  .exact h12 b z
 have h2:∀i∈f,i∈f->∀s t,l[i]?=Y _->∃v,y[i]?=Y (Y v)/\(cS K G t v\/∃S,cv K G H s t v S/\∀b∈S,b∈T):=λi x Q s t e=>by
  obtain⟨v,k,c⟩:=h21 i x Q s t e;refine⟨v,k,?_⟩;rcases c with r|⟨S,J,W⟩
  .exact .inl r
  .exact .inr ⟨S,J,λb I=>by rw[<- U];exact bJ _ (W b I)⟩
 have n:=λb I=>(h1 b I).1
 have g:bf G (i4 G H T):=kB n;have fz:∀(i:Nat) (E:Sk) (t:D),l[i]?=Y _->∃v,y[i]?=Y (Y v)/\cS K (i4 G H T) t v:=λi E t e=>by
  by_cases x:i∈f
  .obtain⟨v,k,c⟩:=h2 i x x E t e;refine⟨v,k,?_⟩;rcases c with r|⟨S,J,W⟩
   .exact cS.mono g t r
   .exact cv.frozen n W J
  .obtain⟨v,k,c⟩:=m.get i _ e;rw[if_neg x]at c;exact⟨v,k,cS.mono g t (su.mp c)⟩
 refine⟨T,h1,by rw[m.len];simp[DZ],λi d e =>?_,λj r p hj hm e=>absurd hm (o1 j hj).2.1⟩;unfold DZ at e;rw[List.getElem?_mapIdx]at e;rcases L:l[i]? with _|o
 .rw[L]at e;cases e
 rw[L]at e;simp at e;by_cases R:i∈dp
 .rw[if_pos R]at e;rcases Mc e with⟨E,t,rfl,rfl⟩|⟨rfl,hc⟩
  .obtain⟨v,k,c⟩:=fz i E _ L;exact⟨v,k,by split;exact .inl c;exact c⟩
  .by_cases x:i∈f
   .obtain⟨v,k,c⟩:=X i x x d L hc;have F:cS K (i4 G H T) d v:=by
     rcases c with r|⟨a,o,rfl,A,h,q4⟩
     .exact cS.mono g d r
     .exact(q4.mono g).rep (by rw[gS (by grind)];exact h)
    exact⟨v,k,by split;exact .inl F;exact F⟩
   .obtain⟨v,k,c⟩:=m.get i _ L;rw[if_neg x]at c;have F:=cS.mono g d c;exact⟨v,k,by split;exact .inl F;exact F⟩
 .rw[if_neg R]at e;by_cases O:i∈al
  .rw[if_pos O]at e;unfold ZC at e;split at e
   .rename_i r p;split at e
    .rename_i E t er;refine ae λkk =>?_
     obtain⟨g1,g0,s1,t1,s',v,v',g2,g3,g4,g5,g6,g7⟩:=m.eQ i r p (o3 i O).1 (o3 i O).2.1 L;rw[er]at g2;cases g2;obtain⟨w,k,c⟩:=h2 r g1 g1 E t er;rw[g3]at k;cases k;have F:cS K (i4 G H T) d v':=by
      rcases c with q|⟨S,J,W⟩
      .obtain⟨u,P,f4⟩:=zd s q e;rw[g5]at P;cases P;exact cS.mono g d f4
      .obtain⟨u,T1,U1,P,f4,f5,_⟩:=J.focus g6 e;rw[g5]at P;cases P;exact cv.frozen n (λb I=>W b (f5.symm.subset (bJ _ I))) f4
     exact kk (⟨v',g4,by split;exact .inl F;exact F⟩)
    .cases e
   .cases e
  .rw[if_neg O]at e;subst e;obtain⟨v,k,c⟩:=m.get i d L;refine⟨v,k,?_⟩;by_cases x:i∈C
   .rw[if_pos x];rw[if_pos (o1 i x).1]at c;cases d with
    |obj E t=>obtain⟨u,J,W⟩:=fz i E t L;rw[k]at J;cases J;exact .inl (su.mpr W)
    |eQ r p=>
     rcases c with q|⟨a,o,rfl,_⟩
     .exact .inl (yw.mpr (yw.mp q))
     .exact .inl (yw.mpr ⟨a,rfl⟩)
    |lst=>rcases c with q|⟨a,o,B,A,h⟩;exact .inl (cS.mono g _ q);exact .inr ⟨a,o,B,A,jo.mono g (d :=.lst _) h⟩
    |ins=>rcases c with q|⟨a,o,B,A,h⟩;exact .inl (cS.mono g _ q);exact .inr ⟨a,o,B,A,jo.mono g (d :=.ins _ _ _) h⟩
    |ji=>rcases c with q|⟨a,o,B,A,h⟩;exact .inl (cS.mono g _ q);exact .inr ⟨a,o,B,A,jo.mono g (d :=.ji _ _) h⟩
    |_=>rcases c with q|⟨a,o,B,A,h⟩;exact .inl (cS.mono g _ q);exact h.elim
   .rw[if_neg x];by_cases N:i∈f
    .rcases o2 i N with z|z|z
     .exact absurd z x
     .exact absurd z R
     .exact absurd z O
    .rw[if_neg N]at c;exact cS.mono g d c
end
section
variable {X:Cx}{m:Pos}
def lj(A I:List Nat)(f:DF):DF:=λρ=>(f (DZ A I ρ)).bind λd=>if pX d=Z' then Y d else M
set_option tactic.hygienic true in
def OC{f:DF}(O A I:List Nat)(h:PE X e (tP X.K O f))(s:autoParam (mH Z O A I=true) ū):PE X e (tP X.K Z (lj A I f)):=h.imp <|by
 rintro J H Q ⟨G,ρ,d,j,n,a,k⟩;obtain⟨c,t,a⟩:=aa.1 a;split at a
 .rename_i q;cases a;obtain⟨T,o,g⟩:=n.W8 j s;refine⟨_,_,d,i' j,g,t,λv N L E r =>?_⟩;obtain⟨u,p⟩:=nN j (λb i=>(o b i).1) (λb i=>(o b i).2) E;exact k v _ L u (ze p q r)
 .cases a
def yX(A I:List Nat)(f:DT):DT:=λρ=>f (DZ A I ρ)
def SS{f:DT}(O A I:List Nat)(h:PT X e (qP X.K O f))(n:autoParam (mH Z O A I=true) ū):PT X e (qP X.K Z (yX A I f)):=h.imp <|by
 rintro J H Q ⟨G,ρ,d,g,i,o,k⟩;obtain⟨T,j,a⟩:=i.W8 g n;refine⟨_,_,d,i' g,a,o,λN L E =>?_⟩;obtain⟨p,q⟩:=nN g (λb c=>(j b c).1) (λb c=>(j b c).2) E;exact k _ L p
noncomputable def Fm:Sk->Bool
 |.lf=>Z'|_=>Z_
def C5{s:Sk}(h:Fm s=Z'):s=.lf:=by cases s<;>first|rfl|cases h
def vB(i:Nat)(c f:aE):DF:=λρ=>(eV i ρ).bind λd=>match d with
 |.obj (.fs g e) (.ins a b ds)=>if (g=c/\a=c)/\Fm (dJ e f)=Z' then (Cf f b).bind λn=>ds[n]? else M
 |_=>M
set_option tactic.hygienic true
def Z8{i:Nat}{c f:aE}(h:PE X (.Name x p) (fB i))(j:pQ X.K c f)(hi:autoParam (i∈Z) ū)(hb:autoParam (bQ (.Name x p) f X.env (eval (.Name x p) X.env)=eval (.Name x p) X.env) ŭ):PE X (.Attribute (.Name x p) f l) (tP X.K Z (vB i c f)):=
 (pY h hb).imp <|by
  rintro J H Q ⟨G,ρ,d,q,y,e,k⟩;unfold vB at e;rw[aa]at e;obtain⟨o,z,e⟩:=e;split at e
  .rename_i c' fk c'' E ds;split at e
   .rename_i U;obtain⟨⟨rfl,rfl⟩,hl⟩:=U;rcases g:Cf f E with _|m
    .simp_all
    rw[g]at e;obtain⟨v,K,F⟩:=y.get i _ (gW z);rw[if_pos hi]at F;rcases F with r|⟨a,o,rfl,e3,S,e4,e5⟩
    .obtain⟨a,C,B,w,rfl,n,ha,b,R⟩:=oi.mp (su.mp r);obtain⟨u,eu,P⟩:=R.get e;exact⟨_,K,a,C,B,_,u,rfl,q _ _ ha,(j C n).1,(j C n).2,by rw[qb g];exact eu,k u G H (.refl q) P⟩
    .cases e4 with
     |@ins _ _ _ _ _ C B w S n ea b t=>
      have s:(E.map (dJ fk))[m]?=Y .lf:=by rw[bt,vx g,<- C5 hl];exact ź
      obtain⟨D,T1,U1,f1,T,_⟩:=t.at s e;cases T with
      |leaf r=>exact⟨_,K,a,C,B,_,D,rfl,ea,(j C n).1,(j C n).2,by rw[qb g];exact f1,k D G H (.refl q) r⟩
   .cases e
  .cases e
end
def F8(b:Bool)(j:Nat)(ρ:bY):Option (Nat×yO):=match b,eV j ρ with
 |false,Y (.obj _ _)=>Y (j,[])|true,Y (.eQ r p)=>Y (r,p)|_,_=>M
def t_(r:Nat)(ρ:bY):Option (Sk×D):=match eV r ρ with|some (.obj s t)=>Y (s,t)|_=>M
set_option tactic.hygienic true in
theorem jv{s:Sk}(h:t_ r ρ=Y (s,t)):ρ[r]?=Y (Y (.obj s t)):=by
 unfold t_ at h;split at h
 .rename_i e;cases h;exact gW e
 .cases h
section
variable {K:aG}
set_option tactic.hygienic true in
def SR.F8(S:SR K B Z G H J ρ)(h:F8 b j ρ=Y (r,p))(d:j∈Z)(u:b=Z'->A8 j∈Z):r∈Z/\∃s t a f,ρ[r]?=Y (Y (.obj s t))/\J[r]?=Y (Y (.ref a))/\J[j]?=Y (Y f)/\gc H p (.ref a)=Y f:=by
 unfold L2.F8 at h;split at h
 .rename_i e;cases h;have e:=gW e;obtain⟨a,T,c,_⟩:=S.tree d e;exact⟨d,_,_,a,_,e,c,c,rfl⟩
 .rename_i e;refine ae λkk =>?_
  cases h;obtain⟨k,C,q,o,y,w,n,i,g,x,v,z⟩:=S.eQ j r p d (u rfl) (gW e);obtain⟨a,T,c,_⟩:=S.tree k i;rw[c]at g;cases g;exact kk (⟨k,q,o,a,n,i,c,x,v⟩)
 .cases h
def zI(d:x∈T):bf (fG H T) (dD H x o):=λb u e=>by
 grind [f',bV,aP]
def SR.QT{s:Sk}{f:aE}{l:List D}{d:D}{v:V}(S:SR K B Z G H J ρ)(Q:r∈Z)(R:ρ[r]?=Y (Y (.obj s t)))(w:mI p s=Y (.fs c fk))(ep:jg p t=Y (.ins c h l))(hf:Fm (dJ fk f)=Z')(ha:f∉Bh)(rv:cS K G d v):
  ∃a x C k i,J[r]?=Y (Y (.ref a))/\gc H p (.ref a)=Y (.ref x)/\js K aT c=Y (Y (.ref C))/\H x=Y (.ins C k (h.zip i))/\h.length=i.length /\
   SR K B Z G (dD H x (.ins C k (lT f v (h.zip i)))) J (ρ.set r (Y (.obj s (lS (.ins c (jF f d h l).1 (jF f d h l).2) p t)))):=by
 refine ae λkk =>?_
 obtain⟨a,T,e1,o1,nd,P,F,W,hF⟩:=S.tree Q R;obtain⟨x,C,k,i,h1,X,h3,U,h5,h6,T',o2,u,n⟩:=o1.put nd w ep (bf.refl G) (λm m m e=>e) (by rw[C5 hf];exact ź) ź λb j=>by cases j
 refine kk (⟨a,x,C,k,i,e1,h1,h3,U,h6,S.TY W hF Q R e1 ⟨zI X,bf.refl _,λb o e =>?_,λb o e =>.inl e⟩ o2 u (λb j =>?_) λq v' hq hv =>?_⟩)
 .rw[aP (λz=>by simp_all)];exact S.gh b o e
 .simp_all
 .refine vy U aW (λb j o e=>by rw[aP j];exact e) (λg hg =>?_) hv;have y:g≠f:=λz=>ha (z ▸ hq g hg)
  rw[rG,if_neg y]
def SR.Ao{s:Sk}{X:D}(S:SR K B Z G H J ρ)(hr:r∈Z)(hd:ρ[r]?=Y (Y (.obj s t)))(w:mI p s=Y u)(ep:jg p t=Y X):
  ∃a x i,J[r]?=Y (Y (.ref a))/\gc H p (.ref a)=Y x/\cv K G H u X x i/\i.Nodup/\(∀b∈i,G b=M) /\
   ∀(g:D) (f:List ax) (N L:Hp),eJ G (fG H i) N L->cv K N L u g x f->f.Nodup->(∀b∈f,N b=M/\(b∈i\/H b=M))->gc L p (.ref a)=Y x/\SR K B Z N L J ((cZ r ρ).set r (Y (.obj s (lS g p t)))):=by
 obtain⟨a,T,e1,C,nd,nf,F,W,hF⟩:=S.tree hr hd;obtain⟨x,i,U,h1,o2,v,k1⟩:=C.focus w ep;have k:=v.nodup_iff.mp nd;rw[iX]at k;obtain⟨n1,n2,n3⟩:=k;have h:∀b∈i,b∈T:=λb d=>v.symm.subset (bJ _ d)
 have n:∀b∈U,b∈T:=λb d=>v.symm.subset (aU _ d)
 have R:=λb d Q=>n3 b Q b d rfl
 refine⟨a,x,i,e1,h1,o2,n1,λb d=>(nf b (h b d)).1,λg f N L E nw l j =>?_⟩;obtain⟨gv,T',o3,p3⟩:=k1 N L g f E.gg (λb d o e=>E.hh b o (by rw[bV (R b d)];exact e)) nw;refine⟨gv,?_⟩;refine S.vN W hF hr hd e1 ⟨λb o e =>?_,E.gg,E.gh,λb o e =>?_⟩ o3 ?_ λb d =>?_
 .by_cases d:b∈T
  .rw[f' d]at e;cases e
  .rw[bV d]at e;exact E.hh b o (by rw[bV (λz=>d (h b z))];exact e)
 .rcases E.fr b o e with z|z
  .exact .inl z
  .refine .inr ?_;by_cases d:b∈T
   .rw[f' d]
   .rw[bV d];rw[bV (λz=>d (h b z))]at z;exact z
 .rw[p3.nodup_iff,iX];refine⟨l,n2,λb d c hc z =>?_⟩;subst z;rcases(j b d).2 with z|z
  .exact R b hc z
  .obtain⟨o,P,_⟩:=C.here b (n b hc);rw[P]at z;cases z
 .rcases bG.mp (p3.subset d) with q|q
  .refine⟨(j b q).1,?_⟩;rcases(j b q).2 with z|z<;>simp_all
  .refine⟨?_,.inl (n b q)⟩;rcases z:N b with _|o
   .rfl
   rcases E.fr b o z with y|y
   .rw[(nf b (n b q)).1]at y;cases y
   .obtain⟨o,P,_⟩:=C.here b (n b q);rw[bV (R b q),P]at y;cases y
end
mutual
def Sk.sE:Sk->Sk->Bool
 |.lf,.lf=>Z'|.li s,.li t=>Sk.sE s t|.fs c k,.fs d l=>decide (c=d)&&Sk.K' k l|.di,.di=>Z'|.vl,.vl=>Z'|_,_=>Z_
def Sk.K':List (aE×Sk)->List (aE×Sk)->Bool
 |[],[]=>Z'|(c,s)::k,(d,t)::l=>decide (c=d)&&(Sk.sE s t&&Sk.K' k l)|_,_=>Z_
end
mutual
theorem Sk.nO:∀ {s t:Sk},Sk.sE s t=Z'->s=t
 |.lf,.lf,_=>rfl|.di,.di,_=>rfl|.vl,.vl,_=>rfl|.lf,.vl,h=>by simp[Sk.sE]at h
 |.vl,.lf,h=>by simp[Sk.sE]at h
 |.li _,.vl,h=>by simp[Sk.sE]at h
 |.vl,.li _,h=>by simp[Sk.sE]at h
 |.fs _ _,.vl,h=>by simp[Sk.sE]at h
 |.vl,.fs _ _,h=>by simp[Sk.sE]at h
 |.di,.vl,h=>by simp[Sk.sE]at h
 |.vl,.di,h=>by simp[Sk.sE]at h
 |.li s,.li t,h=>by rw[Sk.nO (s:=s) (by simpa only [Sk.sE] using h)]
 |.fs c k,.fs d l,h=>by simp only[Sk.sE,aR,decide_eq_true_eq]at h;rw[h.1,Sk.Jm h.2]
 |.lf,.li _,h=>by simp[Sk.sE]at h
 |.lf,.fs _ _,h=>by simp[Sk.sE]at h
 |.lf,.di,h=>by simp[Sk.sE]at h
 |.li _,.lf,h=>by simp[Sk.sE]at h
 |.li _,.fs _ _,h=>by simp[Sk.sE]at h
 |.li _,.di,h=>by simp[Sk.sE]at h
 |.fs _ _,.lf,h=>by simp[Sk.sE]at h
 |.fs _ _,.li _,h=>by simp[Sk.sE]at h
 |.fs _ _,.di,h=>by simp[Sk.sE]at h
 |.di,.lf,h=>by simp[Sk.sE]at h
 |.di,.li _,h=>by simp[Sk.sE]at h
 |.di,.fs _ _,h=>by simp[Sk.sE]at h
theorem Sk.Jm:∀ {k l:List (aE×Sk)},Sk.K' k l=Z'->k=l
 |[],[],_=>rfl|(c,s)::k,(d,t)::l,h=>by simp only[Sk.K',aR,decide_eq_true_eq]at h;rw[h.1,Sk.nO h.2.1,Sk.Jm h.2.2]
 |[],_::_,h=>by simp[Sk.K']at h
 |_::_,[],h=>by simp[Sk.K']at h
end
def wW(c:aE)(s:Sk)(t:D)(p:yO):Option (List (aE×Sk)×List aE×List D):=match mI p s,jg p t with
 |some (.fs f d),Y (.ins a b e)=>if f=c/\a=c then Y (d,b,e) else M
 |_,_=>M
def sA{s:Sk}(h:wW c s t p=Y (b,a,d)):mI p s=Y (.fs c b)/\jg p t=Y (.ins c a d):=by
 unfold wW at h;split at h<;>simp_all
section
variable {X:Cx}
def eR(b:Bool)(j:Nat)(c f:aE)(h:DF):DG:=λa=>(h a).bind λd=>(F8 b j a).bind λq=>(t_ q.1 a).bind λe=>(wW c e.1 e.2 q.2).bind λz=>
 if Fm (dJ z.1 f)=Z'/\z.2.1.length<999 then Y (.nx (a.set q.1 (Y (.obj e.1 (lS (.ins c (jF f d z.2.1 z.2.2).1 (jF f d z.2.1 z.2.2).2) q.2 e.2))))) else M
set_option tactic.hygienic true in
def Z2{b:Bool}{c f:aE}(h:PE X (.Name x p) (fB j))(he:PE X e (tP X.K Z y))(w:pQ X.K c f)(hj:autoParam (j∈Z) ū)(hb:autoParam (b=Z'->A8 j∈Z) ū)(ha:autoParam (f∉Bh) ū)(hs:autoParam (bU e (Y (.Attribute (.Name x p) f A)) g.line X.env=dn false) ŭ):PS X (.Assign [.Attribute (.Name x p) f A] e g) (gD X.K B I Z Z (eR b j c f y)):=(wA h he hs).imp <|by
 rintro D σ H ⟨G,q,o,S,i,k⟩;obtain⟨d,ef,i⟩:=aa.1 i;rcases l:F8 b j q with _|⟨r,T⟩
 .simp[l]at i
 rcases n:t_ r q with _|⟨s,t⟩
 .simp[l,n]at i
 rcases u:wW c s t T with _|⟨fk,ks,ds⟩
 .simp[l,n,u]at i
 simp only[l,n,u,ai]at i;split at i
 .rename_i hz;cases i;obtain⟨i1,U⟩:=sA u;refine⟨G,q,d,S.gh,S.jh,ef,λv G' H' E R =>?_⟩;have P:=S.ext E;refine ae λkk =>?_
  obtain⟨hr,s',t',a,v',J,e2,e3,e4⟩:=P.F8 l hj hb;have m:=jv n;rw[m]at J;obtain⟨a',Q,C,dx,vs,K,F,z,f4,f5,f6⟩:=P.QT hr m i1 U hz.1 ha R;rw[e2]at K;cases K;rw[e4]at F;cases F;refine kk (⟨_,e3,Q,C,dx,_,rfl,f4,(w C z).1,(w C z).2,?_,k _ G' _ f6⟩);rw[pU f5];lia
 .cases i
def gF(b:Bool)(j:Nat)(c f:aE)(h:Int->Int->Int)(i:DF):DG:=λa=>(i a).bind λd=>(F8 b j a).bind λq=>(t_ q.1 a).bind λe=>(wW c e.1 e.2 q.2).bind λz=>match (z.2.1.zip z.2.2).lookup f,d with
 |some (.int m),.int n=>if Fm (dJ z.1 f)=Z'/\z.2.1.length<999 then Y (.nx (a.set q.1 (Y (.obj e.1 (lS (.ins c (jF f (.int (h m n)) z.2.1 z.2.2).1 (jF f (.int (h m n)) z.2.1 z.2.2).2) q.2 e.2))))) else M
 |_,_=>M
theorem xE{f:aE}:∀ {ks:List aE}{ds:List D}{u:D},(ks.zip ds).lookup f=Y u->∃m,Cf f ks=Y m/\ds[m]?=Y u
 |[],a,u,h=>by simp at h
 |k::ks,[],u,h=>by simp at h
 | k::ks,v::a,u,h=>by
  simp only[ez,la]at h;cases e:f==k with
  |true=>rw[e]at h;cases h;exact⟨0,by simp[Cf,e],rfl⟩
  |false=>
   rw[e]at h;obtain⟨m,c,b⟩:=xE h
   simp_all [Cf]
theorem SR.abI{K:aG}{o:bY}{s:Sk}{f:aE}{v:List D}(S:SR K B Z G H k o)(Q:r∈Z)(hd:o[r]?=Y (Y (.obj s t)))(J:mI q s=Y (.fs c h))(ep:jg q t=Y (.ins c b v))(X:Fm (dJ h f)=Z')(R:(b.zip v).lookup f=Y d):
  ∃a x C j e u,k[r]?=Y (Y (.ref a))/\gc H q (.ref a)=Y (.ref x)/\js K aT c=Y (Y (.ref C))/\H x=Y (.ins C j (b.zip e))/\(b.zip e).lookup f=Y u/\cS K G d u:=by
 refine ae λkk =>?_
 obtain⟨a,T,e1,P,_⟩:=S.tree Q hd;obtain⟨x,T1,U,h1,g,_⟩:=P.focus J ep;refine kk ?_;cases g with
 |@ins _ _ _ _ w C j e S0 n ex l z=>
  obtain⟨m,p,e2⟩:=xE R;have i:(b.map (dJ h))[m]?=Y .lf:=by rw[bt,vx p,<- C5 X];exact ź
  obtain⟨y,T1,U1,f1,E,_⟩:=z.at i e2;cases E with
  |leaf r=>exact⟨a,w,C,j,e,y,e1,h1,n,ex,by rw[qb p];exact f1,r⟩
set_option tactic.hygienic true in
def VH{b:Bool}{c f:aE}{op:Int->Int->Int}{o:Operator}(y:LA X o (T9 op))(h:PE X (.Name x p) (fB j))(he:PE X e (tP X.K Z fe))(hc:pQ X.K c f)(hj:autoParam (j∈Z) ū)(hb:autoParam (b=Z'->A8 j∈Z) ū)(ha:autoParam (f∉Bh) ū):
  PS X (.AugAssign (.Attribute (.Name x p) f A) o e g) (gD X.K B I Z Z (gF b j c f op fe)):=(Kr h he y).imp <|by
 rintro D σ H ⟨G,w,o,S,i,k⟩;obtain⟨d,ef,i⟩:=aa.1 i;rcases q:F8 b j w with _|⟨r,pt⟩
 .simp[q]at i
 rcases u:t_ r w with _|⟨s,t⟩
 .simp[q,u]at i
 rcases K:wW c s t pt with _|⟨fk,ks,ds⟩
 .simp[q,u,K]at i
 simp only[q,u,K,ai]at i;split at i
 .rename_i m n z;split at i
  .rename_i T;cases i;obtain⟨R,Q⟩:=sA K;obtain⟨U,s',t',a,v',e1,e2,e3,e4⟩:=S.F8 q hj hb;have l:=jv u;obtain⟨a1,x1,P,J,vs1,u1,g1,g2,F,g4,g5,g6⟩:=S.abI U l R Q T.1 z;rw[e2]at g1;cases g1;rw[e4]at g2;cases g2;cases bK.mp g6;refine⟨_,e3,x1,P,J,_,_,rfl,g4,(hc P F).1,(hc P F).2,g5,G,w,_,S.gh,S.jh,ef,λv G' H' E r =>?_⟩;refine ae λkk =>?_
   cases bK.mp r;obtain⟨a',x',C,dx,vs,f1,f2,f3,f4,f5,f6⟩:=(S.ext E).QT U l R Q T.1 ha (bK.mpr rfl);rw[e2]at f1;cases f1;rw[ja E.hh e4]at f2;cases f2;rw[F]at f3;cases f3;refine kk (⟨_,_,rfl,rfl,dx,_,f4,?_,k _ G' _ f6⟩);rw[pU f5];lia
  .cases i
 .cases i
inductive Tz (K:aG) (Z:List Nat) (s:Sk) (f:DF) (i:St) (H:Hp) (Q:VK):Prop
 |mk G h d:bf G H->j2 K Z G H i h->f h=some d->(∀v a e c,eJ G H e c->cv K e c s d v a->a.Nodup->(∀b∈a,e b=none/\H b=none)->Q v c)->Tz K Z s f i H Q
def ab2{s:Sk}:PE X (.List [] g) (Tz X.K Z (.li s) (eK (.lst []))):=(VP hU).imp <|by
 rintro o H Q ⟨G,f,d,j,a,l,k⟩;cases l;refine⟨G,f,[],j,a,rfl,λq p n m E i h e r =>?_⟩;rw[cU.mp r]at e;exact k _ [q] n m E (.lst e .nil) Ž λb c=>by simp_all
def ab3:PE X (.Dict [] [] g) (Tz X.K Z .di (eK (.ji [] []))):=M7.imp <|by
 rintro i H Q ⟨G,j,d,e,h,f,k⟩;cases f;exact λq a=>k _ [q] G _ (eJ.lay e a) (.ji aW rfl .nil) Ž λb c=>by simp at c;subst c;exact⟨e.free a,a⟩
noncomputable def SQ(c:aE)(f:DF):DF:=λb=>(f b).bind λd=>match d with|.ins a e h=>if a=c then Y (.ins a e h) else M|_=>M
set_option tactic.hygienic true in
def Rj{c:aE}{f:DF}(h:PE X e (Xh X.K Z f)):PE X e (Tz X.K Z (.fs c []) (SQ c f)):=h.imp <|by
 rintro x H Q ⟨G,l,d,t,i,a,k⟩;obtain⟨y,u,a⟩:=aa.1 a;split at a
 .split at a
  .rename_i m;cases a;subst m;exact⟨G,l,_,t,i,u,λq o w v E s p n r=>k _ [q] w v E (zj.mpr ⟨⟨o,n,r⟩,rfl⟩) Ž λb j=>ż⟩
  .cases a
 .cases a
noncomputable def YQ(f:DF):DF:=λa=>(f a).map λd =>.lst [d]
def VR{s:Sk}{f:DF}(h:PE X e (Tz X.K Z s f))(x:autoParam (ao (e::[]) X.env=(Z_,eval e X.env)::ao [] X.env) ŭ):PE X (.List [e] g) (Tz X.K Z (.li s) (YQ f)):=(CM (bS h dI x)).imp <|by
 rintro F H Q ⟨G,t,d,B,m,i,k⟩;obtain⟨y,C,i⟩:=aj.1 i;cases i;refine⟨G,t,y,B,m,C,λv r D K E n w u=>⟨by simp;exact bz Ž rK,λq c =>?_⟩⟩;have a:q∉r:=λz=>by obtain⟨o,p,_⟩:=n.here q z;lia
 refine k _ _ D _ (E.trans (eJ.lay E.gh c)) (.lst aW (.cons (n.mono (bf.refl _) λb l o e =>?_) .nil)) ?_ λb l =>?_
 .grind [aP]
 .simp[a,w]
 .rcases br.mp l with z|z
  .subst z;exact⟨E.gh.free c,E.hh.free c⟩
  simp_all
def rh(i:Nat)(s:Sk)(f:DF):DG:=λa=>(f a).map λd =>.nx (a.set i (Y (.obj s d)))
def SR.aaC{K:aG}{m:bY}{s:Sk}(S:SR K B Z G H t m)(C:i∈Z)(E:eJ G H l n)(v:cv K l n s d (.ref a) k)(x:k.Nodup)(u:∀b∈k,l b=M/\H b=M)(c:∀a,(i,a)∉B.3)(y:x_ i∉Z\/∀d,m[i]? ≠ Y (Y d)):SR K B Z l n (t.set i (Y (.ref a))) (m.set i (Y (.obj s d))):=by
 obtain⟨F,W⟩:=S.ow;exact S.chg (F0:=[]) W C (λb f=>by cases f) E.gg E.gh λb o e=>by rcases E.fr b o e with z|z<;>simp_all (λb o r e=>E.hh b o e)
  v x (λb f=>⟨(u b f).1,.inr (u b f).2⟩) (λb h=>absurd h (c b)) (λr p z=>by cases z) λj q P g r e=>by
   obtain⟨_,R,s0,U,X,w,T,Q,_⟩:=S.eQ j i q P g e
   simp_all
def ri(j:Nat)(c f:aE)(l:Sk)(m:DF):DG:=λa=>(m a).bind λd=>(t_ j a).bind λh=>match h.1,h.2 with
 |.fs n i,.ins e b k=>if (n=c/\e=c)/\Sk.sE (dJ i f) l=Z'/\b.length<999 then Y (.nx ((cZ j a).set j (Y (.obj (.fs c i) (.ins c (jF f d b k).1 (jF f d b k).2))))) else M
 |_,_=>M
def SR.IE{K:aG}{v g:Hp}{X:St}{f:aE}(S:SR K B Z G H X ρ)(hr:r∈Z)(hd:ρ[r]?=Y (Y (.obj (.fs c fk) (.ins c n U))))(E:eJ G H v g)(o1:cv K v g (dJ fk f) d u S1)(nd1:S1.Nodup)(m:∀b∈S1,v b=M/\H b=M):
  ∃x C Q w,X[r]?=Y (Y (.ref x))/\js K aT c=Y (Y (.ref C))/\g x=Y (.ins C Q (n.zip w))/\n.length=w.length /\
   SR K B Z v (dD g x (.ins C Q (lT f u (n.zip w)))) X ((cZ r ρ).set r (Y (.obj (.fs c fk) (.ins c (jF f d n U).1 (jF f d n U).2)))):=by
 refine ae λkk =>?_
 obtain⟨a,T,e1,ot,nd,nf,F,W,hF⟩:=S.tree hr hd;have inH:∀b∈T,∃o,H b=Y o:=λb l=>by obtain⟨o,s,_⟩:=ot.here b l;exact⟨o,s⟩
 have dj:∀b∈S1,b∉T:=λb l Vr=>by obtain⟨o,s⟩:=inH b Vr;rw[(m b l).2]at s;cases s
 obtain⟨x,C,Q,w,h1,h2,h3,h4,h5,h6,T',o2,nd2,sub⟩:=ot.put (p:=[]) (f:=f) nd rfl rfl E.gg (λb q o e=>E.hh b o e) o1 nd1 dj;cases h1;have hu:=ku (r:=r) hd (λq z=>by cases z);have S':=(S.ext E).J8 (r:=r);have Wx:=W.ext E;have W':r9 K B Z v g X (cZ r ρ) F:=⟨λi d P e=>Wx.it i d P (bM e).1,λi d P e=>Wx.ok i d P (bM e).1,λi j d c P hj ei ej=>Wx.ap i j d c P hj (bM ei).1 (bM ej).1⟩;have gT:∀b∈T,v b=none:=λb l=>by rw[<- hF]at l;exact((Wx.ok r _ hr hd).2 b l).1
 have R:=S'.HH (i:=r) (a:=a) (d' :=.obj (.fs c fk) _) (F0:=T) (S':=T') (G':=v) W' hr (λb l=>⟨by rw[hF];exact l,_,hu⟩) (bf.refl _) (λb o e=>by
   have t:b≠a:=λz=>by rw[z,gT a h2]at e;cases e
   rw[aP t];exact E.gh b o e) (λb o e =>.inl e) (λb o l e=>by
   have t:b≠a:=λz=>l (z ▸ h2)
   rw[aP t];exact e) o2 nd2 (λb l=>by
   rcases sub b l with z|z
   .exact⟨gT b z,.inl z⟩
   .refine⟨(m b z).1,.inr (.inr ⟨S.h0.free (m b z).2,λk c hk ek NX hbk =>?_⟩)⟩;obtain⟨y,f1,f2⟩:=W.it k c hk (bM ek).1;obtain⟨o,s⟩:=f2.here b hbk;rw[(m b z).2]at s;cases s) (λb h=>by have:=(S.pin r b h).2;simp_all) (λr p z=>by cases z)
  (λj p q q q e=>absurd rfl ((bM e).2 p))
 have R:=R.1;rw[fS e1]at R;exact kk (⟨a,C,Q,w,e1,h3,E.hh _ _ h4,h6,R⟩)
set_option tactic.hygienic true
def Ou{c f:aE}{s1:Sk}(h:PE X (.Name x p) (fB j))(P:PE X e (Tz X.K Z s1 q))(n:pQ X.K c f)(J:autoParam (j∈Z) ū)(K:autoParam (bU e (Y (.Attribute (.Name x p) f A)) g.line X.env=dn false) ŭ):PS X (.Assign [.Attribute (.Name x p) f A] e g) (gD X.K B I Z Z (ri j c f s1 q)):=(wA h P K).imp <|by
 rintro D σ H ⟨G,l,o,S,a,k⟩;obtain⟨d,ef,a⟩:=aa.1 a;rcases i:t_ j l with _|⟨s,t⟩
 .simp[i]at a
 simp only[i,ai]at a;split at a
 .split at a
  .rename_i F;obtain⟨⟨rfl,rfl⟩,b,z⟩:=F;cases a;refine⟨G,l,d,S.gh,S.jh,ef,λv S1 G' H' E m y w =>?_⟩;rw[<- Sk.nO b]at m;obtain⟨u,C,dx,vs,f1,r,U,T,R⟩:=S.IE J (jv i) E m y w;refine⟨_,f1,u,C,dx,_,rfl,U,(n C r).1,(n C r).2,?_,k _ G' _ R⟩;rw[pU T];lia
  .cases a
 .cases a
end
def qF(c f:aE)(j:Nat)(A:bY):Option (List (aE×Sk)×List aE×List D×D):=(t_ j A).bind λb=>match b.1,b.2 with
 |.fs k i,.ins a d e=>if k=c/\a=c then (Cf f d).bind λn=>(e[n]?).map λh=>(i,d,e,h) else M
 |_,_=>M
set_option tactic.hygienic true in
def ly{f:aE}{m:List D}(h:qF c f j A=Y (a,e,m,o)):A[j]?=Y (Y (.obj (.fs c a) (.ins c e m)))/\mI [.fld f] (.fs c a)=Y (dJ a f)/\jg [.fld f] (.ins c e m)=Y o:=by
 unfold qF at h;rcases i:t_ j A with _|⟨s,t⟩
 .simp_all
 rw[i]at h;simp at h;split at h
 .rename_i u q r d l;split at h
  .rename_i p;obtain⟨rfl,rfl⟩:=p;rcases b:Cf f d with _|n
   .simp[b]at h
   rcases k:l[n]? with _|y
   .simp_all
   simp only[b,k,ai,d9,sT,oI]at h;obtain⟨rfl,rfl,rfl,rfl⟩:=h;exact⟨jv i,rfl,by simp[jg,b,k]⟩
  .cases h
 .cases h
abbrev CI(c f:aE)(b:List (aE×Sk))(a:List aE)(d:List D)(x:D):D :=.obj (.fs c b) (lS x [.fld f] (.ins c a d))
section
variable {K:aG}
theorem SR.Hr{f:aE}{s:List (aE×Sk)}{v:List D}(S:SR K B Z G H J A)(p:r∈Z)(q:A[r]?=Y (Y (.obj (.fs c s) (.ins c e v))))(t:J[r]?=Y (Y (.ref a)))(b:gc H [.fld f] (.ref a)=Y x):
  ∃C d h,js K aT c=Y (Y (.ref C))/\H a=Y (.ins C d h)/\h.lookup f=Y x:=by
 refine ae λkk =>?_
 obtain⟨y,T,k,o,_⟩:=S.tree p q;rw[t]at k;cases k;refine kk ?_;cases o with
 |@ins _ _ _ _ _ C d m z n i l w=>refine⟨C,d,_,n,i,?_⟩;simp only[gc,i]at b;obtain⟨u,j,b⟩:=aa.1 b;rw[j,b]
def SR.yU{p:yO}{s:Sk}(S:SR K B Z G H J A)(E:r∈Z)(F:A[r]?=Y (Y (.obj s t)))(g:mI p s=Y j)(I:jg p t=Y n):
  ∃a x f,J[r]?=Y (Y (.ref a))/\gc H p (.ref a)=Y x/\cv K G H j n x f/\f.Nodup /\
   ∀(l:ax) (o:HO) (d:D) (c:List ax),l∈f->cv K G (dD H l o) j d x c->c.Nodup->(∀b∈c,b∈f)->SR K B Z G (dD H l o) J ((cZ r A).set r (Y (.obj s (lS d p t)))):=by
 obtain⟨a,x,f,R,P,w,C,q,k⟩:=S.Ao E F g I;refine⟨a,x,f,R,P,w,C,λl o d c v y m h=>(k d c G _ ⟨zI v,bf.refl _,λb u e =>?_,λb u e =>.inl e⟩ y m λb i=>⟨q b (h b i),.inl (h b i)⟩).2⟩;rw[aP λz=>by simp_all];exact S.gh b u e
end
section
variable {X:Cx}
def MK(j:Nat)(c f:aE)(b:DF):DG:=λA=>(qF c f j A).bind λq=>(b A).bind λd=>match q.2.2.2 with
 |.lst a=>if Sk.sE (dJ q.1 f) (.li .lf)=Z'/\a.length<dE then Y (.nx ((cZ j A).set j (Y (CI c f q.1 q.2.1 q.2.2.1 (.lst (a++[d])))))) else M
 |_=>M
set_option tactic.hygienic true in
def Z3{c f:aE}(h:PE X (.Name x p) (fB j))(he:PE X e (tP X.K Z fe))(hc:pQ X.K c f)(hj:autoParam (j∈Z) ū)(Vq:autoParam (bQ (.Name x p) f X.env (eval (.Name x p) X.env)=eval (.Name x p) X.env) ŭ)(s:autoParam (bQ (.Attribute (.Name x p) f I) "append" X.env (eval (.Attribute (.Name x p) f I) X.env)=eval (.Attribute (.Name x p) f I) X.env) ŭ) (u:autoParam (((bX N (ao (e::[]) X.env)).all (λx=> !x.1)&&(eM N (cq [] X.env)).all (λx=>x.1.isSome)
   && decide ((e::[]).length+([]:List lh).length+(if ([]:List lh).isEmpty then 0 else 1)<30))=true) ŭ) (q:autoParam ((U.endLine==N.line)=true) ŭ) (hs:autoParam (ao (e::[]) X.env=(Z_,eval e X.env)::ao [] X.env) ŭ) (m:autoParam ((bX N (ao [] X.env)).any (·.1)=false) ŭ) (hsw:autoParam (bU (.Call (.Attribute (.Attribute (.Name x p) f I) "append" U) [e] [] N) M L.line X.env=dn false) ŭ) :
  PS X (.Expr (.Call (.Attribute (.Attribute (.Name x p) f I) "append" U) [e] [] N) L) (gD X.K B Q Z Z (MK j c f fe)):=
 (mF (BH gw PySem.F.slot_list_append PySem.F.type_list_append mW (pY h Vq) (bS he dI hs) s u q hs m) hsw).imp <|by
  rintro D J H ⟨G,A,o,S,i,k⟩;obtain⟨⟨fk,ks,ds,t1⟩,et,i⟩:=aa.1 i;rcases ef:fe A with _|d
  .simp[ef]at i
  simp only[ef,ai]at i;split at i
  .split at i
   .rename_i hz;refine ae λkk =>?_
    cases i;obtain⟨hd,i1,i2⟩:=ly et;rw[Sk.nO hz.1]at i1;obtain⟨a,y,T1,e1,e2,o1,_⟩:=S.yU hj hd i1 i2;obtain⟨C,dx,fs,n,f1,f2⟩:=S.Hr hj hd e1 e2;refine kk ?_;cases o1 with
    |@lst _ _ l vs S0 hl tt=>
     refine⟨_,e1,a,C,dx,fs,_,rfl,f1,(hc C n).1,(hc C n).2,f2,.inl ⟨rfl,vs,.of hl⟩,G,A,d,S.gh,S.jh,ef,λv G' H' E r =>?_⟩;refine ae λkk =>?_
     obtain⟨a',y',WN,F,w,g,R,k'⟩:=(S.ext E).yU hj hd i1 i2;rw[e1]at F;cases F;rw[ja E.hh e2]at w;cases w;obtain⟨x',K,g1,g2,g3,g4,T2,o2,P,t⟩:=g.app (p:=[]) R rfl rfl (bf.refl _) (λO O O z=>z) (.leaf r) ź λb hb=>by cases hb
     cases g1;refine kk (⟨l,K,v,rfl,rfl,g3,?_,k _ G' _ (k' l _ _ T2 g2 o2 P λb hb =>?_)⟩)
     .rw[<- g4];exact bw hz.2 gX
     .rcases t b hb with z|z<;>trivial
   .cases i
  .cases i
noncomputable def rW(k:lO)(d:D)(a:List lO)(b:List D):List lO×List D:=if (a.any λq=>decide (q=k))=Z' then (a,wa (λq x=>if q=k then d else x) a b) else (a++[k],b++[d])
theorem JK:∀ {ks:List lO}{a:List V},ks.length=a.length->((ks.zip a).any λb=>decide (b.1=k))=ks.any λq=>decide (q=k)
 |[],a,h=>by simp
 |q::ks,[],h=>by simp at h
 |q::ks,v::a,h=>by simp;rw[JK (by simp_all)]
theorem IT{v:V}:∀ {ks:List lO}{a:List V},(ks.zip a).map (λb=>if b.1=k then (b.1,v) else b)=ks.zip (wa (λq x=>if q=k then v else x) ks a)
 |[],a=>by simp
 |q::ks,[]=>by simp
 | q::ks,u::a=>by
  simp only[ez,bx,List.zipWith_cons_cons,IT]
  grind
theorem vh{K:aG}{v:V}(r:cS K G d v):∀ {b:List lO}{e:List D}{a:List V},aY K G e a->aY K G (wa (λq x=>if q=k then d else x) b e) (wa (λq x=>if q=k then v else x) b a)
 |[],e,a,h=>by solve_by_elim
 |q::b,[],a,h=>by rw[cU.mp h];exact ź
 | q::b,x::e,a,h=>by
  obtain⟨u,j,rfl,i,f⟩:=bD.mp h;refine .cons ?_ (vh r f)
  grind
def Rk{K:aG}{k:lO}{v:V}{f:List V}(r:cS K G d v)(j:a.length=b.length)(i:aY K G b f):∃c,xB (a.zip f) k v=(rW k d a b).1.zip c/\(rW k d a b).1.length=(rW k d a b).2.length/\aY K G (rW k d a b).2 c:=by
 have e:a.length=f.length:=by rw[j,i.length]
 unfold xB rW;rw[JK e];by_cases h:(a.any λq=>decide (q=k))=Z'
 .rw[if_pos h,if_pos h];exact⟨_,IT,by simp[j],vh r i⟩
 .rw[if_neg h,if_neg h];refine⟨_,?_,by simp[j],i.append (.cons r .nil)⟩;rw[List.zip_append e];rfl
def rj(j:Nat)(c f:aE)(e:DF)(h:DM):DG:=λA=>(h A).bind λw=>(qF c f j w.2).bind λq=>(e w.2).bind λy=>(Fj y).bind λb=>match q.2.2.2 with
 |.ji a d=>if Sk.sE (dJ q.1 f) .di=Z'/\a.length<dE then Y (.nx ((cZ j w.2).set j (Y (CI c f q.1 q.2.1 q.2.2.1 (.ji (rW b w.1 a d).1 (rW b w.1 a d).2))))) else M
 |_=>M
set_option tactic.hygienic true in
def FF{c f:aE}(P:X.A.units+1<qL)(h:PE X (.Name x p) (fB j))(hi:PE X i (tP X.K Z fk))(he:PE X e (tM X.K B Z fe))(hc:pQ X.K c f)(R:autoParam (j∈Z) ū)(Vq:autoParam (bQ (.Name x p) f X.env (eval (.Name x p) X.env)=eval (.Name x p) X.env) ŭ)(hs:autoParam (bU e (Y (.Subscript (.Attribute (.Name x p) f I) i O)) L.line X.env=dn false) ŭ):
  PS X (.Assign [.Subscript (.Attribute (.Name x p) f I) i O] e L) (gD X.K B Q Z Z (rj j c f fk fe)):=(Qd P (pY h Vq) hi he hs).imp <|by
 rintro D J H ⟨G,A,o,S,b,k⟩;obtain⟨⟨d,l⟩,ef,b⟩:=aa.1 b;obtain⟨⟨fk',ks0,ds0,t1⟩,et,b⟩:=aa.1 b;rcases w:fk l with _|y
 .simp[w]at b
 rcases m:Fj y with _|ky
 .simp[w,m]at b
 simp only[w,m,ai]at b;split at b
 .split at b
  .rename_i hz;cases b;obtain⟨hd,g,i2⟩:=ly et;rw[Sk.nO hz.1]at g;refine⟨G,A,d,l,S,ef,λv G1 H1 t s1 rv =>?_⟩;obtain⟨a,y',T1,e1,e2,_⟩:=t.yU R hd g i2;obtain⟨C,dx,fs,n,f1,f2⟩:=t.Hr R hd e1 e2;refine⟨_,e1,a,C,dx,fs,_,rfl,f1,(hc C n).1,(hc C n).2,f2,G1,l,y,t.gh,t.jh,w,λu G2 H2 E2 ru =>?_⟩;have P:=vt m (.inl ru:j8 X.K G2 H2 y u);refine ae λkk =>?_
   obtain⟨a',y2,T2,s,r,o2,K,k2⟩:=(t.ext E2).yU R hd g i2;rw[e1]at s;cases s;rw[ja E2.hh e2]at r;cases r;obtain⟨x',vs,g1,g2,g3,g4,g5,g6⟩:=o2.dput (p:=[]) K rfl rfl (bf.refl _) λv v v z=>z
   cases g1;obtain⟨E,z1,z2,z3⟩:=Rk (cS.mono E2.gg d rv) g4 g5;obtain⟨T3,o3,F,q⟩:=g6 _ _ E z2 z3;refine kk (⟨x',_,rfl,?_,k _ G2 _ (k2 x' _ _ T3 g2 o3 F q)⟩);rw[P,<- z1];refine O6.k g3 ?_;rw[List.length_zip,g4,g5.length,RO,<- g5.length,<- g4];exact bw hz.2 gX
  .cases b
 .cases b
def tJ(i j:Nat)(c f:aE)(b:DF):DG:=λA=>(qF c f j A).bind λq=>(b A).bind λy=>match dJ q.1 f,q.2.2.2,y with
 |.li (.fs _ _),.lst a,.int n=>(DW a.length n).map λk =>.nx (A.set i (Y (.eQ j [.fld f,.ix k])))
 |_,_,_=>M
set_option tactic.hygienic true
def Z4{i:Nat}{c f:aE}{b:Expr}(hN:X.N.Nodup)(hy:X.N[i]?=Y y)(hly:Loc X.env.scope y)(h:PE X (.Name x p) (fB j))(he:PE X b (tP X.K Z fe))(hc:pQ X.K c f)(N:autoParam (j∈Z) ū)(hj2:autoParam (x_ j∈Z) ū)(hi:autoParam (i∈Z) ū)(hi2:autoParam (x_ i∉Z) ū)(WB:autoParam (j≠i) ū)(s:autoParam (∀a,(i,a)∉B.3) Ŧ)(hal:autoParam (f∈Bh) ū)(Vq:autoParam (bQ (.Name x p) f X.env (eval (.Name x p) X.env)=eval (.Name x p) X.env) ŭ)(hpi:autoParam (sN b) š)(hs:autoParam (bU (.Subscript (.Attribute (.Name x p) f I) b q) (Y (.Name y O)) L.line X.env=dn false) ŭ)(hf:autoParam (X.fn y=Z'\/X.env.scope.names.lookup y=Y .local) Ũ):
  PS X (.Assign [.Name y O] (.Subscript (.Attribute (.Name x p) f I) b q) L) (gD X.K B Q Z Z (tJ i j c f fe)):=(jZ hN hy hly (Ez Ja (pY h Vq) he hpi) hs hf).imp <|by
 rintro D J H ⟨G,A,o,S,e,k⟩;obtain⟨⟨fk,ks,ds,t1⟩,et,e⟩:=aa.1 e;rcases ef:fe A with _|d
 .simp[ef]at e
 simp only[ef,ai]at e;split at e
 .rename_i c2 t xs n w;rcases R:DW xs.length n with _|m
  .rw[R]at e;cases e
  rw[R]at e;cases e;obtain⟨P,i1,i2⟩:=ly et;rw[w]at i1;obtain⟨a,y',T1,e1,e2,_⟩:=S.yU N P i1 i2;obtain⟨C,dx,fs,nn,f1,f2⟩:=S.Hr N P e1 e2;refine⟨_,e1,a,C,dx,fs,_,rfl,f1,(hc C nn).1,(hc C nn).2,f2,G,A,_,S.gh,S.jh,ef,λv G' H' E r =>?_⟩;cases bK.mp r;have S':=S.ext E;obtain⟨a',y2,T2,K,F,o2,_⟩:=S'.yU N P i1 i2;rw[e1]at K;cases K;rw[ja E.hh e2]at F;cases F;cases o2 with
  |@lst _ _ l vs S0 hl tt=>
   have hm:=(C4 R).2.1;obtain⟨v1,T3,U3,g1,g2,_⟩:=tt.at (s :=.fs c2 t) (by simp[hm]) (bp hm);obtain⟨b',o',rfl,_⟩:=g2.root (λz=>by cases z) (λz=>by cases z);refine⟨l,vs,n,.ref b',rfl,rfl,.of hl,?_,k _ G' H' ?_⟩
   .unfold oY;rw[<- tt.length.1,R];exact g1
   .refine S'.GL N hj2 hi WB hi2 s P e1 (s' :=.fs c2 t) ?_ ?_ λg hg =>?_
    .have:=ja E.hh e2;simp only[gc]at this ⊢;rcases ea:H' a with _|ob
     .rw[ea]at this;cases this
     rw[ea]at this;cases ob<;>simp only at this ⊢<;>try (cases this;done)
     obtain⟨u,el,this⟩:=aa.1 this;rw[el];simp at this;subst this;simp only[ai,gc,hl,g1]
    .simp only[mI,w]
    .simp[z0]at hg;subst hg;exact hal
 .cases e
end
section
variable {K:aG}{m:St}{g:bY}
def i5{i:Nat}(h:(g.set j M)[i]?=Y (Y d)):j≠i/\g[i]?=Y (Y d):=by
 by_cases e:j=i
 .subst e;by_cases a:j<g.length<;>simp_all
 .rw[av e]at h;exact⟨e,h⟩
def SR.blank(S:SR K B Z G H m g)(q:g[j]?=Y (Y d))(u:xO d=Z'):SR K B Z G H m (g.set j M):=by
 refine⟨S.gh,S.g0,S.h0,S.fr,λi c a e=>S.env i c a (i5 e).2,?_,by simp[S.len],S.pin,λi r p y x e =>?_⟩
 .obtain⟨F,W⟩:=S.ow;exact⟨F,λi d a e=>W.it i d a (i5 e).2,λi d a e=>W.ok i d a (i5 e).2,λi j d c a o Q P=>W.ap i j d c a o (i5 Q).2 (i5 P).2⟩
 .obtain⟨s,O,n,k,l,w,h,f,C⟩:=S.eQ i r p y x (i5 e).2;have b:j≠r:=λz=>by subst z;rw[q]at f;cases f;cases u
  exact⟨s,O,n,k,l,w,h,ż,C⟩
def SR.UP{f:aE}{X s:List D}(S:SR K B Z G H m g)(hr:r∈Z)(P:j∈Z)(hrj:r≠j)(hd:g[r]?=Y (Y (.obj (.fs c Q) (.ins c O U))))(E:mI [.fld f] (.fs c Q)=Y (.li (.fs n [])))(ep:jg [.fld f] (.ins c O U)=Y (.lst X))(h2:g[j]?=Y (Y (.ins n x s))):
  ∃a l y w,m[r]?=Y (Y (.ref a))/\gc H [.fld f] (.ref a)=Y (.ref l)/\m[j]?=Y (Y (.ref y))/\H l=Y (.lst w)/\X.length=w.length/\SR K B Z G (dD H l (.lst (w++[.ref y]))) m (((cZ r g).set j M).set r (Y (CI c f Q O U (.lst (X++[.ins n x s]))))):=by
 obtain⟨a,T,e1,o1,nd,nf,F,W,hF⟩:=S.tree hr hd;obtain⟨y,e2,oc⟩:=W.it j _ P h2;obtain⟨⟨ob,oh,cell⟩,fj⟩:=(mq.cell rfl).mp oc;obtain⟨_,fjn⟩:=W.ok j _ P h2;have yF:y∈F j:=by rw[fj];exact ź
 have yT:y∉T:=λz=>by rw[<- hF]at z;exact W.ap r j _ _ hr P hd h2 hrj y z yF
 obtain⟨l,w,g1,g2,g3,g4,T',o2,nd2,sub⟩:=o1.app nd E ep (bf.refl G) (λq q q z=>z) (zj.mpr ⟨⟨ob,oh,cell⟩,rfl⟩) Ž (λb u=>by simp at u;subst u;exact yT);refine⟨a,l,y,w,e1,g1,e2,g3,g4,?_⟩;have hu:=ku (r:=r) hd (λq z=>by cases z);have Yl:=ku (r:=r) h2 (λq z=>by cases z);have S0:=(S.J8).blank Yl rfl;have hr0:((cZ r g).set j M)[r]?=Y (Y (.obj (.fs c Q) (.ins c O U))):=by rw[av (bE hrj)];exact hu
 have R:=(S0.HH (i:=r) (a:=a) (d':=CI c f Q O U (.lst (X++[D.ins n x s]))) (F0:=T) (S':=T') (G':=G) (H':=dD H l (.lst (w++[V.ref y]))) (⟨λi d hi e=>W.it i d hi (bM (i5 e).2).1,λi d hi e=>W.ok i d hi (bM (i5 e).2).1,λi j d c hi P ei ej=>W.ap i j d c hi P (bM (i5 ei).2).1 (bM (i5 ej).2).1⟩) hr (λb u=>⟨by rw[hF];exact u,_,hr0⟩) (bf.refl _) (λb o e=>by
   have C:b≠l:=λz=>by rw[z,(nf l g2).1]at e;cases e
   rw[aP C];exact S.gh b o e) (λb o e =>.inl e) (λb o u e=>by
   have C:b≠l:=λz=>u (z ▸ g2)
   rw[aP C];exact e) (o2) nd2 (λb u=>by
   rcases sub b u with z|z
   .exact⟨(nf b z).1,.inl z⟩
   .simp at z;subst z;refine⟨(fjn b yF).1,.inr (.inr ⟨(fjn b yF).2,λk c hk ek NX hbk =>?_⟩)⟩;obtain⟨ZS,ek⟩:=i5 ek;exact W.ap j k _ c P hk h2 (bM ek).1 ZS b yF hbk) (λb h=>by have:=(S.pin r b h).2;simp_all) (λr p z=>by cases z)
  (λj' p q q q e=>absurd rfl ((bM (i5 e).2).2 p))).1
 simp_all [fS]
def SR.Qx{f:aE}(S:SR K B Z G H m g)(hr:r∈Z)(hj:j∈Z)(hrj:r≠j)(hd:g[r]?=Y (Y (.obj (.fs c fk) (.ins c ks ds))))(E:mI [.fld f] (.fs c fk)=Y (.li (.fs c2 [])))(ep:jg [.fld f] (.ins c ks ds)=Y (.lst (xs++[.ins c2 k2 d2])))(U:∀a,(j,a)∉B.3)(hm:x_ j∉Z):
  ∃a l y P,m[r]?=Y (Y (.ref a))/\gc H [.fld f] (.ref a)=Y (.ref l)/\H l=Y (.lst (P++[.ref y]))/\SR K B Z G (dD H l (.lst P)) (m.set j (Y (.ref y))) (((cZ r g).set r (Y (CI c f fk ks ds (.lst xs)))).set j (Y (.ins c2 k2 d2))):=by
 refine ae λkk =>?_
 obtain⟨a,T,e1,o1,nd,nf,F,W,hF⟩:=S.tree hr hd;obtain⟨l,P,u,g1,g2,g3,g4,T',S1,o2,o3,pm⟩:=o1.aaO nd E ep;have hu:=ku (r:=r) hd λq z=>by cases z
 have Q:=pm.nodup_iff.mpr nd;rw[iX]at Q;obtain⟨n1,n2,n3⟩:=Q;have T'T:∀b∈T',b∈T:=λb n=>pm.subset (bJ _ n)
 have O:∀b∈S1,b∈T:=λb n=>pm.subset (aU _ n)
 have R:=(S.J8 (r:=r)).HH (i:=r) (a:=a) (d':=CI c f fk ks ds (.lst xs)) (⟨λi d X e=>W.it i d X (bM e).1,λi d X e=>W.ok i d X (bM e).1,λi j d c X hj ei ej=>W.ap i j d c X hj (bM ei).1 (bM ej).1⟩) hr (λb n=>⟨by rw[hF];exact n,_,hu⟩) (bf.refl _) (λb o e=>by
   rw[aP (λz=>by rw[z,(nf l g2).1]at e;cases e)];exact S.gh b o e) (λb o e =>.inl e) (λb o n e=>by
   have s:b≠l:=λz=>n (z ▸ g2)
   rw[aP s];exact e) o2 n1 (λb n=>⟨(nf b (T'T b n)).1,.inl (T'T b n)⟩) (λb h=>by have:=(S.pin r b h).2;rw[e1]at this;cases this;exact ź) (λr p z=>by cases z)
  (λj' p q q q e=>absurd rfl ((bM e).2 p))
 rw[fS e1]at R;obtain⟨Sr,Wr⟩:=R;obtain⟨y,ob,rfl,_⟩:=o3.root (λz=>by cases z) (λz=>by cases z);obtain⟨⟨o4,oh,cell⟩,s1⟩:=zj.mp o3;subst s1;have R2:=(Sr.HH (i:=j) (a:=y) (F0:=[]) Wr hj (λb n=>by cases n) (bf.refl _) Sr.gh (λb o e =>.inl e) (λb o q e=>e)
  ((mq.cell rfl).mpr ⟨⟨o4,oh,cell⟩,rfl⟩) Ž (λb n=>by
   have C:=n;simp at n;subst n;refine⟨(nf b (O b C)).1,.inr (.inr ⟨(nf b (O b C)).2,λk cc hk ek NX x =>?_⟩)⟩;by_cases w:k=r
   .subst w;simp only[if_true]at x;exact n3 b x b C rfl
   .simp only[if_neg w]at x;rw[av (bE w)]at ek;exact W.ap r k _ cc hr hk hd (bM ek).1 (bE w) b (by rw[hF];exact O b C) x) (λb h=>absurd h (U b)) (λr p z=>by cases z)
  (λj' p h1 h2 q e=>by
   obtain⟨_,g0,_⟩:=Sr.eQ j' j p h1 h2 e
   simp_all)).1
 exact kk (⟨a,l,y,P,e1,g1,g3,R2⟩)
end
section
variable {X:Cx}{s v:Pos}
def CB(j i:Nat)(c f:aE):DG:=λg=>(qF c f j g).bind λq=>(eV i g).bind λd=>match q.2.2.2,d with
 |.lst a,.ins b e h=>if Sk.sE (dJ q.1 f) (.li (.fs b []))=Z'/\a.length<dE then Y (.nx (((cZ j g).set i M).set j (Y (CI c f q.1 q.2.1 q.2.2.1 (.lst (a++[.ins b e h])))))) else M
 |_,_=>M
set_option tactic.hygienic true in
def Ot{i:Nat}{c f:aE}(h:PE X (.Name x p) (fB j))(hy:PE X (.Name y v) (fB i))(U:pQ X.K c f)(R:autoParam (j∈Z) ū)(hi:autoParam (i∈Z) ū)(z:autoParam (j≠i) ū)(F:autoParam (bQ (.Name x p) f X.env (eval (.Name x p) X.env)=eval (.Name x p) X.env) ŭ)(r:autoParam (bQ (.Attribute (.Name x p) f s) "append" X.env (eval (.Attribute (.Name x p) f s) X.env)=eval (.Attribute (.Name x p) f s) X.env) ŭ) (u:autoParam (((bX t (ao ((.Name y v)::[]) X.env)).all (λx=> !x.1)&&(eM t (cq [] X.env)).all (λx=>x.1.isSome)
   && decide (((.Name y v:Expr)::[]).length+([]:List lh).length+(if ([]:List lh).isEmpty then 0 else 1)<30))=true) ŭ) (q:autoParam ((A.endLine==t.line)=true) ŭ) (Q:autoParam (ao ((.Name y v)::[]) X.env=(Z_,eval (.Name y v) X.env)::ao [] X.env) ŭ) (e:autoParam ((bX t (ao [] X.env)).any (·.1)=false) ŭ) (w:autoParam (bU (.Call (.Attribute (.Attribute (.Name x p) f s) "append" A) [.Name y v] [] t) M I.line X.env=dn false) ŭ) :
  PS X (.Expr (.Call (.Attribute (.Attribute (.Name x p) f s) "append" A) [.Name y v] [] t) I) (gD X.K B J Z Z (CB j i c f)):=
 (mF (BH gw PySem.F.slot_list_append PySem.F.type_list_append mW (pY h F) (bS hy dI Q) r u q Q e) w).imp <|by
  rintro D m H ⟨G,g,o,S,b,k⟩;obtain⟨⟨fk,ks,ds,t1⟩,et,b⟩:=aa.1 b;rcases K:eV i g with _|d
  .simp[K]at b
  simp only[K,ai]at b;split at b
  .split at b
   .rename_i P;refine ae λkk =>?_
    cases b;obtain⟨T,O,i2⟩:=ly et;rw[Sk.nO P.1]at O;obtain⟨a,l,y,E,e1,e2,e3,e4,e5,S'⟩:=S.UP R hi z T O i2 (gW K);obtain⟨C,dx,fs,n,f1,f2⟩:=S.Hr R T e1 e2;refine kk (⟨_,e1,a,C,dx,fs,_,rfl,f1,(U C n).1,(U C n).2,f2,.inl ⟨rfl,E,.of e4⟩,_,e3,l,E,_,rfl,rfl,e4,?_,k _ G _ S'⟩);rw[<- e5];exact bw P.2 gX
   .cases b
  .cases b
def Em(i j:Nat)(c f:aE):DG:=λg=>(qF c f j g).bind λq=>match q.2.2.2 with
 | .lst a=>(a.getLast?).bind λd=>match d with
  |.ins b e h=>if Sk.sE (dJ q.1 f) (.li (.fs b []))=Z' then Y (.nx (((cZ j g).set j (Y (CI c f q.1 q.2.1 q.2.2.1 (.lst a.dropLast)))).set i (Y (.ins b e h)))) else M
  |_=>M
 |_=>M
set_option tactic.hygienic true
def Q9{i:Nat}{c f:aE}(hN:X.N.Nodup)(hy:X.N[i]?=Y y)(w:Loc X.env.scope y)(h:PE X (.Name x p) (fB j))(T:pQ X.K c f)(Q:autoParam (j∈Z) ū)(hi:autoParam (i∈Z) ū)(z:autoParam (j≠i) ū)(r:autoParam (∀a,(i,a)∉B.3) Ŧ)(hm:autoParam (x_ i∉Z) ū)(F:autoParam (bQ (.Name x p) f X.env (eval (.Name x p) X.env)=eval (.Name x p) X.env) ŭ)(q:autoParam (bQ (.Attribute (.Name x p) f s) "pop" X.env (eval (.Attribute (.Name x p) f s) X.env)=eval (.Attribute (.Name x p) f s) X.env) ŭ)(e:autoParam ((A.endLine==t.line)=true) ŭ)(hs:autoParam (bU (.Call (.Attribute (.Attribute (.Name x p) f s) "pop" A) [] [] t) (Y (.Name y L)) I.line X.env=dn false) ŭ)(hf:autoParam (X.fn y=Z'\/X.env.scope.names.lookup y=Y .local) Ũ):
  PS X (.Assign [.Name y L] (.Call (.Attribute (.Attribute (.Name x p) f s) "pop" A) [] [] t) I) (gD X.K B J Z Z (Em i j c f)):=
 (jZ hN hy w (CN gw PySem.F.slot_list_pop PySem.F.type_list_pop Nu (pY h F) q e) hs hf).imp <|by
  rintro D m H ⟨G,g,o,S,b,k⟩;unfold Em at b;rcases K:qF c f j g with _|⟨fk,ks,ds,t1⟩
  .simp_all
  rw[K]at b;simp at b;split at b
  .rename_i u;rcases v:u.getLast? with _|d
   .simp_all
   rw[v]at b;simp at b;split at b
   .rename_i c2 k2 d2;split at b
    .rename_i hz;refine ae λkk =>?_
     cases b;obtain⟨R,P,O⟩:=ly K;rw[Sk.nO hz]at P;have hx:u=u.dropLast++[.ins c2 k2 d2]:=by obtain⟨ys,rfl⟩:=L0.mp v;simp
     rw[hx]at O;obtain⟨a,l,y,us,e1,e2,U,S'⟩:=S.Qx Q hi z R P O r hm;obtain⟨C,dx,fs,n,f1,f2⟩:=S.Hr Q R e1 e2;refine kk (⟨_,e1,a,C,dx,fs,_,rfl,f1,(T C n).1,(T C n).2,f2,.inl ⟨rfl,_,.of U⟩,l,_,.ref y,rfl,rfl,U,Ž,?_⟩);rw[yo]
     exact ź
    .cases b
   .cases b
  .cases b
end
inductive spT (K:aG) (s:Sk) (F:List D->Option (D×D)) (j:List V) (H:Hp) (Q:VK) (_x:XK):Prop
 |mk G t g d i a T h:bf G H->j=.ref a::h->cv K G H s t (.ref a) T->T.Nodup->(∀b∈T,G b=none)->aY K G g h->F (t::g)=some (d,i)->(∀v e c f,eJ G (fG H T) c f->cv K c f s i (.ref a) e->e.Nodup->(∀b∈e,c b=none/\(b∈T\/H b=none))->cS K c d v->Q v f)->spT K s F j H Q _x
inductive Kh (K:aG) (s:Sk) (F:List D->Option (List D×D)) (k:List V) (H:Hp) (Q:VK) (_x:XK):Prop
 |mk G t f j i a T h:bf G H->k=.ref a::h->cv K G H s t (.ref a) T->T.Nodup->(∀b∈T,G b=none)->aY K G f h->F (t::f)=some (j,i)->(∀q g d c e,eJ G (fG H T) c e->cv K c e s i (.ref a) d->d.Nodup->(∀b∈d,c b=none/\(b∈T\/H b=none))->c q=none->(q∈T\/H q=none)->q∉d->e q=some (.lst g)->aY K c j g->Q (.ref q) e)->Kh K s F k H Q _x
inductive Xs (K:aG) (F:List D->Option D) (e:List V) (H:Hp) (Q:VK) (_x:XK):Prop
 |mk G c d:bf G H->aY K G c e->F c=some d->(∀q o b a,eJ G H b a->H q=none->b q=none->a q=some o->jo K b d o->Q (.ref q) a)->Xs K F e H Q _x
def ib(s:Sk)(j:Nat)(b:bY):Option D:=(t_ j b).bind λa=>if Sk.sE a.1 s=Z' then Y a.2 else M
def gx{s:Sk}(h:ib s j a=Y t):a[j]?=Y (Y (.obj s t)):=by
 grind [ib,aa,Sk.nO,jv]
def qH(s:Sk):DO->Option (D×D)
 |.rm d a=>(ib s 0 a).map λt=>(d,t)
 |.nx a=>(ib s 0 a).map λt=>(.dW,t)
 |_=>M
def Sn(s:Sk):DO->Option (List D×D)
 |.rf i a=>(ib s 0 a).bind λt=>(gk i a).map λb=>(b,t)
 |_=>M
def aaS:DO->Option D
 |.rf i a=>(eV i a).bind λd=>if xO d=Z' then Y d else M
 |_=>M
def nF(n N:Nat)(s:Sk)(g:DG)(b:List D):Option (D×D):=match b with
 |t::a=>if a.length+1=n then (g (hJ N (.obj s t::a))).bind (qH s) else M
 |[]=>M
def Iw(n N:Nat)(s:Sk)(g:DG)(b:List D):Option (List D×D):=match b with
 |t::a=>if a.length+1=n then (g (hJ N (.obj s t::a))).bind (Sn s) else M
 |[]=>M
def RI(n N:Nat)(g:DG)(a:List D):Option D:=if a.length=n then (g (hJ N a)).bind aaS else M
section
variable {P:aZ}{K:aG}
def Bv{s:Sk}{f:List D}{T:List ax}(w:bf G H)(m:0∈Z)(h:cv K G H s t (.ref a) T)(k:T.Nodup)(j:∀b∈T,G b=M)(r:aY K G f g)(n:∀i∈Z,i=0\/f.length+1<=i):
  SR K ⟨G,fG H T,[(0,a)],x⟩ Z G H (start N (.ref a::g)) (hJ N.length (.obj s t::f)):=
 Bu w λb o e=>by
  grind [f',bV] m rfl rfl h k (λb d=>⟨j b d,f' d⟩) (λr q z=>by cases z) (λi c p e=>by
   cases i with
   |zero=>simp_all| succ i=>exact r.get ż) (by simp[r.length]) ž
def SR.Vx{m:List Nat}{s:Sk}(r:SR K ⟨G,fG H T,[(0,a)],p⟩ m d i j e)(y:ib s 0 e=Y k):
  ∃c,cv K d i s k (.ref a) c/\c.Nodup/\(∀b∈c,d b=M/\(b∈T\/H b=M))/\∃F,r9 K ⟨G,fG H T,[(0,a)],p⟩ m d i j e F/\F 0=c:=by
 obtain⟨g,f⟩:=r.pin 0 a ź;obtain _:=r.tree g (gx y)
 grind [bV]
set_option tactic.hygienic true
def gH.IK{f:ax}{N R:List aE}(F:gH K x e p f fd)(S:bu N R (az p))(s:Sk){Z Ź:List Nat}{g:DG}(hp:0∈Z)(C:∀i∈Z,i=0\/R.length<=i) (hb:∀(j:aq) (A:fF) (outer:List Env) (s:aw) (H:Hp) (E:XK),dB k (A.deeper (l5 e (az p) s.heap.objs.size f j))->∀(B:Bs) (a:ax),B.3=[(0,a)] ->
   lX (pI fX P w K O U N e (az p) f j A outer s H E).F9 (fx p) (gD K B [] Z Ź g)):bT P w K O U fX (k+1) f fd R (spT K s (nF R.length N.length s g)):=by
 refine F.ok S (λvs H Q E h =>?_) λj A outer s1 H vs Q E hr h =>?_
 .obtain⟨G,t,xs,d,X,a,T,us,gh,rfl,ot,nd,nf,r,b,_⟩:=h;simp only[nF]at b;split at b
  .rename_i z;simp[<- r.length,z]
  .cases b
 .obtain⟨G,t,xs,d,X,a,T,us,gh,rfl,ot,nd,nf,r,b,q⟩:=h;simp only[nF]at b;split at b
  .refine⟨_,hb j A _ s1 H E hr ⟨G,fG H T,_,λl l=>False⟩ a rfl,?_⟩;obtain⟨oo,eg,b⟩:=aa.1 b;refine⟨G,_,oo,Bv gh hp ot nd nf r ż,eg,?_⟩;cases oo with
   |rm d' m=>obtain⟨y,o,b⟩:=aj.1 b;cases b;intro v σ G' H' ⟨o',c⟩ rv;obtain⟨T',f1,f2,f3,_⟩:=c.Vx o;exact q v T' G' H' c.jP f1 f2 f3 rv
   |nx m=>obtain⟨y,o,b⟩:=aj.1 b;cases b;intro σ G' H' c;obtain⟨T',f1,f2,f3,_⟩:=c.Vx o;exact q _ T' G' H' c.jP f1 f2 f3 (f_.mpr rfl)
   |_=>cases b
  .cases b
def gH.aaV{c:nW}{f:ax}(F:gH K x j c f fd)(S:bu N ps (az c))(s:Sk){Z Ź:List Nat}{g:DG}(hp:0∈Z)(R:∀i∈Z,i=0\/ps.length<=i) (hb:∀(o:aq) (A:fF) (e:List Env) (s:aw) (H:Hp) (E:XK),dB k (A.deeper (l5 j (az c) s.heap.objs.size f o))->∀(B:Bs) (a:ax),B.3=[(0,a)] ->
   lX (pI fX P w K O U N j (az c) f o A e s H E).F9 (fx c) (gD K B [] Z Ź g)):bT P w K O U fX (k+1) f fd ps (Kh K s (Iw ps.length N.length s g)):=by
 refine F.ok S (λvs H Q E h =>?_) (λo A e s1 H vs Q E hr h =>?_)
 .obtain⟨G,t,xs,d,t',a,T,us,gh,rfl,ot,nd,nf,r,b,_⟩:=h;simp only[Iw]at b;split at b
  .rename_i z;simp[<- r.length,z]
  .cases b
 .obtain⟨G,t,xs,d,t',a,T,us,gh,rfl,ot,nd,nf,r,b,q⟩:=h;simp only[Iw]at b;split at b
  .rename_i hn;refine⟨_,hb o A e s1 H E hr ⟨G,fG H T,[(0,a)],λl l=>False⟩ a rfl,?_⟩;obtain⟨oo,eg,b⟩:=aa.1 b;refine⟨G,_,oo,Bv gh hp ot nd nf r ż,eg,?_⟩;cases oo with
   |rf i p=>
    obtain⟨y,X,b⟩:=aa.1 b;obtain⟨ds,C,b⟩:=aj.1 b;cases b;intro v σ G' H' ⟨o',hi,S'⟩ hv;obtain⟨T',f1,f2,f3,F',W,hF⟩:=S'.Vx X;have m:=cA C;obtain⟨D,e1,oc⟩:=W.it i _ hi m;rw[hv]at e1;cases e1;obtain⟨⟨ob,oh,ws,rfl,rr⟩,fi⟩:=(mq.cell (d :=.lst d) rfl).mp oc;obtain⟨_,kC⟩:=W.ok i _ hi m;have qi:D∈F' i:=by rw[fi];simp
    refine q D ws T' G' H' S'.jP f1 f2 f3 (kC D qi).1 ?_ ?_ oh rr
    .by_cases h:D∈T
     .exact .inl h
     .exact .inr (by simpa [bV h] using (kC D qi).2)
    .intro z;rw[<- hF]at z;exact W.ap i 0 _ _ hi (S'.pin 0 a Ž).1 m (gx X) (λz=>by subst z;rw[gx X]at m;cases m) D qi z
   |_=>cases b
  .cases b
def gH.DU{f:ax}{c:cX}(F:gH K x j t f c)(S:bu N C (az t)){Z Ź:List Nat}{g:DG}(z:∀i∈Z,C.length<=i) (hb:∀(m:aq) (A:fF) (e:List Env) (s:aw) (H:Hp) (E:XK),dB k (A.deeper (l5 j (az t) s.heap.objs.size f m))->∀B:Bs,B.3=[] ->
   lX (pI fX P w K O U N j (az t) f m A e s H E).F9 (fx t) (gD K B [] Z Ź g)):bT P w K O U fX (k+1) f c C (Xs K (RI C.length N.length g)):=by
 refine F.ok S (λX H Q E h =>?_) λm A e s H X Q E hr h =>?_
 .obtain⟨G,ds,d,D,r,b,_⟩:=h;unfold RI at b;split at b
  .rw[<- r.length];lia
  .cases b
 .obtain⟨G,ds,d,D,r,b,q⟩:=h;unfold RI at b;split at b
  .refine⟨_,hb m A e s H E hr ⟨G,H,[],λl l=>False⟩ rfl,?_⟩;obtain⟨o,eg,b⟩:=aa.1 b;refine⟨G,_,o,qX D r ż,eg,?_⟩;cases o with
   |rf i p=>
    obtain⟨y,el,b⟩:=aa.1 b;split at b
    .rename_i hy;cases b;intro v σ G' H' ⟨o',hi,T⟩ hv;obtain⟨a,ob,R,e2,e3,e4,e5⟩:=T.GU hi (gW el) hy;rw[hv]at R;cases R;exact q a ob G' H' T.jP e5 e4 e2 e3
    .cases b
   |_=>cases b
  .cases b
end
section
variable {X:Cx}{v:Pos}
def bW(c m:aE)(s:Sk)(F:List D->Option (D×D))(j:Nat)(g:O7):DM:=λb=>(t_ j b).bind λd=>match d.1,d.2 with
 |.fs f _,.ins a e _=>if (f=c/\a=c)/\m∉e then (g b).bind λq=>(ib s j q.2).bind λt=>(F (t::q.1)).map λr=>(r.1,(cZ j q.2).set j (Y (.obj s r.2))) else M
 |_,_=>M
set_option tactic.hygienic true in
def EY{m:aE}{s:Sk}{F:List D->Option (D×D)}{f:St}(n:js X.K aT c=Y (Y (.ref C)))(r:j∈Z)(ht:∀f H Q,Tw X.K B Z g f H Q->t f H Q)(h:tM X.K B Z (bW c m s F j g) f H Q):yY C m (spT X.K s F) [] E0 (fB j) t f H Q:=by
 obtain⟨G,o,d,R,S,e,q⟩:=h;unfold bW at e;rcases x:t_ j o with _|⟨s0,t0⟩
 .simp_all
 rw[x]at e;simp at e;split at e
 .split at e
  .rename_i hz;obtain⟨⟨rfl,rfl⟩,hm⟩:=hz;rcases y:g o with _|⟨p,i⟩
   .simp_all
   rw[y]at e;simp at e;rcases I:ib s j i with _|u
   .simp_all
   rw[I]at e;obtain⟨⟨d',t'⟩,eF,e⟩:=aj.1 e;cases e;have hd:=jv x;obtain⟨a,T,z,ot,_⟩:=S.tree r hd;cases ot with
   |@ins _ _ _ _ _ C' dx vs S0 N ex l tt=>rw[n]at N;cases N;refine⟨_,z,a,dx,_,rfl,ex,jK (K:=X.K) (G:=G) hm,ht _ _ _ ⟨G,o,p,i,S,y,λK G1 H1 A s1 r1 =>?_⟩⟩;rw[bL];have k:=gx I;obtain⟨a1,T1,P,f2,f3,f4,F1,W1,w⟩:=A.tree r k;rw[z]at P;cases P;exact⟨G1,u,p,d',t',a,T1,K,A.gh,rfl,f2,f3,λb hb=>(f4 b hb).1,r1,eF,λv T' G' H' E nw nd nf rv=>q v G' H' (A.vN W1 w r k z E nw nd nf) (s1.trans E.gg) rv⟩
  .cases e
 .cases e
def WG{c m:aE}{s:Sk}{F:List D->Option (D×D)}(h:dU X.prog X.w X.K X.mg X.base c m k (spT X.K s F))(g:dB k X.A)(i:PE X (.Name y p) (fB j))(r:autoParam (j∈Z) ū) (e:autoParam (eval (.Call (.Attribute (.Name y p) m L) [] [] J) X.env=(do
   let a <- eval (.Name y p) X.env
   jQ L.atName
   let (f,first) <- iC [a] (hG a m pl)
   j3 J f first (bX J (ao [] X.env)) (eM J (cq [] X.env)))) ŭ):PE X (.Call (.Attribute (.Name y p) m L) [] [] J) (tM X.K B Z (bW c m s F j kR)):=by
 obtain⟨C,f,K,E,n,t,o,x,w⟩:=h.ex;exact(rA i t o x g w .nil j6 e).imp λb H Q q=>EY n r (by rintro b H Q ⟨G,A,l,d,S,z,k⟩;cases z;exact k _ G H S (bf.refl _) .nil) q
def pD{c m:aE}{s:Sk}{F:List D->Option (D×D)}{g:O7}(h:dU X.prog X.w X.K X.mg X.base c m k (spT X.K s F))(o:dB k X.A)(r:PE X (.Name y p) (fB j))(E:PA X (e::I) (Tw X.K B Z g))(w:autoParam (j∈Z) ū)(a:autoParam (ao (e::I) X.env=(Z_,eval e X.env)::ao I X.env) ŭ)(b:autoParam ((bX J (ao I X.env)).any (·.1)=false) ŭ) (i:autoParam (eval (.Call (.Attribute (.Name y p) m L) (e::I) [] J) X.env=(do
   let d <- eval (.Name y p) X.env
   jQ L.atName
   let (f,first) <- iC [d] (hG d m pl)
   j3 J f first (bX J (ao (e::I) X.env)) (eM J (cq [] X.env)))) ŭ):PE X (.Call (.Attribute (.Name y p) m L) (e::I) [] J) (tM X.K B Z (bW c m s F j g)):=by
 obtain⟨C,f,N,l,n,x,t,G,A⟩:=h.ex;exact(vi r x t G o A .nil j6 E a b i).imp λK H Q q=>EY n w (λu u u z=>z) q
def sx(c f k m:aE)(h:Sk)(F:List D->Option (D×D))(j:Nat)(g:DL):DM:=λb=>(qF c f j b).bind λz=>match z.2.2.2 with
 |.ins a d i=>if (Sk.sE (dJ z.1 f) h=Z'/\a=k)/\m∉d then (g b).bind λe=>(F (.ins a d i::e)).map λr=>(r.1,(cZ j b).set j (Y (CI c f z.1 z.2.1 z.2.2.1 r.2))) else M
 |_=>M
set_option tactic.hygienic true in
def KI{f o m:aE}{e:List (aE×Sk)}{F:List D->Option (D×D)}(n:js X.K aT o=Y (Y (.ref C1)))(hc:pQ X.K c f)(z:j∈Z)(ht:∀i H Q,AR X.K Z g i H Q->t i H Q)(h:tM X.K B Z (sx c f o m (.fs o e) F j g) i H Q):yY C1 m (spT X.K (.fs o e) F) [] E0 (Xg X.K (fB j) f) t i H Q:=by
 obtain⟨G,p,d,ρ',S,b,q⟩:=h;unfold sx at b;rcases K:qF c f j p with _|⟨fk,ks0,ds0,t0⟩
 .rw[K]at b;cases b
 rw[K]at b;simp at b;split at b
 .split at b
  .rename_i hz;obtain⟨⟨y,rfl⟩,hm⟩:=hz;rcases k:g p with _|r
   .rw[k]at b;cases b
   rw[k]at b;simp only[ai]at b;rcases eF:F _ with _|⟨d',t'⟩
   .rw[eF]at b;cases b
   rw[eF]at b;cases b;obtain⟨A,w,i2⟩:=ly K;rw[Sk.nO y]at w;obtain⟨a,x,T1,N,e2,o1,_⟩:=S.Ao z A w i2;obtain⟨C,dx,fs,nn,f1,f2⟩:=S.Hr z A N e2;cases o1 with
   |@ins _ _ _ _ s C' P vs S0 n' ex l tt=>rw[n]at n';cases n';refine⟨_,N,a,C,dx,fs,_,rfl,f1,(hc C nn).1,(hc C nn).2,f2,s,P,_,rfl,ex,jK (K:=X.K) (G:=G) hm,ht _ _ _ ⟨G,p,r,S.gh,S.jh,k,λT G1 H1 R r1 =>?_⟩⟩;rw[bL];have S1:=S.ext R;obtain⟨a1,x1,T2,g1,g2,g3,g4,g5,g6⟩:=S1.Ao z A w i2;rw[N]at g1;cases g1;rw[ja R.hh e2]at g2;cases g2;exact⟨G1,_,r,d',t',s,T2,T,S1.gh,rfl,g3,g4,g5,r1,eF,λv T' G' H' E nw nd nf rv=>q v G' H' (g6 t' T' G' H' E nw nd nf).2 (R.gg.trans E.gg) rv⟩
  .cases b
 .cases b
def WE{c f m:aE}{SK:List (aE×Sk)}{F:List D->Option (D×D)}(h:dU X.prog X.w X.K X.mg X.base a m k (spT X.K (.fs a SK) F))(t:dB k X.A)(i:pQ X.K c f)(w:PE X (.Name y p) (fB j))(K:PA X (e::I) (AR X.K Z g))(A:autoParam (j∈Z) ū)(o:autoParam (bQ (.Name y p) f X.env (eval (.Name y p) X.env)=eval (.Name y p) X.env) ŭ)(b:autoParam (ao (e::I) X.env=(Z_,eval e X.env)::ao I X.env) ŭ)(d:autoParam ((bX J (ao I X.env)).any (·.1)=false) ŭ) (s:autoParam (eval (.Call (.Attribute (.Attribute (.Name y p) f l) m L) (e::I) [] J) X.env=(do
   let r <- eval (.Attribute (.Name y p) f l) X.env
   jQ L.atName
   let (f,first) <- iC [r] (hG r m pl)
   j3 J f first (bX J (ao (e::I) X.env)) (eM J (cq [] X.env)))) ŭ):PE X (.Call (.Attribute (.Attribute (.Name y p) f l) m L) (e::I) [] J) (tM X.K B Z (sx c f a m (.fs a SK) F j g)):=by
 obtain⟨C,S,R,P,n,E,x,u,G⟩:=h.ex;exact(vi (pY w o) E x u t G .nil j6 K b d s).imp λN H Q q=>KI n i A (λv v v z=>z) q
def OF{F:List D->Option D}(h:ju X.prog X.w X.K X.mg X.base x k (Xs X.K F))(e:dB k X.A)(j:Gl X x)(b:autoParam ((x==("__debug__" : aE))=false) ū):PE X (.Call (.Name x p) [] [] J) (Xh X.K Z (λ_=>F [])):=by
 obtain⟨f,l,K,c,g,i,m⟩:=h.ex;exact(M9 c e j g i m .nil j6 b).imp <|by rintro B H Q ⟨G,C,d,t,y,w,q⟩;exact⟨G,[],d,t,.nil,w,λa o A z E c s n r=>q a o A z E c s n r⟩
end
def CY(l:bY)(u:FZ)(w:DM)(i0:Nat)(s:Sk):List D->D->Option (List D×D)
 |[],t=>Y ([],t)|d::b,t=>(u d (l.set i0 (Y (.obj s t)))).bind λρ1=>(w ρ1).bind λp=>(ib s i0 p.2).bind λa=>(CY l u w i0 s b a).map λq=>(p.1::q.1,q.2)
def vr(f:DL)(src:List (Option Nat))(u:FZ)(w:DM)(i0 j0:Nat)(s:Sk):DM:=λl=>(f l).bind λa=>if a.length<=dE then (ib s j0 l).bind λt=>(CY (pb src (cZ j0 l)) u w i0 s a t).map λq=>(.lst q.1,(cZ j0 l).set j0 (Y (.obj s q.2))) else M
section
variable {K:aG}
def SR.Vc{fl:aE->Int->Prop}{s:Sk}(S:SR K B Z G H n (l.set j0 (Y (.obj s t))))(C:j1 Z [i0] src=Z')(x:src[i0]?=Y (Y j0))(y:n[j0]?=Y (Y (.ref a)))(q:cv K G H s t (.ref a) T)(P:T.Nodup)(N:∀b∈T,G b=M):
  SR K ⟨G,fG H T,[(i0,a)],fl⟩ [i0] G H (oO src n) ((pb src l).set i0 (Y (.obj s t))):=by
 refine⟨S.gh,bf.refl _,λb o e =>?_,λb o e =>.inl e,λi d g e =>?_,⟨λu=>T,λi d g e =>?_,λi d g e=>⟨P,λb m=>⟨N b m,f' m⟩⟩,λi j d c g k u u f =>?_⟩,by simp[oO,pb],λi b h =>?_,λj r p R Q e =>?_⟩
 .simp_all [fG,f',bV]
 .rcases gR e with⟨lia,_⟩|⟨f,e⟩
  .simp_all
  .obtain⟨j,F,ej⟩:=Eb e;have k:j∉Z:=λz=>g ((ki C F).mpr z)
   have:j0≠j:=λz=>k (z ▸ ((ki C x).mp ź))
   obtain⟨v,f1,X⟩:=S.env j d k ż;exact⟨v,pa F f1,X⟩
 .have z:i=i0:=by simpa using g
  subst z;rcases gR e with⟨_,rfl,_⟩|_
  .exact⟨a,pa x y,q⟩
  simp_all
 .simp_all
 .simp_all [pa]
 simp_all
end
def J7{s:Sk}:cZ j ((cZ j l).set j (Y (.obj s t)))=(cZ j l).set j (Y (.obj s t)):=by
 apply List.ext_getElem?;intro i;unfold cZ;rw[bt];by_cases h:j=i
 .subst h;by_cases b:j<l.length<;>simp_all
 .rw[av h,bt];rcases e:l[i]? with _|o
  .exact ź
  cases o with
  |none=>solve_by_elim|some d=>
   cases d with|eQ r p=>by_cases a:r=j<;>simp_all|_=>solve_by_elim
section
variable {X:Cx}{f:DL}{s:Sk}
set_option tactic.hygienic true in
def IW{K:aG}(ho:j1 Z [i0] src=Z')(h0:src[i0]?=Y (Y j0))(hg:∀(B:Bs) v n H Q,Gv K B [i0] u v n H Q->g v n H Q)(q:tM K B Z (vr f src u w i0 j0 s) n H Q):
  Wn (Cs K Z f) src g (qP K [i0] f9) (Wm K i0 w) n H Q:=by
 obtain⟨G,l,d,ρ',S,j,k⟩:=q;have X:j0∈Z:=(ki ho h0).mp ź;unfold vr at j;obtain⟨C,ef,j⟩:=aa.1 j;split at j
 .rename_i hz;obtain⟨t0,el,j⟩:=aa.1 j;obtain⟨⟨rs,tF⟩,em,j⟩:=aj.1 j;cases j;have hd0:=gx el;have hu0:=ku (r:=j0) hd0 (λq z=>by cases z);have hl0:j0<(cZ j0 l).length:=(au.mp hu0).1;obtain⟨a,T0,e2,_⟩:=S.tree X hd0;refine⟨G,l,C,S.gh,S.jh,ef,λJ G1 H1 E1 ok =>?_⟩;have S1:=(S.ext E1).J8 (r:=j0);rw[<- Az hu0]at S1;refine⟨λi m ys H2=>m=C.length-i/\i<=C.length/\LcI K B Z n (λt=>(cZ j0 l).set j0 (Y (.obj s t))) (λi=>CY (pb src (cZ j0 l)) u w i0 s (C.drop i)) G1 tF rs i ys H2,
   ⟨C.length,rfl,dk _,G1,[],t0,rs,aH _,S1,bf.refl _,.nil,em,rfl⟩,?_⟩
  rintro i m ys H2 ⟨rfl,hil,G2,o,t,r,hyl,S2,s2,rx,c,rfl⟩;have sub:bf G1 H2:=s2.trans S2.gh;by_cases N:i<C.length
  .refine .inr ⟨ok.go i H2 sub N,?_,_,
    λR H' z=>⟨C.length-(i+1),ž,rfl,N,z⟩,λx H3 y =>?_⟩
   .have:=gX;lia
   .refine ae λkk =>?_
    obtain⟨G3,E3,V8⟩:=ok.Ib i H2 x H3 G2 C[i] s2 S2.gh y (bp N);have S3:=S2.ext E3;rw[iK N]at c;unfold CY at c;obtain⟨A,et,c⟩:=aa.1 c;obtain⟨⟨x4,ρ5⟩,ee,c⟩:=aa.1 c;obtain⟨t4,el4,c⟩:=aa.1 c;obtain⟨⟨T,tE⟩,em4,c⟩:=aj.1 c;cases c;have hd3:((cZ j0 l).set j0 (Y (D.obj s t)))[j0]?=Y (Y (.obj s t)):=by rw[bj hl0]
    obtain⟨a3,T3,f1,ot,nd,nf,F3,W3,hF3⟩:=S3.tree X hd3;rw[e2]at f1;cases f1;have SI:=S3.Vc (fl:=λE E=>False) ho h0 e2 ot nd λb hb=>(nf b hb).1
    refine kk (hg ⟨G3,fG H3 T3,[(i0,a)],λE E=>False⟩ _ _ _ _ ⟨G3,_,C[i],A,SI,V8,et,λσ4 G4 H4 S4=>⟨G4,A,Z',S4.gh,S4.jh,rfl,λG5 H5 E5=>vu ?_⟩⟩);refine⟨⟨G3,fG H3 T3,[(i0,a)],λE E=>False⟩,a,rfl,G5,A,x4,ρ5,S4.ext E5,ee,λv G6 H6 S6 s6 r6=>⟨G6,o++[x4],t4,T,by simp;lia,?_,?_,?_,em4,Ž⟩⟩
    .obtain⟨Vj,hσ⟩:=S6.pin i0 a Ž;obtain⟨a6,T6,g1,g2,g3,g4,_⟩:=S6.tree Vj (gx el4);rw[hσ]at g1;cases g1;have:=S3.vN (t':=t4) W3 hF3 X hd3 e2 S6.jP g2 g3 (λb hb=>⟨(g4 b hb).1,by
      by_cases h:b∈T3
      .exact .inl h
      .exact .inr (by simpa [bV h] using (g4 b hb).2)⟩)
     rw[J7,List.set_set]at this;exact this
    .exact s2.trans (E3.gg.trans S6.g0)
    .exact(aY.mono (E3.gg.trans S6.g0) o rx).append (.cons r6 .nil)
  .have e:i=C.length:=ž
   subst e;rw[uV]at c;unfold CY at c;refine ae λkk =>?_
   cases c;refine kk (.inl ⟨ok.stop _ H2 sub (aH _),λp hp =>?_⟩);have EA:=eJ.alloc (p:=p) (o :=.lst ys) S2.gh hp;refine k _ _ _ (S2.ext EA) (E1.gg.trans (s2.trans EA.gg)) ?_;rw[bL];exact bR.mpr ⟨p,ys,rfl,aW,aY.mono EA.gg o rx⟩
 .cases j
def HA(S:fY X N src A)(j:X.calm=Z')(e:PI X E I (Cs X.K Z f))(o:Pn O g)(a:∀i∈O,src[i]?=Y M)(h:∀(B:Bs) v n H Q,Gv X.K B [i0] u v n H Q->g v n H Q)(k:∀C s H b,PG (X.uL N A C s H b) E g/\F_ (X.uL N A C s H b) [] (qP X.K [i0] f9)/\PE (X.uL N A C s H b) L (Wm X.K i0 w))(m:autoParam (src[i0]?=Y (Y j0)) ŭ)(d:autoParam (j1 Z [i0] src=true) ū)(c:autoParam (∀x,cw I X.env x=dn x) Ū):PE X (.ListComp L [⟨E,I,[],0⟩] A U) (tM X.K B Z (vr f src u w i0 j0 s)):=
 (M5 S j e o a k c).imp λn H Q q=>IW d m h q
def Hz{i:Nat}(S:fY X N src A)(W:X.calm=Z')(R:X.N.Nodup)(t:X.N[i]?=Y y)(F:X.env.scope.names.lookup y=Y .local)(J:PI X E I (Cs X.K Z f))(ag:Pn O g)(h:∀i∈O,src[i]?=Y M)(K:∀(B:Bs) v n H Q,Gv X.K B [i0] u v n H Q->g v n H Q)(P:∀C s H m,PG (X.uL N A C s H m) E g/\F_ (X.uL N A C s H m) [] (qP X.K [i0] f9)/\PE (X.uL N A C s H m) L (Wm X.K i0 w))(T:autoParam (src[i0]?=Y (Y j0)) ŭ)(D:autoParam (j1 Z [i0] src=true) ū)(j:autoParam (i∉Z) ū)(e:autoParam (bU (.ListComp L [⟨E,I,[],0⟩] A U) (Y (.Name y p)) a.line X.env=dn true) ŭ)(z:autoParam (∀x,cw I X.env x=dn x) Ū):PS X (.Assign [.Name y p] (.ListComp L [⟨E,I,[],0⟩] A U) a) (gD X.K B q Z Z (my i (vr f src u w i0 j0 s))):=
 (zh S W R t F J ag h P e z).imp λD' n H ⟨G,l,o,S,b,k⟩=>IW D T K (by obtain⟨⟨d,c⟩,ef,b⟩:=aj.1 b;cases b;exact⟨G,l,d,c,S,ef,λv G' H' S' V r=>k _ G' H' (S'.wu j r)⟩)
end
abbrev TupAt(h:cy)(T:ax)(a:Array aq):Prop:=h.get? T=Y { cls :=.type "tuple",data :=.seq a }
structure ZN(h:cy)(z TI TO:ax)(n:Nat)(it l:Nat->ax)(xs:Nat->Array aq)(pl:Nat->Nat)(f0:aq)(out:Array aq):Prop where
 zz:IsZip h z TI TO f0
 ti:TupAt h TI ((cH n).map λj=>aQ (it j)).toArray
 to:TupAt h TO out
 sz:out.size=n
 iter:∀j,j<n->h.IsListIter (it j) (l j) (pl j)
 lst:∀j,j<n->h.IsList (l j) (xs j)
structure ZA(z TI TO:ax)(n:Nat)(it l:Nat->ax):Prop where
 tiz:TI≠z
 toz:TO≠z
 aan:TI≠TO
 iz:∀j,j<n->it j≠z/\it j≠TI/\it j≠TO
 ii:∀j k,j<n->k<n->j≠k->it j≠it k
 lz:∀j,j<n->l j≠z/\l j≠TO/\∀k,k<n->l j≠it k
section
variable {f:ax}
def ZN.adv(N:ZN h z i f n d l p t u r)(A:ZA z i f n d l)(c:k<n)(m:g.IsListIter (d k) (l k) (t k+1))(b:fR (d k) h g):ZN g z i f n d l p (λj=>if j=k then t j+1 else t j) u r:=by
 obtain⟨s,q,o⟩:=A.iz k c;refine⟨b.extBut _ _ (bE s) N.zz,b.extBut _ _ (bE q) N.ti,b.extBut _ _ (bE o) N.to,N.sz,λj a =>?_,λj a =>?_⟩
 .by_cases e:j=k
  .simp_all
  .simp only[if_neg e];exact(N.iter j a).extBut b.extBut (A.ii j k a c e)
 .exact(N.lst j a).extBut b.extBut ((A.lz j a).2.2 k c)
def ZN.PU(N:ZN h z i f n d l p t u r)(A:ZA z i f n d l)(k:TupAt g f a)(e:a.size=n)(c:fR f h g):ZN g z i f n d l p t u a:=
 ⟨c.extBut _ _ (bE A.toz) N.zz,c.extBut _ _ A.aan N.ti,k,e,λj b=>(N.iter j b).extBut c.extBut (A.iz j b).2.2,λj b=>(N.lst j b).extBut c.extBut (A.lz j b).2.1⟩
def ZN.PQ(N:ZN h z i f n d l p t u r)(A:ZA z i f n d l)(e:IsZip g z i f c)(b:fR z h g):ZN g z i f n d l p t c r:=
 ⟨e,b.extBut _ _ A.tiz N.ti,b.extBut _ _ A.toz N.to,N.sz,λj a=>(N.iter j a).extBut b.extBut (A.iz j a).1,λj a=>(N.lst j a).extBut b.extBut (A.lz j a).1⟩
end
def FT(z f:ax)(n:Nat)(d:Nat->ax)(h g:cy):Prop:=∀c o,c≠z->c≠f->(∀j,j<n->c≠d j)->h.get? c=Y o->g.get? c=Y o
section
variable {E:aq->aw->Prop}{s:aw}
variable {f:ax}{d:Nat->ax}{m:Nat}
def BF(h:a=(cH n).map λj=>aQ (d j))(c:k<n):(a.zipIdx).drop k=(aQ (d k),k)::(a.zipIdx).drop (k+1):=by
 simp_all [iK]
def JZ{Q:aq->aw->Prop}(hh:A.handled=M)(hn:0<n)(hn2:n<=100)(D:ZA z i f n d l)(N:ZN s.heap z i f n d l p (λu=>m) .none r) (hQ:∀g x,(∀j,j<n->(p j)[m]?=Y (x j))->ZN g z i f n d l p (λu=>m+1) (nT s.heap.objs.size) ((cH n).map x).toArray->TupAt g s.heap.objs.size ((cH n).map x).toArray->g.objs.size=s.heap.objs.size+1 ->
   FT z f n d s.heap g->Q (.ref s.heap.objs.size) { s with heap:=g }) (hE:(∃j,j<n/\(p j)[m]?=M)->∀g e,FT z f n d s.heap g->(∃o,g.get? e=Y o/\o.cls=.type "StopIteration")->E (.ref e) { s with heap:=g }) :
  be (aV B w) A (Builtin.«zip.__next__» ⟨[.ref z],[]⟩) (λkC s'=>∃v,kC=.done (.ret v)/\Q v s') E s:=by
 unfold Builtin.«zip.__next__»;show be _ _ (field (.ref z) 2 >>= _) _ _ _;refine ah (jr N.zz rfl (x :=.bool Z_) rfl ?_);refine ah (jr N.zz rfl rfl ?_);refine ah (V_ N.ti rfl ?_);have NX:((cH n).map λj=>aQ (d j)).toArray.isEmpty=false:=by cases n<;>simp_all
 simp only[NX,ig,if_false];refine ah ?_;unfold Builtin.SmallTypes.ownedTupleIsFree;refine ah (jr N.zz rfl (x :=.none) rfl (aF ?_));simp only[if_true];refine ah (wpAny_rule ?_);refine ah (jr N.zz rfl rfl ?_);refine ah (uP N.zz Ž λh1 z1 k1 =>?_);have N1:=N.PQ D z1 k1;refine ah ?_;refine wpAny_forIn_list _ (λL b s1=>b=(M,())/\∃k F C x,k<=n/\L=(((cH n).map λj=>aQ (d j)).zipIdx).drop k/\s1={ s with heap:=F }/\ZN F z i f n d l p (λj=>if j<k then m+1 else m) .ellipsis C /\
   (∀j,j<k->(p j)[m]?=Y (x j)/\C[j]?=Y (x j))/\F.objs.size=s.heap.objs.size/\FT z f n d s.heap F) _ ?_ ?_ _ _ ⟨rfl,0,h1,r,λu =>.none,dk _,rfl,rfl,by simpa using N1,λj H=>ž,k1.1,λc o I u u e=>k1.extBut _ _ I e⟩
 .rintro x L b s1 ⟨rfl,k,F,C,J,hk,R,rfl,G,ho,hs,kp⟩;have h:k<n:=by
   rcases Nat.lt_or_ge k n with z|z
   .exact z
   .rw[RT (by simpa using z)]at R;cases R
  rw[BF rfl h]at R;obtain⟨rfl,P⟩:=List.cons.inj R;refine ah (wpAny_onRaise ?_);show be _ _ (Builtin.SmallTypes.nextOf (.ref (d k)) >>= _) _ _ _;have O:=G.iter k h;simp only[i_,if_false]at O;cases hx:(p k)[m]? with
  |none=>
   refine ah (wpAny_nextOf_list_end hh O (G.lst k h) hx λh3 e X he =>?_);obtain⟨oe,S,hce⟩:=he;have zz3:IsZip h3 z i f .ellipsis:=X _ _ (bE (D.iz k h).1) G.zz;have hez:e≠z:=λq=>by subst q;rw[zz3]at S;cases S<;>grind
   refine uP zz3 Ž λh4 u t=>hE ⟨k,h,hx⟩ h4 e (λc o I c2 T q=>t.extBut _ _ I (X _ _ (T k h) (kp c o I c2 T q))) ⟨oe,t.extBut _ _ hez S,hce⟩
  |some y=>
   refine ah (wpAny_nextOf_list_item O (G.lst k h) hx λh3 i3 X=>aF ?_);have K:=G.adv D h (by simpa using i3) X;dsimp only;refine ah (V_ K.to rfl ?_);dsimp only;have hsz:C.size<=a_:=by rw[K.sz,iG];lia
   refine ah (wpAny_updateSeq K.to rfl ?_ hsz (by simp;lia));have up:TupAt (h3.update f (Obj.mapSeq λq=>q.setIfInBounds k y)) f (C.setIfInBounds k y):=by show Heap.get? _ _=_;rw[cM _ K.to rfl];simp[Obj.mapSeq]
   have N4:=K.PU D up (by simpa using K.sz) (Heap.SameBut.update ..);refine ah (wpAny_letGo (aF ?_));refine⟨rfl,k+1,_,C.setIfInBounds k y,λj=>if j=k then y else J j,h,P,rfl,?_,λj H =>?_,?_,λc o I c2 T q =>?_⟩
   .have:(λj=>if j=k then (if j<k then m+1 else m)+1 else if j<k then m+1 else m)=λj=>if j<k+1 then m+1 else m:=by
     funext j
     by_cases e:j=k<;>grind
    rw[this]at N4;exact N4
   .by_cases e:j=k
    .subst e;simp only[if_true];exact⟨hx,by rw[Array.getElem?_setIfInBounds_self_of_lt];rw[G.sz];exact h⟩
    .simp only[if_neg e];obtain⟨a,b⟩:=ho j ž;exact⟨a,by rw[nU (by lia)];exact b⟩
   .rw[yp,X.1,hs]
   .exact(Heap.SameBut.update h3 f _).extBut _ _ c2 (X.extBut _ _ (T k h) (kp c o I c2 T q))
 .refine λb s1 xx=>ae λkk =>?_
  obtain⟨rfl,k,F,C,J,hk,R,rfl,G,ho,hs,kp⟩:=xx;refine kk ?_;have h:k=n:=by
   rcases Nat.lt_or_ge k n with z|z
   .rw[BF rfl z]at R;cases R
   .lia
  subst h;have abn:C=((cH k).map J).toArray:=by
   apply Array.ext_getElem?;intro j;by_cases H:j<k
   .rw[(ho j H).2];simp[H]
   .rw[RU (by rw[G.sz];lia)]
    symm
    apply RU;simp;lia
  subst abn;dsimp only;refine ah (V_ G.to rfl ?_);dsimp only;refine ah (wpAny_newTuple ?_ (by simp;rw[iG];lia));have zlt:z<F.objs.size:=aI G.zz;have ext:∀c o,F.get? c=Y o->(F.push { cls :=.type "tuple",data :=.seq ((cH k).map J).toArray }).get? c=Y o:=λc o q=>ak _ q
  have K:ZN _ z i f k d l p _ .ellipsis ((cH k).map J).toArray:=
   ⟨ext _ _ G.zz,ext _ _ G.ti,ext _ _ G.to,G.sz,λj H=>(G.iter j H).at (λo q=>ext _ _ q),λj H=>(G.lst j H).at (λo q=>ext _ _ q)⟩
  refine ah ?_;unfold Builtin.SmallTypes.ownedTupleHandOut;refine ah (uP K.zz Ž λh4 z4 t =>?_);have N4:=K.PQ D z4 t;refine uP N4.zz Ž λh5 z5 k5 =>?_
  have U:=N4.PQ D z5 k5;have tup:TupAt h5 F.objs.size ((cH k).map J).toArray:=k5.extBut _ _ (gj zlt) (t.extBut _ _ (gj zlt) (bg _ rfl));have sz5:h5.objs.size=F.objs.size+1:=by rw[k5.1,t.1,eO]
  refine aF ⟨_,rfl,?_⟩;rw[hs]at U tup sz5;show Q (.ref F.objs.size) _;rw[hs];refine hQ h5 J (λj H=>(ho j H).1) ⟨U.zz,U.ti,U.to,U.sz,λj H=>by simpa [H] using U.iter j H,U.lst⟩ tup sz5 λc o I c2 T q=>(λc o I q=>k5.extBut _ _ I (t.extBut _ _ I (ext c o q))) c o I (kp c o I c2 T q)
def xF(v:A.handled=M)(k:0<n)(a:n<=100)(D:ZA z i f n d l)(N:ZN s.heap z i f n d l p (λ_=>m) .none r) (F:∀g x,(∀j,j<n->(p j)[m]?=Y (x j))->ZN g z i f n d l p (λ_=>m+1) (nT s.heap.objs.size) ((cH n).map x).toArray->TupAt g s.heap.objs.size ((cH n).map x).toArray->g.objs.size=s.heap.objs.size+1 ->
   FT z f n d s.heap g->Q (Y (.ref s.heap.objs.size)) { s with heap:=g }) (G:(∃j,j<n/\(p j)[m]?=M)->∀g,FT z f n d s.heap g->Q M { s with heap:=g }):be (aV B w) A (pyNext (.ref z)) Q E s:=by
 have b:s.TypeIs (.ref z) _:=⟨_,N.zz,rfl⟩;refine ah (Ga (wpAny_callSpecial?_slot b PySem.F.slot_zip_next
  (wpAny_call_entry PySem.F.slot_zip_next b PySem.F.entry_zip_next (JZ v k a D N (λg x L K J I H=>aF (F g x L K J I H)) λq g e c y =>?_) (PySem.F.args_zip_next_1 _))))
 obtain⟨o,h,C⟩:=y;exact ah (wpAny_isInstance ⟨o,h,C⟩ isSubtype_stop (aF (G q _ c)))
end
noncomputable def mR{d:Type}(a b c:d):Nat->d
 |0=>a|1=>b|_=>c
def J1(a b c:aq):checkTypeCall "zip" ⟨[a,b,c],[]⟩=dn ():=by kernel_rfl
def L4(a b c:aq):checkBuiltinCall "zip.__new__" ⟨[.type "zip",a,b,c],[]⟩=dn ():=by kernel_rfl
def Yg(a b c d:aq):argsOk "object.__init__" ⟨[a,b,c,d],[]⟩:=by
 exact Ż
noncomputable abbrev itO(l:ax):Obj:={ cls :=.type "list_iterator",data :=.fields #[.ref l,.int 0 0] }
section
variable (h:cy)(a b c:ax)
abbrev zA:cy:=h.push (itO a)
abbrev zB:cy:=(zA h a).push (itO b)
abbrev zC:cy:=(zB h a b).push (itO c)
abbrev zT:cy:=(zC h a b c).push { cls :=.type "tuple",data :=.seq #[.ref h.objs.size,.ref (zA h a).objs.size,.ref (zB h a b).objs.size] }
abbrev zO:cy:=(zT h a b c).push { cls :=.type "tuple",data :=.seq #[.none,.none,.none] }
abbrev zZ:cy:=(zO h a b c).push { cls :=.type "zip",data :=.fields #[.none,.bool Z_,.bool Z_,.ref (zC h a b c).objs.size,.ref (zT h a b c).objs.size] }
end
def Gj(a b c:ax)(m l k:Array aq):
  Meets (Builtin.«zip.__new__» ⟨[.type "zip",.ref a,.ref b,.ref c],[]⟩) (λ_ R s=>s.heap.IsList a m/\s.heap.IsList b l/\s.heap.IsList c k/\R (.ok (.ret (.ref (zO s.heap a b c).objs.size))) { s with heap:=zZ s.heap a b c }):=
 .of_wp λf w A R s h=>by
  obtain⟨q,p,o,h⟩:=h;have n:=sub_zip
  wp_walk using lg q,lg (Ph p _),lg (Ph (Ph o _) _)
  exact⟨_,rfl,h⟩
section
variable {f:aZ}{s:aw}
def Ls{m:Array aq}(B:s.heap.IsList a p)(z:s.heap.IsList b n)(y:s.heap.IsList c m) (h:∀d,IsZip d (s.heap.objs.size+5) (s.heap.objs.size+3) (s.heap.objs.size+4) .none->TupAt d (s.heap.objs.size+3) #[.ref s.heap.objs.size,.ref (s.heap.objs.size+1),.ref (s.heap.objs.size+2)] ->
   TupAt d (s.heap.objs.size+4) #[.none,.none,.none]->d.IsListIter s.heap.objs.size a 0->d.IsListIter (s.heap.objs.size+1) b 0->d.IsListIter (s.heap.objs.size+2) c 0 ->
   (∀c o,s.heap.get? c=Y o->d.get? c=Y o)->Q (.ref (s.heap.objs.size+5)) { s with heap:=d }) :
  be (aV f w) A (HX (.type "zip") [.ref a,.ref b,.ref c]) Q E s:=by
 refine callType_new PySem.F.called_zip ź (J1 _ _ _) (L4 _ _ _) (λk=>Yg k _ _ _) PySem.F.entry_zip_new (Gj a b c p n m) ⟨B,z,y,?_⟩;have j:(zA s.heap a).objs.size=s.heap.objs.size+1:=eO ..;have i:(zB s.heap a b).objs.size=s.heap.objs.size+2:=by rw[eO,j]
 have g:(zC s.heap a b c).objs.size=s.heap.objs.size+3:=by rw[eO,i]
 have e:(zT s.heap a b c).objs.size=s.heap.objs.size+4:=by rw[eO,g]
 have q:(zO s.heap a b c).objs.size=s.heap.objs.size+5:=by rw[eO,e]
 have l:(zZ s.heap a b c).get? _=Y _:=bg _ rfl;have r:(zZ s.heap a b c).get? _=Y _:=ak _ (bg _ rfl);have t:(zZ s.heap a b c).get? _=Y _:=ak _ (ak _ (bg _ rfl));have u:(zZ s.heap a b c).get? _=Y _:=ak _ (ak _ (ak _ (bg _ rfl)));have v:(zZ s.heap a b c).get? _=Y _:=ak _ (ak _ (ak _ (ak _ (bg _ rfl))));show _/\_;rw[g,e,q]at l;rw[e]at r;rw[g,j,i]at t;rw[i]at u;rw[j]at v;rw[q];exact⟨⟨_,l,rfl⟩,h _ l t r ⟨_,(ak _ (ak _ (ak _ (ak _ (ak _ (bg _ rfl)))))),rfl,rfl⟩ ⟨_,v,rfl,rfl⟩ ⟨_,u,rfl,rfl⟩ λc o x=>ak _ (ak _ (ak _ (ak _ (ak _ (ak _ x)))))⟩
end
noncomputable def V6(K : PySem.W.Frag)(a b c : ax): It :=
  ⟨λi H => ∃g e d x y z,mY K H a g /\ mY K H b e /\ mY K H c d /\ g[i]? = Y x /\ e[i]? = Y y /\ d[i]? = Y z,
   λi H v h => ∃x y z p,(∀g,mY K H a g -> g[i]? = Y x) /\ (∀e,mY K H b e -> e[i]? = Y y) /\ (∀d,mY K H c d -> d[i]? = Y z) /\ H p = M /\ v = .ref p /\ h = dD H p (.tup [x,y,z]),
   λi H => ∃g e d,mY K H a g /\ mY K H b e /\ mY K H c d /\ (g.length <= i \/ e.length <= i \/ d.length <= i)⟩
def ZSt(z l k j g e a b c:ax)(i:Nat)(h:cy):Prop:=∃d:Array aq,d.size=3/\IsZip h z l k .none/\TupAt h l #[.ref j,.ref g,.ref e]/\TupAt h k d/\h.IsListIter j a i/\h.IsListIter g b i/\h.IsListIter e c i
theorem qD{P:Nat->Prop}(c:P 0)(b:P 1)(a:P 2):∀j,j<3->P j
 |0,_=>c|1,_=>b|2,_=>a
def J9{P:aZ}{K:aG}{x1}(a b c z L C J G F:ax)(Z:ZA z L C 3 (mR J G F) (mR a b c)):
  HW P w K (.Tuple acu x1 aal) (V6 K a b c) [z,L,C,J,G,F] z (ZSt z L C J G F a b c) where
 mem:=by simp
 obj:=λi h st d hc=>by
  obtain⟨p,s0,s1,s2,s3,s4,s5,s6⟩:=st;simp only[br,fZ,or_false]at hc;rcases hc with rfl|rfl|rfl|rfl|rfl|rfl
  .exact⟨_,s1,λv z=>by cases z⟩
  .exact⟨_,s2,λv z=>by cases z⟩
  .exact⟨_,s3,λv z=>by cases z⟩
  .obtain⟨o,e,c,d⟩:=s4;exact⟨o,e,λv z=>by rw[d]at z;cases z⟩
  .obtain⟨o,e,c,d⟩:=s5;exact⟨o,e,λv z=>by rw[d]at z;cases z⟩
  .obtain⟨o,e,c,d⟩:=s6;exact⟨o,e,λv z=>by rw[d]at z;cases z⟩
 keep:=λi h h' st k=>by obtain⟨p,s0,s1,s2,s3,s4,s5,s6⟩:=st;exact⟨p,s0,k z Ž _ s1,k L Ž _ s2,k C Ž _ s3,s4.at λo q=>k J Ž o q,s5.at λo q=>k G Ž o q,s6.at λo q=>k F Ž o q⟩
 item:=by
  intro X hP hw hK hc i D s σ H E I hf st hg;subst hP hw hK;obtain⟨p,s0,s1,s2,s3,s4,s5,s6⟩:=st;obtain⟨xs,ys,zs,x,y,zz,WA,ZR,ZQ,m,hy,hzz⟩:=hg;obtain⟨T,rv1,p1,hz1⟩:=I.list WA;obtain⟨S,rv2,p2,hz2⟩:=I.list ZR;obtain⟨R,rv3,p3,hz3⟩:=I.list ZQ;obtain⟨u1,hu1,ru1⟩:=rv1.get m;obtain⟨u2,Yl,ru2⟩:=rv2.get hy;obtain⟨u3,hu3,ru3⟩:=rv3.get hzz;have f:∀d∈[z,L,C,J,G,F],Aw X D H d:=hf;have N:ZN s.heap z L C 3 (mR J G F) (mR a b c) (mR T.toArray S.toArray R.toArray) (λA=>i) .none p:=⟨s1,s2,s3,s0,qD s4 s5 s6,qD p1.isList p2.isList p3.isList⟩;refine xF (I.ok.hd hc) ſ ſ Z N (λh1 xx t N1 t1 z1 k1 =>?_) λhe =>?_
  .have e1:xx 0=u1:=by have:=t 0 ſ;simp[mR]at this;rw[hu1]at this;cases this;rfl
   have e2:xx 1=u2:=by have:=t 1 ſ;simp[mR]at this;rw[Yl]at this;cases this;rfl
   have e3:xx 2=u3:=by have:=t 2 ſ;simp[mR]at this;rw[hu3]at this;cases this;rfl
   have t1:TupAt h1 s.heap.objs.size #[u1,u2,u3]:=by have:=t1;simpa [List.range_succ,e1,e2,e3] using this
   refine⟨_,rfl,?_⟩;refine wpAny_letOwnedTupleGo_zip (s:={ s with heap:=h1 }) N1.zz λh2 e2' w2 =>?_
   have hzp:z<s.heap.objs.size:=aI s1;have hn:H s.heap.objs.size=none:=I.eY.fresh (aH _);have w2':fR z h1 h2:=w2;have N2:=N1.PQ Z e2' w2';have g:∀d o,d∉[z,L,C,J,G,F]->s.heap.get? d=Y o->h2.get? d=Y o:=λd o l q=>by
    have n1:d≠z:=λe=>l (by simp[e])
    have n2:d≠C:=λe=>l (by simp[e])
    exact(w2'.2 d n1).trans (k1 d o n1 n2 (qD (λe=>l (by simp[e,mR])) (λe=>l (by simp[e,mR])) (λe=>l (by simp[e,mR]))) q)
   have tup:h2.get? s.heap.objs.size=Y { cls :=.type "tuple",data :=.seq #[u1,u2,u3] }:=(w2'.2 _ (gj hzp)).trans t1;have O:∀d o,H d=Y o->d∉[z,L,C,J,G,F]:=λd o q l=>by have:=(f d l).1;rw[this]at q;cases q
   have new:jA X.prog X.w (dD H s.heap.objs.size (.tup [x,y,zz])) h2 s.heap.objs.size (.tup [x,y,zz]):=
    ⟨by show 3<=a_;rw[iG];decide,[u1,u2,u3],.cons ru1 (.cons ru2 (.cons ru3 .nil)),_,tup,rfl,_,rfl⟩
   have U:mZ X.prog X.w (dD H s.heap.objs.size (.tup [x,y,zz])) h2:=λd o q=>by
    by_cases l:d=s.heap.objs.size
    .subst l;rw[aW]at q;cases q;exact new
    .rw[aP l]at q;refine(I.eY d o q).xY (λc v B r =>?_) (λc r=>by rw[aP (bF r hn)];exact r) λc ys r=>by rw[aP (bF r hn)];exact r
     rcases B with rfl|B
     .exact g _ _ (O _ _ q) r
     .exact g _ _ (O _ _ B) r
   have un:Un (zY X.stack) [z,L,C,J,G,F] H (dD H s.heap.objs.size (.tup [x,y,zz])) s.heap h2:=by
    have old:∀b o,s.heap.get? b=Y o->b≠s.heap.objs.size:=λb o q=>bH (aI q)
    exact⟨λb o q n A m=>g b o m q,λb o q n A m=>⟨o.slots,g b o m q⟩,λb o q n m=>by rw[aP (old b o q)];exact n,
     λb o q m=>⟨o,g b o m q⟩,λb ys q=>by rw[aP (bF q hn)];exact q,λb o u q=>by rw[aP (bF q hn)];exact q,λb ps q=>⟨#[],by rw[aP (bF q hn)];simpa using q⟩⟩
   have I2:Inv X D σ (dD H s.heap.objs.size (.tup [x,y,zz])) { s with heap:=h2 }:=I.Ap (s':={ s with heap:=h2 }) rfl un U I.bare λb l=>⟨(f b l).2.2.2.1,(f b l).2.1,(f b l).2.2.2.2.1,(f b l).2.2.2.2.2⟩
   refine⟨.ref s.heap.objs.size,_,I2,rfl,⟨x,y,zz,s.heap.objs.size,λq hq=>by rw[I.rJ hq WA];exact m,λq hq=>by rw[I.rJ hq ZR];exact hy,λq hq=>by rw[I.rJ hq ZQ];exact hzz,hn,rfl,rfl⟩,⟨_,N2.sz,N2.zz,N2.ti,N2.to,N2.iter 0 ſ,N2.iter 1 ſ,N2.iter 2 ſ⟩,λd hd =>?_⟩;have:d≠s.heap.objs.size:=by
    simp only[br,fZ,or_false]at hd;rcases hd with rfl|rfl|rfl|rfl|rfl|rfl
    .exact bH hzp
    .exact bH (aI s2)
    .exact bH (aI s3)
    .obtain⟨o,q,_⟩:=s4;exact bH (aI q)
    .obtain⟨o,q,_⟩:=s5;exact bH (aI q)
    .obtain⟨o,q,_⟩:=s6;exact bH (aI q)
   rw[aP this];exact(f d hd).1
  .exfalso;obtain⟨j,hj,q⟩:=he
   match j,hj,q with
   |0,_,q=>simp[mR]at q;rw[si.mpr q]at hu1;cases hu1|1,_,q=>simp[mR]at q;rw[si.mpr q]at Yl;cases Yl|2,_,q=>simp[mR]at q;rw[si.mpr q]at hu3;cases hu3
 done:=by
  intro X hP hw hK hc i D s σ H E I hf st hg;subst hP hw hK;obtain⟨p,s0,s1,s2,s3,s4,s5,s6⟩:=st;obtain⟨xs,ys,zs,WA,ZR,ZQ,m⟩:=hg;obtain⟨T,rv1,p1,hz1⟩:=I.list WA;obtain⟨S,rv2,p2,hz2⟩:=I.list ZR;obtain⟨R,rv3,p3,hz3⟩:=I.list ZQ;have l1:=rv1.length;have l2:=rv2.length;have l3:=rv3.length;have f:∀d∈[z,L,C,J,G,F],Aw X D H d:=hf;have N:ZN s.heap z L C 3 (mR J G F) (mR a b c) (mR T.toArray S.toArray R.toArray) (λA=>i) .none p:=⟨s1,s2,s3,s0,qD s4 s5 s6,qD p1.isList p2.isList p3.isList⟩;refine xF (I.ok.hd hc) ſ ſ Z N (λh1 xx t =>?_) λA h' eb=>⟨rfl,?_⟩
  .exfalso;have q1:=t 0 ſ;have q2:=t 1 ſ;have q3:=t 2 ſ;simp[mR]at q1 q2 q3;have:=(au.mp q1).1;have:=(au.mp q2).1;have:=(au.mp q3).1;lia
  .have O:∀b o,H b=Y o->b∉[z,L,C,J,G,F]:=λb o q l=>by have:=(f b l).1;rw[this]at q;cases q
   have g:∀d o,d∉[z,L,C,J,G,F]->s.heap.get? d=Y o->h'.get? d=Y o:=λd o l q=>eb d o (λe=>l (by simp[e])) (λe=>l (by simp[e])) (qD (λe=>l (by simp[e,mR])) (λe=>l (by simp[e,mR])) (λe=>l (by simp[e,mR]))) q
   have U:mZ X.prog X.w H h':=λb o q=>by
    refine(I.eY b o q).xY (λc v B r =>?_) (λc r=>r) λc ys r=>r
    rcases B with rfl|B
    .exact g _ _ (O _ _ q) r
    .exact g _ _ (O _ _ B) r
   have un:Un (zY X.stack) [z,L,C,J,G,F] H H s.heap h':=
    ⟨λb o q n A m=>g b o m q,λb o q n A m=>⟨o.slots,g b o m q⟩,λb o q n m=>n,λb o q m=>⟨o,g b o m q⟩,λb ys q=>q,λb o u q=>q,λb ps q=>⟨#[],by simpa using q⟩⟩
   exact I.Ap (s':={ s with heap:=h' }) rfl un U I.bare λb l=>⟨(f b l).2.2.2.1,(f b l).2.1,(f b l).2.2.2.2.1,(f b l).2.2.2.2.2⟩
 self:=λA i s Q E st h=>by obtain⟨p,s0,s1,_⟩:=st;exact wpAny_pyIter_zip s1 h
section
variable {X:Cx}{f:DF}
def Vg(K:aG)(k:TA):TI:=λe H R=>k e H λj d=>∃a b c,j=[.ref a,.ref b,.ref c]/\(∃i,mY K d a i)/\(∃h,mY K d b h)/\(∃f,mY K d c f)/\R (V6 K a b c) d
def cb.three(r:cb [x,y,z] a):∃u v w,a=[u,v,w]/\RelV x u/\RelV y v/\RelV z w:=by
 cases r with
 | cons d t=>cases t with
  | cons c t=>cases t with
   |cons b t=>cases t;exact⟨_,_,_,rfl,d,c,b⟩
def Qg{x1}(hg:Gl X "zip")(hm:X.mg "zip" = M)(ha:PA X [e,l,g] ta)(hs:autoParam (ao [e,l,g] X.env=[(Z_,eval e X.env),(Z_,eval l X.env),(Z_,eval g X.env)]) ŭ)(K:autoParam (ao [l,g] X.env=[(Z_,eval l X.env),(Z_,eval g X.env)]) ŭ)(hv:autoParam (fQ "zip" = Y (.type "zip")) Ť):PI X (.Tuple L x1 t) (.Call (.Name "zip" p) [e,l,g] [] x) (Vg X.K ta):=by
 intro D s σ H R I h;refine Call_ (p_ I hg hm hv (gZ (fo (ha x D s σ H _ I h) ?_) (by rw[hs,K]) (by rw[K];exact ź)));rintro us f ⟨vs,H1,r,r1,q1⟩;obtain⟨a,b,c,rfl,⟨xs,P⟩,⟨ys,O⟩,⟨zs,N⟩,q⟩:=q1;obtain⟨u,v,w,rfl,ru,rv,n⟩:=cb.three r1;cases ru;cases rv;cases n;obtain⟨aeP,rx1,C,hz1⟩:=r.list P;obtain⟨aeO,rx2,B,hz2⟩:=r.list O;obtain⟨aeN,rx3,y,hz3⟩:=r.list N;obtain⟨oa,T,_⟩:=C.isList;obtain⟨ob,S,_⟩:=B.isList;obtain⟨oc,Q,_⟩:=y.isList;have J:=aI T;have G:=aI S;have F:=aI Q;refine Ls C.isList B.isList y.isList λh' z1 z2 z3 z4 z5 z6 k1 =>?_
 refine wpAny_pyIter_zip z1 ?_;have i:∀k:Nat,H1 (f.heap.objs.size+k)=none:=λk=>r.eY.fresh (ia _ _)
 have m:∀ {d:ax}(k:Nat),d<f.heap.objs.size->d≠f.heap.objs.size+k:=fun {d} k h z=>by rw[z]at h;exact absurd h (Nat.not_lt.mpr (ia _ _))
 have o:∀j k:Nat,j≠k->f.heap.objs.size+j≠f.heap.objs.size+k:=λj k h z=>h (Nat.add_left_cancel z)
 have Z:ZA (f.heap.objs.size+5) (f.heap.objs.size+3) (f.heap.objs.size+4) 3 (mR (f.heap.objs.size+0) (f.heap.objs.size+1) (f.heap.objs.size+2)) (mR a b c):=by
  refine⟨o 3 5 ſ,o 4 5 ſ,o 3 4 ſ,qD ⟨o 0 5 ſ,o 0 3 ſ,o 0 4 ſ⟩ ⟨o 1 5 ſ,o 1 3 ſ,o 1 4 ſ⟩ ⟨o 2 5 ſ,o 2 3 ſ,o 2 4 ſ⟩,λj k hj hk U =>?_,?_⟩
  .have E:∀j,j<3->mR (f.heap.objs.size+0) (f.heap.objs.size+1) (f.heap.objs.size+2) j=f.heap.objs.size+j:=qD rfl rfl rfl;rw[E j hj,E k hk];exact o j k U
  .exact qD ⟨m 5 J,m 4 J,qD (m 0 J) (m 1 J) (m 2 J)⟩ ⟨m 5 G,m 4 G,qD (m 0 G) (m 1 G) (m 2 G)⟩ ⟨m 5 F,m 4 F,qD (m 0 F) (m 1 F) (m 2 F)⟩
 refine⟨f.heap.objs.size+5,_,_,_,H1,rfl,r.kept k1,
  J9 a b c (f.heap.objs.size+5) (f.heap.objs.size+3) (f.heap.objs.size+4) (f.heap.objs.size+0) (f.heap.objs.size+1) (f.heap.objs.size+2) Z,⟨_,rfl,z1,z2,z3,z4,z5,z6⟩,λd hd =>?_,q⟩
 simp only[br,fZ,or_false]at hd;rcases hd with rfl|rfl|rfl|rfl|rfl|rfl
 .exact r.yh (ia _ _) (i 5)
 .exact r.yh (ia _ _) (i 3)
 .exact r.yh (ia _ _) (i 4)
 .exact r.yh (ia _ _) (i 0)
 .exact r.yh (ia _ _) (i 1)
 .exact r.yh (ia _ _) (i 2)
noncomputable def kG:List D->List D->List D->List D
 |x::c,y::b,z::a =>.tup [x,y,z]::kG c b a|_,_,_=>[]
theorem wm:∀(c b a:List D),(kG c b a).length=min c.length (min b.length a.length)
 |[],b,a=>by simp[kG]
 |x::c,[],a=>by simp[kG]
 |x::c,y::b,[]=>by simp[kG]
 |x::c,y::b,z::a=>by simp[kG,wm c b a]
theorem Bo:∀ {c b a:List D}{i:Nat}{d:D},(kG c b a)[i]?=Y d->∃x y z,c[i]?=Y x/\b[i]?=Y y/\a[i]?=Y z/\d=.tup [x,y,z]
 |[],b,a,i,d,h=>by simp[kG]at h
 |x::c,[],a,i,d,h=>by simp[kG]at h
 |x::c,y::b,[],i,d,h=>by simp[kG]at h
 |x::c,y::b,z::a,0,d,h=>by simp[kG]at h;exact⟨x,y,z,rfl,rfl,rfl,h.symm⟩
 |x::c,y::b,z::a,i+1,d,h=>by simp only[kG,l6]at h ⊢;exact Bo h
def KY{K:aG}{f e:List V}(g:G a=Y (.lst f))(L:G b=Y (.lst h))(J:G c=Y (.lst e))(r:aY K G ds f)(U:aY K G es h)(o:aY K G fs e):FV K G (V6 K a b c) (kG ds es fs):=by
 have l1:=r.length;have l2:=U.length;have l3:=o.length;refine⟨λi H s I =>?_,λi H s I=>⟨f,h,e,.of (s _ _ g),.of (s _ _ L),.of (s _ _ J),by rw[wm]at I;lia⟩,λi H x H' G1 d v k ⟨y,T,j,p,P,O,N,X,ev,eh⟩ hd =>?_⟩
 .rw[wm]at I;have P:i<f.length:=by lia
  have O:i<h.length:=Ÿ
  have N:i<e.length:=by lia
  exact⟨f,h,e,f[i],h[i],e[i],.of (s _ _ g),.of (s _ _ L),.of (s _ _ J),by simp[P],by simp[O],by simp[N]⟩
 .obtain⟨c1,c2,c3,S,R,Q,rfl⟩:=Bo hd;have F:=P f (.of (k _ _ (v _ _ g)));have E:=O h (.of (k _ _ (v _ _ L)));have C:=N e (.of (k _ _ (v _ _ J)));obtain⟨v1,u,B⟩:=r.get S;obtain⟨v2,t,z⟩:=U.get R;obtain⟨v3,q,w⟩:=o.get Q;rw[F]at u;cases u;rw[E]at t;cases t;rw[C]at q;cases q;subst ev eh;have m:=v.trans (.alloc (o :=.tup [y,T,j]) (k.free X));exact⟨dD G1 p (.tup [y,T,j]),eJ.alloc k X,cL.mpr ⟨p,_,rfl,aW,.cons (cS.mono m c1 B) (.cons (cS.mono m c2 z) (.cons (cS.mono m c3 w) .nil))⟩⟩
def iZ3(f n A:DF):DL:=λa=>(iL f a).bind λd=>(iL n a).bind λc=>(iL A a).map λb=>kG d c b
def Rf{O}{m:Pos}(hg:Gl X "zip")(hm:X.mg "zip" = M)(h:PE X e (tP X.K Z f))(h':PE X l (tP X.K Z n))(E:PE X g (tP X.K Z A))(hs:autoParam (ao [e,l,g] X.env=[(Z_,eval e X.env),(Z_,eval l X.env),(Z_,eval g X.env)]) ŭ)(C:autoParam (ao [l,g] X.env=[(Z_,eval l X.env),(Z_,eval g X.env)]) ŭ)(D:autoParam (ao [e,l,g] X.env=(Z_,eval e X.env)::ao [l,g] X.env) ŭ)(B:autoParam (ao [l,g] X.env=(Z_,eval l X.env)::ao [g] X.env) ŭ)(z:autoParam (ao [g] X.env=(Z_,eval g X.env)::ao [] X.env) ŭ):
  PI X (.Tuple r O m) (.Call (.Name "zip" p) [e,l,g] [] y) (Cs X.K Z (iZ3 f n A)):=(Qg hg hm (cf h (cf h' (cf E hU z) B) D) hs C).imp <|by
 rintro σ H R ⟨G,u,ds,gh,F,j,k⟩;obtain⟨N,ef,j⟩:=aa.1 j;rcases i:iL n u with _|W
 .simp[i]at j
 rcases d:iL A u with _|L
 .simp_all
 simp only[i,d,ai,d9]at j;cases j;refine⟨G,u,[.lst N,.lst W,.lst L],gh,F,?_,λvs G1 H1 s r1 =>?_⟩
 .simp_all [aC,aN,C6,ai]
 .refine ae λkk =>?_
  obtain⟨v,t,rfl,rv,rt⟩:=bD.mp r1;obtain⟨v',t',rfl,w,x⟩:=bD.mp rt;obtain⟨T,U,rfl,o,q⟩:=bD.mp x;have:=cU.mp q;subst this;obtain⟨a,S,rfl,K,ra⟩:=bR.mp rv;obtain⟨b,Q,rfl,J,rb⟩:=bR.mp w;obtain⟨c,P,rfl,I,rc⟩:=bR.mp o;exact kk (⟨a,b,c,rfl,⟨S,.of (s.gh _ _ K)⟩,⟨Q,.of (s.gh _ _ J)⟩,⟨P,.of (s.gh _ _ I)⟩,k _ G1 H1 s (KY K J I ra rb rc)⟩)
end
structure TB(kd:SortKind)(a0:Array Keyed)(st:SortSt):Prop where
 pm:(dr st).Perm a0
 kn:kindOf st=kd
 fl:WX st=none
 pd:D1 st=#[]
noncomputable def kx(o:aq->Int)(a:Array Keyed)(i:Nat):Int:=((a[i]?).map λp=>o p.1).getD 0
def Up(o:aq->Int)(a:Array Keyed)(k:Nat):Prop:=∀i j,i<j->j<k->kx o a i<kx o a j
def Dn(o:aq->Int)(a:Array Keyed)(k:Nat):Prop:=∀i j,i<j->j<k->kx o a j<kx o a i
def Df(o:aq->Int)(a:Array Keyed):Prop:=(a.toList.map λp=>o p.1).Nodup
def Df.perm(h:Df o a)(p:b.Perm a):Df o b:=by
 have q:=(qO.mp p).map λp=>o p.1
 exact q.nodup_iff.mpr h
def Df.ne(h:Df o a){i j:Nat}(d:i<a.size)(c:j<a.size)(b:i≠j):kx o a i≠kx o a j:=by
 intro e;have g:kx o a i=(a.toList.map λp=>o p.1)[i]'(by simpa using d):=by simp[kx,d]
 have f:kx o a j=(a.toList.map λp=>o p.1)[j]'(by simpa using c):=by simp[kx,c]
 rw[g,f]at e;rcases Nat.lt_or_gt_of_ne b with z|z
 .exact sh.mp h i j _ _ z e
 .exact sh.mp h j i _ _ z e.symm
section
variable {s:aw}
def TB.size{a:SortSt}(h:TB kd a0 a):(dr a).size=a0.size:=h.pm.size_eq
def TB.arr(h:TB kd a0 a)(p:b.Perm (dr a)):TB kd a0 (setArr a b):=⟨p.trans h.pm,h.kn,h.fl,h.pd⟩
def TB.ne(h:TB kd a0 a)(d:Df o a0){i j:Nat}(e:i<a0.size)(c:j<a0.size)(b:i≠j):kx o (dr a) i≠kx o (dr a) j:=
 (d.perm h.pm).ne (by rw[h.size];exact e) (by rw[h.size];exact c) b
def WV(prog:aZ)(w:cC)(A:fF)(E:aq->aw->Prop)(s:aw)(a0:Array Keyed)(kd:SortKind)(o:aq->Int):Prop:=
 ∀(a:SortSt) (i j:Nat) (Q:Option Bool->SortSt->Prop),TB kd a0 a->i<a0.size->j<a0.size->i≠j->Q (Y (decide (kx o (dr a) i<kx o (dr a) j))) a->wpS (aV prog w) A E s (ltAt' i j) Q a
def Up.more{i:Nat}(u:Up o c i)(g:1<=i)(h:kx o c (i-1)<kx o c i):Up o c (i+1):=λa b d j=>by
 by_cases e:b=i
 .subst e;by_cases f:a=b-1
  .simp_all
  .exact wd (u a _ (by lia) ž) h
 .exact u a b d (by lia)
def Dn.more{i:Nat}(u:Dn o c i)(g:1<=i)(h:kx o c i<kx o c (i-1)):Dn o c (i+1):=λa b d j=>by
 by_cases e:b=i
 .subst e;by_cases f:a=b-1
  .simp_all
  .exact wd h (u a _ ž ž)
 .exact u a b d ž
def Ie{m:Nat}(C:WV prog w A E s a0 kd o)(d:Df o a0)(B:TB kd a0 b)(n:m<=a0.size)(p:1<=a)(j:a<=m)(u:Up o (dr b) a)(h:∀i,a<=i->i<=m->Up o (dr b) i->(i=m\/kx o (dr b) i<kx o (dr b) (i-1))->Q (M,i) b):wpS (aV prog w) A E s (ascLoop a m) Q b:=by
 refine xU (I:=λi c t=>c=(M,i)/\t=b/\Up o (dr b) i) (λi c t g l k =>?_) (λc t k =>?_) ⟨rfl,rfl,u⟩
 .obtain⟨rfl,rfl,f⟩:=k;refine cY (C _ i (i-1) _ B ž ž ž ?_);dsimp only;by_cases e:kx o (dr t) i<kx o (dr t) (i-1)
  .rw[decide_eq_true e,if_pos rfl];exact gQ (h i g ž f (.inr e))
  .rw[decide_eq_false e];have:=B.ne d (i:=i-1) (j:=i) ž ž ž;exact gQ ⟨rfl,rfl,f.more ž ž⟩
 simp_all
def J4{m:Nat}(C:WV prog w A E s a0 kd o)(d:Df o a0)(B:TB kd a0 b)(n:m<=a0.size)(p:1<=a)(j:a<=m)(u:Dn o (dr b) a)(h:∀i,a<=i->i<=m->Dn o (dr b) i->Q (M,i,0) b):wpS (aV prog w) A E s (descLoop a m) Q b:=by
 refine xU (I:=λi c t=>c=(M,i,0)/\t=b/\Dn o (dr b) i) (λi c t g l k =>?_) (λc t k =>?_) ⟨rfl,rfl,u⟩
 .obtain⟨rfl,rfl,f⟩:=k;refine cY (C _ i (i-1) _ B ž ž ž ?_);dsimp only;by_cases e:kx o (dr t) i<kx o (dr t) (i-1)
  .rw[decide_eq_true e];exact gQ ⟨rfl,rfl,f.more ž e⟩
  .rw[decide_eq_false e];refine cY (C _ (i-1) i _ B ž ž ž ?_);have:=B.ne d (i:=i-1) (j:=i) ž ž ž;dsimp only;rw[decide_eq_true (by lia)];exact gQ (h i g ž f)
 simp_all
def Gn(b:n<=a.size)(u:Dn o a n):Up o (mirror a 0 n ((n-0)/2)) n:=λi j e d=>by
 have g:∀k,k<n->kx o _ k=kx o a _:=λk c=>by unfold kx;rw[getElem?_mirror_all b k,if_pos ⟨dk _,c⟩,v_]
 rw[g i (by lia),g j d];exact u _ _ Ÿ ž
def TU{m:Nat}(C:WV prog w A E s a0 kd o)(d:Df o a0)(B:TB kd a0 c)(I:m=a0.size)(G:1<=m)(h:∀i t,TB kd a0 t->1<=i->i<=m->Up o (dr t) i->Q (Y i) t):wpS (aV prog w) A E s (countRun' 0 m) Q c:=by
 rw[countRun0_eq];refine cY (Ie C d B (by lia) (aH 1) G (λi j D J=>by lia) λi g f l q =>?_);dsimp only;by_cases e:i=m
 .subst e;rw[if_pos (by simp)];exact gQ (h i c B g f l)
 .rw[if_neg (by simpa using e)];have q:kx o (dr c) i<kx o (dr c) (i-1):=by rcases q with z|z<;>trivial
  by_cases r:i > 1
  .rw[if_pos r];refine cY (C _ _ _ _ B (by lia) (by lia) (by show 0≠i-1;lia) ?_);dsimp only;rw[decide_eq_true (l 0 (i-1) (by lia) (by lia)),if_pos rfl];exact gQ (h i c B g f l)
  .rw[if_neg r];have:i=1:=by lia
   subst this;unfold descPart;refine cY (wpS_lift (wpAny_rule ⟨rfl,?_⟩));refine cY (J4 C d B ž ž ž (Dn.more (i:=1) (λa b F K=>ž) (aH 1) q) λj y p H =>?_);dsimp only;rw[if_neg (by decide)];unfold tail3;rw[reverseSlice'_eq];refine cY (wpS_modify ?_);have u:TB kd a0 (setArr c (mirror (dr c) 0 j ((j-0)/2))):=B.arr (mirror_perm _ _ _ _);refine cY (Ie C d u ž ž p (Gn (by rw[B.size];lia) H) λk x n v a =>?_);exact gQ (h k _ u ž n v)
def Tc(f:k<a.size)(n:l<=k)(u:Up o a k)(e:∀i,i<l->kx o a i<kx o a k)(h:∀i,l<=i->i<k->kx o a k<kx o a i):Up o (bubble a k (k-l)) (k+1):=λi j b p=>by
 have g:∀q,kx o (bubble a k (k-l)) q=if q=l then kx o a k else if l<q/\q<=k then kx o a (q-1) else kx o a q:=λq=>by
  unfold kx;rw[getElem?_bubble f (k-l) (by simp) q,show k-(k-l)=l by lia];split
  .exact ź
  .split<;>solve_by_elim
 rw[g i,g j];by_cases d:i=l
 .rw[if_pos d,if_neg (by lia),if_pos (by lia)];exact h _ ž ž
 .rw[if_neg d];by_cases c:j=l
  .rw[if_pos c,if_neg (by lia)];exact e _ ž
  .rw[if_neg c];by_cases s:l<i
   .rw[if_pos (by lia),if_pos (by lia)];exact u _ _ ž ž
   .rw[if_neg (by lia)];by_cases r:l<j
    .grind
    .rw[if_neg (by lia)];exact u _ _ b ž
def P_{m:Nat}(C:WV prog w A E s a0 kd o)(d:Df o a0)(B:TB kd a0 y)(T:n=a0.size)(K:1<=m)(U:m<=n)(u:Up o (dr y) m)(h:∀t,TB kd a0 t->Up o (dr t) n->Q Z' t):wpS (aV prog w) A E s (binarySort' 0 n m) Q y:=by
 rw[binarySort'_eq];simp only[v_];have z:max m 1=m:=by lia
 rw[z];refine cY (wpS_mono (xU (I:=λk c t=>c=(M,())/\TB kd a0 t/\Up o (dr t) k) (Q:=λc t=>c=(M,())/\TB kd a0 t/\Up o (dr t) n) (λk c t W L D =>?_) (λc t D =>?_) ⟨rfl,B,u⟩) λc t J =>?_)
 .obtain⟨rfl,g,a⟩:=D;refine cY (wpS_mono (xU (I:=λq c b=>b=t/\∃l r,c=(M,l,r)/\l<=r/\r<=k/\r-l<=k-q/\(∀i,i<l->kx o (dr t) i<kx o (dr t) k)/\(∀i,r<=i->i<k->kx o (dr t) k<kx o (dr t) i))
   (Q:=λc b=>b=t/\∃l,c=(M,l,l)/\l<=k/\(∀i,i<l->kx o (dr t) i<kx o (dr t) k)/\(∀i,l<=i->i<k->kx o (dr t) k<kx o (dr t) i)) (λq c b I H p =>?_) (λc b p =>?_) ⟨rfl,0,k,rfl,dk _,aH _,ž,λi f=>ž,λi f N=>ž⟩) λc b p =>?_)
  .refine ae λkk =>?_
   obtain⟨rfl,l,r,rfl,G,v,R,j,f⟩:=p;refine kk ?_;dsimp only;by_cases e:l ≥ r
   .rw[if_pos e];have:l=r:=by lia
    subst this;exact gQ ⟨rfl,l,rfl,v,j,f⟩
   .rw[if_neg e];refine cY (C _ _ _ _ g ž ž ž ?_);dsimp only;by_cases x:kx o (dr b) k<kx o (dr b) ((l+r)/2)
    .rw[decide_eq_true x,if_pos rfl];refine gQ ⟨rfl,l,(l+r)/2,rfl,ž,ž,ž,j,λi P O =>?_⟩;by_cases F:i=(l+r)/2
     .subst F;exact x
     .exact wd x (a _ _ ž O)
    .rw[decide_eq_false x,if_neg (by decide)];have S:=g.ne d (i:=k) (j:=(l+r)/2) ž ž ž;refine gQ ⟨rfl,(l+r)/2+1,r,rfl,ž,v,ž,λi P =>?_,f⟩;by_cases F:i=(l+r)/2
     .subst F;lia
     .have:=a i ((l+r)/2) ž ž;lia
  .obtain⟨rfl,l,r,rfl,G,v,R,j,f⟩:=p;have:l=r:=by lia
   simp_all
  .obtain⟨rfl,l,rfl,lk,j,f⟩:=p;dsimp only;rw[moveDown'_eq];exact cY (wpS_modify (gQ ⟨rfl,g.arr (bubble_perm _ _ _),Tc (by rw[g.size];lia) lk a j f⟩))
 .simp_all
 .obtain⟨rfl,g,a⟩:=J;exact gQ (h t g a)
def Mv{st:SortSt}{Q:Unit->SortSt->Prop}(C:WV prog w A E s a0 kd o)(d:Df o a0)(B:TB kd a0 st)(P:2<=a0.size)(m:a0.size<64)(h:∀t,(dr t).Perm a0->WX t=M->Up o (dr t) a0.size->Q () t):wpS (aV prog w) A E s sortRuns' Q st:=by
 rw[sortRuns'_eq];refine cY (wpS_get ?_);dsimp only;have I:=by
  have:∀n,0<n->n<64->minRun' n n 0=n:=λn R N=>by
   cases n with|zero=>rfl|succ f=>rw[minRun'_succ,if_pos N,Nat.add_zero]
  exact this _ (by lia) m
 rw[B.size,I];refine cY (wpS_mono (xU (I:=λx c t=>if x=0 then c=(M,0)/\TB kd a0 t else c=(M,a0.size)/\(dr t).Perm a0/\WX t=M/\(D1 t).size=1/\Up o (dr t) a0.size)
  (Q:=λc t=>c=(M,a0.size)/\(dr t).Perm a0/\WX t=M/\(D1 t).size=1/\Up o (dr t) a0.size) (λx c t K J g =>?_) (λc t g =>?_) (by trivial)) λc t S =>?_)
 .by_cases e:x=0
  .subst e;simp only[if_true]at g;obtain⟨rfl,O⟩:=g;dsimp only;rw[if_neg (by lia),Nat.sub_zero];have kC:∀a,TB kd a0 a->Up o (dr a) a0.size->(dr _).Perm a0/\WX _=M/\(D1 (setPending a ((D1 a).push (0,a0.size,0)))).size=1/\Up o _ a0.size:=λa b u=>⟨b.pm,b.fl,by rw[b.pd];rfl,u⟩
   refine cY (TU C d O rfl ž λi D r k j v =>?_);dsimp only;by_cases F:i<a0.size
   .rw[if_pos F];refine cY (wpS_lift (wpAny_rule ⟨rfl,?_⟩));rw[RO];refine cY (P_ C d r rfl k j v λy G H =>?_);simp only[Bool.not_true,ig,if_false];refine cY (wpS_get ?_);rw[show (D1 y).back? = M by rw[G.pd];rfl];dsimp only;refine cY (wpS_modify (gQ ?_));simp only[v_];exact⟨Ž,kC y G H⟩
   .rw[if_neg F];have:i=a0.size:=by lia
    subst this;refine cY (wpS_get ?_);rw[show (D1 D).back? = M by rw[r.pd];rfl];dsimp only;refine cY (wpS_modify (gQ ?_));simp only[v_];exact⟨Ž,kC D r v⟩
  .simp only[if_neg e]at g;obtain⟨rfl,L⟩:=g;dsimp only;rw[if_pos (aH _)];exact gQ ⟨rfl,L⟩
 .have:max 0 a0.size≠0:=by lia
  rw[if_neg this]at g;exact g
 .obtain⟨rfl,p,f,q,u⟩:=S;dsimp only;refine cY (wpS_mono (xU (I:=λT c a=>a=t/\c=(M,())) (λx c a T T l =>?_) (λT T z=>z) ⟨rfl,rfl⟩) λc a l =>?_)
  .obtain⟨rfl,rfl⟩:=l;refine cY (wpS_get ?_);rw[if_pos (by simp_all)];exact gQ ⟨rfl,rfl⟩
  .obtain⟨rfl,rfl⟩:=l;exact gQ (h a p f u)
def mo(h:cy)(v:aq)(n:Int):Prop:=∃a o b k t,v=.ref a/\h.get? a=Y o/\o.cls=.type "tuple" /\o.data=.seq b k/\b[0]?=Y (.int n t)
noncomputable def pA(h:cy):aq->Int
 | .ref a=>match h.get? a with
  | some o=>match o.data with
   | .seq (b:Array aq) _=>match (b[0]? : Option aq) with
    |some (Pd n _)=>n|_=>0
   |_=>0
  |none=>0
 |_=>0
def mo.key{v:aq}(x:mo h v n):pA h v=n:=by
 obtain⟨a,o,b,k,t,rfl,_⟩:=x
 simp_all [pA]
def mo.keep{v:aq}(x:mo h v n)(k:∀a o,h.get? a=Y o->c.get? a=Y o):mo c v n:=by
 obtain⟨a,o,b,e,t,rfl,f,d⟩:=x;exact⟨a,o,b,e,t,rfl,k a o f,d⟩
def Wv(c:Bool)(x y:aq):keyLt' (tuples' c) x y=(do
  let b <- AJ x;let a <- AJ y
  for ((p,q),i) in (b.toList.zip a.toList).zipIdx do
   if !(<- eqBool p q) then return <- oneLt' (c&&i==0) p q
  return b.size<a.size):=rfl
def Vw(v:aq):firstOfTuple' v=(do
  if (<- DQ v) != .type "tuple" then return M
  return (<- AJ v)[0]?):=rfl
def NO{m:Int}(q:mo s.heap x m)(p:mo s.heap y n)(g:m≠n)(h:Q (decide (m<n)) s):be (aV prog w) A (keyLt' (tuples' Z') x y) Q E s:=by
 obtain⟨a,o,d,k,t,rfl,v,J,u,r⟩:=q;obtain⟨b,H,c,I,l,rfl,D,K,C,B⟩:=p;refine ah (WW v u (ah (WW D C ?_)));obtain⟨j,G⟩:∃j,d.toList=.int m t::j:=by
  have:d.toList[0]?=Y (.int m t):=by simpa using r
  cases e:d.toList<;>simp_all
 obtain⟨i,F⟩:∃i,c.toList=.int n l::i:=by
  have:c.toList[0]?=Y (.int n l):=by simpa using B
  cases e:c.toList<;>simp_all
 rw[G,F];simp only[ez,F7,List.forIn_cons];refine ah (ah (ah (wpAny_eqBool_int ?_)));have:(m==n)=false:=by simpa using g
 rw[this];simp;exact ah (oneLt_int (aF (aF (aF h))))
def Hu{v:aq}(d:mo s.heap v n)(h:∀t,Q (Y (.int n t)) s):be (aV prog w) A (firstOfTuple' v) Q E s:=by
 obtain⟨a,o,b,k,t,rfl,c,g,f,e⟩:=d;refine ah (wpAny_typeOf ⟨o,c,g⟩ ?_);refine ah (WW c f (aF ?_));rw[e];exact h t
def K5{s:aw}{Q:List (Option aq)->aw->Prop}(q:Paired (mo s.heap) b c)(h:∀a,Paired (λf n=>∃t,f=Y (Pd n t)) a c->Q a s):be (aV prog w) A (b.mapM firstOfTuple') Q E s:=by
 induction q generalizing Q with
 |nil=>solve_by_elim|cons r t i=>rw[LL];exact ah (Hu r λd=>ah (i λa e=>aF (h _ (.cons ⟨d,rfl⟩ e))))
def Mf{a:List (Option aq)}(q:Paired (λf n=>∃t,f=Y (Pd n t)) a c):(a.filterMap id).mapM DQ=dn (c.map λ_=>cg "int")/\a.all (·.isSome)=true:=by
 induction q with
 |nil=>simp_all|cons x r i=>
  obtain⟨g,d⟩:=i;obtain⟨t,rfl⟩:=x;rw[pT];simp only[id,LL,g]
  exact ź
def QK{Q:SortKind->aw->Prop}(f:Paired (mo s.heap) c d)(k:c≠[])(h:Q (tuples' Z') s):be (aV prog w) A (keyKind' c.toArray) Q E s:=by
 rw[keyKind'_eq,List.mapM_toArray];refine ah ?_;refine ah (K5 f λe j=>aF ?_);obtain⟨i,g⟩:=Mf j;rw[if_pos (by grind)];rw[oneTypeOnly'_eq];have m:(e.toArray.filterMap id).mapM DQ=dn (d.map λ_=>cg "int").toArray:=by
  have:e.toArray.filterMap id=(e.filterMap id).toArray:=by simp
  rw[this,List.mapM_toArray,i];exact ź
 rw[m];simp only[pure_bind];obtain⟨n,a,rfl⟩:∃n a,d=n::a:=by cases f<;>lia
 have l:(LM (λ_=>cg "int") (n::a)).toArray[0]?=Y (cg "int"):=by rfl
 rw[l];have b:((LM (λ_=>cg "int") (n::a)).toArray.all λx=>x==cg "int")=true:=Ž
 simp only[b,if_true,pure_bind]
 exact ź
def Kw(h:p∈(xV a).toList):p.1=p.2/\p.1∈a:=by
 rw[pairsOf_toList]at h;exact mem_zip_self h
def pZ(h:Paired (mo b) c d):∀v∈c,mo b v (pA b v):=by
 induction h with
 |nil=>simp_all|cons r t ih=>
  intro v a;rcases br.mp a with rfl|a
  .rw[r.key];exact r
  simp_all
def EE(h:Paired (mo s.heap) a b):a.map (pA s.heap)=b:=by
 induction h with|nil=>rfl|cons r t ih=>rw[bx,r.key,ih]
def Ro{f:List Int}(g:Paired (mo s.heap) a f)(o:f.Nodup):WV prog w A E s (xV a) (tuples' Z') (pA s.heap)/\Df (pA s.heap) (xV a):=by
 have l:Df (pA s.heap) (xV a):=by
  unfold Df;rw[pairsOf_toList];have:((a.zip a).map λp=>pA s.heap p.1)=a.map (pA s.heap):=by have:=congrArg (LM (pA s.heap)) (List.map_fst_zip (l₁:=a) (l₂:=a) (aH _));rw[qu]at this;exact this
  rw[this,EE g];exact o
 refine⟨λst i j Q B d k e h =>?_,l⟩;have c:∀i,i<(xV a).size->∃x p,(dr st)[i]?=Y (x,p)/\mo s.heap x (kx (pA s.heap) (dr st) i):=λi d=>by
  have b:i<(dr st).size:=by rw[B.size];exact d
  have r:(dr st)[i]∈(xV a).toList:=(qO.mp B.pm).mem_iff.mp Ž;refine⟨(dr st)[i].1,(dr st)[i].2,getElem?_pos _ i b,?_⟩;simpa [kx,b] using pZ g _ (Kw r).2
 obtain⟨x,p,u,n⟩:=c i d;obtain⟨y,q,t,m⟩:=c j k;rw[ltAt'_eq];refine cY (wpS_get ?_);show wpS _ _ _ _ (do let x <- elem' (dr st) i;let y <- elem' (dr st) j;lt' x y) Q st;rw[elem'_eq,elem'_eq,u,t];refine cY (gQ (cY (gQ ?_)));rw[lt'_eq];refine cY (wpS_get ?_);rw[B.kn];refine cY (wpS_lift (Ga (NO n m (B.ne l d k e) ⟨rfl,?_⟩)));exact gQ h
def FU(h:cy)(b:List aq)(a:Array aq):Prop:=a.toList.Perm b/\(a.toList.map (pA h)).Pairwise (· < ·)
def M_{xs:Array Keyed}(g:xs.Perm (xV a))(u:Up (pA s.heap) xs (xV a).size):FU s.heap a (xs.map (·.2)):=by
 have h:xs.toList.Perm (a.zip a):=by rw[<- pairsOf_toList];exact qO.mp g
 have e:(xs.map (·.2)).toList=xs.toList.map (·.1):=by rw[Array.toList_map];exact AH λp c=>(mem_zip_self (h.mem_iff.mp c)).1.symm
 refine⟨?_,?_⟩
 .rw[e];have:=h.map (·.1)
  simp_all [List.map_fst_zip,aH]
 .rw[e,qu,sh];intro i j l k d;have f:=by simpa using l
  have b:=by simpa using k
  have:=u i j d (by rw[<- g.size_eq];exact b)
  simp_all [kx]
def EF(f:Paired (mo h) b d)(k:∀a o,h.get? a=Y o->e.get? a=Y o):Paired (mo e) b d:=by
 induction f with|nil=>exact .nil|cons r t ih=>exact .cons (r.keep k) ih
def KP{v:aq}(x:mo h v n)(k:∀a o,h.get? a=Y o->b.get? a=Y o):pA b v=pA h v:=by rw[x.key,(x.keep k).key]
def FU.back{f:cy}(i:Paired (mo h) d g)(k:∀a o,h.get? a=Y o->f.get? a=Y o)(o:FU f d b):FU h d b:=by
 refine⟨o.1,?_⟩;have e:=AH λv j=>by exact(KP (pZ i v (o.1.mem_iff.mp j)) k).symm
 rw[e];exact o.2
def Mu{P:Fin->aw->Prop}(K:s.heap.get? a=Y (Gb "list" g.toArray n))(F:Paired (mo s.heap) g I)(R:∀v∈g,v ≠ .ref a)(hn:I.Nodup)(W:g.length<64)(h:∀f,FU s.heap g f->P (.done (.ret .none)) { s with heap:=sortedHeap s.heap a g f }):be (aV c w) A (Builtin.«list.sort» ⟨[.ref a],[]⟩) P E s:=by
 rw[list_sort_plain];refine ah (WW K rfl ?_);refine ah (listUpdate_at K rfl ?_);have T:=get?_update_seq K (λi =>#[]);refine ah (seqEpoch_at T rfl ?_);refine ah (wpAny_newTuple ?_);refine ah (wpAny_newList ?_);refine fJ ?_;have y:=ak (Gb "list" #[] 0) (ak (Gb "tuple" g.toArray 0) T);generalize S:(((s.heap.update a (Obj.mapSeq λi =>#[])).push (Gb "tuple" g.toArray 0)).push (Gb "list" #[] 0))=l at y;have O:∀b o,b≠a->s.heap.get? b=Y o->l.get? b=Y o:=λb o L q=>by rw[<- S];refine ak _ (ak _ ?_);rw[bC _ _ (bE L)];exact q
 have x:Paired (mo l) g I:=by
  have:∀ {D:List aq}{J:List Int},Paired (mo s.heap) D J->(∀v∈D,v ≠ .ref a)->Paired (mo l) D J:=by
   intro D J G
   induction G with
   |nil=>intro _;exact .nil
   |cons r t ih=>intro Q;refine .cons ?_ (ih λv F=>Q v (bI _ F));obtain⟨b,o,m,k,N,rfl,H,p⟩:=r;exact⟨b,o,m,k,N,rfl,O b o (λz=>Q _ aJ (by rw[z])) H,p⟩
  exact this F R
 have B:∀f,FU l g f->FU s.heap g f:=λf o=>by
  refine⟨o.1,?_⟩;have e:f.toList.map (pA s.heap)=f.toList.map (pA l):=AH λv hm=>by have u:=o.1.mem_iff.mp hm;have U:=pZ F v u;obtain⟨b,X,m,k,N,rfl,H,p⟩:=U;simp only[pA,H,O b X (λz=>R _ u (by rw[z])) H]
  rw[e];exact o.2
 show be (aV c w) A _ P E { s with heap:=l };dsimp only;have sz:g.toArray.size=g.length:=Ž
 have kC:=λf o=>by have:=h f (B f o);unfold sortedHeap at this;rw[S]at this;exact this
 by_cases p:g.toArray.size<2
 .rw[if_pos p,if_pos p];refine ah (aF ?_);rw[StateT.run_pure];refine ah (aF ?_);dsimp only;refine ah (seqEpoch_at y rfl ?_);refine ah (listUpdate_at y rfl ?_ (hsz2:=by rw[Array.size_map];show (xV g).size<=_;rw[Gc,iG];lia));simp only[bne_self_eq_false,ig,if_false];refine aF (kC _ (M_ (s:={ s with heap:=l }) (Array.Perm.refl _) λi j WB hj =>?_));rw[Gc]at hj;lia
 .rw[if_neg p,if_neg p];refine ah (QK x (λz=>p (by rw[z];decide)) ?_);obtain⟨C,d⟩:=Ro (prog:=c) (w:=w) (A:=A) (E:=E) (s:={ s with heap:=l }) x hn;refine ah (dP (Mv (Q:=λi t=>(dr t).Perm (xV g)/\WX t=M/\Up (pA l) (dr t) (xV g).size) C d ⟨Array.Perm.refl _,rfl,rfl,rfl⟩ (by rw[Gc];lia) (by rw[Gc];exact W) λt a1 a2 a3=>⟨a1,a2,a3⟩) ?_ λi i e=>e);rintro⟨⟨⟩,t⟩ s' ⟨rfl,G,hf,hu⟩;dsimp only;refine ah (seqEpoch_at y rfl ?_);refine ah (listUpdate_at y rfl ?_ (hsz2:=by refine bz (qt ((Array.size_map ..).trans (G.size_eq.trans (Gc _)))) ?_;rw[iG];lia));rw[hf];simp only[bne_self_eq_false,ig,if_false];exact aF (kC _ (M_ (s:={ s with heap:=l }) G hu))
def GJ(F:s.heap.IsList l a.toArray)(m:Paired (mo s.heap) a x)(C:x.Nodup)(r:a.length<64)(h:∀d,FU s.heap a d->Q (.ref (s.heap.objs.size+1)) { s with heap:=sortedAll s.heap a d }):be (aV c w) A (HX (.builtin "sorted") [.ref l]) Q E s:=by
 refine Calls.call_function_entry kind_sorted plain_sorted entry_sorted (args_sorted1 _) ?_;unfold Builtin.«sorted»;refine ah (m:=checkCount "sorted" 1 1 _) (aF ?_);refine ah (collect_list F ?_);refine ah (wpAny_newList ?_);generalize p:(s.heap.push (Gb "list" #[] 0)).update s.heap.objs.size (Obj.mapSeq (· ++ a.toArray))=g;have u:g.objs.size=s.heap.objs.size+1:=by rw[<- p,yp,size_push']
 have y:∀b o,s.heap.get? b=Y o->(g.push (Gb "list" a.toArray 0)).get? b=Y o:=λb o q=>by refine ak _ ?_;rw[<- p,bC _ _ (λz=>by have:=aI q;rw[<- z]at this;exact i_ _ this)];exact ak _ q
 have f:(g.push (Gb "list" a.toArray 0)).get? (s.heap.objs.size+1)=Y (Gb "list" a.toArray 0):=by rw[<- u];exact bg _ rfl
 have j:=EF m y;have n:∀v∈a,v ≠ .ref (s.heap.objs.size+1):=λv D z=>by
  obtain⟨b,o,i,k,t,rfl,G,_⟩:=pZ m v D;have e:b=s.heap.objs.size+1:=by cases z;exact ź
  have:=aI G;rw[e]at this;exact absurd this Ž
 show be _ _ _ _ _ { s with heap:=g.push (Gb "list" a.toArray 0) };rw[u];refine ah (fJ (wpAny_call_entry slot_list_sort ⟨_,f,rfl⟩ entry_list_sort (Mu (s:={ s with heap:=g.push (Gb "list" a.toArray 0) }) f j n C r λd B=>⟨_,rfl,?_⟩) (args_list_sort _)));refine aF ⟨_,rfl,?_⟩;have:=h d (B.back m y);unfold sortedAll at this;rw[p]at this;exact this
end
def ED{m:Type}{R:m->k->Prop}(p:o.Perm n):∀ {a:List m},Paired R a o->∃b,b.Perm a/\Paired R b n:=by
 induction p with
 |nil=>intro a h;cases h;exact ź
 |cons u _ ih=>
  intro a h;cases h with
  |cons r t=>obtain⟨b,e,d⟩:=ih t;exact⟨_,e.cons _,.cons r d⟩
 |swap u v l=>
  intro a h;cases h with
  | cons r t=>cases t with
   |cons w s=>exact⟨_,.swap _ _ _,.cons w (.cons r s)⟩
 |trans _ _ j f=>intro a h;obtain⟨b,e,d⟩:=j h;obtain⟨q,y,x⟩:=f d;exact⟨q,y.trans e,x⟩
def Kn{K:aG}{s:List V}(p:s.Perm q):∀ {a:List D},aY K G a s->∃f,f.Perm a/\aY K G f q:=by
 induction p with
 | nil=>intro a h;cases a with
  |nil=>solve_by_elim|cons d a=>obtain⟨_,_,e,_⟩:=bD.mp h;cases e
 |cons u _ ih=>
  intro a h;cases a with
  |nil=>cases cU.mp h|cons d a=>obtain⟨v,r,e,j,b⟩:=bD.mp h;cases e;obtain⟨f,m,k⟩:=ih b;exact⟨_,m.cons _,.cons j k⟩
 |swap u v l=>
  intro a h;cases a with
  |nil=>cases cU.mp h|cons d a=>
   obtain⟨_,_,e,j,b⟩:=bD.mp h;cases e;cases a with
   |nil=>cases cU.mp b|cons A a=>obtain⟨_,_,e,x,w⟩:=bD.mp b;cases e;exact⟨_,.swap _ _ _,.cons x (.cons j w)⟩
 |trans _ _ o n=>intro a h;obtain⟨B,m,k⟩:=o h;obtain⟨t,z,y⟩:=n k;exact⟨t,z.trans m,y⟩
theorem Et{d:j->Int}:∀ {l m:List j},l.Perm m->(l.map d).Pairwise (· < ·)->(m.map d).Pairwise (· < ·)->l=m
 |[],m,p,_,_=>by rw[List.Perm.nil_eq p]
 |a::l,[],p,_,_=>by simp_all
 | a::l,b::m,p,h,f=>by
  simp only[bx,qM]at h f;have e:a=b:=by grind [aJ,List.mem_map_of_mem]
  subst e;rw[Et (by simp_all) h.2 f.2]
noncomputable def Fp(a:D->Int)(d:D):List D->List D
 |[]=>[d]|x::b=>if a d<a x then d::x::b else x::Fp a d b
noncomputable def Kf(a:D->Int):List D->List D
 |[]=>[]|d::b=>Fp a d (Kf a b)
theorem wX(a:D->Int)(d:D):∀l,(Fp a d l).Perm (d::l)
 |[] =>.rfl| x::b=>by
  unfold Fp;split
  .exact .rfl
  .exact((wX a d b).cons x).trans (.swap _ _ _)
theorem wq(a:D->Int):∀l,(Kf a l).Perm l
 |[] =>.rfl|d::b=>(wX a d _).trans ((wq a b).cons d)
set_option tactic.hygienic true in
theorem BU:∀ {l:List D},(l.map a).Pairwise (· < ·)->a d∉l.map a->((Fp a d l).map a).Pairwise (· < ·)
 |[],_,_=>by simp[Fp]
 | x::f,h,j=>by
  simp only[bx,qM,br,not_or]at h j;unfold Fp;split
  .rename_i b;simp only[bx,qM,br];refine⟨?_,h⟩;rintro k (rfl|e)
   .exact b
   .exact wd b (h.1 k e)
  .simp only[bx,qM];refine⟨λk e =>?_,BU h.2 j.2⟩
   grind [wX]
theorem By:∀ {l:List D},(l.map a).Nodup->((Kf a l).map a).Pairwise (· < ·)
 |[],_ =>.nil|d::b,h=>by simp only[bx,H_]at h;exact BU (By h.2) λz=>h.1 (((wq a b).map a).subset z)
noncomputable def U9:D->Int
 |.tup (.int n::_)=>n|_=>0
noncomputable def Yf:D->Bool
 |.tup (.int _::_)=>Z'|_=>Z_
section
variable {X:Cx}{f:DF}
def Tu(K:aG)(c:TE):TE:=λe H Q=>c e H λx d=>∃a b,x=.ref a/\mY K d a (b.map V.int)/\b.length<64/\∀l,d l=M->Q (.ref l) (dD d l (.lst ((Kg b).map V.int)))
def M3(R:Gl X "sorted")(N:X.mg "sorted" = M)(O:PE X e c)(D:autoParam (ao [e] X.env=(Z_,eval e X.env)::ao [] X.env) ŭ)(y:autoParam (fQ "sorted" = Y (.builtin "sorted")) Ť):PE X (.Call (.Name "sorted" p) [e] [] g) (Tu X.K c):=by
 intro f s F H Q I h;refine gK (p_ I R N y ?_);refine nX ?_ D rfl;refine fo (bS O dI D g f s F H (λr n=>match r with|[x]=>∃a d,x=.ref a/\mY X.K n a (d.map V.int)/\d.length<64/\∀l,n l=M->Q (.ref l) (dD n l (.lst ((Kg d).map V.int)))|_=>False) I h) ?_;rintro us C ⟨r,n,B,K,v⟩;cases r with
 |nil=>exact v.elim|cons x t=>
  cases t with
  |cons _ _=>exact v.elim|nil=>
   obtain⟨a,d,rfl,i,A,q⟩:=v;obtain⟨u,rfl,J⟩:=cb.one K;cases J;obtain⟨m,G,L,hz⟩:=B.list i;have E:Gi m d:=vw G;refine sorted_ints L.isList E (by rw[Fo E];exact A) λj w a1 U T =>?_
   have S:w=Kg d:=TJ U T;subst S;obtain⟨k,P⟩:=sortedAll_at C.heap m j;refine⟨.ref _,_,B.laid (t':=C.toks) (λb o z=>sortedAll_old z) (jG _) (show jA X.prog X.w _ _ _ (.lst ((Kg d).map V.int)) from⟨?_,j.toList,k,Cm a1,?_⟩),rfl,q _ (B.eY.fresh (jG _))⟩
   .rw[aD,(y8 _).length_eq]
    simp_all
   simp_all
def rP(f:DF):DL:=λb=>(f b).bind λd=>match d with|.lst e=>(BR e).bind λa=>if a.length<64 then Y ((Kg a).map D.int) else M|_=>M
set_option tactic.hygienic true in
def Y2(x:Gl X "sorted")(w:X.mg "sorted" = M)(h:PE X e (tQ X.K Z f))(u:autoParam (ao [e] X.env=(Z_,eval e X.env)::ao [] X.env) ŭ):PE X (.Call (.Name "sorted" p) [e] [] g) (tF X.K Z (rP f)):=
 (M3 x w h u).imp <|by
  rintro D H Q ⟨G,q,I,z,n,b,k⟩;obtain⟨d,B,b⟩:=aa.1 b;split at b
  .obtain⟨s,A,b⟩:=aa.1 b;split at b
   .rename_i t;cases b;refine⟨G,q,_,z,n,B,λv C J j r =>?_⟩;obtain⟨a,F,rfl,y,o⟩:=r.lst j.gh;rw[zQ A]at o;have:=wz.mp o;subst this;exact⟨a,s,rfl,.of y,t,λl m=>k l _ C _ (j.trans (eJ.lay j.gh m)) (j.hh.free m) (j.gh.free m) aW (aY.ints _)⟩
   .cases b
  .cases b
def LY(H:Hp)(v:V)(n:Int):Prop:=∃b a,v=.ref b/\H b=Y (.tup (.int n::a))
def Tt(K:aG)(c:TE):TE:=λj H Q=>c j H λx b=>∃a d f,x=.ref a/\mY K b a d/\Paired (LY b) d f/\f.Nodup/\d.length<64/\∀l e h,b l=M->e.Perm d->Paired (LY b) e h->h.Pairwise (· < ·)->Q (.ref l) (dD b l (.lst e))
def NM{s:aw}{a:List aq}(I:Inv X d j H s)(p:Paired (LY H) l h)(q:cb l a):Paired (mo s.heap) a h:=by
 induction p generalizing a with
 |nil=>cases q;exact .nil|cons g t i=>
  obtain⟨b,x,rfl,w⟩:=g;rcases q with _|⟨r,m⟩;cases r;obtain⟨y,a,n,o,q,v,k,u⟩:=I.eY b _ w;cases n with
  |cons p _=>obtain⟨l,rfl⟩:=p;exact .cons ⟨b,o,_,k,l,rfl,q,v,u,ź⟩ (i m)
def QI{f:St}{s:aw}(I:Inv X a f H s)(q:cb b d)(h:∀y∈b,∃n,LY H y n):Paired (LY H) b (d.map (pA s.heap)):=by
 induction q with
 |nil=>exact .nil|cons r k i=>
  obtain⟨n,e⟩:=h _ aJ;have t:=NM I (.cons e .nil) (.cons r .nil);cases t with
  |cons j _=>refine .cons ?_ ż;rw[j.key];exact e
def U2(h:Paired (LY H) b d):∀y∈b,∃n,LY H y n:=by
 induction h<;>grind
def M1(hg:Gl X "sorted")(hm:X.mg "sorted" = M)(hl:PE X e c)(i:autoParam (ao [e] X.env=(Z_,eval e X.env)::ao [] X.env) ŭ)(E:autoParam (fQ "sorted" = Y (.builtin "sorted")) Ť):PE X (.Call (.Name "sorted" p) [e] [] g) (Tt X.K c):=by
 intro m s P H Q I h;refine gK (p_ I hg hm E ?_);refine nX ?_ i rfl;refine fo (bS hl dI i g m s P H (λv f=>match v with|[x]=>∃a j C,x=.ref a/\mY X.K f a j/\Paired (LY f) j C/\C.Nodup/\j.length<64/\∀l d L,f l=M->d.Perm j->Paired (LY f) d L->L.Pairwise (· < ·)->Q (.ref l) (dD f l (.lst d))|_=>False) I h) ?_;rintro us J ⟨v,f,r,S,A⟩;cases v with
 |nil=>exact A.elim|cons x t=>
  cases t with
  |cons _ _=>exact A.elim|nil=>
   obtain⟨a,j,C,rfl,hq,O,hn,G,q⟩:=A;obtain⟨u,rfl,R⟩:=cb.one S;cases R;obtain⟨D,w,T,hz⟩:=r.list hq;refine GJ T.isList (NM r O w) hn (by rw[<- w.length];exact G) λn N =>?_
   obtain⟨d,B,K⟩:=ED N.1.symm w;obtain⟨k,F⟩:=sortedAll_at J.heap D n;refine⟨.ref _,_,r.laid (λb o z=>sortedAll_old z) (jG _) (show jA X.prog X.w _ _ _ (.lst d) from⟨?_,n.toList,k,K,?_⟩),rfl,q _ d _ (r.eY.fresh (jG _)) B (QI r K λy U=>U2 O y (B.subset U)) N.2⟩
   .rw[B.length_eq]
    simp_all
   simp_all
def z9(f:DF):DL:=λρ=>(f ρ).bind λd=>match d with|.lst a=>if (a.all Yf=Z'/\(a.map U9).Nodup)/\a.length<64 then Y (Kf U9 a) else M|_=>M
def NT(h:Yf d=Z'):∃b,d=.tup (.int (U9 d)::b):=by
 cases d with
 |tup a=>
  cases a with
  |nil=>cases h|cons x a=>cases x<;>first|exact⟨a,rfl⟩|cases h
 |_=>cases h
theorem C0{K:aG}(s:bf G H):∀ {f:List D}{a:List V},f.all Yf=Z'->aY K G f a->Paired (LY H) a (f.map U9)
 |[],a,_,r=>by rw[cU.mp r];exact .nil
 |d::f,a,h,r=>by obtain⟨v,t,rfl,l,o⟩:=bD.mp r;simp only[fm,aR]at h;refine .cons ?_ (C0 s h.2 o);obtain⟨p,e⟩:=NT h.1;rw[e]at l;obtain⟨b,q,rfl,m,n⟩:=cL.mp l;obtain⟨w,j,rfl,k,_⟩:=bD.mp n;rw[bK.mp k]at m;exact⟨b,j,rfl,s _ _ m⟩
def QH{g h:List Int}(p:Paired (LY H) d g)(q:Paired (LY H) d h):g=h:=by
 induction p generalizing h with
 |nil=>cases q;rfl|cons r t i=>
  obtain⟨b,n,rfl,l⟩:=r;rcases q with _|⟨⟨o,j,m,a⟩,k⟩
  grind
set_option tactic.hygienic true
def Y1(hg:Gl X "sorted")(hm:X.mg "sorted" = M)(h:PE X e (tQ X.K Z f))(hs:autoParam (ao [e] X.env=(Z_,eval e X.env)::ao [] X.env) ŭ):PE X (.Call (.Name "sorted" p) [e] [] g) (tF X.K Z (z9 f)):=
 (M1 hg hm h hs).imp <|by
  rintro σ H Q ⟨G,ρ,ds,gh,env,eq,k⟩;obtain⟨d,ef,eq⟩:=aa.1 eq;split at eq
  .rename_i xs;split at eq
   .rename_i hz;cases eq;refine⟨G,ρ,_,gh,env,ef,λv G1 H1 E1 r1 =>?_⟩;obtain⟨a,vs,rfl,ha,rs⟩:=r1.lst E1.gh;refine⟨a,vs,_,rfl,.of ha,C0 E1.gh hz.1.1 rs,hz.1.2,by rw[<- rs.length];exact hz.2,λl ys ms hl p1 q1 q2 =>?_⟩;obtain⟨zs,p2,rz⟩:=Kn p1.symm rs;have abB:zs.all Yf=true:=by rw[eN];exact λz hz'=>eN.mp hz.1.1 z (p2.subset hz')
    have e1:=QH q1 (C0 E1.gh abB rz);rw[e1]at q2;rw[(Et (p2.trans (wq U9 xs).symm) q2 (By hz.1.2))]at rz;exact k l ys G1 _ (E1.trans (eJ.lay (p:=l) E1.gh hl)) (E1.hh.free hl) (E1.gh.free hl) aW rz
   .cases eq
  .cases eq
end
section
variable {X:Cx}
noncomputable def dm(c m:aE)(F:List D->Option D)(f:DF)(g:DL):DF:=λa=>(f a).bind λx=>match x with
 |.ins d b h=>if d=c/\m∉b then (g a).bind λe=>F (.ins d b h::e) else M
 |_=>M
set_option tactic.hygienic true in
def EZ{m:aE}{F:List D->Option D}{e:St}(n:js X.K aT c=Y (Y (.ref C)))(l:∀e H Q,AR X.K Z g e H Q->t e H Q)(h:tP X.K Z (dm c m F k g) e H Q):yY C m (iD X.K F) [] E0 (tP X.K Z k) t e H Q:=by
 obtain⟨G,i,d,T,f,b,q⟩:=h;unfold dm at b;rw[aa]at b;obtain⟨x,p,b⟩:=b;split at b
 .split at b
  .rename_i R;obtain⟨rfl,P⟩:=R;rcases o:g i with _|z
   .simp_all
   rw[o]at b;refine⟨G,i,_,T,f,p,λv y H1 j s =>?_⟩;refine ae λkk =>?_
   obtain⟨a,C',dx,vs,rfl,w,S,_⟩:=oi.mp s;rw[n]at w;cases w;refine kk (⟨a,dx,_,rfl,j.gh _ _ S,jK (K:=X.K) (G:=y) P,l _ _ _ ⟨y,i,z,j.gh,f.ext j,o,λB G2 H2 r K =>?_⟩⟩);rw[bL];exact⟨G2,_,d,r.gh,.cons (cS.mono r.gg _ s) K,b,λv G3 H3 E3 E=>q v G3 H3 ((j.trans r).trans E3) E⟩
  .cases b
 .cases b
def WI{c m:aE}{F:List D->Option D}(h:dU X.prog X.w X.K X.mg X.base c m k (iD X.K F))(g:dB k X.A)(i:PE X o (tP X.K Z b)) (e:autoParam (eval (.Call (.Attribute o m I) [] [] A) X.env=(do
   let a <- eval o X.env
   jQ I.atName
   let (f,first) <- iC [a] (hG a m pl)
   j3 A f first (bX A (ao [] X.env)) (eM A (cq [] X.env)))) ŭ):PE X (.Call (.Attribute o m I) [] [] A) (tP X.K Z (dm c m F b aN)):=by
 refine ae λkk =>?_
 obtain⟨C,f,y,x,n,l,j,r,p⟩:=h.ex;exact kk ((rA i l j r g p .nil j6 e).imp λd H Q q=>EZ n (by rintro d H Q ⟨G,w,z,s,v,t,k⟩;cases t;exact k _ G H (.refl s) .nil) q)
def Y3{c m:aE}{F:List D->Option D}{i:DF}{g:DL}(h:dU X.prog X.w X.K X.mg X.base c m k (iD X.K F))(l:dB k X.A)(p:PE X o (tP X.K Z i))(v:PA X (e::J) (AR X.K Z g))(a:autoParam (ao (e::J) X.env=(Z_,eval e X.env)::ao J X.env) ŭ)(b:autoParam ((bX A (ao J X.env)).any (·.1)=false) ŭ) (j:autoParam (eval (.Call (.Attribute o m I) (e::J) [] A) X.env=(do
   let d <- eval o X.env
   jQ I.atName
   let (f,first) <- iC [d] (hG d m pl)
   j3 A f first (bX A (ao (e::J) X.env)) (eM A (cq [] X.env)))) ŭ):PE X (.Call (.Attribute o m I) (e::J) [] A) (tP X.K Z (dm c m F i g)):=by
 refine ae λkk =>?_
 obtain⟨C,f,B,y,n,s,r,w,t⟩:=h.ex;exact kk ((vi p s r w l t .nil j6 v a b j).imp λx H Q q=>EZ n (λu u u z=>z) q)
def EO(a:Bool):D->D->Option D
 |y,.ji b c=>(Fj y).map λk =>.bl (if a then !(fE b c k).isSome else (fE b c k).isSome)
 |_,_=>M
def ND{K:aG}(r:aY K G b c):(sX (a.zip c) k).isSome=(fE a b k).isSome:=by
 rcases e:fE a b k with _|d
 .rw[uI r e];rfl
 obtain⟨v,f,_⟩:=qj r e;rw[f];rfl
def Ld(n:X.A.units+1<qL)(s:PE X e (tQ X.K Z L))(r:PE X o (tQ X.K Z N))(t:autoParam (fK .NotIn o=false) ŭ):PT X (.Compare e [.NotIn] [o] A) (qP X.K Z (c_ (e2 (EO Z') L N))):=
 (Ud (Kv n s r) t).imp <|by
  rintro I H Q ⟨G,h,d,w,c,C,q⟩;refine ae λkk =>?_
  obtain⟨x,y,B,z,b⟩:=Dq (qW C);cases y<;>simp only[EO]at b<;>try (cases b)
  obtain⟨S,D,b⟩:=aj.1 b;cases b;refine kk (⟨G,h,x,w,c,B,λv K H1 g k=>⟨K,h,_,g.gh,c.ext g,z,λu F E f j =>?_⟩⟩);obtain⟨a,P,rfl,p,l,i⟩:=j.VN f.gh;have m:=vt D (k.ext f);subst m;exact⟨a,_,rfl,yl.k p,_,rfl,by rw[ND i];exact q F E (g.trans f)⟩
def IL:D->D->Option D
 |.ji a b,y=>(Fj y).bind λk=>fE a b k
 |_,_=>M
def Rg(p:X.A.units+1<qL)(z:PE X o (tQ X.K Z L))(t:PE X e (tQ X.K Z N))(r:autoParam (V5 e) š):PE X (.Subscript o e A) (tP X.K Z (e2 IL L N)):=
 (Qj p z t r).imp <|by
  rintro S H Q ⟨G,i,d,B,c,F,q⟩;obtain⟨x,y,D,C,b⟩:=Dq F;cases x<;>simp only[IL]at b<;>try trivial
  obtain⟨kk,K,b⟩:=aa.1 b;refine⟨G,i,_,B,c,D,λv R H1 h m=>⟨R,i,y,h.gh,c.ext h,C,λu P I g k =>?_⟩⟩;obtain⟨a,T,rfl,s,l,j⟩:=(m.ext g).VN g.gh;have n:=vt K k;subst n;obtain⟨w,E,f⟩:=qj j b;exact⟨a,w,rfl,by rw[<- E];exact yl.k s,q w P I (h.trans g) f⟩
def zc(i j:Nat)(c m:aE)(s:Sk)(F:List D->Option (List D×D)):DG:=λa=>(t_ j a).bind λd=>match d.1,d.2 with
 |.fs f _,.ins b e _=>if (f=c/\b=c)/\m∉e then (ib s j a).bind λt=>(F [t]).map λr =>.nx (((cZ j a).set j (Y (.obj s r.2))).set i (Y (.lst r.1))) else M
 |_,_=>M
set_option tactic.hygienic true
def Oo{i:Nat}{c m:aE}{s:Sk}{F:List D->Option (List D×D)}(hN:X.N.Nodup)(hx:X.N[i]?=Y x)(hlx:Loc X.env.scope x)(h:dU X.prog X.w X.K X.mg X.base c m k (Kh X.K s F))(hr:dB k X.A)(ho:PE X (.Name y p) (fB j))(hj:autoParam (j∈Z) ū)(L:autoParam (i∈Z) ū)(WB:autoParam (j≠i) ū)(Q:autoParam (∀a,(i,a)∉B.3) Ŧ)(hm2:autoParam (x_ i∉Z) ū) (ht:autoParam (eval (.Call (.Attribute (.Name y p) m I) [] [] A) X.env=(do
   let ov <- eval (.Name y p) X.env
   jQ I.atName
   let (f,first) <- iC [ov] (hG ov m pl)
   j3 A f first (bX A (ao [] X.env)) (eM A (cq [] X.env)))) ŭ) (hs:autoParam (bU (.Call (.Attribute (.Name y p) m I) [] [] A) (Y (.Name x O)) U.line X.env=dn false) ŭ) (hf:autoParam (X.fn x=Z'\/X.env.scope.names.lookup x=Y .local) Ũ) :
  PS X (.Assign [.Name x O] (.Call (.Attribute (.Name y p) m I) [] [] A) U) (gD X.K B u Z Z (zc i j c m s F)):=by
 obtain⟨C,f,fd,ps,n,hc,hm,h1,g⟩:=h.ex;refine(jZ hN hx hlx (rA ho hc hm h1 hr g .nil j6 ht) hs hf).imp ?_;rintro D σ H ⟨G,ρ,o,S,t,q⟩;unfold zc at t;rcases et:t_ j ρ with _|⟨s0,t0⟩
 .rw[et]at t;cases t
 rw[et]at t;simp at t;split at t
 .rename_i c' fk c'' ks ds;split at t
  .rename_i hz;obtain⟨⟨rfl,rfl⟩,hmk⟩:=hz;rcases J:ib s j ρ with _|t1
   .rw[J]at t;cases t
   rw[J]at t;simp only[ai]at t;rcases eF:F _ with _|⟨zs,t'⟩
   .rw[eF]at t;cases t
   rw[eF]at t;cases t;have hd:=jv et;have K:=gx J;rw[K]at hd;obtain⟨a,T,e1,ot,nd,nf,F1,W1,hF1⟩:=S.tree hj K;obtain⟨dx,vs,ex⟩:∃dx vs,H a=Y (.ins C dx (ks.zip vs)):=by
    cases hd;cases ot with|ins n' ex l tt=>rw[n]at n';cases n';exact⟨_,_,ex⟩
   refine⟨_,e1,a,dx,_,rfl,ex,jK (K:=X.K) (G:=G) hmk,?_⟩;refine⟨G,t1,[],zs,t',a,T,[],S.gh,rfl,ot,nd,λb g=>(nf b g).1,.nil,eF,λq' ws T' G' H' E nw ndw P gq fq nq hq rq =>?_⟩;have hu:=ku (r:=j) K λq z=>by cases z
   have R:=(S.J8 (r:=j)).HH (i:=j) (a:=a) (d' :=.obj s t') (F0:=T) (S':=T') (G':=G') (H':=H') (⟨λi d L e=>W1.it i d L (bM e).1,λi d L e=>W1.ok i d L (bM e).1,λi j d c L hj ei ej=>W1.ap i j d c L hj (bM ei).1 (bM ej).1⟩) hj (λb g=>⟨by rw[hF1];exact g,_,hu⟩) E.gg E.gh (λb o e=>by
     rcases E.fr b o e with z|z
     .exact .inl z
     .by_cases g:b∈T
      .exact .inr (.inr g)
      .rw[bV g]at z;exact .inr (.inl z))
    (λb o g e=>E.hh b o (by rw[bV g];exact e)) nw ndw (λb g=>⟨(P b g).1,by rcases(P b g).2 with z|z;exact .inl z;exact .inr (.inl z)⟩) (λb h=>by have:=(S.pin j b h).2;rw[e1]at this;cases this;rfl) (λr p z=>by cases z)
    (λj' p V V V e=>absurd rfl ((bM e).2 p))
   rw[fS e1]at R;obtain⟨Sr,Wr⟩:=R;have R2:=(Sr.HH (i:=i) (a:=q') (d' :=.lst zs) (F0:=[]) (S':=[q']) (G':=G') (H':=H') Wr L (λb g=>by cases g) (bf.refl _) Sr.gh (λb o e =>.inl e) (λb o V e=>e)
    ((mq.cell rfl).mpr ⟨⟨_,hq,ws,rfl,rq⟩,rfl⟩) Ž (λb g=>by
     simp at g;subst g;have hB:B.2 b=none:=by
      rcases fq with z|z
      .exact(nf b z).2
      .exact S.h0.free z
     refine⟨gq,.inr (.inr ⟨hB,λk cc hk ek NX v =>?_⟩)⟩;by_cases w:k=j
     .subst w;simp only[if_true]at v;exact nq v
     .simp only[if_neg w]at v;rw[av (bE w)]at ek;have ek':=(bM ek).1;rcases fq with z|z
      .exact W1.ap j k _ cc hj hk K ek' (bE w) b (by rw[hF1];exact z) v
      .obtain⟨y,f1,f2⟩:=W1.it k cc hk ek';obtain⟨o,ho⟩:=f2.here b v;rw[ho]at z;cases z) (λb h=>absurd h (Q b)) (λr p z=>by cases z)
    (λj' p h1 h2 V e=>by obtain⟨_,g0,_⟩:=Sr.eQ j' i p h1 h2 e;exact absurd g0 hm2)).1
   exact q _ G' H' R2
  .cases t
 .cases t
end
section
variable {X:Cx}{m:Pos}
end
section
variable {X:Cx}
def GP(b:Bool)(j:Nat)(c f:aE)(e:DM):DG:=λd=>(e d).bind λw=>(F8 b j w.2).bind λq=>(t_ q.1 w.2).bind λa=>(wW c a.1 a.2 q.2).bind λz=>
 if Fm (dJ z.1 f)=Z'/\z.2.1.length<999 then Y (.nx (w.2.set q.1 (Y (.obj a.1 (lS (.ins c (jF f w.1 z.2.1 z.2.2).1 (jF f w.1 z.2.1 z.2.2).2) q.2 a.2))))) else M
set_option tactic.hygienic true
def Ov{b:Bool}{c f:aE}{K:DM}(h:PE X (.Name x p) (fB j))(he:PE X e (tM X.K B Z K))(J:pQ X.K c f)(hj:autoParam (j∈Z) ū)(hb:autoParam (b=Z'->A8 j∈Z) ū)(ha:autoParam (f∉Bh) ū)(hs:autoParam (bU e (Y (.Attribute (.Name x p) f u)) n.line X.env=dn false) ŭ):PS X (.Assign [.Attribute (.Name x p) f u] e n) (gD X.K B y Z Z (GP b j c f K)):=(wA h he hs).imp <|by
 rintro D σ H ⟨G,E,o,S,i,k⟩;obtain⟨⟨d,F⟩,ef,i⟩:=aa.1 i;rcases q:F8 b j F with _|⟨r,T⟩
 .simp[q]at i
 rcases z:t_ r F with _|⟨s,t⟩
 .simp[q,z]at i
 rcases I:wW c s t T with _|⟨fk,ks,ds⟩
 .simp[q,z,I]at i
 simp only[q,z,I,ai]at i;split at i
 .rename_i hz;cases i;obtain⟨i1,U⟩:=sA I;refine⟨G,E,d,F,S,ef,λv G' H' P s' R =>?_⟩;refine ae λkk =>?_
  obtain⟨hr,s1,t',a,v',O,e2,e3,e4⟩:=P.F8 q hj hb;have w:=jv z;rw[w]at O;obtain⟨a',Q,C,dx,vs,N,g,L,f4,f5,f6⟩:=P.QT hr w i1 U hz.1 ha R;rw[e2]at N;cases N;rw[e4]at g;cases g;refine kk (⟨_,e3,Q,C,dx,_,rfl,f4,(J C L).1,(J C L).2,?_,k _ G' _ f6⟩);rw[pU f5];lia
 .cases i
end
section
variable {X:Cx}{m:List Nat}
def yK(F:List D->Option (D×List D))(g:DL)(h:DL):DF:=λb=>(g b).bind λc=>(h b).bind λd=>(F (.lst c::d)).map λq=>q.1
def Lk{F:List D->Option (D×List D)}(ho:ju X.prog X.w X.K X.mg X.base x k (AV X.K 0 F))(hr:dB k X.A)(hg:Gl X x)(hl:PE X b (tF X.K m g))(ha:PA X a (AR X.K m h))(J:autoParam ((x==("__debug__" : aE))=false) ū)(S:autoParam (ao (b::a) X.env=(Z_,eval b X.env)::ao a X.env) ŭ)(I:autoParam ((bX n (ao a X.env)).any (·.1)=false) ŭ):PE X (.Call (.Name x p) (b::a) [] n) (tP X.K m (yK F g h)):=by
 obtain⟨f,fd,ps,h1,hm,hk,r⟩:=ho.ex;refine(mG h1 hr hg hm hk r .nil j6 (bS hl ha S) J S I).imp ?_;rintro σ H Q ⟨G,A,d,gh,u,j,q⟩;refine ae λkk =>?_
 obtain⟨s,K,j⟩:=aa.1 j;obtain⟨W,L,j⟩:=aa.1 j;obtain⟨⟨d',E⟩,eF,j⟩:=aj.1 j;cases j;refine kk (⟨G,A,s,gh,u,K,λl U G1 H1 O R gn t rl=>⟨G1,A,W,O.gh,u.ext O,L,λus N H2 w P =>?_⟩⟩);show AV X.K 0 F _ H2 Q E0;rw[bL];have g2:N l=none:=by
  rcases z:N l with _|o
  .exact ź
  rcases w.fr l o z with y|y<;>simp_all
 refine⟨N,.lst s::W,d',E,l,U,s,w.gh,rfl,rfl,w.hh _ _ t,aY.mono w.gg s rl,g2,λi c hi ec =>?_,by simp[P.length],eF,λv T G3 H3 C g3 h3 r4 r5 =>?_⟩
 .cases i with
  |zero=>exact absurd rfl hi|succ i=>exact P.get (i:=i) (by assumption)
 .have B:=O.trans w;refine q v G3 H3 ⟨λb o e=>C.hh b o ?_,B.gg.trans C.gg,C.gh,λb o e =>?_⟩ r5
  .rw[uF (λz=>by simp_all)];exact B.hh b o e
  .rcases C.fr b o e with z|z
   .exact B.fr b o z
   .by_cases r:b=l
    .simp_all
    .rw[uF r]at z;refine .inr ?_;rcases qq:H b with _|o'
     .exact ź
     rw[B.hh b o' qq]at z;cases z
end
def uN.mono{P:aZ}{K:aG}{d:Sp}(h:uN P w K e b c j d)(i:j<=k):uN P w K e b c k d:=by
 obtain⟨C,f,s,g,r,q,p,o,l⟩:=h.ex;exact⟨C,f,s,g,r,q,p,o.mono i,l⟩
def Zr(h:cy)(e:ax)(b:aq)(l:Option ax)(j f:aq)(T:ax):Prop:=
 ∃g a d c,h.get? e=Y g/\g.cls=b/\g.dict=l/\g.data=.fields a/\a[0]?=Y j/\a[1]?=Y (.ref T)/\T≠e/\h.get? T=Y d/\d.data=.fields c/\c[3]?=Y f
structure O3(fs:List ax)(e:ax)(h h':cy):Prop where
 keep:∀b o,b≠e->b∉fs->h.get? b=some o->h'.get? b=some o
 slot:∀b o,b≠e->b∈fs->h.get? b=some o->∃sl,h'.get? b=some { o with slots:=sl }
def Obj.rV(o:Obj)(f:Array aq->Array aq):(Obj.mapFields f o).dict=o.dict:=by
 obtain⟨c,d,b,s⟩:=o;cases b<;>rfl
section
variable {V:Pu}{s:aw}
def D3(O:A.frames=Y (i::k))(X:s.heap.FunFrames base (i::k))(hf:i.frame=Y L)(P:s.heap.get? e=Y g)(I:g.data=.fields a)(h1:a[1]?=Y .none)(h0:a[0]?=Y j)(h:∀S T,O3 (zY (i::k)) e s.heap S->Zr S e g.cls g.dict j .none T->T=s.heap.objs.size->Q () { s with heap:=S }):be V A (leaving i (.ref e)) Q E s:=by
 have F:e∉zY (i::k):=λhm=>by obtain⟨_,o,U,N⟩:=X.mem hm;rw[P]at U;cases U;exact N a I
 have D:1<a.size:=(kE.mp h1).1;unfold leaving;refine ah ?_;unfold noteFrame;rw[hf];refine ah (jr P I h1 ?_);rw[if_neg (by decide)];refine ah (wpAny_frameOf_fun O X hf λc d =>?_);refine ah (wpAny_entryPlaceOf λw K =>?_);refine ah ?_;unfold EntryCells.newEntry;refine LG ?_ (IsPlace.sizeOk5 K _ _ _ _ _);have t:c.get? e=Y g:=(d.2.1 e F).trans P;have r:=ak { cls:=cg "traceback",data:=f7 ([aS,aQ L,aS,nT ↑L,aS]++if w.isEmpty=Z' then aM 6 aS else w).toArray } t;refine oV r I D ?_;have B:c.objs.size≠e:=gj (aI t);have l:=Obj.data_mapFields I λx=>x.setIfInBounds 1 (aQ c.objs.size)
 have p:=cM (Obj.mapFields λx=>x.setIfInBounds 1 (aQ c.objs.size)) r (Obj.isFreed_of_fields l);have v:=(bC (c.push { cls:=cg "traceback",data:=f7 ([aS,aQ L,aS,nT ↑L,aS]++if w.isEmpty=Z' then aM 6 aS else w).toArray }) (Obj.mapFields λx=>x.setIfInBounds 1 (aQ c.objs.size)) (bE B)).trans (bg c rfl);have g1:(a.setIfInBounds 1 (aQ c.objs.size))[1]?=Y (aQ c.objs.size):=by simp[D]
 have g0:(a.setIfInBounds 1 (aQ c.objs.size))[0]?=Y j:=by rw[nU (by decide)];exact h0
 unfold D0;refine ah (jr p l g1 ?_);rw[if_pos (by simp)];have C:3<([aS,aQ L,aS,nT ↑L,aS]++if w.isEmpty=Z' then aM 6 aS else w).toArray.size:=Ž
 refine oV v rfl C ?_;have n:s.heap.get? c.objs.size=none:=by
  rw[d.1];rcases q:s.heap.get? s.heap.objs.size with _|o
  .rfl
  exact absurd (aI q) (i_ _)
 have m:∀b o,b≠e->b≠c.objs.size->c.get? b=Y o->((Heap.update (c.push { cls:=cg "traceback",data:=f7 ([aS,aQ L,aS,nT ↑L,aS]++if w.isEmpty=Z' then aM 6 aS else w).toArray }) e (Obj.mapFields λx=>x.setIfInBounds 1 (aQ c.objs.size))).update c.objs.size (Obj.mapFields λx=>x.setIfInBounds 3 (Gf M aS λf=>nT ↑f))).get? b=Y o:=λb o u R y=>by rw[bC _ _ (bE R),bC _ _ (bE u)];exact ak _ y
 refine h _ c.objs.size ⟨λb o u H y =>?_,λb o u H y =>?_⟩ ?_ d.1
 .refine m b o u ?_ ((d.2.1 b H).trans y);intro z;rw[z,n]at y;cases y
 .obtain⟨sl,J⟩:=d.2.2 b o y;refine⟨sl,m b _ u ?_ J⟩;intro z;rw[z,n]at y;cases y
 .have G:=Obj.data_mapFields (o:={ cls:=cg "traceback",data:=f7 ([aS,aQ L,aS,nT ↑L,aS]++if w.isEmpty=Z' then aM 6 aS else w).toArray }) rfl λx=>x.setIfInBounds 3 (Gf M aS λf=>nT ↑f)
  refine⟨_,_,_,_,(bC _ _ B).trans p,Obj.cls_mapFields _ _,Obj.rV _ _,l,g0,g1,B,cM _ v (Obj.isFreed_of_fields G),G,?_⟩;simp
end
section
variable {m:aE}{v:List aq}
noncomputable abbrev qh(h:cy)(C:ax)(d:List aq):cy:=(h.push { cls:=cg "tuple",data:=Data.seq d.toArray }).push { cls:=aQ C,data:=f7 #[aQ h.objs.size,aS,aS,aS,uS Z_,aS] }
def J3(Fn:tw k l z o)(hBn:i.contains (cg k)=Z')(F:tw B U b i)(T:OwnTail h i j){R:List aq}{f:ax}(hC:h.get? C=Y (Pq m q C N n j p u v x y G H I J L O l))(hn:h.Ns N mN)(hni:mN (af "__init__")=Y (.ref f))(Yn:R.length<=a_)(hf:∀(s:aw) (P:aq->aw->Prop),s.heap=qh h C R->P (.type "function") s->be (aV a w) A (DQ (.ref f)) P E s)(hq:be (aV a w) A (HX (.ref f) (.ref (h.objs.size+1)::R)) (λr s'=>r=.none/\Q (Fin.done (Flow.ret (aQ (h.objs.size+1)))) s') E { heap:=qh h C R,gens:=g,drawn:=d,toks:=t,os:=c }):
  be (aV a w) A (Builtin.«type.__call__» { pos:=aQ C::R }) Q E { heap:=h,gens:=g,drawn:=d,toks:=t,os:=c }:=by
 unfold Builtin.«type.__call__»;refine h_ rfl ?_;refine ah ?_;refine ah (M:=aV a w) ?_;refine ah (M:=aV a w) ?_;refine wpAny_load' hC ?_;refine aF (aF ?_);refine h_ rfl ?_;refine ah (wpAny_madeBy_exc hC ?_);refine ah (aF ?_);refine ah (fJ (qs (codeAny_call_builtin_code (Code.quiet_builtin { pos:=aQ C::R } Fn.quiet) (wpAny_check_new_subU Fn hBn T hC (codeAny_exc_new_subU Fn hBn F T hC ?_ Yn)))));have S:=ak { cls:=aQ C,data:=f7 #[aQ h.objs.size,aS,aS,aS,uS Z_,aS] } (ak { cls:=cg "tuple",data:=Data.seq R.toArray } hC);have hn₁:(qh h C R).Ns N mN:=by obtain⟨D,es,ep,e,r⟩:=hn;exact⟨D,es,ep,ak _ (ak _ e),r⟩
 have X:(qh h C R).get? (h.objs.size+1)=Y { cls:=aQ C,data:=f7 #[aQ h.objs.size,aS,aS,aS,uS Z_,aS] }:=Heap.get?_push_at (by simp[eO]) rfl;have T₁:OwnTail (qh h C R) i j:=T.keeps λK D e=>ak _ (ak _ e)
 have hcC:(aQ C::j).contains (aQ C)=true:=Ž
 refine ah ?_;refine ah (M:=aV a w) ?_;refine ah (M:=aV a w) ?_;refine jq X ?_;refine aF ?_;refine wpAny_isSubtype_exc S ?_;rw[hcC];refine h_ rfl ?_;refine ah (fJ ?_);unfold callSpecial?;refine ah ?_;unfold specialOf;refine ah (M:=aV a w) ?_;refine ah (M:=aV a w) ?_;refine jq X ?_;refine aF ?_;refine wpAny_typeLookup_tail S hn₁ T₁ F.mroIs F.init.lookup ?_;rw[hni];refine fJ ?_;refine ah ?_;unfold bindSpecial;refine ah (hf _ _ rfl ?_);rw[if_pos (by decide)];refine aF ?_;refine ah ?_;refine dP hq (λr s' hr =>?_) (λK K W=>W);obtain⟨rfl,hr⟩:=hr;refine aF ?_;refine h_ rfl ?_;exact aF hr
def D4(Fn:tw k l z o)(S:i.contains (cg k)=Z')(F:tw B U b i)(T:OwnTail h i j){X:aE->Option aq}{D:List aq}{f:ax}(W:h.get? C=Y (Pq m q C N n j p u v x y G H I J L O l))(hn:h.Ns N X)(R:X (af "__init__")=Y (.ref f))(K:D.length<=a_)(hf:∀(A:fF) (E:aq->aw->Prop) (s:aw) (P:aq->aw->Prop),s.heap=qh h C D->P (.type "function") s->be (aV a w) A (DQ (.ref f)) P E s)(hq:be (aV a w) (A.under (.builtin "type.__call__" ⟨.ref C::D,[]⟩)) (HX (.ref f) (.ref (h.objs.size+1)::D)) (λr s'=>r=.none/\Q (aQ (h.objs.size+1)) s') E { heap:=qh h C D,gens:=g,drawn:=d,toks:=t,os:=c }):
  be (aV a w) A (HX (.ref C) D) Q E { heap:=h,gens:=g,drawn:=d,toks:=t,os:=c }:=by
 have hT:({ heap:=h,gens:=g,drawn:=d,toks:=t,os:=c }:aw).TypeIs (aQ C) "type" :=⟨_,W,rfl⟩;refine qs (codeAny_of_tree ?_);refine ah (M:=aV a w) (wpAny_load' W ?_);refine ah (M:=aV a w) (wpAny_specialOf hT tc_lookup ?_);refine ah (M:=aV a w) (wpAny_of_eq (tc_bind (aQ C)) ?_);refine ah (M:=aV a w) ?_;refine aF (V' rfl (aF ⟨rfl,?_⟩));refine codeAny_call_builtin_at (args:=⟨aQ C::D,[]⟩) (Code.quiet_builtin _ ų) entry_typeCall (wpAny_check_type_call_sub W ?_);exact J3 Fn S F T W hn R K (λs P e q=>hf _ _ s P e q) hq
end
end L2
namespace L2
open PySem PySem.Spec PyProof.Rows PySem.W
section
variable {s:aw}{K:aG}{name:aE}
structure WM(K:aG)(C:ax):Prop where
 ga:iJ K (.ref C) "__getattribute__" = some (some (.builtin "BaseException.__getattribute__"))
 gt:iJ K (.ref C) "__getattr__" = some none
 mb:mroIn K C (.type "BaseException")=some true
def L7{m:Bool}(X:K.In s.heap)(I:InstAt s.heap x c C b)(g:WM K C) (h:∀R:Pe->aw->Prop,(∀v j,be (aV a w) A (handedOut v) Q E j->R (.ok (.ret v)) j)->be (aV a w) A.in1 (Builtin.«object.__getattribute__» ⟨[.ref x,.str name i],[]⟩)
   (λkC j=>match kC with|.done f=>R (.ok f) j|.again F=>F.quiet=Z'/\m9 (aV a w) A F R j) (λe j=>R (.error e) j) s) :
  be (aV a w) A (getAttrBy (.ref x) (.str name i) m k) Q E s:=by
 obtain⟨y,D,d,t,B⟩:=s;have G:=I.type (M:=aV a w);have n:=looks_findIn (M:=aV a w) X g.ga;have L:=looks_findIn (M:=aV a w) X g.gt;have J:=PySem.F.attr_ValueError.ga.bind (.ref x);have u:(k&&onTheHeap (Value.builtin "BaseException.__getattribute__"))=false:=by cases k<;>solve_by_elim
 have q:(onTheHeap (aQ C)&&Value.builtin "BaseException.__getattribute__" == Value.builtin "object.__getattribute__")=false:=ź
 have H:builtinKind "BaseException.__getattribute__" = Y .slot:=ų
 have l:splitId "BaseException.__getattribute__" = Y ("BaseException","__getattribute__"):=ų
 unfold getAttrBy;refine fJ (ah (G.at (ah (n.at ?_))));dsimp only;unfold getAttrByItsOwn hookBefore;refine ah ?_;refine L.at (ah (Ga (fJ ?_)));unfold callGetattribute;rw[if_neg (by rw[u];simp)];unfold boundAndCalled;rw[J];have o:m9 (aV a w) A _ (λr j=>match r with|.ok (.ret v)=>be (aV a w) A (handedOut v) Q E j|_=>False) ⟨y,D,d,t,B⟩:=
  codeAny_call_builtin PySem.F.attr_ValueError.ga.plain PySem.F.entry_bexc_ga (@check_slot (aV a w) _ _ ⟨y,D,d,t,B⟩ _ "BaseException" _ (.ref x) [.str name i] [] _ H l (G.andThen (looks_mroIn X g.mb)) (PySem.F.args_bexc_ga (.ref x) (.str name i)) (h (λr j=>match r with|.ok (.ret v)=>be (aV a w) A (handedOut v) Q E j|_=>False) λv j z=>z))
 refine ah (aF (qs (oW o λr j z =>?_)));rcases r with e|(v|_|_|_)
 .exact eE z
 .exact eE z
 .exact eE z
 .exact eE z
 .exact z
def L5{v:aq}(X:K.In s.heap)(I:InstAt s.heap x c C b)(g:WM K C)(k:findObj K C b name=Y (.value v))(j:handedIn v=Z')(h:Q v { s with toks:=s.toks+1 }):
  be (aV a w) A (getAttr (.ref x) name e) Q E s:=by
 refine ah (wpAny_mkText (L7 X I g λR l =>?_));have n:=I.type (M:=aV a w);have m:=looks_find (M:=aV a w) X I k;refine ah (aF ?_);refine ah (aF (ah (n.at (ah (m.at ?_)))));refine aF (l v _ ?_);rw[handedOut_of j];exact aF h
def L6(X:K.In s.heap)(I:InstAt s.heap x c C b)(g:WM K C)(k:findObj K C b "__class__" = Y (.bind (.builtin "getset_descriptor.__get__") (.builtin "object.__class__")))(j:mroIn K C (.type "object")=Y Z')(h:Q (Y (.ref C)) { s with toks:=s.toks+1 }):
  be (aV a w) A (getAttr? (.ref x) "__class__") Q E s:=by
 unfold getAttr? getAttrBy?;refine ah (wpAny_mkText (ah (Ga (L7 (s:={ s with toks:=s.toks+1 }) X I g λR l =>?_))));obtain⟨e,m,d,t,f⟩:=s;have o:=I.type (M:=aV a w);have n:=looks_find (M:=aV a w) X I k;unfold Builtin.«object.__getattribute__»;refine ah (aF ?_);refine ah (aF (ah (o.at (ah (n.at ?_)))));show be _ _ (iC _ (HX _ _) >>= ret) _ _ _;refine ah (fJ (qs (class_get (ox:=c) (od:=b) (s:=⟨e,m,d,t+1,f⟩) X I j ?_)));refine aF (l _ _ ?_);rw[handedOut_of rfl];exact aF (aF h)
set_option tactic.hygienic true
def NN{b:Option Obj}(g:WM K C)(f:oH K C=Z')(y:iJ K (.ref C) "__class__" = Y (Y (.builtin "object.__class__")))(u:specialIn K (.builtin "object.__class__") "__get__" = Y (Y (.builtin "getset_descriptor.__get__")))(m:takesIn K (.builtin "object.__class__")=Y Z')(v:mroIn K C (.type "object")=Y Z'):
  KitX K (.ref x) (.ref C) (λh=>InstAt h x c C b) where
 ty:=λa a a I=>I.type
 it:=λa a X a=>by
  obtain⟨p,d,_⟩:=any_some f;unfold clsIn at d;split at d
  .rename_i B A r j o;intro L H J E k q;unfold isType loadHead;exact ah (uQ (k _ _ (X _ _ o)) (aF q))
  .cases d
 ne:=λh s F t n D X l=>by
  obtain⟨p,d,_⟩:=any_some f;refine Bool.eq_false_iff.mpr λq =>?_
  have e:C=s:=Value.ref.inj (beq_iff_eq.mp q);subst e;unfold clsIn at d;split at d
  .rename_i B A r j o;have z:=(X _ _ o).symm.trans l;cases z
  .cases d
 ca:=λX I k=>L6 X I g (by obtain⟨G,w,_⟩:=any_some f;unfold findObj;rw[w];simp only[ai,y,u,m]) v k
end
end L2
namespace L2
open PySem PySem.Spec PyProof.Rows
section
variable {s:aw}{K:aG}{name:aE}{v:aq}
noncomputable def yz:List aq->Bool
 |.ref _::r=>yz r|l=>l==[.type "ValueError",.type "Exception",.type "BaseException",.type "object"]
theorem zg(self:aq):∀ {l:List aq},yz l=Z'->refuseLoop self "__setattr__" l=dn ()
 |.ref c::r,e=>by rw[refuseLoop_ref];exact zg _ e
 |[],e=>by cases e
 |.type n::r,e=>by rw[beq_iff_eq.mp e];exact PySem.F.store_ValueError.passes _
 |.none::r,e=>by cases e
 |.bool b::r,e=>by cases e
 |.int i t::r,e=>by cases e
 |.float i t::r,e=>by cases e
 |.str i t::r,e=>by cases e
 |.bytes i t::r,e=>by cases e
 |.builtin i::r,e=>by cases e
 |.ellipsis::r,e=>by cases e
 |.notImplemented::r,e=>by cases e
theorem Jk:∀ {l:List aq},yz l=Z'->l.contains (.type "object")=Z'
 |.ref c::r,e=>by rw[List.contains_cons,Jk (l:=r) e,Bool.or_true]
 |[],e=>by cases e
 |.type n::r,e=>by rw[beq_iff_eq.mp e];decide
 |.none::r,e=>by cases e
 |.bool b::r,e=>by cases e
 |.int i t::r,e=>by cases e
 |.float i t::r,e=>by cases e
 |.str i t::r,e=>by cases e
 |.bytes i t::r,e=>by cases e
 |.builtin i::r,e=>by cases e
 |.ellipsis::r,e=>by cases e
 |.notImplemented::r,e=>by cases e
def yJ(K:aG)(C:ax):Bool:=(PySem.W.clsIn K C).any λa=>yz a.mro
def Qp{R:Pe->aw->Prop}{r:Option aq}(X:K.In s.heap)(I:PySem.W.InstAt s.heap x u C y)(D:yJ K C=Z')(B:Pb K C name=Y r) (h:∀b,be (aV d w) A.in1 (match r with|some a=>Builtin.ObjectAttr.setByDescriptor a (.ref x) v|none=>Builtin.ObjectAttr.storeInOwnDict (.ref x) (.ref C) (.str name j) name v b)
   (λkC k=>match kC with|.done f=>R (.ok f) k|.again t=>t.quiet=Z'/\m9 (aV d w) A t R k) (λe k=>R (.error e) k) s) :
  m9 (aV d w) A (.call (.builtin "object.__setattr__") ⟨[.ref x,.str name j,v],[]⟩) R s:=by
 have i:=PySem.F.store_object;obtain⟨n,p,l⟩:=PySem.W.any_some D;have z:n.mro.isEmpty=false:=by cases q:n.mro with|nil=>rw[q]at l;cases l|cons _ _=>solve_by_elim
 refine codeAny_call_builtin i.slot.plain i.entry (@PySem.W.check_slot (aV d w) _ _ s "object.__setattr__" "object" "__setattr__" (.ref x) [.str name j,v] [] _ i.kind i.split (I.type.andThen (PySem.W.looks_mroIn X (by unfold PySem.W.mroIn;rw[p,ai,if_neg (by rw[z];simp),Jk l]))) (i.args (.ref x) (.str name j) v) ?_);obtain⟨c,G,o⟩:=aa.mp B;have E:PySem.W.Looks (aV d w) s.heap (mroOf (.ref C)) n.mro:=(PySem.W.looks_clsIn X p).andThen .now;have H:PySem.W.Looks (aV d w) s.heap (Builtin.ObjectAttr.storeTaker? c) r:=by
  cases c with
  |none=>cases o;exact .now|some a=>obtain⟨b,F,rfl⟩:=aj.mp o;refine(PySem.W.looks_takesIn X F).andThen ?_;cases b<;>exact .now
 rw[PySem.W.osa_eq,refuse_eq];refine ah (ah (I.type.here (ah (E.here ?_))));rw[zg _ l];refine aF (ah (I.type.here (ah ((PySem.W.looks_findIn X G).here (ah (H.here ?_))))));exact h _
def Q1(X:K.In s.heap)(hx:s.heap.get? x=Y ⟨.ref C,M,.fields g,#[]⟩)(hs:iJ K (.ref C) "__setattr__" = Y (Y (.builtin "object.__setattr__")))(hp:yJ K C=Z')(ht:Pb K C name=Y M)(hh:oH K C=Z')(h:∀h',h'.get? x=Y ⟨.ref C,Y s.heap.objs.size,.fields g,#[]⟩->h'.Ns1 s.heap.objs.size (λy=>if y=name then Y v else M)->(∀b o,b≠x->s.heap.get? b=Y o->h'.get? b=Y o)->Q () { s with heap:=h',toks:=s.toks+2 }):
  be (aV d w) A (setAttr (.ref x) name v) Q E s:=by
 have J:PySem.W.InstAt s.heap x ⟨.ref C,M,.fields g,#[]⟩ C none:=⟨hx,rfl,rfl,trivial⟩;refine PySem.W.set_plain X J hs (Qp (s:={ s with toks:=s.toks+1 }) (r:=M) X J hp ht λb =>?_);obtain⟨cd,hc,hd'⟩:=PySem.W.any_some hh;refine ah (aF (ah ?_));refine ah (M:=aV d w) ?_;refine uQ hx ?_;refine ah (PySem.W.Looks.here (s:={ s with toks:=s.toks+1 }) (PySem.W.looks_clsIn X hc) ?_);rw[hd'];refine h_ rfl ?_;refine h_ rfl ?_;refine ah (wpAny_alloc ?_);have hx1:(s.heap.push { cls:=cg "dict",data:=Pj #[] }).get? x=Y ⟨.ref C,M,.fields g,#[]⟩:=ak _ hx;refine ah (wpAny_update hx1 ?_);refine aF (a:=Y s.heap.objs.size) (ah (aF (ah ?_)));have hxd:s.heap.objs.size≠x:=gj (aI hx);have hx2:=cM (λo:Obj=>{ cls:=o.cls,dict:=Y s.heap.objs.size,data:=o.data,slots:=o.slots }) hx1 rfl;have hd2:((s.heap.push { cls:=cg "dict",data:=Pj #[] }).update x λo=>{ cls:=o.cls,dict:=Y s.heap.objs.size,data:=o.data,slots:=o.slots }).get? s.heap.objs.size=Y { cls:=cg "dict",data:=Pj #[] }:=
  (bC _ _ (bE hxd)).trans (bg s.heap rfl)
 have Vl:=
  Heap.Ns1.of_empty ⟨_,#[],_,hd2,rfl,(λe he=>absurd he Ž),λ_=>rfl⟩
 refine wpAny_nsSet1 Vl λh' hn2 hs2 =>?_
 have hw:PySem.Within (λ_:aE=>(M:Option aq)) []:=λy hy=>absurd rfl hy
 obtain⟨oD,esD,epD,hoD,hdD,hcD⟩:=hn2.count (PySem.Within.cons name v hw);refine ah (wpAny_lookBehind hoD (by rw[hdD];exact pastItsLine_dict (bz hcD (by rw[bo];exact Nat.le_add_left _ _))) ?_);refine aF (h h' ((hs2.2 _ (bE hxd)).trans hx2) hn2 λb o hb e =>?_);have hbd:b≠s.heap.objs.size:=bH (aI e);refine(hs2.2 b hbd).trans ?_;refine(bC _ _ (bE hb)).trans ?_;exact ak _ e
end
section
variable {sub:List aq}{s:aw}
def Ck(i:a.contains (cg "BaseException")=Z')(t:A.handled=M)(h:be U A x (λv f=>∃e j m,v=.ref e/\f.heap.get? C=Y (Pq nm q C N bs a hdct sn sub ab col dd k0 k1 k2 k3 k5 newId)/\f.heap.get? e=Y j/\j.cls=.ref C/\j.data=.fields m/\m[1]?=Y .none/\E (.ref e) f) E s):
  be U A (raiseStmt b (Y x) M) Q E s:=by
 unfold raiseStmt;refine ah (dP h ?_ λc c z=>z);rintro v f ⟨e,j,m,y,r,k,p,l,w,u⟩;subst y;have n:(aQ C::a).contains (cg "BaseException")=true:=by rw[List.contains_cons,i];simp
 refine ah (aF (ah (fJ ?_)));unfold excFromValue;refine ah ?_;unfold isExcClass;refine ah (M:=U) ?_;unfold isType;refine ah (M:=U) ?_;refine jq k ?_;refine aF ?_;rw[l];refine h_ rfl (aF (h_ rfl ?_));refine ah ?_;unfold isInstance DQ;refine ah (M:=U) ?_;refine ah (M:=U) ?_;refine jq k ?_;refine aF ?_;rw[p];refine wpAny_isSubtype_exc r ?_;rw[n];refine V' rfl (aF ?_);refine ah (M:=U) ?_;refine ah (M:=U) ?_;refine jq k ?_;refine aF ?_;rw[l];refine h_ rfl ?_;refine ah ?_;unfold raisedInstance DQ;refine ah (M:=U) ?_;refine ah (M:=U) ?_;refine jq k ?_;refine aF ?_;rw[p];refine ah (M:=U) ?_;refine ah (M:=U) ?_;refine jq r ?_;refine aF ?_;refine V' rfl (aF ?_);refine ah ?_;unfold D0;refine ah (jr k l w ?_);refine aF ?_;exact wpAny_raiseNew_none t u
end
noncomputable def fc(a:ax)(o:Obj):HO :=.ext λh=>h.get? a=Y o
theorem fc.ok{P:aZ}{H:Hp}{h:cy}{a:ax}(e:h.get? a=Y o):jA P w H h a (fc a o):=
 ⟨e,⟨o,e⟩,λb b p k=>k o p⟩
def fc.get{P:aZ}{H:Hp}{h:cy}{a:ax}(b:mZ P w H h)(e:H a=Y (fc a o)):h.get? a=Y o:=(b a _ e).1
noncomputable abbrev Cg(C t:ax):Obj:={ cls:=aQ C,data:=f7 #[aQ t,aS,aS,aS,uS Z_,aS] }
noncomputable abbrev Wf(C t a:ax):Obj:={ cls:=aQ C,dict:=Y a,data:=f7 #[aQ t,aS,aS,aS,uS Z_,aS] }
structure RG(K:aG)(C:ax)(f:aE):Prop where
 sa:iJ K (.ref C) "__setattr__" = some (some (.builtin "object.__setattr__"))
 po:yJ K C=true
 tk:Pb K C f=some none
 hd:oH K C=true
section
variable {X:Cx}{d:List (ax×Obj)}{i:St}{H:Hp}{s:aw}{A:fF}{E:aq->aw->Prop}{C a t:ax}{f:aE}
def Pw(I:Inv X d i H s)(e:H a=Y (fc a (Cg C t)))(c:RG X.K C f)(W:RelV y u)(h:∀p F,H p=M->p≠a->Inv X d i (dD (dD H p (.xd [(f,y)])) a (fc a (Wf C t p))) F->Q () F):be (aV X.prog X.w) A (setAttr (.ref a) f u) Q E s:=by
 have G:=fc.get I.eY e;refine Q1 I.qJ G c.sa c.po c.tk c.hd λR l B N =>?_
 have O:=I.eY.fresh (aH s.heap.objs.size);have m:=gj (aI G);obtain⟨j,J,K,z,n,x,w,r⟩:=id B;have D:j.isFreed=false:=by obtain⟨c1,d1,T,sl⟩:=j;subst n;exact ź
 have L:=bg s.heap D;have k:∀g,pL ([(f,y)].lookup g) (if g=f then Y u else M):=λg=>by
  by_cases q:g=f
  .rw[if_pos q,q];simp[Wb];exact W
  .rw[if_neg q];have:(g==f)=false:=by simp[q]
   simp[Wb,this]
   exact ź
 have U:=I.laid (o :=.xd _) (t':=s.toks+2) (λb v q=>ak _ q) (aH _) ⟨_,⟨j,J,K,L,n,x,w,r⟩,k⟩;have S:dD H s.heap.objs.size (.xd [(f,y)]) a=Y (fc a (Cg C t)):=by rw[aP (bE m)];exact e
 refine h s.heap.objs.size _ O m (U.write (x:=a) (e:=a) (by rw[S];exact ź) (.inl rfl) (λb v P q =>?_) ⟨_,l⟩ (fc.ok l))
 grind [Heap.get?_push_ne]
end
section
variable {X:Cx}{m:TE}{f:aE}
def Xt(K:aG)(j l:TE)(f:aE):TS:=λD c H=>l c H λy e=>j c e λx d=>∃a C t,x=.ref a/\d a=Y (fc a (Cg C t))/\RG K C f/\∀b,d b=M->b≠a->D.nx c (dD (dD d b (.xd [(f,y)])) a (fc a (Wf C t b)))
def Qc(E:PE X o j)(r:PE X z l)(v:bU z (Y (.Attribute o f A)) i.line X.env=dn Z_):PS X (.Assign [.Attribute o f A] z i) (Xt X.K j l f):=by
 intro b s d H D I h;refine LZ (fo (r b s d H _ I h) ?_) v;rintro u e ⟨y,N,m,g,q⟩;refine fo (E b e d N _ m q) ?_;rintro p P ⟨x,Q,L,k,a,C,t,F,G,c,n⟩;subst F;obtain rfl:p=aQ a:=k;exact Pw L G c g λJ O B w K=>⟨d,_,K,n J B w⟩
def yu(C:ax)(f:aE):Sp:=λc H Q d=>∃a t v,c=[.ref a,v]/\H a=Y (fc a (Cg C t))/\∀b,H b=M->b≠a->Q .dW (dD (dD H b (.xd [(f,v)])) a (fc a (Wf C t b)))
def XM(K:aG)(C:ax)(v:Option aq):Prop:=∃(nm q:aE) (N:ax) (bs bm Y7:List aq) (sn:List aE) (sub:List aq) (ab:Bool) (col:Option Bool) (dd:Option ax) (k0 k1 k2 k3 k5:Option aq) (B Bn newId nid Vd inN:String) (bmN:List aq) (mN:aE->Option aq),
  tw Bn newId inN bmN/\Y7.contains (cg Bn)=Z'/\tw B nid Vd Y7/\bm.contains (cg "BaseException")=Z' /\
  K.lookup C=Y (Pq nm q C N bs bm Z' sn sub ab col dd k0 k1 k2 k3 k5 newId)/\(∀h:cy,K.In h->OwnTail h Y7 bm/\h.Ns N mN)/\mN (af "__init__")=v
structure WL(K:aG)(C fI:ax):Prop where
 cl:XM K C (some (.ref fI))
 fn:PySem.W.typeIn K (.ref fI)=some (.type "function")
 kp:pR K (.ref C)=true
def SY{K:aG}(X:K.In h){o:Obj}(e:K.lookup a=Y o):h.get? a=Y o:=X a o e
def Kk{s:aw}{v:V}(d:WL X.K C fI)(F:bT X.prog X.w X.K X.mg X.base fX k fI fd ["self",f] (yu C f))(hr:dB (k+1) X.A)(hb:Binds X.K fd ["self",f] [])(I:Inv X n U H s)(r:RelV v u)(h:∀a t D,H a=M->H D=M->D≠a->Q (.ref a) (dD (dD (dD H a (fc a (Cg C t))) D (.xd [(f,v)])) a (fc a (Wf C t D)))):
  be (aV X.prog X.w) X.A (HX (.ref C) [u]) (EP X n U Q) X.xe s:=by
 refine ae λkk =>?_
 obtain⟨nm,q,N,bs,bm,Y7,sn,sub,ab,col,dd,k0,k1,k2,k3,k5,B,Bn,L,nid,J,inN,bmN,mN,Fn,R,FB,hbm,lk,hT,O⟩:=d.cl;have hC:=SY I.qJ lk;obtain⟨T,K⟩:=hT _ I.qJ;have I1:=I.kept (h':=s.heap.push { cls:=cg "tuple",data:=Data.seq [u].toArray }) (t':=s.toks) λb o e=>ak _ e
 have E:(qh s.heap C [u]).get? (s.heap.objs.size+1)=Y (Cg C s.heap.objs.size):=Heap.get?_push_at (by simp[eO]) rfl;have S:=I1.laid (a:=s.heap.objs.size+1) (o:=fc (s.heap.objs.size+1) (Cg C s.heap.objs.size)) (h':=qh s.heap C [u]) (t':=s.toks) (λb o e=>ak _ e) (qt (eO _ _)) (fc.ok E);have x:=S.qJ;have G:=S.Q2;obtain⟨y,_⟩:=s;refine kk (D4 Fn R FB T hC K O (show [u].length<=a_ from fA (Ki (n:=1) Ž)) (λA' E' s1 P' e p =>?_) ?_)
 .have:X.K.In s1.heap:=by rw[e];exact x
  exact PySem.W.Looks.here (PySem.W.looks_typeIn this d.fn) p
 .refine qs (oW (F.run _ X.stack _ _ ⟨[aQ (y.objs.size+1),u],[]⟩ [aQ (y.objs.size+1),u] [V.ref (y.objs.size+1),v] (λw H2=>w=.dW/\Q (.ref (y.objs.size+1)) H2) E0 (hr.make C [u] []) (G.make C [u] []) (hb _ [aQ (y.objs.size+1),u] x rfl) (.cons rfl (.cons r .nil)) ⟨y.objs.size+1,y.objs.size,v,rfl,aW,λD hd K=>⟨rfl,?_⟩⟩) λr s' c =>?_)
  .have P:H D=none:=by rw[aP K]at hd;exact hd
   exact h _ _ D (I.eY.fresh (jG _)) P K
  .cases r with
   |error e=>exact eE c|ok fl=>
    cases fl with
    |ret u'=>obtain⟨v',H',I3,rv,ev,q3⟩:=S.after c;subst ev;exact⟨rv,⟨V.ref (y.objs.size+1),H',I3,rfl,q3⟩⟩
    |next=>exact eE c|brk=>exact eE c|cont=>exact eE c
def Tn(C:ax)(f:aE)(t:TA):TE:=λd H Q=>t d H λe c=>∃v,e=[v]/\∀a t b,c a=M->c b=M->b≠a->Q (.ref a) (dD (dD (dD c a (fc a (Cg C t))) b (.xd [(f,v)])) a (fc a (Wf C t b)))
def M0(j:WL X.K C g)(F:bT X.prog X.w X.K X.mg X.base fX k g d ["self",f] (yu C f))(y:dB (k+1) X.A)(D:Gl X x)(B:X.mg x=Y (.ref C))(G:Binds X.K d ["self",f] [])(J:PA X [e] t)(c:autoParam ((x==("__debug__" : aE))=false) ū)(E:autoParam (ao [e] X.env=(Z_,eval e X.env)::ao [] X.env) ŭ)(b:autoParam ((bX i (ao [] X.env)).any (·.1)=false) ŭ):
  PE X (.Call (.Name x p) [e] [] i) (Tn C f t):=by
 intro a s o H Q I h;refine gK (sy I D B ?_ c);refine PySem.W.callWith_K I.ok.mod.U4 j.kp (fo (J i a s o H _ I h) ?_) E b;rintro N O ⟨L,P,n,r,v,K,q⟩;refine⟨n.qJ,?_⟩;subst K;obtain⟨u,rfl,w⟩:=vals1 r;exact Kk j F y G n w q
def TQ(X:Cx)(C:ax)(m:TE):TS:=λ_ c H=>m c H λv e=>∃a t f,v=.ref a/\e a=Y (fc a (Wf C t f))/\∀b d,Inv X b c e d->X.xe (.ref a) d
def MX(j:WL X.K C T)(R:X.calm=Z')(Q:PE X e m):PS X (.Raise (Y e) M i) (TQ X C m):=by
 intro b s o H D I h;refine ae λkk =>?_
 obtain⟨y,q,N,bs,bm,Y7,p,f,ab,k,dd,L,K,J,G,F,B,Bn,c,E,d,O,bmN,mN,Fn,S,FB,g,lk,_⟩:=j.cl;refine kk (ah (xC ?_));refine Ck (C:=C) (nm:=y) (q:=q) (N:=N) (bs:=bs) (hdct:=Z') (sn:=p) (sub:=f) (ab:=ab) (col:=k) (dd:=dd) (k0:=L) (k1:=K) (k2:=J) (k3:=G) (k5:=F) (newId:=c) g (I.ok.hd R) ?_;refine ah (fo (Q b s o H _ I h) ?_);rintro u r ⟨v,H1,n,x,a,t,dx,U,ea,w⟩;subst U;obtain rfl:u=aQ a:=x;exact ah (xC (aF ⟨a,_,_,rfl,SY n.qJ lk,fc.get n.eY ea,rfl,rfl,rfl,w b r n⟩))
end
structure XT(H:Hp)(a C:ax)(dx:Option ax)(T:ax)(oe oT:Obj):Prop where
 ea:H a=some (fc a oe)
 cls:oe.cls=.ref C
 dict:oe.dict=dx
 fl:∃vs,oe.data=.fields vs/\vs[1]?=some (.ref T)/\∃a0,vs[0]?=some a0
 ne:T≠a
 eT:H T=some (fc T oT)
 tr:∃ts,oT.data=.fields ts/\ts[3]?=some .none
section
variable {P:aZ}{w:cC}{K:aG}{m:aE->Option aq}{l:cy}{N:List aE}{i:aE}{j:Scope}{f:ax}{k:aq}{A:fF}{g:List Env}{d s:aw}{p H:Hp}{E:XK}{x:List (ax×Obj)}{y:St}{a C t h:ax}
end
section
variable {V:Pu}{s:aw}{m:Obj}
def L9(hfr:A.frames=Y (a::j))(hl:s.heap.FunFrames base (a::j))(hf:a.frame=Y L)(he:s.heap.get? e=Y k)(hd:k.data=.fields g)(h1:g[1]?=Y (.ref T))(h0:g[0]?=Y n)(hT:s.heap.get? T=Y m)(t:m.data=.fields l)(h3:l[3]?=Y .none)(NX:T≠e)(h:∀h' T',O3 (zY (a::j)) e s.heap h'->Zr h' e k.cls k.dict n .none T'->T'=s.heap.objs.size->Q () { s with heap:=h' }):
  be V A (noteFrame (.ref e) a) (λW s2=>be V A (D0 (.ref e) M) Q E s2) E s:=by
 have abw:e∉zY _:=λhm=>by obtain⟨_,o,U,N⟩:=hl.mem hm;rw[he]at U;cases U<;>solve_by_elim
 have S:=(kE.mp h1).1;have P:=(kE.mp h3).1;have X:Obj.mapFields (λx=>x.setIfInBounds 3 aS) m=m:=by
  obtain⟨c,d,dt,sl⟩:=m;subst t;show (⟨c,d,_,sl⟩:Obj)=_
  congr 2
  apply Array.ext
  .simp
  .intro i h1 h2;by_cases hi:3=i<;>simp_all
 have w:∀b o,s.heap.get? b=Y o->(s.heap.update T _).get? b=Y o:=λb o v=>by
  by_cases J:b=T
  .subst J;rw[hT]at v;cases v;have hh:=cM (Obj.mapFields _) hT (by rw[X];exact Obj.isFreed_of_fields t);rw[X]at hh;exact hh
  .rw[bC _ _ (bE J)];exact v
 have he2:=w e k he;unfold noteFrame;rw[hf];refine ah (jr he hd h1 ?_);rw[if_pos (by simp)];refine ah (jr hT t h3 ?_);rw[if_neg (by simp[nT])];refine ah (oV hT t P ?_);refine ah (wpAny_frameOf_fun hfr (Heap.FunFrames.of_keeps (λb o v W=>⟨o,w b o v,rfl⟩) hl) hf λp r =>?_);refine ah (wpAny_entryPlaceOf λI hpl =>?_);refine ah ?_;unfold EntryCells.newEntry;refine LG ?_ (IsPlace.sizeOk5 hpl _ _ _ _ _);have F:p.get? e=Y k:=(r.2.1 e abw).trans he2;have D:=ak { cls:=cg "traceback",data:=f7 ([aQ T,aQ L,aS,nT ↑L,aS]++if I.isEmpty=Z' then aM 6 aS else I).toArray } F;refine oV D hd S ?_;have O:p.objs.size≠e:=gj (aI F);have u:=Obj.data_mapFields hd λx=>x.setIfInBounds 1 (aQ p.objs.size)
 have C:=cM (Obj.mapFields λx=>x.setIfInBounds 1 (aQ p.objs.size)) D (Obj.isFreed_of_fields u);have H:=(bC (p.push { cls:=cg "traceback",data:=f7 ([aQ T,aQ L,aS,nT ↑L,aS]++if I.isEmpty=Z' then aM 6 aS else I).toArray }) (Obj.mapFields λx=>x.setIfInBounds 1 (aQ p.objs.size)) (bE O)).trans (bg p rfl);have g1:(g.setIfInBounds 1 (aQ p.objs.size))[1]?=Y (aQ p.objs.size):=by simp[S]
 have g0:(g.setIfInBounds 1 (aQ p.objs.size))[0]?=Y n:=by rw[nU (by decide)];exact h0
 unfold D0;refine ah (jr C u g1 ?_);rw[if_pos (by simp)];have R:3<([aQ T,aQ L,aS,nT ↑L,aS]++if I.isEmpty=Z' then aM 6 aS else I).toArray.size:=Ž
 refine oV H rfl R ?_;have K:p.objs.size=s.heap.objs.size:=r.1.trans (yp _ _ _);have B:s.heap.get? p.objs.size=none:=by
  rw[K];rcases q:s.heap.get? s.heap.objs.size with _|o
  .rfl
  exact absurd (aI q) (i_ _)
 have y:∀b o,b≠e->b≠p.objs.size->p.get? b=Y o->((Heap.update (p.push { cls:=cg "traceback",data:=f7 ([aQ T,aQ L,aS,nT ↑L,aS]++if I.isEmpty=Z' then aM 6 aS else I).toArray }) e (Obj.mapFields λx=>x.setIfInBounds 1 (aQ p.objs.size))).update p.objs.size (Obj.mapFields λx=>x.setIfInBounds 3 (Gf M aS λf=>nT ↑f))).get? b=Y o:=λb o G J v=>by rw[bC _ _ (bE J),bC _ _ (bE G)];exact ak _ v
 refine h _ p.objs.size ⟨λb o G hbf v =>?_,λb o G hbf v =>?_⟩ ?_ K
 .refine y b o G ?_ ((r.2.1 b hbf).trans (w b o v));intro z;rw[z,B]at v;cases v
 .obtain⟨sl,hsl⟩:=r.2.2 b o (w b o v);refine⟨sl,y b _ G ?_ hsl⟩;intro z;rw[z,B]at v;cases v
 .have t:=Obj.data_mapFields (o:={ cls:=cg "traceback",data:=f7 ([aQ T,aQ L,aS,nT ↑L,aS]++if I.isEmpty=Z' then aM 6 aS else I).toArray }) rfl λx=>x.setIfInBounds 3 (Gf M aS λf=>nT ↑f)
  refine⟨_,_,_,_,(bC _ _ O).trans C,Obj.cls_mapFields _ _,Obj.rV _ _,u,g0,g1,O,cM _ H (Obj.isFreed_of_fields t),t,?_⟩;simp
end
def IU{P:aZ}{H:Hp}{h B:cy}{a T:ax}{d f:Obj}(E:mZ P w H h)(x:∀b∈I,H b=M)(A:H a=Y (fc a o))(D:O3 I a h B)(K:B.get? a=Y d)(Q:B.get? T=Y f)(L:T=h.objs.size):
  Un I [] H (dD (dD H T (fc T f)) a (fc a d)) h B/\mZ P w (dD (dD H T (fc T f)) a (fc a d)) B:=by
 have J:H T=none:=E.fresh (qt L.symm);have m:∀b,H b=M->b≠a:=λb s z=>by rw[z,A]at s;cases s
 have C:∀b o,h.get? b=Y o->b≠T:=λb o e z=>by have:=aI e;rw[z,L]at this;exact i_ _ this
 have k:∀b u,b≠a->H b=Y u->dD (dD H T (fc T f)) a (fc a d) b=Y u:=λb u s e=>by rw[aP s,aP (bF e J)];exact e
 have p:∀c v,c≠a->H c≠M->h.get? c=Y v->B.get? c=Y v:=λc v y N e=>D.keep c v y (λG=>N (x c G)) e
 refine⟨⟨λb o e n s t=>D.keep b o (m b n) s e,λb o e n s t=>D.slot b o (m b n) s e,λb o e n t =>?_,λb o e t =>?_,λb g e=>k b _ (λz=>by rw[z,A]at e;cases e) e,λb o u e=>k b _ (λz=>by rw[z,A]at e;cases e) e,λb S e=>⟨#[],by rw[k b _ (λz=>by rw[z,A]at e;cases e) e];solve_by_elim⟩⟩,λb u e =>?_⟩
 .rw[aP (m b n),aP (C b o e)];exact n
 .by_cases l:b=a
  .exact⟨d,by rw[l];exact K⟩
  .by_cases G:b∈I
   .obtain⟨R,O⟩:=D.slot b o l G e;exact⟨_,O⟩
   .exact⟨o,D.keep b o l G e⟩
 .by_cases l:b=a
  .subst l;rw[aW]at e;cases e;exact fc.ok K
  .rw[aP l]at e;by_cases F:b=T
   .grind [aW,fc.ok]
   .rw[aP F]at e;refine(E b u e).xY (λc v y q =>?_) (λc r =>?_) λc g r =>?_
    .rcases y with lia|y
     .simp_all
     .exact p c v (λz=>by rw[z,A]at y;cases y) (by rw[y];simp) q
    .exact k c _ (λz=>by rw[z,A]at r;cases r) r
    .exact k c _ (λz=>by rw[z,A]at r;cases r) r
section
variable {X:Cx}{i:List (ax×Obj)}{j:St}{H:Hp}{s:aw}{E:aq->aw->Prop}{a C T L:ax}{g:Option ax}{d f:Obj}
def IY(n:X.stack=X.env::X.outer)(K:X.env.frame=Y L)(I:Inv X i j H s)(x:XT H a C g T d f)(h:∀A y p c k,Inv X i j y A->XT y a C g p c k->(∀b o,b≠a->H b=Y o->y b=Y o)->Q () A):
  be (aV X.prog X.w) X.A (noteFrame (.ref a) X.env) (λ_ J=>be (aV X.prog X.w) X.A (D0 (.ref a) M) Q E J) E s:=by
 obtain⟨vs,v,P,a0,R⟩:=x.fl;obtain⟨ts,u,O⟩:=x.tr;have m:=I.ok.frames;rw[n]at m;have l:=I.stack;rw[n]at l;refine L9 m l K (fc.get I.eY x.ea) v P R (fc.get I.eY x.eT) u O x.ne λS p B ext F =>?_
 obtain⟨c,q,k,r,g1,g2,g3,g4,g5,g6,D,g8,U,w⟩:=ext;rw[<- n]at B;obtain⟨G,t⟩:=IU I.eY I.yq x.ea B g1 g8 F;refine h _ _ p c k (I.Ap rfl G t I.bare λb z=>absurd z Ž) ⟨aW,g2.trans x.cls,g3.trans x.dict,⟨q,g4,g6,_,g5⟩,D,by rw[aP D,aW],⟨r,U,w⟩⟩ λb o N e =>?_
 rw[aP N,aP (bF e (I.eY.fresh (qt F.symm)))];exact e
end
def find_erase{l:List a}(h:∀x,l[i]?=Y x->p x=Z_):(l.eraseIdx i).find? p=l.find? p:=by
 by_cases b:i<l.length
 .have e:l=l.take i++l[i]::l.drop (i+1):=ż
  rw[List.eraseIdx_eq_take_drop_succ]
  conv=>rhs;rw[e]
  rw[DS,DS,j4,h _ (bp b)]
 simp_all [List.eraseIdx_of_length_le]
def nsFind_erase{a:Array DictEntry}(h:StrKeys a)(e:a.findIdx? (λy=>y.key.isStr n)=Y i)(g:x≠n):nsFind (a.eraseIdxIfInBounds i) x=nsFind a x:=by
 obtain⟨b,c,_⟩:=Bl.mp e;have j:a.eraseIdxIfInBounds i=a.eraseIdx i b:=by unfold Array.eraseIdxIfInBounds;rw[dif_pos b]
 have:(a.eraseIdx i b).find? (λy=>y.key.isStr x)=a.find? λy=>y.key.isStr x:=by
  rw[<- lY,<- lY,Array.toList_eraseIdx];refine find_erase λy f =>?_
  rw[S8,Array.getElem?_eq_getElem b]at f;cases f;obtain⟨m,t,d⟩:=h a[i] Ž;rw[d]at c ⊢;have c:(m==n)=true:=c;show (m==x)=Z_
  lia
 rw[j];show v8 _ _=v8 _ _;rw[this]
def AS(c:StrKeys b):StrKeys (b.eraseIdxIfInBounds i):=λe a=>by
 refine c e ?_
 grind
section
variable {s:aw}
def L8{m:aE->Option aq}{name:aE}(I:s.heap.Ns a m)(l:∃v,m name=Y v)(K:∀w C,w.Ns a C->(∀x,x≠name->C x=m x)->fR a s.heap w->Q Z' { s with heap:=w }):be U A (nsDel a name) Q E s:=by
 obtain⟨o,f,z,n,H,F,D⟩:=id I;obtain⟨v,l⟩:=l;have u:∃i,f.findIdx? (λy=>y.key.isStr name)=Y i:=by
  cases q:f.findIdx? _ with
  |some i=>exact⟨i,rfl⟩|none=>
   have j:=D name;rw[l]at j;have j:v8 _ _=Y v:=j;have:f.find? (λy=>y.key.isStr name)=none:=by rw[Array.find?_eq_none];intro x k G;rw[Array.findIdx?_eq_none_iff.mp q x k]at G;cases G
   rw[this]at j;cases j
 obtain⟨i,t⟩:=u;obtain⟨r,p,_⟩:=Bl.mp t;have h:nsHas name o=dn true:=by rw[nsHas_eq];unfold nsHasByArray;rw[H];show (if (f.any _)=Z' then _ else _)=_;rw[if_pos (Array.any_eq_true.mpr ⟨i,r,p⟩)]
 refine ah (uQ n ?_);rw[h];refine ah (aF ?_);refine ah (wpAny_updatePart n (aF ?_));obtain⟨c,d,L,B⟩:=o;subst H;have e:Obj.dropName name { cls:=c,dict:=d,data:=Pj f z,slots:=B }={ cls:=c,dict:=d,data:=Pj (f.eraseIdxIfInBounds i) (z+1),slots:=B }:=by rw[Obj.dropName_eq,Obj.dropNameByArray.eq_1,t]
 have g:=cM (Obj.dropName name) n (by rw[e];exact ź);rw[e]at g;refine K _ _ ⟨_,_,_,g,rfl,AS F,λ_=>rfl⟩ (λx k=>by rw[nsFind_erase F t k];exact D x) ⟨yp _ _ _,λb J=>bC _ _ (bE J)⟩
def D2{m:aE->Option aq}(q:a.kindOf n=Y .local)(r:s.heap.Ns a.locals m)(p:(a.scope.kind == .class||a.scope.kind == .module&&a.locals != a.globals)=Z_)(h:∀j k,j.Ns a.locals k->(∀x,x≠n->k x=m x)->fR a.locals s.heap j->Q () { s with heap:=j,toks:=s.toks+1 }):
  be U A (do bindName a n aS;unbindBehindTheSuite a n i) Q E s:=by
 refine ah (wpAny_bindName (wpAny_storeName_local q r (λl e c =>?_) p));refine wpAny_onRaise ?_;refine ah (wpAny_point (ah ?_));unfold deleteName;simp only[q];rw[if_neg (by rw[p];simp)];refine ah (L8 e ⟨_,if_pos rfl⟩ λg f d t b =>?_);refine aF (wpAny_point (h g f d (λx o =>?_) (fR.trans c b)));rw[t x o,if_neg o]
end
structure xw(o:Obj)(C:ax)(dx:Option ax):Prop where
 cls:o.cls=.ref C
 dict:o.dict=dx
 no:PySem.W.notCls o=true
noncomputable abbrev Cx.mark(X:Cx)(e:aq):Cx:={ X with A:=X.A.mark (Y e),calm:=Z_,xe:=λa a=>False }
section
variable {X:Cx}{s:aw}
def Cx.Ok.mark{X:Cx}(a:X.Ok)(e:aq):(X.mark e).Ok:=
 ⟨a.mod,a.kind,a.glob,a.blt,a.above,a.inj,a.has,a.WJ,λh=>(nomatch h),a.frames,a.Xp,a.exf,a.bs,a.OO,a.KG,a.N_,a.w6,a.SH⟩
def Inv.mark(I:Inv X B t H s)(e:aq):Inv (X.mark e) B t H s:=⟨I.ok.mark e,I.os,I.bare,I.base,I.loc,I.cell,I.free,I.mB,I.pin,I.eY,I.len⟩
def Inv.unmark(a:X.Ok)(I:Inv (X.mark e) B t H s):Inv X B t H s:=⟨a,I.os,I.bare,I.base,I.loc,I.cell,I.free,I.mB,I.pin,I.eY,I.len⟩
def QR{g:Pu}{L:Pos}(I:Inv X B t H s)(hN:X.N.Nodup)(hi:X.N[i]?=Y x)(hk:X.env.scope.names.lookup x=Y .local)(h:∀U,Inv X B (t.set i M) H U->Q () U):be g A (do bindName X.env x aS;unbindBehindTheSuite X.env x L) Q E s:=by
 obtain⟨m,hn,hl⟩:=id I.loc;have C:(X.env.scope.kind == .class||(X.env.scope.kind == .module&&X.env.locals != X.env.globals))=false:=by rw[I.ok.kind];exact ź
 have v:i<t.length:=by rw[I.len];exact(au.mp hi).1
 have D:=I.Z9;have f:∀ {a:ax}{J:cy},(∃o,s.heap.get? a=Y o/\H a=M)->fR a s.heap J->mZ X.prog X.w H J:=fun {a J} ha l b ob e=>by
  obtain _:=ha;refine(I.eY b ob e).xY (λc T F q=>(l.2 c ?_).trans q) (λG q=>q) λG G q=>q
  rintro rfl;rcases F with rfl|F<;>lia
 refine D2 hk hn C (λJ m' P hm l =>?_);obtain⟨oL,_,_,O,_⟩:=id hn;refine h _ ⟨I.ok,I.os,I.bare,⟨λb o e n S u =>?_,λb o e n S u =>?_,I.base.free,λb o e u =>?_,I.base.Cq,I.base.Bc,I.base.Cr⟩,⟨_,P,λj y v' r K e3 =>?_⟩,λy c e =>?_,I.free,I.mB,λp hp =>?_,f ⟨oL,O,I.free⟩ l,by simpa using I.len⟩
 .exact(l.2 b (bH (bw (aI e) I.ok.above))).trans (I.base.keep b o e n S u)
 .obtain⟨sl,r⟩:=I.base.slot b o e n S u;exact⟨sl,(l.2 b (bH (bw (aI e) I.ok.above))).trans r⟩
 .obtain⟨o',r⟩:=I.base.there b o e u;exact⟨o',(l.2 b (bH (bw (aI e) I.ok.above))).trans r⟩
 .by_cases R:j=i
  .subst R;rw[bj v]at K;cases K
  .rw[av (bE R)]at K;obtain⟨u',r',q⟩:=hl j y v' r K e3;refine⟨u',r',?_⟩;rcases q with⟨k,e⟩|⟨k,c,e,z⟩
   .refine .inl ⟨k,?_⟩;rw[hm y λe=>R (zu hN r (e ▸ hi))];exact e
   .exact .inr ⟨k,c,e,z.sameBut l (D y c e)⟩
 .obtain⟨T,z⟩:=I.cell y c e;exact⟨T,z.sameBut l (D y c e)⟩
 .obtain⟨e,n,ne,nf,d⟩:=I.pin p hp;exact⟨(l.2 p.1 ne).trans e,n,ne,nf,d⟩
def K4{K:Pu}(I:Inv X B t H s)(x:XT H a C w T G N)(h:∀n,Inv X B t H n->Q () n):be K A (D0 (.ref a) M) Q E s:=by
 obtain⟨J,z,u,_⟩:=x.fl;obtain⟨k,e,r⟩:=x.tr;have y:=fc.get I.eY x.ea;have m:=fc.get I.eY x.eT;have f:3<k.size:=(kE.mp r).1;have g:Obj.mapFields (λx=>x.setIfInBounds 3 aS) N=N:=by
  obtain⟨c,d,F,v⟩:=N;subst e;show (⟨c,d,_,v⟩:Obj)=_
  congr 2
  apply Array.ext
  .simp
  .intro i u D;by_cases p:3=i<;>simp_all
 refine ah (jr y z u ?_);refine oV m e f ?_;refine h _ (I.kept (t':=s.toks) λb o l =>?_);by_cases j:b=T
 .subst j;rw[m]at l;cases l;have q:=cM (Obj.mapFields _) m (by rw[g];exact Obj.isFreed_of_fields e);rw[g]at q;exact q
 simp_all [bC,bE]
def XT.Xq(x:XT H a C w T G N):xw G C w:=⟨x.cls,x.dict,by
 obtain⟨c,b,_⟩:=x.fl;unfold PySem.W.notCls;rw[b]⟩
def RV(I:Inv X B t H s)(k:H a=Y (fc a G))(d:xw G C (Y w))(j:H w=Y (.xd e)):∃(b:Obj) (c:aE->Option aq),PySem.W.InstAt s.heap a G C (Y b)/\(∀name,lookIn name b=Y (c name))/\∀f,pL (e.lookup f) (c f):=by
 obtain⟨c,g,r⟩:=I.eY w _ j;obtain⟨b,h,i⟩:=BM g;exact⟨b,c,⟨fc.get I.eY k,d.cls,d.no,by rw[d.dict];exact h⟩,i,r⟩
structure OX(K:aG)(C:ax)(f:aE):Prop where
 pg:WM K C
 hd:oH K C=true
 na:iJ K (.ref C) f=some none
def R0(K:aG)(d:TE)(f:aE):TE:=λt H Q=>d t H λx b=>∃a C w G c v,x=.ref a/\b a=Y (fc a G)/\xw G C (Y w)/\b w=Y (.xd c)/\OX K C f/\c.lookup f=Y v/\Q v b
def Qi{f:aE}(p:PE X e d)(y:bQ e f X.env (eval e X.env)=eval e X.env):PE X (.Attribute e f b) (R0 X.K d f):=by
 intro B s t H Q I h;refine JG y (fo (p B s t H _ I h) ?_);rintro u F ⟨x,E,c,k,a,C,w,G,L,v,z,D,j,A,g,l,q⟩;subst z;obtain rfl:u=aQ a:=k;obtain⟨K,m,J,o,r⟩:=RV c D j A;obtain⟨u,n,i⟩:=pL.some_of (v:=v) (o:=m f) Ÿ;exact L5 c.qJ J g.pg (PySem.W.findObj_own g.hd g.na rfl (by rw[o,n])) (BV i) ⟨v,E,c.tok _,i,q⟩
structure Ze(K:aG)(C:ax):Prop where
 pg:WM K C
 hd:oH K C=true
 ha:iJ K (.ref C) "__class__" = some (some (.builtin "object.__class__"))
 hn:PySem.W.specialIn K (.builtin "object.__class__") "__get__" = some (some (.builtin "getset_descriptor.__get__"))
 htk:PySem.W.takesIn K (.builtin "object.__class__")=some true
 hm:PySem.W.mroIn K C (.type "object")=some true
def S_{W:cC}(I:Inv X B t H s)(k:H a=Y (fc a G))(g:xw G C w)(j:∀x,w=Y x->∃i,H x=Y (.xd i))(d:Ze X.K C)(e:jO X.K (.ref C) c=Y b)(h:∀f,Inv X B t H f->Q (.bool b) f):
  be (aV X.prog X.w) A (HX (.builtin "isinstance") [.ref a,c]) Q E s:=by
 have J:∃m,PySem.W.InstAt s.heap a G C m:=by
  rcases w with _|w
  .exact⟨M,fc.get I.eY k,g.cls,g.no,by rw[g.dict];trivial⟩
  .obtain⟨i,j⟩:=j w rfl;obtain⟨m,n,J,_⟩:=RV I k g j;exact⟨_,J⟩
 obtain⟨m,J⟩:=J;exact qQ (NN d.pg d.hd d.ha d.hn d.htk d.hm) I.qJ J e (λz=>nomatch z) λl=>h _ (I.tok _)
end
section
variable {X:Cx}{f:DF}
end
def XIn(H:Hp)(a C:ax)(d:Option ax):Prop:=(∃t,H a=Y (fc a { Cg C t with dict:=d }))\/∃T b c,XT H a C d T b c
def LC(P:aZ)(w:cC):S5:=λk H s E e b=>∃a C d T f h c,e=.ref a/\b.os=s.os/\Bm b.gens/\Un (zY k) [] H c s.heap b.heap/\mZ P w c b.heap/\XT c a C d T f h/\E (.ref a) d c
section
variable {P:aZ}{w:cC}{K:aG}{l:aE->Option aq}{base:cy}{N:List aE}{m:aE}{p:Scope}{f:ax}{r:aq}{A:fF}{k:List Env}{u s:aw}{v H:Hp}{E:XK}{g:List (ax×Obj)}{j:St}{a C:ax}{d:Option ax}
def UX(I:Inv (pI (LC P w) P w K l base N m p f r A k u v E) g j H s)(x:XIn H a C d)(G:∀i D,(∀b o,b≠a->H b=Y o->i b=Y o)->i a=Y (fc a D)->D.cls=.ref C->E (.ref a) d i):(pI (LC P w) P w K l base N m p f r A k u v E).xe (.ref a) s:=by
 rcases x with⟨t,R⟩|⟨T,D,oT,x⟩
 .have hx:=fc.get I.eY R;refine D3 I.ok.frames I.stack rfl hx rfl rfl rfl λh' T X ext S =>?_
  obtain⟨c,y,h,B,g1,Q,g3,g4,g5,g6,O,g8,g9,L⟩:=ext;obtain⟨U,F⟩:=IU I.eY I.yq R X g1 g8 S;have J:=I.Ap (s':={ s with heap:=h' }) (g:=[]) rfl U F I.bare (λb z=>absurd z Ž);refine⟨a,C,d,T,c,h,_,rfl,J.os,J.bare,J.base,J.eY,⟨aW,Q,g3,⟨y,g4,g6,_,g5⟩,O,by rw[aP O,aW],⟨B,g9,L⟩⟩,G _ c (λb o hb e =>?_) aW Q⟩;rw[aP hb,aP (bF e (I.eY.fresh (qt S.symm)))];exact e
 .exact ah (IY rfl rfl I x λs' i T' c h J q n=>⟨a,C,d,T',c,h,i,rfl,J.os,J.bare,J.base,J.eY,q,G i c n q.ea q.cls⟩)
end
section
variable {X:Cx}{g:List (ax×Obj)}{j:St}{H:Hp}{s:aw}
def Inv.JE{w:XK}(I:Inv X g j H s)(c:LC X.prog X.w X.stack H s w e t):∃a C d T i n h,e=.ref a/\Inv X g j h t/\XT h a C d T i n/\w (.ref a) d h:=by
 refine ae λkk =>?_
 obtain⟨a,C,d,T,i,n,h,rfl,A,f,y,o,x,q⟩:=c;exact kk (⟨a,C,d,T,i,n,h,rfl,I.Ap A y o f λb z=>absurd z Ž,x,q⟩)
end
def XD(H:Hp)(n:Int)(a:ax):Option ax->Prop
 |some x=>x≠a/\H x=Y (.xd [("at",.int n)])|none=>True
structure XF(K:aG)(hb:Hp)(c:aE)(n:Int)(H:Hp)(a:ax)(dx:Option ax):Prop where
 cl:∃C oe,js K aT c=some (some (.ref C))/\H a=some (fc a oe)/\oe.cls=.ref C
 has:c = "NoSign" ->dx≠none
 dx:XD H n a dx
 same:bf hb H
 fr:hb a=none
def XF.step{K:aG}{H:Hp}{a:ax}{d:Option ax}{f:Obj}{C:ax}(x:XF K i c n H a d)(t:js K aT c=Y (Y (.ref C)))(q:∀b o,b≠a->H b=Y o->h b=Y o)(y:h a=Y (fc a f))(w:f.cls=.ref C):XF K i c n h a d:=by
 refine⟨⟨C,f,t,y,w⟩,x.has,?_,λb o e=>q b o (λz =>?_) (x.same b o e),x.fr⟩
 .have:=x.dx;cases d with
  |none=>trivial|some d=>exact⟨this.1,q _ _ this.1 this.2⟩
 .rw[z,x.fr]at e;cases e
structure Fl(X:Cx)(B:Bs)(c:aE)(n:Int)(H:Hp)(a:ax)(dx:Option ax):Prop where
 xf:XF X.K B.2 c n H a dx
 pin:∀i b,(i,b)∈B.3->b≠a
 xin:∃C,js X.K aT c=some (some (.ref C))/\XIn H a C dx
def FX(X:Cx)(B:Bs):Prop:=∀c n,B.4 c n->∀g j H s a d,Inv X g j H s->Fl X B c n H a d->X.xe (.ref a) s
inductive Xo (α:Type) where
 |ok (a:α)|er (c:aE) (n:Int)
structure OkX(P:aZ)(w:cC)(K:aG)(mg:aE->Option aq)(base:cy)(c:aE)(k:Nat):Prop where
 ex:∃C fI YD,js K aT c=some (some (.ref C))/\mg c=some (.ref C)/\WL K C fI/\bT P w K mg base fX k fI YD ["self","at"] (yu C "at")/\Binds K YD ["self","at"] []
section
variable {X:Cx}
noncomputable def Io(c:aE)(f:DF):DG:=λa=>(f a).bind λd=>match d with|.int n=>Y (.ex c n)|_=>M
set_option tactic.hygienic true in
def Lf{c:aE}{f:DF}(hx:OkX X.prog X.w X.K X.mg X.base c k)(hr:dB (k+1) X.A)(x:FX X B)(hg:Gl X c)(he:PE X e (tP X.K Z f))(hp:B.3=[])(hc:autoParam (X.calm=true) ŭ)(A:autoParam ((c==("__debug__" : aE))=false) ū)(q:autoParam (ao [e] X.env=(Z_,eval e X.env)::ao [] X.env) ŭ)(s:autoParam ((bX u (ao [] X.env)).any (·.1)=false) ŭ):
  PS X (.Raise (Y (.Call (.Name c p) [e] [] u)) M j) (gD X.K B l Z T (Io c f)):=by
 refine ae λkk =>?_
 obtain⟨C,fI,YD,K,hm,y,F,hb⟩:=hx.ex;refine kk ((MX y hc (M0 y F hr hg hm hb (bS he dI q) A q s)).imp ?_);rintro D σ H ⟨G,ρ,o,S,g,k⟩;obtain⟨d,ef,g⟩:=aa.1 g;split at g
 .rename_i n;cases g;refine⟨G,ρ,.int n,S.gh,S.jh,ef,λv G' H' E r =>?_⟩;have R:=S.ext E;cases bK.mp r;refine⟨.int n,rfl,λa t Q N z w=>⟨a,t,Q,rfl,aW,λm s' I =>?_⟩⟩;refine x c n k m σ _ s' a (Y Q) I ⟨⟨⟨C,_,K,aW,rfl⟩,λ_ z=>(nomatch z),⟨w,by rw[aP w,aW]⟩,λb o e =>?_,R.h0.free N⟩,λi b h=>ż,C,K,.inl ⟨t,aW⟩⟩;have J:=R.h0 b o e;have P:=bF J N;rw[aP P,aP (bF J z),aP P];exact J
 .cases g
abbrev DX:=bY->Option (Xo D)
def acd(K:aG)(B:Bs)(G H:Hp)(Q:VK):Xo D->Prop
 |.ok d=>∀v b a,eJ G H b a->cS K b d v->Q v a|.er c n=>B.4 c n
inductive tX (K:aG) (B:Bs) (Z:List Nat) (f:DX) (b:St) (H:Hp) (Q:VK):Prop
 |mk G a o:SR K B Z G H b a->f a=some o->acd K B G H Q o->tX K B Z f b H Q
def MG(f:DX):DG:=λa=>(f a).map λr=>match r with|.ok d =>.rt d|.er c n =>.ex c n
def Q8{f:DX}(d:PE X e (tX X.K B Z f)):PS X (.Return (Y e) u) (gD X.K B l Z T (MG f)):=(nG d).imp λD m H ⟨G,b,o,S,a,k⟩=>by
 obtain⟨r,g,a⟩:=aj.1 a;refine⟨G,b,r,S,g,?_⟩;cases r with
 |er c n=>cases a;exact k|ok q=>cases a;exact λv i h E r=>k v i h (S.jP.trans E) r
end
def acp(K:aG)(G H:Hp)(Q:VK)(E:XK):Xo D->Prop
 |.ok d=>∀v e a,eJ G H e a->cS K e d v->Q v a|.er c n=>∀x b a,XF K H c n a x b->E (.ref x) b a
inductive Cw (K:aG) (F:List D->Option (Xo D)) (b:List V) (H:Hp) (Q:VK) (E:XK):Prop
 |mk G a r:bf G H->aY K G a b->F a=some r->acp K G H Q E r->Cw K F b H Q E
noncomputable def XY:DO->Option (Xo D)
 |.rt d=>Y (.ok d)|.ro a=>Y (.ok (.lst a))|.nx _=>Y (.ok .dW)|.ex c n=>Y (.er c n)|_=>M
def Eo(n N:Nat)(g:DG)(a:List D):Option (Xo D):=if a.length=n then (g (hJ N a)).bind XY else M
section
variable {P:aZ}{K:aG}
def gH.X6{f:ax}{R:List aE}(F:gH K x e z f fd)(S:bu N R (az z)){Z Ź:List Nat}{g:DG}(D:∀i∈Z,R.length<=i) (hb:∀(p:aq) (A:fF) (b:List Env) (s:aw) (H:Hp) (E:XK),dB k (A.deeper (l5 e (az z) s.heap.objs.size f p))->∀(B:Bs),B.3=[]->FX (pI (LC P w) P w K y L N e (az z) f p A b s H E) B ->
   lX (pI (LC P w) P w K y L N e (az z) f p A b s H E) (fx z) (gD K B [] Z Ź g)):bT P w K y L (LC P w) (k+1) f fd R (Cw K (Eo R.length N.length g)):=by
 obtain⟨oc,od,kV,RM,pm,an,p,ct,ZH,rfl,lk,ZT⟩:=F.ex;refine SJ lk ZT S (λvs H Q E h =>?_) (λA b s H vs Q E hr h =>?_)
 .obtain⟨G,ds,r,gh,rr,m,_⟩:=h;unfold Eo at m;split at m
  .rw[<- rr.length];lia
  .cases m
 .obtain⟨G,ds,r,gh,rr,m,q⟩:=h;unfold Eo at m;split at m
  .have hfl:FX (pI _ P w K y L N e (az z) f p A b s H E) ⟨G,H,[],λc n=>∀x dx t,XF K H c n t x dx->E (.ref x) dx t⟩:=λc n hf Bi σ H1 s1 x dx I fl=>by obtain⟨C,hC,xi⟩:=fl.xin;exact UX I xi λt oe h1 X h3=>hf x dx t (fl.xf.step hC h1 X h3)
   refine⟨_,hb p A b s H E hr _ rfl hfl,?_⟩;obtain⟨o,eg,m⟩:=aa.1 m;refine⟨G,_,o,qX gh rr ż,eg,?_⟩;cases o with
   |rt d'=>cases m;solve_by_elim|ro rs=>cases m;exact λa us J t E h1 X h3 r=>q _ _ t (E.freeze h1 X h3) (bR.mpr ⟨a,us,rfl,aW,aY.mono (.alloc X) rs r⟩)
   |nx j=>cases m;exact λσ J t S=>q _ J t S.jP (f_.mpr rfl)
   |ex c n=>cases m;exact q|rm d j=>cases m|rf i j=>cases m|bk j=>cases m|ct j=>cases m
  .cases m
structure HP(P:aZ)(w:cC)(K:aG)(mg:aE->Option aq)(base:cy)(c m:aE)(k:Nat)(sp:Sp):Prop where
 ex:∃C f fd ps,js K aT c=some (some (.ref C))/\F4 K C/\HR K C m f/\bT P w K mg base (LC P w) k f fd ps sp/\Binds K fd ps []
def HP.mono{c m:aE}(h:HP P w K y L c m j a)(d:j<=k):HP P w K y L c m k a:=by
 obtain⟨C,f,p,b,o,n,i,g,e⟩:=h.ex;exact⟨C,f,p,b,o,n,i,g.mono d,e⟩
end
section
variable {X:Cx}
inductive EX (K:aG) (B:Bs) (f:aq) (d:Option ax) (H:Hp):Prop
 |mk a e c n:f=.ref a->d=e->XF K B.2 c n H a e->(∀i b,(i,b)∈B.3->b≠a)->B.4 c n->EX K B f d H
def XW(f:FX X B):ql (LC X.prog X.w) X (EX X.K B):=λb i H s e k I c=>by
 obtain⟨a,C,E,T,p,q,F,rfl,J,d,K,D,c,n,x,w,g,r,v⟩:=I.JE c;cases x;cases w;obtain⟨G,o,t,A,z⟩:=g.cl;have h:=fc.get J.eY A;rw[fc.get J.eY d.ea]at h;cases h;have:C=G:=by have:=d.cls.symm.trans z;lia
 subst this;exact f c n v b i F k a E J ⟨g,r,C,t,.inr ⟨T,p,q,d⟩⟩
noncomputable def t7(c m:aE)(F:List D->Option (Xo D))(f:DF)(g:DL):DX:=λa=>(f a).bind λx=>match x with
 |.ins d b h=>if d=c/\m∉b then (g a).bind λe=>F (.ins d b h::e) else M
 |_=>M
set_option tactic.hygienic true in
def J2{m:aE}{F:List D->Option (Xo D)}{f:St}(n:js X.K aT c=Y (Y (.ref C)))(hp:B.3=[])(ht:∀f H Q,AR X.K Z g f H Q->t f H Q)(h:tX X.K B Z (t7 c m F A g) f H Q):yY C m (Cw X.K F) [] (EX X.K B) (tP X.K Z A) t f H Q:=by
 obtain⟨G,r,d,S,e,q⟩:=h;have gh:=S.gh;have k:=S.jh;unfold t7 at e;rw[aa]at e;obtain⟨x,I,e⟩:=e;split at e
 .split at e
  .rename_i hc;obtain⟨rfl,hm⟩:=hc;rcases E:g r with _|xs
   .simp_all
   rw[E]at e;refine⟨G,r,_,gh,k,I,λv G1 H1 w N =>?_⟩;refine ae λkk =>?_
   obtain⟨a,C',dx,vs,rfl,P,ha,_⟩:=oi.mp N;rw[n]at P;cases P;refine kk (⟨a,dx,_,rfl,w.gh _ _ ha,jK (K:=X.K) (G:=G1) hm,ht _ _ _ ⟨G1,r,xs,w.gh,k.ext w,E,λus G2 H2 K r2 =>?_⟩⟩);rw[bL];refine⟨G2,_,d,K.gh,.cons (cS.mono K.gg _ N) r2,e,?_⟩;have p:=w.trans K;cases d with
   |ok d'=>exact λv G3 H3 E3 r3=>q v G3 H3 (p.trans E3) r3
   |er c2 n2=>
    intro x J H' s;have j:=λb o z=>p.hh _ _ (S.h0 b o z)
    refine⟨x,J,c2,n2,rfl,rfl,⟨s.cl,s.has,s.dx,λb o z=>s.same b o (j b o z),?_⟩,λi b R=>ż,q⟩;rcases z:B.2 x with _|o
    .exact ź
    have:=j x o z;rw[s.fr]at this;cases this
  .cases e
 .cases e
def Og{c m:aE}{F:List D->Option (Xo D)}{p:DF}{g:DL}(h:HP X.prog X.w X.K X.mg X.base c m k (Cw X.K F))(s:dB k X.A)(d:FX X B)(t:B.3=[])(v:PE X o (tP X.K Z p))(E:PA X (e::O) (AR X.K Z g))(a:autoParam (ao (e::O) X.env=(Z_,eval e X.env)::ao O X.env) ŭ)(b:autoParam ((bX u (ao O X.env)).any (·.1)=false) ŭ) (r:autoParam (eval (.Call (.Attribute o m U) (e::O) [] u) X.env=(do
   let i <- eval o X.env
   jQ U.atName
   let (f,first) <- iC [i] (hG i m pl)
   j3 u f first (bX u (ao (e::O) X.env)) (eM u (cq [] X.env)))) ŭ):PE X (.Call (.Attribute o m U) (e::O) [] u) (tX X.K B Z (t7 c m F p g)):=by
 refine ae λkk =>?_
 obtain⟨C,f,K,J,n,x,w,G,A⟩:=h.ex;exact kk ((vi v x w G s A .nil (XW d) E a b r).imp λI H Q q=>J2 n t (λj j j z=>z) q)
end
section
variable {X:Cx}{f:ax}{m:aE}{s:Pos}
def KJ{b:Pu}(e:h.get? a=Y o)(c:o.cls=v):PySem.W.Looks b h (DQ (.ref a)) v:=by
 exact λA Q E s k q=>ah (uQ (k _ _ e) (aF (c ▸ q)))
abbrev TX:=St->Hp->VK->XK->Prop
def PX(X:Cx)(e:Expr)(t:TX):Prop:=∀B s y H Q E P R,Inv X B y H s->t y H Q E->(∀u b,EP X B y Q u b->P u b)->(∀a C d T o n h b,Inv X B y h b->XT h a C d T o n->E (.ref a) d h->R (.ref a) b)->be (aV X.prog X.w) X.A (eval e X.env) P R s
def Xz{s:aw}{P R:aq->aw->Prop}(F:bT X.prog X.w X.K X.mg X.base (LC X.prog X.w) k f O J w)(m:dB k X.A)(v:Binds X.K O J [])(I:Inv X B y H s)(r:cb j c)(q:w j H Q E)(p:∀u b,EP X B y Q u b->P u b)(g:∀a C d T o n h b,Inv X B y h b->XT h a C d T o n->E (.ref a) d h->R (.ref a) b):be (aV X.prog X.w) X.A (HX (.ref f) c) P R s:=by
 have t:(c++[]).length=J.length:=by rw[bL,<- r.length];exact F.len _ _ _ _ q
 have i:=v s c I.qJ t;rw[bL]at i;refine qs (oW (F.run X.A _ s H _ c j _ _ m I.Q2 i r q) λr l e =>?_);cases r with
 |ok z=>
  cases z with
  |ret u=>exact p _ _ (I.after e)|next=>solve_by_elim|brk=>solve_by_elim|cont=>solve_by_elim
 |error D=>obtain⟨a,C,d,T,o,n,h,rfl,A,x,q2⟩:=I.JE e;exact g a C d T o n h l A x q2
def tXM(i:ax)(m:aE)(w:Sp)(E:TE)(t:TA):TX:=λk H Q R=>E k H λx K=>∃u r F,x=.ref u/\K u=Y (.ins i r F)/\F.lookup m=M/\t k K λL S=>w (.ref u::L) S Q R
def P8(K:F4 X.K i)(a:HR X.K i m f)(F:bT X.prog X.w X.K X.mg X.base (LC X.prog X.w) k f O J w)(U:dB k X.A)(l:Binds X.K O J [])(ho:PE X.F9 o E)(ha:PA X.F9 (e::g) t)(he:autoParam (ao (e::g) X.env=(Z_,eval e X.env)::ao g X.env) ŭ)(j:autoParam ((bX d (ao g X.env)).any (·.1)=false) ŭ) (T:autoParam (eval (.Call (.Attribute o m A) (e::g) [] d) X.env=(do
   let C <- eval o X.env
   jQ A.atName
   let (f,first) <- iC [C] (hG C m S)
   j3 d f first (bX d (ao (e::g) X.env)) (eM d (cq [] X.env)))) ŭ):PX X (.Call (.Attribute o m A) (e::g) [] d) (tXM i m w E t):=by
 intro B s y H Q R P R' I p h1 h2;refine PySem.W.methodCall_KW (dP (ho B s y H _ (I.xW _) p) ?_ λV V z=>eE z) T;rintro u v ⟨x,G,n,N,h,dx0,fs,ex,ea,b,q0⟩;subst ex;obtain rfl:u=aQ h:=N;have D:=n.qU;refine qc D ea K a b ?_;refine PySem.W.callWith_K I.ok.mod.U4 a.kp (dP (ha d B v y G _ (D.xW _) q0) ?_ λV V z=>eE z) he j;rintro W s1 ⟨L,H1,c,r,q⟩;exact⟨c.qJ,Xz F U l c.qU (show cb (.ref h::L) _ from .cons rfl r) q h1 h2⟩
def Xu(C:ax)(j:Nat)(p:TX)(G:TS):TS:=λD k H=>p k H (λv f=>D.nx k f) λc q f=>∃a I,c=.ref a/\q=I/\(∃e,f a=Y (fc a e)/\e.cls=.ref C) /\
 ∀p e z,f a=Y (fc a p)->(∀b o,b≠a->f b=Y o->z b=Y o)->z a=Y (fc a e)->xw e C I->G { nx:=λn P=>D.nx (n.set j M) P,rt:=λd d=>False } (k.set j (Y (.ref a))) z
def Ug(hx:PX X e p)(S:X.N.Nodup)(R:X.N[j]?=Y n)(E:X.env.scope.names.lookup n=Y .local)(W:PySem.W.exmOne X.K (.ref C) (.ref N)=Y Z')(J:Gl X y)(F:X.mg y=Y (.ref N))(A:X.stack=X.env::X.outer)(hf:X.env.frame=Y L)(x:∀a,lX (X.mark (.ref a)) (U::B) G)(K:autoParam ((y==("__debug__" : aE))=false) ū)(w:autoParam (bU e M Q.line X.env=dn false) ŭ):
  PS X (.Try [.Expr e Q] (.ExceptHandler (Y (.Name y T)) (Y n) (U::B) c::l) [] [] h) (Xu C j p G):=by
 intro g s σ H D I p;refine wpAny_Try_except (O' (wpAny_Expr_any ?_ I.quiet w));refine hx g s σ H _ _ _ _ I p ?_ ?_
 .rintro u b ⟨v,H2,o,rv,q2⟩;exact kD (kD ⟨_,H2,o,q2⟩)
 .rintro a C' dx P oe oT H2 s' o q ⟨a2,dx',ec,ed,⟨oe2,k,m⟩,q2⟩;cases ec;cases ed;have O:=fc.get o.eY k;rw[(fc.get o.eY q.ea)]at O;cases O;have:C'=C:=by cases q.cls.symm.trans m;exact ź
  subst this;refine IY A hf o q λs3 H3 T3 t oT3 r d i =>?_
  refine wpAny_handleBy_cons ?_ λz=>nomatch z
  refine codeAny_handlers_test (sy (r.mark (.ref a)) J F ?_ K);refine(PySem.W.exm_one r.qJ (KJ (fc.get r.eY d.ea) d.cls) W).here ?_;show m9 _ _ _ _ _;refine codeAny_handlers_suite_as (K4 r d λs4 I4 =>?_);refine u5 I4 S R (.inl E) (show RelV (.ref a) _ from rfl) (λs5 I5 =>?_) (.inr E);refine dP (x a g s5 _ _ _ (I5.mark (.ref a)) (q2 oe t H3 q.ea i d.ea d.Xq)) (λfl s6 f =>?_) λV V z=>eE z
  cases fl with
  |next=>obtain⟨σ',H6,I6,q6⟩:=f;exact QR (I6.unmark I.ok) S R E λs7 I7=>⟨_,_,I7,q6⟩
  |brk=>obtain⟨_,_,_,z⟩:=f;exact eE z
  |cont=>obtain⟨_,_,_,z⟩:=f;exact eE z
  |ret u=>obtain⟨_,_,_,_,_,z⟩:=f;exact eE z
end
section
variable {X:Cx}{f:List Nat}{m:Pos}
end
section
variable {X:Cx}{m:Pos}
def MM(i j:Nat)(c f:aE):DG:=λa=>(qF c f j a).bind λq=>match dJ q.1 f with
 |.fs _ _=>Y (.nx (a.set i (Y (.eQ j [.fld f]))))|_=>M
set_option tactic.hygienic true
def Rc{i:Nat}{c f:aE}(R:X.N.Nodup)(N:X.N[i]?=Y y)(g:Loc X.env.scope y)(h:PE X (.Name x p) (fB j))(J:pQ X.K c f)(r:autoParam (j∈Z) ū)(q:autoParam (x_ j∈Z) ū)(P:autoParam (i∈Z) ū)(t:autoParam (x_ i∉Z) ū)(s:autoParam (j≠i) ū)(d:autoParam (∀a,(i,a)∉B.3) Ŧ)(A:autoParam (f∈Bh) ū)(w:autoParam (bQ (.Name x p) f X.env (eval (.Name x p) X.env)=eval (.Name x p) X.env) ŭ)(O:autoParam (bU (.Attribute (.Name x p) f u) (Y (.Name y n)) m.line X.env=dn false) ŭ)(Q:autoParam (X.fn y=Z'\/X.env.scope.names.lookup y=Y .local) Ũ):
  PS X (.Assign [.Name y n] (.Attribute (.Name x p) f u) m) (gD X.K B l Z Z (MM i j c f)):=(jZ R N g (pY h w) O Q).imp λD σ H ⟨G,ρ,o,S,b,k⟩=>by
 obtain⟨_,et,b⟩:=aa.1 b;split at b
 .rename_i c2 U E;cases b;obtain⟨v,e,W⟩:=ly et;rw[E]at e;obtain⟨a,y',T1,F,K,L,_⟩:=S.yU r v e W;obtain⟨C,dx,T,I,f1,f2⟩:=S.Hr r v F K;obtain⟨b',o',rfl,_⟩:=L.root (λz=>by cases z) λz=>by cases z
  exact⟨_,F,a,C,dx,T,_,rfl,f1,(J C I).1,(J C I).2,f2,k _ G H (S.GL r q P s t d v F K e (by simp_all [z0]))⟩
 .cases b
def Oj:lX X a (gD X.K B l Z own1 λ_=>M):=Kq.imp <|by rintro D b H ⟨_,_,_,_,e,_⟩;cases e
def Ip(b:List Nat)(g:DG):DG:=λa=>if (b.all λi=>(eV i a).isNone)=Z' then g a else M
def Ol{s:List nW}{p:List Nat}(A:List Nat)(h:lX X s (gD X.K B l own1 p g))(b:autoParam (∀j∈Z,j∈own1) ū)(I:autoParam (∀j∈own1,j∈Z\/j∈A) ū)(J:autoParam (∀j∈Z,A8 j∈own1->A8 j∈Z) ū):lX X s (gD X.K B l Z p (Ip A g)):=
 h.imp λD P H ⟨G,y,o,S,w,k⟩=>by
  unfold Ip at w;split at w
  .rename_i K;have t:∀i∈own1,∀d,y[i]?=Y (Y d)->i∈Z:=λi f d e=>by
    rcases I i f with z|z
    .exact z
    .have:=eN.mp K i z;simp[eV,e]at this
   obtain⟨F,W⟩:=S.ow;exact⟨G,y,o,⟨S.gh,S.g0,S.h0,S.fr,λi d f e=>S.env i d (λz=>f (b i z)) e,⟨F,λi d f e=>W.it i d (t i f d e) e,λi d f e=>W.ok i d (t i f d e) e,λi j d c f x E C=>W.ap i j d c (t i f d E) (t j x c C) E C⟩,S.len,λi a h=>⟨b i (S.pin i a h).1,(S.pin i a h).2⟩,λj r q x L e=>by have v:=t j x _ e;obtain⟨O,N,m⟩:=S.eQ j r q v (J j v L) e;exact⟨b r O,b _ N,m⟩⟩,w,k⟩
  .cases w
end
open PySem.W in
noncomputable def Dl(K:aG)(C:ax)(d:Option aq):Bool:=match K.lookup C with
 |some ⟨t,_,.cls a,c⟩=>t == .type "type" && a.mro.head? == Y (.ref C)&&c.size==6&&c[4]? == Y (Y (.builtin "ValueError.__new__")) && !a.hasDel&&a.hasDict&&tailIn K [.type "ValueError",.type "Exception",.type "BaseException",.type "object"] a.mro.tail&&a.mro.tail.contains (.type "BaseException")&&nsOkIn K a.ns&&js K a.ns "__init__" == Y d
 |_=>Z_
set_option tactic.hygienic true
def X7{K:aG}{v:Option aq}(e:PySem.W.nsOkIn K N=Z')(q:js K N x=Y v):∃b:aE->Option aq,(∀h:cy,K.In h->h.Ns N b)/\b x=v:=by
 unfold PySem.W.nsOkIn at e;split at e
 .rename_i c d g n l f;refine⟨_,λh X=>⟨_,g,n,X _ _ f,rfl,λi a =>?_,λ_=>rfl⟩,?_⟩
  .have:=Array.all_eq_true'.mp e i a;split at this<;>simp_all
  .unfold js at q;rw[f]at q;simp only at q;split at q
   .rename_i i k;cases q;unfold nsFind findBy;rw[<- lY,k];exact ź
   .rename_i k;split at q<;>cases q
    unfold nsFind findBy;rw[<- lY,k];exact ź
 .cases e
def W4{K:aG}(q:Dl K C i=Z'):XM K C i:=by
 unfold Dl at q;split at q
 .rename_i t J L k E;simp only[aR,beq_iff_eq,Bool.not_eq_true']at q;obtain⟨⟨⟨⟨⟨⟨⟨⟨⟨rfl,h⟩,l⟩,f⟩,a⟩,b⟩,D⟩,g⟩,c⟩,d⟩:=q;obtain⟨y,u,z,x,w,P,v,e,O,j,I⟩:=L;rcases k with _|⟨s,_|⟨r,_|⟨p,_|⟨o,_|⟨n,_|⟨m,_|_⟩⟩⟩⟩⟩⟩<;>try cases l
  cases f;dsimp only at h a c d b D g;rcases z with _|⟨_,N⟩<;>cases h
  subst a b;obtain⟨A,G,F⟩:=X7 c d;exact⟨y,w,x,u,N,_,v,e,O,j,J,s,r,p,o,m,_,_,_,_,_,_,_,A,PySem.F.excBase_ValueError,ź,PySem.F.excBase_ValueError,g,E,λh X=>⟨PySem.W.tail_of_in X D,G h X⟩,F⟩
 .cases q
set_option tactic.hygienic false
def S9{K:aG}(q:Dl K C (Y (.ref i))=Z')(H:PySem.W.typeIn K (.ref i)=Y (.type "function"))(B:pR K (.ref C)=Z'):WL K C i:=⟨W4 q,H,B⟩
section
variable {X:Cx}
end
section
variable {K:aG}{f:Hp}
def eJ.nil{a:ax}(E:eJ G H G' H')(h:H a=Y o)(g:G a=M):G' a=none:=by
 rcases q:G' a with _|u
 .rfl
 rcases E.fr a u q with z|z<;>grind
end
end L2
namespace L2
open PySem
mutual
def DU:D->Bool
 |.dW=>Z'|.bl _=>Z'|.int _=>Z'|.str _=>Z'|.lst a=>uq a|.tup a=>uq a|_=>Z_
def uq:List D->Bool
 |[]=>Z'|d::a=>DU d&&uq a
end
mutual
def R4:D->Nat
 |.lst a=>Ct a+1|.tup a=>Ct a+1|_=>1
def Ct:List D->Nat
 |[]=>0|d::a=>R4 d+Ct a
end
def Po(G:Hp):Nat->V->Option D
 |0,_=>M| n+1,v=>match v with
  |.dW=>Y .dW|.bl b=>Y (.bl b)|.int i=>Y (.int i)|.str x=>Y (.str x)| .ref a=>match G a with
   |some (.lst b)=>(b.mapM (Po G n)).map .lst|some (.tup b)=>(b.mapM (Po G n)).map .tup|_=>M
  |_=>M
section
variable {K:aG}
mutual
theorem Dt:∀(d:D){v:V}{n:Nat},DU d=Z'->cS K G d v->R4 d<=n->Po G n v=Y d
 |.dW,v,n+1,_,r,_=>by rw[f_.mp r];exact ź
 |.bl _,v,n+1,_,r,_=>by rw[cR.mp r];exact ź
 |.int _,v,n+1,_,r,_=>by rw[bK.mp r];exact ź
 |.str _,v,n+1,_,r,_=>by rw[ij.mp r];exact ź
 |.lst e,v,n+1,o,r,h=>by obtain⟨a,b,rfl,g,t⟩:=bR.mp r;show (match G a with|some (.lst b)=>(b.mapM (Po G n)).map D.lst|some (.tup b)=>(b.mapM (Po G n)).map D.tup|_=>M)=_;rw[g];show (b.mapM (Po G n)).map D.lst=_;rw[Ds e o t (by simp_all [R4])];exact ź
 |.tup e,v,n+1,o,r,h=>by obtain⟨a,b,rfl,g,t⟩:=cL.mp r;show (match G a with|some (.lst b)=>(b.mapM (Po G n)).map D.lst|some (.tup b)=>(b.mapM (Po G n)).map D.tup|_=>M)=_;rw[g];show (b.mapM (Po G n)).map D.tup=_;rw[Ds e o t (by simp_all [R4])];rfl
 |.kA _,v,n,o,_,_=>by cases o
 |.ins _ _ _,v,n,o,_,_=>by cases o
 |.ji _ _,v,n,o,_,_=>by cases o
 |.obj _ _,v,n,o,_,_=>by cases o
 |.eQ _ _,v,n,o,_,_=>by cases o
theorem Ds:∀(e:List D){b:List V}{n:Nat},uq e=Z'->aY K G e b->Ct e<=n->b.mapM (Po G n)=Y e
 |[],b,n,_,r,_=>by rw[cU.mp r];rfl
 |d::e,b,n,o,r,h=>by obtain⟨v,t,rfl,p,q⟩:=bD.mp r;simp only[uq,aR]at o;simp only[Ct]at h;rw[LL,Dt d o.1 p (by lia),Ds e o.2 q (by lia)];rfl
end
mutual
theorem MP{f:List V}(k:G L=Y (.lst f))(i:aY K G c f)(j:uq c=Z'):∀(d:D){v:V},DU d=Z'->R4 d<=Ct c->cS K G d v->cS K (fG G [L]) d v
 |.dW,v,_,_,r=>f_.mpr (f_.mp r)|.bl _,v,_,_,r=>cR.mpr (cR.mp r)|.int _,v,_,_,r=>bK.mpr (bK.mp r)|.str _,v,_,_,r=>ij.mpr (ij.mp r)| .lst e,v,o,h,r=>by
  obtain⟨a,b,rfl,g,t⟩:=bR.mp r;have n:a≠L:=λz=>by
   subst z;have x:=Dt (.lst e) o r (aH _);have y:=Dt (.lst c) j (bR.mpr ⟨a,f,rfl,k,i⟩) (aH _)
   grind [Dt,R4]
  exact bR.mpr ⟨a,b,rfl,by simp_all [bV],sr k i j e o (by simp only[R4]at h;lia) t⟩
 | .tup e,v,o,h,r=>by
  obtain⟨a,b,rfl,g,t⟩:=cL.mp r;have n:a≠L:=λz=>by simp_all
  exact cL.mpr ⟨a,b,rfl,by simp_all [bV],sr k i j e o (by simp only[R4]at h;lia) t⟩
 |.kA _,v,o,_,_=>by cases o
 |.ins _ _ _,v,o,_,_=>by cases o
 |.ji _ _,v,o,_,_=>by cases o
 |.obj _ _,v,o,_,_=>by cases o
 |.eQ _ _,v,o,_,_=>by cases o
theorem sr(i:G L=Y (.lst c))(f:aY K G a c)(g:uq a=Z'):∀(e:List D){b:List V},uq e=Z'->Ct e<=Ct a->aY K G e b->aY K (fG G [L]) e b
 |[],b,_,_,r=>cU.mpr (cU.mp r)|d::e,b,o,h,r=>by obtain⟨v,t,rfl,p,q⟩:=bD.mp r;simp only[uq,aR]at o;simp only[Ct]at h;exact .cons (MP i f g d o.1 ž p) (sr i f g e o.2 ž q)
end
end
end L2
namespace L2
open PySem PySem.Spec PyProof.Rows
inductive tS (K:aG) (B:Bs) (Z:List Nat) (f:DF) (b:St) (H:Hp) (Q:VK):Prop
 |mk G a d:SR K B Z G H b a->f a=some d->(∀v G' H',eJ G H G' H'->cS K G' d v->Q v H')->tS K B Z f b H Q
inductive R1 (K:aG) (B:Bs) (Z:List Nat) (s:Sk) (f:DF) (i:St) (H:Hp) (Q:VK):Prop
 |mk G h d:SR K B Z G H i h->f h=some d->(∀v a e c,eJ G H e c->cv K e c s d v a->a.Nodup->(∀b∈a,e b=none/\H b=none)->Q v c)->R1 K B Z s f i H Q
inductive Tp (K:aG) (B:Bs) (Z:List Nat) (f:DL) (b:St) (H:Hp) (Q:VK):Prop
 |mk G a ds:SR K B Z G H b a->f a=some ds->(∀L vs,H L=some (.lst vs)->aY K G ds vs->Q (.ref L) H)->Tp K B Z f b H Q
inductive AU (K:aG) (s:Sk) (F:List D->Option (D×D)) (j:List V) (H:Hp) (Q:VK) (_x:XK):Prop
 |mk G t ds i a T L vs:bf G H->j=[.ref a,.ref L]->cv K G H s t (.ref a) T->T.Nodup->(∀b∈T,G b=none)->L∉T->H L=some (.lst vs)->aY K G ds vs->F [t,.lst ds]=some (.dW,i)->(∀e c f,eJ G (fG H T) c f->cv K c f s i (.ref a) e->e.Nodup->(∀b∈e,c b=none/\(b∈T\/H b=none))->Q .dW f)->AU K s F j H Q _x
section
variable {X:Cx}
def HD{s:Sk}{f:DF}(h:PE X e (R1 X.K B Z s f)):PE X e (tS X.K B Z f):=h.imp <|by
 rintro t H Q ⟨G,m,d,p,q,k⟩;refine⟨G,m,d,p,q,λv j r l E n u c=>k v _ l ⟨E.hh,E.gg.trans (kB λb a=>(c b a).1),i' E.gh,λb o e =>?_⟩ (n.frozen (λb a=>(c b a).1) λb a=>a)⟩;by_cases a:b∈j
 .simp_all
 .rw[iZ a]at e;exact E.fr b o e
def Ci{m:Pos}{f:List D}(h:PE X (.Name x m) (fB i))(p:(i,L)∈B.3)(l:B.2 L=Y (.lst c))(r:aY X.K B.1 f c):PE X (.Name x m) (Tp X.K B Z λ_=>Y f):=h.imp <|by
 rintro b H Q ⟨G,a,d,S,e,k⟩;cases e;exact⟨_,(S.pin i L p).2,k L c (S.h0 _ _ l) (aY.mono S.g0 _ r)⟩
def Gk{m:Pos}(h:PE X (.Name x m) (fB i))(p:autoParam (i∉c) ū):PE X (.Name x m) (Tp X.K B c (gk i)):=h.imp <|by
 rintro b H Q ⟨G,a,d,S,e,k⟩;obtain⟨v,q,r⟩:=S.env i _ p (cA e);obtain⟨L,f,rfl,l,r⟩:=bR.mp r;exact⟨_,q,k L f (S.gh _ _ l) r⟩
def Tb{m:Pos}(h:PE X (.Name x m) (fB i))(p:autoParam (i∈c) ū):PE X (.Name x m) (Tp X.K B c (gk i)):=h.imp <|by
 rintro b H Q ⟨G,a,d,S,e,k⟩;obtain⟨L,o,q,l,⟨f,rfl,r⟩,_⟩:=S.GU p (cA e) rfl;exact⟨_,q,k L f l r⟩
set_option tactic.hygienic true in
def vD{b:Bool}{c f:aE}(h:PE X (.Name x p) (fB j))(he:PE X e (tS X.K B Z y))(w:pQ X.K c f)(hj:autoParam (j∈Z) ū)(hb:autoParam (b=Z'->A8 j∈Z) ū)(ha:autoParam (f∉Bh) ū)(N:autoParam (bU e (Y (.Attribute (.Name x p) f A)) g.line X.env=dn false) ŭ):PS X (.Assign [.Attribute (.Name x p) f A] e g) (gD X.K B I Z Z (eR b j c f y)):=(wA h he N).imp <|by
 rintro D σ H ⟨G,q,o,S,i,k⟩;obtain⟨d,ef,i⟩:=aa.1 i;rcases l:F8 b j q with _|⟨r,T⟩
 .simp[l]at i
 rcases n:t_ r q with _|⟨s,t⟩
 .simp[l,n]at i
 rcases u:wW c s t T with _|⟨fk,ks,ds⟩
 .simp[l,n,u]at i
 simp only[l,n,u,ai]at i;split at i
 .rename_i L;cases i;obtain⟨J,U⟩:=sA u;refine⟨G,q,d,S,ef,λv G' H' E R =>?_⟩;have P:=S.ext E;refine ae λkk =>?_
  obtain⟨O,s',t',a,v',W,e2,e3,e4⟩:=P.F8 l hj hb;have m:=jv n;rw[m]at W;obtain⟨a',Q,C,dx,vs,K,F,z,f4,f5,f6⟩:=P.QT O m J U L.1 ha R;rw[e2]at K;cases K;rw[e4]at F;cases F;refine kk (⟨_,e3,Q,C,dx,_,rfl,f4,(w C z).1,(w C z).2,?_,k _ G' _ f6⟩);rw[pU f5];lia
 .cases i
def sF{i:Nat}{s:Sk}{f:DF}(C:X.N.Nodup)(u:X.N[i]?=Y x)(p:Loc X.env.scope x)(y:PE X e (R1 X.K B J s f))(r:autoParam (i∈J) ū)(c:autoParam (∀a,(i,a)∉B.3) Ŧ)(t:autoParam (x_ i∉J) ū)(b:autoParam (Fm s=false) ŭ)(q:autoParam (bU e (Y (.Name x A)) g.line X.env=dn false) ŭ)(w:autoParam (X.fn x=Z'\/X.env.scope.names.lookup x=Y .local) Ũ):
  PS X (.Assign [.Name x A] e g) (gD X.K B I J J (rh i s f)):=(jZ C u p y q w).imp <|by
 rintro D P H ⟨G,l,o,S,h,k⟩;obtain⟨d,F,h⟩:=aj.1 h;cases h;refine⟨G,l,d,S,F,λv Q L K E j n m =>?_⟩;obtain⟨a,rfl⟩:=j.isRef λz=>by rw[z]at b;cases b
 exact k _ L K (S.aaC r E j n m c (.inl t))
def nP(c:aE)(F:List D->Option (D×D))(f:DL):DF:=λa=>(f a).bind λb=>(F [.ins c [] [],.lst b]).bind λr=>match r.1 with|.dW=>Y r.2|_=>M
def vJ{c:aE}{F:List D->Option (D×D)}{g:DL}(h:uN X.prog X.w X.K X.mg X.base c k (AU X.K (.fs c w) F))(hr:dB (k+1) X.A)(hg:Gl X c)(ha:PE X e (Tp X.K B Z g))(hd:autoParam ((c==("__debug__" : aE))=false) ū)(v:autoParam (ao (e::[]) X.env=(Z_,eval e X.env)::ao [] X.env) ŭ)(A:autoParam ((bX J (ao [] X.env)).any (·.1)=false) ŭ):PE X (.Call (.Name c p) [e] [] J) (R1 X.K B Z (.fs c w) (nP c F g)):=by
 obtain⟨C,f,fd,ps,n,hm,hk,h1,a⟩:=h.ex;refine(IH hk h1 hr hg hm a .nil j6 (bS ha dI v) hd v A).imp ?_;rintro σ H Q ⟨G,W,d,S,i,q⟩;obtain⟨I,eg,i⟩:=aa.1 i;obtain⟨⟨d',c'⟩,eF,i⟩:=aa.1 i;cases d'<;>simp at i<;>try (done)
 cases i;refine⟨G,W,I,S,eg,λL N l O =>?_⟩;intro x s m j R;have K:=S.gh.free m;have r:L≠x:=bF l m;refine⟨G,.ins c [] [],I,_,x,[x],L,N,(S.gh.trans ((bf.alloc j).trans (.alloc (by rw[aP (bE R)];exact m)))),rfl,.ins (ks:=[]) (vs:=[]) (S:=[]) n aW rfl .nil,Ž,(λb a=>by simp at a;subst a;exact K),by simpa using r,by rw[aP r,aP (bF l j)];exact l,O,eF,λT' G2 H2 t P U T=>⟨rfl,?_⟩⟩;have S:∀b o,H b=Y o->fG (dD (dD H s (.Z x)) x (.ins C s [])) [x] b=Y o:=λb o e=>by have a:b≠x:=bF e m;rw[bV (by simpa using a),aP a,aP (bF e j)];exact e
 refine q (.ref x) T' G2 H2 ⟨λb o e=>t.hh b o (S b o e),t.gg,t.gh,λb o e =>?_⟩ P U λb a=>⟨(T b a).1,?_⟩
 .rcases t.fr b o e with z|z
  .exact .inl z
  .refine .inr ?_;rcases y:H b with _|u
   .exact ź
   rw[S b u y]at z;cases z
 .rcases(T b a).2 with z|z
  .simp at z;subst z;exact m
  .rcases y:H b with _|u
   .exact ź
   have E:b≠x:=bF y m;rw[aP E,aP (bF y j),y]at z;cases z
def FC(F:List D->Option (List D))(f:DL):DF:=λa=>(f a).bind λb=>open Classical in if uq b=Z'/\F [.lst b]=Y b then Y (.lst b) else M
def lH{S:List ax}(s:bf G H):bf G (i4 G H S):=λb o e=>by
 by_cases a:b∈S
 .rw[gS a];exact s _ _ e
 simp_all [iZ]
set_option tactic.hygienic true
def Rh{F:List D->Option (List D)}{f:DL}(h:ju X.prog X.w X.K X.mg X.base x k (GH X.K F))(U:dB k X.A)(hg:Gl X x)(ha:PE X e (Tp X.K B Z f))(hd:autoParam ((x==("__debug__" : aE))=false) ū)(N:autoParam (ao (e::[]) X.env=(Z_,eval e X.env)::ao [] X.env) ŭ)(A:autoParam ((bX u (ao [] X.env)).any (·.1)=false) ŭ):PE X (.Call (.Name x p) [e] [] u) (tS X.K B Z (FC F f)):=by
 obtain⟨fa,fd,ps,c,m,i,b⟩:=h.ex;refine(mG c U hg m i b .nil j6 (bS ha dI N) hd N A).imp ?_;rintro σ H Q ⟨G,R,d,S,i,q⟩;unfold FC at i;obtain⟨s,eg,i⟩:=aa.1 i;split at i
 .rename_i z;cases i;refine⟨G,R,s,S,eg,λL T I W =>?_⟩;refine⟨i4 G H [L],[.lst s],s,i' S.gh,.cons (bR.mpr ⟨L,T,rfl,by rw[gS (by solve_by_elim)];exact I,aY.mono (lH S.gh) _ W⟩) .nil,z.2,λa j C J E n g l r =>?_⟩;by_cases o:G L=M
  .obtain⟨K,_⟩:=nN (S:=[L]) S.gh (λb y=>by simp at y;subst y;exact o) (λb y=>by simp at y;subst y;exact⟨_,I,nofun⟩) E;have P:fG C [L] a=none:=by
    by_cases y:a∈[L]
    .exact f' y
    .rw[bV y];exact g
   refine q (.ref a) (dD (fG C [L]) a (.lst j)) J (K.freeze n P l) (bR.mpr ⟨a,j,rfl,aW,aY.mono (.alloc P) _ ?_⟩);exact sr (E.gg _ _ (by rw[gS (by solve_by_elim)];exact I)) (aY.mono ((lH S.gh).trans E.gg) _ W) z.1 s z.1 (aH _) r
  .have K:eJ G H C J:=⟨E.hh,(lH S.gh).trans E.gg,E.gh,λb v y=>by
    rcases E.fr b v y with w|w
    .by_cases t:b∈[L]
     .simp at t;subst t;rcases O:G b with _|v'
      .exact absurd O o
      .rw[gS (by solve_by_elim),S.gh _ _ O]at w;exact .inl w
     .rw[iZ t]at w;exact .inl w
    simp_all⟩
   exact q (.ref a) (dD C a (.lst j)) J (K.freeze n g l) (bR.mpr ⟨a,j,rfl,aW,aY.mono (.alloc g) _ r⟩)
 .cases i
end
def Iy(N:Nat)(s:Sk)(g:List D->DG)(b:List D):Option (D×D):=match b with
 |[t,.lst a]=>(g a (Y (.obj s t)::aM (N-1) M)).bind (qH s)|_=>M
section
variable {P:aZ}{K:aG}
def gH.UH{f:ax}{N:List aE}(F:gH K x e p f fd)(S:bu N [q0,q1] (az p))(s:Sk){Z Ź:List Nat}{g:List D->DG}(hl:2<=N.length)(hp:0∈Z)(h1:1∈Z) (hb:∀(j:aq) (A:fF) (outer:List Env) (s:aw) (H:Hp) (E:XK),dB k (A.deeper (l5 e (az p) s.heap.objs.size f j))->∀(B:Bs) (a L:ax) (u:List V) (l:List D),B.3=[(0,a),(1,L)]->B.2 L=Y (.lst u)->aY K B.1 l u ->
   lX (pI fX P w K O U N e (az p) f j A outer s H E).F9 (fx p) (gD K B [] Z Ź (g l))):bT P w K O U fX (k+1) f fd [q0,q1] (AU K s (Iy N.length s g)):=by
 refine F.ok S (λu H Q E h =>?_) (λj A outer s1 H u Q E hr h =>?_)
 .obtain⟨G,t,l,i,a,T,L,C,gh,rfl,_⟩:=h
  exact ź
 .obtain⟨G,t,l,i,a,T,L,C,gh,rfl,ot,nd,nf,nL,hL,r,b,q⟩:=h;have hB:fG H T L=Y (.lst C):=by rw[bV nL];exact hL
  refine⟨_,hb j A outer s1 H E hr ⟨G,fG H T,[(0,a),(1,L)],λ_ _=>False⟩ a L C l rfl hB r,?_⟩;obtain⟨oo,eg,b⟩:=aa.1 b;have st:SR K ⟨G,fG H T,[(0,a),(1,L)],λ_ _=>False⟩ Z G H (start N [.ref a,.ref L]) (Y (.obj s t)::aM (N.length-1) M):=by
   have only:∀(i:Nat) d,(Y (D.obj s t)::aM (N.length-1) M:bY)[i]?=Y (Y d)->i=0/\d=.obj s t:=λi d e=>by
    cases i with|zero=>cases e<;>grind|succ i=>rw[l6,jt]at e;split at e<;>cases e
   refine⟨gh,bf.refl _,λb o e =>?_,λb o e =>.inl e,λi d n e=>absurd ((only i d e).1 ▸ hp) n,⟨λ_=>T,λi d _ e =>?_,λi d _ e=>⟨nd,λb z=>⟨nf b z,f' z⟩⟩,λi j d c _ _ ei ej n=>absurd ((only i d ei).1.trans (only j c ej).1.symm) n⟩,?_,λi b h =>?_,λj r p _ _ e =>?_⟩
   .by_cases y:b∈T
    .simp only[f' y]at e;cases e
    .simp only[bV y]at e;exact e
   .obtain⟨rfl,rfl⟩:=only i d e;exact⟨a,rfl,ot⟩
   .simp[start];lia
   .simp only[br,oI,fZ,or_false]at h;rcases h with⟨rfl,rfl⟩|⟨rfl,rfl⟩
    .exact⟨hp,rfl⟩
    .exact⟨h1,rfl⟩
   .cases (only j _ e).2
  refine⟨G,_,oo,st,eg,?_⟩;have kC:∀ {m:List Nat}{d i:Hp}{j:St}{e:bY}{k:D},SR K ⟨G,fG H T,[(0,a),(1,L)],λ_ _=>False⟩ m d i j e->ib s 0 e=Y k->∃c,cv K d i s k (.ref a) c/\c.Nodup/\∀b∈c,d b=M/\(b∈T\/H b=M):=fun {m d i j e k} r y=>by
   obtain⟨g,f⟩:=r.pin 0 a Ž;obtain⟨z,c,q,t,w,n,_⟩:=r.tree g (gx y);rw[f]at q;cases q;refine⟨c,t,w,λb o=>⟨(n b o).1,?_⟩⟩;by_cases h:b∈T
   .exact .inl h
   .exact .inr (by simpa [bV h] using (n b o).2)
  cases oo with
  |rm d' m=>have b:(ib s 0 m).map (λt=>(d',t))=Y (.dW,i):=b;obtain⟨y,o,b⟩:=aj.1 b;cases b;intro v σ G' H' ⟨o',W⟩ rv;obtain⟨X,R,J,I⟩:=kC W o;rw[f_.mp rv];exact q X G' H' W.jP R J I
  |nx m=>have b:(ib s 0 m).map (λt=>(D.dW,t))=Y (.dW,i):=b;obtain⟨y,o,b⟩:=aj.1 b;cases b;intro σ G' H' W;obtain⟨X,R,J,I⟩:=kC W o;exact q X G' H' W.jP R J I
  |_=>cases b
end
section
variable {X:Cx}
set_option tactic.hygienic true in
def Ow{f:aE}(h:PE X (.Name x p) (fB j))(P:PE X e (R1 X.K B Z J q))(n:pQ X.K c f)(W:autoParam (j∈Z) ū)(K:autoParam (bU e (Y (.Attribute (.Name x p) f A)) g.line X.env=dn false) ŭ):PS X (.Assign [.Attribute (.Name x p) f A] e g) (gD X.K B I Z Z (ri j c f J q)):=(wA h P K).imp <|by
 rintro D σ H ⟨G,l,o,S,a,k⟩;obtain⟨d,N,a⟩:=aa.1 a;rcases i:t_ j l with _|⟨s,t⟩
 .simp[i]at a
 simp only[i,ai]at a;split at a
 .split at a
  .rename_i F;obtain⟨⟨rfl,rfl⟩,b,z⟩:=F;cases a;refine⟨G,l,d,S,N,λv S1 Q H' E m y w =>?_⟩;rw[<- Sk.nO b]at m;obtain⟨u,C,O,vs,L,r,U,T,R⟩:=S.IE W (jv i) E m y w;refine⟨_,L,u,C,O,_,rfl,U,(n C r).1,(n C r).2,?_,k _ Q _ R⟩;rw[pU T];lia
  .cases a
 .cases a
def Wg(N i:Nat)(d:D):bY:=(aM N M).set i (Y d)
def eWk(N i:Nat)(d:D)(f:DF):DF:=λ_=>(f (Wg N i d)).bind λx=>if pX x=Z' then Y x else M
structure Wk(K:aG)(B:Bs)(i:Nat)(d:D):Prop where
 ex:∃a S,(i,a)∈B.3/\(∀b∈S,B.1 b=none/\AZ B.2 b)/\cS K (i4 B.1 B.2 S) d (.ref a)
def SR.wk{K:aG}{i:Nat}{f:St}{g:bY}(S:SR K B k G H f g)(w:Wk K B i d)(l:g.length=N):∃T,(∀b∈T,G b=M/\AZ H b)/\j2 K [] (i4 G H T) H f (Wg N i d):=by
 obtain⟨a,T,p,o,r⟩:=w.ex;refine⟨T,λb h=>⟨?_,?_⟩,?_,λj c e =>?_,λj r p h=>by cases h⟩
 .obtain⟨u,v,_⟩:=(o b h).2;rcases q:G b with _|x
  .exact ź
  rcases S.fr b x q with z|z
  .simp_all
  lia
 .obtain⟨u,v,n⟩:=(o b h).2;exact⟨u,S.h0 _ _ v,n⟩
 .simp[Wg,S.len,l]
 .unfold Wg at e;by_cases z:i=j
  .subst z;rw[List.getElem?_set]at e;simp only[if_true]at e;split at e
   .cases e;refine⟨_,(S.pin i a p).2,?_⟩;refine cS.mono (λb u e =>?_) _ r;by_cases h:b∈T
    .rw[gS h]at e ⊢;exact S.h0 _ _ e
    .rw[iZ h]at e ⊢;exact S.g0 _ _ e
   .cases e
  .rw[av z,jt]at e;split at e<;>cases e
set_option tactic.hygienic true in
def SU{f:DF}{i:Nat}(w:Wk X.K B i d)(h:PE X e (tP X.K [] f)):PE X e (tS X.K B c λa=>eWk a.length i d f a):=h.imp <|by
 rintro j H Q ⟨G,a,x,S,e,k⟩;obtain⟨y,t,e⟩:=aa.1 e;split at e
 .rename_i p;cases e;obtain⟨T,o,g⟩:=S.wk w rfl;refine⟨_,_,_,i' S.gh,g,t,λv N L E r =>?_⟩;obtain⟨u,q⟩:=nN S.gh (λb i=>(o b i).1) (λb i=>(o b i).2) E;exact k v _ L u (ze q p r)
 .cases e
def ZY(N i:Nat)(d:D)(f:DL):DL:=λ_=>(f (Wg N i d)).bind λx=>if kP x=Z' then Y x else M
set_option tactic.hygienic true in
def YZ{f:DL}(w:Wk X.K B i d)(h:PE X e (tF X.K [] f)):PE X e (tS X.K B m (eF λa=>ZY a.length i d f a)):=h.imp <|by
 rintro v H Q ⟨G,a,x,S,e,k⟩;obtain⟨y,s,rfl⟩:=aj.1 e;obtain⟨z,t,e⟩:=aa.1 s;split at e
 .rename_i p;cases e;obtain⟨T,o,g⟩:=S.wk w rfl;refine⟨_,_,_,i' S.gh,g,t,λq b N L E n A l r =>?_⟩;obtain⟨u,c⟩:=nN S.gh (λb i=>(o b i).1) (λb i=>(o b i).2) E;have j:fG N T q=none:=by grind [f',bV]
  exact k _ _ L (u.freeze n j l) (bR.mpr ⟨q,b,rfl,aW,aY.mono (.alloc j) _ (mV c p r)⟩)
 .cases e
def NP{K:aG}{a:ax}(g:B0 a=Y (.lst b))(r:aY K G n b):ItW K G B0 (V7 K a) n:=by
 refine⟨λi H l s f =>?_,λi H l s f=>⟨b,.of (s _ _ g),by rw[<- r.length];exact f⟩,λi H x B A d j s h ⟨e,y⟩ z =>?_⟩
 .have c:i<b.length:=by rw[<- r.length];exact f
  exact⟨b,b[i],.of (s _ _ g),by simp[c]⟩
 .subst e;obtain⟨v,k,o⟩:=r.get z;rw[y b (.of (s _ _ g))]at k;cases k;exact⟨A,.refl h,cS.mono j d o⟩
def Ye{i:Nat}{t a:ax}{vs us:List V}{ds:List D}{m:Pos}{q:Expr}{k:Int}(h:PE X (.Name x m) (fB i))(p:(i,t)∈B.3)(ht:B.2 t=Y (.tup vs))(e:oY vs k=Y (.ref a))(ha:B.2 a=Y (.lst us))(r:aY X.K B.1 ds us)(hq:PE X q (tC (.int k)))(c:autoParam (sN q) š):PI X L (.Subscript (.Name x m) q w) (tWI X.K B Z λρ=>Y (ds,ρ)):=(CK (Ez C3 h hq c)).imp <|by
 rintro l H R ⟨G,ρ,b,a',S,z,k⟩;cases z;refine⟨_,(S.pin i t p).2,.inr (.inl ⟨t,vs,_,_,rfl,rfl,.of (S.h0 _ _ ht),e,a,rfl,⟨us,.of (S.h0 _ _ ha)⟩,k _ G H S (NP ha (aY.mono S.g0 _ r))⟩)⟩
end
section
variable {K:aG}
end
def SX(j:Nat)(a:bY):Option (Nat×yO):=(eV j a).bind λd=>match d with|.eQ r p=>Y (r,p)|_=>M
def HN(h:SX j a=Y (r,p)):a[j]?=Y (Y (.eQ r p)):=by
 obtain⟨d,e,h⟩:=aa.1 h;cases d<;>first|(cases h;exact gW e)|cases h
def uA(c m:aE)(s1:Sk)(F:List D->Option (D×D))(j:Nat)(g:DL):DM:=λb=>(SX j b).bind λq=>(t_ q.1 b).bind λz=>match mI q.2 z.1,jg q.2 z.2 with
 |some u,Y (.ins a d i)=>if (Sk.sE u s1=Z'/\a=c/\q.1≠j)/\m∉d then (g b).bind λe=>(F (.ins a d i::e)).map λr=>(r.1,((cZ q.1 b).set q.1 (Y (.obj z.1 (lS r.2 q.2 z.2)))).set j (Y (.eQ q.1 q.2))) else M
 |_,_=>M
section
variable {X:Cx}
set_option tactic.hygienic true in
def E8{o m:aE}{e:List (aE×Sk)}{F:List D->Option (D×D)}(n:js X.K aT o=Y (Y (.ref C1)))(z:j∈Z)(z1:A8 j∈Z)(z2:x_ j∉Z)(pn:∀a,(j,a)∉B.3)(ht:∀i H Q,AR X.K Z g i H Q->t i H Q)(h:tM X.K B Z (uA o m (.fs o e) F j g) i H Q):yY C1 m (spT X.K (.fs o e) F) [] E0 (fB j) t i H Q:=by
 obtain⟨G,p,d,ρ',S,b,q⟩:=h;obtain⟨⟨r,w⟩,ea,b1⟩:=aa.1 b;obtain⟨⟨s,t0⟩,et,b2⟩:=aa.1 b1;clear b b1;simp only at b2;split at b2
 .rename_i u k ks ds es ep;split at b2
  .rename_i hz;obtain⟨⟨y,rfl,nr⟩,hm⟩:=hz;obtain⟨r',c,b3⟩:=aa.1 b2;obtain⟨⟨d',t'⟩,eF,b4⟩:=aj.1 b3;cases b4;rw[Sk.nO y]at es;have A:=jv et;obtain⟨hr,hr2,s',t1,sd,v,bb,f1,f2,f3,f4,f5,f6⟩:=S.eQ j r w z z1 (HN ea);rw[A]at f1;cases f1;obtain⟨a,x,T1,N,e2,o1,_⟩:=S.Ao hr A es ep;rw[N]at f2;cases f2;rw[e2]at f4;cases f4;cases o1 with
   |@ins _ _ _ _ s C' P vs S0 n' ex l tt=>
    rw[n]at n';cases n';refine⟨_,f3,s,P,_,rfl,ex,jK (K:=X.K) (G:=G) hm,ht _ _ _ ⟨G,p,r',S.gh,S.jh,c,λT G1 H1 R r1 =>?_⟩⟩;rw[bL];have S1:=S.ext R;obtain⟨a1,x1,T2,g1,g2,g3,g4,g5,g6⟩:=S1.Ao hr A es ep;rw[N]at g1;cases g1;rw[ja R.hh e2]at g2;cases g2;refine⟨G1,_,r',d',t',s,T2,T,S1.gh,rfl,g3,g4,g5,r1,eF,λv T' G' H' E nw nd nf rv =>?_⟩;obtain⟨gv,S2⟩:=g6 t' T' G' H' E nw nd nf;have lr:r<(cZ r p).length:=by simpa [cZ] using (au.mp A).1
    have S3:=S2.GL (b:=s) hr hr2 z nr z2 pn (oG lr) N gv es f6;rw[fS f3]at S3;exact q v G' H' S3 (R.gg.trans E.gg) rv
  .cases b2
 .cases b2
def Ox{c m:aE}{SK:List (aE×Sk)}{F:List D->Option (D×D)}(h:dU X.prog X.w X.K X.mg X.base c m k (spT X.K (.fs c SK) F))(t:dB k X.A)(w:PE X (.Name y p) (fB j))(K:PA X (e::I) (AR X.K Z g))(A:autoParam (j∈Z) ū)(A1:autoParam (A8 j∈Z) ū)(A2:autoParam (x_ j∉Z) ū)(pn:autoParam (∀a,(j,a)∉B.3) Ŧ)(b:autoParam (ao (e::I) X.env=(Z_,eval e X.env)::ao I X.env) ŭ)(d:autoParam ((bX J (ao I X.env)).any (·.1)=false) ŭ) (s:autoParam (eval (.Call (.Attribute (.Name y p) m L) (e::I) [] J) X.env=(do
   let d <- eval (.Name y p) X.env
   jQ L.atName
   let (f,first) <- iC [d] (hG d m pl)
   j3 J f first (bX J (ao (e::I) X.env)) (eM J (cq [] X.env)))) ŭ):PE X (.Call (.Attribute (.Name y p) m L) (e::I) [] J) (tM X.K B Z (uA c m (.fs c SK) F j g)):=by
 obtain⟨C,S,R,P,n,E,x,i,G⟩:=h.ex;exact(vi w E x i t G .nil j6 K b d s).imp λN H Q q=>E8 n A A1 A2 pn (λl l l z=>z) q
def Lh{c m:aE}{SK:List (aE×Sk)}{F:List D->Option (D×D)}(h:dU X.prog X.w X.K X.mg X.base c m k (spT X.K (.fs c SK) F))(t:dB k X.A)(w:PE X (.Name y p) (fB j))(A:autoParam (j∈Z) ū)(A1:autoParam (A8 j∈Z) ū)(A2:autoParam (x_ j∉Z) ū)(pn:autoParam (∀a,(j,a)∉B.3) Ŧ) (s:autoParam (eval (.Call (.Attribute (.Name y p) m L) [] [] J) X.env=(do
   let a <- eval (.Name y p) X.env
   jQ L.atName
   let (f,first) <- iC [a] (hG a m pl)
   j3 J f first (bX J (ao [] X.env)) (eM J (cq [] X.env)))) ŭ):PE X (.Call (.Attribute (.Name y p) m L) [] [] J) (tM X.K B Z (uA c m (.fs c SK) F j aN)):=by
 obtain⟨C,S,R,P,n,E,x,g,G⟩:=h.ex;exact(rA w E x g t G .nil j6 s).imp λN H Q q=>E8 n A A1 A2 pn (by rintro b H Q ⟨G,A,d,S,z,e,k⟩;cases e;exact k _ G H (.refl S) .nil) q
end
section
variable {P:aZ}{K:aG}
def dU.toT{m:aE}{s:Sk}{F:List D->Option (List D×D)}(h:dU P w K u y c m k (Kh K s F)):dU P w K u y c m k (spT K s λe=>(F e).map λr=>(.lst r.1,r.2)):=by
 obtain⟨C,f,fd,L,a,b,d,g,e⟩:=h.ex;refine⟨C,f,fd,L,a,b,d,g.imp λz H Q E ⟨G,t,A,d,i,a,T,B,X,e,W,R,O,r,b,q⟩ =>?_,e⟩;obtain⟨⟨l,I⟩,eF,b⟩:=aj.1 b;cases b;refine⟨G,t,A,l,I,a,T,B,X,e,W,R,O,r,eF,λp x d c f E o S j v hp N fp J =>?_⟩;have U:∀b∈d,b≠p:=λb n z=>N (z ▸ n)
 refine q (.ref p) d (dD c p (.lst x)) f ⟨E.hh,E.gg.trans (.alloc v),λb o e =>?_,λb o e =>?_⟩ (o.mono (.alloc v) λb V o e=>e) S (λb n=>⟨by rw[aP (U b n)];exact(j b n).1,(j b n).2⟩) (bR.mpr ⟨p,x,rfl,aW,aY.mono (.alloc v) _ J⟩)
 .by_cases z:b=p
  .subst z;rw[aW]at e;cases e;exact fp
  .rw[aP z]at e;exact E.gh _ _ e
 .by_cases z:b=p
  .grind [f',bV]
  .rw[aP z]at e;exact E.fr b o e
def W5{B:Bs}{f:List V}{R S:List D}{m:Int}(s:bf B.1 B.2)(p:(i,t)∈B.3)(w:B.1 t=Y (.tup [.int m,.int n,.ref a,.ref b]))(k:B.2 a=Y (.lst g))(j:B.2 b=Y (.lst f))(v:aY K B.1 R g)(u:aY K B.1 S f):Wk K B i (.tup [.int m,.int n,.lst R,.lst S]):=by
 have d:∀ {c:ax}{e:List V}{l:List D}{T:List ax},B.2 c=Y (.lst e)->(B.1 c=M->c∈T)->aY K B.1 l e->cS K (i4 B.1 B.2 T) _ _:=fun {c e l T} x y r=>by
  refine bR.mpr ⟨c,e,rfl,?_,aY.mono (lH s) _ r⟩;by_cases z:c∈T
  .simp_all [gS]
  .rw[iZ z];rcases q:B.1 c with _|o
   .exact ź
   .have:=s _ _ q
    simp_all
 refine⟨t,[a,b].filter λc=>(B.1 c).isNone,p,λc h =>?_,?_⟩
 .rw[lP]at h;refine⟨by simpa using h.2,?_⟩;have:=h.1;simp at this;rcases this with rfl|rfl
  .exact⟨_,k,nofun⟩
  .exact⟨_,j,nofun⟩
 .refine cL.mpr ⟨t,_,rfl,lH s _ _ w,.cons (bK.mpr rfl) (.cons (bK.mpr rfl) (.cons (d k (λz =>?_) v) (.cons (d j (λz =>?_) u) .nil)))⟩
  .simp[lP,z]
  simp_all
end
inductive Mt (K:aG) (s:Sk) (F:List D->Option D) (j:List V) (H:Hp) (Q:VK) (_x:XK):Prop
 | mk G ds m n R S d L vs t a b us ws:bf G H->j=[.ref L,.ref t]->H L=some (.lst vs)->aY K G ds vs->G t=some (.tup [.int m,.int n,.ref a,.ref b])->H a=some (.lst us)->H b=some (.lst ws)->aY K G R us->aY K G S ws->F [.lst ds,.tup [.int m,.int n,.lst R,.lst S]]=some d ->
   (∀v T G' H',eJ G H G' H'->cv K G' H' s d v T->T.Nodup->(∀b∈T,G' b=none/\H b=none)->Q v H')->Mt K s F j H Q _x
def XX(s:Sk):DO->Option D
 |.rf i a=>ib s i a|_=>M
def Se(N:Nat)(s:Sk)(g:List D->List D->D->DG)(b:List D):Option D:=match b with
 |[.lst a,.tup [.int m,.int n,.lst R,.lst S]]=>(g a R (.tup [.int m,.int n,.lst R,.lst S]) (aM N M)).bind (XX s)|_=>M
section
variable {P:aZ}{K:aG}
def gH.aaU{f:ax}{N:List aE}(F:gH K x e p f fd)(S:bu N [q0,q1] (az p))(s:Sk){Z Ź:List Nat}{g:List D->List D->D->DG}(hl:2<=N.length)(h0:0∈Z)(h1:1∈Z) (hb:∀(j:aq) (A:fF) (u:List Env) (s:aw) (H:Hp) (E:XK),dB k (A.deeper (l5 e (az p) s.heap.objs.size f j))->∀(B:Bs) (L t a:ax) (y z:List V) (I R S:List D) (m n:Int) (b:ax),B.3=[(0,L),(1,t)]->B.2 L=Y (.lst y)->aY K B.1 I y->B.2 t=Y (.tup [.int m,.int n,.ref a,.ref b])->B.2 a=Y (.lst z)->aY K B.1 R z->Wk K B 1 (.tup [.int m,.int n,.lst R,.lst S]) ->
   lX (pI fX P w K O U N e (az p) f j A u s H E).F9 (fx p) (gD K B [] Z Ź (g I R (.tup [.int m,.int n,.lst R,.lst S])))):bT P w K O U fX (k+1) f fd [q0,q1] (Mt K s (Se N.length s g)):=by
 refine F.ok S (λy H Q E h =>?_) (λj A u s1 H y Q E hr h =>?_)
 .obtain⟨G,I,m,n,R,S,d,L,y,t,a,b,z,ws,J,rfl,_⟩:=h
  exact ź
 .obtain⟨G,I,m,n,R,S,d,L,y,t,a,b,z,ws,J,rfl,hL,rL,ht,ha,Vr,ra,rb,eq,q⟩:=h;refine⟨_,hb j A u s1 H E hr ⟨G,H,[(0,L),(1,t)],λ_ _=>False⟩ L t a y z I R S m n b rfl hL rL (J _ _ ht) ha ra (W5 J ź ht ha Vr ra rb),?_⟩;obtain⟨oo,eg,X⟩:=aa.1 eq;have l:∀(i:Nat) d,(aM N.length M:bY)[i]?=Y (Y d)->False:=λi d e=>by rw[jt]at e;split at e<;>cases e
  have st:SR K ⟨G,H,[(0,L),(1,t)],λ_ _=>False⟩ Z G H (start N [.ref L,.ref t]) (aM N.length M):=by
   refine⟨J,bf.refl _,bf.refl _,λb o e =>.inl e,λi d _ e=>(l i d e).elim,⟨λ_=>[],λi d _ e=>(l i d e).elim,λi d _ e=>(l i d e).elim,λi j d c _ _ ei _ _=>(l i d ei).elim⟩,?_,λi b h =>?_,λj r p _ _ e=>(l j _ e).elim⟩
   .simp[start];grind
   .simp only[br,oI,fZ,or_false]at h;rcases h with⟨rfl,rfl⟩|⟨rfl,rfl⟩
    .exact⟨h0,rfl⟩
    .exact⟨h1,rfl⟩
  refine⟨G,_,oo,st,eg,?_⟩;cases oo with
  |rf i A=>have X:ib s i A=Y d:=X;rintro v C G' H' ⟨o',hi,W⟩ hv;obtain⟨a',T,e1,ot,nd,nf,_⟩:=W.tree hi (gx X);rw[hv]at e1;cases e1;exact q _ T G' H' W.jP ot nd nf
  |_=>cases X
end
section
variable {X:Cx}
end
end L2
section
set_option maxHeartbeats 400000
namespace L2
open PySem PySem.Spec PyProof.Rows
inductive W_ (K:aG) (B:Bs) (Z:List Nat) (f:DF) (c:St) (H:Hp) (Q:VK):Prop
 |mk G ρ m n R S:SR K B Z G H c ρ->f ρ=some (.tup [.int m,.int n,.lst R,.lst S])->(∀t a b us ws,G t=some (.tup [.int m,.int n,.ref a,.ref b])->H a=some (.lst us)->H b=some (.lst ws)->aY K G R us->aY K G S ws->Q (.ref t) H)->W_ K B Z f c H Q
def SR.vl{K:aG}{m n:Int}{R k:List D}(S:SR K B c G H g h)(p:i∈c)(e:ib .vl i h=Y (.tup [.int m,.int n,.lst R,.lst k])):∃t a b f d F,g[i]?=Y (Y (.ref t))/\G t=Y (.tup [.int m,.int n,.ref a,.ref b])/\H a=Y (.lst f)/\H b=Y (.lst d)/\aY K G R f/\aY K G k d/\a≠b/\G a=M/\G b=M/\r9 K B c G H g h F/\F i=[a,b]:=by
 obtain⟨t,T,q,o,x,j,F,W,v⟩:=S.tree p (gx e);cases o with
 |@vl _ _ _ a b f d _ _ w u s r l=>exact⟨t,a,b,f,d,F,q,w,u,s,r,l,ż,(j a ź).1,(j b ź).1,W,v⟩
section
variable {X:Cx}
def Gm{m:Pos}(h:PE X (.Name x m) (fB i))(p:autoParam (i∈d) ū):PE X (.Name x m) (W_ X.K B d (ib .vl i)):=h.imp <|by
 rintro c H Q ⟨G,u,m,n,R,v,S,e,k⟩;obtain⟨t,a,b,g,f,F,q,s,r,o,l,j,_⟩:=S.vl p e;exact⟨_,q,k t a b g f s r o l j⟩
def Mb{m:Pos}(h:PE X (.Name x m) (fB i))(p:autoParam (i∉d) ū):PE X (.Name x m) (W_ X.K B d (eV i)):=h.imp <|by
 rintro c H Q ⟨G,C,m,n,R,K,S,e,k⟩;obtain⟨v,q,r⟩:=S.env i _ p (gW e);obtain⟨t,D,rfl,y,r⟩:=cL.mp r;obtain⟨J,_,rfl,w,r⟩:=bD.mp r;obtain⟨I,_,rfl,u,r⟩:=bD.mp r;obtain⟨F,_,rfl,s,r⟩:=bD.mp r;obtain⟨E,_,rfl,o,r⟩:=bD.mp r;cases cU.mp r;cases bK.mp w;cases bK.mp u;obtain⟨a,g,rfl,A,l⟩:=bR.mp s;obtain⟨b,f,rfl,z,j⟩:=bR.mp o;exact⟨_,q,k t a b g f y (S.gh _ _ A) (S.gh _ _ z) l j⟩
def La(F:List D->Option D)(f:DL)(g:DF):DF:=λa=>(f a).bind λb=>(g a).bind λd=>match d with|.tup [.int m,.int n,.lst R,.lst S]=>F [.lst b,.tup [.int m,.int n,.lst R,.lst S]]|_=>M
def Dw{s:Sk}{F:List D->Option D}{f:DL}(h:ju X.prog X.w X.K X.mg X.base x k (Mt X.K s F))(U:dB k X.A)(hg:Gl X x)(r:PE X j (Tp X.K B l f))(R:PE X e (W_ X.K B l g))(hd:autoParam ((x==("__debug__" : aE))=false) ū)(y:autoParam (ao (j::[e]) X.env=(Z_,eval j X.env)::ao [e] X.env) ŭ)(n:autoParam (ao (e::[]) X.env=(Z_,eval e X.env)::ao [] X.env) ŭ)(A:autoParam ((bX u (ao [e] X.env)).any (·.1)=false) ŭ):
  PE X (.Call (.Name x p) [j,e] [] u) (R1 X.K B l s (La F f g)):=by
 obtain⟨fa,fd,ps,c,m,i,b⟩:=h.ex;refine(mG c U hg m i b .nil j6 (bS r (bS R dI n) y) hd y A).imp ?_;rintro σ H Q ⟨G,w,d,S,i,q⟩;obtain⟨z,j,i⟩:=aa.1 i;obtain⟨dd,e,i⟩:=aa.1 i;split at i
 .exact⟨G,w,z,S,j,λL I hL N=>⟨G,w,_,_,_,_,S,e,λt a b J C gt r hb W K=>⟨G,z,_,_,_,_,d,L,I,t,a,b,J,C,S.gh,rfl,hL,N,gt,r,hb,W,K,i,λv T G' H' E o P O=>q v T G' H' E o P O⟩⟩⟩
 .cases i
def Iu(i:Nat):DG:=λa=>(ib .vl i a).bind λd=>match d with|.tup [.int m,.int n,.lst _,.lst S]=>Y (.nx ((cZ i a).set i (Y (.obj .vl (.tup [.int m,.int n,.lst [],.lst S])))))|_=>M
def Ra{c b:Pos}{m:Pos}(h:PE X (.Name x m) (fB i))(E:PE X j (tC (.int 2)))(p:autoParam (i∈f) ū)(K:autoParam (sN j) š)(z:autoParam (bQ (.Subscript (.Name x m) j w) "clear" X.env (eval (.Subscript (.Name x m) j w) X.env)=eval (.Subscript (.Name x m) j w) X.env) ŭ)(l:autoParam ((c.endLine==b.line)=true) ŭ)(s:autoParam (bU (.Call (.Attribute (.Subscript (.Name x m) j w) "clear" c) [] [] b) M J.line X.env=dn false) ŭ):
  PS X (.Expr (.Call (.Attribute (.Subscript (.Name x m) j w) "clear" c) [] [] b) J) (gD X.K B I f f (Iu i)):=
 (mF (CN gw PySem.F.slot_list_clear PySem.F.type_list_clear EU (Ez C3 h E K) z l) s).imp <|by
  rintro D C H ⟨G,A,o,S,j,k⟩;obtain⟨d,e,j⟩:=aa.1 j;split at j
  .cases j;obtain⟨t,a,b,g,N,F,y,q,n,L,O,r,u,Q,P,W,R⟩:=S.vl p e;refine⟨_,y,.inr (.inl ⟨t,_,_,.ref a,rfl,rfl,.of (S.gh _ _ q),rfl,.inl ⟨rfl,g,.of n⟩,a,g,rfl,rfl,n,k C G _ (S.vN (n :=.vl) W R p (gx e) y ⟨λx o e =>?_,bf.refl _,λx o e =>?_,λT T e =>.inl e⟩ (.vl q aW (by rw[aP u.symm];exact L) .nil r) ż λx v=>⟨?_,.inl v⟩)⟩)⟩
   .grind [f',bV,aP]
   .rw[aP λy=>by lia];exact S.gh _ _ e
   grind
  .cases j
def Iv(i:Nat)(b:Int):DG:=λa=>(ib .vl i a).bind λd=>match d with|.tup [.int m,.int n,.lst R,.lst S]=>if S.length<=dE then Y (.nx ((cZ i a).set i (Y (.obj .vl (.tup [.int m,.int n,.lst R,.lst (S++[.tup [.int b]])]))))) else M|_=>M
set_option tactic.hygienic true in
def Rb{c b:Pos}{m:Pos}(h:PE X (.Name x m) (fB i))(hj:PE X j (tC (.int 3)))(he:PE X e (tC (.int Q)))(p:autoParam (i∈f) ū)(hc:autoParam (sN j) š)(hm:autoParam (bQ (.Subscript (.Name x m) j w) "append" X.env (eval (.Subscript (.Name x m) j w) X.env)=eval (.Subscript (.Name x m) j w) X.env) ŭ) (hn:autoParam (((bX b (ao [.Tuple [e] q r] X.env)).all (λx=> !x.1)&&(eM b (cq [] X.env)).all (λx=>x.1.isSome)
   && decide (([.Tuple [e] q r]:List Expr).length+([]:List lh).length+(if ([]:List lh).isEmpty then 0 else 1)<30))=true) ŭ) (l:autoParam ((c.endLine==b.line)=true) ŭ) (z:autoParam (ao (.Tuple [e] q r::[]) X.env=(Z_,eval (.Tuple [e] q r) X.env)::ao [] X.env) ŭ) (T:autoParam (ao (e::[]) X.env=(Z_,eval e X.env)::ao [] X.env) ŭ) (g:autoParam ((bX b (ao [] X.env)).any (·.1)=false) ŭ) (s:autoParam (bU (.Call (.Attribute (.Subscript (.Name x m) j w) "append" c) [.Tuple [e] q r] [] b) M J.line X.env=dn false) ŭ) :
  PS X (.Expr (.Call (.Attribute (.Subscript (.Name x m) j w) "append" c) [.Tuple [e] q r] [] b) J) (gD X.K B I f f (Iv i Q)):=
 (mF (BH gw PySem.F.slot_list_append PySem.F.type_list_append mW (Ez C3 h hj hc) (bS (wC (bS he dI T)) dI z) hm hn l z g) s).imp <|by
  rintro D C H ⟨G,A,o,S,j,k⟩;obtain⟨d,e,j⟩:=aa.1 j;split at j
  .split at j
   .rename_i m' n' R S' hS;cases j;obtain⟨t,a,b,us,K,F,y,P,Z,v,U,N,ne,ga,gb,W,hF⟩:=S.vl p e;have hl:K.length<=dE:=by rw[<- N.length];exact hS
    refine⟨_,y,.inr (.inl ⟨t,_,_,.ref b,rfl,rfl,.of (S.gh _ _ P),rfl,.inl ⟨rfl,K,.of v⟩,?_⟩)⟩;refine⟨bz (Ž) rK,λn u =>?_⟩;have O:b≠n:=λz=>by rw[z,u]at v;cases v
    have na:a≠n:=λz=>by rw[z,u]at Z;cases Z
    have E:=S.gh.free u;refine⟨b,K,_,rfl,rfl,by rw[aP O];exact v,Bk hl (by rw[iG];decide),k C _ _ (S.vN W hF p (gx e) y ⟨λx o e =>?_,.alloc E,λx o e =>?_,λx o e =>?_⟩ (.vl (bf.alloc E _ _ P) (by rw[aP ne,aP na];exact Z) aW (aY.mono (.alloc E) _ U) ((aY.mono (.alloc E) _ N).append (.cons (cL.mpr ⟨n,_,rfl,aW,.cons (bK.mpr rfl) .nil⟩) .nil))) ż λx L=>⟨?_,.inl L⟩)⟩
    .by_cases z:x∈[a,b]
     .rw[f' z]at e;cases e
     .rw[bV z]at e;rw[aP (λy=>z (by simp[y])),aP (λy=>by rw[y,u]at e;cases e)];exact e
    .by_cases z:x=n
     .subst z;rw[aW]at e;rw[aP O.symm,aW];exact e
     .rw[aP z]at e;rw[aP (λy=>by rw[y,gb]at e;cases e),aP z];exact S.gh _ _ e
    .grind [f',bV,aP]
    .simp at L;rcases L with rfl|rfl
     .simp_all [aP]
     simp_all [aP]
   .cases j
  .cases j
def Xx(i:Nat):DG:=λa=>(gk i a).map λ_ =>.nx (a.set i (Y (.lst [])))
def VI{c b m:Pos}(h:PE X (.Name x m) (fB i))(p:autoParam (i∈d) ū)(f:autoParam (bQ (.Name x m) "clear" X.env (eval (.Name x m) X.env)=eval (.Name x m) X.env) ŭ)(l:autoParam ((c.endLine==b.line)=true) ŭ)(s:autoParam (bU (.Call (.Attribute (.Name x m) "clear" c) [] [] b) M J.line X.env=dn false) ŭ):
  PS X (.Expr (.Call (.Attribute (.Name x m) "clear" c) [] [] b) J) (gD X.K B I d d (Xx i)):=
 (mF (CN gw PySem.F.slot_list_clear PySem.F.type_list_clear EU h f l) s).imp <|by rintro D C H ⟨G,A,o,S,j,k⟩;obtain⟨g,U,j⟩:=aj.1 j;cases j;have u:=cA U;obtain⟨a,P,y,e,_⟩:=S.mH p u;exact⟨_,y,.inl ⟨rfl,P,.of e⟩,a,P,rfl,rfl,e,k C G _ (S.mut p u y .nil)⟩
end
end L2
end
section
set_option maxHeartbeats 400000
namespace L2
open PySem PySem.Spec PyProof.Rows
inductive GI (K:aG) (F:List D->Option (List D×List D)) (h:List V) (H:Hp) (Q:VK) (_x:XK):Prop
 |mk G f d b a n k:bf G H->f[0]?=some (.lst k)->h[0]?=some (.ref a)->H a=some (.lst n)->aY K G k n->G a=none->(∀(i:Nat) c,i≠0->f[i]?=some c->∃v,h[i]?=some v/\cS K G c v)->f.length=h.length->F f=some (d,b)->(∀q us g j,eJ G (AM H a) g j->g q=none->H q=none->j q=some (.lst us)->aY K g d us->Q (.ref q) j)->GI K F h H Q _x
def So:DO->Option (List D×List D)
 |.rf i a=>if i=0 then M else (gk i a).bind λd=>(gk 0 a).map λb=>(d,b)
 |_=>M
def BE(n N:Nat)(g:DG)(a:List D):Option (List D×List D):=if a.length=n then (g (hJ N a)).bind So else M
section
set_option tactic.hygienic true
variable {P:aZ}{K:aG}
def gH.aaW{f:ax}(F:gH K x I l f fd)(S:bu N p (az l)){Z Ź:List Nat}(hp:0∈Z)(m:∀i∈Z,i=0\/p.length<=i) (c:∀(L:aq) (A:fF) (j:List Env) (s:aw) (H:Hp) (E:XK),dB k (A.deeper (l5 I (az l) s.heap.objs.size f L))->∀(B:Bs) (a:ax),B.3=[(0,a)] ->
   lX (pI fX P w K u y N I (az l) f L A j s H E).F9 (fx l) (gD K B [] Z Ź g)):bT P w K u y fX (k+1) f fd p (GI K (BE p.length N.length g)):=by
 refine F.ok S (λvs H Q E h =>?_) (λL A j s H vs Q E hr h =>?_)
 .obtain⟨G,ds,d,R,a,ws,X,gh,hd,hv,ha,r,ga,ro,hl,e,_⟩:=h;unfold BE at e;split at e<;>lia
 .obtain⟨G,ds,d,R,a,ws,X,gh,hd,hv,ha,r,ga,ro,hl,e,q⟩:=h;unfold BE at e;split at e
  .rename_i hn;refine⟨_,c L A j s H E hr ⟨G,AM H a,_,λV V=>False⟩ a rfl,?_⟩;obtain⟨o,eg,e⟩:=aa.1 e;refine⟨G,_,o,Bw gh hp hd hv ha r ga ro hl (by rw[hn];exact m),eg,?_⟩;cases o with
   |rf i C=>
    have e:(if i=0 then M else (gk i C).bind _)=Y (d,R):=e;split at e
    .cases e
    .rename_i i0;obtain⟨dd,J,e⟩:=aa.1 e;obtain⟨U,J0,e⟩:=aj.1 e;cases e;rintro v σ O T ⟨o',hi,Z⟩ hv';obtain⟨F,W⟩:=Z.ow;obtain⟨b,e1,oc⟩:=W.it i _ hi (cA J);rw[hv']at e1;cases e1;obtain⟨⟨ob,oh,us,rfl,rr⟩,fi⟩:=(mq.cell rfl).mp oc;obtain⟨_,kC⟩:=W.ok i _ hi (cA J);have n:b∈F i:=by rw[fi];exact ź
     obtain⟨p0,D⟩:=Z.pin 0 a Ž;obtain⟨b0,e2,t⟩:=W.it 0 _ p0 (cA J0);rw[D]at e2;cases e2;obtain⟨_,f0⟩:=(mq.cell rfl).mp t;have c:=(kC b n).2;refine q b us O T Z.jP (kC b n).1 ?_ oh rr;have c:AM H a b=none:=c;unfold AM at c;rw[if_neg (λz=>W.ap i 0 _ _ hi p0 (cA J) (cA J0) i0 b n (by rw[f0,z];simp))]at c;exact c
   |_=>cases e
  .cases e
end
section
variable {X:Cx}
def yI(F:List D->Option (List D×List D))(g h:DL):DL:=λa=>(g a).bind λs=>(h a).bind λb=>(F (.lst s::b)).map λr=>r.1
def Lj{F:List D->Option (List D×List D)}(ho:ju X.prog X.w X.K X.mg X.base x k (GI X.K F))(hr:dB k X.A)(hg:Gl X x)(hl:PE X b (tF X.K m g))(ha:PA X a (AR X.K m h))(J:autoParam ((x==("__debug__" : aE))=false) ū)(S:autoParam (ao (b::a) X.env=(Z_,eval b X.env)::ao a X.env) ŭ)(I:autoParam ((bX n (ao a X.env)).any (·.1)=false) ŭ):PE X (.Call (.Name x p) (b::a) [] n) (tF X.K m (yI F g h)):=by
 obtain⟨f,fd,ps,h1,hm,hk,r⟩:=ho.ex;refine(mG h1 hr hg hm hk r .nil j6 (bS hl ha S) J S I).imp ?_;rintro σ H Q ⟨G,A,d,gh,u,j,q⟩;obtain⟨s,K,j⟩:=aa.1 j;obtain⟨W,L,j⟩:=aa.1 j;obtain⟨⟨d',E⟩,eF,j⟩:=aj.1 j;cases j;refine⟨G,A,s,gh,u,K,λl U G1 H1 O R gn t rl=>⟨G1,A,W,O.gh,u.ext O,L,λus N H2 w P =>?_⟩⟩;show GI X.K F _ H2 Q E0;rw[bL];have g2:N l=none:=by
  rcases z:N l with _|o
  .exact ź
  rcases w.fr l o z with y|y<;>simp_all
 have B:=O.trans w;refine⟨N,.lst s::W,d',E,l,U,s,w.gh,rfl,rfl,w.hh _ _ t,aY.mono w.gg s rl,g2,λi c hi ec =>?_,by simp[P.length],eF,λq' v G3 H3 C g3 hq h3 r3 =>?_⟩
 .cases i with
  |zero=>exact absurd rfl hi|succ i=>exact P.get (i:=i) (by trivial)
 .refine q q' v G3 H3 ⟨λb o e =>?_,B.gg.trans C.gg,C.gh,λb o e =>?_⟩ (B.hh.free hq) g3 h3 r3
  .exact C.hh b o (by unfold AM;rw[if_neg (λz=>by rw[z,R]at e;cases e)];exact B.hh _ _ e)
  .rcases C.fr b o e with z|z
   .exact B.fr b o z
   .refine .inr ?_;by_cases T:b=l
    .subst T;exact R
    .unfold AM at z;rw[if_neg T]at z;exact B.hh.free z
def PY(d:D->D->Option D)(f j:DM)(b:D->D->Option D)(e i:DM)(t:DT)(g h:DG):DG:=λa=>(m2 d f j a).bind λp=>match p.1 with
 |.bl Z'=>g p.2| .bl Z_=>(m2 b e i p.2).bind λq=>match q.1 with
  |.bl Z'=>g q.2|.bl Z_=>(t q.2).bind λc=>if c then g q.2 else h q.2
  |_=>M
 |_=>M
def VG{f:List Nat}{m:Pos}{s F:DM}(R:AL X (hI q1) o1)(I1:PE X x1 (tM X.K B e s))(F1:PE X o (tM X.K B e F))(E1:fK q1 o=Z_)(Q:AL X (hI q2) o2)(I2:PE X U (tM X.K B e q))(F2:PE X b (tM X.K B e z))(E2:fK q2 b=Z_)(T:PT X c (qP X.K e p))(K:lX X A (gD X.K B f e l g))(J:lX X C (gD X.K B f e l h)):
  PS X (.If (.BoolOp .Or [.Compare x1 [q1] [o] m,.Compare U [q2] [b] m',c] mp) A C n) (gD X.K B f e l (PY o1 s F o2 q z p g h)):=(Ex (PW.pt (MS (CJ R I1 F1 E1) (MS (CJ Q I2 F2 E2) (MR T)))) K J).imp λD W H ⟨G,x,r,S,j,k⟩=>by
 obtain⟨⟨d,i⟩,L,j⟩:=aa.1 j;simp only at j;split at j
 .refine Es ⟨G,x,.bl Z',i,S,L,λv w O u N y=>⟨Z',cR.mp y,?_⟩⟩;exact vu (vu ⟨w,i,r,u,j,k⟩)
 .obtain⟨⟨d',a⟩,I,j⟩:=aa.1 j;refine Es ⟨G,x,.bl Z_,i,S,L,λv w O u N y=>⟨Z_,cR.mp y,Ba ?_⟩⟩;simp only at j;split at j
  .refine Es ⟨w,i,.bl Z',a,u,I,λv w O u N y=>⟨Z',cR.mp y,?_⟩⟩;exact vu (vu ⟨w,a,r,u,j,k⟩)
  .obtain⟨t,et,j⟩:=aa.1 j;refine Es ⟨w,i,.bl Z_,a,u,I,λv w O u N y=>⟨Z_,cR.mp y,Ba ?_⟩⟩;refine⟨w,a,t,u.gh,u.jh,et,λP H' E =>?_⟩;cases t with
   |true=>exact vu ⟨P,a,r,u.ext E,j,k⟩|false=>exact Ba ⟨P,a,r,u.ext E,j,k⟩
  .cases j
 .cases j
end
def Nx(g:DG):Prop:=∀b o,g b=Y o->∃a,o=.nx a
def Nx.seq(a:Nx g)(b:Nx h):Nx (aX g h):=λd o e=>by
 obtain⟨p,l,e⟩:=aa.1 e;obtain⟨c,rfl⟩:=a _ _ l;exact b _ _ e
theorem Nx.YB(a:Nx g):∀(b:List D) (r:bY) (o:DO),gG f g b r=Y o->∃c,o=.nx c
 |[],r,o,e=>by cases e;simp_all
 |d::b,r,o,e=>by obtain⟨p,_,e⟩:=aa.1 e;obtain⟨q,l,e⟩:=aa.1 e;obtain⟨c,rfl⟩:=a _ _ l;exact Nx.YB a b c o e
def Nx.forM{f:bY->Option (List D×bY)}(a:Nx g):Nx (tH f c g):=λd o e=>by
 obtain⟨⟨b,r⟩,_,e⟩:=aa.1 e;exact Nx.YB a b r o e
def P0(k:Nx A)(j:Nx B)(q:i≠0)(h:(aX A (aX B (CA i)) a).bind (Qo 0)=Y (.lst l,b)):(aX A (aX B (BD i)) a).bind So=Y (l,b):=by
 obtain⟨o,e,h⟩:=aa.1 h;obtain⟨p,g,e⟩:=aa.1 e;obtain⟨c,rfl⟩:=k _ _ g;obtain⟨p,f,e⟩:=aa.1 e;obtain⟨d,rfl⟩:=j _ _ f;obtain⟨n,r,rfl⟩:=aj.1 e;obtain⟨s,e4,h⟩:=aj.1 h;have m:eV i d=Y (.lst l):=by simp_all [eV,cA]
 show ((A a).bind _).bind _=_;rw[g];show ((B c).bind _).bind _=_;rw[f];show ((eV i d).map _).bind _=_;rw[m];show (if i=0 then M else (gk i d).bind _)=_
 simp_all
end L2
end
namespace L2
open PySem PySem.Spec PyProof.Rows
def Wz(f:DF):DL:=λb=>(f b).bind λd=>match d with|.lst a=>Y a|.tup a=>Y a|_=>M
def NV{f:DF}(h:Wz f b=Y a):f b=Y (.lst a)\/f b=Y (.tup a):=by
 unfold Wz at h;obtain⟨d,e,h⟩:=aa.1 h;rw[e];cases d<;>first|(cases h;exact .inl rfl)|(cases h;exact .inr rfl)|cases h
def NR{K:aG}(g:G a=Y (.tup b))(r:aY K G n b):FV K G (WS K a) n:=by
 refine⟨λi H s f =>?_,λi H s f=>⟨b,.of (s _ _ g),by rw[<- r.length];exact f⟩,λi H x B A d j h ⟨e,y⟩ z =>?_⟩
 .have c:i<b.length:=by rw[<- r.length];exact f
  exact⟨b,b[i],.of (s _ _ g),by simp[c]⟩
 .subst e;have p:=y b (.of (h _ _ (j _ _ g)));obtain⟨v,k,o⟩:=r.get z;rw[p]at k;cases k;exact⟨A,.refl h,cS.mono j d o⟩
section
variable {X:Cx}
def OK{s:aw}{a:List aq}(K:IsTup s.heap t #[])(e:IsTup s.heap b a.toArray)(J:Q (.ref b) s):be (aV d w) A (cT .Add (.ref t) (.ref b)) Q E s:=by
 obtain⟨⟨P,D,F,r⟩,m,C,n,x⟩:=id K;obtain⟨⟨H,l,p,g⟩,c,k,u,h⟩:=id e;simp only at C x k h;subst C x k h;exact concat_meets ⟨_,m,rfl⟩ ⟨_,c,rfl⟩ Pc seq_tuple_add PySem.F.slot_tuple_add PySem.F.entry_tuple_add (PySem.F.args_tuple_add_2 _ _)
  (tuple_addW0 t b #[] a.toArray n u D l r g rfl) ⟨m,c,J⟩
def Sj(K:aG):R2:=λx y H Q=>∃a b c,x=.ref a/\y=.ref b/\Cd K H a []/\Cd K H b c/\Q (.ref b) H
def EH:ou X (cT .Add) (Sj X.K):=by
 intro B s U H x y v u Q I l k h;obtain⟨a,b,g,rfl,rfl,C,A,q⟩:=h;cases l;cases k;obtain⟨r,e,p,_⟩:=I.tuple C;obtain⟨f,c,d,_⟩:=I.tuple A;have z:=cb.zero e;subst z;exact OK p d ⟨.ref b,H,I,rfl,q⟩
def IM:D->D->Option D
 |.tup a,.tup b=>if a.length+b.length<=dE then Y (.tup (a++b)) else M
 |_,_=>M
set_option tactic.hygienic true
def Qv:AL X (cT .Add) IM:=by
 refine ou.imp (IJ.or EH) ?_;rintro x y H Q ⟨G,u,t,d,e,h,g,c,q⟩;unfold IM at c;split at c<;>try (cases c;done)
 rename_i A v;split at c<;>cases c
 rename_i f;have B:cS X.K G (.tup A) x:=by
  rcases h with h|⟨_,_,_,_,c⟩
  .exact h
  .exact c.elim
 have C:cS X.K G (.tup v) y:=by
  rcases g with h|⟨_,_,_,_,c⟩
  .exact h
  .exact c.elim
 obtain⟨a,l,s,o,j⟩:=h.tup e;obtain⟨b,m,r,n,i⟩:=g.tup e;subst s r;by_cases z:l=[]
 .subst z;have w:A=[]:=Gh (by rw[j.length];rfl);subst w;refine .inr ⟨a,b,m,rfl,rfl,.of o,.of n,q _ G H (.refl e) ?_⟩;exact C
 .refine .inl ⟨a,b,l,m,rfl,rfl,.of o,.of n,z,?_,λy =>?_,λ_ p k=>q _ _ _ (eJ.alloc (p:=p) e k) ?_⟩
  .rw[<- j.length,<- i.length];exact bz f gX
  .subst y;have w:v=[]:=Gh (by rw[i.length];rfl);subst w;rw[bL]at q;exact q _ G H (.refl e) B
  .exact cL.mpr ⟨p,_,rfl,aW,aY.mono (.alloc (e.free k)) _ (j.append i)⟩
end
section
variable {X:Cx}{e:Expr}{f:DF}{Z:List Nat}{p j:Pos}
def YY(h:PE X e (tP X.K Z f)):PI X L e (Cs X.K Z (Wz f)):=by
 rintro B s l H R I ⟨G,m,p,n,b,o,k⟩;rcases NV o with o|o
 .refine CK h B s l H R I ⟨G,m,_,n,b,o,λv A w d j =>?_⟩;obtain⟨a,g,rfl,c,i⟩:=bR.mp j;exact⟨a,rfl,⟨g,.of (d.gh _ _ c)⟩,k _ A w d (BP c i)⟩
 .refine MZ h B s l H R I ⟨G,m,_,n,b,o,λv A w d j =>?_⟩;obtain⟨a,g,rfl,c,i⟩:=cL.mp j;exact⟨a,rfl,⟨g,.of (d.gh _ _ c)⟩,k _ A w d (NR c i)⟩
end
end L2
namespace K21
open PySem L2
local macro_rules | `(tactic|walk_at "s") => `(tactic|exact⟨rfl,rfl,rfl,ų,rfl,ų,ų⟩)
theorem Ų{p:Prop}(h:p:=by walk_at "s"):p:=h
noncomputable abbrev KL:List (aE×aE):=[("Coming","able"),("Coming","facts"),("Coming","full"),("Coming","opened"),("Coming","rests"),("Coming","rows"),("Coming","taken"),("Facts","asks"),("Facts","bits"),("Facts","by_name"),("Facts","by_text"),("Facts","inner"),("Facts","leads"),("Facts","question"),("Facts","starred"),("Facts","stars"),("Lean","coming"),("Row","atoms"),("Row","fits"),("Row","hoped"),("Row","hoped_around"),("Row","named"),("Row","number"),("Row","reached"),("Row","reached_around")]
noncomputable abbrev ZL:List aE:=["ValueError","all","any","bool","enumerate","int","isinstance","len","list","range","sorted","tuple","zip"]
structure KS(K:aG)(mg:aE->Option aq):Prop where
 c:∀p∈KL,pQ K p.1 p.2
 z:∀x∈ZL,mg x=none
def KS.q{K:aG}{t:aE->Option aq}{c f:aE}(k:KS K t:=by assumption)(h:autoParam ((c,f)∈KL) ū):pQ K c f:=k.c _ h
def KS.y{K:aG}{t:aE->Option aq}{x:aE}(k:KS K t:=by assumption)(h:autoParam (x∈ZL) ū):t x=none:=k.z _ h
noncomputable def Rn(Z y G:List Nat):List Nat:=Z.filter λi=> !(y.contains i||G.contains i)
section
variable {X:Cx}{Z y G:List Nat}{e:Expr}
def YT(b:PS X N (gD X.K B I Z Z g))(a:lX X O (gD X.K B I Z L h)):lX X (N::O) (gD X.K B I Z L (aX g h)):=ay b a
def abV{f:DF}(h:PE X e (tP X.K (Rn Z y G) f))(a:autoParam (mH Z (Rn Z y G) y G=true) ū):PE X e (tP X.K Z (lj y G f)):=OC _ y G h a
def abP{f:DT}(h:PT X e (qP X.K (Rn Z y G) f))(a:autoParam (mH Z (Rn Z y G) y G=true) ū):PT X e (qP X.K Z (yX y G f)):=SS _ y G h a
end
def asm{p:Prop}(h:p:=by assumption):p:=h
local macro_rules | `(tactic|walk_at "o") => do
 let o ← `(_)
 let f : String → Lean.Term → Lean.MacroM Lean.Term := fun s x=>do
  let a ← ((s.splitOn ":").getLastD "").toList.toArray.mapM fun c=>match c with
   | '?'=>`(?_)
   | 'a'=>return Lean.mkIdent `asm
   | 'r'=>return Lean.mkIdent `rfl
   | 'i'=>`(.inl rfl)
   | 'q'=>return Lean.mkIdent `KS.q
   | 'y'=>return Lean.mkIdent `KS.y
   | 'n'=>`(wK _)
   | 'p'=>`(pv _)
   | 'v'=>return Lean.mkIdent `dS
   | 'f'=>`(fun _ _=>?_)
   | 'x'=>return x
   | _=>return o
  `($(Lean.mkIdent ((s.splitOn ":").headD "").toName) $a*)
 let t ← ("PE:__x tP:__x lj:___|abV:?/PE:__x tF:__x fTh:___|df_thA:?/PT:__x qP:__x yX:___|abP:?/lX:___|kY: bZ:? YT:??/PS:___|ml:ari? rS:??? lI:? yL:? Z2:??q Q6:ari? abT:?? abR:??q rT:? Q7:ari? vC:? Z1:? Ju:? Jt:ari? VH:???q Z4:ari??q Ou:??q ds_setT:ari? abS:?ari? Z3:??q YU: uH:vr?ff/PE:__x tQ:___|vQ:_ dvo:p dq:?/PE:__x tP:___|vP:_ gf: HB: oq:?q B4:?? B3:??? Ai:? df:? sI:aar? Lk:aar?? Y4: Aj:ry? WI:aa? Y3:aa?? OD:???n HC: ab0:? abZ:? Z8:?q ab1:?? adV:?? abX:? abY:? adW:??? abW:???/PE:__x tF:___|VP:? vI:aar? Y2:ry? Jy:ry? Du:??? Y1:ry?/PE:__x tM:____|pD:aa?? mK:? VJ:? WG:aa? adT:??? Z5:aar?? WE:aaq??/PA:__x AR:___|cf:?? hU:/PA:__x Tw:____|lV:?? sG:/PT:___|Oi:???n Oi:???r abQ:? rR:? PW.pt:?/PW:___|Jq:? Oh:?? abO:? adR:??/PI:____|iU:? Li:ry? Z6:ry? WH:ry??/PE:__x Tz:____|dT_make:aar? ab2: ab3: VR:?/LA:___|abb: acY: aba:/PO:___|vE:? vF:/PE:__x fB:_|pv:_/PG:__x Gv:____|vG:? abU:?/PGs:___|XR:?? ZG:/AL:___|acP: ZK: UK: UI: UJ: aaZ: ZJ: Sq: acO: Su: aaY: aaX: od_notB:|/AL:___|Sv:a Ss:a/PG:___|cV:ari aaQ:r?".splitOn "/").toArray.mapM fun s=>do
  let p := s.splitOn "|"
  let h ← ((p.headD "").splitOn " ").foldrM f o
  let a ← ((p.getD 1 "").splitOn " ").toArray.mapM fun s=>do `(tacticSeq| refine $(← f s o))
  if p.length < 3 then `(tacticSeq| (with_reducible show $h); first $[| $a]*) else `(tacticSeq| with_reducible (show $h; first $[| $a]*))
 `(tactic| repeat' first $[| $t]*)
theorem ŷ{p:Prop}(h:p:=by walk_at "o"):p:=h
noncomputable def lN(i:Nat):nW:=PySem.Challenge.pw_earlysift_k24_whole_woken_goes_on_alike.main.body.getD i (.Pass ⟨0,0,0,0⟩)
noncomputable abbrev vA:List (aE×Sk):=[("by_name",.di),("by_text",.di),("leads",.li .lf)]
abbrev aA:Sk :=.fs "Facts" vA
noncomputable abbrev sD:List (aE×Sk):=[("rows",.li (.fs "Row" []))]
abbrev aB:Sk :=.fs "Coming" sD
abbrev QU:List (aE×Sk):=[("coming",aB)]
abbrev cK:Sk :=.fs "Lean" QU
abbrev u8:=eK (.int 1)
abbrev Fa:=eV 0
abbrev TD:=e2 nV (bq "Facts" "bits" Fa) u8
def mh:=(aX (gF Z_ 0 "Facts" "bits" (λi j=>i+j) u8) (dH (mP (lj [0] [] (e2 tm u8 TD)))))
def eI:=nF 1 1 aA mh
abbrev À:=lN 8
abbrev lB:=cF À 1
def pf:bu ["self"] ["self"] (az lB):=Ų
abbrev v0:=eK (.int 0)
abbrev db:=eV 1
abbrev lc:=eV 2
abbrev pi:=e2 b9 db v0
abbrev Tk:=e2 b9 db u8
abbrev bn:=eK (.str (af "*"))
abbrev kw:=tV (bq "Facts" "by_name" Fa) Tk v0
abbrev ww:=eK (.str (af "inner"))
def iR:=(aX (my 2 (bW "Facts" "new_bit" aA eI 0 kR)) (aX (d_ (c_ (e2 fh pi ww)) (gF Z_ 0 "Facts" "inner" eP lc) cO) (aX (d_ (c_ (e2 fh Tk bn)) (aX (gF Z_ 0 "Facts" "starred" eP lc) (gF Z_ 0 "Facts" "stars" (λi j=>i+j) u8)) (rj 0 "Facts" "by_name" Tk (mP (lj [0] [] (e2 EM kw lc))))) (dH (mP lc)))))
def de:=nF 2 3 aA iR
abbrev jS:=cF À 3
def mu:bu ["self","step","bit"] ["self","step"] (az jS):=Ų
abbrev xz:=jJ (mP Fa) kR
def oQ:=(dH (vr (iL db) [M,Y 0] (gN 0) (bW "Facts" "enter_step" aA de 1 xz) 1 0 aA))
def jd:=nF 2 2 aA oQ
abbrev ni:=cF À 2
def rg:bu ["self","steps"] ["self","steps"] (az ni):=Ų
abbrev cr:=c_ (e2 (EO Z') db (bq "Facts" "by_text" Fa))
def eZ:=(aX (d_ (yX [0] [] cr) (rj 0 "Facts" "by_text" db (bW "Facts" "new_bit" aA eI 0 kR)) cO) (dH (mP (lj [0] [] (e2 IL (bq "Facts" "by_text" Fa) db)))))
def cE:=nF 2 2 aA eZ
abbrev jR:=cF À 4
def mr:bu ["self","text"] ["self","text"] (az jR):=Ų
abbrev Ð:=eV 7
abbrev sw:=fN (aC (e2 EM (e2 b9 (eV 5) v0) Ð) (aC (e2 b9 (eV 5) u8) aN))
def iw:=(MK 0 "Facts" "leads" (fN (aC (eV 6) (aC sw aN))))
abbrev pc:=eV 3
abbrev Sc:=eV 4
abbrev Go:=aC pc aN
def mJ:=(aX (cN 4 (e2 iH (eF (Fv lc (pS u8) pN)) (eF (iI Go)))) (je (iZ3 db lc Sc) (Vu 5 6 7) iw))
def mQ:=nF 4 8 aA mJ
abbrev oM:=cF À 6
def tG:bu ["self","asks","bits","end","follows","ask","bit","follow"] ["self","asks","bits","end"] (az oM):=Ų
def i7:=(aX (xI 1 eP (e2 b9 pc v0)) (Iq 2 (e2 b9 pc u8)))
abbrev No:=aC lc aN
abbrev At:=iL Fa
abbrev TW:=iI aN
def lK:=(aX (cN 1 v0) (aX (j5 2 TW) (aX (je At (gN 3) i7) (dy (fN (aC db No))))))
def j9:=jY 1 4 lK
abbrev ng:=lN 9
def q_:bu ["asks","need","choices","ask"] ["asks"] (az ng):=Ų
section
variable {P:aZ}{w:cC}{K:aG}{t:aE->Option aq}{Q:cy}{f:ax}{J:cX}
def wG(F:gH K "new_bit" "Facts.new_bit" lB f J)(e:KS K t):bT P w K t Q fX 1 f J ["self"] (spT K aA eI):=
 F.IK (Z:=[0]) (Ź:=[0]) pf _ ſ ſ λc A b s H E g B a h=>
  have d:=pf.nd;ŷ
def sZ(F:gH K "enter_step" "Facts.enter_step" jS f J)(e:KS K t)(b:dU P w K t Q "Facts" "new_bit" 1 (spT K aA eI)):bT P w K t Q fX 2 f J ["self","step"] (spT K aA de):=
 F.IK (Z:=[0]) (Ź:=[0]) (g:=iR) mu aA ſ ſ λg A c s H E d B a i=>
  have h:=mu.nd
  (ay ŷ (ay ŷ (ay (rS ŷ ŷ (bZ (FF (c:= "Facts") (zU d) (pv 0) ŷ (mK (OC [] [0] [] (B3 Sq (dq (Dv (zU d) ŷ ŷ gf ⟨rfl,rfl,rfl,rfl⟩)) (vQ 2)))) e.q))) ŷ)))
def zp(F:gH K "enter" "Facts.enter" ni f J)(b:dU P w K t Q "Facts" "enter_step" 2 (spT K aA de)):bT P w K t Q fX 3 f J ["self","steps"] (spT K aA jd):=
 F.IK (Z:=[0]) (Ź:=[0]) rg aA ſ ſ λd A outer s H E g B a c=>
  have e:=rg.nd
  (bZ (yL (HA (i0:=1) (j0:=0) (s:=aA) (gP rfl ź rfl rfl) rfl (iU (vP 1)) (dX 0) ſ (rM _ 0 1) (λC s H h=>⟨cV (i:=0) (show [("step" : aE),("self" : aE)].Nodup by decide +kernel) rfl (vZ rfl),fw,YV λB a c=>ŷ⟩))))
def sY(F:gH K "enter_text" "Facts.enter_text" jR f J)(e:KS K t)(b:dU P w K t Q "Facts" "new_bit" 1 (spT K aA eI)):bT P w K t Q fX 2 f J ["self","text"] (spT K aA cE):=
 F.IK (Z:=[0]) (Ź:=[0]) (g:=eZ) mr aA ſ ſ λg A c s H E d B a i=>
  have h:=mr.nd
  (ay (rS (SS [] [0] [] (Ld (zU d) (vQ 1) ŷ)) (bZ (FF (c:= "Facts") (zU d) (pv 0) (vP 1) ŷ e.q)) kY) (bZ (yL (mK (OC [] [0] [] (Rg (zU d) ŷ (vQ 1)))))))
def A5(F:gH K "lead" "Facts.lead" oM f J)(d:KS K t):bT P w K t Q fX 1 f J ["self","asks","bits","end"] (spT K aA mQ):=
 F.IK (Z:=[0]) (Ź:=[0]) (g:=mJ) tG aA ſ ſ λe A b s H E h B a c=>
  have g:=tG.nd
  (ay ŷ (bZ (uH dS rfl (Rf rfl d.y (vP 1) (vP 2) (vP 4)) (λB c=>(Oz ŷ)) (λB c=>ŷ))))
def zl(F:gH K "joined_asks" "joined_asks" ng f J):bT P w K t Q fX 1 f J ["asks"] (iD K j9):=
 F.xJ (Z:=[2]) (Ź:=[2]) (g:=lK) q_ ſ λc A a s H E e B b=>
  have d:=q_.nd
  (ay ŷ (ay ŷ (ay (uH dS rfl (iU (vP 0)) (λB b=>ŷ) (λB b=>(ay ŷ (bZ (Lg (pv 2) ŷ))))) (uG (own1:=[]) 2 ŷ))))
end
abbrev wf:=eF TW
abbrev wn:=eK (.str (af "has"))
abbrev Rs:=eK (.str (af "text"))
abbrev py:=jJ (mP Tk) kR
abbrev wE:=eK (.str (af "one"))
abbrev Æ:=eK (.str (af "any"))
abbrev Ê:=jJ (mP wf) kR
def cP(c:List D->Option (D×D))(a:List D->Option (D×D)):DG:=(aX (d_ (c_ (e2 fh pi Æ)) (dH (mP (fN (aC v0 (aC wf aN))))) cO) (aX (d_ (c_ (e2 fh pi Rs)) (dH (yf (jJ (bW "Facts" "enter_text" aA cE 0 py) Ê))) cO) (aX (d_ (c_ (e2 fh pi wn)) (dH (yf (jJ (bW "Facts" "enter_has" aA a 0 py) Ê))) cO) (aX (my 2 (vr (iL Tk) [M,Y 0] (gN 0) (bW "Facts" "asked" aA c 1 xz) 1 0 aA)) (aX (d_ (c_ (e2 fh pi wE)) (dH (mP (fN (aC v0 (aC (eF (iI No)) aN))))) cO) (dH (mP (bc j9 No))))))))
abbrev kI:=cF À 7
noncomputable abbrev tY:List aE:=["self","wish","asks"]
def nB:bu tY ["self","wish"] (az kI):=Ų
abbrev Db:=eK (.int 2)
abbrev io:=e2 b9 Fa Db
abbrev IN:=jJ (mP v0) kR
def gV(a:List D->Option (D×D))(c:List D->Option (D×D)):DG:=(aX (my 2 (bW "Facts" "enter" aA jd 0 (jJ (mP db) kR))) (aX (da (bW "Facts" "lead" aA mQ 0 (jJ (vr (iL db) [M,Y 0] (gN 0) (bW "Facts" "asked" aA a 1 (jJ (mP io) kR)) 1 0 aA) (jJ (mP lc) IN)))) (dH (mP (e2 b9 lc v0)))))
abbrev iO:=cF À 5
noncomputable abbrev oz:List aE:=["self","steps","bits"]
def nA:bu oz ["self","steps"] (az iO):=Ų
abbrev ci:=e2 b9 Fa v0
abbrev ul:=e2 b9 Fa u8
abbrev È:=aC io aN
def pB(c:List D->Option D)(a:List D->Option D):DG:=(pq (lZ At [M] (gN 0) f9 (fN (aC ci (aC ul (aC (bc a È) aN))))))
abbrev sj:=lN 12
noncomputable abbrev Av:List aE:=["steps"]
def sk:bu Av ["steps"] (az sj):=Ų
abbrev im:=aC Fa aN
abbrev lv:=iL ul
abbrev Ä:=eK (.str (af "both"))
def jb(c:List D->Option D)(a:List D->Option D):DG:=(aX (d_ (c_ (e2 fh ci wn)) (dy (fN (aC wn (aC (bc c (aC ul aN)) aN)))) cO) (aX (d_ (c_ (e2 (Pl Z_) ci (fN (aC Ä (aC wE aN))))) (dy (fN (aC ci (aC (eF (lZ lv [M] (gN 0) f9 (bc a im))) aN)))) cO) (dy Fa)))
abbrev kH:=lN 13
noncomputable abbrev tW:List aE:=["wish"]
def rd:bu tW ["wish"] (az kH):=Ų
abbrev am:=aC db aN
abbrev Ix:=e2 ur (e2 eS db ci) ci
abbrev FS:=dy (eK (.bl Z_))
def yD(a:List D->Option D):DG:=(aX (d_ (c_ Ix) FS cO) (dy (bc (gL Z') (aC (eF (lZ lv [M,Y 1] (gN 0) f9 (bc (gL Z_) (aC (eF (lZ At [M,Y 1] (gN 0) f9 (bc a (aC Fa am)))) aN)))) aN))))
abbrev u_:=lN 10
noncomputable abbrev JR:List aE:=["ask","atoms"]
def Ej:bu JR ["ask","atoms"] (az u_):=Ų
def qf(a:List D->Option D):DG:=(aX (d_ (c_ (e2 fh ci wn)) (dy (bc (gL Z') (aC (eF (lZ lv [M] (gN 0) f9 (bc a È))) aN))) cO) (aX (d_ (c_ (e2 fh ci Ä)) (dy (bc (gL Z') (aC (eF (lZ lv [M] (gN 0) f9 (bc a im))) aN))) cO) (aX (d_ (c_ (e2 fh ci wE)) (dy (bc (gL Z_) (aC (eF (lZ lv [M] (gN 0) f9 (bc a im))) aN))) cO) (dy (eK (.bl Z'))))))
abbrev kz:=lN 11
noncomputable abbrev qo:List aE:=["wish"]
def xG:bu qo ["wish"] (az kz):=Ų
mutual
noncomputable def cJ:Nat->List D->Option (D×D)
 |0=>λ_=>M
 |n+1=>nF 2 3 aA (cP (cJ n) (cD n))
noncomputable def cD:Nat->List D->Option (D×D)
 |0=>λ_=>M
 |n+1=>nF 2 3 aA (gV (cJ n) (cD n))
end
mutual
noncomputable def iA:Nat->List D->Option D
 |0=>λ_=>M
 |n+1=>jY 1 1 (pB (iA n) (cI n))
noncomputable def cI:Nat->List D->Option D
 |0=>λ_=>M
 |n+1=>jY 1 1 (jb (iA n) (cI n))
end
noncomputable def k9:Nat->List D->Option D
 |0=>λ_=>M
 |n+1=>jY 2 2 (yD (k9 n))
noncomputable def gm:Nat->List D->Option D
 |0=>λ_=>M
 |n+1=>jY 1 1 (qf (gm n))
section
variable {P:aZ}{w:cC}{K:aG}{b:aE->Option aq}{h:cy}{f:ax}{j:cX}
def zq(F:gH K "asked" "Facts.asked" kI f j)(c:dU P w K b h "Facts" "enter_text" (n+3) (spT K aA cE))(d:dU P w K b h "Facts" "enter_has" (n+3) (spT K aA (cD n)))(g:dU P w K b h "Facts" "asked" (n+3) (spT K aA (cJ n)))(e:ju P w K b h "joined_asks" (n+3) (iD K j9)):bT P w K b h fX (n+3+1) f j ["self","wish"] (spT K aA (cJ (n+1))):=
 F.IK (Z:=[0]) (Ź:=[0]) (g:=(cP (cJ n) (cD n))) nB aA ſ ſ λk A outer s H E m B a i=>
  have l:=nB.nd
  (ay ŷ (ay ŷ (ay ŷ (ay (Hz (i:=2) (i0:=1) (j0:=0) (s:=aA) (N:=[("other" : aE),("self" : aE)]) (src:=[M,Y 0]) (gP (outer:=az kI) (oN:=tY) rfl ź rfl rfl) rfl nB.nd rfl rfl ŷ (dX 0) ſ (rM _ 0 1) (λC s H o=>⟨cV (i:=0) (show ([("other" : aE),("self" : aE)]:List aE).Nodup by decide +kernel) rfl (vZ rfl),fw,YV λB a i=>ŷ⟩)) ŷ))))
def um(F:gH K "enter_has" "Facts.enter_has" iO f j)(d:dU P w K b h "Facts" "enter" (n+3) (spT K aA jd))(c:dU P w K b h "Facts" "lead" (n+3) (spT K aA mQ))(e:dU P w K b h "Facts" "asked" (n+3) (spT K aA (cJ n))):bT P w K b h fX (n+3+1) f j ["self","steps"] (spT K aA (cD (n+1))):=
 F.IK (Z:=[0]) (Ź:=[0]) (g:=(gV (cJ n) (cD n))) nA aA ſ ſ λk A outer s H E g B a i=>
  have l:=nA.nd
  (ay ŷ (ay (rT (pD c g (pv 0) (lV (HA (i0:=1) (j0:=0) (s:=aA) (N:=[("step" : aE),("self" : aE)]) (src:=[M,Y 0]) (gP (outer:=az iO) (oN:=oz) rfl ź rfl rfl) rfl (iU (vP 1)) (dX 0) ſ (rM _ 0 1) (λC s H m=>⟨cV (i:=0) (show ([("step" : aE),("self" : aE)]:List aE).Nodup by decide +kernel) rfl (vZ rfl),fw,YV λB a i=>ŷ⟩)) ŷ))) ŷ))
def KA(F:gH K "copied" "copied" sj f j)(a:ju P w K b h "copied_wish" (n+0) (iD K (cI n))):bT P w K b h fX (n+0+1) f j ["steps"] (iD K (iA (n+1))):=
 F.xJ (Z:=[]) (Ź:=[]) sk ſ λc A outer s H E e B g=>
  have d:=sk.nd
  (bZ (vC (pG (Ź:=[]) (gP (oN:=Av) rfl ź rfl rfl) rfl (iU (vP 0)) (dX 0) ſ (eU 0) (λC s H i=>⟨cV (i:=0) (show ([("step" : aE)]:List aE).Nodup by decide +kernel) rfl (.inl rfl),fw,ŷ⟩))))
def GY(F:gH K "copied" "copied" sj f j)(a:ju P w K b h "copied_wish" (n+0) (iD K (cI n))):bT P w K b h fX (n+0+1) f j ["steps"] (GH K (CF 1 1 (pB (iA n) (cI n)))):=
 F.ZI (Z:=[]) (Ź:=[]) sk ſ λc A outer s H E e B g=>
  have d:=sk.nd
  (bZ (vC (pG (Ź:=[]) (gP (oN:=Av) rfl ź rfl rfl) rfl (iU (vP 0)) (dX 0) ſ (eU 0) (λC s H i=>⟨cV (i:=0) (show ([("step" : aE)]:List aE).Nodup by grind) rfl (.inl rfl),fw,ŷ⟩))))
def zm(F:gH K "copied_wish" "copied_wish" kH f j)(c:ju P w K b h "copied" (n+0) (iD K (iA n)))(a:ju P w K b h "copied_wish" (n+0) (iD K (cI n))):bT P w K b h fX (n+0+1) f j ["wish"] (iD K (cI (n+1))):=
 F.xJ (Z:=[]) (Ź:=[]) (g:=(jb (iA n) (cI n))) rd ſ λd A outer s H E g B i=>
  have e:=rd.nd
  (ay ŷ (ay (rS ŷ (bZ (lI (Ai (cf ŷ (cf (df (pG (Ź:=[]) (N:=[("other" : aE)]) (src:=[M]) (gP (outer:=az kH) (oN:=tW) rfl ź rfl rfl) rfl ŷ (dX 0) ſ (eU 0) (λC s H k=>⟨cV (i:=0) (show ([("other" : aE)]:List aE).Nodup by decide +kernel) rfl (.inl rfl),fw,ŷ⟩))) hU))))) kY) ŷ))
def Nk(F:gH K "meets" "meets" u_ f j)(c:KS K b)(a:ju P w K b h "meets" (n+0) (iD K (k9 n))):bT P w K b h fX (n+0+1) f j ["ask","atoms"] (iD K (k9 (n+1))):=
 F.xJ (Z:=[]) (Ź:=[]) (g:=(yD (k9 n))) Ej ſ λe A outer s H E i B k=>
  have g:=Ej.nd
  (ay ŷ (bZ (lI (HE rfl rfl c.y (dq (df (pG (Ź:=[]) (N:=[("choice" : aE),("atoms" : aE)]) (src:=[M,Y 1]) (gP (outer:=az u_) (oN:=JR) rfl ź rfl rfl) rfl ŷ (dX 0) ſ (eU 0) (λC s H d=>⟨cV (i:=0) (show ([("choice" : aE),("atoms" : aE)]:List aE).Nodup by decide +kernel) rfl ź,fw,(OE rfl rfl c.y (dq (df (pG (Ź:=[]) (N:=[("other" : aE),("atoms" : aE)]) (src:=[M,Y 1]) (RA rfl ź) rfl (iU (vP 0)) (dX 0) ſ (eU 0) (λC s H d=>⟨cV (i:=0) (show ([("other" : aE),("atoms" : aE)]:List aE).Nodup by decide +kernel) rfl (.inl rfl),fw,ŷ⟩)))))⟩))))))))
def EI(F:gH K "can_hold" "can_hold" kz f j)(c:KS K b)(a:ju P w K b h "can_hold" (n+0) (iD K (gm n))):bT P w K b h fX (n+0+1) f j ["wish"] (iD K (gm (n+1))):=
 F.xJ (Z:=[]) (Ź:=[]) (g:=(qf (gm n))) xG ſ λe A outer s H E i B k=>
  have g:=xG.nd
  (ay (rS ŷ (bZ (lI (HE rfl rfl c.y (dq (df (pG (Ź:=[]) (N:=[("step" : aE)]) (src:=[M]) (gP (outer:=az kz) (oN:=qo) rfl ź rfl rfl) rfl ŷ (dX 0) ſ (eU 0) (λC s H d=>⟨cV (i:=0) (show ([("step" : aE)]:List aE).Nodup by grind) rfl (.inl rfl),fw,ŷ⟩))))))) kY) (ay (rS ŷ (bZ (lI (HE rfl rfl c.y (dq (df (pG (Ź:=[]) (N:=[("other" : aE)]) (src:=[M]) (gP (outer:=az kz) (oN:=qo) rfl ź rfl rfl) rfl ŷ (dX 0) ſ (eU 0) (λC s H d=>⟨cV (i:=0) (show ([("other" : aE)]:List aE).Nodup by grind) rfl (.inl rfl),fw,ŷ⟩))))))) kY) (ay (rS ŷ (bZ (lI (OE rfl rfl c.y (dq (df (pG (Ź:=[]) (N:=[("other" : aE)]) (src:=[M]) (gP (outer:=az kz) (oN:=qo) rfl ź rfl rfl) rfl ŷ (dX 0) ſ (eU 0) (λC s H d=>⟨cV (i:=0) (show ([("other" : aE)]:List aE).Nodup by grind) rfl (.inl rfl),fw,ŷ⟩))))))) kY) ŷ)))
end
def O4:=iA 12
def sR:=k9 12
def nS:=gm 12
def lM:=cJ 12
def sS:=CF 1 1 (pB (iA 11) (cI 11))
abbrev Ev:=vB 0 "Facts" "question"
def jL(ds:List D):DG:=(aX (eR Z_ 0 "Facts" "question" (FC sS λ_=>Y ds)) (aX (eR Z_ 0 "Facts" "bits" v0) (aX (ri 0 "Facts" "by_name" .di (eK (.ji [] []))) (aX (ri 0 "Facts" "by_text" .di (eK (.ji [] []))) (aX (eR Z_ 0 "Facts" "starred" v0) (aX (eR Z_ 0 "Facts" "stars" v0) (aX (eR Z_ 0 "Facts" "inner" v0) (aX (ri 0 "Facts" "leads" (.li .lf) (eK (.lst []))) (aX (da (bW "Facts" "enter" aA jd 0 (jJ (mP Ev) kR))) (GP Z_ 0 "Facts" "asks" (vr (iL Ev) [M,Y 0] (gN 0) (bW "Facts" "asked" aA lM 1 (jJ (mP io) kR)) 1 0 aA)))))))))))
def gB:=Iy 2 aA jL
abbrev jk:=cF À 0
noncomputable abbrev pM:List aE:=["self","question"]
def n_:bu pM ["self","question"] (az jk):=Ų
def kU:=(dy (e2 EM (bq "Facts" "starred" Fa) (tV (bq "Facts" "by_name" Fa) db v0)))
def dZ:=jY 2 2 kU
abbrev kg:=cF À 8
def nz:bu ["self","name"] ["self","name"] (az kg):=Ų
def kT:=(dy (tV (bq "Facts" "by_text" Fa) db v0))
def dY:=jY 2 2 kT
abbrev kf:=cF À 9
def nj:bu ["self","text"] ["self","text"] (az kf):=Ų
def gz:=(d_ (kv (fD (e2 eS db Sc)) (fD (bc sR (aC (eV 5) No)))) (xI 3 eP Sc) cO)
abbrev Å:=DY 4 5
def nM:=(aX (cN 3 (e2 eS lc (bq "Facts" "inner" Fa))) (aX (je (iL (bq "Facts" "leads" Fa)) Å gz) (dy pc)))
def iB:=jY 3 6 nM
abbrev l':=cF À 10
def qB:bu ["self","named","atoms","up","bit","ask"] ["self","named","atoms"] (az l'):=Ų
def fH:=(aX (cN 6 (e2 tm u8 Sc)) (d_ (kv (fD (e2 eS db (eV 6))) (fD (bc sR (aC (eV 5) No)))) (xI 3 eP (eV 6)) cO))
def mi:=(aX (cN 3 v0) (aX (je (iE (bq "Facts" "asks" Fa)) Å fH) (dy pc)))
def fP:=jY 3 7 mi
abbrev lC:=cF À 11
def ph:bu ["self","named","atoms","fits","place","ask","bit"] ["self","named","atoms"] (az lC):=Ų
abbrev ce:=eK (.str (af "open"))
def Hm:=(aX (d_ (c_ (e2 fh ci ce)) (dy (eOr db (VD (c_ lc)))) cO) (dy db))
def iV:=jY 3 3 Hm
abbrev qZ:=lN 15
def xH:bu ["sign","within","begun"] ["sign","within","begun"] (az qZ):=Ų
def zX:=(aX (lq 0 "Row" "number" db) (aX (lq 0 "Row" "named" lc) (aX (lq 0 "Row" "atoms" pc) (aX (lq 0 "Row" "fits" v0) (aX (lq 0 "Row" "reached" v0) (aX (lq 0 "Row" "reached_around" v0) (aX (lq 0 "Row" "hoped" v0) (lq 0 "Row" "hoped_around" v0))))))))
def jB:=runC 4 4 0 zX
abbrev l7:=cF (lN 17) 0
def qw:bu ["self","number","named","atoms"] ["self","number","named","atoms"] (az l7):=Ų
abbrev Í:=aC (e2 b9 pc Db) aN
def jz:=(d_ (fD (bc nS Í)) (xI 1 eP (e2 tm u8 lc)) cO)
def qg:=(aX (cN 1 v0) (aX (je (iE Fa) (DY 2 3) jz) (dy db)))
def jN:=jY 1 4 qg
abbrev oK:=lN 20
def tD:bu ["question","able","place","step"] ["question"] (az oK):=Ų
section
variable {P:aZ}{w:cC}{K:aG}{h:aE->Option aq}{t:cy}{f:ax}{j:cX}
def vj(F:gH K "__init__" "Facts.__init__" jk f j)(e:KS K h)(d:ju P w K h t "copied" 59 (GH K sS))(b:dU P w K h t "Facts" "enter" 59 (spT K aA jd))(c:dU P w K h t "Facts" "asked" 59 (spT K aA lM)):bT P w K h t fX 60 f j ["self","question"] (AU K aA gB):=
 F.UH (Z:=[0,1]) (Ź:=[0,1]) (g:=jL) n_ aA ſ ſ ſ λi A outer s H E l B a L vs ds g gl gr=>
  have k:=n_.nd
  (ay (vD (b:=Z_) (c:= "Facts") (pv 0) (Rh d l rfl (Ci (pv 1) (by rw[g];simp) gl gr)) e.q) (ay ŷ (ay ŷ (ay ŷ (ay ŷ (ay ŷ (ay ŷ (ay ŷ (ay ŷ (bZ (Ov (b:=Z_) (c:= "Facts") (pv 0) (HA (i0:=1) (j0:=0) (s:=aA) (N:=[("step" : aE),("self" : aE)]) (src:=[M,Y 0]) (gP (outer:=az jk) (oN:=pM) rfl ź rfl rfl) rfl ŷ (dX 0) ſ (rM _ 0 1) (λC s H m=>⟨cV (i:=0) (show ([("step" : aE),("self" : aE)]:List aE).Nodup by decide +kernel) rfl (vZ rfl),fw,YV λB a g=>ŷ⟩)) e.q)))))))))))
def uk(F:gH K "steps_for" "Facts.steps_for" kg f j)(e:KS K h):bT P w K h t fX 1 f j ["self","name"] (iD K dZ):=
 F.xJ (Z:=[]) (Ź:=[]) nz ſ λc A a s H E b B g=>
  have d:=nz.nd
  bZ (lI (B3 Sq ŷ (dq (Dv (zU b) ŷ (vQ 1) gf ⟨rfl,rfl,rfl,rfl⟩))))
def uj(F:gH K "text_fact" "Facts.text_fact" kf f j)(e:KS K h):bT P w K h t fX 1 f j ["self","text"] (iD K dY):=
 F.xJ (Z:=[]) (Ź:=[]) nj ſ λc A a s H E b B g=>
  have d:=nj.nd
  bZ (lI (Dv (zU b) ŷ (vQ 1) gf ⟨rfl,rfl,rfl,rfl⟩))
def x8(F:gH K "lifted" "Facts.lifted" l' f j)(e:KS K h)(a:ju P w K h t "meets" 59 (iD K sR)):bT P w K h t fX 60 f j ["self","named","atoms"] (iD K iB):=
 F.xJ (Z:=[]) (Ź:=[]) qB ſ λc A b s H E g B i=>
  have d:=qB.nd;ŷ
def wH(F:gH K "fitting" "Facts.fitting" lC f j)(e:KS K h)(a:ju P w K h t "meets" 59 (iD K sR)):bT P w K h t fX 60 f j ["self","named","atoms"] (iD K fP):=
 F.xJ (Z:=[]) (Ź:=[]) ph ſ λc A b s H E g B i=>
  have d:=ph.nd;ŷ
def EJ(F:gH K "can_come" "can_come" qZ f j):bT P w K h t fX 1 f j ["sign","within","begun"] (iD K iV):=
 F.xJ (Z:=[]) (Ź:=[]) xH ſ λb A a s H E d B e=>
  have c:=xH.nd;ŷ
def x3(F:gH K "__init__" "Row.__init__" l7 f j)(e:KS K h):bT P w K h t fX 1 f j ["self","number","named","atoms"] (Ws K 0 jB):=
 F.okC (Z:=[0]) (Ź:=[0]) qw 0 ſ ſ λc A b s H E g B a i=>
  have d:=qw.nd;ŷ
def A4(F:gH K "able_steps" "able_steps" oK f j)(e:KS K h)(a:ju P w K h t "can_hold" 59 (iD K nS)):bT P w K h t fX 60 f j ["question"] (iD K jN):=
 F.xJ (Z:=[]) (Ź:=[]) tD ſ λc A b s H E g B i=>
  have d:=tD.nd;ŷ
end
def BW:=(aX (cN 0 (Of "Row" jB (aC (e1 KE u8) (aC v0 (aC v0 aN))))) (aX (lq 0 "Row" "reached" u8) (aX (lq 0 "Row" "reached_around" u8) (aX (lq 0 "Row" "hoped" u8) (aX (lq 0 "Row" "hoped_around" u8) (BD 0))))))
def xA:=RI 0 1 BW
abbrev ub:=lN 19
def ug:bu ["row"] [] (az ub):=Ų
abbrev bi:=aC (bq "Coming" "rows" Fa) aN
abbrev wl:=e2 tp (bq "Coming" "opened" Fa) v0
def km:=(dy (Lc wl (e2 fh (bc ic bi) u8)))
def iW:=jY 1 1 km
abbrev dL:=lN 18
abbrev jU:=cF dL 2
def mw:bu ["self"] ["self"] (az jU):=Ų
def wZ:=(dy (e2 tm (e2 eS (e2 EM db (e2 eS lc (bq "Facts" "inner" (bq "Coming" "facts" Fa)))) pc) u8))
def fg:=jY 4 4 wZ
abbrev kJ:=cF dL 4
def og:bu ["self","parent","around","fits"] ["self","parent","around","fits"] (az kJ):=Ų
abbrev bd:=eK (.int 3)
abbrev Â:=e2 b9 db bd
def kl:=(aX (cN 3 (e2 b9 (bq "Coming" "rows" Fa) (e1 KE u8))) (aX (cN 4 (e2 eS (e2 UL (e2 EM (e2 b9 db Db) Â) u8) (bq "Row" "fits" lc))) (aX (cN 5 (e2 eS (e2 eS Sc (e1 zt (bq "Facts" "inner" (bq "Coming" "facts" Fa)))) (bq "Row" "hoped" pc))) (aX (cN 6 (e2 eS (e2 EM (e2 eS Sc (bq "Facts" "inner" (bq "Coming" "facts" Fa))) Â) (bq "Row" "hoped_around" pc))) (dy (fN (aC pi (aC (e2 nV Tk u8) (aC (eV 5) (aC (eV 6) aN))))))))))
def gI:=jY 3 7 kl
abbrev jT:=cF dL 10
def mv:bu ["self","rest","row","parent","steps","own","around"] ["self","rest","row"] (az jT):=Ų
abbrev jp:=e2 eS (e2 eS (bq "Row" "hoped" lc) (e1 zt (bq "Row" "reached" lc))) (bq "Coming" "full" Fa)
def gA:=(d_ (fD jp) (qG 1 (bq "Row" "number" lc)) cO)
def kW:=(aX (j5 1 (lZ (iL (bq "Coming" "rests" Fa)) [M] (gN 0) f9 ci)) (aX (je (iL (bq "Coming" "rows" Fa)) (gN 2) gA) (pq (rP db))))
def jE:=jY 1 3 kW
abbrev j_:=cF dL 11
noncomputable abbrev r_:List aE:=["self","numbers","row"]
def ma:bu r_ ["self"] (az j_):=Ų
section
variable {P:aZ}{w:cC}{K:aG}{a:aE->Option aq}{h:cy}{f:ax}{b:cX}
def GW(F:gH K "top_row" "top_row" ub f b)(j:KS K a)(c:uN P w K a h "Row" 1 (Ws K 0 jB)):bT P w K a h fX 3 f b [] (Xs K xA):=
 F.DU (Z:=[0]) (Ź:=[0]) (g:=BW) ug ſ λg A d s H E e B k=>
  have i:=ug.nd
  (ay (Jt (i:=0) ug.nd rfl (.inl rfl) (Jz c e rfl ŷ)) ŷ)
def tb(F:gH K "has_ended" "Coming.has_ended" jU f b)(g:KS K a):bT P w K a h fX 1 f b ["self"] (iD K iW):=
 F.xJ (Z:=[]) (Ź:=[]) mw ſ λd A c s H E i B j=>
  have e:=mw.nd;ŷ
def vk(F:gH K "gone_on" "Coming.gone_on" kJ f b)(g:KS K a):bT P w K a h fX 1 f b ["self","parent","around","fits"] (iD K fg):=
 F.xJ (Z:=[]) (Ź:=[]) og ſ λd A c s H E i B j=>
  have e:=og.nd;ŷ
def s_(F:gH K "moved_out" "Coming.moved_out" jT f b)(g:KS K a):bT P w K a h fX 1 f b ["self","rest","row"] (iD K gI):=
 F.xJ (Z:=[]) (Ź:=[]) mv ſ λd A c s H E i B j=>
  have e:=mv.nd;ŷ
def x9(F:gH K "waits" "Coming.waits" j_ f b)(e:KS K a):bT P w K a h fX 1 f b ["self"] (iD K jE):=
 F.xJ (Z:=[1]) (Ź:=[1]) (g:=kW) ma ſ λc A outer s H E g B i=>
  have d:=ma.nd
  (ay (xa (i:=1) (Ź:=[]) (N:=[("rest" : aE)]) (src:=[M]) (gP (outer:=az j_) (oN:=r_) rfl ź rfl rfl) rfl ma.nd rfl rfl ŷ (dX 0) ſ (eU 0) (λC s H j=>⟨cV (i:=0) (show ([("rest" : aE)]:List aE).Nodup by decide +kernel) rfl (.inl rfl),fw,ŷ⟩)) ŷ)
end
abbrev ol:=aC (bq "Facts" "question" (bq "Coming" "facts" Fa)) aN
def jl(ds:List D):DG:=(aX (eR Z_ 0 "Coming" "facts" (nP "Facts" gB λ_=>Y ds)) (aX (eR Z_ 0 "Coming" "full" (lj [0] [] (e2 tm u8 (bc ic ol)))) (aX (eR Z_ 0 "Coming" "able" (lj [0] [] (bc jN ol))) (aX (eR Z_ 0 "Coming" "taken" v0) (aX (eR Z_ 0 "Coming" "opened" v0) (aX (ri 0 "Coming" "rows" (.li (.fs "Row" [])) (YQ (SQ "Row" (λ_=>xA [])))) (eR Z_ 0 "Coming" "rests" wf)))))))
def d7:=Iy 2 aB jl
abbrev kh:=cF dL 0
def nE:bu ["self","question"] ["self","question"] (az kh):=Ų
def iT:=(aX (cN 4 (Of "Row" jB (aC db (aC lc Go)))) (aX (tJ 5 0 "Coming" "rows" (e1 KE u8)) (aX (lq 4 "Row" "fits" (lj [0] [5] (dm "Facts" "fitting" fP (bq "Coming" "facts" Fa) (aC lc Go)))) (aX (lq 4 "Row" "hoped" (lj [0] [5] (dm "Coming" "gone_on" fg Fa (aC (bq "Row" "hoped" (eV 5)) (aC (bq "Row" "hoped_around" (eV 5)) (aC (e2 eS lc (bq "Coming" "able" Fa)) aN)))))) (aX (lq 4 "Row" "hoped_around" (lj [0] [5] (e2 EM (bq "Row" "hoped_around" (eV 5)) (bq "Row" "hoped" Sc)))) (CB 0 4 "Coming" "rows"))))))
def dO:=nF 4 6 aB iT
abbrev jV:=cF dL 3
def jX:bu ["self","number","named","atoms","row","parent"] ["self","number","named","atoms"] (az jV):=Ų
abbrev ut:=e2 eS Sc (e1 zt (bq "Row" "atoms" (eV 5)))
abbrev xL:=aC (bq "Row" "named" pc) (aC (bq "Row" "atoms" pc) aN)
def jm:=(aX (tJ 3 0 "Coming" "rows" db) (aX (eR Z' 3 "Row" "fits" (lj [0] [3,5] (dm "Facts" "fitting" fP (bq "Coming" "facts" Fa) xL))) (aX (cN 4 (lj [0] [3,5] (dm "Facts" "lifted" iB (bq "Coming" "facts" Fa) xL))) (aX (xI 1 (λi j=>i-j) u8) (aX (tJ 5 0 "Coming" "rows" db) (aX (cN 2 (lj [0] [3,5] (e2 ur ut v0))) (gF Z' 5 "Row" "atoms" eP Sc)))))))
abbrev AC:=c_ (e2 tp db v0)
abbrev Ì:=e2 nV (bc ic bi) u8
def ka:=(aX (cN 1 (lj [0] [3,5] Ì)) (aX (cN 2 (eK (.bl Z'))) (GN 1000000 (kv (fD lc) AC) jm)))
def dg:=nF 1 6 aB ka
abbrev lD:=cF dL 6
def pj:bu ["self","place","changed","row","up","parent"] ["self"] (az lD):=Ų
def ko:=(aX (tJ 2 0 "Coming" "rows" (e1 KE u8)) (d_ (yX [0] [2] (fD (e2 eS db (e1 zt (bq "Row" "atoms" lc))))) (aX (gF Z' 2 "Row" "atoms" eP db) (da (bW "Coming" "spread" aB dg 0 kR))) cO))
def gJ:=nF 2 3 aB ko
abbrev jW:=cF dL 5
def mx:bu ["self","atoms","row"] ["self","atoms"] (az jW):=Ų
section
variable {P:aZ}{w:cC}{K:aG}{h:aE->Option aq}{t:cy}{f:ax}{y:cX}
def uo(F:gH K "__init__" "Coming.__init__" kh f y)(g:KS K h)(d:uN P w K h t "Facts" 88 (AU K aA gB))(c:ju P w K h t "able_steps" 89 (iD K jN))(b:ju P w K h t "top_row" 89 (Xs K xA)):bT P w K h t fX 90 f y ["self","question"] (AU K aB d7):=
 F.UH (Z:=[0,1]) (Ź:=[0,1]) (g:=jl) nE aB ſ ſ ſ λj A e s H E i B a L vs ds l gl gr=>
  have k:=nE.nd
  (ay (vD (b:=Z_) (c:= "Coming") (pv 0) (HD (vJ d i rfl (Ci (pv 1) (by rw[l];simp) gl gr))) g.q) (ay ŷ (ay ŷ (ay ŷ (ay ŷ (ay (Ou (c:= "Coming") (s1:=(.li (.fs "Row" []))) (pv 0) (VR (Rj (c:= "Row") (OF b i rfl))) g.q) ŷ))))))
def td(F:gH K "begin_row" "Coming.begin_row" jV f y)(g:KS K h)(d:uN P w K h t "Row" 60 (Ws K 0 jB))(c:dU P w K h t "Facts" "fitting" 61 (iD K fP))(b:dU P w K h t "Coming" "gone_on" 61 (iD K fg)):bT P w K h t fX 62 f y ["self","number","named","atoms"] (spT K aB dO):=
 F.IK (Z:=[0,4,5,1000005,2000000]) (Ź:=[0,4,5,1000005,2000000]) (g:=iT) jX aB ſ ſ λj A e s H E i B a l=>
  have k:=jX.nd
  (ay (Jt (i:=4) jX.nd rfl (.inl rfl) (Jz d i rfl ŷ)) (ay ŷ (ay ŷ (ay ŷ (ay ŷ (bZ (Ot (c:= "Coming") (pv 0) (pv 4) g.q)))))))
def wI(F:gH K "spread" "Coming.spread" lD f y)(i:KS K h)(b:dU P w K h t "Facts" "fitting" 61 (iD K fP))(c:dU P w K h t "Facts" "lifted" 61 (iD K iB)):bT P w K h t fX 62 f y ["self"] (spT K aB dg):=
 F.IK (Z:=[0,3,5,1000003,1000005,2000000]) (g:=ka) pj aB ſ ſ λe A d s H E j B a k=>
  have g:=pj.nd
  (ay ŷ (ay ŷ (bZ (Om 1000000 dS ŷ ŷ))))
def tf(F:gH K "add_atoms" "Coming.add_atoms" jW f y)(g:KS K h)(b:dU P w K h t "Coming" "spread" 62 (spT K aB dg)):bT P w K h t fX 63 f y ["self","atoms"] (spT K aB gJ):=
 F.IK (Z:=[0,2,1000002,2000000]) (Ź:=[0,2,1000002,2000000]) mx _ ſ ſ λd A c s H E i B a j=>
  have e:=mx.nd;ŷ
end
abbrev bv:=e2 eS (e2 eS (bq "Row" "reached" Sc) (e1 zt (eV 5))) (bq "Coming" "full" Fa)
def gY:=(aX (tJ 3 0 "Coming" "rows" (e2 nV lc u8)) (aX (tJ 4 0 "Coming" "rows" lc) (aX (cN 5 (lj [0] [4,3] (bq "Row" "reached" Sc))) (aX (eR Z' 4 "Row" "reached" (lj [0] [4,3] (dm "Coming" "gone_on" fg Fa (aC (bq "Row" "reached" pc) (aC (bq "Row" "reached_around" pc) (aC (bq "Row" "fits" Sc) aN)))))) (aX (eR Z' 4 "Row" "reached_around" (lj [0] [4,3] (e2 EM (bq "Row" "reached_around" pc) (bq "Row" "reached" Sc)))) (d_ (yX [0] [4,3] (fD bv)) (qG 1 (lj [0] [4,3] (bq "Row" "number" Sc))) cO))))))
abbrev UV:=lj [0] [4,3] (bc ic bi)
def mj:=(aX (j5 1 TW) (aX (je (Sz u8 UV) (gN 2) gY) (BD 1)))
def i9:=Iw 1 6 aB mj
abbrev lE:=cF dL 7
def pk:bu ["self","found","place","parent","row","ahead"] ["self"] (az lE):=Ų
abbrev zn:=e2 eS (bq "Row" "reached_around" Sc) (e2 b9 pc bd)
abbrev Is:=e2 eS (bq "Row" "reached" Sc) (e2 b9 pc Db)
def dF:=(aX (tJ 4 0 "Coming" "rows" (e2 b9 pc u8)) (d_ (yX [0] [4] (lx (fD Is) (fD zn))) (qG 1 (e2 b9 pc v0)) (qG 2 pc)))
abbrev Ã:=vB 0 "Coming" "rests"
def ik:=(aX (zc 1 0 "Coming" "settle" aB i9) (aX (j5 2 TW) (aX (je (iL Ã) (gN 3) dF) (aX (eR Z_ 0 "Coming" "rests" lc) (dH (mP (eF (rP db))))))))
def dC:=nF 1 5 aB ik
abbrev jw:=cF dL 8
def jx:bu ["self","found","kept","rest","row"] ["self"] (az jw):=Ų
abbrev wP:=e2 fh (e2 b9 (eV 5) u8) lc
def e_:=(aX (cN 6 (lj [0,1] [] (Q4 (c_ wP) (dm "Coming" "moved_out" gI Fa (aC (eV 5) am)) (eV 5)))) (d_ (lx (fD (e2 b9 (eV 6) Db)) (fD (e2 b9 (eV 6) bd))) (qG 4 (eV 6)) cO))
abbrev pu:=fN (aC (bq "Row" "number" db) (aC lc (aC (bq "Coming" "full" Fa) (aC v0 aN))))
abbrev FM:=e2 eS (bq "Row" "reached" db) (bq "Coming" "full" Fa)
def jM:=(aX (Em 1 0 "Coming" "rows") (aX (cN 2 (lj [0] [] (bc ic bi))) (aX (j5 3 (xP Ã)) (aX (d_ (yX [0] [] (nc (fD FM))) (qG 3 (lj [0] [] pu)) cO) (aX (j5 4 TW) (aX (je (iL (eF (z9 pc))) (gN 5) e_) (eR Z_ 0 "Coming" "rests" Sc)))))))
def gC:=nF 1 7 aB jM
abbrev kL:=cF dL 9
def kO:bu ["self","row","place","rests","kept","rest","moved"] ["self"] (az kL):=Ų
section
variable {P:aZ}{w:cC}{K:aG}{b:aE->Option aq}{h:cy}{f:ax}{j:cX}
def wJ(F:gH K "settle" "Coming.settle" lE f j)(i:KS K b)(c:dU P w K b h "Coming" "gone_on" 61 (iD K fg)):bT P w K b h fX 62 f j ["self"] (Kh K aB i9):=
 F.aaV (Z:=[0,1,4,3,1000004,1000003,2000000]) (Ź:=[0,1,4,3,1000004,1000003,2000000]) pk _ ſ ſ λe A d s H E k B a l=>
  have g:=pk.nd;ŷ
def rB(F:gH K "newly_told" "Coming.newly_told" jw f j)(k:KS K b)(c:dU P w K b h "Coming" "settle" 62 (Kh K aB i9)):bT P w K b h fX 63 f j ["self"] (spT K aB dC):=
 F.IK (Z:=[0,1,2,4,1000004,2000000]) (Ź:=[0,1,2,4,1000004,2000000]) (g:=ik) jx aB ſ ſ λg A d s H E e B a l=>
  have i:=jx.nd
  (ay (Oo (i:=1) jx.nd rfl (.inl rfl) c e (pv 0)) (ay ŷ (ay ŷ (uG (own1:=[0,1,4,1000004,2000000]) 2 ŷ))))
def vm(F:gH K "end_row" "Coming.end_row" kL f j)(e:KS K b)(c:dU P w K b h "Coming" "moved_out" 61 (iD K gI)):bT P w K b h fX 62 f j ["self"] (spT K aB gC):=
 F.IK (Z:=[0,1,3,4]) (Ź:=[0,1,3]) (g:=jM) kO aB ſ ſ λg A d s H E k B a l=>
  have i:=kO.nd
  (ay (Q9 (i:=1) (c:= "Coming") kO.nd rfl (.inl rfl) (pv 0) e.q) (ay ŷ (ay ŷ (ay ŷ (ay ŷ (ay ŷ (uG (own1:=[0,1,3]) 4 ŷ)))))))
end
abbrev Re:=eK (.str (af "close"))
abbrev ln:=lj [0] [] (bq "Coming" "opened" Fa)
abbrev np:=aC db (aC (e2 tp (bc ic bi) u8) (aC wl aN))
abbrev É:=aC Tk aN
abbrev wp:=da (bW "Coming" "begin_row" aB dO 0 (jJ (mP ln) (jJ (mP (lj [0] [] (dm "Facts" "steps_for" dZ (bq "Coming" "facts" Fa) É))) IN)))
abbrev Op:=da (bW "Coming" "add_atoms" aB gJ 0 (jJ (mP (lj [0] [] (dm "Facts" "text_fact" dY (bq "Coming" "facts" Fa) É))) kR))
abbrev Ï:=da (bW "Coming" "end_row" aB gC 0 kR)
def hR:=(aX (d_ (yX [0] [] (nc (fD (bc iV np)))) GO cO) (aX (gF Z_ 0 "Coming" "taken" (λi j=>i+j) u8) (aX (d_ (c_ (e2 fh pi Re)) (aX Ï (dH (mP wf))) cO) (aX (d_ (c_ (e2 fh pi ce)) (aX wp (aX (gF Z_ 0 "Coming" "opened" (λi j=>i+j) u8) (da (bW "Coming" "spread" aB dg 0 kR)))) Op) (dH (bW "Coming" "newly_told" aB dC 0 kR))))))
def dh:=nF 2 2 aB hR
abbrev kK:=cF dL 1
def kN:bu ["self","sign"] ["self","sign"] (az kK):=Ų
def mf(ds:List D):DG:=(ri 0 "Lean" "coming" aB (nP "Coming" d7 λ_=>Y ds))
def cp:=Iy 2 cK mf
abbrev lA:=cF (lN 22) 0
def wx:bu ["self","question"] ["self","question"] (az lA):=Ų
def Fu:=(dH (sx "Lean" "coming" "Coming" "feed" aB dh 0 am))
def oE:=nF 2 2 cK Fu
abbrev mC:=cF (lN 22) 1
def mD:bu ["self","sign"] ["self","sign"] (az mC):=Ų
def nJ:=(dy (dm "Coming" "waits" jE (bq "Lean" "coming" Fa) aN))
def jC:=jY 1 1 nJ
abbrev l9:=cF (lN 22) 2
def qy:bu ["self"] ["self"] (az l9):=Ų
def nK:=(dy (dm "Coming" "has_ended" iW (bq "Lean" "coming" Fa) aN))
def jD:=jY 1 1 nK
abbrev l_:=cF (lN 22) 3
def qz:bu ["self"] ["self"] (az l_):=Ų
abbrev Tl:=fN (aC (bq "Row" "number" Fa) (aC (bq "Row" "named" Fa) (aC (bq "Row" "atoms" Fa) aN)))
abbrev kt:=eF (Fv (bq "Coming" "rows" db) (pS u8) pN)
def lL:=(aX (cN 1 (bq "Lean" "coming" Fa)) (aX (cN 2 (eF (lZ (iL kt) [M] (gN 0) f9 Tl))) (dy (fN (aC (bq "Coming" "taken" db) (aC (bq "Coming" "opened" db) (aC lc (aC (eF (xP (bq "Coming" "rests" db))) aN))))))))
def hV:=jY 1 3 lL
abbrev ip:=cF (lN 22) 4
abbrev oU:List aE:=["self","coming","rows"]
def iq:bu oU ["self"] (az ip):=Ų
section
variable {P:aZ}{w:cC}{K:aG}{b:aE->Option aq}{h:cy}{f:ax}{t:cX}
def zr(F:gH K "feed" "Coming.feed" kK f t)(p:KS K b)(l:ju P w K b h "can_come" 63 (iD K iV))(j:dU P w K b h "Coming" "end_row" 63 (spT K aB gC))(d:dU P w K b h "Coming" "begin_row" 63 (spT K aB dO))(k:dU P w K b h "Coming" "spread" 63 (spT K aB dg))(e:dU P w K b h "Coming" "add_atoms" 63 (spT K aB gJ))(c:dU P w K b h "Coming" "newly_told" 63 (spT K aB dC))(i:dU P w K b h "Facts" "steps_for" 63 (iD K dZ))(g:dU P w K b h "Facts" "text_fact" 63 (iD K dY)):bT P w K b h fX 64 f t ["self","sign"] (spT K aB dh):=
 F.IK (Z:=[0]) (Ź:=[0]) kN _ ſ ſ λn A m s H E q B a r=>
  have o:=kN.nd;ŷ
def wF(F:gH K "__init__" "Lean.__init__" lA f t)(i:KS K b)(c:uN P w K b h "Coming" 90 (AU K aB d7)):bT P w K b h fX 92 f t ["self","question"] (AU K cK cp):=
 F.UH (Z:=[0,1]) wx _ ſ ſ ſ λe A d s H E j B a L vs ds k gl gr=>
  (bZ (Ow (pv 0) (vJ c j rfl (Ci (pv 1) ż gl gr)) i.q))
def CP(F:gH K "take" "Lean.take" mC f t)(i:KS K b)(c:dU P w K b h "Coming" "feed" 64 (spT K aB dh)):bT P w K b h fX 65 f t ["self","sign"] (spT K cK oE):=
 F.IK (Z:=[0]) (Ź:=[0]) mD _ ſ ſ λe A d s H E j B a k=>
  have g:=mD.nd;ŷ
def x5(F:gH K "waiting" "Lean.waiting" l9 f t)(g:KS K b)(a:dU P w K b h "Coming" "waits" 1 (iD K jE)):bT P w K b h fX 2 f t ["self"] (iD K jC):=
 F.xJ (Z:=[]) (Ź:=[]) qy ſ λd A c s H E i B j=>
  have e:=qy.nd;ŷ
def x6(F:gH K "is_over" "Lean.is_over" l_ f t)(g:KS K b)(a:dU P w K b h "Coming" "has_ended" 1 (iD K iW)):bT P w K b h fX 2 f t ["self"] (iD K jD):=
 F.xJ (Z:=[]) (Ź:=[]) qz ſ λd A c s H E i B j=>
  have e:=qz.nd;ŷ
def zo(F:gH K "asleep" "Lean.asleep" ip f t)(d:KS K b):bT P w K b h fX 1 f t ["self"] (iD K hV):=
 F.xJ (Z:=[]) (Ź:=[]) (g:=lL) iq ſ λa A outer s H E e B g=>
  have c:=iq.nd
  (ay ŷ (ay (FD (i:=2) (Ź:=[]) (N:=[("row" : aE)]) (src:=[M]) (gP (outer:=az ip) (oN:=oU) rfl ź rfl rfl) rfl iq.nd rfl rfl ŷ (dX 0) ſ (eU 0) (λC s H i=>⟨cV (i:=0) (show ([("row" : aE)]:List aE).Nodup by decide +kernel) rfl (.inl rfl),fw,ŷ⟩)) ŷ))
end
def SF:=(aX (cN 2 (e2 hW (e2 qI (e2 iH (e2 iH (e2 hW Fa (eK (.int 2147483647))) (e2 qI (e2 qI db db) (eK (.int 7919)))) (eK (.int 104729))) (eK (.int 48271))) (eK (.int 2147483647)))) (dy (e2 hW (e2 iH (e2 qI lc lc) (e2 qI (eK (.int 69621)) db)) (eK (.int 2147483629)))))
def tZ:=jY 2 3 SF
abbrev GD:=lN 25
def ME:bu ["_law_cell","_law_turn","_law_number"] ["_law_cell","_law_turn"] (az GD):=Ų
abbrev Ç:=eK (.int 2147483587)
def xp:=(aX (cN 7 (e2 hW (eV 6) (bc ic (aC (eV 5) aN)))) (aX (qG 4 (e2 hW (e2 b9 (eV 5) Ð) Ç)) (MI 5 Ð (e2 j7 (e2 b9 (eV 5) Ð) Ç))))
def xo:=(cN 8 (e2 hW (e2 iH (e2 qI (eV 8) (eK (.int 31))) (bc tZ (aC (eV 9) (aC (e2 iH (eV 6) db) aN)))) (eK (.int 2147483629))))
def xm:=(aX (cN 10 (bc tZ (aC (e2 b9 pc (e2 hW (eV 6) (bc ic Go))) (aC (e2 iH (e2 iH (e2 hW (eV 8) (eK (.int 1009))) (eV 6)) db) aN)))) (qG 4 (e2 hW (e2 iH (e2 qI (eV 10) (eV 10)) (e2 qI (eK (.int 7)) (eV 6))) Ç)))
def De:=(aX (cN 3 (e2 iH (eF (Fv Fa pN (pS (eK (.int 63))))) (eF (iI am)))) (aX (j5 4 TW) (aX (d_ (c_ (e2 fh (e2 hW (e2 j7 (e2 b9 pc v0) (eK (.int 50000))) Db) u8)) (aX (j5 5 (lZ (iL pc) [M] (gN 0) f9 (e2 j7 Fa (eK (.int 100000))))) (aX (je (Wy (e2 iH (e2 iH db lc) u8)) (gN 6) xp) (aX (j5 4 (Fv Sc (pS db) pN)) (pq (Fv Sc pN (pS (e2 iH u8 (e2 hW (e2 b9 Sc lc) lc)))))))) cO) (aX (cN 8 v0) (aX (je (iE pc) (DY 6 9) xo) (aX (je (Wy (e2 iH u8 (e2 hW (e2 j7 (eV 8) (eK (.int 1009))) lc))) (gN 6) xm) (Im 4)))))))
def jn:=CF 3 11 De
abbrev va:=lN 26
noncomputable abbrev JS:List aE:=["_law_script","_law_turn","_law_most","_law_cells_here","_law_found","_law_lefts","_law_k","_law_at","_law_number","_law_cell","_law_other"]
def za:bu JS ["_law_script","_law_turn","_law_most"] (az va):=Ų
def Dc:=(aX (cN 1 (e2 b9 (eF (rQ jn (aC Fa (aC (eK (.int 40)) (aC u8 aN))))) v0)) (aX (cN 2 (Lb (eK (.str (af "abcdefabcde"))) pN (pS (e2 hW db (eK (.int 12)))))) (aX (cN 3 (e2 hW (e2 j7 db (eK (.int 12))) (e2 iH (bc ic No) u8))) (pq (lZ (iS (eK (.str (af "mnopq")))) [M,Y 2,Y 3] (gN 0) f9 (e2 iH (e2 iH (Lb db pN (pS lc)) Fa) (Lb db (pS lc) pN)))))))
def vV:=jY 1 4 Dc
abbrev u9:=lN 27
noncomputable abbrev JQ:List aE:=["_law_script","_law_number","_law_stem","_law_at"]
def vf:bu JQ ["_law_script"] (az u9):=Ų
abbrev ge:=e2 j7 (eV 8) (eK (.int 7))
abbrev lm:=eK (.int 5)
abbrev wr:=lx (c_ (e2 tp Sc u8)) (kv (c_ (e2 fh Sc u8)) (c_ (e2 fh (e2 hW ge (eK (.int 6))) v0)))
abbrev Ps:=cN 9 (e2 hW (e2 iH (eV 8) (e2 qI (e2 qI (eV 5) (e2 hW (eV 6) Db)) lm)) (eK (.int 7)))
abbrev wv:=qG 3 (fN (aC ce (aC (e2 b9 db (e2 hW (e2 hW ge (eK (.int 11))) lm)) aN)))
abbrev lw:=lx (c_ (e2 fh pc wf)) (kv (c_ (e2 O_ (eV 9) bd)) (c_ (e2 tp Sc v0)))
abbrev IR:=qG 3 (fN (aC Rs (aC (e2 b9 lc (e2 hW ge lm)) aN)))
abbrev Á:=kv (c_ (e2 O_ (eV 9) lm)) (c_ (e2 tp Sc v0))
def xl:=(aX (cN 8 Ð) (aX (d_ (c_ (e2 fh (eV 6) v0)) (cN 5 (e2 hW ge bd)) cO) (aX Ps (d_ lw (aX wv (cN 4 (e2 iH Sc u8))) (d_ Á IR (d_ wr (aX (qG 3 (fN (aC Re aN))) (cN 4 (e2 nV Sc u8))) cO))))))
abbrev Ch:=eF (iI (aC (eK (.str (af "x"))) (aC (eK (.str (af ""))) (aC (eK (.str (af "y x"))) (aC (eK (.str (af "\""))) (aC (eK (.str (af "[a]"))) aN))))))
def Je:=(aX (cN 2 Ch) (aX (j5 3 TW) (aX (cN 4 v0) (aX (cN 5 v0) (aX (je (iE Fa) (DY 6 7) xl) (Im 3))))))
def sQ:=CF 2 10 Je
abbrev y0:=lN 28
def Ei:bu ["_law_cells_here","_law_some","_law_texts","_law_signs_here","_law_depth_here","_law_lean","_law_k","_law_cell","_law_number","_law_kind"] ["_law_cells_here","_law_some"] (az y0):=Ų
abbrev PP:=aC (eF (lZ At [M] (gN 0) (c_ (e2 fh ci ce)) Fa)) aN
abbrev EQ:=aC (eF (lZ At [M] (gN 0) (c_ (e2 fh ci Re)) Fa)) aN
def yE:=(dy (e2 nV (bc ic PP) (bc ic EQ)))
def qp:=jY 1 1 yE
abbrev qY:=lN 29
noncomputable abbrev DK:List aE:=["_law_signs_here"]
def Ek:bu DK ["_law_signs_here"] (az qY):=Ų
def Yu:=(aX (d_ (c_ (e2 fh Fa wf)) (dH (mP v0)) cO) (dH (UU 0)))
def vU:=AX 1 1 0 Yu
abbrev GC:=lN 30
def MC:bu ["_law_draws"] ["_law_draws"] (az GC):=Ų
section
variable {P:aZ}{w:cC}{K:aG}{b:aE->Option aq}{j:cy}{f:ax}{h:cX}
def UE(F:gH K "_law_mix" "_law_mix" GD f h):bT P w K b j fX 1 f h ["_law_cell","_law_turn"] (iD K tZ):=
 F.xJ (Z:=[]) (Ź:=[]) ME ſ λc A a s H E e B g=>
  have d:=ME.nd;ŷ
def Nn(F:gH K "_law_cells" "_law_cells" va f h)(g:KS K b)(a:ju P w K b j "_law_mix" 1 (iD K tZ)):bT P w K b j fX 2 f h ["_law_script","_law_turn","_law_most"] (GH K jn):=
 F.ZI (Z:=[4,5]) (Ź:=[4,5]) (g:=De) za ſ λd A outer s H E i B c=>
  have e:=za.nd
  (ay ŷ (ay ŷ (ay (rS ŷ (ay (xa (i:=5) (Ź:=[]) (N:=[("_law_cell" : aE)]) (src:=[M]) (gP (outer:=az va) (oN:=JS) rfl ź rfl rfl) rfl za.nd rfl rfl (iU (vP 3)) (dX 0) ſ (eU 0) (λC s H k=>⟨cV (i:=0) (show ([("_law_cell" : aE)]:List aE).Nodup by decide +kernel) rfl (.inl rfl),fw,ŷ⟩)) (ay (uH dS rfl ŷ (λB c=>ŷ) (λB c=>(ay ŷ (ay ŷ (bZ (Q_ (pv 5) (vQ 7) ŷ)))))) ŷ)) kY) ŷ)))
def Nj(F:gH K "_law_names" "_law_names" u9 f h)(e:KS K b)(a:ju P w K b j "_law_cells" 2 (GH K jn)):bT P w K b j fX 3 f h ["_law_script"] (iD K vV):=
 F.xJ (Z:=[]) (Ź:=[]) (g:=Dc) vf ſ λc A outer s H E g B i=>
  have d:=vf.nd
  (ay ŷ (ay (ml (i:=2) vf.nd rfl (.inr rfl) ŷ) (ay (ml (i:=3) vf.nd rfl (.inr rfl) ŷ) (bZ (vC (pG (Ź:=[]) (N:=[("_law_letter" : aE),("_law_stem" : aE),("_law_at" : aE)]) (src:=[M,Y 2,Y 3]) (gP (outer:=az u9) (oN:=JQ) rfl ź rfl rfl) rfl (VO HB) (dX 0) ſ (eU 0) (λC s H k=>⟨cV (i:=0) (show ([("_law_letter" : aE),("_law_stem" : aE),("_law_at" : aE)]:List aE).Nodup by decide +kernel) rfl (.inl rfl),fw,ŷ⟩)))))))
def Nh(F:gH K "_law_signs" "_law_signs" y0 f h)(e:KS K b):bT P w K b j fX 1 f h ["_law_cells_here","_law_some"] (GH K sQ):=
 F.ZI (Z:=[3]) (Ź:=[3]) Ei ſ λc A a s H E g B i=>
  have d:=Ei.nd;ŷ
def Nm(F:gH K "_law_depth" "_law_depth" qY f h)(a:KS K b):bT P w K b j fX 1 f h ["_law_signs_here"] (iD K qp):=
 F.xJ (Z:=[]) (Ź:=[]) (g:=yE) Ek ſ λd A outer s H E g B i=>
  have e:=Ek.nd
  (bZ (lI (B3 UI (dq (Aj rfl a.y (dq (df (pG (Ź:=[]) (N:=[("_law_sign" : aE)]) (src:=[M]) (gP (outer:=az qY) (oN:=DK) rfl ź rfl rfl) rfl (iU (vP 0)) (dX 0) ſ (eU 0) (λC s H c=>⟨cV (i:=0) (show ([("_law_sign" : aE)]:List aE).Nodup by decide +kernel) rfl (.inl rfl),(Jr ŷ),(vP 0)⟩)))))) (dq (Aj rfl a.y (dq (df (pG (Ź:=[]) (N:=[("_law_sign" : aE)]) (src:=[M]) (gP (outer:=az qY) (oN:=DK) rfl ź rfl rfl) rfl (iU (vP 0)) (dX 0) ſ (eU 0) (λC s H c=>⟨cV (i:=0) (show ([("_law_sign" : aE)]:List aE).Nodup by grind) rfl (.inl rfl),(Jr ŷ),(vP 0)⟩)))))))))
def UD(F:gH K "_law_pop" "_law_pop" GC f h):bT P w K b j fX 1 f h ["_law_draws"] (AV K 0 vU):=
 F.tj (Z:=[0]) (Ź:=[0]) MC 0 ſ ſ λd A c s H E g B a i=>
  have e:=MC.nd
  ay ŷ (bZ (yL (VL (pv 0))))
end
def C8(c:List D->Option (D×List D))(a:List D->Option (D×List D)):DG:=(aX (my 3 (tR vU 0 aN)) (aX (cN 4 (e2 hW pc (eK (.int 8)))) (aX (d_ (lx (c_ (e2 O_ Sc Db)) (kv (c_ (e2 fh db v0)) (c_ (e2 tp Sc Db)))) (dH (mP (fN (aC Æ aN)))) cO) (aX (d_ (c_ (e2 fh Sc Db)) (dH (mP (fN (aC Rs (aC (e2 b9 Ch (e2 hW (e2 j7 pc (eK (.int 8))) lm)) aN))))) cO) (aX (d_ (c_ (e2 O_ Sc lm)) (dH (yf (jJ (mP wn) (jJ (tR a 0 (aC (e2 nV db u8) No)) kR)))) cO) (aX (d_ (c_ (e2 fh Sc lm)) (dH (mP (fN (aC wn (aC (eF (iI (aC (fN (aC (eK (.str (af "own"))) (aC bn (aC (fN (aC Æ aN)) aN)))) aN))) aN))))) cO) (dH (yf (jJ (mP (e2 b9 (eF (iI (aC Ä (aC wE aN)))) (e2 nV Sc (eK (.int 6))))) (jJ (Yc (Wy (e2 hW (e2 j7 pc (eK (.int 8))) (eK (.int 4)))) [M,Y 0,Y 2,Y 1] (gN 0) (tR c 1 (aC (e2 nV pc u8) No)) 1 0) kR))))))))))
abbrev yr:=lN 31
noncomputable abbrev O1:List aE:=["_law_draws","_law_deep","_law_some","_law_number","_law_kind"]
def Il:bu O1 ["_law_draws","_law_deep","_law_some"] (az yr):=Ų
def sL(a:List D->Option (D×List D))(c:List D->Option (D×List D)):DG:=(aX (my 5 (tR vU 0 aN)) (aX (cN 6 (e2 b9 (e2 iH (eF (Fv lc pN (pS (eK (.int 4))))) (eF (iI (aC bn (aC bn (aC bn aN)))))) (e2 hW (e2 j7 (eV 5) Db) (eK (.int 7))))) (ML 3 (yf (jJ (mP (e2 b9 (eF (iI (aC (eK (.str (af "own"))) (aC ww aN)))) (e2 hW (eV 5) Db))) (jJ (mP (eV 6)) (jJ (tR a 0 (aC db No)) kR)))))))
abbrev AT:=ZO (m2 iH (mP u8) (m2 hW (tR vU 0 aN) (mP bd)))
def C_(c:List D->Option (D×List D))(a:List D->Option (D×List D)):DG:=(aX (j5 3 TW) (aX (tH AT (gN 4) (sL c a)) (CA 3)))
abbrev u7:=lN 32
def ve:bu ["_law_draws","_law_deep","_law_some","_law_steps_here","_law_k","_law_number","_law_name"] ["_law_draws","_law_deep","_law_some"] (az u7):=Ų
mutual
noncomputable def gi:Nat->List D->Option (D×List D)
 |0=>λ_=>M
 |n+1=>AX 3 5 0 (C8 (gi n) (fW n))
noncomputable def fW:Nat->List D->Option (D×List D)
 |0=>λ_=>M
 |n+1=>AX 3 7 0 (C_ (gi n) (fW n))
end
section
variable {P:aZ}{w:cC}{K:aG}{b:aE->Option aq}{h:cy}{f:ax}{j:cX}
def Qr(F:gH K "_law_wish" "_law_wish" yr f j)(l:KS K b)(e:ju P w K b h "_law_pop" (n+1) (AV K 0 vU))(c:ju P w K b h "_law_steps" (n+1) (AV K 0 (fW n)))(d:ju P w K b h "_law_wish" (n+1) (AV K 0 (gi n))):bT P w K b h fX (n+1+1) f j ["_law_draws","_law_deep","_law_some"] (AV K 0 (gi (n+1))):=
 F.tj (Z:=[0]) (Ź:=[0]) (g:=(C8 (gi n) (fW n))) Il 0 ſ ſ λi A outer s H E m B a g=>
  have k:=Il.nd
  (ay ŷ (ay ŷ (ay ŷ (ay ŷ (ay ŷ (ay ŷ (bZ (yL (VJ (lV ŷ (lV (YW (i0:=1) (j0:=0) (N:=[("_law_k" : aE),("_law_draws" : aE),("_law_some" : aE),("_law_deep" : aE)]) (src:=[M,Y 0,Y 2,Y 1]) (gP (outer:=az yr) (oN:=O1) rfl ź rfl rfl) rfl ŷ (dX 0) ſ (rM _ 0 1) (λC s H o=>⟨cV (i:=0) (show ([("_law_k" : aE),("_law_draws" : aE),("_law_some" : aE),("_law_deep" : aE)]:List aE).Nodup by decide +kernel) rfl (vZ rfl),fw,YV λB a g=>ŷ⟩)) sG)))))))))))
def Ng(F:gH K "_law_steps" "_law_steps" u7 f j)(i:KS K b)(e:ju P w K b h "_law_pop" (n+1) (AV K 0 vU))(c:ju P w K b h "_law_wish" (n+1) (AV K 0 (gi n))):bT P w K b h fX (n+1+1) f j ["_law_draws","_law_deep","_law_some"] (AV K 0 (fW (n+1))):=
 F.tj (Z:=[0,3]) (Ź:=[0,3]) ve 0 ſ ſ λk A d s H E m B a g=>
  have l:=ve.nd
  (ay ŷ (ay (Jw dS rfl (Ag rfl i.y ŷ) (λB g=>ŷ) (λB g=>(ay ŷ (ay ŷ (bZ (Jx (pv 3) ŷ)))))) (bZ (Oq (pv 3)))))
end
local macro_rules | `(tactic|walk_at "i") => `(tactic|(intros; walk_at "o"))
def sP:=fW 12
def pO:List D->Option (D×D):=λe=>(i9 e).map λr=>(.lst r.1,r.2)
abbrev Î:=aC (e2 b9 Sc u8) (aC (e2 b9 Sc Db) aN)
def vT:=da (uA "Coming" "begin_row" aB dO 3 (aC (e2 b9 Sc v0) Î))
def yC(c R:List D)(b:D):DG:=(aX (rh 2 cK (nP "Lean" cp λ_=>Y c)) (Ip [3,1000003,2000002] (aX (MM 3 2 "Lean" "coming") (aX (eR Z' 3 "Coming" "taken" λa=>eWk a.length 1 b pi a) (aX (eR Z' 3 "Coming" "opened" λa=>eWk a.length 1 b Tk a) (aX (tH (λa=>Y (R,a)) (gN 4) vT) (aX (da (uA "Coming" "settle" aB pO 3 aN)) (aX (eR Z' 3 "Coming" "rests" (eF λa=>ZY a.length 1 b (xP Â) a)) (BD 2)))))))))
def oB:=Se 5 cK yC
abbrev yZ:=lN 23
def vd:bu ["question","value","lean","coming","row"] ["question","value"] (az yZ):=Ų
section
variable {P:aZ}{w:cC}{K:aG}{a:aE->Option aq}{b:cy}{f:ax}{j:cX}
def Nd(F:gH K "woken" "woken" yZ f j)(h:KS K a)(d:uN P w K a b "Lean" 93 (AU K cK cp))(x:dU P w K a b "Coming" "begin_row" 94 (spT K aB dO))(v:dU P w K a b "Coming" "settle" 94 (spT K aB pO)):bT P w K a b fX 95 f j ["question","value"] (Mt K cK oB):=
 F.aaU (Z:=[0,1,2]) (Ź:=[0,1,2,3,1000003,2000002]) (g:=yC) vd cK ſ ſ ſ λk A e s H E i B L t a y z D R S m n b g r q p u l c=>
  (ay (sF (i:=2) vd.nd rfl (.inl rfl) (vJ d i rfl (Ci (pv 0) (by rw[g];simp) r q)))
  (Ol (own1:=[0,1,2,3,1000003,2000002]) [3,1000003,2000002]
  (ay (Rc (i:=3) vd.nd rfl (.inl rfl) (pv 2) h.q)
  (ay (vD (b:=Z') (pv 3) (SU c (B4 (vQ 1) (dq gf))) h.q)
  (ay (vD (b:=Z') (pv 3) (SU c (B4 (vQ 1) (dq gf))) h.q)
  (ay (Jv dS rfl (Ye (pv 1) (by rw[g];simp) p rfl u l wD) (λC o=>vG (cV (i:=4) vd.nd rfl (.inl rfl))) (λC o k=>bZ (rT (Ox x i (pv 3) (cf (B4 (vQ 4) (dq gf)) (cf (B4 (vQ 4) (dq gf)) (cf (B4 (vQ 4) (dq gf)) hU)))))))
  (ay (rT (Lh v i (pv 3)))
  (ay (vD (b:=Z') (pv 3) (YZ c (Jy rfl h.y (dq (B4 (vQ 1) (dq gf))))) h.q)
  (bZ (Ju (pv 2)))))))))))
end
def lJ(b:List D->Option D):DG:=(cN 1 (e2 IM db (fN (aC (bc b No) aN))))
def yG(b:List D->Option D):DG:=(aX (d_ (fD (VE "list" Fa)) (pq (lZ At [M] (gN 0) f9 (bc b im))) cO) (aX (d_ (kv (fD (VE "tuple" Fa)) (c_ (e2 tp (bc ic im) v0))) (aX (cN 1 (fN aN)) (aX (je (Wz Fa) (gN 2) (lJ b)) (dy db))) cO) (dy Fa)))
abbrev nh:nW:=lN 36
abbrev DN:List aE:=["_law_value","_law_found","_law_one"]
def kM:bu DN ["_law_value"] (az nh):=⟨rfl,rfl,rfl,ų,rfl,ų,ų⟩
def i8:Nat->List D->Option D
 |0=>λ_=>M
 |n+1=>jY 1 3 (yG (i8 n))
def mM:=i8 12
def EB{X:Cx}(h:ju X.prog X.w X.K X.mg X.base x k g)(I:dB k X.A)(a:Gl X x)(N:PA X (e::d) t)(A:autoParam ((x==("__debug__" : aE))=false) ū)(B:autoParam (ao (e::d) X.env=(Z_,eval e X.env)::ao d X.env) ŭ)(C:autoParam ((bX u (ao d X.env)).any (·.1)=false) ŭ):PE X (.Call (.Name x p) (e::d) [] u) (Ii g [] E0 t):=by
 obtain⟨f,q,j,c,m,i,b⟩:=h.ex;exact mG c I a m i b .nil j6 N A B C
def VF{X:Cx}:lX X l (gD X.K B f c b (λ_=>M)):=λB s U H D I h=>by
 obtain⟨G,d,o,S,e,k⟩:=h;cases e
def vz(F:List D->Option D):DG:=(aX (d_ (fD (VE "list" Fa)) (pq (lZ At [M] (gN 0) f9 (bc F im))) cO) (λ_=>M))
def sf:List D->Option (List D):=CF 1 3 (vz mM)
def YN{K:aG}{v:V}(r:cS K H d v):j2 K [] H H [Y v,x,y] [Y d,M,M]:=by
 refine⟨rfl,λi e h =>?_,λj r p h=>by cases h⟩;rcases i with _|_|_|i<;>cases h
 exact⟨v,rfl,r⟩
def Ue{X:Cx}:lX X l (λa a a=>False):=λa a a a a a h=>h.elim
section
variable {P:aZ}{w:cC}{K:aG}{a:aE->Option aq}{z:cy}{f:ax}{q:cX}
def EK{n:Nat}(F:gH K "_law_again" "_law_again" nh f q)(b:a "isinstance" = M)(g:a "len" = M)(e:a "list" = M)(d:a "tuple" = M)(c:ju P w K a z "_law_again" (n+0) (iD K (i8 n))):bT P w K a z fX (n+0+1) f q ["_law_value"] (iD K (i8 (n+1))):=
 F.xJ (Z:=[]) (Ź:=[]) (g:=(yG (i8 n))) kM ſ λj A outer s H E h B i=>
  (ay (rS (rR (dq (pH (T:= "list") ſ rfl b rfl e ų (vQ 0))))
  (bZ (vC (pG (Ź:=[]) (N:=[("_law_one" : aE)]) (src:=[M]) (gP (outer:=az nh) (oN:=DN) rfl ź rfl rfl) rfl (iU (vP 0)) (dX 0) ſ (eU 0) (λC s H k=>⟨cV (i:=0) (show ([("_law_one" : aE)]:List aE).Nodup by decide +kernel) rfl (.inl rfl),fw,(sI c h rfl (cf (vP 0) hU))⟩))))
  kY)
  (ay (rS (PW.pt (Oh (rR (dq (pH (T:= "tuple") ſ rfl b rfl d ų (vQ 0)))) (Jq (Oi Su (dq (Aj rfl g (vQ 0))) (dq gf) (wK _)))))
  (ay (ml (i:=1) kM.nd rfl (.inl rfl) (Ai hU))
   (ay (uH dS rfl (YY (vP 0)) (λB i=>(vG (cV (i:=2) kM.nd rfl (.inl rfl)))) (λB i=>
   (bZ (ml (i:=1) kM.nd rfl (.inl rfl) (B3 Qv (vQ 1) (dq (Ai (cf (sI c h rfl (cf (vP 2) hU)) hU))))))))
   (bZ (lI (vP 1)))))
  kY)
  (bZ (lI (vP 0)))))
def KD(F:gH K "_law_again" "_law_again" nh f q)(k:KS K a)(h:ju P w K a z "_law_again" 12 (iD K mM)):bT P w K a z fX 13 f q ["_law_value"] (GH K sf):=
 F.ZI (Z:=[]) (Ź:=[]) (g:=vz mM) kM ſ λc A outer s H E b B d=>
  (ay (rS (rR (dq (pH (T:= "list") ſ rfl k.y rfl k.y ų (vQ 0))))
  (bZ (vC (pG (Ź:=[]) (N:=[("_law_one" : aE)]) (src:=[M]) (gP (outer:=az nh) (oN:=DN) rfl ź rfl rfl) rfl (iU (vP 0)) (dX 0) ſ (eU 0) (λC s H e=>⟨cV (i:=0) (show ([("_law_one" : aE)]:List aE).Nodup by grind) rfl (.inl rfl),fw,(sI h b rfl (cf (vP 0) hU))⟩))))
  kY) VF)
end
def W7{K:aG}{f:List V}{R:List D}(s:bf G H)(j:H a=Y (.lst i))(E:eJ (i4 G H [a]) H c h)(p:kP R=Z')(r:aY K c R f):∃g,eJ G H g h/\aY K g R f/\∀x,c x=M->g x=none:=by
 by_cases o:G a=M
 .obtain⟨m,n⟩:=nN s λb y=>by simp_all (λb y=>by simp at y;subst y;exact⟨_,j,nofun⟩) E
  refine⟨_,m,L2.mV n p r,λx e =>?_⟩;by_cases y:x∈[a]
  .exact f' y
  .rw[bV y];exact e
 .refine⟨c,⟨E.hh,(lH s).trans E.gg,E.gh,λb v y =>?_⟩,r,λx e=>e⟩;rcases E.fr b v y with w|w
  .by_cases t:b∈[a]
   .rcases k:G b with _|q
    .simp_all
    .have:=s _ _ k
     simp_all [gS]
   simp_all [iZ]
  simp_all
structure LD(R:List D):Prop where
 p:kP R=true
 f:sf [.lst R]=some R
def spV(K:aG):Sp:=λh H Q d=>∃G t i j a b g f R S,bf G H/\h=[.ref t]/\H t=Y (.tup [.int i,.int j,.ref a,.ref b])/\H a=Y (.lst g)/\H b=Y (.lst f)/\aY K G R g/\aY K G S f/\LD R/\LD S/\∀v T e c,eJ G H e c->cv K e c .vl (.tup [.int i,.int j,.lst R,.lst S]) v T->T.Nodup->(∀b∈T,e b=M/\H b=M)->Q v c
def NL(K:aG)(H G C:Hp)(a:ax)(R:List D):Prop:=H a=M/\G a=M/\∃b,C a=Y (.lst b)/\aY K G R b
def NL.on{K:aG}{R:List D}(n:NL K H G C a R)(E:eJ G C b O)(s:bf O e):NL K H b e a R:=by
 obtain⟨h,g,f,c,r⟩:=n;exact⟨h,E.nil c g,f,s _ _ (E.hh _ _ c),aY.mono E.gg _ r⟩
def Sh(K:aG)(i j:Int)(R S:List D)(H G C:Hp):Nat->List V->Prop
 |0,c=>c=[]|1,c=>c=[.int i]|2,c=>c=[.int i,.int j]|3,c=>∃a,c=[.int i,.int j,.ref a]/\NL K H G C a R|4,c=>∃a b,c=[.int i,.int j,.ref a,.ref b]/\NL K H G C a R/\NL K H G C b S/\a≠b|_,_=>False
section
variable {P:aZ}{w:cC}{K:aG}{d:aE->Option aq}{l:cy}{f:ax}{u:cX}
def KC(F:gH K "_law_again" "_law_again" nh f u)(k:KS K d)(hA:ju P w K d l "_law_again" 13 λvs H Q E=>iD K mM vs H Q E\/GH K sf vs H Q E):bT P w K d l fX 14 f u ["_law_value"] (spV K):=by
 refine F.ok kM (λvs H Q E h =>?_) (λRu A outer s H vs Q E hr h' =>?_)
 .obtain⟨G,t,i,j,a,b,U,ws,R,S,gh,rfl,_⟩:=h
  rfl
 .obtain⟨G,t,i,j,a,b,U,ws,R,S,gh,rfl,ht,ha,hb,ra,rb,fa,fb,q⟩:=h'
  have Y8:100000<a_:=by rw[iG];decide
  refine⟨_,ir (Ex (rR (Z:=[]) (dq (pH (T:= "list") ſ rfl k.y rfl k.y ų (vQ 0))))
   Ue
   yx)
   (ir (Ex (PW.pt (Oh (Z:=[]) (rR (dq (pH (T:= "tuple") ſ rfl k.y rfl k.y ų (vQ 0)))) (Jq (Oi Su (dq (Aj rfl k.y (vQ 0))) (dq gf) (wK _)))))
   (ir (jZ (i:=1) kM.nd rfl (.inl rfl) (wC dI))
    (ir (Uh dS rfl (MZ (pv 0)) (cV (i:=2) kM.nd rfl (.inl rfl))
     (mE (jZ (i:=1) kM.nd rfl (.inl rfl) (IG (IJ.or EH) (pv 1) (wC (bS (EB hA hr rfl (bS (pv 2) dI)) dI))))))
    (mE (nG (pv 1))))) yx)
   (mE (nG (pv 0)))),?_⟩
  have rp:cS K H (.tup [.int i,.int j,.lst R,.lst S]) (.ref t):=cL.mpr ⟨t,_,rfl,ht,.cons (bK.mpr rfl) (.cons (bK.mpr rfl) (.cons (bR.mpr ⟨a,U,rfl,ha,aY.mono gh _ ra⟩) (.cons (bR.mpr ⟨b,ws,rfl,hb,aY.mono gh _ rb⟩) .nil)))⟩
  refine⟨H,[Y (.tup [.int i,.int j,.lst R,.lst S]),M,M],Z_,bf.refl _,YN rp,rfl,λG1 H1 E1=>Ba ?_⟩
  refine⟨H1,[Y (.tup [.int i,.int j,.lst R,.lst S]),M,M],Z',bf.refl _,YN (cS.mono E1.hh _ rp),Ż,λG2 H2 E2=>vu ?_⟩
  refine⟨dk _,λp0 hp0 =>?_⟩
  have S0:bf H (dD H2 p0 (.tup [])):=(E1.hh.trans E2.hh).trans (.alloc hp0)
  have hp3:dD H2 p0 (.tup []) p0=Y (.tup []):=aW
  have hn0:H p0=none:=(E1.hh.trans E2.hh).free hp0
  generalize dD H2 p0 (.tup [])=H3 at S0 hp3
  refine⟨.ref t,rfl,t,rfl,⟨_,.of (S0 _ _ ht)⟩,?_⟩
  refine QS (K:=K) (a:=t) (λn σ C=>∃p I x B,σ=[Y (.ref t),Y (.ref p),x]/\eJ G H B C/\C p=Y (.tup I)/\H p=M/\B p=M/\Sh K i j R S H B C n I)
   ⟨p0,[],M,G,rfl,⟨S0,bf.refl _,gh.trans S0,λ_ _ e =>.inl e⟩,hp3,hn0,gh.free hn0,rfl⟩ (λn σ C _ e=>by obtain⟨_,_,_,_,_,s,_⟩:=e;exact .of (s.hh _ _ ht)) ?_ ?_
  .rintro n x σ C hx ⟨p,I,x0,B,rfl,X,hp,hn,gn,g⟩
   have hac:=X.hh _ _ ha
   have hbc:=X.hh _ _ hb
   have kC:∀(Z:VK) (v:V) (O:Hp),I.length<=4->bf C O->(∀N J,bf O J->O N=M->J N=Y (.tup (I++[v]))->Z (.ref N) J) ->
     [v].length<=a_/\∀q,O q=M->Si K (.ref p) (.ref q) (dD O q (.tup [v])) Z\/Sj K (.ref p) (.ref q) (dD O q (.tup [v])) Z:=λZ v O hl s hZ=>by
    refine⟨bz (by decide:1<=100000) (fA Y8),λq hq =>?_⟩
    have sq:bf O (dD O q (.tup [v])) :=.alloc hq
    have hpq:dD O q (.tup [v]) p=Y (.tup I):=sq _ _ (s _ _ hp)
    by_cases z:I=[]
    .subst z
     exact .inr ⟨p,q,[v],rfl,rfl,.of hpq,.of aW,hZ q _ sq hq aW⟩
    .exact .inl ⟨p,q,I,[v],rfl,rfl,.of hpq,.of aW,z,by simp;lia,(λe=>by cases e),λ_ r' hr'=>hZ r' _ (sq.trans (.alloc hr')) (sq.free hr') aW⟩
   have T:∀(m:Nat) (v:V) (W O:Hp),eJ B C W O->(∀J,bf O J->Sh K i j R S H W J m (I++[v]))->∀N J,bf O J->O N=M->J N=Y (.tup (I++[v]))->∃p I x' B,([Y (V.ref t),Y (V.ref p),Y x].set 1 (Y (V.ref N)))=[Y (.ref t),Y (.ref p),x']/\eJ G H B J/\J p=Y (.tup I)/\H p=M/\B p=M/\Sh K i j R S H B J m I:=λm v W O e g N J s n c=>by
    have e2:=X.trans e
    exact⟨N,_,Y x,W,rfl,⟨e2.hh.trans s,e2.gg,e2.gh.trans s,e2.fr⟩,c,e2.hh.free n,e2.gh.free n,g J s⟩
   have int:∀m:Int,x=.int m->∀Z:VK,(∀v O,bf C O->v=.int m->Z v O)->iD K mM [x] C Z E0:=λm e Z hz=>
    .mk (λ_=>M) [.int m] (.int m) (λb o e=>by cases e) (by rw[e];exact .cons (bK.mpr rfl) .nil) Ż λv c b E r=>hz v b E.hh (bK.mp r)
   have lay:∀ {O},bf C O->eJ B C B O:=λs=>⟨s,bf.refl _,X.gh.trans s,λ_ _ e =>.inl e⟩
   have lst:∀(a:ax) (U:List V) (R:List D),C a=Y (.lst U)->aY K G R U->LD R->x=.ref a->∀Z:VK,(∀L O W,eJ B C W O->C L=M->NL K H W O L R->Z (.ref L) O)->GH K sf [x] C Z E0:=λa U R ha ra ok e Z hz=>
    .mk (i4 B C [a]) [.lst R] R (i' X.gh) (by rw[e];exact .cons (bR.mpr ⟨a,U,rfl,by rw[gS (by simp)];exact ha,aY.mono (X.gg.trans (lH X.gh)) _ ra⟩) .nil) ok.f λL us' c b' E n1 n2 h3 r'=>by
     obtain⟨c',E2,r2,nn⟩:=W7 X.gh ha E ok.p r'
     exact hz L b' c' E2 n1 ⟨X.hh.free n1,nn _ n2,us',h3,r2⟩
   rcases n with _|_|_|_|n
   .cases hx
    have g:I=[]:=g
    exact⟨_,rfl,_,rfl,.inl (int i rfl _ λv O s e=>kC _ v O (by rw[g];simp) s (by subst e;exact T 1 _ B O (lay s) λJ _=>by rw[g];rfl))⟩
   .cases hx
    have g:I=[.int i]:=g
    exact⟨_,rfl,_,rfl,.inl (int j rfl _ λv O s e=>kC _ v O (by rw[g];simp) s (by subst e;exact T 2 _ B O (lay s) λJ _=>by rw[g];rfl))⟩
   .cases hx
    have g:I=[.int i,.int j]:=g
    exact⟨_,rfl,_,rfl,.inr (lst a U R hac ra fa rfl _ λL O W E n1 nl=>kC _ _ O (by rw[g];simp) E.hh (T 3 _ W O E λJ s=>⟨L,by rw[g];rfl,nl.on ⟨bf.refl _,bf.refl _,E.gh,λ_ _ e =>.inl e⟩ s⟩))⟩
   .cases hx
    obtain⟨a0,g,n0⟩:∃a0,I=[.int i,.int j,.ref a0]/\NL K H B C a0 R:=g
    exact⟨_,rfl,_,rfl,.inr (lst b ws S hbc rb fb rfl _ λL O W E n1 nl=>kC _ _ O (by rw[g];simp) E.hh (T 4 _ W O E λJ s=>⟨a0,L,by rw[g];rfl,n0.on E s,nl.on ⟨bf.refl _,bf.refl _,E.gh,λ_ _ e =>.inl e⟩ s,λz=>by obtain⟨_,_,_,c,_⟩:=n0;grind⟩))⟩
   .simp at hx
  .rintro σ C ⟨p,I,x0,B,rfl,X,hp,hn,gn,g⟩
   obtain⟨L,b',rfl,⟨h1,g1,u1,c1,r1⟩,⟨h2,g2,u2,c2,r2⟩,ne⟩:∃a b,I=[.int i,.int j,.ref a,.ref b]/\NL K H B C a R/\NL K H B C b S/\a≠b:=g
   have n1:L≠p:=λz=>by simp_all
   have n2:b'≠p:=λz=>by simp_all
   refine⟨_,rfl,q (.ref p) [L,b'] (dD B p (.tup [.int i,.int j,.ref L,.ref b'])) C (X.freeze hn gn hp) (.vl aW c1 c2 (aY.mono (.alloc gn) _ r1) (aY.mono (.alloc gn) _ r2)) (by simp[ne]) λy hy =>?_⟩
   simp only[br,fZ,or_false]at hy
   rcases hy with rfl|rfl
   .simp_all [aP]
   simp_all [aP]
end
def wY:=(aX (d_ (c_ (e2 O_ db (bc ic im))) (dy (e2 b9 Fa db)) cO) (dy v0))
def m8:=jY 2 2 wY
abbrev ud:=lN 33
def zb:bu ["_law_script","_law_k"] ["_law_script","_law_k"] (az ud):=Ų
def Dd:=aX (d_ (nc (fD (bc iV np))) (Io "NoSign" (bq "Coming" "taken" Fa)) cO) λ_=>M
def yP:=Eo 2 2 Dd
def C9:=MG (t7 "Coming" "feed" yP (bq "Lean" "coming" Fa) am)
def sO:=Eo 2 2 C9
def Dg:=aX (d_ (lx (c_ (e2 ur (dm "Lean" "waiting" jC Fa aN) (dm "Lean" "waiting" jC db aN))) (c_ (e2 ur (dm "Lean" "is_over" jD Fa aN) (dm "Lean" "is_over" jD db aN)))) FS cO) (dy (e2 fh (dm "Lean" "asleep" hV Fa aN) (dm "Lean" "asleep" hV db aN)))
def qr:=jY 2 2 Dg
abbrev y6:=lN 40
def El:bu ["_law_one","_law_other"] ["_law_one","_law_other"] (az y6):=Ų
section
variable {P:aZ}{w:cC}{K:aG}{b:aE->Option aq}{j:cy}{f:ax}{h:cX}
def GZ(F:gH K "_law_cell_at" "_law_cell_at" ud f h)(a:KS K b):bT P w K b j fX 1 f h ["_law_script","_law_k"] (iD K m8):=
 F.xJ (Z:=[]) (Ź:=[]) zb ſ λc A i s H E e B g=>
  have d:=zb.nd;ŷ
def Np(F:gH K "_law_alike" "_law_alike" y6 f h)(l:dU P w K b j "Lean" "waiting" 30 (iD K jC))(k:dU P w K b j "Lean" "is_over" 30 (iD K jD))(i:dU P w K b j "Lean" "asleep" 30 (iD K hV)):bT P w K b j fX 31 f h ["_law_one","_law_other"] (iD K qr):=
 F.xJ (Z:=[]) (Ź:=[]) El ſ λc A a s H E e B g=>
  have d:=El.nd;ŷ
end
section
variable {P:aZ}{w:cC}{K:aG}{a:aE->Option aq}{b:cy}{f:ax}{j:cX}
def Nl(F:gH K "feed" "Coming.feed" kK f j)(l:KS K a)(c:ju P w K a b "can_come" 63 (iD K iV))(x:OkX P w K a b "NoSign" 60):bT P w K a b (LC P w) 64 f j ["self","sign"] (Cw K yP):=
 F.X6 (Z:=[]) (Ź:=[]) kN ſ λi A d s H E g B h e=>
  have k:=kN.nd
  ay (rS ŷ (bZ (Lf x (g.mono Ž) e rfl ŷ h)) kY) Oj
def Nf(F:gH K "take" "Lean.take" mC f j)(l:KS K a)(h:HP P w K a b "Coming" "feed" 64 (Cw K yP)):bT P w K a b (LC P w) 65 f j ["self","sign"] (Cw K sO):=
 F.X6 (Z:=[]) (Ź:=[]) mD ſ λi A c s H E e B g d=>
  have k:=mD.nd
  bZ (Q8 (Og h e d g ŷ ŷ))
end
abbrev oZ:=cF (lN 2) 0
def MD:bu ["self","at"] ["self","at"] (az oZ):=Ų
def Ni{P:aZ}{K:aG}{f:ax}(F:gH K "__init__" "NoSign.__init__" oZ f d)(T:RG K C "at"):bT P w K g b fX 1 f d ["self","at"] (yu C "at"):=by
 refine F.ok MD (λe H Q E h =>?_) λn A c s H e Q E o h =>?_
 .obtain⟨a,t,v,rfl,_⟩:=h
  exact ź
 .obtain⟨a,t,v,rfl,l,k⟩:=h
  exact⟨_,mE (Qc (pv 0) (pv 1) rfl),⟨_,rfl,_,rfl,a,C,t,rfl,l,T,λm j i=>k m j i⟩⟩
abbrev yt:=lN 34
noncomputable abbrev O2:List aE:=["_law_error","_law_which","_law_found","_law_due"]
def yv:bu O2 ["_law_error","_law_which"] (az yt):=Ų
structure RF(H:Hp)(a C:ax):Prop where
 ex:∃dx oe,H a=some (fc a oe)/\xw oe C dx/\∀x,dx=some x->∃i,H x=some (.xd i)
def RF.same{b:Hp}(x:RF H a C)(s:bf H b):RF b a C:=by
 obtain⟨g,c,f,e,d⟩:=x.ex;exact⟨g,c,s _ _ f,e,λy z=>(d y z).imp λ_ q=>s _ _ q⟩
section
variable {X:Cx}{p J G:Pos}{x y:aE}{C:ax}{L O:TE}{e:Expr}
set_option tactic.hygienic true in
def VW(h:Ze X.K C):lu X (.builtin "isinstance") (λf H Q=>∃a d c b,f=[.ref a,d]/\RF H a C/\(∀u,RelV d u->u=c)/\jO X.K (.ref C) c=Y b/\Q (.bl b) H):=by
 intro g s x H f y Q I r ⟨a,d,c,b,e,j,o,k,q⟩;subst e;obtain⟨D,B,v,t,p⟩:=j.ex;cases r with
 |cons m r=>
  cases r with|cons l r=>cases r;rename_i i z;obtain rfl:i=aQ a:=m;obtain rfl:=o _ l;exact S_ (W:=X.w) I v t p h k λA w=>⟨.bl b,H,w,rfl,q⟩
def T_(K:aG)(C:ax):List V->Hp->VK->Prop:=λe H Q=>∃a d c b,e=[.ref a,d]/\RF H a C/\(∀u,RelV d u->u=c)/\jO K (.ref C) c=Y b/\Q (.bl b) H
def ui{v:V}(d:Ze X.K C)(g:Gl X "isinstance")(f:X.mg "isinstance" = M)(h:PE X e L)(i:PE X (.Name y G) (tC v))(c:autoParam (ao (e::[.Name y G]) X.env=(Z_,eval e X.env)::ao [.Name y G] X.env) ŭ)(a:autoParam (ao (.Name y G::[]) X.env=(Z_,eval (.Name y G) X.env)::ao [] X.env) ŭ)(b:autoParam ((bX J (ao [.Name y G] X.env)).any (·.1)=false) ŭ):
  PE X (.Call (.Name "isinstance" p) [e,.Name y G] [] J) (Wo (T_ X.K C) (u4 L (u4 (tC v) Gy))):=
 zi (VW d) g f HY (bS h (bS i dI a) c) ſ ſ c b
def wU{K:aG}(e:d[i]?=Y (Y (.ref a)))(x:RF H a C)(k:jO K (.ref C) (.ref c)=Y b)(q:Q (.bl b) H):Wo (T_ K C) (u4 (fB i) (u4 (tC (.ref c)) Gy)) d H Q:=
 ⟨_,e,a,_,_,b,rfl,x,λu r=>r,k,q⟩
def QN{K:aG}(e:c[i]?=Y (Y (.ref a)))(x:RF H a C)(k:jO K (.ref C) (.type T)=Y b)(q:Q (.bl b) H):Wo (T_ K C) (u4 (fB i) (u4 (tC (.ty T)) Gy)) c H Q:=
 ⟨_,e,a,_,_,b,rfl,x,λu r=>r,k,q⟩
end
def GG(C:ax)(k:Int):Sp:=λc H Q d=>∃a,c=[.ref a,.int k]/\RF H a C/\∀b,bf H b->Q (.bl Z') b
structure Zf(K:aG)(mg:aE->Option aq)(C:ax)(b1 b2 b3 b4 b5:Bool):Prop where
 xi:Ze K C
 m1:∃c,mg "NoSign" = some (.ref c)/\jO K (.ref C) (.ref c)=some b1
 m2:∃c,mg "NoText" = some (.ref c)/\jO K (.ref C) (.ref c)=some b2
 m3:∃c,mg "NoPart" = some (.ref c)/\jO K (.ref C) (.ref c)=some b3
 m4:∃c,mg "Taken" = some (.ref c)/\jO K (.ref C) (.ref c)=some b4
 m5:∃c,mg "Late" = some (.ref c)/\jO K (.ref C) (.ref c)=some b5
 m6:∃c,mg "SiftError" = some (.ref c)/\jO K (.ref C) (.ref c)=some true
 m7:jO K (.ref C) (.type "ValueError")=some true
def YJ:DL:=lZ (Wy lm) [M,Y 1] (gN 0) f9 (e2 fh Fa db)
def Qs{P:aZ}{K:aG}{f:ax}(F:gH K "_law_only" "_law_only" yt f fd)(k:KS K N)(g:Zf K N C O L J G n)(z:∀a b c,YJ [a,Y (.int i0),b,c]=Y [.bl O,.bl L,.bl J,.bl G,.bl n]):
  bT P w K N y fX 2 f fd ["_law_error","_law_which"] (GG C i0):=by
 obtain⟨c1,m1,k1⟩:=g.m1
 obtain⟨c2,m2,k2⟩:=g.m2
 obtain⟨c3,m3,k3⟩:=g.m3
 obtain⟨c4,m4,k4⟩:=g.m4
 obtain⟨c5,m5,k5⟩:=g.m5
 obtain⟨c6,m6,k6⟩:=g.m6
 have Y8:100000<a_:=by rw[iG];decide
 refine F.ok yv (λvs H Q E h =>?_) (λRu A I s H vs Q E hr h =>?_)
 .obtain⟨a,rfl,_⟩:=h
  rfl
 .obtain⟨a,rfl,m,q⟩:=h
  refine⟨_,ir (jZ (i:=2) yv.nd rfl ź (CM (bS (ui (v :=.ref c1) g.xi rfl k.y (pv 0) (sv rfl m1 rfl)) (bS (ui (v :=.ref c2) g.xi rfl k.y (pv 0) (sv rfl m2 rfl)) (bS (ui (v :=.ref c3) g.xi rfl k.y (pv 0) (sv rfl m3 rfl)) dI)))))
   (ir (jZ (i:=2) yv.nd rfl ź (IG Nc (pv 2) (CM (bS (ui (v :=.ref c4) g.xi rfl k.y (pv 0) (sv rfl m4 rfl)) (bS (ui (v :=.ref c5) g.xi rfl k.y (pv 0) (sv rfl m5 rfl)) dI)))))
   (ir (FD (B:=⟨λV=>M,H,[(0,a)],λV V=>False⟩) (t:=[]) (Z:=[0]) (i:=3) (Ź:=[]) (N:=[("_law_k" : aE),("_law_which" : aE)]) (src:=[M,Y 1]) (gP (outer:=az yt) (oN:=O2) rfl ź rfl rfl) rfl yv.nd rfl rfl (Li rfl k.y (dq gf)) (dX 0) ſ (eU 0) (λC s H ex=>⟨cV (i:=0) (show ([("_law_k" : aE),("_law_which" : aE)]:List aE).Nodup by decide +kernel) rfl ź,fw,(OD (Sv hr) (dq (dv (pv 0))) (dq (dv (pv 1))) (wK _))⟩))
   (mE (nG (GS (OD (Z:=[0]) (Sv hr) (dq (dv (pv 2))) (dq (dv (pv 3))) (wK _)) (GS (ui (v :=.ty "ValueError") g.xi rfl k.y (pv 0) (II rfl k.y ų rfl)) (M4 (ui (v :=.ref c6) g.xi rfl k.y (pv 0) (sv rfl m6 rfl))))))))),?_⟩
  refine wU rfl m k1 (wU rfl m k2 (wU rfl m k3 ⟨by show 3<=a_;lia,λR T =>?_⟩))
  have D:bf H (dD H R (.lst [.bl O,.bl L,.bl J])) :=.alloc T
  refine⟨_,rfl,wU rfl (m.same D) k4 (wU rfl (m.same D) k5 ⟨Ÿ,λX p =>?_⟩)⟩
  have W:R≠X:=λz=>by simp_all [aW]
  have U:=D.trans (.alloc (o :=.lst [.bl G,.bl n]) p)
  refine⟨R,X,_,_,rfl,rfl,by rw[aP W];exact aW,aW,by show 5<=a_;lia,λt x =>?_⟩
  have s3:=U.trans (.alloc (o :=.lst [.bl O,.bl L,.bl J,.bl G,.bl n]) x)
  have h3:H t=none:=U.free x
  refine⟨dD (λV=>M) t (.lst [.bl O,.bl L,.bl J,.bl G,.bl n]),[M,Y (.int i0),Y (.lst [.bl O,.bl L,.bl J,.bl G,.bl n]),M],.nx [M,Y (.int i0),Y (.lst [.bl O,.bl L,.bl J,.bl G,.bl n]),Y (.lst [.bl O,.bl L,.bl J,.bl G,.bl n])],⟨λb o e =>?_,λb o e=>(nomatch e),s3,λb o e =>?_,λi d u e =>?_,⟨λV=>[],λi d u e =>?_,λi d u e =>?_,λi j d c u hj di dj =>?_⟩,rfl,λi b l =>?_,λj r q hj h1 e =>?_⟩,by show ((YJ _).map L2.D.lst).map _=_;rw[z];rfl,λσ' G' H' S =>?_⟩
  .grind [aW,aP]
  .grind [aP]
  .have r5:aY K (dD (λV=>M) t (.lst [.bl O,.bl L,.bl J,.bl G,.bl n])) [.bl O,.bl L,.bl J,.bl G,.bl n] [.bl O,.bl L,.bl J,.bl G,.bl n]:=
    .cons (cR.mpr rfl) (.cons (cR.mpr rfl) (.cons (cR.mpr rfl) (.cons (cR.mpr rfl) (.cons (cR.mpr rfl) .nil))))
   match i,e with
   |1,e=>cases e;exact⟨_,rfl,bK.mpr rfl⟩|2,e=>cases e;exact⟨_,rfl,bR.mpr ⟨t,_,rfl,aW,r5⟩⟩|0,e=>cases e|3,e=>cases e|i+4,e=>simp at e
  .simp_all
  .simp_all
  .simp_all
  .have l:(i,b)=(0,a):=by simpa using l
   cases l
   exact ź
  .simp_all
  .refine⟨G',_,.bl Z',S.gh,S.jh,by cases O<;>cases L<;>cases J<;>cases G<;>cases n<;>rfl,λv G2 H2 E2 r2 =>?_⟩
   have:=cR.mp r2;subst this
   have B:bf H H2:=S.h0.trans E2.hh
   obtain⟨_,e0⟩:=S.pin 0 a Ž
   refine⟨Z',rfl,?_⟩
   rw[if_pos rfl]
   refine QN e0 (m.same B) g.m7 ⟨Z',rfl,?_⟩
   rw[if_pos rfl]
   exact wU e0 (m.same B) k6 (q _ B)
def SR.slots{K:aG}{f:bY}(S:SR K B [] G H k l)(m:B.3=[])(n:b.length=f.length)(q:∀(i:Nat) (d:D),f[i]?=Y (Y d)->∃v,b[i]?=Y (Y v)/\cS K G d v):SR K B [] G H b f:=
 ⟨S.gh,S.g0,S.h0,S.fr,λi d s e=>q i d e,⟨λs=>[],λi d g=>(by cases g),λi d g=>(by cases g),λi j d c g=>by cases g⟩,n,λi a h=>ż,λj r p o=>by cases o⟩
noncomputable def OP(n:Int)(a:bY):bY:=((a.set 2 M).set 3 (Y (.int n))).set 4 M
def MF:DG:=λa=>(t7 "Lean" "take" sO Fa am a).bind λr=>match r with
 |.er c n=>if c = "NoSign" /\a.length=5 then dy pc (OP n a) else M
 |.ok _=>M
def sC:=aX (cN 2 (eK .dW)) (aX (cN 3 (eK .dW)) MF)
def pP:=jY 2 5 sC
abbrev uc:=lN 39
def lG:bu ["_law_lean","_law_sign","_law_kept","_law_place","e"] ["_law_lean","_law_sign"] (az uc):=Ų
abbrev Ts(K:aG):TS:=Gx (Mp (fB 4) (om 2)) (Mp (R0 K (fB 4) "at") (om 3))
abbrev R3(C:ax):TT:=Xe (tB (Ii (GG C 0) [] E0 (u4 (fB 2) (u4 (tC (.int 0)) Gy))))
abbrev Mm(K:aG)(B:Bs)(C a:ax):TS:=Gx (Xu C 4 (tXM a "take" (Cw K sO) (tP K [] Fa) (AR K [] am)) (Ts K)) (Gx (Tx (R3 C) (gD K B [] [] [] (dy (eK .dW))) Mn) (gD K B [] [] [] (dy pc)))
def Ml{K:aG}{W:List D}(hp:B.3=[])(n2:js K aT "Lean" = Y (Y (.ref C2)))(nC:js K aT "NoSign" = Y (Y (.ref C)))(xg:OX K C "at")(S:SR K B [] G H h c)(k:Zs K B [] [] D' o)(e0:eV 0 c=Y (.ins "Lean" Q ds))(hm:("take" : aE)∉Q)(eg:aC db aN c=Y W)(eF:sO (.ins "Lean" Q ds::W)=Y (.er "NoSign" n))(a:c.length=5)(eq:dy pc (OP n c)=Y o):Mm K B C C2 D' h H:=by
 refine⟨G,c,_,S.gh,S.jh,e0,λv G1 H1 F r1 =>?_⟩;obtain⟨a0,C',I,vs,rfl,n',ha,l,rs⟩:=oi.mp r1;rw[n2]at n';cases n';refine⟨a0,I,_,rfl,F.gh _ _ ha,jK (K:=K) (G:=G1) hm,G1,c,W,F.gh,S.jh.ext F,eg,λus u H2 E r2 =>?_⟩;refine⟨u,_,.er "NoSign" n,E.gh,.cons (cS.mono E.gg _ r1) r2,eF,λx s H3 p =>?_⟩;rcases s with _|s
 .exact absurd rfl (p.has rfl)
 obtain⟨P,dz⟩:=p.dx;obtain⟨C',O,r,U,J⟩:=p.cl;rw[nC]at r;cases r;refine⟨x,Y s,rfl,rfl,⟨O,U,J⟩,λoe0 oe t X j ea y =>?_⟩;have m:=j s _ P dz;have q:bf H2 t:=λb o e=>j b o (λz=>by rw[z,p.fr]at e;cases e) (p.same b o e)
 have S4:SR K B [] u t h c:=((S.ext F).ext E).ext ⟨q,bf.refl _,E.gh.trans q,λb o e =>.inl e⟩;have L:RF t x C:=⟨Y s,oe,ea,y,λ_ z=>by cases z;exact⟨_,m⟩⟩;have w:h.length=5:=by rw[S.len];exact a
 have q6:(List.set h 4 (Y (V.ref x)))[4]?=Y (Y (.ref x)):=bj (by rw[w];simp);refine⟨_,q6,?_⟩;have N:((List.set h 4 (Y (V.ref x))).set 2 (Y (V.ref x)))[4]?=Y (Y (.ref x)):=by rw[av (by simp)];exact q6
 refine⟨_,N,x,C,s,oe,_,_,rfl,ea,y,m,xg,rfl,?_⟩;show Gx (Tx (R3 C) (gD K B [] [] [] (dy (eK .dW))) Mn) (gD K B [] [] [] (dy pc)) D' _ t;generalize g:(((List.set h 4 (Y (V.ref x))).set 2 (Y (V.ref x))).set 3 (Y (V.int n))).set 4 M=f;have l4:f.length=5:=by rw[<- g];simp[w]
 have s3:f[2]?=Y (Y (.ref x)):=by rw[<- g,av (by simp),av (by decide),bj (by simp[w])]
 have s4:f[3]?=Y (Y (.int n)):=by rw[<- g,av (by decide),bj (by simp[w])]
 have T4:SR K B [] u t f (OP n c):=SR.slots S4 hp (by rw[l4];simp[OP,a]) λi d e=>by
  unfold OP at e;by_cases A:i=4
  .subst A;rw[bj (by simp[a])]at e;cases e
  rw[av (bE A)]at e;by_cases R:i=3
  .subst R;rw[bj (by simp[a])]at e;cases e;exact⟨_,s4,bK.mpr rfl⟩
  rw[av (bE R)]at e;by_cases T:i=2
  .subst T;rw[bj (by simp[a])]at e;cases e
  rw[av (bE T)]at e;obtain⟨v,ev,rv⟩:=S4.env i d Ž e;exact⟨v,by rw[<- g,av (bE A),av (bE R),av (bE T),av (bE A)];exact ev,rv⟩
 refine⟨_,s3,x,rfl,L,λH5 s5=>⟨Z',rfl,?_⟩⟩;have T5:=T4.ext (G':=u) ⟨s5,bf.refl _,T4.gh.trans s5,λb o e =>.inl e⟩;exact Ba ⟨u,_,o,T5,eq,k⟩
set_option tactic.hygienic true in
def PD{K:aG}{i:Ends}(t:B.3=[])(q:js K aT "Lean" = Y (Y (.ref j)))(p:js K aT "NoSign" = Y (Y (.ref C)))(l:OX K C "at")(h:gD K B [] [] [] MF i g H):Mm K B C j i g H:=by
 obtain⟨G,A,o,S,b,k⟩:=h;obtain⟨r,a,b⟩:=aa.1 b;obtain⟨E,z,a⟩:=aa.1 a;split at a
 .split at a
  .rename_i v;obtain⟨rfl,u⟩:=v;obtain⟨D,w,x⟩:=aa.1 a;cases r with
   |ok d=>cases b|er c n=>
    simp only at b;split at b
    .rename_i s;obtain⟨rfl,e⟩:=s;exact Ml t q p l S k z u w x e b
    .cases b
  .cases a
 .cases a
section
variable {P:aZ}{w:cC}{K:aG}{y:aE->Option aq}{I:cy}{f:ax}{J:cX}
def GX(F:gH K "_law_refused" "_law_refused" uc f J)(i:HP P w K y I "Lean" "take" 95 (Cw K sO))(b:PySem.W.exmOne K (.ref C) (.ref C)=Y Z')(z:y "NoSign" = Y (.ref C))(r:js K aT "NoSign" = Y (Y (.ref C)))(p:OX K C "at")(O:bT P w K y I fX 2 o j ["_law_error","_law_which"] (GG C 0))(l:y "_law_only" = Y (.ref o))(m:pR K (.ref o)=Z')(n:Binds K j ["_law_error","_law_which"] []):bT P w K y I fX 96 f J ["_law_lean","_law_sign"] (iD K pP):=by
 obtain⟨Q,T,x,q,t,G,u,N,L⟩:=i.ex
 exact F.xJ (Z:=[]) (Ź:=[]) (g:=sC) lG ſ λD A k s H E e B v=>
  (ay (ml (i:=2) lG.nd rfl (.inl rfl) HC)
  (ay (ml (i:=3) lG.nd rfl (.inl rfl) HC)
  (by
   refine lX.imp (t:=Mm K B C Q) ?_ λX S U h=>PD v t r p h
   exact(ir (Ug (L:=s.heap.objs.size) (P8 G u N e L (vP 0) (cf (vP 1) hU)) lG.nd rfl rfl b rfl z rfl rfl (λa=>ir (jZ (i:=2) lG.nd rfl (.inl rfl) (pv 4)) (mE (jZ (i:=3) lG.nd rfl (.inl rfl) (Qi (pv 4) rfl)))))
   (ir (Ex (MV (Uc (mG (O.mono Ž) e rfl l m n .nil j6 (bS (pv 2) (bS wD dI)))))
   (bZ (lI HC))
   yx)
   (mE (lI (vP 3))))))))
end
def tI(a:List Int):D :=.tup (a.map .int)
def WD(i j:Int)(R S:List (List Int)):D :=.tup [.int i,.int j,.lst (R.map tI),.lst (S.map tI)]
def Ep:DL:=lZ (iL kt) [M] (gN 0) f9 Tl
structure Asl(d c:D)(i j:Int)(R S:List (List Int)):Prop where
 k:bq "Lean" "coming" Fa [some d,none,none]=some c
 r:Ep [some d,some c,none]=some (R.map tI)
 t:bq "Coming" "taken" db [some d,some c,some (.lst (R.map tI))]=some (.int i)
 o:bq "Coming" "opened" db [some d,some c,some (.lst (R.map tI))]=some (.int j)
 s:xP (bq "Coming" "rests" db) [some d,some c,some (.lst (R.map tI))]=some (S.map tI)
structure acj(K:aG)(G H G' H':Hp)(t a b:ax)(i j:Int)(R S:List (List Int)):Prop where
 e:eJ G H G' H'
 t0:H t=none
 a0:H a=none
 b0:H b=none
 ne:a≠b
 ga:G' a=none
 gb:G' b=none
 gt:G' t=none
 ht:H' t=some (.tup [.int i,.int j,.ref a,.ref b])
 ha:∃us,H' a=some (.lst us)/\aY K G' (R.map tI) us
 hb:∃us,H' b=some (.lst us)/\aY K G' (S.map tI) us
def TK(K:aG):Sp:=λf H Q h=>∃G d c i j R S,bf G H/\aY K G [d] f/\Asl d c i j R S/\∀t a b g e,acj K G H g e t a b i j R S->Q (.ref t) e
section
variable {P:aZ}{w:cC}{K:aG}{I:aE->Option aq}{O:cy}{f:ax}{v:cX}
def G7(F:gH K "asleep" "Lean.asleep" ip f v)(k:KS K I):bT P w K I O fX 1 f v ["self"] (TK K):=by
 refine F.ok iq (λvs H Q E h =>?_) (λRu A B s H vs Q E hr h =>?_)
 .obtain⟨G,d,c,i,j,R,S,N,r,_⟩:=h
  exact r.length.symm
 .obtain⟨G,d,c,i,j,R,S,N,r,n,q⟩:=h
  have Y8:100000<a_:=by rw[iG];decide
  refine⟨Gx (gD K ⟨G,H,[],λC C=>False⟩ [] [2] [2] (cN 1 (bq "Lean" "coming" Fa))) (Gx (gD K ⟨G,H,[],λC C=>False⟩ [] [2] [2] (j5 2 Ep)) _),ir (ml (i:=1) iq.nd rfl (.inl rfl) (oq (c:= "Lean") (vQ 0) k.q))
   (ir (xa (i:=2) (Ź:=[]) (src:=[M]) (gP (outer:=az ip) (oN:=oU) rfl ź rfl rfl) rfl iq.nd rfl rfl (iU (df (Du (dq (oq (c:= "Coming") (vQ 1) k.q)) (vE (dq gf)) vF))) (dX 0) ſ (eU 0) (λC s H ex=>⟨cV (i:=0) (show ([("row" : aE)]:List aE).Nodup by decide +kernel) rfl (.inl rfl),fw,(Ai (cf (oq (c:= "Row") (vQ 0) k.q) (cf (oq (c:= "Row") (vQ 0) k.q) (cf (oq (c:= "Row") (vQ 0) k.q) hU))))⟩))
   (mE (nG (wC (bS (oq (Z:=[2]) (c:= "Coming") (vQ 1) k.q) (bS (oq (Z:=[2]) (c:= "Coming") (vQ 1) k.q) (bS (pv 2) (bS (Jy (Z:=[2]) rfl k.y (dq (oq (c:= "Coming") (vQ 1) k.q))) dI)))))))),?_⟩
  refine⟨G,_,.nx [Y d,Y c,M],qX N r (λi h=>ż),?_,λσ1 G1 H1 S1=>⟨G1,_,.nx [Y d,Y c,Y (.lst (R.map tI))],S1,?_,λσ2 G2 H2 p =>?_⟩⟩
  .show (bq "Lean" "coming" Fa [Y d,M,M]).map _=_
   rw[n.k];rfl
  .show (Ep [Y d,Y c,M]).map _=_
   rw[n.r];rfl
  .have J:=p.jh
   obtain⟨a,o,ea,ho,⟨y,rfl,ru⟩,ga,ba⟩:=p.GU (i:=2) (d :=.lst (R.map tI)) ſ rfl rfl
   refine⟨G2,_,.int i,p.gh,J,n.t,λv3 G3 H3 g r3=>⟨G3,_,.int j,g.gh,J.ext g,n.o,λv4 G4 U m r4=>⟨.ref a,ea,G4,_,S.map tI,m.gh,J.ext (g.trans m),n.s,λb ws L T W n1 n2 h5 r5=>⟨by show 4<=a_;lia,λt l =>?_⟩⟩⟩⟩
   cases bK.mp r3
   cases bK.mp r4
   have X:=((p.jP.trans g).trans m).trans W
   have u:=(g.trans m).trans W
   have D:U a=Y (.lst y):=m.hh _ _ (g.hh _ _ ho)
   have ha5:T a=Y (.lst y):=W.hh _ _ D
   have nb:a≠b:=λz=>by simp_all
   have nt:∀c o,T c=Y o->c≠t:=λc o e z=>by simp_all
   have h0:∀c,U c=M->H c=none:=λc e=>by
    rcases x:H c with _|o
    .rfl
    .rw[((p.jP.trans g).trans m).hh _ _ x]at e;cases e
   refine q t a b L _ ⟨(⟨X.hh.trans (.alloc l),X.gg,X.gh.trans (.alloc l),X.fr⟩),?_,ba,h0 b n1,nb,?_,n2,?_,aW,⟨y,by simp_all [aP],aY.mono u.gg _ ru⟩,⟨ws,by simp_all [aP],r5⟩⟩
   .rcases x:H t with _|o
    .rfl
    .rw[X.hh _ _ x]at l;cases l
   .rcases x:L a with _|o
    .rfl
    .rcases u.fr _ _ x with e|e<;>grind
   .rcases x:L t with _|o
    .rfl
    .rw[X.gh _ _ x]at l;cases l
end
theorem rn:∀R:List (List Int),kP (R.map tI)=Z'
 |[]=>rfl| a::R=>by
  have:∀a:List Int,kP (a.map D.int)=true:=λa=>by
   induction a with|nil=>rfl|cons n a ih=>exact ih
  show (kP _&&kP _)=Z';rw[this,rn R];rfl
structure acr(t d:D):Prop where
 n:∃ks ds,t=.ins "Lean" ks ds/\("asleep" : aE)∉ks
 a:∃c i j R S,Asl t c i j R S/\d=WD i j R S
def Q5(j:Nat):DF:=λa=>(ib cK j a).bind λt=>(hV [t]).bind λd=>open Classical in if acr t d then Y d else M
structure AgD(d:D):Prop where
 e:∃m n R S,d=.tup [.int m,.int n,.lst R,.lst S]/\LD R/\LD S
def YR(g:DF):DF:=λa=>(g a).bind λd=>open Classical in if AgD d then Y d else M
section
set_option tactic.hygienic true
variable {X:Cx}
def VS(h:dU X.prog X.w X.K X.mg X.base "Lean" "asleep" k (TK X.K))(hr:dB k X.A)(w:PE X (.Name y p) (fB j))(hj:autoParam (j∈o) ū) (s:autoParam (eval (.Call (.Attribute (.Name y p) "asleep" L) [] [] J) X.env=(do
   let a <- eval (.Name y p) X.env
   jQ L.atName
   let (f,first) <- iC [a] (hG a "asleep" pl)
   j3 J f first (bX J (ao [] X.env)) (eM J (cq [] X.env)))) ŭ):PE X (.Call (.Attribute (.Name y p) "asleep" L) [] [] J) (R1 X.K B o .vl (Q5 j)):=by
 obtain⟨C,f,v,ps,n,E,x,I,G⟩:=h.ex;refine(rA (pl:=pl) w E x I hr G .nil j6 s).imp ?_;rintro σ H Q ⟨G,ρ,d,S,i,q⟩;obtain⟨t,e1,i⟩:=aa.1 i;obtain⟨d',e2,i⟩:=aa.1 i;split at i
 .rename_i hp;cases i;obtain⟨ks,ds,rfl,hm⟩:=hp.n;obtain⟨c,ii,jj,R,S',as,rfl⟩:=hp.a;obtain⟨a,T,z,r,nd,P,_⟩:=S.tree hj (gx e1);have rp:=r.frozen (T:=T) (λb g=>(P b g).1) λb g=>g
  have oh:∀b∈T,AZ H b:=r.here;cases r with
  |@ins _ _ _ _ _ C' dx vs F U ex l tt=>
   rw[n]at U;cases U;refine⟨_,z,a,dx,_,rfl,ex,jK (K:=X.K) (G:=G) hm,?_⟩;refine⟨i4 G H (a::F),_,c,ii,jj,R,S',i' S.gh,.cons rp .nil,as,λm a' b' G' H' N =>?_⟩;obtain⟨E,K⟩:=nN S.gh (λb g=>(P b g).1) oh N.e;obtain⟨us,A,ra⟩:=N.ha;obtain⟨ws,g,rb⟩:=N.hb;have u:∀ {x:ax},G' x=M->fG G' (a::F) x=none:=fun {x} e=>by
    by_cases z:x∈a::F
    .exact f' z
    .rw[bV z];exact e
   have D:=u N.gt;have na:a'≠m:=λz=>by rw[z,N.ht]at A;cases A
   have nb:b'≠m:=λz=>by rw[z,N.ht]at g;cases g
   refine q (.ref m) [a',b'] _ H' (E.freeze N.t0 D N.ht) (.vl aW A g (aY.mono (.alloc D) _ (L2.mV K (rn R) ra)) (aY.mono (.alloc D) _ (L2.mV K (rn S') rb))) (by simp[N.ne]) λx hx =>?_
   simp only[br,fZ,or_false]at hx;rcases hx with rfl|rfl
   .exact⟨by rw[aP na];exact u N.ga,N.a0⟩
   .exact⟨by rw[aP nb];exact u N.gb,N.b0⟩
 .cases i
def SV(h:ju X.prog X.w X.K X.mg X.base x k (spV X.K))(D:dB k X.A)(F:Gl X x)(f:PE X e (W_ X.K B c g))(J:autoParam ((x==("__debug__" : aE))=false) ū)(j:autoParam (ao (e::[]) X.env=(Z_,eval e X.env)::ao [] X.env) ŭ)(A:autoParam ((bX u (ao [] X.env)).any (·.1)=false) ŭ):PE X (.Call (.Name x p) [e] [] u) (R1 X.K B c .vl (YR g)):=by
 refine(EB h D F (bS f dI j) J j A).imp ?_;rintro N H Q ⟨G,o,d,S,i,q⟩;obtain⟨P,v,i⟩:=aa.1 i;split at i
 .rename_i E;cases i;obtain⟨m,n,R,l,rfl,C,z⟩:=E.e;exact⟨G,o,m,n,R,l,S,v,λt a b s r L f K y w=>⟨G,t,m,n,a,b,s,r,R,l,S.gh,rfl,S.gh _ _ L,f,K,y,w,C,z,q⟩⟩
 .cases i
end
def Ft(c:List D->Option (D×List D))(a:List D->Option (D×List D)):DG:=(aX (j5 3 TW) (aX (tH AT (gN 4) (sL c a)) (BD 3)))
def se:=BE 3 7 (Ft (gi 11) (fW 11))
section
variable {P:aZ}{w:cC}{K:aG}{b:aE->Option aq}{h:cy}{f:ax}{j:cX}
def Kz(F:gH K "_law_steps" "_law_steps" u7 f j)(i:KS K b)(e:ju P w K b h "_law_pop" (n+1) (AV K 0 vU))(c:ju P w K b h "_law_wish" (n+1) (AV K 0 (gi n))):bT P w K b h fX (n+1+1) f j ["_law_draws","_law_deep","_law_some"] (GI K (BE 3 7 (Ft (gi n) (fW n)))):=
 F.aaW (Z:=[0,3]) (Ź:=[0,3]) ve ſ ſ λk A d s H E m B a g=>
  have l:=ve.nd
  (ay ŷ (ay (Jw dS rfl (Ag rfl i.y ŷ) (λB g=>ŷ) λB g=>(ay ŷ (ay ŷ (bZ (Jx (pv 3) ŷ))))) (bZ (Ju (pv 3)))))
end
set_option tactic.hygienic true in
def Ke{b:List D}(h:sP c=Y (.lst l,b)):se c=Y (l,b):=by
 unfold sP fW AX at h;unfold se BE;split at h
 .rename_i z;rw[if_pos z];refine P0 (λa o e =>?_) (Nx.forM ?_) ſ h
  .obtain⟨d,_,e⟩:=aj.1 e;exact⟨_,e.symm⟩
  .refine .seq (λa o e =>?_) (.seq (λa o e =>?_) λa o e =>?_)
   .grind [my,aj]
   .grind [cN,aj]
   .obtain⟨d,_,e⟩:=aa.1 e;obtain⟨d,_,e⟩:=aa.1 e;obtain⟨d,_,e⟩:=aa.1 e
    grind
 .cases h
abbrev Wp(i:Nat):DT:=nc (fD (bc qr (aC (eV 5) (aC (eV i) aN))))
abbrev He(i:Nat):DM:=bW "Lean" "take" cK oE i (jJ (mP (eV 6)) kR)
abbrev Ir:DG:=dy (eK (.bl Z_))
abbrev aao:DT:=lx (c_ (e2 ur (eV 8) (eV 11))) (lx (c_ (e2 ur (eV 9) lc)) (Wp 10))
abbrev DD:DG:=aX (my 13 (He 5)) (PY ur (mP (eV 13)) (He 10) ur (mP (eV 13)) (He 12) (yX [5,10] [] (Wp 10)) Ir cO)
abbrev DC:DG:=aX (cN 15 (lj [5] [] (bc pP (aC (eV 5) (aC (eV 14) aN)))))
  (d_ (yX [10] [] (lx (c_ (e2 ur (eV 15) (bc ic Go))) (c_ (e2 ur (bc pP (aC (eV 10) (aC (eV 14) aN))) (eV 15))))) Ir cO)
abbrev Do:=aC Fa (aC (eK (.int 100)) (aC (eK (.int 12)) aN))
abbrev sK:=aC Fa (aC (eK (.int 36)) aN)
abbrev wS:=aC Fa (aC (eK (.int 500)) (aC (eK (.int 28)) aN))
abbrev wT:=aC (bc m8 sK) (aC (eK (.int 9)) aN)
def Jf:DG:=(aX (cN 1 (bc vV im)) (aX (cN 2 (yK sP (rQ jn Do) (aC bd am))) (aX (cN 3 (eF (rQ sQ (aC (eF (rQ jn wS)) am)))) (aX (cN 4 (e2 hW (bc tZ wT) (e2 iH (bc ic Go) u8))) (aX (rh 5 cK (nP "Lean" cp (gk 2))) (aX (je (iL (eF (Fv pc pN (pS Sc)))) (gN 6) (da (He 5))) (aX (cN 7 (Q5 5)) (aX (rh 8 .vl (YR Ð)) (aX (j5 9 (yI se (rQ jn Do) (aC bd am))) (aX (rh 10 cK (La oB (gk 9) (ib .vl 8))) (aX (cN 11 (YR (ib .vl 8))) (aX (rh 12 cK (La oB (gk 2) (ib .vl 8))) (aX (d_ (yX [5,8,10] [] aao) Ir cO) (aX (Iu 8) (aX (Iv 8 0) (aX (Xx 9) (aX (je (iL (eF (Fv pc (pS Sc) pN))) (gN 6) DD) (aX (cN 14 (fN (aC Rs (aC (eK (.str (af "x"))) aN)))) (aX (d_ (lx (c_ (e2 fh pc wf)) (c_ (e2 fh (bc qp Go) v0))) DC cO) (aX (d_ (yX [5,10,12] [] (lx (c_ (e2 ur Ð (eV 11))) (lx (Wp 12) (Wp 10)))) Ir cO) (aX (rh 16 cK (La oB (gk 2) Ð)) (aX (je (iL (eF (Fv pc (pS Sc) pN))) (gN 6) (da (He 16))) (dy (lj [5,16] [] (Lc (e2 fh Ð (eV 11)) (bc qr (aC (eV 5) (aC (eV 16) aN))))))))))))))))))))))))))))
def FY:List D->Option D:=jY 1 17 Jf
abbrev wo:nW:=lN 41
def iP:bu ["_law_script","_law_some","_law_question","_law_signs_here","_law_at","_law_lean","_law_sign","_law_held","_law_value","_law_again_here","_law_other","_law_kept","_law_third","_law_found","_law_more","_law_place","_law_fourth"] ["_law_script"] (az wo):=Ų
def Js{X:Cx}{i:Nat}{f:DF}(n:X.N.Nodup)(j:X.N[i]?=Y x)(c:Loc X.env.scope x)(m:PE X e (tS X.K B p f))(h:autoParam (i∉p) ū)(g:autoParam (bU e (Y (.Name x a)) J.line X.env=dn false) ŭ)(l:autoParam (X.fn x=Z'\/X.env.scope.names.lookup x=Y .local) Ũ):
  PS X (.Assign [.Name x a] e J) (gD X.K B I p p (cN i f)):=(jZ n j c m g l).imp <|by
 rintro D C H ⟨G,A,o,S,b,k⟩;obtain⟨d,e,b⟩:=aj.1 b;cases b;exact⟨G,A,d,S,e,λv s q E r=>k _ s q ((S.ext E).wu h r)⟩
section
variable {P:aZ}{w:cC}{K:aG}{u:aE->Option aq}{y:cy}{f:ax}{z:cX}
def UG(F:gH K "law" "law" wo f z)(k:KS K u)(r:ju P w K u y "_law_names" 99 (iD K vV))(q:ju P w K u y "_law_steps" 99 (AV K 0 sP))(g:ju P w K u y "_law_cells" 99 (GH K jn))(p:ju P w K u y "_law_signs" 99 (GH K sQ))(o:ju P w K u y "_law_mix" 99 (iD K tZ))(n:ju P w K u y "_law_cell_at" 99 (iD K m8))(m:uN P w K u y "Lean" 98 (AU K cK cp))(c:dU P w K u y "Lean" "take" 99 (spT K cK oE))(j:dU P w K u y "Lean" "asleep" 99 (TK K))(h:ju P w K u y "_law_again" 99 (spV K))(i:ju P w K u y "_law_steps" 99 (GI K se))(e:ju P w K u y "woken" 99 (Mt K cK oB))(C:ju P w K u y "_law_alike" 99 (iD K qr))(x:ju P w K u y "_law_depth" 99 (iD K qp))(v:ju P w K u y "_law_refused" 99 (iD K pP)):bT P w K u y fX 100 f z ["_law_script"] (iD K FY):=
 F.xJ (Z:=[5,8,9,10,12,16]) (Ź:=[5,8,9,10,12,16]) (g:=Jf) iP ſ λt A d s H E a B b=>
  have l:=iP.nd
  (ay (ml (i:=1) iP.nd rfl (.inl rfl) (sI r a rfl (cf (vP 0) hU)))
  (ay (ml (i:=2) iP.nd rfl (.inl rfl) (Lk q a rfl (vI g a rfl (cf (vP 0) (cf gf (cf gf hU)))) (cf gf (cf (vP 1) hU))))
  (ay (ml (i:=3) iP.nd rfl (.inl rfl) (df (vI p a rfl (cf (df (vI g a rfl (cf (vP 0) (cf gf (cf gf hU))))) (cf (vP 1) hU)))))
  (ay (ml (i:=4) iP.nd rfl (.inl rfl) (B3 UJ (dq (sI o a rfl (cf (sI n a rfl (cf (vP 0) (cf gf hU))) (cf gf hU)))) (dq (B3 UK (dq (Aj rfl k.y (vQ 3))) (dq gf)))))
  (ay (sF (i:=5) iP.nd rfl (.inl rfl) (vJ m a rfl (Gk (pv 2))))
  (ay (uH dS rfl (iU (df (Du (vQ 3) vF (vE (vQ 4))))) (λB b=>vG (cV (i:=6) iP.nd rfl (.inl rfl))) (λB b=>bZ (rT (pD c a (pv 5) (lV (mK (vP 6)) sG)))))
  (ay (Js (i:=7) iP.nd rfl (.inl rfl) (HD (VS j a (pv 5))))
  (ay (sF (i:=8) iP.nd rfl (.inl rfl) (SV h a rfl (Mb (pv 7))))
  (ay (Q6 (i:=9) iP.nd rfl (.inl rfl) (Lj i a rfl (vI g a rfl (cf (vP 0) (cf gf (cf gf hU)))) (cf gf (cf (vP 1) hU))))
  (ay (sF (i:=10) iP.nd rfl (.inl rfl) (Dw e a rfl (Tb (pv 9)) (Gm (pv 8))))
  (ay (Js (i:=11) iP.nd rfl (.inl rfl) (HD (SV h a rfl (Gm (pv 8)))))
  (ay (sF (i:=12) iP.nd rfl (.inl rfl) (Dw e a rfl (Gk (pv 2)) (Gm (pv 8))))
  (ay ŷ
  (ay (Ra (pv 8) wD)
  (ay (Rb (pv 8) wD wD)
  (ay (VI (pv 9))
  (ay (uH dS rfl (iU (df (Du (vQ 3) (vE (vQ 4)) vF))) (λB b=>vG (cV (i:=6) iP.nd rfl (.inl rfl))) (λB b=>ay (Q7 (i:=13) iP.nd rfl (.inl rfl) (pD c a (pv 5) (lV (mK (vP 6)) sG))) (bZ (VG (Ss a) (mK (vP 13)) (pD c a (pv 10) (lV (mK (vP 6)) sG)) (wK _) (Ss a) (mK (vP 13)) (pD c a (pv 12) (lV (mK (vP 6)) sG)) (wK _) ŷ (bZ (lI Y4)) kY))))
  (ay (ml (i:=14) iP.nd rfl (.inl rfl) (Ai (cf HB (cf HB hU))))
  (ay ŷ
  (ay ŷ
  (ay (sF (i:=16) iP.nd rfl (.inl rfl) (Dw e a rfl (Gk (pv 2)) (Mb (pv 7))))
  (ay (uH dS rfl (iU (df (Du (vQ 3) (vE (vQ 4)) vF))) (λB b=>vG (cV (i:=6) iP.nd rfl (.inl rfl))) (λB b=>bZ (rT (pD c a (pv 16) (lV (mK (vP 6)) sG)))))
  ŷ))))))))))))))))))))))
end
end K21
namespace K21
open PySem L2
structure xy where
 q:List D
 bits:Int
 nk:List lO
 nv:List D
 tk:List lO
 tv:List D
 jH:Int
 u6:Int
 inner:Int
 cQ:List D
 asks:List D
noncomputable def i6(f:xy):D :=.ins "Facts" ["question","bits","by_name","by_text","starred","stars","inner","leads","asks"] [.lst f.q,.int f.bits,.ji f.nk f.nv,.ji f.tk f.tv,.int f.jH,.int f.u6,.int f.inner,.lst f.cQ,.lst f.asks]
structure dM where
 number:Int
 named:Int
 atoms:Int
 fits:Int
 bh:Int
 ra:Int
 fT:Int
 ha:Int
noncomputable abbrev rk:List aE:=["number","named","atoms","fits","reached","reached_around","hoped","hoped_around"]
noncomputable abbrev rl(r:dM):List D:=[.int r.number,.int r.named,.int r.atoms,.int r.fits,.int r.bh,.int r.ra,.int r.fT,.int r.ha]
def cx(r:dM):D :=.ins "Row" rk (rl r)
structure r8 where
 num:Int
 place:Int
 Z:Int
 around:Int
noncomputable def dA(r:r8):D :=.tup [.int r.num,.int r.place,.int r.Z,.int r.around]
structure gu where
 f:xy
 full:Int
 mm:Int
 taken:Int
 opened:Int
 rows:List dM
 rests:List r8
def bP(c:gu):D :=.ins "Coming" ["facts","full","able","taken","opened","rows","rests"] [i6 c.f,.int c.full,.int c.mm,.int c.taken,.int c.opened,.lst (c.rows.map cx),.lst (c.rests.map dA)]
noncomputable abbrev bA:=uX
noncomputable abbrev bO:=eP
noncomputable abbrev bN:=uW
def zV(c:gu)(p a f:Int)(h:(bA (bO p (bA a c.f.inner)) f).natAbs<2 ^ 64):fg [bP c,.int p,.int a,.int f]=Y (.int (bA (bO p (bA a c.f.inner)) f*2)):=by
 have e:fg [bP c,.int p,.int a,.int f]=((tm (.int (bA (bO p (bA a c.f.inner)) f)) (.int 1)).map DO.rt).bind vW:=Ż
 rw[e];simp only[tm];rw[if_pos ⟨by solve_by_elim,by solve_by_elim,h⟩]
 exact ź
def zN(h:0<n):DW n (-1)=Y (n-1):=by
 unfold DW
 grind
def qa{n k:Nat}(h:k<n):DW n (k:Int)=Y k:=by
 simp_all [DW,if_pos]
def OR(b:List a)(x:a):oY (b++[x]) (-1)=Y x:=by
 simp_all [oY,zN]
def aK{ρ':bY}(e:g a=Y (.nx ρ')):aX g h a=h ρ':=by unfold aX;rw[e];rfl
def gE{f:DF}{a:bY}{d:D}(e:f a=Y d):cN i f a=Y (.nx (a.set i (Y d))):=by simp_all [cN]
def lp{f:DF}{ρ':bY}{d:D}(r:DZ b c a=ρ')(e:f ρ'=Y d)(p:pX d=Z'):lj b c f a=Y d:=by simp_all [lj]
def pW{f:DT}{ρ':bY}(r:DZ c d a=ρ')(e:f ρ'=Y b):yX c d f a=Y b:=by simp_all [yX]
abbrev oC(c:gu):Option D:=Y (.obj aB (bP c))
noncomputable abbrev eQ(k:Nat):Option D:=Y (.eQ 0 [.fld "rows",.ix k])
def UQ(c:gu)(b:r8)(r d:dM):r8:=
 let a:=bA (bO b.Z b.around/2) r.fits
 ⟨b.num,b.place-1,bA (bA a (bN c.f.inner)) d.fT,bA (bO (bA a c.f.inner) b.around) d.ha⟩
def Kl{c:gu}(h:c.rows.getLast? = Y a):oY (c.rows.map cx) (-1)=Y (cx a):=by
 obtain⟨b,e⟩:=L0.mp h
 simp_all [cm,OR]
def CU(c:gu)(b:r8)(r a:dM)(h:c.rows.getLast? = Y a):gI [bP c,dA b,cx r]=Y (dA (UQ c b r a)):=by
 show (kl _).bind _=_;unfold kl;rw[aK (gE (Kl h))];exact Ż
abbrev XV:=jg []
def CG{c:gu}{k:Nat}{r:dM}{f:aE}{d:D}(h:c.rows[k]?=Y r)(m:eV 0 a=oC c)(i:eV j a=eQ k)(l:e a=Y d)(g:D.ins "Row" (jF f d rk (rl r)).1 (jF f d rk (rl r)).2=cx q):
  eR Z' j "Row" f e a=Y (.nx (a.set 0 (oC { c with rows:=c.rows.set k q }))):=by
 have b:(c.rows.map cx)[k]?=Y (cx r):=ż
 unfold eR F8 t_;rw[l,i];simp;rw[m];simp;have p:wW "Row" aB (bP c) [.fld "rows",.ix k]=Y ([],rk,rl r):=by
  have o:jg [.fld "rows",.ix k] (bP c)=Y (cx r):=by
   have:jg [.fld "rows",.ix k] (bP c)=((c.rows.map cx)[k]?).bind XV:=by kernel_rfl
   rw[this,b];exact ź
  unfold wW;rw[o];exact Ż
 rw[p];simp only[ai];rw[if_pos ⟨rfl,by decide⟩,g];have n:lS (cx q) [.fld "rows",.ix k] (bP c)=bP { c with rows:=c.rows.set k q }:=by
  have:lS (cx q) [.fld "rows",.ix k] (bP c)=D.ins "Coming" ["facts","full","able","taken","opened","rows","rests"] [i6 c.f,D.int c.full,D.int c.mm,D.int c.taken,D.int c.opened,(match (c.rows.map cx)[k]? with|none=>D.lst (c.rows.map cx)|some _=>D.lst ((c.rows.map cx).set k (cx q))),D.lst (c.rests.map dA)]:=by kernel_rfl
  simp_all [bP,wb]
 rw[n]
noncomputable abbrev ck:List aE:=["facts","full","able","taken","opened","rows","rests"]
abbrev cl(c:gu):List D:=[i6 c.f,.int c.full,.int c.mm,.int c.taken,.int c.opened,.lst (c.rows.map cx),.lst (c.rests.map dA)]
def uM{c:gu}{n:Int}{k:Nat}(g:eV 0 a=oC c)(f:b a=Y (.int n))(d:DW c.rows.length n=Y k):tJ i 0 "Coming" "rows" b a=Y (.nx (a.set i (eQ k))):=by
 have e:qF "Coming" "rows" 0 a=Y (sD,ck,cl c,D.lst (c.rows.map cx)):=by unfold qF t_;rw[g];exact Ż
 unfold tJ;rw[e,f];show (DW _ n).map _=_
 simp_all
def Iz{c:gu}{k:Nat}{r r':dM}{f:aE}{m n:Int}(i:c.rows[k]?=Y r)(p:eV 0 a=oC c)(l:eV j a=eQ k)(o:e a=Y (.int n))(h:(rk.zip (rl r)).lookup f=Y (.int m))(g:D.ins "Row" (jF f (.int (b m n)) rk (rl r)).1 (jF f (.int (b m n)) rk (rl r)).2=cx r'):
  gF Z' j "Row" f b e a=Y (.nx (a.set 0 (oC { c with rows:=c.rows.set k r' }))):=by
 have d:(c.rows.map cx)[k]?=Y (cx r):=by rw[bt,i];exact ź
 unfold gF F8 t_;rw[o,l];simp;rw[p];simp;have t:wW "Row" aB (bP c) [.fld "rows",.ix k]=Y ([],rk,rl r):=by
  have s:jg [.fld "rows",.ix k] (bP c)=Y (cx r):=by
   have:jg [.fld "rows",.ix k] (bP c)=((c.rows.map cx)[k]?).bind XV:=by kernel_rfl
   rw[this,d];exact ź
  unfold wW;rw[s];exact Ż
 rw[t];simp only[ai,h];rw[if_pos ⟨rfl,by decide⟩,g];have q:lS (cx r') [.fld "rows",.ix k] (bP c)=bP { c with rows:=c.rows.set k r' }:=by
  have:lS (cx r') [.fld "rows",.ix k] (bP c)=D.ins "Coming" ["facts","full","able","taken","opened","rows","rests"] [i6 c.f,D.int c.full,D.int c.mm,D.int c.taken,D.int c.opened,(match (c.rows.map cx)[k]? with|none=>D.lst (c.rows.map cx)|some _=>D.lst ((c.rows.map cx).set k (cx r'))),D.lst (c.rests.map dA)]:=by kernel_rfl
  simp_all [bP,wb]
 rw[q]
def xT{c:gu}{k:Nat}{r:dM}(a:c.rows[k]?=Y r):(c.rows.map cx)[k]?=Y (cx r):=by simp_all
structure O5(f:xy)(fit lift:Int->Int->Int):Prop where
 fit:∀n a,fP [i6 f,.int n,.int a]=some (.int (fit n a))
 lift:∀n a,iB [i6 f,.int n,.int a]=some (.int (lift n a))
def Cv(c b:Int->Int->Int)(p:Nat)(r d:dM)(a:List dM):List dM:=
 (a.set (p+1) { r with fits:=c r.named r.atoms }).set p { d with atoms:=bO d.atoms (b r.named r.atoms) }
def Sf{q:Nat}{x d l g:Option D}(n:c.rows[q]?=Y r):DZ [0] [3,5] [oC c,x,d,eQ q,l,g]=[Y (bP c),x,d,Y (cx r),l,ZC [oC c,x,d,eQ q,l,g] g]:=by
 have s:DZ [0] [3,5] [oC c,x,d,eQ q,l,g]=[Y (bP c),x,d,((c.rows.map cx)[q]?).bind XV,l,ZC [oC c,x,d,eQ q,l,g] g]:=Ż
 rw[s,xT n];rfl
def Ec(w:O5 c.f e a){p:Nat}{f:dM}(s:c.rows[p+1]?=Y r)(z:c.rows[p]?=Y f)(d A l g:Option D):
  jm [oC c,Y (.int ((p:Int)+1)),d,A,l,g]=Y (.nx [oC { c with rows:=Cv e a p r f c.rows },Y (.int p),Y (.bl (bA (a r.named r.atoms) (bN f.atoms) != 0)),eQ (p+1),Y (.int (a r.named r.atoms)),eQ p]):=by
 have v:p+1<c.rows.length:=(au.mp s).1;unfold jm;rw[aK (uM rfl rfl (by simpa using qa v))];simp;rw[aK (CG s rfl rfl (lp (Sf s) (w.fit _ _) rfl) (by kernel_rfl))];simp;generalize h:({ c with rows:=c.rows.set (p+1) { r with fits:=e r.named r.atoms } }:gu)=b;have u:b.f=c.f:=by rw[<- h]
 have m:b.rows[p+1]?=Y { r with fits:=e r.named r.atoms }:=by rw[<- h];simp[v]
 have k:b.rows[p]?=Y f:=by rw[<- h];simp only;rw[av (by simp)];exact z
 rw[aK (gE (lp (Sf m) (show iB [i6 b.f,.int r.named,.int r.atoms]=_ from by rw[u];exact w.lift _ _) rfl))];simp;rw[aK ?y]
 case y=>
  have:xI 1 (λi j=>i-j) u8 [oC b,Y (.int ((p:Int)+1)),d,eQ (p+1),Y (.int (a r.named r.atoms)),g]=Y (.nx [oC b,Y (.int ((p:Int)+1-1)),d,eQ (p+1),Y (.int (a r.named r.atoms)),g]):=by kernel_rfl
  rw[this,Int.add_sub_cancel]
 have t:p<b.rows.length:=(au.mp k).1;rw[aK (uM rfl rfl (qa t))];simp;have n:DZ [0] [3,5] [oC b,Y (.int p),d,eQ (p+1),Y (.int (a r.named r.atoms)),eQ p]=[Y (bP b),Y (.int p),d,((b.rows.map cx)[p+1]?).bind XV,Y (.int (a r.named r.atoms)),((b.rows.map cx)[p]?).bind XV]:=Ż
 rw[xT m,xT k]at n;simp only[ai,jg]at n;have x:lj [0] [3,5] (e2 ur ut v0) [oC b,Y (.int p),d,eQ (p+1),Y (.int (a r.named r.atoms)),eQ p]=Y (.bl (bA (a r.named r.atoms) (bN f.atoms) != 0)):=by
  refine lp n ?_ rfl;have:e2 ur ut v0 [Y (bP b),Y (.int p),d,Y (cx { r with fits:=e r.named r.atoms }),Y (.int (a r.named r.atoms)),Y (cx f)]=ur (.int (bA (a r.named r.atoms) (bN f.atoms))) (.int 0):=by kernel_rfl
  rw[this];simp[ur,iF,Y0,bne]
 show aX (cN 2 _) _ _=_;rw[aK (gE x)];simp;show gF Z' 5 "Row" "atoms" eP Sc _=_;rw[Iz k rfl rfl rfl rfl (by kernel_rfl),<- h];rfl
def lF(fit lift:Int->Int->Int):Bool->Nat->List dM->List dM
 | true,p+1,a=>match a[p+1]?,a[p]? with
  |some r,Y b=>lF fit lift (bA (lift r.named r.atoms) (bN b.atoms) != 0) p (Cv fit lift p r b a)|_,_=>a
 |_,_,a=>a
def Ed:(Cv fit lift p r b a).length=a.length:=by unfold Cv;simp
theorem vb:∀(p n:Nat) (c:gu) (f:Bool) (d b a:Option D),O5 c.f fit lift->p<n->p<c.rows.length->∃v u j i g,
  qR (kv (fD lc) AC) jm n [oC c,Y (.int p),Y (.bl f),d,b,a]=Y (.nx [oC { c with rows:=lF fit lift f p c.rows },v,u,j,i,g])
 |p,0,c,f,d,b,a,_,h,_=>by simp_all
 | 0,n+1,c,f,d,b,a,k,h,o=>by
  refine⟨Y (.int 0),Y (.bl f),d,b,a,?_⟩;rw[qR];have e:kv (fD lc) AC [oC c,Y (.int ((0:Nat):Int)),Y (.bl f),d,b,a]=Y false:=by cases f<;>solve_by_elim
  rw[e];simp only[ai,ig,if_false];cases f<;>solve_by_elim
 | p+1,n+1,c,f,d,b,a,k,h,o=>by
  rw[qR];cases f with
  |false=>
   refine⟨Y (.int ((p+1:Nat):Int)),Y (.bl Z_),d,b,a,?_⟩
   exact ź
  |true=>
   have l:c.rows[p+1]?=Y c.rows[p+1]:=bp o;have m:c.rows[p]?=Y (c.rows[p]' ž):=bp ž;have e:kv (fD lc) AC [oC c,Y (.int ((p+1:Nat):Int)),Y (.bl Z'),d,b,a]=Y true:=by
    have:kv (fD lc) AC [oC c,Y (.int ((p+1:Nat):Int)),Y (.bl Z'),d,b,a]=c_ (λ_=>tp (.int ((p+1:Nat):Int)) (.int 0)) []:=rfl
    simp_all [c_,tp]
   rw[e];simp only[ai,if_true];have r:=Ec k l m (Y (.bl Z')) d b a;rw[show ((p+1:Nat):Int)=(p:Int)+1 by rfl,r];simp only[ai];obtain⟨t,s,j,i,g,q⟩:=vb p n { c with rows:=Cv fit lift p c.rows[p+1] (c.rows[p]' ž) c.rows } _ (eQ (p+1)) _ (eQ p) k (by lia) (by simp only[Ed];lia);refine⟨t,s,j,i,g,q.trans ?_⟩;simp only[lF,l,m]
def Bz{c:gu}(b:O5 c.f fit lift)(e:0<c.rows.length)(d:c.rows.length<1000000):dg [bP c]=Y (.dW,bP { c with rows:=lF fit lift Z' (c.rows.length-1) c.rows }):=by
 show (ka [oC c,M,M,M,M,M]).bind _=_;unfold ka;have a:lj [0] [3,5] Ì [oC c,M,M,M,M,M]=Y (.int (c.rows.length-1:Nat)):=by
  have:lj [0] [3,5] Ì [oC c,M,M,M,M,M]=Y (.int ((c.rows.map cx).length-1)):=by kernel_rfl
  grind
 rw[aK (gE a)];rw[aK (gE rfl)];simp;obtain⟨j,i,h,g,f,q⟩:=vb (c.rows.length-1) 1000000 c Z' M M M b ž ž;unfold GN;rw[q];exact Ż
def oS(fit lift:Int->Int->Int)(c:gu)(atoms:Int)(r:dM):gu:=if bA atoms (bN r.atoms) != 0 then { c with rows:=lF fit lift Z' (c.rows.length-1) (c.rows.set (c.rows.length-1) { r with atoms:=bO r.atoms atoms }) } else c
def DJ{c:gu}(j:O5 c.f fit lift){r:dM}(b:c.rows[c.rows.length-1]?=Y r)(i:c.rows.length<1000000)(atoms:Int):gJ [bP c,.int atoms]=Y (.dW,bP (oS fit lift c atoms r)):=by
 have f:0<c.rows.length:=by have:=(au.mp b).1;lia
 show (ko [oC c,Y _,M]).bind _=_;unfold ko;rw[aK (uM rfl rfl (zN f))];simp;have a:DZ [0] [2] [oC c,Y (.int atoms),eQ (c.rows.length-1)]=[Y (bP c),Y (.int atoms),(c.rows.map cx)[c.rows.length-1]?.bind XV]:=Ż
 rw[xT b]at a;unfold d_;rw[(pW a (by kernel_rfl))];simp only[ai];unfold oS;by_cases e:(bA atoms (bN r.atoms) != 0)=Z'
 .rw[if_pos e,if_pos e];rw[aK (Iz (c:=c) (k:=c.rows.length-1) (r:=r) (r':={ r with atoms:=bO r.atoms atoms }) (m:=r.atoms) (n:=atoms) b rfl rfl rfl rfl (by kernel_rfl))];simp only[eC,eD];have d:=Bz (c:={ c with rows:=c.rows.set (c.rows.length-1) { r with atoms:=bO r.atoms atoms } }) j (by simpa using f) (by simpa using i);simp only[List.length_set]at d;unfold da;have g:bW "Coming" "spread" aB dg 0 kR [oC { c with rows:=c.rows.set (c.rows.length-1) { r with atoms:=bO r.atoms atoms } },Y (.int atoms),eQ (c.rows.length-1)]=(dg [bP { c with rows:=c.rows.set (c.rows.length-1) { r with atoms:=bO r.atoms atoms } }]).map λq=>(q.1,[Y (.obj aB q.2),Y (.int atoms),M]):=by kernel_rfl
  rw[g,d];exact Ż
 .rw[if_neg e,if_neg e];exact Ż
def yB(b p a f:Int):Int:=bA (bO p (bA a b)) f*2
def oJ(a:Int)(b r:dM):dM:={ r with bh:=yB a b.bh b.ra r.fits,ra:=bO b.ra (yB a b.bh b.ra r.fits) }
abbrev Dh(a b:Int)(c r:dM):Bool:=bA (bA (yB a c.bh c.ra r.fits) (bN r.bh)) b != 0
def IB{p q:Nat}{x y l:Option D}(n:c.rows[q]?=Y r)(v:c.rows[p]?=Y a):DZ [0] [4,3] [oC c,x,y,eQ p,eQ q,l]=[Y (bP c),x,y,Y (cx a),Y (cx r),l]:=by
 have s:DZ [0] [4,3] [oC c,x,y,eQ p,eQ q,l]=[Y (bP c),x,y,((c.rows.map cx)[p]?).bind XV,((c.rows.map cx)[q]?).bind XV,l]:=Ż
 rw[s,xT n,xT v];rfl
def Ef{p:Nat}(n:c.rows[p+1]?=Y r)(v:c.rows[p]?=Y a)(F:(bA (bO a.bh (bA a.ra c.f.inner)) r.fits).natAbs<2 ^ 64)(b:List D)(y:b.length<dE)(A z l:Option D):
  gY [oC c,Y (.lst b),Y (.int ((p:Int)+1)),A,z,l]=Y (.nx [oC { c with rows:=c.rows.set (p+1) (oJ c.f.inner a r) },Y (.lst (b++if Dh c.f.inner c.full a r then [.int r.number] else [])),Y (.int ((p:Int)+1)),eQ p,eQ (p+1),Y (.int r.bh)]):=by
 have w:p+1<c.rows.length:=(au.mp n).1;unfold gY;have E:e2 nV lc u8 [oC c,Y (.lst b),Y (.int ((p:Int)+1)),A,z,l]=Y (.int (p:Int)):=by
  have:e2 nV lc u8 [oC c,Y (.lst b),Y (.int ((p:Int)+1)),A,z,l]=Y (.int ((p:Int)+1-1)):=by kernel_rfl
  rw[this,Int.add_sub_cancel]
 rw[aK (uM (c:=c) (k:=p) rfl E (qa (by lia)))];simp only[eC,eD];rw[aK (uM (c:=c) (k:=p+1) rfl rfl (by have:=qa (n:=c.rows.length) (k:=p+1) w;simpa using this))];simp only[eC,eD];rw[aK (gE (d :=.int r.bh) (lp (IB n v) (by kernel_rfl) rfl))];simp only[eC,eD];rw[aK (CG (c:=c) (k:=p+1) (r:=r) n rfl rfl (lp (IB n v) (zV _ _ _ _ F) rfl) (by kernel_rfl))];simp only[eC,eD];generalize f:({ c with rows:=c.rows.set (p+1) { r with bh:=yB c.f.inner a.bh a.ra r.fits } }:gu)=g;have i:g.rows[p+1]?=Y { r with bh:=yB c.f.inner a.bh a.ra r.fits }:=by rw[<- f];simp[w]
 have j:g.rows[p]?=Y a:=by rw[<- f];simp only;rw[av (by lia)];exact v
 rw[aK (CG (c:=g) (k:=p+1) (d :=.int (bO a.ra (yB c.f.inner a.bh a.ra r.fits))) i rfl rfl (lp (IB i j) (by kernel_rfl) rfl) (by kernel_rfl))];simp only[eC,eD];generalize h:({ g with rows:=g.rows.set (p+1) (oJ c.f.inner a r) }:gu)=d;have t:d.rows[p+1]?=Y (oJ c.f.inner a r):=by rw[<- h,<- f];simp[w]
 have u:d.rows[p]?=Y a:=by rw[<- h];simp only;rw[av (by lia)];exact j
 have k:d={ c with rows:=c.rows.set (p+1) (oJ c.f.inner a r) }:=by rw[<- h,<- f];simp
 have x:d.full=c.full:=by rw[k]
 have m:=IB (x:=Y (.lst b)) (y:=Y (.int ((p:Int)+1))) (l:=Y (.int r.bh)) t u;have C:yX [0] [4,3] (fD bv) _=Y (Dh c.f.inner d.full a r):=pW m Ż;show d_ _ _ _ _=_;unfold d_;rw[C,x];simp only[ai];rw[<- k];by_cases e:Dh c.f.inner c.full a r=Z'
 .rw[if_pos e,if_pos e];unfold qG;have B:lj [0] [4,3] (bq "Row" "number" Sc) _=Y (.int r.number):=lp m Ż rfl;rw[B];show (if b.length<dE then _ else M)=_;rw[if_pos y];rfl
 .rw[if_neg e,if_neg e];simp only[bL];rfl
def gy(a:Int):dM->List dM->List dM
 |_,[]=>[]|pr,r::b=>oJ a pr r::gy a (oJ a pr r) b
def rE(a b:Int):dM->List dM->List Int
 |_,[]=>[]|pr,r::c=>(if Dh a b pr r then [r.number] else [])++rE a b (oJ a pr r) c
def V4(a:Int):dM->List dM->Prop
 |_,[]=>True|pr,r::b=>(bA (bO pr.bh (bA pr.ra a)) r.fits).natAbs<2 ^ 64/\V4 a (oJ a pr r) b
theorem Eh(a:Int):∀(c:dM) (b:List dM),(gy a c b).length=b.length
 |_,[]=>rfl|c,r::b=>by simp[gy,Eh a _ b]
theorem ES(a b:Int):∀(d:dM) (c:List dM),(rE a b d c).length<=c.length
 |_,[]=>aH _|d,r::c=>by have:=ES a b (oJ a d r) c;unfold rE;split<;>simp<;>solve_by_elim
def Km(b:Int)(n:Nat):oP b (n+1)=.int b::oP (b+1) n:=by
 grind [oP,RQ,gM]
def kX{ρ1:bY}(h:b d c=Y ρ1)(f:g ρ1=Y (.nx a)):gG b g (d::e) c=gG b g e a:=by
 simp_all [gG,ai]
theorem y9:∀(rs pre:List dM) (pr:dM) (c:gu) (ds:List D) (a2 a3 a4 a5:Option D),c.rows=pre++pr::rs->V4 c.f.inner pr rs->ds.length+rs.length<dE->∃b2 b3 b4 b5,
  gG (gN 2) gY (oP ((pre.length:Int)+1) rs.length) [oC c,Y (.lst ds),a2,a3,a4,a5]=Y (.nx [oC { c with rows:=pre++pr::gy c.f.inner pr rs },Y (.lst (ds++(rE c.f.inner c.full pr rs).map D.int)),b2,b3,b4,b5])
 |[],pre,pr,c,ds,a2,a3,a4,a5,e,h,hd=>by refine⟨a2,a3,a4,a5,?_⟩;show Y (DO.nx _)=_;simp only[gy,rE,List.map_nil,bL,<- e]
 | r::rs,pre,pr,c,ds,a2,a3,a4,a5,e,h,hd=>by
  have hr:c.rows[pre.length+1]?=Y r:=ż
  have hp:c.rows[pre.length]?=Y pr:=ż
  simp only[bo]at hd ⊢;have hb:=Ef hr hp h.1 ds (by lia) a3 a4 a5;rw[Km,kX rfl hb];obtain⟨b2,b3,b4,b5,q⟩:=y9 rs (pre++[pr]) (oJ c.f.inner pr r) { c with rows:=c.rows.set (pre.length+1) (oJ c.f.inner pr r) } (ds++if Dh c.f.inner c.full pr r then [.int r.number] else []) (Y (.int ((pre.length:Int)+1))) (eQ pre.length) (eQ (pre.length+1)) (Y (.int r.bh)) ż h.2 (by split<;>simp<;>lia);refine⟨b2,b3,b4,b5,?_⟩;simp only[bB,bo,lQ,Int.natCast_add,Int.natCast_one,Int.natCast_zero,Int.zero_add]at q;rw[q];rw[gy,rE];simp only[b8,lb,dG,cm];have:(if Dh c.f.inner c.full pr r=Z' then [D.int r.number] else [])=LM D.int (if Dh c.f.inner c.full pr r=Z' then [r.number] else []):=by split<;>solve_by_elim
  rw[this]
def Vh{f:DF}{i:Int}(c:f a=Y (.int i))(b:g a=Y (.int j))(h : -(2 ^ 62)<=i/\i<2 ^ 62 /\ -(2 ^ 62)<=j/\j<2 ^ 62):Sz f g a=Y (oP i (j-i).toNat):=by
 simp_all [Sz,ai,if_pos]
theorem DB:1000000<=dE:=by unfold dE;decide
def BA(e:c.rows=t::a)(h:V4 c.f.inner t a)(m:a.length<1000000):i9 [bP c]=Y ((rE c.f.inner c.full t a).map D.int,bP { c with rows:=t::gy c.f.inner t a }):=by
 show (mj [oC c,M,M,M,M,M]).bind (Sn aB)=_;unfold mj;have g:j5 1 TW [oC c,M,M,M,M,M]=Y (.nx [oC c,Y (.lst []),M,M,M,M]):=Ż
 rw[aK g];obtain⟨l,k,j,i,q⟩:=y9 a [] t c [] M M M M (by simpa using e) h (by grind [DB,lQ]);have f:lj [0] [4,3] (bc ic bi) [oC c,Y (.lst []),M,M,M,M]=Y (.int (a.length+1:Int)):=by
  have:lj [0] [4,3] (bc ic bi) [oC c,Y (.lst []),M,M,M,M]=Y (.int ((c.rows.map cx).length:Int)):=by kernel_rfl
  simp_all
 have d:Sz u8 UV [oC c,Y (.lst []),M,M,M,M]=Y (oP 1 a.length):=by
  have:=Vh (f:=eK (.int 1)) (i:=1) rfl f ⟨ź,ź,ź,by lia⟩
  simp_all
 have b:je (Sz u8 UV) (gN 2) gY [oC c,Y (.lst []),M,M,M,M]=Y (.nx [oC { c with rows:=t::gy c.f.inner t a },Y (.lst ((rE c.f.inner c.full t a).map D.int)),l,k,j,i]):=by simp_all [je]
 rw[aK b];exact Ż
abbrev NY(r:dM)(a:r8):Bool:=bA r.bh a.Z != 0||bA r.ra a.around != 0
def me(a:List dM)(b:r8):Bool:=match a[b.place.toNat]? with|some r=>NY r b|none=>Z_
abbrev WR(a:List dM)(b:r8):Prop:=0<=b.place/\b.place<a.length
theorem Kc(h:WR c.rows rs)(fs ks:List D)(hf:fs.length<dE)(hk:ks.length<dE)(a4:Option D):
  ∃b4,dF [oC c,Y (.lst fs),Y (.lst ks),Y (dA rs),a4]=Y (.nx [oC c,Y (.lst (fs++if me c.rows rs then [.int rs.num] else [])),Y (.lst (ks++if me c.rows rs then [] else [dA rs])),Y (dA rs),b4]):=by
 obtain⟨k,hk'⟩:∃k:Nat,rs.place=k:=⟨rs.place.toNat,by lia⟩;have hl:k<c.rows.length:=by have:=h.2;simp_all
 have hr:=bp hl;generalize c.rows[k]=r at hr;have hm:me c.rows rs=NY r rs:=by unfold me;rw[hk',ke,hr]
 rw[hm];refine⟨eQ k,?_⟩;unfold dF;have q0:e2 b9 pc u8 [oC c,Y (.lst fs),Y (.lst ks),Y (dA rs),a4]=Y (.int rs.place):=Ż
 rw[hk']at q0;rw[aK (uM rfl q0 (qa hl))];simp only[eC,eD];have q1:DZ [0] [4] [oC c,Y (.lst fs),Y (.lst ks),Y (dA rs),eQ k]=[Y (bP c),Y (.lst fs),Y (.lst ks),Y (dA rs),((c.rows.map cx)[k]?).bind XV]:=Ż
 rw[xT hr]at q1;simp only[ai,jg]at q1;have q2:yX [0] [4] (lx (fD Is) (fD zn)) [oC c,Y (.lst fs),Y (.lst ks),Y (dA rs),eQ k]=Y (NY r rs):=by
  refine pW q1 ?_;have e1:fD Is [Y (bP c),Y (.lst fs),Y (.lst ks),Y (dA rs),Y (cx r)]=Y (bA r.bh rs.Z != 0):=Ż
  have e2:fD zn [Y (bP c),Y (.lst fs),Y (.lst ks),Y (dA rs),Y (cx r)]=Y (bA r.ra rs.around != 0):=Ż
  unfold lx NY;rw[e1,e2];cases (bA r.bh rs.Z != 0)<;>solve_by_elim
 unfold d_;rw[q2];cases NY r rs with
 |true=>
  show (if fs.length<dE then _ else M)=_
  simp_all
 |false=>
  show (if ks.length<dE then _ else M)=_
  simp_all
theorem D_:∀(d:List r8) (c:gu) (g f:List D) (j i:Option D),(∀a∈d,WR c.rows a)->g.length+d.length<dE->f.length+d.length<dE->∃l k,
  gG (gN 3) dF (d.map dA) [oC c,Y (.lst g),Y (.lst f),j,i]=Y (.nx [oC c,Y (.lst (g++(d.filter (me c.rows)).map λa=>D.int a.num)),Y (.lst (f++(d.filter λa=> !me c.rows a).map dA)),l,k])
 |[],c,g,f,j,i,h,n,m=>⟨j,i,by simp[gG]⟩
 |a::d,c,g,f,j,i,h,n,m=>by obtain⟨b,p⟩:=Kc (h a (aJ ..)) g f (by lia) (by lia) i;rw[bx,kX rfl p];obtain⟨l,k,q⟩:=D_ d c (g++if me c.rows a then [.int a.num] else []) (f++if me c.rows a then [] else [dA a]) _ b (λy o=>h y (bI _ o)) Ÿ Ÿ;refine⟨l,k,q.trans ?_⟩;cases e:me c.rows a<;>simp[e]
theorem zR:∀(a:List Int),BR (a.map D.int)=Y a
 |[]=>rfl|n::a=>by simp[BR,zR a]
def Ee{f:DF}(e:f b=Y (.lst (a.map D.int)))(h:a.length<64):rP f b=Y ((Kg a).map D.int):=by
 simp_all [rP,ai,zR,if_pos]
def xX(c:gu)(rows:List dM):gu:={ c with rows:=rows,rests:=c.rests.filter λa=> !me rows a }
def MB{F:List D->Option (List D×D)}(d:F [bP c]=Y (a,bP b)):zc 1 0 "Coming" "settle" aB F [oC c,M,M,M,M]=Y (.nx [oC b,Y (.lst a),M,M,M]):=by
 have:zc 1 0 "Coming" "settle" aB F [oC c,M,M,M,M]=(F [bP c]).map λr =>.nx [Y (.obj aB r.2),Y (.lst r.1),M,M,M]:=by kernel_rfl
 simp_all
def iQ{n:Nat}(h:n<2000):n<dE:=bw (Nat.lt_trans h ſ) DB
def A6{c:gu}(e:c.rows=t::a)(h:V4 c.f.inner t a)(A:∀y∈c.rests,WR c.rows y)(B:(rE c.f.inner c.full t a++(c.rests.filter (me (t::gy c.f.inner t a))).map (·.num)).length<64)(F:a.length<64)(G:c.rests.length<1000):
  dC [bP c]=Y (.lst ((Kg (rE c.f.inner c.full t a++(c.rests.filter (me (t::gy c.f.inner t a))).map (·.num))).map D.int),bP (xX c (t::gy c.f.inner t a))):=by
 show (ik [oC c,M,M,M,M]).bind (qH aB)=_;unfold ik;have z:=BA e h ž;have C:=ES c.f.inner c.full t a;generalize rE c.f.inner c.full t a=i at *
 generalize n:t::gy c.f.inner t a=rows at *
 have o:rows.length=c.rows.length:=by rw[<- n,e];simp[Eh]
 generalize k:({ c with rows:=rows }:gu)=f at *
 have j:f.rows=rows:=by rw[<- k]
 have b:f.rests=c.rests:=by rw[<- k]
 rw[aK (MB z)];rw[aK ?w]
 case w=>kernel_rfl
 obtain⟨m,l,v⟩:=D_ f.rests f (i.map D.int) [] M M (by rw[b,j];intro y x;have:=A y x;exact⟨this.1,by rw[o];exact this.2⟩) (iQ (by rw[b,aD];lia)) (iQ (by rw[b,lQ];lia));have u:je (iL Ã) (gN 3) dF [oC f,Y (.lst (i.map D.int)),Y (.lst []),M,M]=gG (gN 3) dF (f.rests.map dA) [oC f,Y (.lst (i.map D.int)),Y (.lst []),M,M]:=Ż
 rw[aK (u.trans v)];simp only[dG];rw[b,j];have s:(i.map D.int++(c.rests.filter (me rows)).map λa=>D.int a.num)=(i++(c.rests.filter (me rows)).map (·.num)).map D.int:=by simp[gM]
 rw[s];generalize i++(c.rests.filter (me rows)).map (·.num)=g at *
 rw[aK ?r]
 case r=>rw[<- k];exact Ż
 generalize (Kg g).map D.int=E at *
 have p:(dH (mP (eF (rP db))) [oC (xX c rows),Y (.lst (g.map D.int)),Y (.lst ((c.rests.filter λa=> !me rows a).map dA)),m,l])=((rP db [oC (xX c rows),Y (.lst (g.map D.int)),Y (.lst ((c.rests.filter λa=> !me rows a).map dA)),m,l]).map D.lst).bind λd=>Y (.rm d [oC (xX c rows),Y (.lst (g.map D.int)),Y (.lst ((c.rests.filter λa=> !me rows a).map dA)),m,l]):=by unfold dH mP eF;cases rP db [oC (xX c rows),Y (.lst (g.map D.int)),Y (.lst ((c.rests.filter λa=> !me rows a).map dA)),m,l]<;>rfl
 rw[p,(Ee rfl B)];exact Ż
def Hq{r r':dM}{f:aE}{d:D}(h:eV i a=Y (cx r))(g:b a=Y d)(c:D.ins "Row" (jF f d rk (rl r)).1 (jF f d rk (rl r)).2=cx r'):lq i "Row" f b a=Y (.nx (a.set i (Y (cx r')))):=by
 have e:Fq "Row" i a=Y (rk,rl r):=by unfold Fq;rw[h];exact Ż
 simp_all [lq,ai,if_pos]
def k8(fit:Int->Int->Int)(c:gu)(d a b:Int)(e:dM):dM:=⟨d,a,b,fit a b,0,0,yB c.f.inner e.fT e.ha (bA a c.mm),bO e.ha (yB c.f.inner e.fT e.ha (bA a c.mm))⟩
def Qw{m:Int}(h:c.rows.length<dE):CB 0 4 "Coming" "rows" [oC c,Y (.int n),Y (.int m),Y (.int k),Y (cx r),eQ j]=Y (.nx [oC { c with rows:=c.rows++[r] },Y (.int n),Y (.int m),Y (.int k),M,M]):=by
 have e:qF "Coming" "rows" 0 [oC c,Y (.int n),Y (.int m),Y (.int k),Y (cx r),eQ j]=Y (sD,ck,cl c,D.lst (c.rows.map cx)):=Ż
 unfold CB;rw[e];have b:eV 4 [oC c,Y (.int n),Y (.int m),Y (.int k),Y (cx r),eQ j]=Y (.ins _ rk _):=rfl;rw[b];simp only[ai];rw[if_pos ⟨by solve_by_elim,by simp_all⟩];have a:c.rows.map cx++[D.ins "Row" rk (rl r)]=(c.rows++[r]).map cx:=by rw[cm];exact ź
 rw[a];exact Ż
def vS{c:gu}(l:O5 c.f fit lift){pr:dM}(g:c.rows.getLast? = Y pr)(d a b:Int)(j:(bA (bO pr.fT (bA pr.ha c.f.inner)) (bA a c.mm)).natAbs<2 ^ 64)(i:c.rows.length<dE):
  dO [bP c,.int d,.int a,.int b]=Y (.dW,bP { c with rows:=c.rows++[k8 fit c d a b pr] }):=by
 show (iT [oC c,Y (.int d),Y (.int a),Y (.int b),M,M]).bind (qH aB)=_;unfold iT;have k:0<c.rows.length:=by cases h:c.rows<;>simp_all
 have f:c.rows[c.rows.length-1]?=Y pr:=by rw[<- L1];exact g
 rw[aK (gE (by kernel_rfl))];simp;rw[aK (uM rfl rfl (zN k))];simp;have e:∀x,DZ [0] [5] [oC c,Y (.int d),Y (.int a),Y (.int b),Y (cx x),eQ (c.rows.length-1)]=[Y (bP c),Y (.int d),Y (.int a),Y (.int b),Y (cx x),Y (cx pr)]:=by
  intro x;have:DZ [0] [5] [oC c,Y (.int d),Y (.int a),Y (.int b),Y (cx x),eQ (c.rows.length-1)]=[Y (bP c),Y (.int d),Y (.int a),Y (.int b),Y (cx x),((c.rows.map cx)[c.rows.length-1]?).bind XV]:=by kernel_rfl
  rw[this,xT f]
  exact ź
 rw[aK (Hq (r:=⟨d,a,b,0,0,0,0,0⟩) rfl (lp (e _) (l.fit _ _) rfl) (by kernel_rfl))];simp;rw[aK (Hq (r:=⟨d,a,b,fit a b,0,0,0,0⟩) rfl (lp (e _) (zV _ _ _ _ j) rfl) (by kernel_rfl))];simp;rw[aK (Hq (r:=⟨d,a,b,fit a b,0,0,yB c.f.inner pr.fT pr.ha (bA a c.mm),0⟩) (r':=k8 fit c d a b pr) (d :=.int (bO pr.ha (yB c.f.inner pr.fT pr.ha (bA a c.mm)))) rfl (lp (e _) (by kernel_rfl) rfl) (by kernel_rfl))];simp;rw[Qw i];exact Ż
abbrev Px(a:Int)(r:dM):Bool:=bA (bA r.fT (bN r.bh)) a != 0
theorem Bq(c:gu):∀(b:List dM) (a:List D) (d:Option D),a.length+b.length<dE->∃f,
  gG (gN 2) gA (b.map cx) [Y (bP c),Y (.lst a),d]=Y (.nx [Y (bP c),Y (.lst (a++(b.filter (Px c.full)).map λr=>D.int r.number)),f])
 |[],a,d,_=>⟨d,by simp[gG]⟩
 | r::b,a,d,h=>by
  simp at h;have g:gA [Y (bP c),Y (.lst a),Y (cx r)]=Y (.nx [Y (bP c),Y (.lst (a++if Px c.full r then [.int r.number] else [])),Y (cx r)]):=by
   unfold gA d_;have e:fD jp [Y (bP c),Y (.lst a),Y (cx r)]=Y (Px c.full r):=Ż
   rw[e];cases Px _ r with
   |true=>show (if a.length<dE then _ else M)=_;rw[if_pos (by lia)];rfl
   |false=>simp;rfl
  rw[bx,kX rfl g];obtain⟨f,q⟩:=Bq c b (a++if Px _ r then [.int _] else []) _ Ÿ;refine⟨f,q.trans ?_⟩;cases e:Px _ r<;>simp[e]
def Cj(c:gu):List Int:=c.rests.map (·.num)++(c.rows.filter (Px c.full)).map (·.number)
theorem IV:∀(a:List r8),zK [M] (gN 0) f9 ci (a.map dA)=Y ((a.map (·.num)).map D.int)
 |[]=>rfl|x::a=>by rw[bx,zK];rw[IV a];rfl
def D6(c:gu)(l:c.rests.length<=1000)(k:c.rows.length<=500)(i:(Cj c).length<64):jE [bP c]=Y (.lst ((Kg (Cj c)).map D.int)):=by
 show (kW [Y (bP c),M,M]).bind vW=_;unfold kW;have b:=DB;rw[aK (ρ':=[Y (bP c),Y _,M]) ?h]
 case h=>
  have e:lZ (iL (bq "Coming" "rests" Fa)) [M] (gN 0) f9 ci [Y (bP c),M,M]=Y ((c.rests.map (·.num)).map D.int):=by
   unfold lZ;have a:iL (bq "Coming" "rests" Fa) [Y (bP c),M,M]=Y (c.rests.map dA):=Ż
   rw[a];simp only[ai];rw[if_pos (by grind)];exact IV _
  unfold j5;rw[e];rfl
 obtain⟨j,g⟩:=Bq c c.rows ((c.rests.map (·.num)).map D.int) M (iQ Ÿ);have f:je (iL (bq "Coming" "rows" Fa)) (gN 2) gA [Y (bP c),Y (.lst ((c.rests.map (·.num)).map D.int)),M]=gG (gN 2) gA (c.rows.map cx) [Y (bP c),Y (.lst ((c.rests.map (·.num)).map D.int)),M]:=ź
 rw[aK (f.trans g)];have e:(c.rests.map (·.num)).map D.int++(c.rows.filter (Px c.full)).map (λr=>D.int r.number)=(Cj c).map D.int:=by unfold Cj;simp[gM]
 rw[e];unfold pq;rw[(Ee rfl i)];rfl
theorem PM{p:Nat}(h:p<=1000):tm (.int 1) (.int (p:Int))=Y (.int (2 ^ p)):=by
 simp only[tm]
 grind
noncomputable def K2(x:r8):List r8->List r8
 |[]=>[x]|y::b=>if x.num<y.num then x::y::b else y::K2 x b
noncomputable def xZ:List r8->List r8
 |[]=>[]|x::b=>K2 x (xZ b)
theorem BS(x:r8):∀l,(K2 x l).Perm (x::l)
 |[] =>.rfl| y::b=>by
  unfold K2;split
  .exact .rfl
  .exact((BS x b).cons y).trans (.swap x y b)
theorem o_:∀l,(xZ l).Perm l
 |[] =>.rfl|x::b=>(BS x _).trans ((o_ b).cons x)
theorem NU(x:r8):∀l:List r8,Fp U9 (dA x) (l.map dA)=(K2 x l).map dA
 |[]=>rfl| y::b=>by
  unfold K2;show (if x.num<y.num then _ else _)=_;split
  .rfl
  .rw[NU x b];rfl
theorem Mr:∀l:List r8,Kf U9 (l.map dA)=(xZ l).map dA
 |[]=>rfl|x::b=>by rw[bx,Kf,Mr b,NU];rfl
abbrev oR(r:dM):Option D:=Y (cx r)
noncomputable abbrev rH(m:r8):Bool:=m.Z != 0||m.around != 0
def DV(c:gu)(b:Nat)(r pr:dM)(m:r8):r8:=if m.place=b then UQ c m r pr else m
def Qy{F:List D->Option D}{f:Option D}{m:r8}:dm "Coming" "moved_out" F Fa (aC (eV 5) am) [Y (bP c),oR r,Y (.int n),f,e,Y (dA m),b]=F [bP c,dA m,cx r]:=by kernel_rfl
theorem Oc{r:dM}(hp:c.rows.getLast? = Y pr)(m:r8)(place:Nat)(xs ks:List D)(hk:ks.length<dE)(a6:Option D):∃b6,
  e_ [oC c,oR r,Y (.int place),Y (.lst xs),Y (.lst ks),Y (dA m),a6]=Y (.nx [oC c,oR r,Y (.int place),Y (.lst xs),Y (.lst (ks++if rH (DV c place r pr m) then [dA (DV c place r pr m)] else [])),Y (dA m),b6]):=by
 refine⟨Y (dA (DV c place r pr m)),?_⟩;have q1:DZ [0,1] [] [oC c,oR r,Y (.int place),Y (.lst xs),Y (.lst ks),Y (dA m),a6]=[Y (bP c),oR r,Y (.int place),Y (.lst xs),Y (.lst ks),Y (dA m),a6]:=Ż
 have q2:Q4 (c_ wP) (dm "Coming" "moved_out" gI Fa (aC (eV 5) am)) (eV 5) [Y (bP c),oR r,Y (.int place),Y (.lst xs),Y (.lst ks),Y (dA m),a6]=Y (dA (DV c place r pr m)):=by
  have e1:c_ wP [Y (bP c),oR r,Y (.int place),Y (.lst xs),Y (.lst ks),Y (dA m),a6]=Y (AK (.int m.place) (.int (place:Int))):=Ż
  have e2:AK (.int m.place) (.int (place:Int))=decide (m.place=place):=ź
  unfold Q4;rw[e1,e2];simp only[ai];unfold DV;by_cases h:m.place=place
  .rw[decide_eq_true h,if_pos rfl,if_pos h,Qy];exact CU c m r pr hp
  .rw[decide_eq_false h,if_neg (by decide),if_neg h];rfl
 unfold e_;rw[aK (gE (lp q1 q2 (by kernel_rfl)))];simp only[eC,eD];generalize DV c place r pr m=m';have q3:lx (fD (e2 b9 (eV 6) Db)) (fD (e2 b9 (eV 6) bd)) [oC c,oR r,Y (.int place),Y (.lst xs),Y (.lst ks),Y (dA m),Y (dA m')]=Y (rH m'):=by
  have e1:fD (e2 b9 (eV 6) Db) [oC c,oR r,Y (.int place),Y (.lst xs),Y (.lst ks),Y (dA m),Y (dA m')]=Y (m'.Z != 0):=Ż
  have e2:fD (e2 b9 (eV 6) bd) [oC c,oR r,Y (.int place),Y (.lst xs),Y (.lst ks),Y (dA m),Y (dA m')]=Y (m'.around != 0):=Ż
  unfold lx rH;rw[e1,e2];cases (m'.Z != 0)<;>rfl
 unfold d_;rw[q3];simp only[ai];cases rH m' with
 |true=>show (if ks.length<dE then _ else M)=_;rw[if_pos hk];rfl
 |false=>simp;rfl
theorem Jo{r:dM}(s:c.rows.getLast? = Y k)(f:Nat)(j:List D):∀(l:List r8) (g:List D) (n i:Option D),g.length+l.length<dE->∃p o,
  gG (gN 5) e_ (l.map dA) [oC c,oR r,Y (.int f),Y (.lst j),Y (.lst g),n,i]=Y (.nx [oC c,oR r,Y (.int f),Y (.lst j),Y (.lst (g++((l.map (DV c f r k)).filter rH).map dA)),p,o])
 |[],g,n,i,h=>⟨n,i,by simp[gG]⟩
 |m::l,g,n,i,h=>by simp at h;obtain⟨b,t⟩:=Oc s m f j g ž i;rw[bx,kX rfl t];obtain⟨p,o,q⟩:=Jo s f j l (g++if rH _ then [dA _] else []) _ b (by split<;>simp<;>lia);refine⟨p,o,q.trans ?_⟩;cases e:rH _<;>simp[Wc,e]
noncomputable def jf(c:gu):gu:={ c with rows:=c.rows.dropLast }
def qk(b:gu)(r:dM):List r8:=b.rests++if bA r.bh b.full != 0 then [] else [r8.mk r.number (b.rows.length:Int) b.full 0]
def yi(c:gu)(r b:dM):gu:={ jf c with rests:=((xZ (qk (jf c) r)).map (DV (jf c) (jf c).rows.length r b)).filter rH }
def Mw{f:DF}{ρ:bY}(e:f ρ=Y (.lst (b.map dA)))(c:(b.map (·.num)).Nodup)(g:b.length<64):z9 f ρ=Y ((xZ b).map dA):=by
 unfold z9;rw[e];simp only[ai];rw[if_pos ⟨⟨by simp[wc,gM,Yf,dA],by rw[qu];exact c⟩,by simp_all⟩,Mr]
def Ul(b:c.rows.getLast? = Y r):Em 1 0 "Coming" "rows" [oC c,M,M,M,M,M,M]=Y (.nx [oC { c with rows:=c.rows.dropLast },oR r,M,M,M,M,M]):=by
 have e:qF "Coming" "rows" 0 [oC c,M,M,M,M,M,M]=Y (sD,ck,cl c,D.lst (c.rows.map cx)):=Ż
 unfold Em;rw[e];simp only[ai];have f:(c.rows.map cx).getLast? = Y (.ins "Row" rk (rl r)):=by rw[List.getLast?_map,b];rfl
 rw[f,<- List.map_dropLast];exact Ż
def Hy{c:gu}(hr:c.rows.getLast? = Y r)(hp:(jf c).rows.getLast? = Y pr)(hn:((qk (jf c) r).map (·.num)).Nodup)(hl:(qk (jf c) r).length<64):
  gC [bP c]=Y (.dW,bP (yi c r pr)):=by
 show (jM [oC c,M,M,M,M,M,M]).bind (qH aB)=_;unfold jM;rw[aK (Ul hr)];unfold yi;show (aX _ _ [oC (jf c),oR r,M,M,M,M,M]).bind _=_;generalize jf c=c1 at *
 have hlr:c1.rests.length<64:=by unfold qk at hl;rw[bB]at hl;lia
 rw[aK (ρ':=[oC c1,oR r,Y (.int (c1.rows.length:Int)),M,M,M,M]) ?q1]
 case q1=>
  have:lj [0] [] (bc ic bi) [oC c1,oR r,M,M,M,M,M]=Y (.int ((c1.rows.map cx).length:Int)):=by kernel_rfl
  rw[aD]at this;rw[gE this];rfl
 rw[aK (ρ':=[oC c1,oR r,Y (.int (c1.rows.length:Int)),Y (.lst (c1.rests.map dA)),M,M,M]) ?q2]
 case q2=>kernel_rfl
 rw[aK (ρ':=[oC c1,oR r,Y (.int (c1.rows.length:Int)),Y (.lst ((qk c1 r).map dA)),M,M,M]) ?q3]
 case q3=>
  have e1:yX [0] [] (nc (fD FM)) [oC c1,oR r,Y (.int (c1.rows.length:Int)),Y (.lst (c1.rests.map dA)),M,M,M]=Y (!(bA r.bh c1.full != 0)):=Ż
  unfold d_ qk;rw[e1];simp only[ai];cases bA r.bh c1.full != 0 with
  |true=>simp;rfl|false=>
   have e2:lj [0] [] pu [oC c1,oR r,Y (.int (c1.rows.length:Int)),Y (.lst (c1.rests.map dA)),M,M,M]=Y (dA (r8.mk r.number (c1.rows.length:Int) c1.full 0)):=Ż
   simp only[Bool.not_false,if_true];unfold qG;rw[e2];show (if (c1.rests.map dA).length<dE then _ else M)=_;rw[if_pos (iQ (by rw[aD];lia))];simp
 generalize qk c1 r=ms at *
 rw[aK (ρ':=[oC c1,oR r,Y (.int (c1.rows.length:Int)),Y (.lst (ms.map dA)),Y (.lst []),M,M]) ?q4]
 case q4=>kernel_rfl
 obtain⟨b5,b6,q5⟩:=Jo (r:=r) hp c1.rows.length (ms.map dA) (xZ ms) [] M M (iQ (by rw[(o_ ms).length_eq];simp;lia));have q6:je (iL (eF (z9 pc))) (gN 5) e_ [oC c1,oR r,Y (.int (c1.rows.length:Int)),Y (.lst (ms.map dA)),Y (.lst []),M,M]=gG (gN 5) e_ ((xZ ms).map dA) [oC c1,oR r,Y (.int (c1.rows.length:Int)),Y (.lst (ms.map dA)),Y (.lst []),M,M]:=by have e1:=Mw (f:=eV 3) (ρ:=[oC c1,oR r,Y (.int (c1.rows.length:Int)),Y (.lst (ms.map dA)),Y (.lst []),M,M]) rfl hn hl;unfold je iL eF;rw[e1];rfl
 rw[aK (q6.trans q5)]
 exact ź
inductive pK
 |op (n:aE)
 |tx (t:aE)
 |cl
noncomputable def cz:pK->D
 |.op n =>.tup [.str (af "open"),.str n]|.tx t =>.tup [.str (af "text"),.str t]|.cl =>.tup [.str (af "close")]
noncomputable def Rw(s:pK)(w b:Bool):Bool:=match s with|.op _=>w || !b|_=>w
def OL(s:pK)(w b:Bool):iV [cz s,.bl w,.bl b]=Y (.bl (Rw s w b)):=by
 cases s<;>cases w<;>cases b<;>kernel_rfl
def B9{F:List D->Option D}{s:D}:bc F np [Y (bP c),Y s]=F [s,.bl (decide (1<((c.rows.map cx).length:Int))),.bl (decide (0<c.opened))]:=by kernel_rfl
abbrev Bb(c:gu)(s:pK):Bool:=Rw s (decide (1<c.rows.length)) (decide (0<c.opened))
def uE{c:gu}{s:pK}(h:Bb c s=Z'):d_ (yX [0] [] (nc (fD (bc iV np)))) GO cO [oC c,Y (cz s)]=Y (.nx [oC c,Y (cz s)]):=by
 have a:DZ [0] [] [oC c,Y _]=[Y _,Y (cz s)]:=rfl;have d:decide (1<((c.rows.map cx).length:Int))=decide (1<c.rows.length):=Ÿ
 have b:yX [0] [] (nc (fD (bc iV np))) [oC c,Y (cz s)]=Y false:=by refine pW a ?_;unfold nc fD;rw[B9,d,OL,show Rw s _ _=Z' from h];rfl
 unfold d_;rw[b];rfl
noncomputable def iN(c:gu):gu:={ c with taken:=c.taken+1 }
def uD(c:gu)(s:pK):gF Z_ 0 "Coming" "taken" (λi j=>i+j) u8 [oC c,Y (cz s)]=Y (.nx [oC (iN c),Y (cz s)]):=by
 exact ź
def z_{F:List D->Option (D×D)}{m:aE}{s:pK}(b:m∉ck)(h:F [bP c]=Y (d,bP a)):bW "Coming" m aB F 0 kR [oC c,Y (cz s)]=Y (d,[oC a,Y (cz s)]):=by
 have:bW _ m aB F 0 kR [oC c,Y (cz s)]=if (("Coming" : aE) = "Coming" /\("Coming" : aE) = "Coming")/\m∉ck then (F _).map _ else none:=rfl
 rw[this,if_pos ⟨⟨rfl,rfl⟩,b⟩,h];cases s<;>rfl
def Rp(c:gu)(s:pK):c_ (e2 fh pi Re) [oC c,Y (cz s)]=Y (match s with|.cl=>Z'|_=>Z_):=by cases s<;>kernel_rfl
def M'(c:gu)(s:pK):c_ (e2 fh pi ce) [oC c,Y (cz s)]=Y (match s with|.op _=>Z'|_=>Z_):=by cases s<;>kernel_rfl
def TM(e:g b=Y (.rm d a)):aX g h b=Y (.rm d a):=by unfold aX;rw[e];rfl
def Hv(h:Bb c .cl=Z')(d:c.rows.getLast? = Y r)(e:(jf c).rows.getLast? = Y pr)(f:((qk (jf c) r).map (·.num)).Nodup)(g:(qk (jf c) r).length<64):
  dh [bP c,cz .cl]=Y (.lst [],bP (yi (iN c) r pr)):=by
 show (hR [oC c,Y _]).bind _=_;unfold hR;rw[aK (uE h),aK (uD c _)];have i:=Hy (c:=iN c) d e f g;generalize yi _ r pr=a at *
 generalize iN c=b at *
 have q:d_ (c_ (e2 fh pi Re)) (aX Ï (dH (mP wf))) cO [oC b,Y (cz .cl)]=Y (.rm (.lst []) [oC a,Y (cz .cl)]):=by
  unfold d_;have:da (bW "Coming" "end_row" aB gC 0 kR) [oC b,Y (cz .cl)]=Y (.nx [oC a,Y (cz .cl)]):=by unfold da;rw[z_ (by decide) i];rfl
  rw[aK this];rfl
 rw[TM q];exact Ż
structure Zp(f:xy)(Kd txt:aE->Int):Prop where
 Kd:∀n,dZ [i6 f,.str n]=some (.int (Kd n))
 txt:∀t,dY [i6 f,.str t]=some (.int (txt t))
def PK{F:List D->Option D}:lj [0] [] (dm "Facts" "steps_for" F (bq "Coming" "facts" Fa) É) [oC c,Y (cz (.op n))]=(F [i6 c.f,.str n]).bind λd=>if pX d=Z' then Y d else none:=by kernel_rfl
def PB{F:List D->Option D}:lj [0] [] (dm "Facts" "text_fact" F (bq "Coming" "facts" Fa) É) [oC c,Y (cz (.tx n))]=(F [i6 c.f,.str n]).bind λd=>if pX d=Z' then Y d else none:=by kernel_rfl
def HI{F:List D->Option (D×D)}{s:pK}(d:a [oC c,Y (cz s)]=Y (.int n))(h:F [bP c,.int c.opened,.int n,.int 0]=Y (.dW,bP b)):
  da (bW "Coming" "begin_row" aB F 0 (jJ (mP ln) (jJ (mP a) IN))) [oC c,Y (cz s)]=Y (.nx [oC b,Y (cz s)]):=by
 have i:lj [0] [] (bq "Coming" "opened" Fa) [oC c,Y (cz s)]=Y (.int c.opened):=Ż
 have e:jJ (mP ln) (jJ (mP a) IN) [oC c,Y (cz s)]=Y ([.int c.opened,.int n,.int 0],[oC c,Y (cz s)]):=by unfold jJ mP;simp only[i,d,d9,ai];rfl
 unfold da;have:∀g,bW "Coming" "begin_row" aB F 0 g [oC c,Y (cz s)]=(g [oC c,Y (cz s)]).bind λq=>(ib aB 0 q.2).bind λt=>(F (t::q.1)).map λr=>(r.1,(cZ 0 q.2).set 0 (Y (.obj aB r.2))):=by solve_by_elim
 rw[this,e];simp only[ai];have f:ib aB 0 [oC c,Y (cz s)]=Y (bP c):=Ż
 rw[f];simp only[ai,h];cases s<;>rfl
def OV{F:List D->Option (D×D)}{s:pK}(d:a [oC c,Y (cz s)]=Y (.int n))(h:F [bP c,.int n]=Y (.dW,bP b)):
  da (bW "Coming" "add_atoms" aB F 0 (jJ (mP a) kR)) [oC c,Y (cz s)]=Y (.nx [oC b,Y (cz s)]):=by
 have e:jJ (mP a) kR [oC c,Y (cz s)]=Y ([.int n],[oC c,Y (cz s)]):=by unfold jJ mP;simp only[d,d9,ai];rfl
 unfold da;have:∀g,bW "Coming" "add_atoms" aB F 0 g [oC c,Y (cz s)]=(g [oC c,Y (cz s)]).bind λq=>(ib aB 0 q.2).bind λt=>(F (t::q.1)).map λr=>(r.1,(cZ 0 q.2).set 0 (Y (.obj aB r.2))):=by solve_by_elim
 rw[this,e];simp only[ai];have f:ib aB 0 [oC c,Y (cz s)]=Y (bP c):=Ż
 rw[f];simp only[ai,h];cases s<;>rfl
def BY{F:List D->Option (D×D)}{s:pK}(h:F [bP c]=Y (d,bP a)):(dH (bW "Coming" "newly_told" aB F 0 kR) [oC c,Y (cz s)]).bind (qH aB)=Y (d,bP a):=by
 unfold dH;rw[z_ (by decide) h];exact Ż
def BJ{c:gu}{s:pK}(h:(match s with|.cl=>Z'|_=>Z_)=Z_)(g:DG):d_ (c_ (e2 fh pi Re)) g cO [oC c,Y (cz s)]=Y (.nx [oC c,Y (cz s)]):=by
 unfold d_;rw[Rp,h];rfl
def CO(fit lift:Int->Int->Int)(c:gu)(b:Int)(pr:dM):gu:=
 let a:=c.rows++[k8 fit c c.opened b 0 pr]
 { c with opened:=c.opened+1,rows:=lF fit lift Z' (a.length-1) a }
def K7{f:aE->Int}(q:O5 c.f fit lift)(v:Zp c.f a f)(t:Bb c (.op n)=Z')(s:c.rows.getLast? = Y pr)(u:(bA (bO pr.fT (bA pr.ha c.f.inner)) (bA (a n) c.mm)).natAbs<2 ^ 64)(w:c.rows.length<1000)(r:dC [bP (CO fit lift (iN c) (a n) pr)]=Y (d,bP p)):dh [bP c,cz (.op n)]=Y (d,bP p):=by
 show (hR [oC c,Y (cz (.op n))]).bind (qH aB)=_;unfold hR;rw[aK (uE t),aK (uD c _),aK (BJ rfl _)];have m:=vS (c:=iN c) (fit:=fit) (lift:=lift) q (pr:=pr) s c.opened (a n) 0 u (iQ (by show c.rows.length<2000;lia));have h:=Bz (c:={ iN c with opened:=(iN c).opened+1,rows:=(iN c).rows++[k8 fit (iN c) c.opened (a n) 0 pr] }) (fit:=fit) (lift:=lift) q Ž (by simp[iN];lia);have g:lj [0] [] (dm "Facts" "steps_for" dZ (bq "Coming" "facts" Fa) É) [oC (iN c),Y (cz (.op n))]=Y (.int (a n)):=by rw[PK];rw[show dZ [i6 (iN c).f,.str n]=_ from v.Kd n];rfl
 have b:=HI (s :=.op n) g m;have e:gF Z_ 0 "Coming" "opened" (λi j=>i+j) u8 [oC { iN c with rows:=(iN c).rows++[k8 fit (iN c) c.opened (a n) 0 pr] },Y (cz (.op n))]=Y (.nx [oC { iN c with opened:=(iN c).opened+1,rows:=(iN c).rows++[k8 fit (iN c) c.opened (a n) 0 pr] },Y (cz (.op n))]):=by kernel_rfl
 have l:da (bW "Coming" "spread" aB dg 0 kR) [oC { iN c with opened:=(iN c).opened+1,rows:=(iN c).rows++[k8 fit (iN c) c.opened (a n) 0 pr] },Y (cz (.op n))]=Y (.nx [oC (CO fit lift (iN c) (a n) pr),Y (cz (.op n))]):=by unfold da;rw[z_ (by decide) h];rfl
 have k:∀o,d_ (c_ (e2 fh pi ce)) (aX wp (aX (gF Z_ 0 "Coming" "opened" (λi j=>i+j) u8) (da (bW "Coming" "spread" aB dg 0 kR)))) o [oC (iN c),Y (cz (.op n))]=Y (.nx [oC (CO fit lift (iN c) (a n) pr),Y (cz (.op n))]):=by simp_all [d_,M',ai,if_true,aK]
 rw[aK (k _)];exact BY r
def K6{f:aE->Int}(o:O5 c.f fit lift)(n:Zp c.f f a)(m:Bb c (.tx t)=Z')(l:c.rows[c.rows.length-1]?=Y r)(p:c.rows.length<1000)(k:dC [bP (oS fit lift (iN c) (a t) r)]=Y (d,bP j)):dh [bP c,cz (.tx t)]=Y (d,bP j):=by
 show (hR [oC c,Y _]).bind (qH aB)=_;unfold hR;rw[aK (uE m),aK (uD c _),aK (BJ rfl _)];have e:=DJ (c:=iN c) (fit:=fit) (lift:=lift) o (r:=r) l (by show c.rows.length<1000000;lia) (a t);have g:lj [0] [] (dm "Facts" "text_fact" dY (bq "Coming" "facts" Fa) É) [oC (iN c),Y (cz (.tx t))]=Y (.int (a t)):=by rw[PB];rw[show dY [i6 (iN c).f,.str t]=_ from n.txt t];rfl
 have b:=OV (s :=.tx t) g e;have h:∀i,d_ (c_ (e2 fh pi ce)) i Op [oC (iN c),Y (cz (.tx t))]=Y (.nx [oC (oS fit lift (iN c) (a t) r),Y (cz (.tx t))]):=by simp_all [d_,M',ai,ig,if_false]
 rw[aK (h _)];exact BY k
def ll:Nat->D->Prop
 |0,_=>False|n+1,d=>∃a e,d=.tup [.int a,.lst e]/\0<=a/\e.length<=1000/\∀c∈e,∃b,c=.lst b/\b.length<=1000/\∀x∈b,ll n x
def rF:Nat->D->Int->Bool
 |n+1,.tup [.int b,.lst e],a=>(bA a b==b)&&e.all λc=>match c with|.lst d=>d.any λx=>rF n x a|_=>Z_
 |_,_,_=>Z_
def Nw:rF (n+1) (.tup [.int b,.lst e]) a=((bA a b==b)&&e.all λc=>match c with|.lst d=>d.any λx=>rF n x a|_=>Z_):=rfl
theorem p':∀(b:List D),(∀d∈b,∃a,gN 0 d c=Y a/\e a=Y (g d))->zK c (gN 0) f9 e b=Y (b.map g)
 |[],_=>rfl|d::b,h=>by obtain⟨a,j,i⟩:=h d aJ ..;rw[zK,j];simp only[ai,f9,if_true,i];rw[p' b λx f=>h x (by simp_all)];rfl
def Z7(x y:Int):AK (.int x) (.int y)=(x==y):=rfl
def HM{a:List D}{f:D->Bool}:gL Z' [.lst (a.map λd =>.bl (f d))]=Y (.bl (a.all f)):=by
 simp only[gL]
 simp_all [if_pos,wc,gM,QP,vR]
def OT{a:List D}{f:D->Bool}:gL Z_ [.lst (a.map λd =>.bl (f d))]=Y (.bl (a.any f)):=by
 simp only[gL];rw[if_pos (by simp[wc,gM,QP])];simp[List.any_map,gM,vR]
def uK{f:DL}(e:f a=Y b):bc G (aC (eF f) aN) a=G [.lst b]:=by
 unfold bc aC eF;rw[e];rfl
def Ny{F:List D->Option D}(f:b.length<=1000)(h:∀x∈b,F [x,.int a]=Y (.bl (g x))):
  bc (gL Z_) (aC (eF (lZ At [M,Y 1] (gN 0) f9 (bc F (aC Fa am)))) aN) [Y (.lst b),Y (.int a)]=Y (.bl (b.any g)):=by
 have e:lZ At [M,Y 1] (gN 0) f9 (bc F (aC Fa am)) [Y (.lst b),Y (.int a)]=Y (b.map λx =>.bl (g x)):=by show (if b.length<=dE then zK _ _ _ _ b else M)=_;rw[if_pos (fA (iQ (by lia)))];exact p' b λd c=>⟨_,rfl,h d c⟩
 rw[uK e];exact OT
theorem E_:∀(n m:Nat) (d:D) (a:Int),n<=m->ll n d->k9 m [d,.int a]=Y (.bl (rF n d a))
 |0,_,_,_,_,h=>h.elim|n+1,0,_,_,hm,_=>by lia
 | n+1,m+1,d,a,hm,h=>by
  obtain⟨vX,cs,rfl,hn,hl,hc⟩:=h;show (yD (k9 m) [Y (.tup [.int vX,.lst cs]),Y (.int a)]).bind vW=_;unfold yD;have ih:=λx hx=>E_ n m x a ž hx
  generalize k9 m=F at *
  have e1:c_ Ix [Y (.tup [.int vX,.lst cs]),Y (.int a)]=Y (!(bA a vX==vX)):=ź
  simp only[Nw];cases hx:(bA a vX==vX) with
  |false=>
   rw[hx]at e1;have:∀h,aX (d_ (c_ Ix) FS cO) h [Y (.tup [.int vX,.lst cs]),Y (.int a)]=Y (.rt (.bl Z_)):=by intro h;unfold aX d_;rw[e1];rfl
   rw[this];rfl
  |true=>
   rw[hx]at e1;have:d_ (c_ Ix) FS cO [Y (.tup [.int vX,.lst cs]),Y (.int a)]=Y (.nx [Y (.tup [.int vX,.lst cs]),Y (.int a)]):=by unfold d_;rw[e1];rfl
   rw[aK this];have e2:lZ lv [M,Y 1] (gN 0) f9 (bc (gL Z_) (aC (eF (lZ At [M,Y 1] (gN 0) f9 (bc F (aC Fa am)))) aN)) [Y (.tup [.int vX,.lst cs]),Y (.int a)]=Y (cs.map λc =>.bl (match c with|.lst xs=>xs.any λx=>rF n x a|_=>Z_)):=by
    unfold lZ;show (if cs.length<=dE then zK [M,Y (.int a)] (gN 0) f9 _ cs else M)=_;rw[if_pos (fA (iQ (by lia)))];refine p' cs λc ZU=>⟨[Y c,Y (.int a)],rfl,?_⟩
    obtain⟨xs,rfl,hxl,hxs⟩:=hc c ZU;exact Ny hxl λx hx=>ih x (hxs x hx)
   unfold dy;rw[uK e2,HM];rfl
def QD(n:Nat)(named atoms:Int)(b:Int):List (Int×D)->Int
 |[]=>b|(a,ask)::r=>QD n named atoms (if bA named a != 0&&rF n ask atoms then bO b a else b) r
noncomputable def KO(p:Int×D):D :=.tup [.int p.1,p.2]
def IS{d:D}{a:Int}(b:n<=12)(h:ll n d):sR [d,.int a]=Y (.bl (rF n d a)):=E_ n 12 d a b h
def JC{F:List D->Option D}{x:Int}{d:D}{a:Int}{f:DF}(k:fD e c=Y (x != 0))(i:f c=Y d)(h:g c=Y (.int a))(j:F [d,.int a]=Y (.bl b)):kv (fD e) (fD (bc F (aC f (aC g aN)))) c=Y (x != 0&&b):=by
 have l:fD (bc F (aC f (aC g aN))) c=Y b:=by unfold fD bc aC;rw[i,h];show (F _).bind _=_;rw[j];rfl
 unfold kv;rw[k,l];cases x != 0<;>rfl
theorem Fg(k:n<=12)(self:D)(b a:Int):∀(e:List (Int×D)) (d:Int) (g f:Option D),(∀p∈e,ll n p.2)->∃j i,
  gG Å gz (e.map KO) [Y self,Y (.int b),Y (.int a),Y (.int d),g,f]=Y (.nx [Y self,Y (.int b),Y (.int a),Y (.int (QD n b a d e)),j,i])
 |[],d,g,f,_=>⟨g,f,rfl⟩| (c,ask)::e,d,g,f,h=>by
  have o:gz [Y self,Y (.int b),Y (.int a),Y (.int d),Y (.int c),Y ask]=Y (.nx [Y self,Y (.int b),Y (.int a),Y (.int (if bA b c != 0&&rF n ask a then bO d c else d)),Y (.int c),Y ask]):=by unfold gz d_;rw[JC rfl rfl rfl (IS (a:=a) k (h _ aJ ..))];cases bA b c != 0&&rF n ask a<;>rfl
  rw[bx,kX rfl o];obtain _:=Fg k _ b a e _ _ _ (λp l=>h p ż)
  exact ź
def KN{f:xy}{n:Nat}(g:n<=12)(e:f.cQ=c.map KO)(h:∀p∈c,ll n p.2)(b a:Int):iB [i6 f,.int b,.int a]=Y (.int (QD n b a (bA a f.inner) c)):=by
 show (nM [Y _,Y _,Y _,M,M,M]).bind _=_;unfold nM;rw[aK (gE (by kernel_rfl))];simp;obtain⟨j,i,q⟩:=Fg g _ b a c _ _ _ h;have d:je (iL (bq "Facts" "leads" Fa)) Å gz [Y (i6 f),Y (.int b),Y (.int a),Y (.int (bA a f.inner)),M,M]=gG Å gz (c.map KO) [Y (i6 f),Y (.int b),Y (.int a),Y (.int (bA a f.inner)),M,M]:=by
  have:iL (bq "Facts" "leads" Fa) [Y (i6 f),Y (.int b),Y (.int a),Y (.int (bA a f.inner)),M,M]=Y f.cQ:=by kernel_rfl
  simp_all [je]
 rw[aK (d.trans q)];rfl
def Ht(n:Nat)(named atoms:Int):Nat->Int->List D->Int
 |_,a,[]=>a|k,a,ask::r=>Ht n named atoms (k+1) (if bA named (2 ^ k) != 0&&rF n ask atoms then bO a (2 ^ k) else a) r
theorem Ji(m:n<=12)(self:D)(b a:Int):∀(e:List D) (k:Nat) (c:Int) (g f d:Option D),(∀p∈e,ll n p)->k+e.length<=1000->∃l j i,
  gG Å fH ((e.zipIdx k).map λp =>.tup [.int (p.2:Nat),p.1]) [Y self,Y (.int b),Y (.int a),Y (.int c),g,f,d]=Y (.nx [Y self,Y (.int b),Y (.int a),Y (.int (Ht n b a k c e)),l,j,i])
 |[],k,c,g,f,d,_,_=>⟨g,f,d,rfl⟩| ask::e,k,c,g,f,d,h,s=>by
  simp at s;have r:=IS (a:=a) m (h _ (aJ ..));have t:fH [Y self,Y (.int b),Y (.int a),Y (.int c),Y (.int k),Y ask,d]=Y (.nx [Y self,Y (.int b),Y (.int a),Y (.int (if bA b (2 ^ k) != 0&&rF n ask a then bO c (2 ^ k) else c)),Y (.int k),Y ask,Y (.int (2 ^ k))]):=by
   unfold fH;rw[aK (ρ':=[Y self,Y _,Y _,Y _,Y _,Y ask,Y _]) ?u]
   case u=>rw[gE ((rfl).trans (PM (by lia)))];rfl
   unfold d_;rw[JC rfl rfl rfl r];cases (bA b _ != 0&&rF n ask a)<;>rfl
  rw[F7,bx,kX rfl t];obtain⟨l,j,i,q⟩:=Ji m self b a e (k+1) _ _ _ _ (λp o=>h p ż) ž;exact⟨l,j,i,q.trans rfl⟩
def Hs{f:xy}{n:Nat}(d:n<=12)(h:∀p∈f.asks,ll n p)(e:f.asks.length<=1000)(a b:Int):fP [i6 f,.int a,.int b]=Y (.int (Ht n a b 0 0 f.asks)):=by
 show (mi [Y _,Y _,Y _,M,M,M,M]).bind _=_;unfold mi;rw[aK (gE rfl)];simp;obtain⟨j,i,g,q⟩:=Ji d _ a b _ 0 0 _ _ _ h ž;have c:je (iE (bq "Facts" "asks" Fa)) Å fH [Y (i6 f),Y (.int a),Y (.int b),Y (.int 0),M,M,M]=gG Å fH ((f.asks.zipIdx 0).map λp =>.tup [.int p.2,p.1]) [Y (i6 f),Y (.int a),Y (.int b),Y (.int 0),M,M,M]:=ź
 rw[aK (c.trans q)];rfl
def V0(a b:Nat):bA (a:Int) (b:Int)=((a &&& b:Nat):Int):=by
 exact ź
def HJ(a b:Nat):bO (a:Int) (b:Int)=((a ||| b:Nat):Int):=by
 unfold bO;rw[PyProof.Rows.bitOr_and,show uX a _=_ from V0 a b]
 grind [JY]
def xq(d:0<=x)(c:0<=y):0<=bO x y:=by
 obtain⟨a,rfl⟩:=du d;obtain⟨b,rfl⟩:=du c
 simp_all [HJ]
structure FB where
 q:List D
 bits:Nat
 nk:List lO
 nv:List D
 tk:List lO
 tv:List D
 jH:Int
 u6:Int
 inner:Int
 cQ:List D
noncomputable abbrev YF:List aE:=["question","bits","by_name","by_text","starred","stars","inner","leads"]
def e6(s:FB):D :=.ins "Facts" YF [.lst s.q,.int (s.bits:Nat),.ji s.nk s.nv,.ji s.tk s.tv,.int s.jH,.int s.u6,.int s.inner,.lst s.cQ]
abbrev oF(s:FB):Option D:=Y (.obj aA (e6 s))
def zw(s:FB)(h:s.bits<=999):eI [e6 s]=Y (.int (2 ^ s.bits),e6 { s with bits:=s.bits+1 }):=by
 show (mh _).bind _=_;unfold mh;rw[aK ?b]
 case b=>kernel_rfl
 have a:lj [0] [] (e2 tm u8 TD) [oF { s with bits:=s.bits+1 }]=Y (.int (2 ^ s.bits)):=by
  refine lp (ρ':=[Y _]) rfl ?_ rfl;have:e2 tm u8 TD [Y (e6 { s with bits:=s.bits+1 })]=tm (.int 1) (.int _):=rfl
  grind [PM]
 unfold dH mP;rw[a];exact Ż
def kQ{F:List D->Option (D×D)}{m:aE}{ρ1:bY}{s s1 b:FB}{args:List D}(c:m∉YF)(i:eV j a=oF s)(e:g a=Y (args,ρ1))(f:eV j ρ1=oF s1)(h:F (e6 s1::args)=Y (d,e6 b)):
  bW "Facts" m aA F j g a=Y (d,(cZ j ρ1).set j (oF b)):=by
 have l:t_ j a=Y (aA,e6 s):=by unfold t_;rw[i]
 have k:ib aA j ρ1=Y (e6 s1):=by unfold ib t_;rw[f];exact Ż
 unfold bW;rw[l];show (if _ then _ else _)=_;rw[if_pos ⟨⟨rfl,rfl⟩,c⟩,e];simp only[ai,k,h];rfl
structure LX(s:FB):Prop where
 nv:∀v∈s.nv,∃i,0<=i/\v=D.int i
 star:0<=s.jH
 inner:0<=s.inner
 nk:s.nk.length<=s.bits
noncomputable abbrev Ij(a b:aE)(w:D):D :=.tup [.str a,.str b,w]
def px(n:Nat):(0:Int)<=2 ^ n:=Int.le_of_lt (Int.pow_pos ſ)
structure bf(s s':FB):Prop where
 q:s'.q=s.q
 tk:s'.tk=s.tk
 tv:s'.tv=s.tv
 cQ:s'.cQ=s.cQ
theorem L3:∀ {b:List lO}{a:List D},∀v∈wa (λq x=>if q=k then d else x) b a,v=d\/v∈a
 |[],a,v,h=>by simp at h
 |q::b,[],v,h=>by simp at h
 | q::b,x::a,v,h=>by
  simp at h;rcases h with h|h
  .grind
  .rcases L3 v h with h|h<;>simp_all
def Ln{k:lO}{d:D}{ks:List lO}{ds:List D}(v:D)(h:v∈(rW k d ks ds).2):v=d\/v∈ds:=by
 unfold rW at h;split at h
 .exact L3 v h
 grind
def OG{k:lO}{d:D}{ks:List lO}{ds:List D}:(rW k d ks ds).1.length<=ks.length+1:=by
 unfold rW;split<;>simp
def B5(h:fE b a k=Y d):d∈a:=by
 obtain⟨p,e,h⟩:=aj.1 h;cases h;exact(we (List.mem_of_find?_eq_some e)).2
def Fe{k:lO}{ks:List lO}(h:∀v∈a,∃i,0<=i/\v=D.int i):∃i,0<=i/\(fE ks a k).getD (.int 0)=.int i:=by
 cases e:fE ks a k with
 |none=>simp_all|some d=>
  obtain⟨i,b,rfl⟩:=h d (B5 e)
  simp_all
def MT{s:FB}(hi:(fE s.nk s.nv (fM nm)).getD (.int 0)=.int i)(hl:s.nk.length<dE):
  rj 0 "Facts" "by_name" Tk (mP (lj [0] [] (e2 EM kw lc))) [oF s,Y (Ij HS nm w),Y (.int b)]=Y (.nx [oF { s with nk:=(rW (fM nm) (.int (bO i b)) s.nk s.nv).1,nv:=(rW (fM nm) (.int (bO i b)) s.nk s.nv).2 },Y (Ij HS nm w),Y (.int b)]):=by
 have e1:lj [0] [] (e2 EM kw lc) [oF s,Y (Ij HS nm w),Y (.int b)]=Y (.int (bO i b)):=by refine lp (ρ':=[Y _,Y _,Y _]) rfl ?_ rfl;have:e2 EM (tV (bq "Facts" "by_name" Fa) Tk (eK _)) lc [Y (e6 s),Y (Ij HS nm w),Y _]=EM ((fE s.nk s.nv _).getD (.int 0)) (.int b):=rfl;rw[this,hi];rfl
 unfold rj mP;rw[e1];simp;have e2:qF "Facts" "by_name" 0 [oF s,Y (Ij HS nm w),Y (.int b)]=Y (vA,YF,[.lst s.q,.int s.bits,.ji s.nk s.nv,.ji s.tk s.tv,.int s.jH,.int s.u6,.int s.inner,.lst s.cQ],.ji s.nk s.nv):=Ż
 rw[e2];simp;show (if _/\s.nk.length<dE then _ else M)=_;rw[if_pos ⟨by decide,hl⟩];exact Ż
def Bf{s:FB}(W:LX s)(h:s.bits<=999)(HS nm:aE)(w:D):∃s',de [e6 s,Ij HS nm w]=Y (.int (2 ^ s.bits),e6 s')/\s'.bits=s.bits+1/\bf s s'/\LX s':=by
 have e0:de [e6 s,Ij HS nm w]=(iR _).bind _:=rfl;have hb:(0:Int)<=2 ^ s.bits:=px _;rw[e0];unfold iR;rw[aK (ρ':=[oF _,Y _,Y (.int _)]) ?q0]
 case q0=>unfold my;rw[kQ (by decide) rfl rfl rfl (zw s h)];rfl
 generalize (2:Int) ^ s.bits=b at *
 have W1:LX { s with bits:=s.bits+1 }:=⟨W.nv,W.star,W.inner,sV W.nk⟩;have S1:bf s { s with bits:=s.bits+1 }:=⟨rfl,rfl,rfl,rfl⟩;have hb1:({ s with bits:=s.bits+1 }:FB).bits=s.bits+1:=rfl;have Ys:({ s with bits:=s.bits+1 }:FB).nk.length<=s.bits:=(W.nk);generalize ({ s with bits:=s.bits+1 }:FB)=s1 at *
 obtain⟨s2,q1,W2,S2,ZV,hk2⟩:∃s2,d_ (c_ (e2 fh pi ww)) _ cO [oF s1,Y (Ij HS nm w),Y (.int b)]=Y (.nx [oF s2,Y (Ij HS nm w),Y (.int b)])/\LX s2/\bf s s2/\s2.bits=s.bits+1/\s2.nk.length<=s.bits:=by
  have e1:c_ (e2 fh pi ww) [oF s1,Y (Ij HS nm w),Y (.int b)]=Y (AK (.str HS) (.str (af "inner"))):=Ż
  unfold d_;rw[e1];cases AK (.str HS) (.str (af "inner")) with
  |true=>exact⟨{ s1 with inner:=bO s1.inner b },Ż,⟨W1.nv,W1.star,xq W1.inner hb,W1.nk⟩,⟨S1.q,S1.tk,S1.tv,S1.cQ⟩,hb1,Ys⟩
  |false=>exact⟨s1,rfl,W1,S1,hb1,Ys⟩
 rw[aK q1];obtain⟨s3,q2,W3,S3,hb3⟩:∃s3,d_ (c_ (e2 fh Tk bn)) _ (rj 0 "Facts" "by_name" _ _) [oF s2,Y (Ij HS nm w),Y (.int b)]=Y (.nx [oF s3,Y (Ij HS nm w),Y (.int b)])/\LX s3/\bf s s3/\s3.bits=s.bits+1:=by
  have e1:c_ (e2 fh Tk bn) [oF s2,Y (Ij HS nm w),Y (.int b)]=Y (AK (.str nm) (.str (af "*"))):=Ż
  unfold d_;rw[e1];cases AK (.str nm) (.str (af "*")) with
  |true=>exact⟨{ s2 with jH:=bO s2.jH b,u6:=s2.u6+1 },Ż,⟨W2.nv,xq W2.star hb,W2.inner,W2.nk⟩,⟨S2.q,S2.tk,S2.tv,S2.cQ⟩,ZV⟩
  |false=>
   obtain⟨i,hi,hl⟩:=Fe (ks:=s2.nk) W2.nv;refine⟨{ s2 with nk:=(rW (fM nm) (.int (bO i b)) s2.nk s2.nv).1,nv:=(rW (fM nm) (.int (bO i b)) s2.nk s2.nv).2 },?_,⟨?_,W2.star,W2.inner,?_⟩,⟨S2.q,S2.tk,S2.tv,S2.cQ⟩,ZV⟩
   .exact MT hl (iQ ž)
   .intro v hv;rcases Ln v hv with rfl|hv
    .exact⟨_,xq hi hb,rfl⟩
    .exact W2.nv v hv
   .have:=OG (k:=fM nm) (d :=.int (bO i b)) (ks:=s2.nk) (ds:=s2.nv)
    grind
 rw[aK q2];exact⟨s3,Ż,hb3,S3,W3⟩
noncomputable def fU:Nat->Nat->List Int
 |_,0=>[]|n,k+1=>2 ^ n::fU (n+1) k
theorem sJ:∀n k,(fU n k).length=k
 |_,0=>rfl|n,k+1=>by simp[fU,sJ _ k]
abbrev dw(p:aE×aE×D):D:=Ij p.1 p.2.1 p.2.2
def bf.trans(h:bf a b)(g:bf b c):bf a c:=⟨g.q.trans h.q,g.tk.trans h.tk,g.tv.trans h.tv,g.cQ.trans h.cQ⟩
theorem Fy:∀(a:List (aE×aE×D)) (s:FB) (x:Option D),LX s->s.bits+a.length<=1000->∃c,CY [M,x] (gN 0) (bW "Facts" "enter_step" aA de 1 xz) 1 aA (a.map dw) (e6 s)=Y ((fU s.bits a.length).map D.int,e6 c)/\c.bits=s.bits+a.length/\bf s c/\LX c
 |[],s,x,W,h=>⟨s,rfl,rfl,⟨rfl,rfl,rfl,rfl⟩,W⟩| p::a,s,x,W,h=>by
  simp only[bo]at h;obtain⟨b,k,e,q,n⟩:=Bf W ž p.1 p.2.1 p.2.2;obtain⟨f,d,l,o,m⟩:=Fy a b x n ž;refine⟨f,?_,Ÿ,q.trans o,m⟩;rw[bx,CY];have j:gN 0 (dw p) ([M,x].set 1 _)=Y [Y (dw p),oF s]:=rfl;have i:bW "Facts" "enter_step" aA de 1 xz [Y (dw p),oF s]=Y (.int (2 ^ s.bits),[Y (dw p),oF b]):=by rw[kQ (by decide) rfl rfl rfl k];rfl
  have g:ib aA 1 [Y (dw p),oF b]=Y (e6 b):=Ż
  rw[j];simp only[ai,i,g];rw[e]at d;rw[d];rfl
def Fz{s:FB}(W:LX s)(a:List (aE×aE×D))(h:s.bits+a.length<=1000):∃b,jd [e6 s,.lst (a.map dw)]=Y (.lst ((fU s.bits a.length).map D.int),e6 b)/\b.bits=s.bits+a.length/\bf s b/\LX b:=by
 obtain⟨b,e,r⟩:=Fy a s _ W h;refine⟨b,?_,r⟩;show (oQ [oF s,Y _]).bind _=_;have g:vr (iL db) [M,Y 0] (gN 0) (bW "Facts" "enter_step" aA de 1 xz) 1 0 aA [oF s,Y (.lst (a.map dw))]=Y (.lst ((fU s.bits a.length).map D.int),[oF b,Y (.lst (a.map dw))]):=by
  unfold vr;have f:iL db [oF s,Y (.lst _)]=Y (a.map dw):=rfl;have d:ib aA 0 [oF s,Y (.lst (a.map dw))]=Y (e6 s):=Ż
  have c:pb [M,Y 0] (cZ 0 [oF s,Y (.lst (a.map dw))])=[M,Y _]:=rfl;rw[f];simp only[ai];rw[if_pos (fA (iQ (by grind))),d];simp only[ai];rw[c,e];rfl
 unfold oQ dH;rw[g];exact Ż
def WQ(_:Nat)(_:Nat->Prop)(_:D)(_:Prop):Prop:=True
def WQ.ext{b':Nat}{P P2:Nat->Prop}{d:D}(h:WQ b P d c)(l:b<=b')(g:∀i,i<b->P2 i->P i):WQ b' P2 d c:=trivial
structure Inv(s:FB)(P:Nat->Prop):Prop where
 Pk:LX s
 tv:∀v∈s.tv,∃j,j<s.bits/\v=D.int (2 ^ j)/\P j
 tk:s.tk.length<=s.bits
 ZD:s.tk.length=s.tv.length
 cQ:∀l∈s.cQ,∃j ask,l=KO ((2:Int) ^ j,ask)/\j<s.bits/\ll 6 ask/\WQ s.bits P ask (P j)
 YC:s.cQ.length<=s.bits
structure eJ(s:FB)(P:Nat->Prop)(s':FB)(P':Nat->Prop)(z:Nat):Prop where
 q:s'.q=s.q
 lo:s.bits<=s'.bits
 hi:s'.bits<=s.bits+z
 same:∀i,i<s.bits->(P' i↔P i)
 ld:s'.cQ.length+s.bits<=s.cQ.length+s'.bits
def eJ.trans{s:FB}{P:Nat->Prop}(h:eJ s P b d y)(g:eJ b d a c z):eJ s P a c (y+z):=
 ⟨g.q.trans h.q,bz h.lo g.lo,by have:=h.hi;have:=g.hi;lia,λi e=>(g.same i (by have:=h.lo;lia)).trans (h.same i e),by have:=h.ld;have:=g.ld;lia⟩
def Lo{d:D}(m:a.length=b.length)(h:fE a b k=M):rW k d a b=(a++[k],b++[d])/\fE (a++[k]) (b++[d]) k=Y d:=by
 have c:=by unfold fE at h;simp only[Option.map_eq_none_iff,List.find?_eq_none,decide_eq_true_eq]at h;exact h
 have n:¬(a.any λq=>decide (q=k))=true:=by intro f;simp only[List.any_eq_true,decide_eq_true_eq]at f;obtain⟨q,j,rfl⟩:=f;obtain⟨i,o,e⟩:=List.getElem_of_mem j;exact c (q,b[i]' ž) (by rw[<- e];exact List.mem_iff_getElem.mpr ⟨i,by simp;lia,Ž⟩) rfl
 refine⟨by unfold rW;rw[if_neg n],?_⟩;unfold fE;rw[List.zip_append m,DS];have:(a.zip b).find? (λg=>decide (g.1=k))=none:=by grind
 rw[this];simp
def Ac{s:FB}(hb:s.bits<=999)(hl:s.tk.length<=s.bits)(hkv:s.tk.length=s.tv.length)(h:fE s.tk s.tv (fM t)=M):
  cE [e6 s,.str t]=Y (.int (2 ^ s.bits),e6 { s with bits:=s.bits+1,tk:=s.tk++[fM t],tv:=s.tv++[.int (2 ^ s.bits)] }):=by
 show (eZ [oF s,Y (.str t)]).bind (qH aA)=_;unfold eZ;obtain⟨hp,hlk⟩:=Lo (d :=.int (2 ^ s.bits)) hkv h;have e1:yX [0] [] cr [oF s,Y (.str t)]=Y true:=by
  refine pW (ρ':=[Y (e6 s),Y (.str t)]) rfl ?_;have:c_ (e2 (EO Z') db (bq "Facts" "by_text" Fa)) [Y (e6 s),Y (.str t)]=Y (!(fE s.tk s.tv (fM t)).isSome):=rfl
  simp_all
 have e2:rj 0 "Facts" "by_text" db (bW "Facts" "new_bit" aA eI 0 kR) [oF s,Y (.str t)]=Y (.nx [oF { s with bits:=s.bits+1,tk:=s.tk++[fM t],tv:=s.tv++[.int (2 ^ s.bits)] },Y (.str t)]):=by
  have m1:bW "Facts" "new_bit" aA eI 0 kR [oF s,Y (.str t)]=Y (.int (2 ^ s.bits),[oF { s with bits:=s.bits+1 },Y (.str t)]):=by rw[kQ (by decide) rfl rfl rfl (zw s hb)];rfl
  unfold rj;rw[m1];simp only[ai];have e3:qF "Facts" "by_text" 0 [oF { s with bits:=s.bits+1 },Y (.str t)]=Y (vA,YF,[.lst s.q,.int ((s.bits+1:Nat):Int),.ji s.nk s.nv,.ji s.tk s.tv,.int s.jH,.int s.u6,.int s.inner,.lst s.cQ],.ji s.tk s.tv):=by kernel_rfl
  rw[e3];simp only[ai];show (if _/\s.tk.length<dE then _ else M)=_;rw[if_pos ⟨by decide,iQ (by lia)⟩];rw[hp]
  exact ź
 rw[aK (ρ':=[oF { s with bits:=s.bits+1,tk:=s.tk++[fM t],tv:=s.tv++[.int (2 ^ s.bits)] },Y (.str t)]) ?e4]
 case e4=>simp_all [d_]
 have e5:lj [0] [] (L2.e2 IL (bq "Facts" "by_text" Fa) db) [oF { s with bits:=s.bits+1,tk:=s.tk++[fM t],tv:=s.tv++[.int (2 ^ s.bits)] },Y (.str t)]=Y (.int (2 ^ s.bits)):=by refine lp (ρ':=[Y (e6 { s with bits:=s.bits+1,tk:=s.tk++[fM t],tv:=s.tv++[.int (2 ^ s.bits)] }),Y (.str t)]) rfl ?_ rfl;exact hlk
 unfold dH mP;rw[e5]
 exact ź
def Ab{s:FB}(h:fE s.tk s.tv (fM t)=Y (.int i)):cE [e6 s,.str t]=Y (.int i,e6 s):=by
 show (eZ [oF s,Y (.str t)]).bind _=_;unfold eZ;have c:yX [0] [] cr [oF s,Y (.str t)]=Y false:=by
  refine pW (ρ':=[Y (e6 s),Y (.str t)]) rfl ?_;have:c_ (e2 (EO Z') db (bq "Facts" "by_text" Fa)) [Y (e6 s),Y (.str t)]=Y _:=rfl
  simp_all
 have b:∀g,d_ (yX [0] [] (c_ (L2.e2 (EO Z') db (bq "Facts" "by_text" Fa)))) g cO [oF s,Y (.str t)]=Y (.nx [oF s,Y (.str t)]):=by intro g;unfold d_;rw[c];rfl
 rw[aK (b _)];unfold dH mP;rw[(lp (ρ':=[Y (e6 s),Y (.str t)]) rfl h rfl)];exact Ż
def Be{s:FB}{P:Nat->Prop}(I:Inv s P)(u:s.bits<=999)(t:aE):∃j f k,cE [e6 s,.str t]=Y (.int (2 ^ j),e6 f)/\j<f.bits/\eJ s P f k 1/\Inv f k:=by
 cases h:fE _ _ _ with
 |some d=>obtain⟨j,b,rfl,_⟩:=I.tv d (B5 h);exact⟨j,s,P,Ab h,b,⟨rfl,aH _,ž,λa a=>Iff.rfl,aH _⟩,I⟩
 |none=>
  have g:∀i,i<s.bits->((if i<s.bits then P i else True)↔P i):=λi o=>by rw[if_pos o]
  refine⟨_,_,_,Ac u I.tk I.ZD h,nY _,⟨rfl,jG _,aH _,g,jG _⟩,?_⟩;refine⟨⟨I.Pk.nv,I.Pk.star,I.Pk.inner,sV I.Pk.nk⟩,?_,?_,?_,?_,sV I.YC⟩
  .intro v c;rcases bG.mp c with c|c
   .obtain⟨j,b,e,p⟩:=I.tv v c;exact⟨j,sU b,e,(g j b).mpr p⟩
   .exact⟨_,nY _,cW.mp c,Ž⟩
  .have:=I.tk
   simp_all
  .rw[bB,bB,I.ZD];rfl
  .intro l r;obtain⟨j,q,e,b,w,m⟩:=I.cQ l r;exact⟨j,q,e,sU b,w,trivial⟩
end K21
namespace L2
open PySem PySem.Spec PyProof.Rows
theorem Jg{τ:FZ}{g:DG}(I:Nat->bY->Prop):∀(k:List D) (i:Nat) (a:bY),I i a->(∀j d a,k[j]?=Y d->I (i+j) a->∃f b,τ d a=Y f/\g f=Y (.nx b)/\I (i+j+1) b) ->
  ∃c,gG τ g k a=Y (.nx c)/\I (i+k.length) c
 |[],i,a,h,_=>⟨a,rfl,h⟩| d::k,i,a,h,st=>by
  obtain⟨f,b,q,p,n⟩:=st 0 d a rfl h;obtain _:=Jg I k (i+1) b n λj d a l m=>by have:=st (j+1) d a ż Ÿ;rw[show i+(j+1)+1=i+1+j+1 by lia]at this;exact this
  grind [gG,ai]
def rN{τ:FZ}{g:DG}(I:Nat->bY->Prop){ds:List D}{ρ:bY}(i:I 0 ρ)(f:∀j d ρ,ds[j]?=Y d->I j ρ->∃b a,τ d ρ=Y b/\g b=Y (.nx a)/\I (j+1) a):∃c,gG τ g ds ρ=Y (.nx c)/\I ds.length c:=by
 have:=Jg I ds 0 ρ i λj d ρ h e=>by rw[v_]at e ⊢;exact f j d ρ h e
 simp_all
def JH{xs:List b}{z:Int}(d:0<=z)(c:z<xs.length):∃v,oY xs z=Y v/\v∈xs:=by
 have a:z.toNat<xs.length:=ž
 refine⟨_,?_,List.getElem_mem a⟩
 grind [RB]
def sM{xs:List Int}{z:Int}(h0:0<=z)(h1:z<xs.length):∃v,oY (xs.map D.int) z=Y (.int v):=by
 obtain⟨v,e,hm⟩:=JH h0 h1
 simp_all [yN]
def yM{xs:List aE}{z:Int}(h0:0<=z)(h1:z<xs.length):∃v,oY (xs.map D.str) z=Y (.str v)/\v∈xs:=by
 simp_all [JH,yN]
def QL{n:Nat}{z:Int}(b:0<=z)(a:z<n):DW n z=Y z.toNat:=by unfold DW;rw[if_pos b,if_pos a]
def Er(h:(oP a n)[j]?=Y d):j<n/\d=.int (a+j):=by
 unfold oP at h;rw[bt]at h;obtain⟨k,q,h⟩:=aj.1 h;cases h;obtain⟨c,b⟩:=au.mp q;have:=by simpa using b.symm
 subst this;exact⟨by simpa using c,rfl⟩
def pw(a:Int)(n:Nat):(oP a n).length=n:=by simp[oP]
theorem p'{h:D->D}:∀ {b:List D},(∀d∈b,∃a,c d e=Y a/\g a=Y (h d))->zK e c f9 g b=Y (b.map h)
 |[],_=>rfl|d::b,f=>by obtain⟨a,j,i⟩:=f d aJ;unfold zK;rw[j];simp only[f9,ai,if_true,i];rw[p' λd h=>f d (by simp_all)];rfl
def kb:dE=1000000:=rfl
def VT(a:List b)(l h:Option Int):(AD a l h).length<=a.length:=by
 unfold AD;rw[uU,nZ];lia
def OI(a:List b)(c:0<=k):AD a M (Y k)=a.take k.toNat:=by
 unfold AD HT.CC
 grind
def FH(xs:List a)(b:0<=k):AD xs (Y k) M=xs.drop k.toNat:=by
 unfold AD HT.CC;simp only[if_neg (show ¬k<0 by lia)];by_cases h:k.toNat<=xs.length
 .rw[H0 h,RP (by simp)]
 .rw[Nat.min_eq_right (by lia),Nat.sub_self,List.take_zero,RT (by lia)]
end L2
namespace K21
open PySem L2
noncomputable abbrev ie(a:Int)(b:List D):D :=.tup [.int a,.lst b]
def iu:List D->List Int->List Int->List D
 |.tup [.int a,.lst d]::g,b::e,f::c=>KO (b,ie (bO a f) d)::iu g e c|_,_,_=>[]
def nlN:iu [] l k=[]:=rfl
def nl1:iu (ie a d::g) [] k=[]:=rfl
def nl2:iu (ie a d::g) (b::e) []=[]:=rfl
def nlC:iu (ie a d::g) (b::e) (f::c)=KO (b,ie (bO a f) d)::iu g e c:=rfl
theorem Fi{y1 y2 y4:List D}{y3:Int}:∀(e:List D) (l k:List Int) (s:FB) (j i g:Option D),(∀a∈e,∃c d,a=ie c d)->s.cQ.length+e.length<dE->∃o n m,
  gG (Vu 5 6 7) iw (kG e (l.map D.int) (k.map D.int)) [oF s,Y (.lst y1),Y (.lst y2),Y (.int y3),Y (.lst y4),j,i,g]=Y (.nx [oF { s with cQ:=s.cQ++iu e l k },Y (.lst y1),Y (.lst y2),Y (.int y3),Y (.lst y4),o,n,m])
 |[],l,k,s,j,i,g,_,_=>⟨j,i,g,by simp[kG,gG,nlN]⟩
 |a::e,[],k,s,j,i,g,h,_=>by obtain⟨c,d,rfl⟩:=h a (aJ ..);exact⟨j,i,g,by simp[kG,gG,nl1]⟩
 |a::e,b::l,[],s,j,i,g,h,_=>by obtain⟨c,d,rfl⟩:=h a (aJ ..);exact⟨j,i,g,by simp[kG,gG,nl2]⟩
 | a::e,b::l,f::k,s,j,i,g,h,r=>by
  obtain⟨c,d,rfl⟩:=h a (aJ ..);simp only[bo]at r;have t:iw [oF s,Y (.lst y1),Y (.lst y2),Y (.int y3),Y (.lst y4),Y (ie c d),Y (.int b),Y (.int f)]=Y (.nx [oF { s with cQ:=s.cQ++[KO (b,ie (bO c f) d)] },Y (.lst y1),Y (.lst y2),Y (.int y3),Y (.lst y4),Y (ie c d),Y (.int b),Y (.int f)]):=by
   unfold iw MK;have u:qF "Facts" "leads" 0 [oF s,Y (.lst y1),Y (.lst y2),Y (.int y3),Y (.lst y4),Y (ie c d),Y (.int b),Y (.int f)]=Y (vA,YF,[.lst s.q,.int (s.bits:Nat),.ji s.nk s.nv,.ji s.tk s.tv,.int s.jH,.int s.u6,.int s.inner,.lst s.cQ],.lst s.cQ):=Ż
   have v:fN (aC (eV 6) (aC sw aN)) [oF s,Y (.lst y1),Y (.lst y2),Y (.int y3),Y (.lst y4),Y (ie c d),Y (.int b),Y (.int f)]=Y (KO (b,ie (bO c f) d)):=Ż
   rw[u];simp only[ai];rw[v];simp only[ai];rw[if_pos ⟨by decide,by lia⟩];exact Ż
  rw[bx,bx,kG,kX rfl t];obtain⟨o,n,m,q⟩:=Fi e l k { s with cQ:=s.cQ++[KO (b,ie (bO c f) d)] } (Y (ie c d)) (Y (.int b)) (Y (.int f)) (λx p=>h x (bI _ p)) (by rw[bB,il];lia);refine⟨o,n,m,q.trans ?_⟩;simp only[nlC,b8,List.singleton_append]
def QG{s:FB}{as:List D}{b:Int}{bs:List Int}(h:∀a∈as,∃vX cs,a=ie vX cs)(hl:s.cQ.length+as.length<dE)(hb:bs.length<=1000):mQ [e6 s,.lst as,.lst ((b::bs).map D.int),.int 0]=Y (.dW,e6 { s with cQ:=s.cQ++iu as (b::bs) (bs++[0]) }):=by
 show (mJ [oF s,Y (.lst as),Y (.lst ((b::bs).map D.int)),Y (.int 0),M,M,M,M]).bind (qH aA)=_;unfold mJ;rw[aK (ρ':=[oF s,Y (.lst as),Y (.lst ((b::bs).map D.int)),Y (.int 0),Y (.lst ((bs++[0]).map D.int)),M,M,M]) ?q0]
 case q0=>
  have e1:e2 iH (eF (Fv lc (pS u8) pN)) (eF (iI Go)) [oF s,Y (.lst as),Y (.lst ((b::bs).map D.int)),Y (.int 0),M,M,M,M]=iH (.lst _) (.lst [.int 0]):=rfl;have e2:AD ((b::bs).map D.int) (Y 1) M=bs.map D.int:=by simp_all [FH]
  rw[e2]at e1;have e3:iH (.lst (bs.map D.int)) (.lst [.int 0])=Y (.lst ((bs++[0]).map D.int)):=by simp only[iH];rw[if_pos (fA (iQ (by grind)))];simp
  rw[gE (e1.trans e3)];rfl
 obtain⟨b5,b6,b7,q⟩:=Fi (y1:=as) (y2:=(b::bs).map D.int) (y3:=0) (y4:=(bs++[0]).map D.int) as (b::bs) (bs++[0]) s M M M h hl;have q2:je (iZ3 db lc Sc) (Vu 5 6 7) iw [oF s,Y (.lst as),Y (.lst ((b::bs).map D.int)),Y (.int 0),Y (.lst ((bs++[0]).map D.int)),M,M,M]=gG (Vu 5 6 7) iw _ _:=rfl;rw[q2,q];exact Ż
def jn1(c:List D):Int:=c.foldl (λn a=>match a with|.tup [.int b,_]=>bO n b|_=>n) 0
noncomputable def LS(c:List D):List D:=c.flatMap λa=>match a with|.tup [_,.lst b]=>b|_=>[]
theorem zM{x0:List D}:∀(f:List D) (n:Int) (d:List D) (g:Option D),(∀a∈f,∃b d,a=ie b d)->d.length+(LS f).length<dE->∃i,
  gG (gN 3) i7 f [Y (.lst x0),Y (.int n),Y (.lst d),g]=Y (.nx [Y (.lst x0),Y (.int (f.foldl (λn a=>match a with|.tup [.int b,_]=>bO n b|_=>n) n)),Y (.lst (d++LS f)),i])
 |[],n,d,g,_,_=>⟨g,by simp[gG,LS]⟩
 | a::f,n,d,g,h,k=>by
  obtain⟨b,c,rfl⟩:=h a aJ ..;have e:LS (ie b c::f)=c++LS f:=rfl;have l:i7 [Y (.lst x0),Y (.int n),Y (.lst d),Y (ie b c)]=Y (.nx [Y (.lst x0),Y (.int (bO n b)),Y (.lst (d++c)),Y (ie b c)]):=by
   unfold i7;rw[aK (ρ':=[Y (.lst x0),Y (.int (bO n b)),Y (.lst d),Y (ie b c)]) ?m]
   case m=>kernel_rfl
   show (if d.length+c.length<=dE then _ else M)=_
   grind
  rw[kX rfl l];obtain⟨i,q⟩:=zM f _ (d++c) _ (λx j=>h x ż) Ÿ;refine⟨i,q.trans ?_⟩
  simp_all
def KW{as:List D}(h:∀a∈as,∃b e,a=ie b e)(f:(LS as).length<dE):j9 [.lst as]=Y (ie (jn1 as) (LS as)):=by
 show (lK _).bind _=_;unfold lK;rw[aK (gE rfl),aK (ρ':=[Y _,Y _,Y _,M]) ?d]
 case d=>exact rfl
 obtain⟨g,q⟩:=zM as 0 [] _ h ż;have c:je At _ _ [Y (.lst as),Y (.int 0),Y (.lst []),M]=gG (gN 3) i7 as _:=rfl;rw[aK (c.trans q)];rfl
noncomputable abbrev kS(x:String):D :=.str (af x)
def fV:Nat->D->Prop
 |0,_=>False|n+1,w=>w=.tup [kS "any"]\/(∃t,w=.tup [kS "text",.str t])\/(∃a:List (aE×aE×D),w=.tup [kS "has",.lst (a.map dw)]/\a≠[]/\a.length<=3/\∀p∈a,fV n p.2.2)\/(∃b:List D,w=.tup [kS "both",.lst b]/\b.length<=3/\∀x∈b,fV n x)\/(∃b:List D,w=.tup [kS "one",.lst b]/\b.length<=3/\∀x∈b,fV n x)
noncomputable def RX:D->D
 |.tup [_,_,w]=>w|d=>d
noncomputable def xk:Nat->D->Bool
 |n+1,.tup [.str k,.lst a]=>if k=af "has" then a.all λb=>xk n (RX b) else if k=af "both" then a.all (xk n) else if k=af "one" then a.any (xk n) else Z'
 |_,_=>Z'
noncomputable def Zb:Nat->Nat
 |0=>0|n+1=>3*(1+Zb n)
noncomputable def JD:D->Nat
 |.tup [_,.lst a]=>a.length|_=>0
structure xS(b:Nat)(P:Nat->Prop)(n:Nat)(ask w:D):Prop where
 ad:ll n ask
 len:JD ask<=3 ^ n
 snd:WQ b P ask (xk n w=true)
def xS.ext{b':Nat}{P P2:Nat->Prop}{a:D}(h:xS b P n a w)(e:b<=b')(c:∀i,i<b->(P2 i↔P i)):xS b' P2 n a w:=⟨h.ad,h.len,h.snd.ext e λi d=>(c i d).mp⟩
def Ce(F:List D->Option (D×D))(n:Nat):Prop:=∀s P w,fV n w->Inv s P->s.bits+Zb n<=999->∃a b c,F [e6 s,w]=Y (a,e6 b)/\eJ s P b c (Zb n)/\Inv b c/\xS b.bits c n a w
inductive Ay (R:D->D->Prop):List D->List D->Prop
 |nil:Ay R [] []
 |cons {a b:D}{as bs:List D}:R a b->Ay R as bs->Ay R (a::as) (b::bs)
theorem Ay.len{R:D->D->Prop}:∀ {b a:List D},Ay R b a->b.length=a.length
 |_,_,.nil=>rfl|_,_,.cons _ t=>by simp[t.len]
def Ay.left{R:D->D->Prop}(q:Ay R d c):∀a∈d,∃b∈c,R a b:=by
 induction q<;>simp_all
def eJ.refl(s:FB)(P:Nat->Prop):eJ s P s P 0:=⟨rfl,aH _,aH _,λa a=>Iff.rfl,aH _⟩
theorem JI{F:List D->Option (D×D)}(o:Ce F n){f:D->D}:∀(c:List D) (s:FB) (P:Nat->Prop) (x:Option D),(∀d∈c,fV n (f d)/\∀s,g [Y d,oF s]=Y ([f d],[Y d,oF s])/\cZ 1 [Y d,oF s]=[Y d,oF s])->Inv s P->s.bits+c.length*Zb n<=999 ->
  ∃b j k,CY [M,x] (gN 0) (bW "Facts" "asked" aA F 1 g) 1 aA c (e6 s)=Y (b,e6 j)/\eJ s P j k (c.length*Zb n)/\Inv j k/\Ay (λa d=>xS j.bits k n a (f d)) b c
 |[],s,P,x,_,I,_=>⟨[],s,P,rfl,by simp_all [eJ.refl],I,.nil⟩
 | d::c,s,P,x,h,I,t=>by
  simp only[bo,Nat.succ_mul]at t ⊢;obtain⟨hw,m⟩:=h d aJ ..;obtain⟨e,i,C,A,p,G,J⟩:=o s P _ hw I ž;obtain⟨b,q,B,z,l,E,H⟩:=JI o c i C x (λy r=>h y ż) G (by have:=p.hi;lia);refine⟨_,q,B,?_,?_,E,.cons (J.ext l.lo l.same) H⟩
  .rw[CY];have w:gN 0 d ([M,x].set 1 _)=Y [Y d,oF s]:=rfl;have v:bW "Facts" "asked" aA F 1 g [Y d,oF s]=Y (e,[Y d,oF i]):=by rw[kQ (by decide) rfl (m s).1 rfl A,(m s).2];rfl
   have u:ib aA 1 [Y d,oF i]=Y (e6 i):=Ż
   simp_all
  .rw[Nat.add_comm];exact p.trans l
def CW{F:List D->Option (D×D)}(o:Ce F n){g:O7}{ar:D->D}{f:DL}{ρ:bY}{ds:List D}{s:FB}{P:Nat->Prop}(k:f ρ=Y ds)(i:eV 0 ρ=oF s)(j:cZ 0 ρ=ρ)(l:∀d∈ds,fV n (ar d)/\∀s,g [Y d,oF s]=Y ([ar d],[Y d,oF s])/\cZ 1 [Y d,oF s]=[Y d,oF s])(I:Inv s P)(m:s.bits+ds.length*Zb n<=999)(t:ds.length<=1000):
  ∃b c h,vr f [M,Y 0] (gN 0) (bW "Facts" "asked" aA F 1 g) 1 0 aA ρ=Y (.lst b,ρ.set 0 (oF c))/\eJ s P c h (ds.length*Zb n)/\Inv c h/\Ay (λa d=>xS c.bits h n a (ar d)) b ds:=by
 obtain⟨b,c,h,e,r⟩:=JI o ds s P (Y (.obj aA (e6 s))) l I m;refine⟨b,c,h,?_,r⟩;unfold vr;have q:ib aA 0 ρ=Y (e6 s):=by unfold ib t_;rw[i];exact Ż
 have p:pb [M,Y 0] ρ=[M,Y (.obj aA (e6 s))]:=by
  have:ρ[0]?.getD M=oF s:=by rw[gW i];rfl
  show [M,ρ[0]?.getD _]=_;rw[this]
 rw[k];simp only[ai];rw[if_pos (fA (iQ (by lia)))]
 simp_all
def OY(F:List D->Option (D×D))(n:Nat):Prop:=∀s P (a:List (aE×aE×D)),a≠[]->a.length<=3->(∀p∈a,fV n p.2.2)->Inv s P->s.bits+Zb (n+1)<=999->∃j b c,F [e6 s,.lst (a.map dw)]=Y (.int (2 ^ j),e6 b)/\eJ s P b c (Zb (n+1))/\Inv b c/\j<b.bits/\(c j->∀p∈a,xk n p.2.2=Z')
theorem ll.succ:∀ {n:Nat}{d:D},ll n d->ll (n+1) d
 |0,_,h=>h.elim|n+1,d,⟨a,p,e,m,i,j⟩=>⟨a,p,e,m,i,λc b=>by obtain⟨f,o,l,k⟩:=j c b;exact⟨f,o,l,λx g=>(k x g).succ⟩⟩
def ll.up{m:Nat}(h:ll n d)(a:n<=m):ll m d:=by
 induction a with|refl=>exact h|step _ ih=>exact ih.succ
def RD(n:Nat):ll (n+1) (ie 0 []):=⟨0,[],rfl,ſ,Ž,λc h=>by simp at h⟩
def JJ(n:Nat)(a:0<=i):ll (n+1) (ie i []):=⟨i,[],rfl,a,Ž,λc h=>by simp at h⟩
def LU{b:Bool}(h:t a=Y b):d_ t g cO a=if b=Z' then g a else Y (.nx a):=by
 unfold d_;rw[h]
 exact ź
def Cz{b:bY}(e:g b=Y (.rm d a)):aX g h b=Y (.rm d a):=by unfold aX;rw[e];rfl
def Wu{s:FB}{r:List D}{y:Option D}{b:Bool}(h:fh (kS x) (kS k)=Y (.bl b)):c_ (e2 fh pi (eK (kS k))) [oF s,Y (.tup (kS x::r)),y]=Y b:=by
 have e:e2 b9 db v0 [oF s,Y (.tup (kS x::r)),y]=Y (kS x):=by show oY _ (0:Nat)=_;unfold oY;rw[qa (by simp)];rfl
 have c:e2 fh pi (eK (kS k)) [oF s,Y (.tup (kS x::r)),y]=fh (kS x) (kS k):=by show (e2 b9 _ _ _).bind _=_;rw[e];rfl
 unfold c_;rw[c,h];rfl
def zk{s:FB}:(Y (DO.rm d [oF s,x,y])).bind (qH aA)=Y (d,e6 s):=by kernel_rfl
def Lx{F:List D->Option (D×D)}{s:FB}:nF 2 3 aA (cP F a) [e6 s,.tup [kS "any"]]=Y (ie 0 [],e6 s):=by
 exact ź
abbrev NE:=c_ (e2 fh pi (eK (kS "text")))
abbrev UF:=c_ (e2 fh pi (eK (kS "any")))
def HK{F:List D->Option (D×D)}{s:FB}(h:cE [e6 s,.str t]=Y (.int i,e6 a)):nF 2 3 aA (cP F c) [e6 s,.tup [kS "text",.str t]]=Y (ie i [],e6 a):=by
 show (cP F c [oF s,Y (.tup [kS "text",.str t]),M]).bind (qH aA)=_;unfold cP;have d:∀g,d_ UF g cO [oF s,Y (.tup [kS "text",.str t]),M]=Y (.nx [oF s,Y (.tup [kS "text",.str t]),M]):=λg=>by solve_by_elim
 rw[aK (d _)];have m:bW "Facts" "enter_text" aA cE 0 py [oF s,Y (.tup [kS "text",.str t]),M]=Y (.int i,[oF a,Y (.tup [kS "text",.str t]),M]):=by rw[kQ (args:=[.str t]) (by decide) rfl rfl rfl h];rfl
 have q:d_ NE (dH (yf (jJ (bW "Facts" "enter_text" aA cE 0 py) Ê))) cO [oF s,Y (.tup [kS "text",.str t]),M]=Y (.rm (ie i []) [oF a,Y (.tup [kS "text",.str t]),M]):=by rw[LU (b:=Z') (Wu (by kernel_rfl)),if_pos rfl];unfold dH yf;rw[show ∀f g b,jJ f g b=(f b).bind λp=>(g p.2).bind λq=>Y (p.1::q.1,q.2) from λe e e=>rfl,m];rfl
 rw[Cz q,zk]
abbrev sB:=eK (kS "has")
def Lw{F:List D->Option (D×D)}{s:FB}(h:a [e6 s,.lst x]=Y (.int i,e6 b)):nF 2 3 aA (cP F a) [e6 s,.tup [kS "has",.lst x]]=Y (ie i [],e6 b):=by
 show (cP F a [oF s,Y (.tup [kS "has",.lst x]),M]).bind (qH aA)=_;unfold cP;have e:∀g,d_ UF g cO [oF s,Y (.tup [kS "has",.lst x]),M]=Y _:=λg=>by solve_by_elim
 have d:∀g,d_ NE g cO [oF s,Y (.tup [kS "has",.lst x]),M]=Y _:=λg=>by solve_by_elim
 rw[aK (e _),aK (d _)];have m:bW "Facts" "enter_has" aA a 0 py [oF s,Y (.tup [kS "has",.lst x]),M]=Y (.int i,[oF b,Y (.tup [kS "has",.lst x]),M]):=by rw[kQ (args:=[.lst x]) (by decide) rfl rfl rfl h];rfl
 have q:d_ (c_ (e2 fh pi sB)) (dH (yf (jJ (bW "Facts" "enter_has" aA a 0 py) Ê))) cO [oF s,Y (.tup [kS "has",.lst x]),M]=Y (.rm (ie i []) [oF b,Y (.tup [kS "has",.lst x]),M]):=by rw[LU (b:=Z') (Wu (by kernel_rfl)),if_pos rfl];unfold dH yf;rw[show ∀f g c,jJ f g c=(f c).bind _ from λj j j=>rfl,m];rfl
 rw[Cz q,zk]
def eJ.mono{s:FB}{P:Nat->Prop}(h:eJ s P a b y)(c:y<=z):eJ s P a b z:=⟨h.q,h.lo,by have:=h.hi;lia,h.same,h.ld⟩
def pJ(h:ll n d):∃a b,d=ie a b:=by
 cases n with
 |zero=>exact h.elim|succ n=>obtain⟨a,b,e,_⟩:=h;exact⟨a,b,e⟩
def xu{f:List D}(h:ll n (ie a f)):0<=a:=by
 cases n with
 |zero=>exact h.elim|succ n=>obtain⟨b,d,e,c,_⟩:=h;simp_all
def OQ(d:0<=x)(c:0<=y)(i:Nat):(bO x y).toNat.testBit i=(x.toNat.testBit i||y.toNat.testBit i):=by
 obtain⟨a,rfl⟩:=du d;obtain⟨b,rfl⟩:=du c;rw[HJ,ke,ke,ke,LK]
def ll.mk(h:ll n (ie b c))(d:0<=a):ll n (ie a c):=by
 cases n with
 |zero=>exact h.elim|succ n=>obtain⟨x,y,e,_,f,g⟩:=h;cases e;exact⟨a,c,rfl,d,f,g⟩
theorem Fh{b:Nat}{P:Nat->Prop}(v:n<=6):∀(k:List (aE×aE×D)) (p:aE×aE×D) (f:List D) (c:Nat),Ay (λa d=>xS b P n a (RX d)) f ((p::k).map dw)->(∀i,i<k.length+1->(P (c+i)↔∀q∈(p::k).drop i,xk n q.2.2=Z'))->c+k.length+1<=b ->
  ∀l∈iu f (fU c (k.length+1)) (fU (c+1) k.length++[0]),∃j w,l=KO ((2:Int) ^ j,w)/\j<b/\ll 6 w/\WQ b P w (P j)
 | [],p,f,c,A,B,y,l,C=>by
  cases A with
  |cons r t=>cases t;obtain⟨o,K,rfl⟩:=pJ r.ad;have g:=xu r.ad;simp only[fU,nlC,nlN,lQ,dG,cW,br,fZ,or_false]at C;exact⟨c,_,C,Ÿ,(r.ad.mk (xq g ſ)).up v,trivial⟩
 | p2::k,p,f,c,A,B,y,l,C=>by
  cases A with
  |@cons _ _ I _ r t=>
   obtain⟨o,K,rfl⟩:=pJ r.ad;have g:=xu r.ad;have G:l=KO ((2:Int) ^ c,ie (bO o (2 ^ (c+1))) K)\/l∈iu I (fU (c+1) (k.length+1)) (fU (c+1+1) k.length++[0]):=by simp_all [fU,nlC,bo,lb,br]
   have ih:=Fh v k p2 _ (c+1) t (λi N=>by
    have:=B (i+1) ż
    grind) Ÿ
   rcases G with e|h
   .exact⟨c,_,e,Ÿ,(r.ad.mk (xq g (px _))).up v,trivial⟩
   simp_all
theorem zx:∀(e:List D) (d g:List Int),(∀a∈e,∃c i,a=ie c i)->(iu e d g).length<=d.length
 |[],d,g,_=>by simp[iu]
 |a::e,[],g,h=>by simp[iu]
 |a::e,b::d,[],h=>by simp[iu]
 | a::e,b::d,f::g,h=>by
  obtain⟨c,i,rfl⟩:=h a aJ ..;have:=zx e d g λx j=>h x ż
  simp_all [iu,bo]
def Inv.enter{s:FB}{P:Nat->Prop}(I:Inv s P)(S:bf s b)(W:LX b)(r:s.bits<=b.bits)(f:∀i,i<s.bits->(k i↔P i)):Inv b k:=by
 refine⟨W,?_,by rw[S.tk];have:=I.tk;lia,by rw[S.tk,S.tv];exact I.ZD,?_,by rw[S.cQ];have:=I.YC;lia⟩
 .intro v m;rw[S.tv]at m;obtain⟨j,d,e,p⟩:=I.tv v m;exact⟨j,ž,e,(f j d).mpr p⟩
 .intro l o;rw[S.cQ]at o;obtain⟨j,g,e,d,t,c⟩:=I.cQ l o;exact⟨j,g,e,ž,t,trivial⟩
def Ad{F:List D->Option (D×D)}(hF:Ce F n)(hn6:n<=6):OY (nF 2 3 aA (gV F F')) n:=by
 intro s P lR NX HV hw I hb;cases lR with
 |nil=>exact absurd rfl NX|cons p ps=>
  have hZ:Zb (n+1)=3*(1+Zb n):=rfl;have hk:(p::ps).length*Zb n<=3*Zb n:=oX _ HV;obtain⟨s1,e1,b1,S1,W1⟩:=Fz I.Pk (p::ps) ž
  let P1:Nat->Prop:=λi=>if i<s.bits then P i else ∀q∈(p::ps).drop (i-s.bits),xk n q.2.2=Z'
  have hP1:∀i,i<s.bits->(P1 i↔P i):=λi hi=>by show (if _ then _ else _)↔_;rw[if_pos hi]
  have I1:Inv s1 P1:=I.enter S1 W1 ž hP1;obtain⟨asks,s2,P2,e2,E2,I2,A2⟩:=CW hF (g:=jJ (mP io) kR) (ar:=RX) (f:=iL db) (ρ:=[oF s1,Y (.lst ((p::ps).map dw)),Y (.lst ((fU s.bits (ps.length+1)).map D.int))]) (s:=s1) (P:=P1) rfl rfl rfl (by intro d hd;obtain⟨q,hq,rfl⟩:=dN.mp hd;exact⟨hw q hq,λs=>⟨rfl,rfl⟩⟩) I1 (by rw[aD];lia) (by rw[aD];lia)
  have hfm:∀a∈asks,∃vX cs,a=ie vX cs:=λa ha=>by obtain⟨d,_,r⟩:=A2.left a ha;exact pJ r.ad
  have hal:asks.length=ps.length+1:=by rw[A2.len,aD];rfl
  have hld:=E2.ld;have afv:=I.YC;rw[S1.cQ]at hld;have hlo:=E2.lo;have hhi:=E2.hi;rw[aD]at hhi;simp only[bo]at b1 hk HV hhi hZ;have e3:=QG (s:=s2) (as:=asks) (b:=2 ^ s.bits) (bs:=fU (s.bits+1) ps.length) hfm (iQ ž) (by rw[sJ];lia);have hP2:∀i,i<ps.length+1->(P2 (s.bits+i)↔∀q∈(p::ps).drop i,xk n q.2.2=Z'):=by intro i hi;rw[E2.same (s.bits+i) (by lia)];show (if _ then _ else _)↔_;rw[if_neg (by lia),Nat.add_sub_cancel_left]
  have Vm:=Fh (b:=s2.bits) (P:=P2) hn6 ps p asks s.bits A2 hP2 ž;have hnl:=zx asks (fU s.bits (ps.length+1)) (fU (s.bits+1) ps.length++[0]) hfm;rw[sJ]at hnl;refine⟨s.bits,{ s2 with cQ:=s2.cQ++iu asks (fU s.bits (ps.length+1)) (fU (s.bits+1) ps.length++[0]) },P2,?_,?_,?_,?_,?_⟩
  .show (gV F F' _).bind (qH aA)=_;unfold gV;rw[aK (ρ':=[oF s1,Y (.lst ((p::ps).map dw)),Y (.lst ((fU s.bits (ps.length+1)).map D.int))]) ?q0]
   case q0=>unfold my;rw[kQ (by decide) rfl rfl rfl e1];rfl
   have Yt:jJ (vr (iL db) [M,Y 0] (gN 0) (bW "Facts" "asked" aA F 1 (jJ (mP (L2.e2 b9 Fa Db)) kR)) 1 0 aA) (jJ (mP lc) IN) [oF s1,Y (.lst ((p::ps).map dw)),Y (.lst ((fU s.bits (ps.length+1)).map D.int))]=Y ([.lst asks,.lst ((fU s.bits (ps.length+1)).map D.int),.int 0],[oF s2,Y (.lst ((p::ps).map dw)),Y (.lst ((fU s.bits (ps.length+1)).map D.int))]):=by rw[show ∀f g ρ,jJ f g ρ=(f ρ).bind _ from λc c c=>rfl,e2];rfl
   rw[aK (ρ':=[oF { s2 with cQ:=s2.cQ++iu asks (fU s.bits (ps.length+1)) (fU (s.bits+1) ps.length++[0]) },Y (.lst ((p::ps).map dw)),Y (.lst ((fU s.bits (ps.length+1)).map D.int))]) ?q1]
   case q1=>unfold da;rw[kQ (s:=s1) (s1:=s2) (by decide) rfl Yt rfl e3];rfl
   have q2:L2.e2 b9 lc v0 [oF { s2 with cQ:=s2.cQ++iu asks (fU s.bits (ps.length+1)) (fU (s.bits+1) ps.length++[0]) },Y (.lst ((p::ps).map dw)),Y (.lst ((fU s.bits (ps.length+1)).map D.int))]=Y (.int (2 ^ s.bits)):=by show oY ((fU s.bits (ps.length+1)).map D.int) ((0:Nat):Int)=_;unfold oY;rw[qa (by rw[aD,sJ];lia)];rfl
   unfold dH mP;rw[q2];exact zk
  .refine⟨E2.q.trans S1.q,by show s.bits<=s2.bits;lia,by show s2.bits<=_;lia,λi hi=>(E2.same i ž).trans (hP1 i hi),?_⟩;show (s2.cQ++iu asks (fU s.bits (ps.length+1)) (fU (s.bits+1) ps.length++[0])).length+s.bits<=s.cQ.length+s2.bits;rw[bB];lia
  .refine⟨⟨I2.Pk.nv,I2.Pk.star,I2.Pk.inner,I2.Pk.nk⟩,I2.tv,I2.tk,I2.ZD,?_,?_⟩
   .intro l hl;rcases bG.mp hl with hl|hl
    .exact I2.cQ l hl
    .exact Vm l hl
   .show (s2.cQ++iu asks (fU s.bits (ps.length+1)) (fU (s.bits+1) ps.length++[0])).length<=s2.bits;rw[bB];lia
  .show s.bits<s2.bits;lia
  .intro hp;exact(hP2 0 ž).mp hp
abbrev Ë:=eK (kS "one")
theorem Ar{F:List D->Option (D×D)}{s:FB}(w:fh (kS k) (kS "any")=Y (.bl Z_))(v:fh (kS k) (kS "text")=Y (.bl Z_))(u:fh (kS k) (kS "has")=Y (.bl Z_)){b:Bool}(t:fh (kS k) (kS "one")=Y (.bl b))(h:vr (iL Tk) [M,Y 0] (gN 0) (bW "Facts" "asked" aA F 1 xz) 1 0 aA [oF s,Y (.tup [kS k,.lst a]),M]=Y (.lst c,[oF e,Y (.tup [kS k,.lst a]),M]))(p:b=Z_->j9 [.lst c]=Y d)(r:b=Z'->d=ie 0 [.lst c]):
  nF 2 3 aA (cP F i) [e6 s,.tup [kS k,.lst a]]=Y (d,e6 e):=by
 show (cP F i [oF s,Y (.tup [kS k,.lst a]),M]).bind (qH aA)=_;unfold cP;have o:∀g,d_ UF g cO [oF s,Y (.tup [kS k,.lst a]),M]=Y (.nx [oF s,Y (.tup [kS k,.lst a]),M]):=λg=>by simp_all [LU,Wu]
 have n:∀g,d_ NE g cO [oF s,Y (.tup [kS k,.lst a]),M]=Y (.nx [oF s,Y (.tup [kS k,.lst a]),M]):=λg=>by simp_all [LU,Wu]
 have m:∀g,d_ (c_ (e2 fh pi sB)) g cO [oF s,Y (.tup [kS k,.lst a]),M]=Y (.nx [oF s,Y (.tup [kS k,.lst a]),M]):=λg=>by simp_all [LU,Wu]
 rw[aK (o _),aK (n _),aK (m _)];rw[aK (ρ':=[oF e,Y (.tup [kS k,.lst a]),Y (.lst c)]) ?l]
 case l=>simp_all [my]
 have f:=Wu (s:=e) (r:=[.lst a]) (y:=Y (.lst c)) t;cases b with
 |true=>
  have q:d_ (c_ (e2 fh pi Ë)) (dH (mP (fN (aC v0 (aC (eF (iI No)) aN))))) cO [oF e,Y (.tup [kS k,.lst a]),Y (.lst c)]=Y (.rm (ie 0 [.lst c]) [oF e,Y (.tup [kS k,.lst a]),Y (.lst c)]):=by rw[LU (b:=Z') f];rfl
  rw[Cz q,zk,r rfl]
 |false=>
  have q:∀g,d_ (c_ (e2 fh pi Ë)) g cO [oF e,Y (.tup [kS k,.lst a]),Y (.lst c)]=Y (.nx [oF e,Y (.tup [kS k,.lst a]),Y (.lst c)]):=λg=>by simp_all [LU]
  rw[aK (q _)];have j:∀J:List D->Option D,bc J No [oF e,Y (.tup [kS k,.lst a]),Y (.lst c)]=J [.lst c]:=λJ=>rfl
  unfold dH mP;rw[j,p rfl];exact zk
theorem IZ(i:Nat):∀(g:List D) (x:Int),0<=x->(∀a∈g,∃c k,a=ie c k/\0<=c) ->
  0<=g.foldl (λn a=>match a with|.tup [.int c,_]=>bO n c|_=>n) x/\(x.toNat.testBit i=Z'->(g.foldl (λn a=>match a with|.tup [.int c,_]=>bO n c|_=>n) x).toNat.testBit i=Z')/\∀a∈g,∀c k,a=ie c k->c.toNat.testBit i=Z'->(g.foldl (λn a=>match a with|.tup [.int c,_]=>bO n c|_=>n) x).toNat.testBit i=Z'
 |[],x,j,_=>⟨j,id,λa h=>by simp at h⟩
 | a::g,x,j,h=>by
  obtain⟨c,k,rfl,m⟩:=h a aJ ..;obtain⟨s,q,r⟩:=IZ i g _ (xq j m) λy t=>h y ż
  refine⟨s,λl=>q (by rw[OQ j m,l];rfl),?_⟩;intro b o f p e d;rcases br.mp o with rfl|o
  .cases e;exact q (by rw[OQ j m,d];simp)
  .exact r b o f p e d
def Rt:xk (n+1) (.tup [kS "has",.lst a])=a.all λb=>xk n (RX b):=if_pos rfl
def OJ:xk (n+1) (.tup [kS "both",.lst a])=a.all (xk n):=(if_neg ſ).trans (if_pos rfl)
def Rr:xk (n+1) (.tup [kS "one",.lst a])=a.any (xk n):=(if_neg ſ).trans ((if_neg ſ).trans (if_pos rfl))
def yS{s:FB}(h:fV n d):cZ 1 [Y d,oF s]=[Y d,oF s]:=by
 cases n with
 |zero=>exact h.elim|succ n=>rcases h with rfl|⟨t,rfl⟩|⟨b,rfl,_⟩|⟨a,rfl,_⟩|⟨a,rfl,_⟩<;>rfl
noncomputable def chs:D->List D
 |.tup [_,.lst a]=>a|_=>[]
theorem Rq(a:D):(chs a).length=JD a:=by
 unfold chs JD;split<;>simp_all
theorem I_:∀(b:List D) (k:Nat),(∀a∈b,JD a<=k)->(LS b).length<=b.length*k
 |[],k,_=>by simp[LS]
 | a::b,k,h=>by
  have g:=I_ b k λx c=>h x ż
  have e:LS (a::b)=chs a++LS b:=rfl
  grind [Rq,bB,bo,Nat.succ_mul]
def HL{F:List D->Option (D×D)}(hF:Ce F n)(hH:OY F' n)(hn:n<=5):Ce (nF 2 3 aA (cP F F')) (n+1):=by
 intro s P w hw I hb;have hZ:Zb (n+1)=3*(1+Zb n):=rfl;have h3b:3 ^ (n+1)<=729:=bz (Nat.pow_le_pow_right ſ (show n+1<=6 by lia)) ſ;rcases hw with rfl|⟨t,rfl⟩|⟨N,rfl,S,H,y⟩|⟨o,rfl,H,y⟩|⟨o,rfl,H,y⟩
 .exact⟨_,s,P,Lx,(eJ.refl s P).mono (dk _),I,⟨RD n,dk _,trivial⟩⟩
 .obtain⟨j,v,C,e,hj,E,G⟩:=Be I ž t;exact⟨_,v,C,HK e,E.mono ž,G,⟨JJ n (px j),dk _,trivial⟩⟩
 .obtain⟨j,v,C,e,E,G,_⟩:=hH s P N S H y I hb;exact⟨_,v,C,Lw e,E,G,⟨JJ n (px j),dk _,trivial⟩⟩
 .have hk:o.length*Zb n<=3*Zb n:=oX _ H;obtain⟨b,v,C,e,E,G,A⟩:=CW hF (g:=jJ (mP Fa) kR) (f:=iL Tk) (ρ:=[oF s,Y (.tup [kS "both",.lst o]),M]) (s:=s) (P:=P) rfl rfl rfl (λd K=>⟨y d K,λs=>⟨rfl,yS (y d K)⟩⟩) I ž ž;have J:(LS b).length<=3 ^ (n+1):=by
   have B:=I_ b (3 ^ n) λa z=>by obtain⟨d,_,r⟩:=A.left a z;exact r.len
   rw[A.len]at B;have h2:o.length*3 ^ n<=3*3 ^ n:=oX _ H
   grind
  have k:∀a∈b,∃f u,a=ie f u/\0<=f:=λa z=>by obtain⟨d,_,r⟩:=A.left a z;obtain⟨f,u,rfl⟩:=pJ r.ad;exact⟨f,u,rfl,xu r.ad⟩
  refine⟨_,v,C,Ar Ż Ż Ż (b:=Z_) Ż e (λ_=>(KW (as:=b) (λa z=>by obtain⟨f,u,e,_⟩:=k a z;exact⟨f,u,e⟩) (iQ ž))) (λh=>by cases h),E.mono ž,G,⟨?_,J,?_⟩⟩
  .refine⟨_,_,rfl,(IZ 0 b 0 ſ k).1,ž,?_⟩;intro c L;obtain⟨a,z,hca⟩:=List.mem_flatMap.mp L;obtain⟨d,_,r⟩:=A.left a z;obtain⟨f,u,rfl⟩:=pJ r.ad;obtain⟨O,cs',e',_,_,X⟩:=r.ad.succ
   simp_all
  .trivial
 .have hk:o.length*Zb n<=3*Zb n:=oX _ H;obtain⟨b,v,C,e,E,G,A⟩:=CW hF (g:=jJ (mP Fa) kR) (f:=iL Tk) (ρ:=[oF s,Y (.tup [kS "one",.lst o]),M]) (s:=s) (P:=P) rfl rfl rfl (λd K=>⟨y d K,λs=>⟨rfl,yS (y d K)⟩⟩) I ž ž;refine⟨ie 0 [.lst b],v,C,Ar Ż Ż Ż (b:=Z') Ż e (λh=>by cases h) (λ_=>rfl),E.mono ž,G,⟨?_,(Nat.one_le_pow _ _ ſ),?_⟩⟩
  .refine⟨0,_,rfl,ſ,Ž,?_⟩;intro c L;rw[cW.mp L];refine⟨b,rfl,by rw[A.len];lia,λx Q =>?_⟩;obtain⟨d,_,r⟩:=A.left x Q;exact r.ad
  .trivial
mutual
theorem As:∀(n m:Nat),n<=6->2*n<=m->Ce (cJ m) n
 |0,m,_,_=>λb b b h=>h.elim
 |n+1,0,_,h=>by lia
 |n+1,m+1,a,h=>by rw[cJ];exact HL (As n m ž ž) (Dp n m ž ž) ž
theorem Dp:∀(n m:Nat),n<=6->2*n+1<=m->OY (cD m) n
 |n,0,_,h=>by lia
 |n,m+1,a,h=>by rw[cD];exact Ad (As n m a ž) a
end
def kq1(h:fh (kS x) (kS k)=Y (.bl b)):c_ (e2 fh ci (eK (kS k))) [Y (.tup (kS x::r))]=Y b:=by
 have e:e2 b9 Fa v0 [Y (.tup (kS x::r))]=Y (kS x):=by show oY _ (0:Nat)=_;unfold oY;rw[qa (by simp)];rfl
 have c:e2 fh ci (eK (kS k)) [Y (.tup (kS x::r))]=fh (kS x) (kS k):=by show (e2 b9 _ _ _).bind _=_;rw[e];rfl
 unfold c_;rw[c,h];rfl
def uf(e:g a=Y (.rt d)):aX g h a=Y (.rt d):=by unfold aX;rw[e];rfl
def Zz(h:fh (kS x) (kS k)=Y (.bl Z_)):d_ (c_ (e2 fh ci (eK (kS k)))) g cO [Y (.tup (kS x::r))]=Y (.nx [Y (.tup (kS x::r))]):=by
 rw[LU (kq1 h)];rfl
def if2(h:fh (kS x) (kS k)=Y (.bl Z')):d_ (c_ (e2 fh ci (eK (kS k)))) g cO [Y (.tup (kS x::r))]=g [Y (.tup (kS x::r))]:=by
 rw[LU (kq1 h)];rfl
def wQ{f:DL}{b:bY}(e:f b=Y a)(j:a.length<=1000)(h:∀d∈a,c [Y d]=Y (g d)):lZ f [M] (gN 0) f9 c b=Y (a.map g):=by
 unfold lZ;rw[e];simp only[ai];rw[if_pos (fA (iQ (by lia)))];exact p' a λd i=>⟨_,rfl,h d i⟩
theorem xR:∀(n m:Nat) (w:D),n<=m->fV n w->gm m [w]=Y (.bl (xk n w))
 |0,_,_,_,h=>h.elim|n+1,0,_,h,_=>by lia
 | n+1,m+1,w,r,h=>by
  have ih:=λx j=>xR n m x ž j
  have o:gm (m+1) [w]=(qf (gm m) [Y w]).bind vW:=rfl;rw[o];generalize gm m=F at *
  unfold qf;rcases h with rfl|⟨t,rfl⟩|⟨b,rfl,l,i,c⟩|⟨a,rfl,i,c⟩|⟨a,rfl,i,c⟩
  .exact ź
  .exact ź
  .have f:lZ lv [M] (gN 0) f9 (bc F È) [Y (.tup [kS "has",.lst (b.map dw)])]=Y ((b.map dw).map λg =>.bl (xk n (RX g))):=by
    refine wQ rfl Ÿ λd e =>?_
    obtain⟨p,k,rfl⟩:=dN.mp e
    exact ź
   have q:d_ (c_ (e2 fh ci sB)) (dy (bc (gL Z') (aC (eF (lZ lv [M] (gN 0) f9 (bc F È))) aN))) cO [Y (.tup [kS "has",.lst (b.map dw)])]=Y (.rt (.bl ((b.map dw).all λg=>xk n (RX g)))):=by rw[if2 (by kernel_rfl)];unfold dy;rw[uK f,HM];rfl
   rw[uf q,Rt];rfl
  .have f:lZ lv [M] (gN 0) f9 (bc F im) [Y (.tup [kS "both",.lst a])]=Y (a.map λx =>.bl (xk n x)):=
    wQ rfl ž λd e=>ih d (c d e)
   have q:d_ (c_ (e2 fh ci (eK (kS "both")))) (dy (bc (gL Z') (aC (eF (lZ lv [M] (gN 0) f9 (bc F im))) aN))) cO [Y (.tup [kS "both",.lst a])]=Y (.rt (.bl (a.all λx=>xk n x))):=by rw[if2 (by kernel_rfl)];unfold dy;rw[uK f,HM];rfl
   rw[aK (Zz (by kernel_rfl)),uf q,OJ];rfl
  .have f:lZ lv [M] (gN 0) f9 (bc F im) [Y (.tup [kS "one",.lst a])]=Y (a.map λx =>.bl (xk n x)):=
    wQ rfl ž λd e=>ih d (c d e)
   have q:d_ (c_ (e2 fh ci Ë)) (dy (bc (gL Z_) (aC (eF (lZ lv [M] (gN 0) f9 (bc F im))) aN))) cO [Y (.tup [kS "one",.lst a])]=Y (.rt (.bl (a.any λx=>xk n x))):=by rw[if2 (by kernel_rfl)];unfold dy;rw[uK f,OT];rfl
   rw[aK (Zz (by kernel_rfl)),aK (Zz (by kernel_rfl)),uf q,Rr];rfl
def OZ(F:List D->Option D)(n:Nat):Prop:=∀a:List (aE×aE×D),a.length<=1000->(∀p∈a,fV n p.2.2)->F [.lst (a.map dw)]=Y (.lst (a.map dw))
def JO(F:List D->Option D)(n:Nat):Prop:=∀w,fV n w->F [w]=Y w
def FJ{F:List D->Option D}(h:JO a n):OZ (jY 1 1 (pB F a)) n:=by
 intro c l j;show (pB F a [Y _]).bind _=_;unfold pB;have e:lZ At [M] (gN 0) f9 (fN (aC ci (aC ul (aC (bc a È) aN)))) [Y (.lst (c.map dw))]=Y ((c.map dw).map λd=>d):=by
  refine wQ rfl ż λd m =>?_
  obtain⟨p,k,rfl⟩:=dN.mp m;have hw:=h _ (j p k);have:bc a È [Y (dw p)]=a _:=rfl;rw[hw]at this;unfold fN;rw[show ∀f g b,aC f g b=(f b).bind _ from λi i i=>rfl,show ∀b,aC _ _ b=(e2 b9 _ _ b).bind λx=>((bc a _ b).bind _).bind _ from λi=>rfl,this];rfl
 unfold pq;rw[e,RS];rfl
abbrev Uf:=fN (aC (eK (kS "both")) (aC Ë aN))
def in1{b:Bool}(h:Pl Z_ (kS x) (.tup [kS "both",kS "one"])=Y (.bl b)):c_ (e2 (Pl Z_) ci Uf) [Y (.tup (kS x::r))]=Y b:=by
 have e:e2 b9 Fa v0 [Y (.tup (kS x::r))]=Y (kS x):=by show oY _ (0:Nat)=_;unfold oY;rw[qa (by simp)];rfl
 have c:e2 (Pl Z_) ci Uf [Y (.tup (kS x::r))]=Pl Z_ (kS x) (.tup [kS "both",kS "one"]):=by show ((e2 b9 _ _ _).bind _)=_;rw[e];rfl
 unfold c_;rw[c,h];rfl
def xb{F:List D->Option D}(s:OZ F n)(o:JO e n):JO (jY 1 1 (jb F e)) (n+1):=by
 intro w h;have u:jY 1 1 (jb F e) [w]=(jb F e [Y w]).bind vW:=rfl;rw[u];unfold jb;rcases h with rfl|⟨t,rfl⟩|⟨a,rfl,p,m,j⟩|⟨c,rfl,m,j⟩|⟨c,rfl,m,j⟩
 .exact ź
 .exact ź
 .have r:=s a ž j;have q:d_ (c_ (e2 fh ci sB)) (dy (fN (aC sB (aC (bc F (aC ul aN)) aN)))) cO [Y (.tup [kS "has",.lst (a.map dw)])]=Y (.rt (.tup [kS "has",.lst (a.map dw)])):=by rw[if2 (by kernel_rfl)];have:bc F (aC ul aN) [Y (.tup [kS "has",.lst (a.map dw)])]=F [.lst (a.map dw)]:=rfl;rw[r]at this;unfold dy fN;rw[show ∀b,aC sB (aC (bc F (aC ul aN)) aN) b=((bc F (aC ul aN) b).bind λy=>Y [y]).bind λi=>Y (kS "has" :: i) from λg=>rfl,this];rfl
  rw[uf q];rfl
 .have k:lZ lv [M] (gN 0) f9 (bc e im) [Y (.tup [kS "both",.lst c])]=Y (c.map λd=>d):=
   wQ rfl ž λd l=>o d (j d l)
  rw[RS]at k;have q:d_ (c_ (e2 (Pl Z_) ci Uf)) (dy (fN (aC ci (aC (eF (lZ lv [M] (gN 0) f9 (bc e im))) aN)))) cO [Y (.tup [kS "both",.lst c])]=Y (.rt (.tup [kS "both",.lst c])):=by rw[LU (in1 (b:=Z') (by kernel_rfl)),if_pos rfl];unfold dy fN;rw[show ∀(f:DL) b,aC ci (aC (eF f) aN) b=(e2 b9 Fa v0 b).bind λx=>(((f b).map D.lst).bind λy=>Y [y]).bind λi=>Y (x::i) from λg g=>rfl,k];rfl
  rw[aK (Zz (by kernel_rfl)),uf q];rfl
 .have k:lZ lv [M] (gN 0) f9 (bc e im) [Y (.tup [kS "one",.lst c])]=Y (c.map λd=>d):=
   wQ rfl ž λd l=>o d (j d l)
  rw[RS]at k;have q:d_ (c_ (e2 (Pl Z_) ci Uf)) (dy (fN (aC ci (aC (eF (lZ lv [M] (gN 0) f9 (bc e im))) aN)))) cO [Y (.tup [kS "one",.lst c])]=Y (.rt (.tup [kS "one",.lst c])):=by rw[LU (in1 (b:=Z') (by kernel_rfl)),if_pos rfl];unfold dy fN;rw[show ∀(f:DL) b,aC ci (aC (eF f) aN) b=(e2 b9 Fa v0 b).bind λx=>(((f b).map D.lst).bind λy=>Y [y]).bind λi=>Y (x::i) from λg g=>rfl,k];rfl
  rw[aK (Zz (by kernel_rfl)),uf q];rfl
mutual
theorem B6:∀(n m:Nat),2*n+1<=m->OZ (iA m) n
 |n,0,h=>by lia
 |n,m+1,h=>by rw[iA];exact FJ (rX n m ž)
theorem rX:∀(n m:Nat),2*n<=m->JO (cI m) n
 |0,m,_=>λ_ h=>h.elim
 |n+1,0,h=>by lia
 |n+1,m+1,h=>by rw[cI];exact xb (B6 n m ž) (rX n m ž)
end
def Au(n:Nat):Nat->Int->List (aE×aE×D)->Int
 |_,a,[]=>a|k,a,p::b=>Au n (k+1) (if xk n p.2.2 then bO a (2 ^ k) else a) b
theorem FR(hn:n<=12)(q:D):∀(ps:List (aE×aE×D)) (k:Nat) (a:Int) (a2 a3:Option D),(∀p∈ps,fV n p.2.2)->k+ps.length<=1000->∃b2 b3,
  gG (DY 2 3) jz (((ps.map dw).zipIdx k).map λp =>.tup [.int (p.2:Nat),p.1]) [Y q,Y (.int a),a2,a3]=Y (.nx [Y q,Y (.int (Au n k a ps)),b2,b3])
 |[],k,a,a2,a3,_,_=>⟨a2,a3,rfl⟩| p::ps,k,a,a2,a3,h,hk=>by
  simp only[bo]at hk;have hc:nS [p.2.2]=Y (.bl (xk n p.2.2)):=xR n 12 p.2.2 hn (h p (aJ ..));have hb:jz [Y q,Y (.int a),Y (.int (k:Nat)),Y (dw p)]=Y (.nx [Y q,Y (.int (if xk n p.2.2 then bO a (2 ^ k) else a)),Y (.int (k:Nat)),Y (dw p)]):=by
   have e1:fD (bc nS Í) [Y q,Y (.int a),Y (.int (k:Nat)),Y (dw p)]=Y (xk n p.2.2):=by
    have:∀F,bc F Í [Y q,Y (.int a),Y (.int (k:Nat)),Y (dw p)]=F [p.2.2]:=λF=>rfl
    unfold fD;rw[this,hc];rfl
   unfold jz;rw[LU e1];cases xk n p.2.2 with
   |false=>rfl|true=>have e2:L2.e2 tm u8 lc [Y q,Y (.int a),Y (.int (k:Nat)),Y (dw p)]=Y (.int (2 ^ k)):=(rfl).trans (PM ž);simp only[if_true];unfold xI;rw[e2];rfl
  rw[bx,F7,bx,kX rfl hb];obtain _:=FR hn q ps (k+1) _ (Y (.int (k:Nat))) (Y (dw p)) (λy hy=>h y (bI _ hy)) ž
  exact ź
def RE(c:n<=12)(a:List (aE×aE×D))(h:∀p∈a,fV n p.2.2)(d:a.length<=1000):jN [.lst (a.map dw)]=Y (.int (Au n 0 0 a)):=by
 show (qg [Y _,M,M,M]).bind _=_;unfold qg;rw[aK (gE rfl)];simp;obtain⟨g,f,e⟩:=FR c _ a 0 0 _ _ h ž;have b:je (iE Fa) _ _ [Y (.lst (a.map dw)),Y (.int 0),M,M]=gG (DY 2 3) jz _ _:=rfl;rw[aK (b.trans e)];rfl
noncomputable def YE(s:FB)(a:List D):xy:=⟨s.q,(s.bits:Int),s.nk,s.nv,s.tk,s.tv,s.jH,s.u6,s.inner,s.cQ,a⟩
abbrev pF(a:List aE)(b:List D):Option D:=Y (.obj aA (.ins "Facts" a b))
def XJ{F:List D->Option (List D)}(h:uq q=Z'/\F [.lst q]=Y q):eR Z_ 0 "Facts" "question" (FC F λ_=>Y q) [pF [] [],M]=Y (.nx [pF ["question"] [.lst q],M]):=by
 have e:FC F (λ_=>Y q) [pF [] [],M]=Y _:=if_pos h;unfold eR;rw[e]
 exact ź
def TZ{f:DL}(h:(pq f b).bind vW=Y (.lst l)):(pq f b).bind Qn=Y l:=by
 obtain⟨o,e,h⟩:=aa.1 h;obtain⟨a,_,rfl⟩:=aj.1 e;rw[e];cases h;rfl
noncomputable def TR(q:List D):FB:=⟨q,0,[],[],[],[],0,0,0,[]⟩
def Sd(q:List D):LX (TR q):=⟨λv a=>by simp[TR]at a,Wd 0,Wd 0,aH 0⟩
def Xy(q:List D):Inv (TR q) λ_=>True:=⟨Sd q,λv a=>by simp[TR]at a,aH 0,rfl,λv a=>by simp[TR]at a,aH 0⟩
def HG(h:O4 [.lst q]=Y (.lst l)):sS [.lst q]=Y l:=TZ h
theorem CQ:∀ {l:List D},(∀d∈l,DU d=Z')->uq l=Z'
 |[],_=>rfl|d::l,h=>by show (DU d&&uq l)=Z';rw[h d aJ,CQ λd m=>h d (by simp_all)];rfl
def Nq(p:aE×aE×D)(h:DU p.2.2=Z'):DU (dw p)=true:=by
 show (Z'&&Z'&&DU p.2.2&&Z')=Z';rw[h];rfl
theorem vn:∀(n:Nat) (w:D),fV n w->DU w=Z'
 |0,_,h=>h.elim| n+1,w,h=>by
  have k:∀(x:aE){l:List D},(∀d∈l,DU d=Z')->DU (.tup [.str x,.lst l])=true:=λx l h=>by show Z'&&uq l&&Z'=Z';rw[CQ h];rfl
  rcases h with rfl|⟨t,rfl⟩|⟨b,rfl,l,i,c⟩|⟨a,rfl,i,c⟩|⟨a,rfl,i,c⟩
  .rfl
  .rfl
  .refine k _ λd m =>?_
   obtain⟨p,g,rfl⟩:=dN.mp m;exact Nq p (vn n _ (c p g))
  .exact k _ λd m=>vn n d (c d m)
  .exact k _ λd m=>vn n d (c d m)
def Qt(a:List (aE×aE×D))(h:∀p∈a,fV n p.2.2):uq (a.map dw)=true:=CQ λd m=>by
 obtain⟨p,g,rfl⟩:=dN.mp m;exact Nq p (vn n _ (h p g))
def QQ(hn:n<=5)(lR:List (aE×aE×D))(h:∀p∈lR,fV n p.2.2)(hl:lR.length<=3)(hz:lR.length*(1+Zb n)<=999):
  ∃asks s P,gB [.ins "Facts" [] [],.lst (lR.map dw)]=Y (.dW,i6 (YE s asks))/\s.q=lR.map dw/\Inv s P/\Ay (λa d=>xS s.bits P n a (RX d)) asks (lR.map dw):=by
 have W0:=Sd (lR.map dw);have I0:=Xy (lR.map dw);obtain⟨s1,e1,b1,S1,W1⟩:=Fz W0 lR (by show 0+lR.length<=1000;lia);have b1':s1.bits=lR.length:=by rw[b1];show 0+lR.length=_;lia
 have I1:=I0.enter S1 W1 (dk _) λb b=>Iff.rfl
 have WA:s1.q=lR.map dw:=S1.q;have hm:lR.length*(1+Zb n)=lR.length+lR.length*Zb n:=by rw[Nat.mul_add,Nat.mul_one]
 have Yr:iL Ev [oF s1,M]=Y (lR.map dw):=by
  have:iL Ev [oF s1,M]=Y s1.q:=by kernel_rfl
  simp_all
 obtain⟨asks,s2,P2,e2,E2,I2,A2⟩:=CW (As n 12 ž ž) (g:=jJ (mP io) kR) (ar:=RX) Yr rfl rfl (by intro d hd;obtain⟨q,hq,rfl⟩:=dN.mp hd;exact⟨h q hq,λs=>⟨rfl,rfl⟩⟩) I1 ż Ÿ
 refine⟨asks,s2,P2,?_,E2.q.trans WA,I2,A2⟩;show (jL (lR.map dw) [pF [] [],M]).bind (qH aA)=_;unfold jL;rw[aK (XJ (⟨Qt lR h,HG (B6 n 12 (by lia) lR (by lia) h)⟩))];generalize lR.map dw=q at *
 rw[aK (ρ':=[pF ["question","bits"] [.lst q,.int 0],M]) ?q2,aK (ρ':=[pF ["question","bits","by_name"] [.lst q,.int 0,.ji [] []],M]) ?q3,aK (ρ':=[pF ["question","bits","by_name","by_text"] [.lst q,.int 0,.ji [] [],.ji [] []],M]) ?q4,aK (ρ':=[pF ["question","bits","by_name","by_text","starred"] [.lst q,.int 0,.ji [] [],.ji [] [],.int 0],M]) ?q5,aK (ρ':=[pF ["question","bits","by_name","by_text","starred","stars"] [.lst q,.int 0,.ji [] [],.ji [] [],.int 0,.int 0],M]) ?q6,aK (ρ':=[pF ["question","bits","by_name","by_text","starred","stars","inner"] [.lst q,.int 0,.ji [] [],.ji [] [],.int 0,.int 0,.int 0],M]) ?q7,aK (ρ':=[oF (TR q),M]) ?q8]
 case q8=>kernel_rfl
 case q7=>kernel_rfl
 case q6=>kernel_rfl
 case q5=>kernel_rfl
 case q4=>kernel_rfl
 case q3=>kernel_rfl
 case q2=>kernel_rfl
 rw[aK (ρ':=[oF s1,M]) ?q9]
 case q9=>unfold da;rw[kQ (ρ1:=[oF (TR q),M]) (by decide) rfl (by kernel_rfl) rfl e1];rfl
 unfold GP;rw[show cJ 12=lM from rfl]at e2;rw[e2];exact Ż
noncomputable def qV:dM:=⟨-1,0,0,0,1,1,1,1⟩
abbrev pC(a:List aE)(b:List D):Option D:=Y (.obj aB (.ins "Coming" a b))
def UR{F:List D->Option (D×D)}{f:xy}(h:F [.ins "Facts" [] [],.lst q]=Y (.dW,i6 f)):eR Z_ 0 "Coming" "facts" (nP "Facts" F λ_=>Y q) [pC [] [],M]=Y (.nx [pC ["facts"] [i6 f],M]):=by
 have e:nP "Facts" F (λ_=>Y q) [pC [] [],M]=Y (i6 f):=by show (F _).bind _=_;rw[h];rfl
 unfold eR;rw[e]
 exact ź
def US{F:List D->Option D}{f:xy}(h:F [.lst f.q]=Y (.int a)):eR Z_ 0 "Coming" "able" (lj [0] [] (bc F ol)) [pC ["facts","full"] [i6 f,.int b],M]=Y (.nx [pC ["facts","full","able"] [i6 f,.int b,.int a],M]):=by
 have e:lj [0] [] (bc F ol) [pC ["facts","full"] [i6 f,.int b],M]=Y (.int a):=by
  have:lj [0] [] (bc F ol) [pC ["facts","full"] [i6 f,.int b],M]=(F [.lst f.q]).bind λd=>if pX d=Z' then Y d else none:=by kernel_rfl
  rw[this,h];rfl
 unfold eR;rw[e]
 exact ź
def Lp{f:xy}(j:f.q.length<=1000)(k:gB [.ins "Facts" [] [],.lst q]=Y (.dW,i6 f))(l:jN [.lst f.q]=Y (.int a)):
  d7 [.ins "Coming" [] [],.lst q]=Y (.dW,bP ⟨f,2 ^ f.q.length,a,0,0,[qV],[]⟩):=by
 show (jl q [pC [] [],M]).bind (qH aB)=_;unfold jl;rw[aK (UR k)];rw[aK (ρ':=[pC _ [i6 f,.int (2 ^ f.q.length)],M]) ?i]
 case i=>
  have e:lj [0] [] (e2 tm u8 (bc ic ol)) [pC ["facts"] [i6 f],M]=Y (.int (2 ^ f.q.length)):=by refine lp rfl ?_ rfl;exact(rfl).trans (PM j)
  unfold eR;rw[e];exact Ż
 generalize (2:Int) ^ f.q.length=b;rw[aK (US l)];have c:eR Z_ 0 "Coming" "rests" wf [pC ["facts","full","able","taken","opened","rows"] [i6 f,.int b,.int a,.int 0,.int 0,.lst [cx qV]],M]=Y (.nx [oC ⟨f,b,a,0,0,[qV],[]⟩,M]):=Ż
 rw[aK (ρ':=[pC ["facts","full","able","taken"] [i6 f,.int b,.int a,.int 0],M]) ?h,aK (ρ':=[pC ["facts","full","able","taken","opened"] [i6 f,.int b,.int a,.int 0,.int 0],M]) ?g,aK ?d,c]
 case d=>kernel_rfl
 case g=>kernel_rfl
 case h=>kernel_rfl
 exact Ż
def cn(c:gu):D :=.ins "Lean" ["coming"] [bP c]
abbrev oN(c:gu):Option D:=Y (.obj cK (cn c))
def QE(h:d7 [.ins "Coming" [] [],.lst q]=Y (.dW,bP c)):cp [.ins "Lean" [] [],.lst q]=Y (.dW,cn c):=by
 show (mf q [Y _,M]).bind _=_;have e:nP "Coming" d7 (λ_=>Y q) [Y (.obj cK (.ins "Lean" [] [])),M]=Y (bP c):=by show (d7 _).bind _=_;rw[h];rfl
 unfold mf ri;rw[e]
 exact ź
def BN(ks:List lO)(a:List D)(n:aE):Int:=match (fE ks a (fM n)).getD (.int 0) with|.int i=>i|_=>0
def Ff{ks:List lO}(h:∀v∈a,∃i,0<=i/\v=D.int i):(fE ks a (fM n)).getD (.int 0)=.int (BN ks a n):=by
 obtain⟨i,b,e⟩:=Fe h;unfold BN;rw[e]
def Vv{f:xy}(b:∀v∈f.nv,∃i,0<=i/\v=D.int i)(a:∀v∈f.tv,∃i,0<=i/\v=D.int i):Zp f (λn=>bO f.jH (BN f.nk f.nv n)) (λt=>BN f.tk f.tv t):=by
 refine⟨λn =>?_,λt =>?_⟩
 .show (kU [Y _,Y _]).bind _=_;unfold kU dy;have:e2 EM (bq "Facts" "starred" Fa) (tV (bq "Facts" "by_name" Fa) db v0) [Y (i6 f),Y (.str n)]=EM (.int f.jH) ((fE f.nk f.nv (fM n)).getD (.int 0)):=by kernel_rfl
  rw[this,Ff b];rfl
 .show (kT [Y (i6 f),Y (.str t)]).bind vW=_;unfold kT dy;have:tV (bq "Facts" "by_text" Fa) db v0 [Y (i6 f),Y (.str t)]=Y ((fE f.tk f.tv (fM t)).getD (.int 0)):=by kernel_rfl
  rw[this,Ff a];rfl
theorem zJ:∀(d:List D),(∀l∈d,∃j a,l=KO ((2:Int) ^ j,a)/\ll 6 a)->∃c:List (Int×D),d=c.map KO/\∀p∈c,ll 6 p.2
 |[],_=>⟨[],rfl,λp h=>by simp at h⟩
 | l::d,h=>by
  obtain⟨j,a,_⟩:=h l aJ ..;obtain⟨c,k,g⟩:=zJ d λx f=>h x (bI _ f)
  refine⟨(2 ^ j,a)::c,ż,λp b =>?_⟩
  grind
abbrev Sm(k:Nat)(x:Int):Prop:=0<=x/\x<2 ^ k
def DH{x:Int}(a:0<=y):0<=bA x y/\bA x y<=y:=by
 unfold bA uX
 grind [decide,Nat.and_le_right,Int.natCast_nonneg,Nat.and_le_left,uW]
def wt{x:Int}(h:Sm k y):Sm k (bA x y):=⟨(DH h.1).1,Int.lt_of_le_of_lt (DH h.1).2 h.2⟩
def R7(h:Sm k x):Sm (k+1) (bO x (2 ^ k)):=by
 obtain⟨a,rfl⟩:=du h.1;have e:((2 ^ k:Nat):Int)=2 ^ k:=Ž
 have b:=h.2;rw[<- e]at b ⊢;rw[HJ];have:a ||| 2 ^ k<2 ^ (k+1):=Nat.or_lt_two_pow Ÿ ž
 grind
def Mx(h:Sm k x):Sm (k+1) x:=⟨h.1,Ÿ⟩
theorem N6{n:Nat}{named atoms:Int}:∀(c:List D) (k:Nat) (b:Int),Sm k b->Sm (k+c.length) (Ht n named atoms k b c)
 |[],k,b,h=>h|a::c,k,b,h=>by rw[bo,show k+(c.length+1)=k+1+c.length by lia];exact N6 (n:=n) (named:=named) (atoms:=atoms) c _ (if bA named (2 ^ k) != 0&&rF n a atoms then bO b _ else b) (by split;exact R7 h;exact Mx h)
theorem OW{n:Nat}:∀(a:List (aE×aE×D)) (k:Nat) (x:Int),Sm k x->Sm (k+a.length) (Au n k x a)
 |[],k,x,h=>h|q::a,k,x,h=>by rw[bo,show k+(a.length+1)=k+1+a.length by lia];exact OW (n:=n) a _ (if xk n q.2.2 then bO x _ else x) (by split;exact R7 h;exact Mx h)
theorem R8:∀ {j k:Nat},Sm j x->j<=k->Sm k x
 | j,k,h,a=>by
  obtain⟨m,rfl⟩:=Nat.exists_eq_add_of_le a
  induction m with
  |zero=>exact h|succ m ih=>exact Mx (ih ž)
def tz(x:Int)(i:Nat):Bool:=if 0<=x then x.toNat.testBit i else !(bN x).toNat.testBit i
def yW(a i:Nat):tz (a:Int) i=a.testBit i:=by solve_by_elim
theorem Cp(x:Int)(i:Nat):tz (bN x) i = !tz x i:=by
 have n:0<=bN x↔¬0<=x:=PyProof.Rows.bitNot_nonneg;unfold tz;rw[show bN _=x from PyProof.Rows.bitNot_bitNot x];by_cases h:0<=x
 .rw[if_neg λz=>n.mp z h,if_pos h]
 .rw[if_pos (n.mpr h),if_neg h,Bool.not_not]
def Ly(x y:Nat)(i:Nat):(x-(x &&& y)).testBit i=(x.testBit i && !y.testBit i):=by
 have h:=JY (x ^^^ x &&& y) (x &&& y);have b:x ^^^ x &&& y ||| x &&& y=x:=ym λj=>by rw[LK,Nat.testBit_xor,HZ];cases x.testBit j<;>cases y.testBit j<;>rfl
 have a:(x ^^^ x &&& y) &&& (x &&& y)=0:=ym λj=>by simp_all
 rw[show x-(x &&& y)=x ^^^ x &&& y by lia,Nat.testBit_xor,HZ];cases x.testBit i<;>cases y.testBit i<;>rfl
def D9(b:0<=x)(y:Nat)(i:Nat):tz (x-((x.toNat &&& y:Nat):Int)) i=(x.toNat.testBit i && !y.testBit i):=by
 obtain⟨a,rfl⟩:=du b;rw[ke,show a-(a &&& y:Int)=(a-(a &&& y):Nat) by grind [Nat.and_le_left],yW,Ly]
theorem t9(x y:Int)(i:Nat):tz (bA x y) i=(tz x i&&tz y i):=by
 by_cases b:0<=x<;>by_cases a:0<=y
 .rw[show bA x y=_ from PyProof.Rows.bitAnd_pp b a,yW,HZ,tz,if_pos b,tz,if_pos a]
 .rw[show bA x y=_ from PyProof.Rows.bitAnd_pn b a,D9 b,tz,if_pos b,tz,if_neg a]
 .rw[show bA x y=_ from PyProof.Rows.bitAnd_np b a,D9 a,tz,if_neg b,tz,if_pos a,Bool.and_comm]
 .rw[show bA x y=_ from PyProof.Rows.bitAnd_nn b a,Cp,yW,LK,tz,if_neg b,tz,if_neg a,Bool.not_or]
def Md(x y:Int)(i:Nat):tz (bO x y) i=(tz x i||tz y i):=by
 show tz (bN _) i=_
 simp_all [Cp,t9,Bool.not_and,Bool.not_not]
def Tg(x:Int)(i:Nat):tz (x*2) i=(decide (1<=i)&&tz x (i-1)):=by
 have b:∀a:Nat,(2*a).testBit i=(decide _&&a.testBit _):=λa=>by rw[show 2*a=a <<< 1 by omega,Nat.testBit_shiftLeft]
 unfold tz;by_cases h:0<=x
 .rw[if_pos (by lia),if_pos h,show (x*2).toNat=2*x.toNat by lia,b]
 .rw[if_neg (by lia),if_neg h,show (bN _).toNat=2*(bN x).toNat+1 by unfold bN uW;lia];cases i with
  |zero=>simp|succ i=>rw[Nat.testBit_succ,show (2*(bN x).toNat+1)/2=(bN x).toNat by lia];simp
def Tf(k i:Nat):tz ((2:Int) ^ k) i=decide (k=i):=by
 have e:(2 ^ k:Nat)=(2:Int) ^ k:=Ž
 rw[<- e,yW,Nat.testBit_two_pow]
def Gp(d:0<=x)(c:0<=y)(h:∀i,tz x i=tz y i):x=y:=by
 obtain⟨a,rfl⟩:=du d;obtain⟨b,rfl⟩:=du c;have:a=b:=ym λi=>by solve_by_elim
 rw[this]
theorem u0(i:Nat):tz 0 i=false:=by rw[show 0=((0:Nat):Int) from rfl,yW,Nat.zero_testBit]
def Me(x:Int)(k:Nat):(bA x (2 ^ k) != 0)=tz x k:=by
 have b:∀i,tz (bA x (2 ^ k)) i=(tz x i&&decide (k=i)):=λi=>by rw[t9,Tf]
 cases e:tz x k with
 |true=>
  rw[bne_iff_ne]
  grind [u0]
 |false=>
  have:bA x (2 ^ k)=0:=Gp ((DH (x:=x) (px k)).1) ſ λi=>by grind [u0]
  simp_all
abbrev Le(x y:Int):Prop:=∀i,tz x i=Z'->tz y i=Z'
def NF{x:Int}(h:Le x b)(g:Le y a):Le (bO x y) (bO b a):=λi e=>by
 rw[Md,wj]at e ⊢;exact e.imp (h i) (g i)
def NG(h:Le x b)(g:Le y a):Le (bA x y) (bA b a):=λi e=>by
 simp_all [t9,aR]
def Hf(x y:Int):Le x (bO x y):=λi e=>by rw[Md,e];rfl
def JU(x:Int):Le 0 x:=λi e=>by simp_all [u0]
def SE{f:Int}(l:Le p c)(k:Le a g)(j:Le f d):Le (yB b p a f) (yB b c g d):=λi e=>by
 unfold yB at e ⊢;rw[Tg,aR]at e ⊢;exact⟨e.1,NG (NF l (NG k λ_ h=>h)) j _ e.2⟩
theorem Nv:∀(n m:Nat) (b:D) (a f:Int),ll m b->Le a f->rF n b a=Z'->rF n b f=Z'
 |0,m,b,a,f,_,_,h=>nomatch h|n+1,0,b,a,f,h,_,_=>h.elim| n+1,m+1,b,a,f,s,l,h=>by
  obtain⟨d,u,rfl,o,_,r⟩:=s;simp only[Nw,aR,beq_iff_eq]at h ⊢;refine⟨Gp (DH o).1 o λi =>?_,?_⟩
  .rw[t9];cases e:tz d i with
   |false=>rw[LP]|true=>
    have:tz (bA a d) i=true:=by simp_all
    rw[t9]at this
    simp_all
  .rw[eN]at h ⊢;intro c j;obtain⟨t,rfl,_,q⟩:=r c j;have p:=h.2 _ j;simp at p ⊢;obtain⟨x,g,k⟩:=p;exact⟨x,g,Nv n m x a f (q x g) l k⟩
theorem fit_le{m:Nat}{f:Int}(h:Le a j):∀(b:List D) (k:Nat) (x d:Int),(∀p∈b,ll m p)->Le x d->Le (Ht n f a k x b) (Ht n f j k d b)
 |[],k,x,d,_,g=>g| p::b,k,x,d,l,g=>by
  refine fit_le h b _ _ _ (λq o=>l q ż) ?_;by_cases c:(bA f (2 ^ k) != 0&&rF n p a)=Z'
  .have:(bA f (2 ^ k) != 0&&rF n p j)=true:=by rw[aR]at c ⊢;exact⟨c.1,Nv n m p a j (l p aJ) h c.2⟩
   rw[if_pos c,if_pos this];exact NF g λ_ h=>h
  .rw[if_neg c];split
   .exact λi e=>Hf _ _ i (g i e)
   .exact g
structure FW(f:xy)(mm:Int)(fit lift:Int->Int->Int)(Kd txt:aE->Int):Prop where
 ok:O5 f fit lift
 st:Zp f Kd txt
 sm:∀n a,Sm 63 (fit n a)
 mono:∀n a a',Le a a'->Le (fit n a) (fit n a')
 mm:Sm 63 mm
def Yw{n:Nat}(F:n<=5)(c:List (aE×aE×D))(h:∀p∈c,fV n p.2.2)(u:c.length<=3)(B:c.length*(1+Zb n)<=999):
  ∃f x k o m,gB [.ins "Facts" [] [],.lst (c.map dw)]=Y (.dW,i6 f)/\f.q=c.map dw/\FW f (Au n 0 0 c) x k o m:=by
 obtain⟨b,s,P,e,E,I,A⟩:=QQ F c h u B;have G:b.length=c.length:=by rw[A.len,aD]
 have i:∀a∈b,ll 6 a:=λa w=>by obtain⟨d,_,r⟩:=A.left a w;exact r.ad.up ž
 obtain⟨z,H,q⟩:=zJ s.cQ λl u=>by obtain⟨j,y,e,_,w,_⟩:=I.cQ l u;exact⟨j,y,e,w⟩
 refine⟨YE s b,λg a=>Ht 6 g a 0 0 b,λg a=>QD 6 g a (bA a s.inner) z,λn=>bO s.jH (BN s.nk s.nv n),λt=>BN s.tk s.tv t,e,E,?_⟩;exact⟨⟨λg a=>Hs (n:=6) ſ i (by show b.length<=1000;lia) g a,λg a=>KN (n:=6) ſ H q g a⟩,Vv I.Pk.nv (λv C=>by obtain⟨j,_,e,_⟩:=I.tv v C;exact⟨_,px j,e⟩),
  λg a=>R8 (N6 b 0 0 ⟨ſ,ſ⟩) ž,λg a J h=>fit_le h b 0 0 0 i λ_ h=>h,R8 (OW c 0 0 ⟨ſ,ſ⟩) ž⟩
end K21
namespace L2
open PySem
def PV(e:g b=Y (.nx a)):aX g h b=h a:=by simp_all [aX,ai]
def Xv(e:t a=Y Z_):d_ t g h a=h a:=by simp[d_,e]
def acH(e:t a=Y Z'):d_ t g h a=g a:=by simp[d_,e]
def Rm(h:jy a 179=Z'):iF (.lst a) 180=true:=by solve_by_elim
end L2
namespace K21
open PySem L2
def HU{j:Int}(h : -(2 ^ 64)<j/\j<2 ^ 64):qI (.int i) (.int j)=Y (.int (i*j)):=by simp_all [qI,if_pos]
def Zv(h : -(2 ^ 64)<i/\i<2 ^ 64):qI (.int i) (.int j)=Y (.int (i*j)):=by simp_all [qI,if_pos]
def lU{j:Int}(h:0<j):hW (.int i) (.int j)=Y (.int (i%j)):=by simp_all [hW,if_pos]
def rO(h:0<j/\j<2 ^ 64):j7 (.int i) (.int j)=Y (.int (i/j)):=by simp_all [j7,if_pos]
def aca:iH (.int i) (.int j)=Y (.int (i+j)):=rfl
def aay:nV (.int i) (.int j)=Y (.int (i-j)):=rfl
def eqI:fh (.int i) (.int j)=Y (.bl (i==j)):=rfl
def eqB:fh (.bl i) (.bl j)=Y (.bl (i==j)):=rfl
def eqS:fh (.str i) (.str j)=Y (.bl (i==j)):=rfl
def neI:ur (.int i) (.int j)=Y (.bl (!(i==j))):=rfl
def neS:ur (.str i) (.str j)=Y (.bl (!(i==j))):=rfl
def ltI:O_ (.int i) (.int j)=Y (.bl (decide (i<j))):=rfl
def gtI:tp (.int i) (.int j)=Y (.bl (decide (j<i))):=rfl
def ixL:b9 (.lst a) (.int i)=oY a i:=rfl
def ixT:b9 (.tup a) (.int i)=oY a i:=rfl
def aa5{a:List D}:ic [.lst a]=Y (.int a.length):=rfl
def aa3{a:List D}:ic [.tup a]=Y (.int a.length):=rfl
def geI:oGe (.int i) (.int j)=Y (.bl (decide (j<=i))):=rfl
local macro_rules | `(tactic|walk_at "v")=>do
 let a←("jY CF hJ aX cN j5 dy pq Im d_ cO je qG MI gk e2 eV eK eF iI fN bc rQ aC aN c_ kv lx nc lZ iL iE Wy Sz pN pS Fv Lb iS pb fD VE bo lQ bx List.map_nil lb dG aM List.getElem?_cons_zero l6 List.getElem?_nil Option.join_some Option.join_none ai d9 Option.getD_some aca aay eqI eqB eqS neI neS ltI gtI geI ixL ixT aa5 aa3 eC eD if_true if_false ig vW Qn Nat.reduceAdd Nat.reduceSub Nat.reduceLeDiff AX my dH CA ML tH ZO m2 mP kR jJ yf tR Yc Qo".splitOn " ").toArray.mapM fun s=>`(Lean.Parser.Tactic.simpLemma|$(Lean.mkIdent s.toName):term)
 `(tactic|simp only[$a,*])
noncomputable def Ya(c t:Int):Int:=(c%2147483647+t*t*7919+104729)*48271%2147483647
def A9(c t:Int):Int:=(Ya c t*Ya c t+69621*t)%2147483629
def Ha(c t:Int)(e:0<=t)(d:t<=100000):tZ [.int c,.int t]=Y (.int (A9 c t)):=by
 unfold tZ SF;walk_at "v";rw[lU (by simp),HU ⟨by lia,by lia⟩];walk_at "v";rw[HU ⟨by solve_by_elim,by simp⟩];walk_at "v";rw[HU ⟨by solve_by_elim,by simp⟩];walk_at "v";rw[lU (by simp)];walk_at "v";rw[HU ⟨by lia,by lia⟩]
 exact ź
def Qz(c t:Int):0<=A9 c t/\A9 c t<2147483629:=⟨cG _ ſ,cu _ ſ⟩
def zS{a:List Int}{j:Nat}{d:D}(h:(a.map D.int)[j]?=Y d):∃c,a[j]?=Y c/\d=.int c:=by
 rw[bt]at h;obtain⟨c,e,h⟩:=aj.1 h;rw[e];cases h<;>grind
def Eg(a:List Int)(n:Nat)(v:Int):(a.map D.int).set n (.int v)=(a.set n v).map D.int:=by rw[wb]
def Am(ns:List Int)(Vl:ns.length<=63)(k_ most:Int)(t0:0<=k_)(t1:k_<=1000)(m0:1<=most)(m1:most<=100):∃xs:List Int,jn [.kA ns,.int k_,.int most]=Y (xs.map D.int)/\1<=xs.length/\(xs.length:Int)<=most:=by
 have hcl:(AD ns M (Y 63)).length<=63:=bz (VT _ _ _) Vl;generalize hcs:AD ns M (Y 63)++[k_]=cs;have afE:1<=cs.length:=by rw[<- hcs];simp
 have afD:cs.length<=64:=by rw[<- hcs];simp;lia
 have e1:iH (.lst ((AD ns M (Y 63)).map D.int)) (.lst [.int k_])=Y (.lst (cs.map D.int)):=by simp only[iH];rw[if_pos (by simp[kb];lia),<- hcs];simp
 obtain⟨c0,ec0⟩:=sM (xs:=cs) (z:=0) ſ ž;unfold jn De;walk_at "v";rw[e1];walk_at "v";rw[ec0];walk_at "v";rw[rO ⟨by decide,by decide⟩];walk_at "v";rw[lU (by decide)];walk_at "v";by_cases hb:(c0/50000%2==1)=Z'
 .rw[hb];walk_at "v";have hz:(cs.map D.int).length<=dE:=by simp[kb];lia
  rw[if_pos hz];rw[L2.p' (h:=λd=>match d with|.int i =>.int (i/100000)|d=>d) (λd hd=>by obtain⟨i,_,rfl⟩:=dN.mp hd;exact⟨_,rfl,by walk_at "v";rw[rO ⟨by decide,by decide⟩]⟩)]
  have el:(cs.map D.int).map (λd=>match d with|.int i =>.int (i/100000)|d=>d)=(cs.map (· / 100000)).map D.int:=Ž
  rw[el];walk_at "v";rw[if_pos (⟨by lia,by lia⟩)];walk_at "v";have hl0:(cs.map (· / 100000)).length=cs.length:=Ž
  obtain⟨ρ',ef,⟨fs,ls,v6,v7,rfl,Vo,hls⟩⟩:=rN (τ:=gN 6) (g:=xp) (ds:=oP 0 (k_+most+1).toNat) (λi ρ=>∃(fs ls:List Int) (v6 v7:Option D),ρ=[Y (.kA ns),Y (.int k_),Y (.int most),Y (.lst (cs.map D.int)),Y (.lst (fs.map D.int)),Y (.lst (ls.map D.int)),v6,v7,M,M,M]/\fs.length=i/\ls.length=cs.length)
   (ρ:=[Y (.kA ns),Y (.int k_),Y (.int most),Y (.lst (cs.map D.int)),Y (.lst []),Y (.lst ((cs.map (· / 100000)).map D.int)),M,M,M,M,M]) ⟨[],cs.map (· / 100000),M,M,rfl,rfl,hl0⟩ (by
   rintro j d ρ hd ⟨fs,ls,v6,v7,rfl,Vo,hls⟩;obtain⟨hj,rfl⟩:=Er hd;have Yp:(0:Int)<(ls.length:Int):=ž
   have k0:=cG (0+(j:Int)) (show (ls.length:Int)≠0 by lia);have k1:=cu (0+(j:Int)) Yp;obtain⟨v,ev⟩:=sM (xs:=ls) k0 k1;refine⟨_,[Y (.kA ns),Y (.int k_),Y (.int most),Y (.lst (cs.map D.int)),Y (.lst ((fs++[v%2147483587]).map D.int)),Y (.lst ((ls.set ((0+(j:Int))%(ls.length:Int)).toNat (v/2147483587)).map D.int)),Y (.int (0+(j:Int))),Y (.int ((0+(j:Int))%(ls.length:Int))),M,M,M],rfl,?_,⟨_,_,_,_,rfl,by simp[Vo],by simp[hls]⟩⟩;unfold xp;walk_at "v";rw[aD,lU Yp];walk_at "v";rw[ev];walk_at "v";rw[lU (by decide)];walk_at "v";rw[if_pos (by rw[aD,kb];lia)];walk_at "v";rw[ev];walk_at "v";rw[rO ⟨by decide,by decide⟩];walk_at "v";rw[aD,QL k0 k1];walk_at "v";rw[Eg];simp)
  rw[ef];walk_at "v";rw[FH _ t0,<- Pf];have hl:(fs.drop k_.toNat).length=most.toNat+1:=by rw[nZ,Vo,pw];lia
  obtain⟨v,ev⟩:=sM (xs:=fs.drop k_.toNat) (z:=most) ž (by rw[hl];lia);rw[ev];walk_at "v";rw[lU (by lia)];walk_at "v";have k0:=cG v (show most≠0 by lia);have k1:=cu v (show 0<most by lia);rw[OI _ (by lia),<- AN];refine⟨_,rfl,?_⟩;rw[uU,hl,H0 (by lia)];exact⟨ž,ž⟩
 .have Vr:(c0/50000%2==1)=false:=by simpa using hb
  rw[Vr];walk_at "v";obtain⟨ρ',ef,⟨num,v6,v9,rfl,_⟩⟩:=rN (τ:=DY 6 9) (g:=xo) (ds:=xQ (cs.map D.int)) (λi ρ=>∃(num:Int) (v6 v9:Option D),ρ=[Y (.kA ns),Y (.int k_),Y (.int most),Y (.lst (cs.map D.int)),Y (.lst []),M,v6,M,Y (.int num),v9,M]/\0<=num/\num<2147483629)
   ⟨0,M,M,rfl,ſ,ſ⟩ (by
   rintro j d ρ hd ⟨num,v6,v9,rfl,_⟩;obtain⟨x,hx,rfl⟩:=w_ hd;obtain⟨c,hc,rfl⟩:=zS hx;have hj:j<cs.length:=(au.mp hc).1;refine⟨_,[Y (.kA ns),Y (.int k_),Y (.int most),Y (.lst (cs.map D.int)),Y (.lst []),M,Y (.int j),M,Y (.int ((num*31+A9 c ((j:Int)+k_))%2147483629)),Y (.int c),M],rfl,?_,⟨_,_,_,rfl,cG _ ſ,cu _ ſ⟩⟩;unfold xo;walk_at "v";rw[HU ⟨by decide,by decide⟩];walk_at "v";rw[Ha _ _ (by lia) (by lia)];walk_at "v";rw[lU (by decide)];walk_at "v")
  rw[ef];walk_at "v";rw[rO ⟨by decide,by decide⟩];walk_at "v";rw[lU (by lia)];walk_at "v";have k0:=cG (num/1009) (show most≠0 by lia);have k1:=cu (num/1009) (show 0<most by lia);rw[if_pos (⟨by lia,by lia⟩)];walk_at "v";obtain⟨ρ',ef,⟨fs,v6,v10,rfl,Vo⟩⟩:=rN (τ:=gN 6) (g:=xm) (ds:=oP 0 (1+num/1009%most).toNat) (λi ρ=>∃(fs:List Int) (v6' v10:Option D),ρ=[Y (.kA ns),Y (.int k_),Y (.int most),Y (.lst (cs.map D.int)),Y (.lst (fs.map D.int)),M,v6',M,Y (.int num),v9,v10]/\fs.length=i)
   (ρ:=[Y (.kA ns),Y (.int k_),Y (.int most),Y (.lst (cs.map D.int)),Y (.lst []),M,v6,M,Y (.int num),v9,M]) ⟨[],v6,M,rfl,rfl⟩ (by
   rintro j d ρ hd ⟨fs,v6',v10,rfl,Vo⟩;obtain⟨hj,rfl⟩:=Er hd;have Yp:(0:Int)<(cs.length:Int):=ž
   have q0:=cG (0+(j:Int)) (show (cs.length:Int)≠0 by lia);have q1:=cu (0+(j:Int)) Yp;obtain⟨v,ev⟩:=sM (xs:=cs) q0 q1;have mz:=Qz v (num%1009+(0+(j:Int))+k_);refine⟨_,[Y (.kA ns),Y (.int k_),Y (.int most),Y (.lst (cs.map D.int)),Y (.lst ((fs++[(A9 v (num%1009+(0+(j:Int))+k_)*A9 v (num%1009+(0+(j:Int))+k_)+7*(0+(j:Int)))%2147483587]).map D.int)),M,Y (.int (0+(j:Int))),M,Y (.int num),v9,Y (.int (A9 v (num%1009+(0+(j:Int))+k_)))],rfl,?_,⟨_,_,_,rfl,by simp[Vo]⟩⟩;unfold xm;walk_at "v";rw[aD,lU Yp];walk_at "v";rw[ev];walk_at "v";rw[lU (by decide)];walk_at "v";rw[Ha _ _ (by lia) (by lia)];walk_at "v";rw[HU ⟨by lia,by lia⟩];walk_at "v";rw[Zv ⟨by decide,by decide⟩];walk_at "v";rw[lU (by decide)];walk_at "v";rw[if_pos (by rw[aD,kb];lia)];simp)
  rw[ef];walk_at "v";rw[pw]at Vo;exact⟨fs,rfl,ž,ž⟩
def aaB{x:aE}(a:x.length<=dE):(match D.str x with|.str x=>if x.length<=dE then Y (D.str (kF x l h)) else M|_=>M)=Y (.str (kF x l h)):=by simp[a]
def aa4{x:aE}(h:x.length<=dE):ic [.str x]=Y (.int x.length):=by simp[ic,h]
def Za{x y:aE}(h:x.length+y.length<=dE):iH (.str x) (.str y)=Y (.str (x++y)):=by simp[iH,h]
def Nt(j:List Int)(l:j.length<=63):∃f:List aE,vV [.kA j]=Y (.lst (f.map D.str))/\f.length=5:=by
 obtain⟨xs,q,v,u⟩:=Am j l 40 1 Ž Ž Ž Ž;obtain⟨c,r⟩:=sM (xs:=xs) (z:=0) Ž (by lia);have h:(af "abcdefabcde").length<=dE:=ų
 have m:(af "abcdefabcde").length<=11:=ų
 have o:(af "mnopq").cps.all (· < 128)=true:=ų
 have g:(af "mnopq").cps.toList.length=5:=ų
 unfold vV Dc;walk_at "v";rw[q];walk_at "v";rw[r];walk_at "v";rw[lU (by simp)];walk_at "v";rw[if_pos h];walk_at "v";have k:=LJ (af "abcdefabcde") M (Y (c%12));generalize kF _ M _=a at k;have e:a.length<=dE:=by rw[kb];lia
 rw[rO ⟨by simp,by simp⟩,aa4 e];walk_at "v";rw[lU (by simp)];walk_at "v";generalize c/12%(a.length+1)=b;rw[if_pos o];walk_at "v";rw[if_pos (by simp[ue,g,kb]),L2.p' (h:=λd=>match d with|.str z =>.str ((kF a M (Y b)++z)++kF a (Y b) M)|d=>d) (λd p=>by
  obtain⟨i,_,rfl⟩:=dN.mp p;refine⟨_,rfl,?_⟩;have t:=LJ a M (Y b);have s:=LJ a (Y b) M;have n:(⟨#[i]⟩:aE).length=1:=rfl;walk_at "v";rw[if_pos e];walk_at "v";rw[Za (by rw[n,kb];lia)];walk_at "v";rw[if_pos e];walk_at "v";rw[Za (by
   have:(kF a M (Y b)++(⟨#[i]⟩:aE)).length=(kF a M (Y b)).length+1:=by show ((kF a M (Y b)).cps ++ #[i]).size=_;simp;rfl
   rw[this,kb];lia)])]
 walk_at "v";refine⟨(af "mnopq").cps.toList.map λi=>(kF a M (Y b)++⟨#[i]⟩)++kF a (Y b) M,?_,by rw[aD];exact g⟩;simp[ue]
noncomputable abbrev Sb:aE:=af "open"
noncomputable abbrev R_:aE:=af "text"
noncomputable abbrev MJ:aE:=af "close"
def AB(s:D):Prop:=(∃x,s=.tup [.str Sb,.str x])\/(∃x,s=.tup [.str R_,.str x])\/s=.tup [.str MJ]
theorem AB.ok{s:D}(h:AB s)(n:Nat):iF s (n+1)=true:=by
 rcases h with⟨x,rfl⟩|⟨x,rfl⟩|rfl<;>simp[iF,jy]
def GK(h:∀s∈a,AB s)(n:Nat):jy a (n+1)=true:=by
 induction a with
 |nil=>simp[jy]|cons s a ih=>simp only[jy,(h s aJ).ok n,ih λs b=>h s (by simp_all),Bool.and_self]
noncomputable def iM:Nat×Bool->pK->Option (Nat×Bool)
 |(d,b),.op _=>if 0<d\/b=Z_ then Y (d+1,Z') else M
 |(d,b),.tx _=>if 0<d then Y (d,b) else M
 |(d,b),.cl=>if 0<d then Y (d-1,b) else M
noncomputable def vg:List pK->Nat×Bool->Option (Nat×Bool)
 |[],z=>Y z|g::a,z=>(iM z g).bind (vg a)
theorem so(g:pK):∀(a:List pK) (z:Nat×Bool),vg (a++[g]) z=(vg a z).bind λb=>iM b g
 |[],z=>by show (iM z g).bind _=iM z g;cases iM z g<;>rfl
 | t::a,z=>by
  show (iM z t).bind _=((iM z t).bind _).bind _;cases iM z t with
  |none=>rfl|some b=>exact so g a b
structure SG(ss:List D)(dep:Int):Prop where
 sg:∀s∈ss,AB s
 ex:∃gs d b,ss=gs.map cz/\vg gs (0,false)=some (d,b)/\dep=(d:Nat)/\(gs=[]->b=false)
def SG.nil:SG [] 0:=⟨λs h=>(by cases h),[],0,_,rfl,rfl,rfl,λ_=>rfl⟩
def SG.open{f:List D}{a:Int}(h:SG f a)(x:aE)(e:f=[]\/0<a):SG (f++[.tup [.str Sb,.str x]]) (a+1):=by
 obtain⟨i,d,b,g,k,_⟩:=h.ex;refine⟨λs c =>?_,i++[.op x],d+1,Z',by rw[g,cm];solve_by_elim,?_,ż,λh=>by simp at h⟩
 .rcases bG.mp c with c|c
  .exact h.sg s c
  .exact .inl ⟨x,cW.mp c⟩
 .rw[so,k];show (if 0<d\/b=Z_ then _ else _)=_;rcases e with e|e<;>simp_all
def SG.text(h:SG e a)(x:aE)(k:0<a):SG (e++[.tup [.str R_,.str x]]) a:=by
 obtain⟨f,d,b,j,i,g,l⟩:=h.ex;refine⟨λs c =>?_,f++[.tx x],d,b,by rw[j,cm];rfl,?_,g,λh=>by simp at h⟩
 .rcases bG.mp c with c|c
  .exact h.sg s c
  .exact .inr (.inl ⟨x,cW.mp c⟩)
 .rw[so,i];show (if 0<d then _ else _)=_
  simp_all
def SG.close(h:SG e a)(j:0<a):SG (e++[.tup [.str MJ]]) (a-1):=by
 obtain⟨f,d,b,i,g,_⟩:=h.ex;refine⟨λs c =>?_,f++[.cl],d-1,b,by rw[i,cm];solve_by_elim,?_,by lia,λh=>by simp at h⟩
 .rcases bG.mp c with c|c
  .exact h.sg s c
  .exact .inr (.inr (cW.mp c))
 .rw[so,g];show (if 0<d then _ else _)=_
  simp_all
def YM{a:List D}(h:∀s∈a,AB s):fh (.lst a) (.lst [])=Y (.bl a.isEmpty):=by
 have:iF (.lst a) 180=true:=by simp_all [iF,GK]
 simp only[fh];rw[if_pos (by rw[this];rfl)];cases a<;>rfl
def Gw: DG := (aX Ps
      (d_ lw
       (aX wv
        (cN 4 (e2 iH Sc u8)))
       (d_ Á
         IR
         (d_ wr
           (aX (qG 3 (fN (aC Re aN)))
            (cN 4 (e2 nV Sc u8)))
           cO))))
def Aq:xl=aX (cN 8 Ð) (aX (d_ (c_ (e2 fh (eV 6) v0)) (cN 5 (e2 hW ge bd)) cO) Gw):=rfl
set_option tactic.hygienic true in
theorem Br{a0:D}{nms txs:List aE}{k:List D}{lean j c:Int}{v9:Option D}(K:nms.length=5)(J:txs.length=5)(l:SG k a)(L:k.length<=i)(N:i<=1000)(n:0<=lean/\lean<3)(H:0<=j):
  ∃g f m,Gw [Y a0,Y (.lst (nms.map D.str)),Y (.lst (txs.map D.str)),Y (.lst k),Y (.int a),Y (.int lean),Y (.int j),Y (.int c),Y (.int c),v9] =
   Y (.nx [Y a0,Y (.lst (nms.map D.str)),Y (.lst (txs.map D.str)),Y (.lst g),Y (.int f),Y (.int lean),Y (.int j),Y (.int c),Y (.int c),m])/\SG g f/\g.length<=i+1:=by
 have q:=cG (c/7%11) (show (5:Int)≠0 by decide);have p:=cG (c/7) (show (5:Int)≠0 by decide);obtain⟨r,z,_⟩:=yM (xs:=nms) q ž;obtain⟨o,y,_⟩:=yM (xs:=txs) p ž;have d:k.length<dE:=by rw[kb];lia
 unfold Gw;walk_at "v";rw[lU (by decide)];walk_at "v";rw[Zv ⟨by lia,by lia⟩];walk_at "v";rw[HU ⟨by decide,by decide⟩];walk_at "v";rw[lU (by decide)];walk_at "v";rw[YM l.sg];walk_at "v";generalize (c+lean*(j%2)*5)%7=e;have u:∃b,(if k.isEmpty=Z' then Y Z' else if decide (e<3)=Z' then Y (decide (0<a)) else Y Z_)=Y b/\(b=Z'->k=[]\/0<a):=by
  split
  .rename_i h;exact⟨Z',rfl,λ_ =>.inl ż⟩
  .split<;>simp_all
 obtain⟨G,C,x⟩:=u;rw[C];cases G with
 |true=>walk_at "v";rw[rO ⟨by decide,by decide⟩];walk_at "v";rw[lU (by decide)];walk_at "v";rw[lU (by decide)];walk_at "v";rw[z];walk_at "v";rw[if_pos d];walk_at "v";exact⟨_,_,_,rfl,l.open r (x rfl),by simp;lia⟩
 |false=>
  walk_at "v";have t:∃b,(if decide (e<5)=Z' then Y (decide (0<a)) else Y Z_)=Y b/\(b=Z'->0<a):=by split<;>simp_all
  obtain⟨F,B,w⟩:=t;rw[B];cases F with
  |true=>walk_at "v";rw[rO ⟨by decide,by decide⟩];walk_at "v";rw[lU (by decide)];walk_at "v";rw[y];walk_at "v";rw[if_pos d];exact⟨_,_,_,rfl,l.text o (w rfl),by simp;lia⟩
  |false=>
   walk_at "v";rw[rO ⟨by decide,by decide⟩];walk_at "v";rw[lU (by decide)];walk_at "v";have s:∃b,(if decide (1<a)=Z' then Y Z' else if (a==1)=Z' then Y (c/7%6==0) else Y Z_)=Y b/\(b=Z'->0<a):=by split<;>grind
   obtain⟨E,A,v⟩:=s;rw[A];cases E with
   |true=>walk_at "v";rw[if_pos d];walk_at "v";exact⟨_,_,_,rfl,l.close (v rfl),by simp;lia⟩
   |false=>walk_at "v";exact⟨_,_,_,rfl,l,ž⟩
def My(k:List Int)(f:List aE)(O:k.length<=500)(G:f.length=5):∃h b,sQ [.lst (k.map D.int),.lst (f.map D.str)]=Y h/\SG h b/\h.length<=k.length:=by
 unfold sQ Je;walk_at "v";have B:([af "x",af "",af "y x",af "\"",af "[a]"]:List aE).length=5:=rfl;have K:[D.str (af "x"),D.str (af ""),D.str (af "y x"),D.str (af "\""),D.str (af "[a]")]=([af "x",af "",af "y x",af "\"",af "[a]"]:List aE).map D.str:=rfl;rw[K];generalize ([af "x",af "",af "y x",af "\"",af "[a]"]:List aE)=l at B;obtain⟨H,L,⟨h,b,a,z,y,w,q,rfl,v,s,_⟩⟩:=rN (τ:=DY 6 7) (g:=xl) (ds:=xQ (k.map D.int)) (λi C=>∃(h:List D) (b a:Int) (z y w q:Option D),C=[Y (.lst (k.map D.int)),Y (.lst (f.map D.str)),Y (.lst (l.map D.str)),Y (.lst h),Y (.int b),Y (.int a),z,y,w,q]/\SG h b/\h.length<=i/\(0<=a/\a<3))
  ⟨[],0,0,M,M,M,M,rfl,SG.nil,aH _,ſ,ſ⟩ (by
  rintro j d C I ⟨h,b,a,z,y,w,q,rfl,v,s,r⟩;obtain⟨x,A,rfl⟩:=w_ I;obtain⟨c,J,rfl⟩:=zS A;have N:j<k.length:=(au.mp J).1;have F:=cG (c/7) (show (3:Int)≠0 by decide);have E:=cu (c/7) (show (0:Int)<3 by decide);by_cases u:((j:Int)==0)=Z'
  .obtain⟨n,g,m,e,o,p⟩:=Br (a0 :=.lst (k.map D.int)) (nms:=f) (txs:=l) (lean:=c/7%3) (j:=(j:Int)) (c:=c) (v9:=q) G B v s ž ⟨F,E⟩ ž;refine⟨_,_,rfl,?_,⟨n,g,c/7%3,Y (.int j),Y (.int c),Y (.int c),m,rfl,o,p,F,E⟩⟩;rw[Aq];walk_at "v";rw[u];walk_at "v";rw[rO ⟨by decide,by decide⟩];walk_at "v";rw[lU (by decide)];walk_at "v";exact e
  .have t:((j:Int)==0)=false:=by simpa using u
   obtain⟨n,g,m,e,o,p⟩:=Br (a0 :=.lst (k.map D.int)) (nms:=f) (txs:=l) (lean:=a) (j:=(j:Int)) (c:=c) (v9:=q) G B v s ž r ž;refine⟨_,_,rfl,?_,⟨n,g,a,Y (.int j),Y (.int c),Y (.int c),m,rfl,o,p,r⟩⟩;rw[Aq];walk_at "v";rw[t];walk_at "v";exact e)
 rw[L];walk_at "v";rw[w8,aD]at s;exact⟨h,b,rfl,v,s⟩
def K1(a:List Int)(n:Nat):jy (a.map D.int) n=true:=by
 induction a with|nil=>rfl|cons x a ih=>solve_by_elim
def VA(a:List Int):fh (.lst (a.map D.int)) (.lst [])=Y (.bl a.isEmpty):=by
 simp only[fh];rw[if_pos (by rw[Rm (K1 a 179)];rfl)];cases a<;>rfl
noncomputable def wB(a:List Int):Int:=a.getLastD 0
def GR(a:List Int):vU [.lst (a.map D.int)]=Y (.int (wB a),a.dropLast.map D.int):=by
 have t:c_ (e2 fh (eV 0) (eF (iI aN))) [Y (.lst (a.map D.int))]=Y a.isEmpty:=by walk_at "v";simp[VA]
 show (aX _ _ [Y _]).bind _=_;rcases List.eq_nil_or_concat a with rfl|⟨b,x,rfl⟩
 .exact ź
 .have e:d_ (c_ (e2 fh Fa wf)) (dH (mP v0)) cO [Y (.lst ((b.concat x).map D.int))]=Y (.nx [Y (.lst ((b.concat x).map D.int))]):=by rw[Xv (by simp_all)];exact ź
  rw[PV e];simp only[dH,UU];walk_at "v";simp[Qo,gk,eV,wB]
theorem NI{ρ:bY}{τ:FZ}{fe:DM}{i0:Nat}{Pr:D->Prop}:∀ {ds:List D}(e:List Int),(∀d∈ds,∀e:List Int,∃(c:bY) (x:D) (b:bY) (a:List Int),τ d (ρ.set i0 (Y (.lst (e.map D.int))))=Y c/\fe c=Y (x,b)/\gk i0 b=Y (a.map D.int)/\Pr x)->∃f a,UZ ρ τ fe i0 ds (e.map D.int)=Y (f,LM D.int a)/\f.length=ds.length/\∀x∈f,Pr x
 |[],e,_=>⟨[],e,rfl,rfl,λx h=>by cases h⟩
 | d::ds,e,h=>by
  obtain⟨c,x,b,g,_⟩:=h d aJ e;obtain⟨f,a,n,l,k⟩:=NI g λd m=>h d (bI _ m)
  refine⟨x::f,a,?_,by simp[l],λy i =>?_⟩
  .simp_all [UZ,ai,d9]
  grind
noncomputable abbrev qA(xs:List Int)(a:List aE)(b:Int):List D:=[.lst (xs.map D.int),.int b,.lst (a.map D.str)]
def Bp(Fw Fs:List D->Option (D×List D))(n:Nat)(dp:Int)(hdp:dp=n)(nms:List aE)
  (hs:∀m,n=m+1->∀xs:List Int,∃(lR:List (aE×aE×D)) (xs':List Int),Fs (qA xs nms (dp-1))=Y (.lst (lR.map dw),xs'.map D.int)/\1<=lR.length/\lR.length<=3/\∀p∈lR,fV (m+1) p.2.2)
  (hw:∀m,n=m+1->∀xs:List Int,∃(w:D) (xs':List Int),Fw (qA xs nms (dp-1))=Y (w,xs'.map D.int)/\fV (m+1) w)
  (xs:List Int):∃(w:D) (xs':List Int),AX 3 5 0 (C8 Fw Fs) (qA xs nms dp)=Y (w,xs'.map D.int)/\fV (n+1) w:=by
 have q1:=cu (wB xs) (show (0:Int)<8 by decide);have e8:hW (.int (wB xs)) (.int 8)=Y (.int (wB xs%8)):=lU ſ;have f8:j7 (.int (wB xs)) (.int 8)=Y (.int (wB xs/8)):=rO ⟨ſ,ſ⟩;have NW:=GR xs;generalize wB xs=num at *
 generalize num%8=kd at *
 generalize num/8=nd at *
 unfold C8;walk_at "v";rw[NW];walk_at "v";rw[e8];walk_at "v";by_cases k1:kd<2\/(dp=0/\2<kd)
 .have:(if decide (kd<2)=Z' then Y Z' else if (dp==0)=Z' then Y (decide (2<kd)) else Y Z_)=Y true:=by
   by_cases a:kd<2
   .rw[decide_eq_true a];rfl
   .rw[decide_eq_false a];rcases k1 with z|⟨z,z'⟩
    .exact absurd z a
    .rw[z,decide_eq_true z'];rfl
  rw[this];walk_at "v";exact⟨_,xs.dropLast,rfl,.inl rfl⟩
 .have:(if decide (kd<2)=Z' then Y Z' else if (dp==0)=Z' then Y (decide (2<kd)) else Y Z_)=Y false:=by
   have a:¬kd<2:=λz=>k1 (.inl z)
   rw[decide_eq_false a];by_cases b:dp=0
   .rw[decide_eq_false (λz=>k1 (.inr ⟨b,z⟩)),b];rfl
   .rw[show (dp==0)=Z_ by simp[b]];rfl
  rw[this];walk_at "v";by_cases k2:kd=2
  .rw[show (kd==2)=Z' by simp[k2]];walk_at "v";rw[f8];walk_at "v";rw[lU (by decide)];walk_at "v";have r0:=cG nd (show (5:Int)≠0 by decide);have r1:=cu nd (show (0:Int)<5 by decide);obtain⟨tx,et,_⟩:=yM (xs:=[af "x",af "",af "y x",af "\"",af "[a]"]) (z:=nd%5) r0 r1;rw[show oY _ (nd%5)=Y (.str tx) from et];walk_at "v";exact⟨_,xs.dropLast,rfl,.inr (.inl ⟨tx,rfl⟩)⟩
  .rw[show (kd==2)=Z_ by simp[k2]];walk_at "v";obtain⟨m,hm⟩:∃m,n=m+1:=by
    cases n with
    |zero=>exact absurd (.inr ⟨by rw[hdp];rfl,by have:=λz=>k1 (.inl z);lia⟩) k1
    |succ m=>exact⟨m,rfl⟩
   subst hm;by_cases k5:kd<5
   .rw[decide_eq_true k5];walk_at "v";obtain⟨lR,xs',es,l0,l1,ZP⟩:=hs m rfl xs.dropLast;simp only[qA]at es;rw[es];walk_at "v";exact⟨_,xs',rfl,.inr (.inr (.inl ⟨lR,rfl,by intro h;rw[h]at l0;simp at l0,l1,ZP⟩))⟩
   .rw[decide_eq_false k5];walk_at "v";by_cases k6:kd=5
    .rw[show (kd==5)=Z' by simp[k6]];walk_at "v";exact⟨_,xs.dropLast,rfl,.inr (.inr (.inl ⟨[(af "own",af "*",.tup [kS "any"])],rfl,Ž,Ž,λp hp=>by rw[cW.mp hp];exact .inl rfl⟩))⟩
    .rw[show (kd==5)=Z_ by simp[k6]];walk_at "v";obtain⟨kn,ek,hk⟩:∃kn:aE,oY [D.str (af "both"),D.str (af "one")] (kd-6)=Y (.str kn)/\(kn=af "both" \/kn=af "one"):=by
      have:kd=6\/kd=7:=by have:=λz=>k1 (.inl z);lia
      rcases this with rfl|rfl
      .exact⟨_,rfl,.inl rfl⟩
      .exact⟨_,rfl,.inr rfl⟩
     rw[ek];walk_at "v";rw[f8];walk_at "v";rw[lU (by decide)];walk_at "v";have r0:=cG nd (show (4:Int)≠0 by decide);have r1:=cu nd (show (0:Int)<4 by decide);generalize nd%4=mn at *
     rw[if_pos (⟨Int.le_trans (by decide) r0,wd r1 (by decide)⟩)];walk_at "v";have hz:(oP 0 mn.toNat).length<=dE:=by rw[pw,kb];lia
     rw[if_pos hz];obtain⟨ws,xs',el,hl,hws⟩:=NI (ρ:=[M,Y (.lst (xs.dropLast.map D.int)),Y (.lst (nms.map D.str)),Y (.int dp)]) (τ:=gN 0) (fe:=tR Fw 1 (aC (e2 nV (eV 3) (eK (.int 1))) (aC (eV 2) aN))) (i0:=1) (Pr:=fV (m+1)) (ds:=oP 0 mn.toNat) xs.dropLast λd c ys=>by obtain⟨w,ys',ew,hww⟩:=hw m rfl ys;simp only[qA]at ew;refine⟨_,w,[Y d,Y (.lst (ys'.map D.int)),Y (.lst (nms.map D.str)),Y (.int dp)],ys',rfl,?_,rfl,hww⟩;walk_at "v";rw[ew];walk_at "v"
     rw[el];walk_at "v";rw[pw]at hl;refine⟨_,xs',rfl,?_⟩;rcases hk with rfl|rfl
     .exact .inr (.inr (.inr (.inl ⟨ws,rfl,ž,hws⟩)))
     .exact .inr (.inr (.inr (.inr ⟨ws,rfl,ž,hws⟩)))
def Gz(Fw Fs:List D->Option (D×List D))(n:Nat)(dp:Int)(nms:List aE)(hn:nms.length=5)
  (hw:∀xs:List Int,∃(w:D) (xs':List Int),Fw (qA xs nms dp)=Y (w,xs'.map D.int)/\fV (n+1) w)
  (xs:List Int):∃(lR:List (aE×aE×D)) (xs':List Int),AX 3 7 0 (C_ Fw Fs) (qA xs nms dp)=Y (.lst (lR.map dw),xs'.map D.int)/\1<=lR.length/\lR.length<=3/\∀p∈lR,fV (n+1) p.2.2:=by
 have r0:=cG (wB xs) (show 3≠0 by simp);have r1:=cu (wB xs) (show 0<3 by simp);have e4:hW (.int (wB xs)) (.int 3)=Y _:=lU Ž;have NW:=GR xs;generalize wB xs=num at *
 generalize num%3=md at *
 unfold C_;walk_at "v";rw[NW];walk_at "v";rw[e4];walk_at "v";rw[if_pos (by lia)];walk_at "v";obtain⟨ρ',ef,ys,lR,v4,v5,v6,rfl,hl,ZP⟩:=rN (τ:=gN 4) (g:=sL Fw Fs) (λi ρ=>∃(ys:List Int) (lR:List (aE×aE×D)) (v4 v5 v6:Option D),ρ=[Y (.lst (ys.map D.int)),Y (.int dp),Y (.lst (nms.map D.str)),Y (.lst (lR.map dw)),v4,v5,v6]/\lR.length=i/\∀p∈lR,fV (n+1) p.2.2)
  (ρ:=[Y (.lst (xs.dropLast.map D.int)),Y (.int dp),Y (.lst (nms.map D.str)),Y (.lst []),M,M,M]) ⟨xs.dropLast,[],M,M,M,rfl,rfl,λs h=>(by cases h)⟩ (by
  refine λj d ρ hd xx=>ae λkk =>?_
  obtain⟨ys,lR,v4,v5,v6,rfl,hl,ZP⟩:=xx;have hj:j<(1+md).toNat:=by have:=(au.mp hd).1;rw[pw]at this;exact this
  have NW:=GR ys;generalize wB ys=num at *
  obtain⟨w,zs,ew,hww⟩:=hw ys.dropLast;simp only[qA]at ew;have t0:=cG (num/2) (show (7:Int)≠0 by decide);have t1:=cu (num/2) (show (0:Int)<7 by decide);obtain⟨nm,en,_⟩:=yM (xs:=nms.take 4++[af "*",af "*",af "*"]) t0 (by simp[hn];lia);rw[cm]at en;obtain⟨wy,ey⟩:∃wy:aE,oY [D.str (af "own"),D.str (af "inner")] (num%2)=Y (.str wy):=by
   have:num%2=0\/num%2=1:=by lia
   rcases this with z|z
   .rw[z];exact⟨_,rfl⟩
   .rw[z];exact⟨_,rfl⟩
  refine kk (⟨_,_,rfl,?_,zs,lR++[(wy,nm,w)],Y d,Y (.int num),Y (.str nm),rfl,by simp[hl],λs hs =>?_⟩)
  .unfold sL;walk_at "v";rw[NW];walk_at "v";rw[rO ⟨by decide,by decide⟩];walk_at "v";rw[OI _ (by decide),<- AN];have abC:iH (.lst ((nms.take (4:Int).toNat).map D.str)) (.lst [.str (af "*"),.str (af "*"),.str (af "*")])=Y (.lst ((nms.take 4).map D.str++[.str (af "*"),.str (af "*"),.str (af "*")])):=by simp only[iH];rw[if_pos (by simp[kb];lia)];rfl
   rw[abC];walk_at "v";rw[lU (by decide)];walk_at "v";rw[show oY _ (num/2%7)=Y (.str nm) from en];walk_at "v";rw[lU (by decide)];walk_at "v";rw[ey];walk_at "v";rw[ew];walk_at "v";rw[if_pos (by rw[kb,aD];lia),cm];rfl
  .rcases bG.mp hs with hs|hs
   .exact ZP s hs
   .rw[cW.mp hs];exact hww)
 rw[ef];walk_at "v";rw[pw]at hl
 grind
end K21
namespace K21
open PySem L2
noncomputable def Hh:pK->Bool|.op _=>Z'|_=>Z_
noncomputable def Hj:pK->Bool|.cl=>Z'|_=>Z_
theorem Di{ρ:bY}(h:∀g:pK,c_ (e2 fh ci (eK (.str k))) [Y (cz g)]=Y (p g)):∀a:List pK,zK [M] (gN 0) (c_ (e2 fh ci (eK (.str k)))) Fa (a.map cz)=Y ((a.filter p).map cz)
 |[]=>rfl| g::a=>by
  rw[bx,zK];have c:gN 0 (cz g) [M]=Y [Y _]:=rfl;have b:eV 0 [Y _]=Y (cz g):=rfl;rw[c];simp only[ai,h g,b,Di (ρ:=ρ) h a]
  grind
theorem sH:∀(a:List pK) (d:Nat) (b:Bool) (f:Nat) (i:Bool),vg a (d,b)=Y (f,i)->(d:Int)+(a.filter Hh).length-(a.filter Hj).length=f
 |[],d,b,f,i,h=>by cases h;simp
 | g::a,d,b,f,i,h=>by
  rw[vg]at h;cases g with
  |op n=>
   by_cases c:0<d\/b=Z_
   .have e:iM (d,b) (.op n)=Y (d+1,Z'):=by show (if _ then _ else _)=_;rw[if_pos c]
    rw[e]at h;have:=sH a _ _ f i h;simp only[Wc,Hh,Hj,bo];lia
   simp_all [iM,if_neg]
  |tx n=>
   by_cases c:0<d
   .have e:iM (d,b) (.tx n)=Y (d,b):=by show (if _ then _ else _)=_;rw[if_pos c]
    rw[e]at h;have:=sH a d b f i h
    exact ź
   simp_all [iM,if_neg]
  |cl=>
   by_cases c:0<d
   .have e:iM (d,b) .cl=Y (d-1,b):=by show (if _ then _ else _)=_;rw[if_pos c]
    rw[e]at h;have:=sH a _ b f i h;simp only[Wc,Hh,Hj,bo];lia
   simp_all [iM,cl,if_neg]
def OB(n:a.length<=1000)(h:vg a (0,Z_)=Y (d,b)):qp [.lst (a.map cz)]=Y (.int (d:Nat)):=by
 show (yE [Y _]).bind _=_;have m:lZ At [M] (gN 0) (c_ (e2 fh ci ce)) Fa [Y (.lst (a.map cz))]=Y ((a.filter Hh).map cz):=by unfold lZ;show (if (a.map cz).length<=dE then zK [M] (gN 0) _ Fa (a.map cz) else M)=_;rw[if_pos (fA (iQ (by rw[aD];lia)))];exact Di (ρ:=[]) (λg=>by cases g<;>kernel_rfl) a
 have l:lZ At [M] (gN 0) (c_ (e2 fh ci Re)) Fa [Y (.lst (a.map cz))]=Y ((a.filter Hj).map cz):=by unfold lZ;show (if (a.map cz).length<=dE then zK [M] (gN 0) _ Fa (a.map cz) else M)=_;rw[if_pos (fA (iQ (by rw[aD];lia)))];exact Di (ρ:=[]) (λg=>by cases g<;>kernel_rfl) a
 have k:bc ic PP [Y (.lst (a.map cz))]=Y (.int ((a.filter Hh).length:Nat)):=by rw[uK m];show Y (D.int (((a.filter Hh).map cz).length:Nat))=_;rw[aD]
 have j:bc ic EQ [Y (.lst (a.map cz))]=Y (.int ((a.filter Hj).length:Nat)):=by rw[uK l];show Y (D.int (((a.filter Hj).map cz).length:Nat))=_;rw[aD]
 unfold yE dy;rw[show ∀(f g:DF) c,L2.e2 nV f g c=(f c).bind λx=>(g c).bind λy=>nV x y from λe e e=>rfl,k,j];have:=sH a 0 Z_ d b h;show Y (D.int (((a.filter Hh).length:Nat)-((a.filter Hj).length:Nat):Int))=_
 simp_all
theorem AO(c:List aE)(q:c.length=5):∀(n:Nat),
  (∀(a:Nat) (e:List Int),2*n+1<=a->∃(w:D) (b:List Int),gi a (qA e c (n:Int))=Y (w,b.map D.int)/\fV (n+1) w) /\
  (∀(a:Nat) (e:List Int),2*n+2<=a->∃(d:List (aE×aE×D)) (b:List Int),fW a (qA e c (n:Int))=Y (.lst (d.map dw),b.map D.int)/\1<=d.length/\d.length<=3/\∀p∈d,fV (n+1) p.2.2):=by
 intro n;have i:∀(k:Nat),(∀(a:Nat) (e:List Int),2*k+1<=a->∃(w:D) (b:List Int),gi a (qA e c (k:Int))=Y (w,b.map D.int)/\fV (k+1) w)->(∀(a:Nat) (e:List Int),2*k+2<=a->∃(d:List (aE×aE×D)) (b:List Int),fW a (qA e c (k:Int))=Y (.lst (d.map dw),b.map D.int)/\1<=d.length/\d.length<=3/\∀p∈d,fV (k+1) p.2.2):=by
  intro k r a e l;cases a with
  |zero=>trivial|succ f=>rw[fW];exact Gz (gi f) (fW f) k (k:Int) c q (λg=>r f g ż) e
 induction n with
 |zero=>
  have j:∀(a:Nat) (e:List Int),2*0+1<=a->∃(w:D) (b:List Int),gi a (qA e c ((0:Nat):Int))=Y (w,b.map D.int)/\fV (0+1) w:=by
   intro a e l;cases a with
   |zero=>trivial|succ f=>rw[gi];exact Bp (gi f) (fW f) 0 _ rfl c (λm h=>by cases h) (λm h=>by cases h) e
  exact⟨j,i 0 j⟩
 |succ m ih=>
  have j:∀(a:Nat) (e:List Int),2*(m+1)+1<=a->∃(w:D) (b:List Int),gi a (qA e c ((m+1:Nat):Int))=Y (w,b.map D.int)/\fV (m+1+1) w:=by
   intro a e l;cases a with
   |zero=>trivial|succ f=>
    rw[gi];have o:((m+1:Nat):Int)-1=(m:Int):=Ž
    refine Bp (gi f) (fW f) (m+1) _ rfl c (λk h =>?_) (λk h =>?_) e
    .cases h;rw[o];exact λg=>ih.2 f g (by lia)
    .cases h;rw[o];exact λg=>ih.1 f g (by lia)
  exact ź
def Lu{F:List D->Option (D×List D)}(f:g a=Y b)(e:h a=Y c)(d:F (.lst b::c)=Y r):yK F g h a=Y r.1:=by
 simp_all [yK,ai]
structure RH(fit:Int->Int->Int)(r:dM):Prop where
 sm:Sm 63 r.fits
 ft:Le r.fits (fit r.named r.atoms)
structure Lax(inner:Int)(pr r:dM):Prop where
 re:Le r.bh (yB inner pr.bh pr.ra r.fits)
 ra:Le r.ra (bO pr.ra r.bh)
structure KR(fit:Int->Int->Int)(inner:Int)(rows:List dM):Prop where
 rl:∀(i:Nat) (r:dM),rows[i+1]?=some r->RH fit r
 ch:∀(i:Nat) (p r:dM),rows[i]?=some p->rows[i+1]?=some r->Lax inner p r
structure Kp(fit:Int->Int->Int)(inner:Int)(rows MO:List dM):Prop where
 nu:MO.map (·.number)=rows.map (·.number)
 re:MO.map (·.bh)=rows.map (·.bh)
 kr:KR fit inner rows->KR fit inner MO
section
variable {f:xy}{v:Int}
def Kp.trans(h:Kp n a o A)(g:Kp n a A G):Kp n a o G:=⟨g.nu.trans h.nu,g.re.trans h.re,λz=>g.kr (h.kr z)⟩
def Kp.set{i:Nat}{r r':dM}(h:o[i]?=Y r)(k:r'.number=r.number)(d:r'.bh=r.bh)(f:r'.ra=r.ra)(g:RH n r->RH n r'/\Le r.fits r'.fits):Kp n a o (o.set i r'):=by
 refine⟨?_,?_,λK=>⟨λj s e =>?_,λj p s b c =>?_⟩⟩
 .simp_all [wb,fS,bt]
 .simp_all [wb,fS,bt]
 .by_cases z:i=j+1
  .subst z;rw[bj (au.mp h).1]at e;cases e;exact(g (K.rl j r h)).1
  .rw[av z]at e;exact K.rl j s e
 .by_cases z:i=j+1
  .subst z;rw[bj (au.mp h).1]at c;cases c;rw[av (by simp)]at b;have L:=K.ch j p r b h;refine⟨?_,by rw[d,f];exact L.ra⟩;rw[d];exact λi e=>SE (λ_ h=>h) (λ_ h=>h) (g (K.rl j r h)).2 i (L.re i e)
  .rw[av z]at c;by_cases y:i=j
   .subst y;rw[bj (au.mp h).1]at b;cases b;have L:=K.ch i r s h c;exact⟨by rw[d,f];exact L.re,by rw[f];exact L.ra⟩
   .rw[av y]at b;exact K.ch j p s b c
def Kp.atoms(W:FW f v n B C E){i:Nat}{r:dM}(h:o[i]?=Y r)(x:Int):Kp n a o (o.set i { r with atoms:=bO r.atoms x }):=
 .set h rfl rfl rfl λL=>⟨⟨L.sm,λi e=>W.mono _ _ _ (Hf _ _) i (L.ft i e)⟩,λ_ h=>h⟩
set_option tactic.hygienic true in
theorem Cu(W:FW f v n B C E):∀(p:Nat) (b:Bool) (o:List dM),Kp n a o (lF n B b p o)
 |0,b,o=>by cases b<;>exact⟨rfl,rfl,id⟩
 |p+1,Z_,o=>⟨rfl,rfl,id⟩| p+1,Z',o=>by
  unfold lF;split
  .rename_i r c e d;refine .trans (.trans (.set (r':={ r with fits:=n _ _ }) e rfl rfl rfl λL=>⟨⟨W.sm _ _,λ_ h=>h⟩,L.ft⟩) (.atoms W ?_ _)) (Cu W p _ _)
   simp_all
  exact ź
theorem EC(p:b->Bool):∀l:List b,(l.filter p).length+(l.filter λx=> !p x).length=l.length
 |[]=>rfl| x::l=>by
  have:=EC p l
  grind
def CT(k:Nat)(b:List Int):Nat:=(b.filter λx=> !tz x k).length
theorem nH(x:Int)(b:List Int):CT k (x::b)=(if tz x k then 0 else 1)+CT k b:=by
 grind [CT,List.filter_cons,tz]
theorem Mz:∀(b:List dM) (p q:dM),Le p.bh q.bh->Le p.ra q.ra->KR n a (p::b) ->
  V4 a q b/\KR n a (q::gy a q b)/\(gy a q b).map (·.number)=b.map (·.number)/\(rE a (2 ^ k) q b).length+CT k ((gy a q b).map (·.bh))<=CT k (b.map (·.bh))
 |[],p,q,j,f,K=>⟨trivial,⟨λi r e=>(by simp[gy]at e),λi p r o e=>(by simp[gy]at e)⟩,rfl,aH _⟩
 | r::b,p,q,j,f,K=>by
  have L:=K.ch 0 p r rfl rfl;have R:=K.rl 0 r rfl;have g:Le r.bh (oJ a q r).bh:=λi e=>SE j f (λo h=>h) i (L.re i e)
  have x:Le r.ra (oJ a q r).ra:=λi e=>NF f g i (L.ra i e)
  obtain⟨z,l,y,D⟩:=Mz b r (oJ a q r) g x ⟨λi s e=>K.rl (i+1) s e,λi s t d c=>K.ch (i+1) s t d c⟩;have s:=(wt (x:=bO q.bh (bA q.ra a)) R.sm);refine⟨⟨by lia,z⟩,⟨λi t e =>?_,λi t u d c =>?_⟩,?_,?_⟩
  .cases i with|zero=>cases e;exact⟨R.sm,R.ft⟩|succ i=>exact l.rl i t e
  .cases i with
   |zero=>cases d;cases c;exact⟨λo h=>h,λo h=>h⟩
   |succ i=>exact l.ch i t u d c
  .show r.number::_=r.number::_;rw[y]
  .show ((if Dh a (2 ^ k) q r then [r.number] else [])++rE a (2 ^ k) (oJ a q r) b).length+CT k ((oJ a q r).bh::_)<=CT k (r.bh::_);rw[nH,nH,bB];have e:Dh a (2 ^ k) q r=(tz (oJ a q r).bh k && !tz r.bh k):=by show (bA (bA (oJ a q r).bh (bN r.bh)) (2 ^ k) != 0)=_;rw[Me,t9,Cp]
   rw[e];have m:=g k;cases h:tz r.bh k with
   |true=>rw[m h];simp;solve_by_elim|false=>grind
structure SI(f:xy)(mm:Int)(fit:Int->Int->Int)(c:gu)(nl d:Nat)(b:Bool):Prop where
 ff:c.f=f
 fa:c.mm=mm
 fu:c.full=2 ^ f.q.length
 len:c.rows.length=d+1
 kr:KR fit f.inner c.rows
 pl:∀y∈c.rests,WR c.rows y
 nd:(c.rests.map (·.num)++c.rows.map (·.number)).Nodup
 lt:∀x∈c.rests.map (·.num)++c.rows.map (·.number),x<c.opened
 Wt:((nl+c.rests.length+CT f.q.length (c.rows.map (·.bh)):Nat):Int)<=c.opened+1
 cnt:((c.rests.length+c.rows.length:Nat):Int)<=c.opened+1
 tk:c.opened<=c.taken
 op:b=decide (0<c.opened)
def SI.keep(I:SI f v n c w d b)(K:Kp n f.inner c.rows o):SI f v n { c with rows:=o } w d b:=by
 have g:o.length=c.rows.length:=by have:=congrArg sW K.nu;simp_all
 have h:=I.nd;have i:=I.lt;have e:=I.Wt;rw[<- K.nu]at h i;rw[<- K.re]at e;exact⟨I.ff,I.fa,I.fu,g.trans I.len,K.kr I.kr,λy k=>by have:=I.pl y k;unfold WR at this ⊢;rw[g];exact this,h,i,e,by rw[g];exact I.cnt,(I.tk),I.op⟩
def SI.tk1(I:SI f v n c w d b):SI f v n (iN c) w d b:=⟨I.ff,I.fa,I.fu,I.len,I.kr,I.pl,I.nd,I.lt,I.Wt,I.cnt,by have:=I.tk;show c.opened<=c.taken+1;lia,I.op⟩
end
section
variable {f:xy}{v:aE->Int}
def IX(h:rows≠[]):∃b r,rows=b++[r]:=⟨_,_,(List.dropLast_concat_getLast h).symm⟩
def IP(c b:List Int):CT k (c++b)=CT k c+CT k b:=by unfold CT;rw[List.filter_append,bB]
def KR.app{r:dM}(K:KR a t rows)(h:RH a r)(c:r.bh=0)(b:r.ra=0):KR a t (rows++[r]):=by
 have g:∀(i:Nat) (s:dM),(rows++[r])[i]?=Y s->rows[i]?=Y s\/i=rows.length/\s=r:=λi s e=>by
  rcases Nat.lt_trichotomy i _ with z|z|z
  .rw[dQ z]at e;exact .inl e
  .subst z;rw[List.getElem?_concat_length]at e;cases e<;>simp
  .rw[List.getElem?_eq_none (by rw[bB,il];trivial)]at e;cases e
 refine⟨λi s e =>?_,λi p s f d =>?_⟩
 .rcases g _ s e with z|⟨_,rfl⟩
  .exact K.rl i s z
  .exact h
 .rcases g _ s d with z|⟨z,rfl⟩
  .rcases g _ p f with y|⟨y,simp⟩
   .exact K.ch i p s y z
   simp_all
  .exact⟨by rw[c];exact JU _,by rw[b];exact JU _⟩
def KR.pop(K:KR a t (rows++[r])):KR a t rows:=by
 have g:∀(i:Nat) (s:dM),rows[i]?=Y s->(rows++[r])[i]?=Y s:=λi s e=>by rw[dQ (au.mp e).1];exact e
 exact⟨λi s e=>K.rl i s (g _ s e),λi p s c b=>K.ch i p s (g _ p c) (g _ s b)⟩
def SI.open(W:FW f o a u v w)(I:SI f o a c j d b)(n:Int)(p:dM):SI f o a (CO a u (iN c) n p) j (d+1) true:=by
 have h:SI f o a { iN c with opened:=c.opened+1,rows:=c.rows++[k8 a (iN c) c.opened n 0 p] } j (d+1) true:=by
  have i:=I.Wt;have q:=I.cnt;have m:=I.tk;have k:=I.len;refine⟨I.ff,I.fa,I.fu,?_,I.kr.app ⟨W.sm _ _,λ_ h=>h⟩ rfl rfl,λy g =>?_,?_,λx e =>?_,?_,?_,?_,(decide_eq_true (by lia)).symm⟩
  .simp_all
  .have:=I.pl y g
   grind
  .rw[cm,<- b8];refine iX.mpr ⟨I.nd,Ž,λx e y g =>?_⟩;have:=I.lt x e;rw[cW.mp g];show x≠c.opened
   lia
  .rw[cm,<- b8]at e;show x<c.opened+1;rcases bG.mp e with z|z
   .have:=I.lt x z;lia
   .rw[cW.mp z];show c.opened<c.opened+1;lia
  .show ((j+c.rests.length+CT f.q.length ((c.rows++[_]).map dM.bh):Nat):Int)<=c.opened+1+1;rw[cm,IP];show ((_+(_+CT _ [0]):Nat):Int)<=_;rw[nH,u0];have i:((j+c.rests.length+CT f.q.length (c.rows.map dM.bh):Nat):Int)<=c.opened+1:=i;show ((_+(_+(1+0)):Nat):Int)<=_
   lia
  .show ((c.rests.length+(c.rows++[_]).length:Nat):Int)<=c.opened+1+1
   grind
  .show c.opened+1<=c.taken+1;lia
 exact h.keep (Cu W _ _ _)
def UO(c:gu)(p:Nat)(r q:dM)(m:r8):(DV c p r q m).num=m.num:=by unfold DV;split<;>rfl
def SI.close(I:SI f o a c j d b)(hd:0<d):∃rs p r,c.rows=rs++[p]++[r]/\((qk (jf c) r).map (·.num)).Nodup/\((qk (jf c) r).length:Int)<=c.opened+1/\SI f o a (yi (iN c) r p) j (d-1) b:=by
 have hl:=I.len;obtain⟨rs1,r,e⟩:=IX (rows:=c.rows) (λz=>by rw[z]at hl;simp at hl);have Vn:rs1.length=d:=by rw[e,bB,il]at hl;lia
 obtain⟨rs,p,rfl⟩:=IX (rows:=rs1) (λz=>by rw[z]at Vn;simp at Vn;lia);have ep:(jf c).rows=rs++[p]:=by show c.rows.dropLast=_;rw[e,yo]
 have hp:=I.Wt;have hc:=I.cnt;have ht:=I.tk;have hn:=I.nd;have SA:=I.lt;rw[e,cm]at hn SA;rw[e,cm,IP]at hp;have hx:CT f.q.length ([r].map (·.bh))=if tz r.bh f.q.length then 0 else 1:=nH _ _
 rw[hx]at hp;rw[e,bB,il]at hc;have ha:∃X:List r8,qk (jf c) r=c.rests++X/\X.length=(if tz r.bh f.q.length then 0 else 1)/\(∀m∈X,m.num=r.number/\m.place=d)/\(X.map (·.num)).Sublist [r.number]:=by unfold qk;rw[show (jf c).full=2 ^ f.q.length from I.fu,Me,ep,Vn];refine⟨_,rfl,?_⟩;cases tz r.bh f.q.length<;>simp
 obtain⟨X,eX,hX,hX2,hX3⟩:=ha;have n1:(((qk (jf c) r).map (·.num))++(rs++[p]).map (·.number)).Nodup:=by rw[eX,cm,b8];exact List.Perm.nodup (List.Perm.append_left _ List.perm_append_comm) (List.Sublist.nodup ((mS _).append ((mS _).append hX3)) hn)
 have l1:∀x∈((qk (jf c) r).map (·.num))++(rs++[p]).map (·.number),x<c.opened:=λx hx=>by
  refine SA x ?_;rw[eX,cm,b8]at hx;rcases bG.mp hx with z|z
  .exact bJ _ z
  .rcases bG.mp z with z|z
   .exact aU _ (aU _ (hX3.subset z))
   .exact aU _ (bJ _ z)
 have k1:(qk (jf c) r).length=c.rests.length+if tz r.bh f.q.length then 0 else 1:=by rw[eX,bB,hX]
 generalize hA:qk (jf c) r=A at n1 l1 k1 eX;have pm:((xZ A).map (·.num)).Perm (A.map (·.num)):=(o_ A).map _;have er:(yi (iN c) r p).rests=((xZ A).map (DV (jf (iN c)) d r p)).filter rH:=by show ((xZ (qk (jf c) r)).map (DV (jf (iN c)) (jf c).rows.length r p)).filter rH=_;rw[hA,ep,Vn]
 have sb:((yi (iN c) r p).rests.map (·.num)).Sublist ((xZ A).map (·.num)):=by rw[er];have:=(WY (p:=rH) (l:=(xZ A).map (DV (jf (iN c)) d r p))).map (·.num);rwa [qu,show ((λx:r8=>x.num) ∘ DV (jf (iN c)) d r p)=(·.num) from funext λm=>UO ..]at this
 have kr:=by have:=sb.length_le;rwa [aD,aD,(o_ A).length_eq]at this
 refine⟨rs,p,r,e,by rw[hA];exact(iX.mp n1).1,?_,I.ff,I.fa,I.fu,?_,?_,λy hy =>?_,?_,λx hx =>?_,?_,?_,?_,I.op⟩
 .rw[hA,k1];split<;>lia
 .show (jf c).rows.length=_;rw[ep,Vn];lia
 .show KR a f.inner (jf c).rows;rw[ep];exact KR.pop (e ▸ I.kr)
 .rw[er]at hy;obtain⟨m,hm,rfl⟩:=dN.mp (lP.mp hy).1;have hm:=(o_ A).subset hm;have h2:0<=m.place/\m.place<=d:=by
   rw[eX]at hm;rcases bG.mp hm with z|z
   .have:=I.pl m z;unfold WR at this;lia
   .rw[(hX2 m z).2];lia
  show 0<=_/\_<((jf c).rows.length:Int);rw[ep,Vn];unfold DV;split
  .show 0<=m.place-1/\m.place-1<_;lia
  .lia
 .show (_++(jf c).rows.map (·.number)).Nodup;rw[ep];exact List.Sublist.nodup (sb.append (mS _)) (List.Perm.nodup (pm.symm.append_right _) n1)
 .have hx:x∈(yi (iN c) r p).rests.map (·.num)++(jf c).rows.map (·.number):=hx;rw[ep]at hx;show x<c.opened;exact l1 x ((pm.append_right _).subset ((sb.append (mS _)).subset hx))
 .show ((j+_+CT _ ((jf c).rows.map (·.bh)):Nat):Int)<=c.opened+1;rw[ep];lia
 .show ((_+(jf c).rows.length:Nat):Int)<=c.opened+1;rw[ep,Vn];split at k1<;>lia
 .show c.opened<=c.taken+1;lia
end
variable {f:xy}{m:Nat}
def SI.new:SI f g a ⟨f,2 ^ f.q.length,g,0,0,[qV],[]⟩ 0 0 false:=
 ⟨rfl,rfl,rfl,rfl,⟨λi r e=>by simp at e,λi p r d e=>by simp at e⟩,λy b=>(by cases b),Ž,λx c=>by rw[cW.mp c];solve_by_elim,by grind [CT,nH],ź,Wd 0,rfl⟩
end K21
section
set_option maxHeartbeats 1000000
namespace K21
open PySem L2
structure EX(fit:Int->Int->Int)(inner mm:Int)(rows:List dM):Prop where
 xf:∀(i:Nat) (r:dM),rows[i+1]?=some r->r.fits=fit r.named r.atoms
 xh:∀(i:Nat) (p r:dM),rows[i]?=some p->rows[i+1]?=some r->r.fT=yB inner p.fT p.ha (bA r.named mm)/\r.ha=bO p.ha r.fT
 xr:∀(i:Nat) (p r:dM),rows[i]?=some p->rows[i+1]?=some r->r.bh=yB inner p.bh p.ra r.fits/\r.ra=bO p.ra r.bh
 xt:∃x g,rows={ qV with atoms:=x }::g
def Sa(r a:dM):Prop:=a={ r with atoms:=a.atoms,fits:=a.fits }
variable {f:xy}{v:Int}
def N7(W:FW f v c d B C)(h:(bA y (bN x) != 0)=Z_):c n (bO x y)=c n x:=by
 have z:=by simpa using h
 have l:Le (bO x y) x:=λi e=>by
  rw[Md]at e;cases q:tz x i with
  |true=>rfl|false=>
   have:=congrArg (tz · i) z
   grind [t9,Cp,u0]
 exact Gp (W.sm _ _).1 (W.sm _ _).1 λi=>by have a:=W.mono n _ _ l i;have b:=W.mono n _ _ (Hf x y) i;cases p:tz _ i<;>cases q:tz _ i<;>simp_all
theorem R6(W:FW f v l g B C):∀(p:Nat) (b:Bool) (a:List dM),p<a.length->(∀(i:Nat) (r:dM),a[i+1]?=Y r->(i+1=p->b=Z_)->r.fits=l r.named r.atoms) ->
  ∀(j:Nat) (m:dM),(lF l g b p a)[j]?=Y m->(1<=j->m.fits=l m.named m.atoms)/\∃r,a[j]?=Y r/\Sa r m/\(j=0->m.fits=r.fits)
 | p,Z_,a,s,h,j,m,e=>by
  have z:lF l g Z_ p a=a:=by cases p<;>solve_by_elim
  rw[z]at e;refine⟨λF =>?_,m,e,rfl,λF=>rfl⟩;cases j<;>grind
 |0,Z',a,s,h,j,m,e=>by have z:lF l g Z' 0 a=a:=rfl;refine⟨λF =>?_,m,e,rfl,λF=>rfl⟩;cases j<;>grind
 | p+1,Z',a,s,h,j,m,e=>by
  have u:=bp s;have w:a[p]?=Y _:=bp ž;generalize a[p+1]=r at u;generalize a[p]'(by lia)=d at w;have z:lF l g Z' (p+1) a=lF l g (bA (g r.named r.atoms) (bN d.atoms) != 0) p (Cv l g p r d a):=by show (match a[p+1]?,a[p]? with|some r,Y w=>_|_,_=>_)=_;rw[u,w]
  have t:∀(j:Nat) (b:dM),(Cv l g p r d a)[j]?=Y b->∃o,a[j]?=Y o/\Sa o b/\(j=0->b.fits=o.fits)/\(j=p+1->b.fits=l b.named b.atoms)/\(j=p->b={ d with atoms:=bO d.atoms (g r.named r.atoms) })/\(j≠p->j≠p+1->b=o):=λj b c=>by
   unfold Cv at c;by_cases x:j=p
   .subst x;rw[bj (by simp;lia)]at c;cases c;exact⟨d,w,rfl,λF=>rfl,λF=>ž,λF=>rfl,λn=>absurd rfl n⟩
   .rw[av (bE x)]at c;by_cases y:j=p+1
    .subst y;rw[bj s]at c;cases c;exact⟨r,u,rfl,λF=>ž,λF=>rfl,λz=>absurd z x,λF n=>absurd rfl n⟩
    .rw[av (bE y)]at c;exact⟨b,c,rfl,λF=>rfl,λz=>absurd z y,λz=>absurd z x,λF F=>rfl⟩
  rw[z]at e;obtain⟨L,o,K,D,J⟩:=R6 W p _ _ (by rw[Ed];lia) (λi b c k=>by
   obtain⟨o,Q,P,O,N,G,R⟩:=t _ b c;by_cases x:i+1=p
   .have e:=G x;subst e;show d.fits=l d.named (bO d.atoms _);rw[N7 W (k x)];exact h i d (by rw[x];exact w) λy=>by lia
   grind) j m e
  obtain⟨E,I,A,H,_⟩:=t j o K;refine⟨L,E,I,?_,λq=>(J q).trans (H q)⟩;unfold Sa at D A ⊢;rw[D,A]
def EX.spr(W:FW f v l n B C){rows:List dM}{b:Bool}{p:Nat}(I:p<rows.length)(D:∀(i:Nat) (r:dM),rows[i+1]?=Y r->(i+1=p->b=Z_)->r.fits=l r.named r.atoms)(A:∀(i:Nat) (p r:dM),rows[i]?=Y p->rows[i+1]?=Y r->r.fT=yB c p.fT p.ha (bA r.named h)/\r.ha=bO p.ha r.fT)(z:∃x g,rows={ qV with atoms:=x }::g):
  ∃t g,lF l n b p rows=t::g/\EX l c h (t::gy c t g):=by
 have S:=R6 W p b rows I D;obtain⟨x,Q,R⟩:=z;generalize H:lF l n b p rows=s at S;have P:0<s.length:=by rw[<- H];have:=congrArg sW (Cu (a:=0) W p b rows).nu;simp only[aD]at this;rw[this];lia
 obtain⟨t,g,rfl⟩:∃t g,s=t::g:=by cases s<;>grind
 refine⟨t,g,rfl,?_⟩;have T:∃x,t={ qV with atoms:=x }:=by obtain⟨_,r,m,k,L⟩:=S 0 t rfl;rw[R]at m;cases m;unfold Sa at k;rw[L rfl]at k;exact⟨t.atoms,k⟩
 have G:∀(i:Nat) (p r:dM),(t::g)[i]?=Y p->(t::g)[i+1]?=Y r->r.fT=yB c p.fT p.ha (bA r.named h)/\r.ha=bO p.ha r.fT:=λi p r m k=>by obtain⟨_,u,K,y,_⟩:=S i p m;obtain⟨_,q,J,w,_⟩:=S (i+1) r k;unfold Sa at y w;rw[y,w];exact A i u q K J
 have F:∀(a:Int) (t:dM) (g:List dM) (j:Nat) (d:dM),(gy a t g)[j]?=Y d->∃r,g[j]?=Y r/\d={ r with bh:=d.bh,ra:=d.ra }:=λa t g=>by
  induction g generalizing t with
  |nil=>intro j d e;simp[gy]at e
  |cons r g ih=>
   intro j d e;cases j with
   |zero=>cases e;exact⟨r,rfl,rfl⟩|succ j=>exact ih _ j d e
 have o:∀(j:Nat) (d:dM),(t::gy c t g)[j]?=Y d->∃r,(t::g)[j]?=Y r/\d={ r with bh:=d.bh,ra:=d.ra }:=λj d e=>by
  cases j with|zero=>cases e;exact⟨t,rfl,rfl⟩|succ j=>exact F _ _ _ j d e
 have E:∀(g:List dM) (t:dM) (i:Nat) (p r:dM),(t::gy c t g)[i]?=Y p->(t::gy c t g)[i+1]?=Y r->r.bh=yB c p.bh p.ra r.fits/\r.ra=bO p.ra r.bh:=λg=>by
  induction g with
  |nil=>intro t i p r _ e;simp[gy]at e
  |cons r g ih=>
   intro t i p d m k;cases i with
   |zero=>cases m;cases k;exact⟨rfl,rfl⟩|succ i=>exact ih _ i p d m k
 refine⟨λi r e =>?_,λi p r m k =>?_,E g t,?_⟩
 .obtain⟨q,a,b⟩:=o (i+1) r e;rw[b];exact(λi r e=>(S (i+1) r e).1 Ž) i q a
 .obtain⟨u,a,b⟩:=o i p m;obtain⟨q,O,N⟩:=o (i+1) r k;rw[b,N];exact G i u q a O
 .obtain⟨x,rfl⟩:=T;exact⟨x,_,rfl⟩
end K21
end
section
set_option maxHeartbeats 1000000
namespace K21
open PySem L2
variable {f:xy}{v:Int}
def qT(f:xy)(c:gu)(t:dM)(g:List dM):List Int:=Kg (rE f.inner (2 ^ f.q.length) t g++(c.rests.filter (me (t::gy f.inner t g))).map (·.num))
def SI.RY(I:SI f v n c w d b)(K:c.opened<=60)(e:c.rows=t::g):dC [bP c]=Y (.lst ((qT f c t g).map D.int),bP (xX c (t::gy f.inner t g)))/\SI f v n (xX c (t::gy f.inner t g)) (w+(qT f c t g).length) d b:=by
 obtain⟨J,H,p,N⟩:=Mz (k:=f.q.length) g t t (λ_ h=>h) (λ_ h=>h) (e ▸ I.kr);have m:=I.cnt;have l:=I.Wt;rw[e]at m l;rw[bx,nH]at l;rw[bo]at m;have L:(c.rests.filter (me (t::gy f.inner t g))).length+(c.rests.filter _).length=c.rests.length:=EC _ _;have s:=A6 (c:=c) e (by rw[I.ff];exact J) I.pl (by rw[I.ff,I.fu,bB,aD];lia) (by lia) (by lia);rw[I.ff,I.fu]at s;have k:(t::gy f.inner t g).length=c.rows.length:=by have:=congrArg sW p;rw[aD,aD]at this;rw[e,bo,bo,this]
 have F:(t::gy f.inner t g).map (·.number)=c.rows.map (·.number):=by rw[e,bx,bx,p]
 have i:((c.rests.filter λr=> !me (t::gy f.inner t g) r).map (·.num)++(t::gy f.inner t g).map (·.number)).Sublist (c.rests.map (·.num)++c.rows.map (·.number)):=by rw[F];exact((WY).map _).append (mS _)
 refine⟨s,⟨I.ff,I.fa,I.fu,k.trans I.len,H,λy u =>?_,i.nodup I.nd,λx z=>I.lt x (i.subset z),?_,?_,I.tk,I.op⟩⟩
 .show 0<=y.place/\y.place<(t::gy f.inner t g).length;rw[k];exact I.pl y (lP.mp u).1
 .show ((w+_+(c.rests.filter _).length+CT f.q.length (t.bh::(gy f.inner t g).map (·.bh)):Nat):Int)<=c.opened+1;unfold qT;rw[nH,(y8 _).length_eq,bB,aD]
  lia
 .show (((c.rests.filter _).length+(t::gy f.inner t g).length:Nat):Int)<=c.opened+1
  grind
inductive WO (f:xy) (fit lift:Int->Int->Int) (Kd txt:aE->Int) (c:gu):pK->List Int->gu->Prop
 |cl {L p r}:c.rows=L++[p]++[r]->WO f fit lift Kd txt c .cl [] (yi (iN c) r p)
 |tx {x r t g}:c.rows[c.rows.length-1]?=some r->(oS fit lift (iN c) (txt x) r).rows=t::g->WO f fit lift Kd txt c (.tx x) (qT f c t g) (xX (oS fit lift (iN c) (txt x) r) (t::gy f.inner t g))
 |op {x r t g}:c.rows.getLast? = some r->(CO fit lift (iN c) (Kd x) r).rows=t::g->WO f fit lift Kd txt c (.op x) (qT f c t g) (xX (CO fit lift (iN c) (Kd x) r) (t::gy f.inner t g))
theorem R5(W:FW f g a j l k)(I:SI f g a c m d b)(X:EX a f.inner g c.rows)(Z:c.taken<=45)(s:pK)(n:iM (d,b) s=Y (d',b')):
  ∃(q:List Int) (o:gu),dh [bP c,cz s]=Y (.lst (q.map D.int),bP o)/\SI f g a o (m+q.length) d' b'/\o.taken=c.taken+1/\EX a f.inner g o.rows/\WO f a j l k c s q o:=by
 have N:=I.len;have A:O5 c.f a j:=by rw[I.ff];exact W.ok
 have z:Zp c.f l k:=by rw[I.ff];exact W.st
 have C:=I.tk;have G:=I.cnt;have hw:0<d->decide (1<c.rows.length)=true:=λh=>decide_eq_true ž
 have t:c.rows[c.rows.length-1]?=Y (c.rows[c.rows.length-1]' ž):=bp ž;generalize (c.rows[c.rows.length-1]' ž)=r at t;have E:c.rows.getLast? = Y r:=by rw[L1];exact t
 cases s with
 |cl=>
  by_cases i:0<d
  .simp only[iM,if_pos i,sT,oI]at n;obtain⟨rfl,rfl⟩:=n;obtain⟨L,p,r,e,K,O,H⟩:=I.close i;refine⟨[],_,Hv (hw i) (by rw[e,yn]) (by show c.rows.dropLast.getLast? = _;rw[e,yo,yn]) K ž,H,rfl,?_,.cl e⟩;show EX a f.inner g c.rows.dropLast;have dl:∀(i:Nat) (r:dM),c.rows.dropLast[i]?=Y r->c.rows[i]?=Y r:=λi r h=>by
    rw[xD,List.getElem?_take]at h;split at h
    .exact h
    .cases h
   refine⟨λi r h=>X.xf i r (dl _ _ h),λi p r B Q=>X.xh i p r (dl _ _ B) (dl _ _ Q),λi p r B Q=>X.xr i p r (dl _ _ B) (dl _ _ Q),?_⟩;obtain⟨x,y,S⟩:=X.xt;cases y with
   |nil=>rw[S]at N;simp at N;lia|cons r0 y=>exact⟨x,(r0::y).dropLast,by rw[S];rfl⟩
  .simp[iM,i]at n
 |tx x=>
  by_cases i:0<d
  .simp only[iM,if_pos i,sT,oI]at n;obtain⟨rfl,rfl⟩:=n;have J:SI f g a (oS a j (iN c) (k x) r) m d b:=by
    unfold oS;split
    .exact I.tk1.keep (.trans (.atoms W (i:=c.rows.length-1) t _) (Cu W _ _ _))
    .exact I.tk1
   have y:(oS a j (iN c) (k x) r).opened=c.opened/\(oS a j (iN c) (k x) r).taken=c.taken+1/\(oS a j (iN c) (k x) r).rests=c.rests:=by unfold oS;split<;>exact⟨rfl,rfl,rfl⟩
   have hx:∃P R,(oS a j (iN c) (k x) r).rows=P::R/\EX a f.inner g (P::gy f.inner P R):=by
    unfold oS;split
    .have T:∀(i:Nat) (u:dM),(c.rows.set (c.rows.length-1) { r with atoms:=bO r.atoms (k x) })[i]?=Y u->(i≠c.rows.length-1/\c.rows[i]?=Y u)\/(i=c.rows.length-1/\u={ r with atoms:=bO r.atoms (k x) }):=λi u h=>by
      by_cases z:c.rows.length-1=i
      .subst z;rw[bj (by lia)]at h;cases h;exact .inr ⟨rfl,rfl⟩
      .rw[av z]at h;exact .inl ⟨bE z,h⟩
     refine EX.spr W (rows:=c.rows.set (c.rows.length-1) { r with atoms:=bO r.atoms (k x) }) (by show c.rows.length-1<(c.rows.set _ _).length;rw[List.length_set];lia) (λi u h q =>?_) (λi p u B Q =>?_) ?_
     .rcases T _ _ h with⟨_,h⟩|⟨h,_⟩
      .exact X.xf i u h
      .cases q h
     .rcases T _ _ B with⟨n1,B⟩|⟨n1,rfl⟩
      .rcases T _ _ Q with⟨n2,Q⟩|⟨n2,rfl⟩
       .exact X.xh i p u B Q
       .exact X.xh i p r B (by rw[n2];exact t)
      .exfalso;have:=(au.mp Q).1;simp at this;lia
     .obtain⟨x0,U,S⟩:=X.xt;rw[S];cases U with
      |nil=>rw[S]at N;simp at N;lia|cons r0 U=>exact⟨x0,_,rfl⟩
    .obtain⟨x0,U,S⟩:=X.xt;refine⟨_,U,S,?_⟩;have:lF a j Z_ 0 c.rows=c.rows:=rfl;obtain⟨t1,g1,e1,X1⟩:=EX.spr W (rows:=c.rows) (b:=Z_) (p:=0) ž (λi r h V=>X.xf i r h) X.xh X.xt;rw[this,S]at e1;cases e1;exact X1
   obtain⟨P,R,e0,X0⟩:=hx;obtain⟨e,w⟩:=J.RY (by rw[y.1];lia) e0;have qe:qT f (oS a j (iN c) (k x) r) P R=qT f c P R:=by unfold qT;rw[y.2.2]
   rw[qe]at e w;exact⟨_,_,K6 A z (hw i) t ž e,w,y.2.1,X0,.tx t e0⟩
  .simp[iM,i]at n
 |op x=>
  by_cases i:0<d\/b=Z_
  .simp only[iM,if_pos i,sT,oI]at n;obtain⟨rfl,rfl⟩:=n;have F:Bb c (.op x)=true:=by
    show (decide (1<c.rows.length) || !decide (0<c.opened))=Z';rcases i with h|h
    .rw[hw h];rfl
    .rw[<- I.op,h,Bool.not_false,Bool.or_true]
   have hx:∃P R,(CO a j (iN c) (l x) r).rows=P::R/\EX a f.inner g (P::gy f.inner P R):=by
    show ∃P R,lF a j Z' ((c.rows++[k8 a (iN c) c.opened (l x) 0 r]).length-1) (c.rows++[k8 a (iN c) c.opened (l x) 0 r])=P::R/\_;have T:∀(i:Nat) (u:dM),(c.rows++[k8 a (iN c) c.opened (l x) 0 r])[i]?=Y u->(i<c.rows.length/\c.rows[i]?=Y u)\/(i=c.rows.length/\u=k8 a (iN c) c.opened (l x) 0 r):=λi u h=>by
     by_cases z:i<c.rows.length
     .rw[dQ z]at h;exact .inl ⟨z,h⟩
     .have:=(au.mp h).1;simp at this;have e:i=c.rows.length:=ž
      subst e;rw[qN (aH _)]at h;simp at h;exact .inr ⟨rfl,h.symm⟩
    refine EX.spr W Ž (λi u h q =>?_) (λi p u B Q =>?_) ?_
    .rcases T _ _ h with⟨_,h⟩|⟨h,rfl⟩
     .exact X.xf i u h
     .rfl
    .rcases T _ _ B with⟨n1,B⟩|⟨n1,rfl⟩
     .rcases T _ _ Q with⟨n2,Q⟩|⟨n2,rfl⟩
      .exact X.xh i p u B Q
      .rw[show i=c.rows.length-1 by lia,t]at B;cases B;have h:(k8 a (iN c) c.opened (l x) 0 r).fT=yB f.inner r.fT r.ha (bA (l x) g):=by show yB c.f.inner r.fT r.ha (bA (l x) c.mm)=_;rw[I.ff,I.fa]
       exact⟨h,rfl⟩
     .exfalso;have:=(au.mp Q).1;simp at this;lia
    .obtain⟨x0,U,S⟩:=X.xt;exact⟨x0,U++[k8 a (iN c) c.opened (l x) 0 r],by rw[S];rfl⟩
   obtain⟨P,R,e0,X0⟩:=hx;obtain⟨e,w⟩:=(I.open W (l x) r).RY (by show c.opened+1<=60;lia) e0;have v:=wt (x:=bO r.fT (bA r.ha c.f.inner)) (wt (x:=l x) W.mm);rw[<- I.fa]at v;exact⟨_,_,K7 A z F E Ÿ ž e,w,rfl,X0,.op E e0⟩
  simp_all [iM]
end K21
end
section
set_option maxHeartbeats 1000000
namespace K21
open PySem L2
def Tq(c a:gu):Prop:=∃t x g,c.rows=t::g/\a={ c with rows:={ t with atoms:=x }::g }
def Tr(a b:List dM):Prop:=∃t x g,a=t::g/\b={ t with atoms:=x }::g
theorem Ms(c a:Int->Int->Int):∀(p:Nat) (b:Bool) (t:dM) (x:Int) (g:List dM),Tr (lF c a b p (t::g)) (lF c a b p ({ t with atoms:=x }::g))
 |0,b,t,x,g=>by cases b<;>exact⟨t,x,g,rfl,rfl⟩
 |p+1,Z_,t,x,g=>⟨t,x,g,rfl,rfl⟩| 0+1,Z',t,x,g=>by
  cases g with
  |nil=>exact⟨t,x,[],rfl,rfl⟩|cons r g=>
   have e:∀t,lF c a Z' (0+1) (t::r::g)=Cv c a 0 r t (t::r::g):=λt=>by simp[lF,bA,bN]
   rw[e,e];exact⟨_,_,_,rfl,rfl⟩
 | p+1+1,Z',t,x,g=>by
  have e:∀t,lF c _ Z' (p+1+1) (t::g)=match g[p+1]?,g[p]? with
    |some r,Y d=>lF c a _ _ _|_,_=>t::g:=λt=>rfl
  rw[e,e];split
  .exact Ms c _ _ _ t x _
  .exact⟨t,x,g,rfl,rfl⟩
def R9(a:Int)(t:dM)(x:Int)(g:List dM):gy a { t with atoms:=x } g=gy a t g:=by cases g<;>rfl
def X8(a b:Int)(t:dM)(x:Int)(g:List dM):rE a b { t with atoms:=x } g=rE a b t g:=by cases g<;>rfl
def SD(t:dM)(x:Int)(g:List dM):me ({ t with atoms:=x }::g)=me (t::g):=funext λb=>by
 unfold me;cases b.place.toNat<;>rfl
def XI(f:xy)(c a:gu)(h:a.rests=c.rests)(t:dM)(x:Int)(g:List dM):qT f a { t with atoms:=x } g=qT f c t g:=by
 unfold qT;rw[X8,R9,SD,h]
def RZ{b:gu}(e:b={ c with rows:=b.rows })(a:Int)(t:dM)(x:Int)(g:List dM):Tq (xX c (t::gy a t g)) (xX b ({ t with atoms:=x }::gy a { t with atoms:=x } g)):=by
 refine⟨t,x,_,rfl,?_⟩;rw[e];unfold xX;rw[SD,R9]
variable {f:xy}
def YO{c:gu}{R:List dM}{p a:dM}(e:R.length=c.rows.length)(d:a.fT=p.fT)(b:a.ha=p.ha):yi (iN { c with rows:=R }) r a={ yi (iN c) r p with rows:=R.dropLast }:=by
 have m:∀n,DV (jf (iN { c with rows:=R })) n r a=DV (jf (iN c)) n r p:=λn=>funext λm=>by unfold DV UQ;rw[d,b];exact ź
 simp_all [jf,iN,qk,yi]
def mn1:pK->Nat
 |.op _=>1|_=>2
def Xn(S:WO f d b j n c s q o)(T:Tq c X)(J:WO f d b j n X s P Q)(l:mn1 s<=c.rows.length):P=q/\Tq o Q:=by
 obtain⟨t,x,g,e,rfl⟩:=T;cases S with
 |@cl L p r h=>
  cases J with
  |@cl E K k B=>
   have B:=B;rw[e]at h;have v:k=r/\K.fT=p.fT/\K.ha=p.ha/\∃C,(t::g).dropLast=t::C/\({ t with atoms:=x }::g).dropLast={ t with atoms:=x }::C:=by
    cases L with
    |nil=>
     cases h;cases E with
     |nil=>cases B;exact⟨rfl,rfl,rfl,[],rfl,rfl⟩|cons a E=>exact absurd (congrArg sW B) Ž
    |cons a L=>
     simp only[lb,List.cons.injEq]at h;obtain⟨lia,rfl⟩:=h;cases E with
     |nil=>exact absurd (congrArg sW B) Ž
     |cons a' E=>simp only[lb,List.cons.injEq]at B;have u:=List.append_inj' B.2 rfl;cases u.2;cases (List.append_inj' u.1 rfl).2<;>grind
   obtain⟨rfl,z,w,C,G,R⟩:=v;refine⟨rfl,t,x,C,?_,?_⟩
   .show c.rows.dropLast=_;rw[e];exact G
   .rw[YO (by rw[e];rfl) z w,R]
 |@tx m r O U u H=>
  cases J with
  |@tx _ k F I i A=>
   have W:2<=c.rows.length:=l;rw[e]at u W;have i:=i;have hg:0<g.length:=by simp at W;lia
   have D:k=r:=by rw[show ({ t with atoms:=x }::g).length-1=(g.length-1)+1 by simp;lia]at i;rw[show (t::g).length-1=(g.length-1)+1 by simp;lia]at u;rw[l6]at u i;rw[u]at i;cases i;rfl
   subst D;have v:Tr (oS d b (iN c) (n m) k).rows (oS d b (iN { c with rows:={ t with atoms:=x }::g }) (n m) k).rows/\(oS d b (iN { c with rows:={ t with atoms:=x }::g }) (n m) k)={ (oS d b (iN c) (n m) k) with rows:=(oS d b (iN { c with rows:={ t with atoms:=x }::g }) (n m) k).rows }:=by
    unfold oS;split
    .refine⟨?_,rfl⟩;show Tr (lF d b Z' (c.rows.length-1) (c.rows.set (c.rows.length-1) _)) (lF d b Z' (({ t with atoms:=x }::g).length-1) (({ t with atoms:=x }::g).set (({ t with atoms:=x }::g).length-1) _));rw[e,show ({ t with atoms:=x }::g).length-1=(g.length-1)+1 by simp;lia,show (t::g).length-1=(g.length-1)+1 by simp;lia];exact Ms d b _ _ _ _ _
    .exact⟨⟨t,x,g,e,rfl⟩,rfl⟩
   obtain⟨⟨N,y,C,z,w⟩,G⟩:=v;rw[H]at z;cases z;rw[A]at w;cases w;exact⟨XI f _ _ rfl _ _ _,RZ G _ _ _ _⟩
 |@op m r O U u H=>
  cases J with
  |@op _ k F I i A=>
   rw[e]at u;have i:=i;have D:k.fT=r.fT/\k.ha=r.ha:=by
    cases g with|nil=>cases u;cases i;exact⟨rfl,rfl⟩|cons r0 g=>rw[List.getLast?_cons_cons]at u i;rw[u]at i;cases i;exact⟨rfl,rfl⟩
   have eb:k8 d (iN { c with rows:={ t with atoms:=x }::g }) c.opened (j m) 0 k=k8 d (iN c) c.opened (j m) 0 r:=by unfold k8;rw[D.1,D.2];rfl
   have v:Tr (CO d b (iN c) (j m) r).rows (CO d b (iN { c with rows:={ t with atoms:=x }::g }) (j m) k).rows:=by
    show Tr (lF d b Z' ((c.rows++[k8 d (iN c) c.opened (j m) 0 r]).length-1) (c.rows++[k8 d (iN c) c.opened (j m) 0 r])) (lF d b Z' (({ t with atoms:=x }::g++[k8 d _ c.opened (j m) 0 k]).length-1) ({ t with atoms:=x }::g++[k8 d _ c.opened (j m) 0 k]))
    simp_all [lb,bo,Ms]
   obtain⟨N,y,C,z,w⟩:=v;rw[H]at z;cases z;rw[A]at w;cases w;exact⟨XI f _ _ rfl _ _ _,RZ rfl _ _ _ _⟩
end K21
end
namespace K21
open PySem L2
def GQ(r:dM):List Int:=[r.number,r.named,r.atoms]
def LR(m:r8):List Int:=[m.num,m.place,m.Z,m.around]
def IA(l:List r8):l.map dA=(l.map LR).map tI:=by rw[qu];rfl
def ab5(x:a)(l:List a):AD (x::l) (Y 1) M=l:=by
 show List.take (l.length+1-min 1 (l.length+1)) (List.drop (min 1 (l.length+1)) (x::l))=l
 simp_all
def OS(c:gu){b:List dM}(h:c.rows=t::b)(k:b.length<=1000):Asl (cn c) (bP c) c.taken c.opened (b.map GQ) (c.rests.map LR):=by
 refine⟨Ż,?_,Ż,Ż,?_⟩
 .have e:bq "Coming" "rows" db [Y (cn c),Y (bP c),M]=Y (.lst (cx t::b.map cx)):=by
   have:bq "Coming" "rows" db [Y (cn c),Y (bP c),M]=Y (.lst (c.rows.map cx)):=by kernel_rfl
   simp_all
  have j:Fv (bq "Coming" "rows" db) (pS u8) pN [Y (cn c),Y (bP c),M]=Y (b.map cx):=by
   unfold Fv;rw[e];show Y (AD (cx t::b.map cx) _ _)=_
   simp_all [congrArg,ab5]
  have a:iL kt [Y (cn c),Y (bP c),M]=Y (b.map cx):=ź
  unfold Ep lZ;rw[a];show (if (b.map cx).length<=dE then zK [M] (gN 0) f9 _ (b.map cx) else M)=_;rw[if_pos (by rw[aD];exact bz k (by decide)),qu];have:∀l:List dM,zK [M] (gN 0) f9 Tl (l.map cx)=Y (l.map (tI ∘ GQ)):=λl=>by
   induction l with
   |nil=>rfl|cons r l ih=>rw[bx,zK,show gN 0 (cx r) [M]=Y [Y (cx r)] from rfl];simp only[ai,f9,if_true];rw[ih];rfl
  exact this b
 .unfold xP;rw[<- IA];rfl
def WK(n:Nat)(i:Int):i8 (n+1) [.int i]=Y (.int i):=by kernel_rfl
theorem Cc(n:Nat)(d:D):∀(c a:List Int) (y:Option D),a.length+c.length<=1000->∃f,gG (gN 2) (lJ (i8 (n+1))) (c.map D.int) [Y d,Y (tI a),y]=Y (.nx [Y d,Y (tI (a++c)),f])
 |[],a,y,_=>⟨y,by rw[bL];solve_by_elim⟩
 | m::c,a,y,h=>by
  rw[bo]at h;have b:lJ (i8 (n+1)) [Y d,Y (tI a),Y (.int m)]=Y (.nx [Y d,Y (tI (a++[m])),Y (.int m)]):=by
   have:∀F,F [.int m]=Y _->lJ F _=(IM (tI a) (.tup _)).map _:=λF e=>by
    have g:aC (bc F No) aN [Y d,Y (tI a),Y (.int m)]=Y [.int m]:=by show ((F _).bind _)=_;rw[e];exact ź
    unfold lJ cN e2 fN;rw[g]
    exact ź
   show (if (a.map D.int).length+1<=dE then Y _ else M).map _=_;rw[if_pos (by rw[aD];exact bz (by lia:a.length+1<=1000) (by decide))];simp[tI,cm]
  obtain⟨f,e⟩:=Cc n d c (a++[m]) _ Ÿ;refine⟨f,?_⟩;rw[bx,kX rfl b,e,b8]
  exact ź
def OU(n:Nat)(m:Int)(a:List Int)(h:a.length<1000):i8 (n+2) [tI (m::a)]=Y (tI (m::a)):=by
 show (yG _ [Y _,M,M]).bind vW=_;unfold yG;rw[aK (rfl)];have t:kv (fD (VE "tuple" Fa)) (c_ (e2 tp (bc ic im) v0)) [Y (tI (m::a)),M,M]=Y true:=by show Y _=Y Z';simp
 obtain⟨y,e⟩:=Cc n _ (m::a) [] M Ÿ;have b:aX (cN 1 (fN aN)) (aX (je (Wz Fa) (gN 2) (lJ (i8 (n+1)))) (dy db)) [Y (tI (m::a)),M,M]=Y (.rt (tI (m::a))):=by
  rw[aK (show cN 1 _ _=Y (.nx [Y _,Y (tI []),M]) from rfl)];rw[aK (show je (Wz Fa) (gN 2) (lJ (i8 (n+1))) [Y (tI (m::a)),Y (tI []),M]=_ from e)]
  exact ź
 rw[uf ?_]
 .exact ź
 simp_all [d_]
def Lz(R:List (List Int))(h:R.length<=1000)(k:∀l∈R,l≠[]/\l.length<1000):sf [.lst (R.map tI)]=Y (R.map tI):=by
 show (vz mM [Y _,M,M]).bind Qn=_;have f:lZ At [M] (gN 0) f9 (bc mM im) [Y (.lst (R.map tI)),M,M]=Y (R.map tI):=by
  show (if (R.map tI).length<=dE then zK [M] _ f9 _ _ else M)=_;rw[if_pos (by rw[aD];exact bz h (by decide))];have:=p' (c:=[M]) (e:=bc mM im) (g:=id) _ λd m=>by
   obtain⟨l,a,rfl⟩:=dN.mp m;refine⟨_,rfl,?_⟩;have:=k l a;cases l with
   |nil=>trivial|cons x l=>exact OU 10 x l Ÿ
  simp_all
 unfold vz;have:∀G,d_ (fD (VE "list" Fa)) G cO [Y (.lst (R.map tI)),M,M]=G _:=λG=>rfl
 unfold aX;rw[this];unfold pq;rw[f]
 exact ź
end K21
section
set_option maxHeartbeats 1000000
namespace K21
open PySem L2
variable {f:xy}
abbrev eL(c:gu)(y:Option (List Int)):bY:=[M,M,oN c,Y (.eQ 2 [.fld "coming"]),y.map tI]
def Ti(e:h (eL c y)=Y (.int n)):eR Z' 3 "Coming" "taken" h (eL c y)=Y (.nx (eL { c with taken:=n } y)):=by
 unfold eR;rw[e];exact ź
def Uu(e:h (eL c y)=Y (.int n)):eR Z' 3 "Coming" "opened" h (eL c y)=Y (.nx (eL { c with opened:=n } y)):=by
 unfold eR;rw[e];exact ź
def TV{s:List r8}(e:h (eL c y)=Y (.lst (s.map dA))):eR Z' 3 "Coming" "rests" h (eL c y)=Y (.nx (eL { c with rests:=s } y)):=by
 unfold eR;rw[e];exact ź
def IQ{F:List D->Option (D×D)}{g:DL}{a:List D}{y:Option (List Int)}{m:aE}(e:g (eL c y)=Y a)(k:F (bP c::a)=Y (d,bP b))(n:autoParam (m∉ck) ū):uA "Coming" m aB F 3 g (eL c y)=Y (d,eL b y):=by
 have h:∀(F:List D->Option _) (g:DL),uA "Coming" m aB F 3 g (eL c y)=if (Sk.sE aB aB=Z'/\("Coming" : aE) = "Coming" /\2≠3)/\m∉ck then (g (eL c y)).bind λe=>(F (bP c::e)).map λr=>(r.1,[M,M,Y (.obj cK (.ins "Lean" ["coming"] [r.2])),Y (.eQ 2 [.fld "coming"]),y.map tI]) else none:=λF g=>by cases y<;>kernel_rfl
 rw[h,if_pos ⟨⟨by decide,rfl,by decide⟩,n⟩,e];simp only[ai];rw[k];rfl
def pV(a:Int->Int->Int)(c:gu):dM->List dM->List dM
 |_,[]=>[]|p,r::g=>k8 a c r.number r.named r.atoms p::pV a c (k8 a c r.number r.named r.atoms p) g
theorem Ic(A:O5 f d j)(l:∀p a n:Int,(bA (bO p (bA a f.inner)) (bA n v)).natAbs<2 ^ 64):∀(g:List dM) (c:gu) (p:dM) (y:Option (List Int)),c.f=f->c.mm=v->c.rows.getLast? = Y p->c.rows.length+g.length<=1000->∃h,gG (gN 4) vT ((g.map GQ).map tI) (eL c y)=Y (.nx (eL { c with rows:=c.rows++pV d c p g } h))
 |[],c,p,y,_,_,_,_=>⟨y,by show Y (DO.nx (eL c y))=_;unfold pV;rw[bL]⟩
 | r::g,c,p,y,i,k,o,q=>by
  rw[bo]at q;have b:=vS (c:=c) (by rw[i];exact A) o r.number r.named r.atoms (by rw[i,k];exact l _ _ _) (iQ (by lia));have m:=IQ (c:=c) (m:= "begin_row") (y:=Y (GQ r)) (g:=aC (e2 b9 Sc v0) Î) (a:=[.int r.number,.int r.named,.int r.atoms]) Ż b;have s:vT (eL c (Y (GQ r)))=Y (.nx (eL { c with rows:=c.rows++[k8 d c r.number r.named r.atoms p] } (Y (GQ r)))):=by unfold vT da;rw[m];rfl
  rw[bx,bx,kX (ρ1:=eL c (Y (GQ r))) (by cases y<;>rfl) s];obtain⟨h,e⟩:=Ic A l g { c with rows:=c.rows++[k8 d c r.number r.named r.atoms p] } (k8 d c r.number r.named r.atoms p) (Y (GQ r)) i k (by rw[yn]) (by simp;lia);refine⟨h,e.trans ?_⟩;have w:∀(g:List dM) (p:dM) (R:List dM),pV d { c with rows:=R } p g=pV d c p g:=λg=>by
   induction g with
   |nil=>intro p R;rfl
   |cons r g ih=>intro p R;unfold pV;rw[ih];rfl
  simp_all [eL,k8,pV,b8]
def L'{g:List dM}{k o:Int}{s:List r8}(h:cp [.ins "Lean" [] [],.lst q]=Y (.dW,cn ⟨f,d,v,0,0,[b],[]⟩))(A:O5 f e m)(x:∀p a n:Int,(bA (bO p (bA a f.inner)) (bA n v)).natAbs<2 ^ 64)(I:g.length<=900)(H:s.length<=900)(w:V4 f.inner b (pV e ⟨f,d,v,k,o,[b],[]⟩ b g)):
  oB [.lst q,.tup [.int k,.int o,.lst ((g.map GQ).map tI),.lst ((s.map LR).map tI)]]=Y (cn ⟨f,d,v,k,o,b::gy f.inner b (pV e ⟨f,d,v,k,o,[b],[]⟩ b g),s⟩):=by
 generalize i:D.tup [.int k,.int o,.lst ((g.map GQ).map tI),.lst ((s.map LR).map tI)]=j;have y:oB [.lst q,j]=(yC q ((g.map GQ).map tI) j [M,M,M,M,M]).bind (XX cK):=by rw[<- i];exact ź
 rw[y];have G:rh 2 cK (nP "Lean" cp λ_=>Y q) [M,M,M,M,M]=Y (.nx [M,M,oN ⟨f,d,v,0,0,[b],[]⟩,M,M]):=by
  have:nP "Lean" cp (λ_=>Y q) [M,M,M,M,M]=Y (cn ⟨f,d,v,0,0,[b],[]⟩):=by show ((cp [.ins "Lean" [] [],.lst q]).bind _)=_;rw[h];exact ź
  unfold rh;rw[this];exact ź
 unfold yC;rw[aK G];have F:∀g:DG,Ip [3,1000003,2000002] g [M,M,oN ⟨f,d,v,0,0,[b],[]⟩,M,M]=g [M,M,oN ⟨f,d,v,0,0,[b],[]⟩,M,M]:=λg=>if_pos ź
 rw[F];have E:MM 3 2 "Lean" "coming" [M,M,oN ⟨f,d,v,0,0,[b],[]⟩,M,M]=Y (.nx (eL ⟨f,d,v,0,0,[b],[]⟩ M)):=Ż
 rw[aK E,aK (Ti (n:=k) (by rw[<- i];solve_by_elim)),aK (Uu (n:=o) (by rw[<- i];solve_by_elim))];obtain⟨u,C⟩:=Ic A x g ⟨f,d,v,k,o,[b],[]⟩ b M rfl rfl rfl (by simp;lia);rw[aK (show tH (λt=>Y (((g.map GQ).map tI),t)) (gN 4) vT (eL ⟨f,d,v,k,o,[b],[]⟩ M)=_ from C)];have B:=BA (c:=⟨f,d,v,k,o,[b]++pV e ⟨f,d,v,k,o,[b],[]⟩ b g,[]⟩) (t:=b) (a:=pV e ⟨f,d,v,k,o,[b],[]⟩ b g) rfl w (by
  have:∀(g:List dM) (p:dM) (c:gu),(pV e c p g).length=g.length:=λg=>by
   induction g with
   |nil=>intro p c;rfl
   |cons r g ih=>intro p c;show (pV e c _ g).length+1=_;rw[ih];rfl
  rw[this];lia)
 have z:pO [bP ⟨f,d,v,k,o,[b]++pV e ⟨f,d,v,k,o,[b],[]⟩ b g,[]⟩]=Y (.lst ((rE f.inner d b (pV e ⟨f,d,v,k,o,[b],[]⟩ b g)).map D.int),bP ⟨f,d,v,k,o,b::gy f.inner b (pV e ⟨f,d,v,k,o,[b],[]⟩ b g),[]⟩):=by unfold pO;rw[B];rfl
 rw[aK (by unfold da;rw[IQ (g:=aN) (a:=[]) rfl z];rfl)]
 generalize b::gy f.inner b (pV e ⟨f,d,v,k,o,[b],[]⟩ b g)=l;rw[aK (TV (s:=s) (by
  rw[IA];show (v8 D.lst (ZY 5 1 j (xP Â) _))=_;have:xP Â (Wg 5 1 j)=Y ((s.map LR).map tI):=by rw[<- i];rfl
  unfold ZY;rw[this];simp only[ai];rw[if_pos (rn _)];rfl))]
 cases u<;>kernel_rfl
end K21
end
section
set_option maxHeartbeats 1000000
namespace K21
open PySem L2
variable {f:xy}{v:Int}
theorem D5{c0:gu}(q:c0.f.inner=a)(o:c0.mm=v):∀(g:List dM) (t c b:dM),(∀(i:Nat) (r:dM),(t::g)[i+1]?=Y r->r.fits=d r.named r.atoms)->(∀(i:Nat) (p r:dM),(t::g)[i]?=Y p->(t::g)[i+1]?=Y r->r.fT=yB a p.fT p.ha (bA r.named v)/\r.ha=bO p.ha r.fT) ->
  (∀(i:Nat) (p r:dM),(t::g)[i]?=Y p->(t::g)[i+1]?=Y r->r.bh=yB a p.bh p.ra r.fits/\r.ra=bO p.ra r.bh)->c.bh=t.bh->c.ra=t.ra->b.fT=t.fT->b.ha=t.ha->gy a c (pV d c0 b g)=g
 |[],t,c,b,_,_,_,_,_,_,_=>rfl| r::g,t,c,b,m,l,k,z,y,x,w=>by
  have u:=m 0 r rfl;have s:=l 0 t r rfl rfl;have n:=k 0 t r rfl rfl;have e:oJ a c (k8 d c0 r.number r.named r.atoms b)=r:=by unfold oJ k8;simp only[q,o,z,y,x,w];rw[<- u,<- s.1,<- s.2,<- n.1,<- n.2]
  show oJ a c _::gy a _ _=r::g;rw[e,D5 q o g r r _ (λi r h=>m (i+1) r h) (λi p r j f=>l (i+1) p r j f) (λi p r j f=>k (i+1) p r j f) rfl rfl (by
   show yB _ _ b.ha _=_
   simp_all) (by
   show bO b.ha _=_
   simp_all)]
theorem Ik(W:FW f v b e B C){c0:gu}:∀(g:List dM) (c d:dM),V4 a c (pV b c0 d g)
 |[],_,_=>trivial|r::g,c,d=>by have s:=wt (x:=bO c.bh (bA c.ra a)) (W.sm r.named r.atoms);exact⟨by show (bA _ (b _ _)).natAbs<2 ^ 64;grind,Ik W g _ _⟩
abbrev eW(c:gu):D:=WD c.taken c.opened (c.rows.tail.map GQ) (c.rests.map LR)
def L_{c:gu}(W:FW f v i j B C)(h:cp [.ins "Lean" [] [],.lst q]=Y (.dW,cn ⟨f,2 ^ f.q.length,v,0,0,[qV],[]⟩))(I:SI f v i c m d b)(X:EX i f.inner v c.rows)(T:c.taken<=100):∃k,oB [.lst q,eW c]=Y (cn k)/\Tq c k:=by
 obtain⟨x,g,e⟩:=X.xt;have l:=I.cnt;have o:=I.tk;have t:∀p a n:Int,(bA (bO p (bA a f.inner)) (bA n v)).natAbs<2 ^ 64:=λp a n=>by
  have s:=wt (x:=bO p (bA a f.inner)) (wt (x:=n) W.mm)
  lia
 have w:=L' (g:=g) (s:=c.rests) (k:=c.taken) (o:=c.opened) h W.ok t Ÿ (by lia) (Ik W _ _ _);rw[D5 (c0:=⟨f,2 ^ f.q.length,v,c.taken,c.opened,[qV],[]⟩) (v:=v) rfl rfl g { qV with atoms:=x } qV qV (e ▸ X.xf) (e ▸ X.xh) (e ▸ X.xr) rfl rfl rfl rfl]at w;have r:eW c=.tup [.int c.taken,.int c.opened,.lst ((g.map GQ).map tI),.lst ((c.rests.map LR).map tI)]:=by show WD _ _ _ _=_;rw[e];exact ź
 refine⟨_,by rw[r];exact w,_,0,g,e,?_⟩;rw[<- I.ff,<- I.fa];have:=I.fu;rw[<- I.ff]at this;rw[<- this]
 exact ź
end K21
end
section
set_option maxHeartbeats 1000000
namespace K21
open PySem L2
def RC{R S:List (List Int)}(h:Asl d c i j R S):hV [d]=Y (WD i j R S):=by
 show (lL [Y d,M,M]).bind _=_;unfold lL;rw[aK (by unfold cN;rw[h.k];rfl)];show (aX (cN 2 (eF Ep)) _ [Y d,Y c,M]).bind _=_;rw[aK (show cN 2 _ _=Y (.nx [Y d,Y c,Y _]) by unfold cN eF;rw[h.r];rfl)];simp only[dy,fN,aC,aN,eF,h.t,h.o,h.s,(rfl),ai,d9];rfl
theorem vM(n:Nat):∀l:List Int,jy (l.map D.int) n=Z'
 |[]=>by simp[jy]
 |i::l=>by simp[jy,iF,vM n l]
theorem JB(n:Nat):∀R:List (List Int),jy (R.map tI) (n+1)=Z'
 |[]=>by simp[jy]
 | l::R=>by
  have:iF (tI l) (n+1)=true:=by simp[tI,iF,vM]
  simp[jy,this,JB n R]
def OH(i j:Int)(R S:List (List Int)):iF (WD i j R S) 180=true:=by
 simp_all [JB,WD,iF,jy]
def eq_self(h:iF d 180=Z'):fh d d=Y (.bl Z'):=by
 unfold fh;rw[h];show (if Z'=Z' then Y _ else M)=_;rw[if_pos rfl,Ah d 180 h]
def Ob(c:gu):iW [bP c]=Y (.bl (decide (0<c.opened)&&decide (c.rows.length=1))):=by
 show (km [Y _]).bind vW=_;unfold km dy Lc;have e1:c_ wl [Y (bP c)]=Y (decide (0<c.opened)):=Ż
 have e2:e2 fh (bc ic bi) u8 [Y (bP c)]=fh (.int (c.rows.map cx).length) (.int 1):=Ż
 rw[e1,e2,aD];have e3:fh (.int c.rows.length) (.int 1)=Y (.bl (decide (c.rows.length=1))):=by
  unfold fh;rw[if_pos (by solve_by_elim)];have:AK (.int _) (.int 1)=((c.rows.length:Int)==1):=rfl
  grind [decide_eq_false]
 rw[e3];cases decide (0<c.opened)<;>solve_by_elim
def NC{s:pK}(h:dh [bP c,cz s]=Y (d,bP a)):oE [cn c,cz s]=Y (d,cn a):=by
 have:∀F,(dH (sx _ _ _ _ aB F 0 _) _).bind (qH cK)=(F _).map _:=λF=>by
  have e:sx "Lean" "coming" "Coming" "feed" aB F 0 am [oN c,Y (cz s)]=(F [bP c,cz s]).map λr=>(r.1,[Y (.obj cK (.ins "Lean" ["coming"] [r.2])),Y (cz s)]):=by cases s<;>kernel_rfl
  unfold dH;rw[e];cases F _<;>rfl
 refine(this _).trans ?_;rw[h];rfl
def Sy{F:List D->Option D}{m:aE}(h:m∉ck):dm "Coming" m F (bq "Lean" "coming" Fa) aN [Y (cn c)]=F [bP c]:=by
 have:dm _ m F (bq "Lean" "coming" Fa) aN [Y (cn c)]=if ("Coming" : aE) = "Coming" /\m∉ck then F [bP c] else none:=rfl
 rw[this,if_pos ⟨rfl,h⟩]
def Fb(h:jE [bP c]=Y d):jC [cn c]=Y d:=by
 show (nJ [Y _]).bind _=_;unfold nJ dy;rw[Sy (by decide),h];rfl
def Fd(c:gu):jD [cn c]=Y (.bl (decide (0<c.opened)&&decide (c.rows.length=1))):=by
 show (nK [Y _]).bind _=_;unfold nK dy;rw[Sy (by decide),Ob];rfl
variable {f:xy}{v:Int}
def yQ(h:iF d 180=Z'):ur d d=Y (.bl Z_):=by
 unfold ur;rw[h];rw[Ah d 180 h];rfl
def ZM{F:List D->Option D}{m:aE}{c:gu}(e:h a=Y (cn c))(n:autoParam (m∉[af "coming"]) ū):dm "Lean" m F h aN a=F [cn c]:=by
 unfold dm;rw[e];show (if ("Lean" : aE) = "Lean" /\m∉[af _] then F [cn c] else M)=_;rw[if_pos ⟨rfl,n⟩]
def CZ{c:gu}(h:c.rows≠[])(k:c.rows.length<=1000):hV [cn c]=Y (eW c):=by
 cases e:c.rows with
 |nil=>exact absurd e h|cons t a=>
  rw[RC (OS c e (by grind))]
  grind
def RW(h:Tq c a):Cj a=Cj c:=by
 obtain⟨t,x,g,e,rfl⟩:=h;unfold Cj
 grind
def W6(h:Tq c a):eW a=eW c:=by
 obtain⟨t,x,g,e,rfl⟩:=h
 grind
def rZ(I:SI f v C c m d b)(T:Tq c i)(G:c.taken<=45):qr [cn c,cn i]=Y (.bl Z'):=by
 have l:=I.cnt;have o:=I.tk;have H:(Cj c).length<=c.rests.length+c.rows.length:=by
  unfold Cj;rw[bB,aD,aD];have:=List.length_filter_le (Px c.full) c.rows
  lia
 have h:i.rows.length=c.rows.length/\i.rests=c.rests/\i.opened=c.opened:=by obtain⟨t,x,g,e,rfl⟩:=T;exact⟨by rw[e];solve_by_elim,rfl,rfl⟩
 have s:c.rows≠[]:=λz=>by have:=I.len;rw[z]at this;cases this
 have w:=Fb (D6 c ž ž ž);have p:=Fb (D6 i (by rw[h.2.1];lia) (by rw[h.1];lia) (by rw[RW T];lia));rw[RW T]at p;have a:=CZ s ž;have u:=CZ (c:=i) (λz=>by have:=h.1;rw[z]at this;exact s (List.length_eq_zero_iff.mp this.symm)) (by rw[h.1];lia);rw[W6 T]at u;have B:=Fd c;have j:=Fd i;rw[h.1,h.2.2]at j;show (Dg [Y (cn c),Y (cn i)]).bind vW=_;unfold Dg;have r:∀ {m:aE}{F:List D->Option D}{x:D},m∉[af "coming"]->F [cn c]=Y x->F [cn i]=Y x->iF x 180=Z'->c_ (e2 ur (dm "Lean" m F Fa aN) (dm "Lean" m F db aN)) [Y (cn c),Y (cn i)]=Y false:=fun {m F x} n e E k=>by unfold c_ e2;rw[ZM (c:=c) rfl n,ZM (c:=i) rfl n,e,E];show ((ur x x).bind _)=_;rw[yQ k];rfl
 have A:=r (m:= "waiting") ſ w p (by simp[iF,vM]);have y:=r (m:= "is_over") ſ B j rfl;rw[aK (ρ':=[Y (cn c),Y (cn i)]) ?q]
 case q=>unfold d_ lx;rw[A];show ((c_ _ _).bind _)=_;rw[y];rfl
 unfold dy e2;rw[ZM (c:=c) rfl,ZM (c:=i) rfl,a,u];show (((fh (eW c) (eW c)).map DO.rt).bind vW)=_;rw[eq_self (OH _ _ _ _)];rfl
end K21
end
section
set_option maxHeartbeats 1000000
namespace K21
open PySem L2
variable {f:xy}{v:Int}
def na:Option D->Bool
 |some (.eQ _ _)=>Z_|_=>Z'
def BL(s:pK):na (Y (cz s))=true:=by cases s<;>rfl
theorem uZ{i:Nat}:∀ {a:bY},a.all na=Z'->cZ i a=a
 |[],_=>rfl| o::a,h=>by
  rw[fm,aR]at h;have e:=uZ (i:=i) h.2;unfold cZ at e ⊢;rw[bx,e];rcases o with _|d
  .rfl
  .cases d<;>first|rfl|cases h.1
def zy{ρ:bY}{i:Nat}{s:pK}(h:eV i ρ=Y (.obj cK (cn c)))(g:eV 6 ρ=Y (cz s))(u:ρ.all na=Z')(k:dh [bP c,cz s]=Y (d,bP m)):He i ρ=Y (d,ρ.set i (oN m)):=by
 have t:t_ i ρ=Y (cK,cn c):=by unfold t_;rw[h]
 have a:jJ (mP (eV 6)) kR ρ=Y ([cz s],ρ):=by unfold jJ mP;rw[g];rfl
 have b:ib cK i ρ=Y (cn c):=by unfold ib;rw[t];rfl
 show bW _ _ _ _ i _ ρ=_;unfold bW;rw[t];show (if ("Lean" = "Lean" /\ "Lean" = "Lean")/\("take" : aE)∉[af "coming"] then _ else M)=_;rw[a];simp only[ai];rw[b];simp only[ai];rw[NC k,uZ u];rfl
def SI.tq(I:SI f v a c m d b)(T:Tq c o):SI f v a o m d b:=by
 obtain⟨t,x,g,e,rfl⟩:=T;have h:=I.nd;have i:=I.lt;have p:=I.Wt;have l:=I.len;have n:=I.cnt;rw[e]at h i p l n;refine⟨I.ff,I.fa,I.fu,l,⟨λi r h =>?_,λi p r k q =>?_⟩,λy j =>?_,h,i,p,n,I.tk,I.op⟩
 .exact I.kr.rl i r ż
 .cases i with
  |zero=>cases k;have:=I.kr.ch 0 t r ż ż;exact⟨this.re,this.ra⟩
  |succ i=>exact I.kr.ch (i+1) p r ż ż
 .have:=I.pl y j;rw[e]at this;exact this
def EX.tq(X:EX d a v c.rows)(T:Tq c j):EX d a v j.rows:=by
 obtain⟨t,x,g,e,rfl⟩:=T;refine⟨λi r h=>X.xf i r ż,λi p r b f =>?_,λi p r b f =>?_,?_⟩
 .cases i with
  |zero=>cases b;exact X.xh 0 t r ż ż
  |succ i=>exact X.xh (i+1) p r ż ż
 .cases i with
  |zero=>cases b;exact X.xr 0 t r ż ż
  |succ i=>exact X.xr (i+1) p r ż ż
 .obtain⟨y,k,h⟩:=X.xt
  grind
def Gu(T:Tq c a):a.taken=c.taken/\a.rows.length=c.rows.length:=by
 obtain⟨t,x,g,e,rfl⟩:=T
 simp_all
def Mq(W:FW f v a j u r)(I:SI f v a c m d b)(X:EX a f.inner v c.rows)(C:c.taken<=45)(s:pK)(n:iM (d,b) s=Y (k,p)):∃(q:List Int) (o:gu),dh [bP c,cz s]=Y (.lst (q.map D.int),bP o)/\SI f v a o (m+q.length) k p/\o.taken=c.taken+1/\EX a f.inner v o.rows /\
  ∀h,Tq c h->∃g,dh [bP h,cz s]=Y (.lst (q.map D.int),bP g)/\Tq o g:=by
 obtain⟨q,o,e,J,t,B,S⟩:=R5 W I X C s n;refine⟨q,o,e,J,t,B,λh T =>?_⟩;obtain⟨A,g,w,_,_,_,z⟩:=R5 W (I.tq T) (X.tq T) (by rw[(Gu T).1];exact C) s n;have l:mn1 s<=c.rows.length:=by
  have:=I.len;cases s with
  |op x=>show 1<=_;simp_all
  |tx x=>
   by_cases i:0<d
   .show 2<=_;lia
   simp_all [iM]
  |cl=>
   by_cases i:0<d
   .show 2<=_;lia
   simp_all [iM]
 obtain⟨rfl,y⟩:=Xn S T z l;exact⟨g,w,y⟩
end K21
end
section
set_option maxHeartbeats 1000000
namespace K21
open PySem L2
variable {f:xy}{v:Int}
inductive oA:gu->List pK->gu->Prop
 |nil {c}:oA c [] c
 |cons {c o c':gu}{s:pK}{gs:List pK}{d:D}:dh [bP c,cz s]=some (d,bP o)->oA o gs c'->oA c (s::gs) c'
theorem SM(W:FW f v a p x u):∀(h:List pK) (c:gu) (m d:Nat) (b:Bool) (z:Nat×Bool),SI f v a c m d b->EX a f.inner v c.rows->vg h (d,b)=Y z->c.taken+h.length<=46->∃(i:gu) (k:Nat),oA c h i/\SI f v a i k z.1 z.2/\EX a f.inner v i.rows/\i.taken=c.taken+h.length/\∀j,Tq c j->∃g,oA j h g/\Tq i g
 |[],c,m,d,b,z,I,X,r,_=>by cases r;exact⟨c,m,.nil,I,X,Ž,λj T=>⟨j,.nil,T⟩⟩
 | s::h,c,m,d,b,z,I,X,r,t=>by
  refine ae λkk =>?_
  obtain⟨⟨B,C⟩,n,r⟩:=aa.1 r;rw[bo]at t;obtain⟨q,o,e,J,L,N,U⟩:=Mq W I X (by lia) s n;obtain⟨i,k,F,H,D,w,E⟩:=SM W h o _ B C z J N r (by lia);refine kk (⟨i,k,.cons e F,H,D,Ÿ,λj T =>?_⟩);obtain⟨y,A,G⟩:=U j T;obtain⟨g,K,l⟩:=E y G;exact⟨g,.cons A K,l⟩
abbrev eA(f e d b a:Option D)(c:gu)(y:Option D):bY:=[f,e,d,b,a,oN c,y,M,M,M,M,M,M,M,M,M,M]
def abG{p0 p1 p2 p3 p4:Option D}(hp:[p0,p1,p2,p3,p4].all na=Z')(F:oA c gs c'):∀y,na y=Z'->∃y',na y'=Z'/\gG (gN 6) (da (He 5)) (gs.map cz) (eA p0 p1 p2 p3 p4 c y)=Y (.nx (eA p0 p1 p2 p3 p4 c' y')):=by
 induction F with
 |nil=>intro y h;exact ź
 |@cons c o c' s gs d e F ih=>
  intro y h;obtain⟨y',h',E⟩:=ih _ (BL s);refine⟨y',h',?_⟩;have t:=zy (ρ:=eA p0 p1 p2 p3 p4 c _) (i:=5) rfl rfl (by
   simp only[fm,aR,qv]at hp ⊢;obtain⟨_,_,_,_,_,_⟩:=hp
   and_intros<;>first|solve_by_elim|exact BL s|lia) e
  rw[bx,kX rfl (show da _ _=Y (.nx (eA p0 p1 p2 p3 p4 o (Y (cz s)))) by simp_all [da])];exact E
abbrev eB(p0 p1 p2 p3 p4:Option D)(c:gu)(y h vv l:Option D)(b:gu)(k:Option D)(a:gu)(w:Option D):bY:=[p0,p1,p2,p3,p4,oN c,y,h,vv,l,oN b,k,oN a,w,M,M,M]
def JM{c:bY}(a:eV 5 c=Y d1)(b:eV i c=Y d2)(h:qr [d1,d2]=Y (.bl Z')):Wp i c=Y false:=by
 have:bc qr (aC (eV 5) (aC (eV i) aN)) c=Y (.bl Z'):=by simp_all [bc,aC,aN]
 show nc _ c=_;unfold nc fD;rw[this];rfl
def Ve{c e b d:DM}{t:DT}(j:m2 o1 c e a=Y (.bl Z_,a1))(i:m2 o2 b d a1=Y (.bl Z_,a2))(f:t a2=Y Z_):PY o1 c e o2 b d t g h a=h a2:=by
 simp_all [PY,ai]
theorem YA(W:FW f v fit lift Kd txt){p0 p1 p2 p3 p4 h vv l k:Option D}(hp:[p0,p1,p2,p3,p4,h,vv,l,k].all na=Z'):∀(gs:List pK) (c c1 c2:gu) (m d:Nat) (b:Bool) (z:Nat×Bool) (y w:Option D),SI f v fit c m d b->EX fit f.inner v c.rows->Tq c c1->Tq c c2->vg gs (d,b)=Y z->c.taken+gs.length<=45->na y=Z'->na w=Z' ->
  ∃(c' ON LW:gu) (m':Nat) (y' w':Option D),gG (gN 6) DD (gs.map cz) (eB p0 p1 p2 p3 p4 c y h vv l c1 k c2 w)=Y (.nx (eB p0 p1 p2 p3 p4 c' y' h vv l ON k LW w'))/\na y'=Z'/\na w'=Z'/\SI f v fit c' m' z.1 z.2/\EX fit f.inner v c'.rows/\Tq c' ON/\Tq c' LW/\c'.taken=c.taken+gs.length/\∀c3,Tq c c3->∃c3',oA c3 gs c3'/\Tq c' c3'
 |[],c,c1,c2,m,d,b,z,y,w,I,X,T1,T2,r,_,hy,hw=>by cases r;exact⟨c,c1,c2,m,y,w,rfl,hy,hw,I,X,T1,T2,Ž,λc3 T=>⟨c3,.nil,T⟩⟩
 | s::gs,c,c1,c2,m,d,b,z,y,w,I,X,T1,T2,r,t,hy,hw=>by
  refine ae λkk =>?_
  obtain⟨⟨d',b'⟩,n,r⟩:=aa.1 (show (iM (d,b) s).bind (vg gs)=Y z from r);rw[bo]at t;obtain⟨q,o,e,J,tk,a,U⟩:=Mq W I X ž s n;obtain⟨o1,e1,WN⟩:=U c1 T1;obtain⟨o2,e2',T2'⟩:=U c2 T2;obtain⟨c',ON,LW,m',y',w',E,hy',hw',J',Y',A1,A2,tk',U'⟩:=YA W hp gs o o1 o2 _ d' b' z (Y (cz s)) (Y (.lst (q.map D.int))) J a WN T2' r ž (BL s) rfl;refine kk (⟨c',ON,LW,m',y',w',?_,hy',hw',J',Y',A1,A2,by rw[tk',tk,bo];lia,λc3 T =>?_⟩)
  .have al:∀(c c1 c2:gu) (w:Option D),na w=Z'->(eB p0 p1 p2 p3 p4 c (Y (cz s)) h vv l c1 k c2 w).all na=true:=λc c1 c2 w hw=>by
    simp only[fm,aR,qv]at hp ⊢;obtain⟨_,_,_,_,_,_,_,_,_,_⟩:=hp
    and_intros<;>first|trivial|exact BL s|lia
   have t1:=zy (ρ:=eB p0 p1 p2 p3 p4 c (Y (cz s)) h vv l c1 k c2 w) (i:=5) rfl rfl (al _ _ _ _ hw) e;have t2:=zy (ρ:=eB p0 p1 p2 p3 p4 o (Y (cz s)) h vv l c1 k c2 (Y (.lst (q.map D.int)))) (i:=10) rfl rfl (al _ _ _ _ rfl) e1;have t3:=zy (ρ:=eB p0 p1 p2 p3 p4 o (Y (cz s)) h vv l o1 k c2 (Y (.lst (q.map D.int)))) (i:=12) rfl rfl (al _ _ _ _ rfl) e2';have ok:iF (.lst (q.map D.int)) 180=true:=by simp[iF,vM]
   have n1:m2 ur (mP (eV 13)) (He 10) (eB p0 p1 p2 p3 p4 o (Y (cz s)) h vv l c1 k c2 (Y (.lst (q.map D.int))))=Y (.bl Z_,eB p0 p1 p2 p3 p4 o (Y (cz s)) h vv l o1 k c2 (Y (.lst (q.map D.int)))):=by unfold m2;show ((He 10 (eB p0 p1 p2 p3 p4 o (Y (cz s)) h vv l c1 k c2 (Y (.lst (q.map D.int))))).bind _)=_;rw[t2];show (ur (.lst (q.map D.int)) (.lst (q.map D.int))).map _=_;rw[yQ ok];rfl
   have n2:m2 ur (mP (eV 13)) (He 12) (eB p0 p1 p2 p3 p4 o (Y (cz s)) h vv l o1 k c2 (Y (.lst (q.map D.int))))=Y (.bl Z_,eB p0 p1 p2 p3 p4 o (Y (cz s)) h vv l o1 k o2 (Y (.lst (q.map D.int)))):=by unfold m2;show ((He 12 (eB p0 p1 p2 p3 p4 o (Y (cz s)) h vv l o1 k c2 (Y (.lst (q.map D.int))))).bind _)=_;rw[t3];show (ur (.lst (q.map D.int)) (.lst (q.map D.int))).map _=_;rw[yQ ok];rfl
   have n3:yX [5,10] [] (Wp 10) (eB p0 p1 p2 p3 p4 o (Y (cz s)) h vv l o1 k o2 (Y (.lst (q.map D.int))))=Y false:=JM (d1:=cn o) (d2:=cn o1) rfl rfl (rZ J WN ž);have hb:DD (eB p0 p1 p2 p3 p4 c (Y (cz s)) h vv l c1 k c2 w)=Y (.nx (eB p0 p1 p2 p3 p4 o (Y (cz s)) h vv l o1 k o2 (Y (.lst (q.map D.int))))):=by show aX (my 13 (He 5)) _ _=_;rw[aK (show my 13 (He 5) (eB p0 p1 p2 p3 p4 c (Y (cz s)) h vv l c1 k c2 w)=Y (.nx (eB p0 p1 p2 p3 p4 o (Y (cz s)) h vv l c1 k c2 (Y (.lst (q.map D.int))))) by simp_all [my])];exact Ve n1 n2 n3
   rw[bx,kX (ρ1:=eB p0 p1 p2 p3 p4 c (Y (cz s)) h vv l c1 k c2 w) rfl hb];exact E
  .obtain⟨o3,e3,T3⟩:=U c3 T;obtain⟨c3',F3,T3'⟩:=U' o3 T3;exact⟨c3',.cons e3 F3,T3'⟩
end K21
end
section
set_option maxHeartbeats 1000000
namespace K21
open PySem L2
theorem En:∀(a b:List pK) (z w:Nat×Bool),vg (a++b) z=Y w->∃y,vg a z=Y y/\vg b y=Y w
 |[],b,z,w,h=>⟨z,rfl,h⟩|s::a,b,z,w,h=>by obtain⟨y,e,h⟩:=aa.1 h;obtain⟨x,d,c⟩:=En a b y w h;refine⟨x,?_,c⟩;show (iM z s).bind _=_;rw[e];exact d
def MH(n k a:Nat)(h:k<=n):HT.CC n a (Y (k:Int))=k:=by
 simp_all [HT.CC,if_neg,min,ke,H0]
def ab4{a:Type}(l:List a)(k:Nat)(h:k<=l.length):AD l M (Y (k:Int))=l.take k:=by
 show List.take (HT.CC _ _ _-0) (List.drop 0 l)=_
 simp_all [MH]
def cutD{a:Type}(l:List a)(k:Nat)(h:k<=l.length):AD l (Y (k:Int)) M=l.drop k:=by
 show List.take (l.length-HT.CC _ 0 _) _=_
 simp_all [MH,RP,nZ]
def Q3{c:gu}(h:eV i a=Y (.obj cK (cn c)))(n:c.rows≠[])(k:c.rows.length<=1000):Q5 i a=Y (eW c):=by
 have t:ib cK i a=Y (cn c):=by unfold ib t_;rw[h];exact ź
 unfold Q5;rw[t];simp;rw[CZ n k];refine if_pos ⟨⟨_,_,rfl,ſ⟩,?_⟩;cases e:c.rows with
 |nil=>exact absurd e n|cons t b=>
  refine⟨_,_,_,_,_,OS c e Ÿ,?_⟩
  grind
def Y_{R:List (List Int)}(h:R.length<=1000)(k:∀l∈R,l≠[]/\l.length<1000):LD (R.map tI):=⟨rn R,Lz R h k⟩
def Oe{c:gu}(h:g a=Y (eW c))(k:c.rows.length<=1000)(l:c.rests.length<=1000):YR g a=Y (eW c):=by
 unfold YR;rw[h];refine if_pos ⟨_,_,_,_,rfl,Y_ (by rw[aD,List.length_tail];lia) λl m =>?_,Y_ ż λl m =>?_⟩
 .obtain⟨r,_,rfl⟩:=dN.mp m;simp[GQ]
 .obtain⟨r,_,rfl⟩:=dN.mp m;simp[LR]
def Dm{F:List D->Option D}{f:DL}{c:gu}{q:List D}(a:f b=Y q)(h:g b=Y (eW c))(k:F [.lst q,eW c]=Y r):La F f g b=Y r:=by
 unfold La;rw[a,h];exact k
def Mi(h:eV i a=Y (.obj .vl d)):ib .vl i a=Y d:=by unfold ib t_;rw[h];rfl
theorem vK:∀ {l:List D},(∀d∈l,iF d n=Z')->jy l n=Z'
 |[],_=>by simp[jy]
 |d::l,h=>by rw[jy,h d (by simp),vK λx m=>h x (by simp[m])];rfl
theorem vL:∀(n:Nat) (w:D),fV n w->∀k,3*n<=k->iF w k=Z'
 |0,w,h,k,_=>absurd h id| n+1,w,h,k,f=>by
  obtain⟨m,rfl⟩:∃m,k=m+3:=⟨k-3,by lia⟩;have d:∀(s:aE) (b:List D),(∀x∈b,iF x (m+1)=Z')->iF (.tup [.str s,.lst b]) (m+3)=true:=λs b h=>by simp[iF,jy,vK h]
  rcases h with rfl|⟨t,rfl⟩|⟨a,rfl,_,_,h⟩|⟨b,rfl,_,h⟩|⟨b,rfl,_,h⟩
  .exact ź
  .exact ź
  .refine d _ _ λx c =>?_
   obtain⟨p,e,rfl⟩:=dN.mp c;simp[dw,iF,jy,vL n _ (h p e) m (by lia)]
  .exact d _ _ λx c=>vL n x (h x c) _ ž
  .exact d _ _ λx c=>vL n x (h x c) _ ž
def Y5{a:List (aE×aE×D)}(h:∀p∈a,fV 4 p.2.2):iF (.lst (a.map dw)) 180=true:=by
 have:jy (a.map dw) 179=true:=vK λx b=>by obtain⟨p,c,rfl⟩:=dN.mp b;simp[dw,iF,jy,vL 4 _ (h p c) 178 (by lia)]
 exact ź
def N8{s:pK}(h:Bb c s=Z_):yP [bP c,cz s]=Y (.er "NoSign" c.taken):=by
 show (Dd [Y _,Y _]).bind _=_;have b:decide (1<((c.rows.map cx).length:Int))=decide (1<c.rows.length):=Ÿ
 have a:nc (fD (bc iV np)) [Y (bP c),Y (cz s)]=Y true:=by
  unfold nc fD;rw[B9,b,OL,show Rw s _ _=Z_ from h]
  exact ź
 unfold Dd aX d_;rw[a]
 exact ź
def Mj{s:pK}(h:Bb c s=Z_):sO [cn c,cz s]=Y (.er "NoSign" c.taken):=by
 show (C9 [Y _,Y _]).bind _=_;have:∀F,t7 "Coming" "feed" F (bq "Lean" "coming" Fa) am [Y (cn c),Y _]=if "Coming" = "Coming" /\("feed" : aE)∉ck then F [bP c,cz s] else none:=λF=>rfl
 unfold C9 MG;rw[this,N8 h];rfl
def zf{s:pK}(a:Bb c s=Z_):pP [cn c,cz s]=Y (.int c.taken):=by
 show (sC _).bind _=_;unfold sC;rw[aK (rfl),aK (show cN 3 _ _=Y (.nx [Y _,Y _,Y _,Y _,M]) from rfl)];have b:∀F,t7 "Lean" "take" F Fa am [Y (cn c),Y _,Y .dW,Y .dW,M]=if "Lean" = "Lean" /\("take" : aE)∉(["coming"]:List aE) then F [cn c,cz s] else none:=λF=>rfl
 unfold MF;rw[b,Mj a]
 exact ź
def JF{F:List D->Option D}{f:DF}(h:f a=Y x)(k:g a=Y y):bc F (aC f (aC g aN)) a=F [x,y]:=by
 simp_all [bc,aC,aN]
def Lq(a:List Int):∃x:Int,m8 [.kA a,.int 36]=Y (.int x):=by
 have t:c_ (e2 O_ db (bc ic im)) [Y (.kA a),Y (.int 36)]=Y _:=rfl;show ∃x,(wY [Y _,Y _]).bind _=_;unfold wY;by_cases h:(36:Int)<a.length
 .obtain⟨x,e⟩:=sM ź h;refine⟨x,?_⟩;have e:e2 b9 Fa db [Y (.kA a),Y (.int 36)]=Y (.int x):=by show (oY a 36).map _=_;rw[<- yN];exact e
  unfold aX d_;rw[t,decide_eq_true h];simp only[ai,if_pos,dy];rw[e];exact ź
 .refine⟨0,?_⟩;unfold aX d_;rw[t,decide_eq_false h]
  exact ź
def Y9(d:List Int)(g f:Option D)(a:List D):∃k:Nat,k<=a.length/\e2 hW (bc tZ wT) (e2 iH (bc ic Go) u8) (Y (.kA d)::g::f::Y (.lst a)::R)=Y (.int k):=by
 obtain⟨x,e⟩:=Lq d;have b:bc tZ wT (Y (.kA d)::g::f::Y (.lst a)::R)=Y (.int (A9 x 9)):=by rw[JF ((rfl).trans e) rfl];simp[Ha]
 have c:e2 iH (bc ic Go) u8 (Y (.kA d)::g::f::Y (.lst a)::R)=Y _:=rfl;refine⟨(A9 x 9%(a.length+1)).toNat,?_,?_⟩
 .have:=cu (A9 x 9) (show (0:Int)<a.length+1 by simp)
  lia
 .unfold e2 at b c ⊢;rw[b];show (if (0:Int)<a.length+1 then Y _ else M)=_;rw[if_pos (by simp),Int.toNat_of_nonneg (cG _ (by lia))]
def EG(h:a c=Y Z_)(k:b c=Y Z_):lx a b c=Y false:=by
 simp_all [lx]
def ET{f:DF}{d:D}(a:f c=Y d)(b:g c=Y d)(h:iF d 180=Z'):c_ (e2 ur f g) c=Y false:=by
 simp_all [c_,e2,ai,yQ]
def Rl(a:List pK):iF (.lst (a.map cz)) 180=true:=by
 have:jy (a.map cz) 179=true:=vK λx b=>by obtain⟨s,_,rfl⟩:=dN.mp b;cases s<;>simp[cz,kS,iF,jy]
 exact ź
end K21
end
namespace K21
open PySem L2
def OM{F:List D->Option D}{f:DF}(h:f a=Y d):bc F (aC f aN) a=F [d]:=by
 simp_all [bc,aC,aN]
def VX{F:List D->Option (List D)}{n:D}(f:g a=Y b)(d:eV 1 a=Y n)(h:F [.lst b,n]=Y c):eF (rQ F (aC (eF g) am)) a=Y (.lst c):=by
 unfold eF rQ
 simp_all [aC,v8,eV,aN]
def Ho{f:DL}(e:f a=Y c):je f b g a=gG b g c a:=by
 simp_all [je]
def vc{ρ:bY}{s:Sk}{f:DF}(h:f ρ=Y d):rh i s f ρ=Y (.nx (ρ.set i (Y (.obj s d)))):=by simp_all [rh]
def Jb{ρ:bY}{t:DT}(h:t ρ=Y Z_):d_ t g cO ρ=Y (.nx ρ):=by unfold d_;rw[h];rfl
def GA(c:List Int)(f:c.length<=63)(b:List aE)(g:b.length=5):∃(a:List (aE×aE×D)) (e d:List Int),jn [.kA c,.int 100,.int 12]=Y (e.map D.int)/\sP [.lst (e.map D.int),.int 3,.lst (b.map D.str)]=Y (.lst (a.map dw),d.map D.int)/\1<=a.length/\a.length<=3/\∀p∈a,fV 4 p.2.2:=by
 obtain⟨e,k,_⟩:=Am c f 100 12 ſ ſ ſ ſ;obtain⟨a,d,l,j,i,h⟩:=(AO b g 3).2 12 e ſ;exact⟨a,e,d,k,l,j,i,h⟩
abbrev eG(p0 p1 p2 p3 p4:Option D)(c:gu)(y h vv l o1 k o2 w m p f:Option D):bY:=[p0,p1,p2,p3,p4,oN c,y,h,vv,l,o1,k,o2,w,m,p,f]
def abF{p0 p1 p2 p3 p4 h vv l o1 k o2 w m p:Option D}{x:gu}(hp:[p0,p1,p2,p3,p4,h,vv,l,o1,k,o2,w,m,p].all na=Z')(F:oA c gs c'):∀y,na y=Z'->∃y',na y'=Z'/\gG (gN 6) (da (He 16)) (gs.map cz) (eG p0 p1 p2 p3 p4 x y h vv l o1 k o2 w m p (oN c))=Y (.nx (eG p0 p1 p2 p3 p4 x y' h vv l o1 k o2 w m p (oN c'))):=by
 induction F with
 |nil=>intro y h;exact⟨y,h,rfl⟩
 |@cons c o c' s gs d e F ih=>
  intro y hy;obtain⟨y',h',E⟩:=ih (Y (cz s)) (BL s);refine⟨y',h',?_⟩;have t:=zy (ρ:=eG p0 p1 p2 p3 p4 x (Y (cz s)) h vv l o1 k o2 w m p (oN c)) (i:=16) rfl rfl (by
   simp only[fm,aR,qv]at hp ⊢;refine ae λkk =>?_
   obtain⟨_,_,_,_,_,_,_,_,_,_,_,_,_,_,_⟩:=hp;refine kk ?_
   and_intros<;>first|lia|exact BL s|solve_by_elim) e
  rw[bx,kX rfl (show da (He 16) (eG p0 p1 p2 p3 p4 x (Y (cz s)) h vv l o1 k o2 w m p (oN c))=Y (.nx (eG p0 p1 p2 p3 p4 x (Y (cz s)) h vv l o1 k o2 w m p (oN o))) by simp_all [da])];exact E
def EX.new{inner mm:Int}:EX fit inner mm [qV]:=⟨λi r e=>by simp at e,λi p r a e=>by simp at e,λi p r a e=>by simp at e,_,[],rfl⟩
abbrev AQ(c:gu):D :=.tup [.int c.taken,.int c.opened,.lst [],.lst ((c.rests.map LR).map tI++[.tup [.int 0]])]
def VU{ρ:bY}{c:gu}(h:eV 8 ρ=Y (.obj .vl (eW c)))(u:ρ.all na=Z'):Iu 8 ρ=Y (.nx (ρ.set 8 (Y (.obj .vl (.tup [.int c.taken,.int c.opened,.lst [],.lst ((c.rests.map LR).map tI)]))))):=by
 unfold Iu;rw[Mi h,uZ u];rfl
def V1{ρ:bY}{c:gu}(h:eV 8 ρ=Y (.obj .vl (.tup [.int c.taken,.int c.opened,.lst [],.lst ((c.rests.map LR).map tI)])))(u:ρ.all na=Z')(k:c.rests.length<=1000):Iv 8 0 ρ=Y (.nx (ρ.set 8 (Y (.obj .vl (AQ c))))):=by
 unfold Iv;rw[Mi h,uZ u];simp only[ai];rw[if_pos (bz (by rw[aD,aD];exact k) (by decide))]
def T8{p0 p1 p2 p4 h vv l k o2 w:Option D}{gs:List pK}{c c1:gu}{y:Option D}(hr:vg gs (0,Z_)=Y (d,b))(I:c.rows.length=d+1)(T:Tq c c1)(tk:c.taken=gs.length)(hl:gs.length<=1000):
  ∃p,na p=Z'/\d_ (lx (c_ (e2 fh pc wf)) (c_ (e2 fh (bc qp Go) v0))) DC cO (eG p0 p1 p2 (Y (.lst (gs.map cz))) p4 c y h vv l (oN c1) k o2 w (Y (cz (.tx (af "x")))) M M)=Y (.nx (eG p0 p1 p2 (Y (.lst (gs.map cz))) p4 c y h vv l (oN c1) k o2 w (Y (cz (.tx (af "x")))) p M)):=by
 generalize hs:pK.tx (af "x")=s;have t1:c_ (e2 fh pc wf) (eG p0 p1 p2 (Y (.lst (gs.map cz))) p4 c y h vv l (oN c1) k o2 w (Y (cz s)) M M)=Y gs.isEmpty:=by unfold c_ e2;show ((fh (.lst (gs.map cz)) (.lst [])).bind _)=_;unfold fh;rw[Rl];show Y (AK (.lst (gs.map cz)) (.lst []))=_;cases gs<;>rfl
 have t2:c_ (e2 fh (bc qp Go) v0) (eG p0 p1 p2 (Y (.lst (gs.map cz))) p4 c y h vv l (oN c1) k o2 w (Y (cz s)) M M)=Y (decide (d=0)):=by unfold c_ e2;rw[(OM rfl).trans (OB hl hr)];show Y (AK (.int (d:Nat)) (.int 0))=_;cases d<;>rfl
 by_cases hd:d=0
 .have tt:lx (c_ (e2 fh pc wf)) (c_ (e2 fh (bc qp Go) v0)) (eG p0 p1 p2 (Y (.lst (gs.map cz))) p4 c y h vv l (oN c1) k o2 w (Y (cz s)) M M)=Y true:=by unfold lx;rw[t1,t2,decide_eq_true hd];cases gs.isEmpty<;>rfl
  have g0:Bb c s=false:=by rw[<- hs];show decide (1<c.rows.length)=Z_;rw[I,hd];rfl
  have g1:Bb c1 s=false:=by rw[<- hs];show decide (1<c1.rows.length)=Z_;rw[(Gu T).2,I,hd];rfl
  have r0:=zf g0;have r1:=zf g1;rw[(Gu T).1]at r1;refine⟨Y (.int c.taken),rfl,?_⟩;unfold d_;rw[tt];show DC _=_;show aX _ _ _=_;rw[aK (ρ':=eG p0 p1 p2 (Y (.lst (gs.map cz))) p4 c y h vv l (oN c1) k o2 w (Y (cz s)) (Y (.int c.taken)) M) ?q]
  case q=>rw[gE (d :=.int c.taken) (lp (ρ':=[p0,p1,p2,Y (.lst (gs.map cz)),p4,Y (cn c),y,h,vv,l,oN c1,k,o2,w,Y (cz s),M,M]) rfl ((JF rfl rfl).trans r0) rfl)];rfl
  refine Jb (pW (ρ':=[p0,p1,p2,Y (.lst (gs.map cz)),p4,oN c,y,h,vv,l,Y (cn c1),k,o2,w,Y (cz s),Y (.int c.taken),M]) rfl (EG (ET (d :=.int c.taken) rfl ?_ rfl) (ET (d :=.int c.taken) ((JF rfl rfl).trans r1) rfl rfl)));show Y (D.int ((gs.map cz).length:Nat))=_;rw[aD,tk]
 .refine⟨M,rfl,Jb ?_⟩;unfold lx;rw[t1,t2,decide_eq_false hd];cases gs with
  |nil=>cases hr;exact absurd rfl hd|cons=>rfl
def YK{f g:DF}{d:D}(a:f ρ=Y d)(b:g ρ=Y d)(h:iF d 180=Z'):c_ (e2 fh f g) ρ=Y true:=by
 simp_all [c_,e2,ai,eq_self]
def V2{f g:DF}{d:D}(h:c_ f ρ=Y Z')(k:g ρ=Y d):Lc f g ρ=Y d:=by
 unfold Lc;rw[h];exact k
def PR{ρ:bY}{f:DL}{d:List D}(h:f ρ=Y d):j5 i f ρ=Y (.nx (ρ.set i (Y (.lst d)))):=by simp_all [j5]
def Hw{F:List D->Option (List D×List D)}{g h:DL}(f:g a=Y b)(e:h a=Y c)(d:F (.lst b::c)=Y r):yI F g h a=Y r.1:=by
 simp_all [yI,ai]
def NJ(ns:List Int)(Vl:ns.length<=63):FY [.kA ns]=Y (.bl Z'):=by
 obtain⟨nms,en,hn⟩:=Nt ns Vl;obtain⟨lR,qx,qd,eqc,eqs,h1,h3,hw⟩:=GA ns Vl nms hn;obtain⟨xs,ex,_,hxl⟩:=Am ns Vl 500 28 ſ ſ ſ ſ;obtain⟨ss,dep,es,hsg,hsl⟩:=My xs nms ž hn;obtain⟨gs,gd,gb,rfl,Ym,_,_⟩:=hsg.ex;obtain⟨f,fit,lift,Kd,txt,hf,hfq,W⟩:=Yw (n:=4) ſ lR hw h3 (by rw[show Zb 4=120 from by decide];lia);have hql:f.q.length=lR.length:=by rw[hfq,aD]
 have hab:jN [.lst f.q]=Y (.int (Au 4 0 0 lR)):=by rw[hfq];exact RE ſ lR hw ž
 have Vp:=Lp ž hf hab;have Jc:=QE Vp;have I0:SI f (Au 4 0 0 lR) fit ⟨f,2 ^ f.q.length,Au 4 0 0 lR,0,0,[qV],[]⟩ 0 0 false:=SI.new;have X0:EX fit f.inner (Au 4 0 0 lR) (⟨f,2 ^ f.q.length,Au 4 0 0 lR,0,0,[qV],[]⟩:gu).rows:=EX.new;have hq:=Y5 hw;have hgl:gs.length<=28:=by rw[aD]at hsl;lia
 have hst:=Ke eqs;generalize hv:Au 4 0 0 lR=v at hab Vp Jc I0 X0 W;have hwk:=λ(c:gu) (m d:Nat) (b:Bool) (I:SI f v fit c m d b) (X:EX fit f.inner v c.rows) (T:c.taken<=100)=>L_ W Jc I X T
 have hc0:(⟨f,2 ^ f.q.length,v,0,0,[qV],[]⟩:gu).taken=0:=rfl;generalize (⟨f,2 ^ f.q.length,v,0,0,[qV],[]⟩:gu)=c0 at Vp Jc I0 X0 hc0;generalize hqd:lR.map dw=q at *
 generalize hp1:nms.map D.str=nm at *
 obtain⟨k,hk,ek⟩:=Y9 (R:=aM 13 M) ns (Y (.lst nm)) (Y (.lst q)) (gs.map cz);have hkg:k<=gs.length:=by rw[aD]at hk;exact hk
 obtain⟨⟨d1,b1⟩,hr1,hr2⟩:=En (gs.take k) (gs.drop k) (0,Z_) (gd,gb) (by rw[List.take_append_drop];exact Ym);have lt:(gs.take k).length=k:=by rw[uU];lia
 have ld:(gs.drop k).length=gs.length-k:=by rw[nZ]
 obtain⟨c,m,F1,I,X,tk,_⟩:=SM W (gs.take k) c0 0 0 Z_ (d1,b1) I0 X0 hr1 ž;have tk:c.taken=k:=by rw[tk,hc0,lt];lia
 obtain⟨c1,w1,T1⟩:=hwk c _ _ _ I X ž;have rl:c.rows.length<=1000/\c.rests.length<=1000/\c.rows≠[]:=by have a:=I.cnt;have b:=I.tk;have l:=I.len;exact⟨ž,ž,λe=>by rw[e]at l;cases l⟩
 show (Jf [Y (.kA ns),M,M,M,M,M,M,M,M,M,M,M,M,M,M,M,M]).bind vW=_;unfold Jf;have SW:∀R:bY,rQ jn Do (Y (.kA ns)::R)=Y (qx.map D.int):=λR=>(show _=jn [.kA ns,.int 100,.int 12] from rfl).trans eqc
 rw[aK (ρ':=Y (.kA ns)::Y (.lst nm)::aM 15 M) ?q1,
  aK (ρ':=Y (.kA ns)::Y (.lst nm)::Y (.lst q)::aM 14 M) ?q2,
  aK (ρ':=Y (.kA ns)::Y (.lst nm)::Y (.lst q)::Y (.lst (gs.map cz))::aM 13 M) ?q3,
  aK (ρ':=Y (.kA ns)::Y (.lst nm)::Y (.lst q)::Y (.lst (gs.map cz))::Y (.int k)::aM 12 M) ?q4,
  aK (ρ':=eA (Y (.kA ns)) (Y (.lst nm)) (Y (.lst q)) (Y (.lst (gs.map cz))) (Y (.int k)) c0 M) ?q5]
 case q1=>rw[gE ((OM rfl).trans en)];rfl
 case q2=>rw[gE (Lu (SW _) (show aC bd am _=Y [.int 3,.lst nm] from rfl) eqs)];rfl
 case q3=>have e1:rQ jn wS (Y (.kA ns)::Y (.lst nm)::Y (.lst q)::aM 14 M)=Y (xs.map D.int):=(show _=jn [.kA ns,.int 500,.int 28] from rfl).trans ex;rw[gE (VX (F:=sQ) (n :=.lst nm) e1 rfl es)];rfl
 case q4=>rw[gE ek];rfl
 case q5=>
  have e:nP "Lean" cp (gk 2) (Y (.kA ns)::Y (.lst nm)::Y (.lst q)::Y (.lst (gs.map cz))::Y (.int k)::aM 12 M)=Y (cn c0):=by show ((cp [.ins "Lean" [] [],.lst q]).bind _)=_;rw[Jc];rfl
  rw[vc e];rfl
 generalize hP0:Y (D.kA ns)=AY at *
 obtain⟨y1,n1,e1⟩:=abG (p0:=AY) (p1:=Y (.lst nm)) (p2:=Y (.lst q)) (p3:=Y (.lst (gs.map cz))) (p4:=Y (.int k)) (by rw[<- hP0];rfl) F1 M rfl;rw[aK (ρ':=eA AY (Y (.lst nm)) (Y (.lst q)) (Y (.lst (gs.map cz))) (Y (.int k)) c y1) ?q6]
 case q6=>refine(Ho (c:=(gs.take k).map cz) ?_).trans e1;show Y (AD (gs.map cz) M (Y (k:Int)))=_;rw[ab4 _ _ hk,AN]
 have na0:na AY=true:=by rw[<- hP0];rfl
 have P:∀p,iF (eW p) 180=true:=λp=>OH _ _ _ _
 rw[aK (ρ':=eG AY (Y (.lst nm)) (Y (.lst q)) (Y (.lst (gs.map cz))) (Y (.int k)) c y1 (Y (eW c)) M M M M M M M M M) (by rw[gE (Q3 (c:=c) rfl rl.2.2 rl.1)];rfl),
  aK (ρ':=eG AY (Y (.lst nm)) (Y (.lst q)) (Y (.lst (gs.map cz))) (Y (.int k)) c y1 (Y (eW c)) (Y (.obj .vl (eW c))) M M M M M M M M) (by rw[vc (Oe (c:=c) rfl rl.1 rl.2.1)];rfl),
  aK (ρ':=eG AY (Y (.lst nm)) (Y (.lst q)) (Y (.lst (gs.map cz))) (Y (.int k)) c y1 (Y (eW c)) (Y (.obj .vl (eW c))) (Y (.lst q)) M M M M M M M) ?q9,
  aK (ρ':=eG AY (Y (.lst nm)) (Y (.lst q)) (Y (.lst (gs.map cz))) (Y (.int k)) c y1 (Y (eW c)) (Y (.obj .vl (eW c))) (Y (.lst q)) (oN c1) M M M M M M) (by rw[vc (Dm (c:=c) (q:=q) rfl (Mi rfl) w1)];rfl),
  aK (ρ':=eG AY (Y (.lst nm)) (Y (.lst q)) (Y (.lst (gs.map cz))) (Y (.int k)) c y1 (Y (eW c)) (Y (.obj .vl (eW c))) (Y (.lst q)) (oN c1) (Y (eW c)) M M M M M) (by rw[gE (Oe (c:=c) (Mi rfl) rl.1 rl.2.1)];rfl),
  aK (ρ':=eG AY (Y (.lst nm)) (Y (.lst q)) (Y (.lst (gs.map cz))) (Y (.int k)) c y1 (Y (eW c)) (Y (.obj .vl (eW c))) (Y (.lst q)) (oN c1) (Y (eW c)) (oN c1) M M M M) (by rw[vc (Dm (c:=c) (q:=q) rfl (Mi rfl) w1)];rfl)]
 case q9=>rw[PR (Hw (SW _) (show aC bd am _=Y [.int 3,.lst nm] from rfl) hst)];rfl
 have A0:=rZ I T1 ž;rw[aK (Jb (pW (ρ':=[AY,Y (.lst nm),Y (.lst q),Y (.lst (gs.map cz)),Y (.int k),Y (cn c),y1,Y (eW c),Y (eW c),Y (.lst q),Y (cn c1),Y (eW c),oN c1,M,M,M,M]) rfl (EG (ET (d:=eW c) rfl rfl (P c)) (EG (ET (d :=.lst q) rfl rfl hq) (JM (d1:=cn c) (d2:=cn c1) rfl rfl A0)))))];have al8:∀vv l:Option D,na vv=Z'->na l=Z'->(eG AY (Y (.lst nm)) (Y (.lst q)) (Y (.lst (gs.map cz))) (Y (.int k)) c y1 (Y (eW c)) vv l (oN c1) (Y (eW c)) (oN c1) M M M M).all na=true:=λvv l hv hl=>by
  simp only[fm,aR,qv]
  and_intros<;>first|assumption|rfl|trivial
 rw[aK (ρ':=eG AY (Y (.lst nm)) (Y (.lst q)) (Y (.lst (gs.map cz))) (Y (.int k)) c y1 (Y (eW c)) (Y (.obj .vl (.tup [.int c.taken,.int c.opened,.lst [],.lst ((c.rests.map LR).map tI)]))) (Y (.lst q)) (oN c1) (Y (eW c)) (oN c1) M M M M) (VU (c:=c) rfl (al8 _ _ rfl rfl))];rw[aK (ρ':=eG AY (Y (.lst nm)) (Y (.lst q)) (Y (.lst (gs.map cz))) (Y (.int k)) c y1 (Y (eW c)) (Y (.obj .vl (AQ c))) (Y (.lst q)) (oN c1) (Y (eW c)) (oN c1) M M M M) (V1 (c:=c) rfl (al8 _ _ rfl rfl) rl.2.1)];rw[aK (ρ':=eB AY (Y (.lst nm)) (Y (.lst q)) (Y (.lst (gs.map cz))) (Y (.int k)) c y1 (Y (eW c)) (Y (.obj .vl (AQ c))) (Y (.lst [])) c1 (Y (eW c)) c1 M) (by rfl)];obtain⟨c',ON,LW,m',y2,w2,e2,ny,nw,I',X',WN,T2',tk',U⟩:=YA W (p0:=AY) (p1:=Y (.lst nm)) (p2:=Y (.lst q)) (p3:=Y (.lst (gs.map cz))) (p4:=Y (.int k)) (h:=Y (eW c)) (vv:=Y (.obj .vl (AQ c))) (l:=Y (.lst [])) (k:=Y (eW c)) (by simp only[fm,aR,qv];and_intros<;>first|assumption|rfl|trivial) (gs.drop k) c c1 c1 m d1 b1 (gd,gb) y1 M I X T1 T1 hr2 ž n1 rfl;have cd:AD (gs.map cz) (Y (k:Int)) M=(gs.drop k).map cz:=by rw[cutD _ _ hk,Pf]
 rw[aK ((Ho (c:=(gs.drop k).map cz) (by show Y (AD (gs.map cz) (Y (k:Int)) M)=_;rw[cd])).trans e2)];rw[aK (ρ':=eG AY (Y (.lst nm)) (Y (.lst q)) (Y (.lst (gs.map cz))) (Y (.int k)) c' y2 (Y (eW c)) (Y (.obj .vl (AQ c))) (Y (.lst [])) (oN ON) (Y (eW c)) (oN LW) w2 (Y (cz (.tx (af "x")))) M M) (by rw[gE (d:=cz (.tx (af "x"))) rfl];rfl)];have tkk:c'.taken=gs.length:=by rw[tk',tk,ld];lia
 obtain⟨pp,npp,e3⟩:=T8 (p0:=AY) (p1:=Y (.lst nm)) (p2:=Y (.lst q)) (p4:=Y (.int k)) (h:=Y (eW c)) (vv:=Y (.obj .vl (AQ c))) (l:=Y (.lst [])) (k:=Y (eW c)) (o2:=oN LW) (w:=w2) (y:=y2) Ym I'.len WN tkk ž;rw[aK e3];have A1:=rZ I' WN ž;have A2:=rZ I' T2' ž;rw[aK (Jb (pW (ρ':=[AY,Y (.lst nm),Y (.lst q),Y (.lst (gs.map cz)),Y (.int k),Y (cn c'),y2,Y (eW c),Y (.obj .vl (AQ c)),Y (.lst []),Y (cn ON),Y (eW c),Y (cn LW),w2,Y (cz (.tx (af "x"))),pp,M]) rfl (EG (ET (d:=eW c) rfl rfl (P c)) (EG (JM (d1:=cn c') (d2:=cn LW) rfl rfl A2) (JM (d1:=cn c') (d2:=cn ON) rfl rfl A1)))))];rw[aK (ρ':=eG AY (Y (.lst nm)) (Y (.lst q)) (Y (.lst (gs.map cz))) (Y (.int k)) c' y2 (Y (eW c)) (Y (.obj .vl (AQ c))) (Y (.lst [])) (oN ON) (Y (eW c)) (oN LW) w2 (Y (cz (.tx (af "x")))) pp (oN c1)) (by rw[vc (Dm (c:=c) (q:=q) rfl rfl w1)];rfl)];obtain⟨c3,F3,T3⟩:=U c1 T1;obtain⟨y3,n3,e4⟩:=abF (x:=c') (p0:=AY) (p1:=Y (.lst nm)) (p2:=Y (.lst q)) (p3:=Y (.lst (gs.map cz))) (p4:=Y (.int k)) (h:=Y (eW c)) (vv:=Y (.obj .vl (AQ c))) (l:=Y (.lst [])) (k:=Y (eW c)) (o1:=oN ON) (o2:=oN LW) (w:=w2) (m:=Y (cz (.tx (af "x")))) (p:=pp) (by simp only[fm,aR,qv];and_intros<;>first|assumption|rfl|trivial) F3 y2 ny;rw[aK ((Ho (c:=(gs.drop k).map cz) (by show Y (AD (gs.map cz) (Y (k:Int)) M)=_;rw[cd])).trans e4)];have A3:=rZ I' T3 ž;unfold dy;rw[lp (d :=.bl Z') (ρ':=[AY,Y (.lst nm),Y (.lst q),Y (.lst (gs.map cz)),Y (.int k),Y (cn c'),y3,Y (eW c),Y (.obj .vl (AQ c)),Y (.lst []),oN ON,Y (eW c),oN LW,w2,Y (cz (.tx (af "x"))),pp,Y (cn c3)]) rfl ?_ rfl]
 .rfl
 .exact V2 (YK (d:=eW c) rfl rfl (P c)) ((JF rfl rfl).trans A3)
end K21
namespace L2
open PySem PySem.Spec PyProof.Rows
section
variable {P:aZ}{w:cC}{K:aG}{mg:aE->Option aq}{base:cy}{x c:aE}{sp:Sp}{f:ax}{fd:cX}{ps:List aE}{n k:Nat}
def ju.m(h:ju P w K mg base x n sp)(hk:autoParam (n<=k) ū):ju P w K mg base x k sp:=h.mono hk
def dU.m(h:dU P w K mg base c x n sp)(hk:autoParam (n<=k) ū):dU P w K mg base c x k sp:=h.mono hk
def uN.m(h:uN P w K mg base c n sp)(hk:autoParam (n<=k) ū):uN P w K mg base c k sp:=h.mono hk
def ju.o(h:ju P w K mg base x n sp)(hk:autoParam (n<=k) Ţ):ju P w K mg base x k sp:=h.mono hk
def dU.o(h:dU P w K mg base c x n sp)(hk:autoParam (n<=k) Ţ):dU P w K mg base c x k sp:=h.mono hk
def bT.or{s1 s2:Sp}(a:bT P w K mg base fX n f fd ps s1)(b:bT P w K mg base fX n f fd ps s2):bT P w K mg base fX n f fd ps (λvs H Q E=>s1 vs H Q E\/s2 vs H Q E):=
 ⟨λvs H Q E h=>h.elim (a.len vs H Q E) (b.len vs H Q E),λA o s H args us vs Q E r e t v h=>h.elim (a.run A o s H args us vs Q E r e t v) (b.run A o s H args us vs Q E r e t v)⟩
def WZ{F:List D->Option D}(e:∀ds,F ds=M):bT P w K mg base fX n f fd ps (iD K F):=by
 constructor
 .rintro vs H Q E ⟨G,ds,d,gh,r,eq,_⟩;rw[e]at eq;cases eq
 .rintro A o s H args us vs Q E hr he hb hv ⟨G,ds,d,gh,r,eq,_⟩;rw[e]at eq;cases eq
def z0T{s:Sk}{F:List D->Option (D×D)}(e:∀ds,F ds=M):bT P w K mg base fX n f fd ps (spT K s F):=by
 constructor
 .rintro vs H Q E ⟨G,t,xs,d,t',a,T,us,_,_,_,_,_,_,eq,_⟩;rw[e]at eq;cases eq
 .rintro A o s H args us vs Q E hr he hb hv ⟨G,t,xs,d,t',a,T,us,_,_,_,_,_,_,eq,_⟩;rw[e]at eq;cases eq
def z0M{F:List D->Option (D×List D)}(e:∀ds,F ds=M):bT P w K mg base fX n f fd ps (AV K 0 F):=by
 constructor
 .rintro vs H Q E ⟨G,ds,d,xs',a,ws,xs,_,_,_,_,_,_,_,_,eq,_⟩;rw[e]at eq;cases eq
 .rintro A o s H args us vs Q E hr he hb hv ⟨G,ds,d,xs',a,ws,xs,_,_,_,_,_,_,_,_,eq,_⟩;rw[e]at eq;cases eq
end
end L2
namespace K21
open PySem L2
def ac{α:Type}{P:α->Prop}{a:α}{l:List α}(h:P a)(t:∀x∈l,P x):∀x∈a::l,P x:=iY.mpr ⟨h,t⟩
abbrev FA(K:aG)(x:aE)(st:nW):Prop:=∃f fd,js K aT x=Y (Y (.ref f))/\gH K x x st f fd
def Zq{K:aG}{x:aE}{st:nW}{f:ax}{od an:Option ax}{sl:Array (Option aq)}{oc kV dc pm cd ct:aq}(a:js K aT x=Y (Y (.ref f)))(l:K.lookup f=Y ⟨oc,od,.func (fnOf x x (mL st) (fx st) (az st) .none kV dc pm an cd ct),sl⟩)(c:codeIn K cd x=Z')(k:pR K (.ref f)=Z'):FA K x st:=⟨f,_,a,Hn l c k⟩
abbrev MA(K:aG)(c m qual:aE)(st:nW):Prop:=∃C f fd,js K aT c=Y (Y (.ref C))/\iJ K (.ref C) m=Y (Y (.ref f))/\PySem.W.isFn K (.ref f)=Z'/\gH K m qual st f fd
def Zn{K:aG}{x:aE}{st:nW}{f:ax}{od an:Option ax}{sl:Array (Option aq)}{oc kV dc pm cd ct:aq}{c0 qual:aE}{C:ax}(aC:js K aT c0=Y (Y (.ref C)))(a:iJ K (.ref C) x=Y (Y (.ref f)))(i:PySem.W.isFn K (.ref f)=Z')(l:K.lookup f=Y ⟨oc,od,.func (fnOf x qual (mL st) (fx st) (az st) .none kV dc pm an cd ct),sl⟩)(c:codeIn K cd qual=Z')(k:pR K (.ref f)=Z'):MA K c0 x qual st:=⟨C,f,_,aC,a,i,Hn l c k⟩
def bk0{us:List aq}(e:us.length=0):us=[]:=by
 rcases us with _|_<;>first|rfl|simp at e
def bk1{us:List aq}(e:us.length=1):∃a,us=[a]:=by
 rcases us with _|⟨_,_|_⟩<;>first|exact⟨_,rfl⟩|simp at e
def bk2{us:List aq}(e:us.length=2):∃a b,us=[a,b]:=by
 rcases us with _|⟨_,_|⟨_,_|_⟩⟩<;>first|exact⟨_,_,rfl⟩|simp at e
def bk3{us:List aq}(e:us.length=3):∃a b c,us=[a,b,c]:=by
 rcases us with _|⟨_,_|⟨_,_|⟨_,_|_⟩⟩⟩<;>first|exact⟨_,_,_,rfl⟩|simp at e
def bk4{us:List aq}(e:us.length=4):∃a b c d,us=[a,b,c,d]:=by
 rcases us with _|⟨_,_|⟨_,_|⟨_,_|⟨_,_|_⟩⟩⟩⟩<;>first|exact⟨_,_,_,_,rfl⟩|simp at e
local macro_rules | `(tactic|walk_at "b") => `(tactic|(intro _ _ _ _ _ _ us hl; (first |obtain ⟨_,e⟩ := bk1 hl |obtain ⟨_,_,e⟩ := bk2 hl |obtain ⟨_,_,_,e⟩ := bk3 hl |obtain ⟨_,_,_,_,e⟩ := bk4 hl |have e := bk0 hl); subst e; rfl))
section
variable {P:aZ}{w:cC}{K:aG}{h base:cy}{mg:aE->Option aq}{x c q:aE}{st:nW}{sp:Sp}{ps:List aE}{n:Nat}{C:ax}
structure EN(P:aZ)(w:cC)(K:aG)(mg:aE->Option aq)(base h:cy):Prop where
 X:K.In h
 G:h.Ns aT mg
abbrev CL(K:aG)(c:aE):Prop:=∃C,js K aT c=Y (Y (.ref C))/\F4 K C/\makesIn K C=Z'/\pR K (.ref C)=Z'
abbrev NA(K:aG)(c f:aE):Prop:=∃C,js K aT c=Y (Y (.ref C))/\qm K C f
def Zu(a:js K aT c=Y (Y (.ref C)))(pg:plainGet K C Str.empty=Z')(hd:oH K C=Z')(po:plainOver K C=Z')(sa:iJ K (.ref C) "__setattr__" = Y (Y (.builtin "object.__setattr__")))(mk:makesIn K C=Z')(kc:pR K (.ref C)=Z'):CL K c:=⟨C,a,⟨pg,hd,po,sa⟩,mk,kc⟩
def Zl(a:js K aT c=Y (Y (.ref C)))(n:iJ K (.ref C) x=Y M):NA K c x:=⟨C,a,n⟩
def ab7(h:CL K c)(n:NA K c x):pQ K c x:=by
 obtain⟨C,a,cl,_,_⟩:=h;obtain⟨C',a',n⟩:=n;intro D e;rw[a]at e a';cases e;cases a';exact⟨cl,n⟩
abbrev BB(x q:aE)(st:nW)(ps:List aE):Prop:=∀(kV RM pm:aq) (an:Option ax) (Ru ct:aq) (us:List aq),us.length=ps.length->bindArgs (fnOf x q (mL st) (fx st) (az st) .none kV RM pm an Ru ct) ⟨us,[]⟩=dn (ps.zip us)
def FA.tK(q:FA K x st)(e:EN P w K mg base h)(o:∀f fd,gH K x x st f fd->bT P w K mg base fX n f fd ps sp)(hb:autoParam (BB x x st ps) ů):ju P w K mg base x n sp:=by
 obtain⟨f,fd,a,F⟩:=q;exact⟨f,fd,ps,o f fd F,JW e.X e.G a,F.kp,F.binds hb⟩
def MA.tj(r:MA K c x q st)(_:EN P w K mg base h)(h:CL K c)(o:∀f fd,gH K x q st f fd->bT P w K mg base fX n f fd ps sp)(hb:autoParam (BB x q st ps) ů):dU P w K mg base c x n sp:=by
 obtain⟨C',f,fd,a',i,j,F⟩:=r;obtain⟨C,a,cl,_,_⟩:=h;rw[a]at a';cases a';exact⟨_,f,fd,ps,a,cl,⟨i,j,F.kp⟩,o f fd F,F.binds hb⟩
def MA.DU(r:MA K c "__init__" q st)(e:EN P w K mg base h)(k:CL K c)(o:∀f fd,gH K "__init__" q st f fd->bT P w K mg base fX n f fd ps sp)(hb:autoParam (BB "__init__" q st ps) ů):uN P w K mg base c n sp:=by
 obtain⟨C',f,fd,a',i,j,F⟩:=r;obtain⟨C,a,cl,m,y⟩:=k;rw[a]at a';cases a';exact⟨_,f,fd,ps,a,JW e.X e.G a,⟨m,i,j,y⟩,o f fd F,F.binds hb⟩
def MA.okX(r:MA K c x q st)(_:EN P w K mg base h)(h:CL K c)(o:∀f fd,gH K x q st f fd->bT P w K mg base (LC P w) n f fd ps sp)(hb:autoParam (BB x q st ps) ů):HP P w K mg base c x n sp:=by
 obtain⟨C',f,fd,a',i,j,F⟩:=r;obtain⟨C,a,cl,_,_⟩:=h;rw[a]at a';cases a';exact⟨_,f,fd,ps,a,cl,⟨i,j,F.kp⟩,o f fd F,F.binds hb⟩
abbrev XQ(K:aG)(C:ax)(x:aE)(b:Bool):Prop:=∃c,js K aT x=Y (Y (.ref c))/\jO K (.ref C) (.ref c)=Y b
structure XA(K:aG)(c:aE)(b1 b2 b3 b4 b5:Bool)(C N:ax):Prop where
 a:js K aT c=some (some (.ref C))
 I:Ze K C
 s:js K aT "SiftError" = some (some (.ref N))
 e:PySem.W.exmOne K (.ref C) (.ref N)=some true
 k:XQ K C "NoSign" b1/\XQ K C "NoText" b2/\XQ K C "NoPart" b3/\XQ K C "Taken" b4/\XQ K C "Late" b5/\XQ K C "SiftError" true/\jO K (.ref C) (.type "ValueError")=some true
def Zc{b:Bool}{d:ax}(a:js K aT x=Y (Y (.ref d)))(k:jO K (.ref C) (.ref d)=Y b):XQ K C x b:=⟨d,a,k⟩
def Zg{N:ax}{b1 b2 b3 b4 b5:Bool}(a:js K aT c=Y (Y (.ref C)))(s:js K aT "SiftError" = Y (Y (.ref N)))(e:PySem.W.exmOne K (.ref C) (.ref N)=Y Z')(hd:oH K C=Z')(ga:iJ K (.ref C) "__getattribute__" = Y (Y (.builtin "BaseException.__getattribute__")))(gt:iJ K (.ref C) "__getattr__" = Y M)(mb:PySem.W.mroIn K C (.type "BaseException")=Y Z')
  (ha:iJ K (.ref C) "__class__" = Y (Y (.builtin "object.__class__"))) (hn:PySem.W.specialIn K (.builtin "object.__class__") "__get__" = Y (Y (.builtin "getset_descriptor.__get__"))) (ht:PySem.W.takesIn K (.builtin "object.__class__")=Y Z') (hm:PySem.W.mroIn K C (.type "object")=Y Z')
  (q:XQ K C "NoSign" b1/\XQ K C "NoText" b2/\XQ K C "NoPart" b3/\XQ K C "Taken" b4/\XQ K C "Late" b5/\XQ K C "SiftError" Z'/\jO K (.ref C) (.type "ValueError")=Y Z'):XA K c b1 b2 b3 b4 b5 C N:=
 ⟨a,⟨⟨ga,gt,mb⟩,hd,ha,hn,ht,hm⟩,s,e,q⟩
def XA.ask{N:ax}{b1 b2 b3 b4 b5:Bool}(x:XA K c b1 b2 b3 b4 b5 C N)(X:K.In h)(G:h.Ns aT mg):Zf K mg C b1 b2 b3 b4 b5:=by
 obtain⟨⟨_,a1,k1⟩,⟨_,a2,k2⟩,⟨_,a3,k3⟩,⟨_,a4,k4⟩,⟨_,a5,k5⟩,⟨_,a6,k6⟩,k7⟩:=x.k;exact⟨x.I,⟨_,JW X G a1,k1⟩,⟨_,JW X G a2,k2⟩,⟨_,JW X G a3,k3⟩,⟨_,JW X G a4,k4⟩,⟨_,JW X G a5,k5⟩,⟨_,JW X G a6,k6⟩,k7⟩
structure XN(K:aG)(C f:ax)(fd:cX):Prop where
 M:WL K C f
 T:RG K C "at"
 G:OX K C "at"
 F:gH K "__init__" "NoSign.__init__" oZ f fd
 e:PySem.W.exmOne K (.ref C) (.ref C)=some true
def Zd{N f:ax}{od an:Option ax}{sl:Array (Option aq)}{oc kV dc pm cd ct:aq}(x:XA K "NoSign" Z' Z_ Z_ Z_ Z_ C N)(i:iJ K (.ref C) "__init__" = Y (Y (.ref f)))(e:Dl K C (Y (.ref f))=Z')(ty:PySem.W.typeIn K (.ref f)=Y (.type "function"))(l:K.lookup f=Y ⟨oc,od,.func (fnOf "__init__" "NoSign.__init__" (mL oZ) (fx oZ) (az oZ) .none kV dc pm an cd ct),sl⟩)(c:codeIn K cd "NoSign.__init__" = Z')(k:pR K (.ref f)=Z')
  (sa:iJ K (.ref C) "__setattr__" = Y (Y (.builtin "object.__setattr__"))) (po:yJ K C=Z') (tk:Pb K C "at" = Y M) (na:iJ K (.ref C) "at" = Y M) (kp:pR K (.ref C)=Z') (ee:PySem.W.exmOne K (.ref C) (.ref C)=Y Z'):∃C N f fd,XA K "NoSign" Z' Z_ Z_ Z_ Z_ C N/\XN K C f fd:=
 ⟨C,N,f,_,x,S9 e ty kp,⟨sa,po,tk,x.I.hd⟩,⟨x.I.pg,x.I.hd,na⟩,Hn l c k,ee⟩
end
structure QF(K:aG):Prop where
 Bd:FA K "joined_asks" ng
 z7:FA K "copied" sj
 tU:FA K "copied_wish" kH
 Jj:FA K "meets" u_
 z8:FA K "can_hold" kz
 Hx:FA K "can_come" qZ
 K8:FA K "top_row" ub
 Dk:FA K "able_steps" oK
 QV:FA K "woken" yZ
 YH:FA K "_law_mix" GD
 QZ:FA K "_law_cells" va
 QX:FA K "_law_names" u9
 QW:FA K "_law_signs" y0
 QY:FA K "_law_depth" qY
 YG:FA K "_law_pop" GC
 N9:FA K "_law_wish" yr
 Dj:FA K "_law_steps" u7
 K_:FA K "_law_cell_at" ud
 yH:FA K "_law_again" nh
 Q0:FA K "_law_alike" y6
 Vy:FA K "_law_only" yt
 K9:FA K "_law_refused" uc
 YI:FA K "law" wo
structure QM(K:aG):Prop where
 yb:MA K "Facts" "new_bit" "Facts.new_bit" lB
 uv:MA K "Facts" "enter_step" "Facts.enter_step" jS
 A_:MA K "Facts" "enter" "Facts.enter" ni
 uu:MA K "Facts" "enter_text" "Facts.enter_text" jR
 CV:MA K "Facts" "lead" "Facts.lead" oM
 tN:MA K "Facts" "asked" "Facts.asked" kI
 oj:MA K "Facts" "enter_has" "Facts.enter_has" iO
 wL:MA K "Facts" "__init__" "Facts.__init__" jk
 vp:MA K "Facts" "steps_for" "Facts.steps_for" kg
 vo:MA K "Facts" "text_fact" "Facts.text_fact" kf
 zG:MA K "Facts" "lifted" "Facts.lifted" l'
 yc:MA K "Facts" "fitting" "Facts.fitting" lC
 zD:MA K "Row" "__init__" "Row.__init__" l7
 vq:MA K "Coming" "__init__" "Coming.__init__" kh
 wM:MA K "Coming" "gone_on" "Coming.gone_on" kJ
 uw:MA K "Coming" "moved_out" "Coming.moved_out" jT
 ux:MA K "Coming" "has_ended" "Coming.has_ended" jU
 zH:MA K "Coming" "waits" "Coming.waits" j_
 uy:MA K "Coming" "begin_row" "Coming.begin_row" jV
 yd:MA K "Coming" "spread" "Coming.spread" lD
 uz:MA K "Coming" "add_atoms" "Coming.add_atoms" jW
 ye:MA K "Coming" "settle" "Coming.settle" lE
 tu:MA K "Coming" "newly_told" "Coming.newly_told" jw
 wN:MA K "Coming" "end_row" "Coming.end_row" kL
 tO:MA K "Coming" "feed" "Coming.feed" kK
 ya:MA K "Lean" "__init__" "Lean.__init__" lA
 xK:MA K "Lean" "take" "Lean.take" mC
 zE:MA K "Lean" "waiting" "Lean.waiting" l9
 zF:MA K "Lean" "is_over" "Lean.is_over" l_
 tL:MA K "Lean" "asleep" "Lean.asleep" ip
def V9{l:PySem.W.OpenLaw}{w:cC}{K:aG}{h:cy}{mg:aE->Option aq}{fa:ax}(X:K.In h)(G:h.Ns aT mg)(hfa:mg "law" = Y (.ref fa))(c:CL K "Coming" /\CL K "Facts" /\CL K "Row" /\CL K "Lean")(n:∀p∈KL,NA K p.1 p.2)(z:∀x∈ZL,js K aT x=Y M)(q:QF K)(r:QM K)(x:∃C N f fd,XA K "NoSign" Z' Z_ Z_ Z_ Z_ C N/\XN K C f fd):
  ∃fd:cX,(∀(s:aw) (v:aq),LQ s fd ⟨[v],[]⟩ [("_law_script",v)])/\∀base:cy,K.In base->base.Ns aT mg->bT l.prog w K mg base fX 100 fa fd ["_law_script"] (iD K FY):=by
 obtain⟨a1,a0,a7,a9⟩:=c;obtain⟨fL,fdL,aL,FL⟩:=q.YI;obtain⟨C,N,fI,YD,x,xn⟩:=x;have e:=hfa.symm.trans (JW X G aL);cases e;have k:KS K mg:=⟨λp h=>ab7 (by rcases(show ∀p∈KL,p.1 = "Coming" \/p.1 = "Facts" \/p.1 = "Row" \/p.1 = "Lean" by decide +kernel) p h with e|e|e|e<;>rw[e]<;>assumption) (n p h),λx h=>mg_none_of X G (z x h)⟩
 obtain⟨oc,od,kV,RM,pm,an,Ru,ct,ZH,rfl,_⟩:=FL.ex;refine⟨fnOf "law" "law" (mL wo) (fx wo) (az wo) .none kV RM pm an Ru ct,λs v =>.of_eq rfl,λbase d d =>?_⟩;have e:EN l.prog w K mg base h:=⟨X,G⟩;have n1:=q.Bd.tK e λd d F=>zl F
 have n2:∀n,ju l.prog w K mg base "copied" (n+0) (iD K (iA n))/\ju l.prog w K mg base "copied_wish" (n+0) (iD K (cI n)):=λn=>by
  induction n with
  |zero=>exact⟨q.z7.tK (ps:=["steps"]) e λd d d=>WZ λd=>rfl,q.tU.tK (ps:=["wish"]) e λd d d=>WZ λd=>rfl⟩
  |succ n ih=>obtain⟨b2,c7⟩:=ih;exact⟨q.z7.tK e λd d F=>(KA F c7).mono ž,q.tU.tK e λd d F=>(zm F b2 c7).mono ž⟩
 have b2:ju _ _ _ _ _ "copied" 12 (GH K sS):=q.z7.tK e λd d F=>GY (n:=11) F (n2 11).2
 have n3:∀n,ju l.prog w K mg base "meets" (n+0) (iD K (k9 n)):=λn=>by
  induction n with
  |zero=>exact q.Jj.tK (ps:=["ask","atoms"]) e λd d d=>WZ λd=>rfl
  |succ n b0=>exact q.Jj.tK e λd d F=>(Nk F k b0).mono ž
 have b0:ju _ _ _ _ _ "meets" 12 (iD K sR):=(n3 12);have n4:∀n,ju l.prog w K mg base "can_hold" (n+0) (iD K (gm n)):=λn=>by
  induction n with
  |zero=>exact q.z8.tK (ps:=["wish"]) e λd d d=>WZ λd=>rfl
  |succ n b3=>exact q.z8.tK e λd d F=>(EI F k b3).mono ž
 have b3:ju _ _ _ _ _ "can_hold" 12 (iD K nS):=(n4 12);have c8:=q.Hx.tK e λd d F=>EJ F
 have c9:=r.yb.tj e a0 λd d F=>wG F k
 have n5:=r.uv.tj e a0 λd d F=>sZ F k c9.m
 have d0:=r.A_.tj e a0 λd d F=>zp F n5.m
 have n6:=r.uu.tj e a0 λd d F=>sY F k c9.m
 have n7:=r.CV.tj e a0 λd d F=>A5 F k
 have n8:∀n,dU l.prog w K mg base "Facts" "asked" (n+3) (spT K aA (cJ n))/\dU l.prog w K mg base "Facts" "enter_has" (n+3) (spT K aA (cD n)):=λn=>by
  induction n with
  |zero=>exact⟨r.tN.tj (ps:=["self","wish"]) e a0 λd d d=>z0T λd=>rfl,r.oj.tj (ps:=["self","steps"]) e a0 λd d d=>z0T λd=>rfl⟩
  |succ n ih=>obtain⟨b1,n9⟩:=ih;exact⟨r.tN.tj e a0 λd d F=>(zq F n6.o n9 b1 n1.o).mono ž,r.oj.tj e a0 λd d F=>(um F d0.o n7.o b1).mono ž⟩
 have b1:dU _ _ _ _ _ "Facts" "asked" 15 (spT K aA lM):=(n8 12).1;have o0:=r.wL.DU e a0 λd d F=>vj F k b2.m d0.m b1.m
 have o1:=r.vp.tj e a0 λd d F=>uk F k
 have o2:=r.vo.tj e a0 λd d F=>uj F k
 have o3:=r.zG.tj e a0 λd d F=>x8 F k b0.m
 have d1:=r.yc.tj e a0 λd d F=>wH F k b0.m
 have d2:=r.zD.DU e a7 λd d F=>x3 F k
 have o4:=q.K8.tK e λd d F=>GW F k d2.m
 have o5:=q.Dk.tK e λd d F=>A4 F k b3.m
 have d3:=r.vq.DU e a1 λd d F=>uo F k o0.m o5.m o4.m
 have d4:=r.wM.tj e a1 λd d F=>vk F k
 have o6:=r.uw.tj e a1 λd d F=>s_ F k
 have o7:=r.ux.tj e a1 λd d F=>tb F k
 have o8:=r.zH.tj e a1 λd d F=>x9 F k
 have o9:=r.uy.tj e a1 λd d F=>td F k d2.m d1.m d4.m
 have d5:=r.yd.tj e a1 λd d F=>wI F k d1.m o3.m
 have p0:=r.uz.tj e a1 λd d F=>tf F k d5.m
 have p7:=r.ye.tj e a1 λd d F=>wJ F k d4.m
 have p8:=r.tu.tj e a1 λd d F=>rB F k p7.m
 have p9:=r.wN.tj e a1 λd d F=>vm F k o6.m
 have d6:=r.tO.tj e a1 λd d F=>zr F k c8.m p9.m o9.m d5.m p0.m p8.m o1.m o2.m
 have q0:=r.ya.DU e a9 λd d F=>wF F k d3.m
 have q1:=r.xK.tj e a9 λd d F=>CP F k d6.m
 have q3:=r.zE.tj e a9 λd d F=>x5 F k o8.m
 have d8:=r.zF.tj e a9 λd d F=>x6 F k o7.m
 have s1:=r.tL.tj e a9 λd d F=>zo F k
 have s2:=r.tL.tj e a9 λd d F=>G7 F k
 have s3:dU _ _ _ _ _ "Coming" "settle" 62 (spT K aB pO):=p7.toT;have s4:=q.QV.tK e λd d F=>Nd F k q0.m o9.m s3.m
 have q4:=q.YH.tK e λd d F=>UE F
 have e0:=q.QZ.tK e λd d F=>Nn F k q4.m
 have q5:=q.QX.tK e λd d F=>Nj F k e0.m
 have q6:=q.QW.tK e λd d F=>Nh F k
 have q7:=q.QY.tK e λd d F=>Nm F k
 have e1:=q.YG.tK e λd d F=>UD F
 have q8:∀n,ju l.prog w K mg base "_law_wish" (n+1) (AV K 0 (gi n))/\ju l.prog w K mg base "_law_steps" (n+1) (AV K 0 (fW n)):=λn=>by
  induction n with
  |zero=>exact⟨q.N9.tK (ps:=["_law_draws","_law_deep","_law_some"]) e λd d d=>z0M λd=>rfl,q.Dj.tK (ps:=["_law_draws","_law_deep","_law_some"]) e λd d d=>z0M λd=>rfl⟩
  |succ n ih=>obtain⟨e2,b4⟩:=ih;exact⟨q.N9.tK e λd d F=>(Qr F k e1.o b4 e2).mono ž,q.Dj.tK e λd d F=>(Ng F k e1.o e2).mono ž⟩
 have b4:ju _ _ _ _ _ "_law_steps" 13 (AV K 0 sP):=(q8 12).2;have b6:ju _ _ _ _ _ "_law_steps" 13 (GI K se):=q.Dj.tK e λd d F=>Kz (n:=11) F k e1.m (q8 11).1
 have r0:=q.K_.tK e λd d F=>GZ F k
 have t1:∀n,ju l.prog w K mg base "_law_again" (n+0) (iD K (i8 n)):=λn=>by
  induction n with
  |zero=>exact q.yH.tK (ps:=["_law_value"]) e λd d d=>WZ λd=>rfl
  |succ n b0=>exact q.yH.tK e λd d F=>(EK F k.y k.y k.y k.y b0).mono ž
 have t2:ju _ _ _ _ _ "_law_again" 12 (iD K mM):=t1 12;have t3:=q.yH.tK e λd d F=>bT.or (n:=13) ((EK (n:=11) F k.y k.y k.y k.y (t1 11)).mono ſ) (KD F k t2)
 have t4:=q.yH.tK e λd d F=>KC F k t3
 have t5:=q.Q0.tK e λd d F=>Np F q3.m d8.m s1.m
 have A7:=x.ask X G;have y:OkX l.prog w K mg base "NoSign" 60:=⟨C,fI,YD,x.a,JW X G x.a,xn.M,(Ni xn.F xn.T).mono ſ,xn.F.binds (by walk_at "b")⟩;have r1:=r.tO.okX e a1 λd d F=>Nl F k c8.m y
 have r2:=r.xK.okX e a9 λd d F=>Nf F k r1
 obtain⟨fO,fdO,aO,FO⟩:=q.Vy;have mO:=JW X G aO;have bO:Binds K fdO ["_law_error","_law_which"] []:=FO.binds (by walk_at "b");have r4:=q.K9.tK e λd d F=>GX F (r2.mono ſ) xn.e (JW X G x.a) x.a xn.G (Qs FO k A7 λd d d=>rfl) mO FO.kp bO
 exact UG FL k q5.m b4.m e0.m q6.m q4.m r0.m q0.m q1.m s2.m t4.m b6.m s4.m t5.m q7.m r4.m
def walk{l:PySem.W.OpenLaw}{q:aZ}{Zw:List aE}{XP:(aE->Option aq)->cy->Prop}{YP:cC->cy->Prop}{d:DefRec}{K:Params->aG}(hn:l.most=Y 63)(hdf:d.params.defaults=[])
  (hY:∀(w:cC) (h:cy),YP w h->(K w.params).In h)
  (F:∀(w:cC) (mg:aE->Option aq) (fa:ax) (h:cy),(K w.params).In h->h.Ns aT mg->mg d.name=Y (.ref fa) ->
   ∃fd:cX,(∀(s:aw) (u:aq),LQ s fd ⟨[u],[]⟩ [("_law_script",u)])/\∀base:cy,(K w.params).In base->base.Ns aT mg->bT l.prog w (K w.params) mg base fX 100 fa fd ["_law_script"] (iD (K w.params) FY)) :
  PySem.W.WalkO q Zw XP YP l.row.toRowW d [] (λf vs=>PySem.call f vs):=
 L2.Ma (n:=63) (k:=100) (x:= "_law_script") (CX:=fX) (sp:=λK=>iD K FY) hn ſ hdf ⟨rfl,ſ,ſ⟩ hY F (λK H a ns hl hO hS=>U0 NJ K H a ns hl hO hS) λb b b b z=>z
end K21
open PySem PySem.W PyProof.Rows
local macro_rules | `(command|#where) => do return Lean.mkNullNode (←((List.range' 43 619).map (s!"o_{·}")++"heap_39 heap_46 heap_662 sts_108 sts_123 sts_138 sts_153 sts_245 sts_281 sts_304 sts_485 sts_49 sts_501 sts_557 sts_639 sts_64 sts_86 tree_107 tree_122 tree_137 tree_152 tree_244 tree_280 tree_303 tree_401 tree_481 tree_500 tree_556 tree_63 tree_638 tree_661 tree_85 view_39".splitOn " ").toArray.mapM fun x=>let n:=Lean.mkIdent (.str `PySem.W.Fast s!"tw{Lean.Name.hash (.str `PySem.Challenge.cw_earlysift_k24_whole_woken_goes_on_alike_holds x)}");`(command|theorem $n : True:=⟨⟩))
#where
theorem PySem.W.Fast.tw7645605052420403005:True:=⟨⟩
set_option tactic.hygienic true in
set_option maxRecDepth 100000 in
set_option maxHeartbeats 0 in
theorem PySem.Challenge.cw_earlysift_k24_whole_woken_goes_on_alike_holds : PySem.Challenge.rw_earlysift_k24_whole_woken_goes_on_alike.Holds := by
  w_on; o_law; k_head; (case hw => w_witness2)
  k_fill
  refine K21.walk (l := PySem.Challenge.rw_earlysift_k24_whole_woken_goes_on_alike) rfl rfl (λw h y => PySem.W.kIn_of y) ?F
  case F =>
    intro w mg fa h KX G hmg
    refine' K21.V9 KX G hmg ?p1 ?p2 ?p3 ?p4 ?p5 ?p6
    (case p1 => and_intros <;> exact K21.Zu (by k_is) (by k_is) (by k_is) (by k_is) (by k_is) (by k_is) (by k_is))
    (case p2 => repeat' first |refine K21.ac (by dsimp only; exact K21.Zl (by k_is) (by k_is)) ?_ |exact nofun)
    (case p3 => repeat' first |refine K21.ac (by k_is) ?_ |exact nofun)
    (case p4 => constructor <;> exact K21.Zq (by k_is) (by k_is) (by k_is) (by k_is))
    (case p5 => constructor <;> exact K21.Zn (by k_is) (by k_is) (by k_is) (by k_is) (by k_is) (by k_is))
    (case p6 => exact K21.Zd (K21.Zg (by k_is) (by k_is) (by kernel_rfl) (by k_is) (by k_is) (by k_is) (by k_is) (by k_is) (by k_is) (by k_is) (by k_is) (by and_intros <;> first |kit_is |exact K21.Zc (by k_is) (by kit_is))) (by k_is) (by kernel_rfl) (by k_is) (by k_is) (by k_is) (by k_is) (by k_is) (by kernel_rfl) (by k_is) (by k_is) (by k_is) (by kernel_rfl))
